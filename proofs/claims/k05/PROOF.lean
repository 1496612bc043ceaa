import PyProof.Rows.All
import Wide.All
import OpenK.AllK
import Wide.FinOn
import HandS.ForMost
import HandS.Wide
import HandS.TupAny
import HandS.TupMul
import HandS.Zip
import KE.GoesEnum
import HandS.IsInst
import HandS.Conv
import HandS.Flow
import HandS.Style
import HandS.Rev
import HandS.AnyAll
import KE.KeyNested
import KE.KDictKeyed
import HandS.EndBits
import HandS.GenList
import HandS.Nested
import HandS.EndTab
import HandS.SetFor
import HandS.Strs
import HandS.SortInts
import HandS.TupSets
import HandS.SortOrd
import HandS.SortRule
import HandS.NamedTupSort
import HandS.Iter
import PyProof.AutoSeq1
import HandS.Deep
import PySem.Challenge.RW_swapsums_k05_what_is_told_of_a_shape
set_option Elab.async false
set_option linter.all false
set_option maxRecDepth 100000
/-! tuples that are laid with their very object, so that it is known that they have no dict -/
namespace PySem
/-- enumerate(v) lays two objects, whatever begins -/
theorem enum1_meets {v : Value} {ob : Obj} {Φ : Heap → Prop} (B : Begins v ob Φ) :
    Meets (Builtin.«enumerate.__new__» ⟨[.type "enumerate", v], []⟩) (fun _ R s => Φ s.heap ∧ R (.ok (.ret (.ref (s.heap.push ob).objs.size)))
      { s with heap := (s.heap.push ob).push { cls := .type "enumerate", data := .fields #[.none, .bool false, .ref s.heap.objs.size, rawInt 0, .none, .none] } }) :=
  .of_wp fun prog w A R s hyp => by
    obtain ⟨hp, g, d, tk, os⟩ := s; obtain ⟨hΦ, hyp⟩ := hyp
    have hsub := sub_enumerate
    have begun : ∀ {A1 : Around} {E1 : Value → Shared → Prop} {Q1 : Value → Shared → Prop}, Q1 (.ref hp.objs.size) ⟨hp.push ob, g, d, tk, os⟩ → wpAny (model prog w) A1 (pyIter v) Q1 E1 ⟨hp, g, d, tk, os⟩ := fun q => B.iter prog w _ _ ⟨hp, g, d, tk, os⟩ _ hΦ q
    wp_walk using begun
    refine wpAny_stack_any fun st => wpAny_pure ?_
    split
    · rename_i c _ _ _ _ _
      cases (c == Value.type "enumerate") <;> (wp_walk using begun; exact ⟨_, rfl, hyp⟩)
    · wp_walk using begun; exact ⟨_, rfl, hyp⟩
theorem enum1_call {prog : Program} {w : World} {A : Around} {E : Value → Shared → Prop} {s : Shared} {v : Value} {ob : Obj} {Φ : Heap → Prop} {Q : Value → Shared → Prop} (B : Begins v ob Φ) (hΦ : Φ s.heap)
    (k : ∀ h', IsEnum h' (s.heap.objs.size + 1) s.heap.objs.size 0 .none → h'.get? s.heap.objs.size = some ob → (∀ b o, s.heap.get? b = some o → h'.get? b = some o) → Q (.ref (s.heap.objs.size + 1)) { s with heap := h' }) :
    wpAny (model prog w) A (call (.type "enumerate") [v]) Q E s := by
  refine callType_new F.called_enumerate (by decide) (F.typeCall_enumerate_1 v) (F.newCall_enumerate_1 v) (fun obj => F.args_object_init_2 obj v) F.entry_enumerate_new (enum1_meets B) ⟨hΦ, ?_⟩
  have hz : (s.heap.push ob).objs.size = s.heap.objs.size + 1 := Heap.size_push ..
  have he := Heap.get?_push_size (s.heap.push ob) (o := { cls := .type "enumerate", data := .fields #[.none, .bool false, .ref s.heap.objs.size, rawInt 0, .none, .none] }) rfl
  show _ ∧ _
  rw [hz] at he ⊢
  exact ⟨⟨_, he, rfl⟩, k _ he (Heap.get?_push_of_some _ (Heap.get?_push_size _ B.free)) fun b o x => Heap.get?_push_of_some _ (Heap.get?_push_of_some _ x)⟩
end PySem
namespace DK
open PySem PySem.Spec PyProof.Rows L2
def tupO (its : List Value) : Obj := { cls := .type "tuple", data := .seq its.toArray }
/-- what a rule asks of its end where a new tuple is handed over -/
def NewT (H : Hp) (xs : List V) (Q : VK) : Prop := ∀ (p : Addr) (o : Obj), o.dict = none → H p = none → Q (.ref p) (upd H p (.frz o (.tup xs)))
section
variable {X : Cx} {pins : List (Addr × Obj)} {σ : L2.St} {H : Hp} {s : Shared} {xs : List V} {its : List Value} {Q : VK}
theorem laidT (I : Inv X pins σ H s) (r : Vals xs its) (hz : xs.length ≤ sizeLine) : Inv X pins σ (upd H s.heap.objs.size (.frz (tupO its) (.tup xs))) { s with heap := s.heap.push (tupO its) } :=
  I.laid (t' := s.toks) (fun b u e => Heap.get?_push_of_some _ e) (Nat.le_refl _) ⟨Heap.get?_push_size _ rfl, hz, its, r, IsTup.new _ _⟩
theorem endT (I : Inv X pins σ H s) (r : Vals xs its) (hz : xs.length ≤ sizeLine) (q : NewT H xs Q) : EP X pins σ Q (.ref s.heap.objs.size) { s with heap := s.heap.push (tupO its) } :=
  ⟨.ref s.heap.objs.size, _, laidT I r hz, rfl, q _ _ rfl (I.hok.fresh (Nat.le_refl _))⟩
end
/-! ### (a, b, ..) -/
def tTupF (t : TA) : TE := fun σ H Q => t σ H fun xs H1 => xs.length ≤ sizeLine ∧ NewT H1 xs Q
theorem pe_tupF {X : Cx} {es : List Expr} {t : TA} {pos : Pos} {x1} (h : PA X es t) : PE X (.Tuple es x1 pos) (tTupF t) :=
  ⟨fun pins s σ H Q I hq => wpAny_Tuple_spliced (thn (h.run pos pins s σ H _ I hq) fun us s1 ⟨xs, H1, I1, r, z, q⟩ => ⟨by rw [← r.length]; exact z, endT I1 r z q⟩)⟩
/-! ### t + u -/
def rCatF (K : PySem.W.Frag) : R2 := fun x y H Q => ∃ a b xs ys, x = .ref a ∧ y = .ref b ∧ SqT K H a xs ∧ SqT K H b ys ∧ xs.length + ys.length ≤ sizeLine ∧ (xs = [] → Q (.ref b) H) ∧ (xs ≠ [] → ys = [] → Q (.ref a) H) ∧ (xs ≠ [] → ys ≠ [] → NewT H (xs ++ ys) Q)
theorem op_catF {X : Cx} : OpR X (binaryOp .Add) (rCatF X.K) := by
  intro pins s σ H x y v u Q I rx ry ⟨a, b, xs, ys, ex, ey, ha, hb, hz, q0, q1, q2⟩
  subst ex ey
  cases rx
  cases ry
  obtain ⟨its, r1, p1, _⟩ := I.tuple ha
  obtain ⟨its2, r2, p2, _⟩ := I.tuple hb
  by_cases hx : xs = []
  · subst hx
    cases r1
    exact cat_tup0 p1 p2 ⟨.ref b, H, I, rfl, q0 rfl⟩
  · exact HT.cat_tup p1 p2 (fun z => hx (r1.nil_iff.mp z)) (fun z => ⟨.ref a, H, I, rfl, q1 hx (r2.nil_iff.mp z)⟩) (fun z => endT I (r1.append r2) (by rw [List.length_append]; exact hz) (q2 hx fun w => z (r2.nil_iff.mpr w))) (by rw [← r1.length, ← r2.length]; exact hz)
/-! ### tuple(x) -/
theorem call_tupleF {X : Cx} : CallR X (.type "tuple") (fun xs H Q => ∃ p ys, xs = [.ref p] ∧ ((SqL X.K H p ys ∧ NewT H ys Q) ∨ (SqT X.K H p ys ∧ Q (.ref p) H))) := by
  intro pins s σ H xs us Q I r ⟨p, ys, ex, h⟩
  subst ex
  rw [Vals.ref1 r]
  rcases h with ⟨hq, q⟩ | ⟨hq, q⟩
  · obtain ⟨its, rv, pl, hz⟩ := I.list hq
    have hl := rv.length
    refine call_tuple_list pl.isList (fun h' kp => endT (I.kept (t' := s.toks) kp) rv hz q) (by simp only [List.size_toArray] <;> omega)
  · obtain ⟨its, _, pl, _⟩ := I.tuple hq
    exact call_tuple_same pl ⟨.ref p, H, I, rfl, q⟩
/-! ### t[lo:hi] -/
def rSlF (K : PySem.W.Frag) : V → Option Int → Option Int → Hp → VK → Prop := fun x lo hi H Q => ∃ a xs, x = .ref a ∧ SqT K H a xs ∧
  (HT.sIx xs.length 0 lo = 0 ∧ HT.sIx xs.length xs.length hi = xs.length → Q (.ref a) H) ∧ (¬ (HT.sIx xs.length 0 lo = 0 ∧ HT.sIx xs.length xs.length hi = xs.length) → NewT H (cutV xs lo hi) Q)
theorem sl_tupF {X : Cx} : SlR X (rSlF X.K) := by
  intro pins s σ H x v vl vu lo hi sl Q I rx hs pl pu ⟨a, xs, ex, hx, q1, q2⟩
  subst ex
  cases rx
  obtain ⟨its, r, ht, hz⟩ := I.tuple hx
  have hn : its.toArray.size = xs.length := by rw [List.size_toArray]; exact r.length.symm
  refine ⟨"tuple", _, PyProof.Rows.slot_tuple_getitem.lookup, ht.typeIs, ?_⟩
  by_cases hw : HT.sIx xs.length 0 lo = 0 ∧ HT.sIx xs.length xs.length hi = xs.length
  · exact getItem_tuple_whole ht hs pl pu (by rw [hn]; exact hw) ⟨.ref a, H, I, rfl, q1 hw⟩
  · refine HT.getItem_tuple_cut ht hs pl pu (by rw [hn]; exact hw) ?_ (by rw [hn]; exact hz)
    rw [hn]
    exact endT I (xs := cutV xs lo hi) ((r.drop (HT.sIx xs.length 0 lo)).take (HT.sIx xs.length xs.length hi - HT.sIx xs.length 0 lo)) (Nat.le_trans (cutV_length xs lo hi) hz) (q2 hw)
end DK

set_option maxHeartbeats 4000000
namespace DK
open PySem PySem.Spec PyProof.Rows L2
/-! ### t * n -/
section
variable (l : Addr) (items : Array Value) (n : Nat) (dd : Option Addr) (sl : Array (Option Value)) (u : Tok)
theorem mul_one (c0 : items.isEmpty = false) :
    Meets (Builtin.«tuple.__mul__» ⟨[.ref l, .int 1 u], []⟩) (fun _ R s => s.heap.get? l = some { cls := .type "tuple", dict := dd, data := .seq items n, slots := sl } ∧ R (.ok (.ret (.ref l))) s) :=
  .of_wp fun prog w A R s h => by
    obtain ⟨hp, g, d, tk, os⟩ := s
    obtain ⟨hl, h⟩ := h
    have f1 := AutoSeq1.idx_int
    have ht : (Shared.mk hp g d tk os).TypeIs (.ref l) "tuple" := ⟨_, hl, rfl⟩
    have c1 : (items.isEmpty || (1 : Int) == 1) = true := by rw [c0]; rfl
    wp_walk using wpAny_loadPart' hl
    all_goals (first
      | exact ⟨_, rfl, h⟩
      | (refine wpAny_ite_true (decide_eq_true (by rw [c1])) ?_; wp_walk using wpAny_loadPart' hl; all_goals exact ⟨_, rfl, h⟩))
theorem mul_none {x : Int} (c0 : items.isEmpty = false) (hx : x ≤ 0) (hx2 : -(2 ^ 63) ≤ x) :
    Meets (Builtin.«tuple.__mul__» ⟨[.ref l, .int x u], []⟩) (fun _ R s => s.heap.get? l = some { cls := .type "tuple", dict := dd, data := .seq items n, slots := sl } ∧
      R (.ok (.ret (.ref s.heap.objs.size))) { s with heap := s.heap.push (tupO []) }) :=
  .of_wp fun prog w A R s h => by
    obtain ⟨hp, g, d, tk, os⟩ := s
    obtain ⟨hl, h⟩ := h
    have f1 := AutoSeq1.idx_int
    have b0 : (decide (x < -(2 ^ 63)) || decide (x ≥ 2 ^ 63)) = false := by rw [decide_eq_false (by omega), decide_eq_false (by omega)]; rfl
    have b1 : (items.isEmpty || x == 1) = false := by rw [c0, Bool.false_or]; exact beq_eq_false_iff_ne.mpr (by omega)
    have b2 : (decide (x ≤ 0) || items.isEmpty) = true := by rw [decide_eq_true hx]; rfl
    wp_walk using wpAny_loadPart' hl
    repeat (first
      | (refine wpAny_ite_false (decide_eq_false (by rw [b0]; exact Bool.false_ne_true)) ?_; wp_walk using wpAny_loadPart' hl)
      | (refine wpAny_ite_false (decide_eq_false (by rw [b1]; exact Bool.false_ne_true)) ?_; wp_walk using wpAny_loadPart' hl)
      | (refine wpAny_ite_true (decide_eq_true (by rw [b2])) ?_; wp_walk using wpAny_loadPart' hl))
    all_goals exact ⟨_, rfl, h⟩
end
def rRepF (K : PySem.W.Frag) : R2 := fun x y H Q => ∃ l k xs, x = .ref l ∧ y = .int k ∧ SqT K H l xs ∧ xs ≠ [] ∧ -1000 ≤ k ∧ k ≤ 1000 ∧ xs.length ≤ 1000 ∧ (k = 1 → Q (.ref l) H) ∧ (k ≠ 1 → NewT H (List.replicate k.toNat xs).flatten Q)
theorem op_repF {X : Cx} : OpR X (binaryOp .Mult) (rRepF X.K) := by
  intro pins s σ H x y v u Q I rx ry ⟨l, k, xs, ex, ey, hT, hne, k0, k1, hz, q1, q2⟩
  subst ex ey
  cases rx
  obtain ⟨t, rfl⟩ := ry
  obtain ⟨its, r, ⟨⟨cls, dd, data, sl⟩, ho, hc, n, hd⟩, hs⟩ := I.tuple hT
  simp only at hc hd
  subst hc hd
  have hle : its.length = xs.length := r.length.symm
  have hi : its.toArray.isEmpty = false := by
    cases its with
    | nil => exact absurd (List.eq_nil_of_length_eq_zero hle.symm) hne
    | cons a b => rfl
  have go : ∀ {Φ : Around → (Result → Shared → Prop) → Shared → Prop}, True := fun {_} => trivial
  suffices h : wpAny (model X.prog X.w) X.A (call (.builtin "tuple.__mul__") [.ref l, .int k t]) (EP X pins σ Q) X.xe s from
    wpAny_binaryOp_repeat_ref (T := "tuple") (U := "int") (by decide) ⟨_, ho, rfl⟩ (fun s' => typeIs_int s' k t) noFill_tuple_mul F.fills_int_mul F.slot_int_rmul repeat_tuple F.slot_int_index.lookup
      (call_meets F.slot_int_rmul (typeIs_int s k t) F.entry_int_rmul (F.args_int_rmul_2 _ _) (int_rmul_tuple k t l its.toArray n dd sl) ⟨ho, rfl, ⟨_, ho, rfl⟩, h⟩)
  have flen : (List.replicate k.toNat its).flatten.length ≤ sizeLine := by
    rw [PyProof.Rows.lm_len_rep_flat, hle, sizeLine_eq]
    have a1 : k.toNat * xs.length ≤ 1000 * 1000 := Nat.mul_le_mul (by omega) hz
    omega
  have vlen : (List.replicate k.toNat xs).flatten.length ≤ sizeLine := by
    rw [← (r.rep k.toNat).length] at flen
    exact flen
  by_cases h1 : k = 1
  · subst h1
    exact call_meets F.slot_tuple_mul ⟨_, ho, rfl⟩ F.entry_tuple_mul (F.args_tuple_mul_2 _ _) (mul_one l its.toArray n dd sl t hi) ⟨ho, .ref l, H, I, rfl, q1 rfl⟩
  · by_cases h0 : k ≤ 0
    · have e0 : k.toNat = 0 := by omega
      have e1 : (List.replicate k.toNat xs).flatten = [] := by rw [e0]; rfl
      have q3 := q2 h1
      rw [e1] at q3
      exact call_meets F.slot_tuple_mul ⟨_, ho, rfl⟩ F.entry_tuple_mul (F.args_tuple_mul_2 _ _) (mul_none l its.toArray n dd sl t hi h0 (by omega)) ⟨ho, endT (its := []) I .nil (by show 0 ≤ sizeLine; exact Nat.zero_le _) q3⟩
    · have hsz0 : its.toArray.size = xs.length := by rw [List.size_toArray, hle]
      have hm : ((its.toArray.size : Nat) : Int) * k ≤ 1000000 := by
        rw [hsz0]
        have a1 : ((xs.length : Nat) : Int) * k ≤ 1000 * k := Int.mul_le_mul_of_nonneg_right (by omega) (by omega)
        omega
      refine call_meets F.slot_tuple_mul ⟨_, ho, rfl⟩ F.entry_tuple_mul (F.args_tuple_mul_2 _ _) (tuple_mulW l its.toArray n dd sl k t ?_ ?_ ?_ (by omega) ?_ (by rw [size_rep, List.size_toArray]; exact flen)) ⟨ho, ?_⟩
      · rw [decide_eq_false (by omega), decide_eq_false (by omega)]; rfl
      · rw [hi, Bool.false_or]; exact beq_eq_false_iff_ne.mpr h1
      · rw [hi, Bool.or_false]; exact decide_eq_false h0
      · unfold Builtin.Tuple.tupleTooMany
        rw [sizeLine_eq]
        exact decide_eq_false (by omega)
      · rw [size_rep]
        exact endT I (r.rep k.toNat) vlen (q2 h1)
/-! ### pairs that a zip, an enumerate hand out -/
/-- a list (true) or a tuple (false) -/
def Sq (kd : Bool) (K : PySem.W.Frag) (H : Hp) (a : Addr) (xs : List V) : Prop := match kd with
  | true => SqL K H a xs
  | false => SqT K H a xs
def ItAt (kd : Bool) (h : Heap) (it a : Addr) (i : Nat) : Prop := match kd with
  | true => h.IsListIter it a i
  | false => h.IsTupleIter it a i
theorem ItAt.at {kd : Bool} {h h' : Heap} {it a : Addr} {i : Nat} (x : ItAt kd h it a i) (k : ∀ o, h.get? it = some o → h'.get? it = some o) : ItAt kd h' it a i := by
  cases kd
  · exact Heap.IsTupleIter.at x k
  · exact Heap.IsListIter.at x k
theorem ItAt.obj {kd : Bool} {h : Heap} {it a : Addr} {i : Nat} (x : ItAt kd h it a i) : ∃ o, h.get? it = some o ∧ ∀ v, o.data ≠ .cell v := by
  cases kd
  · obtain ⟨o, e, _, d⟩ := (show h.IsTupleIter it a i from x)
    exact ⟨o, e, fun v q => by rw [d] at q; cases q⟩
  · obtain ⟨o, e, _, d⟩ := (show h.IsListIter it a i from x)
    exact ⟨o, e, fun v q => by rw [d] at q; cases q⟩
def prO (u u2 : Value) : Obj := { cls := .type "tuple", data := .seq #[u, u2] }
section
variable {X : Cx} {pins : List (Addr × Obj)} {σ : L2.St} {H : Hp} {s : Shared}
theorem sq_inj (I : Inv X pins σ H s) {kd : Bool} {a : Addr} {xs ys : List V} (h : Sq kd X.K H a xs) (h' : Sq kd X.K H a ys) : xs = ys := by
  cases kd
  · exact I.tuple_inj h h'
  · exact I.list_inj h h'
/-- a pair is laid while records of ours have turned -/
theorem laidP {t' : Nat} {h' : Heap} {ch : List Addr} {x y : V} {u u2 : Value} (I : Inv X pins σ H s) (k : ∀ b o, b ∉ ch → s.heap.get? b = some o → h'.get? b = some o) (hf : ∀ b ∈ ch, FpOk X pins H b) (hT : h'.get? s.heap.objs.size = some (prO u u2)) (r1 : RelV x u) (r2 : RelV y u2) :
    Inv X pins σ (upd H s.heap.objs.size (.frz (prO u u2) (.tup [x, y]))) { s with heap := h', toks := t' } :=
  I.turnedNew k hf (Nat.le_refl _) ⟨hT, by show 2 ≤ sizeLine; decide, [u, u2], .cons r1 (.cons r2 .nil), ⟨_, hT, rfl, _, rfl⟩⟩
end
end DK

set_option maxHeartbeats 4000000
namespace DK
open PySem PySem.Spec PyProof.Rows L2 RZ
/-! ### enumerate -/
def ItE (kd : Bool) (K : PySem.W.Frag) (a : Addr) : It where
  go := fun i H => ∃ (xs : List V) (x : V), Sq kd K H a xs ∧ xs[i]? = some x
  yld := fun i H v H' => ∃ (T : Addr) (o : Obj) (x : V), v = .ref T ∧ o.dict = none ∧ H T = none ∧ H' = upd H T (.frz o (.tup [.int (i : Nat), x])) ∧ ∀ xs, Sq kd K H a xs → xs[i]? = some x
  stop := fun i H => ∃ xs : List V, Sq kd K H a xs ∧ xs.length ≤ i
theorem enum_item {kd : Bool} {X : Cx} {pins : List (Addr × Obj)} {σ : L2.St} {H : Hp} {s : Shared} {E : Value → Shared → Prop} {a e it : Addr} {i : Nat} {old x : Value} {vs : List V} {v : V} {Q : Option Value → Shared → Prop} (I : Inv X pins σ H s) (hh : X.A.handled = none)
    (he : IsEnum s.heap e it (i : Nat) old) (hit : ItAt kd s.heap it a i) (hne : e ≠ it) (hae : a ≠ e) (hai : a ≠ it) (hq : Sq kd X.K H a vs) (hv : vs[i]? = some v)
    (k : ∀ u h' tk, RelV v u → IsEnumOut h' e it ((i : Int) + 1) u s.heap.objs.size → ItAt kd h' it a (i + 1) → h'.get? s.heap.objs.size = some (prO (.int i tk) u) → (∀ b o, b ≠ e → b ≠ it → s.heap.get? b = some o → h'.get? b = some o) →
      Q (some (.ref s.heap.objs.size)) { s with heap := h', toks := tk + 1 }) : wpAny (model X.prog X.w) X.A (pyNext (.ref e)) Q E s := by
  have hin : X.A.in1.handled = none := hh
  have main : ∀ {its : List Value} {St : Nat → Heap → Prop}, Vals vs its → Draws X.prog X.w X.A.in1 it [it, a] its.toArray.size (fun i v => its.toArray[i]? = some v) St → St i s.heap → (∀ h, St (i + 1) h → ItAt kd h it a (i + 1)) → wpAny (model X.prog X.w) X.A (pyNext (.ref e)) Q E s := by
    intro its St rv D st kk
    obtain ⟨u, hu, ru⟩ := rv.get hv
    have hi : i < its.toArray.size := by
      rw [List.size_toArray]
      exact (List.getElem?_eq_some_iff.mp hu).1
    refine wpAny_pyNext_enum_itemD D he st hi hne (by simp [hne, Ne.symm hae]) fun y h' tk hy ho hit' hT _ hk => ?_
    have ey : y = u := Option.some.inj (hy.symm.trans (show its.toArray[i]? = some u by simpa using hu))
    subst ey
    exact k y h' tk ru ho (kk _ hit') hT hk
  cases kd
  · obtain ⟨its, rv, p, _⟩ := I.tuple hq
    exact main rv (Draws.tuple hin it a hai its.toArray) ⟨hit, p⟩ fun h z => z.1
  · obtain ⟨its, rv, p, _⟩ := I.list hq
    exact main rv (Draws.list hin it a hai its.toArray) ⟨hit, p.isList⟩ fun h z => z.1
theorem enum_done {kd : Bool} {X : Cx} {pins : List (Addr × Obj)} {σ : L2.St} {H : Hp} {s : Shared} {E : Value → Shared → Prop} {a e it : Addr} {i : Nat} {old : Value} {vs : List V} {Q : Option Value → Shared → Prop} (I : Inv X pins σ H s) (hh : X.A.handled = none)
    (he : IsEnum s.heap e it (i : Nat) old) (hit : ItAt kd s.heap it a i) (hq : Sq kd X.K H a vs) (hv : vs.length ≤ i) (k : ∀ h', Heap.ExtBut it s.heap h' → Q none { s with heap := h' }) : wpAny (model X.prog X.w) X.A (pyNext (.ref e)) Q E s := by
  unfold pyNext
  refine wpAny_bind (wpAny_attempt (wpAny_callSpecial?_slot (name := Str.ofString "__next__") ⟨_, he, rfl⟩ PySem.F.slot_enumerate_next (wpAny_call_entry PySem.F.slot_enumerate_next ⟨_, he, rfl⟩ PySem.F.entry_enumerate_next ?_ (PySem.F.args_enumerate_next_1 _))))
  show wpAny _ _ (field (.ref e) 2 >>= _) _ _ _
  refine wpAny_bind (wpAny_field he rfl (x := .ref it) rfl ?_)
  have fin : ∀ {h' : Heap} {x : Addr} {Q' : Option Value → Shared → Prop}, True := fun {_ _ _} => trivial
  cases kd
  · obtain ⟨its, rv, p, _⟩ := I.tuple hq
    have hl := rv.length
    refine wpAny_bind (wpAny_nextOf_tuple_end hh hit p (by simp; omega) fun h' x he' ⟨o, ho, hc'⟩ => ?_)
    exact wpAny_bind (wpAny_isInstance (T := "StopIteration") (b := true) ⟨o, ho, hc'⟩ isSubtype_stop (wpAny_pure (k _ he')))
  · obtain ⟨its, rv, p, _⟩ := I.list hq
    have hl := rv.length
    refine wpAny_bind (wpAny_nextOf_list_end hh hit p.isList (by simp; omega) fun h' x he' ⟨o, ho, hc'⟩ => ?_)
    exact wpAny_bind (wpAny_isInstance (T := "StopIteration") (b := true) ⟨o, ho, hc'⟩ isSubtype_stop (wpAny_pure (k _ he')))
theorem turn_enumF {kd : Bool} {P : Program} {w : World} {K : PySem.W.Frag} {elts : List Expr} {kk : Nat} {tpos : Pos} (a e it : Addr) (hae : a ≠ e) (hai : a ≠ it) :
    Turn P w K (.Tuple elts kk tpos) (ItE kd K a) [e, it] e (fun i h => (∃ old, IsEnum h e it ((i : Nat) : Int) old) ∧ ItAt kd h it a i ∧ e ≠ it) where
  mem := by simp
  obj := fun i h ⟨⟨old, he⟩, hi, _⟩ b hb => by
    rcases (show b = e ∨ b = it by simpa using hb) with rfl | rfl
    · exact ⟨_, he, fun v q => nomatch q⟩
    · exact hi.obj
  keep := fun i h h' ⟨⟨old, he⟩, hi, hne⟩ k => ⟨⟨old, k e (by simp) _ he⟩, hi.at fun o q => k it (by simp) o q, hne⟩
  item := by
    intro X hP hw hK hc i pins s σ H E I hf ⟨⟨old, he⟩, hit, hne⟩ ⟨xs, x, hq, hx⟩
    subst hP hw hK
    have hel : e < s.heap.objs.size := Heap.lt_size he
    have hil : it < s.heap.objs.size := by obtain ⟨_, q, _⟩ := hit.obj; exact Heap.lt_size q
    refine enum_item (x := .none) I (I.ok.hd hc) he hit hne hae hai hq hx fun u h' tk ru ho hit' hT hk => ⟨_, rfl, wpAny_letOwnedTupleGo_enum (s := { s with heap := h', toks := tk + 1 }) ho fun h'' he' sb => ?_⟩
    have I1 := laidP (t' := tk + 1) (h' := h'') (ch := [e, it]) (x := .int (i : Nat)) (y := x) (u := .int i tk) (u2 := u) I (fun b ob hb q => (sb.2 b (fun z => hb (by simp [z]))).trans (hk b ob (fun z => hb (by simp [z])) (fun z => hb (by simp [z])) q)) hf ((sb.2 _ (Nat.ne_of_gt hel)).trans hT) ⟨_, rfl⟩ ru
    refine ⟨.ref s.heap.objs.size, _, I1, rfl, ⟨_, _, x, rfl, rfl, I.hok.fresh (Nat.le_refl _), rfl, fun ys hy => by rw [sq_inj I hy hq]; exact hx⟩, ⟨⟨u, ?_⟩, hit'.at fun o q => (sb.2 it (Ne.symm hne)).trans q, hne⟩, fun b hb => ?_⟩
    · rw [show ((i + 1 : Nat) : Int) = (i : Int) + 1 by omega]; exact he'
    · have hb' : b < s.heap.objs.size := by
        rcases (show b = e ∨ b = it by simpa using hb) with rfl | rfl
        · exact hel
        · exact hil
      rw [upd_ne (Nat.ne_of_lt hb')]
      exact (hf b hb).1
  done := by
    intro X hP hw hK hc i pins s σ H E I hf ⟨⟨old, he⟩, hit, hne⟩ ⟨xs, hq, hx⟩
    subst hP hw hK
    obtain ⟨f0, f1, f2, f3, f4, f5⟩ := hf it (by simp)
    exact enum_done I (I.ok.hd hc) he hit hq hx fun h' eb => ⟨rfl, I.turned (t' := s.toks) (fun b o hb q => eb b o hb q) f0 f1 f3 f4 f5⟩
  self := fun A i s Q E ⟨⟨_, he⟩, _⟩ h => wpAny_pyIter_enum he h
def iEnumF (K : PySem.W.Frag) (ta : TA) : TI := fun σ H R => ta σ H fun vs H1 => ∃ (kd : Bool) (a : Addr) (xs : List V), vs = [.ref a] ∧ Sq kd K H1 a xs ∧ R (ItE kd K a) H1
theorem pi_enumF {X : Cx} {e : Expr} {ta : TA} {p pos tpos : Pos} {elts : List Expr} {kk : Nat} (hg : Gl X "enumerate") (hm : X.mg "enumerate" = none) (ha : PA X [e] ta) (hs : starEach [e] X.env = [(false, eval e X.env)] := by rfl) :
    PI X (.Tuple elts kk tpos) (.Call (.Name "enumerate" p) [e] [] pos) (iEnumF X.K ta) := by
  refine ⟨fun pins s σ H R I h => Call_ (ld_blt I hg hm boot_enumerate (PyProof.Rows.callWith_type1 (thn (ha.run pos pins s σ H _ I h) fun us s1 ⟨vs, H1, I1, r1, kd, a, xs, ex, hq, q⟩ => ?_) hs rfl))⟩
  subst ex
  rw [Vals.ref1 r1]
  have fin : ∀ {h' : Heap} {ob : Obj}, a < s1.heap.objs.size → IsEnum h' (s1.heap.objs.size + 1) s1.heap.objs.size 0 .none → h'.get? s1.heap.objs.size = some ob → ItAt kd h' s1.heap.objs.size a 0 → (∀ b o, s1.heap.get? b = some o → h'.get? b = some o) →
      PIE X pins σ (.Tuple elts kk tpos) R (.ref (s1.heap.objs.size + 1)) { s1 with heap := h' } := fun {h' ob} hal he ho hit hk => by
    refine ⟨s1.heap.objs.size + 1, [s1.heap.objs.size + 1, s1.heap.objs.size], _, _, H1, rfl, I1.kept (t' := s1.toks) hk, turn_enumF (kd := kd) a (s1.heap.objs.size + 1) s1.heap.objs.size (Nat.ne_of_lt (Nat.lt_succ_of_lt hal)) (Nat.ne_of_lt hal), ⟨⟨.none, he⟩, hit, Nat.succ_ne_self _⟩, fun b hb => ?_, q⟩
    have hle : s1.heap.objs.size ≤ b := by
      rcases (show b = s1.heap.objs.size + 1 ∨ b = s1.heap.objs.size by simpa using hb) with rfl | rfl <;> omega
    exact I1.fpOk hle (I1.hok.fresh hle)
  cases kd
  · obtain ⟨its, rv, p', _⟩ := I1.tuple hq
    exact enum1_call (begins_tuple a its.toArray) p' fun h' he hit hk => wpAny_pyIter_enum he (fin p'.lt he hit ⟨_, hit, rfl, rfl⟩ hk)
  · obtain ⟨its, rv, p', _⟩ := I1.list hq
    exact enum1_call (begins_list a its.toArray) p'.isList fun h' he hit hk => wpAny_pyIter_enum he (fin p'.lt he hit ⟨_, hit, rfl, rfl⟩ hk)
/-! ### zip of two lists, of two tuples -/
def ItZ (kd : Bool) (K : PySem.W.Frag) (a b : Addr) : It where
  go := fun i H => ∃ (xs ys : List V) (x y : V), Sq kd K H a xs ∧ Sq kd K H b ys ∧ xs[i]? = some x ∧ ys[i]? = some y
  yld := fun i H v H' => ∃ (T : Addr) (o : Obj) (x y : V), v = .ref T ∧ o.dict = none ∧ H T = none ∧ H' = upd H T (.frz o (.tup [x, y])) ∧ (∀ xs, Sq kd K H a xs → xs[i]? = some x) ∧ ∀ ys, Sq kd K H b ys → ys[i]? = some y
  stop := fun i H => ∃ xs ys : List V, Sq kd K H a xs ∧ Sq kd K H b ys ∧ (xs.length ≤ i ∨ ys.length ≤ i)
theorem zip_item {kd : Bool} {X : Cx} {pins : List (Addr × Obj)} {σ : L2.St} {H : Hp} {s : Shared} {E : Value → Shared → Prop} {a b z TI TO i1 i2 : Addr} {i : Nat} {x0 y0 : Value} {vs ws : List V} {v w : V} {Q : Option Value → Shared → Prop} (I : Inv X pins σ H s) (D : ZipApart z TI TO i1 i2 a b)
    (hz : IsZip s.heap z TI TO .none) (hTI : PySem.IsPair s.heap TI (.ref i1) (.ref i2)) (hTO : PySem.IsPair s.heap TO x0 y0) (h1 : ItAt kd s.heap i1 a i) (h2 : ItAt kd s.heap i2 b i) (q1 : Sq kd X.K H a vs) (q2 : Sq kd X.K H b ws) (hv : vs[i]? = some v) (hw : ws[i]? = some w)
    (k : ∀ u u2 h', RelV v u → RelV w u2 → IsZip h' z TI TO (rawInt s.heap.objs.size) → PySem.IsPair h' TO u u2 → ItAt kd h' i1 a (i + 1) → ItAt kd h' i2 b (i + 1) → PySem.IsPair h' s.heap.objs.size u u2 →
      (∀ c o, c ≠ z → c ≠ TO → c ≠ i1 → c ≠ i2 → s.heap.get? c = some o → h'.get? c = some o) → Q (some (.ref s.heap.objs.size)) { s with heap := h' }) : wpAny (model X.prog X.w) X.A (pyNext (.ref z)) Q E s := by
  cases kd
  · obtain ⟨its, rv, p, _⟩ := I.tuple q1
    obtain ⟨its2, rv2, p2, _⟩ := I.tuple q2
    obtain ⟨u, hu, ru⟩ := rv.get hv
    obtain ⟨u2, hu2, ru2⟩ := rv2.get hw
    exact pyNext_zipT_item D hz hTI hTO h1 h2 p p2 (by simpa using hu) (by simpa using hu2) fun h' z' T' a1 a2 hT _ hk => k u u2 h' ru ru2 z' T' a1 a2 hT hk
  · obtain ⟨its, rv, p, _⟩ := I.list q1
    obtain ⟨its2, rv2, p2, _⟩ := I.list q2
    obtain ⟨u, hu, ru⟩ := rv.get hv
    obtain ⟨u2, hu2, ru2⟩ := rv2.get hw
    exact wpAny_pyNext_zip_item D hz hTI hTO h1 h2 p.isList p2.isList (by simpa using hu) (by simpa using hu2) fun h' z' T' a1 a2 hT _ hk => k u u2 h' ru ru2 z' T' a1 a2 hT hk
theorem zip_done {kd : Bool} {X : Cx} {pins : List (Addr × Obj)} {σ : L2.St} {H : Hp} {s : Shared} {E : Value → Shared → Prop} {a b z TI TO i1 i2 : Addr} {i : Nat} {x0 y0 : Value} {vs ws : List V} {Q : Option Value → Shared → Prop} (I : Inv X pins σ H s) (hh : X.A.handled = none) (D : ZipApart z TI TO i1 i2 a b)
    (hz : IsZip s.heap z TI TO .none) (hTI : PySem.IsPair s.heap TI (.ref i1) (.ref i2)) (hTO : PySem.IsPair s.heap TO x0 y0) (h1 : ItAt kd s.heap i1 a i) (h2 : ItAt kd s.heap i2 b i) (q1 : Sq kd X.K H a vs) (q2 : Sq kd X.K H b ws) (he : vs.length ≤ i ∨ ws.length ≤ i)
    (k : ∀ h', (∀ c o, c ≠ z → c ≠ TO → c ≠ i1 → c ≠ i2 → s.heap.get? c = some o → h'.get? c = some o) → Q none { s with heap := h' }) : wpAny (model X.prog X.w) X.A (pyNext (.ref z)) Q E s := by
  have out : ∀ {its its2 : List Value}, Vals vs its → Vals ws its2 → its.toArray[i]? = none ∨ its2.toArray[i]? = none := fun {its its2} r r2 => by
    have l1 := r.length
    have l2 := r2.length
    rcases he with q | q
    · exact .inl (by simp; omega)
    · exact .inr (by simp; omega)
  cases kd
  · obtain ⟨its, rv, p, _⟩ := I.tuple q1
    obtain ⟨its2, rv2, p2, _⟩ := I.tuple q2
    exact pyNext_zipT_end hh D hz hTI hTO h1 h2 p p2 (out rv rv2) k
  · obtain ⟨its, rv, p, _⟩ := I.list q1
    obtain ⟨its2, rv2, p2, _⟩ := I.list q2
    exact wpAny_pyNext_zip_end hh D hz hTI hTO h1 h2 p.isList p2.isList (out rv rv2) k
theorem turn_zipF {kd : Bool} {P : Program} {w : World} {K : PySem.W.Frag} {elts : List Expr} {kk : Nat} {tpos : Pos} {a b z TI TO i1 i2 : Addr} (D : ZipApart z TI TO i1 i2 a b) :
    Turn P w K (.Tuple elts kk tpos) (ItZ kd K a b) [z, TI, TO, i1, i2] z (fun i h => IsZip h z TI TO .none ∧ PySem.IsPair h TI (.ref i1) (.ref i2) ∧ (∃ x y, PySem.IsPair h TO x y) ∧ ItAt kd h i1 a i ∧ ItAt kd h i2 b i) where
  mem := by simp
  obj := fun i h ⟨hz, hTI, ⟨x, y, hTO⟩, h1, h2⟩ c hc => by
    rcases (show c = z ∨ c = TI ∨ c = TO ∨ c = i1 ∨ c = i2 by simpa using hc) with rfl | rfl | rfl | rfl | rfl
    · exact ⟨_, hz, fun v q => nomatch q⟩
    · exact ⟨_, hTI, fun v q => nomatch q⟩
    · exact ⟨_, hTO, fun v q => nomatch q⟩
    · exact h1.obj
    · exact h2.obj
  keep := fun i h h' ⟨hz, hTI, ⟨x, y, hTO⟩, h1, h2⟩ k => ⟨k z (by simp) _ hz, k TI (by simp) _ hTI, ⟨x, y, k TO (by simp) _ hTO⟩, h1.at fun o q => k i1 (by simp) o q, h2.at fun o q => k i2 (by simp) o q⟩
  item := by
    intro X hP hw hK hc i pins s σ H E I hf ⟨hz, hTI, ⟨x0, y0, hTO⟩, h1, h2⟩ ⟨xs, ys, x, y, qx, qy, hx, hy⟩
    subst hP hw hK
    have lt : ∀ c ∈ [z, TI, TO, i1, i2], c < s.heap.objs.size := fun c hcm => by
      rcases (show c = z ∨ c = TI ∨ c = TO ∨ c = i1 ∨ c = i2 by simpa using hcm) with rfl | rfl | rfl | rfl | rfl
      · exact Heap.lt_size hz
      · exact Heap.lt_size hTI
      · exact Heap.lt_size hTO
      · obtain ⟨_, q, _⟩ := h1.obj; exact Heap.lt_size q
      · obtain ⟨_, q, _⟩ := h2.obj; exact Heap.lt_size q
    have zl := lt z (by simp)
    refine zip_item I D hz hTI hTO h1 h2 qx qy hx hy fun u u2 h' ru ru2 z' TO' h1' h2' hT hk => ⟨_, rfl, wpAny_letOwnedTupleGo_zip (s := { s with heap := h' }) z' fun h'' z'' sb => ?_⟩
    have I1 := laidP (t' := s.toks) (h' := h'') (ch := [z, TI, TO, i1, i2]) (x := x) (y := y) (u := u) (u2 := u2) I (fun c o hb q => (sb.2 c (fun q' => hb (by simp [q']))).trans (hk c o (fun q' => hb (by simp [q'])) (fun q' => hb (by simp [q'])) (fun q' => hb (by simp [q'])) (fun q' => hb (by simp [q'])) q)) hf ((sb.2 _ (Nat.ne_of_gt zl)).trans hT) ru ru2
    refine ⟨.ref s.heap.objs.size, _, I1, rfl, ⟨_, _, x, y, rfl, rfl, I.hok.fresh (Nat.le_refl _), rfl, fun l hl => by rw [sq_inj I hl qx]; exact hx, fun l hl => by rw [sq_inj I hl qy]; exact hy⟩, ⟨z'', ?_, ⟨u, u2, ?_⟩, ?_, ?_⟩, fun c hcm => ?_⟩
    · exact (sb.2 _ D.TIz).trans (hk TI _ D.TIz D.TITO D.TIi1 D.TIi2 hTI)
    · exact (sb.2 _ D.TOz).trans TO'
    · exact h1'.at fun o q => (sb.2 _ D.i1z).trans q
    · exact h2'.at fun o q => (sb.2 _ D.i2z).trans q
    · rw [upd_ne (Nat.ne_of_lt (lt c hcm))]
      exact (hf c hcm).1
  done := by
    intro X hP hw hK hc i pins s σ H E I hf ⟨hz, hTI, ⟨x0, y0, hTO⟩, h1, h2⟩ ⟨xs, ys, qx, qy, he⟩
    subst hP hw hK
    exact zip_done I (I.ok.hd hc) D hz hTI hTO h1 h2 qx qy he fun h' hk => ⟨rfl, I.turnedL (t' := s.toks) (ch := [z, TI, TO, i1, i2]) (fun c o hb q => hk c o (fun q' => hb (by simp [q'])) (fun q' => hb (by simp [q'])) (fun q' => hb (by simp [q'])) (fun q' => hb (by simp [q'])) q) hf⟩
  self := fun A i s Q E st h => wpAny_pyIter_zip st.1 h
def iZipF (K : PySem.W.Frag) (ta : TA) : TI := fun σ H R => ta σ H fun vs H1 => ∃ (kd : Bool) (a b : Addr) (xs ys : List V), vs = [.ref a, .ref b] ∧ Sq kd K H1 a xs ∧ Sq kd K H1 b ys ∧ R (ItZ kd K a b) H1
theorem pi_zipF {X : Cx} {e e2 : Expr} {ta : TA} {p pos tpos : Pos} {elts : List Expr} {kk : Nat} (hg : Gl X "zip") (hm : X.mg "zip" = none) (ha : PA X [e, e2] ta)
    (hs : starEach [e, e2] X.env = (false, eval e X.env) :: starEach [e2] X.env := by rfl) (hpl : (backTo pos (starEach [e2] X.env)).any (·.1) = false := by rfl) :
    PI X (.Tuple elts kk tpos) (.Call (.Name "zip" p) [e, e2] [] pos) (iZipF X.K ta) := by
  refine ⟨fun pins s σ H R I h => Call_ (ld_blt I hg hm PyProof.Rows.boot_zip (PyProof.Rows.callWith_type1 (thn (ha.run pos pins s σ H _ I h) fun us s1 ⟨vs, H1, I1, r1, kd, a, b, xs, ys, ex, qx, qy, q⟩ => ?_) hs hpl))⟩
  subst ex
  have eu : us = [.ref a, .ref b] := by
    cases r1 with
    | cons r rr => cases rr with
      | cons r' rr' => cases rr'; cases r; cases r'; rfl
  subst eu
  have fin : ∀ {h' : Heap}, a < s1.heap.objs.size → b < s1.heap.objs.size → IsZip h' (s1.heap.objs.size + 4) (s1.heap.objs.size + 2) (s1.heap.objs.size + 3) .none → PySem.IsPair h' (s1.heap.objs.size + 2) (.ref s1.heap.objs.size) (.ref (s1.heap.objs.size + 1)) →
      PySem.IsPair h' (s1.heap.objs.size + 3) .none .none → ItAt kd h' s1.heap.objs.size a 0 → ItAt kd h' (s1.heap.objs.size + 1) b 0 → (∀ c o, s1.heap.get? c = some o → h'.get? c = some o) →
      PIE X pins σ (.Tuple elts kk tpos) R (.ref (s1.heap.objs.size + 4)) { s1 with heap := h' } := fun {h'} la lb hz hTI hTO h1 h2 hk => by
    refine ⟨s1.heap.objs.size + 4, [s1.heap.objs.size + 4, s1.heap.objs.size + 2, s1.heap.objs.size + 3, s1.heap.objs.size, s1.heap.objs.size + 1], _, _, H1, rfl, I1.kept (t' := s1.toks) hk, turn_zipF (kd := kd) (PySem.W.ktu_apart s1.heap.objs.size a b la lb), ⟨hz, hTI, ⟨_, _, hTO⟩, h1, h2⟩, fun c hcm => ?_, q⟩
    have hle : s1.heap.objs.size ≤ c := by
      rcases (show c = s1.heap.objs.size + 4 ∨ c = s1.heap.objs.size + 2 ∨ c = s1.heap.objs.size + 3 ∨ c = s1.heap.objs.size ∨ c = s1.heap.objs.size + 1 by simpa using hcm) with rfl | rfl | rfl | rfl | rfl <;> omega
    exact I1.fpOk hle (I1.hok.fresh hle)
  cases kd
  · obtain ⟨its, rv, p1, _⟩ := I1.tuple qx
    obtain ⟨its2, rv2, p2, _⟩ := I1.tuple qy
    exact call_zipT p1 p2 fun h' hz hTI hTO h1 h2 _ hk => wpAny_pyIter_zip hz (fin p1.lt p2.lt hz hTI hTO h1 h2 hk)
  · obtain ⟨its, rv, p1, _⟩ := I1.list qx
    obtain ⟨its2, rv2, p2, _⟩ := I1.list qy
    exact call_zip_2 p1.isList p2.isList fun h' hz hTI hTO h1 h2 _ hk => wpAny_pyIter_zip hz (fin p1.lt p2.lt hz hTI hTO h1 h2 hk)
end DK

namespace DL
open PySem PySem.Spec PyProof.Rows L2 DK
/-- a table: of a code object that is tracked (some c), or of one of the module's own -/
abbrev Tb := Option Addr × Addr
/-- the names of code objects by their places -/
class Nms where
  nm : Nat → Nat → Option Str
/-- the tables that a law keeps track of -/
class Tabs where
  l : List Tb
variable [Nms] [Tabs]
/-- the code object at c, its table at P, its name q -/
def CodeT (c P : Addr) (q : Str) : HO := .ext fun h => PySem.W.CodeHd h c P ∧ h.CodeRec (.ref c) q
/-- tables, closed under the code objects that they tell -/
def TabW (H : Hp) (T : Addr → Prop) : Prop := ∀ P, T P → ∃ ps : Array Value, H P = some (.tbl ps) ∧ TriplesOk ps.toList ∧
  ∀ (pos : Pos) (cv : Value), codeAmong pos ps.toList = some cv → ∃ c P' q, cv = .ref c ∧ H c = some (CodeT c P' q) ∧ T P' ∧ ∀ q', Nms.nm pos.line pos.col = some q' → q = q'
def TabD (H : Hp) (P : Addr) : Prop := ∃ T, T P ∧ TabW H T
def TabX (H : Hp) (t : Tb) : Prop := TabD H t.2 ∧ ∀ c, t.1 = some c → ∃ q, H c = some (CodeT c t.2 q)

/-! ### values: data, or a list of the law's own that may change -/
inductive PV where
  | d (x : PyData)
  | c (i : Nat)
/-- a cell of our own: a list, a dict, or a dict while a loop walks it -/
inductive Cell where
  | l (ds : List PyData)
  | d (kvs : List (PyData × PyData))
  | k (kvs : List (PyData × PyData))
abbrev Sto := List Cell
instance : Coe (List PyData) Cell := ⟨Cell.l⟩
def lAt (S : Sto) (i : Nat) : Option (List PyData) := match S[i]? with
  | some (.l ds) => some ds
  | _ => none
def dAt (S : Sto) (i : Nat) : Option (List (PyData × PyData)) := match S[i]? with
  | some (.d ds) => some ds
  | some (.k ds) => some ds
  | _ => none
def dAtW (S : Sto) (i : Nat) : Option (List (PyData × PyData)) := match S[i]? with
  | some (.d ds) => some ds
  | _ => none
theorem lAt_some {S : Sto} {i : Nat} {ds : List PyData} : lAt S i = some ds ↔ S[i]? = some (.l ds) := by
  unfold lAt
  split
  · rename_i e
    rw [e]
    exact ⟨fun h => (by rw [Option.some.inj h]), fun h => (by cases h; rfl)⟩
  · rename_i h
    exact ⟨fun e => (by cases e), fun e => absurd e (h ds)⟩
theorem dAt_some {S : Sto} {i : Nat} {ds : List (PyData × PyData)} (h : dAt S i = some ds) : S[i]? = some (.d ds) ∨ S[i]? = some (.k ds) := by
  unfold dAt at h
  split at h
  · rename_i e
    rw [e, Option.some.inj h]
    exact .inl rfl
  · rename_i e
    rw [e, Option.some.inj h]
    exact .inr rfl
  · cases h
theorem dAtW_some {S : Sto} {i : Nat} {ds : List (PyData × PyData)} : dAtW S i = some ds ↔ S[i]? = some (.d ds) := by
  unfold dAtW
  split
  · rename_i e
    rw [e]
    exact ⟨fun h => (by rw [Option.some.inj h]), fun h => (by cases h; rfl)⟩
  · rename_i h
    exact ⟨fun e => (by cases e), fun e => absurd e (h ds)⟩
abbrev RE := List (Option PV)
abbrev Fg := PySem.W.Frag

/-- no code object's table; no tuple of which it isn't known that it has no dict -/
def noTb : HO → Bool
  | .tbl _ => false
  | .tup _ => false
  | .frz o (.tup _) => o.dict.isNone
  | _ => true
/-- no tuple with a dict stands among these -/
def noTD (K : Fg) : Bool := K.all fun q => !(q.2.cls == .type "tuple") || q.2.dict.isNone
/-- what data lies in: not the cells, not the tables -/
def hide (as : List Addr) (H : Hp) : Hp := fun a => if a ∈ as then none else (H a).filter noTb
theorem hide_of3 {as : List Addr} {H : Hp} {a : Addr} {o : HO} (h : hide as H a = some o) : a ∉ as ∧ H a = some o ∧ noTb o = true := by
  unfold hide at h
  split at h
  · cases h
  · rename_i n
    obtain ⟨h1, h2⟩ := Option.filter_eq_some_iff.mp h
    exact ⟨n, h1, h2⟩
theorem hide_of {as : List Addr} {H : Hp} {a : Addr} {o : HO} (h : hide as H a = some o) : a ∉ as ∧ H a = some o := ⟨(hide_of3 h).1, (hide_of3 h).2.1⟩
theorem hide_some {as : List Addr} {H : Hp} {a : Addr} {o : HO} (n : a ∉ as) (h : H a = some o) (ht : noTb o = true := by rfl) : hide as H a = some o := by
  unfold hide
  rw [if_neg n]
  exact Option.filter_eq_some_iff.mpr ⟨h, ht⟩
theorem hide_same {as : List Addr} {H : Hp} : Same (hide as H) H := fun a o h => (hide_of h).2

theorem sqT_mono {K : Fg} {H H' : Hp} {a : Addr} {xs : List V} (e : Same H H') (h : SqT K H a xs) : SqT K H' a xs := by
  rcases h with (h | ⟨o, h⟩) | h
  · exact .inl (.inl (e _ _ h))
  · exact .inl (.inr ⟨o, e _ _ h⟩)
  · exact .inr h
mutual
theorem dp_mono {K : Fg} {H H' : Hp} (e : Same H H') : ∀ (d : PyData) (v : V), Dp K H v d → Dp K H' v d
  | .none, _, h => by cases h; exact .non
  | .bool b, _, h => by cases h; exact .bl b
  | .int i, _, h => by cases h; exact .int i
  | .str x, _, h => by cases h; exact .str x
  | .list ds, _, h => by
    cases h with
    | lst s a => exact .lst (e.seq s) (dpAll_mono e ds _ a)
  | .tuple ds, _, h => by
    cases h with
    | tup s a => exact .tup (sqT_mono e s) (dpAll_mono e ds _ a)
  | .dict _, _, h => by cases h
theorem dpAll_mono {K : Fg} {H H' : Hp} (e : Same H H') : ∀ (ds : List PyData) (vs : List V), DpAll K H vs ds → DpAll K H' vs ds
  | [], _, h => by cases h; exact .nil
  | d :: ds, _, h => by
    cases h with
    | cons a b => exact .cons (dp_mono e d _ a) (dpAll_mono e ds _ b)
end
theorem sqL_noT {K : Fg} {H : Hp} {a : Addr} {xs : List V} (h : SqL K H a xs) : SqL K (hide [] H) a xs := by
  rcases h with (h | ⟨o, h⟩) | h
  · exact .inl (.inl (hide_some (by simp) h))
  · exact .inl (.inr ⟨o, hide_some (by simp) h⟩)
  · exact .inr h
theorem hide_sub {as : List Addr} {H : Hp} : Same (hide as H) (hide [] H) := fun a o h => by
  obtain ⟨_, e, t⟩ := hide_of3 h
  exact hide_some (by simp) e t
theorem dpAll_len {K : Fg} {H : Hp} : ∀ {vs : List V} {ds : List PyData}, DpAll K H vs ds → vs.length = ds.length
  | _, _, .nil => rfl
  | _, _, .cons _ b => by
    rw [List.length_cons, List.length_cons, dpAll_len b]
theorem dpAll_get {K : Fg} {H : Hp} : ∀ {vs : List V} {ds : List PyData} {i : Nat} {d : PyData}, DpAll K H vs ds → ds[i]? = some d → ∃ v, vs[i]? = some v ∧ Dp K H v d
  | _, _, i, d, .nil, h => by simp at h
  | _, _, 0, d, .cons a _, h => by
    simp at h
    subst h
    exact ⟨_, rfl, a⟩
  | _, _, i + 1, d, .cons _ b, h => by
    obtain ⟨v, e, q⟩ := dpAll_get (i := i) (d := d) b (by simpa using h)
    exact ⟨v, by simpa using e, q⟩
theorem dpAll_append {K : Fg} {H : Hp} : ∀ {vs ws : List V} {ds es : List PyData}, DpAll K H vs ds → DpAll K H ws es → DpAll K H (vs ++ ws) (ds ++ es)
  | _, _, _, _, .nil, h => h
  | _, _, _, _, .cons a b, h => .cons a (dpAll_append b h)
theorem dpAll_take {K : Fg} {H : Hp} : ∀ {vs : List V} {ds : List PyData} (n : Nat), DpAll K H vs ds → DpAll K H (vs.take n) (ds.take n)
  | _, _, 0, _ => .nil
  | _, _, _ + 1, .nil => .nil
  | _, _, n + 1, .cons a b => .cons a (dpAll_take n b)
theorem dpAll_drop {K : Fg} {H : Hp} : ∀ {vs : List V} {ds : List PyData} (n : Nat), DpAll K H vs ds → DpAll K H (vs.drop n) (ds.drop n)
  | _, _, 0, h => h
  | _, _, _ + 1, .nil => .nil
  | _, _, n + 1, .cons _ b => dpAll_drop n b
theorem dpAll_set {K : Fg} {H : Hp} {v : V} {d : PyData} (h : Dp K H v d) : ∀ {vs : List V} {ds : List PyData} (n : Nat), DpAll K H vs ds → DpAll K H (vs.set n v) (ds.set n d)
  | _, _, _, .nil => .nil
  | _, _, 0, .cons _ b => .cons h b
  | _, _, n + 1, .cons a b => .cons a (dpAll_set h n b)
theorem dpAll_rep {K : Fg} {H : Hp} {vs : List V} {ds : List PyData} (h : DpAll K H vs ds) : ∀ n : Nat, DpAll K H (List.replicate n vs).flatten (List.replicate n ds).flatten
  | 0 => .nil
  | n + 1 => by
    rw [List.replicate_succ, List.replicate_succ, List.flatten_cons, List.flatten_cons]
    exact dpAll_append h (dpAll_rep h n)
theorem dpAll_reverse {K : Fg} {H : Hp} : ∀ {vs : List V} {ds : List PyData}, DpAll K H vs ds → DpAll K H vs.reverse ds.reverse
  | _, _, .nil => .nil
  | _, _, .cons a b => by
    rw [List.reverse_cons, List.reverse_cons]
    exact dpAll_append (dpAll_reverse b) (.cons a .nil)
theorem dpAll_ints {K : Fg} {H : Hp} : ∀ (ns : List Int), DpAll K H (ns.map V.int) (ns.map PyData.int)
  | [] => .nil
  | n :: ns => .cons (.int n) (dpAll_ints ns)
theorem dpAll_ints_inv {K : Fg} {H : Hp} : ∀ {vs : List V} {ns : List Int}, DpAll K H vs (ns.map PyData.int) → vs = ns.map V.int
  | _, [], h => by cases h; rfl
  | _, n :: ns, h => by
    cases h with
    | cons a b =>
      cases a
      rw [dpAll_ints_inv b]
      rfl

/-! ### a dict of our own: its entries (key, the key's address, value) -/
mutual
def freeK : NestedKey → Bool
  | .none => true
  | .num _ => true
  | .text _ => false
  | .tup ks => freeKs ks
def freeKs : List NestedKey → Bool
  | [] => true
  | k :: ks => freeK k && freeKs ks
end
mutual
def hash0 : NestedKey → Int
  | .none => reduceHash 0xFCA86420
  | .num i => hashInt i
  | .text _ => 0
  | .tup ks => reduceHash (Builtin.Tuple.tupleHashOf (hashes0 ks))
def hashes0 : List NestedKey → List Int
  | [] => []
  | k :: ks => hash0 k :: hashes0 ks
end
mutual
theorem hash_free (w : World) : ∀ {k : NestedKey}, freeK k = true → NestedKey.hash w k = hash0 k
  | .none, _ => by unfold NestedKey.hash hash0; exact Eq.refl _
  | .num i, _ => by unfold NestedKey.hash hash0; exact Eq.refl _
  | .text _, h => by unfold freeK at h; cases h
  | .tup ks, h => by
    unfold freeK at h
    unfold NestedKey.hash hash0
    rw [hashes_free w h]
theorem hashes_free (w : World) : ∀ {ks : List NestedKey}, freeKs ks = true → NestedKey.hashes w ks = hashes0 ks
  | [], _ => by unfold NestedKey.hashes hashes0; exact Eq.refl _
  | k :: ks, h => by
    unfold freeKs at h
    rw [Bool.and_eq_true] at h
    unfold NestedKey.hashes hashes0
    rw [hash_free w h.1, hashes_free w h.2]
end
abbrev DEnt := NestedKey × Addr × V
def DctAt (h : Heap) (a : Addr) (es : List DEnt) : Prop := ∃ (xs : List (NestedKey × Addr × Value)) (o : Obj) (arr : Array DictEntry) (ep : Nat),
  Paired (fun (p : DEnt) (q : NestedKey × Addr × Value) => p.1 = q.1 ∧ p.2.1 = q.2.1 ∧ RelV p.2.2 q.2.2) es xs ∧ h.get? a = some o ∧ o.ExactDict ∧ o.data = .dict arr ep ∧ arr.toList = xs.map (fun x => ⟨hash0 x.1, .ref x.2.1, x.2.2⟩)
def DctO (a : Addr) (es : List DEnt) : HO := .ext fun h => DctAt h a es
def toVal : V → Value
  | .non => .none
  | .bl b => .bool b
  | .int i => .int i 0
  | .str x => .str x 0
  | .byt b => .bytes b 0
  | .flt b => .float b 0
  | .ref a => .ref a
  | .ty n => .type n
theorem toVal_rel : ∀ v : V, RelV v (toVal v)
  | .non => rfl
  | .bl _ => rfl
  | .int _ => ⟨0, rfl⟩
  | .str _ => ⟨0, rfl⟩
  | .byt _ => ⟨0, rfl⟩
  | .flt _ => ⟨0, rfl⟩
  | .ref _ => rfl
  | .ty _ => rfl
theorem dct_get (n : Nat) (o : Obj) (h : o.data ≠ .freed) : (⟨Array.replicate (n + 1) o, {}⟩ : Heap).get? n = some o := by
  have e : (Array.replicate (n + 1) o)[n]? = some o := by
    rw [Array.getElem?_replicate, if_pos (Nat.lt_succ_self n)]
  unfold Heap.get?
  show (match (Array.replicate (n + 1) o)[n]? with | some ⟨_, _, .freed, _⟩ => none | o => o) = some o
  rw [e]
  obtain ⟨c, d, dt, sl⟩ := o
  cases dt <;> first | rfl | exact absurd rfl h
def dctObj (es : List DEnt) : Obj := { cls := .type "dict", data := .dict ((es.map fun p => (⟨hash0 p.1, .ref p.2.1, toVal p.2.2⟩ : DictEntry)).toArray) 0 }
theorem dct_pairs : ∀ es : List DEnt, Paired (fun (p : DEnt) (q : NestedKey × Addr × Value) => p.1 = q.1 ∧ p.2.1 = q.2.1 ∧ RelV p.2.2 q.2.2) es (es.map fun p => (p.1, p.2.1, toVal p.2.2))
  | [] => .nil
  | p :: r => .cons ⟨rfl, rfl, toVal_rel _⟩ (dct_pairs r)
theorem dct_sat (a : Addr) (es : List DEnt) : ∃ h : Heap, DctAt h a es ∧ ∀ o, h.get? a = some o → o.cls = .type "dict" := by
  have g := dct_get a (dctObj es) (fun z => by cases z)
  refine ⟨_, ⟨_, dctObj es, _, 0, dct_pairs es, g, ⟨rfl, rfl, rfl⟩, rfl, ?_⟩, fun o e => ?_⟩
  · rw [List.map_map]
    rfl
  · rw [g] at e
    cases e
    rfl
theorem dct_ne_code {a P : Addr} {es : List DEnt} {q : Str} (e : DctO a es = CodeT a P q) : False := by
  unfold DctO CodeT at e
  injection e with e
  obtain ⟨h, h1, h2⟩ := dct_sat a es
  have h3 := congrFun e h
  rw [h3] at h1
  obtain ⟨⟨o, vs, file, tf, flags, tg, inF, text, tt, e1, e2, _⟩, _⟩ := h1
  have := h2 o e1
  rw [e2] at this
  exact absurd (Value.type.inj this) (by decide)
mutual
inductive KeyD : PyData → NestedKey → Prop
  | non : KeyD .none .none
  | int (i : Int) : KeyD (.int i) (.num i)
  | tup {ds : List PyData} {ks : List NestedKey} : KeyDs ds ks → KeyD (.tuple ds) (.tup ks)
inductive KeyDs : List PyData → List NestedKey → Prop
  | nil : KeyDs [] []
  | cons {d : PyData} {k : NestedKey} {ds : List PyData} {ks : List NestedKey} : KeyD d k → KeyDs ds ks → KeyDs (d :: ds) (k :: ks)
end
/-- an entry of a dict: its key's datum, the key, the value's datum -/
structure EntR (K : Fg) (G : Hp) (e : DEnt) (kv : PyData × PyData) : Prop where
  key : KeyD kv.1 e.1
  tup : ∃ ks, e.1 = .tup ks
  deep : e.1.depth ≤ 8
  at_ : Dp K G (.ref e.2.1) kv.1
  val : Dp K G e.2.2 kv.2
def CellR (K : Fg) (G H : Hp) (a : Addr) : Cell → Prop
  | .l ds => ∃ vs, H a = some (.lst vs) ∧ DpAll K G vs ds
  | .d kvs => ∃ es, H a = some (DctO a es) ∧ Paired (EntR K G) es kvs ∧ es.length ≤ 1000000 ∧ (a == sysModules) = false ∧ (es.map (·.1)).Nodup
  | .k kvs => ∃ es, (∃ o, H a = some (.frz o (DctO a es))) ∧ Paired (EntR K G) es kvs ∧ es.length ≤ 1000000 ∧ (a == sysModules) = false ∧ (es.map (·.1)).Nodup
/-- what may be changed: a list or a dict -/
def IsCell (H : Hp) (a : Addr) : Prop := (∃ vs, H a = some (.lst vs)) ∨ (∃ es, H a = some (DctO a es)) ∨ ∃ o es, H a = some (.frz o (DctO a es))
theorem CellR.isCell {K : Fg} {G H : Hp} {a : Addr} {c : Cell} (h : CellR K G H a c) : IsCell H a := by
  cases c with
  | l ds => exact .inl ⟨_, h.choose_spec.1⟩
  | d kvs => exact .inr (.inl ⟨_, h.choose_spec.1⟩)
  | k kvs => exact .inr (.inr (by obtain ⟨es, ⟨o, e⟩, _⟩ := h; exact ⟨o, es, e⟩))
theorem EntR.mono {K : Fg} {G G' : Hp} (s : Same G G') {e : DEnt} {kv : PyData × PyData} (h : EntR K G e kv) : EntR K G' e kv := ⟨h.key, h.tup, h.deep, dp_mono s _ _ h.at_, dp_mono s _ _ h.val⟩
theorem CellR.mono {K : Fg} {G G' H H' : Hp} {a : Addr} {c : Cell} (s : Same G G') (e : H' a = H a) (h : CellR K G H a c) : CellR K G' H' a c := by
  cases c with
  | l ds =>
    obtain ⟨vs, h1, h2⟩ := h
    exact ⟨vs, e.trans h1, dpAll_mono s _ _ h2⟩
  | d kvs =>
    obtain ⟨es, h1, h2, h3⟩ := h
    exact ⟨es, e.trans h1, Paired.mapP h2 fun _ _ q => q.mono s, h3⟩
  | k kvs =>
    obtain ⟨es, ⟨o, h1⟩, h2, h3⟩ := h
    exact ⟨es, ⟨o, e.trans h1⟩, Paired.mapP h2 fun _ _ q => q.mono s, h3⟩
theorem CellR.kept {K : Fg} {G G' H H' : Hp} {a : Addr} {c : Cell} (s : Same G G') (k : ∀ o, H a = some o → noTb o = true → H' a = some o) (h : CellR K G H a c) : CellR K G' H' a c := by
  cases c with
  | l ds =>
    obtain ⟨vs, h1, h2⟩ := h
    exact ⟨vs, k _ h1 rfl, dpAll_mono s _ _ h2⟩
  | d kvs =>
    obtain ⟨es, h1, h2, h3⟩ := h
    exact ⟨es, k _ h1 rfl, Paired.mapP h2 fun _ _ q => q.mono s, h3⟩
  | k kvs =>
    obtain ⟨es, ⟨o, h1⟩, h2, h3⟩ := h
    exact ⟨es, ⟨o, k _ h1 rfl⟩, Paired.mapP h2 fun _ _ q => q.mono s, h3⟩
/-! ### the relation -/
structure Rel (K : Fg) (as : List Addr) (S : Sto) (H : Hp) : Prop where
  nd : as.Nodup
  len : as.length = S.length
  cell : ∀ (i : Nat) (a : Addr) (c : Cell), as[i]? = some a → S[i]? = some c → CellR K (hide as H) H a c
def VR (K : Fg) (as : List Addr) (H : Hp) (v : V) : PV → Prop
  | .d x => Dp K (hide as H) v x
  | .c i => ∃ a, as[i]? = some a ∧ v = .ref a
structure ER (K : Fg) (as : List Addr) (H : Hp) (σ : L2.St) (ρ : RE) : Prop where
  len : σ.length = ρ.length
  at_ : ∀ (i : Nat) (p : PV), ρ[i]? = some (some p) → ∃ v, σ[i]? = some (some v) ∧ VR K as H v p
  tab : ∀ t ∈ Tabs.l, TabX H t
structure Ext (as : List Addr) (H : Hp) (as' : List Addr) (H' : Hp) : Prop where
  pre : ∃ bs, as' = as ++ bs
  new : ∀ b ∈ as', b ∉ as → H b = none
  keep : ∀ a o, a ∉ as → H a = some o → noTb o = true → H' a = some o
  tab : ∀ t, TabX H t → TabX H' t
  there : ∀ a o, a ∉ as → H a = some o → ∃ o', H' a = some o'
  kind : ∀ a ∈ as, (∃ vs, H' a = some (.lst vs)) → ∃ vs, H a = some (.lst vs)
  lock : ∀ a ∈ as, ∀ o u, H a = some (.frz o u) → H' a = some (.frz o u)
section
variable {K : Fg} {as as1 as2 : List Addr} {S S1 : Sto} {H H1 H2 : Hp} {v : V} {p : PV} {σ : L2.St} {ρ : RE}
theorem tab_but {H H' : Hp} {a : Addr} (h : H a = none ∨ IsCell H a) (k : ∀ b, b ≠ a → H' b = H b) : ∀ t, TabX H t → TabX H' t := by
  have n1 : ∀ {b : Addr} {ps : Array Value}, H b = some (.tbl ps) → b ≠ a := fun {b ps} e z => by
    subst z
    rcases h with h | ⟨vs, h⟩ | ⟨es, h⟩ | ⟨o, es, h⟩ <;> rw [h] at e <;> cases e
  have n2 : ∀ {b P : Addr} {q : Str}, H b = some (CodeT b P q) → b ≠ a := fun {b P q} e z => by
    subst z
    rcases h with h | ⟨vs, h⟩ | ⟨es, h⟩ | ⟨o, es, h⟩
    · rw [h] at e; cases e
    · rw [h] at e; unfold CodeT at e; cases e
    · rw [h] at e; exact dct_ne_code (Option.some.inj e)
    · rw [h] at e; unfold CodeT at e; cases e
  intro t ⟨⟨T, t1, t2⟩, t3⟩
  refine ⟨⟨T, t1, fun P hP => ?_⟩, fun c hc => ?_⟩
  · obtain ⟨ps, e1, e2, e3⟩ := t2 P hP
    refine ⟨ps, by rw [k _ (n1 e1)]; exact e1, e2, fun pos cv q => ?_⟩
    obtain ⟨c, P', q', f1, f2, f3⟩ := e3 pos cv q
    exact ⟨c, P', q', f1, by rw [k _ (n2 f2)]; exact f2, f3⟩
  · obtain ⟨q, e⟩ := t3 c hc
    exact ⟨q, by rw [k _ (n2 e)]; exact e⟩
theorem tab_upd {H : Hp} {a : Addr} {o : HO} (h : H a = none ∨ IsCell H a) : ∀ t, TabX H t → TabX (upd H a o) t := tab_but h fun _ n => upd_ne n
theorem there_upd {H : Hp} {a b : Addr} {o u : HO} (h : H b = some u) : ∃ o', upd H a o b = some o' := by
  by_cases z : b = a
  · subst z
    exact ⟨o, upd_same⟩
  · exact ⟨u, by rw [upd_ne z]; exact h⟩
theorem Ext.refl : Ext as H as H := ⟨⟨[], by simp⟩, fun b h n => absurd h n, fun _ _ _ h _ => h, fun _ h => h, fun _ o _ h => ⟨o, h⟩, fun _ _ h => h, fun _ _ _ _ h => h⟩
theorem Ext.sub (e : Ext as H as1 H1) {a : Addr} (h : a ∈ as) : a ∈ as1 := by
  obtain ⟨bs, rfl⟩ := e.pre
  exact List.mem_append_left _ h
theorem Ext.trans (e : Ext as H as1 H1) (f : Ext as1 H1 as2 H2) : Ext as H as2 H2 := by
  obtain ⟨b1, e1⟩ := e.pre
  obtain ⟨b2, e2⟩ := f.pre
  refine ⟨⟨b1 ++ b2, by rw [e2, e1, List.append_assoc]⟩, fun b hb nb => ?_, fun a o na h ht => ?_, fun P h => f.tab P (e.tab P h), fun a o na h => ?_, fun a ha h => e.kind a ha (f.kind a (e.sub ha) h), fun a ha o u h => f.lock a (e.sub ha) o u (e.lock a ha o u h)⟩
  · by_cases h1 : b ∈ as1
    · exact e.new b h1 nb
    · have z := f.new b hb h1
      cases q : H b with
      | none => rfl
      | some o =>
        obtain ⟨o', z'⟩ := e.there b o nb q
        rw [z'] at z
        cases z
  · have na1 : a ∉ as1 := fun z => by
      rw [e.new a z na] at h
      cases h
    exact f.keep a o na1 (e.keep a o na h ht) ht
  · have na1 : a ∉ as1 := fun z => by
      rw [e.new a z na] at h
      cases h
    obtain ⟨o', h'⟩ := e.there a o na h
    exact f.there a o' na1 h'
theorem Ext.same (e : Ext as H as1 H1) : Same (hide as H) (hide as1 H1) := fun a o h => by
  obtain ⟨na, h, ht⟩ := hide_of3 h
  have na1 : a ∉ as1 := fun z => by
    rw [e.new a z na] at h
    cases h
  exact hide_some na1 (e.keep a o na h ht) ht
theorem VR.ext (h : VR K as H v p) (e : Ext as H as1 H1) : VR K as1 H1 v p := by
  cases p with
  | d x => exact dp_mono e.same _ _ h
  | c i =>
    obtain ⟨a, q, r⟩ := h
    obtain ⟨bs, rfl⟩ := e.pre
    refine ⟨a, ?_, r⟩
    rw [List.getElem?_append_left (List.getElem?_eq_some_iff.mp q).1]
    exact q
theorem ER.ext (h : ER K as H σ ρ) (e : Ext as H as1 H1) : ER K as1 H1 σ ρ := ⟨h.len, fun i p q => by
  obtain ⟨v, a, b⟩ := h.at_ i p q
  exact ⟨v, a, b.ext e⟩, fun P hP => e.tab P (h.tab P hP)⟩
theorem vrs_ext {vs : List V} {ps : List PV} (h : Paired (VR K as H) vs ps) (e : Ext as H as1 H1) : Paired (VR K as1 H1) vs ps := Paired.mapP h fun _ _ q => q.ext e
theorem Rel.at_ (R : Rel K as S H) (i : Nat) (a : Addr) (ds : List PyData) (x : as[i]? = some a) (y : lAt S i = some ds) : ∃ vs, H a = some (.lst vs) ∧ DpAll K (hide as H) vs ds := R.cell i a _ x (lAt_some.mp y)
theorem Rel.atS (R : Rel K as S H) (i : Nat) (a : Addr) (ds : List PyData) (x : as[i]? = some a) (y : S[i]? = some (.l ds)) : ∃ vs, H a = some (.lst vs) ∧ DpAll K (hide as H) vs ds := R.cell i a _ x y
theorem Rel.mem (R : Rel K as S H) {a : Addr} (h : a ∈ as) : IsCell H a := by
  obtain ⟨i, hi, e⟩ := List.getElem_of_mem h
  have hs : i < S.length := by rw [← R.len]; exact hi
  exact (R.cell i a S[i] (by rw [List.getElem?_eq_getElem hi, e]) (List.getElem?_eq_getElem hs)).isCell
theorem Rel.free (R : Rel K as S H) {a : Addr} (h : H a = none) : a ∉ as := fun z => by
  rcases R.mem z with ⟨vs, q⟩ | ⟨es, q⟩ | ⟨o, es, q⟩ <;> rw [h] at q <;> cases q
theorem Rel.laid (R : Rel K as S H) {a : Addr} {o : HO} (h : H a = none) : Rel K as S (upd H a o) ∧ Ext as H as (upd H a o) := by
  have E : Ext as H as (upd H a o) := ⟨⟨[], by simp⟩, fun b x n => absurd x n, fun b u nb q _ => by
    rw [upd_ne (ne_of_none q h)]
    exact q, tab_upd (.inl h), fun b u _ q => there_upd q, fun b hb q => by
      rw [upd_ne (fun z => R.free h (by rw [← z]; exact hb))] at q
      exact q, fun b hb o' u q => by
      rw [upd_ne (fun z => R.free h (by rw [← z]; exact hb))]
      exact q⟩
  refine ⟨⟨R.nd, R.len, fun i b c x y => (R.cell i b c x y).mono E.same (upd_ne fun z => ?_)⟩, E⟩
  subst z
  exact R.free h (List.mem_of_getElem? x)
theorem Rel.nilR (H : Hp) : Rel K [] [] H := ⟨List.nodup_nil, rfl, fun i a ds x => by simp at x⟩
theorem nodup_ix' {l : List Addr} (hN : l.Nodup) {i j : Nat} {x : Addr} (a : l[i]? = some x) (b : l[j]? = some x) : i = j := by
  obtain ⟨h1, e1⟩ := List.getElem?_eq_some_iff.mp a
  obtain ⟨h2, e2⟩ := List.getElem?_eq_some_iff.mp b
  exact (List.getElem_inj hN).mp (e1.trans e2.symm)
/-- a cell's content is changed -/
theorem Rel.putC (R : Rel K as S H) {i : Nat} {a : Addr} {c : Cell} {o : HO} (ha : as[i]? = some a) (hc : ∀ G, Same (hide as H) G → CellR K G (upd H a o) a c) (hk : (∃ vs, o = .lst vs) → ∃ vs, H a = some (.lst vs)) (hm : ∀ o' u, H a ≠ some (.frz o' u)) :
    Rel K as (S.set i c) (upd H a o) ∧ Ext as H as (upd H a o) := by
  have ma : a ∈ as := List.mem_of_getElem? ha
  have hs : Same (hide as H) (hide as (upd H a o)) := fun b u h => by
    obtain ⟨nb, h, ht⟩ := hide_of3 h
    refine hide_some nb ?_ ht
    rw [upd_ne (show b ≠ a from fun z => nb (by rw [z]; exact ma))]
    exact h
  refine ⟨⟨R.nd, by rw [List.length_set]; exact R.len, fun j b es x y => ?_⟩, ⟨⟨[], by simp⟩, fun b x n => absurd x n, fun b u nb q _ => ?_, tab_upd (.inr (R.mem ma)), fun b u _ q => there_upd q, fun b hb q => ?_, fun b hb o' u q => ?_⟩⟩
  · by_cases e : j = i
    · subst e
      rw [ha] at x
      cases x
      have hl : j < S.length := by rw [← R.len]; exact (List.getElem?_eq_some_iff.mp ha).1
      rw [List.getElem?_set_self hl] at y
      cases y
      exact hc _ hs
    · rw [List.getElem?_set_ne (Ne.symm e)] at y
      refine (R.cell j b es x y).mono hs (upd_ne fun z => e ?_)
      subst z
      exact nodup_ix' R.nd x ha
  · rw [upd_ne (show b ≠ a from fun z => nb (by rw [z]; exact ma))]
    exact q
  · by_cases z : b = a
    · subst z
      obtain ⟨vs, q⟩ := q
      rw [upd_same] at q
      exact hk ⟨vs, Option.some.inj q⟩
    · rw [upd_ne z] at q
      exact q
  · rw [upd_ne fun z => hm o' u (by rw [← z]; exact q)]
    exact q
theorem Rel.put (R : Rel K as S H) {i : Nat} {a : Addr} {vs : List V} {ds : List PyData} (ha : as[i]? = some a) (hv : DpAll K (hide as H) vs ds) (hk : ∃ ws, H a = some (.lst ws)) :
    Rel K as (S.set i (.l ds)) (upd H a (.lst vs)) ∧ Ext as H as (upd H a (.lst vs)) := R.putC ha (fun G s => ⟨vs, upd_same, dpAll_mono s _ _ hv⟩) (fun _ => hk) fun o u z => by
  obtain ⟨ws, q⟩ := hk
  rw [q] at z
  cases z
/-- a new object becomes a cell -/
theorem Rel.growC (R : Rel K as S H) {a : Addr} {c : Cell} {o : HO} (ha : H a = none) (hc : ∀ G, Same (hide as H) G → CellR K G (upd H a o) a c) :
    Rel K (as ++ [a]) (S ++ [c]) (upd H a o) ∧ Ext as H (as ++ [a]) (upd H a o) := by
  have na : a ∉ as := R.free ha
  have E : Ext as H (as ++ [a]) (upd H a o) := ⟨⟨[a], rfl⟩, fun b hb nb => by
      rcases List.mem_append.mp hb with z | z
      · exact absurd z nb
      · rw [List.mem_singleton.mp z]; exact ha, fun b u nb q _ => by
      rw [upd_ne (ne_of_none q ha)]
      exact q, tab_upd (.inl ha), fun b u _ q => there_upd q, fun b hb q => by
      rw [upd_ne (fun z => na (by rw [← z]; exact hb))] at q
      exact q, fun b hb o' u q => by
      rw [upd_ne (fun z => na (by rw [← z]; exact hb))]
      exact q⟩
  refine ⟨⟨?_, by simp [R.len], fun j b es x y => ?_⟩, E⟩
  · rw [List.nodup_append]
    refine ⟨R.nd, by simp, fun x hx y hy => ?_⟩
    rw [List.mem_singleton.mp hy]
    exact fun z => na (z ▸ hx)
  · by_cases hj : j < as.length
    · rw [List.getElem?_append_left hj] at x
      rw [List.getElem?_append_left (by rw [← R.len]; exact hj)] at y
      refine (R.cell j b es x y).mono E.same (upd_ne fun z => na ?_)
      subst z
      exact List.mem_of_getElem? x
    · have hj' : as.length ≤ j := Nat.le_of_not_lt hj
      rw [List.getElem?_append_right hj'] at x
      rw [List.getElem?_append_right (by rw [← R.len]; exact hj'), ← R.len] at y
      have e0 : j - as.length = 0 := by
        have := (List.getElem?_eq_some_iff.mp x).1
        simp at this
        omega
      rw [e0] at x y
      simp at x y
      subst x
      subst y
      exact hc _ E.same
theorem Rel.grow (R : Rel K as S H) {a : Addr} {vs : List V} {ds : List PyData} (ha : H a = none) (hv : DpAll K (hide as H) vs ds) :
    Rel K (as ++ [a]) (S ++ [.l ds]) (upd H a (.lst vs)) ∧ Ext as H (as ++ [a]) (upd H a (.lst vs)) := R.growC ha fun G s => ⟨vs, upd_same, dpAll_mono s _ _ hv⟩
/-- the last cells are forgotten -/
theorem Rel.take (R : Rel K as1 S1 H1) (e : as1 = as ++ as2) : Rel K as (S1.take as.length) H1 := by
  subst e
  have sm : Same (hide (as ++ as2) H1) (hide as H1) := fun a o h => by
    obtain ⟨na, h, ht⟩ := hide_of3 h
    exact hide_some (fun z => na (List.mem_append_left _ z)) h ht
  refine ⟨(List.nodup_append.mp R.nd).1, ?_, fun i a ds x y => ?_⟩
  · rw [List.length_take, ← R.len, List.length_append]
    omega
  · have hi : i < as.length := (List.getElem?_eq_some_iff.mp x).1
    rw [List.getElem?_take_of_lt hi] at y
    exact (R.cell i a ds (by rw [List.getElem?_append_left hi]; exact x) y).mono sm rfl
end
/-- a new tuple, with its object -/
theorem Rel.newT {K : Fg} {as : List Addr} {S : Sto} {H : Hp} {z : List PyData} {vs : List V} {o : Obj} {p : Addr} (R : Rel K as S H) (hd : DpAll K (hide as H) vs z) (ho : o.dict = none) (hp : H p = none) :
    Rel K as S (upd H p (.frz o (.tup vs))) ∧ Ext as H as (upd H p (.frz o (.tup vs))) ∧ VR K as (upd H p (.frz o (.tup vs))) (.ref p) (.d (.tuple z)) := by
  obtain ⟨R2, E2⟩ := R.laid (o := .frz o (.tup vs)) hp
  refine ⟨R2, E2, Dp.tup (.inl (.inr ⟨o, hide_some (R.free hp) upd_same ?_⟩)) (dpAll_mono E2.same _ _ hd)⟩
  show o.dict.isNone = true
  rw [ho]
  rfl
end DL

namespace DL
open PySem PySem.Spec PyProof.Rows L2 DK
variable [Nms] [Tabs]

abbrev M := RE → Sto → Option (PV × Sto)
abbrev MB := RE → Sto → Option (Bool × Sto)
abbrev MA := RE → Sto → Option (List PV × Sto)
abbrev ML := RE → Sto → Option (List PyData × Sto)

def tM (K : Fg) (m : M) : TE := fun σ H Q => ∃ as ρ S v S', Rel K as S H ∧ ER K as H σ ρ ∧ m ρ S = some (v, S') ∧ ∀ u H', Rel K as S' H' → Ext as H as H' → VR K as H' u v → Q u H'
def tMB (K : Fg) (m : MB) : TT := fun σ H Q => ∃ as ρ S b S', Rel K as S H ∧ ER K as H σ ρ ∧ m ρ S = some (b, S') ∧ ∀ H', Rel K as S' H' → Ext as H as H' → Q b H'
def tMA (K : Fg) (m : MA) : TA := fun σ H Q => ∃ as ρ S vs S', Rel K as S H ∧ ER K as H σ ρ ∧ m ρ S = some (vs, S') ∧ ∀ us H', Rel K as S' H' → Ext as H as H' → Paired (VR K as H') us vs → Q us H'
def tL (K : Fg) (m : ML) : TE := fun σ H Q => ∃ as ρ S ds S', Rel K as S H ∧ ER K as H σ ρ ∧ m ρ S = some (ds, S') ∧ ∀ p H' vs, Rel K as S' H' → Ext as H as H' → H' p = none → DpAll K (hide as H') vs ds → Q (.ref p) (upd H' p (.lst vs))
abbrev DE (X : Cx) (e : Expr) (m : M) : Prop := PE X e (tM X.K m)
abbrev DB (X : Cx) (e : Expr) (m : MB) : Prop := PT X e (tMB X.K m)
abbrev DW (X : Cx) (e : Expr) (m : MB) : Prop := PW X e (tMB X.K m)
abbrev DA (X : Cx) (es : List Expr) (m : MA) : Prop := PA X es (tMA X.K m)
abbrev DLs (X : Cx) (e : Expr) (m : ML) : Prop := PE X e (tL X.K m)

theorem pe_imp {X : Cx} {e : Expr} {t t' : TE} (h : PE X e t) (w : ∀ σ H Q, t' σ H Q → t σ H Q) : PE X e t' := ⟨fun pins s σ H Q I q => h.run pins s σ H Q I (w _ _ _ q)⟩
theorem pt_imp {X : Cx} {e : Expr} {t t' : TT} (h : PT X e t) (w : ∀ σ H Q, t' σ H Q → t σ H Q) : PT X e t' := ⟨fun pins s σ H Q I q => h.run pins s σ H Q I (w _ _ _ q)⟩
theorem pw_imp {X : Cx} {e : Expr} {t t' : TT} (h : PW X e t) (w : ∀ σ H Q, t' σ H Q → t σ H Q) : PW X e t' := ⟨fun wh pins s σ H Q I q => h.run wh pins s σ H Q I (w _ _ _ q)⟩
theorem pa_imp {X : Cx} {es : List Expr} {t t' : TA} (h : PA X es t) (w : ∀ σ H Q, t' σ H Q → t σ H Q) : PA X es t' := ⟨fun pos pins s σ H Q I q => h.run pos pins s σ H Q I (w _ _ _ q)⟩

/-! ### names, constants -/
section
variable {X : Cx}
def mVar (i : Nat) : M := fun ρ S => match ρ[i]? with
  | some (some p) => some (p, S)
  | _ => none
def mC (x : PyData) : M := fun _ S => some (.d x, S)
theorem mVar_some {i : Nat} {ρ : RE} {S S' : Sto} {v : PV} (h : mVar i ρ S = some (v, S')) : ρ[i]? = some (some v) ∧ S' = S := by
  unfold mVar at h
  split at h
  · rename_i p e
    cases h
    exact ⟨e, rfl⟩
  · cases h
theorem dv (i : Nat) {x : Str} {pos : Pos} (hN : X.N[i]? = some x := by rfl) (hv : Vis X.env.scope x := by first | exact Or.inl rfl | exact Or.inr (Or.inl rfl) | exact Or.inr (Or.inr rfl)) (hd : (x == ("__debug__" : Str)) = false := by decide)
    (hcd : (x == ("__classdict__" : Str)) = false := by decide) : DE X (.Name x pos) (mVar i) :=
  pe_imp (pe_var hN hv hd hcd) fun σ H Q ⟨as, ρ, S, v, S', R, E, e, k⟩ => by
    obtain ⟨e1, rfl⟩ := mVar_some e
    obtain ⟨u, a, b⟩ := E.at_ i v e1
    exact ⟨u, a, k u H R .refl b⟩
theorem tC_tM {K : Fg} {v : V} {d : PyData} (hd : Dp K (fun _ => none) v d) : ∀ σ H Q, tM K (mC d) σ H Q → tC v σ H Q := fun σ H Q ⟨as, ρ, S, p, S', R, E, e, k⟩ => by
  cases e
  exact k v H R .refl (dp_mono (fun _ _ z => absurd z (by simp)) _ _ hd)
theorem de_int {i j pos} : DE X (.Constant (.int i) j pos) (mC (.int i)) := pe_imp pe_int (tC_tM (.int i))
theorem de_bl {b j pos} : DE X (.Constant (.bool b) j pos) (mC (.bool b)) := pe_imp pe_bl (tC_tM (.bl b))
theorem de_non {j pos} : DE X (.Constant .none j pos) (mC .none) := pe_imp pe_non (tC_tM .non)
theorem de_str {x j pos} : DE X (.Constant (.str x) j pos) (mC (.str x)) := pe_imp pe_str (tC_tM (.str x))
theorem de_glob {x : Str} {v : V} {u : Value} {d : PyData} {pos : Pos} (hg : Gl X x) (hm : X.mg x = some u) (r : RelV v u) (hd : Dp X.K (fun _ => none) v d) (hb : (x == ("__debug__" : Str)) = false := by decide) : DE X (.Name x pos) (mC d) :=
  pe_imp (pe_glob hg hm r hb) (tC_tM hd)

/-! ### argument lists, displays -/
def mNil : MA := fun _ S => some ([], S)
def mCons (m : M) (ms : MA) : MA := fun ρ S => (m ρ S).bind fun p => (ms ρ p.2).bind fun q => some (p.1 :: q.1, q.2)
theorem da_nil : DA X [] mNil := pa_imp pa_nil fun σ H Q ⟨as, ρ, S, p, S', R, E, e, k⟩ => by
  cases e
  exact k [] H R .refl .nil
theorem da_cons {e : Expr} {es : List Expr} {m : M} {ms : MA} (ha : DE X e m) (hr : DA X es ms) (hs : starEach (e :: es) X.env = (false, eval e X.env) :: starEach es X.env := by rfl) : DA X (e :: es) (mCons m ms) :=
  pa_imp (pa_cons ha hr hs) fun σ H Q ⟨as, ρ, S, p, S', R, E, e, k⟩ => by
    obtain ⟨⟨x, S1⟩, e1, e⟩ := Option.bind_eq_some_iff.mp e
    obtain ⟨⟨xs, S2⟩, e2, e⟩ := Option.bind_eq_some_iff.mp e
    cases e
    refine ⟨as, ρ, S, x, S1, R, E, e1, fun u H1 R1 E1 V1 => ?_⟩
    refine ⟨as, ρ, S1, xs, S2, R1, E.ext E1, e2, fun us H2 R2 E2 V2 => ?_⟩
    exact k _ _ R2 (E1.trans E2) (.cons (V1.ext E2) V2)

def datas : List PV → Option (List PyData)
  | [] => some []
  | .d x :: r => (datas r).bind fun y => some (x :: y)
  | .c _ :: _ => none
theorem datas_dp {K : Fg} {as : List Addr} {H : Hp} : ∀ {us : List V} {vs : List PV} {ds : List PyData}, Paired (VR K as H) us vs → datas vs = some ds → DpAll K (hide as H) us ds
  | _, _, ds, .nil, h => by
    cases h
    exact .nil
  | _, .d x :: r, ds, .cons a b, h => by
    obtain ⟨y, e, h⟩ := Option.bind_eq_some_iff.mp h
    cases h
    exact .cons a (datas_dp b e)
  | _, .c i :: r, ds, .cons a b, h => by cases h
def mTup (ma : MA) : M := fun ρ S => (ma ρ S).bind fun p => (datas p.1).bind fun ds => if ds.length ≤ 1000 then some (.d (.tuple ds), p.2) else none
def mLst (ma : MA) : ML := fun ρ S => (ma ρ S).bind fun p => (datas p.1).bind fun ds => if ds.length ≤ 1000 then some (ds, p.2) else none
theorem le_line {n : Nat} (h : n ≤ 1000) : n ≤ sizeLine := Nat.le_of_lt (small1000 h)
theorem de_tup {es : List Expr} {x1 pos} {ma : MA} (h : DA X es ma) : DE X (.Tuple es x1 pos) (mTup ma) :=
  pe_imp (pe_tupF h) fun σ H Q ⟨as, ρ, S, p, S', R, E, e, k⟩ => by
    obtain ⟨⟨xs, S1⟩, e1, e⟩ := Option.bind_eq_some_iff.mp e
    obtain ⟨ds, e2, e⟩ := Option.bind_eq_some_iff.mp e
    split at e
    · rename_i hz
      cases e
      refine ⟨as, ρ, S, xs, S1, R, E, e1, fun us H1 R1 E1 V1 => ?_⟩
      have hd := datas_dp V1 e2
      have hl := dpAll_len hd
      refine ⟨by rw [hl]; exact le_line hz, fun q o ho hq => ?_⟩
      obtain ⟨R2, E2, V2⟩ := R1.newT hd ho hq
      exact k _ _ R2 (E1.trans E2) V2
    · cases e
theorem dl_lst {es : List Expr} {pos} {ma : MA} (h : DA X es ma) : DLs X (.List es pos) (mLst ma) :=
  pe_imp (pe_lst h) fun σ H Q ⟨as, ρ, S, p, S', R, E, e, k⟩ => by
    obtain ⟨⟨xs, S1⟩, e1, e⟩ := Option.bind_eq_some_iff.mp e
    obtain ⟨ds, e2, e⟩ := Option.bind_eq_some_iff.mp e
    split at e
    · rename_i hz
      cases e
      refine ⟨as, ρ, S, xs, S1, R, E, e1, fun us H1 R1 E1 V1 => ?_⟩
      have hd := datas_dp V1 e2
      have hl := dpAll_len hd
      exact ⟨by rw [hl]; exact le_line hz, fun q hq => k _ _ _ R1 E1 hq hd⟩
    · cases e
def mFz (m : ML) : M := fun ρ S => (m ρ S).bind fun p => some (.d (.list p.1), p.2)
theorem fz {e : Expr} {m : ML} (h : DLs X e m) : DE X e (mFz m) := pe_imp h fun σ H Q ⟨as, ρ, S, p, S', R, E, e, k⟩ => by
  obtain ⟨⟨ds, S1⟩, e1, e⟩ := Option.bind_eq_some_iff.mp e
  cases e
  refine ⟨as, ρ, S, ds, S1, R, E, e1, fun q H1 vs R1 E1 hq hd => ?_⟩
  obtain ⟨R2, E2⟩ := R1.laid (o := .lst vs) hq
  exact k _ _ R2 (E1.trans E2) (.lst (SqL.of (hide_some (R1.free hq) upd_same)) (dpAll_mono E2.same _ _ hd))

/-! ### operators -/
def OpD (K : Fg) (r : R2) (f : PV → PV → Sto → Option PV) : Prop := ∀ (as : List Addr) (S : Sto) (H : Hp) (u w : V) (x y z : PV) (Q : VK), Rel K as S H → VR K as H u x → VR K as H w y → f x y S = some z →
  (∀ v H', Rel K as S H' → Ext as H as H' → VR K as H' v z → Q v H') → r u w H Q
def OpL (K : Fg) (r : R2) (f : PV → PV → Sto → Option (List PyData)) : Prop := ∀ (as : List Addr) (S : Sto) (H : Hp) (u w : V) (x y : PV) (z : List PyData) (Q : VK), Rel K as S H → VR K as H u x → VR K as H w y → f x y S = some z →
  (∀ p H' vs, Rel K as S H' → Ext as H as H' → H' p = none → DpAll K (hide as H') vs z → Q (.ref p) (upd H' p (.lst vs))) → r u w H Q
def mOp (f : PV → PV → Sto → Option PV) (a b : M) : M := fun ρ S => (a ρ S).bind fun p => (b ρ p.2).bind fun q => (f p.1 q.1 q.2).bind fun z => some (z, q.2)
def mOpL (f : PV → PV → Sto → Option (List PyData)) (a b : M) : ML := fun ρ S => (a ρ S).bind fun p => (b ρ p.2).bind fun q => (f p.1 q.1 q.2).bind fun z => some (z, q.2)
theorem tOp_D {K : Fg} {r : R2} {f : PV → PV → Sto → Option PV} {a b : M} (ho : OpD K r f) : ∀ σ H Q, tM K (mOp f a b) σ H Q → tOp r (tM K a) (tM K b) σ H Q := fun σ H Q ⟨as, ρ, S, p, S', R, E, e, k⟩ => by
  obtain ⟨⟨x, S1⟩, e1, e⟩ := Option.bind_eq_some_iff.mp e
  obtain ⟨⟨y, S2⟩, e2, e⟩ := Option.bind_eq_some_iff.mp e
  obtain ⟨z, e3, e⟩ := Option.bind_eq_some_iff.mp e
  cases e
  refine ⟨as, ρ, S, x, S1, R, E, e1, fun u H1 R1 E1 V1 => ?_⟩
  refine ⟨as, ρ, S1, y, S2, R1, E.ext E1, e2, fun w H2 R2 E2 V2 => ?_⟩
  exact ho as S2 H2 u w x y _ Q R2 (V1.ext E2) V2 e3 fun v H3 R3 E3 V3 => k v H3 R3 ((E1.trans E2).trans E3) V3
theorem tOp_L {K : Fg} {r : R2} {f : PV → PV → Sto → Option (List PyData)} {a b : M} (ho : OpL K r f) : ∀ σ H Q, tL K (mOpL f a b) σ H Q → tOp r (tM K a) (tM K b) σ H Q := fun σ H Q ⟨as, ρ, S, p, S', R, E, e, k⟩ => by
  obtain ⟨⟨x, S1⟩, e1, e⟩ := Option.bind_eq_some_iff.mp e
  obtain ⟨⟨y, S2⟩, e2, e⟩ := Option.bind_eq_some_iff.mp e
  obtain ⟨z, e3, e⟩ := Option.bind_eq_some_iff.mp e
  cases e
  refine ⟨as, ρ, S, x, S1, R, E, e1, fun u H1 R1 E1 V1 => ?_⟩
  refine ⟨as, ρ, S1, y, S2, R1, E.ext E1, e2, fun w H2 R2 E2 V2 => ?_⟩
  exact ho as S2 H2 u w x y _ Q R2 (V1.ext E2) V2 e3 fun v H3 vs R3 E3 V3 => k v H3 vs R3 ((E1.trans E2).trans E3) V3
theorem de_op {op : Operator} {r : R2} {f} {a b : Expr} {ma mb : M} {pos : Pos} (ho : OpR X (binaryOp op) r) (hd : OpD X.K r f) (ha : DE X a ma) (hb : DE X b mb) : DE X (.BinOp a op b pos) (mOp f ma mb) := pe_imp (pe_op ho ha hb) (tOp_D hd)
theorem dl_op {op : Operator} {r : R2} {f} {a b : Expr} {ma mb : M} {pos : Pos} (ho : OpR X (binaryOp op) r) (hd : OpL X.K r f) (ha : DE X a ma) (hb : DE X b mb) : DLs X (.BinOp a op b pos) (mOpL f ma mb) := pe_imp (pe_op ho ha hb) (tOp_L hd)
theorem de_cmp {op : CmpOp} {r : R2} {f} {a b : Expr} {ma mb : M} {pos : Pos} (ho : OpR X (compareOp op) r) (hd : OpD X.K r f) (ha : DE X a ma) (hb : DE X b mb) (hm : behindInMarks op b = false) : DE X (.Compare a [op] [b] pos) (mOp f ma mb) := pe_imp (pe_cmpR ho ha hb hm) (tOp_D hd)
theorem de_ix {r : R2} {f} {a b : Expr} {ma mb : M} {pos : Pos} (ho : IxR X r) (hd : OpD X.K r f) (ha : DE X a ma) (hb : DE X b mb) (hs : PlainIx b) : DE X (.Subscript a b pos) (mOp f ma mb) := pe_imp (pe_ix ho ha hb hs) (tOp_D hd)
/-- a value that is a truth, as a test -/
def asB (m : M) : MB := fun ρ S => (m ρ S).bind fun p => match p.1 with
  | .d (.bool b) => some (b, p.2)
  | _ => none
theorem asB_some {m : M} {ρ : RE} {S S' : Sto} {b : Bool} (h : asB m ρ S = some (b, S')) : m ρ S = some (.d (.bool b), S') := by
  obtain ⟨⟨v, S1⟩, e1, e⟩ := Option.bind_eq_some_iff.mp h
  dsimp only at e
  split at e
  · cases e
    exact e1
  · cases e
theorem tTest_D {K : Fg} {t : TE} {m : M} (h : ∀ σ H Q, tM K m σ H Q → t σ H Q) : ∀ σ H Q, tMB K (asB m) σ H Q → tTest t σ H Q := fun σ H Q ⟨as, ρ, S, b, S', R, E, e, k⟩ =>
  h σ H _ ⟨as, ρ, S, .d (.bool b), S', R, E, asB_some e, fun u H1 R1 E1 V1 => by
    cases V1
    exact ⟨b, rfl, k H1 R1 E1⟩⟩
theorem db_cmp {op : CmpOp} {r : R2} {f} {a b : Expr} {ma mb : M} {pos : Pos} (ho : OpR X (compareOp op) r) (hd : OpD X.K r f) (ha : DE X a ma) (hb : DE X b mb) (hm : behindInMarks op b = false) : DB X (.Compare a [op] [b] pos) (asB (mOp f ma mb)) :=
  pt_imp (pt_cmpR ho ha hb hm) (tTest_D (tOp_D hd))
theorem db_val {e : Expr} {m : M} (h : DE X e m) (he : ∀ whole, isTrue e X.env whole = (do let v ← whole; standAt e.pos; holding [v] (truthy v)) := by intro _; rfl) : DB X e (asB m) :=
  pt_imp (pt_val h he) (tTest_D (t := tM X.K m) fun _ _ _ q => q)
def bNot (m : MB) : MB := fun ρ S => (m ρ S).bind fun p => some (!p.1, p.2)
def bAnd (a b : MB) : MB := fun ρ S => (a ρ S).bind fun p => if p.1 = true then b ρ p.2 else some (false, p.2)
def bOr (a b : MB) : MB := fun ρ S => (a ρ S).bind fun p => if p.1 = true then some (true, p.2) else b ρ p.2
theorem db_not {e : Expr} {m : MB} {pos : Pos} (h : DB X e m) : DB X (.UnaryOp .Not e pos) (bNot m) := pt_imp (pt_not h) fun σ H Q ⟨as, ρ, S, b, S', R, E, e, k⟩ => by
  obtain ⟨⟨x, S1⟩, e1, e⟩ := Option.bind_eq_some_iff.mp e
  cases e
  exact ⟨as, ρ, S, x, S1, R, E, e1, fun H1 R1 E1 => k H1 R1 E1⟩
theorem dw_and1 {a : Expr} {m : MB} {pos : Pos} (h : DB X a m) : DW X (.BoolOp .And [a] pos) m := pw_and1 h
theorem dw_or1 {a : Expr} {m : MB} {pos : Pos} (h : DB X a m) : DW X (.BoolOp .Or [a] pos) m := pw_or1 h
theorem dw_and {a b : Expr} {rest : List Expr} {m n : MB} {pos : Pos} (h : DB X a m) (h2 : DW X (.BoolOp .And (b :: rest) pos) n) : DW X (.BoolOp .And (a :: b :: rest) pos) (bAnd m n) := pw_imp (pw_and h h2) fun σ H Q ⟨as, ρ, S, b, S', R, E, e, k⟩ => by
  obtain ⟨⟨x, S1⟩, e1, e⟩ := Option.bind_eq_some_iff.mp e
  refine ⟨as, ρ, S, x, S1, R, E, e1, fun H1 R1 E1 => ?_⟩
  dsimp only at e ⊢
  split
  · rename_i hx
    rw [if_pos hx] at e
    exact ⟨as, ρ, S1, b, S', R1, E.ext E1, e, fun H2 R2 E2 => k H2 R2 (E1.trans E2)⟩
  · rename_i hx
    rw [if_neg hx] at e
    cases e
    exact k H1 R1 E1
theorem dw_or {a b : Expr} {rest : List Expr} {m n : MB} {pos : Pos} (h : DB X a m) (h2 : DW X (.BoolOp .Or (b :: rest) pos) n) : DW X (.BoolOp .Or (a :: b :: rest) pos) (bOr m n) := pw_imp (pw_or h h2) fun σ H Q ⟨as, ρ, S, b, S', R, E, e, k⟩ => by
  obtain ⟨⟨x, S1⟩, e1, e⟩ := Option.bind_eq_some_iff.mp e
  refine ⟨as, ρ, S, x, S1, R, E, e1, fun H1 R1 E1 => ?_⟩
  dsimp only at e ⊢
  split
  · rename_i hx
    rw [if_pos hx] at e
    cases e
    exact k H1 R1 E1
  · rename_i hx
    rw [if_neg hx] at e
    exact ⟨as, ρ, S1, b, S', R1, E.ext E1, e, fun H2 R2 E2 => k H2 R2 (E1.trans E2)⟩
/-- .. as values -/
def toV (m : MB) : M := fun ρ S => (m ρ S).bind fun p => some (.d (.bool p.1), p.2)
def mAnd (a b : M) : M := fun ρ S => (a ρ S).bind fun p => match p.1 with
  | .d (.bool true) => b ρ p.2
  | .d (.bool false) => some (.d (.bool false), p.2)
  | _ => none
def mOr (a b : M) : M := fun ρ S => (a ρ S).bind fun p => match p.1 with
  | .d (.bool true) => some (.d (.bool true), p.2)
  | .d (.bool false) => b ρ p.2
  | _ => none
def mNot (a : M) : M := fun ρ S => (a ρ S).bind fun p => match p.1 with
  | .d (.bool b) => some (.d (.bool (!b)), p.2)
  | _ => none
theorem de_one {op} {a : Expr} {m : M} {pos : Pos} (h : DE X a m) : DE X (.BoolOp op [a] pos) m := pe_one h
theorem de_and {a b : Expr} {rest : List Expr} {m n : M} {pos : Pos} (ha : DE X a m) (hb : DE X (.BoolOp .And (b :: rest) pos) n) : DE X (.BoolOp .And (a :: b :: rest) pos) (mAnd m n) := pe_imp (pe_and ha hb) fun σ H Q ⟨as, ρ, S, v, S', R, E, e, k⟩ => by
  obtain ⟨⟨x, S1⟩, e1, e⟩ := Option.bind_eq_some_iff.mp e
  refine ⟨as, ρ, S, x, S1, R, E, e1, fun u H1 R1 E1 V1 => ?_⟩
  dsimp only at e
  split at e
  · cases V1
    refine ⟨true, rfl, ?_⟩
    rw [if_pos rfl]
    exact ⟨as, ρ, S1, v, S', R1, E.ext E1, e, fun u2 H2 R2 E2 => k u2 H2 R2 (E1.trans E2)⟩
  · cases V1
    cases e
    refine ⟨false, rfl, ?_⟩
    rw [if_neg Bool.false_ne_true]
    exact k _ H1 R1 E1 (.bl false)
  · cases e
theorem de_or {a b : Expr} {rest : List Expr} {m n : M} {pos : Pos} (ha : DE X a m) (hb : DE X (.BoolOp .Or (b :: rest) pos) n) : DE X (.BoolOp .Or (a :: b :: rest) pos) (mOr m n) := pe_imp (pe_or ha hb) fun σ H Q ⟨as, ρ, S, v, S', R, E, e, k⟩ => by
  obtain ⟨⟨x, S1⟩, e1, e⟩ := Option.bind_eq_some_iff.mp e
  refine ⟨as, ρ, S, x, S1, R, E, e1, fun u H1 R1 E1 V1 => ?_⟩
  dsimp only at e
  split at e
  · cases V1
    cases e
    refine ⟨true, rfl, ?_⟩
    rw [if_pos rfl]
    exact k _ H1 R1 E1 (.bl true)
  · cases V1
    refine ⟨false, rfl, ?_⟩
    rw [if_neg Bool.false_ne_true]
    exact ⟨as, ρ, S1, v, S', R1, E.ext E1, e, fun u2 H2 R2 E2 => k u2 H2 R2 (E1.trans E2)⟩
  · cases e
theorem de_not {a : Expr} {m : M} {pos : Pos} (ha : DE X a m) : DE X (.UnaryOp .Not a pos) (mNot m) := pe_imp (pe_not ha) fun σ H Q ⟨as, ρ, S, v, S', R, E, e, k⟩ => by
  obtain ⟨⟨x, S1⟩, e1, e⟩ := Option.bind_eq_some_iff.mp e
  refine ⟨as, ρ, S, x, S1, R, E, e1, fun u H1 R1 E1 V1 => ?_⟩
  dsimp only at e
  split at e
  · rename_i b
    cases V1
    cases e
    exact ⟨b, rfl, k _ H1 R1 E1 (.bl _)⟩
  · cases e
def mIf (c : MB) (a b : M) : M := fun ρ S => (c ρ S).bind fun p => if p.1 = true then a ρ p.2 else b ρ p.2
theorem de_if {c a b : Expr} {mc : MB} {ma mb : M} {pos : Pos} (hc : DB X c mc) (ha : DE X a ma) (hb : DE X b mb) : DE X (.IfExp c a b pos) (mIf mc ma mb) := pe_imp (pe_ifExp hc ha hb) fun σ H Q ⟨as, ρ, S, v, S', R, E, e, k⟩ => by
  obtain ⟨⟨x, S1⟩, e1, e⟩ := Option.bind_eq_some_iff.mp e
  refine ⟨as, ρ, S, x, S1, R, E, e1, fun H1 R1 E1 => ?_⟩
  dsimp only at e ⊢
  split
  · rename_i hx
    rw [if_pos hx] at e
    exact ⟨as, ρ, S1, v, S', R1, E.ext E1, e, fun u2 H2 R2 E2 => k u2 H2 R2 (E1.trans E2)⟩
  · rename_i hx
    rw [if_neg hx] at e
    exact ⟨as, ρ, S1, v, S', R1, E.ext E1, e, fun u2 H2 R2 E2 => k u2 H2 R2 (E1.trans E2)⟩
end
end DL

namespace DL
open PySem PySem.Spec PyProof.Rows L2 DK
variable [Nms] [Tabs]

/-! ### ints -/
def fI0 (g : Int → Int → PyData) : PV → PV → Sto → Option PV := fun x y _ => match x, y with
  | .d (.int i), .d (.int j) => some (.d (g i j))
  | _, _ => none
def fIc (c : Int → Int → Bool) (g : Int → Int → PyData) : PV → PV → Sto → Option PV := fun x y _ => match x, y with
  | .d (.int i), .d (.int j) => if c i j = true then some (.d (g i j)) else none
  | _, _ => none
theorem opD_I0 {K : Fg} {g : Int → Int → V} {g' : Int → Int → PyData} (hg : ∀ i j H, Dp K H (g i j) (g' i j)) : OpD K (rI0 g) (fI0 g') := by
  intro as S H u w x y z Q R V1 V2 e k
  unfold fI0 at e
  split at e
  · rename_i i j
    cases V1
    cases V2
    cases e
    exact ⟨i, j, rfl, rfl, k _ H R .refl (hg i j _)⟩
  · cases e
theorem opD_I {K : Fg} {C : Int → Int → Prop} {g : Int → Int → V} {c : Int → Int → Bool} {g' : Int → Int → PyData} (hc : ∀ i j, c i j = true → C i j) (hg : ∀ i j H, Dp K H (g i j) (g' i j)) : OpD K (rI C g) (fIc c g') := by
  intro as S H u w x y z Q R V1 V2 e k
  unfold fIc at e
  split at e
  · rename_i i j
    split at e
    · rename_i h
      cases V1
      cases V2
      cases e
      exact ⟨i, j, rfl, rfl, hc i j h, k _ H R .refl (hg i j _)⟩
    · cases e
  · cases e
def CMulA (i j : Int) : Prop := CMul i j ∨ CMulW i j
theorem CMulA.ok {i j : Int} (h : CMulA i j) : IntMulOk i j := by
  rcases h with h | h
  · exact h.ok
  · exact h.ok
def CDivA (_ j : Int) : Prop := j ≠ 0 ∧ j.natAbs.log2 < 9000
section
variable {X : Cx}
theorem op_mulA : OpR X (binaryOp .Mult) (rI CMulA fun i j => .int (i * j)) := opI fun _ _ _ _ _ _ _ hc q => mul_int q hc.ok
theorem iop_mulA : OpR X (inplaceOp .Mult) (rI CMulA fun i j => .int (i * j)) := opI fun _ _ _ _ _ _ _ hc q => imul_int q hc.ok
theorem op_fdivA : OpR X (binaryOp .FloorDiv) (rI CDivA fun i j => .int (i.fdiv j)) := opI fun _ _ _ _ _ _ _ hc q => floordiv_int hc.1 q (.inl (PyProof.noPylong_of_log2 hc.2))
end
def mulOk (i j : Int) : Bool := (decide (-(2 ^ 64) < i) && decide (i < 2 ^ 64)) || (decide (-(2 ^ 64) < j) && decide (j < 2 ^ 64)) || decide (i.natAbs.log2 + j.natAbs.log2 < 1000000)
def divOk (_ j : Int) : Bool := !decide (j = 0) && decide (j.natAbs.log2 < 9000)
def modOk (_ j : Int) : Bool := !decide (j = 0)
def powOk (i j : Int) : Bool := decide (0 ≤ j) && decide (j ≤ 1000000) && decide (i.natAbs < 2 ^ 64)
theorem mulOk_ok {i j : Int} (h : mulOk i j = true) : CMulA i j := by
  unfold mulOk at h
  simp only [Bool.or_eq_true, Bool.and_eq_true, decide_eq_true_eq] at h
  rcases h with (h | h) | h
  · exact .inl (.inl h)
  · exact .inl (.inr h)
  · exact .inr h
theorem divOk_ok {i j : Int} (h : divOk i j = true) : CDivA i j := by
  unfold divOk at h
  simp only [Bool.and_eq_true, Bool.not_eq_true', decide_eq_true_eq, decide_eq_false_iff_not] at h
  exact h
theorem modOk_ok {i j : Int} (h : modOk i j = true) : j ≠ 0 := by
  unfold modOk at h
  simpa using h
theorem powOk_ok {i j : Int} (h : powOk i j = true) : CPow i j := by
  unfold powOk at h
  simp only [Bool.and_eq_true, decide_eq_true_eq] at h
  exact ⟨h.1.1, h.1.2, h.2⟩
abbrev fSub := fI0 fun i j => .int (i - j)
abbrev fDiv := fIc divOk fun i j => .int (i.fdiv j)
abbrev fMod := fIc modOk fun i j => .int (i.fmod j)
abbrev fPow := fIc powOk fun i j => .int (i ^ j.toNat)
abbrev fLt := fI0 fun i j => .bool (decide (i < j))
abbrev fLe := fI0 fun i j => .bool (decide (i ≤ j))
abbrev fGt := fI0 fun i j => .bool (decide (j < i))
abbrev fGe := fI0 fun i j => .bool (decide (j ≤ i))
section
variable {X : Cx} {a b : Expr} {ma mb : M} {pos : Pos}
theorem de_sub (ha : DE X a ma) (hb : DE X b mb) : DE X (.BinOp a .Sub b pos) (mOp fSub ma mb) := de_op op_sub (opD_I0 fun _ _ _ => .int _) ha hb
theorem de_div (ha : DE X a ma) (hb : DE X b mb) : DE X (.BinOp a .FloorDiv b pos) (mOp fDiv ma mb) := de_op op_fdivA (opD_I (fun _ _ h => divOk_ok h) fun _ _ _ => .int _) ha hb
theorem de_mod (ha : DE X a ma) (hb : DE X b mb) : DE X (.BinOp a .Mod b pos) (mOp fMod ma mb) := de_op op_modN (opD_I (fun _ _ h => modOk_ok h) fun _ _ _ => .int _) ha hb
theorem de_pow (ha : DE X a ma) (hb : DE X b mb) : DE X (.BinOp a .Pow b pos) (mOp fPow ma mb) := de_op op_pow (opD_I (fun _ _ h => powOk_ok h) fun _ _ _ => .int _) ha hb
theorem de_lt (ha : DE X a ma) (hb : DE X b mb) : DE X (.Compare a [.Lt] [b] pos) (mOp fLt ma mb) := de_cmp op_lt (opD_I0 fun _ _ _ => .bl _) ha hb (nomark _)
theorem de_le (ha : DE X a ma) (hb : DE X b mb) : DE X (.Compare a [.LtE] [b] pos) (mOp fLe ma mb) := de_cmp op_le (opD_I0 fun _ _ _ => .bl _) ha hb (nomark _)
theorem de_gt (ha : DE X a ma) (hb : DE X b mb) : DE X (.Compare a [.Gt] [b] pos) (mOp fGt ma mb) := de_cmp op_gt (opD_I0 fun _ _ _ => .bl _) ha hb (nomark _)
theorem de_ge (ha : DE X a ma) (hb : DE X b mb) : DE X (.Compare a [.GtE] [b] pos) (mOp fGe ma mb) := de_cmp op_ge (opD_I0 fun _ _ _ => .bl _) ha hb (nomark _)
theorem db_lt (ha : DE X a ma) (hb : DE X b mb) : DB X (.Compare a [.Lt] [b] pos) (asB (mOp fLt ma mb)) := db_cmp op_lt (opD_I0 fun _ _ _ => .bl _) ha hb (nomark _)
theorem db_le (ha : DE X a ma) (hb : DE X b mb) : DB X (.Compare a [.LtE] [b] pos) (asB (mOp fLe ma mb)) := db_cmp op_le (opD_I0 fun _ _ _ => .bl _) ha hb (nomark _)
theorem db_gt (ha : DE X a ma) (hb : DE X b mb) : DB X (.Compare a [.Gt] [b] pos) (asB (mOp fGt ma mb)) := db_cmp op_gt (opD_I0 fun _ _ _ => .bl _) ha hb (nomark _)
theorem db_ge (ha : DE X a ma) (hb : DE X b mb) : DB X (.Compare a [.GtE] [b] pos) (asB (mOp fGe ma mb)) := db_cmp op_ge (opD_I0 fun _ _ _ => .bl _) ha hb (nomark _)
def fNeg : PV → Option PV := fun x => match x with
  | .d (.int i) => some (.d (.int (-i)))
  | _ => none
def mUn (f : PV → Option PV) (a : M) : M := fun ρ S => (a ρ S).bind fun p => (f p.1).bind fun z => some (z, p.2)
theorem de_neg (ha : DE X a ma) : DE X (.UnaryOp .USub a pos) (mUn fNeg ma) := pe_imp (pe_un un_neg ha) fun σ H Q ⟨as, ρ, S, p, S', R, E, e, k⟩ => by
  obtain ⟨⟨x, S1⟩, e1, e⟩ := Option.bind_eq_some_iff.mp e
  obtain ⟨z, e2, e⟩ := Option.bind_eq_some_iff.mp e
  cases e
  refine ⟨as, ρ, S, x, S1, R, E, e1, fun u H1 R1 E1 V1 => ?_⟩
  unfold fNeg at e2
  split at e2
  · rename_i i q
    cases e2
    dsimp only at q
    subst q
    cases V1
    exact ⟨i, rfl, k _ H1 R1 E1 (.int _)⟩
  · cases e2
end

/-! ### what a value is to be read as -/
def asD (S : Sto) : PV → Option PyData
  | .d x => some x
  | .c i => (lAt S i).map .list
theorem asD_dp {K : Fg} {as : List Addr} {S : Sto} {H : Hp} {u : V} {x : PV} {d : PyData} (R : Rel K as S H) (h : VR K as H u x) (e : asD S x = some d) : Dp K H u d := by
  cases x with
  | d y =>
    cases e
    exact dp_mono hide_same _ _ h
  | c i =>
    obtain ⟨a, q, rfl⟩ := h
    unfold asD at e; dsimp only at e
    cases hs : lAt S i with
    | none => rw [hs] at e; cases e
    | some ds =>
      rw [hs] at e
      cases e
      obtain ⟨vs, h1, h2⟩ := R.at_ i a ds q hs
      exact .lst (SqL.of h1) (dpAll_mono hide_same _ _ h2)
/-- the items of a list, a tuple -/
def itemsOf (S : Sto) : PV → Option (List PyData)
  | .d (.list xs) => some xs
  | .d (.tuple xs) => some xs
  | .c i => lAt S i
  | _ => none
theorem items_at {K : Fg} {as : List Addr} {S : Sto} {H : Hp} {u : V} {x : PV} {ds : List PyData} (R : Rel K as S H) (h : VR K as H u x) (e : itemsOf S x = some ds) :
    ∃ a vs, u = .ref a ∧ (SqL K H a vs ∨ SqT K H a vs) ∧ DpAll K (hide as H) vs ds := by
  cases x with
  | d y =>
    cases y with
    | list xs =>
      cases e
      cases h with
      | lst s a => exact ⟨_, _, rfl, .inl (hide_same.seq s), a⟩
    | tuple xs =>
      cases e
      cases h with
      | tup s a => exact ⟨_, _, rfl, .inr (sqT_mono hide_same s), a⟩
    | _ => cases e
  | c i =>
    obtain ⟨a, q, rfl⟩ := h
    obtain ⟨vs, h1, h2⟩ := R.at_ i a ds q e
    exact ⟨a, vs, rfl, .inl (SqL.of h1), h2⟩

/-! ### == and != -/
def fEq : PV → PV → Sto → Option PV := fun x y S => (asD S x).bind fun a => (asD S y).bind fun b => if (SeqAt.shaped a && SeqAt.shaped b) = true then some (.d (.bool (PyData.eqv a b))) else none
def fNe : PV → PV → Sto → Option PV := fun x y S => (asD S x).bind fun a => (asD S y).bind fun b => if (SeqAt.shaped a && SeqAt.shaped b) = true then some (.d (.bool (!PyData.eqv a b))) else none
theorem opD_eq {K : Fg} : OpD K (rEqD K) fEq := by
  intro as S H u w x y z Q R V1 V2 e k
  obtain ⟨a, e1, e⟩ := Option.bind_eq_some_iff.mp e
  obtain ⟨b, e2, e⟩ := Option.bind_eq_some_iff.mp e
  split at e
  · rename_i h
    cases e
    rw [Bool.and_eq_true] at h
    exact ⟨a, b, asD_dp R V1 e1, asD_dp R V2 e2, h.1, h.2, k _ H R .refl (.bl _)⟩
  · cases e
theorem opD_ne {K : Fg} : OpD K (rNeD K) fNe := by
  intro as S H u w x y z Q R V1 V2 e k
  obtain ⟨a, e1, e⟩ := Option.bind_eq_some_iff.mp e
  obtain ⟨b, e2, e⟩ := Option.bind_eq_some_iff.mp e
  split at e
  · rename_i h
    cases e
    rw [Bool.and_eq_true] at h
    exact ⟨a, b, asD_dp R V1 e1, asD_dp R V2 e2, h.1, h.2, k _ H R .refl (.bl _)⟩
  · cases e
section
variable {X : Cx} {a b : Expr} {ma mb : M} {pos : Pos} {k : Nat}
theorem de_eq (hr : Room k X.A) (ha : DE X a ma) (hb : DE X b mb) : DE X (.Compare a [.Eq] [b] pos) (mOp fEq ma mb) := de_cmp (op_eqD hr.units) opD_eq ha hb (nomark _)
theorem de_ne (hr : Room k X.A) (ha : DE X a ma) (hb : DE X b mb) : DE X (.Compare a [.NotEq] [b] pos) (mOp fNe ma mb) := de_cmp (op_neD hr.units) opD_ne ha hb (nomark _)
theorem db_eq (hr : Room k X.A) (ha : DE X a ma) (hb : DE X b mb) : DB X (.Compare a [.Eq] [b] pos) (asB (mOp fEq ma mb)) := db_cmp (op_eqD hr.units) opD_eq ha hb (nomark _)
theorem db_ne (hr : Room k X.A) (ha : DE X a ma) (hb : DE X b mb) : DB X (.Compare a [.NotEq] [b] pos) (asB (mOp fNe ma mb)) := db_cmp (op_neD hr.units) opD_ne ha hb (nomark _)
end

/-! ### +, * of all kinds -/
/-- list + list, whatever stands there -/
def rCatS (K : Fg) : R2 := fun x y H Q => ∃ l b xs zs, x = .ref l ∧ y = .ref b ∧ SqL K H l xs ∧ SqL K H b zs ∧ xs.length + zs.length ≤ sizeLine ∧ ∀ p, H p = none → Q (.ref p) (upd H p (.lst (xs ++ zs)))
theorem op_catS {X : Cx} : OpR X (binaryOp .Add) (rCatS X.K) := by
  intro pins s σ H x y v u Q I rx ry h
  obtain ⟨l, b, xs, zs, rfl, rfl, hH, hB, hz, q⟩ := h
  cases rx
  cases ry
  obtain ⟨its, r, ⟨⟨cls, dd, data, sl⟩, n, ho, hc, hdd, hd⟩, _⟩ := I.list hH
  obtain ⟨its2, r2, ⟨⟨cls2, dd2, data2, sl2⟩, n2, ho2, hc2, hdd2, hd2⟩, _⟩ := I.list hB
  simp only at hc hd hc2 hd2
  subst hc hd hc2 hd2
  have e : its.toArray ++ its2.toArray = (its ++ its2).toArray := by simp
  have l1 := r.length
  have l2 := r2.length
  refine concat_meets ⟨_, ho, rfl⟩ ⟨_, ho2, rfl⟩ noFill_list_add seq_list_add PySem.F.slot_list_add PySem.F.entry_list_add (PySem.F.args_list_add_2 _ _) (list_addW l b its.toArray its2.toArray n n2 dd dd2 sl sl2 (by rw [List.size_toArray, List.size_toArray]; omega)) ⟨ho, ho2, ?_⟩
  rw [e]
  exact ⟨.ref _, _, I.lnew (t' := s.toks) (r.append r2) (by rw [List.length_append]; omega), rfl, q _ I.fresh⟩
def rAddA (K : Fg) : R2 := fun x y H Q => rI0 (fun i j => .int (i + j)) x y H Q ∨ rCatF K x y H Q ∨ rCatS K x y H Q ∨ ∃ i j, x = .str i ∧ y = .str j ∧ i.length + j.length ≤ sizeLine ∧ Q (.str (i ++ j)) H
theorem op_addA {X : Cx} : OpR X (binaryOp .Add) (rAddA X.K) := op_add.or (op_catF.or (op_catS.or op_add_str))
def fCatL : PV → PV → Sto → Option (List PyData) := fun x y S => match asD S x, asD S y with
  | some (.list xs), some (.list ys) => if xs.length + ys.length ≤ 1000000 then some (xs ++ ys) else none
  | _, _ => none
def fAdd : PV → PV → Sto → Option PV := fun x y S => match x, y with
  | .d (.int i), .d (.int j) => some (.d (.int (i + j)))
  | .d (.tuple xs), .d (.tuple ys) => if xs.length + ys.length ≤ 1000000 then some (.d (.tuple (xs ++ ys))) else none
  | .d (.str i), .d (.str j) => if i.length + j.length ≤ 1000000 then some (.d (.str (i ++ j))) else none
  | x, y => (fCatL x y S).map fun l => .d (.list l)
theorem million {n : Nat} (h : n ≤ 1000000) : n ≤ sizeLine := by rw [sizeLine_eq]; omega
theorem list_at {K : Fg} {as : List Addr} {S : Sto} {H : Hp} {u : V} {x : PV} {ds : List PyData} (R : Rel K as S H) (h : VR K as H u x) (e : asD S x = some (.list ds)) :
    ∃ a vs, u = .ref a ∧ SqL K H a vs ∧ DpAll K (hide as H) vs ds := by
  cases x with
  | d y =>
    cases e
    cases h with
    | lst s a => exact ⟨_, _, rfl, hide_same.seq s, a⟩
  | c i =>
    obtain ⟨a, q, rfl⟩ := h
    unfold asD at e; dsimp only at e
    cases hs : lAt S i with
    | none => rw [hs] at e; cases e
    | some es =>
      rw [hs] at e
      cases e
      obtain ⟨vs, h1, h2⟩ := R.at_ i a ds q hs
      exact ⟨a, vs, rfl, SqL.of h1, h2⟩
theorem opL_cat {K : Fg} : OpL K (rCatS K) fCatL := by
  intro as S H u w x y z Q R V1 V2 e k
  unfold fCatL at e
  split at e
  · rename_i xs ys e1 e2
    split at e
    · rename_i hz
      cases e
      obtain ⟨a, vs, rfl, h1, d1⟩ := list_at R V1 e1
      obtain ⟨b, ws, rfl, h2, d2⟩ := list_at R V2 e2
      exact ⟨a, b, vs, ws, rfl, rfl, h1, h2, by rw [dpAll_len d1, dpAll_len d2]; exact million hz, fun p hp => k p H _ R .refl hp (dpAll_append d1 d2)⟩
    · cases e
  · cases e
/-- what is new and frozen at once -/
theorem frozen_new {K : Fg} {as : List Addr} {S : Sto} {H : Hp} {z : List PyData} {Q : VK} (k : ∀ v H', Rel K as S H' → Ext as H as H' → VR K as H' v (.d (.list z)) → Q v H') :
    ∀ p H' vs, Rel K as S H' → Ext as H as H' → H' p = none → DpAll K (hide as H') vs z → Q (.ref p) (upd H' p (.lst vs)) := fun p H' vs R1 E1 hq hd => by
  obtain ⟨R2, E2⟩ := R1.laid (o := .lst vs) hq
  exact k _ _ R2 (E1.trans E2) (.lst (SqL.of (hide_some (R1.free hq) upd_same)) (dpAll_mono E2.same _ _ hd))
theorem tuple_new {K : Fg} {as : List Addr} {S : Sto} {H : Hp} {z : List PyData} {vs : List V} {Q : VK} (R : Rel K as S H) (hd : DpAll K (hide as H) vs z) (k : ∀ v H', Rel K as S H' → Ext as H as H' → VR K as H' v (.d (.tuple z)) → Q v H') : NewT H vs Q := fun p o ho hq => by
  obtain ⟨R2, E2, V2⟩ := R.newT hd ho hq
  exact k _ _ R2 E2 V2
theorem opD_add {K : Fg} : OpD K (rAddA K) fAdd := by
  intro as S H u w x y z Q R V1 V2 e k
  unfold fAdd at e
  split at e
  · rename_i i j
    cases V1
    cases V2
    cases e
    exact .inl ⟨i, j, rfl, rfl, k _ H R .refl (.int _)⟩
  · rename_i xs ys
    split at e
    · rename_i hz
      cases e
      cases V1 with
      | tup s1 a1 =>
        cases V2 with
        | tup s2 a2 =>
          rename_i p1 vs1 p2 vs2
          refine .inr (.inl ⟨_, _, _, _, rfl, rfl, sqT_mono hide_same s1, sqT_mono hide_same s2, by rw [dpAll_len a1, dpAll_len a2]; exact million hz, fun h0 => ?_, fun h0 h1 => ?_, fun h0 h1 => tuple_new R (dpAll_append a1 a2) k⟩)
          · subst h0
            cases a1
            exact k _ H R .refl (.tup s2 a2)
          · subst h1
            cases a2
            refine k _ H R .refl ?_
            show Dp _ _ _ _
            rw [List.append_nil]
            exact .tup s1 a1
    · cases e
  · rename_i i j
    split at e
    · rename_i hz
      cases V1
      cases V2
      cases e
      exact .inr (.inr (.inr ⟨i, j, rfl, rfl, million hz, k _ H R .refl (.str _)⟩))
    · cases e
  · obtain ⟨l, e1, e⟩ := Option.map_eq_some_iff.mp e
    subst e
    exact .inr (.inr (.inl (opL_cat as S H u w _ _ l Q R V1 V2 e1 (frozen_new k))))
section
variable {X : Cx} {a b : Expr} {ma mb : M} {pos : Pos}
theorem de_add (ha : DE X a ma) (hb : DE X b mb) : DE X (.BinOp a .Add b pos) (mOp fAdd ma mb) := de_op op_addA opD_add ha hb
theorem dl_cat (ha : DE X a ma) (hb : DE X b mb) : DLs X (.BinOp a .Add b pos) (mOpL fCatL ma mb) := dl_op op_catS opL_cat ha hb
end
end DL

namespace DL
open PySem PySem.Spec PyProof.Rows L2 DK
variable [Nms] [Tabs]

/-! ### a def's promise where nothing is being shown (no repr under way) -/
structure FnG (P : Program) (w : World) (K : Fg) (mg : Str → Option Value) (base : Heap) (CX : CXT) (k : Nat) (f : Addr) (fd : FuncData) (ps : List Str) (sp : Sp) : Prop where
  cnt : ∀ vs H Q E, sp vs H Q E → vs.length = ps.length
  go : ∀ (A : Around) (out : List Env) (s : Shared) (H : Hp) (ar : Args) (us : List Value) (vs : List V) (Q : VK) (E : XK), Room k A → A.guards = some [] → Env0 P w K mg base A out s H →
    BindsTo s fd ar (ps.zip us) → Vals vs us → sp vs H Q E → codeAny (model P w) A (.call (.ref f) ar) (CR CX out P w H s Q E) s
section
variable {P : Program} {w : World} {K : Fg} {mg : Str → Option Value} {base : Heap} {CX : CXT}
theorem FnG.up {j k : Nat} {f : Addr} {fd : FuncData} {ps : List Str} {sp : Sp} (F : FnG P w K mg base CX j f fd ps sp) (h : j ≤ k) : FnG P w K mg base CX k f fd ps sp :=
  ⟨F.cnt, fun A out s H ar us vs Q E hr => F.go A out s H ar us vs Q E (hr.mono h)⟩
theorem FnG.weak {k : Nat} {f : Addr} {fd : FuncData} {ps : List Str} {sp sp' : Sp} (F : FnG P w K mg base CX k f fd ps sp) (h : ∀ vs H Q E, sp' vs H Q E → sp vs H Q E) : FnG P w K mg base CX k f fd ps sp' :=
  ⟨fun vs H Q E q => F.cnt vs H Q E (h _ _ _ _ q), fun A out s H ar us vs Q E hr hg he hb hv hs => F.go A out s H ar us vs Q E hr hg he hb hv (h _ _ _ _ hs)⟩
theorem fng_none {k : Nat} {f : Addr} {fd : FuncData} {ps : List Str} : FnG P w K mg base CX k f fd ps (fun _ _ _ _ => False) :=
  ⟨fun _ _ _ _ h => h.elim, fun _ _ _ _ _ _ _ _ _ _ _ _ _ _ h => h.elim⟩
/-- a def of the text, by its body -/
theorem fng_of {k : Nat} {f : Addr} {name qual : Str} {params : Arguments} {body : List Stmt} {scope : Scope} {dV kV doc pm cdv ct oc : Value} {an od : Option Addr} {osl : Array (Option Value)} {N ps : List Str} {sp : Sp}
    (lk : K.lookup f = some ⟨oc, od, .func (PySem.W.fnOf name qual params body scope dV kV doc pm an cdv ct), osl⟩) (hcd : PySem.W.codeIn K cdv qual = true) (sc : FnScope N ps scope) (cnt : ∀ vs H Q E, sp vs H Q E → vs.length = ps.length)
    (hbody : ∀ (A : Around) (out : List Env) (s : Shared) (H : Hp) (vs : List V) (Q : VK) (E : XK), Room k (A.deeper (envOfC qual scope s.heap.objs.size f cdv)) → (A.deeper (envOfC qual scope s.heap.objs.size f cdv)).guards = some [] → sp vs H Q E →
      ∃ t, PSs (cxOf CX P w K mg base N qual scope f cdv A out s H E) body t ∧ t { nx := fun _ H' => Q .non H', rt := Q } (start N vs) H) :
    FnG P w K mg base CX (k + 1) f (PySem.W.fnOf name qual params body scope dV kV doc pm an cdv ct) ps sp := by
  refine ⟨cnt, fun A out s H ar us vs Q E room gd en bd rel want => ?_⟩
  have old : ∀ b o, base.get? b = some o → s.heap.get? b = some o := fun b o e => (en.bs b o e).1
  have kin : K.In s.heap := en.mod.kin.keeps old
  have kinds : ∀ y ∈ ps.zip us, scope.names.lookup y.1 = some .local ∨ (scope.names.lookup y.1 = some .cell ∧ ((cellsFrom (s.heap.objs.size + 1) scope.names []).lookup y.1).isSome = true) := fun y hy =>
    (sc.par y.1 (List.of_mem_zip (show (y.1, y.2) ∈ ps.zip us from hy)).1).imp id fun q => ⟨q, PySem.W.cellsFrom_some _ _ _ (.inl q)⟩
  refine codeAny_call_function room.depth (kin _ _ lk) rfl sc.co sc.gen rfl (PySem.W.codeRec_of kin hcd) (bd _ _ _ _ (wpAny_newFunctionEnv_cells sc.kind kinds fun env ee s1 x => ?_))
  subst ee
  refine ⟨(en.mod.nolimit.keeps old).keeps x.toInCall.keep, codeAny_func ?_⟩
  obtain ⟨t, ht, hq⟩ := hbody A out s H vs Q E (room.deeper _) gd want
  refine wpAny_mono (ht.run [] s1 (start N vs) H _ (inv_start sc room.hd en (cnt _ _ _ _ want) rel x) hq) (fun fl s' z => ?_) fun e s' z => z
  cases fl with
  | ret u => obtain ⟨v, σ', H', J, rv, q⟩ := z; exact ⟨v, H', J.os, J.bare, J.base, J.hok, rv, q⟩
  | next => obtain ⟨σ', H', J, q⟩ := z; exact ⟨V.non, H', J.os, J.bare, J.base, J.hok, rfl, q⟩
  | brk => obtain ⟨_, _, _, q⟩ := z; exact q.elim
  | cont => obtain ⟨_, _, _, q⟩ := z; exact q.elim
theorem fng_ok {x qual : Str} {st : Stmt} {f : Addr} {fd : FuncData} {N ps : List Str} {k : Nat} {sp : Sp} (F : Fun K x qual st f fd) (sc : FnScope N ps (defScope st)) (cnt : ∀ vs H Q E, sp vs H Q E → vs.length = ps.length)
    (hbody : ∀ (cdv : Value) (A : Around) (out : List Env) (s : Shared) (H : Hp) (vs : List V) (Q : VK) (E : XK), Room k (A.deeper (envOfC qual (defScope st) s.heap.objs.size f cdv)) → (A.deeper (envOfC qual (defScope st) s.heap.objs.size f cdv)).guards = some [] → sp vs H Q E →
      ∃ t, PSs (cxOf CX0 P w K mg base N qual (defScope st) f cdv A out s H E).nox (defBody st) t ∧ t { nx := fun _ H' => Q .non H', rt := Q } (start N vs) H) : FnG P w K mg base CX0 (k + 1) f fd ps sp := by
  obtain ⟨oc, od, kV, doc, pm, an, cdv, ct, osl, rfl, lk, hcd⟩ := F.ex
  refine fng_of lk hcd sc cnt fun A out s H vs Q E hr hg want => ?_
  obtain ⟨t, h, q⟩ := hbody cdv A out s H vs Q E hr hg want
  exact ⟨t, h.nox, q⟩
end
section
variable {X : Cx} {CX : CXT} {k : Nat} {f : Addr} {fd : FuncData} {ps : List Str} {sp : Sp} {E : XK} {x : Str} {p pos : Pos} {e : Expr} {es : List Expr} {t : TA}
theorem pe_callG (F : FnG X.prog X.w X.K X.mg X.base CX k f fd ps sp) (hr : Room k X.A) (hgd : X.A.guards = some []) (hg : Gl X x) (hm : X.mg x = some (.ref f)) (hk : PySem.W.keepIn X.K (.ref f) = true) (hb : Binds X.K fd ps []) (hx : Passes CX X E)
    (ha : PA X (e :: es) t) (hdb : (x == ("__debug__" : Str)) = false := by decide) (he : starEach (e :: es) X.env = (false, eval e X.env) :: starEach es X.env := by rfl) (hpl : (backTo pos (starEach es X.env)).any (·.1) = false := by rfl) :
    PE X (.Call (.Name x p) (e :: es) [] pos) (fun σ H Q => t σ H fun vs H1 => sp vs H1 Q E) := by
  refine ⟨fun pins s σ H Q I want => wpAny_Call_Name_kw (ld_glob I hg hm (PySem.W.callWith_K (h₀ := X.base) I.ok.mod.kin hk (thn (ha.run pos pins s σ H _ I want) fun us s1 z => ?_) he hpl) hdb)⟩
  obtain ⟨vs, H1, I1, rel, q⟩ := z
  have hl : us.length = ps.length := by rw [← rel.length]; exact F.cnt _ _ _ _ q
  have bt := hb s1 us I1.kIn (by rw [List.append_nil]; exact hl)
  rw [List.append_nil] at bt
  refine ⟨I1.kIn, wpAny_call (codeAny_mono (F.go X.A X.stack s1 H1 ⟨us, []⟩ us vs Q E hr hgd I1.env0 bt rel q) fun r s' z => ?_)⟩
  cases r with
  | error ev => exact hx pins σ H1 s1 ev s' I1 z
  | ok fl =>
    cases fl with
    | ret u => exact I1.after z
    | next => exact z.elim
    | brk => exact z.elim
    | cont => exact z.elim
end

/-! ### promises over data -/
abbrev FV := List PV → Sto → Option (PV × Sto)
abbrev FL := List PV → Sto → Option (List PyData × Sto)
def spF (K : Fg) (n : Nat) (F : FV) : Sp := fun vs H Q _ => vs.length = n ∧ (∀ t ∈ Tabs.l, TabX H t) ∧ ∃ as S ps v S', Rel K as S H ∧ Paired (VR K as H) vs ps ∧ F ps S = some (v, S') ∧ ∀ u H', Rel K as S' H' → Ext as H as H' → VR K as H' u v → Q u H'
def spL (K : Fg) (n : Nat) (F : FL) : Sp := fun vs H Q _ => vs.length = n ∧ (∀ t ∈ Tabs.l, TabX H t) ∧ ∃ as S ps ds S', Rel K as S H ∧ Paired (VR K as H) vs ps ∧ F ps S = some (ds, S') ∧ ∀ p H' ws, Rel K as S' H' → Ext as H as H' → H' p = none → DpAll K (hide as H') ws ds → Q (.ref p) (upd H' p (.lst ws))
theorem paired_len {α β : Type} {R : α → β → Prop} : ∀ {l : List α} {m : List β}, Paired R l m → l.length = m.length
  | _, _, .nil => rfl
  | _, _, .cons _ r => by rw [List.length_cons, List.length_cons, paired_len r]
def mFn (n : Nat) (F : FV) (ma : MA) : M := fun ρ S => (ma ρ S).bind fun p => if p.1.length = n then F p.1 p.2 else none
def mFnL (n : Nat) (F : FL) (ma : MA) : ML := fun ρ S => (ma ρ S).bind fun p => if p.1.length = n then F p.1 p.2 else none
section
variable {X : Cx} {k n : Nat} {f : Addr} {fd : FuncData} {ps : List Str} {x : Str} {p pos : Pos} {e : Expr} {es : List Expr} {ma : MA}
theorem de_call {F : FV} (G : FnG X.prog X.w X.K X.mg X.base CX0 k f fd ps (spF X.K n F)) (hr : Room k X.A) (hgd : X.A.guards = some []) (hg : Gl X x) (hm : X.mg x = some (.ref f)) (hk : PySem.W.keepIn X.K (.ref f) = true) (hb : Binds X.K fd ps [])
    (ha : DA X (e :: es) ma) (hdb : (x == ("__debug__" : Str)) = false := by decide) (he : starEach (e :: es) X.env = (false, eval e X.env) :: starEach es X.env := by rfl) (hpl : (backTo pos (starEach es X.env)).any (·.1) = false := by rfl) :
    DE X (.Call (.Name x p) (e :: es) [] pos) (mFn n F ma) := pe_imp (pe_callG (E := E0) G hr hgd hg hm hk hb pass0 ha hdb he hpl) fun σ H Q ⟨as, ρ, S, v, S', R, E, e, k⟩ => by
  obtain ⟨⟨xs, S1⟩, e1, e⟩ := Option.bind_eq_some_iff.mp e
  dsimp only at e
  split at e
  · rename_i hn
    refine ⟨as, ρ, S, xs, S1, R, E, e1, fun us H1 R1 E1 V1 => ?_⟩
    exact ⟨by rw [paired_len V1]; exact hn, (E.ext E1).tab, as, S1, xs, v, S', R1, V1, e, fun u H2 R2 E2 V2 => k u H2 R2 (E1.trans E2) V2⟩
  · cases e
theorem dl_call {F : FL} (G : FnG X.prog X.w X.K X.mg X.base CX0 k f fd ps (spL X.K n F)) (hr : Room k X.A) (hgd : X.A.guards = some []) (hg : Gl X x) (hm : X.mg x = some (.ref f)) (hk : PySem.W.keepIn X.K (.ref f) = true) (hb : Binds X.K fd ps [])
    (ha : DA X (e :: es) ma) (hdb : (x == ("__debug__" : Str)) = false := by decide) (he : starEach (e :: es) X.env = (false, eval e X.env) :: starEach es X.env := by rfl) (hpl : (backTo pos (starEach es X.env)).any (·.1) = false := by rfl) :
    DLs X (.Call (.Name x p) (e :: es) [] pos) (mFnL n F ma) := pe_imp (pe_callG (E := E0) G hr hgd hg hm hk hb pass0 ha hdb he hpl) fun σ H Q ⟨as, ρ, S, v, S', R, E, e, k⟩ => by
  obtain ⟨⟨xs, S1⟩, e1, e⟩ := Option.bind_eq_some_iff.mp e
  dsimp only at e
  split at e
  · rename_i hn
    refine ⟨as, ρ, S, xs, S1, R, E, e1, fun us H1 R1 E1 V1 => ?_⟩
    exact ⟨by rw [paired_len V1]; exact hn, (E.ext E1).tab, as, S1, xs, v, S', R1, V1, e, fun p H2 ws R2 E2 h2 h3 => k p H2 ws R2 (E1.trans E2) h2 h3⟩
  · cases e
/-- a list of ours is lent to a def that changes nothing; its answer holds no list -/
def flatD : PyData → Bool
  | .none | .bool _ | .int _ | .str _ => true
  | _ => false
def lend (S : Sto) : List PV → Option (List PV)
  | [] => some []
  | x :: r => (asD S x).bind fun d => (lend S r).bind fun q => some (.d d :: q)
theorem lend_vr {K : Fg} {as : List Addr} {S : Sto} {H : Hp} (R : Rel K as S H) : ∀ {us : List V} {xs ys : List PV}, Paired (VR K as H) us xs → lend S xs = some ys → Paired (VR K [] H) us ys
  | _, [], _, .nil, e => by cases e; exact .nil
  | _, x :: r, _, .cons a b, e => by
    obtain ⟨d, e1, e⟩ := Option.bind_eq_some_iff.mp e
    obtain ⟨q, e2, e⟩ := Option.bind_eq_some_iff.mp e
    cases e
    refine .cons ?_ (lend_vr R b e2)
    cases x with
    | d y =>
      cases e1
      exact dp_mono hide_sub _ _ a
    | c i =>
      obtain ⟨p, q, rfl⟩ := a
      obtain ⟨ds, hs, rfl⟩ := Option.map_eq_some_iff.mp (show (lAt S i).map _ = _ from e1)
      obtain ⟨vs, h1, h2⟩ := R.at_ i p ds q hs
      exact .lst (SqL.of (hide_some (by simp) h1)) (dpAll_mono hide_sub _ _ h2)
def mLend (n : Nat) (F : FV) (ma : MA) : M := fun ρ S => (ma ρ S).bind fun p => (lend p.2 p.1).bind fun ys => if ys.length = n then (F ys []).bind fun q => match q.1 with
    | .d y => if flatD y = true then some (.d y, p.2) else none
    | .c _ => none
  else none
theorem dp_flat {K : Fg} {H H' : Hp} {u : V} {d : PyData} (h : Dp K H u d) (f : flatD d = true) : Dp K H' u d := by
  cases h with
  | non => exact .non
  | bl b => exact .bl b
  | int i => exact .int i
  | str x => exact .str x
  | lst _ _ => cases f
  | tup _ _ => cases f
theorem de_lend {F : FV} (G : FnG X.prog X.w X.K X.mg X.base CX0 k f fd ps (spF X.K n F)) (hr : Room k X.A) (hgd : X.A.guards = some []) (hg : Gl X x) (hm : X.mg x = some (.ref f)) (hk : PySem.W.keepIn X.K (.ref f) = true) (hb : Binds X.K fd ps [])
    (ha : DA X (e :: es) ma) (hdb : (x == ("__debug__" : Str)) = false := by decide) (he : starEach (e :: es) X.env = (false, eval e X.env) :: starEach es X.env := by rfl) (hpl : (backTo pos (starEach es X.env)).any (·.1) = false := by rfl) :
    DE X (.Call (.Name x p) (e :: es) [] pos) (mLend n F ma) := pe_imp (pe_callG (E := E0) G hr hgd hg hm hk hb pass0 ha hdb he hpl) fun σ H Q ⟨as, ρ, S, v, S', R, E, e, k⟩ => by
  obtain ⟨⟨xs, S1⟩, e1, e⟩ := Option.bind_eq_some_iff.mp e
  obtain ⟨ys, e2, e⟩ := Option.bind_eq_some_iff.mp e
  dsimp only at e
  split at e
  · rename_i hn
    obtain ⟨⟨q, S3⟩, e3, e⟩ := Option.bind_eq_some_iff.mp e
    dsimp only at e
    split at e
    · rename_i y
      split at e
      · rename_i hf
        cases e
        refine ⟨as, ρ, S, xs, S', R, E, e1, fun us H1 R1 E1 V1 => ?_⟩
        have V2 := lend_vr R1 V1 e2
        refine ⟨by rw [paired_len V2]; exact hn, (E.ext E1).tab, [], [], ys, .d y, S3, .nilR H1, V2, e3, fun u H2 R2 E2 V3 => ?_⟩
        have sm : ∀ a o, H1 a = some o → noTb o = true → H2 a = some o := fun a o z t => E2.keep a o (by simp) z t
        have hkind : ∀ a ∈ as, (∃ vs, H2 a = some (.lst vs)) → ∃ vs, H1 a = some (.lst vs) := fun a ha q => by
          rcases R1.mem ha with z | ⟨es, z⟩ | ⟨o, es, z⟩
          · exact z
          · obtain ⟨vs, q⟩ := q
            rw [sm a _ z rfl] at q
            cases q
          · obtain ⟨vs, q⟩ := q
            rw [sm a _ z rfl] at q
            cases q
        have hlock : ∀ a ∈ as, ∀ o u, H1 a = some (.frz o u) → H2 a = some (.frz o u) := fun a ha o u q => by
          rcases R1.mem ha with ⟨vs, z⟩ | ⟨es, z⟩ | ⟨o', es, z⟩
          · rw [z] at q; cases q
          · rw [z] at q; cases q
          · rw [z] at q
            cases q
            exact sm a _ z rfl
        have E3 : Ext as H1 as H2 := ⟨⟨[], by simp⟩, fun b z nz => absurd z nz, fun a o _ z t => sm a o z t, E2.tab, fun a o _ z => E2.there a o (by simp) z, hkind, hlock⟩
        refine k u H2 ⟨R1.nd, R1.len, fun i a ds z1 z2 => ?_⟩ (E1.trans E3) (dp_flat V3 hf)
        exact (R1.cell i a ds z1 z2).kept E3.same (sm a)
      · cases e
    · cases e
  · cases e
end

/-! ### built-in calls -/
def CallD (K : Fg) (r : List V → Hp → VK → Prop) (f : List PV → Sto → Option PV) : Prop := ∀ (as : List Addr) (S : Sto) (H : Hp) (us : List V) (vs : List PV) (z : PV) (Q : VK), Rel K as S H → Paired (VR K as H) us vs → f vs S = some z →
  (∀ v H', Rel K as S H' → Ext as H as H' → VR K as H' v z → Q v H') → r us H Q
def CallL (K : Fg) (r : List V → Hp → VK → Prop) (f : List PV → Sto → Option (List PyData)) : Prop := ∀ (as : List Addr) (S : Sto) (H : Hp) (us : List V) (vs : List PV) (z : List PyData) (Q : VK), Rel K as S H → Paired (VR K as H) us vs → f vs S = some z →
  (∀ p H' ws, Rel K as S H' → Ext as H as H' → H' p = none → DpAll K (hide as H') ws z → Q (.ref p) (upd H' p (.lst ws))) → r us H Q
def mCall (f : List PV → Sto → Option PV) (ma : MA) : M := fun ρ S => (ma ρ S).bind fun p => (f p.1 p.2).bind fun z => some (z, p.2)
def mCallL (f : List PV → Sto → Option (List PyData)) (ma : MA) : ML := fun ρ S => (ma ρ S).bind fun p => (f p.1 p.2).bind fun z => some (z, p.2)
section
variable {X : Cx} {x : Str} {p pos : Pos} {e : Expr} {es : List Expr} {ma : MA} {id T : String} {r : List V → Hp → VK → Prop}
theorem tCB_D {f} (hd : CallD X.K r f) : ∀ σ H Q, tM X.K (mCall f ma) σ H Q → tCB r (tMA X.K ma) σ H Q := fun σ H Q ⟨as, ρ, S, v, S', R, E, e, k⟩ => by
  obtain ⟨⟨xs, S1⟩, e1, e⟩ := Option.bind_eq_some_iff.mp e
  obtain ⟨z, e2, e⟩ := Option.bind_eq_some_iff.mp e
  cases e
  exact ⟨as, ρ, S, xs, S1, R, E, e1, fun us H1 R1 E1 V1 => hd as S1 H1 us xs _ Q R1 V1 e2 fun v H2 R2 E2 V2 => k v H2 R2 (E1.trans E2) V2⟩
theorem tCB_L {f} (hd : CallL X.K r f) : ∀ σ H Q, tL X.K (mCallL f ma) σ H Q → tCB r (tMA X.K ma) σ H Q := fun σ H Q ⟨as, ρ, S, v, S', R, E, e, k⟩ => by
  obtain ⟨⟨xs, S1⟩, e1, e⟩ := Option.bind_eq_some_iff.mp e
  obtain ⟨z, e2, e⟩ := Option.bind_eq_some_iff.mp e
  cases e
  exact ⟨as, ρ, S, xs, S1, R, E, e1, fun us H1 R1 E1 V1 => hd as S1 H1 us xs _ Q R1 V1 e2 fun v H2 ws R2 E2 V2 => k v H2 ws R2 (E1.trans E2) V2⟩
theorem de_cb {f} (hc : CallR X (.builtin id) r) (hd : CallD X.K r f) (hg : Gl X x) (hm : X.mg x = none) (hv : bootBuiltins x = some (.builtin id)) (ha : DA X (e :: es) ma) (hn : x ≠ "__name__" := by decide) (hdb : (x == ("__debug__" : Str)) = false := by decide)
    (he : starEach (e :: es) X.env = (false, eval e X.env) :: starEach es X.env := by rfl) (hpl : (backTo pos (starEach es X.env)).any (·.1) = false := by rfl) : DE X (.Call (.Name x p) (e :: es) [] pos) (mCall f ma) := pe_imp (pe_callB hc hg hm hv ha hn hdb he hpl) (tCB_D hd)
theorem de_ct {f} (hc : CallR X (.type T) r) (hd : CallD X.K r f) (hg : Gl X x) (hm : X.mg x = none) (hv : bootBuiltins x = some (.type T)) (ha : DA X (e :: es) ma) (hn : x ≠ "__name__" := by decide) (hdb : (x == ("__debug__" : Str)) = false := by decide)
    (he : starEach (e :: es) X.env = (false, eval e X.env) :: starEach es X.env := by rfl) (hpl : (backTo pos (starEach es X.env)).any (·.1) = false := by rfl) : DE X (.Call (.Name x p) (e :: es) [] pos) (mCall f ma) := pe_imp (pe_callTy hc hg hm hv ha hn hdb he hpl) (tCB_D hd)
theorem dl_ct {f} (hc : CallR X (.type T) r) (hd : CallL X.K r f) (hg : Gl X x) (hm : X.mg x = none) (hv : bootBuiltins x = some (.type T)) (ha : DA X (e :: es) ma) (hn : x ≠ "__name__" := by decide) (hdb : (x == ("__debug__" : Str)) = false := by decide)
    (he : starEach (e :: es) X.env = (false, eval e X.env) :: starEach es X.env := by rfl) (hpl : (backTo pos (starEach es X.env)).any (·.1) = false := by rfl) : DLs X (.Call (.Name x p) (e :: es) [] pos) (mCallL f ma) := pe_imp (pe_callTy hc hg hm hv ha hn hdb he hpl) (tCB_L hd)
end
end DL

namespace DL
open PySem PySem.Spec PyProof.Rows L2 DK
variable [Nms] [Tabs]

/-! ### len, abs, min, max, sum -/
def cLen : List PV → Sto → Option PV := fun vs S => match vs with
  | [x] => match asD S x with
    | some (.list xs) => some (.d (.int xs.length))
    | some (.tuple xs) => some (.d (.int xs.length))
    | some (.str z) => if z.length ≤ 1000000 then some (.d (.int z.length)) else none
    | _ => none
  | _ => none
theorem paired1 {K : Fg} {as : List Addr} {H : Hp} {us : List V} {x : PV} (h : Paired (VR K as H) us [x]) : ∃ u, us = [u] ∧ VR K as H u x := by
  cases h with
  | cons a b =>
    cases b
    exact ⟨_, rfl, a⟩
theorem paired2 {K : Fg} {as : List Addr} {H : Hp} {us : List V} {x y : PV} (h : Paired (VR K as H) us [x, y]) : ∃ u v, us = [u, v] ∧ VR K as H u x ∧ VR K as H v y := by
  cases h with
  | cons a b =>
    cases b with
    | cons c d =>
      cases d
      exact ⟨_, _, rfl, a, c⟩
theorem cd_len {K : Fg} : CallD K (fun xs H Q => ∃ x n, xs = [x] ∧ LenV K x H n ∧ Q (.int n) H) cLen := by
  intro as S H us vs z Q R V1 e k
  unfold cLen at e
  split at e
  · rename_i x
    obtain ⟨u, rfl, V⟩ := paired1 V1
    split at e
    · rename_i ds q
      cases e
      have h := asD_dp R V q
      cases h with
      | lst s a => exact ⟨_, ds.length, rfl, .inl ⟨_, s, (dpAll_len a).symm⟩, k _ H R .refl (.int _)⟩
    · rename_i ds q
      cases e
      have h := asD_dp R V q
      cases h with
      | tup s a => exact ⟨_, ds.length, rfl, .inr ⟨_, s, (dpAll_len a).symm⟩, k _ H R .refl (.int _)⟩
    · rename_i z q
      split at e
      · rename_i hz
        cases e
        have h := asD_dp R V q
        cases h
        exact ⟨_, z.length, rfl, ⟨million hz, rfl⟩, k _ H R .refl (.int _)⟩
      · cases e
    · cases e
  · cases e
def cAbs : List PV → Sto → Option PV := fun vs _ => match vs with
  | [.d (.int i)] => some (.d (.int (if i < 0 then -i else i)))
  | _ => none
theorem cd_abs {K : Fg} : CallD K (fun xs H Q => ∃ i, xs = [.int i] ∧ Q (.int (if i < 0 then -i else i)) H) cAbs := by
  intro as S H us vs z Q R V1 e k
  unfold cAbs at e
  split at e
  · rename_i i
    obtain ⟨u, rfl, V⟩ := paired1 V1
    cases V
    cases e
    exact ⟨i, rfl, k _ H R .refl (.int _)⟩
  · cases e
def cMax : List PV → Sto → Option PV := fun vs _ => match vs with
  | [.d (.int i), .d (.int j)] => some (.d (.int (if j > i then j else i)))
  | _ => none
def cMin : List PV → Sto → Option PV := fun vs _ => match vs with
  | [.d (.int i), .d (.int j)] => some (.d (.int (if j < i then j else i)))
  | _ => none
theorem cd_max {K : Fg} : CallD K (fun xs H Q => ∃ i j, xs = [.int i, .int j] ∧ Q (.int (if j > i then j else i)) H) cMax := by
  intro as S H us vs z Q R V1 e k
  unfold cMax at e
  split at e
  · rename_i i j
    obtain ⟨u, v, rfl, V, V'⟩ := paired2 V1
    cases V
    cases V'
    cases e
    exact ⟨i, j, rfl, k _ H R .refl (.int _)⟩
  · cases e
theorem cd_min {K : Fg} : CallD K (fun xs H Q => ∃ i j, xs = [.int i, .int j] ∧ Q (.int (if j < i then j else i)) H) cMin := by
  intro as S H us vs z Q R V1 e k
  unfold cMin at e
  split at e
  · rename_i i j
    obtain ⟨u, v, rfl, V, V'⟩ := paired2 V1
    cases V
    cases V'
    cases e
    exact ⟨i, j, rfl, k _ H R .refl (.int _)⟩
  · cases e
def intsOf : List PyData → Option (List Int)
  | [] => some []
  | .int i :: r => (intsOf r).map (i :: ·)
  | _ :: _ => none
theorem intsOf_some : ∀ {ds : List PyData} {ns : List Int}, intsOf ds = some ns → ds = ns.map .int
  | [], ns, h => by cases h; rfl
  | d :: r, ns, h => by
    cases d with
    | int i =>
      obtain ⟨l, e1, e2⟩ := Option.map_eq_some_iff.mp h
      subst e2
      rw [intsOf_some e1]
      rfl
    | _ => cases h
theorem intsOf_map : ∀ ns : List Int, intsOf (ns.map .int) = some ns
  | [] => rfl
  | n :: r => by
    show (intsOf (r.map .int)).map (n :: ·) = _
    rw [intsOf_map r]
    rfl
section
variable {X : Cx}
/-- sum of a tuple of ints -/
def rSumT (K : Fg) : List V → Hp → VK → Prop := fun vs H Q => ∃ (a : Addr) (ns : List Int), vs = [V.ref a] ∧ SqT K H a (ns.map V.int) ∧ Q (.int ns.sum) H
theorem sum_tup_raw {prog : Program} {w : World} {A : Around} {E : Value → Shared → Prop} {s : Shared} {l : Addr} {its : List Value} {ns : List Int} {Q : Value → Shared → Prop} (hh : A.handled = none) (hl : s.heap.IsTuple l its.toArray) (hi : IntsAre its ns)
    (h : ∀ h' tk t', (∀ b o, s.heap.get? b = some o → h'.get? b = some o) → Q (.int ns.sum t') { s with heap := h', toks := tk }) : wpAny (model prog w) A (call (.builtin "sum") [.ref l]) Q E s := by
  obtain ⟨xs, e⟩ := hi.allInts.items
  have hn : numsOf (intItems xs).toList = ns := by rw [← e]; exact hi.numsOf
  rw [nums_intItems] at hn
  rw [e] at hl
  have hlt : l < s.heap.objs.size := by obtain ⟨_, q, _⟩ := hl; exact Heap.lt_size q
  refine call_sum_walkG (wpAny_pyIter_tuple hl ⟨_, _, _, _, _, _, numAt xs, rfl, Walks.tuple (A := A.in1) hh _ l (Nat.ne_of_lt hlt) (intItems xs), ⟨⟨_, Heap.get?_push_size _ rfl, rfl, rfl⟩, ?_⟩, ?_, (fun _ _ => intItems_at), fun h' tk t' hk => ?_⟩)
  · exact hl.push _
  · intro b hb
    show b < (s.heap.push _).objs.size
    rw [Heap.size_push]
    rcases List.mem_cons.mp hb with rfl | hb
    · exact Nat.lt_succ_self _
    · rcases List.mem_cons.mp hb with rfl | hb
      · exact Nat.lt_succ_of_lt hlt
      · cases hb
  · have z := h h' tk t' fun b o q => hk b o (fun z => absurd (Heap.lt_size q) (by rw [List.mem_singleton.mp z]; exact Nat.lt_irrefl _)) (Heap.get?_push_of_some _ q)
    have zs : (intItems xs).size = xs.size := by simp [intItems]
    rw [zs, preSum_eq, List.take_of_length_le (by simp), hn]
    exact z
theorem cr_sumT (hc : X.calm = true) : CallR X (.builtin "sum") (rSumT X.K) := by
  intro pins s σ H vs us Q I r h
  obtain ⟨a, ns, rfl, hs, q⟩ := h
  obtain ⟨its, rv, hl, _⟩ := I.tuple hs
  rw [Vals.ref1 r]
  exact sum_tup_raw (I.ok.hd hc) hl rv.ints fun h' tk t' hk => ⟨.int _, H, I.kept hk, ⟨_, rfl⟩, q⟩
end
def rSumA (K : Fg) : List V → Hp → VK → Prop := fun vs H Q => rSum K vs H Q ∨ rSumT K vs H Q
def cSum : List PV → Sto → Option PV := fun vs S => match vs with
  | [x] => (itemsOf S x).bind fun ds => (intsOf ds).map fun ns => .d (.int ns.sum)
  | _ => none
theorem cd_sum {K : Fg} : CallD K (rSumA K) cSum := by
  intro as S H us vs z Q R V1 e k
  unfold cSum at e
  split at e
  · rename_i x
    obtain ⟨u, rfl, V⟩ := paired1 V1
    obtain ⟨ds, e1, e⟩ := Option.bind_eq_some_iff.mp e
    obtain ⟨ns, e2, e⟩ := Option.map_eq_some_iff.mp e
    subst e
    obtain ⟨a, ws, rfl, hs, hd⟩ := items_at R V e1
    rw [intsOf_some e2] at hd
    have := dpAll_ints_inv hd
    subst this
    rcases hs with hs | hs
    · exact .inl ⟨a, ns, rfl, hs, k _ H R .refl (.int _)⟩
    · exact .inr ⟨a, ns, rfl, hs, k _ H R .refl (.int _)⟩
  · cases e

/-! ### list(..), tuple(..), int(..), str(..) -/
def cList : List PV → Sto → Option (List PyData) := fun vs S => match vs with
  | [x] => itemsOf S x
  | _ => none
theorem cl_list {K : Fg} : CallL K (fun xs H Q => ∃ p ys, xs = [.ref p] ∧ (SqL K H p ys ∨ SqT K H p ys) ∧ ∀ l, H l = none → Q (.ref l) (upd H l (.lst ys))) cList := by
  intro as S H us vs z Q R V1 e k
  unfold cList at e
  split at e
  · obtain ⟨u, rfl, V⟩ := paired1 V1
    obtain ⟨a, ws, rfl, hs, hd⟩ := items_at R V e
    exact ⟨a, ws, rfl, hs, fun l hl => k l H ws R .refl hl hd⟩
  · cases e
def cTuple : List PV → Sto → Option PV := fun vs S => match vs with
  | [x] => (itemsOf S x).map fun ds => .d (.tuple ds)
  | _ => none
theorem cd_tuple {K : Fg} : CallD K (fun xs H Q => ∃ p ys, xs = [.ref p] ∧ ((SqL K H p ys ∧ NewT H ys Q) ∨ (SqT K H p ys ∧ Q (.ref p) H))) cTuple := by
  intro as S H us vs z Q R V1 e k
  unfold cTuple at e
  split at e
  · rename_i x
    obtain ⟨u, rfl, V⟩ := paired1 V1
    obtain ⟨ds, e1, e⟩ := Option.map_eq_some_iff.mp e
    subst e
    cases x with
    | d y =>
      cases y with
      | list xs =>
        cases e1
        cases V with
        | lst s a => exact ⟨_, _, rfl, .inl ⟨hide_same.seq s, tuple_new R a k⟩⟩
      | tuple xs =>
        cases e1
        cases V with
        | tup s a => exact ⟨_, _, rfl, .inr ⟨sqT_mono hide_same s, k _ H R .refl (.tup s a)⟩⟩
      | _ => cases e1
    | c i =>
      obtain ⟨a, q, rfl⟩ := V
      obtain ⟨ws, h1, h2⟩ := R.at_ i a ds q e1
      exact ⟨_, _, rfl, .inl ⟨SqL.of h1, tuple_new R h2 k⟩⟩
  · cases e
def cInt : List PV → Sto → Option PV := fun vs _ => match vs with
  | [.d (.int i)] => some (.d (.int i))
  | [.d (.bool b)] => some (.d (.int (if b then 1 else 0)))
  | _ => none
theorem cd_int {K : Fg} : CallD K (fun xs H Q => (∃ i, xs = [.int i] ∧ Q (.int i) H) ∨ ∃ k, xs = [.bl k] ∧ Q (.int (if k then 1 else 0)) H) cInt := by
  intro as S H us vs z Q R V1 e k
  unfold cInt at e
  split at e
  · obtain ⟨u, rfl, V⟩ := paired1 V1
    cases V
    cases e
    exact .inl ⟨_, rfl, k _ H R .refl (.int _)⟩
  · obtain ⟨u, rfl, V⟩ := paired1 V1
    cases V
    cases e
    exact .inr ⟨_, rfl, k _ H R .refl (.int _)⟩
  · cases e
def cStr : List PV → Sto → Option PV := fun vs _ => match vs with
  | [.d (.int i)] => if i.natAbs.log2 < 1920 then some (.d (.str (toString i))) else none
  | _ => none
theorem cd_str {K : Fg} : CallD K (fun xs H Q => ∃ i, xs = [.int i] ∧ i.natAbs.log2 < 1920 ∧ Q (.str (toString i)) H) cStr := by
  intro as S H us vs z Q R V1 e k
  unfold cStr at e
  split at e
  · obtain ⟨u, rfl, V⟩ := paired1 V1
    split at e
    · rename_i hz
      cases V
      cases e
      exact ⟨_, rfl, hz, k _ H R .refl (.str _)⟩
    · cases e
  · cases e

/-! ### repr -/
def rRepr (K : Fg) : List V → Hp → VK → Prop := fun xs H Q => ∃ x d, xs = [x] ∧ Dp K H x d ∧ d.showable = true ∧ d.hasDict = false ∧ d.depth ≤ 40 ∧ d.shown.length ≤ sizeLine ∧ Q (.str d.shown) H
theorem call_reprA {X : Cx} {k : Nat} (hr : Room k X.A) (hgd : X.A.guards = some []) : CallR X (.builtin "repr") (rRepr X.K) := by
  intro pins s σ H vs us Q I r h
  obtain ⟨x, d, rfl, hd, h1, h2, h3, h4, q⟩ := h
  have hu := hr.units
  cases hd with
  | non =>
    obtain ⟨u, rfl, rx⟩ := vals1 r
    cases (show u = Value.none from rx)
    exact PySem.P.repr_of_none ⟨.str _, H, I.tok _, ⟨_, rfl⟩, q⟩
  | bl b =>
    obtain ⟨u, rfl, rx⟩ := vals1 r
    cases (show u = Value.bool b from rx)
    exact PySem.P.repr_of_bool ⟨.str _, H, I.tok _, ⟨_, rfl⟩, q⟩
  | int i =>
    obtain ⟨u, rfl, rx⟩ := vals1 r
    obtain ⟨t, rfl⟩ := (show ∃ t, u = Value.int i t from rx)
    exact PySem.P.repr_of_int (by simpa [PyData.showable] using h1) ⟨.str _, H, I.tok _, ⟨_, rfl⟩, q⟩
  | str z =>
    obtain ⟨u, rfl, rx⟩ := vals1 r
    obtain ⟨t, rfl⟩ := (show ∃ t, u = Value.str z t from rx)
    exact PySem.P.repr_of_str ⟨.str _, H, I.tok _, ⟨_, rfl⟩, q⟩ h4
  | lst sq al =>
    rename_i a xs ds
    obtain ⟨u, rfl, rx⟩ := vals1 r
    cases (show u = Value.ref a from rx)
    obtain ⟨as, rd⟩ := Dp.reads I _ _ _ (.lst sq al) rx
    refine repr_of_reads' rd h1 (fun z => ?_) hgd (by omega) (fun _ _ z => z) (fun h' u tk hk => ⟨.str _, H, I.kept hk, ⟨_, rfl⟩, q⟩) h4
    rw [h2] at z
    cases z
  | tup sq al =>
    rename_i a xs ds
    obtain ⟨u, rfl, rx⟩ := vals1 r
    cases (show u = Value.ref a from rx)
    obtain ⟨as, rd⟩ := Dp.reads I _ _ _ (.tup sq al) rx
    refine repr_of_reads' rd h1 (fun z => ?_) hgd (by omega) (fun _ _ z => z) (fun h' u tk hk => ⟨.str _, H, I.kept hk, ⟨_, rfl⟩, q⟩) h4
    rw [h2] at z
    cases z
def reprOk (d : PyData) : Bool := d.showable && !d.hasDict && decide (d.depth ≤ 40) && decide (d.shown.length ≤ 16777216)
def cRepr : List PV → Sto → Option PV := fun vs S => match vs with
  | [x] => (asD S x).bind fun d => if reprOk d = true then some (.d (.str d.shown)) else none
  | _ => none
theorem cd_repr {K : Fg} : CallD K (rRepr K) cRepr := by
  intro as S H us vs z Q R V1 e k
  unfold cRepr at e
  split at e
  · obtain ⟨u, rfl, V⟩ := paired1 V1
    obtain ⟨d, e1, e⟩ := Option.bind_eq_some_iff.mp e
    split at e
    · rename_i hz
      cases e
      unfold reprOk at hz
      simp only [Bool.and_eq_true, Bool.not_eq_true', decide_eq_true_eq] at hz
      exact ⟨u, d, rfl, asD_dp R V e1, hz.1.1.1, hz.1.1.2, hz.1.2, by rw [sizeLine_eq]; exact hz.2, k _ H R .refl (.str _)⟩
    · cases e
  · cases e
end DL

namespace DL
open PySem PySem.Spec PyProof.Rows L2 DK
variable [Nms] [Tabs]

/-! ### isinstance of built-in classes -/
inductive Kd where
  | int | bool | str | tuple | list
def Kd.nm : Kd → String
  | .int => "int"
  | .bool => "bool"
  | .str => "str"
  | .tuple => "tuple"
  | .list => "list"
def tyNm : PyData → String
  | .none => "NoneType"
  | .bool _ => "bool"
  | .int _ => "int"
  | .str _ => "str"
  | .list _ => "list"
  | .tuple _ => "tuple"
  | .dict _ => "dict"
def isK : PyData → Kd → Bool
  | .int _, .int => true
  | .bool _, .int => true
  | .bool _, .bool => true
  | .str _, .str => true
  | .tuple _, .tuple => true
  | .list _, .list => true
  | _, _ => false
def allKd : List Kd := [.int, .bool, .str, .tuple, .list]
theorem kitTab : (["NoneType", "bool", "int", "str", "list", "tuple"].all fun a => ["int", "bool", "str", "tuple", "list"].all fun b =>
    kitB a b == some (a == b || (a == "bool" && b == "int"))) = true := by decide +kernel
theorem kit_isK {d : PyData} (h : ∀ kvs, d ≠ .dict kvs) (k : Kd) : kitB (tyNm d) k.nm = some (isK d k) := by
  have t := kitTab
  simp only [List.all_cons, List.all_nil, Bool.and_true, Bool.and_eq_true, beq_iff_eq] at t
  cases d with
  | dict kvs => exact absurd rfl (h kvs)
  | none => cases k <;> simp only [tyNm, Kd.nm, isK] <;> simp_all
  | bool b => cases k <;> simp only [tyNm, Kd.nm, isK] <;> simp_all
  | int b => cases k <;> simp only [tyNm, Kd.nm, isK] <;> simp_all
  | str b => cases k <;> simp only [tyNm, Kd.nm, isK] <;> simp_all
  | list b => cases k <;> simp only [tyNm, Kd.nm, isK] <;> simp_all
  | tuple b => cases k <;> simp only [tyNm, Kd.nm, isK] <;> simp_all
theorem dp_ty {K : Fg} {H : Hp} {u : V} {d : PyData} (h : Dp K H u d) : TyX K H u (.type (tyNm d)) := by
  cases h with
  | non => exact .base .non
  | bl b => exact .base (.bl b)
  | int i => exact .base (.int i)
  | str x => exact .base (.str x)
  | lst s a =>
    rcases s with (s | ⟨o, s⟩) | ⟨o, its, n, s, c, _⟩
    · exact .base (.lst s)
    · exact .base (.frz s)
    · exact .kList s c
  | tup s a =>
    rcases s with (s | ⟨o, s⟩) | ⟨o, its, n, s, c, _⟩
    · exact .base (.tup s)
    · exact .fTuple s
    · exact .kTuple s c
theorem dp_nodict {K : Fg} {H : Hp} {u : V} {d : PyData} (h : Dp K H u d) : ∀ kvs, d ≠ .dict kvs := fun kvs e => by
  subst e
  cases h
def mIsi (k : Kd) (ma : M) : M := fun ρ S => (ma ρ S).bind fun p => (asD p.2 p.1).bind fun d => some (.d (.bool (isK d k)), p.2)
section
variable {X : Cx} {p pos q : Pos} {e : Expr} {T : Str} {m : M}
theorem de_isi (k : Kd) (he : DE X e m) (hg : Gl X "isinstance") (hm : X.mg "isinstance" = none) (hg2 : Gl X T) (hm2 : X.mg T = none) (hb : bootBuiltins T = some (.type k.nm))
    (n2 : T ≠ "__name__" := by decide) (d2 : (T == ("__debug__" : Str)) = false := by decide)
    (s1 : starEach [e, .Name T q] X.env = (false, eval e X.env) :: starEach [.Name T q] X.env := by rfl) (s2 : starEach [.Name T q] X.env = (false, eval (.Name T q) X.env) :: starEach [] X.env := by rfl)
    (hpl : (backTo pos (starEach [.Name T q] X.env)).any (·.1) = false := by rfl) : DE X (.Call (.Name "isinstance" p) [e, .Name T q] [] pos) (mIsi k m) :=
  pe_imp (pe_callB call_isi hg hm boot_isinstance (pa_cons he (pa_cons (pe_bltn (v := .ty k.nm) hg2 hm2 hb rfl n2 d2) pa_nil s2) s1) (by decide) (by decide) s1 hpl) fun σ H Q ⟨as, ρ, S, v, S', R, E, e, kk⟩ => by
    obtain ⟨⟨x, S1⟩, e1, e⟩ := Option.bind_eq_some_iff.mp e
    obtain ⟨d, e2, e⟩ := Option.bind_eq_some_iff.mp e
    cases e
    refine ⟨as, ρ, S, x, S1, R, E, e1, fun u H1 R1 E1 V1 => ?_⟩
    have hd := asD_dp R1 V1 e2
    exact ⟨u, .ty k.nm, _, _, isK d k, rfl, .ty _, dp_ty hd, kit_ty (kit_isK (dp_nodict hd) k), kk _ H1 R1 E1 (.bl _)⟩
end

/-! ### subscripts -/
def fIx : PV → PV → Sto → Option PV := fun x y S => match y with
  | .d (.int i) => match x with
    | .d (.str z) => if z.length ≤ 1000000 then (atI z.cps.toList i).map fun c => .d (.str ⟨#[c]⟩) else none
    | x => (itemsOf S x).bind fun ds => (atI ds i).map .d
  | _ => none
theorem ixN_lt {n : Nat} {i : Int} {j : Nat} (h : ixN n i = some j) : j < n := (ixN_seq h).2.1
theorem atI_dp {K : Fg} {H : Hp} {vs : List V} {ds : List PyData} {i : Int} {d : PyData} (h : DpAll K H vs ds) (e : atI ds i = some d) : ∃ v, atI vs i = some v ∧ Dp K H v d := by
  unfold atI at e ⊢
  obtain ⟨j, e1, e2⟩ := Option.bind_eq_some_iff.mp e
  obtain ⟨v, a, b⟩ := dpAll_get h e2
  exact ⟨v, by rw [dpAll_len h, e1]; exact a, b⟩
theorem opD_ix {K : Fg} : OpD K (rIx K) fIx := by
  intro as S H u w x y z Q R V1 V2 e k
  unfold fIx at e
  split at e
  · rename_i i
    cases V2
    split at e
    · rename_i zz
      split at e
      · rename_i hz
        obtain ⟨c, e1, e⟩ := Option.map_eq_some_iff.mp e
        subst e
        cases V1
        exact .inr (.inr ⟨zz, i, c, rfl, rfl, million hz, e1, k _ H R .refl (.str _)⟩)
      · cases e
    · obtain ⟨ds, e1, e⟩ := Option.bind_eq_some_iff.mp e
      obtain ⟨d, e2, e⟩ := Option.map_eq_some_iff.mp e
      subst e
      obtain ⟨a, ws, rfl, hs, hd⟩ := items_at R V1 e1
      obtain ⟨v, e3, hv⟩ := atI_dp hd e2
      rcases hs with hs | hs
      · exact .inl ⟨a, ws, i, v, rfl, rfl, hs, e3, k _ H R .refl hv⟩
      · exact .inr (.inl ⟨a, ws, i, v, rfl, rfl, hs, e3, k _ H R .refl hv⟩)
  · cases e
section
variable {X : Cx} {a b : Expr} {ma mb : M} {pos : Pos}
theorem de_at (ha : DE X a ma) (hb : DE X b mb) (hs : PlainIx b := by intro _ _; rfl) : DE X (.Subscript a b pos) (mOp fIx ma mb) := de_ix ix_seq opD_ix ha hb hs
end

/-! ### slices -/
abbrev MO := RE → Sto → Option (Option Int × Sto)
def tMO (K : Fg) (m : MO) : TO := fun σ H Q => ∃ as ρ S o S', Rel K as S H ∧ ER K as H σ ρ ∧ m ρ S = some (o, S') ∧ ∀ H', Rel K as S' H' → Ext as H as H' → Q o H'
def oNone : MO := fun _ S => some (none, S)
def oSome (m : M) : MO := fun ρ S => (m ρ S).bind fun p => match p.1 with
  | .d (.int i) => some (some i, p.2)
  | _ => none
theorem po_imp {X : Cx} {e : Option Expr} {t t' : TO} (h : PO X e t) (w : ∀ σ H Q, t' σ H Q → t σ H Q) : PO X e t' := ⟨fun pins s σ H Q I q => h.run pins s σ H Q I (w _ _ _ q)⟩
section
variable {X : Cx} {e : Expr} {lo hi : Option Expr} {m : M} {ml mh : MO} {pos p2 : Pos}
theorem do_none : PO X none (tMO X.K oNone) := po_imp po_none fun σ H Q ⟨as, ρ, S, v, S', R, E, e, k⟩ => by
  cases e
  exact k H R .refl
theorem do_some (h : DE X e m) : PO X (some e) (tMO X.K (oSome m)) := po_imp (po_some h) fun σ H Q ⟨as, ρ, S, v, S', R, E, e, k⟩ => by
  obtain ⟨⟨x, S1⟩, e1, e⟩ := Option.bind_eq_some_iff.mp e
  refine ⟨as, ρ, S, x, S1, R, E, e1, fun u H1 R1 E1 V1 => ?_⟩
  dsimp only at e
  split at e
  · rename_i i
    cases e
    cases V1
    exact ⟨i, rfl, k H1 R1 E1⟩
  · cases e
/-- what a slice takes -/
def cut {α : Type} (xs : List α) (lo hi : Option Int) : List α := (xs.drop (HT.sIx xs.length 0 lo)).take (HT.sIx xs.length xs.length hi - HT.sIx xs.length 0 lo)
theorem cut_whole {α : Type} {xs : List α} {lo hi : Option Int} (hw : HT.sIx xs.length 0 lo = 0 ∧ HT.sIx xs.length xs.length hi = xs.length) : cut xs lo hi = xs := by
  unfold cut
  rw [hw.1, hw.2]
  simp
theorem cut_dp {K : Fg} {H : Hp} {vs : List V} {ds : List PyData} (lo hi : Option Int) (h : DpAll K H vs ds) : DpAll K H (cutV vs lo hi) (cut ds lo hi) := by
  unfold cutV cut
  rw [dpAll_len h]
  exact dpAll_take _ (dpAll_drop _ h)
def mSl (m : M) (ml mh : MO) : M := fun ρ S => (m ρ S).bind fun p => (ml ρ p.2).bind fun l => (mh ρ l.2).bind fun h => match p.1 with
  | .d (.tuple xs) => some (.d (.tuple (cut xs l.1 h.1)), h.2)
  | .d (.str z) => if z.length ≤ 1000000 then some (.d (.str (cutS z l.1 h.1)), h.2) else none
  | _ => none
def mSlL (m : M) (ml mh : MO) : ML := fun ρ S => (m ρ S).bind fun p => (ml ρ p.2).bind fun l => (mh ρ l.2).bind fun h => match asD h.2 p.1 with
  | some (.list xs) => some (cut xs l.1 h.1, h.2)
  | _ => none
theorem dl_slice (he : DE X e m) (hl : PO X lo (tMO X.K ml)) (hh : PO X hi (tMO X.K mh)) : DLs X (.Subscript e (.Slice lo hi none p2) pos) (mSlL m ml mh) := pe_imp (pe_slice sl_list he hl hh) fun σ H Q ⟨as, ρ, S, v, S', R, E, e, k⟩ => by
  obtain ⟨⟨x, S1⟩, e1, e⟩ := Option.bind_eq_some_iff.mp e
  obtain ⟨⟨l, S2⟩, e2, e⟩ := Option.bind_eq_some_iff.mp e
  obtain ⟨⟨h, S3⟩, e3, e⟩ := Option.bind_eq_some_iff.mp e
  refine ⟨as, ρ, S, x, S1, R, E, e1, fun u H1 R1 E1 V1 => ⟨as, ρ, S1, l, S2, R1, E.ext E1, e2, fun H2 R2 E2 => ⟨as, ρ, S2, h, S3, R2, E.ext (E1.trans E2), e3, fun H3 R3 E3 => ?_⟩⟩⟩
  dsimp only at e
  split at e
  · rename_i xs q
    cases e
    obtain ⟨a, ws, rfl, hs, hd⟩ := list_at R3 (V1.ext (E2.trans E3)) q
    exact ⟨a, ws, rfl, hs, fun p hp => k p H3 _ R3 (E1.trans (E2.trans E3)) hp (cut_dp l h hd)⟩
  · cases e
def rSlX (K : Fg) : V → Option Int → Option Int → Hp → VK → Prop := fun x lo hi H Q => rSlF K x lo hi H Q ∨ ∃ z, x = .str z ∧ z.length ≤ sizeLine ∧ Q (.str (cutS z lo hi)) H
theorem sl_X : SlR X (rSlX X.K) := sl_tupF.or sl_str
theorem de_slice (he : DE X e m) (hl : PO X lo (tMO X.K ml)) (hh : PO X hi (tMO X.K mh)) : DE X (.Subscript e (.Slice lo hi none p2) pos) (mSl m ml mh) := pe_imp (pe_slice sl_X he hl hh) fun σ H Q ⟨as, ρ, S, v, S', R, E, e, k⟩ => by
  obtain ⟨⟨x, S1⟩, e1, e⟩ := Option.bind_eq_some_iff.mp e
  obtain ⟨⟨l, S2⟩, e2, e⟩ := Option.bind_eq_some_iff.mp e
  obtain ⟨⟨h, S3⟩, e3, e⟩ := Option.bind_eq_some_iff.mp e
  refine ⟨as, ρ, S, x, S1, R, E, e1, fun u H1 R1 E1 V1 => ⟨as, ρ, S1, l, S2, R1, E.ext E1, e2, fun H2 R2 E2 => ⟨as, ρ, S2, h, S3, R2, E.ext (E1.trans E2), e3, fun H3 R3 E3 => ?_⟩⟩⟩
  have EE := E1.trans (E2.trans E3)
  have V3 := V1.ext (E2.trans E3)
  dsimp only at e
  split at e
  · cases e
    cases V3 with
    | tup s a =>
      refine .inl ⟨_, _, rfl, sqT_mono hide_same s, fun hw => ?_, fun _ => tuple_new R3 (cut_dp l h a) fun v H4 R4 E4 V4 => k v H4 R4 (EE.trans E4) V4⟩
      refine k _ H3 R3 EE ?_
      show Dp _ _ _ _
      rw [cut_whole (by rw [← dpAll_len a]; exact hw)]
      exact .tup s a
  · split at e
    · rename_i hz
      cases e
      cases V3
      exact .inr ⟨_, rfl, million hz, k _ H3 R3 EE (.str _)⟩
    · cases e
  · cases e
end

/-! ### products: ints, a list so often -/
def rRepS (K : Fg) : R2 := fun x y H Q => ∃ l k xs, x = .ref l ∧ y = .int k ∧ H l = some (.lst xs) ∧ -(2 ^ 63) ≤ k ∧ k < 2 ^ 63 ∧ xs.length * k.toNat ≤ sizeLine ∧ ∀ p, H p = none → Q (.ref p) (upd H p (.lst (List.replicate k.toNat xs).flatten))
def fMul : PV → PV → Sto → Option PV := fIc mulOk fun i j => .int (i * j)
section
variable {X : Cx} {a b : Expr} {ma mb : M} {pos : Pos}
theorem de_mul (ha : DE X a ma) (hb : DE X b mb) : DE X (.BinOp a .Mult b pos) (mOp fMul ma mb) := de_op op_mulA (opD_I (fun _ _ h => mulOk_ok h) fun _ _ _ => .int _) ha hb
/-- a fresh list times an int -/
def mRep (m : ML) (mb : M) : ML := fun ρ S => (m ρ S).bind fun p => (mb ρ p.2).bind fun q => match q.1 with
  | .d (.int k) => if k ≤ 1000000 ∧ -1000000 ≤ k ∧ p.1.length * k.toNat ≤ 1000000 then some ((List.replicate k.toNat p.1).flatten, q.2) else none
  | _ => none
theorem dl_rep {m : ML} (ha : DLs X a m) (hb : DE X b mb) : DLs X (.BinOp a .Mult b pos) (mRep m mb) := pe_imp (pe_op op_rep ha hb) fun σ H Q ⟨as, ρ, S, v, S', R, E, e, k⟩ => by
  obtain ⟨⟨xs, S1⟩, e1, e⟩ := Option.bind_eq_some_iff.mp e
  obtain ⟨⟨y, S2⟩, e2, e⟩ := Option.bind_eq_some_iff.mp e
  refine ⟨as, ρ, S, xs, S1, R, E, e1, fun p H1 vs R1 E1 hp hd => ?_⟩
  obtain ⟨R2, E2⟩ := R1.laid (o := .lst vs) hp
  refine ⟨as, ρ, S1, y, S2, R2, E.ext (E1.trans E2), e2, fun w H3 R3 E3 V3 => ?_⟩
  dsimp only at e
  split at e
  · rename_i i
    split at e
    · rename_i hz
      cases e
      cases V3
      have hl := dpAll_len hd
      have np : p ∉ as := R1.free hp
      have hk : H3 p = some (.lst vs) := E3.keep p _ np upd_same rfl
      have z1 : (1000000 : Int) < 2 ^ 63 := by decide
      have z2 : -(2 ^ 63) ≤ (-1000000 : Int) := by decide
      refine ⟨p, i, vs, rfl, rfl, hk, by omega, by omega, by rw [hl]; exact million hz.2.2, fun q hq => ?_⟩
      exact k q H3 _ R3 ((E1.trans E2).trans E3) hq (dpAll_rep (dpAll_mono (E2.trans E3).same _ _ hd) _)
    · cases e
  · cases e
end
end DL

namespace DL
open PySem PySem.Spec PyProof.Rows L2 DK
variable [Nms] [Tabs]

/-! ### statements -/
inductive Out where
  | nx (ρ : RE) (S : Sto)
  | bk (ρ : RE) (S : Sto)
  | ct (ρ : RE) (S : Sto)
  | rt (v : PV) (S : Sto)
  | rl (ds : List PyData) (S : Sto)
abbrev MS := RE → Sto → Option Out
def Post (K : Fg) (as : List Addr) (H : Hp) (D : Ends) : Out → Prop
  | .nx ρ S => ∀ as' σ' H', Ext as H as' H' → Rel K as' S H' → ER K as' H' σ' ρ → D.nx σ' H'
  | .bk ρ S => ∀ as' σ' H', Ext as H as' H' → Rel K as' S H' → ER K as' H' σ' ρ → D.bk σ' H'
  | .ct ρ S => ∀ as' σ' H', Ext as H as' H' → Rel K as' S H' → ER K as' H' σ' ρ → D.ct σ' H'
  | .rt v S => ∀ as' u H', Ext as H as' H' → Rel K as' S H' → VR K as' H' u v → D.rt u H'
  | .rl ds S => ∀ as' p H' vs, Ext as H as' H' → Rel K as' S H' → H' p = none → DpAll K (hide as' H') vs ds → D.rt (.ref p) (upd H' p (.lst vs))
theorem Post.ext {K : Fg} {as as1 : List Addr} {H H1 : Hp} {D : Ends} {o : Out} (h : Post K as H D o) (e : Ext as H as1 H1) : Post K as1 H1 D o := by
  cases o with
  | nx ρ S => exact fun as' σ' H' e' => h as' σ' H' (e.trans e')
  | bk ρ S => exact fun as' σ' H' e' => h as' σ' H' (e.trans e')
  | ct ρ S => exact fun as' σ' H' e' => h as' σ' H' (e.trans e')
  | rt ρ S => exact fun as' σ' H' e' => h as' σ' H' (e.trans e')
  | rl ρ S => exact fun as' p H' vs e' => h as' p H' vs (e.trans e')
def tS (K : Fg) (g : MS) : TS := fun D σ H => ∃ as ρ S o, Rel K as S H ∧ ER K as H σ ρ ∧ g ρ S = some o ∧ Post K as H D o
abbrev DS (X : Cx) (st : Stmt) (g : MS) : Prop := PS X st (tS X.K g)
abbrev DSs (X : Cx) (st : List Stmt) (g : MS) : Prop := PSs X st (tS X.K g)
theorem ps_imp {X : Cx} {st : Stmt} {t t' : TS} (h : PS X st t) (w : ∀ D σ H, t' D σ H → t D σ H) : PS X st t' := ⟨fun pins s σ H D I q => h.run pins s σ H D I (w _ _ _ q)⟩
theorem pss_imp {X : Cx} {st : List Stmt} {t t' : TS} (h : PSs X st t) (w : ∀ D σ H, t' D σ H → t D σ H) : PSs X st t' := ⟨fun pins s σ H D I q => h.run pins s σ H D I (w _ _ _ q)⟩
theorem ER.set {K : Fg} {as : List Addr} {H : Hp} {σ : L2.St} {ρ : RE} {v : V} {p : PV} (E : ER K as H σ ρ) (i : Nat) (h : VR K as H v p) : ER K as H (σ.set i (some v)) (ρ.set i (some p)) := by
  refine ⟨by rw [List.length_set, List.length_set]; exact E.len, fun j q e => ?_, E.tab⟩
  by_cases hj : j = i
  · subst hj
    have hl : j < ρ.length := by
      have := (List.getElem?_eq_some_iff.mp e).1
      rwa [List.length_set] at this
    rw [List.getElem?_set_self hl] at e
    cases e
    exact ⟨v, List.getElem?_set_self (by rw [E.len]; exact hl), h⟩
  · rw [List.getElem?_set_ne (Ne.symm hj)] at e
    obtain ⟨u, a, b⟩ := E.at_ j q e
    exact ⟨u, by rw [List.getElem?_set_ne (Ne.symm hj)]; exact a, b⟩
section
variable {X : Cx} {pos : Pos}
def sNil : MS := fun ρ S => some (.nx ρ S)
def sSeq (a b : MS) : MS := fun ρ S => (a ρ S).bind fun o => match o with
  | .nx ρ' S' => b ρ' S'
  | o => some o
theorem ds_nil : DSs X [] sNil := pss_imp pss_nil fun D σ H ⟨as, ρ, S, o, R, E, e, k⟩ => by
  cases e
  exact k as σ H .refl R E
theorem ds_cons {st : Stmt} {rest : List Stmt} {a b : MS} (h1 : DS X st a) (h2 : DSs X rest b) : DSs X (st :: rest) (sSeq a b) := pss_imp (pss_cons h1 h2) fun D σ H ⟨as, ρ, S, o, R, E, e, k⟩ => by
  obtain ⟨o1, e1, e⟩ := Option.bind_eq_some_iff.mp e
  refine ⟨as, ρ, S, o1, R, E, e1, ?_⟩
  cases o1 with
  | nx ρ' S' => exact fun as' σ' H' e' R' E' => ⟨as', ρ', S', o, R', E', e, k.ext e'⟩
  | bk ρ' S' => cases e; exact k
  | ct ρ' S' => cases e; exact k
  | rt ρ' S' => cases e; exact k
  | rl ρ' S' => cases e; exact k
theorem ds_one {st : Stmt} {a : MS} (h1 : DS X st a) : DSs X [st] a := pss_one h1
theorem ds_pass : DS X (.Pass pos) sNil := ps_imp ps_pass fun D σ H ⟨as, ρ, S, o, R, E, e, k⟩ => by
  cases e
  exact k as σ H .refl R E
def sBk : MS := fun ρ S => some (.bk ρ S)
def sCt : MS := fun ρ S => some (.ct ρ S)
theorem ds_break : DS X (.Break pos) sBk := ps_imp ps_break fun D σ H ⟨as, ρ, S, o, R, E, e, k⟩ => by
  cases e
  exact k as σ H .refl R E
theorem ds_continue : DS X (.Continue pos) sCt := ps_imp ps_continue fun D σ H ⟨as, ρ, S, o, R, E, e, k⟩ => by
  cases e
  exact k as σ H .refl R E
def sNever : MS := fun _ _ => none
theorem ds_never {st : Stmt} : DS X st sNever := ps_imp ps_never fun D σ H ⟨as, ρ, S, o, R, E, e, k⟩ => by cases e
theorem dss_never {st : List Stmt} : DSs X st sNever := pss_imp pss_never fun D σ H ⟨as, ρ, S, o, R, E, e, k⟩ => by cases e
/-- x = e -/
def sSet (i : Nat) (m : M) : MS := fun ρ S => (m ρ S).bind fun p => some (.nx (ρ.set i (some p.1)) p.2)
theorem ds_set {i : Nat} {x : Str} {e : Expr} {m : M} {pos' : Pos} (hN : X.N.Nodup) (hi : X.N[i]? = some x) (hx : Loc X.env.scope x) (he : DE X e m) (hs : swapsWith e (some (.Name x pos')) pos.line X.env = pure false := by rfl)
    (hf : X.fn x = true ∨ X.env.scope.names.lookup x = some .local := by first | exact .inl rfl | exact .inr rfl | assumption) : DS X (.Assign [.Name x pos'] e pos) (sSet i m) :=
  ps_imp (ps_set hN hi hx he hs hf) fun D σ H ⟨as, ρ, S, o, R, E, e, k⟩ => by
    obtain ⟨⟨v, S1⟩, e1, e⟩ := Option.bind_eq_some_iff.mp e
    cases e
    exact ⟨as, ρ, S, v, S1, R, E, e1, fun u H1 R1 E1 V1 => k as _ H1 E1 R1 ((E.ext E1).set i V1)⟩
/-- x = a new list that x may change from here on -/
def sOwn (i : Nat) (m : ML) : MS := fun ρ S => (m ρ S).bind fun p => some (.nx (ρ.set i (some (.c p.2.length))) (p.2 ++ [.l p.1]))
theorem own_post {K : Fg} {as : List Addr} {H H1 : Hp} {σ : L2.St} {ρ : RE} {S1 : Sto} {ds : List PyData} {i : Nat} {D : Ends} {p : Addr} {vs : List V} (E : ER K as H σ ρ) (k : Post K as H D (.nx (ρ.set i (some (.c S1.length))) (S1 ++ [.l ds])))
    (R1 : Rel K as S1 H1) (E1 : Ext as H as H1) (hp : H1 p = none) (hd : DpAll K (hide as H1) vs ds) : D.nx (σ.set i (some (.ref p))) (upd H1 p (.lst vs)) := by
  obtain ⟨R2, E2⟩ := R1.grow hp hd
  refine k (as ++ [p]) _ _ (E1.trans E2) R2 (((E.ext E1).ext E2).set i ⟨p, ?_, rfl⟩)
  rw [← R1.len]
  simp
theorem ds_own {i : Nat} {x : Str} {e : Expr} {m : ML} {pos' : Pos} (hN : X.N.Nodup) (hi : X.N[i]? = some x) (hx : Loc X.env.scope x) (he : DLs X e m) (hs : swapsWith e (some (.Name x pos')) pos.line X.env = pure false := by rfl)
    (hf : X.fn x = true ∨ X.env.scope.names.lookup x = some .local := by first | exact .inl rfl | exact .inr rfl | assumption) : DS X (.Assign [.Name x pos'] e pos) (sOwn i m) :=
  ps_imp (ps_set hN hi hx he hs hf) fun D σ H ⟨as, ρ, S, o, R, E, e, k⟩ => by
    obtain ⟨⟨ds, S1⟩, e1, e⟩ := Option.bind_eq_some_iff.mp e
    cases e
    exact ⟨as, ρ, S, ds, S1, R, E, e1, fun p H1 vs R1 E1 hp hd => own_post E k R1 E1 hp hd⟩
/-- return e -/
def sRet (m : M) : MS := fun ρ S => (m ρ S).bind fun p => some (.rt p.1 p.2)
def sRetL (m : ML) : MS := fun ρ S => (m ρ S).bind fun p => some (.rl p.1 p.2)
theorem ds_ret {e : Expr} {m : M} (he : DE X e m) : DS X (.Return (some e) pos) (sRet m) := ps_imp (ps_ret he) fun D σ H ⟨as, ρ, S, o, R, E, e, k⟩ => by
  obtain ⟨⟨v, S1⟩, e1, e⟩ := Option.bind_eq_some_iff.mp e
  cases e
  exact ⟨as, ρ, S, v, S1, R, E, e1, fun u H1 R1 E1 V1 => k as u H1 E1 R1 V1⟩
theorem ds_retL {e : Expr} {m : ML} (he : DLs X e m) : DS X (.Return (some e) pos) (sRetL m) := ps_imp (ps_ret he) fun D σ H ⟨as, ρ, S, o, R, E, e, k⟩ => by
  obtain ⟨⟨v, S1⟩, e1, e⟩ := Option.bind_eq_some_iff.mp e
  cases e
  exact ⟨as, ρ, S, v, S1, R, E, e1, fun p H1 vs R1 E1 hp hd => k as p H1 vs E1 R1 hp hd⟩
/-- if -/
def sIf (c : MB) (a b : MS) : MS := fun ρ S => (c ρ S).bind fun p => if p.1 = true then a ρ p.2 else b ρ p.2
theorem ds_if {c : Expr} {a b : List Stmt} {mc : MB} {ga gb : MS} (hc : DB X c mc) (ha : DSs X a ga) (hb : DSs X b gb) : DS X (.If c a b pos) (sIf mc ga gb) := ps_imp (ps_if hc ha hb) fun D σ H ⟨as, ρ, S, o, R, E, e, k⟩ => by
  obtain ⟨⟨v, S1⟩, e1, e⟩ := Option.bind_eq_some_iff.mp e
  refine ⟨as, ρ, S, v, S1, R, E, e1, fun H1 R1 E1 => ?_⟩
  dsimp only at e ⊢
  split
  · rename_i hx
    rw [if_pos hx] at e
    exact ⟨as, ρ, S1, o, R1, E.ext E1, e, k.ext E1⟩
  · rename_i hx
    rw [if_neg hx] at e
    exact ⟨as, ρ, S1, o, R1, E.ext E1, e, k.ext E1⟩
/-- an expression alone -/
def sDrop (m : M) : MS := fun ρ S => (m ρ S).bind fun p => some (.nx ρ p.2)
theorem ds_expr {e : Expr} {m : M} (he : DE X e m) (hs : swapsWith e none pos.line X.env = pure false := by rfl) : DS X (.Expr e pos) (sDrop m) := ps_imp (ps_expr he hs) fun D σ H ⟨as, ρ, S, o, R, E, e, k⟩ => by
  obtain ⟨⟨v, S1⟩, e1, e⟩ := Option.bind_eq_some_iff.mp e
  cases e
  exact ⟨as, ρ, S, v, S1, R, E, e1, fun u H1 R1 E1 V1 => k as σ H1 E1 R1 (E.ext E1)⟩
/-- a, b = e1, e2 -/
def sPar (i j : Nat) (ma : MA) : MS := fun ρ S => (ma ρ S).bind fun p => match p.1 with
  | [v, w] => some (.nx ((ρ.set i (some v)).set j (some w)) p.2)
  | _ => none
theorem ds_par {i j : Nat} {x y : Str} {a b : Expr} {ma : MA} {px py pt : Pos} {kt k2 pt2} (hc : X.calm = true) (hN : X.N.Nodup) (hi : X.N[i]? = some x) (hj : X.N[j]? = some y) (hij : i ≠ j)
    (hx : X.env.scope.names.lookup x = some .local) (hy : X.env.scope.names.lookup y = some .local) (ha : DA X [a, b] ma) (hw : swappedStores [.Tuple [.Name x px, .Name y py] kt pt] (.Tuple [a, b] k2 pt2) X.env = pure (some [x, y]))
    (hs : swapsWithSole [.Tuple [.Name x px, .Name y py] kt pt] (.Tuple [a, b] k2 pt2) pos.line X.env = pure false := by rfl) : DS X (.Assign [.Tuple [.Name x px, .Name y py] kt pt] (.Tuple [a, b] k2 pt2) pos) (sPar i j ma) :=
  ps_imp (ps_par hc hN hi hj hij hx hy ha hw hs) fun D σ H ⟨as, ρ, S, o, R, E, e, k⟩ => by
    obtain ⟨⟨vs, S1⟩, e1, e⟩ := Option.bind_eq_some_iff.mp e
    dsimp only at e
    split at e
    · cases e
      refine ⟨as, ρ, S, _, S1, R, E, e1, fun us H1 R1 E1 V1 => ?_⟩
      obtain ⟨u, w, rfl, a, b⟩ := paired2 V1
      exact ⟨u, w, rfl, k as _ H1 E1 R1 (((E.ext E1).set i a).set j b)⟩
    · cases e
/-- x op= e of ints -/
def sAug (i : Nat) (f : PV → PV → Sto → Option PV) (m : M) : MS := fun ρ S => (mVar i ρ S).bind fun p => (m ρ S).bind fun q => (f p.1 q.1 q.2).bind fun z => some (.nx (ρ.set i (some z)) q.2)
theorem ds_aug {i : Nat} {x : Str} {e : Expr} {m : M} {op : Operator} {r : R2} {f} {pos' : Pos} (hN : X.N.Nodup) (hi : X.N[i]? = some x) (hx : Loc X.env.scope x) (he : DE X e m) (ho : OpR X (inplaceOp op) r) (hd : OpD X.K r f)
    (hf : X.fn x = true ∨ X.env.scope.names.lookup x = some .local := by first | exact .inl rfl | exact .inr rfl | assumption) : DS X (.AugAssign (.Name x pos') op e pos) (sAug i f m) :=
  ps_imp (ps_aug (ti := r) hN hi hx he ho hf) fun D σ H ⟨as, ρ, S, o, R, E, e, k⟩ => by
    obtain ⟨⟨v, S0⟩, e0, e⟩ := Option.bind_eq_some_iff.mp e
    obtain ⟨⟨w, S1⟩, e1, e⟩ := Option.bind_eq_some_iff.mp e
    obtain ⟨z, e2, e⟩ := Option.bind_eq_some_iff.mp e
    cases e
    obtain ⟨e0, _⟩ := mVar_some e0
    obtain ⟨u, a, b⟩ := E.at_ i v e0
    refine ⟨u, a, as, ρ, S, w, S1, R, E, e1, fun u2 H1 R1 E1 V1 => ?_⟩
    exact hd as S1 H1 u u2 v w z _ R1 (b.ext E1) V1 e2 fun v3 H3 R3 E3 V3 => k as _ H3 (E1.trans E3) R3 ((E.ext (E1.trans E3)).set i V3)
/-- xs[i] = e, xs a list of ours -/
def sPut (mo mi mv : M) : MS := fun ρ S => (mv ρ S).bind fun v => (mo ρ v.2).bind fun o => (mi ρ o.2).bind fun i => match v.1, o.1, i.1 with
  | .d y, .c j, .d (.int z) => (lAt i.2 j).bind fun ds => (ixN ds.length z).bind fun n => some (.nx ρ (i.2.set j (.l (ds.set n y))))
  | _, _, _ => none
theorem ds_put {o i e : Expr} {mo mi mv : M} {p2 : Pos} (hv : DE X e mv) (ho : DE X o mo) (hi : DE X i mi) (hs : swapsWithSole [.Subscript o i p2] e pos.line X.env = pure false := by rfl) (hw : swappedStores [.Subscript o i p2] e X.env = pure none := by rfl)
    (h1 : (assignEach [.Subscript o i p2] X.env).map (·.2) = [assign (.Subscript o i p2) X.env] := by rfl)
    (ha : ∀ v, assign (.Subscript o i p2) X.env v = (do
      let ov ← holding [v] (eval o X.env)
      let iv ← holding [v, ov] (eval i X.env)
      standAt p2
      holding [v, ov, iv] (setItem ov iv v)
      release [v, ov, iv] []) := by intro _; rfl) : DS X (.Assign [.Subscript o i p2] e pos) (sPut mo mi mv) :=
  ps_imp (ps_asg hv (pg_sub ho hi set_list ha) hs hw h1) fun D σ H ⟨as, ρ, S, out, R, E, e, k⟩ => by
    obtain ⟨⟨v, S1⟩, e1, e⟩ := Option.bind_eq_some_iff.mp e
    obtain ⟨⟨o, S2⟩, e2, e⟩ := Option.bind_eq_some_iff.mp e
    obtain ⟨⟨i, S3⟩, e3, e⟩ := Option.bind_eq_some_iff.mp e
    refine ⟨as, ρ, S, v, S1, R, E, e1, fun u H1 R1 E1 V1 => ⟨as, ρ, S1, o, S2, R1, E.ext E1, e2, fun w H2 R2 E2 V2 => ⟨as, ρ, S2, i, S3, R2, E.ext (E1.trans E2), e3, fun z H3 R3 E3 V3 => ?_⟩⟩⟩
    dsimp only at e
    split at e
    · obtain ⟨ds, e4, e⟩ := Option.bind_eq_some_iff.mp e
      obtain ⟨n, e5, e⟩ := Option.bind_eq_some_iff.mp e
      cases e
      cases V3
      obtain ⟨a, q, rfl⟩ := V2.ext E3
      obtain ⟨vs, h1, h2⟩ := R3.at_ _ a ds q e4
      obtain ⟨R4, E4⟩ := R3.put q (dpAll_set (V1.ext (E2.trans E3)) n h2) ⟨_, h1⟩
      refine ⟨a, vs, _, n, rfl, rfl, h1, by rw [dpAll_len h2]; exact e5, ?_⟩
      exact k as σ _ ((E1.trans (E2.trans E3)).trans E4) R4 (E.ext ((E1.trans (E2.trans E3)).trans E4))
    · cases e
/-- xs.append(e), xs a list of ours -/
def mAppend (mo mv : M) : M := fun ρ S => (mo ρ S).bind fun o => (mv ρ o.2).bind fun v => match o.1, v.1 with
  | .c j, .d y => if (lAt o.2 j).isSome = true then (lAt v.2 j).bind fun ds => if ds.length < 1000000 then some (.d .none, v.2.set j (.l (ds ++ [y]))) else none else none
  | _, _ => none
theorem cell_ty {K : Fg} {as : List Addr} {S : Sto} {H : Hp} {u : V} {j : Nat} {ds : List PyData} (R : Rel K as S H) (h : VR K as H u (.c j)) (e : lAt S j = some ds) : tyV K "list" u H := by
  obtain ⟨a, q, rfl⟩ := h
  obtain ⟨vs, h1, h2⟩ := R.at_ j a ds q e
  exact .inl ⟨rfl, _, SqL.of h1⟩
theorem de_append {o e : Expr} {mo mv : M} {apos cpos : Pos} (ho : DE X o mo) (he : DE X e mv) (hbase : attributeBase o "append" X.env (eval o X.env) = eval o X.env := by rfl)
    (hfew : ((backTo cpos (starEach [e] X.env)).all (fun x => !x.1) && (backToKw cpos (keywordEach [] X.env)).all (fun x => x.1.isSome) && decide ([e].length + ([] : List Keyword).length + (if ([] : List Keyword).isEmpty then 0 else 1) < 30)) = true := by rfl)
    (hline : (apos.endLine == cpos.line) = true := by rfl) (hs : starEach [e] X.env = (false, eval e X.env) :: starEach [] X.env := by rfl) (hplain : (backTo cpos (starEach [] X.env)).any (·.1) = false := by rfl) :
    DE X (.Call (.Attribute o "append" apos) [e] [] cpos) (mAppend mo mv) :=
  pe_imp (pe_bm PySem.F.plainAttrs_list PySem.F.slot_list_append PySem.F.type_list_append mt_append ho (pa_cons he pa_nil hs) hbase hfew hline hs hplain) fun σ H Q ⟨as, ρ, S, r, S', R, E, e, k⟩ => by
    obtain ⟨⟨o, S1⟩, e1, e⟩ := Option.bind_eq_some_iff.mp e
    obtain ⟨⟨v, S2⟩, e2, e⟩ := Option.bind_eq_some_iff.mp e
    refine ⟨as, ρ, S, o, S1, R, E, e1, fun u H1 R1 E1 V1 => ?_⟩
    dsimp only at e
    split at e
    · rename_i j y _
      split at e
      · rename_i hs
        obtain ⟨ds0, e0⟩ := Option.isSome_iff_exists.mp hs
        obtain ⟨ds, e3, e⟩ := Option.bind_eq_some_iff.mp e
        obtain ⟨a, q, rfl⟩ := id V1
        refine ⟨cell_ty R1 V1 e0, as, ρ, S1, .d y, S2, R1, E.ext E1, e2, fun w H2 R2 E2 V2 => ?_⟩
        split at e
        · rename_i hz
          cases e
          obtain ⟨vs, h1, h2⟩ := R2.at_ j a ds q e3
          obtain ⟨R3, E3⟩ := R2.put q (dpAll_append h2 (.cons V2 .nil)) ⟨_, h1⟩
          refine ⟨a, vs, w, rfl, rfl, h1, by rw [dpAll_len h2, sizeLine_eq]; omega, ?_⟩
          exact k _ _ R3 (E1.trans (E2.trans E3)) .non
        · cases e
      · cases e
    · cases e
/-- xs.reverse(), xs a list of ours -/
def mReverse (mo : M) : M := fun ρ S => (mo ρ S).bind fun o => match o.1 with
  | .c j => (lAt o.2 j).bind fun ds => some (.d .none, o.2.set j (.l ds.reverse))
  | _ => none
theorem de_reverse {o : Expr} {mo : M} {apos cpos : Pos} (ho : DE X o mo) (hbase : attributeBase o "reverse" X.env (eval o X.env) = eval o X.env := by rfl) (hline : (apos.endLine == cpos.line) = true := by rfl) :
    DE X (.Call (.Attribute o "reverse" apos) [] [] cpos) (mReverse mo) :=
  pe_imp (pe_bm0 PySem.F.plainAttrs_list PySem.F.slot_list_reverse PySem.F.type_list_reverse mt_reverse ho hbase hline) fun σ H Q ⟨as, ρ, S, r, S', R, E, e, k⟩ => by
    obtain ⟨⟨o, S1⟩, e1, e⟩ := Option.bind_eq_some_iff.mp e
    refine ⟨as, ρ, S, o, S1, R, E, e1, fun u H1 R1 E1 V1 => ?_⟩
    dsimp only at e
    split at e
    · rename_i j
      obtain ⟨ds, e3, e⟩ := Option.bind_eq_some_iff.mp e
      cases e
      refine ⟨cell_ty R1 V1 e3, ?_⟩
      obtain ⟨a, q, rfl⟩ := V1
      obtain ⟨vs, h1, h2⟩ := R1.at_ j a ds q e3
      obtain ⟨R3, E3⟩ := R1.put q (dpAll_reverse h2) ⟨_, h1⟩
      exact ⟨a, vs, rfl, rfl, h1, k _ _ R3 (E1.trans E3) .non⟩
    · cases e
end
end DL

namespace DL
open PySem PySem.Spec PyProof.Rows L2 DK
variable [Nms] [Tabs]

/-! ### targets -/
def Agr (is : List Nat) (σ σ' : L2.St) : Prop := σ'.length = σ.length ∧ ∀ j, j ∉ is → σ'[j]? = σ[j]?
theorem wipe_in {σ : L2.St} {i : Nat} : ∀ {vs : List Nat}, i ∈ vs → i < σ.length → (wipe σ vs)[i]? = some none
  | [], h, _ => by cases h
  | v :: vs, h, hl => by
    show ((wipe σ vs).set v none)[i]? = _
    by_cases e : v = i
    · subst e
      exact List.getElem?_set_self (by rw [wipe_length]; exact hl)
    · rw [List.getElem?_set_ne e]
      rcases List.mem_cons.mp h with z | z
      · exact absurd z.symm e
      · exact wipe_in z hl
theorem agr_wipe {is vs : List Nat} {σ σ' : L2.St} (a : Agr is σ σ') (h : ∀ i ∈ is, i ∈ vs) : wipe σ' vs = wipe σ vs := by
  refine List.ext_getElem? fun i => ?_
  by_cases hi : i ∈ vs
  · by_cases hl : i < σ.length
    · rw [wipe_in hi hl, wipe_in hi (by rw [a.1]; exact hl)]
    · rw [List.getElem?_eq_none (by rw [wipe_length, a.1]; omega), List.getElem?_eq_none (by rw [wipe_length]; omega)]
  · rw [wipe_out hi, wipe_out hi]
    exact a.2 i fun z => hi (h i z)
theorem agr_wiped (vs : List Nat) (σ : L2.St) : Agr vs σ (wipe σ vs) := ⟨wipe_length _ _, fun j hj => wipe_out hj⟩
theorem Agr.trans {is js : List Nat} {σ1 σ2 σ3 : L2.St} (a : Agr is σ1 σ2) (b : Agr js σ2 σ3) : Agr (is ++ js) σ1 σ3 :=
  ⟨b.1.trans a.1, fun j hj => (b.2 j fun z => hj (List.mem_append_right _ z)).trans (a.2 j fun z => hj (List.mem_append_left _ z))⟩
theorem agr_set (i : Nat) (σ : L2.St) (x : Option V) : Agr [i] σ (σ.set i x) := ⟨List.length_set, fun j hj => List.getElem?_set_ne fun z => hj (by simp [z])⟩
theorem wipe_ww {vs : List Nat} {σ σ' : L2.St} {is : List Nat} (a : Agr is (wipe σ vs) σ') (h : ∀ i ∈ is, i ∈ vs) : wipe σ' vs = wipe σ vs := by
  rw [agr_wipe a h]
  exact agr_wipe (agr_wiped vs σ) fun _ z => z
def wipeR (ρ : RE) : List Nat → RE
  | [] => ρ
  | v :: vs => (wipeR ρ vs).set v none
theorem ER.none {K : Fg} {as : List Addr} {H : Hp} {σ : L2.St} {ρ : RE} (E : ER K as H σ ρ) (i : Nat) : ER K as H (σ.set i none) (ρ.set i none) := by
  refine ⟨by rw [List.length_set, List.length_set]; exact E.len, fun j q e => ?_, E.tab⟩
  by_cases hj : j = i
  · subst hj
    have hl : j < ρ.length := by
      have := (List.getElem?_eq_some_iff.mp e).1
      rwa [List.length_set] at this
    rw [List.getElem?_set_self hl] at e
    cases e
  · rw [List.getElem?_set_ne (Ne.symm hj)] at e
    obtain ⟨u, a, b⟩ := E.at_ j q e
    exact ⟨u, by rw [List.getElem?_set_ne (Ne.symm hj)]; exact a, b⟩
theorem ER.wiped {K : Fg} {as : List Addr} {H : Hp} {σ : L2.St} {ρ : RE} (E : ER K as H σ ρ) : ∀ vs : List Nat, ER K as H (wipe σ vs) (wipeR ρ vs)
  | [] => E
  | v :: vs => (ER.wiped E vs).none v
abbrev TgD := PyData → RE → Option RE
abbrev TgDs := List PyData → RE → Option RE
def tG (K : Fg) (is : List Nat) (f : TgD) : TG := fun v σ H Q => ∃ as ρ d ρ', ER K as H σ ρ ∧ Dp K (hide as H) v d ∧ f d ρ = some ρ' ∧ ∀ σ', ER K as H σ' ρ' → Agr is σ σ' → Q σ' H
def tGs (K : Fg) (is : List Nat) (f : TgDs) : TGs := fun vs σ H Q => ∃ as ρ ds ρ', ER K as H σ ρ ∧ DpAll K (hide as H) vs ds ∧ f ds ρ = some ρ' ∧ ∀ σ', ER K as H σ' ρ' → Agr is σ σ' → Q σ' H
abbrev DG (X : Cx) (tg : Expr) (is : List Nat) (f : TgD) : Prop := PG X tg (tG X.K is f)
abbrev DGs (X : Cx) (tgs : List Expr) (is : List Nat) (f : TgDs) : Prop := PGs X tgs (tGs X.K is f)
theorem pg_imp {X : Cx} {tg : Expr} {t t' : TG} (h : PG X tg t) (w : ∀ v σ H Q, t' v σ H Q → t v σ H Q) : PG X tg t' := ⟨fun pins s σ H v u Q I r q => h.run pins s σ H v u Q I r (w _ _ _ _ q)⟩
theorem pgs_imp {X : Cx} {tg : List Expr} {t t' : TGs} (h : PGs X tg t) (w : ∀ v σ H Q, t' v σ H Q → t v σ H Q) : PGs X tg t' := ⟨fun pins s σ H v u Q I r q => h.run pins s σ H v u Q I r (w _ _ _ _ q)⟩
def gN (i : Nat) : TgD := fun d ρ => some (ρ.set i (some (.d d)))
def gNs : TgDs := fun ds ρ => match ds with
  | [] => some ρ
  | _ => none
def gCs (f : TgD) (g : TgDs) : TgDs := fun ds ρ => match ds with
  | d :: r => (f d ρ).bind fun ρ' => g r ρ'
  | [] => none
def gT (n : Nat) (g : TgDs) : TgD := fun d ρ => match d with
  | .tuple ds => if ds.length = n then g ds ρ else none
  | _ => none
section
variable {X : Cx} {pos : Pos}
theorem dg_name {i : Nat} {x : Str} (hN : X.N.Nodup) (hi : X.N[i]? = some x) (hx : Loc X.env.scope x) (hf : X.fn x = true ∨ X.env.scope.names.lookup x = some .local := by first | exact .inl rfl | exact .inr rfl | assumption) : DG X (.Name x pos) [i] (gN i) :=
  pg_imp (pg_name hN hi hx hf) fun v σ H Q ⟨as, ρ, d, ρ', E, hd, e, k⟩ => by
    cases e
    exact k _ (E.set i hd) (agr_set i σ _)
theorem dgs_nil : DGs X [] [] gNs := pgs_imp pgs_nil fun v σ H Q ⟨as, ρ, d, ρ', E, hd, e, k⟩ => by
  unfold gNs at e
  split at e
  · cases e
    cases hd
    exact ⟨rfl, k σ E ⟨rfl, fun _ _ => rfl⟩⟩
  · cases e
theorem dgs_cons {e : Expr} {es : List Expr} {is js : List Nat} {f : TgD} {g : TgDs} (h1 : DG X e is f) (h2 : DGs X es js g)
    (hs : (assignEach (e :: es) X.env).map (·.2) = assign e X.env :: (assignEach es X.env).map (·.2) := by rfl) : DGs X (e :: es) (is ++ js) (gCs f g) :=
  pgs_imp (pgs_cons h1 h2 hs) fun v σ H Q ⟨as, ρ, ds, ρ', E, hd, e, k⟩ => by
    unfold gCs at e
    split at e
    · obtain ⟨ρ1, e1, e⟩ := Option.bind_eq_some_iff.mp e
      cases hd with
      | cons a b => exact ⟨_, _, rfl, as, ρ, _, ρ1, E, a, e1, fun σ1 E1 A1 => ⟨as, ρ1, _, ρ', E1, b, e, fun σ2 E2 A2 => k σ2 E2 (A1.trans A2)⟩⟩
    · cases e
theorem dg_tup {es : List Expr} {q n : Nat} {is : List Nat} {g : TgDs} (hc : X.calm = true) (h : DGs X es is g) (hn : (assignEach es X.env).length = n := by rfl) (hst : (assignEach es X.env).findIdx? (·.1) = none := by rfl) : DG X (.Tuple es q pos) is (gT n g) :=
  pg_imp (pg_tup hc h hn hst) fun v σ H Q ⟨as, ρ, d, ρ', E, hd, e, k⟩ => by
    unfold gT at e
    split at e
    · split at e
      · rename_i hl
        cases hd with
        | tup s a => exact ⟨_, _, rfl, sqT_mono hide_same s, by rw [dpAll_len a]; exact hl, as, ρ, _, ρ', E, a, e, k⟩
      · cases e
    · cases e
/-- a, b = e (a tuple) -/
def sAsg (g : TgD) (m : M) : MS := fun ρ S => (m ρ S).bind fun p => match p.1 with
  | .d d => (g d ρ).bind fun ρ' => some (.nx ρ' p.2)
  | .c _ => none
theorem ds_asg {tg e : Expr} {m : M} {is : List Nat} {g : TgD} (he : DE X e m) (hg : DG X tg is g) (hs : swapsWithSole [tg] e pos.line X.env = pure false := by rfl) (hw : swappedStores [tg] e X.env = pure none := by rfl)
    (h1 : (assignEach [tg] X.env).map (·.2) = [assign tg X.env] := by rfl) : DS X (.Assign [tg] e pos) (sAsg g m) :=
  ps_imp (ps_asg he hg hs hw h1) fun D σ H ⟨as, ρ, S, o, R, E, e, k⟩ => by
    obtain ⟨⟨v, S1⟩, e1, e⟩ := Option.bind_eq_some_iff.mp e
    refine ⟨as, ρ, S, v, S1, R, E, e1, fun u H1 R1 E1 V1 => ?_⟩
    dsimp only at e
    split at e
    · obtain ⟨ρ', e2, e⟩ := Option.bind_eq_some_iff.mp e
      cases e
      exact ⟨as, ρ, _, ρ', E.ext E1, V1, e2, fun σ' E' _ => k as σ' H1 E1 R1 E'⟩
    · cases e
end

/-! ### what is walked -/
def Grw (H H' : Hp) : Prop := H' = H ∨ ∃ T o, H T = none ∧ H' = upd H T o
structure Iters (K : Fg) (as : List Addr) (H1 : Hp) (J : It) (xs : List PyData) : Prop where
  go : ∀ as' H2, Ext as H1 as' H2 → ∀ (i : Nat) (d : PyData), xs[i]? = some d → J.go i H2
  yld : ∀ as' S H2, Ext as H1 as' H2 → Rel K as' S H2 → ∀ (i : Nat) (d : PyData), xs[i]? = some d → ∀ x H3, J.yld i H2 x H3 → Grw H2 H3 ∧ Dp K (hide as' H3) x d
  stop : ∀ as' H2, Ext as H1 as' H2 → J.stop xs.length H2
theorem Rel.grw {K : Fg} {as : List Addr} {S : Sto} {H H' : Hp} (R : Rel K as S H) (g : Grw H H') : Rel K as S H' ∧ Ext as H as H' := by
  rcases g with rfl | ⟨T, o, h, rfl⟩
  · exact ⟨R, .refl⟩
  · exact R.laid h
def tI (K : Fg) (mi : ML) : TI := fun σ H R => ∃ as ρ S xs S1, Rel K as S H ∧ ER K as H σ ρ ∧ mi ρ S = some (xs, S1) ∧ ∀ J H1, Rel K as S1 H1 → Ext as H as H1 → Iters K as H1 J xs → R J H1
abbrev DI (X : Cx) (tg iter : Expr) (mi : ML) : Prop := PI X tg iter (tI X.K mi)
theorem pi_imp {X : Cx} {tg iter : Expr} {t t' : TI} (h : PI X tg iter t) (w : ∀ σ H R, t' σ H R → t σ H R) : PI X tg iter t' := ⟨fun pins s σ H R I q => h.run pins s σ H R I (w _ _ _ q)⟩
theorem iters_list {K : Fg} {as : List Addr} {H1 : Hp} {a : Addr} {vs : List V} {xs : List PyData} (hs : SqL K (hide as H1) a vs) (hd : DpAll K (hide as H1) vs xs) : Iters K as H1 (Itl K a) xs := by
  have st : ∀ {as' H2}, Ext as H1 as' H2 → SqL K H2 a vs := fun {as' H2} E => hide_same.seq (E.same.seq hs)
  refine ⟨fun as' H2 E i d e => ?_, fun as' S H2 E R i d e x H3 y => ?_, fun as' H2 E => ?_⟩
  · obtain ⟨v, e1, _⟩ := dpAll_get hd e
    exact ⟨vs, v, st E, e1⟩
  · obtain ⟨v, e1, h1⟩ := dpAll_get hd e
    obtain ⟨rfl, y⟩ := y
    have : x = v := Option.some.inj ((y vs (st E)).symm.trans e1)
    subst this
    exact ⟨.inl rfl, dp_mono E.same _ _ h1⟩
  · exact ⟨vs, st E, by rw [dpAll_len hd]; exact Nat.le_refl _⟩
theorem iters_tup {K : Fg} {as : List Addr} {H1 : Hp} {a : Addr} {vs : List V} {xs : List PyData} (hs : SqT K (hide as H1) a vs) (hd : DpAll K (hide as H1) vs xs) : Iters K as H1 (Itt K a) xs := by
  have st : ∀ {as' H2}, Ext as H1 as' H2 → SqT K H2 a vs := fun {as' H2} E => sqT_mono hide_same (sqT_mono E.same hs)
  refine ⟨fun as' H2 E i d e => ?_, fun as' S H2 E R i d e x H3 y => ?_, fun as' H2 E => ?_⟩
  · obtain ⟨v, e1, _⟩ := dpAll_get hd e
    exact ⟨vs, v, st E, e1⟩
  · obtain ⟨v, e1, h1⟩ := dpAll_get hd e
    obtain ⟨rfl, y⟩ := y
    have : x = v := Option.some.inj ((y vs (st E)).symm.trans e1)
    subst this
    exact ⟨.inl rfl, dp_mono E.same _ _ h1⟩
  · exact ⟨vs, st E, by rw [dpAll_len hd]; exact Nat.le_refl _⟩
def rangeD (lo : Int) (n : Nat) : List PyData := (List.range n).map fun i => .int (lo + (i : Nat))
theorem rangeD_get {lo : Int} {n i : Nat} {d : PyData} (h : (rangeD lo n)[i]? = some d) : i < n ∧ d = .int (lo + (i : Nat)) := by
  unfold rangeD at h
  rw [List.getElem?_map] at h
  obtain ⟨j, e, q⟩ := Option.map_eq_some_iff.mp h
  have hi := (List.getElem?_eq_some_iff.mp e)
  obtain ⟨hl, e2⟩ := hi
  rw [List.length_range] at hl
  rw [List.getElem_range] at e2
  subst e2
  exact ⟨hl, q.symm⟩
theorem iters_rng {K : Fg} {as : List Addr} {H1 : Hp} {lo : Int} {n : Nat} : Iters K as H1 (Itr lo n) (rangeD lo n) := by
  refine ⟨fun as' H2 E i d e => (rangeD_get e).1, fun as' S H2 E R i d e x H3 y => ?_, fun as' H2 E => ?_⟩
  · obtain ⟨rfl, rfl⟩ := y
    obtain ⟨_, rfl⟩ := rangeD_get e
    exact ⟨.inl rfl, .int _⟩
  · show n ≤ (rangeD lo n).length
    unfold rangeD
    rw [List.length_map, List.length_range]
    exact Nat.le_refl _
def mSeq (m : M) : ML := fun ρ S => (m ρ S).bind fun p => match p.1 with
  | .d (.list xs) => some (xs, p.2)
  | .d (.tuple xs) => some (xs, p.2)
  | _ => none
def mRng1 (m : M) : ML := fun ρ S => (m ρ S).bind fun p => match p.1 with
  | .d (.int j) => if -1000000 ≤ j ∧ j ≤ 1000000 then some (rangeD 0 j.toNat, p.2) else none
  | _ => none
def mRng2 (m n : M) : ML := fun ρ S => (m ρ S).bind fun p => (n ρ p.2).bind fun q => match p.1, q.1 with
  | .d (.int i), .d (.int j) => if -1000000 ≤ i ∧ i ≤ 1000000 ∧ -1000000 ≤ j ∧ j ≤ 1000000 then some (rangeD i (j - i).toNat, q.2) else none
  | _, _ => none
section
variable {X : Cx} {tg : Expr} {pos p : Pos}
/-- a list or a tuple that stands still -/
theorem pi_seq {l : Expr} {tl : TE} (hl : PE X l tl) : PI X tg l (fun σ H R => tl σ H fun x H1 => (∃ a, x = .ref a ∧ (∃ xs, SqL X.K H1 a xs) ∧ R (Itl X.K a) H1) ∨ ∃ a, x = .ref a ∧ (∃ xs, SqT X.K H1 a xs) ∧ R (Itt X.K a) H1) := by
  refine ⟨fun pins s σ H R I h => thn (hl.run pins s σ H _ I h) fun v s1 z => ?_⟩
  obtain ⟨x, H1, I1, r1, z | z⟩ := z
  · have pe : wpAny (model X.prog X.w) X.A (pure v : Sem Value) (EP X pins σ fun y H2 => y = x ∧ H2 = H1) X.xe s1 := wpAny_pure ⟨x, H1, I1, r1, rfl, rfl⟩
    obtain ⟨a, rfl, ⟨xs, hq⟩, q⟩ := z
    cases r1
    obtain ⟨its, rv, pl, hz⟩ := I1.list hq
    exact wpAny_pyIter_list pl.isList ⟨s1.heap.objs.size, [s1.heap.objs.size], _, _, H1, rfl, I1.kept (t' := s1.toks) fun b o e => Heap.get?_push_of_some _ e, turn_list a _, ⟨_, Heap.get?_push_size _ rfl, rfl, rfl⟩, fun b hb => by
      rw [List.mem_singleton.mp hb]; exact I1.fpOk (Nat.le_refl _) (I1.hok.fresh (Nat.le_refl _)), q⟩
  · obtain ⟨a, rfl, ⟨xs, hq⟩, q⟩ := z
    cases r1
    obtain ⟨its, rv, pl, hz⟩ := I1.tuple hq
    exact wpAny_pyIter_tuple (show s1.heap.IsTuple a its.toArray from pl) ⟨s1.heap.objs.size, [s1.heap.objs.size], _, _, H1, rfl, I1.kept (t' := s1.toks) fun b o e => Heap.get?_push_of_some _ e, turn_tuple a _, ⟨_, Heap.get?_push_size _ rfl, rfl, rfl⟩, fun b hb => by
      rw [List.mem_singleton.mp hb]; exact I1.fpOk (Nat.le_refl _) (I1.hok.fresh (Nat.le_refl _)), q⟩
theorem di_seq {l : Expr} {m : M} (hl : DE X l m) : DI X tg l (mSeq m) := pi_imp (pi_seq hl) fun σ H Rr ⟨as, ρ, S, xs, S1, R, E, e, k⟩ => by
  obtain ⟨⟨v, S2⟩, e1, e⟩ := Option.bind_eq_some_iff.mp e
  refine ⟨as, ρ, S, v, S2, R, E, e1, fun u H1 R1 E1 V1 => ?_⟩
  dsimp only at e
  split at e
  · cases e
    cases V1 with
    | lst s a => exact .inl ⟨_, rfl, ⟨_, hide_same.seq s⟩, k _ H1 R1 E1 (iters_list s a)⟩
  · cases e
    cases V1 with
    | tup s a => exact .inr ⟨_, rfl, ⟨_, sqT_mono hide_same s⟩, k _ H1 R1 E1 (iters_tup s a)⟩
  · cases e
theorem di_rng1 {a : Expr} {m : M} (hg : Gl X "range") (hm : X.mg "range" = none) (ha : DE X a m) (hs : starEach [a] X.env = (false, eval a X.env) :: starEach [] X.env := by rfl) : DI X tg (.Call (.Name "range" p) [a] [] pos) (mRng1 m) :=
  pi_imp (pi_range1 hg hm (pa_cons ha pa_nil hs) hs) fun σ H Rr ⟨as, ρ, S, xs, S1, R, E, e, k⟩ => by
    obtain ⟨⟨v, S2⟩, e1, e⟩ := Option.bind_eq_some_iff.mp e
    refine ⟨as, ρ, S, v, S2, R, E, e1, fun u H1 R1 E1 V1 => ?_⟩
    dsimp only at e
    split at e
    · split at e
      · rename_i hz
        cases e
        cases V1
        have z1 : (1000000 : Int) < 2 ^ 62 := by decide
        have z2 : -(2 ^ 62) ≤ (-1000000 : Int) := by decide
        exact ⟨_, rfl, by omega, by omega, k _ H1 R1 E1 iters_rng⟩
      · cases e
    · cases e
theorem di_rng2 {a b : Expr} {m n : M} (hg : Gl X "range") (hm : X.mg "range" = none) (ha : DE X a m) (hb : DE X b n) (hs : starEach [a, b] X.env = (false, eval a X.env) :: starEach [b] X.env := by rfl) (hs2 : starEach [b] X.env = (false, eval b X.env) :: starEach [] X.env := by rfl) :
    DI X tg (.Call (.Name "range" p) [a, b] [] pos) (mRng2 m n) :=
  pi_imp (pi_range2 hg hm (pa_cons ha (pa_cons hb pa_nil hs2) hs) (by rw [hs, hs2]; rfl) hs2) fun σ H Rr ⟨as, ρ, S, xs, S1, R, E, e, k⟩ => by
    obtain ⟨⟨v, S2⟩, e1, e⟩ := Option.bind_eq_some_iff.mp e
    obtain ⟨⟨w, S3⟩, e2, e⟩ := Option.bind_eq_some_iff.mp e
    refine ⟨as, ρ, S, v, S2, R, E, e1, fun u H1 R1 E1 V1 => ⟨as, ρ, S2, w, S3, R1, E.ext E1, e2, fun u2 H2 R2 E2 V2 => ?_⟩⟩
    dsimp only at e
    split at e
    · split at e
      · rename_i hz
        cases e
        cases V1
        cases V2
        have z1 : (1000000 : Int) < 2 ^ 62 := by decide
        have z2 : -(2 ^ 62) ≤ (-1000000 : Int) := by decide
        exact ⟨_, _, rfl, ⟨by omega, by omega, by omega, by omega⟩, k _ H2 R2 (E1.trans E2) iters_rng⟩
      · cases e
    · cases e
end

/-! ### for, while -/
def forGo (tgt : TgD) (body : MS) : List PyData → RE → Sto → Option Out
  | [], ρ, S => some (.nx ρ S)
  | x :: xs, ρ, S => (tgt x ρ).bind fun ρ1 => (body ρ1 S).bind fun o => match o with
    | .nx ρ' S' => forGo tgt body xs ρ' S'
    | .ct ρ' S' => forGo tgt body xs ρ' S'
    | .bk ρ' S' => some (.nx ρ' S')
    | .rt v S' => some (.rt v S')
    | .rl v S' => some (.rl v S')
def sFor (mi : ML) (tgt : TgD) (body : MS) : MS := fun ρ S => (mi ρ S).bind fun p => forGo tgt body p.1 ρ p.2
theorem drop_cons {α : Type} {xs : List α} {i : Nat} (h : i < xs.length) : xs.drop i = xs[i] :: xs.drop (i + 1) := by simp
theorem ds_for {X : Cx} {tg iter : Expr} {body : List Stmt} {mi : ML} {is : List Nat} {g : TgD} {gb : MS} {pos : Pos} (hp : PassesOwn (model X.prog X.w) X.A X.env X.xe) (hc : X.calm = true) (hi : DI X tg iter mi) (hg : DG X tg is g) (hb : DSs X body gb)
    (hs : ∀ x, foldedSetIterable iter X.env x = pure x := by intro _; rfl) : DS X (.For tg iter body [] pos) (sFor mi g gb) := ps_imp (ps_for hp hc hi hg hb hs) fun D σ H ⟨as, ρ, S, o, R, E, e, k⟩ => by
  obtain ⟨⟨xs, S1⟩, e1, e⟩ := Option.bind_eq_some_iff.mp e
  refine ⟨as, ρ, S, xs, S1, R, E, e1, fun J H1 R1 E1 it => ?_⟩
  dsimp only at e
  refine ⟨fun i m σ' H' => m = xs.length - i ∧ i ≤ xs.length ∧ ∃ as' ρ' S', Ext as H1 as' H' ∧ Rel X.K as' S' H' ∧ ER X.K as' H' σ' ρ' ∧ forGo g gb (xs.drop i) ρ' S' = some o,
    ⟨xs.length, by omega, Nat.zero_le _, as, ρ, S1, .refl, R1, E.ext E1, e⟩, ?_⟩
  rintro i m σ' H' ⟨hm, hi, as', ρ', S', X1, R2, E2, e2⟩
  have K2 : Post X.K as' H' D o := k.ext (E1.trans X1)
  by_cases hlt : i < xs.length
  · refine .inr ⟨it.go as' H' X1 i xs[i] (List.getElem?_eq_getElem hlt), ?_⟩
    refine ⟨fun σ2 H2 => ∃ as2 ρ2 S2, Ext as H1 as2 H2 ∧ Rel X.K as2 S2 H2 ∧ ER X.K as2 H2 σ2 ρ2 ∧ forGo g gb (xs.drop (i + 1)) ρ2 S2 = some o, fun σ2 H2 z => ⟨xs.length - (i + 1), by omega, rfl, hlt, z⟩, fun x H2 y => ?_⟩
    obtain ⟨gr, hx⟩ := it.yld as' S' H' X1 R2 i xs[i] (List.getElem?_eq_getElem hlt) x H2 y
    obtain ⟨R3, X2⟩ := R2.grw gr
    rw [drop_cons hlt] at e2
    obtain ⟨ρ3, e3, e2⟩ := Option.bind_eq_some_iff.mp e2
    obtain ⟨o2, e4, e2⟩ := Option.bind_eq_some_iff.mp e2
    refine ⟨as', ρ', xs[i], ρ3, E2.ext X2, hx, e3, fun σ3 E3 _ => ⟨as', ρ3, S', o2, R3, E3, e4, ?_⟩⟩
    cases o2 with
    | nx ρ4 S4 => exact fun as4 σ4 H4 X4 R4 E4 => ⟨as4, ρ4, S4, (X1.trans X2).trans X4, R4, E4, e2⟩
    | ct ρ4 S4 => exact fun as4 σ4 H4 X4 R4 E4 => ⟨as4, ρ4, S4, (X1.trans X2).trans X4, R4, E4, e2⟩
    | bk ρ4 S4 =>
      cases e2
      exact fun as4 σ4 H4 X4 R4 E4 => K2 as4 σ4 H4 (X2.trans X4) R4 E4
    | rt v S4 =>
      cases e2
      exact fun as4 u H4 X4 R4 V4 => K2 as4 u H4 (X2.trans X4) R4 V4
    | rl v S4 =>
      cases e2
      exact fun as4 u H4 vs X4 R4 => K2 as4 u H4 vs (X2.trans X4) R4
  · have he : i = xs.length := by omega
    subst he
    rw [List.drop_length] at e2
    cases e2
    exact .inl ⟨it.stop as' H' X1, K2 as' σ' H' .refl R2 E2⟩
def whileGo (c : MB) (body : MS) : Nat → RE → Sto → Option Out
  | 0, _, _ => none
  | n + 1, ρ, S => (c ρ S).bind fun p => if p.1 = true then (body ρ p.2).bind fun o => match o with
      | .nx ρ' S' => whileGo c body n ρ' S'
      | .ct ρ' S' => whileGo c body n ρ' S'
      | .bk ρ' S' => some (.nx ρ' S')
      | .rt v S' => some (.rt v S')
      | .rl v S' => some (.rl v S')
    else some (.nx ρ p.2)
def sWhile (fuel : RE → Sto → Nat) (c : MB) (body : MS) : MS := fun ρ S => whileGo c body (fuel ρ S) ρ S
theorem ds_while {X : Cx} {c : Expr} {body : List Stmt} {mc : MB} {gb : MS} {pos : Pos} (fuel : RE → Sto → Nat) (hp : PassesOwn (model X.prog X.w) X.A X.env X.xe) (hc : DB X c mc) (hb : DSs X body gb) : DS X (.While c body [] pos) (sWhile fuel mc gb) :=
  ps_imp (ps_while hp hc hb) fun D σ H ⟨as, ρ, S, o, R, E, e, k⟩ => by
    refine ⟨fun n σ' H' => ∃ as' ρ' S', Ext as H as' H' ∧ Rel X.K as' S' H' ∧ ER X.K as' H' σ' ρ' ∧ whileGo mc gb n ρ' S' = some o, ⟨fuel ρ S, as, ρ, S, .refl, R, E, e⟩, ?_⟩
    rintro n σ' H' ⟨as', ρ', S', X1, R2, E2, e2⟩
    cases n with
    | zero => cases e2
    | succ n =>
      obtain ⟨⟨b, S3⟩, e3, e2⟩ := Option.bind_eq_some_iff.mp e2
      refine ⟨as', ρ', S', b, S3, R2, E2, e3, fun H3 R3 X3 => ?_⟩
      have K2 : Post X.K as' H3 D o := k.ext (X1.trans X3)
      dsimp only at e2 ⊢
      split
      · rename_i hb
        rw [if_pos hb] at e2
        obtain ⟨o2, e4, e2⟩ := Option.bind_eq_some_iff.mp e2
        refine ⟨fun σ4 H4 => ∃ as4 ρ4 S4, Ext as H as4 H4 ∧ Rel X.K as4 S4 H4 ∧ ER X.K as4 H4 σ4 ρ4 ∧ whileGo mc gb n ρ4 S4 = some o, fun σ4 H4 z => ⟨n, Nat.lt_succ_self n, z⟩, as', ρ', S3, o2, R3, E2.ext X3, e4, ?_⟩
        cases o2 with
        | nx ρ4 S4 => exact fun as4 σ4 H4 X4 R4 E4 => ⟨as4, ρ4, S4, (X1.trans X3).trans X4, R4, E4, e2⟩
        | ct ρ4 S4 => exact fun as4 σ4 H4 X4 R4 E4 => ⟨as4, ρ4, S4, (X1.trans X3).trans X4, R4, E4, e2⟩
        | bk ρ4 S4 => cases e2; exact fun as4 σ4 H4 X4 R4 E4 => K2 as4 σ4 H4 X4 R4 E4
        | rt v S4 => cases e2; exact fun as4 u H4 X4 R4 V4 => K2 as4 u H4 X4 R4 V4
        | rl v S4 => cases e2; exact fun as4 u H4 vs X4 R4 => K2 as4 u H4 vs X4 R4
      · rename_i hb
        rw [if_neg hb] at e2
        cases e2
        exact K2 as' σ' H3 .refl R3 (E2.ext X3)
end DL

namespace DL
open PySem PySem.Spec PyProof.Rows L2 DK
variable [Nms] [Tabs]

/-! ### a cell of ours is let go -/
def unH (D : Addr) (H : Hp) : Hp := fun a => if a = D then none else H a
theorem hide_app (as : List Addr) (D : Addr) (H : Hp) : hide (as ++ [D]) H = hide as (unH D H) := by
  funext a
  unfold hide unH
  by_cases h1 : a ∈ as
  · rw [if_pos (List.mem_append_left _ h1), if_pos h1]
  · rw [if_neg h1]
    by_cases h2 : a = D
    · rw [if_pos (List.mem_append_right _ (by simp [h2])), if_pos h2]
      rfl
    · rw [if_neg h2, if_neg (fun z => (List.mem_append.mp z).elim h1 (by simpa using h2))]
theorem unown {K : Fg} {as : List Addr} {D : Addr} {S : Sto} {H0 H : Hp} {ds : List PyData} (R : Rel K (as ++ [D]) S H) (E : Ext as H0 (as ++ [D]) H) (hL : lAt S as.length = some ds) :
    ∃ vs, H D = some (.lst vs) ∧ Rel K as (S.take as.length) (unH D H) ∧ Ext as H0 as (unH D H) ∧ (unH D H) D = none ∧ DpAll K (hide as (unH D H)) vs ds ∧ upd (unH D H) D (.lst vs) = H := by
  have hl := R.len
  rw [List.length_append, List.length_singleton] at hl
  have hs : as.length < S.length := by omega
  obtain ⟨vs, h1, h2⟩ := R.at_ as.length D ds (by simp) hL
  rw [hide_app] at h2
  have nD : D ∉ as := fun z => by
    have nd := List.nodup_append.mp R.nd
    exact nd.2.2 D z D (by simp) rfl
  have hn : (unH D H) D = none := by unfold unH; rw [if_pos rfl]
  have ne : ∀ a, a ≠ D → (unH D H) a = H a := fun a z => by unfold unH; rw [if_neg z]
  refine ⟨vs, h1, ⟨(List.nodup_append.mp R.nd).1, by rw [List.length_take]; omega, fun i a ds x y => ?_⟩, ⟨⟨[], by simp⟩, fun b z nz => absurd z nz, fun a o na z t => ?_, fun P tp => ?_, fun a o na z => ?_, fun a ha q => ?_, fun a ha o u q => ?_⟩, hn, h2, ?_⟩
  · have hi : i < as.length := (List.getElem?_eq_some_iff.mp x).1
    rw [List.getElem?_take_of_lt hi] at y
    have r := R.cell i a ds (by rw [List.getElem?_append_left hi]; exact x) y
    rw [hide_app] at r
    exact r.mono (fun _ _ z => z) (ne a (fun z => nD (by rw [← z]; exact List.mem_of_getElem? x)))
  · have z2 := E.keep a o na z t
    rw [ne a (fun w => ?_)]
    · exact z2
    · have := E.new D (by simp) nD
      rw [← w, z] at this
      cases this
  · exact tab_but (.inr (.inl ⟨vs, h1⟩)) ne P (E.tab P tp)
  · obtain ⟨o', z2⟩ := E.there a o na z
    refine ⟨o', ?_⟩
    rw [ne a (fun w => ?_)]
    · exact z2
    · have := E.new D (by simp) nD
      rw [← w, z] at this
      cases this
  · rw [ne a (fun w => nD (by rw [← w]; exact ha))] at q
    exact E.kind a ha q
  · rw [ne a (fun w => nD (by rw [← w]; exact ha))]
    exact E.lock a ha o u q
  · funext b
    by_cases hb : b = D
    · subst hb
      rw [upd_same, h1]
    · rw [upd_ne hb, ne b hb]

/-! ### list comprehensions -/
def pushAt (n : Nat) (y : PyData) (S : Sto) : Option Sto := (lAt S n).bind fun l => if l.length < 1000000 then some (S.set n (.l (l ++ [y]))) else none
def lcGo (n : Nat) (tgt : TgD) (tt : MB) (te : M) (ρ : RE) : List PyData → Sto → Option Sto
  | [], S => some S
  | x :: xs, S => (tgt x ρ).bind fun ρ1 => (tt ρ1 S).bind fun b => if b.1 = true then (te ρ1 b.2).bind fun v => match v.1 with
      | .d y => (pushAt n y v.2).bind fun S' => lcGo n tgt tt te ρ xs S'
      | .c _ => none
    else lcGo n tgt tt te ρ xs b.2
def mLc (mi : ML) (vs : List Nat) (tgt : TgD) (tt : MB) (te : M) : ML := fun ρ S => (mi ρ S).bind fun p => (lcGo p.2.length tgt tt te (wipeR ρ vs) p.1 (p.2 ++ [.l []])).bind fun S' => (lAt S' p.2.length).bind fun ds => some (ds, S'.take p.2.length)
def bYes : MB := fun _ S => some (true, S)
abbrev DTs (X : Cx) (ifs : List Expr) (m : MB) : Prop := PTs X ifs (tMB X.K m)
theorem dts_nil {X : Cx} : DTs X [] bYes := ⟨fun pins s σ H Q I ⟨as, ρ, S, b, S', R, E, e, k⟩ => by
  cases e
  exact pts_nil.run pins s σ H Q I (k H R .refl)⟩
theorem dts_one {X : Cx} {c : Expr} {m : MB} (h : DB X c m) : DTs X [c] m := pts_one h
theorem push_ok {K : Fg} {as : List Addr} {S S' : Sto} {H : Hp} {n : Nat} {D : Addr} {y : PyData} {u : V} (R : Rel K as S H) (hD : as[n]? = some D) (e : pushAt n y S = some S') (hv : Dp K (hide as H) u y) :
    ∃ acc, H D = some (.lst acc) ∧ acc.length < sizeLine ∧ Rel K as S' (upd H D (.lst (acc ++ [u]))) ∧ Ext as H as (upd H D (.lst (acc ++ [u]))) := by
  obtain ⟨l, e1, e⟩ := Option.bind_eq_some_iff.mp e
  split at e
  · rename_i hz
    cases e
    obtain ⟨vs, h1, h2⟩ := R.at_ n D l hD e1
    obtain ⟨R2, E2⟩ := R.put hD (dpAll_append h2 (.cons hv .nil)) ⟨_, h1⟩
    exact ⟨vs, h1, by rw [dpAll_len h2, sizeLine_eq]; omega, R2, E2⟩
  · cases e
theorem Iters.ext {K : Fg} {as as1 : List Addr} {H1 H2 : Hp} {J : It} {xs : List PyData} (it : Iters K as H1 J xs) (e : Ext as H1 as1 H2) : Iters K as1 H2 J xs :=
  ⟨fun as' H3 E => it.go as' H3 (e.trans E), fun as' S H3 E => it.yld as' S H3 (e.trans E), fun as' H3 E => it.stop as' H3 (e.trans E)⟩
theorem lc_loop {K : Fg} {bs : List Addr} {H4 : Hp} {J : It} {xs : List PyData} {S S2 : Sto} {σ : L2.St} {ρ : RE} {n : Nat} {D : Addr} {vs is : List Nat} {tgt : TgD} {tt : MB} {te : M} {Nx : Hp → Prop} (it : Iters K bs H4 J xs) (R : Rel K bs S H4) (E : ER K bs H4 σ ρ) (hn : bs[n]? = some D)
    (e : lcGo n tgt tt te (wipeR ρ vs) xs S = some S2) (hv : ∀ i ∈ is, i ∈ vs) (k : ∀ H', Rel K bs S2 H' → Ext bs H4 bs H' → Nx H') :
    ∃ W1 : Nat → Nat → Hp → Prop, (∃ m, W1 0 m H4) ∧ ∀ j q H, W1 j q H → (J.stop j H ∧ Nx H) ∨ (J.go j H ∧ ∃ Nx1 : Hp → Prop, (∀ H', Nx1 H' → ∃ k', k' < q ∧ W1 (j + 1) k' H') ∧ ∀ x H', J.yld j H x H' → tG K is tgt x (wipe σ vs) H' fun σ3 H5 => wipe σ3 vs = wipe σ vs ∧ tMB K tt σ3 H5 fun b H6 =>
      if b = true then tM K te σ3 H6 fun y H7 => ∃ acc, H7 D = some (.lst acc) ∧ acc.length < sizeLine ∧ Nx1 (upd H7 D (.lst (acc ++ [y]))) else Nx1 H6) := by
  refine ⟨fun i m H' => m = xs.length - i ∧ i ≤ xs.length ∧ ∃ S3, Ext bs H4 bs H' ∧ Rel K bs S3 H' ∧ lcGo n tgt tt te (wipeR ρ vs) (xs.drop i) S3 = some S2, ⟨xs.length, by omega, Nat.zero_le _, S, .refl, R, e⟩, ?_⟩
  rintro i m H' ⟨hm, hi, S3, X1, R3, e4⟩
  by_cases hlt : i < xs.length
  · refine .inr ⟨it.go _ H' X1 i xs[i] (List.getElem?_eq_getElem hlt), fun H2 => ∃ S4, Ext bs H4 bs H2 ∧ Rel K bs S4 H2 ∧ lcGo n tgt tt te (wipeR ρ vs) (xs.drop (i + 1)) S4 = some S2, fun H2 z => ⟨xs.length - (i + 1), by omega, rfl, hlt, z⟩, fun x H2 y => ?_⟩
    obtain ⟨gr, hx⟩ := it.yld _ S3 H' X1 R3 i xs[i] (List.getElem?_eq_getElem hlt) x H2 y
    obtain ⟨R4, X2⟩ := R3.grw gr
    rw [drop_cons hlt] at e4
    obtain ⟨ρ3, e5, e4⟩ := Option.bind_eq_some_iff.mp e4
    obtain ⟨⟨b, S5⟩, e6, e4⟩ := Option.bind_eq_some_iff.mp e4
    refine ⟨bs, wipeR ρ vs, xs[i], ρ3, (E.ext (X1.trans X2)).wiped vs, hx, e5, fun σ3 E3 A3 => ⟨wipe_ww A3 hv, bs, ρ3, S3, b, S5, R4, E3, e6, fun H5 R5 X5 => ?_⟩⟩
    dsimp only at e4 ⊢
    split
    · rename_i hb
      rw [if_pos hb] at e4
      obtain ⟨⟨v, S6⟩, e7, e4⟩ := Option.bind_eq_some_iff.mp e4
      refine ⟨bs, ρ3, S5, v, S6, R5, E3.ext X5, e7, fun u H6 R6 X6 V6 => ?_⟩
      cases v with
      | c j => cases e4
      | d y =>
        obtain ⟨S7, e8, e4⟩ := Option.bind_eq_some_iff.mp e4
        obtain ⟨acc, h1, h2, R7, X7⟩ := push_ok R6 hn e8 V6
        exact ⟨acc, h1, h2, S7, (X1.trans X2).trans (X5.trans (X6.trans X7)), R7, e4⟩
    · rename_i hb
      rw [if_neg hb] at e4
      exact ⟨S5, (X1.trans X2).trans X5, R5, e4⟩
  · have he : i = xs.length := by omega
    subst he
    rw [List.drop_length] at e4
    cases e4
    exact .inl ⟨it.stop _ H' X1, k H' R3 X1⟩
/-- the new list at its end -/
theorem lc_end {K : Fg} {as : List Addr} {D : Addr} {S1 S2 : Sto} {H0 H1 H' : Hp} {ds : List PyData} {Q : VK} (R1 : Rel K as S1 H1) (E1 : Ext as H0 as H1) (e3 : lAt S2 S1.length = some ds) (R3 : Rel K (as ++ [D]) S2 H') (X1 : Ext as H1 (as ++ [D]) H')
    (k : ∀ p H2 ws, Rel K as (S2.take S1.length) H2 → Ext as H0 as H2 → H2 p = none → DpAll K (hide as H2) ws ds → Q (.ref p) (upd H2 p (.lst ws))) : Q (.ref D) H' := by
  obtain ⟨ws, g2, g3, g4, g5, g6, g7⟩ := unown R3 X1 (by rw [R1.len]; exact e3)
  have z := k D (unH D H') ws (by rw [← R1.len]; exact g3) (E1.trans g4) g5 g6
  rw [g7] at z
  exact z
theorem lc_D {K : Fg} {mi : ML} {vs is : List Nat} {tgt : TgD} {tt : MB} {te : M} (hv : ∀ i ∈ is, i ∈ vs) : ∀ σ H Q, tL K (mLc mi vs tgt tt te) σ H Q → tLc (tI K mi) (tG K is tgt) (tMB K tt) (tM K te) vs σ H Q := fun σ H Q ⟨as, ρ, S, ds, S', R, E, e, k⟩ => by
  obtain ⟨⟨xs, S1⟩, e1, e⟩ := Option.bind_eq_some_iff.mp e
  obtain ⟨S2, e2, e⟩ := Option.bind_eq_some_iff.mp e
  obtain ⟨ds2, e3, e⟩ := Option.bind_eq_some_iff.mp e
  cases e
  dsimp only at e2 e3 k
  refine ⟨as, ρ, S, xs, S1, R, E, e1, fun J H1 R1 E1 it D hD => ?_⟩
  obtain ⟨R0, X0⟩ := R1.grow (vs := []) (ds := []) hD .nil
  exact lc_loop (it.ext X0) R0 ((E.ext E1).ext X0) (by rw [← R1.len]; simp) e2 hv fun H' R3 X1 => lc_end R1 E1 e3 R3 (X0.trans X1) k
/-- two clauses -/
def lc2Go (n : Nat) (tgt : TgD) (tt : MB) (mi1 : ML) (vs1 : List Nat) (tgt1 : TgD) (tt1 : MB) (te : M) (ρ : RE) : List PyData → Sto → Option Sto
  | [], S => some S
  | x :: xs, S => (tgt x ρ).bind fun ρ1 => (tt ρ1 S).bind fun b => if b.1 = true then (mi1 ρ1 b.2).bind fun p => (lcGo n tgt1 tt1 te (wipeR ρ1 vs1) p.1 p.2).bind fun S' => lc2Go n tgt tt mi1 vs1 tgt1 tt1 te ρ xs S'
    else lc2Go n tgt tt mi1 vs1 tgt1 tt1 te ρ xs b.2
def mLc2 (mi : ML) (vs : List Nat) (tgt : TgD) (tt : MB) (mi1 : ML) (vs1 : List Nat) (tgt1 : TgD) (tt1 : MB) (te : M) : ML := fun ρ S => (mi ρ S).bind fun p => (lc2Go p.2.length tgt tt mi1 vs1 tgt1 tt1 te (wipeR ρ vs) p.1 (p.2 ++ [.l []])).bind fun S' =>
  (lAt S' p.2.length).bind fun ds => some (ds, S'.take p.2.length)
theorem lc2_D {K : Fg} {mi mi1 : ML} {vs is vs1 is1 : List Nat} {tgt tgt1 : TgD} {tt tt1 : MB} {te : M} (hv : ∀ i ∈ is, i ∈ vs) (hv1 : ∀ i ∈ is1, i ∈ vs1) :
    ∀ σ H Q, tL K (mLc2 mi vs tgt tt mi1 vs1 tgt1 tt1 te) σ H Q → tLc2 (tI K mi) (tG K is tgt) (tMB K tt) (tI K mi1) (tG K is1 tgt1) (tMB K tt1) (tM K te) vs vs1 σ H Q := fun σ H Q ⟨as, ρ, S, ds, S', R, E, e, k⟩ => by
  obtain ⟨⟨xs, S1⟩, e1, e⟩ := Option.bind_eq_some_iff.mp e
  obtain ⟨S2, e2, e⟩ := Option.bind_eq_some_iff.mp e
  obtain ⟨ds2, e3, e⟩ := Option.bind_eq_some_iff.mp e
  cases e
  dsimp only at e2 e3 k
  refine ⟨as, ρ, S, xs, S1, R, E, e1, fun J H1 R1 E1 it D hD => ?_⟩
  obtain ⟨R0, X0⟩ := R1.grow (vs := []) (ds := []) hD .nil
  have EE := (E.ext E1).ext X0
  have it0 := it.ext X0
  have hn : (as ++ [D])[S1.length]? = some D := by rw [← R1.len]; simp
  refine ⟨fun i m H' => m = xs.length - i ∧ i ≤ xs.length ∧ ∃ S3, Ext (as ++ [D]) (upd H1 D (.lst [])) (as ++ [D]) H' ∧ Rel K (as ++ [D]) S3 H' ∧ lc2Go S1.length tgt tt mi1 vs1 tgt1 tt1 te (wipeR ρ vs) (xs.drop i) S3 = some S2, ⟨xs.length, by omega, Nat.zero_le _, S1 ++ [Cell.l []], .refl, R0, e2⟩, ?_⟩
  rintro i m H' ⟨hm, hi, S3, X1, R3, e4⟩
  by_cases hlt : i < xs.length
  · refine .inr ⟨it0.go _ H' X1 i xs[i] (List.getElem?_eq_getElem hlt), fun H2 => ∃ S4, Ext (as ++ [D]) (upd H1 D (.lst [])) (as ++ [D]) H2 ∧ Rel K (as ++ [D]) S4 H2 ∧ lc2Go S1.length tgt tt mi1 vs1 tgt1 tt1 te (wipeR ρ vs) (xs.drop (i + 1)) S4 = some S2,
      fun H2 z => ⟨xs.length - (i + 1), by omega, rfl, hlt, z⟩, fun x H2 y => ?_⟩
    obtain ⟨gr, hx⟩ := it0.yld _ S3 H' X1 R3 i xs[i] (List.getElem?_eq_getElem hlt) x H2 y
    obtain ⟨R4, X2⟩ := R3.grw gr
    rw [drop_cons hlt] at e4
    obtain ⟨ρ3, e5, e4⟩ := Option.bind_eq_some_iff.mp e4
    obtain ⟨⟨b, S5⟩, e6, e4⟩ := Option.bind_eq_some_iff.mp e4
    refine ⟨as ++ [D], wipeR ρ vs, xs[i], ρ3, (EE.ext (X1.trans X2)).wiped vs, hx, e5, fun σ3 E3 A3 => ⟨wipe_ww A3 hv, as ++ [D], ρ3, S3, b, S5, R4, E3, e6, fun H5 R5 X5 => ?_⟩⟩
    dsimp only at e4 ⊢
    split
    · rename_i hb
      rw [if_pos hb] at e4
      obtain ⟨⟨ys, S6⟩, e7, e4⟩ := Option.bind_eq_some_iff.mp e4
      obtain ⟨S7, e8, e4⟩ := Option.bind_eq_some_iff.mp e4
      refine ⟨as ++ [D], ρ3, S5, ys, S6, R5, E3.ext X5, e7, fun J1 H6 R6 X6 it1 => ?_⟩
      exact lc_loop it1 R6 (E3.ext (X5.trans X6)) hn e8 hv1 fun H7 R7 X7 => ⟨S7, (X1.trans X2).trans (X5.trans (X6.trans X7)), R7, e4⟩
    · rename_i hb
      rw [if_neg hb] at e4
      exact ⟨S5, (X1.trans X2).trans X5, R5, e4⟩
  · have he : i = xs.length := by omega
    subst he
    rw [List.drop_length] at e4
    cases e4
    exact .inl ⟨it0.stop _ H' X1, lc_end R1 E1 e3 R3 (X0.trans X1) k⟩
section
variable {X : Cx} {elt tg iter : Expr} {ifs : List Expr} {scope : Scope} {own : List (Str × Nat)} {pos : Pos} {mi : ML} {is vs : List Nat} {tgt : TgD} {tt : MB} {te : M}
/-- [elt for tg in iter if ..] -/
theorem dl_lc (hc : X.calm = true) (hN : X.N.Nodup) (hi : DI X tg iter mi) (ok : BlkOk X.N X.env.scope scope own)
    (hg : ∀ (s : Shared) (H : Hp) (C : Addr) (cl : List (Str × Addr)) (fp : List Addr), DG (X.blk s H scope (compEnvC scope cl C X.env) fp) tg is tgt) (ht : ∀ (s : Shared) (H : Hp) (C : Addr) (cl : List (Str × Addr)) (fp : List Addr), DTs (X.blk s H scope (compEnvC scope cl C X.env) fp) ifs tt)
    (he : ∀ (s : Shared) (H : Hp) (C : Addr) (cl : List (Str × Addr)) (fp : List Addr), DE (X.blk s H scope (compEnvC scope cl C X.env) fp) elt te) (hv : (is.all fun i => vs.contains i) = true) (hs : ∀ x, foldedSetIterable iter X.env x = pure x := by intro _; rfl) (hvs : own.map (·.2) = vs := by rfl) :
    DLs X (.ListComp elt [⟨tg, iter, ifs, 0⟩] scope pos) (mLc mi vs tgt tt te) := by
  subst hvs
  exact pe_imp (pe_lc hc hN hi ok hg ht he hs) (lc_D fun i h => by simpa using List.all_eq_true.mp hv i h)
theorem set_L {K : Fg} {i : Nat} {m : ML} {t : TE} (h : ∀ σ H Q, tL K m σ H Q → t σ H Q) : ∀ D σ H, tS K (sSet i (mFz m)) D σ H → tAsg t (gName i) D σ H := fun D σ H ⟨as, ρ, S, o, R, E, e, k⟩ => by
  obtain ⟨⟨v, S1⟩, e1, e⟩ := Option.bind_eq_some_iff.mp e
  obtain ⟨⟨ds, S2⟩, e2, e1⟩ := Option.bind_eq_some_iff.mp e1
  cases e1
  cases e
  refine h σ H _ ⟨as, ρ, S, ds, S2, R, E, e2, fun p H1 vs R1 E1 hp hd => ?_⟩
  obtain ⟨R2, E2⟩ := R1.laid (o := .lst vs) hp
  exact k as _ _ (E1.trans E2) R2 ((E.ext (E1.trans E2)).set i (.lst (SqL.of (hide_some (R1.free hp) upd_same)) (dpAll_mono E2.same _ _ hd)))
theorem own_L {K : Fg} {i : Nat} {m : ML} {t : TE} (h : ∀ σ H Q, tL K m σ H Q → t σ H Q) : ∀ D σ H, tS K (sOwn i m) D σ H → tAsg t (gName i) D σ H := fun D σ H ⟨as, ρ, S, o, R, E, e, k⟩ => by
  obtain ⟨⟨ds, S1⟩, e1, e⟩ := Option.bind_eq_some_iff.mp e
  cases e
  exact h σ H _ ⟨as, ρ, S, ds, S1, R, E, e1, fun p H1 vs R1 E1 hp hd => own_post E k R1 E1 hp hd⟩
/-- y = [..], y a list that is not changed; one that is -/
theorem ds_setLc {i : Nat} {y : Str} {py spos : Pos} (hc : X.calm = true) (hN : X.N.Nodup) (hy : X.N[i]? = some y) (hyl : X.env.scope.names.lookup y = some .local) (hsw : swapsWith (.ListComp elt [⟨tg, iter, ifs, 0⟩] scope pos) (some (.Name y py)) spos.line X.env = pure true)
    (hi : DI X tg iter mi) (ok : BlkOk X.N X.env.scope scope own)
    (hg : ∀ (s : Shared) (H : Hp) (C : Addr) (cl : List (Str × Addr)) (fp : List Addr), DG (X.blk s H scope (compEnvC scope cl C X.env) fp) tg is tgt) (ht : ∀ (s : Shared) (H : Hp) (C : Addr) (cl : List (Str × Addr)) (fp : List Addr), DTs (X.blk s H scope (compEnvC scope cl C X.env) fp) ifs tt)
    (he : ∀ (s : Shared) (H : Hp) (C : Addr) (cl : List (Str × Addr)) (fp : List Addr), DE (X.blk s H scope (compEnvC scope cl C X.env) fp) elt te) (hv : (is.all fun i => vs.contains i) = true) (hs : ∀ x, foldedSetIterable iter X.env x = pure x := by intro _; rfl) (hvs : own.map (·.2) = vs := by rfl) :
    DS X (.Assign [.Name y py] (.ListComp elt [⟨tg, iter, ifs, 0⟩] scope pos) spos) (sSet i (mFz (mLc mi vs tgt tt te))) := by
  subst hvs
  exact ps_imp (ps_setLc hc hN hy hyl hsw hi ok hg ht he hs) (set_L (lc_D fun i h => by simpa using List.all_eq_true.mp hv i h))
theorem ds_ownLc {i : Nat} {y : Str} {py spos : Pos} (hc : X.calm = true) (hN : X.N.Nodup) (hy : X.N[i]? = some y) (hyl : X.env.scope.names.lookup y = some .local) (hsw : swapsWith (.ListComp elt [⟨tg, iter, ifs, 0⟩] scope pos) (some (.Name y py)) spos.line X.env = pure true)
    (hi : DI X tg iter mi) (ok : BlkOk X.N X.env.scope scope own)
    (hg : ∀ (s : Shared) (H : Hp) (C : Addr) (cl : List (Str × Addr)) (fp : List Addr), DG (X.blk s H scope (compEnvC scope cl C X.env) fp) tg is tgt) (ht : ∀ (s : Shared) (H : Hp) (C : Addr) (cl : List (Str × Addr)) (fp : List Addr), DTs (X.blk s H scope (compEnvC scope cl C X.env) fp) ifs tt)
    (he : ∀ (s : Shared) (H : Hp) (C : Addr) (cl : List (Str × Addr)) (fp : List Addr), DE (X.blk s H scope (compEnvC scope cl C X.env) fp) elt te) (hv : (is.all fun i => vs.contains i) = true) (hs : ∀ x, foldedSetIterable iter X.env x = pure x := by intro _; rfl) (hvs : own.map (·.2) = vs := by rfl) :
    DS X (.Assign [.Name y py] (.ListComp elt [⟨tg, iter, ifs, 0⟩] scope pos) spos) (sOwn i (mLc mi vs tgt tt te)) := by
  subst hvs
  exact ps_imp (ps_setLc hc hN hy hyl hsw hi ok hg ht he hs) (own_L (lc_D fun i h => by simpa using List.all_eq_true.mp hv i h))
end
section
variable {X : Cx} {elt tg iter tg1 iter1 : Expr} {ifs ifs1 : List Expr} {scope : Scope} {own : List (Str × Nat)} {pos : Pos} {mi mi1 : ML} {is is1 vs vs1 : List Nat} {tgt tgt1 : TgD} {tt tt1 : MB} {te : M}
theorem dl_lc2 (hc : X.calm = true) (hN : X.N.Nodup) (hi : DI X tg iter mi) (ok : BlkOk X.N X.env.scope scope own)
    (hg : ∀ (s : Shared) (H : Hp) (C : Addr) (cl : List (Str × Addr)) (fp : List Addr), DG (X.blk s H scope (compEnvC scope cl C X.env) fp) tg is tgt) (ht : ∀ (s : Shared) (H : Hp) (C : Addr) (cl : List (Str × Addr)) (fp : List Addr), DTs (X.blk s H scope (compEnvC scope cl C X.env) fp) ifs tt)
    (hi1 : ∀ (s : Shared) (H : Hp) (C : Addr) (cl : List (Str × Addr)) (fp : List Addr), DI (X.blk s H scope (compEnvC scope cl C X.env) fp) tg1 iter1 mi1)
    (hg1 : ∀ (s : Shared) (H : Hp) (C : Addr) (cl : List (Str × Addr)) (fp : List Addr), DG (X.blk s H scope (compEnvC scope cl C X.env) fp) tg1 is1 tgt1) (ht1 : ∀ (s : Shared) (H : Hp) (C : Addr) (cl : List (Str × Addr)) (fp : List Addr), DTs (X.blk s H scope (compEnvC scope cl C X.env) fp) ifs1 tt1)
    (he : ∀ (s : Shared) (H : Hp) (C : Addr) (cl : List (Str × Addr)) (fp : List Addr), DE (X.blk s H scope (compEnvC scope cl C X.env) fp) elt te)
    (hv : (is.all fun i => vs.contains i) = true) (hv1 : (is1.all fun i => vs1.contains i) = true) (hv2 : (vs1.all fun i => vs.contains i) = true) (hs : ∀ x, foldedSetIterable iter X.env x = pure x := by intro _; rfl) (hs1 : ∀ env x, foldedSetIterable iter1 env x = pure x := by intro _ _; rfl) (hvs : own.map (·.2) = vs := by rfl) :
    DLs X (.ListComp elt [⟨tg, iter, ifs, 0⟩, ⟨tg1, iter1, ifs1, 0⟩] scope pos) (mLc2 mi vs tgt tt mi1 vs1 tgt1 tt1 te) := by
  subst hvs
  exact pe_imp (pe_lc2 hc hN hi ok (fun i h => by simpa using List.all_eq_true.mp hv2 i h) hg ht hi1 hg1 ht1 he hs hs1) (lc2_D (fun i h => by simpa using List.all_eq_true.mp hv i h) fun i h => by simpa using List.all_eq_true.mp hv1 i h)
end

/-! ### a def from its body -/
def finV (n : Nat) (v : PV) (S : Sto) : Option (PV × Sto) := match v with
  | .d x => some (.d x, S.take n)
  | .c i => if i < n then some (.c i, S.take n) else (lAt S i).map fun ds => (.d (.list ds), S.take n)
def runF (N : Nat) (g : MS) : FV := fun ps S => (g (ps.map some ++ List.replicate (N - ps.length) none) S).bind fun o => match o with
  | .rt v S' => finV S.length v S'
  | .rl ds S' => some (.d (.list ds), S'.take S.length)
  | .nx _ S' => some (.d .none, S'.take S.length)
  | _ => none
def runL (N : Nat) (g : MS) : FL := fun ps S => (g (ps.map some ++ List.replicate (N - ps.length) none) S).bind fun o => match o with
  | .rl ds S' => some (ds, S'.take S.length)
  | _ => none
theorem start_er {K : Fg} {as : List Addr} {H : Hp} {N : List Str} {vs : List V} {ps : List PV} (h : Paired (VR K as H) vs ps) (ht : ∀ t ∈ Tabs.l, TabX H t) : ER K as H (L2.start N vs) (ps.map some ++ List.replicate (N.length - ps.length) none) := by
  have hl := paired_len h
  refine ⟨by unfold L2.start; simp [hl], fun i p e => ?_, ht⟩
  by_cases hi : i < ps.length
  · rw [List.getElem?_append_left (by simpa using hi), List.getElem?_map, List.getElem?_eq_getElem hi] at e
    have e2 : ps[i] = p := by simpa using e
    have hv : i < vs.length := by omega
    refine ⟨vs[i], ?_, ?_⟩
    · unfold L2.start
      rw [List.getElem?_append_left (by simpa using hv), List.getElem?_map, List.getElem?_eq_getElem hv]
      rfl
    · rw [← e2]
      exact paired_at h hv hi
  · rw [List.getElem?_append_right (by simpa using hi), List.getElem?_replicate] at e
    split at e <;> cases e
where
  paired_at {K : Fg} {as : List Addr} {H : Hp} : ∀ {vs : List V} {ps : List PV} {i : Nat}, Paired (VR K as H) vs ps → (h1 : i < vs.length) → (h2 : i < ps.length) → VR K as H vs[i] ps[i]
    | _, _, _, .nil, h1, _ => absurd h1 (by simp)
    | _, _, 0, .cons a _, _, _ => a
    | _, _, i + 1, .cons _ b, h1, h2 => paired_at b (by simpa using h1) (by simpa using h2)
theorem Ext.back {as as1 : List Addr} {H H1 : Hp} (e : Ext as H as1 H1) : Ext as H as H1 := ⟨⟨[], by simp⟩, fun b z nz => absurd z nz, e.keep, e.tab, e.there, e.kind, e.lock⟩
theorem same_hide_sub {as as2 : List Addr} {H : Hp} : Same (hide (as ++ as2) H) (hide as H) := fun a o h => by
  obtain ⟨na, h, ht⟩ := hide_of3 h
  exact hide_some (fun z => na (List.mem_append_left _ z)) h ht
theorem body_F {K : Fg} {N : List Str} {g : MS} {vs : List V} {H : Hp} {Q : VK} {E : XK} {n : Nat} (h : spF K n (runF N.length g) vs H Q E) : tS K g { nx := fun _ H' => Q .non H', rt := Q } (L2.start N vs) H := by
  obtain ⟨_, ht, as, S, ps, v, S', R, V, e, k⟩ := h
  obtain ⟨o, e1, e⟩ := Option.bind_eq_some_iff.mp e
  refine ⟨as, _, S, o, R, start_er V ht, e1, ?_⟩
  cases o with
  | nx ρ' S1 =>
    cases e
    rintro as' σ' H' X1 R1 E1
    obtain ⟨bs, rfl⟩ := X1.pre
    have z := R1.take rfl
    rw [R.len] at z
    exact k _ _ z X1.back .non
  | bk ρ' S1 => cases e
  | ct ρ' S1 => cases e
  | rl ds S1 =>
    cases e
    rintro as' p H' ws X1 R1 hp hd
    obtain ⟨bs, rfl⟩ := X1.pre
    obtain ⟨R2, X2⟩ := R1.laid (o := .lst ws) hp
    have z := R2.take rfl
    rw [R.len] at z
    have np : p ∉ as := fun w => R1.free hp (List.mem_append_left _ w)
    refine k _ _ z (X1.trans X2).back (.lst (SqL.of (hide_some np upd_same)) (dpAll_mono (fun a o q => ?_) _ _ hd))
    exact same_hide_sub _ _ (X2.same _ _ q)
  | rt w S1 =>
    rintro as' u H' X1 R1 V1
    obtain ⟨bs, rfl⟩ := X1.pre
    have z := R1.take rfl
    rw [R.len] at z
    cases w with
    | d x =>
      cases e
      exact k _ _ z X1.back (dp_mono same_hide_sub _ _ V1)
    | c i =>
      obtain ⟨a, q, rfl⟩ := V1
      unfold finV at e
      dsimp only at e
      split at e
      · rename_i hi
        cases e
        rw [← R.len] at hi
        rw [List.getElem?_append_left hi] at q
        exact k _ _ z X1.back ⟨a, q, rfl⟩
      · rename_i hi
        obtain ⟨ds, e2, e⟩ := Option.map_eq_some_iff.mp e
        cases e
        obtain ⟨ws, h1, h2⟩ := R1.at_ i a ds q e2
        have na : a ∉ as := fun w => by
          obtain ⟨j, hj, e3⟩ := List.getElem_of_mem w
          have q2 : (as ++ bs)[j]? = some a := by rw [List.getElem?_append_left hj, List.getElem?_eq_getElem hj, e3]
          have := nd_ix R1.nd q2 q
          rw [R.len] at hj
          omega
        exact k _ _ z X1.back (.lst (SqL.of (hide_some na h1)) (dpAll_mono same_hide_sub _ _ h2))
theorem body_L {K : Fg} {N : List Str} {g : MS} {vs : List V} {H : Hp} {Q : VK} {E : XK} {n : Nat} (h : spL K n (runL N.length g) vs H Q E) : tS K g { nx := fun _ H' => Q .non H', rt := Q } (L2.start N vs) H := by
  obtain ⟨_, ht, as, S, ps, v, S', R, V, e, k⟩ := h
  obtain ⟨o, e1, e⟩ := Option.bind_eq_some_iff.mp e
  refine ⟨as, _, S, o, R, start_er V ht, e1, ?_⟩
  cases o with
  | nx ρ' S1 => cases e
  | bk ρ' S1 => cases e
  | ct ρ' S1 => cases e
  | rt ρ' S1 => cases e
  | rl ds S1 =>
    cases e
    rintro as' p H' ws X1 R1 hp hd
    obtain ⟨bs, rfl⟩ := X1.pre
    have z := R1.take rfl
    rw [R.len] at z
    exact k p H' ws z X1.back hp (dpAll_mono same_hide_sub _ _ hd)
section
variable {P : Program} {w : World} {K : Fg} {mg : Str → Option Value} {base : Heap}
/-- a def's data promise from its body's derivation -/
theorem fn_data {x qual : Str} {st : Stmt} {f : Addr} {fd : FuncData} {N ps : List Str} {k n m : Nat} {g : MS} (hn : N.length = n) (hm : ps.length = m) (F : Fun K x qual st f fd) (sc : FnScope N ps (defScope st))
    (hb : ∀ (cdv : Value) (A : Around) (out : List Env) (s : Shared) (H : Hp) (E : XK), Room k (A.deeper (envOfC qual (defScope st) s.heap.objs.size f cdv)) → (A.deeper (envOfC qual (defScope st) s.heap.objs.size f cdv)).guards = some [] →
      DSs (cxOf CX0 P w K mg base N qual (defScope st) f cdv A out s H E).nox (defBody st) g) : FnG P w K mg base CX0 (k + 1) f fd ps (spF K m (runF n g)) :=
  fng_ok F sc (fun _ _ _ _ h => h.1.trans hm.symm) fun cdv A out s H vs Q E hr hg h => ⟨_, hb cdv A out s H E hr hg, body_F (by rw [hn]; exact h)⟩
theorem fn_list {x qual : Str} {st : Stmt} {f : Addr} {fd : FuncData} {N ps : List Str} {k n m : Nat} {g : MS} (hn : N.length = n) (hm : ps.length = m) (F : Fun K x qual st f fd) (sc : FnScope N ps (defScope st))
    (hb : ∀ (cdv : Value) (A : Around) (out : List Env) (s : Shared) (H : Hp) (E : XK), Room k (A.deeper (envOfC qual (defScope st) s.heap.objs.size f cdv)) → (A.deeper (envOfC qual (defScope st) s.heap.objs.size f cdv)).guards = some [] →
      DSs (cxOf CX0 P w K mg base N qual (defScope st) f cdv A out s H E).nox (defBody st) g) : FnG P w K mg base CX0 (k + 1) f fd ps (spL K m (runL n g)) :=
  fng_ok F sc (fun _ _ _ _ h => h.1.trans hm.symm) fun cdv A out s H vs Q E hr hg h => ⟨_, hb cdv A out s H E hr hg, body_L (by rw [hn]; exact h)⟩
/-- a better function in the place of the body's own -/
theorem fn_as {k n : Nat} {f : Addr} {fd : FuncData} {ps : List Str} {F G : FV} (h : FnG P w K mg base CX0 k f fd ps (spF K n F)) (e : ∀ ps S r, ps.length = n → G ps S = some r → F ps S = some r) : FnG P w K mg base CX0 k f fd ps (spF K n G) :=
  h.weak fun vs H Q E ⟨hn, ht, as, S, qs, v, S', R, V, e1, k⟩ => ⟨hn, ht, as, S, qs, v, S', R, V, e qs S _ (by rw [← paired_len V]; exact hn) e1, k⟩
theorem fn_asL {k n : Nat} {f : Addr} {fd : FuncData} {ps : List Str} {F G : FL} (h : FnG P w K mg base CX0 k f fd ps (spL K n F)) (e : ∀ ps S r, ps.length = n → G ps S = some r → F ps S = some r) : FnG P w K mg base CX0 k f fd ps (spL K n G) :=
  h.weak fun vs H Q E ⟨hn, ht, as, S, qs, v, S', R, V, e1, k⟩ => ⟨hn, ht, as, S, qs, v, S', R, V, e qs S _ (by rw [← paired_len V]; exact hn) e1, k⟩
end
end DL

namespace DL
open PySem PySem.Spec PyProof.Rows L2 DK
variable [Nms] [Tabs]

/-! ### the law's own call, from its data promise -/
/-- a heap in which the script alone is tracked (or nothing, where the script is one of the module's own lists) -/
theorem script_heap {P : Program} {w : World} {K : Fg} {s1 : Shared} {a : Addr} {vs : List Value} {ns : List Int} (kin : K.In s1.heap) (ha : s1.heap.get? a = some { cls := .type "list", data := .seq vs.toArray }) (hi : IntsAre vs ns) (hl : ns.length ≤ sizeLine) :
    ∃ H : Hp, Only H ∧ SqL K H a (ns.map V.int) ∧ HOk P w H s1.heap ∧ (∀ b, H b ≠ none → b = a) ∧ (H a ≠ none → K.lookup a = none) := by
  have rel := vals_ints hi
  have len := hi.length
  cases hk : K.lookup a with
  | some o =>
    have same := kin a o hk
    rw [ha] at same
    cases same
    exact ⟨fun _ => none, fun _ => .inl rfl, .inr ⟨_, vs.toArray, _, hk, rfl, rfl, rfl, by rw [List.size_toArray, len]; exact hl, by simpa using rel⟩, fun b u z => (absurd z (by simp)), fun b z => absurd rfl z, fun z => absurd rfl z⟩
  | none =>
    let ob : Obj := { cls := .type "list", data := .seq vs.toArray }
    refine ⟨fun b => if b = a then some (.frz ob (.lst (ns.map V.int))) else none, fun b => ?_, .inl (.inr ⟨ob, if_pos rfl⟩), fun b u z => ?_, fun b z => ?_, fun _ => rfl⟩
    · by_cases e : b = a
      · exact .inr ⟨ob, _, if_pos e⟩
      · exact .inl (if_neg e)
    · by_cases e : b = a
      · subst e
        dsimp only at z
        rw [if_pos rfl] at z
        cases z
        exact ⟨ha, by rw [List.length_map]; exact hl, vs, _, rel, ha⟩
      · dsimp only at z
        rw [if_neg e] at z
        cases z
    · by_cases e : b = a
      · exact e
      · exact absurd (if_neg e) z
theorem law_run {P : Program} {w : World} {K : Fg} {mg mb : Str → Option Value} {k : Nat} {fa a : Addr} {fd : FuncData} {x : Str} {sp : Sp} {s1 : Shared} {vs : List Value} {ns : List Int}
    (kin : K.In s1.heap) (glo : s1.heap.Ns mainGlobals mg) (blt : s1.heap.Ns builtinsNs mb) (bb : ∀ x : Str, x ≠ "__name__" → mb x = bootBuiltins x) (lim : s1.heap.NoLimit) (gens : s1.gens = #[])
    (ha : s1.heap.get? a = some { cls := .type "list", data := .seq vs.toArray }) (hi : IntsAre vs ns) (hl : ns.length ≤ sizeLine) (room : Room k callerA)
    (F : ∀ base : Heap, K.In base → base.Ns mainGlobals mg → FnG P w K mg base CX0 k fa fd [x] sp) (bind : ∀ (s : Shared) (u : Value), BindsTo s fd ⟨[u], []⟩ [(x, u)])
    (want : ∀ H : Hp, SqL K H a (ns.map V.int) → sp [.ref a] H (fun v _ => v = .bl true) fun _ _ _ => False) :
    codeAny (model P w) callerA (.call (.ref fa) ⟨[.ref a], []⟩) (fun r s' => r = .ok (.ret (.bool true)) ∧ OldK s1.heap s'.heap ∧ s'.os = s1.os ∧ AllBare s'.gens) s1 := by
  obtain ⟨H, only, sq, hok, hA, hK⟩ := script_heap (P := P) (w := w) kin ha hi hl
  have free : ∀ {b : Addr} {o : Obj}, s1.heap.get? b = some o → (∀ its n, o.data ≠ .seq its n) → H b = none := fun {b o} e d => by
    cases q : H b with
    | none => rfl
    | some u =>
      have eb : b = a := hA b (by rw [q]; simp)
      rw [eb, ha] at e
      cases e
      exact absurd rfl (d _ _)
  have nsOf : ∀ {b : Addr} {m : Str → Option Value}, s1.heap.Ns b m → (hidT s1.heap H).Ns b m := fun {b m} z => by
    obtain ⟨o, es, ep, e, d, r⟩ := z
    exact ⟨o, es, ep, hidT_get e (free e fun its n q => by rw [d] at q; cases q), d, r⟩
  have kb : K.In (hidT s1.heap H) := fun b o e => hidT_get (kin b o e) (by
    cases q : H b with
    | none => rfl
    | some u =>
      have eb : b = a := hA b (by rw [q]; simp)
      subst eb
      rw [hK (by rw [q]; simp)] at e
      cases e)
  obtain ⟨mc, c1, c2⟩ := lim
  have en : Env0 P w K mg (hidT s1.heap H) callerA [] s1 H :=
    ⟨rfl, ⟨kb, nsOf glo, ⟨mb, nsOf blt, bb⟩, ⟨mc, nsOf c1, c2⟩⟩, fun b o e => of_hidT e, Nat.le_of_eq (hidT_size _ _), trivial, fun b z => absurd (show b ∈ ([] : List Addr) from z) (by simp), hok, .of_eq gens⟩
  refine codeAny_mono ((F _ kb (nsOf glo)).go callerA [] s1 H ⟨[.ref a], []⟩ [.ref a] [.ref a] _ _ room rfl en (bind s1 (.ref a)) (.cons rfl .nil) (want H sq)) fun r s' z => ?_
  cases r with
  | error e => exact z.elim
  | ok fl =>
    cases fl with
    | next => exact z.elim
    | brk => exact z.elim
    | cont => exact z.elim
    | ret u =>
      obtain ⟨v, H', os, bare, un, hok', rv, q⟩ := z
      have q' : v = .bl true := q
      subst q'
      have eu : u = Value.bool true := rv
      subst eu
      refine ⟨rfl, OldK.of_keep fun b o e => ?_, os, bare⟩
      rcases only b with n | ⟨ob, xs, n⟩
      · exact un.keep b o e n (fun z => absurd (show b ∈ ([] : List Addr) from z) (by simp)) (by simp)
      · obtain ⟨e1, _⟩ := hok b _ n
        obtain ⟨e2, _⟩ := hok' b _ (un.frzs b ob _ n)
        rw [e] at e1
        cases e1
        exact e2
/-- the goal that k_head leaves -/
theorem walkD {l : PySem.W.OpenLaw} {n k : Nat} {q : Program} {loose : List Str} {XP : (Str → Option Value) → Heap → Prop} {YP : World → Heap → Prop} {d : DefRec} {K : Params → Fg} {G : FV} {x : Str} (hn : l.most = some n) (hn2 : n ≤ sizeLine) (hdf : d.params.defaults = []) (room : Room k callerA)
    (hY : ∀ (w : World) (h : Heap), YP w h → (K w.params).In h)
    (F : ∀ (w : World) (mg : Str → Option Value) (fa : Addr) (h : Heap), (K w.params).In h → h.Ns mainGlobals mg → mg d.name = some (.ref fa) →
      ∃ fd : FuncData, (∀ (s : Shared) (u : Value), BindsTo s fd ⟨[u], []⟩ [(x, u)]) ∧ ∀ base : Heap, (K w.params).In base → base.Ns mainGlobals mg → FnG l.prog w (K w.params) mg base CX0 k fa fd [x] (spF (K w.params) 1 G))
    (hG : ∀ ns : List Int, ns.length ≤ n → ∃ S', G [.d (.list (ns.map .int))] [] = some (.d (.bool true), S')) (hT : Tabs.l = [] := by rfl) :
    PySem.W.WalkO q loose XP YP l.row.toRowW d [] (fun f vs => PySem.call f vs) := by
  refine Att.attach_call hn hdf fun w s0 s1 mg mb fa o pm cd doc a vs ns gr Y ho hd hcd hmg hobj hints hlen hg => ?_
  have kin := hY w _ Y
  obtain ⟨fd, hb, hF⟩ := F w mg fa _ kin gr.T.g hmg
  refine law_run kin gr.T.g gr.T.b gr.T.builtins gr.T.nolimit hg hobj hints (Nat.le_trans hlen hn2) room hF hb fun H sq => ?_
  obtain ⟨S', e⟩ := hG ns hlen
  have v1 : VR (K w.params) [] H (.ref a) (.d (.list (ns.map .int))) := Dp.lst (sqL_noT sq) (dpAll_ints ns)
  refine ⟨rfl, (fun P (hP : P ∈ Tabs.l) => by rw [hT] at hP; cases hP), [], [], _, _, S', .nilR H, .cons v1 .nil, e, fun u H' _ _ V => ?_⟩
  cases V
  rfl
end DL

namespace DL
open PySem PySem.Spec PyProof.Rows L2 DK
variable [Nms] [Tabs]

/-! ### tuples of ints by their order -/
def fLtT : PV → PV → Sto → Option PV := fun x y _ => match x, y with
  | .d (.tuple xs), .d (.tuple ys) => (intsOf xs).bind fun a => (intsOf ys).bind fun b => some (.d (.bool (HT.lexLt a b)))
  | _, _ => none
theorem opD_ltT {K : Fg} : OpD K (rLtT K) fLtT := by
  intro as S H u w x y z Q R V1 V2 e k
  unfold fLtT at e
  split at e
  · obtain ⟨a, e1, e⟩ := Option.bind_eq_some_iff.mp e
    obtain ⟨b, e2, e⟩ := Option.bind_eq_some_iff.mp e
    cases e
    cases V1 with
    | tup s1 a1 =>
      cases V2 with
      | tup s2 a2 =>
        rw [intsOf_some e1] at a1
        rw [intsOf_some e2] at a2
        rw [dpAll_ints_inv a1] at s1
        rw [dpAll_ints_inv a2] at s2
        exact ⟨_, _, a, b, rfl, rfl, sqT_mono hide_same s1, sqT_mono hide_same s2, k _ H R .refl (.bl _)⟩
  · cases e
section
variable {X : Cx} {a b : Expr} {ma mb : M} {pos : Pos} {k : Nat}
theorem de_ltT (hr : Room k X.A) (ha : DE X a ma) (hb : DE X b mb) : DE X (.Compare a [.Lt] [b] pos) (mOp fLtT ma mb) := de_cmp (op_ltT hr.units0) opD_ltT ha hb (nomark _)
theorem db_ltT (hr : Room k X.A) (ha : DE X a ma) (hb : DE X b mb) : DB X (.Compare a [.Lt] [b] pos) (asB (mOp fLtT ma mb)) := db_cmp (op_ltT hr.units0) opD_ltT ha hb (nomark _)
end

/-! ### truth -/
def truD : PyData → Option Bool
  | .none => some false
  | .bool b => some b
  | .int i => some (i != 0)
  | .str z => if z.length ≤ 1000000 then some ((z.length : Int) != 0) else none
  | .list xs => some (!xs.isEmpty)
  | .tuple xs => some (!xs.isEmpty)
  | .dict _ => none
def bTru (m : M) : MB := fun ρ S => (m ρ S).bind fun p => (asD p.2 p.1).bind fun d => (truD d).bind fun b => some (b, p.2)
theorem isEmpty_dp {K : Fg} {H : Hp} {vs : List V} {ds : List PyData} (h : DpAll K H vs ds) : (!ds.isEmpty) = !vs.isEmpty := by
  cases h <;> rfl
theorem tru_dp {K : Fg} {H : Hp} {u : V} {d : PyData} {b : Bool} (h : Dp K H u d) (e : truD d = some b) : TruV K u H b := by
  cases h with
  | non => cases e; rfl
  | bl x => cases e; rfl
  | int i => cases e; rfl
  | str z =>
    unfold truD at e
    dsimp only at e
    split at e
    · rename_i hz
      cases e
      exact ⟨million hz, rfl⟩
    · cases e
  | lst s a =>
    cases e
    exact .inl ⟨_, s, isEmpty_dp a⟩
  | tup s a =>
    cases e
    exact .inr (.inl ⟨_, s, isEmpty_dp a⟩)
theorem db_tru {X : Cx} {a : Expr} {m : M} (ha : DE X a m) (he : ∀ whole, isTrue a X.env whole = (do let v ← whole; standAt a.pos; holding [v] (truthy v)) := by intro _; rfl) : DB X a (bTru m) :=
  pt_imp (pt_truth ha he) fun σ H Q ⟨as, ρ, S, b, S', R, E, e, k⟩ => by
    obtain ⟨⟨x, S1⟩, e1, e⟩ := Option.bind_eq_some_iff.mp e
    obtain ⟨d, e2, e⟩ := Option.bind_eq_some_iff.mp e
    obtain ⟨b2, e3, e⟩ := Option.bind_eq_some_iff.mp e
    cases e
    exact ⟨as, ρ, S, x, S1, R, E, e1, fun u H1 R1 E1 V1 => ⟨_, tru_dp (asD_dp R1 V1 e2) e3, k H1 R1 E1⟩⟩

/-! ### list(range(..)) -/
theorem rgV_dp {K : Fg} {H : Hp} (a b : Int) : DpAll K H (rgV a b) (rangeD a (b - a).toNat) := by
  unfold rgV rangeD
  induction (List.range (b - a).toNat) with
  | nil => exact .nil
  | cons x r ih => exact .cons (.int _) ih
section
variable {X : Cx} {pos p p2 q2 : Pos} {a b : Expr} {m n : M}
theorem dl_lrg1 (hc : X.calm = true) (hg : Gl X "list") (hm : X.mg "list" = none) (hg2 : Gl X "range") (hm2 : X.mg "range" = none) (ha : DE X a m) (na : starEach [a] X.env = (false, eval a X.env) :: starEach [] X.env := by rfl)
    (nb : starEach [.Call (.Name "range" p2) [a] [] q2] X.env = (false, eval (.Call (.Name "range" p2) [a] [] q2) X.env) :: starEach [] X.env := by rfl) : DLs X (.Call (.Name "list" p) [.Call (.Name "range" p2) [a] [] q2] [] pos) (mRng1 m) :=
  pe_imp (pe_listRg hc hg hm (prg_1 hg2 hm2 ha na) nb) fun σ H Q ⟨as, ρ, S, ds, S', R, E, e, k⟩ => by
    obtain ⟨⟨v, S2⟩, e1, e⟩ := Option.bind_eq_some_iff.mp e
    refine ⟨as, ρ, S, v, S2, R, E, e1, fun u H1 R1 E1 V1 => ?_⟩
    dsimp only at e
    split at e
    · split at e
      · rename_i hz
        cases e
        cases V1
        refine ⟨_, rfl, ⟨by decide, by decide, by omega, by omega, by omega⟩, fun q hq => k q H1 _ R1 E1 hq ?_⟩
        have z := rgV_dp (K := X.K) (H := hide as H1) 0
        exact (by simpa using z _)
      · cases e
    · cases e
end
end DL

namespace DL
open PySem PySem.Spec PyProof.Rows L2 DK
/-- where nothing else is told: no tables -/
instance (priority := low) noTabs : Tabs := ⟨[]⟩
instance (priority := low) noNms : Nms := ⟨fun _ _ => none⟩
/-- as many turns as the number in a slot tells, and two -/
def fuelAt (i : Nat) : RE → Sto → Nat := fun ρ _ => match ρ[i]? with
  | some (some (.d (.int x))) => x.natAbs + 2
  | _ => 0
end DL

namespace DL
open PySem PySem.Spec PyProof.Rows L2 DK

/-! ### what stands ahead in the store changes nothing -/
def shV (n : Nat) : PV → PV
  | .d x => .d x
  | .c j => .c (n + j)
def shR (n : Nat) (ρ : RE) : RE := ρ.map (Option.map (shV n))
def shO (S : Sto) : Out → Out
  | .nx ρ T => .nx (shR S.length ρ) (S ++ T)
  | .bk ρ T => .bk (shR S.length ρ) (S ++ T)
  | .ct ρ T => .ct (shR S.length ρ) (S ++ T)
  | .rt v T => .rt (shV S.length v) (S ++ T)
  | .rl v T => .rl v (S ++ T)
class FrM (m : M) : Prop where
  fr : ∀ ρ S T, m (shR S.length ρ) (S ++ T) = (m ρ T).map fun r => (shV S.length r.1, S ++ r.2)
class FrB (m : MB) : Prop where
  fr : ∀ ρ S T, m (shR S.length ρ) (S ++ T) = (m ρ T).map fun r => (r.1, S ++ r.2)
class FrA (m : MA) : Prop where
  fr : ∀ ρ S T, m (shR S.length ρ) (S ++ T) = (m ρ T).map fun r => (r.1.map (shV S.length), S ++ r.2)
class FrL (m : ML) : Prop where
  fr : ∀ ρ S T, m (shR S.length ρ) (S ++ T) = (m ρ T).map fun r => (r.1, S ++ r.2)
class FrO (m : MO) : Prop where
  fr : ∀ ρ S T, m (shR S.length ρ) (S ++ T) = (m ρ T).map fun r => (r.1, S ++ r.2)
class FrS (m : MS) : Prop where
  fr : ∀ ρ S T, m (shR S.length ρ) (S ++ T) = (m ρ T).map (shO S)
class FrT (t : TgD) : Prop where
  fr : ∀ d ρ n, t d (shR n ρ) = (t d ρ).map (shR n)
class FrTs (t : TgDs) : Prop where
  fr : ∀ d ρ n, t d (shR n ρ) = (t d ρ).map (shR n)
class FrOp (f : PV → PV → Sto → Option PV) : Prop where
  fr : ∀ x y S T, f (shV S.length x) (shV S.length y) (S ++ T) = (f x y T).map (shV S.length)
class FrOpL (f : PV → PV → Sto → Option (List PyData)) : Prop where
  fr : ∀ x y S T, f (shV S.length x) (shV S.length y) (S ++ T) = f x y T
class FrC (f : List PV → Sto → Option PV) : Prop where
  fr : ∀ xs S T, f (xs.map (shV S.length)) (S ++ T) = (f xs T).map (shV S.length)
class FrCL (f : List PV → Sto → Option (List PyData)) : Prop where
  fr : ∀ xs S T, f (xs.map (shV S.length)) (S ++ T) = f xs T
class FrF (F : FV) : Prop where
  fr : ∀ xs S T, F (xs.map (shV S.length)) (S ++ T) = (F xs T).map fun r => (shV S.length r.1, S ++ r.2)
class FrFL (F : FL) : Prop where
  fr : ∀ xs S T, F (xs.map (shV S.length)) (S ++ T) = (F xs T).map fun r => (r.1, S ++ r.2)

theorem sh_get (ρ : RE) (n i : Nat) : (shR n ρ)[i]? = (ρ[i]?).map (Option.map (shV n)) := by unfold shR; rw [List.getElem?_map]
theorem sh_set (ρ : RE) (n i : Nat) (p : PV) : (shR n ρ).set i (some (shV n p)) = shR n (ρ.set i (some p)) := by unfold shR; rw [List.map_set]; rfl
theorem sh_setd (ρ : RE) (n i : Nat) (d : PyData) : (shR n ρ).set i (some (.d d)) = shR n (ρ.set i (some (.d d))) := sh_set ρ n i (.d d)
theorem sto_get (S T : Sto) (j : Nat) : (S ++ T)[S.length + j]? = T[j]? := by rw [List.getElem?_append_right (Nat.le_add_right _ _), Nat.add_sub_cancel_left]
theorem lAt_sh (S T : Sto) (j : Nat) : lAt (S ++ T) (S.length + j) = lAt T j := by
  unfold lAt
  rw [sto_get]
theorem dAt_sh (S T : Sto) (j : Nat) : dAt (S ++ T) (S.length + j) = dAt T j := by
  unfold dAt
  rw [sto_get]
theorem dAtW_sh (S T : Sto) (j : Nat) : dAtW (S ++ T) (S.length + j) = dAtW T j := by
  unfold dAtW
  rw [sto_get]
theorem sto_set (S T : Sto) (j : Nat) (x : Cell) : (S ++ T).set (S.length + j) x = S ++ T.set j x := by rw [List.set_append_right _ _ (Nat.le_add_right _ _), Nat.add_sub_cancel_left]
theorem sh_asD (S T : Sto) (x : PV) : asD (S ++ T) (shV S.length x) = asD T x := by
  cases x with
  | d y => rfl
  | c j => show (lAt (S ++ T) (S.length + j)).map _ = _; rw [lAt_sh]; rfl
theorem sh_items (S T : Sto) (x : PV) : itemsOf (S ++ T) (shV S.length x) = itemsOf T x := by
  cases x with
  | d y => cases y <;> rfl
  | c j => show lAt (S ++ T) (S.length + j) = _; rw [lAt_sh]; rfl

instance (i : Nat) : FrM (mVar i) := ⟨fun ρ S T => by
  unfold mVar
  rw [sh_get]
  cases h : ρ[i]? with
  | none => rfl
  | some o => cases o <;> rfl⟩
instance (x : PyData) : FrM (mC x) := ⟨fun ρ S T => rfl⟩
instance : FrA mNil := ⟨fun ρ S T => rfl⟩
instance (m : M) (ms : MA) [FrM m] [FrA ms] : FrA (mCons m ms) := ⟨fun ρ S T => by
  unfold mCons
  rw [FrM.fr (m := m)]
  cases h : m ρ T with
  | none => rfl
  | some r =>
    show (ms (shR S.length ρ) (S ++ r.2)).bind _ = _
    rw [FrA.fr (m := ms)]
    cases h2 : ms ρ r.2 with
    | none => simp [h2]
    | some q => simp [h2]⟩
theorem datas_sh (n : Nat) : ∀ vs : List PV, datas (vs.map (shV n)) = datas vs
  | [] => rfl
  | .d x :: r => by show (datas (r.map (shV n))).bind _ = _; rw [datas_sh n r]; rfl
  | .c _ :: _ => rfl
instance (m : MA) [FrA m] : FrM (mTup m) := ⟨fun ρ S T => by
  unfold mTup
  rw [FrA.fr (m := m)]
  cases h : m ρ T with
  | none => rfl
  | some r =>
    show (datas (r.1.map _)).bind _ = Option.map _ ((datas r.1).bind _)
    rw [datas_sh]
    cases datas r.1 with
    | none => rfl
    | some ds => dsimp; split <;> rfl⟩
instance (m : MA) [FrA m] : FrL (mLst m) := ⟨fun ρ S T => by
  unfold mLst
  rw [FrA.fr (m := m)]
  cases h : m ρ T with
  | none => rfl
  | some r =>
    show (datas (r.1.map _)).bind _ = Option.map _ ((datas r.1).bind _)
    rw [datas_sh]
    cases datas r.1 with
    | none => rfl
    | some ds => dsimp; split <;> rfl⟩
instance (m : ML) [FrL m] : FrM (mFz m) := ⟨fun ρ S T => by
  unfold mFz
  rw [FrL.fr (m := m)]
  cases h : m ρ T <;> rfl⟩
instance (f : PV → PV → Sto → Option PV) (a b : M) [FrOp f] [FrM a] [FrM b] : FrM (mOp f a b) := ⟨fun ρ S T => by
  unfold mOp
  rw [FrM.fr (m := a)]
  cases h : a ρ T with
  | none => rfl
  | some r =>
    show (b (shR S.length ρ) (S ++ r.2)).bind _ = _
    rw [FrM.fr (m := b)]
    cases h2 : b ρ r.2 with
    | none => simp [h2]
    | some q =>
      show ((f (shV S.length r.1) (shV S.length q.1) (S ++ q.2)).bind _) = _
      rw [FrOp.fr (f := f)]
      simp only [Option.bind_some, h2]
      cases f r.1 q.1 q.2 <;> rfl⟩
instance (f : PV → PV → Sto → Option (List PyData)) (a b : M) [FrOpL f] [FrM a] [FrM b] : FrL (mOpL f a b) := ⟨fun ρ S T => by
  unfold mOpL
  rw [FrM.fr (m := a)]
  cases h : a ρ T with
  | none => rfl
  | some r =>
    show (b (shR S.length ρ) (S ++ r.2)).bind _ = _
    rw [FrM.fr (m := b)]
    cases h2 : b ρ r.2 with
    | none => simp [h2]
    | some q =>
      show ((f (shV S.length r.1) (shV S.length q.1) (S ++ q.2)).bind _) = _
      rw [FrOpL.fr (f := f)]
      simp only [Option.bind_some, h2]
      cases f r.1 q.1 q.2 <;> rfl⟩
instance (g : Int → Int → PyData) : FrOp (fI0 g) := ⟨fun x y S T => by
  cases x with
  | c j => cases y <;> rfl
  | d x =>
    cases y with
    | c j => cases x <;> rfl
    | d y => cases x <;> first | rfl | (cases y <;> rfl)⟩
instance (c : Int → Int → Bool) (g : Int → Int → PyData) : FrOp (fIc c g) := ⟨fun x y S T => by
  cases x with
  | c j => cases y <;> rfl
  | d x =>
    cases y with
    | c j => cases x <;> rfl
    | d y =>
      cases x <;> first | rfl | (cases y <;> first | rfl | (unfold fIc; dsimp only [shV]; split <;> rfl))⟩
instance : FrOp fMul := inferInstanceAs (FrOp (fIc mulOk fun i j => .int (i * j)))
instance : FrOp fEq := ⟨fun x y S T => by
  unfold fEq
  rw [sh_asD, sh_asD]
  cases asD T x with
  | none => rfl
  | some a =>
    cases asD T y with
    | none => rfl
    | some b => dsimp; split <;> rfl⟩
instance : FrOp fNe := ⟨fun x y S T => by
  unfold fNe
  rw [sh_asD, sh_asD]
  cases asD T x with
  | none => rfl
  | some a =>
    cases asD T y with
    | none => rfl
    | some b => dsimp; split <;> rfl⟩
instance : FrOpL fCatL := ⟨fun x y S T => by
  unfold fCatL
  rw [sh_asD, sh_asD]⟩
theorem map_shV_list (n : Nat) (o : Option (List PyData)) : (o.map fun l => PV.d (.list l)).map (shV n) = o.map fun l => PV.d (.list l) := by cases o <;> rfl
instance : FrOp fAdd := ⟨fun x y S T => by
  have L : ∀ x y : PV, ((fCatL (shV S.length x) (shV S.length y) (S ++ T)).map fun l => PV.d (.list l)) = ((fCatL x y T).map fun l => PV.d (.list l)).map (shV S.length) := fun x y => by
    rw [FrOpL.fr (f := fCatL), map_shV_list]
  cases x with
  | c j => cases y with
    | c i => exact L (.c j) (.c i)
    | d y => exact L (.c j) (.d y)
  | d x =>
    cases y with
    | c j =>
      cases x with
      | none => exact L (.d .none) (.c j)
      | bool b => exact L (.d (.bool b)) (.c j)
      | int b => exact L (.d (.int b)) (.c j)
      | str b => exact L (.d (.str b)) (.c j)
      | list b => exact L (.d (.list b)) (.c j)
      | tuple b => exact L (.d (.tuple b)) (.c j)
      | dict b => exact L (.d (.dict b)) (.c j)
    | d y =>
      cases x <;> cases y <;> first
        | rfl
        | exact L (.d _) (.d _)
        | (unfold fAdd; dsimp only [shV]; split <;> rfl)⟩
instance : FrOp fLtT := ⟨fun x y S T => by
  cases x with
  | c j => cases y <;> rfl
  | d x =>
    cases y with
    | c j => cases x <;> rfl
    | d y =>
      cases x <;> first
        | rfl
        | (cases y <;> first
          | rfl
          | (unfold fLtT
             dsimp only [shV]
             generalize intsOf _ = o1
             generalize intsOf _ = o2
             cases o1 <;> cases o2 <;> rfl))⟩
instance : FrOp fIx := ⟨fun x y S T => by
  cases y with
  | c j => rfl
  | d y =>
    cases y with
    | int i =>
      have L : ∀ x : PV, ((itemsOf (S ++ T) (shV S.length x)).bind fun ds => (atI ds i).map PV.d) = ((itemsOf T x).bind fun ds => (atI ds i).map PV.d).map (shV S.length) := fun x => by
        rw [sh_items]
        cases itemsOf T x with
        | none => rfl
        | some ds =>
          show (atI ds i).map PV.d = ((atI ds i).map PV.d).map _
          cases atI ds i <;> rfl
      cases x with
      | c j => exact L (.c j)
      | d x =>
        cases x with
        | none => exact L (.d .none)
        | bool b => exact L (.d (.bool b))
        | int b => exact L (.d (.int b))
        | list b => exact L (.d (.list b))
        | tuple b => exact L (.d (.tuple b))
        | dict b => exact L (.d (.dict b))
        | str z =>
          unfold fIx
          dsimp only [shV]
          split
          · generalize atI _ i = o
            cases o <;> rfl
          · rfl
    | _ => rfl⟩
class FrU (f : PV → Option PV) : Prop where
  fr : ∀ n x, f (shV n x) = (f x).map (shV n)
instance : FrU fNeg := ⟨fun n x => by
  cases x with
  | c j => rfl
  | d x => cases x <;> rfl⟩
instance (f : PV → Option PV) (a : M) [FrM a] [FrU f] : FrM (mUn f a) := ⟨fun ρ S T => by
  unfold mUn
  rw [FrM.fr (m := a)]
  cases a ρ T with
  | none => rfl
  | some r =>
    show (f (shV S.length r.1)).bind _ = _
    rw [FrU.fr (f := f)]
    simp only [Option.bind_some]
    cases f r.1 <;> rfl⟩
/-! tests -/
instance (m : M) [FrM m] : FrB (asB m) := ⟨fun ρ S T => by
  unfold asB
  rw [FrM.fr (m := m)]
  cases m ρ T with
  | none => rfl
  | some r =>
    obtain ⟨v, T'⟩ := r
    cases v with
    | c j => rfl
    | d x => cases x <;> rfl⟩
instance (m : MB) [FrB m] : FrB (bNot m) := ⟨fun ρ S T => by
  unfold bNot
  rw [FrB.fr (m := m)]
  cases m ρ T <;> rfl⟩
instance : FrB bYes := ⟨fun ρ S T => rfl⟩
instance (a b : MB) [FrB a] [FrB b] : FrB (bAnd a b) := ⟨fun ρ S T => by
  unfold bAnd
  rw [FrB.fr (m := a)]
  cases a ρ T with
  | none => rfl
  | some r =>
    obtain ⟨v, T'⟩ := r
    cases v with
    | false => rfl
    | true => exact FrB.fr (m := b) ρ S T'⟩
instance (a b : MB) [FrB a] [FrB b] : FrB (bOr a b) := ⟨fun ρ S T => by
  unfold bOr
  rw [FrB.fr (m := a)]
  cases a ρ T with
  | none => rfl
  | some r =>
    obtain ⟨v, T'⟩ := r
    cases v with
    | true => rfl
    | false => exact FrB.fr (m := b) ρ S T'⟩
instance (m : M) [FrM m] : FrB (bTru m) := ⟨fun ρ S T => by
  unfold bTru
  rw [FrM.fr (m := m)]
  cases m ρ T with
  | none => rfl
  | some r =>
    show (asD (S ++ r.2) (shV S.length r.1)).bind _ = Option.map _ ((asD r.2 r.1).bind _)
    rw [sh_asD]
    cases asD r.2 r.1 with
    | none => rfl
    | some d =>
      show (truD d).bind _ = Option.map _ ((truD d).bind _)
      cases truD d <;> rfl⟩
instance (a b : M) [FrM a] [FrM b] : FrM (mAnd a b) := ⟨fun ρ S T => by
  unfold mAnd
  rw [FrM.fr (m := a)]
  cases a ρ T with
  | none => rfl
  | some r =>
    obtain ⟨v, T'⟩ := r
    cases v with
    | c j => rfl
    | d x =>
      cases x with
      | bool q => cases q with
        | true => exact FrM.fr (m := b) ρ S T'
        | false => rfl
      | _ => rfl⟩
instance (a b : M) [FrM a] [FrM b] : FrM (mOr a b) := ⟨fun ρ S T => by
  unfold mOr
  rw [FrM.fr (m := a)]
  cases a ρ T with
  | none => rfl
  | some r =>
    obtain ⟨v, T'⟩ := r
    cases v with
    | c j => rfl
    | d x =>
      cases x with
      | bool q => cases q with
        | false => exact FrM.fr (m := b) ρ S T'
        | true => rfl
      | _ => rfl⟩
instance (a : M) [FrM a] : FrM (mNot a) := ⟨fun ρ S T => by
  unfold mNot
  rw [FrM.fr (m := a)]
  cases a ρ T with
  | none => rfl
  | some r =>
    obtain ⟨v, T'⟩ := r
    cases v with
    | c j => rfl
    | d x => cases x <;> rfl⟩
instance (c : MB) (a b : M) [FrB c] [FrM a] [FrM b] : FrM (mIf c a b) := ⟨fun ρ S T => by
  unfold mIf
  rw [FrB.fr (m := c)]
  cases c ρ T with
  | none => rfl
  | some r =>
    obtain ⟨v, T'⟩ := r
    cases v with
    | true => exact FrM.fr (m := a) ρ S T'
    | false => exact FrM.fr (m := b) ρ S T'⟩
/-! calls -/
instance (n : Nat) (F : FV) (m : MA) [FrF F] [FrA m] : FrM (mFn n F m) := ⟨fun ρ S T => by
  unfold mFn
  rw [FrA.fr (m := m)]
  cases m ρ T with
  | none => rfl
  | some r =>
    show (if (r.1.map (shV S.length)).length = n then F (r.1.map (shV S.length)) (S ++ r.2) else none) = Option.map _ (if r.1.length = n then F r.1 r.2 else none)
    rw [List.length_map]
    split
    · exact FrF.fr (F := F) r.1 S r.2
    · rfl⟩
instance (n : Nat) (F : FL) (m : MA) [FrFL F] [FrA m] : FrL (mFnL n F m) := ⟨fun ρ S T => by
  unfold mFnL
  rw [FrA.fr (m := m)]
  cases m ρ T with
  | none => rfl
  | some r =>
    show (if (r.1.map (shV S.length)).length = n then F (r.1.map (shV S.length)) (S ++ r.2) else none) = Option.map _ (if r.1.length = n then F r.1 r.2 else none)
    rw [List.length_map]
    split
    · exact FrFL.fr (F := F) r.1 S r.2
    · rfl⟩
instance (f : List PV → Sto → Option PV) (m : MA) [FrC f] [FrA m] : FrM (mCall f m) := ⟨fun ρ S T => by
  unfold mCall
  rw [FrA.fr (m := m)]
  cases m ρ T with
  | none => rfl
  | some r =>
    show (f (r.1.map (shV S.length)) (S ++ r.2)).bind _ = Option.map _ ((f r.1 r.2).bind _)
    rw [FrC.fr (f := f)]
    cases f r.1 r.2 <;> rfl⟩
instance (f : List PV → Sto → Option (List PyData)) (m : MA) [FrCL f] [FrA m] : FrL (mCallL f m) := ⟨fun ρ S T => by
  unfold mCallL
  rw [FrA.fr (m := m)]
  cases m ρ T with
  | none => rfl
  | some r =>
    show (f (r.1.map (shV S.length)) (S ++ r.2)).bind _ = Option.map _ ((f r.1 r.2).bind _)
    rw [FrCL.fr (f := f)]
    cases f r.1 r.2 <;> rfl⟩
instance : FrC cLen := ⟨fun xs S T => by
  cases xs with
  | nil => rfl
  | cons x r => cases r with
    | cons y r => rfl
    | nil =>
      show (match asD (S ++ T) (shV S.length x) with | some (.list xs) => some (PV.d (.int xs.length)) | some (.tuple xs) => some (.d (.int xs.length)) | some (.str z) => if z.length ≤ 1000000 then some (.d (.int z.length)) else none | _ => none) = Option.map _ (match asD T x with | some (.list xs) => some (PV.d (.int xs.length)) | some (.tuple xs) => some (.d (.int xs.length)) | some (.str z) => if z.length ≤ 1000000 then some (.d (.int z.length)) else none | _ => none)
      rw [sh_asD]
      cases asD T x with
      | none => rfl
      | some d => cases d <;> first | rfl | (dsimp only; split <;> rfl)⟩
/-- calls that look at data alone -/
theorem frC_data {f : List PV → Sto → Option PV} (h : ∀ xs S T, f xs S = f xs T) (hn : ∀ xs S v, f xs S = some v → ∃ d, v = .d d) (hc : ∀ xs S, (∃ j, .c j ∈ xs) → f xs S = none) : FrC f := ⟨fun xs S T => by
  by_cases e : ∃ j, PV.c j ∈ xs
  · rw [hc xs T e, hc _ _ (by obtain ⟨j, e⟩ := e; exact ⟨S.length + j, List.mem_map.mpr ⟨_, e, rfl⟩⟩)]
    rfl
  · have ex : xs.map (shV S.length) = xs := by
      conv => rhs; rw [← List.map_id xs]
      refine List.map_congr_left fun a ha => ?_
      cases a with
      | d x => rfl
      | c j => exact absurd ⟨j, ha⟩ e
    rw [ex, h xs (S ++ T) T]
    cases q : f xs T with
    | none => rfl
    | some v =>
      obtain ⟨d, rfl⟩ := hn _ _ _ q
      rfl⟩
instance : FrC cSum := ⟨fun xs S T => by
  cases xs with
  | nil => rfl
  | cons x r => cases r with
    | cons y r => rfl
    | nil =>
      show (itemsOf (S ++ T) (shV S.length x)).bind _ = Option.map _ ((itemsOf T x).bind _)
      rw [sh_items]
      cases itemsOf T x with
      | none => rfl
      | some ds =>
        show (intsOf ds).map _ = Option.map _ ((intsOf ds).map _)
        cases intsOf ds <;> rfl⟩
instance : FrC cTuple := ⟨fun xs S T => by
  cases xs with
  | nil => rfl
  | cons x r => cases r with
    | cons y r => rfl
    | nil =>
      show (itemsOf (S ++ T) (shV S.length x)).map _ = Option.map _ ((itemsOf T x).map _)
      rw [sh_items]
      cases itemsOf T x <;> rfl⟩
instance : FrCL cList := ⟨fun xs S T => by
  cases xs with
  | nil => rfl
  | cons x r => cases r with
    | cons y r => rfl
    | nil => exact sh_items S T x⟩
instance : FrC cRepr := ⟨fun xs S T => by
  cases xs with
  | nil => rfl
  | cons x r => cases r with
    | cons y r => rfl
    | nil =>
      show (asD (S ++ T) (shV S.length x)).bind _ = Option.map _ ((asD T x).bind _)
      rw [sh_asD]
      cases asD T x with
      | none => rfl
      | some d => dsimp; split <;> rfl⟩
end DL

namespace DL
open PySem PySem.Spec PyProof.Rows L2 DK
theorem pv1 (f : PV → Option PV) (hf : ∀ n x, f (shV n x) = (f x).map (shV n)) {g : List PV → Sto → Option PV} (h0 : ∀ S, g [] S = none) (h1 : ∀ x S, g [x] S = f x) (h2 : ∀ x y r S, g (x :: y :: r) S = none) : FrC g := ⟨fun xs S T => by
  cases xs with
  | nil => rw [List.map_nil, h0, h0]; rfl
  | cons x r => cases r with
    | cons y r => rw [List.map_cons, List.map_cons, h2, h2]; rfl
    | nil => rw [List.map_cons, List.map_nil, h1, h1]; exact hf _ _⟩
instance : FrC cAbs := ⟨fun xs S T => by
  cases xs with
  | nil => rfl
  | cons x r => cases r with
    | cons y r => cases x with
      | c j => rfl
      | d x => cases x <;> rfl
    | nil => cases x with
      | c j => rfl
      | d x => cases x <;> rfl⟩
instance : FrC cInt := ⟨fun xs S T => by
  cases xs with
  | nil => rfl
  | cons x r => cases r with
    | cons y r => cases x with
      | c j => rfl
      | d x => cases x <;> rfl
    | nil => cases x with
      | c j => rfl
      | d x => cases x <;> rfl⟩
instance : FrC cStr := ⟨fun xs S T => by
  cases xs with
  | nil => rfl
  | cons x r => cases r with
    | cons y r => cases x with
      | c j => rfl
      | d x => cases x <;> rfl
    | nil => cases x with
      | c j => rfl
      | d x => cases x with
        | int i =>
          show (if i.natAbs.log2 < 1920 then some (PV.d (.str (toString i))) else none) = Option.map _ (if i.natAbs.log2 < 1920 then some (PV.d (.str (toString i))) else none)
          split <;> rfl
        | _ => rfl⟩
theorem frC2 {f : Int → Int → PyData} {g : List PV → Sto → Option PV} (h2 : ∀ i j S, g [.d (.int i), .d (.int j)] S = some (.d (f i j))) (hn : ∀ xs S, (∀ i j, xs ≠ [.d (.int i), .d (.int j)]) → g xs S = none) : FrC g := ⟨fun xs S T => by
  by_cases e : ∃ i j, xs = [.d (.int i), .d (.int j)]
  · obtain ⟨i, j, rfl⟩ := e
    rw [h2]
    show g [.d (.int i), .d (.int j)] _ = _
    rw [h2]
    rfl
  · rw [hn xs T fun i j z => e ⟨i, j, z⟩, hn _ _ fun i j z => ?_]
    · rfl
    · cases xs with
      | nil => exact absurd (congrArg List.length z) (by simp)
      | cons x r =>
        cases r with
        | nil => exact absurd (congrArg List.length z) (by simp)
        | cons y r =>
          cases r with
          | cons _ _ => exact absurd (congrArg List.length z) (by simp)
          | nil =>
            rw [List.map_cons, List.map_cons, List.map_nil] at z
            injection z with z1 z
            injection z with z2 z
            cases x with
            | c a => cases z1
            | d a =>
              cases y with
              | c b => cases z2
              | d b =>
                cases z1
                cases z2
                exact e ⟨i, j, rfl⟩⟩
instance : FrC cMax := frC2 (f := fun i j => .int (if j > i then j else i)) (fun _ _ _ => rfl) fun xs S h => by
  unfold cMax
  split
  · exact absurd rfl (h _ _)
  · rfl
instance : FrC cMin := frC2 (f := fun i j => .int (if j < i then j else i)) (fun _ _ _ => rfl) fun xs S h => by
  unfold cMin
  split
  · exact absurd rfl (h _ _)
  · rfl
instance (k : Kd) (m : M) [FrM m] : FrM (mIsi k m) := ⟨fun ρ S T => by
  unfold mIsi
  rw [FrM.fr (m := m)]
  cases m ρ T with
  | none => rfl
  | some r =>
    show (asD (S ++ r.2) (shV S.length r.1)).bind _ = Option.map _ ((asD r.2 r.1).bind _)
    rw [sh_asD]
    cases asD r.2 r.1 <;> rfl⟩
/-! slices -/
instance : FrO oNone := ⟨fun ρ S T => rfl⟩
instance (m : M) [FrM m] : FrO (oSome m) := ⟨fun ρ S T => by
  unfold oSome
  rw [FrM.fr (m := m)]
  cases m ρ T with
  | none => rfl
  | some r =>
    obtain ⟨v, T'⟩ := r
    cases v with
    | c j => rfl
    | d x => cases x <;> rfl⟩
instance (m : M) (ml mh : MO) [FrM m] [FrO ml] [FrO mh] : FrM (mSl m ml mh) := ⟨fun ρ S T => by
  unfold mSl
  rw [FrM.fr (m := m)]
  cases m ρ T with
  | none => rfl
  | some r =>
    show (ml (shR S.length ρ) (S ++ r.2)).bind _ = Option.map _ ((ml ρ r.2).bind _)
    rw [FrO.fr (m := ml)]
    cases ml ρ r.2 with
    | none => rfl
    | some l =>
      show (mh (shR S.length ρ) (S ++ l.2)).bind _ = Option.map _ ((mh ρ l.2).bind _)
      rw [FrO.fr (m := mh)]
      cases mh ρ l.2 with
      | none => rfl
      | some h =>
        obtain ⟨v, T'⟩ := r
        cases v with
        | c j => rfl
        | d x => cases x <;> first | rfl | (dsimp [shV]; split <;> rfl)⟩
instance (m : M) (ml mh : MO) [FrM m] [FrO ml] [FrO mh] : FrL (mSlL m ml mh) := ⟨fun ρ S T => by
  unfold mSlL
  rw [FrM.fr (m := m)]
  cases m ρ T with
  | none => rfl
  | some r =>
    show (ml (shR S.length ρ) (S ++ r.2)).bind _ = Option.map _ ((ml ρ r.2).bind _)
    rw [FrO.fr (m := ml)]
    cases ml ρ r.2 with
    | none => rfl
    | some l =>
      show (mh (shR S.length ρ) (S ++ l.2)).bind _ = Option.map _ ((mh ρ l.2).bind _)
      rw [FrO.fr (m := mh)]
      cases mh ρ l.2 with
      | none => rfl
      | some h =>
        dsimp
        rw [sh_asD]
        cases asD h.2 r.1 with
        | none => rfl
        | some d => cases d <;> rfl⟩
instance (m : ML) (mb : M) [FrL m] [FrM mb] : FrL (mRep m mb) := ⟨fun ρ S T => by
  unfold mRep
  rw [FrL.fr (m := m)]
  cases m ρ T with
  | none => rfl
  | some r =>
    show (mb (shR S.length ρ) (S ++ r.2)).bind _ = Option.map _ ((mb ρ r.2).bind _)
    rw [FrM.fr (m := mb)]
    cases mb ρ r.2 with
    | none => rfl
    | some q =>
      obtain ⟨v, T'⟩ := q
      cases v with
      | c j => rfl
      | d x => cases x <;> first | rfl | (dsimp [shV]; split <;> rfl)⟩
/-! what is walked -/
instance (m : M) [FrM m] : FrL (mSeq m) := ⟨fun ρ S T => by
  unfold mSeq
  rw [FrM.fr (m := m)]
  cases m ρ T with
  | none => rfl
  | some r =>
    obtain ⟨v, T'⟩ := r
    cases v with
    | c j => rfl
    | d x => cases x <;> rfl⟩
instance (m : M) [FrM m] : FrL (mRng1 m) := ⟨fun ρ S T => by
  unfold mRng1
  rw [FrM.fr (m := m)]
  cases m ρ T with
  | none => rfl
  | some r =>
    obtain ⟨v, T'⟩ := r
    cases v with
    | c j => rfl
    | d x => cases x <;> first | rfl | (dsimp [shV]; split <;> rfl)⟩
instance (m n : M) [FrM m] [FrM n] : FrL (mRng2 m n) := ⟨fun ρ S T => by
  unfold mRng2
  rw [FrM.fr (m := m)]
  cases m ρ T with
  | none => rfl
  | some r =>
    show (n (shR S.length ρ) (S ++ r.2)).bind _ = Option.map _ ((n ρ r.2).bind _)
    rw [FrM.fr (m := n)]
    cases n ρ r.2 with
    | none => rfl
    | some q =>
      obtain ⟨v, T'⟩ := r
      obtain ⟨w, T2⟩ := q
      cases v with
      | c j => cases w with
        | c i => rfl
        | d y => rfl
      | d x =>
        cases w with
        | c i => cases x <;> rfl
        | d y => cases x <;> first | rfl | (cases y <;> first | rfl | (dsimp [shV]; split <;> rfl))⟩
/-! targets -/
instance (i : Nat) : FrT (gN i) := ⟨fun d ρ n => by
  unfold gN
  rw [sh_setd]
  rfl⟩
instance : FrTs gNs := ⟨fun d ρ n => by cases d <;> rfl⟩
instance (f : TgD) (g : TgDs) [FrT f] [FrTs g] : FrTs (gCs f g) := ⟨fun d ρ n => by
  cases d with
  | nil => rfl
  | cons x r =>
    show (f x (shR n ρ)).bind _ = Option.map _ ((f x ρ).bind _)
    rw [FrT.fr (t := f)]
    cases f x ρ with
    | none => rfl
    | some ρ' => exact FrTs.fr (t := g) r ρ' n⟩
instance (k : Nat) (g : TgDs) [FrTs g] : FrT (gT k g) := ⟨fun d ρ n => by
  cases d <;> first
    | rfl
    | (unfold gT
       dsimp only
       split
       · exact FrTs.fr (t := g) _ ρ n
       · rfl)⟩
theorem sh_wipe (n : Nat) (ρ : RE) : ∀ vs : List Nat, wipeR (shR n ρ) vs = shR n (wipeR ρ vs)
  | [] => rfl
  | v :: vs => by
    show (wipeR (shR n ρ) vs).set v none = shR n ((wipeR ρ vs).set v none)
    rw [sh_wipe n ρ vs]
    unfold shR
    rw [List.map_set]
    rfl
/-! comprehensions -/
theorem push_sh (S T : Sto) (j : Nat) (y : PyData) : pushAt (S.length + j) y (S ++ T) = (pushAt j y T).map (S ++ ·) := by
  unfold pushAt
  rw [lAt_sh]
  cases lAt T j with
  | none => rfl
  | some l =>
    dsimp
    split
    · rw [sto_set]; rfl
    · rfl
theorem lcGo_sh {tgt : TgD} {tt : MB} {te : M} [FrT tgt] [FrB tt] [FrM te] (S : Sto) (j : Nat) (ρ : RE) : ∀ (xs : List PyData) (T : Sto), lcGo (S.length + j) tgt tt te (shR S.length ρ) xs (S ++ T) = (lcGo j tgt tt te ρ xs T).map (S ++ ·)
  | [], T => rfl
  | x :: xs, T => by
    show (tgt x (shR S.length ρ)).bind _ = Option.map _ ((tgt x ρ).bind _)
    rw [FrT.fr (t := tgt)]
    cases tgt x ρ with
    | none => rfl
    | some ρ1 =>
      show (tt (shR S.length ρ1) (S ++ T)).bind _ = Option.map _ ((tt ρ1 T).bind _)
      rw [FrB.fr (m := tt)]
      cases tt ρ1 T with
      | none => rfl
      | some b =>
        obtain ⟨b, T1⟩ := b
        cases b with
        | false => exact lcGo_sh S j ρ xs T1
        | true =>
          show (te (shR S.length ρ1) (S ++ T1)).bind _ = Option.map _ ((te ρ1 T1).bind _)
          rw [FrM.fr (m := te)]
          cases te ρ1 T1 with
          | none => rfl
          | some v =>
            obtain ⟨v, T2⟩ := v
            cases v with
            | c i => rfl
            | d y =>
              show (pushAt (S.length + j) y (S ++ T2)).bind _ = Option.map _ ((pushAt j y T2).bind _)
              rw [push_sh]
              cases pushAt j y T2 with
              | none => rfl
              | some T3 => exact lcGo_sh S j ρ xs T3
theorem app_sh (S T : Sto) (x : Cell) : (S ++ T) ++ [x] = S ++ (T ++ [x]) := List.append_assoc ..
theorem len_sh (S T : Sto) : (S ++ T).length = S.length + T.length := List.length_append
theorem take_sh (S T : Sto) (n : Nat) : (S ++ T).take (S.length + n) = S ++ T.take n := by
  rw [List.take_append, List.take_of_length_le (Nat.le_add_right _ _), Nat.add_sub_cancel_left]
instance (mi : ML) (vs : List Nat) (tgt : TgD) (tt : MB) (te : M) [FrL mi] [FrT tgt] [FrB tt] [FrM te] : FrL (mLc mi vs tgt tt te) := ⟨fun ρ S T => by
  unfold mLc
  rw [FrL.fr (m := mi)]
  cases mi ρ T with
  | none => rfl
  | some p =>
    show (lcGo (S ++ p.2).length tgt tt te (wipeR (shR S.length ρ) vs) p.1 ((S ++ p.2) ++ [.l []])).bind _ = Option.map _ ((lcGo p.2.length tgt tt te (wipeR ρ vs) p.1 (p.2 ++ [.l []])).bind _)
    rw [len_sh, app_sh, sh_wipe, lcGo_sh]
    cases lcGo p.2.length tgt tt te (wipeR ρ vs) p.1 (p.2 ++ [.l []]) with
    | none => rfl
    | some T2 =>
      show (lAt (S ++ T2) (S.length + p.2.length)).bind _ = Option.map _ ((lAt T2 p.2.length).bind _)
      rw [lAt_sh]
      cases lAt T2 p.2.length with
      | none => rfl
      | some ds =>
        show some (ds, (S ++ T2).take (S.length + p.2.length)) = _
        rw [take_sh]
        rfl⟩
theorem lc2Go_sh {tgt tgt1 : TgD} {tt tt1 : MB} {mi1 : ML} {vs1 : List Nat} {te : M} [FrT tgt] [FrB tt] [FrL mi1] [FrT tgt1] [FrB tt1] [FrM te] (S : Sto) (j : Nat) (ρ : RE) : ∀ (xs : List PyData) (T : Sto),
    lc2Go (S.length + j) tgt tt mi1 vs1 tgt1 tt1 te (shR S.length ρ) xs (S ++ T) = (lc2Go j tgt tt mi1 vs1 tgt1 tt1 te ρ xs T).map (S ++ ·)
  | [], T => rfl
  | x :: xs, T => by
    show (tgt x (shR S.length ρ)).bind _ = Option.map _ ((tgt x ρ).bind _)
    rw [FrT.fr (t := tgt)]
    cases tgt x ρ with
    | none => rfl
    | some ρ1 =>
      show (tt (shR S.length ρ1) (S ++ T)).bind _ = Option.map _ ((tt ρ1 T).bind _)
      rw [FrB.fr (m := tt)]
      cases tt ρ1 T with
      | none => rfl
      | some b =>
        obtain ⟨b, T1⟩ := b
        cases b with
        | false => exact lc2Go_sh S j ρ xs T1
        | true =>
          show (mi1 (shR S.length ρ1) (S ++ T1)).bind _ = Option.map _ ((mi1 ρ1 T1).bind _)
          rw [FrL.fr (m := mi1)]
          cases mi1 ρ1 T1 with
          | none => rfl
          | some p =>
            show (lcGo (S.length + j) tgt1 tt1 te (wipeR (shR S.length ρ1) vs1) p.1 (S ++ p.2)).bind _ = Option.map _ ((lcGo j tgt1 tt1 te (wipeR ρ1 vs1) p.1 p.2).bind _)
            rw [sh_wipe, lcGo_sh]
            cases lcGo j tgt1 tt1 te (wipeR ρ1 vs1) p.1 p.2 with
            | none => rfl
            | some T3 => exact lc2Go_sh S j ρ xs T3
instance (mi : ML) (vs : List Nat) (tgt : TgD) (tt : MB) (mi1 : ML) (vs1 : List Nat) (tgt1 : TgD) (tt1 : MB) (te : M) [FrL mi] [FrT tgt] [FrB tt] [FrL mi1] [FrT tgt1] [FrB tt1] [FrM te] : FrL (mLc2 mi vs tgt tt mi1 vs1 tgt1 tt1 te) := ⟨fun ρ S T => by
  unfold mLc2
  rw [FrL.fr (m := mi)]
  cases mi ρ T with
  | none => rfl
  | some p =>
    show (lc2Go (S ++ p.2).length tgt tt mi1 vs1 tgt1 tt1 te (wipeR (shR S.length ρ) vs) p.1 ((S ++ p.2) ++ [.l []])).bind _ = Option.map _ ((lc2Go p.2.length tgt tt mi1 vs1 tgt1 tt1 te (wipeR ρ vs) p.1 (p.2 ++ [.l []])).bind _)
    rw [len_sh, app_sh, sh_wipe, lc2Go_sh]
    cases lc2Go p.2.length tgt tt mi1 vs1 tgt1 tt1 te (wipeR ρ vs) p.1 (p.2 ++ [.l []]) with
    | none => rfl
    | some T2 =>
      show (lAt (S ++ T2) (S.length + p.2.length)).bind _ = Option.map _ ((lAt T2 p.2.length).bind _)
      rw [lAt_sh]
      cases lAt T2 p.2.length with
      | none => rfl
      | some ds =>
        show some (ds, (S ++ T2).take (S.length + p.2.length)) = _
        rw [take_sh]
        rfl⟩
/-! statements -/
instance : FrS sNil := ⟨fun ρ S T => rfl⟩
instance : FrS sBk := ⟨fun ρ S T => rfl⟩
instance : FrS sCt := ⟨fun ρ S T => rfl⟩
instance : FrS sNever := ⟨fun ρ S T => rfl⟩
instance (a b : MS) [FrS a] [FrS b] : FrS (sSeq a b) := ⟨fun ρ S T => by
  unfold sSeq
  rw [FrS.fr (m := a)]
  cases a ρ T with
  | none => rfl
  | some o => cases o with
    | nx ρ' T' => exact FrS.fr (m := b) ρ' S T'
    | _ => rfl⟩
instance (i : Nat) (m : M) [FrM m] : FrS (sSet i m) := ⟨fun ρ S T => by
  unfold sSet
  rw [FrM.fr (m := m)]
  cases m ρ T with
  | none => rfl
  | some p =>
    show some (Out.nx ((shR S.length ρ).set i (some (shV S.length p.1))) (S ++ p.2)) = _
    rw [sh_set]
    rfl⟩
instance (i : Nat) (m : ML) [FrL m] : FrS (sOwn i m) := ⟨fun ρ S T => by
  unfold sOwn
  rw [FrL.fr (m := m)]
  cases m ρ T with
  | none => rfl
  | some p =>
    show some (Out.nx ((shR S.length ρ).set i (some (.c (S ++ p.2).length))) ((S ++ p.2) ++ [.l p.1])) = _
    rw [len_sh, app_sh, show PV.c (S.length + p.2.length) = shV S.length (.c p.2.length) from rfl, sh_set]
    rfl⟩
instance (m : M) [FrM m] : FrS (sRet m) := ⟨fun ρ S T => by
  unfold sRet
  rw [FrM.fr (m := m)]
  cases m ρ T <;> rfl⟩
instance (m : ML) [FrL m] : FrS (sRetL m) := ⟨fun ρ S T => by
  unfold sRetL
  rw [FrL.fr (m := m)]
  cases m ρ T <;> rfl⟩
instance (m : M) [FrM m] : FrS (sDrop m) := ⟨fun ρ S T => by
  unfold sDrop
  rw [FrM.fr (m := m)]
  cases m ρ T <;> rfl⟩
instance (c : MB) (a b : MS) [FrB c] [FrS a] [FrS b] : FrS (sIf c a b) := ⟨fun ρ S T => by
  unfold sIf
  rw [FrB.fr (m := c)]
  cases c ρ T with
  | none => rfl
  | some r =>
    obtain ⟨v, T'⟩ := r
    cases v with
    | true => exact FrS.fr (m := a) ρ S T'
    | false => exact FrS.fr (m := b) ρ S T'⟩
instance (i j : Nat) (m : MA) [FrA m] : FrS (sPar i j m) := ⟨fun ρ S T => by
  unfold sPar
  rw [FrA.fr (m := m)]
  cases m ρ T with
  | none => rfl
  | some r =>
    obtain ⟨vs, T'⟩ := r
    cases vs with
    | nil => rfl
    | cons v r => cases r with
      | nil => rfl
      | cons w r => cases r with
        | cons _ _ => rfl
        | nil =>
          show some (Out.nx (((shR S.length ρ).set i (some (shV S.length v))).set j (some (shV S.length w))) (S ++ T')) = _
          rw [sh_set, sh_set]
          rfl⟩
instance (i : Nat) (f : PV → PV → Sto → Option PV) (m : M) [FrOp f] [FrM m] : FrS (sAug i f m) := ⟨fun ρ S T => by
  unfold sAug
  rw [FrM.fr (m := mVar i)]
  cases mVar i ρ T with
  | none => rfl
  | some p =>
    show (m (shR S.length ρ) (S ++ T)).bind _ = Option.map _ ((m ρ T).bind _)
    rw [FrM.fr (m := m)]
    cases m ρ T with
    | none => rfl
    | some q =>
      show (f (shV S.length p.1) (shV S.length q.1) (S ++ q.2)).bind _ = Option.map _ ((f p.1 q.1 q.2).bind _)
      rw [FrOp.fr (f := f)]
      cases f p.1 q.1 q.2 with
      | none => rfl
      | some z =>
        show some (Out.nx ((shR S.length ρ).set i (some (shV S.length z))) (S ++ q.2)) = _
        rw [sh_set]
        rfl⟩
instance (g : TgD) (m : M) [FrT g] [FrM m] : FrS (sAsg g m) := ⟨fun ρ S T => by
  unfold sAsg
  rw [FrM.fr (m := m)]
  cases m ρ T with
  | none => rfl
  | some p =>
    obtain ⟨v, T'⟩ := p
    cases v with
    | c j => rfl
    | d x =>
      show (g x (shR S.length ρ)).bind _ = Option.map _ ((g x ρ).bind _)
      rw [FrT.fr (t := g)]
      cases g x ρ <;> rfl⟩
instance (mo mi mv : M) [FrM mo] [FrM mi] [FrM mv] : FrS (sPut mo mi mv) := ⟨fun ρ S T => by
  unfold sPut
  rw [FrM.fr (m := mv)]
  cases mv ρ T with
  | none => rfl
  | some v =>
    show (mo (shR S.length ρ) (S ++ v.2)).bind _ = Option.map _ ((mo ρ v.2).bind _)
    rw [FrM.fr (m := mo)]
    cases mo ρ v.2 with
    | none => rfl
    | some o =>
      show (mi (shR S.length ρ) (S ++ o.2)).bind _ = Option.map _ ((mi ρ o.2).bind _)
      rw [FrM.fr (m := mi)]
      cases mi ρ o.2 with
      | none => rfl
      | some i =>
        obtain ⟨v, T1⟩ := v
        obtain ⟨o, T2⟩ := o
        obtain ⟨i, T3⟩ := i
        cases v with
        | c _ => rfl
        | d y =>
          cases o with
          | d _ => rfl
          | c j =>
            cases i with
            | c _ => rfl
            | d x =>
              cases x with
              | int z =>
                show (lAt (S ++ T3) (S.length + j)).bind _ = Option.map _ ((lAt T3 j).bind _)
                rw [lAt_sh]
                cases lAt T3 j with
                | none => rfl
                | some ds =>
                  show (ixN ds.length z).bind _ = Option.map _ ((ixN ds.length z).bind _)
                  cases ixN ds.length z with
                  | none => rfl
                  | some n =>
                    show some (Out.nx (shR S.length ρ) ((S ++ T3).set (S.length + j) (.l (ds.set n y)))) = _
                    rw [sto_set]
                    rfl
              | _ => rfl⟩
instance (mo mv : M) [FrM mo] [FrM mv] : FrM (mAppend mo mv) := ⟨fun ρ S T => by
  unfold mAppend
  rw [FrM.fr (m := mo)]
  cases mo ρ T with
  | none => rfl
  | some o =>
    show (mv (shR S.length ρ) (S ++ o.2)).bind _ = Option.map _ ((mv ρ o.2).bind _)
    rw [FrM.fr (m := mv)]
    cases mv ρ o.2 with
    | none => rfl
    | some v =>
      obtain ⟨o, T1⟩ := o
      obtain ⟨v, T2⟩ := v
      cases o with
      | d _ => rfl
      | c j =>
        cases v with
        | c _ => rfl
        | d y =>
          show (if (lAt (S ++ T1) (S.length + j)).isSome = true then (lAt (S ++ T2) (S.length + j)).bind _ else none) = Option.map _ (if (lAt T1 j).isSome = true then (lAt T2 j).bind _ else none)
          rw [lAt_sh, lAt_sh]
          cases (lAt T1 j).isSome with
          | false => rfl
          | true =>
            rw [if_pos rfl, if_pos rfl]
            cases lAt T2 j with
            | none => rfl
            | some ds =>
              dsimp
              split
              · rw [sto_set]; rfl
              · rfl⟩
instance (mo : M) [FrM mo] : FrM (mReverse mo) := ⟨fun ρ S T => by
  unfold mReverse
  rw [FrM.fr (m := mo)]
  cases mo ρ T with
  | none => rfl
  | some o =>
    obtain ⟨o, T1⟩ := o
    cases o with
    | d _ => rfl
    | c j =>
      show (lAt (S ++ T1) (S.length + j)).bind _ = Option.map _ ((lAt T1 j).bind _)
      rw [lAt_sh]
      cases lAt T1 j with
      | none => rfl
      | some ds =>
        show some (PV.d .none, (S ++ T1).set (S.length + j) (.l ds.reverse)) = _
        rw [sto_set]
        rfl⟩
theorem forGo_sh {tgt : TgD} {body : MS} [FrT tgt] [FrS body] (S : Sto) : ∀ (xs : List PyData) (ρ : RE) (T : Sto), forGo tgt body xs (shR S.length ρ) (S ++ T) = (forGo tgt body xs ρ T).map (shO S)
  | [], ρ, T => rfl
  | x :: xs, ρ, T => by
    show (tgt x (shR S.length ρ)).bind _ = Option.map _ ((tgt x ρ).bind _)
    rw [FrT.fr (t := tgt)]
    cases tgt x ρ with
    | none => rfl
    | some ρ1 =>
      show (body (shR S.length ρ1) (S ++ T)).bind _ = Option.map _ ((body ρ1 T).bind _)
      rw [FrS.fr (m := body)]
      cases body ρ1 T with
      | none => rfl
      | some o => cases o with
        | nx ρ' T' => exact forGo_sh S xs ρ' T'
        | ct ρ' T' => exact forGo_sh S xs ρ' T'
        | _ => rfl
instance (mi : ML) (tgt : TgD) (body : MS) [FrL mi] [FrT tgt] [FrS body] : FrS (sFor mi tgt body) := ⟨fun ρ S T => by
  unfold sFor
  rw [FrL.fr (m := mi)]
  cases mi ρ T with
  | none => rfl
  | some p => exact forGo_sh S p.1 ρ p.2⟩
theorem whileGo_sh {c : MB} {body : MS} [FrB c] [FrS body] (S : Sto) : ∀ (n : Nat) (ρ : RE) (T : Sto), whileGo c body n (shR S.length ρ) (S ++ T) = (whileGo c body n ρ T).map (shO S)
  | 0, ρ, T => rfl
  | n + 1, ρ, T => by
    show (c (shR S.length ρ) (S ++ T)).bind _ = Option.map _ ((c ρ T).bind _)
    rw [FrB.fr (m := c)]
    cases c ρ T with
    | none => rfl
    | some r =>
      obtain ⟨v, T'⟩ := r
      cases v with
      | false => rfl
      | true =>
        show (body (shR S.length ρ) (S ++ T')).bind _ = Option.map _ ((body ρ T').bind _)
        rw [FrS.fr (m := body)]
        cases body ρ T' with
        | none => rfl
        | some o => cases o with
          | nx ρ' T' => exact whileGo_sh S n ρ' T'
          | ct ρ' T' => exact whileGo_sh S n ρ' T'
          | _ => rfl
class FrN (f : RE → Sto → Nat) : Prop where
  fr : ∀ ρ S T, f (shR S.length ρ) (S ++ T) = f ρ T
instance (n : Nat) : FrN (fun _ _ => n) := ⟨fun _ _ _ => rfl⟩
instance (f : RE → Sto → Nat) (c : MB) (body : MS) [FrN f] [FrB c] [FrS body] : FrS (sWhile f c body) := ⟨fun ρ S T => by
  unfold sWhile
  rw [FrN.fr (f := f)]
  exact whileGo_sh S _ ρ T⟩
/-! defs -/
theorem sh_start (n N : Nat) (xs : List PV) : (xs.map (shV n)).map some ++ List.replicate (N - (xs.map (shV n)).length) none = shR n (xs.map some ++ List.replicate (N - xs.length) none) := by
  unfold shR
  rw [List.map_append, List.length_map, List.map_map, List.map_map, List.map_replicate]
  rfl
instance (N : Nat) (g : MS) [FrS g] : FrF (runF N g) := ⟨fun xs S T => by
  unfold runF
  rw [sh_start, FrS.fr (m := g)]
  cases g (xs.map some ++ List.replicate (N - xs.length) none) T with
  | none => rfl
  | some o =>
    cases o with
    | bk _ _ => rfl
    | ct _ _ => rfl
    | nx ρ' T' =>
      show some (PV.d .none, (S ++ T').take (S ++ T).length) = _
      rw [len_sh, take_sh]
      rfl
    | rl ds T' =>
      show some (PV.d (.list ds), (S ++ T').take (S ++ T).length) = _
      rw [len_sh, take_sh]
      rfl
    | rt v T' =>
      cases v with
      | d x =>
        show some (PV.d x, (S ++ T').take (S ++ T).length) = _
        rw [len_sh, take_sh]
        rfl
      | c j =>
        show (if S.length + j < (S ++ T).length then some (PV.c (S.length + j), (S ++ T').take (S ++ T).length) else (lAt (S ++ T') (S.length + j)).map fun ds => (PV.d (.list ds), (S ++ T').take (S ++ T).length)) = Option.map _ (if j < T.length then some (PV.c j, T'.take T.length) else (lAt T' j).map fun ds => (PV.d (.list ds), T'.take T.length))
        rw [len_sh, take_sh, lAt_sh]
        by_cases h : j < T.length
        · rw [if_pos h, if_pos (by omega)]
          rfl
        · rw [if_neg h, if_neg (by omega)]
          cases lAt T' j <;> rfl⟩
instance (N : Nat) (g : MS) [FrS g] : FrFL (runL N g) := ⟨fun xs S T => by
  unfold runL
  rw [sh_start, FrS.fr (m := g)]
  cases g (xs.map some ++ List.replicate (N - xs.length) none) T with
  | none => rfl
  | some o =>
    cases o with
    | bk _ _ => rfl
    | ct _ _ => rfl
    | nx _ _ => rfl
    | rt _ _ => rfl
    | rl ds T' =>
      show some (ds, (S ++ T').take (S ++ T).length) = _
      rw [len_sh, take_sh]
      rfl⟩
instance : FrFL (fun _ _ => none) := ⟨fun _ _ _ => rfl⟩
instance : FrF (fun _ _ => none) := ⟨fun _ _ _ => rfl⟩
/-- a def asked with data alone, whatever stands in the store -/
theorem map_data (n : Nat) (ds : List PyData) : (ds.map PV.d).map (shV n) = ds.map .d := by
  rw [List.map_map]
  rfl
theorem frame {F : FV} [FrF F] {ds : List PyData} {x : PyData} {T : Sto} (h : F (ds.map .d) [] = some (.d x, T)) (S : Sto) : F (ds.map .d) S = some (.d x, S ++ T) := by
  have z := FrF.fr (F := F) (ds.map .d) S []
  rw [map_data, List.append_nil, h] at z
  exact z
theorem frameL {F : FL} [FrFL F] {ds : List PyData} {x : List PyData} {T : Sto} (h : F (ds.map .d) [] = some (x, T)) (S : Sto) : F (ds.map .d) S = some (x, S ++ T) := by
  have z := FrFL.fr (F := F) (ds.map .d) S []
  rw [map_data, List.append_nil, h] at z
  exact z
end DL

namespace DL
open PySem PySem.Spec PyProof.Rows L2 DK

/-! ### a law's draws -/
def gDraw : MS :=
    (sSeq (sPut (mVar 0) (mC (.int (3))) (mOp fAdd (mOp fIx (mVar 0) (mC (.int (3)))) (mC (.int (1)))))
    (sSeq (sIf (asB (mOp fEq (mOp fIx (mVar 0) (mC (.int (2)))) (mC (.int (0))))) (sSeq (sSet 2 (mOp fIx (mOp fIx (mVar 0) (mC (.int (0)))) (mOp fMod (mOp fIx (mVar 0) (mC (.int (1)))) (mCall cLen (mCons (mOp fIx (mVar 0) (mC (.int (0)))) mNil)))))
    (sSeq (sPut (mVar 0) (mC (.int (1))) (mOp fAdd (mOp fIx (mVar 0) (mC (.int (1)))) (mC (.int (1)))))
    (sSeq (sIf (asB (mOp fLt (mVar 2) (mOp fPow (mC (.int (10))) (mC (.int (18)))))) (sSeq (sSet 3 (mOp fMod (mOp fPow (mOp fAdd (mOp fAdd (mOp fMod (mVar 2) (mC (.int (2147483629)))) (mOp fMul (mC (.int (40763))) (mOp fIx (mVar 0) (mC (.int (3)))))) (mC (.int (1013)))) (mC (.int (5)))) (mC (.int (2147483647)))))
    (sSeq (sSet 3 (mOp fAdd (mOp fMod (mVar 3) (mC (.int (1000003)))) (mC (.int (7)))))
    (sSeq (sSet 3 (mOp fMod (mOp fMul (mVar 3) (mOp fAdd (mOp fMod (mOp fMul (mOp fIx (mVar 0) (mC (.int (3)))) (mOp fIx (mVar 0) (mC (.int (3))))) (mC (.int (99991)))) (mC (.int (104729))))) (mC (.int (2147483587)))))
    (sRet (mOp fMod (mOp fDiv (mVar 3) (mC (.int (11)))) (mVar 1)))))) sNil)
    (sPut (mVar 0) (mC (.int (2))) (mVar 2))))) sNil)
    (sSeq (sSet 4 (mOp fMod (mOp fIx (mVar 0) (mC (.int (2)))) (mVar 1)))
    (sSeq (sPut (mVar 0) (mC (.int (2))) (mOp fDiv (mOp fIx (mVar 0) (mC (.int (2)))) (mVar 1)))
    (sRet (mVar 4))))))
def FDraw : FV := runF 5 gDraw
def feedC (ms : List Int) (i c k : Int) : List PyData := [.list (ms.map .int), .int i, .int c, .int k]

/-! how the pieces come out -/
theorem fEq_int (a b : Int) (S : Sto) : fEq (.d (.int a)) (.d (.int b)) S = some (.d (.bool (a == b))) := by
  unfold fEq
  rfl
theorem fNe_int (a b : Int) (S : Sto) : fNe (.d (.int a)) (.d (.int b)) S = some (.d (.bool (!(a == b)))) := by
  unfold fNe
  rfl
theorem fmod_pos {a b : Int} (h : 0 < b) : a.fmod b = a % b := Int.fmod_eq_emod_of_nonneg a (by omega)
theorem fdiv_pos {a b : Int} (h : 0 < b) : a.fdiv b = a / b := Int.fdiv_eq_ediv_of_nonneg a (by omega)
theorem fMod_int {a b : Int} (h : 0 < b) (S : Sto) : fMod (.d (.int a)) (.d (.int b)) S = some (.d (.int (a % b))) := by
  show (if modOk a b = true then some (PV.d (.int (a.fmod b))) else none) = _
  rw [if_pos (by unfold modOk; simp; omega), fmod_pos h]
theorem fDiv_int {a b : Int} (h : 0 < b) (hl : b.natAbs.log2 < 9000) (S : Sto) : fDiv (.d (.int a)) (.d (.int b)) S = some (.d (.int (a / b))) := by
  show (if divOk a b = true then some (PV.d (.int (a.fdiv b))) else none) = _
  rw [if_pos (by unfold divOk; simp; exact ⟨by omega, hl⟩), fdiv_pos h]
theorem fMul_l {a b : Int} (h1 : -(2 ^ 64) < a) (h2 : a < 2 ^ 64) (S : Sto) : fMul (.d (.int a)) (.d (.int b)) S = some (.d (.int (a * b))) := by
  show (if mulOk a b = true then some (PV.d (.int (a * b))) else none) = _
  rw [if_pos (by unfold mulOk; simp only [Bool.or_eq_true, Bool.and_eq_true, decide_eq_true_eq]; exact .inl (.inl ⟨h1, h2⟩))]
theorem fPow_int {a b : Int} (h0 : 0 ≤ b) (h1 : b ≤ 1000000) (h2 : a.natAbs < 2 ^ 64) (S : Sto) : fPow (.d (.int a)) (.d (.int b)) S = some (.d (.int (a ^ b.toNat))) := by
  show (if powOk a b = true then some (PV.d (.int (a ^ b.toNat))) else none) = _
  rw [if_pos (by unfold powOk; simp only [Bool.and_eq_true, decide_eq_true_eq]; exact ⟨⟨h0, h1⟩, h2⟩)]
theorem set_get (S : Sto) {j : Nat} (h : j < S.length) (x : Cell) : (S.set j x)[j]? = some x := List.getElem?_set_self h
theorem len_set (S : Sto) (j : Nat) (x : Cell) : (S.set j x).length = S.length := List.length_set
theorem set_set (S : Sto) (j : Nat) (x y : Cell) : (S.set j x).set j y = S.set j y := List.set_set ..
/-- an item of the feed -/
theorem fIx_cell {S : Sto} {j : Nat} {ds : List PyData} {z : Int} {y : PyData} (h : S[j]? = some ds) (e : atI ds z = some y) : fIx (.c j) (.d (.int z)) S = some (.d y) := by
  show ((itemsOf S (.c j)).bind fun ds => (atI ds z).map PV.d) = _
  rw [show itemsOf S (.c j) = some ds from lAt_some.mpr h]
  show (atI ds z).map PV.d = _
  rw [e]
  rfl
theorem atI_f0 (a b c d : PyData) : atI [a, b, c, d] 0 = some a := rfl
theorem atI_f1 (a b c d : PyData) : atI [a, b, c, d] 1 = some b := rfl
theorem atI_f2 (a b c d : PyData) : atI [a, b, c, d] 2 = some c := rfl
theorem atI_f3 (a b c d : PyData) : atI [a, b, c, d] 3 = some d := rfl
/-- a cell's item put -/
theorem sPut_cell {mo mi mv : M} {ρ : RE} {S : Sto} {j : Nat} {z : Int} {y : PyData} {ds : List PyData} {n : Nat} (h1 : mv ρ S = some (.d y, S)) (h2 : mo ρ S = some (.c j, S)) (h3 : mi ρ S = some (.d (.int z), S)) (h4 : S[j]? = some ds) (h5 : ixN ds.length z = some n) :
    sPut mo mi mv ρ S = some (.nx ρ (S.set j (ds.set n y))) := by
  unfold sPut
  rw [h1]
  show (mo ρ S).bind _ = _
  rw [h2]
  show (mi ρ S).bind _ = _
  rw [h3]
  show (lAt S j).bind _ = _
  rw [lAt_some.mpr h4]
  show (ixN ds.length z).bind _ = _
  rw [h5]
  rfl
theorem mOp_of {f : PV → PV → Sto → Option PV} {a b : M} {ρ : RE} {S S1 S2 : Sto} {x y z : PV} (h1 : a ρ S = some (x, S1)) (h2 : b ρ S1 = some (y, S2)) (h3 : f x y S2 = some z) : mOp f a b ρ S = some (z, S2) := by
  unfold mOp
  rw [h1]
  show (b ρ S1).bind _ = _
  rw [h2]
  show (f x y S2).bind _ = _
  rw [h3]
  rfl
theorem sSeq_nx {a b : MS} {ρ ρ' : RE} {S S' : Sto} (h : a ρ S = some (.nx ρ' S')) : sSeq a b ρ S = b ρ' S' := by
  unfold sSeq
  rw [h]
  rfl
theorem sSeq_rt {a b : MS} {ρ : RE} {S S' : Sto} {v : PV} (h : a ρ S = some (.rt v S')) : sSeq a b ρ S = some (.rt v S') := by
  unfold sSeq
  rw [h]
  rfl
theorem sIf_t {c : MB} {a b : MS} {ρ : RE} {S S' : Sto} (h : c ρ S = some (true, S')) : sIf c a b ρ S = a ρ S' := by
  unfold sIf
  rw [h]
  rfl
theorem sIf_f {c : MB} {a b : MS} {ρ : RE} {S S' : Sto} (h : c ρ S = some (false, S')) : sIf c a b ρ S = b ρ S' := by
  unfold sIf
  rw [h]
  rfl
theorem asB_of {m : M} {ρ : RE} {S S' : Sto} {b : Bool} (h : m ρ S = some (.d (.bool b), S')) : asB m ρ S = some (b, S') := by
  unfold asB
  rw [h]
  rfl
theorem sSet_of {i : Nat} {m : M} {ρ : RE} {S S' : Sto} {v : PV} (h : m ρ S = some (v, S')) : sSet i m ρ S = some (.nx (ρ.set i (some v)) S') := by
  unfold sSet
  rw [h]
  rfl
theorem sRet_of {m : M} {ρ : RE} {S S' : Sto} {v : PV} (h : m ρ S = some (v, S')) : sRet m ρ S = some (.rt v S') := by
  unfold sRet
  rw [h]
  rfl
theorem small_pow {u k : Int} (h0 : 0 ≤ u) (h1 : u < 2147483629) (h2 : 0 ≤ k) (h3 : k ≤ 1000000000) : (u + 40763 * k + 1013).natAbs < 2 ^ 64 := by
  have : (2 : Nat) ^ 64 = 18446744073709551616 := by decide
  omega
theorem draw_spec {S : Sto} {j : Nat} {ms : List Int} {i c k many : Int} (hS : S[j]? = some (feedC ms i c k)) (hm : ms ≠ []) (hi : 0 ≤ i) (hk : 0 ≤ k) (hk2 : k ≤ 999999999) (hp : 0 < many) (hl : many.natAbs.log2 < 9000) :
    ∃ r i' c', FDraw [.c j, .d (.int many)] S = some (.d (.int r), S.set j (feedC ms i' c' (k + 1))) ∧ 0 ≤ r ∧ r < many ∧ 0 ≤ i' := by
  have hj : j < S.length := (List.getElem?_eq_some_iff.mp hS).1
  have hml : 0 < ms.length := List.length_pos_iff.mpr hm
  -- the first statement
  have e1 : ∀ ρ : RE, ρ[0]? = some (some (.c j)) → sPut (mVar 0) (mC (.int 3)) (mOp fAdd (mOp fIx (mVar 0) (mC (.int 3))) (mC (.int 1))) ρ S = some (.nx ρ (S.set j (feedC ms i c (k + 1)))) := fun ρ h => by
    have v0 : mVar 0 ρ S = some (.c j, S) := by unfold mVar; rw [h]
    exact sPut_cell (n := 3) (mOp_of (mOp_of v0 rfl (fIx_cell hS (atI_f3 ..))) rfl rfl) v0 rfl hS rfl
  have rd : ∀ {T : Sto} {i c k : Int} {ρ : RE} (q : PyData) (z : Int), T[j]? = some (feedC ms i c k) → ρ[0]? = some (some (.c j)) → atI (feedC ms i c k) z = some q → mOp fIx (mVar 0) (mC (.int z)) ρ T = some (.d q, T) := fun {T i c k ρ} q z h1 h2 h3 => by
    have v0 : mVar 0 ρ T = some (.c j, T) := by unfold mVar; rw [h2]
    exact mOp_of v0 rfl (fIx_cell h1 h3)
  have pt : ∀ {T : Sto} {i c k : Int} {ρ : RE} {mv : M} (z : Int) (n : Nat) (y : PyData), T[j]? = some (feedC ms i c k) → ρ[0]? = some (some (.c j)) → mv ρ T = some (.d y, T) → ixN 4 z = some n → sPut (mVar 0) (mC (.int z)) mv ρ T = some (.nx ρ (T.set j ((feedC ms i c k).set n y))) := fun {T i c k ρ mv} z n y h1 h2 h3 h4 => by
    have v0 : mVar 0 ρ T = some (.c j, T) := by unfold mVar; rw [h2]
    exact sPut_cell h3 v0 rfl h1 h4
  generalize hT : S.set j (feedC ms i c (k + 1)) = T at e1
  have tj : T[j]? = some (feedC ms i c (k + 1)) := by rw [← hT]; exact set_get S hj _
  have tl : j < T.length := by rw [← hT, len_set]; exact hj
  -- the figures of a great cell
  have tail : ∀ {U : Sto} {i2 c2 : Int} {ρ : RE}, U[j]? = some (feedC ms i2 c2 (k + 1)) → ρ[0]? = some (some (.c j)) → ρ[1]? = some (some (.d (.int many))) → 4 < ρ.length → (sSeq (sSet 4 (mOp fMod (mOp fIx (mVar 0) (mC (.int (2)))) (mVar 1)))
    (sSeq (sPut (mVar 0) (mC (.int (2))) (mOp fDiv (mOp fIx (mVar 0) (mC (.int (2)))) (mVar 1)))
    (sRet (mVar 4)))) ρ U = some (.rt (.d (.int (c2 % many))) (U.set j (feedC ms i2 (c2 / many) (k + 1)))) := fun {U i2 c2 ρ} h1 h2 h3 h4 => by
    have v1 : ∀ {ρ : RE}, ρ[1]? = some (some (.d (.int many))) → mVar 1 ρ U = some (.d (.int many), U) := fun {ρ} h => by unfold mVar; rw [h]
    rw [sSeq_nx (sSet_of (mOp_of (rd _ 2 h1 h2 (atI_f2 ..)) (v1 h3) (fMod_int hp U)))]
    have h2' : (ρ.set 4 (some (.d (.int (c2 % many)))))[0]? = some (some (.c j)) := by rw [List.getElem?_set_ne (by decide)]; exact h2
    have h3' : (ρ.set 4 (some (.d (.int (c2 % many)))))[1]? = some (some (.d (.int many))) := by rw [List.getElem?_set_ne (by decide)]; exact h3
    rw [sSeq_nx (pt 2 2 _ h1 h2' (mOp_of (rd _ 2 h1 h2' (atI_f2 ..)) (v1 h3') (fDiv_int hp hl U)) rfl)]
    refine sRet_of ?_
    unfold mVar
    rw [List.getElem?_set_self h4]
    rfl
  unfold FDraw runF
  show ∃ r i' c', (gDraw [some (.c j), some (.d (.int many)), none, none, none] S).bind _ = _ ∧ _
  unfold gDraw
  rw [sSeq_nx (e1 _ rfl)]
  by_cases hc : c = 0
  · -- a cell of the script
    subst hc
    have hx : ∃ x, ms[(i % (ms.length : Int)).toNat]? = some x := by
      have b1 := Int.emod_nonneg i (show (ms.length : Int) ≠ 0 by omega)
      have b2 := Int.emod_lt_of_pos i (show (0 : Int) < ms.length by omega)
      exact ⟨_, List.getElem?_eq_getElem (by omega)⟩
    obtain ⟨x, hx⟩ := hx
    have hxa : atI (ms.map PyData.int) (i % (ms.length : Int)) = some (.int x) := by
      have b1 := Int.emod_nonneg i (show (ms.length : Int) ≠ 0 by omega)
      have b2 := Int.emod_lt_of_pos i (show (0 : Int) < ms.length by omega)
      unfold atI ixN
      rw [List.length_map, if_pos b1, if_pos b2]
      show (ms.map PyData.int)[(i % (ms.length : Int)).toNat]? = _
      rw [List.getElem?_map, hx]
      rfl
    have cond : asB (mOp fEq (mOp fIx (mVar 0) (mC (.int 2))) (mC (.int 0))) [some (.c j), some (.d (.int many)), none, none, none] T = some (true, T) := asB_of (mOp_of (rd _ 2 tj rfl (atI_f2 ..)) rfl (fEq_int 0 0 T))
    have cell : mOp fIx (mOp fIx (mVar 0) (mC (.int 0))) (mOp fMod (mOp fIx (mVar 0) (mC (.int 1))) (mCall cLen (mCons (mOp fIx (mVar 0) (mC (.int 0))) mNil))) [some (.c j), some (.d (.int many)), none, none, none] T = some (.d (.int x), T) := by
      have a0 := rd (ρ := [some (.c j), some (.d (.int many)), none, none, none]) _ 0 tj rfl (atI_f0 ..)
      have ln : mCall cLen (mCons (mOp fIx (mVar 0) (mC (.int 0))) mNil) [some (.c j), some (.d (.int many)), none, none, none] T = some (.d (.int (ms.length : Int)), T) := by
        unfold mCall mCons
        rw [a0]
        show some (PV.d (.int ((ms.map PyData.int).length : Int)), T) = _
        rw [List.length_map]
      refine mOp_of a0 (mOp_of (rd _ 1 tj rfl (atI_f1 ..)) ln (fMod_int (by omega) T)) ?_
      show (atI (ms.map PyData.int) (i % (ms.length : Int))).map PV.d = _
      rw [hxa]
      rfl
    generalize hU : T.set j (feedC ms (i + 1) 0 (k + 1)) = U
    have uj : U[j]? = some (feedC ms (i + 1) 0 (k + 1)) := by rw [← hU]; exact set_get T tl _
    have put1 : ∀ ρ : RE, ρ[0]? = some (some (.c j)) → sPut (mVar 0) (mC (.int 1)) (mOp fAdd (mOp fIx (mVar 0) (mC (.int 1))) (mC (.int 1))) ρ T = some (.nx ρ U) := fun ρ h => by
      rw [pt 1 1 (.int (i + 1)) tj h (mOp_of (rd _ 1 tj h (atI_f1 ..)) rfl rfl) rfl, ← hU]
      rfl
    by_cases hx18 : x < 10 ^ 18
    · -- mixed
      have inner : ∃ r, (sSeq (sSet 2 (mOp fIx (mOp fIx (mVar 0) (mC (.int (0)))) (mOp fMod (mOp fIx (mVar 0) (mC (.int (1)))) (mCall cLen (mCons (mOp fIx (mVar 0) (mC (.int (0)))) mNil)))))
    (sSeq (sPut (mVar 0) (mC (.int (1))) (mOp fAdd (mOp fIx (mVar 0) (mC (.int (1)))) (mC (.int (1)))))
    (sSeq (sIf (asB (mOp fLt (mVar 2) (mOp fPow (mC (.int (10))) (mC (.int (18)))))) (sSeq (sSet 3 (mOp fMod (mOp fPow (mOp fAdd (mOp fAdd (mOp fMod (mVar 2) (mC (.int (2147483629)))) (mOp fMul (mC (.int (40763))) (mOp fIx (mVar 0) (mC (.int (3)))))) (mC (.int (1013)))) (mC (.int (5)))) (mC (.int (2147483647)))))
    (sSeq (sSet 3 (mOp fAdd (mOp fMod (mVar 3) (mC (.int (1000003)))) (mC (.int (7)))))
    (sSeq (sSet 3 (mOp fMod (mOp fMul (mVar 3) (mOp fAdd (mOp fMod (mOp fMul (mOp fIx (mVar 0) (mC (.int (3)))) (mOp fIx (mVar 0) (mC (.int (3))))) (mC (.int (99991)))) (mC (.int (104729))))) (mC (.int (2147483587)))))
    (sRet (mOp fMod (mOp fDiv (mVar 3) (mC (.int (11)))) (mVar 1)))))) sNil)
    (sPut (mVar 0) (mC (.int (2))) (mVar 2))))) [some (.c j), some (.d (.int many)), none, none, none] T = some (.rt (.d (.int r)) U) ∧ 0 ≤ r ∧ r < many := by
        rw [sSeq_nx (sSet_of cell)]
        show ∃ r, (sSeq _ _) [some (.c j), some (.d (.int many)), some (.d (.int x)), none, none] T = _ ∧ _
        rw [sSeq_nx (put1 _ rfl)]
        have c18 : asB (mOp fLt (mVar 2) (mOp fPow (mC (.int (10))) (mC (.int (18))))) [some (.c j), some (.d (.int many)), some (.d (.int x)), none, none] U = some (true, U) := by
          refine asB_of (mOp_of (z := .d (.bool true)) rfl (mOp_of rfl rfl (fPow_int (by decide) (by decide) (by decide) U)) ?_)
          show some (PV.d (.bool (decide (x < 10 ^ 18)))) = _
          rw [decide_eq_true hx18]
        have k3 : ∀ ρ : RE, ρ[0]? = some (some (.c j)) → mOp fIx (mVar 0) (mC (.int (3))) ρ U = some (.d (.int (k + 1)), U) := fun ρ h => rd _ 3 uj h (atI_f3 ..)
        have u0 := Int.emod_nonneg x (show (2147483629 : Int) ≠ 0 by decide)
        have u1 := Int.emod_lt_of_pos x (show (0 : Int) < 2147483629 by decide)
        let w1 : Int := (x % 2147483629 + 40763 * (k + 1) + 1013) ^ 5 % 2147483647
        let w2 : Int := w1 % 1000003 + 7
        have w20 := Int.emod_nonneg w1 (show (1000003 : Int) ≠ 0 by decide)
        have w21 := Int.emod_lt_of_pos w1 (show (0 : Int) < 1000003 by decide)
        let w3 : Int := w2 * ((k + 1) * (k + 1) % 99991 + 104729) % 2147483587
        have m1 : mOp fMod (mOp fPow (mOp fAdd (mOp fAdd (mOp fMod (mVar 2) (mC (.int (2147483629)))) (mOp fMul (mC (.int (40763))) (mOp fIx (mVar 0) (mC (.int (3)))))) (mC (.int (1013)))) (mC (.int (5)))) (mC (.int (2147483647))) [some (.c j), some (.d (.int many)), some (.d (.int x)), none, none] U = some (.d (.int w1), U) :=
          mOp_of (mOp_of (mOp_of (mOp_of (mOp_of rfl rfl (fMod_int (by decide) U)) (mOp_of rfl (k3 _ rfl) (fMul_l (by decide) (by decide) U)) rfl) rfl rfl) rfl (fPow_int (by decide) (by decide) (small_pow u0 u1 (by omega) (by omega)) U)) rfl (fMod_int (by decide) U)
        have m2 : mOp fAdd (mOp fMod (mVar 3) (mC (.int (1000003)))) (mC (.int (7))) [some (.c j), some (.d (.int many)), some (.d (.int x)), some (.d (.int w1)), none] U = some (.d (.int w2), U) := mOp_of (mOp_of rfl rfl (fMod_int (by decide) U)) rfl rfl
        have m3 : mOp fMod (mOp fMul (mVar 3) (mOp fAdd (mOp fMod (mOp fMul (mOp fIx (mVar 0) (mC (.int (3)))) (mOp fIx (mVar 0) (mC (.int (3))))) (mC (.int (99991)))) (mC (.int (104729))))) (mC (.int (2147483587))) [some (.c j), some (.d (.int many)), some (.d (.int x)), some (.d (.int w2)), none] U = some (.d (.int w3), U) := by
          have z64 : (18446744073709551616 : Int) = 2 ^ 64 := by decide
          refine mOp_of (mOp_of rfl (mOp_of (mOp_of (mOp_of (k3 _ rfl) (k3 _ rfl) (fMul_l (by omega) (by omega) U)) rfl (fMod_int (by decide) U)) rfl rfl) (fMul_l (b := (k + 1) * (k + 1) % 99991 + 104729) ?_ ?_ U)) rfl (fMod_int (by decide) U)
          · show -(2 ^ 64) < w1 % 1000003 + 7
            omega
          · show w1 % 1000003 + 7 < 2 ^ 64
            omega
        have m4 : mOp fMod (mOp fDiv (mVar 3) (mC (.int (11)))) (mVar 1) [some (.c j), some (.d (.int many)), some (.d (.int x)), some (.d (.int w3)), none] U = some (.d (.int (w3 / 11 % many)), U) := mOp_of (mOp_of rfl rfl (fDiv_int (by decide) (by decide) U)) rfl (fMod_int hp U)
        refine ⟨w3 / 11 % many, sSeq_rt ?_, Int.emod_nonneg _ (by omega), Int.emod_lt_of_pos _ hp⟩
        rw [sIf_t c18, sSeq_nx (sSet_of m1)]
        show (sSeq _ _) [some (.c j), some (.d (.int many)), some (.d (.int x)), some (.d (.int w1)), none] U = _
        rw [sSeq_nx (sSet_of m2)]
        show (sSeq _ _) [some (.c j), some (.d (.int many)), some (.d (.int x)), some (.d (.int w2)), none] U = _
        rw [sSeq_nx (sSet_of m3)]
        exact sRet_of m4
      obtain ⟨r, e, r0, r1⟩ := inner
      refine ⟨r, i + 1, 0, ?_, r0, r1, by omega⟩
      rw [sSeq_rt (by rw [sIf_t cond]; exact e)]
      show some (PV.d (.int r), U.take S.length) = _
      rw [List.take_of_length_le (by rw [← hU, len_set, ← hT, len_set]; exact Nat.le_refl _), ← hU, ← hT, set_set]
    · -- a great one
      have c18 : asB (mOp fLt (mVar 2) (mOp fPow (mC (.int (10))) (mC (.int (18))))) [some (.c j), some (.d (.int many)), some (.d (.int x)), none, none] U = some (false, U) := by
        refine asB_of (mOp_of (z := .d (.bool false)) rfl (mOp_of rfl rfl (fPow_int (by decide) (by decide) (by decide) U)) ?_)
        show some (PV.d (.bool (decide (x < 10 ^ 18)))) = _
        rw [decide_eq_false hx18]
      generalize hW : U.set j (feedC ms (i + 1) x (k + 1)) = W
      have ul : j < U.length := by rw [← hU, len_set]; exact tl
      have wj : W[j]? = some (feedC ms (i + 1) x (k + 1)) := by rw [← hW]; exact set_get U ul _
      have put2 : sPut (mVar 0) (mC (.int (2))) (mVar 2) [some (.c j), some (.d (.int many)), some (.d (.int x)), none, none] U = some (.nx [some (.c j), some (.d (.int many)), some (.d (.int x)), none, none] W) := by
        rw [pt 2 2 (.int x) uj rfl rfl rfl, ← hW]
        rfl
      refine ⟨x % many, i + 1, x / many, ?_, Int.emod_nonneg _ (by omega), Int.emod_lt_of_pos _ hp, by omega⟩
      rw [sSeq_nx (ρ' := [some (.c j), some (.d (.int many)), some (.d (.int x)), none, none]) (S' := W) (by
        rw [sIf_t cond, sSeq_nx (sSet_of cell)]
        show (sSeq _ _) [some (.c j), some (.d (.int many)), some (.d (.int x)), none, none] T = _
        rw [sSeq_nx (put1 _ rfl), sSeq_nx (ρ' := [some (.c j), some (.d (.int many)), some (.d (.int x)), none, none]) (S' := U) (by rw [sIf_f c18]; rfl)]
        exact put2)]
      rw [tail wj rfl rfl (by simp)]
      show some (PV.d (.int (x % many)), (W.set j _).take S.length) = _
      rw [List.take_of_length_le (by rw [len_set, ← hW, len_set, ← hU, len_set, ← hT, len_set]; exact Nat.le_refl _), ← hW, ← hU, ← hT, set_set, set_set, set_set]
  · have cond : asB (mOp fEq (mOp fIx (mVar 0) (mC (.int 2))) (mC (.int 0))) [some (.c j), some (.d (.int many)), none, none, none] T = some (false, T) := by
      refine asB_of (mOp_of (z := .d (.bool false)) (rd _ 2 tj rfl (atI_f2 ..)) rfl ?_)
      rw [fEq_int, beq_eq_false_iff_ne.mpr hc]
    refine ⟨c % many, i, c / many, ?_, Int.emod_nonneg _ (by omega), Int.emod_lt_of_pos _ hp, hi⟩
    rw [sSeq_nx (ρ' := [some (.c j), some (.d (.int many)), none, none, none]) (S' := T) (by rw [sIf_f cond]; rfl), tail tj rfl rfl (by simp)]
    show some (PV.d (.int (c % many)), (T.set j _).take S.length) = _
    rw [List.take_of_length_le (by rw [len_set, ← hT, len_set]; exact Nat.le_refl _), ← hT, set_set]
end DL

namespace DL
open PySem PySem.Spec PyProof.Rows L2 DK
def gFeed : MS :=
    (sRetL (mLst (mCons (mFz (mOpL fCatL (mFz (mCallL cList (mCons (mFz (mSlL (mVar 0) oNone (oSome (mC (.int (63)))))) mNil))) (mFz (mRep (mLst (mCons (mC (.int (0))) mNil)) (mCall cInt (mCons (mOp fEq (mCall cLen (mCons (mVar 0) mNil)) (mC (.int (0)))) mNil)))))) (mCons (mC (.int (0))) (mCons (mC (.int (0))) (mCons (mC (.int (0))) mNil))))))
def FFeed : FL := runL 1 gFeed
/-- a list's items, drawn one by one, and the like -/
theorem mCons_of {m : M} {ms : MA} {ρ : RE} {S S1 S2 : Sto} {v : PV} {vs : List PV} (h1 : m ρ S = some (v, S1)) (h2 : ms ρ S1 = some (vs, S2)) : mCons m ms ρ S = some (v :: vs, S2) := by
  unfold mCons
  rw [h1]
  show (ms ρ S1).bind _ = _
  rw [h2]
  rfl
theorem mFn_of {n : Nat} {F : FV} {m : MA} {ρ : RE} {S S1 S2 : Sto} {vs : List PV} {v : PV} (h1 : m ρ S = some (vs, S1)) (hn : vs.length = n) (h2 : F vs S1 = some (v, S2)) : mFn n F m ρ S = some (v, S2) := by
  unfold mFn
  rw [h1]
  show (if vs.length = n then F vs S1 else none) = _
  rw [if_pos hn, h2]
theorem mFnL_of {n : Nat} {F : FL} {m : MA} {ρ : RE} {S S1 S2 : Sto} {vs : List PV} {v : List PyData} (h1 : m ρ S = some (vs, S1)) (hn : vs.length = n) (h2 : F vs S1 = some (v, S2)) : mFnL n F m ρ S = some (v, S2) := by
  unfold mFnL
  rw [h1]
  show (if vs.length = n then F vs S1 else none) = _
  rw [if_pos hn, h2]
theorem mFz_of {m : ML} {ρ : RE} {S S1 : Sto} {ds : List PyData} (h : m ρ S = some (ds, S1)) : mFz m ρ S = some (.d (.list ds), S1) := by
  unfold mFz
  rw [h]
  rfl
theorem sOwn_of {i : Nat} {m : ML} {ρ : RE} {S S1 : Sto} {ds : List PyData} (h : m ρ S = some (ds, S1)) : sOwn i m ρ S = some (.nx (ρ.set i (some (.c S1.length))) (S1 ++ [.l ds])) := by
  unfold sOwn
  rw [h]
  rfl
theorem sDrop_of {m : M} {ρ : RE} {S S1 : Sto} {v : PV} (h : m ρ S = some (v, S1)) : sDrop m ρ S = some (.nx ρ S1) := by
  unfold sDrop
  rw [h]
  rfl
theorem bNot_of {m : MB} {ρ : RE} {S S1 : Sto} {b : Bool} (h : m ρ S = some (b, S1)) : bNot m ρ S = some (!b, S1) := by
  unfold bNot
  rw [h]
  rfl
theorem mLend_true {n : Nat} {F : FV} {m : MA} {ρ : RE} {S S1 T : Sto} {vs ys : List PV} {b : Bool} (h1 : m ρ S = some (vs, S1)) (h2 : lend S1 vs = some ys) (hn : ys.length = n) (h3 : F ys [] = some (.d (.bool b), T)) : mLend n F m ρ S = some (.d (.bool b), S1) := by
  unfold mLend
  rw [h1]
  show (lend S1 vs).bind _ = _
  rw [h2]
  show (if ys.length = n then _ else none) = _
  rw [if_pos hn, h3]
  rfl
theorem sFor_of {mi : ML} {tgt : TgD} {body : MS} {ρ : RE} {S S1 : Sto} {xs : List PyData} (h : mi ρ S = some (xs, S1)) : sFor mi tgt body ρ S = forGo tgt body xs ρ S1 := by
  unfold sFor
  rw [h]
  rfl
theorem for_nil {tgt : TgD} {body : MS} {ρ : RE} {S : Sto} : forGo tgt body [] ρ S = some (.nx ρ S) := rfl
theorem for_nx {tgt : TgD} {body : MS} {ρ ρ1 ρ' : RE} {S S' : Sto} {x : PyData} {xs : List PyData} (h1 : tgt x ρ = some ρ1) (h2 : body ρ1 S = some (.nx ρ' S')) : forGo tgt body (x :: xs) ρ S = forGo tgt body xs ρ' S' := by
  show (tgt x ρ).bind _ = _
  rw [h1]
  show (body ρ1 S).bind _ = _
  rw [h2]
  rfl
/-- a truth that a run comes to -/
def isT : Option (PV × Sto) → Bool
  | some (.d (.bool true), _) => true
  | _ => false
theorem isT_of {r : Option (PV × Sto)} (h : isT r = true) : ∃ T, r = some (.d (.bool true), T) := by
  unfold isT at h
  split at h
  · exact ⟨_, rfl⟩
  · cases h
theorem last_get (S : Sto) (x : Cell) : (S ++ [x])[S.length]? = some x := by simp
theorem last_l (S : Sto) (x : List PyData) : lAt (S ++ [.l x]) S.length = some x := lAt_some.mpr (last_get S _)
theorem last_set (S : Sto) (x y : Cell) : (S ++ [x]).set S.length y = S ++ [y] := by simp
theorem mCallL_of {f : List PV → Sto → Option (List PyData)} {m : MA} {ρ : RE} {S S1 : Sto} {vs : List PV} {z : List PyData} (h1 : m ρ S = some (vs, S1)) (h2 : f vs S1 = some z) : mCallL f m ρ S = some (z, S1) := by
  unfold mCallL
  rw [h1]
  show (f vs S1).bind _ = _
  rw [h2]
  rfl
theorem mCall_of {f : List PV → Sto → Option PV} {m : MA} {ρ : RE} {S S1 : Sto} {vs : List PV} {z : PV} (h1 : m ρ S = some (vs, S1)) (h2 : f vs S1 = some z) : mCall f m ρ S = some (z, S1) := by
  unfold mCall
  rw [h1]
  show (f vs S1).bind _ = _
  rw [h2]
  rfl
theorem mOpL_of {f : PV → PV → Sto → Option (List PyData)} {a b : M} {ρ : RE} {S S1 S2 : Sto} {x y : PV} {z : List PyData} (h1 : a ρ S = some (x, S1)) (h2 : b ρ S1 = some (y, S2)) (h3 : f x y S2 = some z) : mOpL f a b ρ S = some (z, S2) := by
  unfold mOpL
  rw [h1]
  show (b ρ S1).bind _ = _
  rw [h2]
  show (f x y S2).bind _ = _
  rw [h3]
  rfl
theorem mLst_of {m : MA} {ρ : RE} {S S1 : Sto} {vs : List PV} {ds : List PyData} (h1 : m ρ S = some (vs, S1)) (h2 : datas vs = some ds) (h3 : ds.length ≤ 1000) : mLst m ρ S = some (ds, S1) := by
  unfold mLst
  rw [h1]
  show (datas vs).bind _ = _
  rw [h2]
  show (if ds.length ≤ 1000 then some (ds, S1) else none) = _
  rw [if_pos h3]
theorem mTup_of {m : MA} {ρ : RE} {S S1 : Sto} {vs : List PV} {ds : List PyData} (h1 : m ρ S = some (vs, S1)) (h2 : datas vs = some ds) (h3 : ds.length ≤ 1000) : mTup m ρ S = some (.d (.tuple ds), S1) := by
  unfold mTup
  rw [h1]
  show (datas vs).bind _ = _
  rw [h2]
  show (if ds.length ≤ 1000 then some (PV.d (.tuple ds), S1) else none) = _
  rw [if_pos h3]
theorem mRep_of {m : ML} {mb : M} {ρ : RE} {S S1 S2 : Sto} {ds : List PyData} {k : Int} (h1 : m ρ S = some (ds, S1)) (h2 : mb ρ S1 = some (.d (.int k), S2)) (h3 : k ≤ 1000000) (h4 : -1000000 ≤ k) (h5 : ds.length * k.toNat ≤ 1000000) : mRep m mb ρ S = some ((List.replicate k.toNat ds).flatten, S2) := by
  unfold mRep
  rw [h1]
  show (mb ρ S1).bind _ = _
  rw [h2]
  show (if k ≤ 1000000 ∧ -1000000 ≤ k ∧ ds.length * k.toNat ≤ 1000000 then _ else none) = _
  rw [if_pos ⟨h3, h4, h5⟩]
theorem mSeq_list {m : M} {ρ : RE} {S S1 : Sto} {xs : List PyData} (h : m ρ S = some (.d (.list xs), S1)) : mSeq m ρ S = some (xs, S1) := by
  unfold mSeq
  rw [h]
  rfl
theorem mSeq_tup {m : M} {ρ : RE} {S S1 : Sto} {xs : List PyData} (h : m ρ S = some (.d (.tuple xs), S1)) : mSeq m ρ S = some (xs, S1) := by
  unfold mSeq
  rw [h]
  rfl
theorem cut63 (xs : List PyData) (h : xs.length ≤ 63) : cut xs none (some 63) = xs := by
  refine cut_whole ⟨rfl, ?_⟩
  rw [show (63 : Int) = ((63 : Nat) : Int) from rfl, HT.sIx_nat]
  omega
theorem feed_spec (ns : List Int) (h : ns.length ≤ 63) : ∃ ms : List Int, ms ≠ [] ∧ FFeed [.d (.list (ns.map .int))] [] = some (feedC ms 0 0 0, []) := by
  have hl : (ns.map PyData.int).length ≤ 63 := by rw [List.length_map]; exact h
  have sl : mSlL (mVar 0) oNone (oSome (mC (.int (63)))) [some (.d (.list (ns.map .int)))] [] = some (ns.map .int, []) := by
    show some (cut (ns.map PyData.int) none (some 63), []) = _
    rw [cut63 _ hl]
  have li : mCallL cList (mCons (mFz (mSlL (mVar 0) oNone (oSome (mC (.int (63)))))) mNil) [some (.d (.list (ns.map .int)))] [] = some (ns.map .int, []) := mCallL_of (mCons_of (mFz_of sl) rfl) rfl
  have eqn : mCall cInt (mCons (mOp fEq (mCall cLen (mCons (mVar 0) mNil)) (mC (.int (0)))) mNil) [some (.d (.list (ns.map .int)))] [] = some (.d (.int (if ((ns.length : Int) == 0) = true then 1 else 0)), []) := by
    have z : mOp fEq (mCall cLen (mCons (mVar 0) mNil)) (mC (.int (0))) [some (.d (.list (ns.map .int)))] [] = some (.d (.bool ((ns.length : Int) == 0)), []) := by
      refine mOp_of (x := .d (.int ns.length)) (S1 := []) ?_ rfl (fEq_int _ _ _)
      show some (PV.d (.int ((ns.map PyData.int).length : Int)), ([] : Sto)) = _
      rw [List.length_map]
    exact mCall_of (mCons_of z rfl) rfl
  have hi1 : (if ((ns.length : Int) == 0) = true then (1 : Int) else 0) ≤ 1 := by split <;> decide
  have hi0 : 0 ≤ (if ((ns.length : Int) == 0) = true then (1 : Int) else 0) := by split <;> decide
  have rp := mRep_of (m := mLst (mCons (mC (.int (0))) mNil)) (ρ := [some (.d (.list (ns.map .int)))]) (S := []) rfl eqn (by omega) (by omega) (by show 1 * _ ≤ 1000000; omega)
  have e2 : ∃ ms : List Int, ms ≠ [] ∧ ns.map PyData.int ++ (List.replicate (if ((ns.length : Int) == 0) = true then (1 : Int) else 0).toNat [PyData.int 0]).flatten = ms.map .int ∧ (ns.map PyData.int).length + ((List.replicate (if ((ns.length : Int) == 0) = true then (1 : Int) else 0).toNat [PyData.int 0]).flatten).length ≤ 1000000 := by
    cases ns with
    | nil => exact ⟨[0], by simp, rfl, by decide⟩
    | cons n r =>
      have ez : (((n :: r).length : Int) == 0) = false := by
        rw [beq_eq_false_iff_ne, List.length_cons]
        omega
      rw [ez]
      refine ⟨n :: r, by simp, ?_, ?_⟩
      · show (n :: r).map PyData.int ++ [] = _
        rw [List.append_nil]
      · show ((n :: r).map PyData.int).length + 0 ≤ 1000000
        omega
  obtain ⟨ms, hm, e3, e4⟩ := e2
  refine ⟨ms, hm, ?_⟩
  have ct := mOpL_of (f := fCatL) (mFz_of li) (mFz_of rp) (z := ms.map .int) (by
    show (if _ ≤ 1000000 then some _ else none) = _
    rw [if_pos e4, e3])
  unfold FFeed runL
  show (gFeed [some (.d (.list (ns.map .int)))] []).bind _ = _
  unfold gFeed sRetL
  rw [mLst_of (mCons_of (mFz_of ct) rfl) rfl (by simp)]
  rfl
end DL

namespace DL
open PySem PySem.Spec PyProof.Rows L2 DK
instance (i : Nat) : FrN (fuelAt i) := ⟨fun ρ S T => by
  unfold fuelAt
  have : (shR S.length ρ)[i]? = (ρ[i]?).map (Option.map (shV S.length)) := by
    unfold shR
    rw [List.getElem?_map]
  rw [this]
  cases ρ[i]? with
  | none => rfl
  | some o => cases o with
    | none => rfl
    | some v => cases v with
      | c j => rfl
      | d x => rfl⟩
theorem log2_of {n k : Nat} (hk : 0 < k) (h : n < 2 ^ k) : n.log2 < k := by
  by_cases h0 : n = 0
  · subst h0
    exact hk
  · exact (Nat.log2_lt h0).mpr h
theorem shownInt_le {i : Int} (h : i.natAbs.log2 < 1920) : (PyData.shown (.int i)).length ≤ 1921 := by
  have e := int_text_length_le (k := 1920) (by decide) h
  show (Str.ofString (toString i)).length ≤ 1921
  rw [PySem.ofString_length]
  exact e
theorem reprOk_pair {x y : Int} (hx : x.natAbs.log2 < 1920) (hy : y.natAbs.log2 < 1920) : reprOk (.tuple [.int x, .int y]) = true := by
  have h1 : (PyData.tuple [.int x, .int y]).showable = true := by
    show (decide (x.natAbs.log2 < 1920) && (decide (y.natAbs.log2 < 1920) && true)) = true
    simp [hx, hy]
  have h2 : (PyData.tuple [.int x, .int y]).leavesShort 1921 = true := by
    show (decide ((PyData.shown (.int x)).length ≤ 1921) && (decide ((PyData.shown (.int y)).length ≤ 1921) && true)) = true
    simp [shownInt_le hx, shownInt_le hy]
  have h3 := PyData.shown_le 1921 (by decide) _ h2
  have w : ∀ {i : Int}, i.natAbs.log2 < 1920 → (PyData.int i).weight ≤ 1920 := fun {i} h => by
    show (if i == 0 then 0 else i.natAbs.log2 + 1) ≤ 1920
    split <;> omega
  have w1 := w hx
  have w2 := w hy
  have h4 : (PyData.tuple [.int x, .int y]).weight ≤ 4000 := by
    simp only [PyData.weight, PyData.weightAll] at w1 w2 ⊢
    omega
  unfold reprOk
  rw [h1]
  have h5 : (PyData.tuple [.int x, .int y]).hasDict = false := rfl
  have h6 : (PyData.tuple [.int x, .int y]).depth ≤ 40 := by simp [PyData.depth, PyData.depthAll]
  rw [h5, decide_eq_true h6, decide_eq_true (by omega)]
  rfl
theorem cRepr_pair {x y : Int} (hx : x.natAbs.log2 < 1920) (hy : y.natAbs.log2 < 1920) (S : Sto) : cRepr [.d (.tuple [.int x, .int y])] S = some (.d (.str (PyData.tuple [.int x, .int y]).shown)) := by
  show (if reprOk (.tuple [.int x, .int y]) = true then _ else none) = _
  rw [if_pos (reprOk_pair hx hy)]
theorem ok_app {a b : Str} (ha : PyData.strOk a = true) (hb : PyData.strOk b = true) : PyData.strOk (a ++ b) = true := by
  show (a.cps ++ b.cps).all _ = true
  rw [Array.all_append, Bool.and_eq_true]
  exact ⟨ha, hb⟩
theorem ok_str (s : String) : PyData.strOk (Str.ofString s) = true := by
  unfold PyData.strOk
  rw [Array.all_eq_true']
  intro c hc
  have h : c ∈ (Str.ofString s).cps.toList := by simpa using hc
  have e : (Str.ofString s).cps.toList = s.toList.map Char.toNat := by rw [Str.ofString_eq_toList]
  rw [e] at h
  obtain ⟨ch, _, rfl⟩ := List.mem_map.mp h
  have := ch.valid
  apply decide_eq_true
  unfold Char.toNat
  rcases this with h | h
  · have : ch.val.toNat < 0xd800 := h
    omega
  · exact h.2
theorem ok_join {sep : Str} (hs : PyData.strOk sep = true) : ∀ ts : List Str, (∀ t ∈ ts, PyData.strOk t = true) → PyData.strOk (Str.join sep ts) = true
  | [], _ => by
    show (#[] : Array Nat).all _ = true
    simp
  | [x], h => h x (by simp)
  | x :: y :: r, h => ok_app (ok_app (h x (by simp)) hs) (ok_join hs (y :: r) fun t ht => h t (List.mem_cons_of_mem _ ht))
theorem ok_tuple {ts : List Str} (h : ∀ t ∈ ts, PyData.strOk t = true) : PyData.strOk (tupleText ts) = true := ok_app (ok_app (ok_str _) (ok_join (ok_str _) ts h)) (ok_str _)
theorem ok_textFrom : ∀ (ts : List Str) (k : Nat) (acc : Str), PyData.strOk acc = true → (∀ t ∈ ts, PyData.strOk t = true) → PyData.strOk (textFrom k acc ts) = true
  | [], _, _, h, _ => h
  | t :: ts, k, acc, h, g => ok_textFrom ts (k + 1) _ (ok_app (ok_app h (ok_str _)) (g t (by simp))) fun t ht => g t (List.mem_cons_of_mem _ ht)
theorem ok_list {ts : List Str} (h : ∀ t ∈ ts, PyData.strOk t = true) : PyData.strOk (listText ts) = true := ok_app (ok_textFrom ts 0 _ (ok_str _) h) (ok_str _)
theorem ok_int (i : Int) : PyData.strOk (PyData.shown (.int i)) = true := ok_str _
theorem ok_pair (x y : Int) : PyData.strOk (PyData.shown (.tuple [.int x, .int y])) = true := ok_tuple fun t ht => by
  rcases List.mem_cons.mp ht with rfl | ht
  · exact ok_int x
  · rcases List.mem_cons.mp ht with rfl | ht
    · exact ok_int y
    · cases ht
theorem shaped_str {a : Str} (h : PyData.strOk a = true) : SeqAt.shaped (.str a) = true := by
  show (PyData.strOk a && _) = true
  rw [h]
  rfl
theorem fEq_str {a b : Str} (ha : PyData.strOk a = true) (hb : PyData.strOk b = true) (S : Sto) : fEq (.d (.str a)) (.d (.str b)) S = some (.d (.bool (a == b))) := by
  show (if (SeqAt.shaped (.str a) && SeqAt.shaped (.str b)) = true then some (PV.d (.bool (PyData.eqv (.str a) (.str b)))) else none) = _
  rw [shaped_str ha, shaped_str hb]
  rfl
theorem fNe_str {a b : Str} (ha : PyData.strOk a = true) (hb : PyData.strOk b = true) (S : Sto) : fNe (.d (.str a)) (.d (.str b)) S = some (.d (.bool (!(a == b)))) := by
  show (if (SeqAt.shaped (.str a) && SeqAt.shaped (.str b)) = true then some (PV.d (.bool (!PyData.eqv (.str a) (.str b)))) else none) = _
  rw [shaped_str ha, shaped_str hb]
  rfl
theorem fMul_bd {a b : Int} (ha : a.natAbs < 2 ^ 4000) (hb : b.natAbs < 2 ^ 4000) (S : Sto) : fMul (.d (.int a)) (.d (.int b)) S = some (.d (.int (a * b))) := by
  have h1 := log2_of (by decide) ha
  have h2 := log2_of (by decide) hb
  have : mulOk a b = true := by
    unfold mulOk
    rw [Bool.or_eq_true]
    right
    exact decide_eq_true (by omega)
  show (if mulOk a b = true then _ else none) = _
  rw [if_pos this]
theorem fMul_r {a b : Int} (hb : b.natAbs < 2 ^ 64) (S : Sto) : fMul (.d (.int a)) (.d (.int b)) S = some (.d (.int (a * b))) := by
  have : mulOk a b = true := by
    unfold mulOk
    rw [Bool.or_eq_true, Bool.or_eq_true]
    left; right
    rw [Bool.and_eq_true, decide_eq_true_eq, decide_eq_true_eq]
    have e : (2 : Int) ^ 64 = ((2 ^ 64 : Nat) : Int) := by decide
    rw [e]
    generalize 2 ^ 64 = z at hb
    omega
  show (if mulOk a b = true then _ else none) = _
  rw [if_pos this]
/-- a ratio in lowest terms -/
def lowD (t b : Int) : PyData := .tuple [.int (t / (Int.gcd t b : Nat)), .int (b / (Int.gcd t b : Nat))]
theorem gcd_pos {t b : Int} (h : 0 < b) : 0 < Int.gcd t b := by
  have := Int.gcd_pos_of_ne_zero_right (a := t) (b := b) (by omega)
  exact this
theorem gcd_le {t b : Int} (h : 0 < b) : Int.gcd t b ≤ b.natAbs := Nat.gcd_le_right _ (by omega)
theorem fDiv_gcd {t b x : Int} (h : 0 < b) (hl : b.natAbs < 2 ^ 9000) (S : Sto) : fDiv (.d (.int x)) (.d (.int (Int.gcd t b : Nat))) S = some (.d (.int (x / (Int.gcd t b : Nat)))) := by
  have h1 := gcd_pos (t := t) h
  have h2 := gcd_le (t := t) h
  refine fDiv_int (by omega) (log2_of (by decide) ?_) S
  rw [Int.natAbs_natCast]
  exact Nat.lt_of_le_of_lt h2 hl
end DL

namespace DL
open PySem PySem.Spec PyProof.Rows L2 DK
/-! the program's ratios -/
def gGcd : MS :=
    (sSeq (sPar 0 1 (mCons (mCall cAbs (mCons (mVar 0) mNil)) (mCons (mCall cAbs (mCons (mVar 1) mNil)) mNil)))
    (sSeq (sWhile (fuelAt 1) (bTru (mVar 1)) (sPar 0 1 (mCons (mVar 1) (mCons (mOp fMod (mVar 0) (mVar 1)) mNil))))
    (sRet (mVar 0))))
def FGcd : FV := runF 2 gGcd
def gRatio : MS :=
    (sSeq (sIf (asB (mOp fEq (mVar 1) (mC (.int (0))))) sNever sNil)
    (sSeq (sSet 2 (mFn 2 FGcd (mCons (mVar 0) (mCons (mVar 1) mNil))))
    (sSeq (sIf (asB (mOp fLt (mVar 1) (mC (.int (0))))) (sSet 2 (mUn fNeg (mVar 2))) sNil)
    (sRet (mTup (mCons (mOp fDiv (mVar 0) (mVar 2)) (mCons (mOp fDiv (mVar 1) (mVar 2)) mNil)))))))
def FRatio : FV := runF 3 gRatio
def gTimes : MS :=
    (sRet (mFn 2 FRatio (mCons (mOp fMul (mOp fIx (mVar 0) (mC (.int (0)))) (mOp fIx (mVar 1) (mC (.int (0))))) (mCons (mOp fMul (mOp fIx (mVar 0) (mC (.int (1)))) (mOp fIx (mVar 1) (mC (.int (1))))) mNil))))
def FTimes : FV := runF 2 gTimes
theorem abs_eq (t : Int) : (if t < 0 then -t else t) = ((t.natAbs : Nat) : Int) := by
  split <;> omega
theorem fMod_nat {m n : Nat} (h : 0 < n) (S : Sto) : fMod (.d (.int (m : Nat))) (.d (.int (n : Nat))) S = some (.d (.int ((m % n : Nat) : Int))) := by
  rw [fMod_int (by omega)]
  rfl
theorem while_t {c : MB} {body : MS} {k : Nat} {ρ ρ' : RE} {S S1 S' : Sto} (h : c ρ S = some (true, S1)) (b : body ρ S1 = some (.nx ρ' S')) : whileGo c body (k + 1) ρ S = whileGo c body k ρ' S' := by
  show (c ρ S).bind _ = _
  rw [h]
  show (body ρ S1).bind _ = _
  rw [b]
  rfl
theorem while_f {c : MB} {body : MS} {k : Nat} {ρ : RE} {S S1 : Sto} (h : c ρ S = some (false, S1)) : whileGo c body (k + 1) ρ S = some (.nx ρ S1) := by
  show (c ρ S).bind _ = _
  rw [h]
  rfl
theorem gcd_go {S : Sto} : ∀ (k m n : Nat), n < k → whileGo (bTru (mVar 1)) (sPar 0 1 (mCons (mVar 1) (mCons (mOp fMod (mVar 0) (mVar 1)) mNil))) k [some (.d (.int (m : Nat))), some (.d (.int (n : Nat)))] S = some (.nx [some (.d (.int (Nat.gcd m n : Nat))), some (.d (.int 0))] S)
  | 0, _, _, h => by omega
  | k + 1, m, 0, h => by
    rw [Nat.gcd_zero_right]
    rfl
  | k + 1, m, n + 1, h => by
    have hd : m % (n + 1) < n + 1 := Nat.mod_lt _ (by omega)
    have ih := gcd_go (S := S) k (n + 1) (m % (n + 1)) (by omega)
    have eg : Nat.gcd (n + 1) (m % (n + 1)) = Nat.gcd m (n + 1) := by
      rw [Nat.gcd_comm m, Nat.gcd_rec (n + 1) m, Nat.gcd_comm]
    rw [eg] at ih
    have t : bTru (mVar 1) [some (.d (.int (m : Nat))), some (.d (.int ((n + 1 : Nat) : Int)))] S = some (true, S) := by
      show some (!(((n + 1 : Nat) : Int) == 0), S) = _
      rw [show (((n + 1 : Nat) : Int) == 0) = false from by simp; omega]
      rfl
    have b : sPar 0 1 (mCons (mVar 1) (mCons (mOp fMod (mVar 0) (mVar 1)) mNil)) [some (.d (.int (m : Nat))), some (.d (.int ((n + 1 : Nat) : Int)))] S = some (.nx [some (.d (.int ((n + 1 : Nat) : Int))), some (.d (.int ((m % (n + 1) : Nat) : Int)))] S) := by
      unfold sPar
      rw [mCons_of rfl (mCons_of (mOp_of rfl rfl (fMod_nat (by omega) S)) rfl)]
      rfl
    rw [while_t t b]
    exact ih
theorem FGcd_spec (t b : Int) (S : Sto) : FGcd [.d (.int t), .d (.int b)] S = some (.d (.int (Int.gcd t b : Nat)), S) := by
  unfold FGcd runF
  show (gGcd [some (.d (.int t)), some (.d (.int b))] S).bind _ = _
  unfold gGcd
  have e1 : sPar 0 1 (mCons (mCall cAbs (mCons (mVar 0) mNil)) (mCons (mCall cAbs (mCons (mVar 1) mNil)) mNil)) [some (.d (.int t)), some (.d (.int b))] S = some (.nx [some (.d (.int ((t.natAbs : Nat) : Int))), some (.d (.int ((b.natAbs : Nat) : Int)))] S) := by
    show some (Out.nx [some (.d (.int (if t < 0 then -t else t))), some (.d (.int (if b < 0 then -b else b)))] S) = _
    rw [abs_eq, abs_eq]
  rw [sSeq_nx e1]
  have e2 : sWhile (fuelAt 1) (bTru (mVar 1)) (sPar 0 1 (mCons (mVar 1) (mCons (mOp fMod (mVar 0) (mVar 1)) mNil))) [some (.d (.int ((t.natAbs : Nat) : Int))), some (.d (.int ((b.natAbs : Nat) : Int)))] S = some (.nx [some (.d (.int (Nat.gcd t.natAbs b.natAbs : Nat))), some (.d (.int 0))] S) := by
    unfold sWhile
    refine gcd_go _ _ _ ?_
    show b.natAbs < ((b.natAbs : Nat) : Int).natAbs + 2
    omega
  rw [sSeq_nx e2]
  show finV S.length (.d (.int (Nat.gcd t.natAbs b.natAbs : Nat))) S = _
  show some (_, S.take S.length) = _
  rw [List.take_length]
  rfl
theorem FRatio_spec {t b : Int} (hb : 0 < b) (hl : b.natAbs < 2 ^ 9000) (S : Sto) : FRatio [.d (.int t), .d (.int b)] S = some (.d (lowD t b), S) := by
  unfold FRatio runF
  show (gRatio [some (.d (.int t)), some (.d (.int b)), none] S).bind _ = _
  unfold gRatio
  have c1 : asB (mOp fEq (mVar 1) (mC (.int (0)))) [some (.d (.int t)), some (.d (.int b)), none] S = some (false, S) :=
    asB_of (mOp_of rfl rfl ((fEq_int _ _ _).trans (by rw [show (b == 0) = false from by simp; omega])))
  rw [sSeq_nx (ρ' := [some (.d (.int t)), some (.d (.int b)), none]) (S' := S) (by rw [sIf_f c1]; rfl)]
  rw [sSeq_nx (sSet_of (mFn_of (n := 2) rfl rfl (FGcd_spec t b S)))]
  show ((sSeq _ _) [some (.d (.int t)), some (.d (.int b)), some (.d (.int (Int.gcd t b : Nat)))] S).bind _ = _
  have c2 : asB (mOp fLt (mVar 1) (mC (.int (0)))) [some (.d (.int t)), some (.d (.int b)), some (.d (.int (Int.gcd t b : Nat)))] S = some (false, S) :=
    asB_of (mOp_of rfl rfl (by show some (PV.d (.bool (decide (b < 0)))) = _; rw [decide_eq_false (by omega)]))
  rw [sSeq_nx (ρ' := [some (.d (.int t)), some (.d (.int b)), some (.d (.int (Int.gcd t b : Nat)))]) (S' := S) (by rw [sIf_f c2]; rfl)]
  rw [sRet_of (mTup_of (ds := [.int (t / (Int.gcd t b : Nat)), .int (b / (Int.gcd t b : Nat))]) (mCons_of (mOp_of rfl rfl (fDiv_gcd hb hl S)) (mCons_of (mOp_of rfl rfl (fDiv_gcd hb hl S)) rfl)) rfl (by show 2 ≤ 1000; decide))]
  show some (_, S.take S.length) = _
  rw [List.take_length]
  rfl
theorem fIx_0 (a b : Int) (S : Sto) : fIx (.d (.tuple [.int a, .int b])) (.d (.int 0)) S = some (.d (.int a)) := rfl
theorem fIx_1 (a b : Int) (S : Sto) : fIx (.d (.tuple [.int a, .int b])) (.d (.int 1)) S = some (.d (.int b)) := rfl
theorem mul_lt_bd {a b : Int} (ha : a.natAbs < 2 ^ 4000) (hb : b.natAbs < 2 ^ 4000) : (a * b).natAbs < 2 ^ 9000 := by
  rw [Int.natAbs_mul]
  calc a.natAbs * b.natAbs ≤ 2 ^ 4000 * 2 ^ 4000 := Nat.mul_le_mul (Nat.le_of_lt ha) (Nat.le_of_lt hb)
    _ = 2 ^ (4000 + 4000) := (Nat.pow_add 2 4000 4000).symm
    _ < 2 ^ 9000 := Nat.pow_lt_pow_right (by decide) (by decide)
theorem FTimes_spec {a b c d : Int} (ha : a.natAbs < 2 ^ 4000) (hb : b.natAbs < 2 ^ 4000) (hc : c.natAbs < 2 ^ 4000) (hd : d.natAbs < 2 ^ 4000) (h : 0 < b * d) (S : Sto) : FTimes [.d (.tuple [.int a, .int b]), .d (.tuple [.int c, .int d])] S = some (.d (lowD (a * c) (b * d)), S) := by
  unfold FTimes runF
  show (gTimes [some (.d (.tuple [.int a, .int b])), some (.d (.tuple [.int c, .int d]))] S).bind _ = _
  unfold gTimes
  rw [sRet_of (mFn_of (n := 2) (mCons_of (mOp_of (mOp_of rfl rfl (fIx_0 ..)) (mOp_of rfl rfl (fIx_0 ..)) (fMul_bd ha hc S)) (mCons_of (mOp_of (mOp_of rfl rfl (fIx_1 ..)) (mOp_of rfl rfl (fIx_1 ..)) (fMul_bd hb hd S)) rfl)) rfl (FRatio_spec h (mul_lt_bd hb hd) S))]
  show some (_, S.take S.length) = _
  rw [List.take_length]
end DL

namespace DL
open PySem PySem.Spec PyProof.Rows L2 DK
/-! a feed alone in the store; functions, loops, comprehensions as they come out -/
def Fed (ms : List Int) (k : Int) (S : Sto) : Prop := ∃ i c j, S = [.l (feedC ms i c j)] ∧ 0 ≤ i ∧ 0 ≤ j ∧ j ≤ k
theorem Fed.len {ms : List Int} {k : Int} {S : Sto} (h : Fed ms k S) : S.length = 1 := by
  obtain ⟨i, c, j, rfl, _⟩ := h
  rfl
theorem Fed.mono {ms : List Int} {k l : Int} {S : Sto} (h : Fed ms k S) (hk : k ≤ l) : Fed ms l S := by
  obtain ⟨i, c, j, rfl, a, b, d⟩ := h
  exact ⟨i, c, j, rfl, a, b, by omega⟩
theorem draw_fed {ms : List Int} {k many : Int} {S : Sto} (hm : ms ≠ []) (h : Fed ms k S) (hk : k ≤ 999999) (hp : 0 < many) (hl : many.natAbs.log2 < 9000) :
    ∃ r S', FDraw [.c 0, .d (.int many)] S = some (.d (.int r), S') ∧ 0 ≤ r ∧ r < many ∧ Fed ms (k + 1) S' := by
  obtain ⟨i, c, j, rfl, a, b, d⟩ := h
  obtain ⟨r, i', c', x, y, z, w⟩ := draw_spec (S := [.l (feedC ms i c j)]) (j := 0) (many := many) rfl hm a b (by omega) hp hl
  exact ⟨r, _, x, y, z, i', c', j + 1, rfl, w, by omega, by omega⟩
theorem log2_small {n : Int} (h0 : 0 ≤ n) (h : n ≤ 1000000000) : n.natAbs.log2 < 9000 := by
  refine log2_of (by decide) (Nat.lt_of_lt_of_le (m := 2 ^ 40) ?_ (Nat.pow_le_pow_right (by decide) (by decide)))
  have : (2 : Nat) ^ 40 = 1099511627776 := by decide
  omega
theorem runF_of {N : Nat} {g : MS} {ps : List PV} {ρ : RE} {S S' : Sto} {x : PyData} (he : ps.map some ++ List.replicate (N - ps.length) none = ρ) (h : g ρ S = some (.rt (.d x) S')) (hl : S'.length ≤ S.length) : runF N g ps S = some (.d x, S') := by
  unfold runF
  rw [he, h]
  show some (_, S'.take S.length) = _
  rw [List.take_of_length_le hl]
theorem lcGo_none {n : Nat} {tgt : TgD} {tt : MB} {te : M} {ρ : RE} {S : Sto} : ∀ xs : List PyData, (∀ x ∈ xs, ∃ ρ1, tgt x ρ = some ρ1 ∧ tt ρ1 S = some (false, S)) → lcGo n tgt tt te ρ xs S = some S
  | [], _ => rfl
  | x :: xs, h => by
    obtain ⟨ρ1, e1, e2⟩ := h x (by simp)
    have ih := lcGo_none (n := n) (te := te) xs fun y hy => h y (List.mem_cons_of_mem _ hy)
    unfold lcGo
    rw [e1]
    show (tt ρ1 S).bind _ = _
    rw [e2]
    exact ih
theorem mLc_none {mi : ML} {vs : List Nat} {tgt : TgD} {tt : MB} {te : M} {ρ : RE} {S S1 : Sto} {xs : List PyData} (h1 : mi ρ S = some (xs, S1)) (h2 : ∀ x ∈ xs, ∃ ρ1, tgt x (wipeR ρ vs) = some ρ1 ∧ tt ρ1 (S1 ++ [.l []]) = some (false, S1 ++ [.l []])) : mLc mi vs tgt tt te ρ S = some ([], S1) := by
  unfold mLc
  rw [h1]
  show (lcGo S1.length tgt tt te (wipeR ρ vs) xs (S1 ++ [.l []])).bind _ = _
  rw [lcGo_none xs h2]
  show (lAt (S1 ++ [.l []]) S1.length).bind _ = _
  rw [last_l]
  show some ([], (S1 ++ [Cell.l []]).take S1.length) = _
  simp
theorem mIf_t {c : MB} {a b : M} {ρ : RE} {S S' : Sto} (h : c ρ S = some (true, S')) : mIf c a b ρ S = a ρ S' := by
  unfold mIf
  rw [h]
  rfl
theorem mIf_f {c : MB} {a b : M} {ρ : RE} {S S' : Sto} (h : c ρ S = some (false, S')) : mIf c a b ρ S = b ρ S' := by
  unfold mIf
  rw [h]
  rfl
theorem if_nx {c : MB} {a : MS} {ρ : RE} {S S' : Sto} (h : c ρ S = some (false, S')) : sIf c a sNil ρ S = some (.nx ρ S') := by
  rw [sIf_f h]
  rfl
theorem fLt_int (a b : Int) (S : Sto) : fLt (.d (.int a)) (.d (.int b)) S = some (.d (.bool (decide (a < b)))) := rfl
theorem fGt_int (a b : Int) (S : Sto) : fGt (.d (.int a)) (.d (.int b)) S = some (.d (.bool (decide (a > b)))) := rfl
theorem rangeD_succ (n : Nat) : rangeD 0 (n + 1) = rangeD 0 n ++ [.int (n : Nat)] := by
  unfold rangeD
  rw [List.range_succ, List.map_append, List.map_singleton, Int.zero_add]
theorem mRng1_of {m : M} {ρ : RE} {S S1 : Sto} {j : Int} (h : m ρ S = some (.d (.int j), S1)) (h0 : 0 ≤ j) (h1 : j ≤ 1000000) : mRng1 m ρ S = some (rangeD 0 j.toNat, S1) := by
  unfold mRng1
  rw [h]
  show (if -1000000 ≤ j ∧ j ≤ 1000000 then _ else none) = _
  rw [if_pos ⟨by omega, h1⟩]
end DL

namespace DL
open PySem PySem.Spec PyProof.Rows L2 DK
/-! a feed at the head of the store, whatever lies behind it -/
def FedT (ms : List Int) (k : Int) (T S : Sto) : Prop := ∃ i c j, S = .l (feedC ms i c j) :: T ∧ 0 ≤ i ∧ 0 ≤ j ∧ j ≤ k
section
variable {ms : List Int} {k : Int} {T S : Sto}
theorem FedT.len (h : FedT ms k T S) : S.length = T.length + 1 := by
  obtain ⟨i, c, j, rfl, _⟩ := h
  rfl
theorem FedT.mono {l : Int} (h : FedT ms k T S) (hk : k ≤ l) : FedT ms l T S := by
  obtain ⟨i, c, j, rfl, a, b, d⟩ := h
  exact ⟨i, c, j, rfl, a, b, by omega⟩
theorem FedT.same {l : Int} {S' : Sto} (h : FedT ms k T S) (h' : FedT ms l T S') : S'.length ≤ S.length := by
  rw [h.len, h'.len]
  exact Nat.le_refl _
theorem FedT.draw {many : Int} (hm : ms ≠ []) (h : FedT ms k T S) (hk : k ≤ 999999) (hp : 0 < many) (hl : many.natAbs < 2 ^ 8999) :
    ∃ r S', FDraw [.c 0, .d (.int many)] S = some (.d (.int r), S') ∧ 0 ≤ r ∧ r < many ∧ FedT ms (k + 1) T S' := by
  obtain ⟨i, c, j, rfl, a, b, d⟩ := h
  obtain ⟨r, i', c', x, y, z, w⟩ := draw_spec (S := .l (feedC ms i c j) :: T) (j := 0) (many := many) rfl hm a b (by omega) hp (Nat.lt_succ_of_lt (log2_of (by decide) hl))
  exact ⟨r, _, x, y, z, i', c', j + 1, rfl, w, by omega, by omega⟩
end
/-! a law's number -/
def gNumber : MS :=
    (sSeq (sSet 2 (mFn 2 FDraw (mCons (mVar 0) (mCons (mC (.int (4))) mNil))))
    (sSeq (sIf (asB (mOp fEq (mVar 2) (mC (.int (0))))) (sRet (mFn 2 FDraw (mCons (mVar 0) (mCons (mCall cMin (mCons (mVar 1) (mCons (mC (.int (4))) mNil))) mNil)))) sNil)
    (sSeq (sIf (asB (mOp fEq (mVar 2) (mC (.int (1))))) (sRet (mFn 2 FDraw (mCons (mVar 0) (mCons (mCall cMin (mCons (mVar 1) (mCons (mC (.int (100))) mNil))) mNil)))) sNil)
    (sSeq (sIf (asB (mOp fEq (mVar 2) (mC (.int (2))))) (sRet (mFn 2 FDraw (mCons (mVar 0) (mCons (mVar 1) mNil)))) sNil)
    (sRet (mOp fSub (mOp fSub (mVar 1) (mC (.int (1)))) (mFn 2 FDraw (mCons (mVar 0) (mCons (mCall cMin (mCons (mVar 1) (mCons (mC (.int (9))) mNil))) mNil)))))))))
def FNumber : FV := runF 3 gNumber
theorem up2 {x c d : Nat} (h : x < 2 ^ c) (hc : c ≤ d) : x < 2 ^ d := Nat.lt_of_lt_of_le h (Nat.pow_le_pow_right (by decide) hc)
theorem lt_up {x : Int} {c d : Nat} (h0 : 0 ≤ x) (h : x < 2 ^ c) (hc : c ≤ d) : x.natAbs < 2 ^ d := by
  refine up2 ?_ hc
  have : ((x.natAbs : Nat) : Int) < ((2 ^ c : Nat) : Int) := by
    rw [Int.natCast_pow]
    show ((x.natAbs : Nat) : Int) < 2 ^ c
    omega
  exact Int.ofNat_lt.mp this
theorem FedT.number {ms : List Int} {k most : Int} {T S : Sto} (hm : ms ≠ []) (h : FedT ms k T S) (hk : k ≤ 99999) (h0 : 9 < most) (h1 : most.natAbs < 2 ^ 8000) :
    ∃ r S', FNumber [.c 0, .d (.int most)] S = some (.d (.int r), S') ∧ 0 ≤ r ∧ r < most ∧ FedT ms (k + 2) T S' := by
  obtain ⟨w, S1, e1, w0, w1, f1⟩ := h.draw hm (by omega) (many := 4) (by decide) (up2 (c := 3) (by decide) (by decide))
  have st : ∀ {x : PyData} {S' : Sto}, gNumber [some (.c 0), some (.d (.int most)), none] S = some (.rt (.d x) S') → FedT ms (k + 2) T S' → FNumber [.c 0, .d (.int most)] S = some (.d x, S') := fun e f =>
    runF_of (ρ := [some (.c 0), some (.d (.int most)), none]) rfl e (h.same f)
  have go : ∀ {o}, (sSeq (sIf (asB (mOp fEq (mVar 2) (mC (.int (0))))) (sRet (mFn 2 FDraw (mCons (mVar 0) (mCons (mCall cMin (mCons (mVar 1) (mCons (mC (.int (4))) mNil))) mNil)))) sNil)
    (sSeq (sIf (asB (mOp fEq (mVar 2) (mC (.int (1))))) (sRet (mFn 2 FDraw (mCons (mVar 0) (mCons (mCall cMin (mCons (mVar 1) (mCons (mC (.int (100))) mNil))) mNil)))) sNil)
    (sSeq (sIf (asB (mOp fEq (mVar 2) (mC (.int (2))))) (sRet (mFn 2 FDraw (mCons (mVar 0) (mCons (mVar 1) mNil)))) sNil)
    (sRet (mOp fSub (mOp fSub (mVar 1) (mC (.int (1)))) (mFn 2 FDraw (mCons (mVar 0) (mCons (mCall cMin (mCons (mVar 1) (mCons (mC (.int (9))) mNil))) mNil)))))))) [some (.c 0), some (.d (.int most)), some (.d (.int w))] S1 = o → gNumber [some (.c 0), some (.d (.int most)), none] S = o := fun e => by
    unfold gNumber
    rw [sSeq_nx (sSet_of (mFn_of (n := 2) rfl rfl e1))]
    exact e
  have eqn : ∀ (z : Int), asB (mOp fEq (mVar 2) (mC (.int z))) [some (.c 0), some (.d (.int most)), some (.d (.int w))] S1 = some (w == z, S1) := fun z => asB_of (mOp_of rfl rfl (fEq_int _ _ _))
  have mn : ∀ (z : Int), cMin [.d (.int most), .d (.int z)] S1 = some (.d (.int (if z < most then z else most))) := fun z => rfl
  have cases4 : w = 0 ∨ w = 1 ∨ w = 2 ∨ w = 3 := by omega
  have hz : ∀ z : Int, 0 < z → 0 < (if z < most then z else most) ∧ (if z < most then z else most) ≤ most ∧ (if z < most then z else most) ≤ z := fun z hz => by split <;> omega
  have sm : ∀ z : Int, 0 < z → z ≤ most → z.natAbs < 2 ^ 8999 := fun z p q => up2 (c := 8000) (Nat.lt_of_le_of_lt (show z.natAbs ≤ most.natAbs by omega) h1) (by decide)
  rcases cases4 with rfl | rfl | rfl | rfl
  · obtain ⟨p0, p1, p2⟩ := hz 4 (by decide)
    obtain ⟨r, S2, e2, r0, r1, f2⟩ := f1.draw hm (by omega) p0 (sm _ p0 p1)
    have f2' : FedT ms (k + 2) T S2 := f2.mono (by omega)
    refine ⟨r, S2, st (go ?_) f2', r0, by omega, f2'⟩
    exact sSeq_rt ((sIf_t (eqn 0)).trans (sRet_of (mFn_of (n := 2) (mCons_of rfl (mCons_of (mCall_of rfl (mn 4)) rfl)) rfl e2)))
  · obtain ⟨p0, p1, p2⟩ := hz 100 (by decide)
    obtain ⟨r, S2, e2, r0, r1, f2⟩ := f1.draw hm (by omega) p0 (sm _ p0 p1)
    have f2' : FedT ms (k + 2) T S2 := f2.mono (by omega)
    refine ⟨r, S2, st (go ?_) f2', r0, by omega, f2'⟩
    rw [sSeq_nx (if_nx (eqn 0))]
    exact sSeq_rt ((sIf_t (eqn 1)).trans (sRet_of (mFn_of (n := 2) (mCons_of rfl (mCons_of (mCall_of rfl (mn 100)) rfl)) rfl e2)))
  · obtain ⟨r, S2, e2, r0, r1, f2⟩ := f1.draw hm (by omega) (many := most) (by omega) (sm _ (by omega) (by omega))
    have f2' : FedT ms (k + 2) T S2 := f2.mono (by omega)
    refine ⟨r, S2, st (go ?_) f2', r0, by omega, f2'⟩
    rw [sSeq_nx (if_nx (eqn 0)), sSeq_nx (if_nx (eqn 1))]
    exact sSeq_rt ((sIf_t (eqn 2)).trans (sRet_of (mFn_of (n := 2) rfl rfl e2)))
  · obtain ⟨p0, p1, p2⟩ := hz 9 (by decide)
    obtain ⟨r, S2, e2, r0, r1, f2⟩ := f1.draw hm (by omega) p0 (sm _ p0 p1)
    have f2' : FedT ms (k + 2) T S2 := f2.mono (by omega)
    refine ⟨most - 1 - r, S2, st (go ?_) f2', by omega, by omega, f2'⟩
    rw [sSeq_nx (if_nx (eqn 0)), sSeq_nx (if_nx (eqn 1)), sSeq_nx (if_nx (eqn 2))]
    exact sRet_of (mOp_of rfl (mFn_of (n := 2) (mCons_of rfl (mCons_of (mCall_of rfl (mn 9)) rfl)) rfl e2) rfl)
/-! a law's lowest terms -/
def gLow : MS :=
    (sSeq (sPar 2 3 (mCons (mCall cAbs (mCons (mVar 0) mNil)) (mCons (mVar 1) mNil)))
    (sSeq (sWhile (fuelAt 1) (asB (mOp fGt (mVar 3) (mC (.int (0))))) (sPar 2 3 (mCons (mVar 3) (mCons (mOp fMod (mVar 2) (mVar 3)) mNil))))
    (sRet (mTup (mCons (mOp fDiv (mVar 0) (mVar 2)) (mCons (mOp fDiv (mVar 1) (mVar 2)) mNil))))))
def FLow : FV := runF 4 gLow
theorem low_go {S : Sto} {x y : Option PV} : ∀ (k m n : Nat), n < k → whileGo (asB (mOp fGt (mVar 3) (mC (.int (0))))) (sPar 2 3 (mCons (mVar 3) (mCons (mOp fMod (mVar 2) (mVar 3)) mNil))) k [x, y, some (.d (.int (m : Nat))), some (.d (.int (n : Nat)))] S = some (.nx [x, y, some (.d (.int (Nat.gcd m n : Nat))), some (.d (.int 0))] S)
  | 0, _, _, h => by omega
  | k + 1, m, 0, h => by
    rw [Nat.gcd_zero_right]
    exact while_f (asB_of (mOp_of rfl rfl (fGt_int _ _ _)))
  | k + 1, m, n + 1, h => by
    have hd : m % (n + 1) < n + 1 := Nat.mod_lt _ (by omega)
    have ih := low_go (S := S) (x := x) (y := y) k (n + 1) (m % (n + 1)) (by omega)
    have eg : Nat.gcd (n + 1) (m % (n + 1)) = Nat.gcd m (n + 1) := by
      rw [Nat.gcd_comm m, Nat.gcd_rec (n + 1) m, Nat.gcd_comm]
    rw [eg] at ih
    have t : asB (mOp fGt (mVar 3) (mC (.int (0)))) [x, y, some (.d (.int (m : Nat))), some (.d (.int ((n + 1 : Nat) : Int)))] S = some (true, S) :=
      asB_of (mOp_of rfl rfl ((fGt_int _ _ _).trans (by rw [decide_eq_true (by omega)])))
    have b : sPar 2 3 (mCons (mVar 3) (mCons (mOp fMod (mVar 2) (mVar 3)) mNil)) [x, y, some (.d (.int (m : Nat))), some (.d (.int ((n + 1 : Nat) : Int)))] S = some (.nx [x, y, some (.d (.int ((n + 1 : Nat) : Int))), some (.d (.int ((m % (n + 1) : Nat) : Int)))] S) := by
      unfold sPar
      rw [mCons_of rfl (mCons_of (mOp_of rfl rfl (fMod_nat (by omega) S)) rfl)]
      rfl
    rw [while_t t b]
    exact ih
theorem FLow_spec {t b : Int} (hb : 0 < b) (hl : b.natAbs < 2 ^ 9000) (S : Sto) : FLow [.d (.int t), .d (.int b)] S = some (.d (lowD t b), S) := by
  refine runF_of (ρ := [some (.d (.int t)), some (.d (.int b)), none, none]) rfl ?_ (Nat.le_refl _)
  unfold gLow
  have e1 : sPar 2 3 (mCons (mCall cAbs (mCons (mVar 0) mNil)) (mCons (mVar 1) mNil)) [some (.d (.int t)), some (.d (.int b)), none, none] S = some (.nx [some (.d (.int t)), some (.d (.int b)), some (.d (.int ((t.natAbs : Nat) : Int))), some (.d (.int ((b.natAbs : Nat) : Int)))] S) := by
    show some (Out.nx [some (.d (.int t)), some (.d (.int b)), some (.d (.int (if t < 0 then -t else t))), some (.d (.int b))] S) = _
    rw [abs_eq, show ((b.natAbs : Nat) : Int) = b by omega]
  rw [sSeq_nx e1]
  have e2 : sWhile (fuelAt 1) (asB (mOp fGt (mVar 3) (mC (.int (0))))) (sPar 2 3 (mCons (mVar 3) (mCons (mOp fMod (mVar 2) (mVar 3)) mNil))) [some (.d (.int t)), some (.d (.int b)), some (.d (.int ((t.natAbs : Nat) : Int))), some (.d (.int ((b.natAbs : Nat) : Int)))] S = some (.nx [some (.d (.int t)), some (.d (.int b)), some (.d (.int (Int.gcd t b : Nat))), some (.d (.int 0))] S) := by
    unfold sWhile
    refine low_go _ _ _ ?_
    show b.natAbs < b.natAbs + 2
    omega
  rw [sSeq_nx e2]
  exact sRet_of (mTup_of (ds := [.int (t / (Int.gcd t b : Nat)), .int (b / (Int.gcd t b : Nat))]) (mCons_of (mOp_of rfl rfl (fDiv_gcd hb hl S)) (mCons_of (mOp_of rfl rfl (fDiv_gcd hb hl S)) rfl)) rfl (by show 2 ≤ 1000; decide))
theorem low_facts {t b : Int} (hb : 0 < b) : ∃ p q, lowD t b = .tuple [.int p, .int q] ∧ t = (Int.gcd t b : Nat) * p ∧ b = (Int.gcd t b : Nat) * q ∧ Int.gcd p q = 1 ∧ 0 < q ∧ q ≤ b ∧ p.natAbs ≤ t.natAbs := by
  have hg := gcd_pos (t := t) hb
  refine ⟨t / (Int.gcd t b : Nat), b / (Int.gcd t b : Nat), rfl, (Int.mul_ediv_cancel' (Int.gcd_dvd_left ..)).symm, (Int.mul_ediv_cancel' (Int.gcd_dvd_right ..)).symm, Int.gcd_ediv_gcd_ediv_gcd hg, ?_, ?_, Int.natAbs_ediv_le_natAbs ..⟩
  · exact Int.ediv_pos_of_pos_of_dvd hb (by omega) (Int.gcd_dvd_right ..)
  · exact Int.ediv_le_self _ (by omega)
/-! things that can be shown -/
structure Okk (n L : Nat) (d : PyData) : Prop where
  sh : d.showable = true
  nd : d.hasDict = false
  dp : d.depth ≤ n
  ln : d.shown.length ≤ L
  ok : PyData.strOk d.shown = true
  ly : d.canLay0 = true
theorem Okk.mono {n L m M : Nat} {d : PyData} (h : Okk n L d) (hn : n ≤ m) (hL : L ≤ M) : Okk m M d := ⟨h.sh, h.nd, Nat.le_trans h.dp hn, Nat.le_trans h.ln hL, h.ok, h.ly⟩
theorem Okk.repr {n L : Nat} {d : PyData} (h : Okk n L d) (hn : n ≤ 40) (hL : L ≤ 16777216) (S : Sto) : cRepr [.d d] S = some (.d (.str d.shown)) := by
  have : reprOk d = true := by
    unfold reprOk
    have h1 := h.dp
    have h2 := h.ln
    rw [h.sh, h.nd, decide_eq_true (by omega), decide_eq_true (by omega)]
    rfl
  show (if reprOk d = true then _ else none) = _
  rw [if_pos this]
theorem okk_int {i : Int} (h : i.natAbs < 2 ^ 1920) : Okk 0 1921 (.int i) := ⟨decide_eq_true (log2_of (by decide) h), rfl, Nat.le_refl _, shownInt_le (log2_of (by decide) h), ok_int i, rfl⟩
theorem okk_all {n L : Nat} : ∀ {xs : List PyData}, (∀ x ∈ xs, Okk n L x) → PyData.showableAll xs = true ∧ PyData.hasDictAll xs = false ∧ PyData.depthAll xs ≤ n ∧ ((PyData.shownAll xs).map (·.length)).sum ≤ L * xs.length ∧ (PyData.shownAll xs).length = xs.length ∧ (∀ t ∈ PyData.shownAll xs, PyData.strOk t = true) ∧ PyData.canLayAll0 xs = true
  | [], _ => ⟨rfl, rfl, Nat.zero_le _, Nat.zero_le _, rfl, (fun _ h => nomatch h), rfl⟩
  | x :: xs, h => by
    obtain ⟨a, b, c, d, e, f, gl⟩ := okk_all (xs := xs) fun y hy => h y (List.mem_cons_of_mem _ hy)
    have hx := h x (by simp)
    refine ⟨?_, ?_, ?_, ?_, ?_, ?_, ?_⟩
    · show (x.showable && PyData.showableAll xs) = true
      rw [hx.sh, a]; rfl
    · show (x.hasDict || PyData.hasDictAll xs) = false
      rw [hx.nd, b]; rfl
    · show max x.depth (PyData.depthAll xs) ≤ n
      have := hx.dp
      omega
    · show x.shown.length + ((PyData.shownAll xs).map (·.length)).sum ≤ L * (xs.length + 1)
      have := hx.ln
      rw [Nat.mul_succ]
      omega
    · show (PyData.shownAll xs).length + 1 = xs.length + 1
      rw [e]
    · intro t ht
      rcases List.mem_cons.mp ht with rfl | ht
      · exact hx.ok
      · exact f t ht
    · show (x.canLay0 && PyData.canLayAll0 xs) = true
      rw [hx.ly, gl]; rfl
theorem okk_tuple {n L : Nat} {xs : List PyData} (h : ∀ x ∈ xs, Okk n L x) : Okk (n + 1) (L * xs.length + 2 * xs.length + 3) (.tuple xs) := by
  obtain ⟨a, b, c, d, e, f, gl⟩ := okk_all h
  refine ⟨a, b, ?_, ?_, ok_tuple f, gl⟩
  · show PyData.depthAll xs + 1 ≤ n + 1
    omega
  · have := tupleText_len_le (PyData.shownAll xs)
    show (tupleText (PyData.shownAll xs)).length ≤ _
    omega
theorem okk_list {n L : Nat} {xs : List PyData} (h : ∀ x ∈ xs, Okk n L x) : Okk (n + 1) (L * xs.length + 2 * xs.length + 3) (.list xs) := by
  obtain ⟨a, b, c, d, e, f, gl⟩ := okk_all h
  refine ⟨a, b, ?_, ?_, ok_list f, gl⟩
  · show PyData.depthAll xs + 1 ≤ n + 1
    omega
  · have := listText_len_le (PyData.shownAll xs)
    show (listText (PyData.shownAll xs)).length ≤ _
    omega
theorem atI_mem {xs : List PyData} {r : Int} (h0 : 0 ≤ r) (h1 : r < xs.length) : ∃ d, d ∈ xs ∧ atI xs r = some d := by
  have hl : r.toNat < xs.length := by omega
  refine ⟨xs[r.toNat], List.getElem_mem hl, ?_⟩
  unfold atI ixN
  rw [if_pos h0, if_pos h1]
  show xs[r.toNat]? = _
  exact List.getElem?_eq_getElem hl
theorem lcGo_yes {n : Nat} {tgt : TgD} {te : M} {ρ ρ1 : RE} {x y : PyData} {xs : List PyData} {S S1 S2 : Sto} (h1 : tgt x ρ = some ρ1) (h2 : te ρ1 S = some (.d y, S1)) (h3 : pushAt n y S1 = some S2) : lcGo n tgt bYes te ρ (x :: xs) S = lcGo n tgt bYes te ρ xs S2 := by
  show (tgt x ρ).bind _ = _
  rw [h1]
  show (te ρ1 S).bind _ = _
  rw [h2]
  show (pushAt n y S1).bind _ = _
  rw [h3]
  rfl
theorem ok_bool (b : Bool) : PyData.strOk (PyData.shown (.bool b)) = true := by cases b <;> exact ok_str _
theorem okk_bool (b : Bool) : Okk 0 5 (.bool b) := by
  refine ⟨rfl, rfl, Nat.le_refl _, ?_, ok_bool b, rfl⟩
  cases b <;> decide
end DL

namespace DL
open PySem PySem.Spec PyProof.Rows L2 DK
variable [Nms] [Tabs]
abbrev gEnv (X : Cx) (scope : Scope) (cl : List (Str × Addr)) (C : Addr) (code : Value) : Env := genEnv scope cl C code builtinsNs X.env
/-- the context of a generator expression's frame -/
def gcx (X : Cx) (scope : Scope) (cl : List (Str × Addr)) (C : Addr) (code : Value) (A : Around) (s : Shared) (H : Hp) (ex : List Addr) (pn : List (Addr × Obj)) : Cx where
  prog := X.prog
  w := X.w
  K := X.K
  mg := X.mg
  base := X.base
  A := A.deeper (gEnv X scope cl C code)
  N := X.N
  s_0 := s
  H_0 := H
  env := gEnv X scope cl C code
  outer := X.stack
  stack := gEnv X scope cl C code :: X.stack
  ex := ex
  fn := fun x => scope.names.lookup x == some .cell
  calm := true
  pn := pn
  xe := fun _ _ => False
theorem over_gl {A : Around} {elt : Expr} {gs : List Comprehension} {sc : Scope} {pos : Pos} {it acc : Value} {env : Env} : A.over (.compLoop (.GeneratorExp elt gs sc pos) 0 it acc env) [] = A.deeper env := by
  first
    | rfl
    | (obtain ⟨hd, d, fr, gs, u⟩ := A; simp [Around.over, Around.deeper, marksOver, frameCount, unitsOf, envsOf, guardsOf, pushEnvs, pushGuards, Code.envs, Code.env?, Code.isFrame, Code.guards, Code.isGuard, Code.weight, Code.frames, Code.isCreation, Code.isCaller, Code.cUnits])
theorem over_gs {A : Around} {elt : Expr} {gs : List Comprehension} {sc : Scope} {pos : Pos} {it acc : Value} {env : Env} : A.over (.compStart (.GeneratorExp elt gs sc pos) 0 it acc env) [] = A.deeper env := by
  first
    | rfl
    | (obtain ⟨hd, d, fr, gs, u⟩ := A; simp [Around.over, Around.deeper, marksOver, frameCount, unitsOf, envsOf, guardsOf, pushEnvs, pushGuards, Code.envs, Code.env?, Code.isFrame, Code.guards, Code.isGuard, Code.weight, Code.frames, Code.isCreation, Code.isCaller, Code.cUnits])
/-- what is taken of it: the values, whether it came to its end, the store; stop tells behind which value no more is asked -/
def gxGo (stop : PyData → Option Bool) (tgt : TgD) (tt : MB) (te : M) (ρ : RE) : List PyData → Sto → Option (List PyData × Bool × Sto)
  | [], S => some ([], true, S)
  | x :: xs, S => (tgt x ρ).bind fun ρ1 => (tt ρ1 S).bind fun b => if b.1 = true then (te ρ1 b.2).bind fun v => match v.1 with
      | .d y => (stop y).bind fun st => if st = true then some ([y], false, v.2) else (gxGo stop tgt tt te ρ xs v.2).bind fun r => some (y :: r.1, r.2)
      | .c _ => none
    else gxGo stop tgt tt te ρ xs b.2

theorem wipeR_len (ρ : RE) : ∀ vs : List Nat, (wipeR ρ vs).length = ρ.length
  | [] => rfl
  | v :: vs => by
    show ((wipeR ρ vs).set v none).length = _
    rw [List.length_set, wipeR_len ρ vs]
theorem wipeR_in {ρ : RE} {i : Nat} : ∀ {vs : List Nat}, i ∈ vs → i < ρ.length → (wipeR ρ vs)[i]? = some none
  | [], h, _ => by cases h
  | v :: vs, h, hl => by
    show ((wipeR ρ vs).set v none)[i]? = _
    by_cases hv : v = i
    · subst hv
      rw [List.getElem?_set_self (by rw [wipeR_len]; exact hl)]
    · rw [List.getElem?_set_ne hv]
      rcases List.mem_cons.mp h with z | z
      · exact absurd z.symm hv
      · exact wipeR_in z hl
theorem ER.agr {K : Fg} {as : List Addr} {H : Hp} {σ σ' : L2.St} {ρ : RE} {vs is : List Nat} (E : ER K as H σ (wipeR ρ vs)) (a : Agr is σ σ') (h : ∀ i ∈ is, i ∈ vs) : ER K as H σ' (wipeR ρ vs) := by
  refine ⟨by rw [a.1]; exact E.len, fun i p e => ?_, E.tab⟩
  have hi : i ∉ is := fun z => by
    have hl : i < ρ.length := by
      have q := (List.getElem?_eq_some_iff.mp e).1
      rw [wipeR_len] at q
      exact q
    rw [wipeR_in (h i z) hl] at e
    cases e
  rw [a.2 i hi]
  exact E.at_ i p e
section
variable {X : Cx} {scope : Scope} {cl : List (Str × Addr)} {C : Addr} {code : Value} {A : Around} {sb : Shared} {Hb : Hp} {fp : List Addr} {pn : List (Addr × Obj)} {tn : Nat → Heap → Prop} {bs : List Addr}
/-- at rest, behind i items; Sx: the consumer's own objects -/
def GRest (G : Cx) (fp Sx : List Addr) (tn : Nat → Heap → Prop) (bs : List Addr) (Hb : Hp) (ρ : RE) (Cn : Hp → Heap → Prop) (i : Nat) (S : Sto) (H : Hp) (s : Shared) : Prop :=
  Cn H s.heap ∧ ∃ σ, Inv G (pinsAt Sx s.heap) σ H s ∧ (∀ b ∈ Sx, H b = none ∧ ∃ o, s.heap.get? b = some o ∧ ∀ v, o.data ≠ .cell v) ∧ tn i s.heap ∧ (∀ b ∈ fp, H b = none) ∧ Ext bs Hb bs H ∧ Rel G.K bs S H ∧ ER G.K bs H σ ρ
/-- while it sleeps its consumer may change what is its own -/
structure Slp (Sx : List Addr) (s s' : Shared) : Prop where
  os : s'.os = s.os
  bare : AllBare s'.gens
  keep : ∀ b o, b ∉ Sx → s.heap.get? b = some o → s'.heap.get? b = some o
  own : ∀ b ∈ Sx, ∃ o, s'.heap.get? b = some o ∧ ∀ v, o.data ≠ .cell v
def GFinP (G : Cx) (Sx bs : List Addr) (Hb : Hp) (Cn : Nat → Hp → Heap → Prop) (N : Nat) (e : Bool) (Sf : Sto) (n : Nat) (s₀ s : Shared) : Prop :=
  n = 0 ∧ e = true ∧ ∃ (σ : L2.St) (H : Hp) (P : List (Addr × Obj)), Cn N H s.heap ∧ (∀ b ∈ Sx, H b = none ∧ ∃ o, (b, o) ∈ P) ∧ Inv G P σ H s ∧ (∀ b ∈ Sx, s.heap.get? b = s₀.heap.get? b) ∧ Ext bs Hb bs H ∧ Rel G.K bs Sf H
abbrev GFin (G : Cx) (Sx bs : List Addr) (Hb : Hp) (Cn : Nat → Hp → Heap → Prop) (N : Nat) (e : Bool) (Sf : Sto) : GenEnd := fun n s₀ r s => r = .ok .next ∧ GFinP G Sx bs Hb Cn N e Sf n s₀ s
/-- what a consumer knows of its own objects lasts -/
def CnOk (Sx bs : List Addr) (Cn : Nat → Hp → Heap → Prop) : Prop := ∀ j H H' h h', Cn j H h → Ext bs H bs H' → (∀ b ∈ Sx, h'.get? b = h.get? b) → Cn j H' h'
def GOut (G : Cx) (fp Sx : List Addr) (tn : Nat → Heap → Prop) (bs : List Addr) (Hb : Hp) (ρ : RE) (Cn : Nat → Hp → Heap → Prop) (stop : PyData → Option Bool) (all : List PyData) (e : Bool) (Sf : Sto) : Protocol := fun m s₀ v s kap =>
  ∃ y x H S i, m < all.length ∧ all[all.length - 1 - m]? = some y ∧ RelV x v ∧ Dp G.K (hide bs H) x y ∧ GRest G fp Sx tn bs Hb ρ (Cn (all.length - 1 - m)) i S H s ∧ (∀ b ∈ Sx, s.heap.get? b = s₀.heap.get? b) ∧
    ((stop y = some true ∧ m = 0 ∧ e = false ∧ S = Sf) ∨ (stop y = some false ∧ ∀ s'' : Shared, Slp Sx s s'' → Cn (all.length - m) H s''.heap → kap (.send .none) s''))
/-- the consumer's objects: none of the frame's, not pinned, younger -/
def SxOk (G : Cx) (Sx : List Addr) : Prop := ∀ b ∈ Sx, (b ∈ G.ex ∨ G.s_0.heap.objs.size ≤ b) ∧ b ≠ G.env.locals ∧ b ∉ G.fs ∧ (∀ x c, G.env.cells.lookup x = some c → c ≠ b) ∧ ∀ p ∈ G.pn, p.1 ≠ b
theorem GRest.wake {G : Cx} {Sx : List Addr} {ρ : RE} {Cn Cn' : Hp → Heap → Prop} {i : Nat} {S : Sto} {H : Hp} {s s' : Shared} (hS : SxOk G Sx) (hfp : ∀ b ∈ fp, b ∉ Sx) (tk : ∀ i h h', tn i h → (∀ b ∈ fp, ∀ o, h.get? b = some o → h'.get? b = some o) → tn i h')
    (R : GRest G fp Sx tn bs Hb ρ Cn i S H s) (z : Slp Sx s s') (hc : Cn' H s'.heap) : GRest G fp Sx tn bs Hb ρ Cn' i S H s' := by
  obtain ⟨_, σ, I, hs, t, c⟩ := R
  obtain ⟨z1, z2, z3, z4⟩ := z
  have I0 : Inv G [] σ H s := I.pins_of fun p hp => absurd hp (by simp)
  have nt : ∀ b u, H b = some u → b ∉ Sx := fun b u q hb => by rw [(hs b hb).1] at q; cases q
  have J : Inv G [] σ H s' := by
    refine I0.call' (ch := Sx) z1 ⟨fun b o q _ _ hc => z3 b o hc q, fun b o q _ _ hc => ⟨o.slots, z3 b o hc q⟩, fun _ _ _ n _ => n, fun b o q hc => ⟨o, z3 b o hc q⟩, fun _ _ q => q, fun _ _ _ q => q, fun b ps q => ⟨#[], by rw [q]; simp⟩⟩ (fun b u q => ?_) z2 fun b hb => ?_
    · refine (I0.hok b u q).stay (fun c v hc y => z3 c v ?_ y) (fun _ y => y) fun _ _ y => y
      rcases hc with y | y
      · rw [y]; exact nt b u q
      · exact nt c _ y
    · obtain ⟨a1, a2, _, a4, a5⟩ := hS b hb
      exact ⟨a1, a2, a4, fun p hp => a5 p (by simpa using hp)⟩
  refine ⟨hc, σ, J.pins_of fun p hp => ?_, fun b hb => ⟨(hs b hb).1, z4 b hb⟩, tk _ _ _ t fun b hb o q => z3 b o (hfp b hb) q, c⟩
  obtain ⟨hb, e⟩ := of_pinsAt hp
  obtain ⟨_, a2, a3, _⟩ := hS p.1 hb
  obtain ⟨o, e', d⟩ := z4 p.1 hb
  rw [e] at e'
  cases e'
  exact ⟨e, (hs p.1 hb).1, a2, a3, d⟩
theorem gx_loop {elt iter tg : Expr} {ifs : List Expr} {pos : Pos} {it : Addr} {J : It} {xs : List PyData} {tgt : TgD} {tt : MB} {te : M} {is vs : List Nat} {ρ0 : RE} {stop : PyData → Option Bool} {all : List PyData} {e : Bool} {Sf : Sto} {Sx : List Addr} {Cn : Nat → Hp → Heap → Prop}
    (hCn : CnOk Sx bs Cn) (T : Turn X.prog X.w X.K tg J fp it tn) (hit : Iters X.K bs Hb J xs) (hg : DG (gcx X scope cl C code A sb Hb fp pn) tg is tgt) (ht : DTs (gcx X scope cl C code A sb Hb fp pn) ifs tt) (he : DE (gcx X scope cl C code A sb Hb fp pn) elt te) (hv : ∀ i ∈ is, i ∈ vs)
    (hS : SxOk (gcx X scope cl C code A sb Hb fp pn) Sx) (hfs : ∀ b ∈ fp, b ∉ Sx)
    (stat : ∀ {H' : Hp} {P : List (Addr × Obj)}, (∀ p ∈ P, p.1 ∈ Sx) → (∀ b ∈ fp, H' b = none) → ∀ b ∈ fp, FpOk (gcx X scope cl C code A sb Hb fp pn) P H' b) (hco : scope.isCoroutine = false) :
    ∀ (k i j : Nat) (S : Sto) (H : Hp) (s₀ s : Shared), xs.length - i = k → i ≤ xs.length → GRest (gcx X scope cl C code A sb Hb fp pn) fp Sx tn bs Hb (wipeR ρ0 vs) (Cn j) i S H s → gxGo stop tgt tt te (wipeR ρ0 vs) (xs.drop i) S = some (all.drop j, e, Sf) → j ≤ all.length → (∀ b ∈ Sx, s.heap.get? b = s₀.heap.get? b) →
      Seg (model X.prog X.w) A (GFin (gcx X scope cl C code A sb Hb fp pn) Sx bs Hb Cn all.length e Sf) (GOut (gcx X scope cl C code A sb Hb fp pn) fp Sx tn bs Hb (wipeR ρ0 vs) Cn stop all e Sf) (all.length - j) s₀
        (.compLoop (.GeneratorExp elt [⟨tg, iter, ifs, 0⟩] scope pos) 0 (.ref it) .none (gEnv X scope cl C code)) ((model X.prog X.w).den (.compLoop (.GeneratorExp elt [⟨tg, iter, ifs, 0⟩] scope pos) 0 (.ref it) .none (gEnv X scope cl C code))) [] s := by
  intro k
  induction k with
  | zero =>
    intro i j S H s₀ s hk hi hR hgo hj h0
    have hin : i = xs.length := by omega
    subst hin
    obtain ⟨hC, σ, I, hs, st, fr, E1, R1, E2⟩ := hR
    have hP0 : ∀ p ∈ pinsAt Sx s.heap, p.1 ∈ Sx := fun p hp => (of_pinsAt hp).1
    rw [List.drop_length] at hgo
    unfold gxGo at hgo
    injection hgo with hgo
    injection hgo with h1 h2
    injection h2 with h2 h3
    have hjl : all.length - j = 0 := by
      have := congrArg List.length h1
      rw [List.length_drop] at this
      exact this.symm
    show Seg _ A _ _ _ s₀ _ ((compTurn (.GeneratorExp elt [⟨tg, iter, ifs, 0⟩] scope pos) 0 (.ref it) .none (gEnv X scope cl C code)).onRaise (leaving (gEnv X scope cl C code))) [] s
    rw [compTurn_gen, Sem.onRaise_eq_wrap]
    refine seg_bind_wrap (wpAny_standAt ?_)
    refine seg_bind_wrap ?_
    rw [over_gl]
    refine wpAny_mono (T.done (gcx X scope cl C code A sb Hb fp pn) rfl rfl rfl rfl _ (pinsAt Sx s.heap) s σ H (fun _ _ => False) I (stat hP0 fr) st (hit.stop bs H E1)) (fun r s1 ⟨hr, I1⟩ => ?_) fun _ _ z => z.elim
    subst hr
    have hjn : j = all.length := by omega
    refine seg_end (.ok .next) ⟨rfl, hjl, h2.symm, σ, H, pinsAt Sx s.heap, by
      rw [← hjn]
      refine hCn _ _ _ _ _ hC .refl fun b hb => ?_
      obtain ⟨o, eo, _⟩ := (hs b hb).2
      rw [eo]
      exact (I1.pin (b, o) (List.mem_append_right _ (mem_pinsAt hb eo))).1, fun b hb => ⟨(hs b hb).1, let ⟨o, eo, _⟩ := (hs b hb).2; ⟨o, mem_pinsAt hb eo⟩⟩, I1, fun b hb => ?_, E1, by rw [← h3]; exact R1⟩
    obtain ⟨o, eo, _⟩ := (hs b hb).2
    rw [← h0 b hb, eo]
    exact (I1.pin (b, o) (List.mem_append_right _ (mem_pinsAt hb eo))).1
  | succ k ih =>
    intro i j S H s₀ s hk hi hR hgo hj h0
    have hlt : i < xs.length := by omega
    obtain ⟨hC, σ, I, hs, st, fr, E1, R1, E2⟩ := hR
    have hP0 : ∀ p ∈ pinsAt Sx s.heap, p.1 ∈ Sx := fun p hp => (of_pinsAt hp).1
    rw [drop_cons hlt] at hgo
    unfold gxGo at hgo
    obtain ⟨ρ3, e3, hgo⟩ := Option.bind_eq_some_iff.mp hgo
    obtain ⟨⟨b, S5⟩, e5, hgo⟩ := Option.bind_eq_some_iff.mp hgo
    show Seg _ A _ _ _ s₀ _ ((compTurn (.GeneratorExp elt [⟨tg, iter, ifs, 0⟩] scope pos) 0 (.ref it) .none (gEnv X scope cl C code)).onRaise (leaving (gEnv X scope cl C code))) [] s
    rw [compTurn_gen, Sem.onRaise_eq_wrap]
    refine seg_bind_wrap (wpAny_standAt ?_)
    refine seg_bind_wrap ?_
    rw [over_gl]
    refine wpAny_mono (T.item (gcx X scope cl C code A sb Hb fp pn) rfl rfl rfl rfl i (pinsAt Sx s.heap) s σ H (fun _ _ => False) I (stat hP0 fr) st (hit.go bs H E1 i xs[i] (List.getElem?_eq_getElem hlt))) (fun r s1 ⟨u, hr, h1⟩ => ?_) fun _ _ z => z.elim
    subst hr
    refine seg_bind_wrap ?_
    rw [over_gl]
    refine wpAny_mono h1 (fun _ s2 ⟨x, H2, I2, rx, y2, st2, fr2⟩ => ?_) fun _ _ z => z.elim
    obtain ⟨gr, hx⟩ := hit.yld bs S H E1 R1 i xs[i] (List.getElem?_eq_getElem hlt) x H2 y2
    obtain ⟨R2, X2⟩ := Rel.grw R1 gr
    have I2' := I2.pinned (stat hP0 fr2) (T.obj _ _ st2)
    refine seg_bind_wrap ?_
    rw [over_gl]
    refine wpAny_mono (hg.run _ s2 σ H2 x u (fun σ3 H3 => H3 = H2 ∧ ER X.K bs H2 σ3 ρ3 ∧ Agr is σ σ3) I2' rx ⟨bs, wipeR ρ0 vs, xs[i], ρ3, E2.ext X2, hx, e3, fun σ3 E3 A3 => ⟨rfl, E3, A3⟩⟩) (fun _ s3 ⟨σ3, H3, I3, q3, E3, A3⟩ => ?_) fun _ _ z => z.elim
    subst q3
    refine seg_bind_wrap ?_
    rw [over_gl]
    refine wpAny_mono (ht.run _ s3 σ3 H3 (fun b' H4 => b' = b ∧ Rel X.K bs S5 H4 ∧ Ext bs H3 bs H4) I3 ⟨bs, ρ3, S, b, S5, R2, E3, e5, fun H4 R4 X4 => ⟨rfl, R4, X4⟩⟩) (fun b' s4 ⟨H4, I4, q4, R4, X4⟩ => ?_) fun _ _ z => z.elim
    subst q4
    have sx : ∀ {s7 : Shared} {H7 : Hp}, Inv (gcx X scope cl C code A sb Hb fp pn) (pinsAt Sx s.heap ++ pinsAt fp s2.heap) σ3 H7 s7 → ∀ b ∈ Sx, H7 b = none ∧ s7.heap.get? b = s.heap.get? b ∧ ∃ o, s7.heap.get? b = some o ∧ ∀ v, o.data ≠ .cell v := fun {s7 H7} I7 b hb => by
      obtain ⟨o, eo, d⟩ := (hs b hb).2
      obtain ⟨p1, p2, _⟩ := I7.pin (b, o) (List.mem_append_right _ (List.mem_append_left _ (mem_pinsAt hb eo)))
      exact ⟨p2, p1.trans eo.symm, o, p1, d⟩
    have back : ∀ {s7 : Shared} {H7 : Hp} {S7 : Sto}, Inv (gcx X scope cl C code A sb Hb fp pn) (pinsAt Sx s.heap ++ pinsAt fp s2.heap) σ3 H7 s7 → Rel X.K bs S7 H7 → Ext bs H3 bs H7 → GRest (gcx X scope cl C code A sb Hb fp pn) fp Sx tn bs Hb (wipeR ρ0 vs) (Cn j) (i + 1) S7 H7 s7 := fun {s7 H7 S7} I7 R7 X7 => by
      refine ⟨hCn _ _ _ _ _ hC (X2.trans X7) fun b hb => (sx I7 b hb).2.1, σ3, I7.pins_of fun p hp => ?_, fun b hb => ⟨(sx I7 b hb).1, (sx I7 b hb).2.2⟩, T.keep _ _ _ st2 fun b hb o e => (I7.pin (b, o) (List.mem_append_right _ (List.mem_append_right _ (mem_pinsAt hb e)))).1, fun b hb => ?_, (E1.trans X2).trans X7, R7, ?_⟩
      · obtain ⟨hb, e⟩ := of_pinsAt hp
        obtain ⟨q1, q2, o, q3, q4⟩ := sx I7 p.1 hb
        obtain ⟨_, a2, a3, _⟩ := hS p.1 hb
        rw [e] at q3
        cases q3
        exact ⟨e, q1, a2, a3, q4⟩
      · obtain ⟨o, e, d⟩ := T.obj _ _ st2 b hb
        exact (I7.pin (b, o) (List.mem_append_right _ (List.mem_append_right _ (mem_pinsAt hb e)))).2.1
      · exact ER.agr (E2.ext (X2.trans X7)) A3 hv
    cases b' with
    | false =>
      simp only [Bool.false_eq_true, if_false] at hgo ⊢
      exact seg_again rfl (ih (i + 1) j S5 H4 s₀ s4 (by omega) hlt (back I4 R4 X4) hgo hj fun b hb => (sx I4 b hb).2.1.trans (h0 b hb))
    | true =>
      simp only [if_true] at hgo ⊢
      obtain ⟨⟨v, S6⟩, e6, hgo⟩ := Option.bind_eq_some_iff.mp hgo
      cases v with
      | c n => cases hgo
      | d y =>
        obtain ⟨t, et, hgo⟩ := Option.bind_eq_some_iff.mp hgo
        have hy : ∀ v, yieldOut (gEnv X scope cl C code) v = yieldValue v := fun v => by
          have hco' : (gEnv X scope cl C code).scope.isCoroutine = false := hco
          simp only [yieldOut, hco', Bool.false_eq_true, if_false]
        simp only [hy]
        rw [Sem.bind_eq_wrap', Sem.bind_eq_wrap', Sem.wrap_wrap, Sem.wrap_wrap]
        -- one is handed out
        have hlen : ∃ j', all[j]? = some y ∧ j < all.length ∧ j' = j + 1 := by
          have : ∃ r, all.drop j = y :: r := by
            cases t with
            | true =>
              simp only [if_true] at hgo
              injection hgo with hgo
              injection hgo with h1 h2
              exact ⟨[], h1.symm⟩
            | false =>
              simp only [Bool.false_eq_true, if_false] at hgo
              obtain ⟨r, er, hgo⟩ := Option.bind_eq_some_iff.mp hgo
              injection hgo with hgo
              injection hgo with h1 h2
              exact ⟨r.1, h1.symm⟩
          obtain ⟨r, hr⟩ := this
          have hjl : j < all.length := by
            have := congrArg List.length hr
            rw [List.length_drop, List.length_cons] at this
            omega
          refine ⟨j + 1, ?_, hjl, rfl⟩
          have := congrArg (·[0]?) hr
          simpa using this
        obtain ⟨_, hay, hjl, _⟩ := hlen
        obtain ⟨n', hn'⟩ : ∃ n', all.length - j = n' + 1 := ⟨all.length - j - 1, by omega⟩
        rw [hn']
        refine seg_wrap ?_
        rw [over_gl]
        refine wpAny_mono (he.run _ s4 σ3 H4 (fun u' H6 => Rel X.K bs S6 H6 ∧ Ext bs H4 bs H6 ∧ VR X.K bs H6 u' (.d y)) I4 ⟨bs, ρ3, S5, .d y, S6, R4, E3.ext X4, e6, fun u' H6 R6 X6 V6 => ⟨R6, X6, V6⟩⟩) (fun w5 s5 ⟨u5, H6, I6, r6, R6, X6, V6⟩ => ?_) fun _ _ z => z.elim
        have rest := back I6 R6 (X4.trans X6)
        have hidx : all.length - 1 - n' = j := by omega
        refine seg_at (seg_yield rfl rfl rfl ⟨y, u5, H6, S6, i + 1, by omega, by rw [hidx]; exact hay, r6, V6, by rw [hidx]; exact rest, fun b hb => (sx I6 b hb).2.1.trans (h0 b hb), ?_⟩)
        cases t with
        | true =>
          simp only [if_true] at hgo
          injection hgo with hgo
          injection hgo with h1 h2
          injection h2 with h2 h3
          refine .inl ⟨et, ?_, h2.symm, h3⟩
          have := congrArg List.length h1
          rw [List.length_drop, List.length_singleton] at this
          omega
        | false =>
          simp only [Bool.false_eq_true, if_false] at hgo
          obtain ⟨⟨r1, r2, r3⟩, er, hgo⟩ := Option.bind_eq_some_iff.mp hgo
          injection hgo with hgo
          injection hgo with h1 h2
          injection h2 with h2 h3
          refine .inr ⟨et, fun s'' hz hC2 => ?_⟩
          rw [show all.length - n' = j + 1 by omega] at hC2
          have hd : all.drop (j + 1) = r1 := by
            have z := congrArg List.tail h1
            rw [List.tail_drop] at z
            exact z.symm
          subst h2 h3
          rw [← hd] at er
          have q := ih (i + 1) (j + 1) S6 H6 s'' s'' (by omega) hlt (rest.wake hS hfs T.keep hz hC2) er (by omega) fun _ _ => rfl
          have hn2 : all.length - (j + 1) = n' := by omega
          rw [hn2] at q
          exact seg_again rfl q
end
end DL

namespace DL
open PySem PySem.Spec PyProof.Rows L2 DK
variable [Nms] [Tabs]
section
variable {X : Cx} {scope : Scope} {cl : List (Str × Addr)} {C : Addr} {code : Value} {A : Around} {sb : Shared} {Hb : Hp} {fp : List Addr} {pn : List (Addr × Obj)} {tn : Nat → Heap → Prop} {bs : List Addr}
theorem gx_start {elt iter tg : Expr} {ifs : List Expr} {pos : Pos} {it : Addr} {J : It} {xs : List PyData} {tgt : TgD} {tt : MB} {te : M} {is vs : List Nat} {ρ0 : RE} {stop : PyData → Option Bool} {all : List PyData} {e : Bool} {Sf : Sto} {Sx : List Addr} {Cn : Nat → Hp → Heap → Prop}
    (hCn : CnOk Sx bs Cn) (T : Turn X.prog X.w X.K tg J fp it tn) (hit : Iters X.K bs Hb J xs) (hg : DG (gcx X scope cl C code A sb Hb fp pn) tg is tgt) (ht : DTs (gcx X scope cl C code A sb Hb fp pn) ifs tt) (he : DE (gcx X scope cl C code A sb Hb fp pn) elt te) (hv : ∀ i ∈ is, i ∈ vs)
    (hS : SxOk (gcx X scope cl C code A sb Hb fp pn) Sx) (hfs : ∀ b ∈ fp, b ∉ Sx)
    (stat : ∀ {H' : Hp} {P : List (Addr × Obj)}, (∀ p ∈ P, p.1 ∈ Sx) → (∀ b ∈ fp, H' b = none) → ∀ b ∈ fp, FpOk (gcx X scope cl C code A sb Hb fp pn) P H' b) (hco : scope.isCoroutine = false)
    {S : Sto} {H : Hp} {s₀ s : Shared} (hR : GRest (gcx X scope cl C code A sb Hb fp pn) fp Sx tn bs Hb (wipeR ρ0 vs) (Cn 0) 0 S H s) (hgo : gxGo stop tgt tt te (wipeR ρ0 vs) xs S = some (all, e, Sf)) (h0 : ∀ b ∈ Sx, s.heap.get? b = s₀.heap.get? b) :
    Seg (model X.prog X.w) A (GFin (gcx X scope cl C code A sb Hb fp pn) Sx bs Hb Cn all.length e Sf) (GOut (gcx X scope cl C code A sb Hb fp pn) fp Sx tn bs Hb (wipeR ρ0 vs) Cn stop all e Sf) all.length s₀
      (.compStart (.GeneratorExp elt [⟨tg, iter, ifs, 0⟩] scope pos) 0 (.ref it) .none (gEnv X scope cl C code)) ((model X.prog X.w).den (.compStart (.GeneratorExp elt [⟨tg, iter, ifs, 0⟩] scope pos) 0 (.ref it) .none (gEnv X scope cl C code))) [] s := by
  have loop := gx_loop (iter := iter) (pos := pos) (stop := stop) (all := all) (e := e) (Sf := Sf) hCn T hit hg ht he hv hS hfs stat hco xs.length 0 0 S H s₀ s (Nat.sub_zero _) (Nat.zero_le _) hR (by rw [List.drop_zero, List.drop_zero]; exact hgo) (Nat.zero_le _) h0
  rw [Nat.sub_zero] at loop
  obtain ⟨_, σ, I, hs, st, _⟩ := hR
  show Seg _ A _ _ _ s₀ _ ((compStart (.GeneratorExp elt [⟨tg, iter, ifs, 0⟩] scope pos) 0 (.ref it) .none (gEnv X scope cl C code)).onRaise (leaving (gEnv X scope cl C code))) [] s
  unfold compStart
  rw [Sem.onRaise_eq_wrap]
  show Seg _ A _ _ _ s₀ _ ((ask >>= _).wrap _ _ _ _) [] s
  refine seg_bind_wrap (wpAny_askSetting ?_)
  split
  · exact seg_again rfl loop
  · first
      | exact seg_bind_wrap (wpAny_rule (seg_bind_wrap (wpAny_standAt (seg_bind_wrap (T.self _ 0 s _ _ st (seg_again rfl loop))))))
      | (refine seg_bind_wrap (wpAny_rule ?_); show Seg _ A _ _ _ s₀ _ ((standAt iter.pos >>= _).wrap _ _ _ _) [] s; exact seg_bind_wrap (wpAny_standAt (seg_bind_wrap (T.self _ 0 s _ _ st (seg_again rfl loop)))))
/-- what is left behind it in the maker's frame -/
def GBack (X : Cx) (fp bs : List Addr) (sb : Shared) (Hb : Hp) (Sf : Sto) (s' : Shared) : Prop :=
  ∃ H, s'.os = sb.os ∧ AllBare s'.gens ∧ Un (frs X.stack) fp Hb H sb.heap s'.heap ∧ HOk X.prog X.w H s'.heap ∧ Ext bs Hb bs H ∧ Rel X.K bs Sf H
theorem GBack.of {P : List (Addr × Obj)} {σ : L2.St} {H : Hp} {Sf : Sto} {s s' : Shared} (I : Inv (gcx X scope cl C code A sb Hb fp pn) P σ H s) (E1 : Ext bs Hb bs H) (R1 : Rel X.K bs Sf H) (ho : s'.os = s.os) (hb : AllBare s'.gens) (hk : ∀ b o, s.heap.get? b = some o → s'.heap.get? b = some o) : GBack X fp bs sb Hb Sf s' :=
  ⟨H, ho.trans I.os, hb, I.base.trans (Un.kept hk), I.hok.kept hk, E1, R1⟩
def stopAll : PyData → Option Bool
  | .bool b => some (!b)
  | _ => none
def stopAny : PyData → Option Bool
  | .bool b => some b
  | _ => none
theorem setGen_bare {s : Shared} {g : Nat} {x : GenState} (h : AllBare s.gens) (hx : x.bare = true) : AllBare (s.setGen g x).gens := allBare_setGen h hx
theorem dp_bool {K : Fg} {H : Hp} {x : V} {b : Bool} (h : Dp K H x (.bool b)) : x = .bl b := by
  cases h
  rfl
/-- all(…): its loop -/
theorem all_loop {ρ : RE} {Cn : Nat → Hp → Heap → Prop} (hCn : ∀ j H h, Cn j H h) {all : List PyData} {e : Bool} {Sf : Sto} {Ab : Around} {R : Result → Shared → Prop} {a : Addr} {go : Obj} {g : Nat} (hA : A = Ab.in1.in1) (hh : Ab.handled = none) (hd : Ab.depth < recursionLimit) (hpn : pn = [(a, go)]) (hgo : ∀ h : Heap, h.get? a = some go → h.IsGen a g)
    (hend : ∀ s', GBack X fp bs sb Hb Sf s' → R (.ok (.ret (.bool e))) s') :
    ∀ (n : Nat) (s : Shared) (gs : GenState), s.heap.NoLimit → s.heap.IsGen a g → AllBare s.gens → s.gens[g]? = some gs →
      gs.Goes (model X.prog X.w) A (GFin (gcx X scope cl C code A sb Hb fp pn) [] bs Hb Cn all.length e Sf) (GOut (gcx X scope cl C code A sb Hb fp pn) fp [] tn bs Hb ρ Cn stopAll all e Sf) n (.send .none) (s.setGen g .running) →
      codeAny (model X.prog X.w) Ab (.builtin "all.loop" ⟨[.ref a], []⟩) R s := by
  subst hA
  intro n
  induction n with
  | zero =>
    intro s gs hl hg hb hgs hgoes
    refine codeAny_builtin F.entry_all_loop ?_
    rw [Around.under_plainId F.plain_all_loop _]
    show wpAny _ Ab.in1 (pyNext (.ref a) >>= _) _ _ s
    refine wpAny_bind (wpAny_pyNext_genexpQ (A := Ab.in1) (P := GFinP (gcx X scope cl C code Ab.in1.in1 sb Hb fp pn) [] bs Hb Cn all.length e Sf) hh hl hd hg hgs hgoes (fun v s₁ gs' hbare hv => ?_) (fun s₁ hp h' hk => ?_))
    · obtain ⟨y, x, H, S, i, hm, hy, rv, dv, hR, hsx, hc⟩ := hv
      rcases hc with ⟨c1, c2, c3, c4⟩ | ⟨c1, c2⟩
      · subst c3 c4
        obtain ⟨_, σ, I, _, _, _, E1, R1, _⟩ := hR
        have hyb : y = .bool false := by
          cases y with
          | bool b => cases b with
            | false => rfl
            | true => cases c1
          | _ => cases c1
        subst hyb
        have hx := dp_bool dv
        subst hx
        have ev : v = Value.bool false := rv
        subst ev
        refine wpAny_bind (wpAny_holding (wpAny_truthy_bool ?_))
        refine wpAny_bind (wpAny_letGo ?_)
        simp only [Bool.false_eq_true, if_false]
        exact wpAny_bind (wpAny_rule (wpAny_pure (hend _ (GBack.of I E1 R1 rfl (setGen_bare I.bare hbare) fun _ _ q => q))))
      · obtain ⟨_, σ, I, _⟩ := hR
        exact False.elim (c2 s₁ ⟨rfl, I.bare, fun _ _ _ q => q, fun b hb => by cases hb⟩ (hCn _ _ _))
    · obtain ⟨_, he, σ, H, P, _, _, I, _, E1, R1⟩ := hp
      subst he
      refine wpAny_bind (wpAny_rule (wpAny_pure ?_))
      exact hend _ (GBack.of I E1 R1 rfl (setGen_bare I.bare rfl) hk)
  | succ n ih =>
    intro s gs hl hg hb hgs hgoes
    have hgl : g < s.gens.size := (Array.getElem?_eq_some_iff.mp hgs).1
    refine codeAny_builtin F.entry_all_loop ?_
    rw [Around.under_plainId F.plain_all_loop _]
    show wpAny _ Ab.in1 (pyNext (.ref a) >>= _) _ _ s
    refine wpAny_bind (GenW.wpAny_gsz (n := g + 1) hgl (wpAny_pyNext_genexpQ (A := Ab.in1) (P := GFinP (gcx X scope cl C code Ab.in1.in1 sb Hb fp pn) [] bs Hb Cn all.length e Sf) hh hl hd hg hgs hgoes (fun v s₁ gs' hbare hv => ?_) (fun s₁ hp h' hk => ?_)))
    · intro hsz
      obtain ⟨y, x, H, S, i, hm, hy, rv, dv, hR, hsx, hc⟩ := hv
      rcases hc with ⟨c1, c2, c3, c4⟩ | ⟨c1, c2⟩
      · subst c3 c4
        obtain ⟨_, σ, I, _, _, _, E1, R1, _⟩ := hR
        have hyb : y = .bool false := by
          cases y with
          | bool b => cases b with
            | false => rfl
            | true => cases c1
          | _ => cases c1
        subst hyb
        have hx := dp_bool dv
        subst hx
        have ev : v = Value.bool false := rv
        subst ev
        refine wpAny_bind (wpAny_holding (wpAny_truthy_bool ?_))
        refine wpAny_bind (wpAny_letGo ?_)
        simp only [Bool.false_eq_true, if_false]
        exact wpAny_bind (wpAny_rule (wpAny_pure (hend _ (GBack.of I E1 R1 rfl (setGen_bare I.bare hbare) fun _ _ q => q))))
      · have hyb : y = .bool true := by
          cases y with
          | bool b => cases b with
            | false => cases c1
            | true => rfl
          | _ => cases c1
        subst hyb
        have hx := dp_bool dv
        subst hx
        have ev : v = Value.bool true := rv
        subst ev
        obtain ⟨_, σ, I, _⟩ := hR
        refine wpAny_bind (wpAny_holding (wpAny_truthy_bool ?_))
        refine wpAny_bind (wpAny_letGo ?_)
        simp only [if_true]
        have hsz1 : g < s₁.gens.size := by
          have q : (s₁.setGen g gs').gens.size = s₁.gens.size := GenW.setGen_size _ _ _
          have hsz' : g + 1 ≤ (s₁.setGen g gs').gens.size := hsz
          omega
        have hga : s₁.heap.get? a = some go := (I.pin (a, go) (List.mem_append_left _ (by show (a, go) ∈ pn; rw [hpn]; exact List.mem_singleton.mpr rfl))).1
        refine wpAny_pure ⟨plainId_quiet F.plain_all_loop _, ih (s₁.setGen g gs') gs' I.nolimit (hgo _ hga) (setGen_bare I.bare hbare) (setGen_at hsz1) ?_⟩
        exact c2 _ ⟨rfl, setGen_bare (setGen_bare I.bare hbare) rfl, fun _ _ _ q => q, fun b hb => by cases hb⟩ (hCn _ _ _)
    · intro _
      obtain ⟨_, he, σ, H, P, _, _, I, _, E1, R1⟩ := hp
      subst he
      refine wpAny_bind (wpAny_rule (wpAny_pure ?_))
      exact hend _ (GBack.of I E1 R1 rfl (setGen_bare I.bare rfl) hk)
/-- any(…): its loop -/
theorem any_loop {ρ : RE} {Cn : Nat → Hp → Heap → Prop} (hCn : ∀ j H h, Cn j H h) {all : List PyData} {e : Bool} {Sf : Sto} {Ab : Around} {R : Result → Shared → Prop} {a : Addr} {go : Obj} {g : Nat} (hA : A = Ab.in1.in1) (hh : Ab.handled = none) (hd : Ab.depth < recursionLimit) (hpn : pn = [(a, go)]) (hgo : ∀ h : Heap, h.get? a = some go → h.IsGen a g)
    (hend : ∀ s', GBack X fp bs sb Hb Sf s' → R (.ok (.ret (.bool (!e)))) s') :
    ∀ (n : Nat) (s : Shared) (gs : GenState), s.heap.NoLimit → s.heap.IsGen a g → AllBare s.gens → s.gens[g]? = some gs →
      gs.Goes (model X.prog X.w) A (GFin (gcx X scope cl C code A sb Hb fp pn) [] bs Hb Cn all.length e Sf) (GOut (gcx X scope cl C code A sb Hb fp pn) fp [] tn bs Hb ρ Cn stopAny all e Sf) n (.send .none) (s.setGen g .running) →
      codeAny (model X.prog X.w) Ab (.builtin "any.loop" ⟨[.ref a], []⟩) R s := by
  subst hA
  intro n
  induction n with
  | zero =>
    intro s gs hl hg hb hgs hgoes
    refine codeAny_builtin F.entry_any_loop ?_
    rw [Around.under_plainId F.plain_any_loop _]
    show wpAny _ Ab.in1 (pyNext (.ref a) >>= _) _ _ s
    refine wpAny_bind (wpAny_pyNext_genexpQ (A := Ab.in1) (P := GFinP (gcx X scope cl C code Ab.in1.in1 sb Hb fp pn) [] bs Hb Cn all.length e Sf) hh hl hd hg hgs hgoes (fun v s₁ gs' hbare hv => ?_) (fun s₁ hp h' hk => ?_))
    · obtain ⟨y, x, H, S, i, hm, hy, rv, dv, hR, hsx, hc⟩ := hv
      rcases hc with ⟨c1, c2, c3, c4⟩ | ⟨c1, c2⟩
      · subst c3 c4
        obtain ⟨_, σ, I, _, _, _, E1, R1, _⟩ := hR
        have hyb : y = .bool true := by
          cases y with
          | bool b => cases b with
            | false => cases c1
            | true => rfl
          | _ => cases c1
        subst hyb
        have hx := dp_bool dv
        subst hx
        have ev : v = Value.bool true := rv
        subst ev
        refine wpAny_bind (wpAny_holding (wpAny_truthy_bool ?_))
        refine wpAny_bind (wpAny_letGo ?_)
        simp only [if_true]
        exact wpAny_bind (wpAny_rule (wpAny_pure (hend _ (GBack.of I E1 R1 rfl (setGen_bare I.bare hbare) fun _ _ q => q))))
      · obtain ⟨_, σ, I, _⟩ := hR
        exact False.elim (c2 s₁ ⟨rfl, I.bare, fun _ _ _ q => q, fun b hb => by cases hb⟩ (hCn _ _ _))
    · obtain ⟨_, he, σ, H, P, _, _, I, _, E1, R1⟩ := hp
      subst he
      refine wpAny_bind (wpAny_rule (wpAny_pure ?_))
      exact hend _ (GBack.of I E1 R1 rfl (setGen_bare I.bare rfl) hk)
  | succ n ih =>
    intro s gs hl hg hb hgs hgoes
    have hgl : g < s.gens.size := (Array.getElem?_eq_some_iff.mp hgs).1
    refine codeAny_builtin F.entry_any_loop ?_
    rw [Around.under_plainId F.plain_any_loop _]
    show wpAny _ Ab.in1 (pyNext (.ref a) >>= _) _ _ s
    refine wpAny_bind (GenW.wpAny_gsz (n := g + 1) hgl (wpAny_pyNext_genexpQ (A := Ab.in1) (P := GFinP (gcx X scope cl C code Ab.in1.in1 sb Hb fp pn) [] bs Hb Cn all.length e Sf) hh hl hd hg hgs hgoes (fun v s₁ gs' hbare hv => ?_) (fun s₁ hp h' hk => ?_)))
    · intro hsz
      obtain ⟨y, x, H, S, i, hm, hy, rv, dv, hR, hsx, hc⟩ := hv
      rcases hc with ⟨c1, c2, c3, c4⟩ | ⟨c1, c2⟩
      · subst c3 c4
        obtain ⟨_, σ, I, _, _, _, E1, R1, _⟩ := hR
        have hyb : y = .bool true := by
          cases y with
          | bool b => cases b with
            | false => cases c1
            | true => rfl
          | _ => cases c1
        subst hyb
        have hx := dp_bool dv
        subst hx
        have ev : v = Value.bool true := rv
        subst ev
        refine wpAny_bind (wpAny_holding (wpAny_truthy_bool ?_))
        refine wpAny_bind (wpAny_letGo ?_)
        simp only [if_true]
        exact wpAny_bind (wpAny_rule (wpAny_pure (hend _ (GBack.of I E1 R1 rfl (setGen_bare I.bare hbare) fun _ _ q => q))))
      · have hyb : y = .bool false := by
          cases y with
          | bool b => cases b with
            | false => rfl
            | true => cases c1
          | _ => cases c1
        subst hyb
        have hx := dp_bool dv
        subst hx
        have ev : v = Value.bool false := rv
        subst ev
        obtain ⟨_, σ, I, _⟩ := hR
        refine wpAny_bind (wpAny_holding (wpAny_truthy_bool ?_))
        refine wpAny_bind (wpAny_letGo ?_)
        simp only [Bool.false_eq_true, if_false]
        have hsz1 : g < s₁.gens.size := by
          have q : (s₁.setGen g gs').gens.size = s₁.gens.size := GenW.setGen_size _ _ _
          have hsz' : g + 1 ≤ (s₁.setGen g gs').gens.size := hsz
          omega
        have hga : s₁.heap.get? a = some go := (I.pin (a, go) (List.mem_append_left _ (by show (a, go) ∈ pn; rw [hpn]; exact List.mem_singleton.mpr rfl))).1
        refine wpAny_pure ⟨plainId_quiet F.plain_any_loop _, ih (s₁.setGen g gs') gs' I.nolimit (hgo _ hga) (setGen_bare I.bare hbare) (setGen_at hsz1) ?_⟩
        exact c2 _ ⟨rfl, setGen_bare (setGen_bare I.bare hbare) rfl, fun _ _ _ q => q, fun b hb => by cases hb⟩ (hCn _ _ _)
    · intro _
      obtain ⟨_, he, σ, H, P, _, _, I, _, E1, R1⟩ := hp
      subst he
      refine wpAny_bind (wpAny_rule (wpAny_pure ?_))
      exact hend _ (GBack.of I E1 R1 rfl (setGen_bare I.bare rfl) hk)
end
end DL

namespace DL
open PySem PySem.Spec PyProof.Rows L2 DK
variable [Nms] [Tabs]
section
variable {X : Cx} {scope : Scope} {cl : List (Str × Addr)} {C : Addr} {code : Value} {A : Around} {fp : List Addr} {pn P : List (Addr × Obj)}
/-- the generator's frame begins -/
theorem gx_inv {pins : List (Addr × Obj)} {σ : L2.St} {H2 H5 : Hp} {s2 s6 : Shared} {own : List (Str × Nat)} {vs : List Nat} (I : Inv X pins σ H2 s2) (hf : ∀ b ∈ fp, FpOk X pins H2 b) (hfo : ∀ b ∈ fp, ∃ o, s2.heap.get? b = some o)
    (hh : A.handled = none) (hfr : A.frames = some X.stack) (hN : X.N.Nodup) (B : BlkOk X.N X.env.scope scope own) (hvs : ∀ p ∈ own, p.2 ∈ vs)
    (hcl : ∀ x c, cl.lookup x = some c → (scope.names.lookup x = some .free ∧ X.env.cells.lookup x = some c) ∨ (scope.names.lookup x = some .cell ∧ s2.heap.objs.size ≤ c ∧ (∃ v, s6.heap.IsCell c v) ∧ H5 c = none))
    (hinj : ∀ x y c, cl.lookup x = some c → cl.lookup y = some c → x = y)
    (hhas : ∀ x, scope.names.lookup x = some .cell ∨ scope.names.lookup x = some .free → ∃ c, cl.lookup x = some c)
    (hC : s2.heap.objs.size ≤ C) (hns : ∃ m, s6.heap.Ns C m) (hHC : H5 C = none)
    (hun : Un (frs X.stack) fp H2 H5 s2.heap s6.heap) (hok : HOk X.prog X.w H5 s6.heap) (hos : s6.os = s2.os) (hb : AllBare s6.gens)
    (hpin : ∀ p ∈ pn ++ P, s6.heap.get? p.1 = some p.2 ∧ H5 p.1 = none ∧ p.1 ≠ C ∧ p.1 ∉ frs X.stack ∧ ∀ v, p.2.data ≠ .cell v) :
    Inv (gcx X scope cl C code A s2 H2 fp pn) P (wipe σ vs) H5 s6 := by
  have nfp : ∀ x c, X.env.cells.lookup x = some c → c ∉ fp := fun x c e hc => (hf c hc).2.2.2.2.1 x c e rfl
  have cellAt : ∀ x c v, X.env.cells.lookup x = some c → s2.heap.IsCell c v → s6.heap.IsCell c v := fun x c v e ⟨o, eo, d⟩ => by
    obtain ⟨sl, e2⟩ := hun.any eo (I.freeC x c e) (nfp x c e)
    exact ⟨_, e2, d⟩
  refine ⟨⟨I.ok.mod, B.kind, I.ok.glob, rfl, hC, hinj, hhas, fun x c z e => ?_, fun _ => hh, Around.frames_deeper hfr, .inr ⟨rfl, rfl⟩, fun b hb => ⟨?_, fun x c e => ?_⟩, I.bs, Nat.le_trans I.ok.bsz I.sz, fun b o e hb => ?_, fun b hb => ?_, I.stack, I.stkFree⟩,
    hos, hb, hun, ?_, fun x c e => ?_, hHC, fun x c e => ?_, hpin, hok, ?_⟩
  · have z' : scope.names.lookup x = some .cell := by simpa using (show (scope.names.lookup x == some NameKind.cell) = true from z)
    rcases hcl x c e with ⟨q, _⟩ | ⟨_, h2, _⟩
    · rw [z'] at q; cases q
    · exact h2
  · obtain ⟨o, e⟩ := hfo b hb
    exact Nat.ne_of_lt (Nat.lt_of_lt_of_le (Heap.lt_size e) hC)
  · rcases hcl x c e with ⟨_, e2⟩ | ⟨_, h2, _⟩
    · exact (hf b hb).2.2.2.2.1 x c e2
    · intro z
      obtain ⟨o, eo⟩ := hfo b hb
      have := Heap.lt_size eo
      rw [← z] at this
      exact absurd (Nat.lt_of_lt_of_le this h2) (Nat.lt_irrefl _)
  · obtain ⟨_, _, _, h4, _⟩ := hf b hb
    rcases h4 with h4 | h4
    · exact I.ok.noex b o e h4
    · have h1 := Heap.lt_size e
      have h2 := I.ok.bsz
      exact absurd (Nat.lt_of_lt_of_le (Nat.lt_of_lt_of_le h1 h2) h4) (Nat.lt_irrefl _)
  · intro z
    obtain ⟨_, h2, h3, _⟩ := hf b hb
    rcases List.mem_cons.mp (I.stkSub b z) with q | q
    · exact h2 q
    · exact h3 q
  · obtain ⟨m, hm⟩ := hns
    refine ⟨m, hm, fun i x v hi hσ hv => ?_⟩
    obtain ⟨hσ', hiv⟩ := wipe_some hσ
    have notOwn : ∀ k, scope.names.lookup x = some k → (k = .local ∨ k = .cell) → False := fun k hk hk2 => by
      rcases B.own (x, k) (PySem.mem_of_lookup hk) hk2 with q | q
      · obtain ⟨p, hp, rfl⟩ := List.mem_map.mp q
        have := nodup_ix hN (B.ix p hp) hi
        exact hiv (this ▸ hvs p hp)
      · exact q (List.mem_of_getElem? hi)
    rcases hv with hv | hv | hv
    · exact (notOwn _ hv (.inl rfl)).elim
    · exact (notOwn _ hv (.inr rfl)).elim
    · have hk := B.free (x, .free) (PySem.mem_of_lookup hv) rfl
      obtain ⟨m2, _, hl⟩ := I.loc
      obtain ⟨u, ru, lk⟩ := hl i x v hi hσ' (.inr hk)
      refine ⟨u, ru, .inr ⟨.inr hv, ?_⟩⟩
      rcases lk with ⟨q, _⟩ | ⟨_, c, ec, ic⟩
      · have q' : X.env.scope.names.lookup x = some .local := q
        rcases hk with hk | hk <;> rw [hk] at q' <;> cases q'
      · obtain ⟨c', ec'⟩ := hhas x (.inr hv)
        rcases hcl x c' ec' with ⟨_, e2⟩ | ⟨e2, _⟩
        · rw [ec] at e2
          cases e2
          exact ⟨c, ec', cellAt x c _ ec ic⟩
        · have hv' : scope.names.lookup x = some .free := hv
          rw [hv'] at e2
          cases e2
  · rcases hcl x c e with ⟨_, e2⟩ | ⟨_, _, h3, _⟩
    · obtain ⟨v, ic⟩ := I.cell x c e2
      exact ⟨v, cellAt x c v e2 ic⟩
    · exact h3
  · rcases hcl x c e with ⟨_, e2⟩ | ⟨_, _, _, h4⟩
    · obtain ⟨v, o, eo, _⟩ := I.cell x c e2
      exact hun.free c o eo (I.freeC x c e2) (nfp x c e2)
    · exact h4
  · rw [wipe_length]
    exact I.len
/-- back in the maker's frame -/
theorem gx_back {pins : List (Addr × Obj)} {σ : L2.St} {Hb : Hp} {sb s' : Shared} {bs : List Addr} {Sf : Sto} (I : Inv X pins σ Hb sb) (hf : ∀ b ∈ fp, FpOk X pins Hb b) (h : GBack X fp bs sb Hb Sf s') :
    ∃ H, Inv X pins σ H s' ∧ Ext bs Hb bs H ∧ Rel X.K bs Sf H := by
  obtain ⟨H, h1, h2, h3, h4, h5, h6⟩ := h
  refine ⟨H, I.call' (ch := fp) h1 h3 h4 h2 fun b hb => ?_, h5, h6⟩
  obtain ⟨_, a2, _, a4, a5, a6⟩ := hf b hb
  exact ⟨a4, a2, a5, a6⟩
end
end DL

namespace DL
open PySem PySem.Spec PyProof.Rows L2 DK
variable [Nms] [Tabs]
section
variable {M : Model} {A : Around} {E : Value → Shared → Prop} {s : Shared}
theorem gx_env {scope : Scope} {globals : Addr} {cl0 : List (Str × Addr)} {qual : Str} {code it : Value} {builtins : Addr} {Q : Env → Shared → Prop} (hk : scope.kind = .function) (h0 : scope.names.lookup (".0" : Str) = some .local)
    (hQ : ∀ (h' : Heap) (m : Str → Option Value), h'.Ns s.heap.objs.size m → Heap.SameBut s.heap.objs.size (pushCells (s.heap.push { cls := .type "frame", data := .dict #[] }) scope.names) h' →
      Q (newEnv scope s.heap.objs.size globals (cellsFrom (s.heap.objs.size + 1) scope.names cl0) qual none code none builtins) { s with heap := h', toks := s.toks + 1 }) :
    wpAny M A (newFunctionEnv scope globals cl0 [(".0", it)] qual none code none builtins) Q E s := by
  simp only [newFunctionEnv, Option.isSome_none, Bool.false_eq_true, if_false]
  refine wpAny_bind (wpAny_alloc ?_)
  refine wpAny_bind (wpAny_layCells _ (fun name kind cells => by cases hkc : kind == NameKind.cell <;> simp [hkc]) _ _ _ _ ?_)
  rw [show ({ s with heap := s.heap.push { cls := .type "frame", data := .dict #[] } } : Shared).heap.objs.size = s.heap.objs.size + 1 from Heap.size_push ..]
  rw [List.forIn_cons]
  refine wpAny_bind (wpAny_bind (wpAny_bind (wpAny_storeName_local (env := newEnv scope s.heap.objs.size globals (cellsFrom (s.heap.objs.size + 1) scope.names cl0) qual none code none builtins) h0
    ((Heap.Ns.new s.heap (.type "frame")).keeps (pushCells_keeps _ _)) (fun h' hn' hs' => ?_) (by show (scope.kind == .class || (scope.kind == .module && _)) = false; rw [hk]; rfl))))
  refine wpAny_pure ?_
  show wpAny M A (forIn [] _ _) _ _ _
  rw [List.forIn_nil]
  exact wpAny_pure (wpAny_pure (hQ h' _ hn' hs'))
/-- a generator is made -/
theorem gx_make {env : Env} {elt target iter : Expr} {ifs : List Expr} {scope : Scope} {cl0 : List (Str × Addr)} {pos : Pos} {Q : Value → Shared → Prop}
    (hco : scope.isCoroutine = false) (hclos : closureFor scope env = pure cl0) (h0 : scope.names.lookup (".0" : Str) = some NameKind.local) (hkind : scope.kind = .function) (hroom : A.depth < recursionLimit)
    (h : wpAny M A (eval iter env) (fun xv s₁ => wpAny M A (pyIter xv) (fun it s₂ => s₂.heap.NoLimit ∧
      wpAny M A (genexprCode env pos (env.qual ++ "<genexpr>") scope) (fun code s₃ => wpAny M A (builtinsFor env.globals env.builtins) (fun bi s₄ =>
        ∀ (h' : Heap) (m : Str → Option Value), h'.Ns s₄.heap.objs.size m → Heap.SameBut s₄.heap.objs.size (pushCells (s₄.heap.push { cls := .type "frame", data := .dict #[] }) scope.names) h' →
          Q (.ref h'.objs.size) { s₄ with
            gens := s₄.gens.push (.fresh (.compStart (.GeneratorExp elt [⟨target, iter, ifs, 0⟩] scope pos) 0 it .none (genEnv scope (cellsFrom (s₄.heap.objs.size + 1) scope.names cl0) s₄.heap.objs.size code bi env))),
            toks := s₄.toks + 1 + 1 + 1,
            heap := h'.push { cls := .type "generator", data := .fields #[.int s₄.gens.size 0, .str "<genexpr>" (s₄.toks + 1), .str (env.qual ++ "<genexpr>") (s₄.toks + 1 + 1)] } }) E s₃) E s₂) E s₁) E s)
    (hs : ∀ x, genFold iter env x = pure x) :
    wpAny M A (eval (.GeneratorExp elt [⟨target, iter, ifs, 0⟩] scope pos) env) Q E s := by
  rw [eval_GeneratorExp1 _ _ _ _ _ _ _ hco, hclos]
  refine wpAny_bind (wpAny_mono h (fun xv s₁ h₁ => ?_) fun _ _ e => e)
  refine wpAny_bind (wpAny_standAt ?_)
  refine wpAny_bind (wpAny_of_eq (hs xv) ?_)
  refine wpAny_bind (wpAny_holding (wpAny_mono h₁ (fun it s₂ h₂ => ?_) fun _ _ e => e))
  refine wpAny_bind (wpAny_enterFrame h₂.1 hroom ?_)
  refine wpAny_bind (wpAny_pure ?_)
  refine wpAny_bind (wpAny_mono h₂.2 (fun code s₃ h₃ => ?_) fun _ _ e => e)
  refine wpAny_bind (wpAny_mono h₃ (fun bi s₄ h₄ => ?_) fun _ _ e => e)
  refine wpAny_bind (gx_env hkind h0 fun h' m hn' hs' => ?_)
  simp only [newGenerator, newFields]
  refine wpAny_bind (wpAny_newGen (wpAny_bind (wpAny_mkText (wpAny_bind (wpAny_mkText (wpAny_newObj_type ?_ (by size_fits)))))))
  exact h₄ h' m hn' hs'
end
end DL

namespace DL
open PySem PySem.Spec PyProof.Rows L2 DK
variable [Nms] [Tabs]
abbrev gCl (X : Cx) (scope : Scope) (C : Addr) : List (Str × Addr) := cellsFrom (C + 1) scope.names (cloFrom X.env.cells scope.names [])
theorem notStk {X : Cx} {pins : List (Addr × Obj)} {σ : L2.St} {H : Hp} {s : Shared} (I : Inv X pins σ H s) {b : Addr} (hb : s.heap.objs.size ≤ b) : b ∉ frs X.stack := fun z => by
  rcases List.mem_cons.mp (I.stkSub b z) with q | q
  · have := I.lt
    rw [← q] at this
    exact absurd (Nat.lt_of_lt_of_le this hb) (Nat.lt_irrefl _)
  · exact I.nofs hb q
section
variable {X : Cx} {pins : List (Addr × Obj)} {σ : L2.St} {H : Hp} {s : Shared}
/-- the frame of a generator that has just been made, from whenever it is woken -/
theorem gx_frame {scope : Scope} {own : List (Str × Nat)} {vs : List Nat} {fp : List Addr} {code : Value} {A : Around} {pn P : List (Addr × Obj)} {h' : Heap} {m : Str → Option Value} {s6 : Shared} (I : Inv X pins σ H s) (B : BlkOk X.N X.env.scope scope own) (hN : X.N.Nodup) (hvs : ∀ p ∈ own, p.2 ∈ vs)
    (hf : ∀ b ∈ fp, FpOk X pins H b) (hfo : ∀ b ∈ fp, ∃ o, s.heap.get? b = some o) (hns : h'.Ns s.heap.objs.size m) (hsb : Heap.SameBut s.heap.objs.size (pushCells (s.heap.push { cls := .type "frame", data := .dict #[] }) scope.names) h')
    (hk : ∀ b o, h'.get? b = some o → s6.heap.get? b = some o) (hos : s6.os = s.os) (hbare : AllBare s6.gens) (hh : A.handled = none) (hfr : A.frames = some X.stack)
    (hpin : ∀ p ∈ pn ++ P, s6.heap.get? p.1 = some p.2 ∧ s.heap.objs.size < p.1 ∧ ∀ v, p.2.data ≠ .cell v) :
    Inv (gcx X scope (gCl X scope s.heap.objs.size) s.heap.objs.size code A s H fp pn) P (wipe σ vs) H s6 := by
  have hfree : ∀ y ∈ scope.names, y.2 = .free → ∃ c, X.env.cells.lookup y.1 = some c := fun y hy e => by
    rcases B.free y hy e with k | k
    · exact I.ok.has _ (.inl k)
    · exact I.ok.has _ (.inr k)
  have kp0 : ∀ b o, s.heap.get? b = some o → h'.get? b = some o := fun b o e => (hsb.2 b (Nat.ne_of_lt (Heap.lt_size e))).trans (pushCells_keeps _ _ _ _ (Heap.get?_push_of_some _ e))
  have kp : ∀ b o, s.heap.get? b = some o → s6.heap.get? b = some o := fun b o e => hk b o (kp0 b o e)
  have hcl : gCl X scope s.heap.objs.size = cellsFrom (s.heap.push { cls := .type "frame", data := .dict #[] }).objs.size scope.names (cloFrom X.env.cells scope.names []) := by
    rw [Heap.size_push]
  have cm : ∀ {y c}, (y, c) ∈ cloFrom X.env.cells scope.names [] → (y, NameKind.free) ∈ scope.names ∧ X.env.cells.lookup y = some c ∧ c < s.heap.objs.size := fun {y c} hm => by
    rcases cloFrom_mem hm with hm | ⟨h1, rfl⟩
    · cases hm
    · obtain ⟨c, hc⟩ := hfree _ h1 rfl
      rw [hc]
      obtain ⟨w, z⟩ := I.cell _ _ hc
      exact ⟨h1, rfl, z.lt⟩
  refine gx_inv (vs := vs) (own := own) (H2 := H) (H5 := H) I hf hfo hh hfr hN B hvs (fun x c e => ?_) (fun x y c e1 e2 => ?_) (fun x hx => ?_) (Nat.le_refl _) ⟨m, hns.keeps hk⟩ (I.hok.fresh (Nat.le_refl _)) (Un.kept kp) (I.hok.kept kp) hos hbare fun p hp => ?_
  · rw [hcl] at e
    rcases cells_mem (PySem.mem_of_lookup e) with hm | ⟨h1, h2, h3⟩
    · exact .inl ⟨B.uniq _ (cm hm).1, (cm hm).2.1⟩
    · rw [Heap.size_push] at h2
      refine .inr ⟨B.uniq _ h1, Nat.le_of_succ_le h2, ?_, I.hok.fresh (Nat.le_of_succ_le h2)⟩
      obtain ⟨o, e1, e2⟩ := h3
      exact ⟨none, o, hk c o ((hsb.2 c (Nat.ne_of_gt h2)).trans e1), e2⟩
  · rw [hcl] at e1 e2
    refine cells_inj (fun p hp => ?_) (fun y z c a b => I.ok.inj y z c (cm a).2.1 (cm b).2.1) (PySem.mem_of_lookup e1) (PySem.mem_of_lookup e2)
    rw [Heap.size_push]
    exact Nat.lt_succ_of_lt (cm (y := p.1) (c := p.2) hp).2.2
  · rw [hcl]
    rcases hx with hx | hx
    · obtain ⟨c, hm⟩ := cells_has (n := (s.heap.push { cls := .type "frame", data := .dict #[] }).objs.size) (acc := cloFrom X.env.cells scope.names []) (PySem.mem_of_lookup hx)
      exact mem_lookup hm
    · exact mem_lookup (cells_acc (names := scope.names) (n := (s.heap.push { cls := .type "frame", data := .dict #[] }).objs.size) (cloFrom_has (cells := X.env.cells) (acc := []) (PySem.mem_of_lookup hx)))
  · obtain ⟨p1, p2, p3⟩ := hpin p hp
    exact ⟨p1, I.hok.fresh (Nat.le_of_lt p2), Nat.ne_of_gt p2, notStk I (Nat.le_of_lt p2), p3⟩
end
end DL

namespace DL
open PySem PySem.Spec PyProof.Rows L2 DK
variable [Nms] [Tabs]
section
variable {X : Cx} {pins : List (Addr × Obj)} {σ : L2.St} {H : Hp} {s : Shared}
theorem inv_grow {P : Addr} {ps more : Array Value} {h' : Heap} {H' : Hp} {t' : Nat} (I : Inv X pins σ H s) (hP : H P = some (.tbl ps)) (k : ∀ b o, b ≠ P → s.heap.get? b = some o → h'.get? b = some o)
    (hm : h'.get? P = some { cls := .none, data := .fields (ps ++ more) }) (hH : ∀ b, b < s.heap.objs.size → b ≠ P → H' b = H b) (hHP : H' P = some (.tbl (ps ++ more)))
    (hnew : ∀ b u, s.heap.objs.size ≤ b → H' b = some u → ObjOk X.prog X.w H' h' b u) : Inv X pins σ H' { s with heap := h', toks := t' } := by
  have nP : ∀ b u, H b = some u → (∀ q, u ≠ .tbl q) → b ≠ P := fun b u e q z => by
    rw [z, hP] at e
    exact q ps (Option.some.inj e).symm
  have nN : ∀ b, H b = none → b ≠ P := fun b e z => by
    rw [z, hP] at e
    cases e
  have keep : ∀ b u, H b = some u → (∀ q, u ≠ .tbl q) → H' b = some u := fun b u e q => by
    rw [hH b (I.hok.lt e) (nP b u e q)]
    exact e
  refine I.step (g' := s.gens) (d' := s.drawn) (ch := []) (fun b hb => absurd hb (by simp)) (fun b o _ _ _ e n => k b o (nN b n) e) (fun b o _ _ _ e n => ⟨o.slots, k b o (nN b n) e⟩)
    (fun b o _ e n => by rw [hH b (Heap.lt_size e) (nN b n)]; exact n) (fun b o _ e => ?_) (fun b xs e => keep b _ e fun q z => by cases z) (fun b o u e => keep b _ e fun q z => by cases z) (fun b qs e => ?_) (fun m hn => ?_) (fun b u e => ?_) I.bare
  · by_cases hb : b = P
    · rw [hb]
      exact ⟨_, hm⟩
    · exact ⟨o, k b o hb e⟩
  · by_cases hb : b = P
    · rw [hb, hP] at e
      cases e
      rw [hb]
      exact ⟨more, hHP⟩
    · exact ⟨#[], by rw [hH b (I.hok.lt e) hb, e]; simp⟩
  · obtain ⟨ob, es, ep, ho, r⟩ := hn
    exact ⟨ob, es, ep, k _ ob (nN _ I.free) ho, r⟩
  · by_cases hl : b < s.heap.objs.size
    · by_cases hb2 : b = P
      · rw [hb2, hHP] at e
        cases e
        rw [hb2]
        exact hm
      · rw [hH b hl hb2] at e
        refine (I.hok b u e).stay (fun d v hd q => k d v ?_ q) (fun d q => keep d _ q fun q z => by cases z) fun d xs q => keep d _ q fun q z => by cases z
        rcases hd with z | z
        · rw [z]
          exact hb2
        · exact nP d _ z (fun q z => by cases z)
    · exact hnew b u (Nat.le_of_not_lt hl) e
/-- the running frame's code object: tracked, or the module's own -/
structure CodeAt (X : Cx) (t : Tb) : Prop where
  bi : ∃ (bm : Addr) (o : Obj), X.mg "__builtins__" = some (.ref bm) ∧ bm ≠ builtinsNs ∧ X.base.get? bm = some o ∧ o.cls = .type "module" ∧ o.dict = some builtinsNs ∧ o.data = .plain
  code : ∃ c, X.env.code = .ref c ∧ (t.1 = some c ∨ PySem.W.CodeHd X.base c t.2)
theorem CodeAt.hd {t : Tb} (hc : CodeAt X t) (I : Inv X pins σ H s) (hx : TabX H t) : ∃ c, X.env.code = .ref c ∧ PySem.W.CodeHd s.heap c t.2 := by
  obtain ⟨c, e, z | z⟩ := hc.code
  · obtain ⟨q, e2⟩ := hx.2 c z
    exact ⟨c, e, (I.hok c _ e2).1.1⟩
  · exact ⟨c, e, z.keeps I.bk⟩
theorem tabX_grow {P c' P' : Addr} {ps : Array Value} {pos : Pos} {qual : Str} {H : Hp} (hP : H P = some (.tbl ps)) (hc : H c' = none) (hP' : H P' = none) (hne : c' ≠ P') (ht : TriplesOk ps.toList) (hn : ∀ q, Nms.nm pos.line pos.col = some q → qual = q) (t : Tb) (h : TabX H t) :
    TabX (upd (upd (upd H P (.tbl (ps ++ #[rawInt pos.line, rawInt pos.col, .ref c']))) c' (CodeT c' P' qual)) P' (.tbl #[])) t := by
  have n1 : P ≠ c' := ne_of_none hP hc
  have n2 : P ≠ P' := ne_of_none hP hP'
  have kc : ∀ {b c Q : Addr} {q : Str}, H b = some (CodeT c Q q) → (upd (upd (upd H P (.tbl (ps ++ #[rawInt pos.line, rawInt pos.col, .ref c']))) c' (CodeT c' P' qual)) P' (.tbl #[])) b = some (CodeT c Q q) := fun {b c Q q} e => by
    rw [upd_ne (ne_of_none e hP'), upd_ne (ne_of_none e hc), upd_ne (fun z => by rw [z, hP] at e; unfold CodeT at e; cases e)]
    exact e
  obtain ⟨⟨T, t1, t2⟩, t3⟩ := h
  refine ⟨⟨fun Q => T Q ∨ Q = P', .inl t1, fun Q hQ => ?_⟩, fun c e => ?_⟩
  · by_cases hQ' : Q = P'
    · subst hQ'
      refine ⟨#[], upd_same, trivial, fun p cv z => ?_⟩
      have z' : codeAmong p [] = some cv := z
      simp [codeAmong] at z'
    · rcases hQ with hQ | hQ
      · obtain ⟨qs, e1, e2, e3⟩ := t2 Q hQ
        by_cases hQP : Q = P
        · subst hQP
          rw [hP] at e1
          cases e1
          have eL : (ps ++ #[rawInt pos.line, rawInt pos.col, .ref c']).toList = ps.toList ++ [rawInt pos.line, rawInt pos.col, .ref c'] := by simp
          refine ⟨_, by rw [upd_ne n2, upd_ne n1, upd_same], by rw [eL]; exact PySem.TriplesOk_snoc _ _ _ _ ht, fun p cv z => ?_⟩
          rw [eL] at z
          rcases NdefX.among_app2 _ ht z with z | ⟨z, z1, z2⟩
          · obtain ⟨c, Q', q, f1, f2, f3, f4⟩ := e3 p cv z
            exact ⟨c, Q', q, f1, kc f2, .inl f3, f4⟩
          · refine ⟨c', P', qual, z, by rw [upd_ne hne, upd_same], .inr rfl, fun q' hq => hn q' ?_⟩
            rw [z1, z2]
            exact hq
        · refine ⟨qs, by rw [upd_ne (ne_of_none e1 hP'), upd_ne (ne_of_none e1 hc), upd_ne hQP]; exact e1, e2, fun p cv z => ?_⟩
          obtain ⟨c, Q', q, f1, f2, f3, f4⟩ := e3 p cv z
          exact ⟨c, Q', q, f1, kc f2, .inl f3, f4⟩
      · exact absurd hQ hQ'
  · obtain ⟨q, e2⟩ := t3 c e
    exact ⟨q, kc e2⟩
/-- a generator expression's code object is found or made; the builtins are looked up -/
theorem gx_code {t : Tb} {pos : Pos} {qual : Str} {scope : Scope} {E : Value → Shared → Prop} {Q : Value → Addr → Shared → Prop} (hc : CodeAt X t) (I : Inv X pins σ H s) (hx : TabX H t) (hn : ∀ q, Nms.nm pos.line pos.col = some q → qual = q)
    (hQ : ∀ (c' P' : Addr) (h' : Heap) (tk : Nat) (H' : Hp), Inv X pins σ H' { s with heap := h', toks := tk } → (∀ (K : Fg) (as : List Addr) (S : Sto), Rel K as S H → Rel K as S H' ∧ Ext as H as H') → (∀ b o, s.heap.get? b = some o → H b = none → H' b = none ∧ h'.get? b = some o) → TabX H' (some c', P') →
      Q (.ref c') builtinsNs { s with heap := h', toks := tk }) :
    wpAny (model X.prog X.w) X.A (genexprCode X.env pos qual scope) (fun code s3 => wpAny (model X.prog X.w) X.A (builtinsFor X.env.globals X.env.builtins) (fun bi s4 => Q code bi s4) E s3) E s := by
  obtain ⟨c, hcode, cd⟩ := hc.hd I hx
  obtain ⟨⟨T, hT, hW⟩, _⟩ := id hx
  obtain ⟨ps, hP, ht, hin⟩ := hW t.2 hT
  have hPs : s.heap.get? t.2 = some { cls := .none, data := .fields ps } := I.hok t.2 _ hP
  have bifor : ∀ {h' : Heap} {tk : Nat} {H' : Hp} {code : Value}, Inv X pins σ H' { s with heap := h', toks := tk } → Q code builtinsNs { s with heap := h', toks := tk } →
      wpAny (model X.prog X.w) X.A (builtinsFor X.env.globals X.env.builtins) (fun bi s4 => Q code bi s4) E { s with heap := h', toks := tk } := fun {h' tk H' code} I' q => by
    obtain ⟨bm, o, b1, b2, b3, b4, b5, b6⟩ := hc.bi
    refine wpAny_builtinsFor (m := X.mg) ?_ b1 b2 (I'.bk _ _ b3) b4 b5 b6 q
    rw [I.ok.glob]
    exact I'.mod.glob.keeps I'.bk
  cases hf : codeAmong pos ps.toList with
  | none =>
    refine wpAny_genexprCodeX hcode (cd.code hPs ht) (cd.tab hPs) hf fun c' h' tk hx' hge hlt hco' hrec htab' hown => ?_
    obtain ⟨P', hP'ge, hcode', htab''⟩ := hown
    have hd' := PySem.W.CodeHd.of hcode' htab''
    have hne : c' ≠ P' := by
      obtain ⟨_, _, _, _, _, _, _, _, _, _, _, _, _, _, _, _, _, _, z⟩ := hd'
      exact z
    have nc : H c' = none := I.hok.fresh hge
    have nP' : H P' = none := I.hok.fresh hP'ge
    have hPl : t.2 < s.heap.objs.size := I.hok.lt hP
    have nPc : t.2 ≠ c' := Nat.ne_of_lt (Nat.lt_of_lt_of_le hPl hge)
    have nPP : t.2 ≠ P' := Nat.ne_of_lt (Nat.lt_of_lt_of_le hPl hP'ge)
    have hQ' := hQ c' P' h' tk (upd (upd (upd H t.2 (.tbl (ps ++ #[rawInt pos.line, rawInt pos.col, .ref c']))) c' (CodeT c' P' qual)) P' (.tbl #[]))
    have old : ∀ b, b < s.heap.objs.size → b ≠ t.2 → (upd (upd (upd H t.2 (.tbl (ps ++ #[rawInt pos.line, rawInt pos.col, .ref c']))) c' (CodeT c' P' qual)) P' (.tbl #[])) b = H b := fun b hb hbP => by
      rw [upd_ne (Nat.ne_of_lt (Nat.lt_of_lt_of_le hb hP'ge)), upd_ne (Nat.ne_of_lt (Nat.lt_of_lt_of_le hb hge)), upd_ne hbP]
    have J := inv_grow (t' := tk) (more := #[rawInt pos.line, rawInt pos.col, .ref c']) (h' := h') (H' := upd (upd (upd H t.2 (.tbl (ps ++ #[rawInt pos.line, rawInt pos.col, .ref c']))) c' (CodeT c' P' qual)) P' (.tbl #[])) I hP (fun b o hb e => hx' b o hb e) htab'.2 old (by rw [upd_ne nPP, upd_ne nPc, upd_same]) fun b u hb e => by
      by_cases h1 : b = P'
      · subst h1
        rw [upd_same] at e
        cases e
        exact htab''.2
      · rw [upd_ne h1] at e
        by_cases h2 : b = c'
        · subst h2
          rw [upd_same] at e
          cases e
          refine ⟨⟨hd', hrec⟩, ?_, fun h1 h2 ⟨⟨o, vs, file, tf, flags, tg, inF, text, tt, e1, r⟩, ⟨c2, o2, vs2, t2, e2, g2, r2⟩⟩ st => ⟨⟨o, vs, file, tf, flags, tg, inF, text, tt, st _ e1, r⟩, ?_⟩⟩
          · obtain ⟨o, _, _, _, _, _, _, _, _, e1, _⟩ := hd'
            exact ⟨o, e1⟩
          · cases e2
            exact ⟨_, o2, vs2, t2, rfl, st _ g2, r2⟩
        · rw [upd_ne h2, upd_ne (Nat.ne_of_gt (Nat.lt_of_lt_of_le hPl hb)), I.hok.fresh hb] at e
          cases e
    have nm : ∀ {b : Addr}, H b = none → b ≠ t.2 := fun {b} e z => by rw [z, hP] at e; cases e
    have tg := fun t' (h : TabX H t') => tabX_grow (P := t.2) (c' := c') (P' := P') (pos := pos) (qual := qual) hP nc nP' hne ht hn t' h
    refine bifor J (hQ' J (fun K as S R => ?_) (fun b o e n => ⟨by rw [old b (Heap.lt_size e) (nm n)]; exact n, hx' b o (nm n) e⟩) ?_)
    · have nas : ∀ {b : Addr}, b ∈ as → b < s.heap.objs.size ∧ b ≠ t.2 := fun {b} hb => by
        rcases R.mem hb with ⟨vs, e⟩ | ⟨es, e⟩ | ⟨o, es, e⟩
        · exact ⟨I.hok.lt e, fun z => by rw [z, hP] at e; cases e⟩
        · exact ⟨I.hok.lt e, fun z => by rw [z, hP] at e; cases e⟩
        · exact ⟨I.hok.lt e, fun z => by rw [z, hP] at e; cases e⟩
      have E1 : Ext as H as (upd (upd (upd H t.2 (.tbl (ps ++ #[rawInt pos.line, rawInt pos.col, .ref c']))) c' (CodeT c' P' qual)) P' (.tbl #[])) := by
        refine ⟨⟨[], by simp⟩, fun b hb nb => absurd hb nb, fun b o nb e ht => ?_, tg, fun b o nb e => ?_, fun b hb q => ?_, fun b hb o u q => ?_⟩
        · rw [old b (I.hok.lt e) (fun z => by rw [z, hP] at e; cases e; cases ht)]
          exact e
        · by_cases hb : b = t.2
          · exact ⟨_, by rw [hb, upd_ne nPP, upd_ne nPc, upd_same]⟩
          · exact ⟨o, by rw [old b (I.hok.lt e) hb]; exact e⟩
        · rw [old b (nas hb).1 (nas hb).2] at q
          exact q
        · rw [old b (nas hb).1 (nas hb).2]
          exact q
      refine ⟨⟨R.nd, R.len, fun i a ds e1 e2 => ?_⟩, E1⟩
      obtain ⟨z1, z2⟩ := nas (List.mem_of_getElem? e1)
      exact (R.cell i a ds e1 e2).mono E1.same (old a z1 z2)
    · refine ⟨?_, fun c e => ?_⟩
      · obtain ⟨⟨T', t1, t2⟩, _⟩ := tg t hx
        obtain ⟨qs, e1, e2, e3⟩ := t2 t.2 t1
        refine ⟨fun Q => T' Q ∨ Q = P', .inr rfl, fun Q hQ => ?_⟩
        rcases hQ with hQ | hQ
        · obtain ⟨qs, e1, e2, e3⟩ := t2 Q hQ
          refine ⟨qs, e1, e2, fun p cv z => ?_⟩
          obtain ⟨c, Q', q, f1, f2, f3, f4⟩ := e3 p cv z
          exact ⟨c, Q', q, f1, f2, .inl f3, f4⟩
        · subst hQ
          refine ⟨#[], upd_same, trivial, fun p cv z => ?_⟩
          have z' : codeAmong p [] = some cv := z
          simp [codeAmong] at z'
      · cases e
        exact ⟨qual, by rw [upd_ne hne, upd_same]⟩
  | some cv =>
    obtain ⟨c', P', q, rfl, f2, f3, f4⟩ := hin pos cv hf
    refine wpAny_genexprCode_hit hcode (cd.code hPs ht) hf ?_
    exact bifor (h' := s.heap) (tk := s.toks) I (hQ c' P' s.heap s.toks H I (fun K as S R => ⟨R, .refl⟩) (fun b o e n => ⟨n, e⟩) ⟨⟨T, f3, hW⟩, fun c e => by cases e; exact ⟨q, f2⟩⟩)
end
end DL

namespace DL
open PySem PySem.Spec PyProof.Rows L2 DK
variable [Nms] [T0 : Tabs]
abbrev gObj (g : Nat) (tk : Nat) (q : Str) : Obj := { cls := .type "generator", data := .fields #[.int g 0, .str "<genexpr>" (tk + 1), .str q (tk + 1 + 1)] }
/-- the tables that are known in a generator's frame -/
abbrev tabsIn (c' P' : Addr) : Tabs := ⟨(some c', P') :: Tabs.l⟩
theorem ER.up {c' P' : Addr} {K : Fg} {as : List Addr} {H : Hp} {σ : L2.St} {ρ : RE} (E : ER K as H σ ρ) (h : TabX H (some c', P')) : @ER _ (tabsIn c' P') K as H σ ρ :=
  @ER.mk _ (tabsIn c' P') K as H σ ρ E.len E.at_ fun t ht => by
    rcases List.mem_cons.mp (show t ∈ (some c', P') :: T0.l from ht) with z | z
    · rw [z]; exact h
    · exact E.tab t z
/-- a generator that has just been made -/
structure GReady (X : Cx) (pins : List (Addr × Obj)) (σ : L2.St) (ρ : RE) (tg iter elt : Expr) (ifs : List Expr) (scope : Scope) (gpos : Pos) (xs : List PyData) (as : List Addr) (S1 : Sto) (H5 : Hp) (s4 : Shared) (c' P' : Addr) (fp : List Addr) (tn : Nat → Heap → Prop) (J : It) (it a : Addr) (go : Obj) (h' : Heap) (m : Str → Option Value) (s5 : Shared) : Prop where
  inv : Inv X pins σ H5 s4
  rel : Rel X.K as S1 H5
  er : ER X.K as H5 σ ρ
  tab : TabX H5 (some c', P')
  turn : Turn X.prog X.w X.K tg J fp it tn
  at0 : tn 0 s4.heap
  fpk : ∀ b ∈ fp, FpOk X pins H5 b
  its : Iters X.K as H5 J xs
  ns : h'.Ns s4.heap.objs.size m
  sb : Heap.SameBut s4.heap.objs.size (pushCells (s4.heap.push { cls := .type "frame", data := .dict #[] }) scope.names) h'
  atA : a = h'.objs.size
  isG : ∀ h : Heap, h.get? a = some go → h.IsGen a s4.gens.size
  heap : s5.heap = h'.push go
  gens : s5.gens = s4.gens.push (.fresh (.compStart (.GeneratorExp elt [⟨tg, iter, ifs, 0⟩] scope gpos) 0 (.ref it) .none (gEnv X scope (gCl X scope s4.heap.objs.size) s4.heap.objs.size (.ref c'))))
  os : s5.os = s4.os
  noc : ∀ v, go.data ≠ .cell v
  atG : s5.heap.get? a = some go
section
variable {X : Cx} {pins : List (Addr × Obj)} {σ : L2.St} {H : Hp} {s : Shared} {ρ : RE} {tg iter elt : Expr} {ifs : List Expr} {scope : Scope} {gpos : Pos} {xs : List PyData} {as : List Addr} {S S1 : Sto} {own : List (Str × Nat)} {vs is : List Nat} {mi : ML}
theorem gx_eval {t : Tb} {k : Nat} {Q : Value → Shared → Prop} (hr : Room k X.A) (hi : DI X tg iter mi) (hc : CodeAt X t) (htm : t ∈ Tabs.l) (hco : scope.isCoroutine = false) (h0 : scope.names.lookup (".0" : Str) = some NameKind.local) (B : BlkOk X.N X.env.scope scope own)
    (hn : ∀ q, Nms.nm gpos.line gpos.col = some q → X.env.qual ++ "<genexpr>" = q) (hs : ∀ x, genFold iter X.env x = pure x) (I : Inv X pins σ H s) (R : Rel X.K as S H) (E : ER X.K as H σ ρ) (e : mi ρ S = some (xs, S1))
    (hQ : ∀ H5 s4 c' P' fp tn J it a go h' m s5, GReady X pins σ ρ tg iter elt ifs scope gpos xs as S1 H5 s4 c' P' fp tn J it a go h' m s5 → Ext as H as H5 → Q (.ref a) s5) :
    wpAny (model X.prog X.w) X.A (eval (.GeneratorExp elt [⟨tg, iter, ifs, 0⟩] scope gpos) X.env) Q X.xe s := by
  have hfree : ∀ y ∈ scope.names, y.2 = .free → ∃ c, X.env.cells.lookup y.1 = some c := fun y hy e => by
    rcases B.free y hy e with k | k
    · exact I.ok.has _ (.inl k)
    · exact I.ok.has _ (.inr k)
  refine gx_make hco (closure_ok hfree) h0 B.kind hr.depth ?_ hs
  refine thn (hi.run pins s σ H (fun J H1 => Rel X.K as S1 H1 ∧ Ext as H as H1 ∧ Iters X.K as H1 J xs) I ⟨as, ρ, S, xs, S1, R, E, e, fun J H1 R1 X1 it => ⟨R1, X1, it⟩⟩) fun v s1 h1 => ?_
  refine thn h1 fun itv s2 ⟨it, fp, tn, J, H2, eit, I2, T, st, hf, R2, X2, its⟩ => ?_
  subst eit
  refine ⟨I2.nolimit, ?_⟩
  have tx : TabX H2 t := (E.ext X2).tab t htm
  refine gx_code (Q := fun code bi s4 => ∀ (h' : Heap) (m : Str → Option Value), h'.Ns s4.heap.objs.size m → Heap.SameBut s4.heap.objs.size (pushCells (s4.heap.push { cls := .type "frame", data := .dict #[] }) scope.names) h' →
    Q (.ref h'.objs.size) { s4 with
      gens := s4.gens.push (.fresh (.compStart (.GeneratorExp elt [⟨tg, iter, ifs, 0⟩] scope gpos) 0 (.ref it) .none (genEnv scope (cellsFrom (s4.heap.objs.size + 1) scope.names (cloFrom X.env.cells scope.names [])) s4.heap.objs.size code bi X.env))),
      toks := s4.toks + 1 + 1 + 1,
      heap := h'.push { cls := .type "generator", data := .fields #[.int s4.gens.size 0, .str "<genexpr>" (s4.toks + 1), .str (X.env.qual ++ "<genexpr>") (s4.toks + 1 + 1)] } }) hc I2 tx hn fun c' P' h3 tk H3 I3 hR hK hT h' m hns hsb => ?_
  obtain ⟨R3, X3⟩ := hR X.K as S1 R2
  have fo : ∀ b ∈ fp, ∃ o, s2.heap.get? b = some o := fun b hb => let ⟨o, e, _⟩ := T.obj _ _ st b hb; ⟨o, e⟩
  refine hQ H3 _ c' P' fp tn J it _ _ h' m _ ⟨I3, R3, E.ext (X2.trans X3), hT, T, T.keep _ _ _ st fun b hb o e => (hK b o e (hf b hb).1).2, fun b hb => ?_, its.ext X3, hns, hsb, rfl, fun h e => ⟨_, _, _, e, rfl, rfl, rfl⟩, rfl, rfl, rfl, fun v z => (by cases z), Heap.get?_push_size _ rfl⟩ (X2.trans X3)
  obtain ⟨o, e⟩ := fo b hb
  exact ⟨(hK b o e (hf b hb).1).1, (hf b hb).2⟩
variable {H5 : Hp} {s4 : Shared} {c' P' : Addr} {fp : List Addr} {tn : Nat → Heap → Prop} {J : It} {it a : Addr} {go : Obj} {h' : Heap} {m : Str → Option Value} {s5 : Shared}
theorem GReady.keep5 (G : GReady X pins σ ρ tg iter elt ifs scope gpos xs as S1 H5 s4 c' P' fp tn J it a go h' m s5) : ∀ b o, s4.heap.get? b = some o → s5.heap.get? b = some o := fun b o e => by
  rw [G.heap]
  exact Heap.get?_push_of_some _ ((G.sb.2 b (Nat.ne_of_lt (Heap.lt_size e))).trans (pushCells_keeps _ _ _ _ (Heap.get?_push_of_some _ e)))
theorem GReady.isGen (G : GReady X pins σ ρ tg iter elt ifs scope gpos xs as S1 H5 s4 c' P' fp tn J it a go h' m s5) : s5.heap.IsGen a s4.gens.size := G.isG _ G.atG
end
end DL

namespace DL
open PySem PySem.Spec PyProof.Rows L2 DK
variable [Nms] [T0 : Tabs]
section
variable {X : Cx} {pins : List (Addr × Obj)} {σ : L2.St} {ρ : RE} {tg iter elt : Expr} {ifs : List Expr} {scope : Scope} {gpos : Pos} {xs : List PyData} {as : List Addr} {S S1 : Sto} {own : List (Str × Nat)} {vs is : List Nat}
variable {H5 : Hp} {s4 : Shared} {c' P' : Addr} {fp : List Addr} {tn : Nat → Heap → Prop} {J : It} {it a : Addr} {go : Obj} {h' : Heap} {m : Str → Option Value} {s5 : Shared}
abbrev gcR (X : Cx) (scope : Scope) (c' : Addr) (A : Around) (s4 : Shared) (H5 : Hp) (fp : List Addr) (a : Addr) (go : Obj) : Cx := gcx X scope (gCl X scope s4.heap.objs.size) s4.heap.objs.size (.ref c') A s4 H5 fp [(a, go)]
theorem GReady.wake {A : Around} {Sx : List Addr} {s6 : Shared} {stop : PyData → Option Bool} {all : List PyData} {e : Bool} {Sf : Sto} {tgt : TgD} {tt : MB} {te : M} {Cn : Nat → Hp → Heap → Prop} (hCn : CnOk Sx as Cn) (G : GReady X pins σ ρ tg iter elt ifs scope gpos xs as S1 H5 s4 c' P' fp tn J it a go h' m s5)
    (B : BlkOk X.N X.env.scope scope own) (hN : X.N.Nodup) (hvs : ∀ p ∈ own, p.2 ∈ vs) (hv : ∀ i ∈ is, i ∈ vs) (hco : scope.isCoroutine = false)
    (hg : @DG _ (tabsIn c' P') (gcR X scope c' A s4 H5 fp a go) tg is tgt) (ht : @DTs _ (tabsIn c' P') (gcR X scope c' A s4 H5 fp a go) ifs tt) (he : @DE _ (tabsIn c' P') (gcR X scope c' A s4 H5 fp a go) elt te)
    (hh : A.handled = none) (hfr : A.frames = some X.stack) (hgo : gxGo stop tgt tt te (wipeR ρ vs) xs S1 = some (all, e, Sf)) (hk : ∀ b o, s5.heap.get? b = some o → s6.heap.get? b = some o) (hos : s6.os = s5.os) (hb : AllBare s6.gens)
    (hSx : ∀ b ∈ Sx, s5.heap.objs.size ≤ b ∧ ∃ o, s6.heap.get? b = some o ∧ ∀ v, o.data ≠ .cell v) (hC0 : Cn 0 H5 s6.heap) :
    (GenState.fresh (.compStart (.GeneratorExp elt [⟨tg, iter, ifs, 0⟩] scope gpos) 0 (.ref it) .none (gEnv X scope (gCl X scope s4.heap.objs.size) s4.heap.objs.size (.ref c')))).Goes (model X.prog X.w) A
      (GFin (gcR X scope c' A s4 H5 fp a go) Sx as H5 Cn all.length e Sf) (@GOut _ (tabsIn c' P') (gcR X scope c' A s4 H5 fp a go) fp Sx tn as H5 (wipeR ρ vs) Cn stop all e Sf) all.length (.send .none) s6 := by
  have sz5 : s5.heap.objs.size = h'.objs.size + 1 := by rw [G.heap, Heap.size_push]
  have szC : s4.heap.objs.size < h'.objs.size := G.ns.lt
  have kh : ∀ b o, h'.get? b = some o → s5.heap.get? b = some o := fun b o q => by rw [G.heap]; exact Heap.get?_push_of_some _ q
  have fo : ∀ b ∈ fp, ∃ o, s4.heap.get? b = some o := fun b hb => let ⟨o, q, _⟩ := G.turn.obj _ _ G.at0 b hb; ⟨o, q⟩
  have hpn : ∀ p ∈ [(a, go)] ++ pinsAt Sx s6.heap, s6.heap.get? p.1 = some p.2 ∧ s4.heap.objs.size < p.1 ∧ ∀ v, p.2.data ≠ .cell v := fun p hp => by
    rcases List.mem_append.mp hp with z | z
    · rw [List.mem_singleton.mp z]
      exact ⟨hk _ _ G.atG, by show s4.heap.objs.size < a; rw [G.atA]; exact szC, G.noc⟩
    · obtain ⟨z1, z2⟩ := of_pinsAt z
      obtain ⟨y1, o, y2, y3⟩ := hSx p.1 z1
      rw [z2] at y2
      cases y2
      exact ⟨z2, by have h1 : s4.heap.objs.size < h'.objs.size := szC; have h2 : h'.objs.size + 1 ≤ p.1 := by rw [← sz5]; exact y1
                    exact Nat.lt_of_lt_of_le (Nat.lt_succ_of_lt h1) h2, y3⟩
  have I6 : Inv (gcR X scope c' A s4 H5 fp a go) (pinsAt Sx s6.heap) (wipe σ vs) H5 s6 := gx_frame G.inv B hN hvs G.fpk fo G.ns G.sb (fun b o q => hk b o (kh b o q)) (hos.trans G.os) hb hh hfr hpn
  have I5 : ∀ x c, (gcR X scope c' A s4 H5 fp a go).env.cells.lookup x = some c → c < s5.heap.objs.size := fun x c q => by
    have Z : Inv (gcR X scope c' A s4 H5 fp a go) [] (wipe σ vs) H5 { s6 with heap := s5.heap } := gx_frame G.inv B hN hvs G.fpk fo G.ns G.sb kh (hos.trans G.os) hb hh hfr fun p hp => by
      have hp' : p ∈ [(a, go)] := by simpa using hp
      rw [List.mem_singleton.mp hp']
      exact ⟨G.atG, by show s4.heap.objs.size < a; rw [G.atA]; exact szC, G.noc⟩
    obtain ⟨v, z⟩ := Z.cell x c q
    exact z.lt
  have alt : a < s5.heap.objs.size := Heap.lt_size G.atG
  have sx : SxOk (gcR X scope c' A s4 H5 fp a go) Sx := fun b hb => by
    obtain ⟨y1, _⟩ := hSx b hb
    have h1 : s4.heap.objs.size < b := Nat.lt_of_lt_of_le (Nat.lt_succ_of_lt szC) (show h'.objs.size + 1 ≤ b by rw [← sz5]; exact y1)
    refine ⟨.inr (Nat.le_of_lt h1), Nat.ne_of_gt h1, notStk G.inv (Nat.le_of_lt h1), fun x c q z => ?_, fun p hp z => ?_⟩
    · have := I5 x c q
      rw [z] at this
      exact absurd (Nat.lt_of_lt_of_le this y1) (Nat.lt_irrefl _)
    · rw [List.mem_singleton.mp hp] at z
      rw [← z] at y1
      exact absurd (Nat.lt_of_lt_of_le alt y1) (Nat.lt_irrefl _)
  have fl : ∀ b ∈ fp, b < s4.heap.objs.size := fun b hb => let ⟨o, q⟩ := fo b hb; Heap.lt_size q
  have l45 : s4.heap.objs.size < s5.heap.objs.size := by rw [sz5]; exact Nat.lt_succ_of_lt szC
  have fsx : ∀ b ∈ fp, b ∉ Sx := fun b hb z => absurd (Nat.lt_of_lt_of_le (Nat.lt_trans (fl b hb) l45) (hSx b z).1) (Nat.lt_irrefl _)
  refine ⟨rfl, @gx_start _ (tabsIn c' P') X scope _ _ _ A s4 H5 fp _ tn as elt iter tg ifs gpos it J xs tgt tt te is vs ρ stop all e Sf Sx Cn hCn G.turn G.its hg ht he hv sx fsx (fun {H' P} hP hH b hb => ?_) hco S1 H5 s6 s6 ⟨hC0, wipe σ vs, I6, fun b hb => ⟨?_, (hSx b hb).2⟩, ?_, fun b hb => (G.fpk b hb).1, .refl, G.rel, ?_⟩ hgo fun _ _ => rfl⟩
  · refine ⟨hH b hb, (I6.ok.exf b hb).1, I6.ok.exfs b hb, .inl hb, (I6.ok.exf b hb).2, fun p hp z => ?_⟩
    have lb := fl b hb
    rcases List.mem_append.mp hp with q | q
    · rw [List.mem_singleton.mp q] at z
      have : a = b := z
      rw [← this, G.atA] at lb
      exact absurd (Nat.lt_trans szC lb) (Nat.lt_irrefl _)
    · exact fsx b hb (z ▸ hP p q)
  · obtain ⟨y1, _⟩ := hSx b hb
    exact G.inv.hok.fresh (Nat.le_trans (Nat.le_of_lt l45) y1)
  · exact G.turn.keep _ _ _ G.at0 fun b _ o q => hk b o (G.keep5 b o q)
  · exact @ER.wiped _ (tabsIn c' P') _ _ _ _ _ (G.er.up G.tab) vs
theorem GReady.bare (G : GReady X pins σ ρ tg iter elt ifs scope gpos xs as S1 H5 s4 c' P' fp tn J it a go h' m s5) : AllBare s5.gens := by
  rw [G.gens]
  exact G.inv.bare.push rfl
theorem GReady.nolimit (G : GReady X pins σ ρ tg iter elt ifs scope gpos xs as S1 H5 s4 c' P' fp tn J it a go h' m s5) : s5.heap.NoLimit := G.inv.nolimit.keeps G.keep5
theorem GReady.gen (G : GReady X pins σ ρ tg iter elt ifs scope gpos xs as S1 H5 s4 c' P' fp tn J it a go h' m s5) : s5.gens[s4.gens.size]? = some (.fresh (.compStart (.GeneratorExp elt [⟨tg, iter, ifs, 0⟩] scope gpos) 0 (.ref it) .none (gEnv X scope (gCl X scope s4.heap.objs.size) s4.heap.objs.size (.ref c')))) := by
  rw [G.gens]
  simp
end
end DL

namespace DL
open PySem PySem.Spec PyProof.Rows L2 DK
variable [Nms] [T0 : Tabs]
def mAll (mi : ML) (vs : List Nat) (tgt : TgD) (tt : MB) (te : M) : M := fun ρ S => (mi ρ S).bind fun p => (gxGo stopAll tgt tt te (wipeR ρ vs) p.1 p.2).bind fun r => some (.d (.bool r.2.1), r.2.2)
def mAny (mi : ML) (vs : List Nat) (tgt : TgD) (tt : MB) (te : M) : M := fun ρ S => (mi ρ S).bind fun p => (gxGo stopAny tgt tt te (wipeR ρ vs) p.1 p.2).bind fun r => some (.d (.bool (!r.2.1)), r.2.2)
section
variable {X : Cx} {tg iter elt : Expr} {ifs : List Expr} {scope : Scope} {p pos gpos : Pos} {own : List (Str × Nat)} {vs is : List Nat} {mi : ML} {tgt : TgD} {tt : MB} {te : M} {t : Tb} {k : Nat}
/-- what a rule for a consumer of a generator expression asks -/
structure GxOk (X : Cx) (k : Nat) (t : Tb) (tg iter elt : Expr) (ifs : List Expr) (scope : Scope) (gpos : Pos) (vs : List Nat) (mi : ML) (tgt : TgD) (tt : MB) (te : M) : Prop where
  room : Room (k + 1) X.A
  gd : X.A.guards = some []
  nd : X.N.Nodup
  it : DI X tg iter mi
  code : CodeAt X t
  mem : t ∈ Tabs.l
  nm : ∀ q, Nms.nm gpos.line gpos.col = some q → X.env.qual ++ "<genexpr>" = q
  co : scope.isCoroutine = false
  dot : scope.names.lookup (".0" : Str) = some NameKind.local
  fold : ∀ x, genFold iter X.env x = pure x
  body : ∃ own is, BlkOk X.N X.env.scope scope own ∧ (∀ p ∈ own, p.2 ∈ vs) ∧ (∀ i ∈ is, i ∈ vs) ∧ ∀ (c' P' : Addr) (A : Around) (s4 : Shared) (H5 : Hp) (fp : List Addr) (a : Addr) (go : Obj), Room k (gcR X scope c' A s4 H5 fp a go).A → (gcR X scope c' A s4 H5 fp a go).A.guards = some [] →
    @DG _ (tabsIn c' P') (gcR X scope c' A s4 H5 fp a go) tg is tgt ∧ @DTs _ (tabsIn c' P') (gcR X scope c' A s4 H5 fp a go) ifs tt ∧ @DE _ (tabsIn c' P') (gcR X scope c' A s4 H5 fp a go) elt te
theorem gx_mk (hr : Room (k + 1) X.A) (hgd : X.A.guards = some []) (hN : X.N.Nodup) (hi : DI X tg iter mi) (hc : CodeAt X t) (htm : t ∈ Tabs.l) (hnm : ∀ q, Nms.nm gpos.line gpos.col = some q → X.env.qual ++ "<genexpr>" = q) (B : BlkOk X.N X.env.scope scope own)
    (hg : ∀ (c' P' : Addr) (A : Around) (s4 : Shared) (H5 : Hp) (fp : List Addr) (a : Addr) (go : Obj), @DG _ (tabsIn c' P') (gcR X scope c' A s4 H5 fp a go) tg is tgt)
    (ht : ∀ (c' P' : Addr) (A : Around) (s4 : Shared) (H5 : Hp) (fp : List Addr) (a : Addr) (go : Obj), Room k (gcR X scope c' A s4 H5 fp a go).A → (gcR X scope c' A s4 H5 fp a go).A.guards = some [] → @DTs _ (tabsIn c' P') (gcR X scope c' A s4 H5 fp a go) ifs tt)
    (he : ∀ (c' P' : Addr) (A : Around) (s4 : Shared) (H5 : Hp) (fp : List Addr) (a : Addr) (go : Obj), Room k (gcR X scope c' A s4 H5 fp a go).A → (gcR X scope c' A s4 H5 fp a go).A.guards = some [] → @DE _ (tabsIn c' P') (gcR X scope c' A s4 H5 fp a go) elt te)
    (hv : (is.all fun i => vs.contains i) = true) (hvs : own.map (·.2) = vs := by rfl) (hco : scope.isCoroutine = false := by rfl) (h0 : scope.names.lookup (".0" : Str) = some NameKind.local := by rfl) (hs : ∀ x, genFold iter X.env x = pure x := by intro _; rfl) :
    GxOk X k t tg iter elt ifs scope gpos vs mi tgt tt te :=
  ⟨hr, hgd, hN, hi, hc, htm, hnm, hco, h0, hs, own, is, B, fun p hp => by rw [← hvs]; exact List.mem_map.mpr ⟨p, hp, rfl⟩, fun i h => by simpa using List.all_eq_true.mp hv i h, fun c' P' A s4 H5 fp a go h1 h2 => ⟨hg c' P' A s4 H5 fp a go, ht c' P' A s4 H5 fp a go h1 h2, he c' P' A s4 H5 fp a go h1 h2⟩⟩
theorem cnTrue {Sx bs : List Addr} : CnOk Sx bs (fun _ _ _ => True) := fun _ _ _ _ _ _ _ _ => trivial
theorem room2 {env : Env} {A : Around} (h : Room (k + 1) A) : Room k (A.in1.in1.deeper env) :=
  ⟨h.hd, by have := h.dp; show A.depth + 1 + 3 * k + 5 < _; omega, by have := h.un; show A.units + 1 + 1 + 3 + 16 * k + 200 < _; omega⟩
theorem de_all (G : GxOk X k t tg iter elt ifs scope gpos vs mi tgt tt te) (hg : Gl X "all") (hm : X.mg "all" = none)
    (he : starEach [.GeneratorExp elt [⟨tg, iter, ifs, 0⟩] scope gpos] X.env = (false, eval (.GeneratorExp elt [⟨tg, iter, ifs, 0⟩] scope gpos) X.env) :: starEach [] X.env := by rfl) :
    DE X (.Call (.Name "all" p) [.GeneratorExp elt [⟨tg, iter, ifs, 0⟩] scope gpos] [] pos) (mAll mi vs tgt tt te) := by
  refine ⟨fun pins s σ H Q I ⟨as, ρ, S, v, S', R, E, e, kk⟩ => ?_⟩
  obtain ⟨⟨xs, S1⟩, e1, e⟩ := Option.bind_eq_some_iff.mp e
  obtain ⟨⟨all, fin, Sf⟩, e2, e⟩ := Option.bind_eq_some_iff.mp e
  cases e
  obtain ⟨own, is, B, hvs, hv, hb⟩ := G.body
  refine wpAny_Call_Name_kw (ld_blt I hg hm PyProof.Rows.boot_all ?_)
  refine PyProof.Rows.callWith_builtin1 ?_ he (by rfl)
  rw [he]
  show wpAny _ _ (spliced ((false, eval (.GeneratorExp elt [⟨tg, iter, ifs, 0⟩] scope gpos) X.env) :: backTo pos (starEach [] X.env))) _ _ s
  refine Calls.spliced_cons (gx_eval G.room G.it G.code G.mem G.co G.dot B G.nm G.fold I R E e1 fun H5 s4 c' P' fp tn J it a go h' m s5 W X5 => ?_)
  refine Calls.spliced_nil ?_
  refine call_function_tree F.kind_all F.plain_all F.entry_all (F.args_all1 _) ?_
  unfold Builtin.«all»
  refine wpAny_bind (m := oneArg "all" _) (wpAny_pure ?_)
  refine wpAny_bind (wpAny_pyIter_gen W.isGen ?_)
  obtain ⟨b1, b2, b3⟩ := hb c' P' X.A.in1.in1 s4 H5 fp a go (room2 G.room) G.gd
  refine wpAny_pure ⟨plainId_quiet F.plain_all_loop _, @all_loop _ (tabsIn c' P') X scope _ _ _ X.A.in1.in1 s4 H5 fp _ tn as (wipeR ρ vs) (fun _ _ _ => True) (fun _ _ _ => trivial) all fin Sf X.A _ a go s4.gens.size rfl G.room.hd G.room.depth rfl W.isG (fun s' hB => ?_) all.length s5 _ W.nolimit W.isGen W.bare W.gen
    (W.wake (Sx := []) cnTrue B G.nd hvs hv G.co b1 b2 b3 G.room.hd I.ok.frames e2 (fun _ _ q => q) rfl (setGen_bare W.bare rfl) (fun _ z => nomatch z) trivial)⟩
  obtain ⟨H6, J6, X6, R6⟩ := gx_back W.inv W.fpk hB
  exact ⟨.bl fin, H6, J6, rfl, kk _ H6 R6 (X5.trans X6) (.bl fin)⟩
theorem de_any (G : GxOk X k t tg iter elt ifs scope gpos vs mi tgt tt te) (hg : Gl X "any") (hm : X.mg "any" = none)
    (he : starEach [.GeneratorExp elt [⟨tg, iter, ifs, 0⟩] scope gpos] X.env = (false, eval (.GeneratorExp elt [⟨tg, iter, ifs, 0⟩] scope gpos) X.env) :: starEach [] X.env := by rfl) :
    DE X (.Call (.Name "any" p) [.GeneratorExp elt [⟨tg, iter, ifs, 0⟩] scope gpos] [] pos) (mAny mi vs tgt tt te) := by
  refine ⟨fun pins s σ H Q I ⟨as, ρ, S, v, S', R, E, e, kk⟩ => ?_⟩
  obtain ⟨⟨xs, S1⟩, e1, e⟩ := Option.bind_eq_some_iff.mp e
  obtain ⟨⟨all, fin, Sf⟩, e2, e⟩ := Option.bind_eq_some_iff.mp e
  cases e
  obtain ⟨own, is, B, hvs, hv, hb⟩ := G.body
  refine wpAny_Call_Name_kw (ld_blt I hg hm PyProof.Rows.boot_any ?_)
  refine PyProof.Rows.callWith_builtin1 ?_ he (by rfl)
  rw [he]
  show wpAny _ _ (spliced ((false, eval (.GeneratorExp elt [⟨tg, iter, ifs, 0⟩] scope gpos) X.env) :: backTo pos (starEach [] X.env))) _ _ s
  refine Calls.spliced_cons (gx_eval G.room G.it G.code G.mem G.co G.dot B G.nm G.fold I R E e1 fun H5 s4 c' P' fp tn J it a go h' m s5 W X5 => ?_)
  refine Calls.spliced_nil ?_
  refine call_function_tree F.kind_any F.plain_any F.entry_any (F.args_any1 _) ?_
  unfold Builtin.«any»
  refine wpAny_bind (m := oneArg "any" _) (wpAny_pure ?_)
  refine wpAny_bind (wpAny_pyIter_gen W.isGen ?_)
  obtain ⟨b1, b2, b3⟩ := hb c' P' X.A.in1.in1 s4 H5 fp a go (room2 G.room) G.gd
  refine wpAny_pure ⟨plainId_quiet F.plain_any_loop _, @any_loop _ (tabsIn c' P') X scope _ _ _ X.A.in1.in1 s4 H5 fp _ tn as (wipeR ρ vs) (fun _ _ _ => True) (fun _ _ _ => trivial) all fin Sf X.A _ a go s4.gens.size rfl G.room.hd G.room.depth rfl W.isG (fun s' hB => ?_) all.length s5 _ W.nolimit W.isGen W.bare W.gen
    (W.wake (Sx := []) cnTrue B G.nd hvs hv G.co b1 b2 b3 G.room.hd I.ok.frames e2 (fun _ _ q => q) rfl (setGen_bare W.bare rfl) (fun _ z => nomatch z) trivial)⟩
  obtain ⟨H6, J6, X6, R6⟩ := gx_back W.inv W.fpk hB
  exact ⟨.bl (!fin), H6, J6, rfl, kk _ H6 R6 (X5.trans X6) (.bl _)⟩
end
end DL

namespace DL
open PySem PySem.Spec PyProof.Rows L2 DK
variable [Nms] [T0 : Tabs]
def isum : List PyData → Int
  | [] => 0
  | .int i :: r => i + isum r
  | _ :: r => isum r
theorem isum_app (i : Int) : ∀ l : List PyData, isum (l ++ [.int i]) = isum l + i
  | [] => by simp [isum]
  | .int j :: r => by
    show j + isum (r ++ [.int i]) = j + isum r + i
    rw [isum_app i r]
    omega
  | .none :: r => isum_app i r
  | .bool _ :: r => isum_app i r
  | .str _ :: r => isum_app i r
  | .list _ :: r => isum_app i r
  | .tuple _ :: r => isum_app i r
  | .dict _ :: r => isum_app i r
theorem take_snoc {α : Type} {l : List α} {j : Nat} {y : α} (h : l[j]? = some y) : l.take (j + 1) = l.take j ++ [y] := by
  rw [List.take_add_one, h]
  rfl
def stopSum : PyData → Option Bool
  | .int _ => some false
  | _ => none
def cnSum (S : Addr) (all : List PyData) : Nat → Hp → Heap → Prop := fun j _ h => ∃ tA c, h.get? S = some { cls := .type "list", dict := none, data := .seq #[.int (isum (all.take j)) tA] c, slots := #[] }
theorem cnSum_ok {S : Addr} {bs : List Addr} {all : List PyData} : CnOk [S] bs (cnSum S all) := fun j H H' h h' ⟨tA, c, e⟩ _ k => ⟨tA, c, by rw [k S (List.mem_singleton.mpr rfl)]; exact e⟩
section
variable {X : Cx} {scope : Scope} {cl : List (Str × Addr)} {C : Addr} {code : Value} {A : Around} {sb : Shared} {Hb : Hp} {fp : List Addr} {pn : List (Addr × Obj)} {tn : Nat → Heap → Prop} {bs : List Addr}
/-- sum(…): its loop -/
theorem sum_loop {ρ : RE} {S : Addr} {all : List PyData} {e : Bool} {Sf : Sto} {Ab : Around} {R : Result → Shared → Prop} {a : Addr} {go : Obj} {g : Nat} (hA : A = Ab.in1.in1) (hh : Ab.handled = none) (hd : Ab.depth < recursionLimit) (hpn : pn = [(a, go)]) (hgo : ∀ h : Heap, h.get? a = some go → h.IsGen a g) (hSa : S ≠ a) (hSc : S ≠ cStatics)
    (hend : ∀ s' t', GBack X fp bs sb Hb Sf s' → R (.ok (.ret (.int (isum all) t'))) s') :
    ∀ (n : Nat) (s : Shared) (gs : GenState) (stage : Int), (stage = 0 ∨ stage = 2) → s.heap.NoLimit → s.heap.IsGen a g → AllBare s.gens → s.gens[g]? = some gs → (∃ z tA c, s.heap.get? S = some { cls := .type "list", dict := none, data := .seq #[.int z tA] c, slots := #[] }) →
      gs.Goes (model X.prog X.w) A (GFin (gcx X scope cl C code A sb Hb fp pn) [S] bs Hb (cnSum S all) all.length e Sf) (GOut (gcx X scope cl C code A sb Hb fp pn) fp [S] tn bs Hb ρ (cnSum S all) stopSum all e Sf) n (.send .none) (s.setGen g .running) →
      codeAny (model X.prog X.w) Ab (.builtin "sum.loop" ⟨[.ref a, .ref S, rawInt stage, rawInt 0], []⟩) R s := by
  subst hA
  intro n
  induction n using Nat.strongRecOn with
  | ind n ih =>
    intro s gs stage hst hl hg hb hgs ⟨z, tA, c, hS⟩ hgoes
    have hgl : g < s.gens.size := (Array.getElem?_eq_some_iff.mp hgs).1
    refine codeAny_builtin F.entry_sum_loop ?_
    rw [Around.under_plainId F.plain_sum_loop _]
    show wpAny _ Ab.in1 (seqItems? (.ref S) >>= _) _ _ s
    refine wpAny_bind (wpAny_seqItems hS rfl ?_)
    show wpAny _ Ab.in1 (tryCatch (pyNext (.ref a)) _ >>= _) _ _ s
    refine wpAny_bind (wpAny_tryCatch (GenW.wpAny_gsz (n := g + 1) hgl (wpAny_pyNext_genexpQ (A := Ab.in1) (P := GFinP (gcx X scope cl C code Ab.in1.in1 sb Hb fp pn) [S] bs Hb (cnSum S all) all.length e Sf) hh hl hd hg hgs hgoes (fun v s₁ gs' hbare hv => ?_) (fun s₁ hp h' hk => ?_))))
    · intro hsz
      obtain ⟨y, x, H, S7, i, hm, hy, rv, dv, hR, hsx, hc⟩ := hv
      obtain ⟨⟨tB, cB, hSB⟩, σ, I, hown, _⟩ := hR
      rcases hc with ⟨c1, _⟩ | ⟨c1, c2⟩
      · cases y <;> cases c1
      · have hyb : ∃ b, y = .int b := by
          cases y with
          | int b => exact ⟨b, rfl⟩
          | _ => cases c1
        obtain ⟨b, rfl⟩ := hyb
        cases dv
        obtain ⟨t, rfl⟩ := (show ∃ t, v = Value.int b t from rv)
        have hz : z = isum (all.take (all.length - 1 - (n - 1))) := by
          have q := hsx S (List.mem_singleton.mpr rfl)
          have q2 : s₁.heap.get? S = s.heap.get? S := q
          rw [hSB, hS] at q2
          have q3 := congrArg Obj.data (Option.some.inj q2)
          have q4 : Data.seq #[Value.int (isum (all.take (all.length - 1 - (n - 1)))) tB] cB = Data.seq #[Value.int z tA] c := q3
          injection q4 with q5 q6
          have q7 := congrArg Array.toList q5
          simp at q7
          exact q7.1.symm
        have hnext : z + b = isum (all.take (all.length - (n - 1))) := by
          have e1 : all.length - (n - 1) = all.length - 1 - (n - 1) + 1 := by omega
          rw [e1, take_snoc hy, isum_app, hz]
        have hSs : s₁.heap.get? S = some { cls := .type "list", dict := none, data := .seq #[.int z tA] c, slots := #[] } := by
          have q2 : s₁.heap.get? S = s.heap.get? S := hsx S (List.mem_singleton.mpr rfl)
          rw [q2]; exact hS
        have hga : s₁.heap.get? a = some go := (I.pin (a, go) (List.mem_append_left _ (by show (a, go) ∈ pn; rw [hpn]; exact List.mem_singleton.mpr rfl))).1
        have hsz1 : g < s₁.gens.size := by
          have q : (s₁.setGen g gs').gens.size = s₁.gens.size := GenW.setGen_size _ _ _
          have hsz' : g + 1 ≤ (s₁.setGen g gs').gens.size := hsz
          omega
        -- the next turn, from a heap in which S alone has changed
        have next : ∀ (h2 : Heap) (tk : Nat) (tC : Tok) (cC : Nat) (stage2 : Int), (stage2 = 0 ∨ stage2 = 2) → (∀ b o, b ≠ S → s₁.heap.get? b = some o → h2.get? b = some o) → h2.get? S = some { cls := .type "list", dict := none, data := .seq #[.int (z + b) tC] cC, slots := #[] } →
            codeAny (model X.prog X.w) Ab (.builtin "sum.loop" ⟨[.ref a, .ref S, rawInt stage2, rawInt 0], []⟩) R { s₁.setGen g gs' with heap := h2, toks := tk } := fun h2 tk tC cC stage2 hs2 hk2 hS2 => by
          have go2 := c2 (({ s₁.setGen g gs' with heap := h2, toks := tk } : Shared).setGen g .running) ⟨rfl, setGen_bare (s := { s₁.setGen g gs' with heap := h2, toks := tk }) (setGen_bare I.bare hbare) rfl, fun b o hb q => hk2 b o (fun w => hb (by rw [w]; exact List.mem_singleton.mpr rfl)) q, fun b hb => by
            rcases List.mem_singleton.mp hb with rfl
            exact ⟨_, hS2, fun v w => by cases w⟩⟩ ⟨tC, cC, by rw [← hnext]; exact hS2⟩
          cases n with
          | zero => exact False.elim go2
          | succ m =>
            refine ih m (Nat.lt_succ_self m) { s₁.setGen g gs' with heap := h2, toks := tk } gs' stage2 hs2 ?_ (hgo _ (hk2 a go (Ne.symm hSa) hga)) (setGen_bare I.bare hbare) (setGen_at hsz1) ⟨_, tC, cC, hS2⟩ go2
            obtain ⟨mc, hns, hnn⟩ := I.nolimit
            exact ⟨mc, hns.at' fun o q => hk2 _ o (Ne.symm hSc) q, hnn⟩
        rcases hst with rfl | rfl
        · show wpAny _ Ab.in1 (if (_ : Bool) = true then (mkInt (z + b) >>= _) else _) _ _ _
          split
          · refine wpAny_bind (wpAny_mkInt ?_)
            show wpAny _ Ab.in1 (updateSeq S (fun _ => #[.int (z + b) s₁.toks]) >>= _) _ _ _
            refine wpAny_bind ?_
            refine wpAny_updateSeq hSs rfl (wpAny_pure ⟨plainId_quiet F.plain_sum_loop _, ?_⟩)
            exact next _ _ _ _ 0 (.inl rfl) (fun b o hb q => (Heap.get?_update_other _ _ (Ne.symm hb)).trans q) (Heap.get?_update_self _ hSs rfl)
          · refine wpAny_bind (wpAny_rule ?_)
            refine wpAny_bind (wpAny_attempt (wpAny_holding (PySem.P.add_int ?_)))
            show wpAny _ Ab.in1 (updateSeq S (fun _ => #[.int (z + b) s₁.toks]) >>= _) _ _ _
            refine wpAny_bind ?_
            refine wpAny_updateSeq hSs rfl ?_
            have hS2 := Heap.get?_update_self (Obj.mapSeq fun _ => #[Value.int (z + b) s₁.toks]) hSs rfl
            refine wpAny_bind (wpAny_letGo ?_)
            refine wpAny_bind ?_
            refine wpAny_updateSeq hS2 rfl (wpAny_pure ⟨plainId_quiet F.plain_sum_loop _, ?_⟩)
            exact next _ _ _ _ 2 (.inr rfl) (fun b o hb q => (Heap.get?_update_other _ _ (Ne.symm hb)).trans ((Heap.get?_update_other _ _ (Ne.symm hb)).trans q)) (Heap.get?_update_self _ hS2 rfl)
        · show wpAny _ Ab.in1 ((holding [Value.int b t] (binaryOp .Add (.int z tA) (.int b t))).attempt >>= _) _ _ _
          refine wpAny_bind (wpAny_attempt (wpAny_holding (PySem.P.add_int ?_)))
          show wpAny _ Ab.in1 (updateSeq S (fun _ => #[.int (z + b) s₁.toks]) >>= _) _ _ _
          refine wpAny_bind ?_
          refine wpAny_updateSeq hSs rfl ?_
          have hS2 := Heap.get?_update_self (Obj.mapSeq fun _ => #[Value.int (z + b) s₁.toks]) hSs rfl
          refine wpAny_bind (wpAny_letGo ?_)
          refine wpAny_bind ?_
          refine wpAny_updateSeq hS2 rfl (wpAny_pure ⟨plainId_quiet F.plain_sum_loop _, ?_⟩)
          exact next _ _ _ _ 2 (.inr rfl) (fun b o hb q => (Heap.get?_update_other _ _ (Ne.symm hb)).trans ((Heap.get?_update_other _ _ (Ne.symm hb)).trans q)) (Heap.get?_update_self _ hS2 rfl)
    · intro _
      obtain ⟨_, he, σ, H, P, ⟨tB, cB, hSB⟩, _, I, hsx, E1, R1⟩ := hp
      have hz : z = isum all := by
        have q2 : s₁.heap.get? S = s.heap.get? S := hsx S (List.mem_singleton.mpr rfl)
        rw [hSB, hS] at q2
        have q3 := congrArg Obj.data (Option.some.inj q2)
        have q4 : Data.seq #[Value.int (isum (all.take all.length)) tB] cB = Data.seq #[Value.int z tA] c := q3
        injection q4 with q5 q6
        have q7 := congrArg Array.toList q5
        simp at q7
        exact q7.1.symm
      subst hz
      exact wpAny_pure (hend _ _ (GBack.of I E1 R1 rfl (setGen_bare I.bare rfl) hk))
end
def mSumG (mi : ML) (vs : List Nat) (tgt : TgD) (tt : MB) (te : M) : M := fun ρ S => (mi ρ S).bind fun p => (gxGo stopSum tgt tt te (wipeR ρ vs) p.1 p.2).bind fun r => some (.d (.int (isum r.1)), r.2.2)
section
variable {X : Cx} {tg iter elt : Expr} {ifs : List Expr} {scope : Scope} {p pos gpos : Pos} {vs is : List Nat} {mi : ML} {tgt : TgD} {tt : MB} {te : M} {t : Tb} {k : Nat}
theorem de_sumG (G : GxOk X k t tg iter elt ifs scope gpos vs mi tgt tt te) (hg : Gl X "sum") (hm : X.mg "sum" = none)
    (he : starEach [.GeneratorExp elt [⟨tg, iter, ifs, 0⟩] scope gpos] X.env = (false, eval (.GeneratorExp elt [⟨tg, iter, ifs, 0⟩] scope gpos) X.env) :: starEach [] X.env := by rfl) :
    DE X (.Call (.Name "sum" p) [.GeneratorExp elt [⟨tg, iter, ifs, 0⟩] scope gpos] [] pos) (mSumG mi vs tgt tt te) := by
  refine ⟨fun pins s σ H Q I ⟨as, ρ, S, v, S', R, E, e, kk⟩ => ?_⟩
  obtain ⟨⟨xs, S1⟩, e1, e⟩ := Option.bind_eq_some_iff.mp e
  obtain ⟨⟨all, fin, Sf⟩, e2, e⟩ := Option.bind_eq_some_iff.mp e
  cases e
  obtain ⟨own, is, B, hvs, hv, hb⟩ := G.body
  refine wpAny_Call_Name_kw (ld_blt I hg hm PyProof.Rows.boot_sum ?_)
  refine PyProof.Rows.callWith_builtin1 ?_ he (by rfl)
  rw [he]
  show wpAny _ _ (spliced ((false, eval (.GeneratorExp elt [⟨tg, iter, ifs, 0⟩] scope gpos) X.env) :: backTo pos (starEach [] X.env))) _ _ s
  refine Calls.spliced_cons (gx_eval G.room G.it G.code G.mem G.co G.dot B G.nm G.fold I R E e1 fun H5 s4 c' P' fp tn J it a go h' m s5 W X5 => ?_)
  refine Calls.spliced_nil ?_
  refine call_function_tree F.kind_sum F.plain_sum F.entry_sum (F.args_sum1 _) ?_
  unfold Builtin.«sum»
  simp only [List.length_cons, List.length_nil]
  rw [if_neg (by decide)]
  refine wpAny_bind (wpAny_of_eq (show Builtin.Builtins.bindParams "sum" ["start"] 0 { } = pure [none] from rfl) ?_)
  refine wpAny_bind (wpAny_pyIter_gen W.isGen ?_)
  refine wpAny_bind (wpAny_mkInt ?_)
  refine wpAny_bind (wpAny_pure ?_)
  simp only [List.forIn_cons, List.forIn_nil]
  refine wpAny_bind (wpAny_bind (wpAny_bind (wpAny_isInstance (T := "int") (b := false) (PySem.typeIs_int _ _ _) PySem.sub_int_str ?_)))
  simp only [Bool.false_eq_true, if_false]
  refine wpAny_pure (wpAny_bind (wpAny_bind (wpAny_isInstance (T := "int") (b := false) (PySem.typeIs_int _ _ _) PySem.sub_int_bytes ?_)))
  simp only [Bool.false_eq_true, if_false]
  refine wpAny_pure (wpAny_bind (wpAny_bind (wpAny_isInstance (T := "int") (b := false) (PySem.typeIs_int _ _ _) PySem.sub_int_bytearray ?_)))
  simp only [Bool.false_eq_true, if_false]
  refine wpAny_pure (wpAny_pure ?_)
  refine wpAny_bind (wpAny_newObj_type ?_)
  obtain ⟨b1, b2, b3⟩ := hb c' P' X.A.in1.in1 s4 H5 fp a go (room2 G.room) G.gd
  have hS : (s5.heap.push { cls := .type "list", data := .seq #[Value.int 0 s5.toks] }).get? s5.heap.objs.size = some { cls := .type "list", data := .seq #[Value.int 0 s5.toks] } := Heap.get?_push_size _ rfl
  have kp : ∀ b o, s5.heap.get? b = some o → (s5.heap.push { cls := .type "list", data := .seq #[Value.int 0 s5.toks] }).get? b = some o := fun b o q => Heap.get?_push_of_some _ q
  have alt : a < s5.heap.objs.size := Heap.lt_size W.atG
  have clt : cStatics < s5.heap.objs.size := let ⟨_, hn, _⟩ := W.nolimit; hn.lt
  refine wpAny_pure ⟨plainId_quiet F.plain_sum_loop _, @sum_loop _ (tabsIn c' P') X scope _ _ _ X.A.in1.in1 s4 H5 fp _ tn as (wipeR ρ vs) s5.heap.objs.size all fin Sf X.A _ a go s4.gens.size rfl G.room.hd G.room.depth rfl W.isG (Nat.ne_of_gt alt) (Nat.ne_of_gt clt) (fun s' t' hB => ?_) all.length _ _ 0 (.inl rfl) (W.nolimit.keeps kp) (W.isG _ (kp _ _ W.atG)) W.bare W.gen ⟨0, s5.toks, 0, hS⟩
    (W.wake (Sx := [s5.heap.objs.size]) cnSum_ok B G.nd hvs hv G.co b1 b2 b3 G.room.hd I.ok.frames e2 kp rfl (setGen_bare W.bare rfl) (fun b hb => by
      rcases List.mem_singleton.mp hb with rfl
      exact ⟨Nat.le_refl _, _, hS, fun v z => by cases z⟩) ⟨s5.toks, 0, hS⟩)⟩
  obtain ⟨H6, J6, X6, R6⟩ := gx_back W.inv W.fpk hB
  exact ⟨.int _, H6, J6, ⟨_, rfl⟩, kk _ H6 R6 (X5.trans X6) (.int _)⟩
end
end DL

namespace DL
open PySem PySem.Spec PyProof.Rows L2 DK
variable [Nms] [T0 : Tabs]
abbrev lsO (acc : Array Value) (c : Nat) : Obj := { cls := .type "list", dict := none, data := .seq acc c, slots := #[] }
def stopNo : PyData → Option Bool := fun _ => some false
def cnTup (K : Fg) (bs : List Addr) (S : Addr) (all : List PyData) : Nat → Hp → Heap → Prop := fun j H h => ∃ ws acc c, h.get? S = some (lsO acc c) ∧ Vals ws acc.toList ∧ DpAll K (hide bs H) ws (all.take j)
theorem cnTup_ok {K : Fg} {S : Addr} {bs : List Addr} {all : List PyData} : CnOk [S] bs (cnTup K bs S all) := fun j H H' h h' ⟨ws, acc, c, e, v, d⟩ x k => ⟨ws, acc, c, by rw [k S (List.mem_singleton.mpr rfl)]; exact e, v, dpAll_mono x.same _ _ d⟩
section
variable {X : Cx} {scope : Scope} {cl : List (Str × Addr)} {C : Addr} {code : Value} {A : Around} {sb : Shared} {Hb : Hp} {fp : List Addr} {pn : List (Addr × Obj)} {tn : Nat → Heap → Prop} {bs : List Addr}
/-- a list that takes all of it: its loop -/
theorem ext_loop {ρ : RE} {S : Addr} {all : List PyData} {e : Bool} {Sf : Sto} {Ab : Around} {R : Result → Shared → Prop} {a : Addr} {go : Obj} {g : Nat} {res : Value} (hA : A = Ab.in1.in1) (hh : Ab.handled = none) (hd : Ab.depth < recursionLimit) (hpn : pn = [(a, go)]) (hgo : ∀ h : Heap, h.get? a = some go → h.IsGen a g) (hSa : S ≠ a) (hSc : S ≠ cStatics) (hall : all.length ≤ 1000000)
    (hend : ∀ s' ws acc c H, s'.heap.get? S = some (lsO acc c) → Vals ws acc.toList → DpAll X.K (hide bs H) ws all → s'.os = sb.os → AllBare s'.gens → Un (frs X.stack) fp Hb H sb.heap s'.heap → HOk X.prog X.w H s'.heap → Ext bs Hb bs H → Rel X.K bs Sf H → R (.ok (.ret res)) s') :
    ∀ (n : Nat) (s : Shared) (gs : GenState), s.heap.NoLimit → s.heap.IsGen a g → AllBare s.gens → s.gens[g]? = some gs →
      gs.Goes (model X.prog X.w) A (GFin (gcx X scope cl C code A sb Hb fp pn) [S] bs Hb (cnTup X.K bs S all) all.length e Sf) (GOut (gcx X scope cl C code A sb Hb fp pn) fp [S] tn bs Hb ρ (cnTup X.K bs S all) stopNo all e Sf) n (.send .none) (s.setGen g .running) →
      codeAny (model X.prog X.w) Ab (.builtin "list.extend.loop" ⟨[.ref S, .ref a, res], []⟩) R s := by
  subst hA
  intro n
  induction n using Nat.strongRecOn with
  | ind n ih =>
    intro s gs hl hg hb hgs hgoes
    have hgl : g < s.gens.size := (Array.getElem?_eq_some_iff.mp hgs).1
    refine codeAny_builtin F.entry_extend_loop ?_
    rw [Around.under_plainId F.plain_extend_loop _]
    show wpAny _ Ab.in1 (pyNext (.ref a) >>= _) _ _ s
    refine wpAny_bind (GenW.wpAny_gsz (n := g + 1) hgl (wpAny_pyNext_genexpQ (A := Ab.in1) (P := GFinP (gcx X scope cl C code Ab.in1.in1 sb Hb fp pn) [S] bs Hb (cnTup X.K bs S all) all.length e Sf) hh hl hd hg hgs hgoes (fun v s₁ gs' hbare hv => ?_) (fun s₁ hp h' hk => ?_)))
    · intro hsz
      obtain ⟨y, x, H, S7, i, hm, hy, rv, dv, hR, hsx, hc⟩ := hv
      obtain ⟨⟨ws, acc, c, hSB, hvl, hda⟩, σ, I, hown, _⟩ := hR
      rcases hc with ⟨c1, _⟩ | ⟨c1, c2⟩
      · cases c1
      · have hga : s₁.heap.get? a = some go := (I.pin (a, go) (List.mem_append_left _ (by show (a, go) ∈ pn; rw [hpn]; exact List.mem_singleton.mpr rfl))).1
        have hsz1 : g < s₁.gens.size := by
          have q : (s₁.setGen g gs').gens.size = s₁.gens.size := GenW.setGen_size _ _ _
          have hsz' : g + 1 ≤ (s₁.setGen g gs').gens.size := hsz
          omega
        have hasz : acc.size < 1000000 := by
          have l1 := hvl.length
          have l2 := dpAll_len hda
          rw [List.length_take] at l2
          have l3 : acc.toList.length = acc.size := by simp
          omega
        have hln : (1000000 : Nat) < sizeLine := by rw [sizeLine_eq]; decide
        show wpAny _ Ab.in1 (updateSeq S (·.push v) >>= _) _ _ _
        refine wpAny_bind ?_
        refine wpAny_updateSeq hSB rfl (wpAny_pure ⟨plainId_quiet F.plain_extend_loop _, ?_⟩) (by omega) (by show (acc.push v).size ≤ sizeLine + 1; rw [Array.size_push]; omega)
        have hS2 := Heap.get?_update_self (Obj.mapSeq (·.push v)) hSB rfl
        have hk2 : ∀ b o, b ≠ S → s₁.heap.get? b = some o → (s₁.heap.update S (Obj.mapSeq (·.push v))).get? b = some o := fun b o hb q => (Heap.get?_update_other _ _ (Ne.symm hb)).trans q
        have hC : cnTup X.K bs S all (all.length - (n - 1)) H (s₁.heap.update S (Obj.mapSeq (·.push v))) := by
          have e1 : all.length - (n - 1) = all.length - 1 - (n - 1) + 1 := by omega
          refine ⟨ws ++ [x], acc.push v, _, hS2, ?_, ?_⟩
          · rw [Array.toList_push]
            exact hvl.append (.cons rv .nil)
          · rw [e1, take_snoc hy]
            exact dpAll_append hda (.cons dv .nil)
        have go2 := c2 (({ s₁.setGen g gs' with heap := s₁.heap.update S (Obj.mapSeq (·.push v)) } : Shared).setGen g .running) ⟨rfl, setGen_bare (s := { s₁.setGen g gs' with heap := s₁.heap.update S (Obj.mapSeq (·.push v)) }) (setGen_bare I.bare hbare) rfl, fun b o hb q => hk2 b o (fun w => hb (by rw [w]; exact List.mem_singleton.mpr rfl)) q, fun b hb => by
          rcases List.mem_singleton.mp hb with rfl
          exact ⟨_, hS2, fun v w => by cases w⟩⟩ hC
        cases n with
        | zero => exact False.elim go2
        | succ m =>
          refine ih m (Nat.lt_succ_self m) { s₁.setGen g gs' with heap := s₁.heap.update S (Obj.mapSeq (·.push v)) } gs' ?_ (hgo _ (hk2 a go (Ne.symm hSa) hga)) (setGen_bare I.bare hbare) (setGen_at hsz1) go2
          obtain ⟨mc, hns, hnn⟩ := I.nolimit
          exact ⟨mc, hns.at' fun o q => hk2 _ o (Ne.symm hSc) q, hnn⟩
    · intro _
      obtain ⟨_, he, σ, H, P, ⟨ws, acc, c, hSB, hvl, hda⟩, _, I, hsx, E1, R1⟩ := hp
      rw [List.take_length] at hda
      exact wpAny_pure (hend _ ws acc c H (hk _ _ hSB) hvl hda I.os (setGen_bare I.bare rfl) (I.base.trans (Un.kept hk)) (I.hok.kept hk) E1 R1)
end
/-- collect of a generator -/
theorem collect_gen {prog : Program} {w : World} {A : Around} {E : Value → Shared → Prop} {s : Shared} {a : Addr} {g : Nat} {Q : List Value → Shared → Prop} (hg : s.heap.IsGen a g)
    (h : ∀ h2 : Heap, (∀ b o, s.heap.get? b = some o → h2.get? b = some o) → (∃ c, h2.get? s.heap.objs.size = some (lsO #[] c)) → codeAny (model prog w) A (.builtin "list.extend.loop" ⟨[.ref s.heap.objs.size, .ref a, .ref s.heap.objs.size], []⟩) (fun r s' => ∃ acc c, r = .ok (.ret (.ref s.heap.objs.size)) ∧ s'.heap.get? s.heap.objs.size = some (lsO acc c) ∧ Q acc.toList s') { s with heap := h2 }) :
    wpAny (model prog w) A (collect (.ref a)) Q E s := by
  have hlt : a < s.heap.objs.size := let ⟨_, _, _, e, _⟩ := hg; Heap.lt_size e
  have hSI : s.heap.objs.size ≠ a := Nat.ne_of_gt hlt
  unfold collect
  refine wpAny_bind (wpAny_runValue (codeAny_builtin F.entry_proto_collect ?_))
  rw [Around.under_plainId F.plain_proto_collect _]
  show wpAny _ A.in1 (newList [] >>= fun l => again (.builtin "list.__iadd__" ⟨[l, .ref a], []⟩)) _ _ s
  refine wpAny_bind (wpAny_newObj_type ?_)
  refine wpAny_pure ⟨plainId_quiet F.plain_list_iadd _, codeAny_builtin F.entry_list_iadd ?_⟩
  rw [Around.under_plainId F.plain_list_iadd _]
  have k1 : ∀ b o, s.heap.get? b = some o → (s.heap.push { cls := .type "list", data := .seq ([] : List Value).toArray }).get? b = some o := fun b o e => Heap.get?_push_of_some _ e
  have gty : ∀ {h : Heap}, (∀ b o, s.heap.get? b = some o → h.get? b = some o) → h.IsGen a g := fun {h} q => hg.keeps q
  show wpAny _ A.in1 (Builtin.List.listExtendWith (.ref s.heap.objs.size) (.ref a) (.ref s.heap.objs.size)) _ _ _
  unfold Builtin.List.listExtendWith
  refine wpAny_bind (wpAny_typeOf (Heap.IsGen.typeIs (s := { s with heap := _ }) (gty k1)) ?_)
  have h1 : Builtin.List.listSameRef (.ref s.heap.objs.size) (.ref a) = false := by simp [Builtin.List.listSameRef, hSI]
  have h2 : (Value.type "generator" == Value.type "list") = false := by decide
  have h3 : (Value.type "generator" == Value.type "tuple") = false := by decide
  simp only [h1, h2, h3, Bool.or_false, Bool.false_eq_true, if_false]
  refine wpAny_bind (wpAny_pyIter_gen (s := { s with heap := _ }) (gty k1) ?_)
  refine wpAny_bind (wpAny_holding ?_)
  unfold Builtin.List.listLengthHint
  refine wpAny_bind (wpAny_specialOf (Heap.IsGen.typeIs (s := { s with heap := _ }) (gty k1)) F.gen_no_len ?_)
  show wpAny _ A.in1 (specialOf (Value.ref a) (Str.ofString "__length_hint__") >>= _) _ _ _
  refine wpAny_bind (wpAny_specialOf (Heap.IsGen.typeIs (s := { s with heap := _ }) (gty k1)) F.gen_no_hint ?_)
  refine wpAny_pure ?_
  show wpAny _ A.in1 (rule "list.extend.makes-room" >>= fun _ => Builtin.List.listTouch (.ref s.heap.objs.size) >>= fun _ =>
    again (.builtin "list.extend.loop" ⟨[.ref s.heap.objs.size, .ref a, .ref s.heap.objs.size], []⟩)) _ _ _
  refine wpAny_bind (wpAny_rule ?_)
  have hS₁ : (s.heap.push { cls := .type "list", data := .seq ([] : List Value).toArray }).get? s.heap.objs.size = some { cls := .type "list", data := .seq ([] : List Value).toArray } := Heap.get?_push_size _ rfl
  refine wpAny_bind ?_
  show wpAny _ A.in1 (updateSeq s.heap.objs.size (·.push .none) >>= fun _ => updateSeq s.heap.objs.size (·.pop)) _ _ _
  refine wpAny_bind (wpAny_updateSeq hS₁ rfl ?_)
  have hS₂ := Heap.get?_update_self (Obj.mapSeq (·.push Value.none)) hS₁ rfl
  refine wpAny_updateSeq hS₂ rfl ?_
  have hS₃ := Heap.get?_update_self (Obj.mapSeq (·.pop)) hS₂ rfl
  have up : ∀ (h : Heap) (f : Obj → Obj), (∀ b o, s.heap.get? b = some o → h.get? b = some o) → ∀ b o, s.heap.get? b = some o → (h.update s.heap.objs.size f).get? b = some o := fun h f q b o e =>
    (Heap.get?_update_other _ _ (Ne.symm (Nat.ne_of_lt (Heap.lt_size e)))).trans (q b o e)
  have k3 := up _ (Obj.mapSeq (·.pop)) (up _ (Obj.mapSeq (·.push Value.none)) k1)
  refine wpAny_pure ⟨plainId_quiet F.plain_extend_loop _, codeAny_mono (h _ k3 ⟨_, hS₃⟩) fun r s' z => ?_⟩
  obtain ⟨acc, c, rfl, hS', hq⟩ := z
  show wpAny _ A (load s.heap.objs.size >>= _) _ _ s'
  exact wpAny_bind (wpAny_load hS' (wpAny_pure hq))
theorem tuple_new_gen {prog : Program} {w : World} {A : Around} {E : Value → Shared → Prop} {s : Shared} {a : Addr} {g : Nat} {Q : Value → Shared → Prop} (hg : s.heap.IsGen a g)
    (h : wpAny (model prog w) A.in1 (collect (.ref a)) (fun l s' => l.length ≤ sizeLine ∧ Q (.ref s'.heap.objs.size) { s' with heap := s'.heap.push { cls := .type "tuple", data := .seq l.toArray } }) E s) :
    codeAny (model prog w) A (.call (.builtin "tuple.__new__") ⟨[.type "tuple", .ref a], []⟩) (wants Q E) s := by
  refine codeAny_of_tree ?_
  show wpAny _ A.in1 (do checkBuiltinCall "tuple.__new__" ⟨[.type "tuple", .ref a], []⟩; again (.builtin "tuple.__new__" ⟨[.type "tuple", .ref a], []⟩)) _ _ s
  refine wpAny_bind (wpAny_of_eq (F.newCall_tuple_1 _) (wpAny_pure ⟨plainId_quiet F.plain_tuple_new _, codeAny_builtin F.entry_tuple_new ?_⟩))
  rw [Around.under_plainId F.plain_tuple_new _]
  have hsub := sub_tuple_self
  have hinit := init_tuple_lookup
  have hmh := madeHere_tuple
  have hTI := hg.typeIs
  have hcol : ∀ (Q' : List Value → Shared → Prop), (∀ l s', l.length ≤ sizeLine ∧ Q (.ref s'.heap.objs.size) { s' with heap := s'.heap.push { cls := .type "tuple", data := .seq l.toArray } } → Q' l s') → wpAny (model prog w) A.in1 (collect (.ref a)) Q' E s := fun Q' hq => wpAny_mono h hq fun _ _ z => z
  wp_walk using wpAny_typeOf hTI, hcol
  intro l s' ⟨hz, hq⟩
  show wpAny _ _ (Builtin.Tuple.tupleExact l.toArray >>= fun v => ret v) _ _ _
  unfold Builtin.Tuple.tupleExact
  refine wpAny_bind (wpAny_newObj_type ?_ (by show l.toArray.size ≤ sizeLine; simpa using hz))
  exact wpAny_pure hq
end DL

namespace DL
open PySem PySem.Spec PyProof.Rows L2 DK
variable [Nms] [T0 : Tabs]
def mTupG (mi : ML) (vs : List Nat) (tgt : TgD) (tt : MB) (te : M) : M := fun ρ S => (mi ρ S).bind fun p => (gxGo stopNo tgt tt te (wipeR ρ vs) p.1 p.2).bind fun r => if r.1.length ≤ 1000000 then some (.d (.tuple r.1), r.2.2) else none
section
variable {X : Cx} {tg iter elt : Expr} {ifs : List Expr} {scope : Scope} {p pos gpos : Pos} {vs is : List Nat} {mi : ML} {tgt : TgD} {tt : MB} {te : M} {t : Tb} {k : Nat}
theorem room4 {env : Env} {A : Around} (h : Room (k + 1) A) : Room k (A.in1.in1.in1.in1.deeper env) :=
  ⟨h.hd, by have := h.dp; show A.depth + 1 + 3 * k + 5 < _; omega, by have := h.un; show A.units + 1 + 1 + 1 + 1 + 3 + 16 * k + 200 < _; omega⟩
theorem de_tupG (G : GxOk X k t tg iter elt ifs scope gpos vs mi tgt tt te) (hg : Gl X "tuple") (hm : X.mg "tuple" = none)
    (he : starEach [.GeneratorExp elt [⟨tg, iter, ifs, 0⟩] scope gpos] X.env = (false, eval (.GeneratorExp elt [⟨tg, iter, ifs, 0⟩] scope gpos) X.env) :: starEach [] X.env := by rfl) :
    DE X (.Call (.Name "tuple" p) [.GeneratorExp elt [⟨tg, iter, ifs, 0⟩] scope gpos] [] pos) (mTupG mi vs tgt tt te) := by
  refine ⟨fun pins s σ H Q I ⟨as, ρ, S, v, S', R, E, e, kk⟩ => ?_⟩
  obtain ⟨⟨xs, S1⟩, e1, e⟩ := Option.bind_eq_some_iff.mp e
  obtain ⟨⟨all, fin, Sf⟩, e2, e⟩ := Option.bind_eq_some_iff.mp e
  dsimp only at e
  split at e
  case isFalse => cases e
  case isTrue hall =>
  injection e with e
  injection e with ev eS
  subst ev
  subst eS
  obtain ⟨own, is, B, hvs, hv, hb⟩ := G.body
  refine wpAny_Call_Name_kw (ld_blt I hg hm PyProof.Rows.boot_tuple ?_)
  refine PyProof.Rows.callWith_type1 ?_ he (by rfl)
  rw [he]
  show wpAny _ _ (spliced ((false, eval (.GeneratorExp elt [⟨tg, iter, ifs, 0⟩] scope gpos) X.env) :: backTo pos (starEach [] X.env))) _ _ s
  refine Calls.spliced_cons (gx_eval G.room G.it G.code G.mem G.co G.dot B G.nm G.fold I R E e1 fun H5 s4 c' P' fp tn J it a go h' m s5 W X5 => ?_)
  refine Calls.spliced_nil ?_
  obtain ⟨b1, b2, b3⟩ := hb c' P' X.A.in1.in1.in1.in1 s4 H5 fp a go (room4 G.room) G.gd
  have alt : a < s5.heap.objs.size := Heap.lt_size W.atG
  have clt : cStatics < s5.heap.objs.size := let ⟨_, hn, _⟩ := W.nolimit; hn.lt
  refine callType_codes (Q₁ := fun obj s₁ => s₁.TypeIs obj "tuple" ∧ EP X pins σ Q obj s₁) F.called_tuple (F.typeCall_tuple_1 _) F.entry_object_init
    (tuple_new_gen W.isGen (collect_gen W.isGen fun h2 kp ⟨c0, hS⟩ => ?_)) fun obj s₁ h₁ => ?_
  · refine @ext_loop _ (tabsIn c' P') X scope _ _ _ X.A.in1.in1.in1.in1 s4 H5 fp _ tn as (wipeR ρ vs) s5.heap.objs.size all fin _ X.A.in1.in1 _ a go s4.gens.size _ rfl G.room.hd G.room.depth rfl W.isG (Nat.ne_of_gt alt) (Nat.ne_of_gt clt) hall (fun s' ws acc c H6 q1 q2 q3 q4 q5 q6 q7 q8 q9 => ?_) all.length { s5 with heap := h2 } _ (W.nolimit.keeps kp) (W.isG _ (kp _ _ W.atG)) W.bare W.gen
      (W.wake (Sx := [s5.heap.objs.size]) cnTup_ok B G.nd hvs hv G.co b1 b2 b3 G.room.hd I.ok.frames e2 kp rfl (setGen_bare (s := { s5 with heap := h2 }) W.bare rfl) (fun b hb => ?_) ⟨[], #[], c0, hS, .nil, .nil⟩)
    · have hz : acc.toList.length ≤ sizeLine := by
        rw [← q2.length, dpAll_len q3]
        exact million hall
      refine ⟨acc, c, rfl, q1, hz, ⟨_, Heap.get?_push_size _ rfl, rfl⟩, ?_⟩
      have J6 : Inv X pins σ H6 s' := by
        refine W.inv.call' (ch := fp) q4 q6 q7 q5 fun b hb => ?_
        obtain ⟨_, a2, _, a4, a5, a6⟩ := W.fpk b hb
        exact ⟨a4, a2, a5, a6⟩
      have nw := laidT J6 q2 (by rw [q2.length]; exact hz)
      have hn : H6 s'.heap.objs.size = none := J6.hok.fresh (Nat.le_refl _)
      refine ⟨.ref s'.heap.objs.size, _, nw, rfl, ?_⟩
      obtain ⟨R8, X8, V8⟩ := q9.newT (o := tupO acc.toList) q3 rfl hn
      exact kk _ _ R8 (X5.trans (q8.trans X8)) V8
    · rcases List.mem_singleton.mp hb with rfl
      exact ⟨Nat.le_refl _, _, hS, fun v z => by cases z⟩
  · exact ⟨h₁.1, F.args_object_init_2 obj _, object_init_meets F.called_tuple.init.lookup F.called_tuple.made (by decide) X.prog X.w X.A.in1 _ s₁ ⟨h₁.1, rfl, h₁.2⟩⟩
end
end DL

namespace DL
open PySem PySem.Spec PyProof.Rows L2 RZ DK
variable [Nms] [T0 : Tabs]

/-! ### what holds with fewer tables holds with more -/
theorem ER.down {c' P' : Addr} {K : Fg} {as : List Addr} {H : Hp} {σ : L2.St} {ρ : RE} (E : @ER _ (tabsIn c' P') K as H σ ρ) : ER K as H σ ρ :=
  @ER.mk _ T0 K as H σ ρ (@ER.len _ (tabsIn c' P') _ _ _ _ _ E) (@ER.at_ _ (tabsIn c' P') _ _ _ _ _ E) fun t ht => @ER.tab _ (tabsIn c' P') _ _ _ _ _ E t (List.mem_cons_of_mem _ ht)
section
variable {X : Cx} {c' P' : Addr}
theorem DE.up {e : Expr} {m : M} (h : DE X e m) : @DE _ (tabsIn c' P') X e m := ⟨fun pins s σ H Q I ⟨as, ρ, S, v, S', R, E, e, k⟩ => h.run pins s σ H Q I ⟨as, ρ, S, v, S', R, ER.down E, e, k⟩⟩
theorem DTs.up {e : List Expr} {m : MB} (h : DTs X e m) : @DTs _ (tabsIn c' P') X e m := ⟨fun pins s σ H Q I ⟨as, ρ, S, v, S', R, E, e, k⟩ => h.run pins s σ H Q I ⟨as, ρ, S, v, S', R, ER.down E, e, k⟩⟩
theorem DG.up {e : Expr} {is : List Nat} {f : TgD} (h : DG X e is f) : @DG _ (tabsIn c' P') X e is f := ⟨fun pins s σ H v u Q I r ⟨as, ρ, d, ρ', E, hd, e, k⟩ => h.run pins s σ H v u Q I r ⟨as, ρ, d, ρ', ER.down E, hd, e, fun σ' E' => k σ' (@ER.mk _ (tabsIn c' P') _ _ _ _ _ (ER.len E') (ER.at_ E') fun t ht => by
  rcases List.mem_cons.mp (show t ∈ (some c', P') :: T0.l from ht) with z | z
  · rw [z]; exact @ER.tab _ (tabsIn c' P') _ _ _ _ _ E _ (List.mem_cons_self)
  · exact E'.tab t z)⟩⟩
end

/-! ### zip of two tuples, of two lists -/
def zipD (xs ys : List PyData) : List PyData := List.zipWith (fun a b => .tuple [a, b]) xs ys
theorem zipD_get {xs ys : List PyData} {i : Nat} {d : PyData} (h : (zipD xs ys)[i]? = some d) : ∃ a b, xs[i]? = some a ∧ ys[i]? = some b ∧ d = .tuple [a, b] := by
  unfold zipD at h
  rw [List.getElem?_zipWith] at h
  cases hx : xs[i]? with
  | none => rw [hx] at h; cases h
  | some a =>
    cases hy : ys[i]? with
    | none => rw [hx, hy] at h; cases h
    | some b =>
      rw [hx, hy] at h
      exact ⟨a, b, rfl, rfl, (Option.some.inj h).symm⟩
theorem zipD_len (xs ys : List PyData) : (zipD xs ys).length = min xs.length ys.length := by
  unfold zipD
  simp
theorem pair_yld {K : Fg} {as' : List Addr} {S : Sto} {H2 H3 : Hp} {T : Addr} {o : Obj} {x y : V} {a b : PyData} (R : Rel K as' S H2) (ho : o.dict = none) (hT : H2 T = none) (e : H3 = upd H2 T (.frz o (.tup [x, y]))) (hx : Dp K (hide as' H2) x a) (hy : Dp K (hide as' H2) y b) : Grw H2 H3 ∧ Dp K (hide as' H3) (.ref T) (.tuple [a, b]) := by
  subst e
  exact ⟨.inr ⟨T, _, hT, rfl⟩, (R.newT (.cons hx (.cons hy .nil)) ho hT).2.2⟩
theorem sq_ext {kd : Bool} {K : Fg} {as as' : List Addr} {H1 H2 : Hp} {a : Addr} {vs : List V} (h : Sq kd K (hide as H1) a vs) (E : Ext as H1 as' H2) : Sq kd K H2 a vs := by
  cases kd
  · exact sqT_mono hide_same (sqT_mono E.same h)
  · exact hide_same.seq (E.same.seq h)
theorem iters_zip {kd : Bool} {K : Fg} {as : List Addr} {H1 : Hp} {a b : Addr} {vs ws : List V} {xs ys : List PyData} (hs : Sq kd K (hide as H1) a vs) (hd : DpAll K (hide as H1) vs xs) (hs2 : Sq kd K (hide as H1) b ws) (hd2 : DpAll K (hide as H1) ws ys) : Iters K as H1 (ItZ kd K a b) (zipD xs ys) := by
  refine ⟨fun as' H2 E i d e => ?_, fun as' S H2 E R i d e x H3 y => ?_, fun as' H2 E => ?_⟩
  · obtain ⟨p, q, e1, e2, _⟩ := zipD_get e
    obtain ⟨v, f1, _⟩ := dpAll_get hd e1
    obtain ⟨w, f2, _⟩ := dpAll_get hd2 e2
    exact ⟨vs, ws, v, w, sq_ext hs E, sq_ext hs2 E, f1, f2⟩
  · obtain ⟨p, q, e1, e2, rfl⟩ := zipD_get e
    obtain ⟨v, f1, g1⟩ := dpAll_get hd e1
    obtain ⟨w, f2, g2⟩ := dpAll_get hd2 e2
    obtain ⟨T, o, x', y', rfl, ho, hT, h3, k1, k2⟩ := y
    have ev : x' = v := Option.some.inj ((k1 vs (sq_ext hs E)).symm.trans f1)
    have ew : y' = w := Option.some.inj ((k2 ws (sq_ext hs2 E)).symm.trans f2)
    subst ev ew
    exact pair_yld R ho hT h3 (dp_mono E.same _ _ g1) (dp_mono E.same _ _ g2)
  · refine ⟨vs, ws, sq_ext hs E, sq_ext hs2 E, ?_⟩
    rw [zipD_len, dpAll_len hd, dpAll_len hd2]
    omega
def mZip (ma : MA) : ML := fun ρ S => (ma ρ S).bind fun p => match p.1 with
  | [.d (.list xs), .d (.list ys)] => some (zipD xs ys, p.2)
  | [.d (.tuple xs), .d (.tuple ys)] => some (zipD xs ys, p.2)
  | _ => none
theorem di_zip {X : Cx} {e e2 : Expr} {ma : MA} {p pos tpos : Pos} {elts : List Expr} {kk : Nat} (hg : Gl X "zip") (hm : X.mg "zip" = none) (ha : DA X [e, e2] ma)
    (hs : starEach [e, e2] X.env = (false, eval e X.env) :: starEach [e2] X.env := by rfl) (hpl : (backTo pos (starEach [e2] X.env)).any (·.1) = false := by rfl) : DI X (.Tuple elts kk tpos) (.Call (.Name "zip" p) [e, e2] [] pos) (mZip ma) :=
  pi_imp (pi_zipF hg hm ha hs hpl) fun σ H Rr ⟨as, ρ, S, xs, S1, R, E, e, k⟩ => by
    obtain ⟨⟨vs, S2⟩, e1, e⟩ := Option.bind_eq_some_iff.mp e
    refine ⟨as, ρ, S, vs, S2, R, E, e1, fun us H1 R1 E1 V1 => ?_⟩
    dsimp only at e
    split at e
    · cases e
      obtain ⟨u, w, rfl, a, b⟩ := paired2 V1
      cases a with
      | lst s1 d1 => cases b with
        | lst s2 d2 => exact ⟨true, _, _, _, _, rfl, hide_same.seq s1, hide_same.seq s2, k _ H1 R1 E1 (iters_zip (kd := true) s1 d1 s2 d2)⟩
    · cases e
      obtain ⟨u, w, rfl, a, b⟩ := paired2 V1
      cases a with
      | tup s1 d1 => cases b with
        | tup s2 d2 => exact ⟨false, _, _, _, _, rfl, sqT_mono hide_same s1, sqT_mono hide_same s2, k _ H1 R1 E1 (iters_zip (kd := false) s1 d1 s2 d2)⟩
    · cases e

/-! ### xs[::-1] -/
theorem adjust_rev (n : Nat) : Builtin.Slice.sliceAdjust none none (-1) (n : Int) = ((n : Int) - 1, -1) := rfl
theorem places_rev (n : Nat) : Builtin.Slice.slicePlaces ((n : Int) - 1) (-1) (-1) = n := by
  unfold Builtin.Slice.slicePlaces
  rw [if_neg (by omega)]
  have e : (-(-1) : Int) = 1 := by omega
  rw [e]
  split
  · rw [Int.ediv_one]; omega
  · omega
theorem pick_rev (xs : Array Value) : ((List.range xs.size).filterMap fun (m : Nat) => xs[(((xs.size : Nat) : Int) - 1 + (m : Int) * (-1)).toNat]?).toArray = xs.toList.reverse.toArray := by
  congr 1
  have h1 : ∀ n ≤ xs.size, (List.range n).filterMap (fun (m : Nat) => xs[(((xs.size : Nat) : Int) - 1 + (m : Int) * (-1)).toNat]?) = xs.toList.reverse.take n := by
    intro n
    induction n with
    | zero => intro _; simp
    | succ n ih =>
      intro hn
      rw [List.range_succ, List.filterMap_append, ih (by omega), List.take_add_one]
      congr 1
      have e : (((xs.size : Nat) : Int) - 1 + (n : Int) * (-1)).toNat = xs.size - 1 - n := by omega
      have hl : n < xs.toList.length := by rw [Array.length_toList]; exact hn
      rw [List.getElem?_reverse hl]
      simp only [List.filterMap_cons, List.filterMap_nil, e]
      have e2 : xs.toList.length - 1 - n = xs.size - 1 - n := by simp
      rw [e2, Array.getElem?_toList]
      cases xs[xs.size - 1 - n]? <;> rfl
  rw [h1 xs.size (Nat.le_refl _)]
  rw [List.take_of_length_le (by simp)]
section
variable {prog : Program} {w : World} {A : Around} {E : Value → Shared → Prop} {s : Shared}
theorem sliceApplied_rev {sl : Addr} {t : Tok} {n : Nat} {Q : Int × Int × Nat → Shared → Prop} (hs : s.heap.IsSliceOf sl .none .none (.int (-1) t))
    (h : Q ((n : Int) - 1, -1, n) s) : wpAny (model prog w) A (Builtin.Slice.sliceApplied (.ref sl) (pure (n : Int))) Q E s := by
  obtain ⟨os, hos, hcs, hds⟩ := id hs
  unfold Builtin.Slice.sliceApplied Builtin.Slice.sliceFields
  refine wpAny_bind (wpAny_bind (wpAny_field hos hds (x := .none) rfl (wpAny_bind (wpAny_field hos hds (x := .none) rfl (wpAny_bind (wpAny_field hos hds (x := .int (-1) t) rfl (wpAny_pure ?_)))))))
  refine wpAny_bind (slicePart_int ?_)
  show wpAny _ _ (if ((-1 : Int) == 0) = true then _ else _) _ _ s
  rw [if_neg (by decide)]
  refine wpAny_bind (slicePart_none (wpAny_bind (slicePart_none (wpAny_bind (wpAny_pure ?_)))))
  show wpAny _ _ (match Builtin.Slice.sliceAdjust none none (-1) (n : Int) with | (lo, hi) => pure (lo, (-1 : Int), Builtin.Slice.slicePlaces lo hi (-1))) _ _ s
  rw [adjust_rev n]
  show wpAny _ _ (pure ((n : Int) - 1, (-1 : Int), Builtin.Slice.slicePlaces ((n : Int) - 1) (-1) (-1))) _ _ s
  rw [places_rev]
  exact wpAny_pure h
theorem getItem_tuple_rev {t sl : Addr} {items : Array Value} {tk : Tok} {Q : Value → Shared → Prop} (ht : IsTup s.heap t items) (hs : s.heap.IsSliceOf sl .none .none (.int (-1) tk))
    (h : Q (.ref s.heap.objs.size) { s with heap := s.heap.push { cls := .type "tuple", data := .seq items.toList.reverse.toArray } })
    (hsz : items.size ≤ sizeLine) : wpAny (model prog w) A (getItem (.ref t) (.ref sl)) Q E s := by
  have htake : sizeOk (.seq items.toList.reverse.toArray) := by
    show items.toList.reverse.toArray.size ≤ sizeLine
    rw [List.size_toArray, List.length_reverse, Array.length_toList]
    exact hsz
  obtain ⟨os, hos, hcs, hds⟩ := id hs
  have hTs : s.TypeIs (.ref sl) "slice" := ⟨os, hos, hcs⟩
  unfold getItem
  try with_reducible refine wpAny_holding ?_
  first | refine wpAny_bind (wpAny_pure ?_) | skip
  refine wpAny_bind (wpAny_sequenceKey ht.typeIs (by decide) ?_)
  refine wpAny_bind (wpAny_callSpecial?_slot (name := Str.ofString "__getitem__") ht.typeIs PyProof.Rows.slot_tuple_getitem
    (wpAny_call_entry PyProof.Rows.slot_tuple_getitem ht.typeIs PyProof.Rows.entry_tuple_getitem ?_ (PyProof.Rows.args_tuple_getitem _ _)))
  show wpAny _ _ (Builtin.Tuple.tupleItemsOf (.ref t) >>= _) _ _ s
  refine wpAny_bind (tupleItemsOf_ ht ?_)
  refine wpAny_bind (wpAny_typeOf hTs ?_)
  rw [if_pos (by decide)]
  refine wpAny_bind (sliceApplied_rev hs ?_)
  have hno : ¬ ((((items.size : Nat) : Int) - 1 == 0 && (-1 : Int) == 1 && items.size == items.size) = true) := by
    intro q
    rw [Bool.and_eq_true, Bool.and_eq_true] at q
    have q2 : (-1 : Int) = 1 := eq_of_beq q.1.2
    omega
  show wpAny _ _ (if (((items.size : Nat) : Int) - 1 == 0 && (-1 : Int) == 1 && items.size == items.size) = true then _ else _) _ _ s
  rw [if_neg hno, pick_rev]
  first
    | exact wpAny_bind (m := Builtin.Tuple.tupleExact _) (wpAny_newObj_type (wpAny_pure ⟨_, rfl, wpAny_pure h⟩) htake)
    | exact wpAny_bind (m := Builtin.Tuple.tupleExact _) (wpAny_newObj_type (wpAny_bind (wpAny_pure (wpAny_pure ⟨_, rfl, wpAny_pure h⟩))) htake)
    | exact wpAny_bind (wpAny_bind (m := Builtin.Tuple.tupleExact _) (wpAny_newObj_type (wpAny_pure (wpAny_pure ⟨_, rfl, wpAny_pure h⟩)) htake))
    | exact wpAny_bind (wpAny_bind (m := Builtin.Tuple.tupleExact _) (wpAny_newObj_type (wpAny_pure ⟨_, rfl, wpAny_pure h⟩) htake))
end
theorem slicePick_rev (xs : Array Value) : slicePick xs none none (some (-1)) = xs.toList.reverse.toArray := by
  unfold slicePick
  have e : sliceBounds none none (some (-1)) xs.size = ((xs.size : Int) - 1, -1, -1) := by
    unfold sliceBounds
    rfl
  rw [e]
  rw [← pick_rev]
  congr 1
  unfold sliceRange
  rw [List.filterMap_map]
  have e2 : (if (-1 : Int) > 0 then (if (xs.size : Int) - 1 < -1 then ((-1 : Int) - ((xs.size : Int) - 1) + (-1) - 1) / (-1) else 0) else (if (xs.size : Int) - 1 > -1 then ((xs.size : Int) - 1 - (-1) - (-1) - 1) / (-(-1)) else 0)).toNat = xs.size := by
    rw [if_neg (by omega)]
    have e3 : (-(-1) : Int) = 1 := by omega
    rw [e3]
    split
    · rw [Int.ediv_one]; omega
    · omega
  show List.filterMap _ (List.range (if (-1 : Int) > 0 then (if (xs.size : Int) - 1 < -1 then ((-1 : Int) - ((xs.size : Int) - 1) + (-1) - 1) / (-1) else 0) else (if (xs.size : Int) - 1 > -1 then ((xs.size : Int) - 1 - (-1) - (-1) - 1) / (-(-1)) else 0)).toNat) = _
  rw [e2]
  congr 1
  funext m
  show xs[((xs.size : Int) - 1 + (-1) * (m : Int)).toNat]? = _
  congr 2
  omega
def rRev (K : Fg) : V → Hp → VK → Prop := fun x H Q => ∃ a xs, x = .ref a ∧ ((SqT K H a xs ∧ NewT H xs.reverse Q) ∨ (SqL K H a xs ∧ ∀ p, H p = none → Q (.ref p) (upd H p (.lst xs.reverse))))
theorem vals_rev : ∀ {xs : List V} {us : List Value}, Vals xs us → Vals xs.reverse us.reverse
  | _, _, .nil => .nil
  | _, _, .cons r t => by
    rw [List.reverse_cons, List.reverse_cons]
    exact (vals_rev t).append (.cons r .nil)
theorem pe_rev {X : Cx} {e st : Expr} {te ts : TE} {p2 pos : Pos} (he : PE X e te) (hst : PE X st ts) : PE X (.Subscript e (.Slice none none (some st) p2) pos) (fun σ H Q => te σ H fun x H1 => ts σ H1 fun y H2 => y = .int (-1) ∧ rRev X.K x H2 Q) := by
  refine ⟨fun pins s σ H Q I h => ?_⟩
  refine Subscript_ (thn (he.run pins s σ H _ I h) fun v s1 ⟨x, H1, I1, r1, q1⟩ => ?_)
  refine wpAny_Slice ?_
  rw [evalPart_none, evalPart_some]
  refine wpAny_pure (wpAny_pure (thn (hst.run pins s1 σ H1 _ I1 q1) fun vst s3 ⟨y, H3, I3, r3, ey, q3⟩ => ?_))
  subst ey
  obtain ⟨tk, rfl⟩ := (show ∃ t, vst = Value.int (-1) t from r3)
  have I4 : Inv X pins σ H3 { s3 with heap := s3.heap.push { cls := .type "slice", data := .fields #[.none, .none, .int (-1) tk] } } := I3.kept (t' := s3.toks) fun b ob q => Heap.get?_push_of_some _ q
  have hsl : ({ s3 with heap := s3.heap.push { cls := .type "slice", data := .fields #[.none, .none, .int (-1) tk] } } : Shared).heap.IsSliceOf s3.heap.objs.size .none .none (.int (-1) tk) := Heap.IsSliceOf.new ..
  show wpAny (model X.prog X.w) X.A (subscriptTail e (.Slice none none (some st) p2) v (.ref s3.heap.objs.size)) (EP X pins σ Q) X.xe { s3 with heap := s3.heap.push { cls := .type "slice", data := .fields #[.none, .none, .int (-1) tk] } }
  obtain ⟨a, xs, rfl, h⟩ := q3
  cases r1
  rcases h with ⟨hx, q⟩ | ⟨hx, q⟩
  · obtain ⟨its, r, ht, hz⟩ := I4.tuple hx
    have hl := r.length
    refine tail_any (ops := [.ref a, .ref s3.heap.objs.size]) ht.typeIs PyProof.Rows.slot_tuple_getitem.lookup (getItem_tuple_rev ht hsl ?_ (by rw [List.size_toArray]; omega)) (by with_unfolding_all rfl)
    exact endT I4 (vals_rev r) (by rw [List.length_reverse]; exact hz) q
  · obtain ⟨its, r, ht, hz⟩ := I4.list hx
    have hl := r.length
    refine tail_any (ops := [.ref a, .ref s3.heap.objs.size]) ht.isList.typeIs slot_list_getitem.lookup (wpAny_getItem_list_slice ht.isList hsl .none .none (.int (-1) tk) (by decide) ?_ (by rw [List.size_toArray]; omega)) (by with_unfolding_all rfl)
    rw [slicePick_rev]
    refine ⟨.ref _, _, I4.laid (t' := s3.toks) (o := .lst xs.reverse) (fun b ob q => Heap.get?_push_of_some _ q) (Nat.le_refl _) ⟨by rw [List.length_reverse]; exact hz, _, 0, ?_, Heap.get?_push_size _ rfl⟩, rfl, q _ (I4.hok.fresh (Nat.le_refl _))⟩
    simpa using vals_rev r
/-- of a tuple; of a list (a new one) -/
def mRev (m st : M) : M := fun ρ S => (m ρ S).bind fun p => (st ρ p.2).bind fun q => match p.1, q.1 with
  | .d (.tuple xs), .d (.int (-1)) => some (.d (.tuple xs.reverse), q.2)
  | _, _ => none
def mRevL (m st : M) : ML := fun ρ S => (m ρ S).bind fun p => (st ρ p.2).bind fun q => match asD q.2 p.1, q.1 with
  | some (.list xs), .d (.int (-1)) => some (xs.reverse, q.2)
  | _, _ => none
section
variable {X : Cx} {e st : Expr} {m ms : M} {p2 pos : Pos}
theorem de_rev (he : DE X e m) (hst : DE X st ms) : DE X (.Subscript e (.Slice none none (some st) p2) pos) (mRev m ms) := pe_imp (pe_rev he hst) fun σ H Q ⟨as, ρ, S, v, S', R, E, e, k⟩ => by
  obtain ⟨⟨x, S1⟩, e1, e⟩ := Option.bind_eq_some_iff.mp e
  obtain ⟨⟨y, S2⟩, e2, e⟩ := Option.bind_eq_some_iff.mp e
  refine ⟨as, ρ, S, x, S1, R, E, e1, fun u H1 R1 E1 V1 => ⟨as, ρ, S1, y, S2, R1, E.ext E1, e2, fun u2 H2 R2 E2 V2 => ?_⟩⟩
  dsimp only at e
  split at e
  · cases e
    cases V2
    have V3 := V1.ext E2
    cases V3 with
    | tup s a => exact ⟨rfl, _, _, rfl, .inl ⟨sqT_mono hide_same s, tuple_new R2 (dpAll_reverse a) fun v H4 R4 E4 V4 => k v H4 R4 ((E1.trans E2).trans E4) V4⟩⟩
  · cases e
theorem dl_rev (he : DE X e m) (hst : DE X st ms) : DLs X (.Subscript e (.Slice none none (some st) p2) pos) (mRevL m ms) := pe_imp (pe_rev he hst) fun σ H Q ⟨as, ρ, S, v, S', R, E, e, k⟩ => by
  obtain ⟨⟨x, S1⟩, e1, e⟩ := Option.bind_eq_some_iff.mp e
  obtain ⟨⟨y, S2⟩, e2, e⟩ := Option.bind_eq_some_iff.mp e
  refine ⟨as, ρ, S, x, S1, R, E, e1, fun u H1 R1 E1 V1 => ⟨as, ρ, S1, y, S2, R1, E.ext E1, e2, fun u2 H2 R2 E2 V2 => ?_⟩⟩
  dsimp only at e
  split at e
  · cases e
    cases V2
    obtain ⟨a, ws, rfl, hs, hd⟩ := list_at R2 (V1.ext E2) (by assumption)
    exact ⟨rfl, a, ws, rfl, .inr ⟨hs, fun p hp => k p H2 _ R2 (E1.trans E2) hp (dpAll_reverse hd)⟩⟩
  · cases e
end
end DL

namespace DL
open PySem PySem.Spec PyProof.Rows L2 DK

abbrev tab0 : Obj := { cls := .none, data := .fields #[] }
/-- the module of the builtins is where a program finds it -/
def BI (mg : Str → Option Value) (base : Heap) : Prop := ∃ (bm : Addr) (o : Obj), mg "__builtins__" = some (.ref bm) ∧ bm ≠ builtinsNs ∧ base.get? bm = some o ∧ o.cls = .type "module" ∧ o.dict = some builtinsNs ∧ o.data = .plain
theorem codeAt_own {X : Cx} {c P : Addr} (bi : BI X.mg X.base) (h : X.env.code = .ref c) (hd : PySem.W.CodeHd X.base c P) : CodeAt X (none, P) := ⟨bi, c, h, .inr hd⟩
theorem codeAt_in {X : Cx} {scope : Scope} {c' P' : Addr} {A : Around} {s4 : Shared} {H5 : Hp} {fp : List Addr} {a : Addr} {go : Obj} (bi : BI X.mg X.base) : CodeAt (gcR X scope c' A s4 H5 fp a go) (some c', P') := ⟨bi, c', rfl, .inl rfl⟩
section
variable {P : Program} {w : World} {K : Fg} {mg : Str → Option Value} {base : Heap}
/-- a def by its body, its code object known -/
theorem fng_okC {x qual : Str} {st : Stmt} {f : Addr} {fd : FuncData} {N ps : List Str} {k : Nat} {sp : Sp} (F : Fun K x qual st f fd) (sc : FnScope N ps (defScope st)) (cnt : ∀ vs H Q E, sp vs H Q E → vs.length = ps.length)
    (hbody : ∀ (cdv : Value) (A : Around) (out : List Env) (s : Shared) (H : Hp) (vs : List V) (Q : VK) (E : XK), fd.code = cdv → Room k (A.deeper (envOfC qual (defScope st) s.heap.objs.size f cdv)) → (A.deeper (envOfC qual (defScope st) s.heap.objs.size f cdv)).guards = some [] → sp vs H Q E →
      ∃ t, PSs (cxOf CX0 P w K mg base N qual (defScope st) f cdv A out s H E).nox (defBody st) t ∧ t { nx := fun _ H' => Q .non H', rt := Q } (start N vs) H) : FnG P w K mg base CX0 (k + 1) f fd ps sp := by
  obtain ⟨oc, od, kV, doc, pm, an, cdv, ct, osl, rfl, lk, hcd⟩ := F.ex
  refine fng_of lk hcd sc cnt fun A out s H vs Q E hr hg want => ?_
  obtain ⟨t, h, q⟩ := hbody cdv A out s H vs Q E rfl hr hg want
  exact ⟨t, h.nox, q⟩
variable [Nms] [T0 : Tabs]
theorem fn_dataC {x qual : Str} {st : Stmt} {f : Addr} {fd : FuncData} {N ps : List Str} {k n m : Nat} {g : MS} (hn : N.length = n) (hm : ps.length = m) (F : Fun K x qual st f fd) (sc : FnScope N ps (defScope st))
    (hb : ∀ (cdv : Value) (A : Around) (out : List Env) (s : Shared) (H : Hp) (E : XK), fd.code = cdv → Room k (A.deeper (envOfC qual (defScope st) s.heap.objs.size f cdv)) → (A.deeper (envOfC qual (defScope st) s.heap.objs.size f cdv)).guards = some [] →
      DSs (cxOf CX0 P w K mg base N qual (defScope st) f cdv A out s H E).nox (defBody st) g) : FnG P w K mg base CX0 (k + 1) f fd ps (spF K m (runF n g)) :=
  fng_okC F sc (fun _ _ _ _ h => h.1.trans hm.symm) fun cdv A out s H vs Q E hc hr hg h => ⟨_, hb cdv A out s H E hc hr hg, body_F (by rw [hn]; exact h)⟩
theorem fn_listC {x qual : Str} {st : Stmt} {f : Addr} {fd : FuncData} {N ps : List Str} {k n m : Nat} {g : MS} (hn : N.length = n) (hm : ps.length = m) (F : Fun K x qual st f fd) (sc : FnScope N ps (defScope st))
    (hb : ∀ (cdv : Value) (A : Around) (out : List Env) (s : Shared) (H : Hp) (E : XK), fd.code = cdv → Room k (A.deeper (envOfC qual (defScope st) s.heap.objs.size f cdv)) → (A.deeper (envOfC qual (defScope st) s.heap.objs.size f cdv)).guards = some [] →
      DSs (cxOf CX0 P w K mg base N qual (defScope st) f cdv A out s H E).nox (defBody st) g) : FnG P w K mg base CX0 (k + 1) f fd ps (spL K m (runL n g)) :=
  fng_okC F sc (fun _ _ _ _ h => h.1.trans hm.symm) fun cdv A out s H vs Q E hc hr hg h => ⟨_, hb cdv A out s H E hc hr hg, body_L (by rw [hn]; exact h)⟩
end
/-! ### the end, with tables -/
theorem script_heapT {P : Program} {w : World} {K : Fg} {s1 : Shared} {a : Addr} {vs : List Value} {ns : List Int} {ts : List Addr} (kin : K.In s1.heap) (ha : s1.heap.get? a = some { cls := .type "list", data := .seq vs.toArray }) (hi : IntsAre vs ns) (hl : ns.length ≤ sizeLine)
    (hT : ∀ t ∈ ts, s1.heap.get? t = some tab0) (nT : ∀ t ∈ ts, K.lookup t = none) :
    ∃ H : Hp, (∀ b, H b = none ∨ (b ∈ ts ∧ H b = some (.tbl #[])) ∨ ∃ o xs, H b = some (.frz o (.lst xs))) ∧ (∀ t ∈ ts, H t = some (.tbl #[])) ∧ SqL K H a (ns.map V.int) ∧ HOk P w H s1.heap ∧ (∀ b, H b ≠ none → b = a ∨ b ∈ ts) ∧ (∀ b, H b ≠ none → K.lookup b = none) := by
  obtain ⟨H0, only, sq, hok, hA, hK⟩ := script_heap (P := P) (w := w) kin ha hi hl
  have na : a ∉ ts := fun z => by
    have q := hT a z
    rw [ha] at q
    cases q
  have h0 : ∀ b o, H0 b = some o → b ∉ ts := fun b o e z => by
    have : b = a := hA b (by rw [e]; simp)
    exact na (this ▸ z)
  let H : Hp := fun b => if b ∈ ts then some (.tbl #[]) else H0 b
  have yes : ∀ t ∈ ts, H t = some (.tbl #[]) := fun t ht => if_pos ht
  have no : ∀ b, b ∉ ts → H b = H0 b := fun b hb => if_neg hb
  have same : Same H0 H := fun b o e => by rw [no b (h0 b o e)]; exact e
  refine ⟨H, fun b => ?_, yes, same.seq sq, fun b u e => ?_, fun b e => ?_, fun b e => ?_⟩
  · by_cases hb : b ∈ ts
    · exact .inr (.inl ⟨hb, yes b hb⟩)
    · rw [no b hb]
      rcases only b with z | z
      · exact .inl z
      · exact .inr (.inr z)
  · by_cases hb : b ∈ ts
    · rw [yes b hb] at e
      cases e
      exact hT b hb
    · rw [no b hb] at e
      exact (hok b u e).stay (fun _ _ _ q => q) (fun d q => same d _ q) fun d xs q => same d _ q
  · by_cases hb : b ∈ ts
    · exact .inr hb
    · rw [no b hb] at e
      exact .inl (hA b e)
  · by_cases hb : b ∈ ts
    · exact nT b hb
    · rw [no b hb] at e
      have eb := hA b e
      rw [eb] at e ⊢
      exact hK e
theorem law_runT {P : Program} {w : World} {K : Fg} {mg mb : Str → Option Value} {k : Nat} {fa a : Addr} {fd : FuncData} {x : Str} {sp : Sp} {s1 : Shared} {vs : List Value} {ns : List Int} {cs : List (Addr × Addr)}
    (kin : K.In s1.heap) (glo : s1.heap.Ns mainGlobals mg) (blt : s1.heap.Ns builtinsNs mb) (bb : ∀ x : Str, x ≠ "__name__" → mb x = bootBuiltins x) (lim : s1.heap.NoLimit) (gens : s1.gens = #[])
    (hT : ∀ p ∈ cs, s1.heap.get? p.2 = some tab0) (nT : ∀ p ∈ cs, K.lookup p.2 = none) (C : ∀ p ∈ cs, PySem.W.CodeHd s1.heap p.1 p.2) (hbm : BI mg s1.heap)
    (ha : s1.heap.get? a = some { cls := .type "list", data := .seq vs.toArray }) (hi : IntsAre vs ns) (hl : ns.length ≤ sizeLine) (room : Room k callerA)
    (F : ∀ base : Heap, K.In base → base.Ns mainGlobals mg → BI mg base → (∀ p ∈ cs, PySem.W.CodeHd base p.1 p.2) → FnG P w K mg base CX0 k fa fd [x] sp) (bind : ∀ (s : Shared) (u : Value), BindsTo s fd ⟨[u], []⟩ [(x, u)])
    (want : ∀ H : Hp, (∀ p ∈ cs, H p.2 = some (.tbl #[])) → SqL K H a (ns.map V.int) → sp [.ref a] H (fun v _ => v = .bl true) fun _ _ _ => False) :
    codeAny (model P w) callerA (.call (.ref fa) ⟨[.ref a], []⟩) (fun r s' => r = .ok (.ret (.bool true)) ∧ OldK s1.heap s'.heap ∧ s'.os = s1.os ∧ AllBare s'.gens) s1 := by
  obtain ⟨H, only, isT, sq, hok, hA, hK⟩ := script_heapT (P := P) (w := w) (ts := cs.map (·.2)) kin ha hi hl (fun t ht => let ⟨p, hp, e⟩ := List.mem_map.mp ht; e ▸ hT p hp) (fun t ht => let ⟨p, hp, e⟩ := List.mem_map.mp ht; e ▸ nT p hp)
  have isT' : ∀ p ∈ cs, H p.2 = some (.tbl #[]) := fun p hp => isT _ (List.mem_map.mpr ⟨p, hp, rfl⟩)
  have free : ∀ {b : Addr} {o : Obj}, s1.heap.get? b = some o → (∀ its n, o.data ≠ .seq its n) → o.data ≠ .fields #[] → H b = none := fun {b o} e d d2 => by
    cases q : H b with
    | none => rfl
    | some u =>
      rcases hA b (by rw [q]; simp) with eb | eb
      · rw [eb, ha] at e
        cases e
        exact absurd rfl (d _ _)
      · obtain ⟨p, hp, e2⟩ := List.mem_map.mp eb
        have z := hT p hp
        rw [e2, e] at z
        cases z
        exact absurd rfl d2
  have nsOf : ∀ {b : Addr} {m : Str → Option Value}, s1.heap.Ns b m → (hidT s1.heap H).Ns b m := fun {b m} z => by
    obtain ⟨o, es, ep, e, d, r⟩ := z
    exact ⟨o, es, ep, hidT_get e (free e (fun its n q => by rw [d] at q; cases q) (fun q => by rw [d] at q; cases q)), d, r⟩
  have kb : K.In (hidT s1.heap H) := fun b o e => hidT_get (kin b o e) (by
    cases q : H b with
    | none => rfl
    | some u =>
      rw [hK b (by rw [q]; simp)] at e
      cases e)
  obtain ⟨mc, c1, c2⟩ := lim
  have en : Env0 P w K mg (hidT s1.heap H) callerA [] s1 H :=
    ⟨rfl, ⟨kb, nsOf glo, ⟨mb, nsOf blt, bb⟩, ⟨mc, nsOf c1, c2⟩⟩, fun b o e => of_hidT e, Nat.le_of_eq (hidT_size _ _), trivial, fun b z => absurd (show b ∈ ([] : List Addr) from z) (by simp), hok, .of_eq gens⟩
  have bi : BI mg (hidT s1.heap H) := by
    obtain ⟨bm, o, b1, b2, b3, b4, b5, b6⟩ := hbm
    exact ⟨bm, o, b1, b2, hidT_get b3 (free b3 (fun its n q => by rw [b6] at q; cases q) (fun q => by rw [b6] at q; cases q)), b4, b5, b6⟩
  have cd : ∀ p ∈ cs, PySem.W.CodeHd (hidT s1.heap H) p.1 p.2 := fun p hp => by
    obtain ⟨o, us, file, tf, flags, tg, inF, text, tt, e1, r1, r2, r3, r⟩ := C p hp
    refine ⟨o, us, file, tf, flags, tg, inF, text, tt, hidT_get e1 (free e1 (fun its n q => by rw [r2] at q; cases q) fun q => ?_), r1, r2, r3, r⟩
    rw [r2] at q
    cases q
    simp at r3
  refine codeAny_mono ((F _ kb (nsOf glo) bi cd).go callerA [] s1 H ⟨[.ref a], []⟩ [.ref a] [.ref a] _ _ room rfl en (bind s1 (.ref a)) (.cons rfl .nil) (want H isT' sq)) fun r s' z => ?_
  cases r with
  | error e => exact z.elim
  | ok fl =>
    cases fl with
    | next => exact z.elim
    | brk => exact z.elim
    | cont => exact z.elim
    | ret u =>
      obtain ⟨v, H', os, bare, un, hok', rv, q⟩ := z
      have q' : v = .bl true := q
      subst q'
      have eu : u = Value.bool true := rv
      subst eu
      have key : ∀ b o, b ∉ cs.map (·.2) → s1.heap.get? b = some o → s'.heap.get? b = some o := fun b o nb e => by
        rcases only b with n | ⟨n, _⟩ | ⟨ob, xs, n⟩
        · exact un.keep b o e n (fun z => absurd (show b ∈ ([] : List Addr) from z) (by simp)) (by simp)
        · exact absurd n nb
        · obtain ⟨e1, _⟩ := hok b _ n
          obtain ⟨e2, _⟩ := hok' b _ (un.frzs b ob _ n)
          rw [e] at e1
          cases e1
          exact e2
      have grown : ∀ p ∈ cs, ∃ more : Array Value, s'.heap.get? p.2 = some { cls := .none, data := .fields more } := fun p hp => by
        obtain ⟨more, z⟩ := un.tbls p.2 #[] (isT' p hp)
        exact ⟨_, hok' p.2 _ z⟩
      refine ⟨rfl, ⟨fun b o e => ?_, fun b o e => ?_⟩, os, bare⟩
      · by_cases hb : b ∈ cs.map (·.2)
        · obtain ⟨p, hp, ep⟩ := List.mem_map.mp hb
          obtain ⟨more, hm⟩ := grown p hp
          rw [← ep] at e ⊢
          rw [hT p hp] at e
          cases e
          exact .inr (.inl ⟨((C p hp).tab (hT p hp)).isCodeTable, rfl, #[], more, rfl, by rw [Array.empty_append]; exact hm⟩)
        · exact .inl (key b o hb e)
      · by_cases hb : b ∈ cs.map (·.2)
        · obtain ⟨p, hp, ep⟩ := List.mem_map.mp hb
          obtain ⟨more, hm⟩ := grown p hp
          exact ⟨_, by rw [← ep]; exact hm⟩
        · exact ⟨o, key b o hb e⟩
def emptyT : Obj → Bool
  | ⟨.none, none, .fields vs, sl⟩ => vs.isEmpty && sl.isEmpty
  | _ => false
/-- no empty table stands among these -/
def noTab (K : Fg) : Bool := K.all fun q => !emptyT q.2
theorem look_mem {t : Addr} {o : Obj} : ∀ {l : List (Addr × Obj)}, l.lookup t = some o → (t, o) ∈ l
  | [], h => nomatch h
  | (b, u) :: r, h => by
    rw [List.lookup_cons] at h
    split at h
    · rename_i q
      cases h
      rw [beq_iff_eq.mp q]
      exact List.mem_cons_self
    · exact List.mem_cons_of_mem _ (look_mem h)
theorem noTab_none {K : Fg} {h : Heap} {t : Addr} (kin : K.In h) (hn : noTab K = true) (e : h.get? t = some tab0) : K.lookup t = none := by
  cases q : K.lookup t with
  | none => rfl
  | some o =>
    have z := kin t o q
    rw [e] at z
    cases z
    have y := List.all_eq_true.mp hn _ (look_mem q)
    cases y
/-- what the top tells of a def's code object -/
def TabOf (mg : Str → Option Value) (h : Heap) (m : Str) : Prop := ∃ a o fd c P, mg m = some (.ref a) ∧ h.get? a = some o ∧ o.data = .func fd ∧ fd.code = .ref c ∧ PySem.W.CodeHd h c P ∧ h.get? P = some tab0
theorem TabOf.at {K : Fg} {mg : Str → Option Value} {h : Heap} {m : Str} {f : Addr} {oc : Value} {od : Option Addr} {osl : Array (Option Value)} {fd : FuncData} (t : TabOf mg h m) (kin : K.In h) (hm : mg m = some (.ref f)) (l : K.lookup f = some ⟨oc, od, .func fd, osl⟩) :
    ∃ c P, fd.code = .ref c ∧ PySem.W.CodeHd h c P ∧ h.get? P = some tab0 := by
  obtain ⟨a, o, fd', c, P, h1, h2, h3, h4, h5, h6⟩ := t
  rw [hm] at h1
  cases h1
  rw [kin f _ l] at h2
  cases h2
  cases h3
  exact ⟨c, P, h4, h5, h6⟩
/-- the goal that k_head leaves, for a law with generator expressions -/
theorem walkT {l : PySem.W.OpenLaw} {n k : Nat} {q : Program} {loose : List Str} {XP : (Str → Option Value) → Heap → Prop} {YP : World → Heap → Prop} {d : DefRec} {K : Params → Fg} {G : FV} {x : Str} {NM : Nat → Nat → Option Str} (names : List Str) (hn : l.most = some n) (hn2 : n ≤ sizeLine) (hdf : d.params.defaults = []) (room : Room k callerA)
    (hrec : (names.all fun m => (recsOf q).any fun e => e.name == m) = true) (hY : ∀ (w : World) (h : Heap), YP w h → (K w.params).In h) (hnt : ∀ w : World, noTab (K w.params) = true)
    (F : ∀ (w : World) (mg : Str → Option Value) (fa : Addr) (h : Heap), (K w.params).In h → h.Ns mainGlobals mg → mg d.name = some (.ref fa) → (∀ m ∈ names, TabOf mg h m) →
      ∃ (fd : FuncData) (cs : List (Addr × Addr)), (∀ p ∈ cs, h.get? p.2 = some tab0 ∧ PySem.W.CodeHd h p.1 p.2) ∧ (∀ (s : Shared) (u : Value), BindsTo s fd ⟨[u], []⟩ [(x, u)]) ∧
        ∀ base : Heap, (K w.params).In base → base.Ns mainGlobals mg → BI mg base → (∀ p ∈ cs, PySem.W.CodeHd base p.1 p.2) → FnG l.prog w (K w.params) mg base CX0 k fa fd [x] (@spF ⟨NM⟩ ⟨cs.map fun p => (none, p.2)⟩ (K w.params) 1 G))
    (hG : ∀ ns : List Int, ns.length ≤ n → ∃ S', G [.d (.list (ns.map .int))] [] = some (.d (.bool true), S')) :
    PySem.W.WalkO q loose XP YP l.row.toRowW d [] (fun f vs => PySem.call f vs) := by
  refine Att.attach_call hn hdf fun w s0 s1 mg mb fa o pm cd doc a vs ns gr Y ho hd hcd hmg hobj hints hlen hg => ?_
  have kin := hY w _ Y
  obtain ⟨fd, cs, hcs, hb, hF⟩ := F w mg fa _ kin gr.T.g hmg fun m hm => by
    obtain ⟨e, he, en⟩ := List.any_eq_true.mp (List.all_eq_true.mp hrec m hm)
    have en' : e.name = m := beq_iff_eq.mp en
    obtain ⟨a', o', fd', c', P', h1, h2, h3, h4, h5, h6⟩ := gr.T.tab e he
    rw [en'] at h1
    exact ⟨a', o', fd', c', P', h1, h2, h3, h4, PySem.W.CodeHd.of h5 h6, h6.2⟩
  refine law_runT kin gr.T.g gr.T.b gr.T.builtins gr.T.nolimit hg (fun p hp => (hcs p hp).1) (fun p hp => noTab_none kin (hnt w) (hcs p hp).1) (fun p hp => (hcs p hp).2) gr.T.bmain hobj hints (Nat.le_trans hlen hn2) room hF hb fun H hH sq => ?_
  obtain ⟨S', e⟩ := hG ns hlen
  have v1 : VR (K w.params) [] H (.ref a) (.d (.list (ns.map .int))) := Dp.lst (sqL_noT sq) (dpAll_ints ns)
  refine ⟨rfl, fun t ht => ?_, [], [], _, _, S', .nilR H, .cons v1 .nil, e, fun u H' _ _ V => ?_⟩
  · obtain ⟨p, hp, et⟩ := List.mem_map.mp (show t ∈ cs.map (fun p => ((none, p.2) : Tb)) from ht)
    subst et
    refine ⟨⟨fun P => P = p.2, rfl, fun P hP => ?_⟩, fun c hc => by cases hc⟩
    subst hP
    refine ⟨#[], hH p hp, trivial, fun pos cv z => ?_⟩
    have z' : codeAmong pos [] = some cv := z
    simp [codeAmong] at z'
  · cases V
    rfl
end DL

namespace DL
open PySem PySem.Spec PyProof.Rows L2 DK
variable [Nms] [T0 : Tabs]
/-! ### a tuple so often -/
def fRepT : PV → PV → Sto → Option PV := fun x y _ => match x, y with
  | .d (.tuple xs), .d (.int k) => if xs ≠ [] ∧ -1000 ≤ k ∧ k ≤ 1000 ∧ xs.length ≤ 1000 then some (.d (.tuple (List.replicate k.toNat xs).flatten)) else none
  | _, _ => none
theorem opD_repT {K : Fg} : OpD K (rRepF K) fRepT := by
  intro as S H u w x y z Q R V1 V2 e k
  unfold fRepT at e
  split at e
  · rename_i xs n
    split at e
    · rename_i hz
      cases e
      cases V2
      cases V1 with
      | tup s a =>
        have hl := dpAll_len a
        refine ⟨_, n, _, rfl, rfl, sqT_mono hide_same s, fun h0 => hz.1 ?_, hz.2.1, hz.2.2.1, by rw [hl]; exact hz.2.2.2, fun h1 => ?_, fun _ => tuple_new R (dpAll_rep a _) k⟩
        · rw [h0] at hl
          exact List.eq_nil_of_length_eq_zero hl.symm
        · subst h1
          refine k _ H R .refl ?_
          have e1 : (List.replicate (1 : Int).toNat xs).flatten = xs := by simp
          rw [e1]
          exact .tup s a
    · cases e
  · cases e
theorem de_rept {X : Cx} {a b : Expr} {ma mb : M} {pos : Pos} (ha : DE X a ma) (hb : DE X b mb) : DE X (.BinOp a .Mult b pos) (mOp fRepT ma mb) := de_op op_repF opD_repT ha hb
end DL

namespace DL
open PySem PySem.Spec PyProof.Rows L2 DK
variable [Nms] [Tabs]
/-! a comprehension over a list of ours: at each turn it is read as it stands -/
def lcGoC (n j : Nat) (tgt : TgD) (tt : MB) (te : M) (ρ : RE) : Nat → Nat → Sto → Option Sto
  | 0, _, _ => none
  | f + 1, i, S => (lAt S j).bind fun l => match l[i]? with
    | none => some S
    | some x => (tgt x ρ).bind fun ρ1 => (tt ρ1 S).bind fun b => if b.1 = true then (te ρ1 b.2).bind fun v => match v.1 with
        | .d y => (pushAt n y v.2).bind fun S' => lcGoC n j tgt tt te ρ f (i + 1) S'
        | .c _ => none
      else lcGoC n j tgt tt te ρ f (i + 1) b.2
def mLcC (m : M) (vs : List Nat) (tgt : TgD) (tt : MB) (te : M) : ML := fun ρ S => (m ρ S).bind fun p => match p.1 with
  | .c j => (lAt p.2 j).bind fun l => (lcGoC p.2.length j tgt tt te (wipeR ρ vs) (l.length + 1) 0 (p.2 ++ [.l []])).bind fun S' => (lAt S' p.2.length).bind fun ds => some (ds, S'.take p.2.length)
  | .d _ => none
theorem lcC_D {K : Fg} {m : M} {vs is : List Nat} {tgt : TgD} {tt : MB} {te : M} (hv : ∀ i ∈ is, i ∈ vs) : ∀ σ H Q, tL K (mLcC m vs tgt tt te) σ H Q →
    tLc (fun σ H R => tM K m σ H fun x H1 => (∃ a, x = .ref a ∧ (∃ xs, SqL K H1 a xs) ∧ R (Itl K a) H1) ∨ ∃ a, x = .ref a ∧ (∃ xs, SqT K H1 a xs) ∧ R (Itt K a) H1) (tG K is tgt) (tMB K tt) (tM K te) vs σ H Q := fun σ H Q ⟨as, ρ, S, ds, S', R, E, e, k⟩ => by
  obtain ⟨⟨v, S1⟩, e1, e⟩ := Option.bind_eq_some_iff.mp e
  cases v with
  | d y => cases e
  | c j =>
    obtain ⟨l, el, e⟩ := Option.bind_eq_some_iff.mp e
    obtain ⟨S2, e2, e⟩ := Option.bind_eq_some_iff.mp e
    obtain ⟨ds2, e3, e⟩ := Option.bind_eq_some_iff.mp e
    cases e
    dsimp only at e2 e3 k el
    refine ⟨as, ρ, S, .c j, S1, R, E, e1, fun u H1 R1 E1 V1 => ?_⟩
    obtain ⟨a, ha, rfl⟩ := V1
    obtain ⟨ws, hw, dw⟩ := R1.at_ j a l ha el
    refine .inl ⟨a, rfl, ⟨ws, SqL.of hw⟩, fun D hD => ?_⟩
    obtain ⟨R0, X0⟩ := R1.grow (vs := []) (ds := []) hD .nil
    have hn : (as ++ [D])[S1.length]? = some D := by rw [← R1.len]; simp
    have haj : (as ++ [D])[j]? = some a := by
      rw [List.getElem?_append_left (List.getElem?_eq_some_iff.mp ha).1]
      exact ha
    have EE := (E.ext E1).ext X0
    refine ⟨fun i q H' => ∃ S3, Ext (as ++ [D]) (upd H1 D (.lst [])) (as ++ [D]) H' ∧ Rel K (as ++ [D]) S3 H' ∧ lcGoC S1.length j tgt tt te (wipeR ρ vs) q i S3 = some S2, ⟨_, S1 ++ [Cell.l []], .refl, R0, e2⟩, ?_⟩
    rintro i q H' ⟨S3, X1, R3, e4⟩
    cases q with
    | zero => cases e4
    | succ q =>
      obtain ⟨l3, el3, e4⟩ := Option.bind_eq_some_iff.mp e4
      obtain ⟨ws3, hw3, dw3⟩ := R3.at_ j a l3 haj el3
      have sq : SqL K H' a ws3 := SqL.of hw3
      cases hx : l3[i]? with
      | none =>
        rw [hx] at e4
        cases e4
        refine .inl ⟨⟨ws3, sq, by rw [dpAll_len dw3]; exact List.getElem?_eq_none_iff.mp hx⟩, ?_⟩
        exact lc_end R1 E1 e3 R3 (X0.trans X1) k
      | some x =>
        rw [hx] at e4
        obtain ⟨w, ew, dw4⟩ := dpAll_get dw3 hx
        refine .inr ⟨⟨ws3, w, sq, ew⟩, fun H2 => ∃ S4, Ext (as ++ [D]) (upd H1 D (.lst [])) (as ++ [D]) H2 ∧ Rel K (as ++ [D]) S4 H2 ∧ lcGoC S1.length j tgt tt te (wipeR ρ vs) q (i + 1) S4 = some S2, fun H2 z => ⟨q, Nat.lt_succ_self _, z⟩, fun y H2 yl => ?_⟩
        obtain ⟨rfl, yl⟩ := yl
        have hyw : y = w := Option.some.inj ((yl ws3 sq).symm.trans ew)
        subst hyw
        obtain ⟨ρ3, e5, e4⟩ := Option.bind_eq_some_iff.mp e4
        obtain ⟨⟨b, S5⟩, e6, e4⟩ := Option.bind_eq_some_iff.mp e4
        refine ⟨as ++ [D], wipeR ρ vs, x, ρ3, (EE.ext X1).wiped vs, dw4, e5, fun σ3 E3 A3 => ⟨wipe_ww A3 hv, as ++ [D], ρ3, S3, b, S5, R3, E3, e6, fun H5 R5 X5 => ?_⟩⟩
        dsimp only at e4 ⊢
        split
        · rename_i hb
          rw [if_pos hb] at e4
          obtain ⟨⟨v, S6⟩, e7, e4⟩ := Option.bind_eq_some_iff.mp e4
          refine ⟨as ++ [D], ρ3, S5, v, S6, R5, E3.ext X5, e7, fun u H6 R6 X6 V6 => ?_⟩
          cases v with
          | c j => cases e4
          | d y =>
            obtain ⟨S7, e8, e4⟩ := Option.bind_eq_some_iff.mp e4
            obtain ⟨acc, h1, h2, R7, X7⟩ := push_ok R6 hn e8 V6
            exact ⟨acc, h1, h2, S7, X1.trans (X5.trans (X6.trans X7)), R7, e4⟩
        · rename_i hb
          rw [if_neg hb] at e4
          exact ⟨S5, X1.trans X5, R5, e4⟩
section
variable {X : Cx} {tg iter elt : Expr} {ifs : List Expr} {scope : Scope} {pos : Pos} {own : List (Str × Nat)} {vs is : List Nat} {tgt : TgD} {tt : MB} {te : M}
theorem dl_lcC {m : M} (hc : X.calm = true) (hN : X.N.Nodup) (hi : DE X iter m) (ok : BlkOk X.N X.env.scope scope own)
    (hg : ∀ (s : Shared) (H : Hp) (C : Addr) (cl : List (Str × Addr)) (fp : List Addr), DG (X.blk s H scope (compEnvC scope cl C X.env) fp) tg is tgt) (ht : ∀ (s : Shared) (H : Hp) (C : Addr) (cl : List (Str × Addr)) (fp : List Addr), DTs (X.blk s H scope (compEnvC scope cl C X.env) fp) ifs tt)
    (he : ∀ (s : Shared) (H : Hp) (C : Addr) (cl : List (Str × Addr)) (fp : List Addr), DE (X.blk s H scope (compEnvC scope cl C X.env) fp) elt te) (hv : (is.all fun i => vs.contains i) = true) (hs : ∀ x, foldedSetIterable iter X.env x = pure x := by intro _; rfl) (hvs : own.map (·.2) = vs := by rfl) :
    DLs X (.ListComp elt [⟨tg, iter, ifs, 0⟩] scope pos) (mLcC m vs tgt tt te) := by
  subst hvs
  exact pe_imp (pe_lc hc hN (pi_seq hi) ok hg ht he hs) (lcC_D fun i h => by simpa using List.all_eq_true.mp hv i h)
end
end DL

namespace DL
open PySem PySem.Spec PyProof.Rows L2 DK
variable [Nms] [Tabs]
/-! ### sorted(set(row)) of whole numbers -/
def ins (k : Int) : List Int → List Int
  | [] => [k]
  | x :: r => if k < x then k :: x :: r else if k = x then x :: r else x :: ins k r
def rising : List Int → List Int
  | [] => []
  | k :: r => ins k (rising r)
theorem ins_mem {k j : Int} : ∀ {l : List Int}, j ∈ ins k l ↔ j = k ∨ j ∈ l
  | [] => by simp [ins]
  | x :: r => by
    unfold ins
    split
    · simp
    · split
      · rename_i h
        subst h
        simp
      · rw [List.mem_cons, ins_mem, List.mem_cons]
        constructor
        · rintro (h | h | h)
          · exact .inr (.inl h)
          · exact .inl h
          · exact .inr (.inr h)
        · rintro (h | h | h)
          · exact .inr (.inl h)
          · exact .inl h
          · exact .inr (.inr h)
theorem ins_up {k : Int} : ∀ {l : List Int}, l.Pairwise (· < ·) → (ins k l).Pairwise (· < ·)
  | [], _ => by simp [ins]
  | x :: r, h => by
    obtain ⟨h1, h2⟩ := List.pairwise_cons.mp h
    unfold ins
    split
    · rename_i hk
      refine List.pairwise_cons.mpr ⟨fun y hy => ?_, h⟩
      rcases List.mem_cons.mp hy with rfl | hy
      · exact hk
      · have := h1 y hy
        omega
    · split
      · exact h
      · rename_i a b
        refine List.pairwise_cons.mpr ⟨fun y hy => ?_, ins_up h2⟩
        rcases ins_mem.mp hy with rfl | hy
        · omega
        · exact h1 y hy
theorem rising_mem {j : Int} : ∀ {l : List Int}, j ∈ rising l ↔ j ∈ l
  | [] => by simp [rising]
  | x :: r => by
    show j ∈ ins x (rising r) ↔ _
    rw [ins_mem, rising_mem, List.mem_cons]
theorem rising_up : ∀ l : List Int, (rising l).Pairwise (· < ·)
  | [] => .nil
  | x :: r => ins_up (rising_up r)
theorem up_unique : ∀ {a b : List Int}, a.Pairwise (· < ·) → b.Pairwise (· < ·) → (∀ k, k ∈ a ↔ k ∈ b) → a = b
  | [], [], _, _, _ => rfl
  | [], y :: b, _, _, h => absurd ((h y).mpr (by simp)) (by simp)
  | x :: a, [], _, _, h => absurd ((h x).mp (by simp)) (by simp)
  | x :: a, y :: b, ha, hb, h => by
    obtain ⟨a1, a2⟩ := List.pairwise_cons.mp ha
    obtain ⟨b1, b2⟩ := List.pairwise_cons.mp hb
    have hxy : x = y := by
      have q1 := List.mem_cons.mp ((h x).mp (by simp))
      have q2 := List.mem_cons.mp ((h y).mpr (by simp))
      rcases q1 with q1 | q1
      · exact q1
      · rcases q2 with q2 | q2
        · exact q2.symm
        · have := b1 x q1
          have := a1 y q2
          omega
    subst hxy
    rw [up_unique a2 b2 fun k => ?_]
    constructor
    · intro hk
      rcases List.mem_cons.mp ((h k).mp (List.mem_cons_of_mem _ hk)) with rfl | q
      · have := a1 k hk
        omega
      · exact q
    · intro hk
      rcases List.mem_cons.mp ((h k).mpr (List.mem_cons_of_mem _ hk)) with rfl | q
      · have := b1 k hk
        omega
      · exact q
def rSetTI (K : PySem.W.Frag) (w : World) : List V → Hp → VK → Prop := fun vs H Q => ∃ (a : Addr) (ns : List Int), vs = [V.ref a] ∧ SqT K H a (ns.map V.int) ∧ ns.length + 1 < scanBound ∧
  ∀ (p : Addr) (c : Nat), H p = none → c ≤ ns.length → Q (.ref p) (upd H p (SetO w p (fun j => decide (j ∈ ns)) c))
theorem cr_setTI {X : Cx} (hc : X.calm = true) : CallR X (.type "set") (rSetTI X.K X.w) := by
  intro pins s σ H vs us Q I r h
  obtain ⟨a, ns, rfl, hs, hb, q⟩ := h
  rw [Vals.ref1 r]
  obtain ⟨its, rv, pl, hz⟩ := I.tuple hs
  exact call_set_tupI ns (I.ok.hd hc) (show s.heap.IsTuple a its.toArray from pl) (by simpa using ints_of_vals rv) hb fun h' tk c R hc' k =>
    ⟨.ref _, upd H s.heap.objs.size (SetO X.w s.heap.objs.size (fun j => decide (j ∈ ns)) c), I.laid (t' := tk) k (Nat.le_refl _) (setO_new R), rfl, q _ c (I.hok.fresh (Nat.le_refl _)) hc'⟩
def mSrt (m : M) : ML := fun ρ S => (m ρ S).bind fun p => match p.1 with
  | .d (.tuple xs) => (intsOf xs).bind fun ns => if ns.length < 64 then some ((rising ns).map .int, p.2) else none
  | _ => none
section
variable {X : Cx} {e : Expr} {m : M} {p p2 pos pos2 : Pos}
theorem dl_sortset (hc : X.calm = true) (he : DE X e m) (hg : Gl X "sorted") (hm : X.mg "sorted" = none) (hg2 : Gl X "set") (hm2 : X.mg "set" = none) (hv : bootBuiltins "sorted" = some (.builtin "sorted"))
    (h1 : starEach [.Call (.Name "set" p2) [e] [] pos2] X.env = (false, eval (.Call (.Name "set" p2) [e] [] pos2) X.env) :: starEach [] X.env := by rfl) (h2 : starEach [e] X.env = (false, eval e X.env) :: starEach [] X.env := by rfl) :
    DLs X (.Call (.Name "sorted" p) [.Call (.Name "set" p2) [e] [] pos2] [] pos) (mSrt m) :=
  pe_imp (pe_callB (cr_sortedSet hc) hg hm hv (pa_cons (pe_callTy (cr_setTI hc) hg2 hm2 boot_set (pa_cons he pa_nil h2) (he := h2)) pa_nil h1) (he := h1)) fun σ H Q ⟨as, ρ, S, ds, S', R, E, e0, k⟩ => by
    obtain ⟨⟨v, S1⟩, e1, e0⟩ := Option.bind_eq_some_iff.mp e0
    refine ⟨as, ρ, S, v, S1, R, E, e1, fun u H1 R1 E1 V1 => ?_⟩
    dsimp only at e0
    split at e0
    · rename_i xs
      obtain ⟨ns, e2, e0⟩ := Option.bind_eq_some_iff.mp e0
      split at e0
      · rename_i hl
        cases e0
        cases V1 with
        | tup s1 a1 =>
          rw [intsOf_some e2] at a1
          rw [dpAll_ints_inv a1] at s1
          refine ⟨_, ns, rfl, sqT_mono hide_same s1, by show _ < 4096; omega, fun q c hq hcn => ?_⟩
          refine ⟨q, _, c, rfl, upd_same .., by omega, fun ms l h1 h2 h3 h4 => ?_⟩
          have em : ms = rising ns := up_unique h1 (rising_up ns) fun j => by rw [h2, decide_eq_true_eq, rising_mem]
          subst em
          obtain ⟨R2, X2⟩ := R1.laid (o := SetO X.w q (fun j => decide (j ∈ ns)) c) hq
          exact k l _ _ R2 (E1.trans X2) h4 (dpAll_ints _)
      · cases e0
    · cases e0
end
/-! ### row.count(k) -/
def rCntT (K : PySem.W.Frag) : V → List V → Hp → VK → Prop := fun x xs H Q => ∃ (p : Addr) (ns : List Int) (k : Int), x = .ref p ∧ xs = [.int k] ∧ SqT K H p (ns.map V.int) ∧ Q (.int (ns.count k : Nat)) H
theorem mt_tcount {X : Cx} : MtR X "tuple.count" (rCntT X.K) := by
  intro pins s σ H x xs v us Q I rx rxs h
  obtain ⟨p, ns, k, rfl, rfl, hs, q⟩ := h
  cases rx
  obtain ⟨u, rfl, ru⟩ := rxs.one
  obtain ⟨t, rfl⟩ := ru
  obtain ⟨its, rv, pl, hlen⟩ := I.tuple hs
  obtain ⟨⟨cls, dd, data, sl⟩, ho, hc, n, hd⟩ := (show s.heap.IsTuple p its.toArray from pl)
  simp only at hc hd
  subst hc hd
  have hi := ints_of_vals rv
  refine call_meets PySem.F.slot_tuple_count ⟨_, ho, rfl⟩ PySem.F.entry_tuple_count (PySem.F.args_tuple_count_2 _ _)
    (SeqAt.tuple_countAt p its.toArray n dd sl (.int k t) (eqk k)) ⟨ho, fun y hy => (eqk_gives hi y (by simpa using hy)).at _ _, ?_⟩
  have ec : its.toArray.toList.countP (eqk k) = ns.count k := eqk_count hi
  refine ⟨.int (ns.count k : Nat), H, I.tok _, ⟨s.toks, ?_⟩, q⟩
  show Value.int ((its.toArray.toList.countP (eqk k) : Nat) : Int) s.toks = Value.int ((ns.count k : Nat) : Int) s.toks
  rw [ec]
/-! ### xs.extend(ys): xs a list of ours, ys a new one -/
def mExtend (mo : M) (ml : ML) : M := fun ρ S => (mo ρ S).bind fun o => (ml ρ o.2).bind fun q => match o.1 with
  | .c j => if (lAt o.2 j).isSome = true then (lAt q.2 j).bind fun ds => if ds.length + q.1.length ≤ 1000000 then some (.d .none, q.2.set j (.l (ds ++ q.1))) else none else none
  | _ => none
theorem de_extend {X : Cx} {o e : Expr} {mo : M} {ml : ML} {apos cpos : Pos} (ho : DE X o mo) (he : DLs X e ml) (hbase : attributeBase o "extend" X.env (eval o X.env) = eval o X.env := by rfl)
    (hfew : ((backTo cpos (starEach [e] X.env)).all (fun x => !x.1) && (backToKw cpos (keywordEach [] X.env)).all (fun x => x.1.isSome) && decide ([e].length + ([] : List Keyword).length + (if ([] : List Keyword).isEmpty then 0 else 1) < 30)) = true := by rfl)
    (hline : (apos.endLine == cpos.line) = true := by rfl) (hs : starEach [e] X.env = (false, eval e X.env) :: starEach [] X.env := by rfl) (hplain : (backTo cpos (starEach [] X.env)).any (·.1) = false := by rfl) :
    DE X (.Call (.Attribute o "extend" apos) [e] [] cpos) (mExtend mo ml) :=
  pe_imp (pe_bm PySem.F.plainAttrs_list PySem.F.slot_list_extend PySem.F.type_list_extend mt_extend ho (pa_cons he pa_nil hs) hbase hfew hline hs hplain) fun σ H Q ⟨as, ρ, S, r, S', R, E, e, k⟩ => by
    obtain ⟨⟨o, S1⟩, e1, e⟩ := Option.bind_eq_some_iff.mp e
    obtain ⟨⟨zs, S2⟩, e2, e⟩ := Option.bind_eq_some_iff.mp e
    refine ⟨as, ρ, S, o, S1, R, E, e1, fun u H1 R1 E1 V1 => ?_⟩
    dsimp only at e
    split at e
    · rename_i j _
      split at e
      · rename_i hs
        obtain ⟨ds0, e0⟩ := Option.isSome_iff_exists.mp hs
        obtain ⟨ds, e3, e⟩ := Option.bind_eq_some_iff.mp e
        obtain ⟨a, q, rfl⟩ := id V1
        refine ⟨cell_ty R1 V1 e0, as, ρ, S1, zs, S2, R1, E.ext E1, e2, fun p H2 ws R2 E2 hp hd => ?_⟩
        split at e
        · rename_i hz
          cases e
          obtain ⟨R3, X3⟩ := R2.laid (o := .lst ws) hp
          obtain ⟨vs, h1, h2⟩ := R3.at_ j a ds q e3
          have hd3 := dpAll_mono X3.same _ _ hd
          obtain ⟨R4, E4⟩ := R3.put q (dpAll_append h2 hd3) ⟨_, h1⟩
          refine ⟨a, p, vs, ws, rfl, rfl, h1, upd_same .., by rw [dpAll_len h2, dpAll_len hd, sizeLine_eq]; omega, ?_⟩
          exact k _ _ R4 (E1.trans (E2.trans (X3.trans E4))) .non
        · cases e
      · cases e
    · cases e
/-! ### sorted(xs) of whole numbers -/
def insL (k : Int) : List Int → List Int
  | [] => [k]
  | x :: r => if k ≤ x then k :: x :: r else x :: insL k r
def sortI : List Int → List Int
  | [] => []
  | k :: r => insL k (sortI r)
theorem insL_perm (k : Int) : ∀ l : List Int, (insL k l).Perm (k :: l)
  | [] => .refl _
  | x :: r => by
    unfold insL
    split
    · exact .refl _
    · exact ((insL_perm k r).cons x).trans (.swap k x r)
theorem insL_up (k : Int) : ∀ {l : List Int}, l.Pairwise (· ≤ ·) → (insL k l).Pairwise (· ≤ ·)
  | [], _ => by simp [insL]
  | x :: r, h => by
    obtain ⟨h1, h2⟩ := List.pairwise_cons.mp h
    unfold insL
    split
    · rename_i hk
      refine List.pairwise_cons.mpr ⟨fun y hy => ?_, h⟩
      rcases List.mem_cons.mp hy with rfl | hy
      · exact hk
      · have := h1 y hy
        omega
    · rename_i hk
      refine List.pairwise_cons.mpr ⟨fun y hy => ?_, insL_up k h2⟩
      rcases List.mem_cons.mp ((insL_perm k r).mem_iff.mp hy) with rfl | hy
      · omega
      · exact h1 y hy
theorem sortI_perm : ∀ l : List Int, (sortI l).Perm l
  | [] => .refl _
  | k :: r => (insL_perm k (sortI r)).trans ((sortI_perm r).cons k)
theorem sortI_up : ∀ l : List Int, (sortI l).Pairwise (· ≤ ·)
  | [] => .nil
  | k :: r => insL_up k (sortI_up r)
theorem sorted_unique : ∀ {a b : List Int}, a.Pairwise (· ≤ ·) → b.Pairwise (· ≤ ·) → a.Perm b → a = b
  | [], b, _, _, h => (h.nil_eq)
  | x :: a, [], _, _, h => absurd h.length_eq (by simp)
  | x :: a, y :: b, ha, hb, h => by
    obtain ⟨a1, a2⟩ := List.pairwise_cons.mp ha
    obtain ⟨b1, b2⟩ := List.pairwise_cons.mp hb
    have hxy : x = y := by
      rcases List.mem_cons.mp (h.mem_iff.mp (List.mem_cons_self (a := x))) with q1 | q1
      · exact q1
      · rcases List.mem_cons.mp (h.mem_iff.mpr (List.mem_cons_self (a := y))) with q2 | q2
        · exact q2.symm
        · have := b1 x q1
          have := a1 y q2
          omega
    subst hxy
    rw [sorted_unique a2 b2 (List.Perm.cons_inv h)]
def mSortI (m : M) : ML := fun ρ S => (m ρ S).bind fun p => (asD p.2 p.1).bind fun d => match d with
  | .list xs => (intsOf xs).bind fun ns => some ((sortI ns).map .int, p.2)
  | _ => none
section
variable {X : Cx} {e : Expr} {m : M} {p pos : Pos}
theorem dl_sortI (he : DE X e m) (hg : Gl X "sorted") (hm : X.mg "sorted" = none) (hv : bootBuiltins "sorted" = some (.builtin "sorted")) (h2 : starEach [e] X.env = (false, eval e X.env) :: starEach [] X.env := by rfl) :
    DLs X (.Call (.Name "sorted" p) [e] [] pos) (mSortI m) :=
  pe_imp (pe_callB cr_sortedI hg hm hv (pa_cons he pa_nil h2) (he := h2)) fun σ H Q ⟨as, ρ, S, ds, S', R, E, e0, k⟩ => by
    obtain ⟨⟨v, S1⟩, e1, e0⟩ := Option.bind_eq_some_iff.mp e0
    refine ⟨as, ρ, S, v, S1, R, E, e1, fun u H1 R1 E1 V1 => ?_⟩
    obtain ⟨d, e3, e0⟩ := Option.bind_eq_some_iff.mp e0
    dsimp only at e0 e3
    split at e0
    · rename_i xs
      obtain ⟨ns, e2, e0⟩ := Option.bind_eq_some_iff.mp e0
      cases e0
      obtain ⟨a, vs, rfl, s1, a1⟩ := list_at R1 V1 e3
      rw [intsOf_some e2] at a1
      rw [dpAll_ints_inv a1] at s1
      refine ⟨a, ns, rfl, s1, fun ms l h1 h2 h4 => ?_⟩
      have em : ms = sortI ns := sorted_unique h2 (sortI_up ns) (h1.trans (sortI_perm ns).symm)
      subst em
      exact k l _ _ R1 E1 h4 (dpAll_ints _)
    · cases e0
end
end DL

namespace DL
open PySem PySem.Spec PyProof.Rows L2 DK
variable [Nms] [T0 : Tabs]
def enumD : Nat → List PyData → List PyData
  | _, [] => []
  | i, x :: r => .tuple [.int (i : Nat), x] :: enumD (i + 1) r
theorem enumD_get : ∀ {xs : List PyData} {k i : Nat} {d : PyData}, (enumD k xs)[i]? = some d → ∃ a, xs[i]? = some a ∧ d = .tuple [.int ((k + i : Nat) : Int), a]
  | [], _, _, _, h => by simp [enumD] at h
  | x :: r, k, 0, d, h => by
    simp [enumD] at h
    exact ⟨x, rfl, h.symm⟩
  | x :: r, k, i + 1, d, h => by
    have h' : (enumD (k + 1) r)[i]? = some d := by simpa [enumD] using h
    obtain ⟨a, e1, e2⟩ := enumD_get h'
    exact ⟨a, by simpa using e1, by rw [e2]; congr 4; omega⟩
theorem enumD_len : ∀ (xs : List PyData) (k : Nat), (enumD k xs).length = xs.length
  | [], _ => rfl
  | x :: r, k => by simp [enumD, enumD_len r]
theorem iters_enum {kd : Bool} {K : Fg} {as : List Addr} {H1 : Hp} {a : Addr} {vs : List V} {xs : List PyData} (hs : Sq kd K (hide as H1) a vs) (hd : DpAll K (hide as H1) vs xs) : Iters K as H1 (ItE kd K a) (enumD 0 xs) := by
  refine ⟨fun as' H2 E i d e => ?_, fun as' S H2 E R i d e x H3 y => ?_, fun as' H2 E => ⟨vs, sq_ext hs E, by rw [enumD_len, dpAll_len hd]; exact Nat.le_refl _⟩⟩
  · obtain ⟨p, e1, _⟩ := enumD_get e
    obtain ⟨v, f1, _⟩ := dpAll_get hd e1
    exact ⟨vs, v, sq_ext hs E, f1⟩
  · obtain ⟨p, e1, rfl⟩ := enumD_get e
    obtain ⟨v, f1, g1⟩ := dpAll_get hd e1
    obtain ⟨T, o, x', rfl, ho, hT, h3, k1⟩ := y
    have ev : x' = v := Option.some.inj ((k1 vs (sq_ext hs E)).symm.trans f1)
    subst ev
    rw [Nat.zero_add]
    exact pair_yld R ho hT h3 (.int _) (dp_mono E.same _ _ g1)
def mEnum (ma : MA) : ML := fun ρ S => (ma ρ S).bind fun p => match p.1 with
  | [.d (.tuple xs)] => some (enumD 0 xs, p.2)
  | [.d (.list xs)] => some (enumD 0 xs, p.2)
  | _ => none
theorem di_enum {X : Cx} {e : Expr} {ma : MA} {p pos tpos : Pos} {elts : List Expr} {kk : Nat} (hg : Gl X "enumerate") (hm : X.mg "enumerate" = none) (ha : DA X [e] ma)
    (hs : starEach [e] X.env = [(false, eval e X.env)] := by rfl) : DI X (.Tuple elts kk tpos) (.Call (.Name "enumerate" p) [e] [] pos) (mEnum ma) :=
  pi_imp (pi_enumF hg hm ha hs) fun σ H Rr ⟨as, ρ, S, xs, S1, R, E, e, k⟩ => by
    obtain ⟨⟨vs, S2⟩, e1, e⟩ := Option.bind_eq_some_iff.mp e
    refine ⟨as, ρ, S, vs, S2, R, E, e1, fun us H1 R1 E1 V1 => ?_⟩
    dsimp only at e
    split at e
    · cases e
      obtain ⟨u, rfl, a⟩ := paired1 V1
      cases a with
      | tup s1 d1 => exact ⟨false, _, _, rfl, sqT_mono hide_same s1, k _ H1 R1 E1 (iters_enum (kd := false) s1 d1)⟩
    · cases e
      obtain ⟨u, rfl, a⟩ := paired1 V1
      cases a with
      | lst s1 d1 => exact ⟨true, _, _, rfl, hide_same.seq s1, k _ H1 R1 E1 (iters_enum (kd := true) s1 d1)⟩
    · cases e
/-! ### t.count(x) -/
/-- a tuple of ours has no dict -/
theorem tup_nd {K : Fg} {as : List Addr} {H : Hp} {a : Addr} {vs : List V} (hk : noTD K = true) (h : SqT K (hide as H) a vs) : (∃ o : Obj, o.dict = none ∧ H a = some (.frz o (.tup vs))) ∨ ∃ o : Obj, K.lookup a = some o ∧ o.cls = .type "tuple" ∧ o.dict = none := by
  rcases h with (h | ⟨o, h⟩) | ⟨o, its, n, h, c, _⟩
  · obtain ⟨_, _, t⟩ := hide_of3 h
    cases t
  · obtain ⟨_, e, t⟩ := hide_of3 h
    exact .inl ⟨o, Option.isNone_iff_eq_none.mp t, e⟩
  · refine .inr ⟨o, h, c, ?_⟩
    have z := List.all_eq_true.mp hk _ (look_mem h)
    rw [Bool.or_eq_true] at z
    rcases z with z | z
    · rw [show (a, o).2.cls = .type "tuple" from c] at z
      simp at z
    · exact Option.isNone_iff_eq_none.mp z
/-- o.m(e) of a tuple that has no dict -/
theorem pe_tm {X : Cx} {o e : Expr} {to : TE} {t : TA} {name : Str} {id : String} {r : V → List V → Hp → VK → Prop} {apos cpos : Pos} (hk : noTD X.K = true) (slot : Slot "tuple" name id) (hty : typeOf (.builtin id) = pure (.type "method_descriptor")) (hm : MtR X id r) (ho : PE X o to) (ha : PA X [e] t)
    (hbase : attributeBase o name X.env (eval o X.env) = eval o X.env := by rfl)
    (hfew : ((backTo cpos (starEach [e] X.env)).all (fun x => !x.1) && (backToKw cpos (keywordEach [] X.env)).all (fun x => x.1.isSome) && decide ([e].length + ([] : List Keyword).length + (if ([] : List Keyword).isEmpty then 0 else 1) < 30)) = true := by rfl)
    (hline : (apos.endLine == cpos.line) = true := by rfl) (hs : starEach [e] X.env = (false, eval e X.env) :: starEach [] X.env := by rfl) (hplain : (backTo cpos (starEach [] X.env)).any (·.1) = false := by rfl) :
    PE X (.Call (.Attribute o name apos) [e] [] cpos) (fun σ H Q => to σ H fun x H1 => (∃ as a vs, x = .ref a ∧ SqT X.K (hide as H1) a vs) ∧ t σ H1 fun xs H2 => r x xs H2 Q) := by
  refine ⟨fun pins s σ H Q I h => wpAny_Call_method_late hbase hfew hline rfl (thn (ho.run pins s σ H _ I h) fun v s1 ⟨x, H1, I1, r1, ⟨as, a, vs, ex, hq⟩, q1⟩ => ?_)⟩
  subst ex
  cases r1
  obtain ⟨its, _, pl, _⟩ := I1.tuple (sqT_mono hide_same hq)
  refine ⟨"tuple", id, PySem.F.plainAttrs_tuple, slot, hty, pl.typeIs, fun b e => ?_, ?_⟩
  · cases e
    rcases tup_nd hk hq with ⟨o, hd, e⟩ | ⟨o, e, _, hd⟩
    · exact ⟨o, (I1.hok _ _ e).1, hd⟩
    · exact ⟨o, I1.kIn _ _ e, hd⟩
  · have hA := ha.run cpos pins s1 σ H1 _ I1 q1
    rw [hs] at hA ⊢
    exact Calls.callWith_builtin (by show (false || (backTo cpos (starEach [] X.env)).any (·.1)) = false; rw [hplain] <;> rfl) (Calls.evalArgs_plain (thn hA fun us s2 ⟨ws, H2, I2, r2, q2⟩ => hm pins s2 σ H2 (.ref a) ws (.ref a) us Q I2 rfl r2 q2))
def mCount (mo mi : M) : M := fun ρ S => (mo ρ S).bind fun o => (mi ρ o.2).bind fun i => match o.1, i.1 with
  | .d (.tuple xs), .d (.int k) => (intsOf xs).bind fun ns => some (.d (.int (ns.count k : Nat)), i.2)
  | _, _ => none
theorem de_count {X : Cx} {o e : Expr} {mo mi : M} {apos cpos : Pos} (hk : noTD X.K = true) (ho : DE X o mo) (he : DE X e mi) (hbase : attributeBase o "count" X.env (eval o X.env) = eval o X.env := by rfl)
    (hfew : ((backTo cpos (starEach [e] X.env)).all (fun x => !x.1) && (backToKw cpos (keywordEach [] X.env)).all (fun x => x.1.isSome) && decide ([e].length + ([] : List Keyword).length + (if ([] : List Keyword).isEmpty then 0 else 1) < 30)) = true := by rfl)
    (hline : (apos.endLine == cpos.line) = true := by rfl) (hs : starEach [e] X.env = (false, eval e X.env) :: starEach [] X.env := by rfl) (hplain : (backTo cpos (starEach [] X.env)).any (·.1) = false := by rfl) :
    DE X (.Call (.Attribute o "count" apos) [e] [] cpos) (mCount mo mi) :=
  pe_imp (pe_tm hk PySem.F.slot_tuple_count PySem.F.type_tuple_count mt_tcount ho (pa_cons he pa_nil hs) hbase hfew hline hs hplain) fun σ H Q ⟨as, ρ, S, r, S', R, E, e, k⟩ => by
    obtain ⟨⟨o, S1⟩, e1, e⟩ := Option.bind_eq_some_iff.mp e
    obtain ⟨⟨i, S2⟩, e2, e⟩ := Option.bind_eq_some_iff.mp e
    refine ⟨as, ρ, S, o, S1, R, E, e1, fun u H1 R1 E1 V1 => ?_⟩
    dsimp only at e
    split at e
    · rename_i xs j _
      obtain ⟨ns, e3, e⟩ := Option.bind_eq_some_iff.mp e
      have eS := congrArg Prod.snd (Option.some.inj e)
      have eR := congrArg Prod.fst (Option.some.inj e)
      dsimp only at eS eR
      subst eS eR
      have V1' := V1
      cases V1' with
      | tup s1 a1 =>
        refine ⟨⟨as, _, _, rfl, s1⟩, as, ρ, S1, .d (.int j), S2, R1, E.ext E1, e2, fun w H2 R2 E2 V2 => ?_⟩
        cases V2
        cases V1.ext E2 with
        | tup s2 a2 =>
          rw [intsOf_some e3] at a2
          rw [dpAll_ints_inv a2] at s2
          exact ⟨_, ns, j, rfl, rfl, sqT_mono hide_same s2, k _ H2 R2 (E1.trans E2) (.int _)⟩
    · cases e
end DL

namespace DL
open PySem PySem.Spec PyProof.Rows L2 DK
/-! the frame, for what came later -/
theorem gxGo_sh {stop : PyData → Option Bool} {tgt : TgD} {tt : MB} {te : M} [FrT tgt] [FrB tt] [FrM te] (S : Sto) (ρ : RE) : ∀ (xs : List PyData) (T : Sto), gxGo stop tgt tt te (shR S.length ρ) xs (S ++ T) = (gxGo stop tgt tt te ρ xs T).map fun r => (r.1, r.2.1, S ++ r.2.2)
  | [], T => rfl
  | x :: xs, T => by
    show (tgt x (shR S.length ρ)).bind _ = Option.map _ ((tgt x ρ).bind _)
    rw [FrT.fr (t := tgt)]
    cases tgt x ρ with
    | none => rfl
    | some ρ1 =>
      show (tt (shR S.length ρ1) (S ++ T)).bind _ = Option.map _ ((tt ρ1 T).bind _)
      rw [FrB.fr (m := tt)]
      cases tt ρ1 T with
      | none => rfl
      | some b =>
        obtain ⟨b, T1⟩ := b
        cases b with
        | false => exact gxGo_sh S ρ xs T1
        | true =>
          show (te (shR S.length ρ1) (S ++ T1)).bind _ = Option.map _ ((te ρ1 T1).bind _)
          rw [FrM.fr (m := te)]
          cases te ρ1 T1 with
          | none => rfl
          | some v =>
            obtain ⟨v, T2⟩ := v
            cases v with
            | c i => rfl
            | d y =>
              show (stop y).bind _ = Option.map _ ((stop y).bind _)
              cases stop y with
              | none => rfl
              | some st =>
                cases st with
                | true => rfl
                | false =>
                  show (gxGo stop tgt tt te (shR S.length ρ) xs (S ++ T2)).bind _ = Option.map _ ((gxGo stop tgt tt te ρ xs T2).bind _)
                  rw [gxGo_sh S ρ xs T2]
                  cases gxGo stop tgt tt te ρ xs T2 <;> rfl
section
variable (mi : ML) (vs : List Nat) (tgt : TgD) (tt : MB) (te : M) [FrL mi] [FrT tgt] [FrB tt] [FrM te]
instance : FrM (mAll mi vs tgt tt te) := ⟨fun ρ S T => by
  unfold mAll
  rw [FrL.fr (m := mi)]
  cases mi ρ T with
  | none => rfl
  | some p =>
    show (gxGo stopAll tgt tt te (wipeR (shR S.length ρ) vs) p.1 (S ++ p.2)).bind _ = Option.map _ ((gxGo stopAll tgt tt te (wipeR ρ vs) p.1 p.2).bind _)
    rw [sh_wipe, gxGo_sh]
    cases gxGo stopAll tgt tt te (wipeR ρ vs) p.1 p.2 <;> rfl⟩
instance : FrM (mAny mi vs tgt tt te) := ⟨fun ρ S T => by
  unfold mAny
  rw [FrL.fr (m := mi)]
  cases mi ρ T with
  | none => rfl
  | some p =>
    show (gxGo stopAny tgt tt te (wipeR (shR S.length ρ) vs) p.1 (S ++ p.2)).bind _ = Option.map _ ((gxGo stopAny tgt tt te (wipeR ρ vs) p.1 p.2).bind _)
    rw [sh_wipe, gxGo_sh]
    cases gxGo stopAny tgt tt te (wipeR ρ vs) p.1 p.2 <;> rfl⟩
instance : FrM (mSumG mi vs tgt tt te) := ⟨fun ρ S T => by
  unfold mSumG
  rw [FrL.fr (m := mi)]
  cases mi ρ T with
  | none => rfl
  | some p =>
    show (gxGo stopSum tgt tt te (wipeR (shR S.length ρ) vs) p.1 (S ++ p.2)).bind _ = Option.map _ ((gxGo stopSum tgt tt te (wipeR ρ vs) p.1 p.2).bind _)
    rw [sh_wipe, gxGo_sh]
    cases gxGo stopSum tgt tt te (wipeR ρ vs) p.1 p.2 <;> rfl⟩
instance : FrM (mTupG mi vs tgt tt te) := ⟨fun ρ S T => by
  unfold mTupG
  rw [FrL.fr (m := mi)]
  cases mi ρ T with
  | none => rfl
  | some p =>
    show (gxGo stopNo tgt tt te (wipeR (shR S.length ρ) vs) p.1 (S ++ p.2)).bind _ = Option.map _ ((gxGo stopNo tgt tt te (wipeR ρ vs) p.1 p.2).bind _)
    rw [sh_wipe, gxGo_sh]
    cases gxGo stopNo tgt tt te (wipeR ρ vs) p.1 p.2 with
    | none => rfl
    | some r =>
      dsimp
      split <;> rfl⟩
end
instance (mo mi : M) [FrM mo] [FrM mi] : FrM (mCount mo mi) := ⟨fun ρ S T => by
  unfold mCount
  rw [FrM.fr (m := mo)]
  cases mo ρ T with
  | none => rfl
  | some o =>
    show (mi (shR S.length ρ) (S ++ o.2)).bind _ = Option.map _ ((mi ρ o.2).bind _)
    rw [FrM.fr (m := mi)]
    cases mi ρ o.2 with
    | none => rfl
    | some v =>
      obtain ⟨o, T1⟩ := o
      obtain ⟨v, T2⟩ := v
      cases o with
      | c _ => rfl
      | d x =>
        cases v with
        | c _ => cases x <;> rfl
        | d y =>
          cases x <;> cases y <;> try rfl
          rename_i xs k
          show (intsOf xs).bind _ = Option.map _ ((intsOf xs).bind _)
          cases intsOf xs <;> rfl⟩
instance (m : M) [FrM m] : FrL (mSrt m) := ⟨fun ρ S T => by
  unfold mSrt
  rw [FrM.fr (m := m)]
  cases m ρ T with
  | none => rfl
  | some o =>
    obtain ⟨o, T1⟩ := o
    cases o with
    | c _ => rfl
    | d x =>
      cases x <;> try rfl
      rename_i xs
      show (intsOf xs).bind _ = Option.map _ ((intsOf xs).bind _)
      cases intsOf xs with
      | none => rfl
      | some ns =>
        dsimp
        split <;> rfl⟩
instance (ma : MA) [FrA ma] : FrL (mEnum ma) := ⟨fun ρ S T => by
  unfold mEnum
  rw [FrA.fr (m := ma)]
  cases ma ρ T with
  | none => rfl
  | some p =>
    obtain ⟨vs, T1⟩ := p
    match vs with
    | [] => rfl
    | [.c _] => rfl
    | [.d x] => cases x <;> rfl
    | a :: b :: r => cases a with
      | c _ => rfl
      | d x => cases x <;> rfl⟩
end DL

/-! a run over what is known of the values -/
namespace DN
open PySem PySem.Spec PyProof.Rows L2 DL
inductive All2 {α β : Type} (R : α → β → Prop) : List α → List β → Prop
  | nil : All2 R [] []
  | cons {a b l m} : R a b → All2 R l m → All2 R (a :: l) (b :: m)
section
variable {α β : Type} {R : α → β → Prop}
theorem All2.len : ∀ {l : List α} {m : List β}, All2 R l m → l.length = m.length
  | _, _, .nil => rfl
  | _, _, .cons _ t => by rw [List.length_cons, List.length_cons, t.len]
theorem All2.get : ∀ {l : List α} {m : List β} {i : Nat} {a : α}, All2 R l m → l[i]? = some a → ∃ b, m[i]? = some b ∧ R a b
  | _, _, i, a, .nil, h => by simp at h
  | _, _, 0, a, .cons r _, h => by
    simp at h
    subst h
    exact ⟨_, rfl, r⟩
  | _, _, i + 1, a, .cons _ t, h => by
    obtain ⟨b, e, q⟩ := All2.get (i := i) (a := a) t (by simpa using h)
    exact ⟨b, by simpa using e, q⟩
theorem All2.set {a : α} {b : β} (r : R a b) : ∀ {l : List α} {m : List β} (i : Nat), All2 R l m → All2 R (l.set i a) (m.set i b)
  | _, _, _, .nil => .nil
  | _, _, 0, .cons _ t => .cons r t
  | _, _, i + 1, .cons q t => .cons q (All2.set r i t)
theorem All2.app : ∀ {l l' : List α} {m m' : List β}, All2 R l m → All2 R l' m' → All2 R (l ++ l') (m ++ m')
  | _, _, _, _, .nil, h => h
  | _, _, _, _, .cons r t, h => .cons r (All2.app t h)
theorem All2.take : ∀ {l : List α} {m : List β} (n : Nat), All2 R l m → All2 R (l.take n) (m.take n)
  | _, _, 0, _ => .nil
  | _, _, _ + 1, .nil => .nil
  | _, _, n + 1, .cons r t => .cons r (All2.take n t)
theorem All2.imp {R' : α → β → Prop} (f : ∀ a b, R a b → R' a b) : ∀ {l : List α} {m : List β}, All2 R l m → All2 R' l m
  | _, _, .nil => .nil
  | _, _, .cons r t => .cons (f _ _ r) (All2.imp f t)
theorem All2.rev : ∀ {l : List α} {m : List β}, All2 R l m → All2 R l.reverse m.reverse
  | _, _, .nil => .nil
  | _, _, .cons r t => by
    rw [List.reverse_cons, List.reverse_cons]
    exact All2.app (All2.rev t) (.cons r .nil)
theorem All2.mem : ∀ {l : List α} {m : List β} {b : β}, All2 R l m → b ∈ m → ∃ a ∈ l, R a b
  | _, _, b, .cons r t, h => by
    rcases List.mem_cons.mp h with rfl | h
    · exact ⟨_, List.mem_cons_self, r⟩
    · obtain ⟨a, ha, q⟩ := All2.mem t h
      exact ⟨a, List.mem_cons_of_mem _ ha, q⟩
end
/-! ### what is known of a datum -/
/-- a row of whole numbers that falls, from 1 to m, at most n of them -/
def Shp (n m : Nat) (d : PyData) : Prop := ∃ ps : List Int, d = .tuple (ps.map .int) ∧ ps.length ≤ n ∧ (∀ p ∈ ps, 1 ≤ p ∧ p ≤ m) ∧ ps.Pairwise (· ≥ ·)
inductive AV where
  | shp (n m : Nat)
  | ex (d : PyData)
  | int (lo hi : Int)
  | bool
  | tup (vs : List AV)
  | lst (vs : List AV)
  | tups (n : Nat) (v : AV)
  | lsts (n : Nat) (v : AV)
  | okk (n L : Nat)
  | one (ds : List PyData)
  | sat (P : PyData → Prop)
  | rep (d : PyData)
  | top
mutual
def γ : AV → PyData → Prop
  | .shp n m, x => Shp n m x
  | .ex d, x => x = d
  | .int lo hi, x => ∃ i, x = .int i ∧ lo ≤ i ∧ i ≤ hi
  | .bool, x => ∃ b, x = .bool b
  | .tup vs, x => ∃ xs, x = .tuple xs ∧ γs vs xs
  | .lst vs, x => ∃ xs, x = .list xs ∧ γs vs xs
  | .tups n v, x => ∃ xs, x = .tuple xs ∧ xs.length ≤ n ∧ ∀ y ∈ xs, γ v y
  | .lsts n v, x => ∃ xs, x = .list xs ∧ xs.length ≤ n ∧ ∀ y ∈ xs, γ v y
  | .okk n L, x => Okk n L x
  | .one ds, x => x ∈ ds
  | .sat P, x => P x
  | .rep d, x => x = .str d.shown ∧ PyData.strOk d.shown = true
  | .top, _ => True
def γs : List AV → List PyData → Prop
  | [], [] => True
  | v :: vs, x :: xs => γ v x ∧ γs vs xs
  | [], _ :: _ => False
  | _ :: _, [] => False
end
theorem γs_all : ∀ {vs : List AV} {xs : List PyData}, γs vs xs ↔ All2 γ vs xs
  | [], [] => ⟨fun _ => .nil, fun _ => trivial⟩
  | v :: vs, x :: xs => ⟨fun h => .cons h.1 (γs_all.mp h.2), fun h => by cases h with | cons r t => exact ⟨r, γs_all.mpr t⟩⟩
  | [], _ :: _ => ⟨fun h => h.elim, fun h => by cases h⟩
  | _ :: _, [] => ⟨fun h => h.elim, fun h => by cases h⟩
/-- a list's items: each one, or how many at most and of which kind -/
inductive Sq where
  | exs (vs : List AV)
  | sum (n : Nat) (v : AV)
def γq : Sq → List PyData → Prop
  | .exs vs, xs => All2 γ vs xs
  | .sum n v, xs => xs.length ≤ n ∧ ∀ y ∈ xs, γ v y
/-! equal data -/
mutual
def sameD : PyData → PyData → Bool
  | .none, .none => true
  | .bool a, .bool b => a == b
  | .int i, .int j => i == j
  | .str x, .str y => x == y
  | .list xs, .list ys => sameDs xs ys
  | .tuple xs, .tuple ys => sameDs xs ys
  | _, _ => false
def sameDs : List PyData → List PyData → Bool
  | [], [] => true
  | x :: xs, y :: ys => sameD x y && sameDs xs ys
  | _, _ => false
end
mutual
theorem sameD_eq : ∀ {a b : PyData}, sameD a b = true → a = b
  | .none, .none, _ => rfl
  | .bool a, .bool b, h => by rw [show a = b from beq_iff_eq.mp h]
  | .int a, .int b, h => by rw [show a = b from beq_iff_eq.mp h]
  | .str a, .str b, h => by rw [show a = b from beq_iff_eq.mp h]
  | .list xs, .list ys, h => by rw [sameDs_eq (show sameDs xs ys = true from h)]
  | .tuple xs, .tuple ys, h => by rw [sameDs_eq (show sameDs xs ys = true from h)]
  | .none, .bool _, h | .none, .int _, h | .none, .str _, h | .none, .list _, h | .none, .tuple _, h | .none, .dict _, h => by simp [sameD] at h
  | .bool _, .none, h | .bool _, .int _, h | .bool _, .str _, h | .bool _, .list _, h | .bool _, .tuple _, h | .bool _, .dict _, h => by simp [sameD] at h
  | .int _, .none, h | .int _, .bool _, h | .int _, .str _, h | .int _, .list _, h | .int _, .tuple _, h | .int _, .dict _, h => by simp [sameD] at h
  | .str _, .none, h | .str _, .bool _, h | .str _, .int _, h | .str _, .list _, h | .str _, .tuple _, h | .str _, .dict _, h => by simp [sameD] at h
  | .list _, .none, h | .list _, .bool _, h | .list _, .int _, h | .list _, .str _, h | .list _, .tuple _, h | .list _, .dict _, h => by simp [sameD] at h
  | .tuple _, .none, h | .tuple _, .bool _, h | .tuple _, .int _, h | .tuple _, .str _, h | .tuple _, .list _, h | .tuple _, .dict _, h => by simp [sameD] at h
  | .dict _, _, h => by simp [sameD] at h
theorem sameDs_eq : ∀ {xs ys : List PyData}, sameDs xs ys = true → xs = ys
  | [], [], _ => rfl
  | x :: xs, y :: ys, h => by
    have h2 : (sameD x y && sameDs xs ys) = true := h
    rw [Bool.and_eq_true] at h2
    rw [sameD_eq h2.1, sameDs_eq h2.2]
  | [], _ :: _, h => by simp [sameDs] at h
  | _ :: _, [], h => by simp [sameDs] at h
end
/-! ### views -/
def asInt : AV → Option (Int × Int)
  | .ex (.int i) => some (i, i)
  | .int lo hi => some (lo, hi)
  | _ => none
theorem asInt_ok {v : AV} {lo hi : Int} {x : PyData} (h : asInt v = some (lo, hi)) (g : γ v x) : ∃ i, x = .int i ∧ lo ≤ i ∧ i ≤ hi := by
  unfold asInt at h
  split at h
  · cases h
    exact ⟨_, g, Int.le_refl _, Int.le_refl _⟩
  · cases h
    exact g
  · cases h
def asBool : AV → Bool
  | .ex (.bool _) => true
  | .bool => true
  | _ => false
theorem asBool_ok {v : AV} {x : PyData} (h : asBool v = true) (g : γ v x) : ∃ b, x = .bool b := by
  unfold asBool at h
  split at h
  · exact ⟨_, g⟩
  · exact g
  · cases h
def tupOf : AV → Option Sq
  | .ex (.tuple xs) => some (.exs (xs.map .ex))
  | .tup vs => some (.exs vs)
  | .tups n v => some (.sum n v)
  | .shp n m => some (.sum n (.int 1 m))
  | _ => none
def lstOf : AV → Option Sq
  | .ex (.list xs) => some (.exs (xs.map .ex))
  | .lst vs => some (.exs vs)
  | .lsts n v => some (.sum n v)
  | _ => none
theorem all_ex : ∀ xs : List PyData, All2 γ (xs.map .ex) xs
  | [] => .nil
  | x :: xs => .cons rfl (all_ex xs)
theorem tupOf_ok {v : AV} {q : Sq} {x : PyData} (h : tupOf v = some q) (g : γ v x) : ∃ xs, x = .tuple xs ∧ γq q xs := by
  unfold tupOf at h
  split at h
  · cases h
    exact ⟨_, g, all_ex _⟩
  · cases h
    obtain ⟨xs, e, r⟩ := g
    exact ⟨xs, e, γs_all.mp r⟩
  · cases h
    exact g
  · cases h
    obtain ⟨ps, e, hl, hp, _⟩ := g
    refine ⟨_, e, by rw [List.length_map]; exact hl, fun y hy => ?_⟩
    obtain ⟨p, hm, rfl⟩ := List.mem_map.mp hy
    exact ⟨p, rfl, hp p hm⟩
  · cases h
theorem lstOf_ok {v : AV} {q : Sq} {x : PyData} (h : lstOf v = some q) (g : γ v x) : ∃ xs, x = .list xs ∧ γq q xs := by
  unfold lstOf at h
  split at h
  · cases h
    exact ⟨_, g, all_ex _⟩
  · cases h
    obtain ⟨xs, e, r⟩ := g
    exact ⟨xs, e, γs_all.mp r⟩
  · cases h
    exact g
  · cases h
def exOf : List AV → Option (List PyData)
  | [] => some []
  | .ex d :: r => (exOf r).map (d :: ·)
  | _ :: _ => none
theorem exOf_ok : ∀ {vs : List AV} {ds xs : List PyData}, exOf vs = some ds → All2 γ vs xs → xs = ds
  | [], ds, _, h, .nil => by cases h; rfl
  | .ex d :: r, ds, _, h, .cons g t => by
    obtain ⟨l, e, rfl⟩ := Option.map_eq_some_iff.mp h
    rw [exOf_ok e t]
    rw [show _ = d from g]
  | .shp _ _ :: _, _, _, h, _ | .int _ _ :: _, _, _, h, _ | .bool :: _, _, _, h, _ | .tup _ :: _, _, _, h, _ | .lst _ :: _, _, _, h, _ | .tups _ _ :: _, _, _, h, _ | .lsts _ _ :: _, _, _, h, _ | .okk _ _ :: _, _, _, h, _ | .one _ :: _, _, _, h, _ | .sat _ :: _, _, _, h, _ | .rep _ :: _, _, _, h, _ | .top :: _, _, _, h, _ => by cases h
def mkTup : Sq → AV
  | .exs vs => match exOf vs with
    | some ds => .ex (.tuple ds)
    | none => .tup vs
  | .sum n v => .tups n v
def mkLst : Sq → AV
  | .exs vs => match exOf vs with
    | some ds => .ex (.list ds)
    | none => .lst vs
  | .sum n v => .lsts n v
theorem mkTup_ok {q : Sq} {xs : List PyData} (h : γq q xs) : γ (mkTup q) (.tuple xs) := by
  cases q with
  | exs vs =>
    unfold mkTup
    dsimp only
    split
    · rename_i ds e
      rw [exOf_ok e h]
      rfl
    · exact ⟨xs, rfl, γs_all.mpr h⟩
  | sum n v => exact ⟨xs, rfl, h⟩
theorem mkLst_ok {q : Sq} {xs : List PyData} (h : γq q xs) : γ (mkLst q) (.list xs) := by
  cases q with
  | exs vs =>
    unfold mkLst
    dsimp only
    split
    · rename_i ds e
      rw [exOf_ok e h]
      rfl
    · exact ⟨xs, rfl, γs_all.mpr h⟩
  | sum n v => exact ⟨xs, rfl, h⟩
/-! ### what can be shown -/
def okD (d : PyData) : Bool := d.showable && !d.hasDict && PyData.strOk d.shown && d.canLay0
theorem okD_okk {d : PyData} (h : okD d = true) : Okk d.depth d.shown.length d := by
  unfold okD at h
  simp only [Bool.and_eq_true, Bool.not_eq_true'] at h
  exact ⟨h.1.1.1, h.1.1.2, Nat.le_refl _, Nat.le_refl _, h.1.2, h.2⟩
def small (i : Int) : Bool := decide (i.natAbs < 2 ^ 1920)
def small64 (i : Int) : Bool := decide (i.natAbs < 2 ^ 64)
theorem shownInt64 {i : Int} (h : i.natAbs.log2 < 64) : (PyData.shown (.int i)).length ≤ 65 := by
  have e := int_text_length_le (k := 64) (by decide) h
  show (Str.ofString (toString i)).length ≤ 65
  rw [PySem.ofString_length]
  exact e
theorem okk_int64 {i : Int} (h : i.natAbs < 2 ^ 64) : Okk 0 65 (.int i) := by
  have h2 : i.natAbs < 2 ^ 1920 := Nat.lt_of_lt_of_le h (Nat.pow_le_pow_right (by decide) (by decide))
  have o := okk_int h2
  exact ⟨o.sh, o.nd, o.dp, shownInt64 (log2_of (by decide) h), o.ok, o.ly⟩
theorem okk_none : Okk 0 4 .none := ⟨rfl, rfl, Nat.le_refl _, by decide, ok_str _, rfl⟩
mutual
def okkD : PyData → Option (Nat × Nat)
  | .none => some (0, 4)
  | .bool _ => some (0, 5)
  | .int i => if small64 i = true then some (0, 65) else if small i = true then some (0, 1921) else none
  | .str x => if okD (.str x) = true then some (0, (PyData.shown (.str x)).length) else none
  | .list xs => (okkDs xs).map fun p => (p.1 + 1, p.2 * xs.length + 2 * xs.length + 3)
  | .tuple xs => (okkDs xs).map fun p => (p.1 + 1, p.2 * xs.length + 2 * xs.length + 3)
  | .dict _ => none
def okkDs : List PyData → Option (Nat × Nat)
  | [] => some (0, 0)
  | x :: xs => (okkD x).bind fun p => (okkDs xs).map fun q => (max p.1 q.1, max p.2 q.2)
end
mutual
theorem okkD_ok : ∀ {d : PyData} {n L : Nat}, okkD d = some (n, L) → Okk n L d
  | .none, n, L, h => by unfold okkD at h; cases h; exact okk_none
  | .bool b, n, L, h => by unfold okkD at h; cases h; exact okk_bool b
  | .int i, n, L, h => by
    unfold okkD at h
    split at h
    · rename_i q
      cases h
      exact okk_int64 (of_decide_eq_true q)
    · split at h
      · rename_i q
        cases h
        exact okk_int (of_decide_eq_true q)
      · cases h
  | .str x, n, L, h => by
    unfold okkD at h
    split at h
    · rename_i q
      cases h
      exact okD_okk q
    · cases h
  | .list xs, n, L, h => by
    unfold okkD at h
    obtain ⟨⟨a, b⟩, e, h⟩ := Option.map_eq_some_iff.mp h
    cases h
    exact okk_list (okkDs_ok e)
  | .tuple xs, n, L, h => by
    unfold okkD at h
    obtain ⟨⟨a, b⟩, e, h⟩ := Option.map_eq_some_iff.mp h
    cases h
    exact okk_tuple (okkDs_ok e)
  | .dict _, n, L, h => by unfold okkD at h; cases h
theorem okkDs_ok : ∀ {xs : List PyData} {n L : Nat}, okkDs xs = some (n, L) → ∀ y ∈ xs, Okk n L y
  | [], n, L, h => fun y hy => nomatch hy
  | x :: xs, n, L, h => by
    unfold okkDs at h
    obtain ⟨⟨a, b⟩, e1, h⟩ := Option.bind_eq_some_iff.mp h
    obtain ⟨⟨c, d⟩, e2, h⟩ := Option.map_eq_some_iff.mp h
    cases h
    intro y hy
    rcases List.mem_cons.mp hy with q | hy
    · rw [q]
      exact (okkD_ok e1).mono (Nat.le_max_left _ _) (Nat.le_max_left _ _)
    · exact (okkDs_ok e2 y hy).mono (Nat.le_max_right _ _) (Nat.le_max_right _ _)
end
mutual
def okkOf : AV → Option (Nat × Nat)
  | .ex d => okkD d
  | .int lo hi => if small lo && small hi then some (0, 1921) else none
  | .bool => some (0, 5)
  | .tup vs => (okkAll vs).map fun p => (p.1 + 1, p.2 * vs.length + 2 * vs.length + 3)
  | .lst vs => (okkAll vs).map fun p => (p.1 + 1, p.2 * vs.length + 2 * vs.length + 3)
  | .tups n v => (okkOf v).map fun p => (p.1 + 1, p.2 * n + 2 * n + 3)
  | .lsts n v => (okkOf v).map fun p => (p.1 + 1, p.2 * n + 2 * n + 3)
  | .okk n L => some (n, L)
  | .shp n m => if small m then some (1, 1921 * n + 2 * n + 3) else none
  | .one _ => none
  | .sat _ => none
  | .rep _ => none
  | .top => none
def okkAll : List AV → Option (Nat × Nat)
  | [] => some (0, 0)
  | v :: vs => (okkOf v).bind fun p => (okkAll vs).map fun q => (max p.1 q.1, max p.2 q.2)
end
theorem small_mid {lo hi i : Int} (h1 : small lo = true) (h2 : small hi = true) (a : lo ≤ i) (b : i ≤ hi) : i.natAbs < 2 ^ 1920 := by
  unfold small at h1 h2
  rw [decide_eq_true_eq] at h1 h2
  generalize (2 : Nat) ^ 1920 = N at *
  omega
theorem okk_le {n m L : Nat} {xs : List PyData} (hm : xs.length ≤ m) : L * xs.length + 2 * xs.length + 3 ≤ L * m + 2 * m + 3 := by
  have := Nat.mul_le_mul_left L hm
  omega
mutual
theorem okkOf_ok : ∀ {v : AV} {n L : Nat} {x : PyData}, okkOf v = some (n, L) → γ v x → Okk n L x
  | .ex d, n, L, x, h, g => by
    unfold okkOf at h
    rw [show x = d from g]
    exact okkD_ok h
  | .int lo hi, n, L, x, h, g => by
    unfold okkOf at h
    split at h
    · rename_i q
      cases h
      rw [Bool.and_eq_true] at q
      obtain ⟨i, rfl, a, b⟩ := g
      exact okk_int (small_mid q.1 q.2 a b)
    · cases h
  | .bool, n, L, x, h, g => by
    unfold okkOf at h
    cases h
    obtain ⟨b, rfl⟩ := g
    exact okk_bool b
  | .tup vs, n, L, x, h, g => by
    unfold okkOf at h
    obtain ⟨⟨a, b⟩, e, h⟩ := Option.map_eq_some_iff.mp h
    cases h
    obtain ⟨xs, rfl, r⟩ := g
    have r' := γs_all.mp r
    rw [r'.len]
    exact okk_tuple (okkAll_ok e r')
  | .lst vs, n, L, x, h, g => by
    unfold okkOf at h
    obtain ⟨⟨a, b⟩, e, h⟩ := Option.map_eq_some_iff.mp h
    cases h
    obtain ⟨xs, rfl, r⟩ := g
    have r' := γs_all.mp r
    rw [r'.len]
    exact okk_list (okkAll_ok e r')
  | .tups m v, n, L, x, h, g => by
    unfold okkOf at h
    obtain ⟨⟨a, b⟩, e, h⟩ := Option.map_eq_some_iff.mp h
    cases h
    obtain ⟨xs, rfl, hl, r⟩ := g
    exact (okk_tuple fun y hy => okkOf_ok e (r y hy)).mono (Nat.le_refl _) (okk_le (n := 0) hl)
  | .lsts m v, n, L, x, h, g => by
    unfold okkOf at h
    obtain ⟨⟨a, b⟩, e, h⟩ := Option.map_eq_some_iff.mp h
    cases h
    obtain ⟨xs, rfl, hl, r⟩ := g
    exact (okk_list fun y hy => okkOf_ok e (r y hy)).mono (Nat.le_refl _) (okk_le (n := 0) hl)
  | .okk a b, n, L, x, h, g => by
    unfold okkOf at h
    cases h
    exact g
  | .shp a b, n, L, x, h, g => by
    unfold okkOf at h
    split at h
    · rename_i q
      cases h
      obtain ⟨ps, rfl, hl, hp, _⟩ := g
      refine (okk_tuple (n := 0) (L := 1921) fun y hy => ?_).mono (Nat.le_refl _) (okk_le (n := 0) (by rw [List.length_map]; exact hl))
      obtain ⟨p, hm, rfl⟩ := List.mem_map.mp hy
      exact okk_int (small_mid (lo := 1) (by decide) q (hp p hm).1 (hp p hm).2)
    · cases h
  | .one _, n, L, x, h, g => by unfold okkOf at h; cases h
  | .sat _, n, L, x, h, g => by unfold okkOf at h; cases h
  | .rep _, n, L, x, h, g => by unfold okkOf at h; cases h
  | .top, n, L, x, h, g => by unfold okkOf at h; cases h
theorem okkAll_ok : ∀ {vs : List AV} {n L : Nat} {xs : List PyData}, okkAll vs = some (n, L) → All2 γ vs xs → ∀ y ∈ xs, Okk n L y
  | [], n, L, _, h, .nil => fun y hy => nomatch hy
  | v :: vs, n, L, _, h, .cons g t => by
    unfold okkAll at h
    obtain ⟨⟨a, b⟩, e1, h⟩ := Option.bind_eq_some_iff.mp h
    obtain ⟨⟨c, d⟩, e2, h⟩ := Option.map_eq_some_iff.mp h
    cases h
    intro y hy
    rcases List.mem_cons.mp hy with rfl | hy
    · exact (okkOf_ok e1 g).mono (Nat.le_max_left _ _) (Nat.le_max_left _ _)
    · exact (okkAll_ok e2 t y hy).mono (Nat.le_max_right _ _) (Nat.le_max_right _ _)
end
end DN

namespace DN
open PySem PySem.Spec PyProof.Rows L2 DL
/-! ### joins -/
def joinFlat (a b : AV) : AV := match okkOf a, okkOf b with
  | some p, some q => .okk (max p.1 q.1) (max p.2 q.2)
  | _, _ => .top
def joinAll (j : AV → AV → AV) : List AV → AV
  | [] => .top
  | [v] => v
  | v :: r => j v (joinAll j r)
def sumOf (j : AV → AV → AV) : Sq → Nat × AV
  | .exs vs => (vs.length, joinAll j vs)
  | .sum n v => (n, v)
def mix (j : AV → AV → AV) (n : Nat) (p q : Nat × AV) : Sq := if p.1 = 0 then .sum n q.2 else if q.1 = 0 then .sum n p.2 else .sum n (j p.2 q.2)
def joinQ (j : AV → AV → AV) (p q : Sq) : Sq := match p, q with
  | .exs vs, .exs ws => if vs.length = ws.length then .exs (List.zipWith j vs ws) else mix j (max vs.length ws.length) (sumOf j p) (sumOf j q)
  | p, q => mix j (max (sumOf j p).1 (sumOf j q).1) (sumOf j p) (sumOf j q)
def appQ (j : AV → AV → AV) (p q : Sq) : Sq := match p, q with
  | .exs vs, .exs ws => .exs (vs ++ ws)
  | p, q => mix j ((sumOf j p).1 + (sumOf j q).1) (sumOf j p) (sumOf j q)
def joinG (j : AV → AV → AV) (a b : AV) : AV := match asInt a, asInt b with
  | some p, some q => .int (min p.1 q.1) (max p.2 q.2)
  | _, _ => if (asBool a && asBool b) = true then .bool else match tupOf a, tupOf b with
    | some p, some q => mkTup (joinQ j p q)
    | _, _ => match lstOf a, lstOf b with
      | some p, some q => mkLst (joinQ j p q)
      | _, _ => joinFlat a b
def joinN : Nat → AV → AV → AV
  | 0, a, b => joinFlat a b
  | n + 1, a, b => match a, b with
    | .ex x, .ex y => if sameD x y = true then .ex x else joinG (joinN n) a b
    | .shp p q, .shp r s => .shp (max p r) (max q s)
    | .one xs, .one ys => if sameDs xs ys = true then .one xs else .top
    | a, b => joinG (joinN n) a b
def join : AV → AV → AV := joinN 6
def Up (j : AV → AV → AV) : Prop := ∀ a b x, γ a x ∨ γ b x → γ (j a b) x
theorem joinFlat_up : Up joinFlat := by
  intro a b x h
  unfold joinFlat
  split
  · rename_i p q e1 e2
    rcases h with h | h
    · exact (okkOf_ok (n := p.1) (L := p.2) e1 h).mono (Nat.le_max_left _ _) (Nat.le_max_left _ _)
    · exact (okkOf_ok (n := q.1) (L := q.2) e2 h).mono (Nat.le_max_right _ _) (Nat.le_max_right _ _)
  · trivial
section
variable {j : AV → AV → AV} (hj : Up j)
include hj
theorem joinAll_up : ∀ {l : List AV} {v : AV} {x : PyData}, v ∈ l → γ v x → γ (joinAll j l) x
  | [], v, x, h, _ => nomatch h
  | [w], v, x, h, g => by
    rw [List.mem_singleton.mp h] at g
    exact g
  | w :: u :: r, v, x, h, g => by
    show γ (j w (joinAll j (u :: r))) x
    rcases List.mem_cons.mp h with e | h
    · rw [e] at g
      exact hj _ _ _ (.inl g)
    · exact hj _ _ _ (.inr (joinAll_up h g))
theorem sumOf_up {q : Sq} {xs : List PyData} (h : γq q xs) : xs.length ≤ (sumOf j q).1 ∧ ∀ y ∈ xs, γ (sumOf j q).2 y := by
  cases q with
  | exs vs =>
    refine ⟨Nat.le_of_eq (All2.len h).symm, fun y hy => ?_⟩
    obtain ⟨v, hv, g⟩ := All2.mem h hy
    exact joinAll_up hj hv g
  | sum n v => exact h
theorem mix_up {n : Nat} {p q : Nat × AV} {xs ys : List PyData} (hp : xs.length ≤ p.1 ∧ ∀ y ∈ xs, γ p.2 y) (hq : ys.length ≤ q.1 ∧ ∀ y ∈ ys, γ q.2 y) {zs : List PyData} (hz : zs.length ≤ n) (hm : ∀ y ∈ zs, y ∈ xs ∨ y ∈ ys) : γq (mix j n p q) zs := by
  have nil : ∀ {l : List PyData}, l.length ≤ 0 → ∀ y, y ∉ l := fun {l} h y hy => by
    have := List.eq_nil_of_length_eq_zero (Nat.le_zero.mp h)
    rw [this] at hy
    cases hy
  unfold mix
  split
  · rename_i e
    rw [e] at hp
    exact ⟨hz, fun y hy => (hm y hy).elim (fun z => absurd z (nil hp.1 y)) (hq.2 y)⟩
  · split
    · rename_i e
      rw [e] at hq
      exact ⟨hz, fun y hy => (hm y hy).elim (hp.2 y) fun z => absurd z (nil hq.1 y)⟩
    · exact ⟨hz, fun y hy => hj _ _ _ ((hm y hy).imp (hp.2 y) (hq.2 y))⟩
theorem zip_l : ∀ {vs ws : List AV} {xs : List PyData}, vs.length = ws.length → All2 γ vs xs → All2 γ (List.zipWith j vs ws) xs
  | [], [], _, _, .nil => .nil
  | v :: vs, w :: ws, _, h, .cons g t => .cons (hj _ _ _ (.inl g)) (zip_l (by simpa using h) t)
theorem zip_r : ∀ {vs ws : List AV} {xs : List PyData}, vs.length = ws.length → All2 γ ws xs → All2 γ (List.zipWith j vs ws) xs
  | [], [], _, _, .nil => .nil
  | v :: vs, w :: ws, _, h, .cons g t => .cons (hj _ _ _ (.inr g)) (zip_r (by simpa using h) t)
theorem joinQ_l {p q : Sq} {xs : List PyData} (h : γq p xs) : γq (joinQ j p q) xs := by
  have gen : ∀ n, xs.length ≤ n → γq (mix j n (sumOf j p) (sumOf j q)) xs := fun n hn => by
    have hp := sumOf_up hj h
    unfold mix
    split
    · rename_i e
      rw [e] at hp
      exact ⟨hn, fun y hy => by rw [List.eq_nil_of_length_eq_zero (Nat.le_zero.mp hp.1)] at hy; cases hy⟩
    · split
      · exact ⟨hn, hp.2⟩
      · exact ⟨hn, fun y hy => hj _ _ _ (.inl (hp.2 y hy))⟩
  unfold joinQ
  split
  · rename_i vs ws
    split
    · rename_i e
      exact zip_l hj e h
    · exact gen _ (Nat.le_trans (Nat.le_of_eq (All2.len h).symm) (Nat.le_max_left _ _))
  · exact gen _ (Nat.le_trans (sumOf_up hj h).1 (Nat.le_max_left _ _))
theorem joinQ_r {p q : Sq} {xs : List PyData} (h : γq q xs) : γq (joinQ j p q) xs := by
  have gen : ∀ n, xs.length ≤ n → γq (mix j n (sumOf j p) (sumOf j q)) xs := fun n hn => by
    have hp := sumOf_up hj h
    unfold mix
    split
    · exact ⟨hn, hp.2⟩
    · split
      · rename_i e
        rw [e] at hp
        exact ⟨hn, fun y hy => by rw [List.eq_nil_of_length_eq_zero (Nat.le_zero.mp hp.1)] at hy; cases hy⟩
      · exact ⟨hn, fun y hy => hj _ _ _ (.inr (hp.2 y hy))⟩
  unfold joinQ
  split
  · rename_i vs ws
    split
    · rename_i e
      exact zip_r hj e h
    · exact gen _ (Nat.le_trans (Nat.le_of_eq (All2.len h).symm) (Nat.le_max_right _ _))
  · exact gen _ (Nat.le_trans (sumOf_up hj h).1 (Nat.le_max_right _ _))
theorem appQ_up {p q : Sq} {xs ys : List PyData} (h1 : γq p xs) (h2 : γq q ys) : γq (appQ j p q) (xs ++ ys) := by
  unfold appQ
  split
  · exact All2.app h1 h2
  · exact mix_up hj (sumOf_up hj h1) (sumOf_up hj h2) (by rw [List.length_append]; exact Nat.add_le_add (sumOf_up hj h1).1 (sumOf_up hj h2).1) fun y hy => List.mem_append.mp hy
theorem joinG_up : Up (joinG j) := by
  intro a b x h
  unfold joinG
  split
  · rename_i p q e1 e2
    rcases h with h | h
    · obtain ⟨i, rfl, l, u⟩ := asInt_ok (lo := p.1) (hi := p.2) e1 h
      exact ⟨i, rfl, by omega, by omega⟩
    · obtain ⟨i, rfl, l, u⟩ := asInt_ok (lo := q.1) (hi := q.2) e2 h
      exact ⟨i, rfl, by omega, by omega⟩
  · split
    · rename_i hb
      rw [Bool.and_eq_true] at hb
      rcases h with h | h
      · exact asBool_ok hb.1 h
      · exact asBool_ok hb.2 h
    · split
      · rename_i p q e1 e2
        rcases h with h | h
        · obtain ⟨xs, rfl, r⟩ := tupOf_ok e1 h
          exact mkTup_ok (joinQ_l hj r)
        · obtain ⟨xs, rfl, r⟩ := tupOf_ok e2 h
          exact mkTup_ok (joinQ_r hj r)
      · split
        · rename_i p q e1 e2
          rcases h with h | h
          · obtain ⟨xs, rfl, r⟩ := lstOf_ok e1 h
            exact mkLst_ok (joinQ_l hj r)
          · obtain ⟨xs, rfl, r⟩ := lstOf_ok e2 h
            exact mkLst_ok (joinQ_r hj r)
        · exact joinFlat_up _ _ _ h
end
theorem joinN_up : ∀ n, Up (joinN n)
  | 0 => joinFlat_up
  | n + 1 => by
    intro a b x h
    have ih := joinN_up n
    unfold joinN
    split
    · rename_i d e
      split
      · rename_i q
        have := sameD_eq q
        subst this
        exact h.elim id id
      · exact joinG_up ih _ _ _ h
    · rcases h with ⟨ps, e, hl, hp, hf⟩ | ⟨ps, e, hl, hp, hf⟩
      · exact ⟨ps, e, by omega, fun p hm => ⟨(hp p hm).1, by have := (hp p hm).2; omega⟩, hf⟩
      · exact ⟨ps, e, by omega, fun p hm => ⟨(hp p hm).1, by have := (hp p hm).2; omega⟩, hf⟩
    · split
      · rename_i q
        have := sameDs_eq q
        subst this
        exact h.elim id id
      · trivial
    · exact joinG_up ih _ _ _ h
theorem join_up : Up join := joinN_up 6
theorem join_l {a b : AV} {x : PyData} (h : γ a x) : γ (join a b) x := join_up _ _ _ (.inl h)
theorem join_r {a b : AV} {x : PyData} (h : γ b x) : γ (join a b) x := join_up _ _ _ (.inr h)
/-! ### states -/
inductive APV where
  | d (v : AV)
  | c (i : Nat)
abbrev AEnv := List (Option APV)
inductive ACell where
  | feed (k : Nat)
  | q (s : Sq)
abbrev ASto := List ACell
/-- what a feed is after so many draws -/
class Feed where
  P : Nat → List PyData → Prop
  mono : ∀ {k l c}, P k c → k ≤ l → P l c
section
variable [Feed]
def RV : APV → PV → Prop
  | .d v, .d x => γ v x
  | .c i, .c j => i = j
  | _, _ => False
def RO : Option APV → Option PV → Prop
  | none, _ => True
  | some a, some b => RV a b
  | some _, none => False
def RC : ACell → Cell → Prop
  | .feed k, .l l => Feed.P k l
  | .q s, .l l => γq s l
  | _, _ => False
abbrev REn : AEnv → RE → Prop := All2 RO
abbrev RSt : ASto → Sto → Prop := All2 RC
theorem stQ {T : ASto} {S : Sto} {j : Nat} {s : Sq} (hT : RSt T S) (h : T[j]? = some (.q s)) : ∃ ds, S[j]? = some (.l ds) ∧ γq s ds := by
  obtain ⟨c, e, r⟩ := hT.get h
  cases c with
  | l ds => exact ⟨ds, e, r⟩
  | d kvs => exact r.elim
  | k kvs => exact r.elim
theorem stF {T : ASto} {S : Sto} {j k : Nat} (hT : RSt T S) (h : T[j]? = some (.feed k)) : ∃ ds, S[j]? = some (.l ds) ∧ Feed.P k ds := by
  obtain ⟨c, e, r⟩ := hT.get h
  cases c with
  | l ds => exact ⟨ds, e, r⟩
  | d kvs => exact r.elim
  | k kvs => exact r.elim
def joinV : APV → APV → Option APV
  | .d a, .d b => some (.d (join a b))
  | .c i, .c j => if i = j then some (.c i) else none
  | _, _ => none
theorem joinV_l {a b c : APV} {x : PV} (h : joinV a b = some c) (g : RV a x) : RV c x := by
  unfold joinV at h
  split at h
  · cases h
    cases x with
    | d y => exact join_l g
    | c i => exact g.elim
  · split at h
    · cases h
      exact g
    · cases h
  · cases h
theorem joinV_r {a b c : APV} {x : PV} (h : joinV a b = some c) (g : RV b x) : RV c x := by
  unfold joinV at h
  split at h
  · cases h
    cases x with
    | d y => exact join_r g
    | c i => exact g.elim
  · split at h
    · rename_i e
      cases h
      rw [e]
      exact g
    · cases h
  · cases h
def joinO : Option APV → Option APV → Option APV
  | some a, some b => joinV a b
  | _, _ => none
theorem joinO_l {a b : Option APV} {x : Option PV} (g : RO a x) : RO (joinO a b) x := by
  unfold joinO
  split
  · rename_i p q
    cases h : joinV p q with
    | none => trivial
    | some c =>
      cases x with
      | none => exact g.elim
      | some y => exact joinV_l h g
  · trivial
theorem joinO_r {a b : Option APV} {x : Option PV} (g : RO b x) : RO (joinO a b) x := by
  unfold joinO
  split
  · rename_i p q
    cases h : joinV p q with
    | none => trivial
    | some c =>
      cases x with
      | none => exact g.elim
      | some y => exact joinV_r h g
  · trivial
def joinE : AEnv → AEnv → AEnv
  | a :: r, b :: s => joinO a b :: joinE r s
  | _, _ => []
theorem joinE_l : ∀ {a b : AEnv} {ρ : RE}, a.length = b.length → REn a ρ → REn (joinE a b) ρ
  | [], [], _, _, .nil => .nil
  | a :: r, b :: s, _, h, .cons g t => .cons (joinO_l g) (joinE_l (by simpa using h) t)
theorem joinE_r : ∀ {a b : AEnv} {ρ : RE}, a.length = b.length → REn b ρ → REn (joinE a b) ρ
  | [], [], _, _, .nil => .nil
  | a :: r, b :: s, _, h, .cons g t => .cons (joinO_r g) (joinE_r (by simpa using h) t)
def joinC : ACell → ACell → Option ACell
  | .feed k, .feed l => some (.feed (max k l))
  | .q p, .q s => some (.q (joinQ join p s))
  | _, _ => none
theorem joinC_l {a b c : ACell} {x : Cell} (h : joinC a b = some c) (g : RC a x) : RC c x := by
  unfold joinC at h
  split at h
  · cases h
    cases x with
    | l x => exact Feed.mono (show Feed.P _ x from g) (Nat.le_max_left _ _)
    | d x => exact g.elim
    | k x => exact g.elim
  · cases h
    cases x with
    | l x => exact joinQ_l join_up (show γq _ x from g)
    | d x => exact g.elim
    | k x => exact g.elim
  · cases h
theorem joinC_r {a b c : ACell} {x : Cell} (h : joinC a b = some c) (g : RC b x) : RC c x := by
  unfold joinC at h
  split at h
  · cases h
    cases x with
    | l x => exact Feed.mono (show Feed.P _ x from g) (Nat.le_max_right _ _)
    | d x => exact g.elim
    | k x => exact g.elim
  · cases h
    cases x with
    | l x => exact joinQ_r join_up (show γq _ x from g)
    | d x => exact g.elim
    | k x => exact g.elim
  · cases h
def joinS : ASto → ASto → Option ASto
  | [], [] => some []
  | a :: r, b :: s => (joinC a b).bind fun c => (joinS r s).map (c :: ·)
  | _, _ => none
theorem joinS_l : ∀ {a b c : ASto} {S : Sto}, joinS a b = some c → RSt a S → RSt c S
  | [], [], c, _, h, .nil => by cases h; exact .nil
  | a :: r, b :: s, c, _, h, .cons g t => by
    obtain ⟨z, e1, h⟩ := Option.bind_eq_some_iff.mp h
    obtain ⟨w, e2, rfl⟩ := Option.map_eq_some_iff.mp h
    exact .cons (joinC_l e1 g) (joinS_l e2 t)
  | [], _ :: _, _, _, h, _ => by cases h
  | _ :: _, [], _, _, h, _ => by cases h
theorem joinS_r : ∀ {a b c : ASto} {S : Sto}, joinS a b = some c → RSt b S → RSt c S
  | [], [], c, _, h, .nil => by cases h; exact .nil
  | a :: r, b :: s, c, _, h, .cons g t => by
    obtain ⟨z, e1, h⟩ := Option.bind_eq_some_iff.mp h
    obtain ⟨w, e2, rfl⟩ := Option.map_eq_some_iff.mp h
    exact .cons (joinC_r e1 g) (joinS_r e2 t)
  | [], _ :: _, _, _, h, _ => by cases h
  | _ :: _, [], _, _, h, _ => by cases h
/-- a value read as a datum -/
def asAV (S : ASto) : APV → Option AV
  | .d v => some v
  | .c i => match S[i]? with
    | some (.q s) => some (mkLst s)
    | _ => none
theorem asAV_ok {S : ASto} {T : Sto} {a : APV} {v : AV} {x : PV} (h : asAV S a = some v) (hs : RSt S T) (g : RV a x) : ∃ d, asD T x = some d ∧ γ v d := by
  cases a with
  | d w =>
    cases h
    cases x with
    | d y => exact ⟨y, rfl, g⟩
    | c i => exact g.elim
  | c i =>
    cases x with
    | d y => exact g.elim
    | c j =>
      have e : i = j := g
      subst e
      unfold asAV at h
      dsimp only at h
      split at h
      · rename_i s e
        cases h
        obtain ⟨l, e2, r⟩ := stQ hs e
        exact ⟨.list l, by show (lAt T i).map _ = _; rw [lAt_some.mpr e2]; rfl, mkLst_ok r⟩
      · cases h
end
end DN

namespace DN
open PySem PySem.Spec PyProof.Rows L2 DL
/-! ### many outcomes -/
def bindL {α β : Type} : List α → (α → Option (List β)) → Option (List β)
  | [], _ => some []
  | a :: l, f => (f a).bind fun r => (bindL l f).map (r ++ ·)
theorem bindL_mem {α β : Type} {f : α → Option (List β)} : ∀ {l : List α} {r : List β} {a : α}, bindL l f = some r → a ∈ l → ∃ s, f a = some s ∧ ∀ b ∈ s, b ∈ r
  | [], _, a, _, h => nomatch h
  | x :: l, r, a, e, h => by
    obtain ⟨s, e1, e⟩ := Option.bind_eq_some_iff.mp e
    obtain ⟨t, e2, rfl⟩ := Option.map_eq_some_iff.mp e
    rcases List.mem_cons.mp h with rfl | h
    · exact ⟨s, e1, fun b hb => List.mem_append_left _ hb⟩
    · obtain ⟨u, e3, k⟩ := bindL_mem e2 h
      exact ⟨u, e3, fun b hb => List.mem_append_right _ (k b hb)⟩
section
variable [Feed]
structure SM where
  m : M
  a : AEnv → ASto → Option (List (APV × ASto))
  ok : ∀ {A T l}, a A T = some l → ∀ {ρ S}, REn A ρ → RSt T S → ∃ o ∈ l, ∃ x S', m ρ S = some (x, S') ∧ RV o.1 x ∧ RSt o.2 S'
structure SB where
  m : MB
  a : AEnv → ASto → Option (List (Bool × ASto))
  ok : ∀ {A T l}, a A T = some l → ∀ {ρ S}, REn A ρ → RSt T S → ∃ o ∈ l, ∃ S', m ρ S = some (o.1, S') ∧ RSt o.2 S'
structure SA where
  m : MA
  a : AEnv → ASto → Option (List (List APV × ASto))
  ok : ∀ {A T l}, a A T = some l → ∀ {ρ S}, REn A ρ → RSt T S → ∃ o ∈ l, ∃ xs S', m ρ S = some (xs, S') ∧ All2 RV o.1 xs ∧ RSt o.2 S'
structure SL where
  m : ML
  a : AEnv → ASto → Option (List (Sq × ASto))
  ok : ∀ {A T l}, a A T = some l → ∀ {ρ S}, REn A ρ → RSt T S → ∃ o ∈ l, ∃ ds S', m ρ S = some (ds, S') ∧ γq o.1 ds ∧ RSt o.2 S'
/-! ### names, constants, arguments -/
def xVar (i : Nat) : SM where
  m := mVar i
  a := fun A T => match A[i]? with
    | some (some v) => some [(v, T)]
    | _ => none
  ok := fun {A T l} e {ρ S} hA hT => by
    split at e
    · rename_i v q
      cases e
      obtain ⟨o, e2, r⟩ := hA.get q
      cases o with
      | none => exact r.elim
      | some x => exact ⟨_, List.mem_singleton.mpr rfl, x, S, by unfold mVar; rw [e2], r, hT⟩
    · cases e
def xC (d : PyData) : SM where
  m := mC d
  a := fun _ T => some [(.d (.ex d), T)]
  ok := fun {A T l} e {ρ S} hA hT => by
    cases e
    exact ⟨_, List.mem_singleton.mpr rfl, .d d, S, rfl, rfl, hT⟩
def xNil : SA where
  m := mNil
  a := fun _ T => some [([], T)]
  ok := fun {A T l} e {ρ S} hA hT => by
    cases e
    exact ⟨_, List.mem_singleton.mpr rfl, [], S, rfl, .nil, hT⟩
def xCons (x : SM) (y : SA) : SA where
  m := mCons x.m y.m
  a := fun A T => (x.a A T).bind fun l => bindL l fun p => (y.a A p.2).map fun r => r.map fun q => (p.1 :: q.1, q.2)
  ok := fun {A T l} e {ρ S} hA hT => by
    obtain ⟨l1, e1, e⟩ := Option.bind_eq_some_iff.mp e
    obtain ⟨o, ho, v, S1, f1, r1, t1⟩ := x.ok e1 hA hT
    obtain ⟨s, e2, k⟩ := bindL_mem e ho
    obtain ⟨l2, e3, rfl⟩ := Option.map_eq_some_iff.mp e2
    obtain ⟨o2, ho2, vs, S2, f2, r2, t2⟩ := y.ok e3 hA t1
    exact ⟨_, k _ (List.mem_map.mpr ⟨o2, ho2, rfl⟩), v :: vs, S2, by show mCons _ _ _ _ = _; exact mCons_of f1 f2, .cons r1 r2, t2⟩
/-! ### data of values -/
def dats : List APV → Option (List AV)
  | [] => some []
  | .d v :: r => (dats r).map (v :: ·)
  | .c _ :: _ => none
theorem dats_ok : ∀ {vs : List APV} {as : List AV} {xs : List PV}, dats vs = some as → All2 RV vs xs → ∃ ds, datas xs = some ds ∧ All2 γ as ds
  | [], as, _, h, .nil => by cases h; exact ⟨[], rfl, .nil⟩
  | .d v :: r, as, _, h, .cons (b := x) g t => by
    obtain ⟨w, e, rfl⟩ := Option.map_eq_some_iff.mp h
    obtain ⟨ds, e2, k⟩ := dats_ok e t
    cases x with
    | d y => exact ⟨y :: ds, by show (datas _).bind _ = _; rw [e2]; rfl, .cons g k⟩
    | c i => exact g.elim
  | .c _ :: _, _, _, h, _ => by cases h
def xTup (y : SA) : SM where
  m := mTup y.m
  a := fun A T => (y.a A T).bind fun l => bindL l fun p => (dats p.1).bind fun vs => if vs.length ≤ 1000 then some [(.d (mkTup (.exs vs)), p.2)] else none
  ok := fun {A T l} e {ρ S} hA hT => by
    obtain ⟨l1, e1, e⟩ := Option.bind_eq_some_iff.mp e
    obtain ⟨o, ho, xs, S1, f1, r1, t1⟩ := y.ok e1 hA hT
    obtain ⟨s, e2, k⟩ := bindL_mem e ho
    obtain ⟨vs, e3, e2⟩ := Option.bind_eq_some_iff.mp e2
    split at e2
    · rename_i hz
      cases e2
      obtain ⟨ds, f2, r2⟩ := dats_ok e3 r1
      exact ⟨_, k _ (List.mem_singleton.mpr rfl), .d (.tuple ds), S1, mTup_of f1 f2 (by rw [← r2.len]; exact hz), mkTup_ok r2, t1⟩
    · cases e2
def xLst (y : SA) : SL where
  m := mLst y.m
  a := fun A T => (y.a A T).bind fun l => bindL l fun p => (dats p.1).bind fun vs => if vs.length ≤ 1000 then some [(.exs vs, p.2)] else none
  ok := fun {A T l} e {ρ S} hA hT => by
    obtain ⟨l1, e1, e⟩ := Option.bind_eq_some_iff.mp e
    obtain ⟨o, ho, xs, S1, f1, r1, t1⟩ := y.ok e1 hA hT
    obtain ⟨s, e2, k⟩ := bindL_mem e ho
    obtain ⟨vs, e3, e2⟩ := Option.bind_eq_some_iff.mp e2
    split at e2
    · rename_i hz
      cases e2
      obtain ⟨ds, f2, r2⟩ := dats_ok e3 r1
      exact ⟨_, k _ (List.mem_singleton.mpr rfl), ds, S1, mLst_of f1 f2 (by rw [← r2.len]; exact hz), r2, t1⟩
    · cases e2
def xFz (y : SL) : SM where
  m := mFz y.m
  a := fun A T => (y.a A T).map fun l => l.map fun p => (.d (mkLst p.1), p.2)
  ok := fun {A T l} e {ρ S} hA hT => by
    obtain ⟨l1, e1, rfl⟩ := Option.map_eq_some_iff.mp e
    obtain ⟨o, ho, ds, S1, f1, r1, t1⟩ := y.ok e1 hA hT
    exact ⟨_, List.mem_map.mpr ⟨o, ho, rfl⟩, .d (.list ds), S1, mFz_of f1, mkLst_ok r1, t1⟩
/-! ### operators -/
structure Op2 (f : PV → PV → Sto → Option PV) where
  t : AV → AV → Option AV
  cel : ∀ {x y : PV} {S : Sto} {dx dy : PyData}, asD S x = some dx → asD S y = some dy → f x y S = f (.d dx) (.d dy) S
  ok : ∀ {a b c : AV} {x y : PyData} {S : Sto}, t a b = some c → γ a x → γ b y → ∃ z, f (.d x) (.d y) S = some (.d z) ∧ γ c z
def xOp {f : PV → PV → Sto → Option PV} (o : Op2 f) (x y : SM) : SM where
  m := mOp f x.m y.m
  a := fun A T => (x.a A T).bind fun l => bindL l fun p => (y.a A p.2).bind fun r => bindL r fun q => (asAV q.2 p.1).bind fun u => (asAV q.2 q.1).bind fun v => (o.t u v).map fun w => [(.d w, q.2)]
  ok := fun {A T l} e {ρ S} hA hT => by
    obtain ⟨l1, e1, e⟩ := Option.bind_eq_some_iff.mp e
    obtain ⟨o1, ho1, x1, S1, f1, r1, t1⟩ := x.ok e1 hA hT
    obtain ⟨s, e2, k⟩ := bindL_mem e ho1
    obtain ⟨l2, e3, e2⟩ := Option.bind_eq_some_iff.mp e2
    obtain ⟨o2, ho2, x2, S2, f2, r2, t2⟩ := y.ok e3 hA t1
    obtain ⟨s2, e4, k2⟩ := bindL_mem e2 ho2
    obtain ⟨u, e5, e4⟩ := Option.bind_eq_some_iff.mp e4
    obtain ⟨v, e6, e4⟩ := Option.bind_eq_some_iff.mp e4
    obtain ⟨w, e7, rfl⟩ := Option.map_eq_some_iff.mp e4
    obtain ⟨d1, g1, h1⟩ := asAV_ok e5 t2 r1
    obtain ⟨d2, g2, h2⟩ := asAV_ok e6 t2 r2
    obtain ⟨z, g3, h3⟩ := o.ok (S := S2) e7 h1 h2
    exact ⟨_, k _ (k2 _ (List.mem_singleton.mpr rfl)), .d z, S2, mOp_of f1 f2 ((o.cel g1 g2).trans g3), h3, t2⟩
structure OpL2 (f : PV → PV → Sto → Option (List PyData)) where
  t : AV → AV → Option Sq
  cel : ∀ {x y : PV} {S : Sto} {dx dy : PyData}, asD S x = some dx → asD S y = some dy → f x y S = f (.d dx) (.d dy) S
  ok : ∀ {a b : AV} {c : Sq} {x y : PyData} {S : Sto}, t a b = some c → γ a x → γ b y → ∃ z, f (.d x) (.d y) S = some z ∧ γq c z
def xOpL {f : PV → PV → Sto → Option (List PyData)} (o : OpL2 f) (x y : SM) : SL where
  m := mOpL f x.m y.m
  a := fun A T => (x.a A T).bind fun l => bindL l fun p => (y.a A p.2).bind fun r => bindL r fun q => (asAV q.2 p.1).bind fun u => (asAV q.2 q.1).bind fun v => (o.t u v).map fun w => [(w, q.2)]
  ok := fun {A T l} e {ρ S} hA hT => by
    obtain ⟨l1, e1, e⟩ := Option.bind_eq_some_iff.mp e
    obtain ⟨o1, ho1, x1, S1, f1, r1, t1⟩ := x.ok e1 hA hT
    obtain ⟨s, e2, k⟩ := bindL_mem e ho1
    obtain ⟨l2, e3, e2⟩ := Option.bind_eq_some_iff.mp e2
    obtain ⟨o2, ho2, x2, S2, f2, r2, t2⟩ := y.ok e3 hA t1
    obtain ⟨s2, e4, k2⟩ := bindL_mem e2 ho2
    obtain ⟨u, e5, e4⟩ := Option.bind_eq_some_iff.mp e4
    obtain ⟨v, e6, e4⟩ := Option.bind_eq_some_iff.mp e4
    obtain ⟨w, e7, rfl⟩ := Option.map_eq_some_iff.mp e4
    obtain ⟨d1, g1, h1⟩ := asAV_ok e5 t2 r1
    obtain ⟨d2, g2, h2⟩ := asAV_ok e6 t2 r2
    obtain ⟨z, g3, h3⟩ := o.ok (S := S2) e7 h1 h2
    exact ⟨_, k _ (k2 _ (List.mem_singleton.mpr rfl)), z, S2, mOpL_of f1 f2 ((o.cel g1 g2).trans g3), h3, t2⟩
def asAVs (T : ASto) : List APV → Option (List AV)
  | [] => some []
  | v :: r => (asAV T v).bind fun a => (asAVs T r).map (a :: ·)
def asDs (S : Sto) : List PV → Option (List PyData)
  | [] => some []
  | x :: r => (asD S x).bind fun d => (asDs S r).map (d :: ·)
theorem asAVs_ok {T : ASto} {S : Sto} (hT : RSt T S) : ∀ {vs : List APV} {as : List AV} {xs : List PV}, asAVs T vs = some as → All2 RV vs xs → ∃ ds, asDs S xs = some ds ∧ All2 γ as ds
  | [], as, _, h, .nil => by cases h; exact ⟨[], rfl, .nil⟩
  | v :: r, as, _, h, .cons g t => by
    obtain ⟨a, e1, h⟩ := Option.bind_eq_some_iff.mp h
    obtain ⟨w, e2, rfl⟩ := Option.map_eq_some_iff.mp h
    obtain ⟨d, f1, k1⟩ := asAV_ok e1 hT g
    obtain ⟨ds, f2, k2⟩ := asAVs_ok hT e2 t
    exact ⟨d :: ds, by show (asD S _).bind _ = _; rw [f1]; show (asDs S _).map _ = _; rw [f2]; rfl, .cons k1 k2⟩
structure CallT (f : List PV → Sto → Option PV) where
  t : List AV → Option AV
  cel : ∀ {xs : List PV} {S : Sto} {ds : List PyData}, asDs S xs = some ds → f xs S = f (ds.map .d) S
  ok : ∀ {as : List AV} {c : AV} {xs : List PyData} {S : Sto}, t as = some c → All2 γ as xs → ∃ z, f (xs.map .d) S = some (.d z) ∧ γ c z
def xCall {f : List PV → Sto → Option PV} (o : CallT f) (y : SA) : SM where
  m := mCall f y.m
  a := fun A T => (y.a A T).bind fun l => bindL l fun p => (asAVs p.2 p.1).bind fun as => (o.t as).map fun c => [(.d c, p.2)]
  ok := fun {A T l} e {ρ S} hA hT => by
    obtain ⟨l1, e1, e⟩ := Option.bind_eq_some_iff.mp e
    obtain ⟨o1, ho1, xs, S1, f1, r1, t1⟩ := y.ok e1 hA hT
    obtain ⟨s, e2, k⟩ := bindL_mem e ho1
    obtain ⟨as, e3, e2⟩ := Option.bind_eq_some_iff.mp e2
    obtain ⟨c, e4, rfl⟩ := Option.map_eq_some_iff.mp e2
    obtain ⟨ds, f2, r2⟩ := asAVs_ok t1 e3 r1
    obtain ⟨z, f3, r3⟩ := o.ok (S := S1) e4 r2
    exact ⟨_, k _ (List.mem_singleton.mpr rfl), .d z, S1, mCall_of f1 ((o.cel f2).trans f3), r3, t1⟩
structure CallLT (f : List PV → Sto → Option (List PyData)) where
  t : List AV → Option Sq
  cel : ∀ {xs : List PV} {S : Sto} {ds : List PyData}, asDs S xs = some ds → f xs S = f (ds.map .d) S
  ok : ∀ {as : List AV} {c : Sq} {xs : List PyData} {S : Sto}, t as = some c → All2 γ as xs → ∃ z, f (xs.map .d) S = some z ∧ γq c z
def xCallL {f : List PV → Sto → Option (List PyData)} (o : CallLT f) (y : SA) : SL where
  m := mCallL f y.m
  a := fun A T => (y.a A T).bind fun l => bindL l fun p => (asAVs p.2 p.1).bind fun as => (o.t as).map fun c => [(c, p.2)]
  ok := fun {A T l} e {ρ S} hA hT => by
    obtain ⟨l1, e1, e⟩ := Option.bind_eq_some_iff.mp e
    obtain ⟨o1, ho1, xs, S1, f1, r1, t1⟩ := y.ok e1 hA hT
    obtain ⟨s, e2, k⟩ := bindL_mem e ho1
    obtain ⟨as, e3, e2⟩ := Option.bind_eq_some_iff.mp e2
    obtain ⟨c, e4, rfl⟩ := Option.map_eq_some_iff.mp e2
    obtain ⟨ds, f2, r2⟩ := asAVs_ok t1 e3 r1
    obtain ⟨z, f3, r3⟩ := o.ok (S := S1) e4 r2
    exact ⟨_, k _ (List.mem_singleton.mpr rfl), z, S1, mCallL_of f1 ((o.cel f2).trans f3), r3, t1⟩
/-! ### functions -/
structure SF where
  F : FV
  a : List APV → ASto → Option (List (APV × ASto))
  ok : ∀ {vs T l}, a vs T = some l → ∀ {xs S}, All2 RV vs xs → RSt T S → ∃ o ∈ l, ∃ x S', F xs S = some (x, S') ∧ RV o.1 x ∧ RSt o.2 S'
structure SFL where
  F : FL
  a : List APV → ASto → Option (List (Sq × ASto))
  ok : ∀ {vs T l}, a vs T = some l → ∀ {xs S}, All2 RV vs xs → RSt T S → ∃ o ∈ l, ∃ x S', F xs S = some (x, S') ∧ γq o.1 x ∧ RSt o.2 S'
def xFn (n : Nat) (F : SF) (y : SA) : SM where
  m := mFn n F.F y.m
  a := fun A T => (y.a A T).bind fun l => bindL l fun p => if p.1.length = n then F.a p.1 p.2 else none
  ok := fun {A T l} e {ρ S} hA hT => by
    obtain ⟨l1, e1, e⟩ := Option.bind_eq_some_iff.mp e
    obtain ⟨o1, ho1, xs, S1, f1, r1, t1⟩ := y.ok e1 hA hT
    obtain ⟨s, e2, k⟩ := bindL_mem e ho1
    split at e2
    · rename_i hn
      obtain ⟨o2, ho2, x, S2, f2, r2, t2⟩ := F.ok e2 r1 t1
      exact ⟨o2, k _ ho2, x, S2, mFn_of f1 (by rw [← r1.len]; exact hn) f2, r2, t2⟩
    · cases e2
def xFnL (n : Nat) (F : SFL) (y : SA) : SL where
  m := mFnL n F.F y.m
  a := fun A T => (y.a A T).bind fun l => bindL l fun p => if p.1.length = n then F.a p.1 p.2 else none
  ok := fun {A T l} e {ρ S} hA hT => by
    obtain ⟨l1, e1, e⟩ := Option.bind_eq_some_iff.mp e
    obtain ⟨o1, ho1, xs, S1, f1, r1, t1⟩ := y.ok e1 hA hT
    obtain ⟨s, e2, k⟩ := bindL_mem e ho1
    split at e2
    · rename_i hn
      obtain ⟨o2, ho2, x, S2, f2, r2, t2⟩ := F.ok e2 r1 t1
      exact ⟨o2, k _ ho2, x, S2, mFnL_of f1 (by rw [← r1.len]; exact hn) f2, r2, t2⟩
    · cases e2
/-! ### tests -/
def boolsOf : AV → Option (List Bool)
  | .ex (.bool b) => some [b]
  | .bool => some [true, false]
  | _ => none
theorem boolsOf_ok {v : AV} {l : List Bool} {x : PyData} (h : boolsOf v = some l) (g : γ v x) : ∃ b ∈ l, x = .bool b := by
  unfold boolsOf at h
  split at h
  · cases h
    exact ⟨_, List.mem_singleton.mpr rfl, g⟩
  · cases h
    obtain ⟨b, rfl⟩ := g
    exact ⟨b, by cases b <;> simp, rfl⟩
  · cases h
def xAsB (x : SM) : SB where
  m := asB x.m
  a := fun A T => (x.a A T).bind fun l => bindL l fun p => match p.1 with
    | .d v => (boolsOf v).map fun bs => bs.map fun b => (b, p.2)
    | .c _ => none
  ok := fun {A T l} e {ρ S} hA hT => by
    obtain ⟨l1, e1, e⟩ := Option.bind_eq_some_iff.mp e
    obtain ⟨o1, ho1, v, S1, f1, r1, t1⟩ := x.ok e1 hA hT
    obtain ⟨s, e2, k⟩ := bindL_mem e ho1
    obtain ⟨av, T1⟩ := o1
    cases av with
    | c i => cases e2
    | d w =>
      obtain ⟨bs, e3, rfl⟩ := Option.map_eq_some_iff.mp e2
      cases v with
      | c i => exact r1.elim
      | d y =>
        obtain ⟨b, hb, rfl⟩ := boolsOf_ok e3 r1
        exact ⟨(b, T1), k _ (List.mem_map.mpr ⟨b, hb, rfl⟩), S1, asB_of f1, t1⟩
def xNotB (x : SB) : SB where
  m := bNot x.m
  a := fun A T => (x.a A T).map fun l => l.map fun p => (!p.1, p.2)
  ok := fun {A T l} e {ρ S} hA hT => by
    obtain ⟨l1, e1, rfl⟩ := Option.map_eq_some_iff.mp e
    obtain ⟨o1, ho1, S1, f1, t1⟩ := x.ok e1 hA hT
    exact ⟨_, List.mem_map.mpr ⟨o1, ho1, rfl⟩, S1, bNot_of f1, t1⟩
def xAndB (x y : SB) : SB where
  m := bAnd x.m y.m
  a := fun A T => (x.a A T).bind fun l => bindL l fun p => if p.1 = true then y.a A p.2 else some [(false, p.2)]
  ok := fun {A T l} e {ρ S} hA hT => by
    obtain ⟨l1, e1, e⟩ := Option.bind_eq_some_iff.mp e
    obtain ⟨⟨b, T1⟩, ho1, S1, f1, t1⟩ := x.ok e1 hA hT
    obtain ⟨s, e2, k⟩ := bindL_mem e ho1
    cases b with
    | true =>
      obtain ⟨o2, ho2, S2, f2, t2⟩ := y.ok (show y.a A T1 = some s from e2) hA t1
      refine ⟨o2, k _ ho2, S2, ?_, t2⟩
      unfold bAnd
      rw [f1]
      exact f2
    | false =>
      cases e2
      refine ⟨_, k _ (List.mem_singleton.mpr rfl), S1, ?_, t1⟩
      unfold bAnd
      rw [f1]
      rfl
def xOrB (x y : SB) : SB where
  m := bOr x.m y.m
  a := fun A T => (x.a A T).bind fun l => bindL l fun p => if p.1 = true then some [(true, p.2)] else y.a A p.2
  ok := fun {A T l} e {ρ S} hA hT => by
    obtain ⟨l1, e1, e⟩ := Option.bind_eq_some_iff.mp e
    obtain ⟨⟨b, T1⟩, ho1, S1, f1, t1⟩ := x.ok e1 hA hT
    obtain ⟨s, e2, k⟩ := bindL_mem e ho1
    cases b with
    | true =>
      cases e2
      refine ⟨_, k _ (List.mem_singleton.mpr rfl), S1, ?_, t1⟩
      unfold bOr
      rw [f1]
      rfl
    | false =>
      obtain ⟨o2, ho2, S2, f2, t2⟩ := y.ok (show y.a A T1 = some s from e2) hA t1
      refine ⟨o2, k _ ho2, S2, ?_, t2⟩
      unfold bOr
      rw [f1]
      exact f2
def xIf (c : SB) (x y : SM) : SM where
  m := mIf c.m x.m y.m
  a := fun A T => (c.a A T).bind fun l => bindL l fun p => if p.1 = true then x.a A p.2 else y.a A p.2
  ok := fun {A T l} e {ρ S} hA hT => by
    obtain ⟨l1, e1, e⟩ := Option.bind_eq_some_iff.mp e
    obtain ⟨⟨b, T1⟩, ho1, S1, f1, t1⟩ := c.ok e1 hA hT
    obtain ⟨s, e2, k⟩ := bindL_mem e ho1
    cases b with
    | true =>
      obtain ⟨o2, ho2, v, S2, f2, r2, t2⟩ := x.ok (show x.a A T1 = some s from e2) hA t1
      exact ⟨o2, k _ ho2, v, S2, (mIf_t f1).trans f2, r2, t2⟩
    | false =>
      obtain ⟨o2, ho2, v, S2, f2, r2, t2⟩ := y.ok (show y.a A T1 = some s from e2) hA t1
      exact ⟨o2, k _ ho2, v, S2, (mIf_f f1).trans f2, r2, t2⟩
def unOk (x : SM) : SM where
  m := mUn fNeg x.m
  a := fun A T => (x.a A T).bind fun l => bindL l fun p => match p.1 with
    | .d v => match v with
      | .ex (.int i) => some [(.d (.ex (.int (-i))), p.2)]
      | v => (asInt v).map fun q => [(.d (.int (-q.2) (-q.1)), p.2)]
    | .c _ => none
  ok := fun {A T l} e {ρ S} hA hT => by
    obtain ⟨l1, e1, e⟩ := Option.bind_eq_some_iff.mp e
    obtain ⟨⟨av, T1⟩, ho1, v, S1, f1, r1, t1⟩ := x.ok e1 hA hT
    obtain ⟨s, e2, k⟩ := bindL_mem e ho1
    cases av with
    | c i => cases e2
    | d w =>
      cases v with
      | c i => exact r1.elim
      | d y =>
        have go : ∀ {i : Int}, y = .int i → mUn fNeg x.m ρ S = some (.d (.int (-i)), S1) := fun {i} ey => by
          unfold mUn
          rw [f1, ey]
          rfl
        dsimp only at e2
        split at e2
        · rename_i i
          cases e2
          exact ⟨_, k _ (List.mem_singleton.mpr rfl), _, S1, go r1, rfl, t1⟩
        · obtain ⟨q, e3, rfl⟩ := Option.map_eq_some_iff.mp e2
          obtain ⟨i, ey, h1, h2⟩ := asInt_ok (lo := q.1) (hi := q.2) e3 r1
          exact ⟨_, k _ (List.mem_singleton.mpr rfl), _, S1, go ey, ⟨-i, rfl, by omega, by omega⟩, t1⟩
end
end DN

namespace DN
open PySem PySem.Spec PyProof.Rows L2 DL
section
variable [Feed]
/-! ### statements -/
inductive AOut where
  | nx (A : AEnv) (T : ASto)
  | bk (A : AEnv) (T : ASto)
  | ct (A : AEnv) (T : ASto)
  | rt (v : APV) (T : ASto)
  | rl (q : Sq) (T : ASto)
def ROut : AOut → Out → Prop
  | .nx A T, .nx ρ S => REn A ρ ∧ RSt T S
  | .bk A T, .bk ρ S => REn A ρ ∧ RSt T S
  | .ct A T, .ct ρ S => REn A ρ ∧ RSt T S
  | .rt v T, .rt x S => RV v x ∧ RSt T S
  | .rl q T, .rl ds S => γq q ds ∧ RSt T S
  | _, _ => False
structure SS where
  m : MS
  a : AEnv → ASto → Option (List AOut)
  ok : ∀ {A T l}, a A T = some l → ∀ {ρ S}, REn A ρ → RSt T S → ∃ o ∈ l, ∃ out, m ρ S = some out ∧ ROut o out
/-- outcomes brought together -/
structure Nm where
  f : List AOut → List AOut
  ok : ∀ {l o out}, o ∈ l → ROut o out → ∃ o' ∈ f l, ROut o' out
def nmId : Nm := ⟨id, fun h r => ⟨_, h, r⟩⟩
def joinAO : AOut → AOut → Option AOut
  | .nx A T, .nx B U => if A.length = B.length then (joinS T U).map fun V => .nx (joinE A B) V else none
  | .bk A T, .bk B U => if A.length = B.length then (joinS T U).map fun V => .bk (joinE A B) V else none
  | .ct A T, .ct B U => if A.length = B.length then (joinS T U).map fun V => .ct (joinE A B) V else none
  | .rt v T, .rt w U => (joinV v w).bind fun z => (joinS T U).map fun V => .rt z V
  | .rl v T, .rl w U => (joinS T U).map fun V => .rl (joinQ join v w) V
  | _, _ => none
theorem joinAO_l {a b c : AOut} {o : Out} (h : joinAO a b = some c) (r : ROut a o) : ROut c o := by
  cases a <;> cases b <;> first | (cases h) | skip
  case nx.nx A T B U =>
    have h : (if A.length = B.length then (joinS T U).map (fun V => AOut.nx (joinE A B) V) else none) = some c := h
    split at h
    · rename_i hl
      obtain ⟨V, e, rfl⟩ := Option.map_eq_some_iff.mp h
      cases o <;> first | (exact r.elim) | (exact ⟨joinE_l hl r.1, joinS_l e r.2⟩)
    · cases h
  case bk.bk A T B U =>
    have h : (if A.length = B.length then (joinS T U).map (fun V => AOut.bk (joinE A B) V) else none) = some c := h
    split at h
    · rename_i hl
      obtain ⟨V, e, rfl⟩ := Option.map_eq_some_iff.mp h
      cases o <;> first | (exact r.elim) | (exact ⟨joinE_l hl r.1, joinS_l e r.2⟩)
    · cases h
  case ct.ct A T B U =>
    have h : (if A.length = B.length then (joinS T U).map (fun V => AOut.ct (joinE A B) V) else none) = some c := h
    split at h
    · rename_i hl
      obtain ⟨V, e, rfl⟩ := Option.map_eq_some_iff.mp h
      cases o <;> first | (exact r.elim) | (exact ⟨joinE_l hl r.1, joinS_l e r.2⟩)
    · cases h
  case rt.rt v T w U =>
    obtain ⟨z, e1, h⟩ := Option.bind_eq_some_iff.mp h
    obtain ⟨V, e, rfl⟩ := Option.map_eq_some_iff.mp h
    cases o <;> first | (exact r.elim) | (exact ⟨joinV_l e1 r.1, joinS_l e r.2⟩)
  case rl.rl v T w U =>
    obtain ⟨V, e, rfl⟩ := Option.map_eq_some_iff.mp h
    cases o <;> first | (exact r.elim) | (exact ⟨joinQ_l join_up r.1, joinS_l e r.2⟩)
theorem joinAO_r {a b c : AOut} {o : Out} (h : joinAO a b = some c) (r : ROut b o) : ROut c o := by
  cases a <;> cases b <;> first | (cases h) | skip
  case nx.nx A T B U =>
    have h : (if A.length = B.length then (joinS T U).map (fun V => AOut.nx (joinE A B) V) else none) = some c := h
    split at h
    · rename_i hl
      obtain ⟨V, e, rfl⟩ := Option.map_eq_some_iff.mp h
      cases o <;> first | (exact r.elim) | (exact ⟨joinE_r hl r.1, joinS_r e r.2⟩)
    · cases h
  case bk.bk A T B U =>
    have h : (if A.length = B.length then (joinS T U).map (fun V => AOut.bk (joinE A B) V) else none) = some c := h
    split at h
    · rename_i hl
      obtain ⟨V, e, rfl⟩ := Option.map_eq_some_iff.mp h
      cases o <;> first | (exact r.elim) | (exact ⟨joinE_r hl r.1, joinS_r e r.2⟩)
    · cases h
  case ct.ct A T B U =>
    have h : (if A.length = B.length then (joinS T U).map (fun V => AOut.ct (joinE A B) V) else none) = some c := h
    split at h
    · rename_i hl
      obtain ⟨V, e, rfl⟩ := Option.map_eq_some_iff.mp h
      cases o <;> first | (exact r.elim) | (exact ⟨joinE_r hl r.1, joinS_r e r.2⟩)
    · cases h
  case rt.rt v T w U =>
    obtain ⟨z, e1, h⟩ := Option.bind_eq_some_iff.mp h
    obtain ⟨V, e, rfl⟩ := Option.map_eq_some_iff.mp h
    cases o <;> first | (exact r.elim) | (exact ⟨joinV_r e1 r.1, joinS_r e r.2⟩)
  case rl.rl v T w U =>
    obtain ⟨V, e, rfl⟩ := Option.map_eq_some_iff.mp h
    cases o <;> first | (exact r.elim) | (exact ⟨joinQ_r join_up r.1, joinS_r e r.2⟩)
/-- each into the first that takes it -/
def addO (o : AOut) : List AOut → List AOut
  | [] => [o]
  | p :: r => match joinAO p o with
    | some c => c :: r
    | none => p :: addO o r
theorem addO_new {o : AOut} {out : Out} (h : ROut o out) : ∀ l : List AOut, ∃ o' ∈ addO o l, ROut o' out
  | [] => ⟨o, List.mem_singleton.mpr rfl, h⟩
  | p :: r => by
    unfold addO
    split
    · rename_i c e
      exact ⟨c, List.mem_cons_self, joinAO_r e h⟩
    · obtain ⟨o', m, q⟩ := addO_new h r
      exact ⟨o', List.mem_cons_of_mem _ m, q⟩
theorem addO_old {o p : AOut} {out : Out} (h : ROut p out) : ∀ {l : List AOut}, p ∈ l → ∃ o' ∈ addO o l, ROut o' out
  | [], m => nomatch m
  | q :: r, m => by
    unfold addO
    rcases List.mem_cons.mp m with rfl | m
    · split
      · rename_i c e
        exact ⟨c, List.mem_cons_self, joinAO_l e h⟩
      · exact ⟨_, List.mem_cons_self, h⟩
    · split
      · exact ⟨p, List.mem_cons_of_mem _ m, h⟩
      · obtain ⟨o', m', q'⟩ := addO_old (o := o) h m
        exact ⟨o', List.mem_cons_of_mem _ m', q'⟩
def oneL : List AOut → List AOut
  | [] => []
  | o :: r => addO o (oneL r)
theorem oneL_ok : ∀ {l : List AOut} {o : AOut} {out : Out}, o ∈ l → ROut o out → ∃ o' ∈ oneL l, ROut o' out
  | [], _, _, h, _ => nomatch h
  | p :: r, o, out, h, q => by
    rcases List.mem_cons.mp h with rfl | h
    · exact addO_new q _
    · obtain ⟨o', m, q'⟩ := oneL_ok h q
      exact addO_old q' m
def nmOne : Nm := ⟨oneL, oneL_ok⟩
/-! dead slots forgotten -/
def wipeA (A : AEnv) : List Nat → AEnv
  | [] => A
  | v :: vs => (wipeA A vs).set v none
theorem forget_set {A : AEnv} {ρ : RE} (i : Nat) (h : REn A ρ) : REn (A.set i none) ρ := by
  induction h generalizing i with
  | nil => exact .nil
  | cons r t ih =>
    cases i with
    | zero => exact .cons trivial t
    | succ i => exact .cons r (ih i)
theorem forget_ok {A : AEnv} {ρ : RE} (h : REn A ρ) : ∀ vs : List Nat, REn (wipeA A vs) ρ
  | [] => h
  | v :: vs => forget_set v (forget_ok h vs)
theorem wipe_ok {A : AEnv} {ρ : RE} (h : REn A ρ) : ∀ vs : List Nat, REn (wipeA A vs) (wipeR ρ vs)
  | [] => h
  | v :: vs => All2.set (R := RO) (show RO none none from trivial) v (wipe_ok h vs)
def xNilS : SS where
  m := sNil
  a := fun A T => some [.nx A T]
  ok := fun {A T l} e {ρ S} hA hT => by
    cases e
    exact ⟨_, List.mem_singleton.mpr rfl, .nx ρ S, rfl, hA, hT⟩
def xSeq (n : Nm) (x y : SS) : SS where
  m := sSeq x.m y.m
  a := fun A T => (x.a A T).bind fun l => bindL (n.f l) fun o => match o with
    | .nx B U => y.a B U
    | o => some [o]
  ok := fun {A T l} e {ρ S} hA hT => by
    obtain ⟨l1, e1, e⟩ := Option.bind_eq_some_iff.mp e
    obtain ⟨o1, ho1, out, f1, r1⟩ := x.ok e1 hA hT
    obtain ⟨o2, ho2, r2⟩ := n.ok ho1 r1
    obtain ⟨s, e2, k⟩ := bindL_mem e ho2
    cases out with
    | nx ρ' S' =>
      cases o2 <;> first | (exact r2.elim) | skip
      obtain ⟨o3, ho3, out, f3, r3⟩ := y.ok (show y.a _ _ = some s from e2) r2.1 r2.2
      refine ⟨o3, k _ ho3, out, ?_, r3⟩
      unfold sSeq
      rw [f1]
      exact f3
    | bk ρ' S' =>
      cases o2 <;> first | (exact r2.elim) | skip
      cases e2
      refine ⟨_, k _ (List.mem_singleton.mpr rfl), _, ?_, r2⟩
      unfold sSeq
      rw [f1]
      rfl
    | ct ρ' S' =>
      cases o2 <;> first | (exact r2.elim) | skip
      cases e2
      refine ⟨_, k _ (List.mem_singleton.mpr rfl), _, ?_, r2⟩
      unfold sSeq
      rw [f1]
      rfl
    | rt ρ' S' =>
      cases o2 <;> first | (exact r2.elim) | skip
      cases e2
      refine ⟨_, k _ (List.mem_singleton.mpr rfl), _, ?_, r2⟩
      unfold sSeq
      rw [f1]
      rfl
    | rl ρ' S' =>
      cases o2 <;> first | (exact r2.elim) | skip
      cases e2
      refine ⟨_, k _ (List.mem_singleton.mpr rfl), _, ?_, r2⟩
      unfold sSeq
      rw [f1]
      rfl
def xSet (i : Nat) (x : SM) : SS where
  m := sSet i x.m
  a := fun A T => (x.a A T).map fun l => l.map fun p => .nx (A.set i (some p.1)) p.2
  ok := fun {A T l} e {ρ S} hA hT => by
    obtain ⟨l1, e1, rfl⟩ := Option.map_eq_some_iff.mp e
    obtain ⟨o1, ho1, v, S1, f1, r1, t1⟩ := x.ok e1 hA hT
    exact ⟨_, List.mem_map.mpr ⟨o1, ho1, rfl⟩, _, sSet_of f1, All2.set (R := RO) (show RO (some o1.1) (some v) from r1) i hA, t1⟩
def xOwn (i : Nat) (x : SL) : SS where
  m := sOwn i x.m
  a := fun A T => (x.a A T).map fun l => l.map fun p => .nx (A.set i (some (.c p.2.length))) (p.2 ++ [.q p.1])
  ok := fun {A T l} e {ρ S} hA hT => by
    obtain ⟨l1, e1, rfl⟩ := Option.map_eq_some_iff.mp e
    obtain ⟨o1, ho1, ds, S1, f1, r1, t1⟩ := x.ok e1 hA hT
    refine ⟨_, List.mem_map.mpr ⟨o1, ho1, rfl⟩, _, sOwn_of f1, All2.set (R := RO) (show RO (some (.c o1.2.length)) (some (.c S1.length)) from ?_) i hA, All2.app t1 (.cons r1 .nil)⟩
    exact All2.len t1
def xRet (x : SM) : SS where
  m := sRet x.m
  a := fun A T => (x.a A T).map fun l => l.map fun p => .rt p.1 p.2
  ok := fun {A T l} e {ρ S} hA hT => by
    obtain ⟨l1, e1, rfl⟩ := Option.map_eq_some_iff.mp e
    obtain ⟨o1, ho1, v, S1, f1, r1, t1⟩ := x.ok e1 hA hT
    exact ⟨_, List.mem_map.mpr ⟨o1, ho1, rfl⟩, _, sRet_of f1, r1, t1⟩
def xDrop (x : SM) : SS where
  m := sDrop x.m
  a := fun A T => (x.a A T).map fun l => l.map fun p => .nx A p.2
  ok := fun {A T l} e {ρ S} hA hT => by
    obtain ⟨l1, e1, rfl⟩ := Option.map_eq_some_iff.mp e
    obtain ⟨o1, ho1, v, S1, f1, r1, t1⟩ := x.ok e1 hA hT
    exact ⟨_, List.mem_map.mpr ⟨o1, ho1, rfl⟩, _, sDrop_of f1, hA, t1⟩
def xIfS (c : SB) (x y : SS) : SS where
  m := sIf c.m x.m y.m
  a := fun A T => (c.a A T).bind fun l => bindL l fun p => if p.1 = true then x.a A p.2 else y.a A p.2
  ok := fun {A T l} e {ρ S} hA hT => by
    obtain ⟨l1, e1, e⟩ := Option.bind_eq_some_iff.mp e
    obtain ⟨⟨b, T1⟩, ho1, S1, f1, t1⟩ := c.ok e1 hA hT
    obtain ⟨s, e2, k⟩ := bindL_mem e ho1
    cases b with
    | true =>
      obtain ⟨o2, ho2, out, f2, r2⟩ := x.ok (show x.a A T1 = some s from e2) hA t1
      exact ⟨o2, k _ ho2, out, (sIf_t f1).trans f2, r2⟩
    | false =>
      obtain ⟨o2, ho2, out, f2, r2⟩ := y.ok (show y.a A T1 = some s from e2) hA t1
      exact ⟨o2, k _ ho2, out, (sIf_f f1).trans f2, r2⟩
/-- xs.append(e) -/
def xAppend (x y : SM) : SM where
  m := mAppend x.m y.m
  a := fun A T => (x.a A T).bind fun l => bindL l fun p => (y.a A p.2).bind fun r => bindL r fun q => match p.1, q.1 with
    | .c j, .d v => match p.2[j]?, q.2[j]? with
      | some (.q _), some (.q s) => if (sumOf join s).1 < 1000000 then some [(.d (.ex .none), q.2.set j (.q (appQ join s (.exs [v]))))] else none
      | _, _ => none
    | _, _ => none
  ok := fun {A T l} e {ρ S} hA hT => by
    obtain ⟨l1, e1, e⟩ := Option.bind_eq_some_iff.mp e
    obtain ⟨⟨v1, T1⟩, ho1, x1, S1, f1, r1, t1⟩ := x.ok e1 hA hT
    obtain ⟨s, e2, k⟩ := bindL_mem e ho1
    obtain ⟨l2, e3, e2⟩ := Option.bind_eq_some_iff.mp e2
    obtain ⟨⟨v2, T2⟩, ho2, x2, S2, f2, r2, t2⟩ := y.ok e3 hA t1
    obtain ⟨s2, e4, k2⟩ := bindL_mem e2 ho2
    cases v1 with
    | d w => cases e4
    | c j =>
      cases v2 with
      | c i => cases e4
      | d w =>
        cases x1 with
        | d y => exact r1.elim
        | c j' =>
          have ej : j = j' := r1
          subst ej
          cases x2 with
          | c i => exact r2.elim
          | d yd =>
            dsimp only at e4
            split at e4
            · rename_i q0 q e50 e5
              split at e4
              · rename_i hz
                cases e4
                obtain ⟨ds0, e60, _⟩ := stQ t1 e50
                obtain ⟨ds, e6, g6⟩ := stQ t2 e5
                have g7 : γq q ds := g6
                have hl : ds.length < 1000000 := Nat.lt_of_le_of_lt (sumOf_up join_up g7).1 hz
                refine ⟨_, k _ (k2 _ (List.mem_singleton.mpr rfl)), .d .none, S2.set j (.l (ds ++ [yd])), ?_, rfl, All2.set (R := RC) (show RC (.q (appQ join q (.exs [w]))) (.l (ds ++ [yd])) from appQ_up join_up g7 (.cons r2 .nil)) j t2⟩
                unfold mAppend
                rw [f1]
                show (y.m ρ S1).bind _ = _
                rw [f2]
                show (if (lAt S1 j).isSome = true then (lAt S2 j).bind _ else none) = _
                rw [lAt_some.mpr e60, lAt_some.mpr e6]
                show (if ds.length < 1000000 then _ else none) = _
                rw [if_pos hl]
              · cases e4
            · cases e4
/-! ### targets -/
structure SG where
  m : TgD
  a : AV → AEnv → Option AEnv
  ok : ∀ {v A B}, a v A = some B → ∀ {d ρ}, γ v d → REn A ρ → ∃ ρ', m d ρ = some ρ' ∧ REn B ρ'
structure SGs where
  m : TgDs
  a : List AV → AEnv → Option AEnv
  ok : ∀ {v A B}, a v A = some B → ∀ {d ρ}, All2 γ v d → REn A ρ → ∃ ρ', m d ρ = some ρ' ∧ REn B ρ'
def xgN (i : Nat) : SG where
  m := gN i
  a := fun v A => some (A.set i (some (.d v)))
  ok := fun {v A B} e {d ρ} g hA => by
    cases e
    exact ⟨_, rfl, All2.set (R := RO) (show RO (some (.d v)) (some (.d d)) from g) i hA⟩
def xgNs : SGs where
  m := gNs
  a := fun v A => match v with
    | [] => some A
    | _ => none
  ok := fun {v A B} e {d ρ} g hA => by
    cases g with
    | nil => cases e; exact ⟨ρ, rfl, hA⟩
    | cons r t => cases e
def xgCs (x : SG) (y : SGs) : SGs where
  m := gCs x.m y.m
  a := fun v A => match v with
    | a :: r => (x.a a A).bind fun B => y.a r B
    | [] => none
  ok := fun {v A B} e {d ρ} g hA => by
    cases g with
    | nil => cases e
    | cons r t =>
      obtain ⟨C, e1, e2⟩ := Option.bind_eq_some_iff.mp e
      obtain ⟨ρ1, f1, h1⟩ := x.ok e1 r hA
      obtain ⟨ρ2, f2, h2⟩ := y.ok e2 t h1
      refine ⟨ρ2, ?_, h2⟩
      show (x.m _ ρ).bind _ = _
      rw [f1]
      exact f2
def xgT (n : Nat) (y : SGs) : SG where
  m := gT n y.m
  a := fun v A => match tupOf v with
    | some (.exs vs) => if vs.length = n then y.a vs A else none
    | _ => none
  ok := fun {v A B} e {d ρ} g hA => by
    split at e
    · rename_i vs q
      split at e
      · rename_i hl
        obtain ⟨xs, rfl, r⟩ := tupOf_ok q g
        obtain ⟨ρ', f, h⟩ := y.ok e r hA
        refine ⟨ρ', ?_, h⟩
        show (if xs.length = n then y.m xs ρ else none) = _
        rw [if_pos (by rw [← All2.len r]; exact hl)]
        exact f
      · cases e
    · cases e
end
end DN

namespace DN
open PySem PySem.Spec PyProof.Rows L2 DL
/-! ### a loop as steps over outcomes: ct, it runs; else it has ended -/
def convC : Out → Out
  | .nx ρ S => .ct ρ S
  | .ct ρ S => .ct ρ S
  | .bk ρ S => .nx ρ S
  | o => o
def finC : Out → Out
  | .ct ρ S => .nx ρ S
  | o => o
def stepC (tgt : TgD) (body : MS) (x : PyData) : Out → Option Out
  | .ct ρ S => (tgt x ρ).bind fun ρ1 => (body ρ1 S).map convC
  | o => some o
def foldC (tgt : TgD) (body : MS) : List PyData → Out → Option Out
  | [], o => some o
  | x :: xs, o => (stepC tgt body x o).bind (foldC tgt body xs)
theorem foldC_end {tgt : TgD} {body : MS} {o : Out} (h : ∀ ρ S, o ≠ .ct ρ S) : ∀ xs, foldC tgt body xs o = some o
  | [] => rfl
  | x :: xs => by
    show (stepC tgt body x o).bind _ = _
    have : stepC tgt body x o = some o := by
      cases o <;> first | rfl | exact absurd rfl (h _ _)
    rw [this]
    exact foldC_end h xs
theorem forGo_fold {tgt : TgD} {body : MS} : ∀ (xs : List PyData) (ρ : RE) (S : Sto), forGo tgt body xs ρ S = (foldC tgt body xs (.ct ρ S)).map finC
  | [], ρ, S => rfl
  | x :: xs, ρ, S => by
    show (tgt x ρ).bind _ = ((stepC tgt body x (.ct ρ S)).bind _).map _
    cases h1 : tgt x ρ with
    | none => simp [stepC, h1]
    | some ρ1 =>
      cases h2 : body ρ1 S with
      | none => simp [stepC, h1, h2]
      | some o =>
        simp only [stepC, h1, Option.bind_some, h2, Option.map_some]
        cases o with
        | nx ρ' S' => exact forGo_fold xs ρ' S'
        | ct ρ' S' => exact forGo_fold xs ρ' S'
        | bk ρ' S' => rw [show convC (.bk ρ' S') = .nx ρ' S' from rfl, foldC_end (fun _ _ z => by cases z)]; rfl
        | rt v S' => rw [show convC (.rt v S') = .rt v S' from rfl, foldC_end (fun _ _ z => by cases z)]; rfl
        | rl v S' => rw [show convC (.rl v S') = .rl v S' from rfl, foldC_end (fun _ _ z => by cases z)]; rfl
section
variable [Feed]
def convA : AOut → AOut
  | .nx A T => .ct A T
  | .ct A T => .ct A T
  | .bk A T => .nx A T
  | o => o
def finA : AOut → AOut
  | .ct A T => .nx A T
  | o => o
theorem conv_ok {o : AOut} {out : Out} (h : ROut o out) : ROut (convA o) (convC out) := by
  cases o <;> cases out <;> first | exact h | exact h.elim
theorem fin_ok {o : AOut} {out : Out} (h : ROut o out) : ROut (finA o) (finC out) := by
  cases o <;> cases out <;> first | exact h | exact h.elim
def stepA (tg : SG) (b : SS) (v : AV) : AOut → Option (List AOut)
  | .ct A T => (tg.a v A).bind fun B => (b.a B T).map fun l => l.map convA
  | o => some [o]
theorem step_ok {tg : SG} {b : SS} {v : AV} {x : PyData} {o : AOut} {out : Out} {l : List AOut} (e : stepA tg b v o = some l) (g : γ v x) (h : ROut o out) : ∃ o' ∈ l, ∃ out', stepC tg.m b.m x out = some out' ∧ ROut o' out' := by
  cases out with
  | ct ρ S =>
    cases o <;> first | (exact h.elim) | skip
    obtain ⟨B, e1, e⟩ := Option.bind_eq_some_iff.mp e
    obtain ⟨l1, e2, rfl⟩ := Option.map_eq_some_iff.mp e
    obtain ⟨ρ1, f1, r1⟩ := tg.ok e1 g h.1
    obtain ⟨o2, ho2, out2, f2, r2⟩ := b.ok e2 r1 h.2
    refine ⟨_, List.mem_map.mpr ⟨o2, ho2, rfl⟩, _, ?_, conv_ok r2⟩
    show (tg.m x ρ).bind _ = _
    rw [f1]
    show (b.m ρ1 S).map _ = _
    rw [f2]
    rfl
  | nx ρ S =>
    cases o <;> first | (exact h.elim) | skip
    cases e
    exact ⟨_, List.mem_singleton.mpr rfl, _, rfl, h⟩
  | bk ρ S =>
    cases o <;> first | (exact h.elim) | skip
    cases e
    exact ⟨_, List.mem_singleton.mpr rfl, _, rfl, h⟩
  | rt ρ S =>
    cases o <;> first | (exact h.elim) | skip
    cases e
    exact ⟨_, List.mem_singleton.mpr rfl, _, rfl, h⟩
  | rl ρ S =>
    cases o <;> first | (exact h.elim) | skip
    cases e
    exact ⟨_, List.mem_singleton.mpr rfl, _, rfl, h⟩
def loopE (n : Nm) (tg : SG) (b : SS) : List AV → List AOut → Option (List AOut)
  | [], ss => some ss
  | v :: vs, ss => (bindL ss (stepA tg b v)).bind fun r => loopE n tg b vs (n.f r)
theorem loopE_ok {n : Nm} {tg : SG} {b : SS} : ∀ {vs : List AV} {ss l : List AOut} {xs : List PyData} {o : AOut} {out : Out}, loopE n tg b vs ss = some l → All2 γ vs xs → o ∈ ss → ROut o out → ∃ o' ∈ l, ∃ out', foldC tg.m b.m xs out = some out' ∧ ROut o' out'
  | [], ss, l, _, o, out, e, .nil, ho, h => by
    cases e
    exact ⟨o, ho, out, rfl, h⟩
  | v :: vs, ss, l, _, o, out, e, .cons g t, ho, h => by
    obtain ⟨r, e1, e⟩ := Option.bind_eq_some_iff.mp e
    obtain ⟨s, e2, k⟩ := bindL_mem e1 ho
    obtain ⟨o2, ho2, out2, f2, r2⟩ := step_ok e2 g h
    obtain ⟨o3, ho3, r3⟩ := n.ok (k _ ho2) r2
    obtain ⟨o4, ho4, out4, f4, r4⟩ := loopE_ok e t ho3 r3
    refine ⟨o4, ho4, out4, ?_, r4⟩
    show (stepC _ _ _ out).bind _ = _
    rw [f2]
    exact f4
def loopU (n : Nm) (tg : SG) (b : SS) (v : AV) : Nat → List AOut → Option (List AOut)
  | 0, ss => some ss
  | k + 1, ss => (bindL ss (stepA tg b v)).bind fun r => loopU n tg b v k (n.f (ss ++ r))
theorem loopU_more {n : Nm} {tg : SG} {b : SS} {v : AV} : ∀ {k : Nat} {ss l : List AOut} {o : AOut} {out : Out}, loopU n tg b v k ss = some l → o ∈ ss → ROut o out → ∃ o' ∈ l, ROut o' out
  | 0, ss, l, o, out, e, ho, h => by
    cases e
    exact ⟨o, ho, h⟩
  | k + 1, ss, l, o, out, e, ho, h => by
    obtain ⟨r, e1, e⟩ := Option.bind_eq_some_iff.mp e
    obtain ⟨o3, ho3, r3⟩ := n.ok (List.mem_append_left _ ho) h
    exact loopU_more e ho3 r3
theorem loopU_ok {n : Nm} {tg : SG} {b : SS} {v : AV} : ∀ {k : Nat} {ss l : List AOut} {xs : List PyData} {o : AOut} {out : Out}, loopU n tg b v k ss = some l → xs.length ≤ k → (∀ y ∈ xs, γ v y) → o ∈ ss → ROut o out → ∃ o' ∈ l, ∃ out', foldC tg.m b.m xs out = some out' ∧ ROut o' out'
  | k, ss, l, [], o, out, e, _, _, ho, h => by
    obtain ⟨o', m, r⟩ := loopU_more e ho h
    exact ⟨o', m, out, rfl, r⟩
  | 0, ss, l, x :: xs, o, out, e, hl, _, ho, h => by simp at hl
  | k + 1, ss, l, x :: xs, o, out, e, hl, hy, ho, h => by
    obtain ⟨r, e1, e⟩ := Option.bind_eq_some_iff.mp e
    obtain ⟨s, e2, kk⟩ := bindL_mem e1 ho
    obtain ⟨o2, ho2, out2, f2, r2⟩ := step_ok e2 (hy x List.mem_cons_self) h
    obtain ⟨o3, ho3, r3⟩ := n.ok (List.mem_append_right _ (kk _ ho2)) r2
    obtain ⟨o4, ho4, out4, f4, r4⟩ := loopU_ok e (by simpa using hl) (fun y hy' => hy y (List.mem_cons_of_mem _ hy')) ho3 r3
    refine ⟨o4, ho4, out4, ?_, r4⟩
    show (stepC _ _ _ out).bind _ = _
    rw [f2]
    exact f4
def loopQ (n : Nm) (tg : SG) (b : SS) (q : Sq) (ss : List AOut) : Option (List AOut) := match q with
  | .exs vs => loopE n tg b vs ss
  | .sum k v => loopU n tg b v k ss
def xFor (n : Nm) (x : SL) (tg : SG) (b : SS) : SS where
  m := sFor x.m tg.m b.m
  a := fun A T => (x.a A T).bind fun l => bindL l fun p => (loopQ n tg b p.1 [.ct A p.2]).map fun (r : List AOut) => r.map finA
  ok := fun {A T l} e {ρ S} hA hT => by
    obtain ⟨l1, e1, e⟩ := Option.bind_eq_some_iff.mp e
    obtain ⟨⟨q, T1⟩, ho1, ds, S1, f1, r1, t1⟩ := x.ok e1 hA hT
    obtain ⟨s, e2, k⟩ := bindL_mem e ho1
    obtain ⟨r, e3, rfl⟩ := Option.map_eq_some_iff.mp e2
    have h0 : ROut (.ct A T1) (.ct ρ S1) := ⟨hA, t1⟩
    have go : ∃ o' ∈ r, ∃ out', foldC tg.m b.m ds (.ct ρ S1) = some out' ∧ ROut o' out' := by
      cases q with
      | exs vs => exact loopE_ok e3 r1 (List.mem_singleton.mpr rfl) h0
      | sum n v => exact loopU_ok e3 r1.1 r1.2 (List.mem_singleton.mpr rfl) h0
    obtain ⟨o', m', out', f2, r2⟩ := go
    refine ⟨finA o', k _ (List.mem_map.mpr ⟨o', m', rfl⟩), finC out', ?_, fin_ok r2⟩
    rw [sFor_of f1, forGo_fold, f2]
    rfl
/-! ### what is walked -/
def xSeqI (x : SM) : SL where
  m := mSeq x.m
  a := fun A T => (x.a A T).bind fun l => bindL l fun p => match p.1 with
    | .d v => match lstOf v with
      | some q => some [(q, p.2)]
      | none => (tupOf v).map fun q => [(q, p.2)]
    | .c _ => none
  ok := fun {A T l} e {ρ S} hA hT => by
    obtain ⟨l1, e1, e⟩ := Option.bind_eq_some_iff.mp e
    obtain ⟨⟨v, T1⟩, ho1, x1, S1, f1, r1, t1⟩ := x.ok e1 hA hT
    obtain ⟨s, e2, k⟩ := bindL_mem e ho1
    cases v with
    | c i => cases e2
    | d w =>
      cases x1 with
      | c i => exact r1.elim
      | d y =>
        dsimp only at e2
        split at e2
        · rename_i q e3
          cases e2
          obtain ⟨xs, rfl, g⟩ := lstOf_ok e3 r1
          exact ⟨_, k _ (List.mem_singleton.mpr rfl), xs, S1, mSeq_list f1, g, t1⟩
        · obtain ⟨q, e4, rfl⟩ := Option.map_eq_some_iff.mp e2
          obtain ⟨xs, rfl, g⟩ := tupOf_ok e4 r1
          exact ⟨_, k _ (List.mem_singleton.mpr rfl), xs, S1, mSeq_tup f1, g, t1⟩
theorem rangeD_len (lo : Int) (n : Nat) : (rangeD lo n).length = n := by
  unfold rangeD
  simp
theorem rangeD_mem {lo : Int} {n : Nat} {y : PyData} (h : y ∈ rangeD lo n) : ∃ i, y = .int i ∧ lo ≤ i ∧ i < lo + n := by
  obtain ⟨i, hi, e⟩ := List.getElem_of_mem h
  have := rangeD_get (lo := lo) (n := n) (i := i) (d := y) (by rw [List.getElem?_eq_getElem hi, e])
  exact ⟨_, this.2, by omega, by have := this.1; omega⟩
def xRng1 (x : SM) : SL where
  m := mRng1 x.m
  a := fun A T => (x.a A T).bind fun l => bindL l fun p => match p.1 with
    | .d v => match v with
      | .ex (.int j) => if -1000000 ≤ j ∧ j ≤ 1000000 then some [(.exs ((rangeD 0 j.toNat).map .ex), p.2)] else none
      | v => (asInt v).bind fun q => if -1000000 ≤ q.1 ∧ q.2 ≤ 1000000 then some [(.sum q.2.toNat (.int 0 (q.2 - 1)), p.2)] else none
    | .c _ => none
  ok := fun {A T l} e {ρ S} hA hT => by
    obtain ⟨l1, e1, e⟩ := Option.bind_eq_some_iff.mp e
    obtain ⟨⟨v, T1⟩, ho1, x1, S1, f1, r1, t1⟩ := x.ok e1 hA hT
    obtain ⟨s, e2, k⟩ := bindL_mem e ho1
    cases v with
    | c i => cases e2
    | d w =>
      cases x1 with
      | c i => exact r1.elim
      | d y =>
        have go : ∀ {j : Int}, y = .int j → -1000000 ≤ j ∧ j ≤ 1000000 → mRng1 x.m ρ S = some (rangeD 0 j.toNat, S1) := fun {j} ey hj => by
          unfold mRng1
          rw [f1, ey]
          show (if -1000000 ≤ j ∧ j ≤ 1000000 then _ else none) = _
          rw [if_pos hj]
        dsimp only at e2
        split at e2
        · rename_i j
          split at e2
          · rename_i hj
            cases e2
            exact ⟨_, k _ (List.mem_singleton.mpr rfl), _, S1, go r1 hj, all_ex _, t1⟩
          · cases e2
        · obtain ⟨q, e3, e2⟩ := Option.bind_eq_some_iff.mp e2
          split at e2
          · rename_i hj
            cases e2
            obtain ⟨i, ey, h1, h2⟩ := asInt_ok (lo := q.1) (hi := q.2) e3 r1
            refine ⟨_, k _ (List.mem_singleton.mpr rfl), _, S1, go ey ⟨by omega, by omega⟩, ⟨by rw [rangeD_len]; omega, fun z hz => ?_⟩, t1⟩
            obtain ⟨m, rfl, a, b⟩ := rangeD_mem hz
            exact ⟨m, rfl, a, by omega⟩
          · cases e2
/-! ### functions from bodies -/
def startA (N : Nat) (vs : List APV) : AEnv := vs.map some ++ List.replicate (N - vs.length) none
theorem start_ok {N : Nat} {vs : List APV} {xs : List PV} (h : All2 RV vs xs) : REn (startA N vs) (xs.map some ++ List.replicate (N - xs.length) none) := by
  unfold startA
  rw [All2.len h]
  refine All2.app ?_ ?_
  · induction h with
    | nil => exact .nil
    | cons r t ih => exact .cons r ih
  · generalize N - xs.length = k
    induction k with
    | zero => exact .nil
    | succ k ih => exact .cons trivial ih
def endA (n : Nat) : AOut → Option (List (APV × ASto))
  | .rt v T => match v with
    | .d a => some [(.d a, T.take n)]
    | .c i => if i < n then some [(.c i, T.take n)] else match T[i]? with
      | some (.q s) => some [(.d (mkLst s), T.take n)]
      | _ => none
  | .rl q T => some [(.d (mkLst q), T.take n)]
  | .nx _ T => some [(.d (.ex .none), T.take n)]
  | _ => none
/-- outcomes that a function hands back, brought together -/
def addP (o : APV × ASto) : List (APV × ASto) → List (APV × ASto)
  | [] => [o]
  | p :: r => match (joinV p.1 o.1).bind fun v => (joinS p.2 o.2).map fun T => (v, T) with
    | some c => c :: r
    | none => p :: addP o r
def onePs : List (APV × ASto) → List (APV × ASto)
  | [] => []
  | o :: r => addP o (onePs r)
def RP (o : APV × ASto) (x : PV) (S : Sto) : Prop := RV o.1 x ∧ RSt o.2 S
theorem addP_new {o : APV × ASto} {x : PV} {S : Sto} (h : RP o x S) : ∀ l, ∃ o' ∈ addP o l, RP o' x S
  | [] => ⟨o, List.mem_singleton.mpr rfl, h⟩
  | p :: r => by
    unfold addP
    split
    · rename_i c e
      obtain ⟨v, e1, e⟩ := Option.bind_eq_some_iff.mp e
      obtain ⟨T, e2, rfl⟩ := Option.map_eq_some_iff.mp e
      exact ⟨_, List.mem_cons_self, joinV_r e1 h.1, joinS_r e2 h.2⟩
    · obtain ⟨o', m, q⟩ := addP_new h r
      exact ⟨o', List.mem_cons_of_mem _ m, q⟩
theorem addP_old {o p : APV × ASto} {x : PV} {S : Sto} (h : RP p x S) : ∀ {l}, p ∈ l → ∃ o' ∈ addP o l, RP o' x S
  | [], m => nomatch m
  | q :: r, m => by
    unfold addP
    rcases List.mem_cons.mp m with rfl | m
    · split
      · rename_i c e
        obtain ⟨v, e1, e⟩ := Option.bind_eq_some_iff.mp e
        obtain ⟨T, e2, rfl⟩ := Option.map_eq_some_iff.mp e
        exact ⟨_, List.mem_cons_self, joinV_l e1 h.1, joinS_l e2 h.2⟩
      · exact ⟨_, List.mem_cons_self, h⟩
    · split
      · exact ⟨p, List.mem_cons_of_mem _ m, h⟩
      · obtain ⟨o', m', q'⟩ := addP_old (o := o) h m
        exact ⟨o', List.mem_cons_of_mem _ m', q'⟩
theorem onePs_ok : ∀ {l} {o : APV × ASto} {x : PV} {S : Sto}, o ∈ l → RP o x S → ∃ o' ∈ onePs l, RP o' x S
  | [], _, _, _, h, _ => nomatch h
  | p :: r, o, x, S, h, q => by
    rcases List.mem_cons.mp h with rfl | h
    · exact addP_new q _
    · obtain ⟨o', m, q'⟩ := onePs_ok h q
      exact addP_old q' m
def endC (n : Nat) : Out → Option (PV × Sto)
  | .rt v S' => finV n v S'
  | .rl ds S' => some (.d (.list ds), S'.take n)
  | .nx _ S' => some (.d .none, S'.take n)
  | _ => none
theorem runF_end {N : Nat} {g : MS} {xs : List PV} {S : Sto} {o : Out} (h : g (xs.map some ++ List.replicate (N - xs.length) none) S = some o) : runF N g xs S = endC S.length o := by
  unfold runF
  rw [h]
  cases o <;> rfl
def xFun (one : Bool) (N : Nat) (b : SS) : SF where
  F := runF N b.m
  a := fun vs T => (b.a (startA N vs) T).bind fun l => (bindL l (endA T.length)).map fun r => if one = true then onePs r else r
  ok := fun {vs T l} e {xs S} hv hT => by
    obtain ⟨l1, e1, e⟩ := Option.bind_eq_some_iff.mp e
    obtain ⟨r, e2, rfl⟩ := Option.map_eq_some_iff.mp e
    obtain ⟨o, ho, out, f1, r1⟩ := b.ok e1 (start_ok (N := N) hv) hT
    obtain ⟨s, e3, k⟩ := bindL_mem e2 ho
    have hl : T.length = S.length := All2.len hT
    have main : ∃ o' ∈ r, ∃ x S', runF N b.m xs S = some (x, S') ∧ RP o' x S' := by
      have go : ∀ {x : PV} {S' : Sto}, endC S.length out = some (x, S') → runF N b.m xs S = some (x, S') := fun {x S'} q => (runF_end f1).trans q
      cases out with
      | nx ρ' S' =>
        cases o <;> first | (exact r1.elim) | skip
        cases e3
        exact ⟨_, k _ (List.mem_singleton.mpr rfl), _, _, go rfl, rfl, by rw [← hl]; exact All2.take _ r1.2⟩
      | bk ρ' S' => cases o <;> first | (exact r1.elim) | (cases e3)
      | ct ρ' S' => cases o <;> first | (exact r1.elim) | (cases e3)
      | rl ds S' =>
        cases o <;> first | (exact r1.elim) | skip
        cases e3
        exact ⟨_, k _ (List.mem_singleton.mpr rfl), _, _, go rfl, mkLst_ok r1.1, by rw [← hl]; exact All2.take _ r1.2⟩
      | rt v S' =>
        cases o <;> first | (exact r1.elim) | skip
        rename_i av T'
        obtain ⟨h1, h2⟩ := r1
        cases av with
        | d w =>
          cases v with
          | c i => exact h1.elim
          | d y =>
            cases e3
            exact ⟨_, k _ (List.mem_singleton.mpr rfl), _, _, go rfl, h1, by rw [← hl]; exact All2.take _ h2⟩
        | c i =>
          cases v with
          | d y => exact h1.elim
          | c j =>
            have ej : i = j := h1
            subst ej
            unfold endA at e3
            dsimp only at e3
            split at e3
            · rename_i hi
              cases e3
              refine ⟨_, k _ (List.mem_singleton.mpr rfl), .c i, S'.take S.length, go ?_, rfl, by rw [← hl]; exact All2.take _ h2⟩
              show (if i < S.length then _ else _) = _
              rw [if_pos (by rw [← hl]; exact hi)]
            · rename_i hi
              split at e3
              · rename_i sq e4
                cases e3
                obtain ⟨ds, e5, g5⟩ := stQ h2 e4
                refine ⟨_, k _ (List.mem_singleton.mpr rfl), .d (.list ds), S'.take S.length, go ?_, mkLst_ok g5, by rw [← hl]; exact All2.take _ h2⟩
                show (if i < S.length then _ else _) = _
                rw [if_neg (by rw [← hl]; exact hi), lAt_some.mpr e5]
                rfl
              · cases e3
    obtain ⟨o', m', x, S', f2, r2⟩ := main
    cases one with
    | false => exact ⟨o', m', x, S', f2, r2.1, r2.2⟩
    | true =>
      obtain ⟨o3, m3, r3⟩ := onePs_ok m' r2
      exact ⟨o3, m3, x, S', f2, r3.1, r3.2⟩
end
end DN

namespace DN
open PySem PySem.Spec PyProof.Rows L2 DL
/-! ### operators over data -/
def mkOp (f : PV → PV → Sto → Option PV) (cel : ∀ {x y : PV} {S : Sto} {dx dy : PyData}, asD S x = some dx → asD S y = some dy → f x y S = f (.d dx) (.d dy) S) (dat : ∀ x y S, f (.d x) (.d y) S = f (.d x) (.d y) []) (t : AV → AV → Option AV)
    (ok : ∀ {a b c : AV} {x y : PyData} {S : Sto}, t a b = some c → γ a x → γ b y → ∃ z, f (.d x) (.d y) S = some (.d z) ∧ γ c z) : Op2 f where
  t := fun a b => match a, b with
    | .ex x, .ex y => match f (.d x) (.d y) [] with
      | some (.d z) => some (.ex z)
      | _ => none
    | a, b => t a b
  cel := cel
  ok := fun {a b c x y S} e ga gb => by
    split at e
    · rename_i u v
      rw [show x = u from ga, show y = v from gb]
      split at e
      · rename_i z h
        cases e
        exact ⟨z, by rw [dat]; exact h, rfl⟩
      · cases e
    · exact ok e ga gb
theorem asD_d {S : Sto} {x dx : PyData} (h : asD S (.d x) = some dx) : x = dx := Option.some.inj h
theorem asD_c {S : Sto} {i : Nat} {dx : PyData} (h : asD S (.c i) = some dx) : ∃ l, lAt S i = some l ∧ dx = .list l := by
  obtain ⟨l, e, r⟩ := Option.map_eq_some_iff.mp h
  exact ⟨l, e, r.symm⟩
theorem cel_I0 {g : Int → Int → PyData} {x y : PV} {S : Sto} {dx dy : PyData} (h1 : asD S x = some dx) (h2 : asD S y = some dy) : fI0 g x y S = fI0 g (.d dx) (.d dy) S := by
  cases x with
  | d u =>
    rw [asD_d h1]
    cases y with
    | d v => rw [asD_d h2]
    | c j =>
      obtain ⟨l, _, rfl⟩ := asD_c h2
      cases dx <;> rfl
  | c i =>
    obtain ⟨l, _, rfl⟩ := asD_c h1
    cases y <;> rfl
theorem cel_Ic {c : Int → Int → Bool} {g : Int → Int → PyData} {x y : PV} {S : Sto} {dx dy : PyData} (h1 : asD S x = some dx) (h2 : asD S y = some dy) : fIc c g x y S = fIc c g (.d dx) (.d dy) S := by
  cases x with
  | d u =>
    rw [asD_d h1]
    cases y with
    | d v => rw [asD_d h2]
    | c j =>
      obtain ⟨l, _, rfl⟩ := asD_c h2
      cases dx <;> rfl
  | c i =>
    obtain ⟨l, _, rfl⟩ := asD_c h1
    cases y <;> rfl
theorem dat_I0 {g : Int → Int → PyData} (x y : PyData) (S : Sto) : fI0 g (.d x) (.d y) S = fI0 g (.d x) (.d y) [] := rfl
theorem dat_Ic {c : Int → Int → Bool} {g : Int → Int → PyData} (x y : PyData) (S : Sto) : fIc c g (.d x) (.d y) S = fIc c g (.d x) (.d y) [] := rfl
/-- of two ints -/
def tI (h : Int × Int → Int × Int → Option AV) (a b : AV) : Option AV := match asInt a, asInt b with
  | some p, some q => h p q
  | _, _ => none
theorem tI_ok {h : Int × Int → Int × Int → Option AV} {a b c : AV} {x y : PyData} (e : tI h a b = some c) (ga : γ a x) (gb : γ b y) : ∃ p q i j, h p q = some c ∧ x = .int i ∧ y = .int j ∧ p.1 ≤ i ∧ i ≤ p.2 ∧ q.1 ≤ j ∧ j ≤ q.2 := by
  unfold tI at e
  split at e
  · rename_i p q e1 e2
    obtain ⟨i, rfl, a1, a2⟩ := asInt_ok (lo := p.1) (hi := p.2) e1 ga
    obtain ⟨j, rfl, b1, b2⟩ := asInt_ok (lo := q.1) (hi := q.2) e2 gb
    exact ⟨p, q, i, j, e, rfl, rfl, a1, a2, b1, b2⟩
  · cases e
def oSub : Op2 fSub := mkOp fSub cel_I0 dat_I0 (tI fun p q => some (.int (p.1 - q.2) (p.2 - q.1))) fun {a b c x y S} e ga gb => by
  obtain ⟨p, q, i, j, h, rfl, rfl, a1, a2, b1, b2⟩ := tI_ok e ga gb
  cases h
  exact ⟨_, rfl, i - j, rfl, by omega, by omega⟩
def cmpT (lt : Int × Int → Int × Int → Bool) (ge : Int × Int → Int × Int → Bool) (p q : Int × Int) : Option AV := some (if lt p q = true then .ex (.bool true) else if ge p q = true then .ex (.bool false) else .bool)
theorem cmpT_ok {lt ge : Int × Int → Int × Int → Bool} {p q : Int × Int} {c : AV} {b : Bool} (e : cmpT lt ge p q = some c) (h1 : lt p q = true → b = true) (h2 : ge p q = true → b = false) : γ c (.bool b) := by
  unfold cmpT at e
  have e := Option.some.inj e
  subst e
  split
  · rename_i h
    rw [h1 h]; rfl
  · split
    · rename_i h
      rw [h2 h]; rfl
    · exact ⟨b, rfl⟩
def oLt : Op2 fLt := mkOp fLt cel_I0 dat_I0 (tI (cmpT (fun p q => decide (p.2 < q.1)) fun p q => decide (q.2 ≤ p.1))) fun {a b c x y S} e ga gb => by
  obtain ⟨p, q, i, j, h, rfl, rfl, a1, a2, b1, b2⟩ := tI_ok e ga gb
  exact ⟨_, rfl, cmpT_ok h (fun h => by rw [decide_eq_true_eq] at h ⊢; omega) (fun h => by rw [decide_eq_true_eq] at h; rw [decide_eq_false_iff_not]; omega)⟩
def oLe : Op2 fLe := mkOp fLe cel_I0 dat_I0 (tI (cmpT (fun p q => decide (p.2 ≤ q.1)) fun p q => decide (q.2 < p.1))) fun {a b c x y S} e ga gb => by
  obtain ⟨p, q, i, j, h, rfl, rfl, a1, a2, b1, b2⟩ := tI_ok e ga gb
  exact ⟨_, rfl, cmpT_ok h (fun h => by rw [decide_eq_true_eq] at h ⊢; omega) (fun h => by rw [decide_eq_true_eq] at h; rw [decide_eq_false_iff_not]; omega)⟩
def oGt : Op2 fGt := mkOp fGt cel_I0 dat_I0 (tI (cmpT (fun p q => decide (q.2 < p.1)) fun p q => decide (p.2 ≤ q.1))) fun {a b c x y S} e ga gb => by
  obtain ⟨p, q, i, j, h, rfl, rfl, a1, a2, b1, b2⟩ := tI_ok e ga gb
  exact ⟨_, rfl, cmpT_ok h (fun h => by rw [decide_eq_true_eq] at h ⊢; omega) (fun h => by rw [decide_eq_true_eq] at h; rw [decide_eq_false_iff_not]; omega)⟩
def oGe : Op2 fGe := mkOp fGe cel_I0 dat_I0 (tI (cmpT (fun p q => decide (q.2 ≤ p.1)) fun p q => decide (p.2 < q.1))) fun {a b c x y S} e ga gb => by
  obtain ⟨p, q, i, j, h, rfl, rfl, a1, a2, b1, b2⟩ := tI_ok e ga gb
  exact ⟨_, rfl, cmpT_ok h (fun h => by rw [decide_eq_true_eq] at h ⊢; omega) (fun h => by rw [decide_eq_true_eq] at h; rw [decide_eq_false_iff_not]; omega)⟩
theorem cel_eq {x y : PV} {S : Sto} {dx dy : PyData} (h1 : asD S x = some dx) (h2 : asD S y = some dy) : fEq x y S = fEq (.d dx) (.d dy) S := by
  unfold fEq
  rw [h1, h2]
  rfl
theorem cel_ne {x y : PV} {S : Sto} {dx dy : PyData} (h1 : asD S x = some dx) (h2 : asD S y = some dy) : fNe x y S = fNe (.d dx) (.d dy) S := by
  unfold fNe
  rw [h1, h2]
  rfl
def repEq (b : Bool) (t : AV → AV → Option AV) (u v : AV) : Option AV := match u, v with
  | .rep x, .rep y => if sameD x y = true then some (.ex (.bool b)) else none
  | u, v => t u v
theorem repEq_ok {b : Bool} {t : AV → AV → Option AV} {u v c : AV} {x y : PyData} (e : repEq b t u v = some c) (ga : γ u x) (gb : γ v y) : (∃ s, x = .str s ∧ y = .str s ∧ PyData.strOk s = true ∧ c = .ex (.bool b)) ∨ t u v = some c := by
  unfold repEq at e
  split at e
  · rename_i d1 d2
    split at e
    · rename_i q
      cases e
      have := sameD_eq q
      subst this
      exact .inl ⟨_, ga.1, gb.1, ga.2, rfl⟩
    · cases e
  · exact .inr e
theorem eqv_self (s : Str) : PyData.eqv (.str s) (.str s) = true := by
  show (s == s) = true
  exact beq_self_eq_true s
def oEq : Op2 fEq := mkOp fEq cel_eq (fun _ _ _ => rfl) (repEq true (tI (cmpT (fun p q => decide (p.1 = p.2 ∧ q.1 = q.2 ∧ p.1 = q.1)) fun p q => decide (p.2 < q.1 ∨ q.2 < p.1)))) fun {a b c x y S} e ga gb => by
  rcases repEq_ok e ga gb with ⟨s, rfl, rfl, hs, rfl⟩ | e
  · refine ⟨.bool true, ?_, rfl⟩
    show (if (SeqAt.shaped (.str s) && SeqAt.shaped (.str s)) = true then some (PV.d (.bool (PyData.eqv (.str s) (.str s)))) else none) = _
    rw [shaped_str hs, eqv_self]
    rfl
  obtain ⟨p, q, i, j, h, rfl, rfl, a1, a2, b1, b2⟩ := tI_ok e ga gb
  exact ⟨_, fEq_int i j S, cmpT_ok h (fun h => by rw [decide_eq_true_eq] at h; rw [beq_iff_eq]; omega) (fun h => by rw [decide_eq_true_eq] at h; rw [beq_eq_false_iff_ne]; omega)⟩
def oNe : Op2 fNe := mkOp fNe cel_ne (fun _ _ _ => rfl) (repEq false (tI (cmpT (fun p q => decide (p.2 < q.1 ∨ q.2 < p.1)) fun p q => decide (p.1 = p.2 ∧ q.1 = q.2 ∧ p.1 = q.1)))) fun {a b c x y S} e ga gb => by
  rcases repEq_ok e ga gb with ⟨s, rfl, rfl, hs, rfl⟩ | e
  · refine ⟨.bool false, ?_, rfl⟩
    show (if (SeqAt.shaped (.str s) && SeqAt.shaped (.str s)) = true then some (PV.d (.bool (!PyData.eqv (.str s) (.str s)))) else none) = _
    rw [shaped_str hs, eqv_self]
    rfl
  obtain ⟨p, q, i, j, h, rfl, rfl, a1, a2, b1, b2⟩ := tI_ok e ga gb
  refine ⟨_, fNe_int i j S, cmpT_ok h (fun h => ?_) (fun h => ?_)⟩
  · rw [decide_eq_true_eq] at h
    rw [Bool.not_eq_true', beq_eq_false_iff_ne]; omega
  · rw [decide_eq_true_eq] at h
    have : i = j := by omega
    rw [this]
    simp
theorem cel_add {x y : PV} {S : Sto} {dx dy : PyData} (h1 : asD S x = some dx) (h2 : asD S y = some dy) : fAdd x y S = fAdd (.d dx) (.d dy) S := by
  have cat : fCatL x y S = fCatL (.d dx) (.d dy) S := by
    unfold fCatL
    rw [h1, h2]
    rfl
  cases x with
  | d u =>
    have := asD_d h1
    subst this
    cases y with
    | d v => rw [asD_d h2]
    | c j =>
      obtain ⟨l, _, rfl⟩ := asD_c h2
      have fin : ∀ z : PyData, z = u → (fCatL (.d z) (.c j) S).map (fun l => PV.d (.list l)) = (fCatL (.d z) (.d (.list l)) S).map (fun l => PV.d (.list l)) := fun z ez => by rw [ez, cat]
      cases u <;> exact fin _ rfl
  | c i =>
    obtain ⟨l, _, rfl⟩ := asD_c h1
    have e0 : fAdd (.c i) y S = (fCatL (.c i) y S).map (fun l => PV.d (.list l)) := by cases y <;> rfl
    rw [e0, cat]
    cases dy <;> rfl
def tAdd (a b : AV) : Option AV := match asInt a, asInt b with
  | some p, some q => some (.int (p.1 + q.1) (p.2 + q.2))
  | _, _ => match tupOf a, tupOf b with
    | some p, some q => if (sumOf join p).1 + (sumOf join q).1 ≤ 1000000 then some (mkTup (appQ join p q)) else none
    | _, _ => match lstOf a, lstOf b with
      | some p, some q => if (sumOf join p).1 + (sumOf join q).1 ≤ 1000000 then some (mkLst (appQ join p q)) else none
      | _, _ => none
def oAdd : Op2 fAdd := mkOp fAdd cel_add (fun x y S => by cases x <;> cases y <;> rfl) tAdd fun {a b c x y S} e ga gb => by
  unfold tAdd at e
  split at e
  · rename_i p q e1 e2
    cases e
    obtain ⟨i, rfl, a1, a2⟩ := asInt_ok (lo := p.1) (hi := p.2) e1 ga
    obtain ⟨j, rfl, b1, b2⟩ := asInt_ok (lo := q.1) (hi := q.2) e2 gb
    exact ⟨_, rfl, i + j, rfl, by omega, by omega⟩
  · split at e
    · rename_i p q e1 e2
      split at e
      · rename_i hz
        cases e
        obtain ⟨xs, rfl, g1⟩ := tupOf_ok e1 ga
        obtain ⟨ys, rfl, g2⟩ := tupOf_ok e2 gb
        have hl : xs.length + ys.length ≤ 1000000 := Nat.le_trans (Nat.add_le_add (sumOf_up join_up g1).1 (sumOf_up join_up g2).1) hz
        refine ⟨.tuple (xs ++ ys), ?_, mkTup_ok (appQ_up join_up g1 g2)⟩
        show (if xs.length + ys.length ≤ 1000000 then _ else none) = _
        rw [if_pos hl]
      · cases e
    · split at e
      · rename_i p q e1 e2
        split at e
        · rename_i hz
          cases e
          obtain ⟨xs, rfl, g1⟩ := lstOf_ok e1 ga
          obtain ⟨ys, rfl, g2⟩ := lstOf_ok e2 gb
          have hl : xs.length + ys.length ≤ 1000000 := Nat.le_trans (Nat.add_le_add (sumOf_up join_up g1).1 (sumOf_up join_up g2).1) hz
          refine ⟨.list (xs ++ ys), ?_, mkLst_ok (appQ_up join_up g1 g2)⟩
          show (if xs.length + ys.length ≤ 1000000 then some (xs ++ ys) else none).map _ = _
          rw [if_pos hl]
          rfl
        · cases e
      · cases e
def oCat : OpL2 fCatL where
  t := fun a b => match lstOf a, lstOf b with
    | some p, some q => if (sumOf join p).1 + (sumOf join q).1 ≤ 1000000 then some (appQ join p q) else none
    | _, _ => none
  cel := fun {x y S dx dy} h1 h2 => by
    unfold fCatL
    rw [h1, h2]
    rfl
  ok := fun {a b c x y S} e ga gb => by
    split at e
    · rename_i p q e1 e2
      split at e
      · rename_i hz
        cases e
        obtain ⟨xs, rfl, g1⟩ := lstOf_ok e1 ga
        obtain ⟨ys, rfl, g2⟩ := lstOf_ok e2 gb
        have hl : xs.length + ys.length ≤ 1000000 := Nat.le_trans (Nat.add_le_add (sumOf_up join_up g1).1 (sumOf_up join_up g2).1) hz
        refine ⟨xs ++ ys, ?_, appQ_up join_up g1 g2⟩
        show (if xs.length + ys.length ≤ 1000000 then some (xs ++ ys) else none) = _
        rw [if_pos hl]
      · cases e
    · cases e
def oMul : Op2 fMul := mkOp fMul cel_Ic dat_Ic (tI fun p q => if 0 ≤ p.1 ∧ 0 ≤ q.1 ∧ p.2 < 2 ^ 64 then some (.int (p.1 * q.1) (p.2 * q.2)) else none) fun {a b c x y S} e ga gb => by
  obtain ⟨p, q, i, j, h, rfl, rfl, a1, a2, b1, b2⟩ := tI_ok e ga gb
  split at h
  · rename_i hz
    cases h
    have m : mulOk i j = true := by
      unfold mulOk
      rw [decide_eq_true (show -(2 ^ 64) < i by omega), decide_eq_true (show i < 2 ^ 64 by omega)]
      rfl
    refine ⟨.int (i * j), ?_, i * j, rfl, Int.mul_le_mul a1 b1 hz.2.1 (by omega), Int.mul_le_mul a2 b2 (by omega) (by omega)⟩
    show (if mulOk i j = true then _ else none) = _
    rw [if_pos m]
  · cases h
def oMod : Op2 fMod := mkOp fMod cel_Ic dat_Ic (tI fun p q => if 0 < q.1 then some (.int 0 (q.2 - 1)) else none) fun {a b c x y S} e ga gb => by
  obtain ⟨p, q, i, j, h, rfl, rfl, a1, a2, b1, b2⟩ := tI_ok e ga gb
  split at h
  · rename_i hz
    cases h
    have hj : 0 < j := by omega
    refine ⟨.int (i.fmod j), ?_, i.fmod j, rfl, Int.fmod_nonneg_of_pos _ hj, ?_⟩
    · show (if modOk i j = true then _ else none) = _
      rw [if_pos (by unfold modOk; rw [decide_eq_false (by omega)]; rfl)]
    · have := Int.fmod_lt_of_pos i hj
      omega
  · cases h
def oDiv : Op2 fDiv := mkOp fDiv cel_Ic dat_Ic (fun _ _ => none) fun e _ _ => by cases e
def oPow : Op2 fPow := mkOp fPow cel_Ic dat_Ic (fun _ _ => none) fun e _ _ => by cases e
theorem cel_ix {x y : PV} {S : Sto} {dx dy : PyData} (h1 : asD S x = some dx) (h2 : asD S y = some dy) : fIx x y S = fIx (.d dx) (.d dy) S := by
  cases y with
  | d v =>
    have := asD_d h2
    subst this
    cases x with
    | d u => rw [asD_d h1]
    | c i =>
      obtain ⟨l, e, rfl⟩ := asD_c h1
      cases v with
      | int j =>
        show (itemsOf S (.c i)).bind _ = _
        show (lAt S i).bind _ = _
        rw [e]
        rfl
      | _ => rfl
  | c j =>
    obtain ⟨l, e, rfl⟩ := asD_c h2
    rfl
def pick (vs : List AV) (p : Int × Int) : Option AV := if p.1 = p.2 then (atI vs p.1) else if 0 ≤ p.1 ∧ p.2 < vs.length ∧ p.1 ≤ p.2 then some (joinAll join ((vs.drop p.1.toNat).take (p.2 - p.1 + 1).toNat)) else none
theorem all_at {vs : List AV} {xs : List PyData} {i : Int} {v : AV} (h : All2 γ vs xs) (e : atI vs i = some v) : ∃ x, atI xs i = some x ∧ γ v x := by
  unfold atI at e ⊢
  obtain ⟨j, e1, e2⟩ := Option.bind_eq_some_iff.mp e
  obtain ⟨x, e3, g⟩ := h.get e2
  exact ⟨x, by rw [← h.len, e1]; exact e3, g⟩
theorem pick_ok {vs : List AV} {xs : List PyData} {p : Int × Int} {c : AV} {i : Int} (h : All2 γ vs xs) (e : pick vs p = some c) (a : p.1 ≤ i) (b : i ≤ p.2) : ∃ x, atI xs i = some x ∧ γ c x := by
  unfold pick at e
  split at e
  · have : i = p.1 := by omega
    rw [this]
    exact all_at h e
  · split at e
    · rename_i hz
      have e := Option.some.inj e
      subst e
      have hl := h.len
      have hi : i.toNat < xs.length := by omega
      obtain ⟨x, hx, ex⟩ := atI_mem (xs := xs) (r := i) (by omega) (by omega)
      refine ⟨x, ex, ?_⟩
      have hx' : xs[i.toNat]? = some x := by
        unfold atI ixN at ex
        rw [if_pos (show 0 ≤ i by omega), if_pos (show i < xs.length by omega)] at ex
        exact ex
      have hv : i.toNat < vs.length := by omega
      obtain ⟨y, ey, gy⟩ := h.get (List.getElem?_eq_getElem hv)
      rw [hx'] at ey
      cases ey
      refine joinAll_up join_up ?_ gy
      refine List.mem_of_getElem? (i := i.toNat - p.1.toNat) ?_
      rw [List.getElem?_take_of_lt (by omega), List.getElem?_drop, show p.1.toNat + (i.toNat - p.1.toNat) = i.toNat by omega]
      exact List.getElem?_eq_getElem hv
    · cases e
def tIx (a b : AV) : Option AV := (asInt b).bind fun p => match lstOf a with
  | some (.exs vs) => pick vs p
  | _ => match tupOf a with
    | some (.exs vs) => pick vs p
    | _ => none
def oIx : Op2 fIx := mkOp fIx cel_ix (fun x y S => by cases y <;> cases x <;> rfl) tIx fun {a b c x y S} e ga gb => by
  obtain ⟨p, e1, e⟩ := Option.bind_eq_some_iff.mp e
  obtain ⟨i, rfl, a1, a2⟩ := asInt_ok (lo := p.1) (hi := p.2) e1 gb
  split at e
  · rename_i vs e2
    obtain ⟨xs, rfl, g⟩ := lstOf_ok e2 ga
    obtain ⟨z, f, h⟩ := pick_ok g e a1 a2
    refine ⟨z, ?_, h⟩
    show (atI xs i).map _ = _
    rw [f]
    rfl
  · split at e
    · rename_i vs e2
      obtain ⟨xs, rfl, g⟩ := tupOf_ok e2 ga
      obtain ⟨z, f, h⟩ := pick_ok g e a1 a2
      refine ⟨z, ?_, h⟩
      show (atI xs i).map _ = _
      rw [f]
      rfl
    · cases e
theorem cel_rep {x y : PV} {S : Sto} {dx dy : PyData} (h1 : asD S x = some dx) (h2 : asD S y = some dy) : fRepT x y S = fRepT (.d dx) (.d dy) S := by
  cases x with
  | d u =>
    rw [asD_d h1]
    cases y with
    | d v => rw [asD_d h2]
    | c j =>
      obtain ⟨l, _, rfl⟩ := asD_c h2
      cases dx <;> rfl
  | c i =>
    obtain ⟨l, _, rfl⟩ := asD_c h1
    cases y <;> rfl
def oRepT : Op2 fRepT := mkOp fRepT cel_rep (fun x y S => by cases x <;> cases y <;> rfl) (fun _ _ => none) fun e _ _ => by cases e
end DN

namespace DN
open PySem PySem.Spec PyProof.Rows L2 DL
/-! ### calls -/
theorem asDs_one {S : Sto} {xs : List PV} {d : PyData} (h : asDs S xs = some [d]) : ∃ x, xs = [x] ∧ asD S x = some d := by
  match xs with
  | [] => cases h
  | [x] =>
    obtain ⟨e, h1, h⟩ := Option.bind_eq_some_iff.mp h
    cases h
    exact ⟨x, rfl, h1⟩
  | x :: y :: r =>
    obtain ⟨e, h1, h⟩ := Option.bind_eq_some_iff.mp h
    obtain ⟨l, h2, h⟩ := Option.map_eq_some_iff.mp h
    obtain ⟨f, h3, h2⟩ := Option.bind_eq_some_iff.mp h2
    obtain ⟨l2, h4, h2⟩ := Option.map_eq_some_iff.mp h2
    subst h2
    cases h
theorem asDs_len {S : Sto} : ∀ {xs : List PV} {ds : List PyData}, asDs S xs = some ds → xs.length = ds.length
  | [], ds, h => by cases h; rfl
  | x :: r, ds, h => by
    obtain ⟨e, h1, h⟩ := Option.bind_eq_some_iff.mp h
    obtain ⟨l, h2, h⟩ := Option.map_eq_some_iff.mp h
    subst h
    rw [List.length_cons, List.length_cons, asDs_len h2]
theorem items_asD {S : Sto} {x : PV} {d : PyData} (h : asD S x = some d) : itemsOf S x = itemsOf S (.d d) := by
  cases x with
  | d u => rw [asD_d h]
  | c i =>
    obtain ⟨l, e, rfl⟩ := asD_c h
    exact e
def seqOf (v : AV) : Option Sq := match lstOf v with
  | some q => some q
  | none => tupOf v
theorem seqOf_ok {v : AV} {q : Sq} {x : PyData} (h : seqOf v = some q) (g : γ v x) : ∃ xs, (x = .list xs ∨ x = .tuple xs) ∧ γq q xs := by
  unfold seqOf at h
  split at h
  · rename_i p e
    cases h
    obtain ⟨xs, rfl, r⟩ := lstOf_ok e g
    exact ⟨xs, .inl rfl, r⟩
  · obtain ⟨xs, rfl, r⟩ := tupOf_ok h g
    exact ⟨xs, .inr rfl, r⟩
/-- a call of one argument, read as a datum -/
def call1 (f : List PV → Sto → Option PV) (h1 : ∀ {x : PV} {S : Sto} {d : PyData}, asD S x = some d → f [x] S = f [.d d] S) (h2 : ∀ {xs : List PV} {S : Sto}, xs.length ≠ 1 → f xs S = none) (dat : ∀ d S, f [.d d] S = f [.d d] []) (t : AV → Option AV)
    (ok : ∀ {a c : AV} {x : PyData} {S : Sto}, t a = some c → γ a x → ∃ z, f [.d x] S = some (.d z) ∧ γ c z) : CallT f where
  t := fun as => match as with
    | [.ex d] => match f [.d d] [] with
      | some (.d z) => some (.ex z)
      | _ => none
    | [a] => t a
    | _ => none
  cel := fun {xs S ds} h => by
    by_cases hl : ds.length = 1
    · obtain ⟨d, rfl⟩ := List.length_eq_one_iff.mp hl
      obtain ⟨x, rfl, e⟩ := asDs_one h
      exact h1 e
    · rw [h2 (by rw [asDs_len h]; exact hl), h2 (by rw [List.length_map]; exact hl)]
  ok := fun {as c xs S} e g => by
    split at e
    · rename_i d
      cases g with
      | cons r t =>
        cases t
        split at e
        · rename_i z q
          cases e
          rw [show _ = d from r]
          exact ⟨z, by show f [.d d] S = _; rw [dat]; exact q, rfl⟩
        · cases e
    · cases g with
      | cons r t =>
        cases t
        exact ok e r
    · cases e
def kLen : CallT cLen := call1 cLen (fun {x S d} h => by show (match asD S x with | _ => _) = _; rw [show cLen [x] S = (match asD S x with | some (.list xs) => some (PV.d (.int xs.length)) | some (.tuple xs) => some (PV.d (.int xs.length)) | some (.str z) => if z.length ≤ 1000000 then some (PV.d (.int z.length)) else none | _ => none) from rfl, h]; rfl) (fun {xs S} h => by
    match xs with
    | [] => rfl
    | [_] => exact absurd rfl h
    | _ :: _ :: _ => rfl) (fun _ _ => rfl) (fun a => (seqOf a).map fun q => match q with
    | .exs vs => .ex (.int vs.length)
    | .sum n _ => .int 0 n) fun {a c x S} e g => by
  obtain ⟨q, e1, rfl⟩ := Option.map_eq_some_iff.mp e
  obtain ⟨xs, ex, r⟩ := seqOf_ok e1 g
  refine ⟨.int xs.length, by rcases ex with rfl | rfl <;> rfl, ?_⟩
  cases q with
  | exs vs => rw [← All2.len r]; rfl
  | sum n v => exact ⟨_, rfl, by omega, by have := r.1; omega⟩
def kTuple : CallT cTuple := call1 cTuple (fun {x S d} h => by show (itemsOf S x).map _ = (itemsOf S (.d d)).map _; rw [items_asD h]) (fun {xs S} h => by
    match xs with
    | [] => rfl
    | [_] => exact absurd rfl h
    | _ :: _ :: _ => rfl) (fun d S => by cases d <;> rfl) (fun a => (seqOf a).map mkTup) fun {a c x S} e g => by
  obtain ⟨q, e1, rfl⟩ := Option.map_eq_some_iff.mp e
  obtain ⟨xs, ex, r⟩ := seqOf_ok e1 g
  exact ⟨.tuple xs, by rcases ex with rfl | rfl <;> rfl, mkTup_ok r⟩
def kInt : CallT cInt := call1 cInt (fun {x S d} h => by
    cases x with
    | d u => rw [asD_d h]
    | c i => obtain ⟨l, e, rfl⟩ := asD_c h; rfl) (fun {xs S} h => by
    match xs with
    | [] => rfl
    | [_] => exact absurd rfl h
    | _ :: _ :: _ => simp [cInt]) (fun d S => by cases d <;> rfl) (fun a => if asBool a = true then some (.int 0 1) else (asInt a).map fun p => .int p.1 p.2) fun {a c x S} e g => by
  split at e
  · rename_i h
    cases e
    obtain ⟨b, rfl⟩ := asBool_ok h g
    exact ⟨_, rfl, _, rfl, by cases b <;> decide, by cases b <;> decide⟩
  · obtain ⟨p, e1, rfl⟩ := Option.map_eq_some_iff.mp e
    obtain ⟨i, rfl, a1, a2⟩ := asInt_ok (lo := p.1) (hi := p.2) e1 g
    exact ⟨_, rfl, i, rfl, a1, a2⟩
def kList : CallLT cList where
  t := fun as => match as with
    | [a] => seqOf a
    | _ => none
  cel := fun {xs S ds} h => by
    match ds with
    | [] =>
      have := asDs_len h
      have : xs = [] := List.eq_nil_of_length_eq_zero this
      subst this
      rfl
    | [d] =>
      obtain ⟨x, rfl, e⟩ := asDs_one h
      exact items_asD e
    | d :: e :: r =>
      have := asDs_len h
      match xs with
      | [] => cases this
      | [_] => simp at this
      | _ :: _ :: _ => rfl
  ok := fun {as c xs S} e g => by
    split at e
    · cases g with
      | cons r t =>
        cases t
        obtain ⟨xs, ex, r⟩ := seqOf_ok e r
        exact ⟨xs, by rcases ex with rfl | rfl <;> rfl, r⟩
    · cases e
theorem asDs_two {S : Sto} {xs : List PV} {a b : PyData} (h : asDs S xs = some [a, b]) : ∃ x y, xs = [x, y] ∧ asD S x = some a ∧ asD S y = some b := by
  match xs with
  | [] => cases h
  | x :: r =>
    obtain ⟨e, h1, h⟩ := Option.bind_eq_some_iff.mp h
    obtain ⟨l, h2, h⟩ := Option.map_eq_some_iff.mp h
    cases h
    obtain ⟨y, rfl, h3⟩ := asDs_one h2
    exact ⟨x, y, rfl, h1, h3⟩
def call2I (f : List PV → Sto → Option PV) (g : Int → Int → Int) (hf : ∀ {x y : PyData} {S : Sto}, f [.d x, .d y] S = match x, y with | .int i, .int j => some (.d (.int (g i j))) | _, _ => none) (h1 : ∀ {x y : PV} {S : Sto} {a b : PyData}, asD S x = some a → asD S y = some b → f [x, y] S = f [.d a, .d b] S) (h2 : ∀ {xs : List PV} {S : Sto}, xs.length ≠ 2 → f xs S = none)
    (iv : Int × Int → Int × Int → Int × Int) (hv : ∀ p q i j, p.1 ≤ i → i ≤ p.2 → q.1 ≤ j → j ≤ q.2 → (iv p q).1 ≤ g i j ∧ g i j ≤ (iv p q).2) : CallT f where
  t := fun as => match as with
    | [a, b] => (asInt a).bind fun p => (asInt b).map fun q => if p.1 = p.2 ∧ q.1 = q.2 then .ex (.int (g p.1 q.1)) else .int (iv p q).1 (iv p q).2
    | _ => none
  cel := fun {xs S ds} h => by
    by_cases hl : ds.length = 2
    · match ds, hl with
      | [a, b], _ =>
        obtain ⟨x, y, rfl, e1, e2⟩ := asDs_two h
        exact h1 e1 e2
    · rw [h2 (by rw [asDs_len h]; exact hl), h2 (by rw [List.length_map]; exact hl)]
  ok := fun {as c xs S} e g => by
    split at e
    · rename_i a b
      cases g with
      | cons r t => cases t with
        | cons r2 t2 =>
          cases t2
          obtain ⟨p, e1, e⟩ := Option.bind_eq_some_iff.mp e
          obtain ⟨q, e2, rfl⟩ := Option.map_eq_some_iff.mp e
          obtain ⟨i, rfl, a1, a2⟩ := asInt_ok (lo := p.1) (hi := p.2) e1 r
          obtain ⟨j, rfl, b1, b2⟩ := asInt_ok (lo := q.1) (hi := q.2) e2 r2
          refine ⟨.int (g i j), hf, ?_⟩
          split
          · rename_i hz
            have : i = p.1 := by omega
            have : j = q.1 := by omega
            subst i j
            rfl
          · obtain ⟨z1, z2⟩ := hv p q i j a1 a2 b1 b2
            exact ⟨_, rfl, z1, z2⟩
    · cases e
theorem cc2 {f : List PV → Sto → Option PV} (hd : ∀ {x y : PyData} {S : Sto}, f [.d x, .d y] S = f [.d x, .d y] S) : True := trivial
def kMax : CallT cMax := call2I cMax (fun i j => if j > i then j else i) (fun {x y S} => by cases x <;> cases y <;> rfl) (fun {x y S a b} h1 h2 => by
    cases x with
    | d u =>
      rw [asD_d h1]
      cases y with
      | d v => rw [asD_d h2]
      | c j => obtain ⟨l, _, rfl⟩ := asD_c h2; cases a <;> rfl
    | c i => obtain ⟨l, _, rfl⟩ := asD_c h1; cases y <;> rfl) (fun {xs S} h => by
    match xs with
    | [] => rfl
    | [_] => simp [cMax]
    | [_, _] => exact absurd rfl h
    | _ :: _ :: _ :: _ => simp [cMax]) (fun p q => (max p.1 q.1, max p.2 q.2)) fun p q i j a b c d => by
  dsimp only
  split <;> omega
def kMin : CallT cMin := call2I cMin (fun i j => if j < i then j else i) (fun {x y S} => by cases x <;> cases y <;> rfl) (fun {x y S a b} h1 h2 => by
    cases x with
    | d u =>
      rw [asD_d h1]
      cases y with
      | d v => rw [asD_d h2]
      | c j => obtain ⟨l, _, rfl⟩ := asD_c h2; cases a <;> rfl
    | c i => obtain ⟨l, _, rfl⟩ := asD_c h1; cases y <;> rfl) (fun {xs S} h => by
    match xs with
    | [] => rfl
    | [_] => simp [cMin]
    | [_, _] => exact absurd rfl h
    | _ :: _ :: _ :: _ => simp [cMin]) (fun p q => (min p.1 q.1, min p.2 q.2)) fun p q i j a b c d => by
  dsimp only
  split <;> omega
section
variable [Feed]
/-! ### slices -/
structure SO where
  m : MO
  a : AEnv → ASto → Option (List (Option (Int × Int) × ASto))
  ok : ∀ {A T l}, a A T = some l → ∀ {ρ S}, REn A ρ → RSt T S → ∃ o ∈ l, ∃ i S', m ρ S = some (i, S') ∧ (match o.1, i with | none, none => True | some p, some j => p.1 ≤ j ∧ j ≤ p.2 | _, _ => False) ∧ RSt o.2 S'
def xoNone : SO where
  m := oNone
  a := fun _ T => some [(none, T)]
  ok := fun {A T l} e {ρ S} hA hT => by
    cases e
    exact ⟨_, List.mem_singleton.mpr rfl, none, S, rfl, trivial, hT⟩
def xoSome (x : SM) : SO where
  m := oSome x.m
  a := fun A T => (x.a A T).bind fun l => bindL l fun p => match p.1 with
    | .d v => (asInt v).map fun q => [(some q, p.2)]
    | .c _ => none
  ok := fun {A T l} e {ρ S} hA hT => by
    obtain ⟨l1, e1, e⟩ := Option.bind_eq_some_iff.mp e
    obtain ⟨⟨v, T1⟩, ho1, x1, S1, f1, r1, t1⟩ := x.ok e1 hA hT
    obtain ⟨s, e2, k⟩ := bindL_mem e ho1
    cases v with
    | c i => cases e2
    | d w =>
      cases x1 with
      | c i => exact r1.elim
      | d y =>
        obtain ⟨q, e3, rfl⟩ := Option.map_eq_some_iff.mp e2
        obtain ⟨i, rfl, a1, a2⟩ := asInt_ok (lo := q.1) (hi := q.2) e3 r1
        refine ⟨_, k _ (List.mem_singleton.mpr rfl), some i, S1, ?_, ⟨a1, a2⟩, t1⟩
        unfold oSome
        rw [f1]
        rfl
theorem cut_mem {α : Type} {xs : List α} {lo hi : Option Int} {y : α} (h : y ∈ cut xs lo hi) : y ∈ xs := List.mem_of_mem_drop (List.mem_of_mem_take h)
theorem cut_len {α : Type} (xs : List α) (lo hi : Option Int) : (cut xs lo hi).length ≤ xs.length := by
  unfold cut
  rw [List.length_take, List.length_drop]
  omega
theorem All2.drop' {α β : Type} {R : α → β → Prop} : ∀ {l : List α} {m : List β} (n : Nat), All2 R l m → All2 R (l.drop n) (m.drop n)
  | _, _, 0, h => h
  | _, _, _ + 1, .nil => .nil
  | _, _, n + 1, .cons _ t => All2.drop' n t
theorem cut_all {vs : List AV} {xs : List PyData} (h : All2 γ vs xs) (lo hi : Option Int) : All2 γ (cut vs lo hi) (cut xs lo hi) := by
  unfold cut
  rw [h.len]
  exact All2.take _ (All2.drop' _ h)
def isEx : Option (Int × Int) → Option (Option Int)
  | none => some none
  | some p => if p.1 = p.2 then some (some p.1) else none
def cutQ (q : Sq) (lo hi : Option (Int × Int)) : Sq := match q, isEx lo, isEx hi with
  | .exs vs, some l, some h => .exs (cut vs l h)
  | q, _, _ => .sum (sumOf join q).1 (sumOf join q).2
def RI (p : Option (Int × Int)) (i : Option Int) : Prop := match p, i with | none, none => True | some p, some j => p.1 ≤ j ∧ j ≤ p.2 | _, _ => False
theorem isEx_ok {p : Option (Int × Int)} {i l : Option Int} (h : isEx p = some l) (r : RI p i) : i = l := by
  cases p with
  | none => cases i with
    | none => cases h; rfl
    | some j => exact r.elim
  | some p => cases i with
    | none => exact r.elim
    | some j =>
      have h : (if p.1 = p.2 then some (some p.1) else none) = some l := h
      split at h
      · cases h
        have r : p.1 ≤ j ∧ j ≤ p.2 := r
        congr 1
        omega
      · cases h
theorem cutQ_ok {q : Sq} {xs : List PyData} {lo hi : Option (Int × Int)} {l h : Option Int} (g : γq q xs) (rl : RI lo l) (rh : RI hi h) : γq (cutQ q lo hi) (cut xs l h) := by
  unfold cutQ
  split
  · rename_i vs a b e1 e2
    rw [isEx_ok e1 rl, isEx_ok e2 rh]
    exact cut_all g _ _
  · have z := sumOf_up join_up g
    exact ⟨Nat.le_trans (cut_len _ _ _) z.1, fun y hy => z.2 y (cut_mem hy)⟩
def xSl (x : SM) (lo hi : SO) : SM where
  m := mSl x.m lo.m hi.m
  a := fun A T => (x.a A T).bind fun l => bindL l fun p => (lo.a A p.2).bind fun r => bindL r fun q => (hi.a A q.2).bind fun s => bindL s fun w => match p.1 with
    | .d v => (tupOf v).map fun sq => [(.d (mkTup (cutQ sq q.1 w.1)), w.2)]
    | .c _ => none
  ok := fun {A T l} e {ρ S} hA hT => by
    obtain ⟨l1, e1, e⟩ := Option.bind_eq_some_iff.mp e
    obtain ⟨⟨v, T1⟩, ho1, x1, S1, f1, r1, t1⟩ := x.ok e1 hA hT
    obtain ⟨s, e2, k⟩ := bindL_mem e ho1
    obtain ⟨l2, e3, e2⟩ := Option.bind_eq_some_iff.mp e2
    obtain ⟨o2, ho2, i, S2, f2, r2, t2⟩ := lo.ok e3 hA t1
    obtain ⟨s2, e4, k2⟩ := bindL_mem e2 ho2
    obtain ⟨l3, e5, e4⟩ := Option.bind_eq_some_iff.mp e4
    obtain ⟨o3, ho3, j, S3, f3, r3, t3⟩ := hi.ok e5 hA t2
    obtain ⟨s3, e6, k3⟩ := bindL_mem e4 ho3
    cases v with
    | c i => cases e6
    | d w =>
      cases x1 with
      | c i => exact r1.elim
      | d y =>
        obtain ⟨sq, e7, rfl⟩ := Option.map_eq_some_iff.mp e6
        obtain ⟨xs, rfl, g⟩ := tupOf_ok e7 r1
        refine ⟨_, k _ (k2 _ (k3 _ (List.mem_singleton.mpr rfl))), .d (.tuple (cut xs i j)), S3, ?_, mkTup_ok (cutQ_ok g r2 r3), t3⟩
        unfold mSl
        rw [f1]
        show (lo.m ρ S1).bind _ = _
        rw [f2]
        show (hi.m ρ S2).bind _ = _
        rw [f3]
        rfl
def revQ : Sq → Sq
  | .exs vs => .exs vs.reverse
  | q => q
theorem revQ_ok {q : Sq} {xs : List PyData} (g : γq q xs) : γq (revQ q) xs.reverse := by
  cases q with
  | exs vs => exact All2.rev g
  | sum n v => exact ⟨by rw [List.length_reverse]; exact g.1, fun y hy => g.2 y (List.mem_reverse.mp hy)⟩
def isM1 : APV → Bool
  | .d (.ex (.int i)) => i == -1
  | _ => false
def xRev (x st : SM) : SM where
  m := mRev x.m st.m
  a := fun A T => (x.a A T).bind fun l => bindL l fun p => (st.a A p.2).bind fun r => bindL r fun q => if isM1 q.1 = true then match p.1 with
    | .d v => (tupOf v).map fun sq => [(.d (mkTup (revQ sq)), q.2)]
    | .c _ => none else none
  ok := fun {A T l} e {ρ S} hA hT => by
    obtain ⟨l1, e1, e⟩ := Option.bind_eq_some_iff.mp e
    obtain ⟨⟨v, T1⟩, ho1, x1, S1, f1, r1, t1⟩ := x.ok e1 hA hT
    obtain ⟨s, e2, k⟩ := bindL_mem e ho1
    obtain ⟨l2, e3, e2⟩ := Option.bind_eq_some_iff.mp e2
    obtain ⟨⟨v2, T2⟩, ho2, x2, S2, f2, r2, t2⟩ := st.ok e3 hA t1
    obtain ⟨s2, e4, k2⟩ := bindL_mem e2 ho2
    split at e4
    · rename_i hm
      have hm : isM1 v2 = true := hm
      have e2v : x2 = .d (.int (-1)) := by
        unfold isM1 at hm
        split at hm
        · rename_i iz _
          have ez : iz = -1 := beq_iff_eq.mp hm
          subst ez
          cases x2 with
          | c i => exact r2.elim
          | d y => rw [show y = .int (-1) from r2]
        · cases hm
      subst e2v
      cases v with
      | c i => cases e4
      | d w =>
        cases x1 with
        | c i => exact r1.elim
        | d y =>
          obtain ⟨sq, e7, rfl⟩ := Option.map_eq_some_iff.mp e4
          obtain ⟨xs, rfl, g⟩ := tupOf_ok e7 r1
          refine ⟨_, k _ (k2 _ (List.mem_singleton.mpr rfl)), .d (.tuple xs.reverse), S2, ?_, mkTup_ok (revQ_ok g), t2⟩
          unfold mRev
          rw [f1]
          show (st.m ρ S1).bind _ = _
          rw [f2]
          rfl
    · cases e4
/-! ### list comprehensions -/
def addS (o : ASto) : List ASto → List ASto
  | [] => [o]
  | p :: r => match joinS p o with
    | some c => c :: r
    | none => p :: addS o r
def oneS : List ASto → List ASto
  | [] => []
  | o :: r => addS o (oneS r)
theorem addS_new {o : ASto} {S : Sto} (h : RSt o S) : ∀ l, ∃ o' ∈ addS o l, RSt o' S
  | [] => ⟨o, List.mem_singleton.mpr rfl, h⟩
  | p :: r => by
    unfold addS
    split
    · rename_i c e
      exact ⟨c, List.mem_cons_self, joinS_r e h⟩
    · obtain ⟨o', m, q⟩ := addS_new h r
      exact ⟨o', List.mem_cons_of_mem _ m, q⟩
theorem addS_old {o p : ASto} {S : Sto} (h : RSt p S) : ∀ {l}, p ∈ l → ∃ o' ∈ addS o l, RSt o' S
  | [], m => nomatch m
  | q :: r, m => by
    unfold addS
    rcases List.mem_cons.mp m with rfl | m
    · split
      · rename_i c e
        exact ⟨c, List.mem_cons_self, joinS_l e h⟩
      · exact ⟨_, List.mem_cons_self, h⟩
    · split
      · exact ⟨p, List.mem_cons_of_mem _ m, h⟩
      · obtain ⟨o', m', q'⟩ := addS_old (o := o) h m
        exact ⟨o', List.mem_cons_of_mem _ m', q'⟩
theorem oneS_ok : ∀ {l} {o : ASto} {S : Sto}, o ∈ l → RSt o S → ∃ o' ∈ oneS l, RSt o' S
  | [], _, _, h, _ => nomatch h
  | p :: r, o, S, h, q => by
    rcases List.mem_cons.mp h with rfl | h
    · exact addS_new q _
    · obtain ⟨o', m, q'⟩ := oneS_ok h q
      exact addS_old q' m
def pushA (n : Nat) (v : APV) (T : ASto) : Option (List ASto) := match v with
  | .d w => match T[n]? with
    | some (.q s) => if (sumOf join s).1 < 1000000 then some [T.set n (.q (appQ join s (.exs [w])))] else none
    | _ => none
  | .c _ => none
theorem pushA_ok {n : Nat} {v : APV} {T : ASto} {l : List ASto} {x : PV} {S : Sto} (e : pushA n v T = some l) (r : RV v x) (t : RSt T S) : ∃ y T' S', x = .d y ∧ T' ∈ l ∧ pushAt n y S = some S' ∧ RSt T' S' := by
  unfold pushA at e
  split at e
  · rename_i w
    split at e
    · rename_i s e1
      split at e
      · rename_i hz
        cases e
        cases x with
        | c i => exact r.elim
        | d y =>
          obtain ⟨ds, e2, g⟩ := stQ t e1
          have hl : ds.length < 1000000 := Nat.lt_of_le_of_lt (sumOf_up join_up (show γq s ds from g)).1 hz
          refine ⟨y, _, S.set n (.l (ds ++ [y])), rfl, List.mem_singleton.mpr rfl, ?_, All2.set (R := RC) (show RC (.q (appQ join s (.exs [w]))) (.l (ds ++ [y])) from appQ_up join_up g (.cons r .nil)) n t⟩
          unfold pushAt
          rw [lAt_some.mpr e2]
          show (if ds.length < 1000000 then _ else none) = _
          rw [if_pos hl]
      · cases e
    · cases e
  · cases e
def lcStepC (n : Nat) (tgt : TgD) (tt : MB) (te : M) (ρ : RE) (x : PyData) (S : Sto) : Option Sto := (tgt x ρ).bind fun ρ1 => (tt ρ1 S).bind fun b => if b.1 = true then (te ρ1 b.2).bind fun v => match v.1 with
      | .d y => pushAt n y v.2
      | .c _ => none
    else some b.2
theorem lcGo_step {n : Nat} {tgt : TgD} {tt : MB} {te : M} {ρ : RE} {x : PyData} {xs : List PyData} {S S' : Sto} (h : lcStepC n tgt tt te ρ x S = some S') : lcGo n tgt tt te ρ (x :: xs) S = lcGo n tgt tt te ρ xs S' := by
  obtain ⟨ρ1, e1, h⟩ := Option.bind_eq_some_iff.mp h
  obtain ⟨⟨b, S1⟩, e2, h⟩ := Option.bind_eq_some_iff.mp h
  show (tgt x ρ).bind _ = _
  rw [e1]
  show (tt ρ1 S).bind _ = _
  rw [e2]
  cases b with
  | false => cases h; rfl
  | true =>
    obtain ⟨⟨v, S2⟩, e3, h⟩ := Option.bind_eq_some_iff.mp h
    show (te ρ1 S1).bind _ = _
    rw [e3]
    cases v with
    | c i => cases h
    | d y =>
      show (pushAt n y S2).bind _ = _
      rw [show pushAt n y S2 = some S' from h]
      rfl
def lcStepA (n : Nat) (tg : SG) (tt : SB) (te : SM) (A : AEnv) (v : AV) (T : ASto) : Option (List ASto) := (tg.a v A).bind fun B => (tt.a B T).bind fun l => bindL l fun p => if p.1 = true then (te.a B p.2).bind fun r => bindL r fun q => pushA n q.1 q.2 else some [p.2]
theorem lcStep_ok {n : Nat} {tg : SG} {tt : SB} {te : SM} {A : AEnv} {v : AV} {T : ASto} {l : List ASto} {ρ : RE} {x : PyData} {S : Sto} (e : lcStepA n tg tt te A v T = some l) (g : γ v x) (hA : REn A ρ) (hT : RSt T S) : ∃ T' ∈ l, ∃ S', lcStepC n tg.m tt.m te.m ρ x S = some S' ∧ RSt T' S' := by
  obtain ⟨B, e1, e⟩ := Option.bind_eq_some_iff.mp e
  obtain ⟨l1, e2, e⟩ := Option.bind_eq_some_iff.mp e
  obtain ⟨ρ1, f1, h1⟩ := tg.ok e1 g hA
  obtain ⟨⟨b, T1⟩, ho, S1, f2, t1⟩ := tt.ok e2 h1 hT
  obtain ⟨s, e3, k⟩ := bindL_mem e ho
  cases b with
  | false =>
    cases e3
    refine ⟨T1, k _ (List.mem_singleton.mpr rfl), S1, ?_, t1⟩
    unfold lcStepC
    rw [f1]
    show (tt.m ρ1 S).bind _ = _
    rw [f2]
    rfl
  | true =>
    obtain ⟨l2, e4, e3⟩ := Option.bind_eq_some_iff.mp (show (te.a B T1).bind _ = some s from e3)
    obtain ⟨o2, ho2, x2, S2, f3, r3, t2⟩ := te.ok e4 h1 t1
    obtain ⟨s2, e5, k2⟩ := bindL_mem e3 ho2
    obtain ⟨y, T', S', rfl, m, f4, t4⟩ := pushA_ok e5 r3 t2
    refine ⟨T', k _ (k2 _ m), S', ?_, t4⟩
    unfold lcStepC
    rw [f1]
    show (tt.m ρ1 S).bind _ = _
    rw [f2]
    show (te.m ρ1 S1).bind _ = _
    rw [f3]
    exact f4
def lcE (n : Nat) (tg : SG) (tt : SB) (te : SM) (A : AEnv) : List AV → List ASto → Option (List ASto)
  | [], ss => some ss
  | v :: vs, ss => (bindL ss (lcStepA n tg tt te A v)).bind fun r => lcE n tg tt te A vs (oneS r)
theorem lcE_ok {n : Nat} {tg : SG} {tt : SB} {te : SM} {A : AEnv} {ρ : RE} (hA : REn A ρ) : ∀ {vs : List AV} {ss l : List ASto} {xs : List PyData} {T : ASto} {S : Sto}, lcE n tg tt te A vs ss = some l → All2 γ vs xs → T ∈ ss → RSt T S → ∃ T' ∈ l, ∃ S', lcGo n tg.m tt.m te.m ρ xs S = some S' ∧ RSt T' S'
  | [], ss, l, _, T, S, e, .nil, ho, h => by
    cases e
    exact ⟨T, ho, S, rfl, h⟩
  | v :: vs, ss, l, _, T, S, e, .cons g t, ho, h => by
    obtain ⟨r, e1, e⟩ := Option.bind_eq_some_iff.mp e
    obtain ⟨s, e2, k⟩ := bindL_mem e1 ho
    obtain ⟨T2, ho2, S2, f2, r2⟩ := lcStep_ok e2 g hA h
    obtain ⟨T3, ho3, r3⟩ := oneS_ok (k _ ho2) r2
    obtain ⟨T4, ho4, S4, f4, r4⟩ := lcE_ok hA e t ho3 r3
    exact ⟨T4, ho4, S4, (lcGo_step f2).trans f4, r4⟩
def lcU (n : Nat) (tg : SG) (tt : SB) (te : SM) (A : AEnv) (v : AV) : Nat → List ASto → Option (List ASto)
  | 0, ss => some ss
  | k + 1, ss => (bindL ss (lcStepA n tg tt te A v)).bind fun r => lcU n tg tt te A v k (oneS (ss ++ r))
theorem lcU_more {n : Nat} {tg : SG} {tt : SB} {te : SM} {A : AEnv} {v : AV} : ∀ {k : Nat} {ss l : List ASto} {T : ASto} {S : Sto}, lcU n tg tt te A v k ss = some l → T ∈ ss → RSt T S → ∃ T' ∈ l, RSt T' S
  | 0, ss, l, T, S, e, ho, h => by
    cases e
    exact ⟨T, ho, h⟩
  | k + 1, ss, l, T, S, e, ho, h => by
    obtain ⟨r, e1, e⟩ := Option.bind_eq_some_iff.mp e
    obtain ⟨T3, ho3, r3⟩ := oneS_ok (List.mem_append_left _ ho) h
    exact lcU_more e ho3 r3
theorem lcU_ok {n : Nat} {tg : SG} {tt : SB} {te : SM} {A : AEnv} {v : AV} {ρ : RE} (hA : REn A ρ) : ∀ {k : Nat} {ss l : List ASto} {xs : List PyData} {T : ASto} {S : Sto}, lcU n tg tt te A v k ss = some l → xs.length ≤ k → (∀ y ∈ xs, γ v y) → T ∈ ss → RSt T S → ∃ T' ∈ l, ∃ S', lcGo n tg.m tt.m te.m ρ xs S = some S' ∧ RSt T' S'
  | k, ss, l, [], T, S, e, _, _, ho, h => by
    obtain ⟨T', m, r⟩ := lcU_more e ho h
    exact ⟨T', m, S, rfl, r⟩
  | 0, ss, l, x :: xs, T, S, e, hl, _, ho, h => by simp at hl
  | k + 1, ss, l, x :: xs, T, S, e, hl, hy, ho, h => by
    obtain ⟨r, e1, e⟩ := Option.bind_eq_some_iff.mp e
    obtain ⟨s, e2, kk⟩ := bindL_mem e1 ho
    obtain ⟨T2, ho2, S2, f2, r2⟩ := lcStep_ok e2 (hy x List.mem_cons_self) hA h
    obtain ⟨T3, ho3, r3⟩ := oneS_ok (List.mem_append_right _ (kk _ ho2)) r2
    obtain ⟨T4, ho4, S4, f4, r4⟩ := lcU_ok hA e (by simpa using hl) (fun y hy' => hy y (List.mem_cons_of_mem _ hy')) ho3 r3
    exact ⟨T4, ho4, S4, (lcGo_step f2).trans f4, r4⟩
def lcQ (n : Nat) (tg : SG) (tt : SB) (te : SM) (A : AEnv) (q : Sq) (ss : List ASto) : Option (List ASto) := match q with
  | .exs vs => lcE n tg tt te A vs ss
  | .sum k v => lcU n tg tt te A v k ss
def lcEnd (n : Nat) (T : ASto) : Option (List (Sq × ASto)) := match T[n]? with
  | some (.q s) => some [(s, T.take n)]
  | _ => none
def xLc (mi : SL) (vs : List Nat) (tg : SG) (tt : SB) (te : SM) : SL where
  m := mLc mi.m vs tg.m tt.m te.m
  a := fun A T => (mi.a A T).bind fun l => bindL l fun p => (lcQ p.2.length tg tt te (wipeA A vs) p.1 [p.2 ++ [.q (.exs [])]]).bind fun r => bindL r (lcEnd p.2.length)
  ok := fun {A T l} e {ρ S} hA hT => by
    obtain ⟨l1, e1, e⟩ := Option.bind_eq_some_iff.mp e
    obtain ⟨⟨q, T1⟩, ho1, ds, S1, f1, r1, t1⟩ := mi.ok e1 hA hT
    obtain ⟨s, e2, k⟩ := bindL_mem e ho1
    obtain ⟨r, e3, e2⟩ := Option.bind_eq_some_iff.mp e2
    have hl : T1.length = S1.length := All2.len t1
    have t2 : RSt (T1 ++ [.q (.exs [])]) (S1 ++ [.l []]) := All2.app t1 (.cons (show RC (.q (.exs [])) (.l []) from .nil) .nil)
    have go : ∃ T' ∈ r, ∃ S', lcGo T1.length tg.m tt.m te.m (wipeR ρ vs) ds (S1 ++ [Cell.l []]) = some S' ∧ RSt T' S' := by
      cases q with
      | exs ws => exact lcE_ok (wipe_ok hA vs) e3 r1 (List.mem_singleton.mpr rfl) t2
      | sum n v => exact lcU_ok (wipe_ok hA vs) e3 r1.1 r1.2 (List.mem_singleton.mpr rfl) t2
    obtain ⟨T', m', S', f2, r2⟩ := go
    obtain ⟨s2, e4, k2⟩ := bindL_mem e2 m'
    unfold lcEnd at e4
    split at e4
    · rename_i sq e5
      cases e4
      obtain ⟨es, e6, g6⟩ := stQ r2 e5
      refine ⟨_, k _ (k2 _ (List.mem_singleton.mpr rfl)), es, S'.take S1.length, ?_, g6, by show RSt (T'.take T1.length) _; rw [hl]; exact All2.take _ r2⟩
      unfold mLc
      rw [f1]
      show (lcGo S1.length tg.m tt.m te.m (wipeR ρ vs) ds (S1 ++ [Cell.l []])).bind _ = _
      rw [← hl, f2]
      show (lAt S' T1.length).bind _ = _
      rw [lAt_some.mpr e6]
      rfl
    · cases e4
def xYes : SB where
  m := bYes
  a := fun _ T => some [(true, T)]
  ok := fun {A T l} e {ρ S} hA hT => by
    cases e
    exact ⟨_, List.mem_singleton.mpr rfl, S, rfl, hT⟩
end
/-! ### the feed, its first kind -/
instance feed1 : Feed where
  P := fun k c => ∃ (ms : List Int) (i q j : Int), ms ≠ [] ∧ c = feedC ms i q j ∧ 0 ≤ i ∧ 0 ≤ j ∧ j ≤ k
  mono := fun {k l c} ⟨ms, i, q, j, a, b, d, e, f⟩ h => ⟨ms, i, q, j, a, b, d, e, by omega⟩
theorem draw1 {j k : Nat} {T : ASto} {S : Sto} {many : Int} (hj : T[j]? = some (.feed k)) (hT : RSt T S) (hk : k ≤ 99999999) (hp : 0 < many) (hl : many.natAbs < 2 ^ 8999) :
    ∃ r S', FDraw [.c j, .d (.int many)] S = some (.d (.int r), S') ∧ 0 ≤ r ∧ r < many ∧ RSt (T.set j (.feed (k + 1))) S' := by
  obtain ⟨c, e, ms, i, q, n, hm, rfl, h0, h1, h2⟩ := stF hT hj
  obtain ⟨r, i', c', f, r0, r1, i0⟩ := draw_spec (S := S) (j := j) (many := many) e hm h0 h1 (by omega) hp (Nat.lt_succ_of_lt (log2_of (by decide) hl))
  exact ⟨r, _, f, r0, r1, All2.set (R := RC) (show RC (.feed (k + 1)) (.l (feedC ms i' c' (n + 1))) from ⟨ms, i', c', n + 1, hm, rfl, i0, by omega, by omega⟩) j hT⟩
def drawA (enum : Bool) (vs : List APV) (T : ASto) : Option (List (APV × ASto)) := match vs with
  | [.c j, .d v] => match T[j]?, asInt v with
    | some (.feed k), some (lo, hi) => if k ≤ 99999999 ∧ 0 < lo ∧ hi < 2 ^ 8000 then
        if enum = true ∧ hi ≤ 200 then some ((List.range hi.toNat).map fun r => (.d (.ex (.int (r : Nat))), T.set j (.feed (k + 1))))
        else some [(.d (if hi = 1 then .ex (.int 0) else .int 0 (hi - 1)), T.set j (.feed (k + 1)))]
      else none
    | _, _ => none
  | _ => none
def xDraw (enum : Bool) : SF where
  F := FDraw
  a := drawA enum
  ok := fun {vs T l} e {xs S} hv hT => by
    unfold drawA at e
    split at e
    · rename_i j v
      split at e
      · rename_i k lo hi e1 e2
        split at e
        · rename_i hz
          cases hv with
          | cons r1 t => cases t with
            | cons r2 t2 =>
              cases t2
              rename_i x1 x2
              cases x1 with
              | d y => exact r1.elim
              | c j' =>
                have ej : j = j' := r1
                subst ej
                cases x2 with
                | c i => exact r2.elim
                | d y =>
                  obtain ⟨i, rfl, a1, a2⟩ := asInt_ok e2 r2
                  have hi8 : i.natAbs < 2 ^ 8999 := by
                    have h1 : i < 2 ^ 8000 := Int.lt_of_le_of_lt a2 hz.2.2
                    exact lt_up (c := 8000) (by omega) h1 (by decide)
                  obtain ⟨r, S', f, r0, r1', t'⟩ := draw1 e1 hT hz.1 (by omega) hi8
                  split at e
                  · cases e
                    refine ⟨_, List.mem_map.mpr ⟨r.toNat, List.mem_range.mpr (by omega), rfl⟩, .d (.int r), S', f, ?_, t'⟩
                    show PyData.int r = .int ((r.toNat : Nat) : Int)
                    congr 1
                    omega
                  · cases e
                    refine ⟨_, List.mem_singleton.mpr rfl, .d (.int r), S', f, ?_, t'⟩
                    show γ (if hi = 1 then .ex (.int 0) else .int 0 (hi - 1)) (.int r)
                    split
                    · have : r = 0 := by omega
                      rw [this]; rfl
                    · exact ⟨r, rfl, r0, by omega⟩
        · cases e
      · cases e
    · cases e
/-- a law that begins with its feed -/
def isTrue : AOut → Bool
  | .rt (.d (.ex (.bool true))) _ => true
  | _ => false
theorem law1 {N : Nat} {rest : SS} (h : ∃ l, rest.a (((none : Option APV) :: some (.c 0) :: List.replicate N none)) [.feed 0] = some l ∧ l.all isTrue = true) :
    ∀ ns : List Int, ns.length ≤ 63 → ∃ S', runF (N + 2) (sSeq (sOwn 1 (mFnL 1 FFeed (mCons (mVar 0) mNil))) rest.m) [.d (.list (ns.map .int))] [] = some (.d (.bool true), S') := by
  intro ns hns
  obtain ⟨l, e, hl⟩ := h
  obtain ⟨ms, hm, ef⟩ := feed_spec ns hns
  generalize PyData.list (ns.map .int) = sc at ef
  have hen : REn ((none : Option APV) :: some (.c 0) :: List.replicate N none) (some (.d sc) :: some (.c 0) :: List.replicate N none) := by
    refine .cons trivial (.cons rfl ?_)
    induction N with
    | zero => exact .nil
    | succ k ih => exact .cons trivial (by
        have : ∀ m : Nat, REn (List.replicate m none) (List.replicate m none) := fun m => by
          induction m with
          | zero => exact .nil
          | succ m ih => exact .cons trivial ih
        exact this k)
  have hst : RSt [.feed 0] [feedC ms 0 0 0] := .cons ⟨ms, 0, 0, 0, hm, rfl, by decide, by decide, by decide⟩ .nil
  obtain ⟨o, ho, out, f, r⟩ := rest.ok e hen hst
  have ht := List.all_eq_true.mp hl o ho
  have hout : ∃ S, out = .rt (.d (.bool true)) S := by
    unfold isTrue at ht
    split at ht
    · cases out <;> first | (exact r.elim) | skip
      rename_i v S
      cases v with
      | c i => exact r.1.elim
      | d y => exact ⟨S, by rw [show y = .bool true from r.1]⟩
    · cases ht
  obtain ⟨S, rfl⟩ := hout
  refine ⟨S.take 0, ?_⟩
  have hs : ([PV.d sc] : List PV).map some ++ List.replicate (N + 2 - [PV.d sc].length) none = some (.d sc) :: none :: List.replicate N none := by
    show some (PV.d sc) :: List.replicate (N + 1) none = _
    rw [List.replicate_succ]
  refine (runF_end (o := .rt (.d (.bool true)) S) ?_).trans rfl
  rw [hs]
  rw [sSeq_nx (sOwn_of (mFnL_of (n := 1) rfl rfl ef))]
  exact f
end DN

namespace DN
open PySem PySem.Spec PyProof.Rows L2 DL
def told (r : Option (List AOut)) : Bool := match r with
  | some l => l.all isTrue
  | none => false
theorem told_of {r : Option (List AOut)} (h : told r = true) : ∃ l, r = some l ∧ l.all isTrue = true := by
  cases r with
  | none => cases h
  | some l => exact ⟨l, rfl, h⟩
section
variable [Feed]
/-- a body that looks at a thing in slot i (which can be shown) and keeps it; slot j is written -/
def xLookAt (i j n : Nat) (m : MS) (h : ∀ {d : PyData} {ρ : RE} {S : Sto}, Okk 40 1000000 d → ρ.length = n → ρ[i]? = some (some (.d d)) → ∃ z, m ρ S = some (.nx (ρ.set j z) S)) : SS where
  m := m
  a := fun A T => match A[i]? with
    | some (some (.d v)) => match okkOf v with
      | some p => if p.1 ≤ 40 ∧ p.2 ≤ 1000000 ∧ A.length = n then some [.nx (A.set j none) T] else none
      | none => none
    | _ => none
  ok := fun {A T l} e {ρ S} hA hT => by
    split at e
    · rename_i v e1
      split at e
      · rename_i p e2
        split at e
        · rename_i hz
          cases e
          obtain ⟨o, e3, r⟩ := hA.get e1
          cases o with
          | none => exact r.elim
          | some x =>
            cases x with
            | c k => exact r.elim
            | d y =>
              have ok := (okkOf_ok (n := p.1) (L := p.2) e2 r).mono hz.1 hz.2.1
              obtain ⟨z, f⟩ := h (S := S) ok (by rw [← hA.len]; exact hz.2.2) e3
              exact ⟨_, List.mem_singleton.mpr rfl, _, f, All2.set (R := RO) (show RO none z from trivial) j hA, hT⟩
        · cases e
      · cases e
    · cases e
end
end DN

namespace DN
open PySem PySem.Spec PyProof.Rows L2 DL
/-! ### all over a generator expression; a comprehension that picks -/
theorem gx_all {tgt : TgD} {te : M} {ρ : RE} {S : Sto} {p : PyData → Bool} : ∀ xs : List PyData, (∀ x ∈ xs, ∃ ρ1, tgt x ρ = some ρ1 ∧ te ρ1 S = some (.d (.bool (p x)), S)) → ∃ l, gxGo stopAll tgt bYes te ρ xs S = some (l, xs.all p, S)
  | [], _ => ⟨[], rfl⟩
  | x :: xs, h => by
    obtain ⟨ρ1, e1, e2⟩ := h x (by simp)
    obtain ⟨l, ih⟩ := gx_all (te := te) xs fun y hy => h y (List.mem_cons_of_mem _ hy)
    cases hp : p x with
    | false =>
      refine ⟨[.bool false], ?_⟩
      show (tgt x ρ).bind _ = _
      rw [e1]
      show (te ρ1 S).bind _ = _
      rw [e2, hp, List.all_cons, hp]
      rfl
    | true =>
      refine ⟨.bool true :: l, ?_⟩
      show (tgt x ρ).bind _ = _
      rw [e1]
      show (te ρ1 S).bind _ = _
      rw [e2, hp, List.all_cons, hp]
      show (gxGo stopAll tgt bYes te ρ xs S).bind _ = _
      rw [ih]
      rfl
theorem mAll_of {mi : ML} {vs : List Nat} {tgt : TgD} {te : M} {ρ : RE} {S S1 : Sto} {xs : List PyData} {p : PyData → Bool} (h1 : mi ρ S = some (xs, S1)) (h2 : ∀ x ∈ xs, ∃ ρ1, tgt x (wipeR ρ vs) = some ρ1 ∧ te ρ1 S1 = some (.d (.bool (p x)), S1)) : mAll mi vs tgt bYes te ρ S = some (.d (.bool (xs.all p)), S1) := by
  obtain ⟨l, e⟩ := gx_all xs h2
  unfold mAll
  rw [h1]
  show (gxGo stopAll tgt bYes te (wipeR ρ vs) xs S1).bind _ = _
  rw [e]
  rfl
theorem lc_filter {T : Sto} {tgt : TgD} {tt : MB} {te : M} {ρ : RE} {f : PyData → Bool} : ∀ (xs ds : List PyData), ds.length + xs.length ≤ 1000000 → (∀ x ∈ xs, ∃ ρ1, tgt x ρ = some ρ1 ∧ ∀ S, tt ρ1 S = some (f x, S) ∧ te ρ1 S = some (.d x, S)) → lcGo T.length tgt tt te ρ xs (T ++ [Cell.l ds]) = some (T ++ [Cell.l (ds ++ xs.filter f)])
  | [], ds, _, _ => by
    show some _ = _
    simp
  | x :: xs, ds, hl, h => by
    obtain ⟨ρ1, e1, e2⟩ := h x (by simp)
    rw [List.length_cons] at hl
    show (tgt x ρ).bind _ = _
    rw [e1]
    show (tt ρ1 _).bind _ = _
    rw [(e2 _).1]
    cases hp : f x with
    | false =>
      rw [List.filter_cons, hp]
      exact lc_filter xs ds (by omega) fun y hy => h y (List.mem_cons_of_mem _ hy)
    | true =>
      rw [List.filter_cons, hp]
      show (te ρ1 _).bind _ = _
      rw [(e2 _).2]
      have hpush : pushAt T.length x (T ++ [Cell.l ds]) = some (T ++ [Cell.l (ds ++ [x])]) := by
        unfold pushAt
        rw [last_l]
        show (if ds.length < 1000000 then _ else none) = _
        rw [if_pos (by omega)]
        show some ((T ++ [Cell.l ds]).set T.length (Cell.l (ds ++ [x]))) = _
        rw [last_set]
      show (pushAt T.length x (T ++ [Cell.l ds])).bind _ = _
      rw [hpush]
      show lcGo T.length tgt tt te ρ xs (T ++ [Cell.l (ds ++ [x])]) = _
      rw [lc_filter xs (ds ++ [x]) (by rw [List.length_append, List.length_singleton]; omega) fun y hy => h y (List.mem_cons_of_mem _ hy)]
      rw [List.append_assoc]
      rfl
theorem mLc_filter {mi : ML} {vs : List Nat} {tgt : TgD} {tt : MB} {te : M} {ρ : RE} {S S1 : Sto} {xs : List PyData} {f : PyData → Bool} (h1 : mi ρ S = some (xs, S1)) (hl : xs.length ≤ 1000000) (h2 : ∀ x ∈ xs, ∃ ρ1, tgt x (wipeR ρ vs) = some ρ1 ∧ ∀ S, tt ρ1 S = some (f x, S) ∧ te ρ1 S = some (.d x, S)) : mLc mi vs tgt tt te ρ S = some (xs.filter f, S1) := by
  unfold mLc
  rw [h1]
  show (lcGo S1.length tgt tt te (wipeR ρ vs) xs (S1 ++ [Cell.l []])).bind _ = _
  rw [lc_filter xs [] (by simpa using hl) h2]
  show (lAt (S1 ++ [Cell.l ([] ++ xs.filter f)]) S1.length).bind _ = _
  rw [last_l]
  show some ([] ++ xs.filter f, (S1 ++ [Cell.l ([] ++ xs.filter f)]).take S1.length) = _
  rw [List.take_left, List.nil_append]
/-! ### tuples that can be shown -/
theorem piled_two : ∀ ts : List Str, 2 * ts.length ≤ piled ts
  | [] => Nat.zero_le _
  | t :: ts => by
    have := piled_two ts
    rw [piled_cons, List.length_cons]
    omega
theorem okk_wide {n L : Nat} {xs : List PyData} (h : Okk n L (.tuple xs)) : 2 * xs.length ≤ L := by
  have hl : (tupleText (PyData.shownAll xs)).length ≤ L := h.ln
  have e := PyData.shownAll_length xs
  cases hx : PyData.shownAll xs with
  | nil =>
    rw [hx] at e
    rw [← e]
    exact Nat.zero_le _
  | cons t ts =>
    rw [← e]
    rw [hx] at hl ⊢
    have j := join_length_add (t :: ts) (by simp)
    have p := piled_two (t :: ts)
    unfold tupleText at hl
    rw [strLen_append, strLen_append] at hl
    have h1 : (("(" : Str)).length = 1 := rfl
    have h2 : 1 ≤ ((if (t :: ts).length == 1 then ",)" else ")" : String) : Str).length := by split <;> decide
    omega
theorem lay_mem : ∀ {xs : List PyData}, PyData.canLayAll0 xs = true → ∀ x ∈ xs, x.canLay0 = true
  | [], _, _, h => nomatch h
  | x :: xs, h, y, hy => by
    have h2 : (x.canLay0 && PyData.canLayAll0 xs) = true := h
    rw [Bool.and_eq_true] at h2
    rcases List.mem_cons.mp hy with rfl | hy
    · exact h2.1
    · exact lay_mem h2.2 y hy
theorem lay_all : ∀ {xs : List PyData}, (∀ x ∈ xs, x.canLay0 = true) → PyData.canLayAll0 xs = true
  | [], _ => rfl
  | x :: xs, h => by
    show (x.canLay0 && PyData.canLayAll0 xs) = true
    rw [h x (by simp), lay_all fun y hy => h y (List.mem_cons_of_mem _ hy)]
    rfl
theorem deep_mem : ∀ {xs : List PyData} {n : Nat}, PyData.depthAll xs ≤ n → ∀ x ∈ xs, x.depth ≤ n
  | [], _, _, _, h => nomatch h
  | x :: xs, n, h, y, hy => by
    have h2 : max x.depth (PyData.depthAll xs) ≤ n := h
    rcases List.mem_cons.mp hy with rfl | hy
    · omega
    · exact deep_mem (n := n) (by omega) y hy
theorem deep_all : ∀ {xs : List PyData} {n : Nat}, (∀ x ∈ xs, x.depth ≤ n) → PyData.depthAll xs ≤ n
  | [], _, _ => Nat.zero_le _
  | x :: xs, n, h => by
    show max x.depth (PyData.depthAll xs) ≤ n
    have := h x (by simp)
    have := deep_all (n := n) fun y hy => h y (List.mem_cons_of_mem (a := y) x hy)
    omega
theorem shaped_list {xs : List PyData} (h1 : ∀ x ∈ xs, x.canLay0 = true) (h2 : ∀ x ∈ xs, x.depth ≤ 63) : SeqAt.shaped (.list xs) = true := by
  show (PyData.canLayAll0 xs && decide (PyData.depthAll xs + 1 ≤ 64)) = true
  have := deep_all h2
  rw [lay_all h1, decide_eq_true (by omega)]
  rfl
theorem eqv_nil (ys : List PyData) : PyData.eqv (.list ys) (.list []) = ys.isEmpty := by cases ys <;> rfl
theorem fNe_nil {ys : List PyData} (h : SeqAt.shaped (.list ys) = true) (S : Sto) : fNe (.d (.list ys)) (.d (.list [])) S = some (.d (.bool (!ys.isEmpty))) := by
  show (if (SeqAt.shaped (.list ys) && SeqAt.shaped (.list [])) = true then some (PV.d (.bool (!PyData.eqv (.list ys) (.list [])))) else none) = _
  rw [h, eqv_nil]
  rfl
theorem fEq_nil {ys : List PyData} (h : SeqAt.shaped (.list ys) = true) (S : Sto) : fEq (.d (.list ys)) (.d (.list [])) S = some (.d (.bool ys.isEmpty)) := by
  show (if (SeqAt.shaped (.list ys) && SeqAt.shaped (.list [])) = true then some (PV.d (.bool (PyData.eqv (.list ys) (.list [])))) else none) = _
  rw [h, eqv_nil]
  rfl
theorem cut_tail {α : Type} (xs : List α) : cut xs (some 1) none = xs.drop 1 := by
  unfold cut
  rw [HT.sIx_none, show (1 : Int) = ((1 : Nat) : Int) from rfl, HT.sIx_nat]
  cases xs with
  | nil => rfl
  | cons x r =>
    rw [List.length_cons, Nat.min_eq_left (by omega)]
    simp
theorem bOr_t {a b : MB} {ρ : RE} {S S1 : Sto} (h : a ρ S = some (true, S1)) : bOr a b ρ S = some (true, S1) := by
  unfold bOr
  rw [h]
  rfl
theorem bOr_f {a b : MB} {ρ : RE} {S S1 : Sto} (h : a ρ S = some (false, S1)) : bOr a b ρ S = b ρ S1 := by
  unfold bOr
  rw [h]
  rfl
theorem mAnd_t {a b : M} {ρ : RE} {S S1 : Sto} (h : a ρ S = some (.d (.bool true), S1)) : mAnd a b ρ S = b ρ S1 := by
  unfold mAnd
  rw [h]
  rfl
theorem mAnd_f {a b : M} {ρ : RE} {S S1 : Sto} (h : a ρ S = some (.d (.bool false), S1)) : mAnd a b ρ S = some (.d (.bool false), S1) := by
  unfold mAnd
  rw [h]
  rfl
/-! ### whole numbers, falling rows -/
def isW : PyData → Bool
  | .int _ => true
  | _ => false
def ge1 : PyData → Bool
  | .int i => decide (1 ≤ i)
  | _ => false
def intAt (xs : List PyData) (k : Int) : Int := match atI xs k with
  | some (.int i) => i
  | _ => 0
def geT : PyData → Bool
  | .tuple [.int a, .int b] => decide (a ≥ b)
  | _ => false
def upAt (xs : List PyData) : PyData → Bool
  | .int k => decide (intAt xs (k - 1) < intAt xs k)
  | _ => false
theorem atI_get (xs : List PyData) {k : Int} (h0 : 0 ≤ k) (h1 : k < xs.length) : atI xs k = xs[k.toNat]? := by
  unfold atI ixN
  rw [if_pos h0, if_pos h1]
  rfl
/-- a row of whole numbers falls, by neighbours or by places -/
theorem falls_two {xs : List PyData} (h : ∀ x ∈ xs, isW x = true) : ((rangeD 1 (((xs.length : Int)) - 1).toNat).filter (upAt xs)).isEmpty = (zipD xs (xs.drop 1)).all geT := by
  rw [Bool.eq_iff_iff, List.isEmpty_iff, List.filter_eq_nil_iff, List.all_eq_true]
  have wi : ∀ {i : Nat} {x : PyData}, xs[i]? = some x → ∃ a, x = .int a := fun {i x} e => by
    have := h x (List.mem_of_getElem? e)
    cases x <;> first | exact ⟨_, rfl⟩ | cases this
  have ia : ∀ {i : Nat} {a : Int}, xs[i]? = some (.int a) → intAt xs i = a := fun {i a} e => by
    have hl := (List.getElem?_eq_some_iff.mp e).1
    unfold intAt
    rw [atI_get xs (by omega) (by omega), Int.toNat_natCast, e]
  constructor
  · intro k d hd
    obtain ⟨i, hi, e⟩ := List.getElem_of_mem hd
    obtain ⟨a, b, e1, e2, rfl⟩ := zipD_get (List.getElem?_eq_some_iff.mpr ⟨hi, e⟩)
    obtain ⟨a, rfl⟩ := wi e1
    rw [List.getElem?_drop] at e2
    obtain ⟨b, rfl⟩ := wi e2
    have hl := (List.getElem?_eq_some_iff.mp e2).1
    have hm : PyData.int ((i + 1 : Nat) : Int) ∈ rangeD 1 ((xs.length : Int) - 1).toNat := by
      unfold rangeD
      refine List.mem_map.mpr ⟨i, List.mem_range.mpr (by omega), ?_⟩
      congr 1
      omega
    have z := k _ hm
    have z2 : ¬ decide (intAt xs (((i + 1 : Nat) : Int) - 1) < intAt xs ((i + 1 : Nat) : Int)) = true := z
    rw [decide_eq_true_eq, show (((i + 1 : Nat) : Int) - 1) = ((i : Nat) : Int) by omega, ia e1, ia (i := i + 1) (by rw [Nat.add_comm]; exact e2)] at z2
    show decide (a ≥ b) = true
    rw [decide_eq_true_eq]
    omega
  · intro k x hx
    obtain ⟨j, rfl, a, b⟩ := rangeD_mem hx
    have hj : (j - 1).toNat + 1 < xs.length := by omega
    have g1 : xs[(j - 1).toNat]? = some xs[(j - 1).toNat] := List.getElem?_eq_getElem (by omega)
    have g2 : xs[(j - 1).toNat + 1]? = some xs[(j - 1).toNat + 1] := List.getElem?_eq_getElem hj
    obtain ⟨u, eu⟩ := wi g1
    obtain ⟨v, ev⟩ := wi g2
    rw [eu] at g1
    rw [ev] at g2
    have hz : (zipD xs (xs.drop 1))[(j - 1).toNat]? = some (.tuple [.int u, .int v]) := by
      unfold zipD
      rw [List.getElem?_zipWith, g1, List.getElem?_drop, Nat.add_comm 1, g2]
    have q := k _ (List.mem_of_getElem? hz)
    have q2 : decide (u ≥ v) = true := q
    rw [decide_eq_true_eq] at q2
    show ¬ decide (intAt xs (j - 1) < intAt xs j) = true
    rw [decide_eq_true_eq]
    have e1 := ia g1
    have e2 := ia g2
    rw [show (((j - 1).toNat : Nat) : Int) = j - 1 by omega] at e1
    rw [show (((j - 1).toNat + 1 : Nat) : Int) = j by omega] at e2
    omega
end DN

namespace DN
open PySem PySem.Spec PyProof.Rows L2 DL
/-! ### rows of whole numbers, one within another -/
abbrev itp (ps : List Int) : PyData := .tuple (ps.map .int)
def Wi : List Int → List Int → Bool
  | [], _ => true
  | _ :: _, [] => false
  | p :: ps, q :: qs => decide (p ≤ q) && Wi ps qs
theorem wi_iff : ∀ {ps qs : List Int}, Wi ps qs = true ↔ ∀ (i : Nat) (p : Int), ps[i]? = some p → ∃ q, qs[i]? = some q ∧ p ≤ q
  | [], qs => by simp [Wi]
  | p :: ps, [] => by
    constructor
    · intro h; cases h
    · intro k
      obtain ⟨q, e, _⟩ := k 0 p rfl
      cases e
  | p :: ps, q :: qs => by
    rw [show Wi (p :: ps) (q :: qs) = (decide (p ≤ q) && Wi ps qs) from rfl, Bool.and_eq_true, decide_eq_true_eq, wi_iff]
    constructor
    · rintro ⟨h, k⟩ i x e
      cases i with
      | zero =>
        simp at e
        subst e
        exact ⟨q, rfl, h⟩
      | succ i =>
        obtain ⟨y, e2, h2⟩ := k i x (by simpa using e)
        exact ⟨y, by simpa using e2, h2⟩
    · intro k
      refine ⟨?_, fun i x e => ?_⟩
      · obtain ⟨y, e, h⟩ := k 0 p rfl
        simp at e
        subst e
        exact h
      · obtain ⟨y, e2, h2⟩ := k (i + 1) x (by simpa using e)
        exact ⟨y, by simpa using e2, h2⟩
theorem wi_trans {a b c : List Int} (h1 : Wi a b = true) (h2 : Wi b c = true) : Wi a c = true := by
  rw [wi_iff] at h1 h2 ⊢
  intro i p e
  obtain ⟨q, e1, l1⟩ := h1 i p e
  obtain ⟨r, e2, l2⟩ := h2 i q e1
  exact ⟨r, e2, by omega⟩
def over (k : Int) (ps : List Int) : List Int := ps.filter fun x => decide (x > k)
def cols (ps : List Int) : List Int := match ps with
  | [] => []
  | p :: r => (List.range p.toNat).map fun k => ((over (k : Nat) (p :: r)).length : Int)
theorem cnt_iff (k : Int) : ∀ {ps : List Int}, ps.Pairwise (· ≥ ·) → ∀ i : Nat, (i < (over k ps).length ↔ ∃ p, ps[i]? = some p ∧ p > k)
  | [], _, i => by simp [over]
  | p :: r, h, i => by
    obtain ⟨h1, h2⟩ := List.pairwise_cons.mp h
    unfold over
    by_cases hp : p > k
    · rw [List.filter_cons, if_pos (by simpa using hp), List.length_cons]
      cases i with
      | zero => exact ⟨fun _ => ⟨p, rfl, hp⟩, fun _ => by omega⟩
      | succ i =>
        have ih := cnt_iff k h2 i
        unfold over at ih
        rw [List.getElem?_cons_succ, ← ih]
        omega
    · have : (p :: r).filter (fun x => decide (x > k)) = [] := List.filter_eq_nil_iff.mpr fun x hx => by
        rw [decide_eq_true_eq]
        rcases List.mem_cons.mp hx with rfl | hx
        · exact hp
        · have := h1 x hx
          omega
      rw [this]
      constructor
      · intro z; cases z
      · rintro ⟨x, e, z⟩
        have hx := List.mem_of_getElem? e
        rcases List.mem_cons.mp hx with rfl | hx
        · exact absurd z hp
        · have := h1 x hx
          omega
theorem cols_get {ps : List Int} {k : Nat} {c : Int} : (cols ps)[k]? = some c ↔ ∃ p, ps[0]? = some p ∧ (k : Int) < p ∧ c = ((over k ps).length : Int) := by
  cases ps with
  | nil => simp [cols]
  | cons p r =>
    show ((List.range p.toNat).map fun k => ((over (k : Nat) (p :: r)).length : Int))[k]? = some c ↔ _
    rw [List.getElem?_map]
    constructor
    · intro h
      obtain ⟨i, e, rfl⟩ := Option.map_eq_some_iff.mp h
      obtain ⟨hl, rfl⟩ := List.getElem?_eq_some_iff.mp e
      rw [List.length_range] at hl
      refine ⟨p, rfl, by omega, ?_⟩
      rw [List.getElem_range]
    · rintro ⟨q, e, hk, rfl⟩
      simp at e
      subst e
      rw [List.getElem?_range (by omega)]
      rfl
theorem fall0 {ps : List Int} (h : ps.Pairwise (· ≥ ·)) {i : Nat} {p : Int} (e : ps[i]? = some p) : ∃ q, ps[0]? = some q ∧ p ≤ q := by
  cases ps with
  | nil => cases e
  | cons q r =>
    refine ⟨q, rfl, ?_⟩
    rcases List.mem_cons.mp (List.mem_of_getElem? e) with rfl | hx
    · exact Int.le_refl _
    · exact (List.pairwise_cons.mp h).1 p hx
theorem wi_cols {ps qs : List Int} (hp : ps.Pairwise (· ≥ ·)) (hq : qs.Pairwise (· ≥ ·)) (p1 : ∀ p ∈ ps, 1 ≤ p) : Wi (cols ps) (cols qs) = Wi ps qs := by
  rw [Bool.eq_iff_iff, wi_iff, wi_iff]
  constructor
  · intro h i p e
    have h1 := p1 p (List.mem_of_getElem? e)
    obtain ⟨p0, e0, l0⟩ := fall0 hp e
    obtain ⟨c, e2, hle⟩ := h (p - 1).toNat _ (cols_get.mpr ⟨p0, e0, by omega, rfl⟩)
    obtain ⟨q0, _, _, rfl⟩ := cols_get.mp e2
    have z1 : i < (over ((p - 1).toNat : Nat) ps).length := (cnt_iff _ hp i).mpr ⟨p, e, by omega⟩
    obtain ⟨q, e3, z3⟩ := (cnt_iff _ hq i).mp (show i < (over ((p - 1).toNat : Nat) qs).length by omega)
    exact ⟨q, e3, by omega⟩
  · intro h k c e
    obtain ⟨p0, e0, hk, rfl⟩ := cols_get.mp e
    obtain ⟨q0, f0, h0⟩ := h 0 p0 e0
    refine ⟨_, cols_get.mpr ⟨q0, f0, by omega, rfl⟩, ?_⟩
    have : ¬ (over k qs).length < (over k ps).length := fun z => by
      obtain ⟨p, e1, z1⟩ := (cnt_iff _ hp _).mp z
      obtain ⟨q, e2, z2⟩ := h _ _ e1
      have := (cnt_iff k hq _).mpr ⟨q, e2, by omega⟩
      omega
    omega
def leT : PyData → Bool
  | .tuple [.int a, .int b] => decide (a ≤ b)
  | _ => false
theorem wi_zip : ∀ ps qs : List Int, (decide ((ps.length : Int) ≤ (qs.length : Int)) && (zipD (ps.map .int) (qs.map .int)).all leT) = Wi ps qs
  | [], qs => by
    rw [decide_eq_true (by simp)]
    rfl
  | p :: ps, [] => by
    rw [decide_eq_false (by simp)]
    rfl
  | p :: ps, q :: qs => by
    rw [show Wi (p :: ps) (q :: qs) = (decide (p ≤ q) && Wi ps qs) from rfl, ← wi_zip ps qs]
    show (_ && (decide (p ≤ q) && (zipD (ps.map .int) (qs.map .int)).all leT)) = _
    have : decide (((p :: ps).length : Int) ≤ ((q :: qs).length : Int)) = decide ((ps.length : Int) ≤ (qs.length : Int)) := by
      rw [decide_eq_decide, List.length_cons, List.length_cons]
      omega
    rw [this]
    cases decide ((ps.length : Int) ≤ (qs.length : Int)) <;> cases decide (p ≤ q) <;> rfl
theorem rangeD_cons (lo : Int) (n : Nat) : rangeD lo (n + 1) = .int lo :: rangeD (lo + 1) n := by
  unfold rangeD
  rw [List.range_succ_eq_map, List.map_cons, List.map_map]
  congr 1
  · simp
  · refine List.map_congr_left fun i _ => ?_
    show PyData.int (lo + ((i + 1 : Nat) : Int)) = .int (lo + 1 + (i : Nat))
    congr 1
    omega
theorem map_at {ps : List Int} {i : Nat} {p : Int} (e : ps[i]? = some p) : atI (ps.map PyData.int) (i : Nat) = some (.int p) := by
  have hl := (List.getElem?_eq_some_iff.mp e).1
  rw [atI_get _ (by omega) (by rw [List.length_map]; omega), Int.toNat_natCast, List.getElem?_map, e]
  rfl
theorem fIx_row {ps : List Int} {i : Nat} {p : Int} (e : ps[i]? = some p) (S : Sto) : fIx (.d (itp ps)) (.d (.int (i : Nat))) S = some (.d (.int p)) := by
  show (atI (ps.map PyData.int) (i : Nat)).map _ = _
  rw [map_at e]
  rfl
/-! ### what a generator expression hands on, item by item -/
theorem gx_map {tgt : TgD} {te : M} {ρ : RE} {S : Sto} {f : PyData → PyData} : ∀ xs : List PyData, (∀ x ∈ xs, ∃ ρ1, tgt x ρ = some ρ1 ∧ te ρ1 S = some (.d (f x), S)) → gxGo stopNo tgt bYes te ρ xs S = some (xs.map f, true, S)
  | [], _ => rfl
  | x :: xs, h => by
    obtain ⟨ρ1, e1, e2⟩ := h x (by simp)
    have ih := gx_map (te := te) xs fun y hy => h y (List.mem_cons_of_mem _ hy)
    show (tgt x ρ).bind _ = _
    rw [e1]
    show (te ρ1 S).bind _ = _
    rw [e2]
    show (gxGo stopNo tgt bYes te ρ xs S).bind _ = _
    rw [ih]
    rfl
theorem gx_ones {tgt : TgD} {tt : MB} {ρ : RE} {S : Sto} {f : PyData → Bool} : ∀ xs : List PyData, (∀ x ∈ xs, ∃ ρ1, tgt x ρ = some ρ1 ∧ tt ρ1 S = some (f x, S)) → gxGo stopSum tgt tt (mC (.int 1)) ρ xs S = some (List.replicate (xs.filter f).length (.int 1), true, S)
  | [], _ => rfl
  | x :: xs, h => by
    obtain ⟨ρ1, e1, e2⟩ := h x (by simp)
    have ih := gx_ones (tt := tt) xs fun y hy => h y (List.mem_cons_of_mem _ hy)
    show (tgt x ρ).bind _ = _
    rw [e1]
    show (tt ρ1 S).bind _ = _
    rw [e2]
    cases hf : f x with
    | false =>
      rw [List.filter_cons, hf]
      exact ih
    | true =>
      rw [List.filter_cons, hf]
      show (gxGo stopSum tgt tt (mC (.int 1)) ρ xs S).bind _ = _
      rw [ih]
      rfl
theorem isum_ones : ∀ n : Nat, isum (List.replicate n (.int 1)) = n
  | 0 => rfl
  | n + 1 => by
    show 1 + isum (List.replicate n (.int 1)) = _
    rw [isum_ones n]
    omega
/-! ### a feed in the store, and what lies behind it -/
def Fd (T : ASto) (j k : Nat) (S : Sto) : Prop := j < T.length ∧ RSt (T.set j (.feed k)) S
theorem Fd.of {T : ASto} {j k : Nat} {S : Sto} (h : T[j]? = some (.feed k)) (hs : RSt T S) : Fd T j k S := by
  obtain ⟨hl, e⟩ := List.getElem?_eq_some_iff.mp h
  refine ⟨hl, ?_⟩
  rw [← e, List.set_getElem_self]
  exact hs
theorem Fd.len {T : ASto} {j k : Nat} {S : Sto} (h : Fd T j k S) : S.length = T.length := by
  have := h.2.len
  rw [List.length_set] at this
  exact this.symm
theorem Fd.mono {T : ASto} {j k l : Nat} {S : Sto} (h : Fd T j k S) (hk : k ≤ l) : Fd T j l S := by
  refine ⟨h.1, ?_⟩
  have e : (T.set j (.feed k))[j]? = some (.feed k) := List.getElem?_set_self h.1
  obtain ⟨c, ec, g⟩ := stF h.2 e
  have z := All2.set (R := RC) (show RC (.feed l) (.l c) from Feed.mono g hk) j h.2
  rw [List.set_set] at z
  obtain ⟨hl, e2⟩ := List.getElem?_eq_some_iff.mp ec
  rw [← e2, List.set_getElem_self] at z
  exact z
theorem Fd.draw {T : ASto} {j k : Nat} {S : Sto} (E : Sto) {many : Int} (h : Fd T j k S) (hk : k ≤ 9999999) (hp : 0 < many) (hl : many ≤ 1000000) :
    ∃ r S', FDraw [.c j, .d (.int many)] (S ++ E) = some (.d (.int r), S' ++ E) ∧ 0 ≤ r ∧ r < many ∧ Fd T j (k + 1) S' := by
  have e : (T.set j (.feed k))[j]? = some (.feed k) := List.getElem?_set_self h.1
  obtain ⟨c, ec, ms, i, q, n, hm, rfl, h0, h1, h2⟩ := stF h.2 e
  have hj : j < S.length := (List.getElem?_eq_some_iff.mp ec).1
  obtain ⟨r, i', c', f, r0, r1, i0⟩ := draw_spec (S := S ++ E) (j := j) (many := many) (by rw [List.getElem?_append_left hj]; exact ec) hm h0 h1 (by omega) hp (log2_small (by omega) (by omega))
  refine ⟨r, S.set j (feedC ms i' c' (n + 1)), ?_, r0, r1, h.1, ?_⟩
  · rw [f, List.set_append_left _ _ hj]
  · have z := All2.set (R := RC) (show RC (.feed (k + 1)) (.l (feedC ms i' c' (n + 1))) from ⟨ms, i', c', n + 1, hm, rfl, i0, by omega, by omega⟩) j h.2
    rw [List.set_set] at z
    exact z
theorem append_at {a b : M} {ρ : RE} {S : Sto} {ds : List PyData} {y : PyData} (h1 : a ρ (S ++ [Cell.l ds]) = some (.c S.length, S ++ [Cell.l ds])) (h2 : b ρ (S ++ [Cell.l ds]) = some (.d y, S ++ [Cell.l ds])) (hl : ds.length < 1000000) : mAppend a b ρ (S ++ [Cell.l ds]) = some (.d .none, S ++ [Cell.l (ds ++ [y])]) := by
  unfold mAppend
  rw [h1]
  show (b ρ (S ++ [Cell.l ds])).bind _ = _
  rw [h2]
  show (if (lAt (S ++ [Cell.l ds]) S.length).isSome = true then (lAt (S ++ [Cell.l ds]) S.length).bind _ else none) = _
  rw [last_l]
  show (if ds.length < 1000000 then some (PV.d .none, (S ++ [Cell.l ds]).set S.length (Cell.l (ds ++ [y]))) else none) = _
  rw [if_pos hl, last_set]
end DN

namespace DN
open PySem PySem.Spec PyProof.Rows L2 DL
/-! ### first sums, and what columns make of them -/
def pre (ps : List Int) (k : Nat) : Int := (ps.take k).sum
def Dom (ps qs : List Int) : Prop := ps.sum = qs.sum ∧ ∀ k, pre qs k ≤ pre ps k
def lowS (ps : List Int) (k : Int) : Int := match ps with
  | [] => 0
  | p :: r => (if p < k then p else k) + lowS r k
def exS (ps : List Int) (k : Int) : Int := match ps with
  | [] => 0
  | p :: r => (if p > k then p - k else 0) + exS r k
theorem pre_cons (p : Int) (r : List Int) (t : Nat) : pre (p :: r) (t + 1) = p + pre r t := by
  unfold pre
  rw [List.take_succ_cons, List.sum_cons]
theorem pre_zero (ps : List Int) : pre ps 0 = 0 := by
  unfold pre
  simp
theorem pre_nil (t : Nat) : pre [] t = 0 := by
  unfold pre
  simp
theorem pre_all {ps : List Int} {t : Nat} (h : ps.length ≤ t) : pre ps t = ps.sum := by
  unfold pre
  rw [List.take_of_length_le h]
theorem low_ex (k : Int) : ∀ ps : List Int, lowS ps k + exS ps k = ps.sum
  | [] => rfl
  | p :: r => by
    have := low_ex k r
    unfold lowS exS
    rw [List.sum_cons]
    split <;> split <;> omega
theorem ex_nonneg (k : Int) : ∀ ps : List Int, 0 ≤ exS ps k
  | [] => Int.le_refl _
  | p :: r => by
    have := ex_nonneg k r
    unfold exS
    split <;> omega
theorem succ_mul' (t : Nat) (k : Int) : ((t + 1 : Nat) : Int) * k = (t : Int) * k + k := by
  rw [Int.natCast_add, Int.add_mul]
  omega
theorem pre_ex {k : Int} (hk : 0 ≤ k) : ∀ (ps : List Int) (t : Nat), pre ps t - t * k ≤ exS ps k
  | [], t => by
    have : 0 ≤ (t : Int) * k := Int.mul_nonneg (by omega) hk
    rw [pre_nil]
    unfold exS
    omega
  | p :: r, 0 => by
    rw [pre_zero]
    have := ex_nonneg k (p :: r)
    simp
    exact this
  | p :: r, t + 1 => by
    have ih := pre_ex hk r t
    rw [pre_cons, succ_mul']
    unfold exS
    split <;> omega
theorem ex_low {k : Int} : ∀ {ps : List Int}, (∀ p ∈ ps, p ≤ k) → exS ps k = 0
  | [], _ => rfl
  | p :: r, h => by
    have := h p (by simp)
    unfold exS
    rw [if_neg (by omega), ex_low fun q hq => h q (List.mem_cons_of_mem _ hq)]
    rfl
theorem ex_some (k : Int) : ∀ {ps : List Int}, ps.Pairwise (· ≥ ·) → ∃ t : Nat, exS ps k = pre ps t - t * k
  | [], _ => ⟨0, by simp [exS, pre]⟩
  | p :: r, h => by
    obtain ⟨h1, h2⟩ := List.pairwise_cons.mp h
    by_cases hp : p > k
    · obtain ⟨t, e⟩ := ex_some k h2
      refine ⟨t + 1, ?_⟩
      rw [pre_cons, succ_mul']
      unfold exS
      rw [if_pos hp]
      omega
    · refine ⟨0, ?_⟩
      rw [pre_zero, ex_low fun q hq => ?_]
      · simp
      · rcases List.mem_cons.mp hq with rfl | hq
        · omega
        · have := h1 q hq
          omega
theorem at_some : ∀ {ps : List Int} (t : Nat), ps.Pairwise (· ≥ ·) → (∀ p ∈ ps, 0 ≤ p) → ∃ k : Int, (k = 0 ∨ k ∈ ps) ∧ 0 ≤ k ∧ exS ps k = pre ps t - t * k
  | [], t, _, _ => ⟨0, .inl rfl, Int.le_refl _, by rw [pre_nil]; simp [exS]⟩
  | p :: r, 0, h, h0 => by
    obtain ⟨h1, h2⟩ := List.pairwise_cons.mp h
    refine ⟨p, .inr (by simp), h0 p (by simp), ?_⟩
    rw [pre_zero, ex_low fun q hq => ?_]
    · simp
    · rcases List.mem_cons.mp hq with rfl | hq
      · exact Int.le_refl _
      · exact h1 q hq
  | p :: r, t + 1, h, h0 => by
    obtain ⟨h1, h2⟩ := List.pairwise_cons.mp h
    obtain ⟨k, hk, k0, e⟩ := at_some t h2 fun q hq => h0 q (List.mem_cons_of_mem _ hq)
    have hkp : k ≤ p := by
      rcases hk with rfl | hk
      · exact h0 p (by simp)
      · exact h1 k hk
    refine ⟨k, hk.imp id (List.mem_cons_of_mem _), k0, ?_⟩
    rw [pre_cons, succ_mul']
    unfold exS
    split <;> omega
theorem over_cons (k p : Int) (r : List Int) : ((over k (p :: r)).length : Int) = (if p > k then 1 else 0) + ((over k r).length : Int) := by
  unfold over
  rw [List.filter_cons]
  by_cases hp : p > k
  · rw [if_pos (decide_eq_true hp), if_pos hp, List.length_cons]
    omega
  · rw [if_neg (by rw [decide_eq_true_eq]; exact hp), if_neg hp]
    omega
theorem low_step (k : Int) : ∀ ps : List Int, lowS ps (k + 1) = lowS ps k + ((over k ps).length : Int)
  | [] => by simp [lowS, over]
  | p :: r => by
    have ih := low_step k r
    rw [over_cons]
    unfold lowS
    rw [ih]
    split <;> split <;> split <;> omega
theorem low_zero : ∀ {ps : List Int}, (∀ p ∈ ps, 0 ≤ p) → lowS ps 0 = 0
  | [], _ => rfl
  | p :: r, h => by
    have := h p (by simp)
    unfold lowS
    rw [if_neg (by omega), low_zero fun q hq => h q (List.mem_cons_of_mem _ hq)]
    rfl
theorem pre_succ (ps : List Int) (k : Nat) : pre ps (k + 1) = pre ps k + (ps[k]?).getD 0 := by
  unfold pre
  rw [List.take_succ, List.sum_append]
  cases ps[k]? <;> simp
theorem cols_pre {ps : List Int} (hf : ps.Pairwise (· ≥ ·)) (h0 : ∀ p ∈ ps, 0 ≤ p) : ∀ k : Nat, pre (cols ps) k = lowS ps k
  | 0 => by rw [pre_zero]; exact (low_zero h0).symm
  | k + 1 => by
    rw [pre_succ, cols_pre hf h0 k, Int.natCast_add]
    show _ = lowS ps ((k : Int) + 1)
    rw [low_step]
    congr 1
    cases e : (cols ps)[k]? with
    | some c =>
      obtain ⟨_, _, _, rfl⟩ := cols_get.mp e
      rfl
    | none =>
      show (0 : Int) = _
      have : (over k ps).length = 0 := by
        by_cases hz : 0 < (over k ps).length
        · obtain ⟨p, e1, h1⟩ := (cnt_iff k hf 0).mp hz
          have := cols_get.mpr ⟨p, e1, by omega, rfl⟩
          rw [e] at this
          cases this
        · omega
      omega
theorem low_big : ∀ {ps : List Int} {k : Int}, (∀ p ∈ ps, p ≤ k) → lowS ps k = ps.sum := fun {ps k} h => by
  have := low_ex k ps
  rw [ex_low h] at this
  omega
theorem bound_of : ∀ ps : List Int, ∃ K : Nat, ∀ p ∈ ps, p ≤ K
  | [] => ⟨0, fun _ h => nomatch h⟩
  | p :: r => by
    obtain ⟨K, h⟩ := bound_of r
    refine ⟨K + p.toNat, fun q hq => ?_⟩
    rcases List.mem_cons.mp hq with rfl | hq
    · omega
    · have := h q hq
      omega
theorem cols_sum {ps : List Int} (hf : ps.Pairwise (· ≥ ·)) (h0 : ∀ p ∈ ps, 0 ≤ p) : (cols ps).sum = ps.sum := by
  obtain ⟨K, hK⟩ := bound_of ps
  rw [← low_big (ps := ps) (k := ((K + (cols ps).length : Nat) : Int)) fun p hp => by have := hK p hp; omega, ← cols_pre hf h0, pre_all (by omega)]
theorem dom_cols {ps qs : List Int} (pf : ps.Pairwise (· ≥ ·)) (qf : qs.Pairwise (· ≥ ·)) (p0 : ∀ p ∈ ps, 0 ≤ p) (q0 : ∀ p ∈ qs, 0 ≤ p) : Dom (cols qs) (cols ps) ↔ Dom ps qs := by
  unfold Dom
  rw [cols_sum pf p0, cols_sum qf q0]
  constructor
  · rintro ⟨hs, h⟩
    refine ⟨hs.symm, fun t => ?_⟩
    obtain ⟨k, _, k0, e⟩ := at_some t pf p0
    have z := h k.toNat
    rw [cols_pre pf p0, cols_pre qf q0, show ((k.toNat : Nat) : Int) = k by omega] at z
    have a := pre_ex k0 qs t
    have b := low_ex k ps
    have c := low_ex k qs
    omega
  · rintro ⟨hs, h⟩
    refine ⟨hs.symm, fun k => ?_⟩
    rw [cols_pre pf p0, cols_pre qf q0]
    obtain ⟨t, e⟩ := ex_some (k : Int) qf
    have a := pre_ex (k := (k : Int)) (by omega) ps t
    have b := low_ex k ps
    have c := low_ex k qs
    have z := h t
    omega
theorem dom_far {ps qs : List Int} {N : Nat} (h1 : ps.length ≤ N) (h2 : qs.length ≤ N) (hs : ps.sum = qs.sum) (h : ∀ k, k ≤ N → pre qs k ≤ pre ps k) : Dom ps qs := by
  refine ⟨hs, fun k => ?_⟩
  by_cases hk : k ≤ N
  · exact h k hk
  · rw [pre_all (by omega), pre_all (by omega), hs]
    exact Int.le_refl _
end DN

/-! the engine: pure defs run at known data; a drawn number gone through -/
namespace DN
open PySem PySem.Spec PyProof.Rows L2 DK DL
section
variable [Feed]
/-- all of these known to the datum -/
def exAll : List APV → Option (List PyData)
  | [] => some []
  | .d (.ex d) :: r => (exAll r).map (d :: ·)
  | _ => none
theorem exAll_ok : ∀ {vs : List APV} {ds : List PyData} {xs : List PV}, exAll vs = some ds → All2 RV vs xs → xs = ds.map .d
  | [], ds, _, h, .nil => by cases h; rfl
  | v :: r, ds, _, h, .cons (b := x) g t => by
    unfold exAll at h
    split at h
    · rename_i e; cases e
    · rename_i d r' e
      cases e
      obtain ⟨l, e2, rfl⟩ := Option.map_eq_some_iff.mp h
      rw [exAll_ok e2 t]
      cases x with
      | d y => rw [show y = d from g]; rfl
      | c i => exact g.elim
    · cases h
/-- a def that is pure, run at known data -/
def xPure (F : FV) [FrF F] : SF where
  F := F
  a := fun vs T => (exAll vs).bind fun ds => match F (ds.map .d) [] with
    | some (.d x, []) => some [(.d (.ex x), T)]
    | _ => none
  ok := fun {vs T l} e {xs S} hv hT => by
    obtain ⟨ds, e1, e⟩ := Option.bind_eq_some_iff.mp e
    have hx := exAll_ok e1 hv
    subst hx
    try dsimp only at e
    split at e
    · rename_i x q
      cases e
      have z := frame q S
      rw [List.append_nil] at z
      exact ⟨_, List.mem_singleton.mpr rfl, .d x, S, z, rfl, hT⟩
    · cases e
def xPureL (F : FL) [FrFL F] : SFL where
  F := F
  a := fun vs T => (exAll vs).bind fun ds => match F (ds.map .d) [] with
    | some (x, []) => some [(.exs (x.map .ex), T)]
    | _ => none
  ok := fun {vs T l} e {xs S} hv hT => by
    obtain ⟨ds, e1, e⟩ := Option.bind_eq_some_iff.mp e
    have hx := exAll_ok e1 hv
    subst hx
    try dsimp only at e
    split at e
    · rename_i x q
      cases e
      have z := frameL q S
      rw [List.append_nil] at z
      exact ⟨_, List.mem_singleton.mpr rfl, x, S, z, all_ex _, hT⟩
    · cases e
/-- a number in slot i is gone through, from 0 on -/
def xCases (i : Nat) (n : Nm) (b : SS) : SS where
  m := b.m
  a := fun A T => match (A[i]? : Option (Option APV)) with
    | some (some (.d (.int lo hi))) => if 0 ≤ lo ∧ hi ≤ 1000 then (bindL (List.range (hi + 1).toNat) fun j => b.a (A.set i (some (.d (.ex (.int ((j : Nat) : Int)))))) T).map n.f else none
    | _ => b.a A T
  ok := fun {A T l} e {ρ S} hA hT => by
    split at e
    · rename_i lo hi q
      split at e
      · rename_i hz
        obtain ⟨r, e1, rfl⟩ := Option.map_eq_some_iff.mp e
        obtain ⟨o, f, g⟩ := hA.get q
        cases o with
        | none => exact g.elim
        | some x =>
          cases x with
          | c k => exact g.elim
          | d y =>
            obtain ⟨j, rfl, j0, j1⟩ := (show ∃ i, y = .int i ∧ lo ≤ i ∧ i ≤ hi from g)
            obtain ⟨s, e2, k⟩ := bindL_mem e1 (List.mem_range.mpr (show j.toNat < (hi + 1).toNat by omega))
            have ej : ((j.toNat : Nat) : Int) = j := by omega
            have hA2 : REn (A.set i (some (.d (.ex (.int ((j.toNat : Nat) : Int)))))) ρ := by
              have z := All2.set (R := RO) (a := some (.d (.ex (.int ((j.toNat : Nat) : Int))))) (b := some (.d (.int j))) (by rw [ej]; rfl) i hA
              have e3 : ρ.set i (some (.d (.int j))) = ρ := by
                obtain ⟨h1, h2⟩ := List.getElem?_eq_some_iff.mp f
                rw [← h2]
                exact List.set_getElem_self h1
              rw [e3] at z
              exact z
            obtain ⟨o', ho', out, f2, r2⟩ := b.ok e2 hA2 hT
            obtain ⟨o2, m2, r3⟩ := n.ok (k _ ho') r2
            exact ⟨o2, m2, out, f2, r3⟩
      · cases e
    · exact b.ok e hA hT
end
end DN

namespace DN
open PySem PySem.Spec PyProof.Rows L2 DK DL
section
variable [Feed]
def xRng2 (x y : SM) : SL where
  m := mRng2 x.m y.m
  a := fun A T => (x.a A T).bind fun l => bindL l fun p => (y.a A p.2).bind fun r => bindL r fun q => match p.1, q.1 with
    | .d (.ex (.int i)), .d (.ex (.int j)) => if -1000000 ≤ i ∧ i ≤ 1000000 ∧ -1000000 ≤ j ∧ j ≤ 1000000 then some [(.exs ((rangeD i (j - i).toNat).map .ex), q.2)] else none
    | _, _ => none
  ok := fun {A T l} e {ρ S} hA hT => by
    obtain ⟨l1, e1, e⟩ := Option.bind_eq_some_iff.mp e
    obtain ⟨⟨v1, T1⟩, ho1, x1, S1, f1, r1, t1⟩ := x.ok e1 hA hT
    obtain ⟨s, e2, k⟩ := bindL_mem e ho1
    obtain ⟨l2, e3, e2⟩ := Option.bind_eq_some_iff.mp e2
    obtain ⟨⟨v2, T2⟩, ho2, x2, S2, f2, r2, t2⟩ := y.ok e3 hA t1
    obtain ⟨s2, e4, k2⟩ := bindL_mem e2 ho2
    dsimp only at e4 r1 r2 t2
    split at e4
    · rename_i i j _
      split at e4
      · rename_i hz
        cases e4
        cases x1 with
        | c _ => exact r1.elim
        | d y1 => cases x2 with
          | c _ => exact r2.elim
          | d y2 =>
            have h1 : y1 = .int i := r1
            have h2 : y2 = .int j := r2
            subst h1 h2
            refine ⟨_, k _ (k2 _ (List.mem_singleton.mpr rfl)), rangeD i (j - i).toNat, S2, ?_, all_ex _, t2⟩
            show (x.m ρ S).bind _ = _
            rw [f1]
            show (y.m ρ S1).bind _ = _
            rw [f2]
            show (if -1000000 ≤ i ∧ i ≤ 1000000 ∧ -1000000 ≤ j ∧ j ≤ 1000000 then some (rangeD i (j - i).toNat, S2) else none) = _
            rw [if_pos hz]
      · cases e4
    · cases e4
end
end DN

/-! the engine: one of some data; while; any feed -/
namespace DN
open PySem PySem.Spec PyProof.Rows L2 DK DL
theorem reprOk_of {n L : Nat} {d : PyData} (h : Okk n L d) (hn : n ≤ 40) (hL : L ≤ 16777216) : reprOk d = true := by
  unfold reprOk
  rw [h.sh, h.nd, decide_eq_true (Nat.le_trans h.dp hn), decide_eq_true (Nat.le_trans h.ln hL)]
  rfl
def kRepr : CallT cRepr where
  t := fun as => match as with
    | [.ex d] => match okkD d with
      | some p => if p.1 ≤ 40 ∧ p.2 ≤ 16777216 then some (.rep d) else none
      | none => none
    | _ => none
  cel := fun {xs S ds} h => by
    by_cases hl : ds.length = 1
    · obtain ⟨d, rfl⟩ := List.length_eq_one_iff.mp hl
      obtain ⟨x, rfl, e⟩ := asDs_one h
      show (asD S x).bind (fun d => if reprOk d = true then some (PV.d (.str d.shown)) else none) = (asD S (.d d)).bind (fun d => if reprOk d = true then some (PV.d (.str d.shown)) else none)
      rw [e]
      rfl
    · have h2 : ∀ {ys : List PV}, ys.length ≠ 1 → cRepr ys S = none := fun {ys} h => by
        match ys with
        | [] => rfl
        | [x] => exact absurd rfl h
        | _ :: _ :: _ => rfl
      rw [h2 (by rw [asDs_len h]; exact hl), h2 (by rw [List.length_map]; exact hl)]
  ok := fun {as c xs S} e g => by
    split at e
    · rename_i d
      split at e
      · rename_i p q
        split at e
        · rename_i hz
          cases e
          cases g with
          | cons r t =>
            cases t
            rename_i y
            have : y = d := r
            subst this
            refine ⟨_, ?_, rfl, (okkD_ok (n := p.1) (L := p.2) q).ok⟩
            show (if reprOk y = true then some (PV.d (.str y.shown)) else none) = _
            rw [if_pos (reprOk_of (okkD_ok (n := p.1) (L := p.2) q) hz.1 hz.2)]
        · cases e
      · cases e
    · cases e
section
variable [Feed]
/-- one of some data in slot i: each gone through -/
def xCasesO (i : Nat) (n : Nm) (b : SS) : SS where
  m := b.m
  a := fun A T => match (A[i]? : Option (Option APV)) with
    | some (some (.d (.one ds))) => (bindL ds fun d => b.a (A.set i (some (.d (.ex d)))) T).map n.f
    | _ => b.a A T
  ok := fun {A T l} e {ρ S} hA hT => by
    split at e
    · rename_i ds q
      obtain ⟨r, e1, rfl⟩ := Option.map_eq_some_iff.mp e
      obtain ⟨o, f, g⟩ := hA.get q
      cases o with
      | none => exact g.elim
      | some x =>
        cases x with
        | c k => exact g.elim
        | d y =>
          obtain ⟨s, e2, k⟩ := bindL_mem e1 (show y ∈ ds from g)
          have hA2 : REn (A.set i (some (.d (.ex y)))) ρ := by
            have z := All2.set (R := RO) (a := some (.d (.ex y))) (b := some (.d y)) rfl i hA
            have e3 : ρ.set i (some (.d y)) = ρ := by
              obtain ⟨h1, h2⟩ := List.getElem?_eq_some_iff.mp f
              rw [← h2]
              exact List.set_getElem_self h1
            rw [e3] at z
            exact z
          obtain ⟨o', ho', out, f2, r2⟩ := b.ok e2 hA2 hT
          obtain ⟨o2, m2, r3⟩ := n.ok (k _ ho') r2
          exact ⟨o2, m2, out, f2, r3⟩
    · exact b.ok e hA hT
def exVals : List (APV × ASto) → Option (List PyData)
  | [] => some []
  | (.d (.ex d), _) :: r => (exVals r).map (d :: ·)
  | (.d (.one ds), _) :: r => (exVals r).map (ds ++ ·)
  | _ => none
def joinTs : List (APV × ASto) → Option ASto
  | [] => none
  | [p] => some p.2
  | p :: q :: r => (joinTs (q :: r)).bind fun U => joinS p.2 U
theorem exVals_ok : ∀ {l : List (APV × ASto)} {ds : List PyData} {o : APV × ASto} {x : PV}, exVals l = some ds → o ∈ l → RV o.1 x → RV (.d (.one ds)) x
  | p :: r, ds, o, x, h, hm, g => by
    unfold exVals at h
    split at h
    · rename_i e; cases e
    · rename_i d T r' e
      cases e
      obtain ⟨l, e2, rfl⟩ := Option.map_eq_some_iff.mp h
      rcases List.mem_cons.mp hm with rfl | hm
      · cases x with
        | c i => exact g.elim
        | d y => exact (show y ∈ d :: l by rw [show y = d from g]; exact List.mem_cons_self)
      · have z := exVals_ok e2 hm g
        cases x with
        | c i => exact z.elim
        | d y => exact List.mem_cons_of_mem _ (show y ∈ l from z)
    · rename_i d T r' e
      cases e
      obtain ⟨l, e2, rfl⟩ := Option.map_eq_some_iff.mp h
      rcases List.mem_cons.mp hm with rfl | hm
      · cases x with
        | c i => exact g.elim
        | d y => exact List.mem_append_left _ (show y ∈ d from g)
      · have z := exVals_ok e2 hm g
        cases x with
        | c i => exact z.elim
        | d y => exact List.mem_append_right _ (show y ∈ l from z)
    · cases h
theorem joinTs_ok : ∀ {l : List (APV × ASto)} {U : ASto} {o : APV × ASto} {S : Sto}, joinTs l = some U → o ∈ l → RSt o.2 S → RSt U S
  | [p], U, o, S, h, hm, g => by
    cases h
    rw [List.mem_singleton.mp hm] at g
    exact g
  | p :: q :: r, U, o, S, h, hm, g => by
    obtain ⟨V, e1, e2⟩ := Option.bind_eq_some_iff.mp h
    rcases List.mem_cons.mp hm with rfl | hm
    · exact joinS_l e2 g
    · exact joinS_r e2 (joinTs_ok e1 hm g)
/-- what a function may tell, as one of so many -/
def xGather (F : SF) : SF where
  F := F.F
  a := fun vs T => (F.a vs T).bind fun l => (exVals l).bind fun ds => (joinTs l).map fun U => [(.d (.one ds), U)]
  ok := fun {vs T l} e {xs S} hv hT => by
    obtain ⟨l1, e1, e⟩ := Option.bind_eq_some_iff.mp e
    obtain ⟨ds, e2, e⟩ := Option.bind_eq_some_iff.mp e
    obtain ⟨U, e3, rfl⟩ := Option.map_eq_some_iff.mp e
    obtain ⟨o, ho, x, S', f, r1, r2⟩ := F.ok e1 hv hT
    exact ⟨_, List.mem_singleton.mpr rfl, x, S', f, exVals_ok e2 ho r1, joinTs_ok e3 ho r2⟩
/-- .. and of an expression -/
def xGatherM (x : SM) : SM where
  m := x.m
  a := fun A T => (x.a A T).bind fun l => (exVals l).bind fun ds => (joinTs l).map fun U => [(.d (.one ds), U)]
  ok := fun {A T l} e {ρ S} hA hT => by
    obtain ⟨l1, e1, e⟩ := Option.bind_eq_some_iff.mp e
    obtain ⟨ds, e2, e⟩ := Option.bind_eq_some_iff.mp e
    obtain ⟨U, e3, rfl⟩ := Option.map_eq_some_iff.mp e
    obtain ⟨o, ho, x, S', f, r1, r2⟩ := x.ok e1 hA hT
    exact ⟨_, List.mem_singleton.mpr rfl, x, S', f, exVals_ok e2 ho r1, joinTs_ok e3 ho r2⟩
def whileA (n : Nm) (c : SB) (b : SS) : Nat → AEnv → ASto → Option (List AOut)
  | 0, _, _ => none
  | k + 1, A, T => (c.a A T).bind fun l => bindL l fun p => if p.1 = true then (b.a A p.2).bind fun os => bindL (n.f os) fun o => match o with
      | .nx A' T' => whileA n c b k A' T'
      | .ct A' T' => whileA n c b k A' T'
      | .bk A' T' => some [.nx A' T']
      | .rt v T' => some [.rt v T']
      | .rl v T' => some [.rl v T']
    else some [.nx A p.2]
theorem whileA_ok {n : Nm} {c : SB} {b : SS} : ∀ {k : Nat} {A : AEnv} {T : ASto} {l : List AOut} {ρ : RE} {S : Sto}, whileA n c b k A T = some l → REn A ρ → RSt T S → ∃ o ∈ l, ∃ out, whileGo c.m b.m k ρ S = some out ∧ ROut o out
  | 0, _, _, _, _, _, h, _, _ => by cases h
  | k + 1, A, T, l, ρ, S, h, hA, hT => by
    obtain ⟨l1, e1, e⟩ := Option.bind_eq_some_iff.mp h
    obtain ⟨p, hp, S1, f1, r1⟩ := c.ok e1 hA hT
    obtain ⟨s, e2, kk⟩ := bindL_mem e hp
    have ew : whileGo c.m b.m (k + 1) ρ S = (if p.1 = true then (b.m ρ S1).bind fun o => match o with
      | .nx ρ' S' => whileGo c.m b.m k ρ' S'
      | .ct ρ' S' => whileGo c.m b.m k ρ' S'
      | .bk ρ' S' => some (.nx ρ' S')
      | .rt v S' => some (.rt v S')
      | .rl v S' => some (.rl v S')
    else some (.nx ρ S1)) := by
      show (c.m ρ S).bind _ = _
      rw [f1]
      rfl
    rw [ew]
    by_cases hz : p.1 = true
    · rw [if_pos hz] at e2 ⊢
      obtain ⟨os, e3, e4⟩ := Option.bind_eq_some_iff.mp e2
      obtain ⟨o0, ho0, out0, f2, r2⟩ := b.ok e3 hA r1
      obtain ⟨o1, ho1, r3⟩ := n.ok ho0 r2
      obtain ⟨s2, e5, k2⟩ := bindL_mem e4 ho1
      rw [f2]
      cases out0 with
      | nx ρ' S' =>
        cases o1 <;> first | (exact r3.elim) | skip
        obtain ⟨o, ho, out, g1, g2⟩ := whileA_ok e5 r3.1 r3.2
        exact ⟨o, kk _ (k2 _ ho), out, g1, g2⟩
      | ct ρ' S' =>
        cases o1 <;> first | (exact r3.elim) | skip
        obtain ⟨o, ho, out, g1, g2⟩ := whileA_ok e5 r3.1 r3.2
        exact ⟨o, kk _ (k2 _ ho), out, g1, g2⟩
      | bk ρ' S' =>
        cases o1 <;> first | (exact r3.elim) | skip
        cases e5
        exact ⟨_, kk _ (k2 _ (List.mem_singleton.mpr rfl)), _, rfl, r3⟩
      | rt v S' =>
        cases o1 <;> first | (exact r3.elim) | skip
        cases e5
        exact ⟨_, kk _ (k2 _ (List.mem_singleton.mpr rfl)), _, rfl, r3⟩
      | rl v S' =>
        cases o1 <;> first | (exact r3.elim) | skip
        cases e5
        exact ⟨_, kk _ (k2 _ (List.mem_singleton.mpr rfl)), _, rfl, r3⟩
    · rw [if_neg hz] at e2 ⊢
      cases e2
      exact ⟨_, kk _ (List.mem_singleton.mpr rfl), _, rfl, hA, r1⟩
def xWhile (k : Nat) (n : Nm) (c : SB) (b : SS) : SS where
  m := sWhile (fun _ _ => k) c.m b.m
  a := fun A T => whileA n c b k A T
  ok := fun {A T l} e {ρ S} hA hT => whileA_ok e hA hT
/-! ### a feed, whatever its kind -/
structure DrawSpec (FD : FV) (FF : FL) : Prop where
  fed : ∀ ns : List Int, ns.length ≤ 63 → ∃ c, FF [.d (.list (ns.map .int))] [] = some (c, []) ∧ Feed.P 0 c
  drw : ∀ {S : Sto} {j k : Nat} {c : List PyData} {many : Int}, S[j]? = some (.l c) → Feed.P k c → k ≤ 99999999 → 0 < many → many.natAbs < 2 ^ 8999 → ∃ (r : Int) (c' : List PyData), FD [.c j, .d (.int many)] S = some (.d (.int r), S.set j (.l c')) ∧ 0 ≤ r ∧ r < many ∧ Feed.P (k + 1) c'
def xDrawX {FD : FV} {FF : FL} (D : DrawSpec FD FF) (enum : Bool) : SF where
  F := FD
  a := drawA enum
  ok := fun {vs T l} e {xs S} hv hT => by
    unfold drawA at e
    split at e
    · rename_i j v
      split at e
      · rename_i k lo hi e1 e2
        split at e
        · rename_i hz
          cases hv with
          | cons r1 t => cases t with
            | cons r2 t2 =>
              cases t2
              rename_i x1 x2
              cases x1 with
              | d y => exact r1.elim
              | c j' =>
                have ej : j = j' := r1
                subst ej
                cases x2 with
                | c i => exact r2.elim
                | d y =>
                  obtain ⟨i, rfl, a1, a2⟩ := asInt_ok e2 r2
                  have hi8 : i.natAbs < 2 ^ 8999 := by
                    have h1 : i < 2 ^ 8000 := Int.lt_of_le_of_lt a2 hz.2.2
                    exact lt_up (c := 8000) (by omega) h1 (by decide)
                  obtain ⟨c, ec, hc⟩ := stF hT e1
                  obtain ⟨r, c', f, r0, r1', t0⟩ := D.drw (many := i) ec hc hz.1 (by omega) hi8
                  have t' : RSt (T.set j (.feed (k + 1))) (S.set j (.l c')) := All2.set (R := RC) (show RC (.feed (k + 1)) (.l c') from t0) j hT
                  split at e
                  · cases e
                    refine ⟨_, List.mem_map.mpr ⟨r.toNat, List.mem_range.mpr (by omega), rfl⟩, .d (.int r), _, f, ?_, t'⟩
                    show PyData.int r = .int ((r.toNat : Nat) : Int)
                    congr 1
                    omega
                  · cases e
                    refine ⟨_, List.mem_singleton.mpr rfl, .d (.int r), _, f, ?_, t'⟩
                    show γ (if hi = 1 then .ex (.int 0) else .int 0 (hi - 1)) (.int r)
                    split
                    · have : r = 0 := by omega
                      rw [this]; rfl
                    · exact ⟨r, rfl, r0, by omega⟩
        · cases e
      · cases e
    · cases e
theorem lawX {FD : FV} {FF : FL} (D : DrawSpec FD FF) {N : Nat} {rest : SS} (h : ∃ l, rest.a (((none : Option APV) :: some (.c 0) :: List.replicate N none)) [.feed 0] = some l ∧ l.all isTrue = true) :
    ∀ ns : List Int, ns.length ≤ 63 → ∃ S', runF (N + 2) (sSeq (sOwn 1 (mFnL 1 FF (mCons (mVar 0) mNil))) rest.m) [.d (.list (ns.map .int))] [] = some (.d (.bool true), S') := by
  intro ns hns
  obtain ⟨l, e, hl⟩ := h
  obtain ⟨c, ef, hc⟩ := D.fed ns hns
  generalize PyData.list (ns.map .int) = sc at ef
  have hen : REn ((none : Option APV) :: some (.c 0) :: List.replicate N none) (some (.d sc) :: some (.c 0) :: List.replicate N none) := by
    refine .cons trivial (.cons rfl ?_)
    have : ∀ m : Nat, REn (List.replicate m none) (List.replicate m none) := fun m => by
      induction m with
      | zero => exact .nil
      | succ m ih => exact .cons trivial ih
    exact this N
  have hst : RSt [.feed 0] [.l c] := .cons hc .nil
  obtain ⟨o, ho, out, f, r⟩ := rest.ok e hen hst
  have ht := List.all_eq_true.mp hl o ho
  have hout : ∃ S, out = .rt (.d (.bool true)) S := by
    unfold isTrue at ht
    split at ht
    · cases out <;> first | (exact r.elim) | skip
      rename_i v S
      cases v with
      | c i => exact r.1.elim
      | d y => exact ⟨S, by rw [show y = .bool true from r.1]⟩
    · cases ht
  obtain ⟨S, rfl⟩ := hout
  refine ⟨S.take 0, ?_⟩
  have hs : ([PV.d sc] : List PV).map some ++ List.replicate (N + 2 - [PV.d sc].length) none = some (.d sc) :: none :: List.replicate N none := by
    show some (PV.d sc) :: List.replicate (N + 1) none = _
    rw [List.replicate_succ]
  refine (runF_end (o := .rt (.d (.bool true)) S) ?_).trans rfl
  rw [hs]
  rw [sSeq_nx (sOwn_of (mFnL_of (n := 1) rfl rfl ef))]
  exact f
end
end DN

/-! the feed of k55 to k72 -/
namespace DN
open PySem PySem.Spec PyProof.Rows L2 DK DL
def gDrawB : MS :=
    (sSeq (sIf (asB (mOp fGt (mOp fIx (mVar 0) (mC (.int (2)))) (mC (.int (0))))) (sSeq (sSet 2 (mOp fMod (mOp fIx (mVar 0) (mC (.int (2)))) (mVar 1)))
    (sSeq (sPut (mVar 0) (mC (.int (2))) (mOp fDiv (mOp fIx (mVar 0) (mC (.int (2)))) (mVar 1)))
    (sRet (mVar 2)))) sNil)
    (sSeq (sSet 3 (mOp fIx (mVar 0) (mC (.int (1)))))
    (sSeq (sPut (mVar 0) (mC (.int (1))) (mOp fAdd (mVar 3) (mC (.int (1)))))
    (sSeq (sSet 4 (mIf (asB (mOp fNe (mOp fIx (mVar 0) (mC (.int (0)))) (mFz (mLst mNil)))) (mOp fIx (mOp fIx (mVar 0) (mC (.int (0)))) (mOp fMod (mVar 3) (mCall cLen (mCons (mOp fIx (mVar 0) (mC (.int (0)))) mNil)))) (mC (.int (5)))))
    (sSeq (sIf (bAnd (asB (mOp fGe (mVar 4) (mOp fPow (mC (.int (10))) (mC (.int (18)))))) (asB (mOp fLt (mVar 3) (mCall cLen (mCons (mOp fIx (mVar 0) (mC (.int (0)))) mNil))))) (sSeq (sPut (mVar 0) (mC (.int (2))) (mOp fDiv (mVar 4) (mVar 1)))
    (sRet (mOp fMod (mVar 4) (mVar 1)))) sNil)
    (sSeq (sSet 5 (mOp fMod (mOp fMul (mOp fAdd (mOp fMod (mVar 4) (mC (.int (2147483629)))) (mC (.int (104729)))) (mOp fAdd (mOp fMul (mC (.int (2))) (mVar 3)) (mC (.int (3))))) (mC (.int (2147483647)))))
    (sSeq (sSet 5 (mOp fMod (mOp fAdd (mOp fPow (mVar 5) (mC (.int (5)))) (mOp fMul (mC (.int (7919))) (mVar 3))) (mC (.int (2147483647)))))
    (sRet (mOp fMod (mOp fDiv (mOp fMod (mOp fPow (mVar 5) (mC (.int (3)))) (mC (.int (2147483587)))) (mC (.int (64)))) (mVar 1))))))))))
def FDrawB : FV := runF 6 gDrawB
def gFeedB : MS :=
    (sRetL (mLst (mCons (mFz (mSlL (mVar 0) oNone (oSome (mC (.int (63)))))) (mCons (mC (.int (0))) (mCons (mC (.int (0))) mNil)))))
def FFeedB : FL := runL 1 gFeedB
def feedB (ms : List Int) (i c : Int) : List PyData := [.list (ms.map .int), .int i, .int c]
theorem shaped_ints (ms : List Int) : SeqAt.shaped (.list (ms.map .int)) = true := by
  induction ms with
  | nil => rfl
  | cons m r ih => exact ih
theorem eqv_nilB (ms : List Int) : PyData.eqv (.list (ms.map .int)) (.list []) = ms.isEmpty := by cases ms <;> rfl
theorem bAnd_of {a b : MB} {ρ : RE} {S S1 S2 : Sto} {x y : Bool} (h1 : a ρ S = some (x, S1)) (h2 : b ρ S1 = some (y, S2)) (h3 : x = false → S1 = S2) : bAnd a b ρ S = some (x && y, S2) := by
  unfold bAnd
  rw [h1]
  cases x
  · rw [h3 rfl]; rfl
  · exact h2
theorem draw_specB {S : Sto} {j : Nat} {ms : List Int} {i c many : Int} (hS : S[j]? = some (feedB ms i c)) (hp : 0 < many) (hl : many.natAbs.log2 < 9000) :
    ∃ r i' c', FDrawB [.c j, .d (.int many)] S = some (.d (.int r), S.set j (feedB ms i' c')) ∧ 0 ≤ r ∧ r < many := by
  have hj : j < S.length := (List.getElem?_eq_some_iff.mp hS).1
  have rd : ∀ {T : Sto} {i c : Int} {ρ : RE} (q : PyData) (z : Int), T[j]? = some (feedB ms i c) → ρ[0]? = some (some (.c j)) → atI (feedB ms i c) z = some q → mOp fIx (mVar 0) (mC (.int z)) ρ T = some (.d q, T) := fun {T i c ρ} q z h1 h2 h3 => by
    have v0 : mVar 0 ρ T = some (.c j, T) := by unfold mVar; rw [h2]
    exact mOp_of v0 rfl (fIx_cell h1 h3)
  have pt : ∀ {T : Sto} {i c : Int} {ρ : RE} {mv : M} (z : Int) (n : Nat) (y : PyData), T[j]? = some (feedB ms i c) → ρ[0]? = some (some (.c j)) → mv ρ T = some (.d y, T) → ixN 3 z = some n → sPut (mVar 0) (mC (.int z)) mv ρ T = some (.nx ρ (T.set j ((feedB ms i c).set n y))) := fun {T i c ρ mv} z n y h1 h2 h3 h4 => by
    have v0 : mVar 0 ρ T = some (.c j, T) := by unfold mVar; rw [h2]
    exact sPut_cell h3 v0 rfl h1 h4
  unfold FDrawB runF
  show ∃ r i' c', (gDrawB [some (.c j), some (.d (.int many)), none, none, none, none] S).bind _ = _ ∧ _
  unfold gDrawB
  by_cases hc : 0 < c
  · have cond : asB (mOp fGt (mOp fIx (mVar 0) (mC (.int 2))) (mC (.int 0))) [some (.c j), some (.d (.int many)), none, none, none, none] S = some (true, S) := by
      refine asB_of (mOp_of (z := .d (.bool true)) (rd _ 2 hS rfl rfl) rfl ?_)
      show some (PV.d (.bool (decide (c > 0)))) = _
      rw [decide_eq_true hc]
    refine ⟨c % many, i, c / many, ?_, Int.emod_nonneg _ (by omega), Int.emod_lt_of_pos _ hp⟩
    rw [sSeq_rt (v := .d (.int (c % many))) (S' := S.set j (feedB ms i (c / many))) (by
      rw [sIf_t cond, sSeq_nx (sSet_of (mOp_of (rd _ 2 hS rfl rfl) rfl (fMod_int hp S)))]
      show (sSeq _ _) [some (.c j), some (.d (.int many)), some (.d (.int (c % many))), none, none, none] S = _
      rw [sSeq_nx (pt 2 2 _ hS rfl (mOp_of (rd _ 2 hS rfl rfl) rfl (fDiv_int hp hl S)) rfl)]
      rfl)]
    show some (PV.d (.int (c % many)), (S.set j _).take S.length) = _
    rw [List.take_of_length_le (by rw [len_set]; exact Nat.le_refl _)]
  · have cond : asB (mOp fGt (mOp fIx (mVar 0) (mC (.int 2))) (mC (.int 0))) [some (.c j), some (.d (.int many)), none, none, none, none] S = some (false, S) := by
      refine asB_of (mOp_of (z := .d (.bool false)) (rd _ 2 hS rfl rfl) rfl ?_)
      show some (PV.d (.bool (decide (c > 0)))) = _
      rw [decide_eq_false hc]
    rw [sSeq_nx (ρ' := [some (.c j), some (.d (.int many)), none, none, none, none]) (S' := S) (by rw [sIf_f cond]; rfl)]
    rw [sSeq_nx (sSet_of (rd (.int i) 1 hS rfl rfl))]
    show ∃ r i' c', ((sSeq _ _) [some (.c j), some (.d (.int many)), none, some (.d (.int i)), none, none] S).bind _ = _ ∧ _
    generalize hT : S.set j (feedB ms (i + 1) c) = T
    have tj : T[j]? = some (feedB ms (i + 1) c) := by rw [← hT]; exact set_get S hj _
    have tl : T.length = S.length := by rw [← hT]; exact len_set ..
    have put1 : sPut (mVar 0) (mC (.int 1)) (mOp fAdd (mVar 3) (mC (.int 1))) [some (.c j), some (.d (.int many)), none, some (.d (.int i)), none, none] S = some (.nx [some (.c j), some (.d (.int many)), none, some (.d (.int i)), none, none] T) := by
      rw [pt 1 1 (.int (i + 1)) hS rfl (mOp_of rfl rfl rfl) rfl, ← hT]
      rfl
    rw [sSeq_nx put1]
    have ln : ∀ {ρ : RE}, ρ[0]? = some (some (.c j)) → mCall cLen (mCons (mOp fIx (mVar 0) (mC (.int 0))) mNil) ρ T = some (.d (.int (ms.length : Int)), T) := fun {ρ} h => by
      unfold mCall mCons
      rw [rd _ 0 tj h rfl]
      show some (PV.d (.int ((ms.map PyData.int).length : Int)), T) = _
      rw [List.length_map]
    have cell : ∃ x, mIf (asB (mOp fNe (mOp fIx (mVar 0) (mC (.int (0)))) (mFz (mLst mNil)))) (mOp fIx (mOp fIx (mVar 0) (mC (.int (0)))) (mOp fMod (mVar 3) (mCall cLen (mCons (mOp fIx (mVar 0) (mC (.int (0)))) mNil)))) (mC (.int (5))) [some (.c j), some (.d (.int many)), none, some (.d (.int i)), none, none] T = some (.d (.int x), T) := by
      have a0 := rd (ρ := [some (.c j), some (.d (.int many)), none, some (.d (.int i)), none, none]) _ 0 tj rfl rfl
      have cn : asB (mOp fNe (mOp fIx (mVar 0) (mC (.int (0)))) (mFz (mLst mNil))) [some (.c j), some (.d (.int many)), none, some (.d (.int i)), none, none] T = some (!ms.isEmpty, T) := by
        refine asB_of (mOp_of a0 rfl ?_)
        show (if (SeqAt.shaped (.list (ms.map .int)) && SeqAt.shaped (.list [])) = true then some (PV.d (.bool (!PyData.eqv (.list (ms.map .int)) (.list [])))) else none) = _
        rw [shaped_ints, eqv_nilB]
        rfl
      cases hms : ms with
      | nil =>
        rw [hms] at cn
        exact ⟨5, by rw [mIf_f cn]; rfl⟩
      | cons m r =>
        have hml : 0 < ms.length := by rw [hms]; simp
        have cn' := cn
        rw [hms] at cn'
        have b1 := Int.emod_nonneg i (show (ms.length : Int) ≠ 0 by omega)
        have b2 := Int.emod_lt_of_pos i (show (0 : Int) < ms.length by omega)
        have hx : ms[(i % (ms.length : Int)).toNat]? = some (ms[(i % (ms.length : Int)).toNat]'(by omega)) := List.getElem?_eq_getElem (by omega)
        generalize (ms[(i % (ms.length : Int)).toNat]'(by omega)) = x at hx
        refine ⟨x, ?_⟩
        rw [mIf_t cn']
        refine mOp_of a0 (mOp_of rfl (ln rfl) (fMod_int (by omega) T)) ?_
        have hxa : atI (ms.map PyData.int) (i % (ms.length : Int)) = some (.int x) := by
          unfold atI ixN
          rw [List.length_map, if_pos b1, if_pos b2]
          show (ms.map PyData.int)[(i % (ms.length : Int)).toNat]? = _
          rw [List.getElem?_map, hx]
          rfl
        show (atI (ms.map PyData.int) (i % (ms.length : Int))).map PV.d = _
        rw [hxa]
        rfl
    obtain ⟨x, cell⟩ := cell
    rw [sSeq_nx (sSet_of cell)]
    show ∃ r i' c', ((sSeq _ _) [some (.c j), some (.d (.int many)), none, some (.d (.int i)), some (.d (.int x)), none] T).bind _ = _ ∧ _
    have ca : asB (mOp fGe (mVar 4) (mOp fPow (mC (.int (10))) (mC (.int (18))))) [some (.c j), some (.d (.int many)), none, some (.d (.int i)), some (.d (.int x)), none] T = some (decide (x ≥ 10 ^ 18), T) := asB_of (mOp_of rfl (mOp_of rfl rfl (fPow_int (by decide) (by decide) (by decide) T)) rfl)
    have cb : asB (mOp fLt (mVar 3) (mCall cLen (mCons (mOp fIx (mVar 0) (mC (.int (0)))) mNil))) [some (.c j), some (.d (.int many)), none, some (.d (.int i)), some (.d (.int x)), none] T = some (decide (i < (ms.length : Int)), T) := asB_of (mOp_of rfl (ln rfl) rfl)
    have cc := bAnd_of ca cb (fun _ => rfl)
    by_cases hb : (decide (x ≥ 10 ^ 18) && decide (i < (ms.length : Int))) = true
    · rw [hb] at cc
      refine ⟨x % many, i + 1, x / many, ?_, Int.emod_nonneg _ (by omega), Int.emod_lt_of_pos _ hp⟩
      rw [sSeq_rt (v := .d (.int (x % many))) (S' := T.set j (feedB ms (i + 1) (x / many))) (by
        rw [sIf_t cc, sSeq_nx (pt 2 2 _ tj rfl (mOp_of rfl rfl (fDiv_int hp hl T)) rfl)]
        exact sRet_of (mOp_of rfl rfl (fMod_int hp _)))]
      show some (PV.d (.int (x % many)), (T.set j _).take S.length) = _
      rw [List.take_of_length_le (by rw [len_set, tl]; exact Nat.le_refl _), ← hT, set_set]
    · rw [Bool.not_eq_true] at hb
      rw [hb] at cc
      rw [sSeq_nx (ρ' := [some (.c j), some (.d (.int many)), none, some (.d (.int i)), some (.d (.int x)), none]) (S' := T) (by rw [sIf_f cc]; rfl)]
      have u0 := Int.emod_nonneg x (show (2147483629 : Int) ≠ 0 by decide)
      have u1 := Int.emod_lt_of_pos x (show (0 : Int) < 2147483629 by decide)
      let w1 : Int := (x % 2147483629 + 104729) * (2 * i + 3) % 2147483647
      have w10 : 0 ≤ w1 := Int.emod_nonneg _ (by decide)
      have w11 : w1 < 2147483647 := Int.emod_lt_of_pos _ (by decide)
      let w2 : Int := (w1 ^ 5 + 7919 * i) % 2147483647
      have w20 : 0 ≤ w2 := Int.emod_nonneg _ (by decide)
      have w21 : w2 < 2147483647 := Int.emod_lt_of_pos _ (by decide)
      have z64 : (18446744073709551616 : Int) = 2 ^ 64 := by decide
      have z64n : (18446744073709551616 : Nat) = 2 ^ 64 := by decide
      have m1 : mOp fMod (mOp fMul (mOp fAdd (mOp fMod (mVar 4) (mC (.int (2147483629)))) (mC (.int (104729)))) (mOp fAdd (mOp fMul (mC (.int (2))) (mVar 3)) (mC (.int (3))))) (mC (.int (2147483647))) [some (.c j), some (.d (.int many)), none, some (.d (.int i)), some (.d (.int x)), none] T = some (.d (.int w1), T) :=
        mOp_of (mOp_of (mOp_of (mOp_of rfl rfl (fMod_int (by decide) T)) rfl rfl) (mOp_of (mOp_of rfl rfl (fMul_l (by decide) (by decide) T)) rfl rfl) (fMul_l (by omega) (by omega) T)) rfl (fMod_int (by decide) T)
      have m2 : mOp fMod (mOp fAdd (mOp fPow (mVar 5) (mC (.int (5)))) (mOp fMul (mC (.int (7919))) (mVar 3))) (mC (.int (2147483647))) [some (.c j), some (.d (.int many)), none, some (.d (.int i)), some (.d (.int x)), some (.d (.int w1))] T = some (.d (.int w2), T) :=
        mOp_of (mOp_of (mOp_of rfl rfl (fPow_int (by decide) (by decide) (by omega) T)) (mOp_of rfl rfl (fMul_l (by decide) (by decide) T)) rfl) rfl (fMod_int (by decide) T)
      have m3 : mOp fMod (mOp fDiv (mOp fMod (mOp fPow (mVar 5) (mC (.int (3)))) (mC (.int (2147483587)))) (mC (.int (64)))) (mVar 1) [some (.c j), some (.d (.int many)), none, some (.d (.int i)), some (.d (.int x)), some (.d (.int w2))] T = some (.d (.int (w2 ^ 3 % 2147483587 / 64 % many)), T) :=
        mOp_of (mOp_of (mOp_of (mOp_of rfl rfl (fPow_int (by decide) (by decide) (by omega) T)) rfl (fMod_int (by decide) T)) rfl (fDiv_int (by decide) (by decide) T)) rfl (fMod_int hp T)
      refine ⟨w2 ^ 3 % 2147483587 / 64 % many, i + 1, c, ?_, Int.emod_nonneg _ (by omega), Int.emod_lt_of_pos _ hp⟩
      rw [sSeq_nx (sSet_of m1)]
      show ((sSeq _ _) [some (.c j), some (.d (.int many)), none, some (.d (.int i)), some (.d (.int x)), some (.d (.int w1))] T).bind _ = _
      rw [sSeq_nx (sSet_of m2)]
      show ((sRet _) [some (.c j), some (.d (.int many)), none, some (.d (.int i)), some (.d (.int x)), some (.d (.int w2))] T).bind _ = _
      rw [sRet_of m3]
      show some (PV.d (.int (w2 ^ 3 % 2147483587 / 64 % many)), T.take S.length) = _
      rw [List.take_of_length_le (by rw [tl]; exact Nat.le_refl _), ← hT]
theorem feed_specB (ns : List Int) (h : ns.length ≤ 63) : FFeedB [.d (.list (ns.map .int))] [] = some (feedB ns 0 0, []) := by
  have hl : (ns.map PyData.int).length ≤ 63 := by rw [List.length_map]; exact h
  have sl : mSlL (mVar 0) oNone (oSome (mC (.int (63)))) [some (.d (.list (ns.map .int)))] [] = some (ns.map .int, []) := by
    show some (cut (ns.map PyData.int) none (some 63), []) = _
    rw [cut63 _ hl]
  unfold FFeedB runL
  show (gFeedB [some (.d (.list (ns.map .int)))] []).bind _ = _
  unfold gFeedB sRetL
  rw [mLst_of (mCons_of (mFz_of sl) rfl) rfl (by simp)]
  rfl
instance feed2 : Feed where
  P := fun _ c => ∃ (ms : List Int) (i q : Int), c = feedB ms i q
  mono := fun h _ => h
theorem drawsB : DrawSpec FDrawB FFeedB where
  fed := fun ns h => ⟨_, feed_specB ns h, ns, 0, 0, rfl⟩
  drw := fun {S j k c many} hS hc hk hp hl => by
    obtain ⟨ms, i, q, rfl⟩ := hc
    obtain ⟨r, i', c', f, r0, r1⟩ := draw_specB (many := many) hS hp (Nat.lt_succ_of_lt (log2_of (by decide) hl))
    exact ⟨r, _, f, r0, r1, ms, i', c', rfl⟩
end DN

namespace DL
open PySem PySem.Spec PyProof.Rows L2 DK
/-! the frame: extend, comprehensions over lists of our own -/
instance (mo : M) (ml : ML) [FrM mo] [FrL ml] : FrM (mExtend mo ml) := ⟨fun ρ S T => by
  unfold mExtend
  rw [FrM.fr (m := mo)]
  cases mo ρ T with
  | none => rfl
  | some o =>
    show (ml (shR S.length ρ) (S ++ o.2)).bind _ = Option.map _ ((ml ρ o.2).bind _)
    rw [FrL.fr (m := ml)]
    cases ml ρ o.2 with
    | none => rfl
    | some v =>
      obtain ⟨o, T1⟩ := o
      obtain ⟨v, T2⟩ := v
      cases o with
      | d _ => rfl
      | c j =>
        show (if (lAt (S ++ T1) (S.length + j)).isSome = true then (lAt (S ++ T2) (S.length + j)).bind _ else none) = Option.map _ (if (lAt T1 j).isSome = true then (lAt T2 j).bind _ else none)
        rw [lAt_sh, lAt_sh]
        cases (lAt T1 j).isSome with
        | false => rfl
        | true =>
          rw [if_pos rfl, if_pos rfl]
          cases lAt T2 j with
          | none => rfl
          | some ds =>
            dsimp
            split
            · rw [sto_set]; rfl
            · rfl⟩
theorem lcGoC_sh {tgt : TgD} {tt : MB} {te : M} [FrT tgt] [FrB tt] [FrM te] (S : Sto) (n j : Nat) (ρ : RE) : ∀ (f i : Nat) (T : Sto),
    lcGoC (S.length + n) (S.length + j) tgt tt te (shR S.length ρ) f i (S ++ T) = (lcGoC n j tgt tt te ρ f i T).map (S ++ ·)
  | 0, i, T => rfl
  | f + 1, i, T => by
    unfold lcGoC
    rw [lAt_sh]
    cases lAt T j with
    | none => rfl
    | some l =>
      show (match l[i]? with | none => _ | some x => _) = Option.map _ (match l[i]? with | none => _ | some x => _)
      cases l[i]? with
      | none => rfl
      | some x =>
        show (tgt x (shR S.length ρ)).bind _ = Option.map _ ((tgt x ρ).bind _)
        rw [FrT.fr (t := tgt)]
        cases tgt x ρ with
        | none => rfl
        | some ρ1 =>
          show (tt (shR S.length ρ1) (S ++ T)).bind _ = Option.map _ ((tt ρ1 T).bind _)
          rw [FrB.fr (m := tt)]
          cases tt ρ1 T with
          | none => rfl
          | some b =>
            obtain ⟨b, T1⟩ := b
            cases b with
            | false => exact lcGoC_sh S n j ρ f (i + 1) T1
            | true =>
              show (te (shR S.length ρ1) (S ++ T1)).bind _ = Option.map _ ((te ρ1 T1).bind _)
              rw [FrM.fr (m := te)]
              cases te ρ1 T1 with
              | none => rfl
              | some v =>
                obtain ⟨v, T2⟩ := v
                cases v with
                | c i => rfl
                | d y =>
                  show (pushAt (S.length + n) y (S ++ T2)).bind _ = Option.map _ ((pushAt n y T2).bind _)
                  rw [push_sh]
                  cases pushAt n y T2 with
                  | none => rfl
                  | some T3 => exact lcGoC_sh S n j ρ f (i + 1) T3
instance (m : M) (vs : List Nat) (tgt : TgD) (tt : MB) (te : M) [FrM m] [FrT tgt] [FrB tt] [FrM te] : FrL (mLcC m vs tgt tt te) := ⟨fun ρ S T => by
  unfold mLcC
  rw [FrM.fr (m := m)]
  cases m ρ T with
  | none => rfl
  | some p =>
    obtain ⟨v, T1⟩ := p
    cases v with
    | d _ => rfl
    | c j =>
      show (lAt (S ++ T1) (S.length + j)).bind _ = Option.map _ ((lAt T1 j).bind _)
      rw [lAt_sh]
      cases lAt T1 j with
      | none => rfl
      | some l =>
        show (lcGoC (S ++ T1).length (S.length + j) tgt tt te (wipeR (shR S.length ρ) vs) (l.length + 1) 0 ((S ++ T1) ++ [.l []])).bind _ = Option.map _ ((lcGoC T1.length j tgt tt te (wipeR ρ vs) (l.length + 1) 0 (T1 ++ [.l []])).bind _)
        rw [len_sh, app_sh, sh_wipe, lcGoC_sh]
        cases lcGoC T1.length j tgt tt te (wipeR ρ vs) (l.length + 1) 0 (T1 ++ [.l []]) with
        | none => rfl
        | some T2 =>
          show (lAt (S ++ T2) (S.length + T1.length)).bind _ = Option.map _ ((lAt T2 T1.length).bind _)
          rw [lAt_sh]
          cases lAt T2 T1.length with
          | none => rfl
          | some ds =>
            show some (ds, (S ++ T2).take (S.length + T1.length)) = _
            rw [take_sh]
            rfl⟩
end DL

namespace DL
open PySem PySem.Spec PyProof.Rows L2 DK
variable [Nms] [Tabs]
section
variable {X : Cx} {tg iter elt : Expr} {ifs : List Expr} {scope : Scope} {pos : Pos} {own : List (Str × Nat)} {vs is : List Nat} {tgt : TgD} {tt : MB} {te : M}
/-- y = [.. for .. in a list of ours] -/
theorem ds_setLcC {i : Nat} {y : Str} {py spos : Pos} {m : M} (hc : X.calm = true) (hN : X.N.Nodup) (hy : X.N[i]? = some y) (hyl : X.env.scope.names.lookup y = some .local) (hsw : swapsWith (.ListComp elt [⟨tg, iter, ifs, 0⟩] scope pos) (some (.Name y py)) spos.line X.env = pure true)
    (hi : DE X iter m) (ok : BlkOk X.N X.env.scope scope own)
    (hg : ∀ (s : Shared) (H : Hp) (C : Addr) (cl : List (Str × Addr)) (fp : List Addr), DG (X.blk s H scope (compEnvC scope cl C X.env) fp) tg is tgt) (ht : ∀ (s : Shared) (H : Hp) (C : Addr) (cl : List (Str × Addr)) (fp : List Addr), DTs (X.blk s H scope (compEnvC scope cl C X.env) fp) ifs tt)
    (he : ∀ (s : Shared) (H : Hp) (C : Addr) (cl : List (Str × Addr)) (fp : List Addr), DE (X.blk s H scope (compEnvC scope cl C X.env) fp) elt te) (hv : (is.all fun i => vs.contains i) = true) (hs : ∀ x, foldedSetIterable iter X.env x = pure x := by intro _; rfl) (hvs : own.map (·.2) = vs := by rfl) :
    DS X (.Assign [.Name y py] (.ListComp elt [⟨tg, iter, ifs, 0⟩] scope pos) spos) (sSet i (mFz (mLcC m vs tgt tt te))) := by
  subst hvs
  exact ps_imp (ps_setLc hc hN hy hyl hsw (pi_seq hi) ok hg ht he hs) (set_L (lcC_D fun i h => by simpa using List.all_eq_true.mp hv i h))
theorem ds_ownLcC {i : Nat} {y : Str} {py spos : Pos} {m : M} (hc : X.calm = true) (hN : X.N.Nodup) (hy : X.N[i]? = some y) (hyl : X.env.scope.names.lookup y = some .local) (hsw : swapsWith (.ListComp elt [⟨tg, iter, ifs, 0⟩] scope pos) (some (.Name y py)) spos.line X.env = pure true)
    (hi : DE X iter m) (ok : BlkOk X.N X.env.scope scope own)
    (hg : ∀ (s : Shared) (H : Hp) (C : Addr) (cl : List (Str × Addr)) (fp : List Addr), DG (X.blk s H scope (compEnvC scope cl C X.env) fp) tg is tgt) (ht : ∀ (s : Shared) (H : Hp) (C : Addr) (cl : List (Str × Addr)) (fp : List Addr), DTs (X.blk s H scope (compEnvC scope cl C X.env) fp) ifs tt)
    (he : ∀ (s : Shared) (H : Hp) (C : Addr) (cl : List (Str × Addr)) (fp : List Addr), DE (X.blk s H scope (compEnvC scope cl C X.env) fp) elt te) (hv : (is.all fun i => vs.contains i) = true) (hs : ∀ x, foldedSetIterable iter X.env x = pure x := by intro _; rfl) (hvs : own.map (·.2) = vs := by rfl) :
    DS X (.Assign [.Name y py] (.ListComp elt [⟨tg, iter, ifs, 0⟩] scope pos) spos) (sOwn i (mLcC m vs tgt tt te)) := by
  subst hvs
  exact ps_imp (ps_setLc hc hN hy hyl hsw (pi_seq hi) ok hg ht he hs) (own_L (lcC_D fun i h => by simpa using List.all_eq_true.mp hv i h))
end
end DL

set_option maxHeartbeats 4000000
/-! sorted of rows of whole numbers, of any lengths, any number of them -/
namespace DP
open PySem PySem.W PySem.Calls PyProof.Rows Builtin
section
variable {prog : Program} {w : World} {A : Around} {E : Value → Shared → Prop} {s : Shared}
/-- the zip of two rows, from place i on -/
theorem lex_go {b : Bool} (hb : b = true ∨ b = false) : ∀ {vs ws : List Value} {ns ms : List Int} (fin : Bool) (i : Nat), IntsAre vs ns → IntsAre ws ms → (vs.length = ws.length + 0 ∨ True) →
    ∀ {Q : Bool → Shared → Prop}, (fin = decide (ns.length < ms.length)) → Q (HT.lexLt ns ms) s → KatLex prog w A b fin Q (vs.zip ws) i s
  | _, _, _, _, fin, i, .nil, h2, _, Q, hf, hq => by
    rw [List.zip_nil_left]
    cases h2 with
    | nil =>
      rw [HT.lexLt_nil_nil] at hq
      have : fin = false := by rw [hf]; decide
      rw [this]
      exact kat_nil hq
    | cons c u h =>
      rw [HT.lexLt_nil_cons] at hq
      have : fin = true := by rw [hf]; simp
      rw [this]
      exact kat_nil hq
  | _, _, _, _, fin, i, .cons a t h1, .nil, _, Q, hf, hq => by
    rw [List.zip_nil_right]
    rw [HT.lexLt_cons_nil] at hq
    have : fin = false := by rw [hf]; simp
    rw [this]
    exact kat_nil hq
  | _, _, _, _, fin, i, .cons a t h1, .cons c u h2, _, Q, hf, hq => by
    rw [List.zip_cons_cons]
    rw [HT.lexLt_cons] at hq
    refine kat_cons (SeqAt.EqAt.int_int a t c u prog w _ _ ?_)
    refine kat_go (fun e1 => ?_) (fun e1 => ?_)
    · have ex : a = c := by simpa using e1
      rw [if_pos ex] at hq
      exact kat_yes (lex_go hb fin (i + 1) h1 h2 (.inr trivial) (by rw [hf]; simp) hq)
    · have ex : ¬ a = c := by simpa using e1
      rw [if_neg ex] at hq
      refine kat_no ?_
      cases (b && i == 0) with
      | true => exact oneLt_int hq
      | false => exact kat_one _ _ (PyProof.Rows.lt_int hq)
/-- two rows, by each of the three ways in which a sort may compare -/
theorem row_lt_tuples {b : Bool} {v u : Value} {ns ms : List Int} {Q : Bool → Shared → Prop} (hv : TS.TupInts s.heap v ns) (hu : TS.TupInts s.heap u ms) (h : Q (HT.lexLt ns ms) s) : wpAny (model prog w) A (keyLt' (tuples' b) v u) Q E s := by
  obtain ⟨a, xs, rfl, ⟨o, ho, hc, n, hd⟩, i⟩ := hv
  obtain ⟨a2, ys, rfl, ⟨o2, ho2, hc2, n2, hd2⟩, i2⟩ := hu
  refine kat_lt ho hd ho2 hd2 (lex_go (by cases b <;> simp) _ 0 i i2 (.inr trivial) ?_ h)
  have z1 : xs.size = ns.length := by rw [← i.length]; simp
  have z2 : ys.size = ms.length := by rw [← i2.length]; simp
  rw [z1, z2]
theorem row_lt_general {v u : Value} {ns ms : List Int} {Q : Bool → Shared → Prop} (hA : A.units < cLine) (hv : TS.TupInts s.heap v ns) (hu : TS.TupInts s.heap u ms) (h : Q (HT.lexLt ns ms) s) : wpAny (model prog w) A (keyLt' general' v u) Q E s := by
  obtain ⟨a, xs, rfl, t1, i⟩ := hv
  obtain ⟨a2, ys, rfl, t2, i2⟩ := hu
  show wpAny (model prog w) A (oneLt' false (.ref a) (.ref a2)) Q E s
  exact kat_one _ _ (HT.lt_tupInts t1 t2 i i2 hA h)
theorem row_lt_one {v u : Value} {ns ms : List Int} {Q : Bool → Shared → Prop} (hA : A.units < cLine) (hv : TS.TupInts s.heap v ns) (hu : TS.TupInts s.heap u ms) (h : Q (HT.lexLt ns ms) s) : wpAny (model prog w) A (keyLt' oneType' v u) Q E s := by
  obtain ⟨a, xs, rfl, t1, i⟩ := hv
  obtain ⟨a2, ys, rfl, t2, i2⟩ := hu
  rw [keyLt'_oneType, oneLt'_eq]
  simp only [if_true]
  refine wpAny_bind (wpAny_cRoomFor hA ?_)
  have ty : s.TypeIs (.ref a) "tuple" := t1.typeIs
  obtain ⟨⟨cls, dd, data, sl⟩, ho, hc, n, hd⟩ := id t1
  obtain ⟨⟨cls2, dd2, data2, sl2⟩, ho2, hc2, n2, hd2⟩ := id t2
  simp only at hc hd hc2 hd2
  subst hc hd hc2 hd2
  refine wpAny_bind (wpAny_callSpecialIfBound?_slot ty PySem.F.slot_tuple_lt ?_)
  refine call_meets PySem.F.slot_tuple_lt ty PySem.F.entry_tuple_lt (PySem.F.args_tuple_lt_2 _ _) (HT.tuple_lt_ints a a2 xs ys n n2 dd dd2 sl sl2 ns ms i i2) ⟨ho, ho2, ?_⟩
  exact wpAny_truthy_bool h
/-! the kind that a sort finds -/
def first? (h : Heap) (v : Value) : Option Value := match v with
  | .ref a => match h.get? a with
    | some o => match o.data with
      | .seq xs _ => xs[0]?
      | _ => none
    | none => none
  | _ => none
theorem first_of {v : Value} {ns : List Int} (hv : TS.TupInts s.heap v ns) : (ns = [] ∧ first? s.heap v = none) ∨ ∃ i t r, ns = i :: r ∧ first? s.heap v = some (.int i t) := by
  obtain ⟨a, xs, rfl, ⟨o, ho, hc, n, hd⟩, i⟩ := hv
  have e : first? s.heap (.ref a) = xs[0]? := by
    unfold first?
    simp only [ho, hd]
  rw [e, ← Array.getElem?_toList]
  generalize xs.toList = l at i ⊢
  cases i with
  | nil => exact .inl ⟨rfl, rfl⟩
  | cons k t r => exact .inr ⟨k, t, _, rfl, rfl⟩
theorem firsts_run {M : Model} : ∀ (vs : List Value) {Q : List (Option Value) → Shared → Prop}, (∀ v ∈ vs, ∃ ns, TS.TupInts s.heap v ns) → Q (vs.map (first? s.heap)) s → wpAny M A (vs.mapM firstOfTuple') Q E s
  | [], _, _, h => by rw [List.mapM_nil]; exact wpAny_pure h
  | v :: vs, Q, t, h => by
    obtain ⟨ns, a, xs, rfl, ⟨o, ho, hc, n, hd⟩, i⟩ := t v (List.mem_cons_self ..)
    rw [List.mapM_cons]
    refine wpAny_bind ?_
    rw [kas_first_eq]
    refine wpAny_bind (Looks.here (show Looks M s.heap (typeOf (.ref a)) o.cls from (Looks.ld ho).andThen .now) ?_)
    rw [hc, if_neg (by first | decide | simp)]
    refine wpAny_bind (listItems_at ho hd (wpAny_pure ?_))
    have e : first? s.heap (.ref a) = xs[0]? := by
      unfold first?
      simp only [ho, hd]
    rw [List.map_cons, e] at h
    exact wpAny_bind (firsts_run vs (Q := fun bs s' => wpAny M A (pure (xs[0]? :: bs)) Q E s') (fun u hu => t u (List.mem_cons_of_mem _ hu)) (wpAny_pure h))
theorem row_kind {M : Model} {vs : List Value} {k : Value → List Int} (h2 : 2 ≤ vs.length) (hv : ∀ v ∈ vs, TS.TupInts s.heap v (k v)) : ∃ κ, (κ = tuples' true ∨ κ = general' ∨ κ = oneType') ∧
    ∀ (Q : SortKind → Shared → Prop) (E : Value → Shared → Prop), Q κ s → wpAny M A (keyKind' vs.toArray) Q E s := by
  have ht : ∀ v ∈ vs, ∃ ns, TS.TupInts s.heap v ns := fun v m => ⟨_, hv v m⟩
  by_cases hall : ((vs.map (first? s.heap)).toArray.all fun x => x.isSome) = true
  · refine ⟨tuples' true, .inl rfl, fun Q E h => ?_⟩
    rw [kat_kind_eq, List.mapM_toArray, map_eq_pure_bind]
    refine wpAny_bind (wpAny_bind (firsts_run vs ht (wpAny_pure ?_)))
    rw [if_pos hall]
    refine wpAny_bind (wpAny_rule ?_)
    have hf : ∀ f ∈ (((vs.map (first? s.heap)).toArray.filterMap id).toList), ∃ i t, f = Value.int i t := fun f hf => by
      rw [Array.toList_filterMap, List.mem_filterMap] at hf
      obtain ⟨o, ho, e⟩ := hf
      obtain ⟨v, hm, e2⟩ := List.mem_map.mp ho
      rcases first_of (hv v hm) with ⟨_, e3⟩ | ⟨i, t, r, _, e3⟩
      · rw [e3] at e2
        rw [← e2] at e
        cases e
      · rw [e3] at e2
        rw [← e2] at e
        cases e
        exact ⟨i, t, rfl⟩
    have hne : ((vs.map (first? s.heap)).toArray.filterMap id).toList ≠ [] := by
      match vs, h2 with
      | v :: r, _ =>
        rcases first_of (hv v (List.mem_cons_self ..)) with ⟨_, e3⟩ | ⟨i, t, q, _, e3⟩
        · exfalso
          rw [List.map_cons, e3] at hall
          simp at hall
        · intro z
          rw [Array.toList_filterMap, List.map_cons, e3] at z
          simp at z
    generalize ((vs.map (first? s.heap)).toArray.filterMap id) = fs at hf hne
    obtain ⟨fl, rfl⟩ : ∃ fl : List Value, fs = fl.toArray := ⟨fs.toList, by simp⟩
    rw [List.toList_toArray] at hf hne
    obtain ⟨f₁, fr, rfl⟩ : ∃ f₁ fr, fl = f₁ :: fr := by
      match fl, hne with
      | f₁ :: fr, _ => exact ⟨f₁, fr, rfl⟩
      | [], h => exact absurd rfl h
    have hT : ∀ v ∈ f₁ :: fr, Looks M s.heap (typeOf v) (.type "int") := fun v m => by
      obtain ⟨x, t, rfl⟩ := hf v m
      exact Looks.now
    rw [oneTypeOnly'_eq, List.mapM_toArray, map_eq_pure_bind]
    refine wpAny_bind (wpAny_bind (wpAny_bind (kas_mapM (r := .type "int") _ (fun v hv Q' hq => (hT v hv).here hq) (wpAny_pure ?_))))
    have hall2 : ((List.map (fun _ => Value.type "int") (f₁ :: fr)).toArray.all fun x => x == Value.type "int") = true := by
      simp only [List.all_toArray, List.all_map, List.all_eq_true]
      intro _ _
      rfl
    have h0 : (List.map (fun _ => Value.type "int") (f₁ :: fr)).toArray[0]? = some (Value.type "int") := by simp
    rw [h0]
    simp only [hall2, if_true]
    exact wpAny_pure (wpAny_pure h)
  · by_cases h1 : ((vs.map (first? s.heap)).toArray[0]?.bind id).isSome = true
    · refine ⟨general', .inr (.inl rfl), fun Q E h => ?_⟩
      rw [kat_kind_eq, List.mapM_toArray, map_eq_pure_bind]
      refine wpAny_bind (wpAny_bind (firsts_run vs ht (wpAny_pure ?_)))
      rw [if_neg hall, if_pos h1]
      exact wpAny_pure h
    · refine ⟨oneType', .inr (.inr rfl), fun Q E h => ?_⟩
      rw [kat_kind_eq, List.mapM_toArray, map_eq_pure_bind]
      refine wpAny_bind (wpAny_bind (firsts_run vs ht (wpAny_pure ?_)))
      rw [if_neg hall, if_neg h1]
      obtain ⟨f₁, fr, rfl⟩ : ∃ f₁ fr, vs = f₁ :: fr := by
        match vs, h2 with
        | f₁ :: fr, _ => exact ⟨f₁, fr, rfl⟩
      have hT : ∀ v ∈ f₁ :: fr, Looks M s.heap (typeOf v) (.type "tuple") := fun v m => by
        obtain ⟨a, xs, rfl, ⟨o, ho, hc, n, hd⟩, i⟩ := hv v m
        rw [← hc]
        exact (Looks.ld ho).andThen .now
      rw [oneTypeOnly'_eq, List.mapM_toArray, map_eq_pure_bind]
      refine wpAny_bind (wpAny_bind (wpAny_bind (kas_mapM (r := .type "tuple") _ (fun v hv Q' hq => (hT v hv).here hq) (wpAny_pure ?_))))
      have hall2 : ((List.map (fun _ => Value.type "tuple") (f₁ :: fr)).toArray.all fun x => x == Value.type "tuple") = true := by
        simp only [List.all_toArray, List.all_map, List.all_eq_true]
        intro _ _
        rfl
      have h0 : (List.map (fun _ => Value.type "tuple") (f₁ :: fr)).toArray[0]? = some (Value.type "tuple") := by simp
      rw [h0]
      simp only [hall2, if_true]
      exact wpAny_pure (wpAny_pure h)
theorem rows_sortable {a : Addr} {vs : List Value} {k : Value → List Int} (hA : A.units < cLine) (h2 : 2 ≤ vs.length) (hv : ∀ v ∈ vs, TS.TupInts s.heap v (k v)) (ha : ∀ o, s.heap.get? a = some o → o.cls ≠ .type "tuple") :
    SrtO.SortableO prog w A s a vs fun v u => HT.lexLt (k v) (k u) := by
  intro h' keep
  have hp' : ∀ v ∈ vs, TS.TupInts h' v (k v) := fun v hm => (hv v hm).keeps fun b o e c => keep b o (fun z => by subst z; exact ha o e c) e
  obtain ⟨κ, hκ, hk⟩ := row_kind (M := model prog w) (A := A) (s := { s with heap := h' }) h2 hp'
  refine ⟨κ, hk, fun p q hm hm' => ?_⟩
  have h1 := hp' _ hm
  have h3 := hp' _ hm'
  rcases hκ with rfl | rfl | rfl
  · exact row_lt_tuples (s := { s with heap := h' }) (Q := fun r s' => s' = { s with heap := h' } ∧ r = HT.lexLt (k p.1) (k q.1)) (E := fun _ _ => False) h1 h3 ⟨rfl, rfl⟩
  · exact row_lt_general (s := { s with heap := h' }) (Q := fun r s' => s' = { s with heap := h' } ∧ r = HT.lexLt (k p.1) (k q.1)) (E := fun _ _ => False) hA h1 h3 ⟨rfl, rfl⟩
  · exact row_lt_one (s := { s with heap := h' }) (Q := fun r s' => s' = { s with heap := h' } ∧ r = HT.lexLt (k p.1) (k q.1)) (E := fun _ _ => False) hA h1 h3 ⟨rfl, rfl⟩
end
end DP

namespace DL
open PySem PySem.Spec PyProof.Rows L2 DK
/-! ### rows by their order -/
def leR (x y : List Int) : Prop := HT.lexLt y x = false
theorem leR_anti : ∀ {x y : List Int}, leR x y → leR y x → x = y
  | [], [], _, _ => rfl
  | [], _ :: _, _, h => by unfold leR at h; rw [HT.lexLt_nil_cons] at h; cases h
  | _ :: _, [], h, _ => by unfold leR at h; rw [HT.lexLt_nil_cons] at h; cases h
  | a :: x, b :: y, h1, h2 => by
    unfold leR at h1 h2
    rw [HT.lexLt_cons] at h1 h2
    by_cases e : a = b
    · subst e
      rw [if_pos rfl] at h1 h2
      rw [leR_anti h1 h2]
    · rw [if_neg (Ne.symm e)] at h1
      rw [if_neg e] at h2
      have := of_decide_eq_false h1
      have := of_decide_eq_false h2
      omega
theorem leR_total (x y : List Int) : leR x y ∨ leR y x := by
  unfold leR
  cases h : HT.lexLt y x with
  | false => exact .inl rfl
  | true => exact .inr (NtL.lex_asym _ _ h)
theorem leR_trans {x y z : List Int} (h1 : leR x y) (h2 : leR y z) : leR x z := NtL.lex_tr _ _ _ h1 h2
def insR (k : List Int) : List (List Int) → List (List Int)
  | [] => [k]
  | x :: r => if HT.lexLt x k = true then x :: insR k r else k :: x :: r
def sortR : List (List Int) → List (List Int)
  | [] => []
  | k :: r => insR k (sortR r)
theorem insR_perm (k : List Int) : ∀ l, (insR k l).Perm (k :: l)
  | [] => .refl _
  | x :: r => by
    unfold insR
    split
    · exact ((insR_perm k r).cons x).trans (.swap k x r)
    · exact .refl _
theorem insR_up (k : List Int) : ∀ {l : List (List Int)}, l.Pairwise leR → (insR k l).Pairwise leR
  | [], _ => by simp [insR]
  | x :: r, h => by
    obtain ⟨h1, h2⟩ := List.pairwise_cons.mp h
    unfold insR
    split
    · rename_i hk
      refine List.pairwise_cons.mpr ⟨fun y hy => ?_, insR_up k h2⟩
      rcases List.mem_cons.mp ((insR_perm k r).mem_iff.mp hy) with rfl | hy
      · exact NtL.lex_asym _ _ hk
      · exact h1 y hy
    · rename_i hk
      have hk' : leR k x := by
        unfold leR
        cases q : HT.lexLt x k with
        | false => rfl
        | true => exact absurd q hk
      refine List.pairwise_cons.mpr ⟨fun y hy => ?_, h⟩
      rcases List.mem_cons.mp hy with rfl | hy
      · exact hk'
      · exact leR_trans hk' (h1 y hy)
theorem sortR_perm : ∀ l, (sortR l).Perm l
  | [] => .refl _
  | k :: r => (insR_perm k (sortR r)).trans ((sortR_perm r).cons k)
theorem sortR_up : ∀ l, (sortR l).Pairwise leR
  | [] => .nil
  | k :: r => insR_up k (sortR_up r)
theorem rows_unique : ∀ {a b : List (List Int)}, a.Pairwise leR → b.Pairwise leR → a.Perm b → a = b
  | [], b, _, _, h => (h.nil_eq)
  | x :: a, [], _, _, h => absurd h.length_eq (by simp)
  | x :: a, y :: b, ha, hb, h => by
    obtain ⟨a1, a2⟩ := List.pairwise_cons.mp ha
    obtain ⟨b1, b2⟩ := List.pairwise_cons.mp hb
    have hxy : x = y := by
      rcases List.mem_cons.mp (h.mem_iff.mp (List.mem_cons_self (a := x))) with q1 | q1
      · exact q1
      · rcases List.mem_cons.mp (h.mem_iff.mpr (List.mem_cons_self (a := y))) with q2 | q2
        · exact q2.symm
        · exact leR_anti (a1 y q2) (b1 x q1)
    subst hxy
    rw [rows_unique a2 b2 (List.Perm.cons_inv h)]
/-! ### sorted(rows) -/
def rSortedRows (K : PySem.W.Frag) : List V → Hp → VK → Prop := fun vs H Q => ∃ (a : Addr) (xs : List V) (rows : List (List Int)) (F : V → List Int → Prop), vs = [V.ref a] ∧ SqL K H a xs ∧ (∀ x ns, F x ns → TupI K H x ns) ∧ Paired F xs rows ∧
  ∀ (ys : List V) (p : Addr), Paired F ys (sortR rows) → H p = none → Q (.ref p) (upd H p (.lst ys))
theorem paired_mem {α β : Type} {F : α → β → Prop} : ∀ {l : List α} {m : List β}, Paired F l m → ∀ x ∈ l, ∃ y, F x y
  | _, _, .cons r t, x, h => by
    rcases List.mem_cons.mp h with rfl | h
    · exact ⟨_, r⟩
    · exact paired_mem t x h
theorem paired_map {α β : Type} {F : α → β → Prop} (f : α → β) : ∀ {l : List α}, (∀ x ∈ l, F x (f x)) → Paired F l (l.map f)
  | [], _ => .nil
  | x :: l, h => .cons (h x (List.mem_cons_self ..)) (paired_map f fun y hy => h y (List.mem_cons_of_mem _ hy))
section
variable {X : Cx}
theorem rows_read {pins : List (Addr × Obj)} {σ : L2.St} {H : Hp} {s : Shared} {F : V → List Int → Prop} (I : Inv X pins σ H s) (hF : ∀ x ns, F x ns → TupI X.K H x ns) : ∀ {xs : List V} {rows : List (List Int)} {its : List Value}, Paired F xs rows → Vals xs its →
    its.map (TS.intsOf s.heap) = rows ∧ ∀ v ∈ its, TS.TupInts s.heap v (TS.intsOf s.heap v) ∧ F (bkV v) (TS.intsOf s.heap v)
  | _, _, _, .nil, r => by cases r; exact ⟨rfl, fun v hv => by cases hv⟩
  | _, _, _, .cons q t, r => by
    cases r with
    | cons rv rt =>
      obtain ⟨e1, e2⟩ := rows_read I hF t rt
      obtain ⟨a, rfl, hs⟩ := hF _ _ q
      cases rv
      have hr := tupI_raw I hs
      refine ⟨by rw [List.map_cons, e1, hr.ints], fun v hv => ?_⟩
      rcases List.mem_cons.mp hv with rfl | hv
      · rw [hr.ints]
        exact ⟨hr, q⟩
      · exact e2 v hv
theorem cr_sortedRows (hu : X.A.units + 64 < cLine) : CallR X (.builtin "sorted") (rSortedRows X.K) := by
  intro pins s σ H vs us Q I r h
  obtain ⟨a, xs, rows, F, rfl, hs, hF, hx, q⟩ := h
  obtain ⟨its, rv, hl, hz⟩ := I.list hs
  rw [Vals.ref1 r]
  obtain ⟨er, ht⟩ := rows_read I hF hx rv
  obtain ⟨e1, e2⟩ := bkV_refs rv fun x m => by
    obtain ⟨ns, hf⟩ := paired_mem hx x m
    obtain ⟨t, e, _⟩ := hF _ _ hf
    exact ⟨t, e⟩
  refine SrtO.sorted_ord (NtL.swo_lexL (TS.intsOf s.heap)) hl.isList (by rw [← rv.length]; exact hz) (fun h2 h₁ a' ha kk => ?_) fun out h1 h2 => ?_
  · refine DP.rows_sortable (s := { s with heap := h₁ }) (by show X.A.in1.in1.units < cLine; have : X.A.in1.in1.units ≤ X.A.units + 2 := Nat.le_refl _; omega) h2 (fun v hv => ((ht v hv).1).keeps fun b o e _ => (kk b o e).2) fun o e => ?_
    have e' : some o = some (seqObj "list" its.toArray 0) := e.symm.trans ha
    cases e'
    intro c
    exact absurd (Value.type.inj c) (by decide)
  · obtain ⟨ep, he'⟩ := PyProof.Rows.sortedAll_at s.heap its out.toArray
    have hmem : ∀ u ∈ out, u ∈ its := fun u hu => h2.perm.mem_iff.mp hu
    have h3 : ∀ u ∈ out, ∃ a, u = Value.ref a := fun u hu => e2 u (hmem u hu)
    have hlen : (out.map bkV).length ≤ sizeLine := by
      rw [List.length_map, h2.perm.length_eq, ← rv.length]
      exact hz
    have hrow : out.map (TS.intsOf s.heap) = sortR rows := by
      refine rows_unique (List.pairwise_map.mpr h1) (sortR_up _) ((h2.perm.map _).trans ?_)
      rw [er]
      exact (sortR_perm rows).symm
    have hp : Paired F (out.map bkV) (sortR rows) := by
      rw [← hrow]
      have : ∀ l : List Value, (∀ u ∈ l, u ∈ its) → Paired F (l.map bkV) (l.map (TS.intsOf s.heap)) := fun l => by
        induction l with
        | nil => exact fun _ => .nil
        | cons u l ih => exact fun hm => .cons (ht u (hm u (List.mem_cons_self ..))).2 (ih fun v hv => hm v (List.mem_cons_of_mem _ hv))
      exact this out hmem
    exact ⟨.ref _, upd H (s.heap.objs.size + 1) (.lst (out.map bkV)), I.laid (t' := s.toks) (fun _ _ => PyProof.Rows.sortedAll_old) (Nat.le_succ _) ⟨hlen, out, ep, bkV_vals h3, he'⟩, rfl, q _ _ hp (I.hok.fresh (Nat.le_succ _))⟩
end
variable [Nms] [Tabs]
def rowsOf : List PyData → Option (List (List Int))
  | [] => some []
  | .tuple xs :: r => (intsOf xs).bind fun ns => (rowsOf r).map (ns :: ·)
  | _ :: _ => none
abbrev itR (ps : List Int) : PyData := .tuple (ps.map .int)
theorem rowsOf_some : ∀ {ds : List PyData} {rs : List (List Int)}, rowsOf ds = some rs → ds = rs.map itR
  | [], rs, h => by cases h; rfl
  | d :: r, rs, h => by
    cases d with
    | tuple xs =>
      obtain ⟨ns, e1, e2⟩ := Option.bind_eq_some_iff.mp h
      obtain ⟨l, e3, e4⟩ := Option.map_eq_some_iff.mp e2
      subst e4
      rw [rowsOf_some e3, intsOf_some e1]
      rfl
    | _ => cases h
theorem rows_dp {K : Fg} {H : Hp} : ∀ {vs : List V} {rs : List (List Int)}, DpAll K H vs (rs.map itR) → Paired (fun x ns => TupI K H x ns) vs rs
  | _, [], h => by cases h; exact .nil
  | _, r :: rs, h => by
    cases h with
    | cons a b =>
      cases a with
      | tup s a =>
        rw [dpAll_ints_inv a] at s
        exact .cons ⟨_, rfl, s⟩ (rows_dp b)
theorem dp_rows {K : Fg} {H : Hp} : ∀ {vs : List V} {rs : List (List Int)}, Paired (fun x ns => TupI K H x ns) vs rs → DpAll K H vs (rs.map itR)
  | _, _, .nil => .nil
  | _, _, .cons ⟨t, e, s⟩ r => by
    rw [e, List.map_cons]
    exact .cons (.tup s (dpAll_ints _)) (dp_rows r)
def mSortR (m : M) : ML := fun ρ S => (m ρ S).bind fun p => (asD p.2 p.1).bind fun d => match d with
  | .list xs => (rowsOf xs).bind fun rs => some ((sortR rs).map itR, p.2)
  | _ => none
section
variable {X : Cx} {e : Expr} {m : M} {p pos : Pos} {k : Nat}
theorem dl_sortR (hr : Room k X.A) (he : DE X e m) (hg : Gl X "sorted") (hm : X.mg "sorted" = none) (hv : bootBuiltins "sorted" = some (.builtin "sorted")) (h2 : starEach [e] X.env = (false, eval e X.env) :: starEach [] X.env := by rfl) :
    DLs X (.Call (.Name "sorted" p) [e] [] pos) (mSortR m) :=
  pe_imp (pe_callB (cr_sortedRows hr.units) hg hm hv (pa_cons he pa_nil h2) (he := h2)) fun σ H Q ⟨as, ρ, S, ds, S', R, E, e0, k⟩ => by
    obtain ⟨⟨v, S1⟩, e1, e0⟩ := Option.bind_eq_some_iff.mp e0
    refine ⟨as, ρ, S, v, S1, R, E, e1, fun u H1 R1 E1 V1 => ?_⟩
    obtain ⟨d, e3, e0⟩ := Option.bind_eq_some_iff.mp e0
    dsimp only at e0 e3
    split at e0
    · rename_i xs
      obtain ⟨rs, e2, e0⟩ := Option.bind_eq_some_iff.mp e0
      cases e0
      obtain ⟨a, vs, rfl, s1, a1⟩ := list_at R1 V1 e3
      rw [rowsOf_some e2] at a1
      exact ⟨a, vs, rs, _, rfl, s1, fun x ns ⟨t, e, q⟩ => ⟨t, e, sqT_mono hide_same q⟩, rows_dp a1, fun ys l h1 h4 => k l H1 ys R1 E1 h4 (dp_rows h1)⟩
    · cases e0
end
end DL

namespace DL
open PySem PySem.Spec PyProof.Rows L2 DK
instance (m : M) [FrM m] : FrL (mSortR m) := ⟨fun ρ S T => by
  unfold mSortR
  rw [FrM.fr (m := m)]
  cases m ρ T with
  | none => rfl
  | some p =>
    obtain ⟨v, T1⟩ := p
    show (asD (S ++ T1) (shV S.length v)).bind _ = Option.map _ ((asD T1 v).bind _)
    rw [sh_asD]
    cases asD T1 v with
    | none => rfl
    | some d =>
      cases d with
      | list xs =>
        show (rowsOf xs).bind _ = Option.map _ ((rowsOf xs).bind _)
        cases rowsOf xs <;> rfl
      | _ => rfl⟩
end DL
namespace DN
open PySem PySem.Spec PyProof.Rows L2 DK DL
section
variable [Feed]
/-- a pure def, run at known data by another one that is the same -/
def xPureE (F F' : FV) [FrF F] (q : F = F') : SF where
  F := F
  a := fun vs T => (exAll vs).bind fun ds => match F' (ds.map .d) [] with
    | some (.d x, []) => some [(.d (.ex x), T)]
    | _ => none
  ok := fun {vs T l} e {xs S} hv hT => by
    subst q
    exact (xPure F).ok (T := T) e hv hT
def xPureLE (F F' : FL) [FrFL F] (q : F = F') : SFL where
  F := F
  a := fun vs T => (exAll vs).bind fun ds => match F' (ds.map .d) [] with
    | some (x, []) => some [(.exs (x.map .ex), T)]
    | _ => none
  ok := fun {vs T l} e {xs S} hv hT => by
    subst q
    exact (xPureL F).ok (T := T) e hv hT
end
end DN
namespace DN
open PySem PySem.Spec PyProof.Rows L2 DK DL
theorem itemsOf_as {S : Sto} {x : PV} {d : PyData} (h : asD S x = some d) : itemsOf S x = itemsOf S (.d d) := by
  cases x with
  | d y => rw [show y = d from Option.some.inj h]
  | c i =>
    obtain ⟨l, e, rfl⟩ := asD_c h
    exact e
def kSum : CallT cSum := call1 cSum (fun {x S d} h => by
    show (itemsOf S x).bind _ = (itemsOf S (.d d)).bind _
    rw [itemsOf_as h]) (fun {xs S} h => by
    match xs with
    | [] => rfl
    | [x] => exact absurd rfl h
    | _ :: _ :: _ => rfl) (fun d S => by cases d <;> rfl) (fun _ => none) fun e _ => by cases e
end DN
namespace DL
open PySem PySem.Spec PyProof.Rows L2 DK
instance (ma : MA) [FrA ma] : FrL (mZip ma) := ⟨fun ρ S T => by
  unfold mZip
  rw [FrA.fr (m := ma)]
  cases ma ρ T with
  | none => rfl
  | some p =>
    obtain ⟨vs, T1⟩ := p
    match vs with
    | [] => rfl
    | [.c _] => rfl
    | [.d x] => cases x <;> rfl
    | [.c _, _] => rfl
    | [.d x, .c _] => cases x <;> rfl
    | [.d x, .d y] => cases x <;> cases y <;> rfl
    | a :: b :: c :: r => cases a with
      | c _ => rfl
      | d x => cases x <;> (cases b with
        | c _ => rfl
        | d y => cases y <;> rfl)⟩
end DL

/-! a loop over a list of ours: at each turn it is read as it stands -/
namespace DL
open PySem PySem.Spec PyProof.Rows L2 DK
section
variable [Nms] [Tabs]
def forGoC (j : Nat) (tgt : TgD) (body : MS) : Nat → Nat → RE → Sto → Option Out
  | 0, _, _, _ => none
  | f + 1, i, ρ, S => (lAt S j).bind fun l => match l[i]? with
    | none => some (.nx ρ S)
    | some x => (tgt x ρ).bind fun ρ1 => (body ρ1 S).bind fun o => match o with
      | .nx ρ' S' => forGoC j tgt body f (i + 1) ρ' S'
      | .ct ρ' S' => forGoC j tgt body f (i + 1) ρ' S'
      | .bk ρ' S' => some (.nx ρ' S')
      | .rt v S' => some (.rt v S')
      | .rl v S' => some (.rl v S')
def sForC (m : M) (tgt : TgD) (body : MS) : MS := fun ρ S => (m ρ S).bind fun p => match p.1 with
  | .c j => forGoC j tgt body 100000 0 ρ p.2
  | .d _ => none
theorem ds_forC {X : Cx} {tg iter : Expr} {body : List Stmt} {m : M} {is : List Nat} {g : TgD} {gb : MS} {pos : Pos} (hp : PassesOwn (model X.prog X.w) X.A X.env X.xe) (hc : X.calm = true) (hi : DE X iter m) (hg : DG X tg is g) (hb : DSs X body gb)
    (hs : ∀ x, foldedSetIterable iter X.env x = pure x := by intro _; rfl) : DS X (.For tg iter body [] pos) (sForC m g gb) := ps_imp (ps_for hp hc (pi_seq hi) hg hb hs) fun D σ H ⟨as, ρ, S, o, R, E, e, k⟩ => by
  obtain ⟨⟨v, S1⟩, e1, e⟩ := Option.bind_eq_some_iff.mp e
  cases v with
  | d y => cases e
  | c j =>
    dsimp only at e
    refine ⟨as, ρ, S, .c j, S1, R, E, e1, fun u H1 R1 E1 V1 => ?_⟩
    obtain ⟨a, ha, rfl⟩ := V1
    obtain ⟨l0, el0, _⟩ := Option.bind_eq_some_iff.mp (show (lAt S1 j).bind _ = some o from e)
    obtain ⟨ws, hw, _⟩ := R1.at_ j a l0 ha el0
    refine .inl ⟨a, rfl, ⟨ws, SqL.of hw⟩, ?_⟩
    refine ⟨fun i q σ' H' => ∃ as' ρ' S', Ext as H1 as' H' ∧ Rel X.K as' S' H' ∧ ER X.K as' H' σ' ρ' ∧ forGoC j g gb q i ρ' S' = some o,
      ⟨100000, as, ρ, S1, .refl, R1, E.ext E1, e⟩, ?_⟩
    rintro i q σ' H' ⟨as', ρ', S', X1, R2, E2, e2⟩
    have K2 : Post X.K as' H' D o := k.ext (E1.trans X1)
    have ha' : as'[j]? = some a := by
      obtain ⟨bs, rfl⟩ := X1.pre
      rw [List.getElem?_append_left (List.getElem?_eq_some_iff.mp ha).1]
      exact ha
    cases q with
    | zero => cases e2
    | succ q =>
      obtain ⟨l3, el3, e2⟩ := Option.bind_eq_some_iff.mp e2
      obtain ⟨ws3, hw3, dw3⟩ := R2.at_ j a l3 ha' el3
      have sq : SqL X.K H' a ws3 := SqL.of hw3
      cases hx : l3[i]? with
      | none =>
        rw [hx] at e2
        cases e2
        exact .inl ⟨⟨ws3, sq, by rw [dpAll_len dw3]; exact List.getElem?_eq_none_iff.mp hx⟩, K2 as' σ' H' .refl R2 E2⟩
      | some x =>
        rw [hx] at e2
        obtain ⟨w, ew, dw4⟩ := dpAll_get dw3 hx
        refine .inr ⟨⟨ws3, w, sq, ew⟩, fun σ2 H2 => ∃ as2 ρ2 S2, Ext as H1 as2 H2 ∧ Rel X.K as2 S2 H2 ∧ ER X.K as2 H2 σ2 ρ2 ∧ forGoC j g gb q (i + 1) ρ2 S2 = some o, fun σ2 H2 z => ⟨q, Nat.lt_succ_self _, z⟩, fun y H2 yl => ?_⟩
        obtain ⟨rfl, yl⟩ := yl
        have hyw : y = w := Option.some.inj ((yl ws3 sq).symm.trans ew)
        subst hyw
        obtain ⟨ρ3, e3, e2⟩ := Option.bind_eq_some_iff.mp e2
        obtain ⟨o2, e4, e2⟩ := Option.bind_eq_some_iff.mp e2
        refine ⟨as', ρ', x, ρ3, E2, dw4, e3, fun σ3 E3 _ => ⟨as', ρ3, S', o2, R2, E3, e4, ?_⟩⟩
        cases o2 with
        | nx ρ4 S4 => exact fun as4 σ4 H4 X4 R4 E4 => ⟨as4, ρ4, S4, X1.trans X4, R4, E4, e2⟩
        | ct ρ4 S4 => exact fun as4 σ4 H4 X4 R4 E4 => ⟨as4, ρ4, S4, X1.trans X4, R4, E4, e2⟩
        | bk ρ4 S4 =>
          cases e2
          exact fun as4 σ4 H4 X4 R4 E4 => K2 as4 σ4 H4 X4 R4 E4
        | rt v S4 =>
          cases e2
          exact fun as4 u H4 X4 R4 V4 => K2 as4 u H4 X4 R4 V4
        | rl v S4 =>
          cases e2
          exact fun as4 u H4 vs X4 R4 => K2 as4 u H4 vs X4 R4
end
theorem forGoC_sh {tgt : TgD} {body : MS} [FrT tgt] [FrS body] (S : Sto) (j : Nat) : ∀ (f i : Nat) (ρ : RE) (T : Sto), forGoC (S.length + j) tgt body f i (shR S.length ρ) (S ++ T) = (forGoC j tgt body f i ρ T).map (shO S)
  | 0, i, ρ, T => rfl
  | f + 1, i, ρ, T => by
    unfold forGoC
    rw [lAt_sh]
    cases lAt T j with
    | none => rfl
    | some l =>
      show (match l[i]? with | none => _ | some x => _) = Option.map _ (match l[i]? with | none => _ | some x => _)
      cases l[i]? with
      | none => rfl
      | some x =>
        show (tgt x (shR S.length ρ)).bind _ = Option.map _ ((tgt x ρ).bind _)
        rw [FrT.fr (t := tgt)]
        cases tgt x ρ with
        | none => rfl
        | some ρ1 =>
          show (body (shR S.length ρ1) (S ++ T)).bind _ = Option.map _ ((body ρ1 T).bind _)
          rw [FrS.fr (m := body)]
          cases body ρ1 T with
          | none => rfl
          | some o => cases o with
            | nx ρ' T' => exact forGoC_sh S j f (i + 1) ρ' T'
            | ct ρ' T' => exact forGoC_sh S j f (i + 1) ρ' T'
            | _ => rfl
instance (m : M) (tgt : TgD) (body : MS) [FrM m] [FrT tgt] [FrS body] : FrS (sForC m tgt body) := ⟨fun ρ S T => by
  unfold sForC
  rw [FrM.fr (m := m)]
  cases m ρ T with
  | none => rfl
  | some p =>
    obtain ⟨v, T1⟩ := p
    cases v with
    | d _ => rfl
    | c j => exact forGoC_sh S j _ _ ρ T1⟩
end DL
namespace DN
open PySem PySem.Spec PyProof.Rows L2 DK DL
section
variable [Feed]
def loopC (n : Nm) (j : Nat) (tg : SG) (b : SS) : Nat → Nat → AEnv → ASto → Option (List AOut)
  | 0, _, _, _ => none
  | f + 1, i, A, T => match (T[j]? : Option ACell) with
    | some (.q (.exs vs)) => match vs[i]? with
      | none => some [.nx A T]
      | some v => (tg.a v A).bind fun B => (b.a B T).bind fun os => bindL (n.f os) fun o => match o with
        | .nx A' T' => loopC n j tg b f (i + 1) A' T'
        | .ct A' T' => loopC n j tg b f (i + 1) A' T'
        | .bk A' T' => some [.nx A' T']
        | .rt v T' => some [.rt v T']
        | .rl v T' => some [.rl v T']
    | _ => none
theorem loopC_ok {n : Nm} {j : Nat} {tg : SG} {b : SS} : ∀ {f i : Nat} {A : AEnv} {T : ASto} {l : List AOut} {ρ : RE} {S : Sto}, loopC n j tg b f i A T = some l → REn A ρ → RSt T S → ∃ o ∈ l, ∃ out, forGoC j tg.m b.m f i ρ S = some out ∧ ROut o out
  | 0, _, _, _, _, _, _, h, _, _ => by cases h
  | f + 1, i, A, T, l, ρ, S, h, hA, hT => by
    unfold loopC at h
    split at h
    · rename_i vs e1
      obtain ⟨ds, ed, g⟩ := stQ hT e1
      have g : All2 γ vs ds := g
      split at h
      · rename_i hv
        cases h
        have hd : ds[i]? = none := by
          rw [List.getElem?_eq_none_iff] at hv ⊢
          rw [← g.len]
          exact hv
        refine ⟨_, List.mem_singleton.mpr rfl, .nx ρ S, ?_, hA, hT⟩
        unfold forGoC
        rw [lAt_some.mpr ed]
        show (match ds[i]? with | none => _ | some x => _) = _
        rw [hd]
      · rename_i v hv
        obtain ⟨d, hd, gd⟩ := g.get hv
        obtain ⟨B, e2, h⟩ := Option.bind_eq_some_iff.mp h
        obtain ⟨os, e3, h⟩ := Option.bind_eq_some_iff.mp h
        obtain ⟨ρ1, f1, r1⟩ := tg.ok e2 gd hA
        obtain ⟨o0, ho0, out0, f2, r2⟩ := b.ok e3 r1 hT
        obtain ⟨o1, ho1, r3⟩ := n.ok ho0 r2
        obtain ⟨s2, e5, k2⟩ := bindL_mem h ho1
        have ew : forGoC j tg.m b.m (f + 1) i ρ S = ((some out0 : Option Out).bind fun o => match o with
          | .nx ρ' S' => forGoC j tg.m b.m f (i + 1) ρ' S'
          | .ct ρ' S' => forGoC j tg.m b.m f (i + 1) ρ' S'
          | .bk ρ' S' => some (.nx ρ' S')
          | .rt v S' => some (.rt v S')
          | .rl v S' => some (.rl v S')) := by
          conv => lhs; unfold forGoC
          rw [lAt_some.mpr ed]
          show (match ds[i]? with | none => _ | some x => _) = _
          rw [hd]
          show (tg.m d ρ).bind _ = _
          rw [f1]
          show (b.m ρ1 S).bind _ = _
          rw [f2]
        rw [ew]
        clear ew
        cases out0 with
        | nx ρ' S' =>
          cases o1 <;> first | (exact r3.elim) | skip
          obtain ⟨o, ho, out, g1, g2⟩ := loopC_ok e5 r3.1 r3.2
          exact ⟨o, k2 _ ho, out, g1, g2⟩
        | ct ρ' S' =>
          cases o1 <;> first | (exact r3.elim) | skip
          obtain ⟨o, ho, out, g1, g2⟩ := loopC_ok e5 r3.1 r3.2
          exact ⟨o, k2 _ ho, out, g1, g2⟩
        | bk ρ' S' =>
          cases o1 <;> first | (exact r3.elim) | skip
          cases e5
          exact ⟨_, k2 _ (List.mem_singleton.mpr rfl), _, rfl, r3⟩
        | rt v S' =>
          cases o1 <;> first | (exact r3.elim) | skip
          cases e5
          exact ⟨_, k2 _ (List.mem_singleton.mpr rfl), _, rfl, r3⟩
        | rl v S' =>
          cases o1 <;> first | (exact r3.elim) | skip
          cases e5
          exact ⟨_, k2 _ (List.mem_singleton.mpr rfl), _, rfl, r3⟩
    · cases h
def xForC (n : Nm) (x : SM) (tg : SG) (b : SS) : SS where
  m := sForC x.m tg.m b.m
  a := fun A T => (x.a A T).bind fun l => bindL l fun p => match p.1 with
    | .c j => loopC n j tg b 100000 0 A p.2
    | .d _ => none
  ok := fun {A T l} e {ρ S} hA hT => by
    obtain ⟨l1, e1, e⟩ := Option.bind_eq_some_iff.mp e
    obtain ⟨⟨v, T1⟩, ho1, x1, S1, f1, r1, t1⟩ := x.ok e1 hA hT
    obtain ⟨s, e2, k⟩ := bindL_mem e ho1
    cases v with
    | d w => cases e2
    | c j =>
      cases x1 with
      | d y => exact r1.elim
      | c j' =>
        have ej : j = j' := r1
        subst ej
        obtain ⟨o, ho, out, g1, g2⟩ := loopC_ok e2 hA t1
        refine ⟨o, k _ ho, out, ?_, g2⟩
        show (x.m ρ S).bind _ = _
        rw [f1]
        exact g1
end
end DN

/-! pure defs by a table of their answers, which the kernel reckons once -/
namespace DN
open PySem PySem.Spec PyProof.Rows L2 DK DL
def rowN (l : List Nat) : PyData := .tuple (l.map fun n => .int ((n : Nat) : Int))
def look {β : Type} (d : PyData) : List (List Nat × β) → Option β
  | [] => none
  | e :: r => if sameD d (rowN e.1) = true then some e.2 else look d r
theorem look_mem {β : Type} {d : PyData} {b : β} : ∀ {t : List (List Nat × β)}, look d t = some b → ∃ e ∈ t, d = rowN e.1 ∧ e.2 = b
  | [], h => by cases h
  | e :: r, h => by
    unfold look at h
    split at h
    · rename_i q
      cases h
      exact ⟨e, List.mem_cons_self, sameD_eq q, rfl⟩
    · obtain ⟨f, m, q⟩ := look_mem h
      exact ⟨f, List.mem_cons_of_mem _ m, q⟩
def tabL {β : Type} (t : List (List Nat × β)) (g : β → List PyData) (F : FL) : FL := fun vs S => match vs with
  | [.d d] => match look d t with
    | some b => some (g b, S)
    | none => F vs S
  | _ => F vs S
def okL {β : Type} (g : β → List PyData) (F : FL) (e : List Nat × β) : Bool := match F [.d (rowN e.1)] [] with
  | some (bl, []) => sameDs bl (g e.2)
  | _ => false
theorem tabL_eq {β : Type} {t : List (List Nat × β)} {g : β → List PyData} {F : FL} [FrFL F] (h : t.all (okL g F) = true) : F = tabL t g F := by
  funext vs S
  unfold tabL
  split
  · rename_i d
    split
    · rename_i b q
      obtain ⟨e, hm, rfl, rfl⟩ := look_mem q
      have z := List.all_eq_true.mp h e hm
      unfold okL at z
      split at z
      · rename_i bl q2
        rw [← sameDs_eq z]
        have f := frameL (ds := [rowN e.1]) q2 S
        rw [List.append_nil] at f
        exact f
      · cases z
    · rfl
  · rfl
def tabV {β : Type} (t : List (List Nat × β)) (g : β → PyData) (F : FV) : FV := fun vs S => match vs with
  | [.d d] => match look d t with
    | some b => some (.d (g b), S)
    | none => F vs S
  | _ => F vs S
def okV {β : Type} (g : β → PyData) (F : FV) (e : List Nat × β) : Bool := match F [.d (rowN e.1)] [] with
  | some (.d x, []) => sameD x (g e.2)
  | _ => false
theorem tabV_eq {β : Type} {t : List (List Nat × β)} {g : β → PyData} {F : FV} [FrF F] (h : t.all (okV g F) = true) : F = tabV t g F := by
  funext vs S
  unfold tabV
  split
  · rename_i d
    split
    · rename_i b q
      obtain ⟨e, hm, rfl, rfl⟩ := look_mem q
      have z := List.all_eq_true.mp h e hm
      unfold okV at z
      split at z
      · rename_i bl q2
        rw [← sameD_eq z]
        have f := frame (ds := [rowN e.1]) q2 S
        rw [List.append_nil] at f
        exact f
      · cases z
    · rfl
  · rfl
end DN

/-! dicts of our own whose keys are tuples of whole numbers and of such: what the machine does with them -/
namespace DL
open PySem PySem.Spec PyProof.Rows L2 DK
mutual
inductive KeyAt (K : Fg) (H : Hp) : V → NestedKey → Prop
  | non : KeyAt K H .non .none
  | int (i : Int) : KeyAt K H (.int i) (.num i)
  | tup {a : Addr} {xs : List V} {ks : List NestedKey} : SqT K H a xs → KeyAts K H xs ks → KeyAt K H (.ref a) (.tup ks)
inductive KeyAts (K : Fg) (H : Hp) : List V → List NestedKey → Prop
  | nil : KeyAts K H [] []
  | cons {x : V} {k : NestedKey} {xs : List V} {ks : List NestedKey} : KeyAt K H x k → KeyAts K H xs ks → KeyAts K H (x :: xs) (k :: ks)
end
mutual
theorem keyAt_dp {K : Fg} {G : Hp} : ∀ {k : NestedKey} {v : V} {d : PyData}, Dp K G v d → KeyD d k → KeyAt K G v k
  | .none, _, _, h, q => by cases q; cases h; exact .non
  | .num i, _, _, h, q => by cases q; cases h; exact .int i
  | .text _, _, _, h, q => by cases q
  | .tup ks, _, _, h, q => by
    cases q with
    | tup q => cases h with
      | tup s a => exact .tup s (keyAts_dp a q)
theorem keyAts_dp {K : Fg} {G : Hp} : ∀ {ks : List NestedKey} {vs : List V} {ds : List PyData}, DpAll K G vs ds → KeyDs ds ks → KeyAts K G vs ks
  | [], _, _, h, q => by cases q; cases h; exact .nil
  | k :: ks, _, _, h, q => by
    cases q with
    | cons q r => cases h with
      | cons a b => exact .cons (keyAt_dp a q) (keyAts_dp b r)
end
mutual
theorem keyAt_mono {K : Fg} {G H : Hp} (e : Same G H) : ∀ {k : NestedKey} {v : V}, KeyAt K G v k → KeyAt K H v k
  | .none, _, h => by cases h; exact .non
  | .num i, _, h => by cases h; exact .int i
  | .text _, _, h => by cases h
  | .tup ks, _, h => by
    cases h with
    | tup s a => exact .tup (sqT_mono e s) (keyAts_mono e a)
theorem keyAts_mono {K : Fg} {G H : Hp} (e : Same G H) : ∀ {ks : List NestedKey} {vs : List V}, KeyAts K G vs ks → KeyAts K H vs ks
  | [], _, h => by cases h; exact .nil
  | k :: ks, _, h => by
    cases h with
    | cons a b => exact .cons (keyAt_mono e a) (keyAts_mono e b)
end
mutual
theorem keyD_free : ∀ {k : NestedKey} {d : PyData}, KeyD d k → freeK k = true
  | .none, _, _ => rfl
  | .num _, _, _ => rfl
  | .text _, _, h => by cases h
  | .tup ks, _, h => by cases h with | tup q => exact keyDs_free q
theorem keyDs_free : ∀ {ks : List NestedKey} {ds : List PyData}, KeyDs ds ks → freeKs ks = true
  | [], _, _ => rfl
  | k :: ks, _, h => by
    cases h with
    | cons a b =>
      show (freeK k && freeKs ks) = true
      rw [keyD_free a, keyDs_free b]
      rfl
end
mutual
theorem keyD_inj : ∀ {k : NestedKey} {d d' : PyData}, KeyD d k → KeyD d' k → d = d'
  | .none, _, _, h, g => by cases h; cases g; rfl
  | .num _, _, _, h, g => by cases h; cases g; rfl
  | .text _, _, _, h, _ => by cases h
  | .tup ks, _, _, h, g => by
    cases h with
    | tup q => cases g with
      | tup r => rw [keyDs_inj q r]
theorem keyDs_inj : ∀ {ks : List NestedKey} {ds ds' : List PyData}, KeyDs ds ks → KeyDs ds' ks → ds = ds'
  | [], _, _, h, g => by cases h; cases g; rfl
  | k :: ks, _, _, h, g => by
    cases h with
    | cons a b => cases g with
      | cons c d => rw [keyD_inj a c, keyDs_inj b d]
end
mutual
def keyOf : PyData → Option NestedKey
  | .none => some .none
  | .int i => some (.num i)
  | .tuple ds => (keysOf ds).map .tup
  | _ => none
def keysOf : List PyData → Option (List NestedKey)
  | [] => some []
  | d :: ds => (keyOf d).bind fun k => (keysOf ds).map (k :: ·)
end
mutual
theorem keyOf_ok : ∀ {d : PyData} {k : NestedKey}, keyOf d = some k → KeyD d k
  | .none, k, h => by unfold keyOf at h; cases h; exact .non
  | .int i, k, h => by unfold keyOf at h; cases h; exact .int i
  | .tuple ds, k, h => by
    unfold keyOf at h
    obtain ⟨ks, e, rfl⟩ := Option.map_eq_some_iff.mp h
    exact .tup (keysOf_ok e)
  | .bool _, k, h => by unfold keyOf at h; cases h
  | .str _, k, h => by unfold keyOf at h; cases h
  | .list _, k, h => by unfold keyOf at h; cases h
  | .dict _, k, h => by unfold keyOf at h; cases h
theorem keysOf_ok : ∀ {ds : List PyData} {ks : List NestedKey}, keysOf ds = some ks → KeyDs ds ks
  | [], ks, h => by unfold keysOf at h; cases h; exact .nil
  | d :: ds, ks, h => by
    unfold keysOf at h
    obtain ⟨k, e1, h⟩ := Option.bind_eq_some_iff.mp h
    obtain ⟨l, e2, rfl⟩ := Option.map_eq_some_iff.mp h
    exact .cons (keyOf_ok e1) (keysOf_ok e2)
end
mutual
theorem keyD_fun : ∀ {k k' : NestedKey} {d : PyData}, KeyD d k → KeyD d k' → k = k'
  | .none, _, _, h, g => by cases h; cases g; rfl
  | .num _, _, _, h, g => by cases h; cases g; rfl
  | .text _, _, _, h, _ => by cases h
  | .tup ks, _, _, h, g => by
    cases h with
    | tup q => cases g with
      | tup r => rw [keyDs_fun q r]
theorem keyDs_fun : ∀ {ks ks' : List NestedKey} {ds : List PyData}, KeyDs ds ks → KeyDs ds ks' → ks = ks'
  | [], _, _, h, g => by cases h; cases g; rfl
  | k :: ks, _, _, h, g => by
    cases h with
    | cons a b => cases g with
      | cons c d => rw [keyD_fun a c, keyDs_fun b d]
end
section
variable {X : Cx} {pins : List (Addr × Obj)} {σ : L2.St} {H : Hp} {s : Shared}
mutual
theorem keyAt_nested (I : Inv X pins σ H s) : ∀ {k : NestedKey} {v : V} {u : Value}, KeyAt X.K H v k → RelV v u → NestedIs s.heap k u
  | .none, _, _, h, r => by cases h; cases r; exact .none
  | .num i, _, _, h, r => by
    cases h
    obtain ⟨t, rfl⟩ := r
    exact .int i t
  | .text _, _, _, h, _ => by cases h
  | .tup ks, _, _, h, r => by
    cases h with
    | tup sq a =>
      cases r
      obtain ⟨its, rv, ⟨o, ho, hc, n, hd⟩, _⟩ := I.tuple sq
      exact .tup ho hc hd (by
        rw [List.toList_toArray]
        exact keyAts_nested I a rv)
theorem keyAts_nested (I : Inv X pins σ H s) : ∀ {ks : List NestedKey} {vs : List V} {us : List Value}, KeyAts X.K H vs ks → Vals vs us → NestedAll s.heap ks us
  | [], _, _, h, r => by cases h; cases r; exact .nil
  | k :: ks, _, _, h, r => by
    cases h with
    | cons a b => cases r with
      | cons c d => exact .cons (keyAt_nested I a c) (keyAts_nested I b d)
end
end
/-- at a: a dict of our own with these entries -/
structure DctOk (K : Fg) (H : Hp) (a : Addr) (es : List DEnt) : Prop where
  at_ : Rd H a (DctO a es)
  keys : ∀ e ∈ es, KeyAt K H (.ref e.2.1) e.1 ∧ e.1.depth ≤ 8 ∧ freeK e.1 = true
  len : es.length ≤ 1000000
  sys : (a == sysModules) = false
  nodup : (es.map (·.1)).Nodup
abbrev EntsR : List DEnt → List (NestedKey × Addr × Value) → Prop := Paired (fun (p : DEnt) (q : NestedKey × Addr × Value) => p.1 = q.1 ∧ p.2.1 = q.2.1 ∧ RelV p.2.2 q.2.2)
theorem entsR_mem : ∀ {es : List DEnt} {xs : List (NestedKey × Addr × Value)}, EntsR es xs → ∀ x ∈ xs, ∃ e ∈ es, e.1 = x.1 ∧ e.2.1 = x.2.1
  | _, _, .nil, x, h => by cases h
  | _, _, .cons r t, x, h => by
    rcases List.mem_cons.mp h with rfl | h
    · exact ⟨_, List.mem_cons_self, r.1, r.2.1⟩
    · obtain ⟨e, m, q⟩ := entsR_mem t x h
      exact ⟨e, List.mem_cons_of_mem _ m, q⟩
theorem entsR_keys : ∀ {es : List DEnt} {xs : List (NestedKey × Addr × Value)}, EntsR es xs → es.map (·.1) = xs.map (·.1)
  | _, _, .nil => rfl
  | _, _, .cons r t => by rw [List.map_cons, List.map_cons, r.1, entsR_keys t]
def valE (es : List DEnt) (k : NestedKey) : Option V := (es.find? fun e => decide (e.1 = k)).map (·.2.2)
def putE (es : List DEnt) (k : NestedKey) (b : Addr) (v : V) : List DEnt := if (valE es k).isSome then es.map (fun e => if e.1 = k then (e.1, e.2.1, v) else e) else es ++ [(k, b, v)]
theorem entsR_val : ∀ {es : List DEnt} {xs : List (NestedKey × Addr × Value)}, EntsR es xs → ∀ k, RelO (valE es k) ((atKey xs k).map (·.2))
  | _, _, .nil, k => True.intro
  | e :: es, x :: xs, .cons r t, k => by
    obtain ⟨h1, _, h2⟩ := r
    unfold valE atKey
    rw [List.find?_cons, List.find?_cons]
    by_cases h : e.1 = k
    · rw [decide_eq_true h, decide_eq_true (h1.symm.trans h)]
      exact h2
    · rw [decide_eq_false h, decide_eq_false (fun z => h (h1.trans z))]
      exact entsR_val t k
theorem entsR_put {es : List DEnt} {xs : List (NestedKey × Addr × Value)} (r : EntsR es xs) (k : NestedKey) (b : Addr) {v : V} {u : Value} (rv : RelV v u) : EntsR (putE es k b v) (storedH xs k b u) := by
  have e : (valE es k).isSome = (atKey xs k).isSome := by
    have := entsR_val r k
    rw [this.isSome_eq, Option.isSome_map]
  unfold putE storedH
  rw [e]
  split
  · rename_i hh
    clear hh e
    induction r with
    | nil => exact .nil
    | cons q t ih =>
      rw [List.map_cons, List.map_cons]
      refine .cons ?_ ih
      obtain ⟨h1, h2, h3⟩ := q
      unfold putAt
      split
      · rename_i h
        rw [if_pos (h1.symm.trans h)]
        exact ⟨h1, h2, rv⟩
      · rename_i h
        rw [if_neg (fun z => h (h1.trans z))]
        exact ⟨h1, h2, h3⟩
  · exact Paired.snoc r ⟨rfl, rfl, rv⟩
section
variable {X : Cx} {pins : List (Addr × Obj)} {σ : L2.St} {H : Hp} {s : Shared} {a : Addr} {es : List DEnt}
theorem dct_of (I : Inv X pins σ H s) (D : DctOk X.K H a es) : ∃ xs, EntsR es xs ∧ s.heap.DictOfH (nestedKind X.prog X.w) a xs := by
  obtain ⟨⟨xs, o, arr, ep, r, h1, h2, h3, h4⟩, _⟩ := (show ObjOk X.prog X.w H s.heap a (.ext fun h => DctAt h a es) from D.at_.ok I.hok)
  refine ⟨xs, r, o, arr, ep, h1, h2, h3, ?_, fun x hx => ?_, by rw [← entsR_keys r]; exact D.nodup⟩
  · rw [h4]
    refine List.map_congr_left fun x hx => ?_
    obtain ⟨e, m, q1, q2⟩ := entsR_mem r x hx
    show (⟨hash0 x.1, .ref x.2.1, x.2.2⟩ : DictEntry) = ⟨NestedKey.hash X.w x.1, .ref x.2.1, x.2.2⟩
    rw [hash_free X.w (k := x.1) (by rw [← q1]; exact (D.keys e m).2.2)]
  · obtain ⟨e, m, q1, q2⟩ := entsR_mem r x hx
    obtain ⟨k1, k2, _⟩ := D.keys e m
    rw [← q1, ← q2]
    exact ⟨keyAt_nested I k1 rfl, k2⟩
theorem room8 {A : Around} (hu : A.units + 64 < cLine) : (nestedKind X.prog X.w).room A.in1 := by
  show A.in1.units + 8 < cLine
  have : A.in1.units ≤ A.units + 1 := Nat.le_refl _
  omega
theorem key_is (I : Inv X pins σ H s) {b : Addr} {k : NestedKey} (h : KeyAt X.K H (.ref b) k) (hd : k.depth ≤ 8) : (nestedKind X.prog X.w).is s.heap k b := ⟨keyAt_nested I h rfl, hd⟩
variable {A : Around} {E : Value → Shared → Prop} {b : Addr} {k : NestedKey} {v : V} {r : Value}
/-- d[k], there -/
theorem dct_getItem {Q : Value → Shared → Prop} (hu : A.units + 64 < cLine) (I : Inv X pins σ H s) (D : DctOk X.K H a es) (hk : KeyAt X.K H (.ref b) k) (hd : k.depth ≤ 8) (g : valE es k = some v) (h : ∀ w' s', Inv X pins σ H s' → RelV v w' → Q w' s') :
    wpAny (model X.prog X.w) A (getItem (.ref a) (.ref b)) Q E s := by
  obtain ⟨xs, rel, dd⟩ := dct_of I D
  obtain ⟨w', hw, rw'⟩ := RelO.some_of (v := v) (o := (atKey xs k).map (·.2)) (by rw [← g]; exact entsR_val rel k)
  obtain ⟨p, hp, hp2⟩ := Option.map_eq_some_iff.mp hw
  refine wpAny_getItem_heap (room8 hu) (key_is I hk hd) dd hp ?_
  rw [hp2]
  exact h w' _ (I.tok _) rw'
/-- d.get(k, x) -/
theorem dct_get2 {Q : Value → Shared → Prop} {dv : V} (hu : A.units + 64 < cLine) (I : Inv X pins σ H s) (D : DctOk X.K H a es) (hk : KeyAt X.K H (.ref b) k) (hd : k.depth ≤ 8) (rd : RelV dv r) (h : ∀ w' s', Inv X pins σ H s' → RelV ((valE es k).getD dv) w' → Q w' s') :
    wpAny (model X.prog X.w) A (call (.builtin "dict.get") [.ref a, .ref b, r]) Q E s := by
  obtain ⟨xs, rel, dd⟩ := dct_of I D
  refine call_meetsIn PySem.F.slot_dict_get dd.typeIs PySem.F.entry_dict_get (PySem.F.args_dict_get_3 _ _ _) (meetsH_dict_get_default (nestedKind X.prog X.w) a b D.sys r) ⟨room8 hu, k, xs, key_is I hk hd, dd, h _ _ (I.tok _) ?_⟩
  exact (entsR_val rel k).getD rd
/-- k in d -/
theorem dct_in {Q : Value → Shared → Prop} (hu : A.units + 64 < cLine) (I : Inv X pins σ H s) (D : DctOk X.K H a es) (hk : KeyAt X.K H (.ref b) k) (hd : k.depth ≤ 8) (h : ∀ s', Inv X pins σ H s' → Q (.bool (valE es k).isSome) s') :
    wpAny (model X.prog X.w) A (compareOp .In (.ref b) (.ref a)) Q E s := by
  obtain ⟨xs, rel, dd⟩ := dct_of I D
  refine wpAny_in_heap (room8 hu) (key_is I hk hd) D.sys dd ?_
  have q := (entsR_val rel k).isSome_eq
  rw [Option.isSome_map] at q
  rw [← q]
  exact h _ (I.tok _)
theorem putE_len (es : List DEnt) (k : NestedKey) (b : Addr) (v : V) : (putE es k b v).length ≤ es.length + 1 := by
  unfold putE
  split
  · rw [List.length_map]; omega
  · rw [List.length_append, List.length_singleton]; exact Nat.le_refl _
theorem dctO_ok {P : Program} {w : World} {H' : Hp} {h' : Heap} {es' : List DEnt} (x : DctAt h' a es') : ObjOk P w H' h' a (DctO a es') := by
  refine ⟨x, ?_, fun h1 h2 y st => ?_⟩
  · obtain ⟨_, o, _, _, _, e, _⟩ := x
    exact ⟨o, e⟩
  · obtain ⟨xs, o, arr, ep, r, e, q⟩ := y
    exact ⟨xs, o, arr, ep, r, st _ e, q⟩
/-- d[k] = v -/
theorem dct_setItem {Q : Unit → Shared → Prop} (hu : A.units + 64 < cLine) (I : Inv X pins σ H s) (D : DctOk X.K H a es) (hk : KeyAt X.K H (.ref b) k) (hd : k.depth ≤ 8) (hf : freeK k = true) (hw : H a = some (DctO a es)) (rv : RelV v r) (h : ∀ s', Inv X pins σ (upd H a (DctO a (putE es k b v))) s' → Q () s') :
    wpAny (model X.prog X.w) A (setItem (.ref a) (.ref b) r) Q E s := by
  obtain ⟨xs, rel, dd⟩ := dct_of I D
  have hz : xs.length ≤ sizeLine := by
    have := D.len
    rw [← Paired.length rel, sizeLine_eq]
    omega
  refine wpAny_setItem_heap (hsz := hz) (room8 hu) (key_is I hk hd) dd fun h' dd' hs => h _ ?_
  obtain ⟨q, arr, ep, hq, h2, h3, h4, _, h5⟩ := dd'
  have rel' := entsR_put rel k b rv
  have hfr : ∀ x ∈ storedH xs k b r, freeK x.1 = true := fun x hx => by
    obtain ⟨e, m, q1, _⟩ := entsR_mem rel' x hx
    rw [← q1]
    unfold putE at m
    split at m
    · obtain ⟨e0, m0, rfl⟩ := List.mem_map.mp m
      have := (D.keys e0 m0).2.2
      split <;> exact this
    · rcases List.mem_append.mp m with m | m
      · exact (D.keys e m).2.2
      · rw [List.mem_singleton.mp m]
        exact hf
  refine d_write I (by rw [hw]; exact True.intro) hs ⟨q, hq⟩ (dctO_ok ⟨_, q, arr, ep, rel', hq, h2, h3, ?_⟩)
  rw [h4]
  refine List.map_congr_left fun x hx => ?_
  show (⟨NestedKey.hash X.w x.1, .ref x.2.1, x.2.2⟩ : DictEntry) = ⟨hash0 x.1, .ref x.2.1, x.2.2⟩
  rw [hash_free X.w (k := x.1) (hfr x hx)]
theorem dct_typeIs (I : Inv X pins σ H s) (D : DctOk X.K H a es) : s.TypeIs (.ref a) "dict" := by
  obtain ⟨xs, _, dd⟩ := dct_of I D
  exact dd.typeIs
theorem dct_noDict (I : Inv X pins σ H s) (D : DctOk X.K H a es) : ∀ b, Value.ref a = .ref b → ∃ ob, s.heap.get? b = some ob ∧ ob.dict = none := fun b q => by
  cases q
  obtain ⟨xs, _, ob, _, _, h1, h2, _⟩ := dct_of I D
  exact ⟨ob, h1, h2.2.1⟩
/-- {} -/
def tDNewO : TE := fun _ H Q => ∀ p, H p = none → (p == sysModules) = false → Q (.ref p) (upd H p (DctO p []))
theorem pe_dnewO {pos : Pos} : PE X (.Dict [] [] pos) tDNewO := ⟨fun pins s σ H Q I h =>
  wpAny_Dict_empty ⟨.ref s.heap.objs.size, _, I.laid (a := s.heap.objs.size) (o := DctO s.heap.objs.size []) (t' := s.toks) (fun _ _ q => Heap.get?_push_of_some _ q) (Nat.le_refl _)
    (dctO_ok ⟨[], _, #[], 0, .nil, Heap.get?_push_size _ rfl, ⟨rfl, rfl, rfl⟩, rfl, rfl⟩), rfl, h _ (I.hok.fresh (Nat.le_refl _)) (beq_eq_false_iff_ne.mpr (Ne.symm (Nat.ne_of_lt I.big)))⟩⟩
end
end DL

/-! dict cells: {}, d[k], d.get(k, x), d[k] = v -/
namespace DL
open PySem PySem.Spec PyProof.Rows L2 DK
/-! ### rules of the layer -/
def tDGetO (K : Fg) (td ty : TE) : TE := fun σ H Q => td σ H fun x H1 => ty σ H1 fun y H2 => ∃ a es b k v, x = .ref a ∧ y = .ref b ∧ DctOk K H2 a es ∧ KeyAt K H2 (.ref b) k ∧ k.depth ≤ 8 ∧ valE es k = some v ∧ Q v H2
def tDGet2O (K : Fg) (td ty tx : TE) : TE := fun σ H Q => td σ H fun x H1 => ∃ a, x = .ref a ∧ (∃ es, DctOk K H1 a es) ∧ ty σ H1 fun y H2 => tx σ H2 fun z H3 => ∃ es b k, y = .ref b ∧ DctOk K H3 a es ∧ KeyAt K H3 (.ref b) k ∧ k.depth ≤ 8 ∧ Q ((valE es k).getD z) H3
def sDPutO (K : Fg) (td ty tv : TE) : TS := fun D σ H => tv σ H fun v H1 => td σ H1 fun x H2 => ty σ H2 fun y H3 => ∃ a es b k, x = .ref a ∧ y = .ref b ∧ DctOk K H3 a es ∧ KeyAt K H3 (.ref b) k ∧ k.depth ≤ 8 ∧ freeK k = true ∧ H3 a = some (DctO a es) ∧ D.nx σ (upd H3 a (DctO a (putE es k b v)))
def tDInO (K : Fg) (ty td : TE) : TE := fun σ H Q => ty σ H fun y H1 => td σ H1 fun x H2 => ∃ a es b k, x = .ref a ∧ y = .ref b ∧ DctOk K H2 a es ∧ KeyAt K H2 (.ref b) k ∧ k.depth ≤ 8 ∧ Q (.bl (valE es k).isSome) H2
section
variable {X : Cx} {o i e f value : Expr} {pos pos' apos cpos : Pos} {td ty tv tx : TE}
theorem pe_dgetO (hu : X.A.units + 64 < cLine) (ho : PE X o td) (hi : PE X i ty) (hs : NoSl i) : PE X (.Subscript o i pos) (tDGetO X.K td ty) := by
  refine ⟨fun pins s σ H Q I h => ?_⟩
  refine subD_of PySem.F.slot_dict_getitem.lookup hs (thn (ho.run pins s σ H _ I h) fun u s1 ⟨x, H1, I1, rx, q1⟩ => thn (hi.run pins s1 σ H1 _ I1 q1) fun iv s2 ⟨y, H2, I2, ry, a, es, b, k, v, ex, ey, D, hk, hd, g, q2⟩ => ?_)
  subst ex ey
  obtain rfl : u = Value.ref a := rx
  obtain rfl : iv = Value.ref b := ry
  exact ⟨dct_typeIs I2 D, dct_getItem hu I2 D hk hd g fun w' s3 I3 rw' => ⟨v, H2, I3, rw', q2⟩⟩
theorem pe_dget2O (hu : X.A.units + 64 < cLine) (ho : PE X o td) (he : PE X e ty) (hf : PE X f tx) (m : M2 X o "get" apos e f cpos) : PE X (.Call (.Attribute o "get" apos) [e, f] [] cpos) (tDGet2O X.K td ty tx) := by
  refine ⟨fun pins s σ H Q I h => ?_⟩
  refine wpAny_Call_method m.base m.few m.line PySem.F.plainAttrs_dict PySem.F.slot_dict_get PySem.F.type_dict_get (thn (ho.run pins s σ H _ I h) fun u s1 ⟨x, H1, I1, rx, a, ex, ⟨es1, d⟩, q1⟩ => ?_)
  subst ex
  obtain rfl : u = Value.ref a := rx
  refine ⟨dct_typeIs I1 d, dct_noDict I1 d, ?_⟩
  rw [m.trees]
  refine Calls.callWith_builtin rfl (Calls.evalArgs_plain (Calls.spliced_cons (thn (he.run pins s1 σ H1 _ I1 q1) fun iv s2 ⟨y, H2, I2, ry, q2⟩ =>
    Calls.spliced_cons (thn (hf.run pins s2 σ H2 _ I2 q2) fun fv s3 ⟨z, H3, I3, rz, es, b, k, ey, D, hk, hd, q3⟩ => Calls.spliced_nil ?_))))
  subst ey
  obtain rfl : iv = Value.ref b := ry
  exact dct_get2 hu I3 D hk hd rz fun w' s4 I4 rw' => ⟨_, H3, I4, rw', q3⟩
theorem ps_dputO (hu : X.A.units + 64 < cLine) (ho : PE X o td) (hi : PE X i ty) (hv : PE X value tv) (hs : swapsWith value (some (.Subscript o i pos')) pos.line X.env = pure false) :
    PS X (.Assign [.Subscript o i pos'] value pos) (sDPutO X.K td ty tv) := by
  refine ⟨fun pins s σ H D I h => ?_⟩
  refine wpAny_Assign_Subscript (thn (hv.run pins s σ H _ I h) fun r s1 ⟨v, H1, I1, rv, q1⟩ => thn (ho.run pins s1 σ H1 _ I1 q1) fun u s2 ⟨x, H2, I2, rx, q2⟩ => thn (hi.run pins s2 σ H2 _ I2 q2) fun iv s3 ⟨y, H3, I3, ry, a, es, b, k, ex, ey, Dk, hk, hd, hf, hw, q3⟩ => ?_) hs
  subst ex ey
  obtain rfl : u = Value.ref a := rx
  obtain rfl : iv = Value.ref b := ry
  exact dct_setItem hu I3 Dk hk hd hf hw rv fun s4 I4 => ⟨σ, _, I4, q3⟩
theorem pc_dinO (hu : X.A.units + 64 < cLine) (hi : PE X i ty) (ho : PE X o td) : PC X .In i o (tDInO X.K ty td) := by
  refine ⟨fun pins s σ H Q I h => ?_⟩
  refine thn (hi.run pins s σ H _ I h) fun iv s1 ⟨y, H1, I1, ry, q1⟩ => thn (ho.run pins s1 σ H1 _ I1 q1) fun u s2 ⟨x, H2, I2, rx, a, es, b, k, ex, ey, D, hk, hd, q2⟩ => ?_
  subst ex ey
  obtain rfl : u = Value.ref a := rx
  obtain rfl : iv = Value.ref b := ry
  exact dct_in hu I2 D hk hd fun s3 I3 => ⟨.bl (valE es k).isSome, H2, I3, rfl, q2⟩
end
/-! ### entries as data -/
def keyOk (d : PyData) : Option NestedKey := match d with
  | .tuple ds => (keysOf ds).bind fun ks => if (NestedKey.tup ks).depth ≤ 8 then some (.tup ks) else none
  | _ => none
theorem keyOk_ok {d : PyData} {k : NestedKey} (h : keyOk d = some k) : KeyD d k ∧ (∃ ks, k = .tup ks) ∧ k.depth ≤ 8 := by
  unfold keyOk at h
  split at h
  · obtain ⟨ks, e, h⟩ := Option.bind_eq_some_iff.mp h
    split at h
    · rename_i hd
      cases h
      exact ⟨.tup (keysOf_ok e), ⟨ks, rfl⟩, hd⟩
    · cases h
  · cases h
def dgetD (kvs : List (PyData × PyData)) (kd : PyData) : Option PyData := (kvs.find? fun p => DN.sameD p.1 kd).map (·.2)
def dputD (kvs : List (PyData × PyData)) (kd vd : PyData) : List (PyData × PyData) := if (dgetD kvs kd).isSome then kvs.map (fun p => if DN.sameD p.1 kd = true then (p.1, vd) else p) else kvs ++ [(kd, vd)]
mutual
theorem sameD_key : ∀ {d : PyData} {k : NestedKey}, KeyD d k → DN.sameD d d = true
  | .none, _, _ => rfl
  | .int i, _, _ => by show (i == i) = true; exact beq_self_eq_true i
  | .tuple ds, _, h => by cases h with | tup q => exact sameDs_key q
  | .bool _, _, h => by cases h
  | .str _, _, h => by cases h
  | .list _, _, h => by cases h
  | .dict _, _, h => by cases h
theorem sameDs_key : ∀ {ds : List PyData} {ks : List NestedKey}, KeyDs ds ks → DN.sameDs ds ds = true
  | [], _, _ => rfl
  | d :: ds, _, h => by
    cases h with
    | cons a b =>
      show (DN.sameD d d && DN.sameDs ds ds) = true
      rw [sameD_key a, sameDs_key b]
      rfl
end
theorem key_same {d d' : PyData} {k k' : NestedKey} (h : KeyD d k) (g : KeyD d' k') : DN.sameD d d' = decide (k = k') := by
  by_cases e : k = k'
  · subst e
    rw [decide_eq_true rfl, keyD_inj h g]
    exact sameD_key g
  · rw [decide_eq_false e]
    cases q : DN.sameD d d' with
    | false => rfl
    | true =>
      have := DN.sameD_eq q
      subst this
      exact absurd (keyD_fun h g) e
inductive OptR {α β : Type} (R : α → β → Prop) : Option α → Option β → Prop
  | none : OptR R none none
  | some {a b} : R a b → OptR R (some a) (some b)
theorem dget_rel {K : Fg} {G : Hp} {kd : PyData} {k : NestedKey} (hk : KeyD kd k) : ∀ {es : List DEnt} {kvs : List (PyData × PyData)}, Paired (EntR K G) es kvs → OptR (Dp K G) (valE es k) (dgetD kvs kd)
  | _, _, .nil => .none
  | e :: es, p :: kvs, .cons r t => by
    unfold valE dgetD
    rw [List.find?_cons, List.find?_cons, key_same r.key hk]
    by_cases h : e.1 = k
    · rw [decide_eq_true h]
      exact .some r.val
    · rw [decide_eq_false h]
      exact dget_rel hk t
theorem dput_rel {K : Fg} {G : Hp} {kd vd : PyData} {k : NestedKey} {b : Addr} {v : V} (hk : KeyD kd k) (ht : ∃ ks, k = .tup ks) (hd : k.depth ≤ 8) (hb : Dp K G (.ref b) kd) (hv : Dp K G v vd) {es : List DEnt} {kvs : List (PyData × PyData)} (h : Paired (EntR K G) es kvs) :
    Paired (EntR K G) (putE es k b v) (dputD kvs kd vd) := by
  have e : (valE es k).isSome = (dgetD kvs kd).isSome := by
    have := dget_rel hk h
    generalize valE es k = x at this
    generalize dgetD kvs kd = y at this
    cases this <;> rfl
  unfold putE dputD
  rw [e]
  split
  · rename_i hh
    clear hh e
    induction h with
    | nil => exact .nil
    | cons r t ih =>
      rw [List.map_cons, List.map_cons, key_same r.key hk]
      refine .cons ?_ ih
      split
      · rename_i q
        rw [if_pos (decide_eq_true q)]
        exact ⟨r.key, r.tup, r.deep, r.at_, hv⟩
      · rename_i q
        rw [if_neg (by simpa using q)]
        exact r
  · exact Paired.snoc h ⟨hk, ht, hd, hb, hv⟩
theorem putE_nodup {es : List DEnt} {k : NestedKey} {b : Addr} {v : V} (h : (es.map (·.1)).Nodup) : ((putE es k b v).map (·.1)).Nodup := by
  unfold putE
  split
  · rw [List.map_map]
    have : ((fun e : DEnt => e.1) ∘ fun e : DEnt => if e.1 = k then (e.1, e.2.1, v) else e) = fun e => e.1 := funext fun e => by
      show (if e.1 = k then (e.1, e.2.1, v) else e).1 = e.1
      split <;> rfl
    rw [this]
    exact h
  · rename_i q
    rw [List.map_append]
    refine List.nodup_append.mpr ⟨h, by simp, fun x hx y hy => ?_⟩
    rw [List.map_singleton, List.mem_singleton] at hy
    subst hy
    intro z
    subst z
    obtain ⟨e, m, e2⟩ := List.mem_map.mp hx
    refine q ?_
    unfold valE
    rw [Option.isSome_map]
    exact List.find?_isSome.mpr ⟨e, m, decide_eq_true e2⟩
theorem ents_keys {K : Fg} {as : List Addr} {H : Hp} {l : List DEnt} {m : List (PyData × PyData)} (q : Paired (EntR K (hide as H)) l m) : ∀ x ∈ l, KeyAt K H (.ref x.2.1) x.1 ∧ x.1.depth ≤ 8 ∧ freeK x.1 = true := by
  induction q with
  | nil => intro x hx; cases hx
  | cons r t ih =>
    intro x hx
    rcases List.mem_cons.mp hx with rfl | hx
    · exact ⟨keyAt_mono hide_same (keyAt_dp r.at_ r.key), r.deep, keyD_free r.key⟩
    · exact ih x hx
theorem Rel.dct {K : Fg} {as : List Addr} {S : Sto} {H : Hp} (R : Rel K as S H) {j : Nat} {a : Addr} {kvs : List (PyData × PyData)} (ha : as[j]? = some a) (e : dAt S j = some kvs) : ∃ es, DctOk K H a es ∧ Paired (EntR K (hide as H)) es kvs := by
  rcases dAt_some e with e | e
  · obtain ⟨es, h1, h2, h3, h4, h5⟩ := (show ∃ es, H a = some (DctO a es) ∧ Paired (EntR K (hide as H)) es kvs ∧ es.length ≤ 1000000 ∧ (a == sysModules) = false ∧ (es.map (·.1)).Nodup from R.cell j a _ ha e)
    exact ⟨es, ⟨.inl h1, ents_keys h2, h3, h4, h5⟩, h2⟩
  · obtain ⟨es, ⟨o, h1⟩, h2, h3, h4, h5⟩ := (show ∃ es, (∃ o, H a = some (.frz o (DctO a es))) ∧ Paired (EntR K (hide as H)) es kvs ∧ es.length ≤ 1000000 ∧ (a == sysModules) = false ∧ (es.map (·.1)).Nodup from R.cell j a _ ha e)
    exact ⟨es, ⟨.inr ⟨o, h1⟩, ents_keys h2, h3, h4, h5⟩, h2⟩
theorem Rel.dctW {K : Fg} {as : List Addr} {S : Sto} {H : Hp} (R : Rel K as S H) {j : Nat} {a : Addr} {kvs : List (PyData × PyData)} (ha : as[j]? = some a) (e : dAtW S j = some kvs) : ∃ es, H a = some (DctO a es) ∧ DctOk K H a es ∧ Paired (EntR K (hide as H)) es kvs := by
  obtain ⟨es, h1, h2, h3, h4, h5⟩ := (show ∃ es, H a = some (DctO a es) ∧ Paired (EntR K (hide as H)) es kvs ∧ es.length ≤ 1000000 ∧ (a == sysModules) = false ∧ (es.map (·.1)).Nodup from R.cell j a _ ha (dAtW_some.mp e))
  exact ⟨es, h1, ⟨.inl h1, ents_keys h2, h3, h4, h5⟩, h2⟩
/-! ### derivations -/
section
variable [Nms] [Tabs]
def mDGet (mo mk : M) : M := fun ρ S => (mo ρ S).bind fun o => (mk ρ o.2).bind fun q => match o.1, q.1 with
  | .c j, .d kd => (dAt q.2 j).bind fun kvs => (keyOk kd).bind fun _ => (dgetD kvs kd).map fun v => (PV.d v, q.2)
  | _, _ => none
def mDGet2 (mo mk mx : M) : M := fun ρ S => (mo ρ S).bind fun o => (mk ρ o.2).bind fun q => (mx ρ q.2).bind fun x => match o.1, q.1, x.1 with
  | .c j, .d kd, .d xd => if (dAt o.2 j).isSome = true then (dAt x.2 j).bind fun kvs => (keyOk kd).map fun _ => (PV.d ((dgetD kvs kd).getD xd), x.2) else none
  | _, _, _ => none
def sDPut (mo mk mv : M) : MS := fun ρ S => (mv ρ S).bind fun v => (mo ρ v.2).bind fun o => (mk ρ o.2).bind fun q => match v.1, o.1, q.1 with
  | .d vd, .c j, .d kd => (dAtW q.2 j).bind fun kvs => (keyOk kd).bind fun _ => if kvs.length < 1000000 then some (.nx ρ (q.2.set j (.d (dputD kvs kd vd)))) else none
  | _, _, _ => none
def sNewD (i : Nat) : MS := fun ρ S => some (.nx (ρ.set i (some (.c S.length))) (S ++ [.d []]))
variable {X : Cx} {o i e f : Expr} {mo mk mv mx : M} {k : Nat}
theorem dp_key {K : Fg} {G : Hp} {u : V} {kd : PyData} {kk : NestedKey} (h : Dp K G u kd) (q : keyOk kd = some kk) : ∃ b, u = .ref b := by
  unfold keyOk at q
  split at q
  · cases h
    exact ⟨_, rfl⟩
  · cases q
theorem de_dget {pos : Pos} (hr : Room k X.A) (ho : DE X o mo) (hi : DE X i mk) (hs : NoSl i := by intro _ _; rfl) : DE X (.Subscript o i pos) (mDGet mo mk) :=
  pe_imp (pe_dgetO hr.units ho hi hs) fun σ H Q ⟨as, ρ, S, r, S', R, E, e, k⟩ => by
    obtain ⟨⟨o, S1⟩, e1, e⟩ := Option.bind_eq_some_iff.mp e
    obtain ⟨⟨q, S2⟩, e2, e⟩ := Option.bind_eq_some_iff.mp e
    refine ⟨as, ρ, S, o, S1, R, E, e1, fun u H1 R1 E1 V1 => ⟨as, ρ, S1, q, S2, R1, E.ext E1, e2, fun w H2 R2 E2 V2 => ?_⟩⟩
    dsimp only at e
    split at e
    · rename_i j kd
      obtain ⟨kvs, e3, e⟩ := Option.bind_eq_some_iff.mp e
      obtain ⟨kk, e4, e⟩ := Option.bind_eq_some_iff.mp e
      obtain ⟨vd, e5, e⟩ := Option.map_eq_some_iff.mp e
      cases e
      obtain ⟨a, ha, rfl⟩ := V1
      obtain ⟨es, D, P⟩ := R2.dct ha e3
      obtain ⟨kD, _, hd⟩ := keyOk_ok e4
      obtain ⟨b, rfl⟩ := dp_key V2 e4
      have g := dget_rel kD P
      rw [e5] at g
      generalize hv : valE es kk = x at g
      cases g with
      | some g =>
        rename_i v
        exact ⟨a, es, b, kk, v, rfl, rfl, D, keyAt_mono hide_same (keyAt_dp V2 kD), hd, hv, k _ _ R2 (E1.trans E2) g⟩
    · cases e
theorem de_dget2 {apos cpos : Pos} (hr : Room k X.A) (ho : DE X o mo) (he : DE X e mk) (hf : DE X f mx) (m : M2 X o "get" apos e f cpos) : DE X (.Call (.Attribute o "get" apos) [e, f] [] cpos) (mDGet2 mo mk mx) :=
  pe_imp (pe_dget2O hr.units ho he hf m) fun σ H Q ⟨as, ρ, S, r, S', R, E, e, k⟩ => by
    obtain ⟨⟨o, S1⟩, e1, e⟩ := Option.bind_eq_some_iff.mp e
    obtain ⟨⟨q, S2⟩, e2, e⟩ := Option.bind_eq_some_iff.mp e
    obtain ⟨⟨x, S3⟩, e3, e⟩ := Option.bind_eq_some_iff.mp e
    refine ⟨as, ρ, S, o, S1, R, E, e1, fun u H1 R1 E1 V1 => ?_⟩
    dsimp only at e
    split at e
    · rename_i j kd xd _ _
      split at e
      · rename_i hs
        obtain ⟨kvs0, e0⟩ := Option.isSome_iff_exists.mp hs
        obtain ⟨kvs, e4, e⟩ := Option.bind_eq_some_iff.mp e
        obtain ⟨kk, e5, e⟩ := Option.map_eq_some_iff.mp e
        cases e
        obtain ⟨a, ha, rfl⟩ := V1
        obtain ⟨es0, D0, _⟩ := R1.dct ha e0
        refine ⟨a, rfl, ⟨es0, D0⟩, as, ρ, S1, .d kd, S2, R1, E.ext E1, e2, fun w H2 R2 E2 V2 => ⟨as, ρ, S2, .d xd, _, R2, E.ext (E1.trans E2), e3, fun z H3 R3 E3 V3 => ?_⟩⟩
        obtain ⟨es, D, P⟩ := R3.dct ha e4
        obtain ⟨kD, _, hd⟩ := keyOk_ok e5
        obtain ⟨b, rfl⟩ := dp_key V2 e5
        have V2' := V2.ext E3
        have g := dget_rel kD P
        refine ⟨es, b, kk, rfl, D, keyAt_mono hide_same (keyAt_dp V2' kD), hd, k _ _ R3 (E1.trans (E2.trans E3)) ?_⟩
        show Dp X.K (hide as H3) ((valE es kk).getD z) ((dgetD kvs kd).getD xd)
        generalize valE es kk = p at g
        generalize dgetD kvs kd = q at g
        cases g with
        | none => exact V3
        | some g => exact g
      · cases e
    · cases e
theorem ds_dput {p2 pos : Pos} (hr : Room k X.A) (hv : DE X e mv) (ho : DE X o mo) (hi : DE X i mk) (hs : swapsWith e (some (.Subscript o i p2)) pos.line X.env = pure false := by rfl) : DS X (.Assign [.Subscript o i p2] e pos) (sDPut mo mk mv) :=
  ps_imp (ps_dputO hr.units ho hi hv hs) fun D σ H ⟨as, ρ, S, out, R, E, e, k⟩ => by
    obtain ⟨⟨v, S1⟩, e1, e⟩ := Option.bind_eq_some_iff.mp e
    obtain ⟨⟨o, S2⟩, e2, e⟩ := Option.bind_eq_some_iff.mp e
    obtain ⟨⟨q, S3⟩, e3, e⟩ := Option.bind_eq_some_iff.mp e
    refine ⟨as, ρ, S, v, S1, R, E, e1, fun u H1 R1 E1 V1 => ⟨as, ρ, S1, o, S2, R1, E.ext E1, e2, fun w H2 R2 E2 V2 => ⟨as, ρ, S2, q, S3, R2, E.ext (E1.trans E2), e3, fun z H3 R3 E3 V3 => ?_⟩⟩⟩
    dsimp only at e
    split at e
    · rename_i vd j kd _ _
      obtain ⟨kvs, e4, e⟩ := Option.bind_eq_some_iff.mp e
      obtain ⟨kk, e5, e⟩ := Option.bind_eq_some_iff.mp e
      split at e
      · rename_i hz
        cases e
        obtain ⟨a, ha, rfl⟩ := V2.ext E3
        obtain ⟨es, hw, Dk, P⟩ := R3.dctW ha e4
        obtain ⟨kD, ht, hd⟩ := keyOk_ok e5
        obtain ⟨b, rfl⟩ := dp_key V3 e5
        have V1' := V1.ext (E2.trans E3)
        have hl : es.length = kvs.length := Paired.length P
        obtain ⟨R4, E4⟩ := R3.putC (c := .d (dputD kvs kd vd)) (o := DctO a (putE es kk b u)) ha (fun G sm => ⟨_, upd_same, dput_rel kD ht hd (dp_mono sm _ _ V3) (dp_mono sm _ _ V1') (Paired.mapP P fun _ _ q => q.mono sm), Nat.le_trans (putE_len _ _ _ _) (by omega), Dk.sys, putE_nodup Dk.nodup⟩) (fun ⟨vs, q⟩ => by unfold DctO at q; cases q) (fun o' u z => by rw [hw] at z; unfold DctO at z; cases z)
        exact ⟨a, es, b, kk, rfl, rfl, Dk, keyAt_mono hide_same (keyAt_dp V3 kD), hd, keyD_free kD, hw, k as σ _ ((E1.trans (E2.trans E3)).trans E4) R4 (E.ext ((E1.trans (E2.trans E3)).trans E4))⟩
      · cases e
    · cases e
end
end DL

/-! a loop over the keys of a dict of our own: the dict is locked while it is walked -/
namespace DL
open PySem PySem.Spec PyProof.Rows L2 DK
def ItkO (d : Addr) (o : Obj) (es : List DEnt) : It :=
  ⟨fun i H => H d = some (.frz o (DctO d es)) ∧ i < es.length, fun i H x H' => H' = H ∧ ∃ e, es[i]? = some e ∧ x = .ref e.2.1, fun i H => H d = some (.frz o (DctO d es)) ∧ es.length ≤ i⟩
theorem frzO_at {X : Cx} {pins : List (Addr × Obj)} {σ : L2.St} {H : Hp} {s : Shared} {d : Addr} {o : Obj} {es : List DEnt} (I : Inv X pins σ H s) (h : H d = some (.frz o (DctO d es))) :
    s.heap.get? d = some o ∧ o.ExactDict ∧ ∃ (arr : Array DictEntry) (ep : Nat), o.data = .dict arr ep ∧ arr.size = es.length ∧ ∀ (i : Nat) (e : DEnt), es[i]? = some e → ∃ en, arr[i]? = some en ∧ en.key = .ref e.2.1 := by
  obtain ⟨hd, ⟨xs, o', arr, ep, r, ho, hx, hdt, he⟩, _⟩ := (show s.heap.get? d = some o ∧ ObjOk X.prog X.w H s.heap d (.ext fun h => DctAt h d es) from I.hok d _ h)
  rw [hd] at ho
  cases ho
  have l1 : arr.size = xs.length := by
    have := congrArg List.length he
    rw [Array.length_toList, List.length_map] at this
    exact this
  refine ⟨hd, hx, arr, ep, hdt, by rw [l1, Paired.length r], fun i e q => ?_⟩
  obtain ⟨x, q2, e1, e2, _⟩ := paired_get r q
  refine ⟨⟨hash0 x.1, .ref x.2.1, x.2.2⟩, ?_, ?_⟩
  · rw [← Array.getElem?_toList, he, List.getElem?_map, q2]
    rfl
  · show Value.ref x.2.1 = Value.ref e.2.1
    rw [e2]
theorem turn_keysO {P : Program} {w : World} {K : PySem.W.Frag} {tg : Expr} {d : Addr} {o : Obj} {arr : Array DictEntry} {ep : Nat} {es : List DEnt} (it : Addr) (hod : o.data = .dict arr ep) : Turn P w K tg (ItkO d o es) [it] it (fun i h => h.IsKeyIter it d i es.length ep) where
  mem := by simp
  obj := fun i h st b hb => by
    have e : b = it := by simpa using hb
    subst e
    obtain ⟨oi, e, c, dd⟩ := st
    exact ⟨oi, e, fun v z => by rw [dd] at z; cases z⟩
  keep := fun i h h' st k => st.at fun oi e => k it (by simp) oi e
  item := by
    intro X hP hw hK hc i pins s σ H E I hf st hg
    subst hP hw hK
    obtain ⟨hd, hi⟩ := hg
    obtain ⟨f0, f1, f2, f3, f4, f5⟩ := hf it (by simp)
    obtain ⟨hgd, hx, arr', ep', hdt, hsz, ent⟩ := frzO_at I hd
    obtain ⟨rfl, rfl⟩ := dict_ep hod hdt
    obtain ⟨e, hkv⟩ : ∃ p, es[i]? = some p := ⟨es[i], List.getElem?_eq_getElem hi⟩
    obtain ⟨en, hen, hkey⟩ := ent i e hkv
    refine next_key_item st hgd hdt hsz hen fun h' st' sb => ?_
    have I1 : Inv X pins σ H { s with heap := h' } := I.turned (t' := s.toks) (fun b ob hb e => (sb.2 b hb).trans e) f0 f1 f3 f4 f5
    obtain ⟨oi, e1, c, dd⟩ := id st'
    exact ⟨en.key, rfl, go_of (s := { s with heap := h' }) e1 c dd (by decide) ⟨.ref e.2.1, H, I1, hkey, ⟨rfl, e, hkv, rfl⟩, st', fun b hb => (hf b hb).1⟩⟩
  done := by
    intro X hP hw hK hc i pins s σ H E I hf st hg
    subst hP hw hK
    obtain ⟨hd, hi⟩ := hg
    obtain ⟨f0, f1, f2, f3, f4, f5⟩ := hf it (by simp)
    obtain ⟨hgd, hx, arr', ep', hdt, hsz, ent⟩ := frzO_at I hd
    obtain ⟨rfl, rfl⟩ := dict_ep hod hdt
    exact next_key_end (I.ok.hd hc) st hgd hdt hsz hi fun h' eb => ⟨rfl, I.turned (t' := s.toks) (fun b ob hb e => eb b ob hb e) f0 f1 f3 f4 f5⟩
  self := fun A i s Q E st h => by
    refine wpAny_pyIter_slot st.typeIs F.slot_dict_keyiterator_iter (wpAny_call_entry F.slot_dict_keyiterator_iter st.typeIs F.entry_dict_keyiterator_iter ?_ (F.args_dict_keyiterator_iter_1 _))
    show wpAny _ _ (ret (.ref it)) _ _ s
    exact wpAny_pure ⟨_, rfl, "dict_keyiterator", _, st.typeIs, F.slot_dict_keyiterator_next.lookup, h⟩
def iKeysO (td : TE) : TI := fun σ H R => td σ H fun x H1 => ∃ d o es, x = .ref d ∧ (d == sysModules) = false ∧ H1 d = some (.frz o (DctO d es)) ∧ R (ItkO d o es) H1
theorem pi_keysO {X : Cx} {tg e : Expr} {td : TE} (he : PE X e td) : PI X tg e (iKeysO td) := by
  refine ⟨fun pins s σ H R I h => ?_⟩
  refine thn (he.run pins s σ H _ I h) fun u s1 ⟨x, H1, I1, rx, d, o, es, ex, hs, hd, q⟩ => ?_
  subst ex
  obtain rfl : u = Value.ref d := rx
  obtain ⟨hgd, hx, arr, ep, hdt, hsz, ent⟩ := frzO_at I1 hd
  refine iter_keys hs hgd hx hdt (pi_one (tk := s1.toks) I1 _ (turn_keysO _ hdt) ⟨_, Heap.get?_push_size _ rfl, rfl, ?_⟩ q)
  rw [hsz] <;> rfl
/-! ### locked and unlocked -/
section
variable [Nms] [Tabs]
variable {K : Fg} {as as1 : List Addr} {S S1 : Sto} {H H1 H' : Hp} {d : Addr} {j : Nat} {es : List DEnt} {od : Obj} {kvs : List (PyData × PyData)}
theorem unl_same (hd : d ∈ as) : Same (hide as H') (hide as (upd H' d (DctO d es))) := fun b u h => by
  obtain ⟨nb, h, ht⟩ := hide_of3 h
  refine hide_some nb ?_ ht
  rw [upd_ne (show b ≠ d from fun z => nb (by rw [z]; exact hd))]
  exact h
theorem Ext.unl (T : Ext as H as1 H') (hd : d ∈ as) (h0 : H d = some (DctO d es)) (h1 : H' d = some (.frz od (DctO d es))) : Ext as H as1 (upd H' d (DctO d es)) := by
  refine ⟨T.pre, T.new, fun b u nb q ht => ?_, fun P h => tab_but (.inr (.inr (.inr ⟨od, es, h1⟩))) (fun _ n => upd_ne n) P (T.tab P h), fun b u nb q => ?_, fun b hb q => ?_, fun b hb o' u q => ?_⟩
  · rw [upd_ne (show b ≠ d from fun z => nb (by rw [z]; exact hd))]
    exact T.keep b u nb q ht
  · obtain ⟨u', z⟩ := T.there b u nb q
    exact there_upd z
  · by_cases z : b = d
    · subst z
      obtain ⟨vs, q⟩ := q
      rw [upd_same] at q
      unfold DctO at q
      cases q
    · rw [upd_ne z] at q
      exact T.kind b hb q
  · by_cases z : b = d
    · subst z
      rw [h0] at q
      unfold DctO at q
      cases q
    · rw [upd_ne z]
      exact T.lock b hb o' u q
theorem Rel.unl (R : Rel K as1 S H') (hj : as1[j]? = some d) (hc : CellR K (hide as1 (upd H' d (DctO d es))) (upd H' d (DctO d es)) d (.d kvs)) : Rel K as1 (S.set j (.d kvs)) (upd H' d (DctO d es)) := by
  have ma : d ∈ as1 := List.mem_of_getElem? hj
  refine ⟨R.nd, by rw [List.length_set]; exact R.len, fun i b c x y => ?_⟩
  by_cases e : i = j
  · subst e
    rw [hj] at x
    cases x
    have hl : i < S.length := by rw [← R.len]; exact (List.getElem?_eq_some_iff.mp hj).1
    rw [List.getElem?_set_self hl] at y
    cases y
    exact hc
  · rw [List.getElem?_set_ne (Ne.symm e)] at y
    refine (R.cell i b c x y).mono (unl_same ma) (upd_ne fun z => e ?_)
    subst z
    exact nodup_ix' R.nd x hj
theorem VR.same {v : V} {p : PV} (s : Same (hide as H) (hide as H1)) (h : VR K as H v p) : VR K as H1 v p := by
  cases p with
  | d x => exact dp_mono s _ _ h
  | c i => exact h
section
theorem ER.unl {σ : L2.St} {ρ : RE} (E : ER K as1 H' σ ρ) (hd : d ∈ as1) (h1 : H' d = some (.frz od (DctO d es))) : ER K as1 (upd H' d (DctO d es)) σ ρ := ⟨E.len, fun i p q => by
  obtain ⟨v, a, b⟩ := E.at_ i p q
  exact ⟨v, a, b.same (unl_same hd)⟩, fun P hP => tab_but (.inr (.inr (.inr ⟨od, es, h1⟩))) (fun _ n => upd_ne n) P (E.tab P hP)⟩
end
end
section
variable [Nms] [Tabs]
def mapSto (g : Sto → Sto) : Out → Option Out
  | .nx ρ S => some (.nx ρ (g S))
  | .ct ρ S => some (.ct ρ (g S))
  | .bk ρ S => some (.bk ρ (g S))
  | .rt v S => some (.rt v (g S))
  | .rl _ _ => none
def sForD (i : Nat) (tgt : TgD) (body : MS) : MS := fun ρ S => match ρ[i]? with
  | some (some (.c j)) => (dAtW S j).bind fun kvs => (forGo tgt body (kvs.map (·.1)) ρ (S.set j (.k kvs))).bind (mapSto fun S' => S'.set j (.d kvs))
  | _ => none
theorem ents_get {K : Fg} {G : Hp} {es : List DEnt} {kvs : List (PyData × PyData)} (h : Paired (EntR K G) es kvs) {n : Nat} {e : DEnt} (q : es[n]? = some e) : ∃ p, (kvs.map (·.1))[n]? = some p ∧ Dp K G (.ref e.2.1) p := by
  obtain ⟨p, q2, r⟩ := paired_get h q
  exact ⟨p.1, by rw [List.getElem?_map, q2]; rfl, r.at_⟩
theorem ds_forD {X : Cx} {tg iter : Expr} {body : List Stmt} {i : Nat} {is : List Nat} {g : TgD} {gb : MS} {pos : Pos} (hp : PassesOwn (model X.prog X.w) X.A X.env X.xe) (hc : X.calm = true) (hi : DE X iter (mVar i)) (hg : DG X tg is g) (hb : DSs X body gb)
    (hs : ∀ x, foldedSetIterable iter X.env x = pure x := by intro _; rfl) : DS X (.For tg iter body [] pos) (sForD i g gb) := ps_imp (ps_lock (ps_for hp hc (pi_keysO hi) hg hb hs)) fun D σ H ⟨as, ρ, S, o, R, E, e, k⟩ => by
  unfold sForD at e
  split at e
  · rename_i j hρ
    obtain ⟨kvs, e1, e⟩ := Option.bind_eq_some_iff.mp e
    obtain ⟨o0, e2, em⟩ := Option.bind_eq_some_iff.mp e
    obtain ⟨v, hσ, a, ha, rfl⟩ := E.at_ i (.c j) hρ
    obtain ⟨es, hw, Dk, P⟩ := R.dctW ha e1
    have hm : a ∈ as := List.mem_of_getElem? ha
    refine ⟨a, DctO a es, hw, True.intro, fun od => ?_⟩
    obtain ⟨R1, E1⟩ := R.putC (c := .k kvs) (o := .frz od (DctO a es)) ha (fun G sm => ⟨es, ⟨od, upd_same⟩, Paired.mapP P fun _ _ q => q.mono sm, Dk.len, Dk.sys, Dk.nodup⟩) (fun ⟨vs, q⟩ => by cases q) (fun o' u z => by rw [hw] at z; unfold DctO at z; cases z)
    have mv : mVar i ρ (S.set j (.k kvs)) = some (.c j, S.set j (.k kvs)) := by unfold mVar; rw [hρ]
    refine ⟨as, ρ, S.set j (.k kvs), .c j, _, R1, E.ext E1, mv, fun u H1 R2 E2 V2 => ?_⟩
    obtain ⟨a2, ha2, rfl⟩ := V2
    rw [ha] at ha2
    cases ha2
    have hl1 : H1 a = some (.frz od (DctO a es)) := E2.lock a hm od _ upd_same
    refine ⟨a, od, es, rfl, Dk.sys, hl1, ?_⟩
    have P1 : Paired (EntR X.K (hide as H1)) es kvs := Paired.mapP P fun _ _ q => q.mono (fun b o z => (E1.trans E2).same b o z)
    -- the end of the loop
    have fin : ∀ (as' : List Addr) (H' : Hp), Ext as H1 as' H' → H' a = some (.frz od (DctO a es)) ∧ as'[j]? = some a ∧ a ∈ as' ∧ Ext as H as' (upd H' a (DctO a es)) ∧ (∀ S', Rel X.K as' S' H' → Rel X.K as' (S'.set j (.d kvs)) (upd H' a (DctO a es))) := fun as' H' X2 => by
      have q1 := X2.lock a hm od _ hl1
      have q2 : as'[j]? = some a := by
        obtain ⟨bs, rfl⟩ := X2.pre
        rw [List.getElem?_append_left (List.getElem?_eq_some_iff.mp ha).1]
        exact ha
      have q3 := List.mem_of_getElem? q2
      refine ⟨q1, q2, q3, ((E1.trans E2).trans X2).unl hm hw q1, fun S' R' => R'.unl q2 ⟨es, upd_same, Paired.mapP P1 fun _ _ q => q.mono fun b o z => unl_same q3 b o (X2.same b o z), Dk.len, Dk.sys, Dk.nodup⟩⟩
    have hlen : (kvs.map (·.1)).length = es.length := by rw [List.length_map, Paired.length P]
    refine ⟨fun n m σ' H' => m = es.length - n ∧ n ≤ es.length ∧ ∃ as' ρ' S', Ext as H1 as' H' ∧ Rel X.K as' S' H' ∧ ER X.K as' H' σ' ρ' ∧ forGo g gb ((kvs.map (·.1)).drop n) ρ' S' = some o0,
      ⟨es.length, by omega, Nat.zero_le _, as, ρ, S.set j (.k kvs), .refl, R2, (E.ext E1).ext E2, e2⟩, ?_⟩
    rintro n m σ' H' ⟨hm2, hn, as', ρ', S', X1, R3, E3, e3⟩
    obtain ⟨q1, q2, q3, q4, q5⟩ := fin as' H' X1
    by_cases hlt : n < es.length
    · obtain ⟨en, hen⟩ : ∃ p, es[n]? = some p := ⟨es[n], List.getElem?_eq_getElem hlt⟩
      obtain ⟨kd, hkd, hdp⟩ := ents_get P1 hen
      refine .inr ⟨⟨q1, hlt⟩, fun σ2 H2 => ∃ as2 ρ2 S2, Ext as H1 as2 H2 ∧ Rel X.K as2 S2 H2 ∧ ER X.K as2 H2 σ2 ρ2 ∧ forGo g gb ((kvs.map (·.1)).drop (n + 1)) ρ2 S2 = some o0, fun σ2 H2 z => ⟨es.length - (n + 1), by omega, rfl, hlt, z⟩, fun x H2 y => ?_⟩
      obtain ⟨rfl, en', hen', rfl⟩ := y
      rw [hen] at hen'
      cases hen'
      have hlt2 : n < (kvs.map (·.1)).length := by rw [hlen]; exact hlt
      rw [drop_cons hlt2] at e3
      have hke : (kvs.map (·.1))[n] = kd := by
        rw [List.getElem?_eq_getElem hlt2] at hkd
        exact Option.some.inj hkd
      rw [hke] at e3
      obtain ⟨ρ3, e4, e3⟩ := Option.bind_eq_some_iff.mp e3
      obtain ⟨o2, e5, e3⟩ := Option.bind_eq_some_iff.mp e3
      refine ⟨as', ρ', kd, ρ3, E3, dp_mono X1.same _ _ hdp, e4, fun σ3 E4 _ => ⟨as', ρ3, S', o2, R3, E4, e5, ?_⟩⟩
      cases o2 with
      | nx ρ4 S4 => exact fun as4 σ4 H4 X4 R4 E4 => ⟨as4, ρ4, S4, X1.trans X4, R4, E4, e3⟩
      | ct ρ4 S4 => exact fun as4 σ4 H4 X4 R4 E4 => ⟨as4, ρ4, S4, X1.trans X4, R4, E4, e3⟩
      | bk ρ4 S4 =>
        cases e3
        cases em
        exact fun as4 σ4 H4 X4 R4 E4 => by
          obtain ⟨z1, z2, z3, z4, z5⟩ := fin as4 H4 (X1.trans X4)
          exact ⟨z1, k as4 σ4 _ z4 (z5 _ R4) (E4.unl z3 z1)⟩
      | rt v S4 =>
        cases e3
        cases em
        exact fun as4 u H4 X4 R4 V4 => by
          obtain ⟨z1, z2, z3, z4, z5⟩ := fin as4 H4 (X1.trans X4)
          exact ⟨z1, k as4 u _ z4 (z5 _ R4) (V4.same (unl_same z3))⟩
      | rl v S4 =>
        cases e3
        cases em
    · have he : n = es.length := by omega
      subst he
      rw [show (kvs.map (·.1)).drop es.length = [] from by rw [← hlen]; exact List.drop_length ..] at e3
      cases e3
      cases em
      exact .inl ⟨⟨q1, Nat.le_refl _⟩, q1, k as' σ' _ q4 (q5 _ R3) (E3.unl q3 q1)⟩
  · cases e
end
end DL

/-! dict cells: a new one, k in d; frames -/
namespace DL
open PySem PySem.Spec PyProof.Rows L2 DK
section
variable [Nms] [Tabs]
variable {X : Cx} {o e : Expr} {mo mk : M} {k : Nat} {pos : Pos}
theorem ds_newD {i : Nat} {x : Str} {pos' p2 : Pos} (hN : X.N.Nodup) (hi : X.N[i]? = some x) (hx : Loc X.env.scope x) (hs : swapsWith (.Dict [] [] p2) (some (.Name x pos')) pos.line X.env = pure false := by rfl)
    (hf : X.fn x = true ∨ X.env.scope.names.lookup x = some .local := by first | exact .inl rfl | exact .inr rfl | assumption) : DS X (.Assign [.Name x pos'] (.Dict [] [] p2) pos) (sNewD i) :=
  ps_imp (ps_set hN hi hx pe_dnewO hs hf) fun D σ H ⟨as, ρ, S, o, R, E, e, k⟩ => by
    cases e
    intro p hp hsys
    obtain ⟨R2, E2⟩ := R.growC (c := .d []) (o := DctO p []) hp (fun G sm => ⟨[], upd_same, .nil, Nat.zero_le _, hsys, List.nodup_nil⟩)
    refine k (as ++ [p]) _ _ E2 R2 ((E.ext E2).set i ⟨p, ?_, rfl⟩)
    rw [← R.len]
    simp
def mDIn (mk mo : M) : M := fun ρ S => (mk ρ S).bind fun q => (mo ρ q.2).bind fun o => match q.1, o.1 with
  | .d kd, .c j => (dAt o.2 j).bind fun kvs => (keyOk kd).map fun _ => (PV.d (.bool (dgetD kvs kd).isSome), o.2)
  | _, _ => none
theorem tDIn_D {ty td : TE} {mk mo : M} (hk : ∀ σ H Q, tM X.K mk σ H Q → ty σ H Q) (ho : ∀ σ H Q, tM X.K mo σ H Q → td σ H Q) : ∀ σ H Q, tM X.K (mDIn mk mo) σ H Q → tDInO X.K ty td σ H Q := fun σ H Q ⟨as, ρ, S, r, S', R, E, e, k⟩ => by
  obtain ⟨⟨q, S1⟩, e1, e⟩ := Option.bind_eq_some_iff.mp e
  obtain ⟨⟨o, S2⟩, e2, e⟩ := Option.bind_eq_some_iff.mp e
  refine hk _ _ _ ⟨as, ρ, S, q, S1, R, E, e1, fun u H1 R1 E1 V1 => ho _ _ _ ⟨as, ρ, S1, o, S2, R1, E.ext E1, e2, fun w H2 R2 E2 V2 => ?_⟩⟩
  dsimp only at e
  split at e
  · rename_i kd j _
    obtain ⟨kvs, e3, e⟩ := Option.bind_eq_some_iff.mp e
    obtain ⟨kk, e4, e⟩ := Option.map_eq_some_iff.mp e
    cases e
    obtain ⟨a, ha, rfl⟩ := V2
    obtain ⟨es, D, P⟩ := R2.dct ha e3
    obtain ⟨kD, _, hd⟩ := keyOk_ok e4
    have V1' := V1.ext E2
    obtain ⟨b, rfl⟩ := dp_key V1 e4
    have g := dget_rel kD P
    refine ⟨a, es, b, kk, rfl, rfl, D, keyAt_mono hide_same (keyAt_dp V1' kD), hd, ?_⟩
    have z : (valE es kk).isSome = (dgetD kvs kd).isSome := by
      generalize valE es kk = x at g
      generalize dgetD kvs kd = y at g
      cases g <;> rfl
    rw [z]
    exact k _ _ R2 (E1.trans E2) (.bl _)
  · cases e
theorem de_din (hr : Room k X.A) (hi : DE X e mk) (ho : DE X o mo) (h1 : behindInMarks .In o = false := by with_unfolding_all rfl) : DE X (.Compare e [.In] [o] pos) (mDIn mk mo) :=
  pe_imp (pe_cmp (pc_dinO hr.units hi ho) h1) (tDIn_D (fun _ _ _ q => q) (fun _ _ _ q => q))
theorem db_din (hr : Room k X.A) (hi : DE X e mk) (ho : DE X o mo) (h1 : behindInMarks .In o = false := by with_unfolding_all rfl) : DB X (.Compare e [.In] [o] pos) (asB (mDIn mk mo)) :=
  pt_imp (pt_cmp (pc_dinO hr.units hi ho) h1) fun σ H Q q => by
    have := tTest_D (tDIn_D (X := X) (mk := mk) (mo := mo) (fun _ _ _ q => q) (fun _ _ _ q => q)) σ H Q q
    exact this
end
/-! ### frames -/
instance (a b : M) [FrM a] [FrM b] : FrM (mDGet a b) := ⟨fun ρ S T => by
  unfold mDGet
  rw [FrM.fr (m := a)]
  cases h : a ρ T with
  | none => rfl
  | some r =>
    show (b (shR S.length ρ) (S ++ r.2)).bind _ = _
    rw [FrM.fr (m := b)]
    cases h2 : b ρ r.2 with
    | none => simp [h2]
    | some q =>
      simp only [Option.bind_some, h2, Option.map_some]
      obtain ⟨o, S1⟩ := r
      obtain ⟨q, S2⟩ := q
      cases o with
      | d x => rfl
      | c j =>
        cases q with
        | c j2 => rfl
        | d kd =>
          show (dAt (S ++ S2) (S.length + j)).bind _ = Option.map _ ((dAt S2 j).bind _)
          rw [dAt_sh]
          cases dAt S2 j with
          | none => rfl
          | some kvs =>
            dsimp
            cases keyOk kd with
            | none => rfl
            | some kk => cases dgetD kvs kd <;> rfl⟩
instance (a b : M) [FrM a] [FrM b] : FrM (mDIn a b) := ⟨fun ρ S T => by
  unfold mDIn
  rw [FrM.fr (m := a)]
  cases h : a ρ T with
  | none => rfl
  | some r =>
    show (b (shR S.length ρ) (S ++ r.2)).bind _ = _
    rw [FrM.fr (m := b)]
    cases h2 : b ρ r.2 with
    | none => simp [h2]
    | some q =>
      simp only [Option.bind_some, h2, Option.map_some]
      obtain ⟨o, S1⟩ := r
      obtain ⟨q, S2⟩ := q
      cases o with
      | c j => cases q <;> rfl
      | d kd =>
        cases q with
        | d x => rfl
        | c j =>
          show (dAt (S ++ S2) (S.length + j)).bind _ = Option.map _ ((dAt S2 j).bind _)
          rw [dAt_sh]
          cases dAt S2 j with
          | none => rfl
          | some kvs =>
            dsimp
            cases keyOk kd <;> rfl⟩
instance (a b c : M) [FrM a] [FrM b] [FrM c] : FrM (mDGet2 a b c) := ⟨fun ρ S T => by
  unfold mDGet2
  rw [FrM.fr (m := a)]
  cases h : a ρ T with
  | none => rfl
  | some r =>
    show (b (shR S.length ρ) (S ++ r.2)).bind _ = _
    rw [FrM.fr (m := b)]
    cases h2 : b ρ r.2 with
    | none => simp [h2]
    | some q =>
      show (c (shR S.length ρ) (S ++ q.2)).bind _ = _
      rw [FrM.fr (m := c)]
      cases h3 : c ρ q.2 with
      | none => simp [h2, h3]
      | some z =>
        simp only [Option.bind_some, h2, h3, Option.map_some]
        obtain ⟨o, S1⟩ := r
        obtain ⟨q, S2⟩ := q
        obtain ⟨z, S3⟩ := z
        cases o with
        | d x => rfl
        | c j =>
          cases q with
          | c j2 => rfl
          | d kd =>
            cases z with
            | c j3 => rfl
            | d xd =>
              show (if (dAt (S ++ S1) (S.length + j)).isSome = true then (dAt (S ++ S3) (S.length + j)).bind _ else none) = Option.map _ (if (dAt S1 j).isSome = true then (dAt S3 j).bind _ else none)
              rw [dAt_sh, dAt_sh]
              split
              · cases dAt S3 j with
                | none => rfl
                | some kvs =>
                  dsimp
                  cases keyOk kd <;> rfl
              · rfl⟩
instance (a b c : M) [FrM a] [FrM b] [FrM c] : FrS (sDPut a b c) := ⟨fun ρ S T => by
  unfold sDPut
  rw [FrM.fr (m := c)]
  cases h : c ρ T with
  | none => rfl
  | some r =>
    show (a (shR S.length ρ) (S ++ r.2)).bind _ = _
    rw [FrM.fr (m := a)]
    cases h2 : a ρ r.2 with
    | none => simp [h2]
    | some q =>
      show (b (shR S.length ρ) (S ++ q.2)).bind _ = _
      rw [FrM.fr (m := b)]
      cases h3 : b ρ q.2 with
      | none => simp [h2, h3]
      | some z =>
        simp only [Option.bind_some, h2, h3, Option.map_some]
        obtain ⟨v, S1⟩ := r
        obtain ⟨o, S2⟩ := q
        obtain ⟨q, S3⟩ := z
        cases v with
        | c j => rfl
        | d vd =>
          cases o with
          | d x => rfl
          | c j =>
            cases q with
            | c j2 => rfl
            | d kd =>
              show (dAtW (S ++ S3) (S.length + j)).bind _ = Option.map _ ((dAtW S3 j).bind _)
              rw [dAtW_sh]
              cases dAtW S3 j with
              | none => rfl
              | some kvs =>
                dsimp
                cases keyOk kd with
                | none => rfl
                | some kk =>
                  dsimp
                  split
                  · show some (Out.nx (shR S.length ρ) ((S ++ S3).set (S.length + j) _)) = _
                    rw [sto_set]
                    rfl
                  · rfl⟩
instance (i : Nat) : FrS (sNewD i) := ⟨fun ρ S T => by
  unfold sNewD
  show some (Out.nx ((shR S.length ρ).set i (some (.c (S ++ T).length))) ((S ++ T) ++ [.d []])) = _
  rw [len_sh, app_sh, show PV.c (S.length + T.length) = shV S.length (.c T.length) from rfl, sh_set]
  rfl⟩
end DL

/-! frames of a loop over a dict's keys -/
namespace DL
open PySem PySem.Spec PyProof.Rows L2 DK
theorem mapSto_sh (S : Sto) (j : Nat) (c : Cell) : ∀ o : Out, mapSto (fun T => T.set (S.length + j) c) (shO S o) = (mapSto (fun T => T.set j c) o).map (shO S)
  | .nx ρ T => by show some (Out.nx (shR S.length ρ) ((S ++ T).set (S.length + j) c)) = _; rw [sto_set]; rfl
  | .ct ρ T => by show some (Out.ct (shR S.length ρ) ((S ++ T).set (S.length + j) c)) = _; rw [sto_set]; rfl
  | .bk ρ T => by show some (Out.bk (shR S.length ρ) ((S ++ T).set (S.length + j) c)) = _; rw [sto_set]; rfl
  | .rt v T => by show some (Out.rt (shV S.length v) ((S ++ T).set (S.length + j) c)) = _; rw [sto_set]; rfl
  | .rl v T => rfl
instance (i : Nat) (tgt : TgD) (body : MS) [FrT tgt] [FrS body] : FrS (sForD i tgt body) := ⟨fun ρ S T => by
  unfold sForD
  rw [sh_get]
  cases h : ρ[i]? with
  | none => rfl
  | some p =>
    cases p with
    | none => rfl
    | some v =>
      cases v with
      | d x => rfl
      | c j =>
        show (dAtW (S ++ T) (S.length + j)).bind _ = Option.map _ ((dAtW T j).bind _)
        rw [dAtW_sh]
        cases dAtW T j with
        | none => rfl
        | some kvs =>
          show (forGo tgt body (kvs.map (·.1)) (shR S.length ρ) ((S ++ T).set (S.length + j) (.k kvs))).bind _ = Option.map _ ((forGo tgt body (kvs.map (·.1)) ρ (T.set j (.k kvs))).bind _)
          rw [sto_set, forGo_sh]
          cases forGo tgt body (kvs.map (·.1)) ρ (T.set j (.k kvs)) with
          | none => rfl
          | some o => exact mapSto_sh S j (.d kvs) o⟩
end DL

/-! a dict of one entry, displayed -/
namespace DL
open PySem PySem.Spec PyProof.Rows L2 DK
section
variable {X : Cx} {pins : List (Addr × Obj)} {σ : L2.St} {H : Hp} {s : Shared} {a : Addr} {es : List DEnt}
variable {A : Around} {E : Value → Shared → Prop} {b : Addr} {k : NestedKey} {v : V} {r : Value}
theorem dct_dictSet {Q : Unit → Shared → Prop} (hu : A.units + 64 < cLine) (I : Inv X pins σ H s) (D : DctOk X.K H a es) (hk : KeyAt X.K H (.ref b) k) (hd : k.depth ≤ 8) (hf : freeK k = true) (hw : H a = some (DctO a es)) (rv : RelV v r) (h : ∀ s', Inv X pins σ (upd H a (DctO a (putE es k b v))) s' → Q () s') :
    wpAny (model X.prog X.w) A (dictSet a (.ref b) r) Q E s := by
  obtain ⟨xs, rel, dd⟩ := dct_of I D
  have hz : xs.length ≤ sizeLine := by
    have := D.len
    rw [← Paired.length rel, sizeLine_eq]
    omega
  have hr : (nestedKind X.prog X.w).room A := by
    show A.units + 8 < cLine
    omega
  refine wpAny_dictSet_heap (hsz := hz) hr (key_is I hk hd) dd fun h' dd' hs => h _ ?_
  obtain ⟨q, arr, ep, hq, h2, h3, h4, _, h5⟩ := dd'
  have rel' := entsR_put rel k b rv
  have hfr : ∀ x ∈ storedH xs k b r, freeK x.1 = true := fun x hx => by
    obtain ⟨e, m, q1, _⟩ := entsR_mem rel' x hx
    rw [← q1]
    unfold putE at m
    split at m
    · obtain ⟨e0, m0, rfl⟩ := List.mem_map.mp m
      have := (D.keys e0 m0).2.2
      split <;> exact this
    · rcases List.mem_append.mp m with m | m
      · exact (D.keys e m).2.2
      · rw [List.mem_singleton.mp m]
        exact hf
  refine d_write I (by rw [hw]; exact True.intro) hs ⟨q, hq⟩ (dctO_ok ⟨_, q, arr, ep, rel', hq, h2, h3, ?_⟩)
  rw [h4]
  refine List.map_congr_left fun x hx => ?_
  show (⟨NestedKey.hash X.w x.1, .ref x.2.1, x.2.2⟩ : DictEntry) = ⟨hash0 x.1, .ref x.2.1, x.2.2⟩
  rw [hash_free X.w (k := x.1) (hfr x hx)]
def tD1O (K : Fg) (tk tv : TE) : TE := fun σ H Q => ∀ p, H p = none → (p == sysModules) = false → tk σ (upd H p (DctO p [])) fun y H1 => tv σ H1 fun v H2 => ∃ b k, y = .ref b ∧ DctOk K H2 p [] ∧ KeyAt K H2 (.ref b) k ∧ k.depth ≤ 8 ∧ freeK k = true ∧ H2 p = some (DctO p []) ∧ Q (.ref p) (upd H2 p (DctO p (putE [] k b v)))
theorem pe_d1O {ke ve : Expr} {tk tv : TE} {pos : Pos} (hu : X.A.units + 64 < cLine) (hk : PE X ke tk) (hv : PE X ve tv) : PE X (.Dict [some ke] [ve] pos) (tD1O X.K tk tv) := by
  refine ⟨fun pins s σ H Q I h => ?_⟩
  refine wpAny_Dict_any rfl rfl (by simp) (by show 1 ≤ 15; omega) ?_
  have I0 := I.laid (a := s.heap.objs.size) (o := DctO s.heap.objs.size []) (t' := s.toks) (fun _ _ q => Heap.get?_push_of_some { cls := .type "dict", data := .dict #[] } q) (Nat.le_refl _)
    (dctO_ok ⟨[], _, #[], 0, .nil, Heap.get?_push_size _ rfl, ⟨rfl, rfl, rfl⟩, rfl, rfl⟩)
  have h0 := h _ (I.hok.fresh (Nat.le_refl _)) (beq_eq_false_iff_ne.mpr (Ne.symm (Nat.ne_of_lt I.big)))
  show wpAny _ _ (evalPairs [(eval ke X.env, do let x ← eval ve X.env; standAt pos; pure x)]) _ _ _
  unfold evalPairs
  refine wpAny_bind (thn (hk.run pins _ σ _ _ I0 h0) fun kv s1 ⟨y, H1, I1, ry, q1⟩ => ?_)
  refine wpAny_bind (wpAny_holding (wpAny_bind (thn (hv.run pins s1 σ H1 _ I1 q1) fun vv s2 ⟨v, H2, I2, rv, b, k, ey, D, ka, kd, kf, hw, q2⟩ => ?_)))
  refine wpAny_bind (wpAny_standAt (wpAny_pure ?_))
  unfold evalPairs
  refine wpAny_bind (wpAny_holding (wpAny_pure (wpAny_pure ?_)))
  subst ey
  obtain rfl : kv = Value.ref b := ry
  unfold storeAll
  rw [List.forIn_cons]
  refine wpAny_bind (wpAny_bind (dct_dictSet hu I2 D ka kd kf hw rv fun s4 I4 => wpAny_pure ?_))
  dsimp only
  rw [List.forIn_nil]
  exact wpAny_pure ⟨.ref s.heap.objs.size, _, I4, rfl, q2⟩
end
section
variable [Nms] [Tabs]
variable {X : Cx} {ke ve : Expr} {mk mv : M} {k : Nat} {pos : Pos}
def sOwnD1 (i : Nat) (mk mv : M) : MS := fun ρ S => (mk ρ (S ++ [.d []])).bind fun q => (mv ρ q.2).bind fun v => match q.1, v.1 with
  | .d kd, .d vd => match dAtW v.2 S.length with
    | some [] => (keyOk kd).map fun _ => .nx (ρ.set i (some (.c S.length))) (v.2.set S.length (.d [(kd, vd)]))
    | _ => none
  | _, _ => none
theorem ds_ownD1 {i : Nat} {x : Str} {pos' p2 : Pos} (hr : Room k X.A) (hN : X.N.Nodup) (hi : X.N[i]? = some x) (hx : Loc X.env.scope x) (hk : DE X ke mk) (hv : DE X ve mv) (hs : swapsWith (.Dict [some ke] [ve] p2) (some (.Name x pos')) pos.line X.env = pure false := by rfl)
    (hf : X.fn x = true ∨ X.env.scope.names.lookup x = some .local := by first | exact .inl rfl | exact .inr rfl | assumption) : DS X (.Assign [.Name x pos'] (.Dict [some ke] [ve] p2) pos) (sOwnD1 i mk mv) :=
  ps_imp (ps_set hN hi hx (pe_d1O hr.units hk hv) hs hf) fun D σ H ⟨as, ρ, S, o, R, E, e, k⟩ => by
    intro p hp hsys
    obtain ⟨⟨q, S1⟩, e1, e⟩ := Option.bind_eq_some_iff.mp e
    obtain ⟨⟨v, S2⟩, e2, e⟩ := Option.bind_eq_some_iff.mp e
    obtain ⟨R0, E0⟩ := R.growC (c := .d []) (o := DctO p []) hp (fun G sm => ⟨[], upd_same, .nil, Nat.zero_le _, hsys, List.nodup_nil⟩)
    refine ⟨as ++ [p], ρ, S ++ [.d []], q, S1, R0, E.ext E0, e1, fun u H1 R1 E1 V1 => ⟨as ++ [p], ρ, S1, v, S2, R1, (E.ext E0).ext E1, e2, fun w H2 R2 E2 V2 => ?_⟩⟩
    have ha : (as ++ [p])[S.length]? = some p := by
      rw [← R.len]
      simp
    dsimp only at e
    cases q with
    | c j => cases e
    | d kd =>
      cases v with
      | c j => cases e
      | d vd =>
        dsimp only at e
        split at e
        · rename_i e3
          obtain ⟨kk, e5, e⟩ := Option.map_eq_some_iff.mp e
          cases e
          obtain ⟨es, hw, Dk, P⟩ := R2.dctW ha e3
          cases P
          obtain ⟨kD, ht, hd⟩ := keyOk_ok e5
          have V1' := V1.ext E2
          obtain ⟨b, rfl⟩ := dp_key V1 e5
          obtain ⟨R4, E4⟩ := R2.putC (c := .d [(kd, vd)]) (o := DctO p (putE [] kk b w)) ha (fun G sm => ⟨_, upd_same, .cons ⟨kD, ht, hd, dp_mono sm _ _ V1', dp_mono sm _ _ V2⟩ .nil, Nat.le_trans (putE_len _ _ _ _) (by decide), Dk.sys, putE_nodup Dk.nodup⟩) (fun ⟨vs, q⟩ => by unfold DctO at q; cases q) (fun o' u z => by rw [hw] at z; unfold DctO at z; cases z)
          have X4 := ((E0.trans E1).trans E2).trans E4
          exact ⟨b, kk, rfl, Dk, keyAt_mono hide_same (keyAt_dp V1' kD), hd, keyD_free kD, hw, k (as ++ [p]) _ _ X4 R4 ((E.ext X4).set i ⟨p, ha, rfl⟩)⟩
        · cases e
end
instance (i : Nat) (a b : M) [FrM a] [FrM b] : FrS (sOwnD1 i a b) := ⟨fun ρ S T => by
  unfold sOwnD1
  rw [List.append_assoc, FrM.fr (m := a)]
  cases h : a ρ (T ++ [.d []]) with
  | none => rfl
  | some q =>
    show (b (shR S.length ρ) (S ++ q.2)).bind _ = Option.map _ ((b ρ q.2).bind _)
    rw [FrM.fr (m := b)]
    cases h2 : b ρ q.2 with
    | none => rfl
    | some v =>
      obtain ⟨q, S1⟩ := q
      obtain ⟨v, S2⟩ := v
      cases q with
      | c j => rfl
      | d kd =>
        cases v with
        | c j => rfl
        | d vd =>
          rw [len_sh]
          show (match dAtW (S ++ S2) (S.length + T.length) with | some [] => _ | _ => none) = Option.map _ (match dAtW S2 T.length with | some [] => _ | _ => none)
          rw [dAtW_sh]
          cases dAtW S2 T.length with
          | none => rfl
          | some l =>
            cases l with
            | cons _ _ => rfl
            | nil =>
              dsimp
              cases keyOk kd with
              | none => rfl
              | some kk =>
                show some (Out.nx ((shR S.length ρ).set i (some (.c (S.length + T.length)))) ((S ++ S2).set (S.length + T.length) _)) = _
                rw [sto_set, show PV.c (S.length + T.length) = shV S.length (.c T.length) from rfl, sh_set]
                rfl⟩
end DL

/-! a op1 b op2 c -/
namespace DL
open PySem PySem.Spec PyProof.Rows L2 DK
section
variable [Nms] [Tabs]
variable {X : Cx} {a b c : Expr} {ma mb mc : M} {pos : Pos}
def mChain (f f' : PV → PV → Sto → Option PV) (a b c : M) : M := fun ρ S => (a ρ S).bind fun p => (b ρ p.2).bind fun q => (f p.1 q.1 q.2).bind fun z => match z with
  | .d (.bool true) => (c ρ q.2).bind fun r => (f' q.1 r.1 r.2).map fun w => (w, r.2)
  | .d (.bool false) => some (.d (.bool false), q.2)
  | _ => none
theorem tChain_D {K : Fg} {r r' : R2} {f f' : PV → PV → Sto → Option PV} (ho : OpD K r f) (ho' : OpD K r' f') : ∀ σ H Q, tM K (mChain f f' ma mb mc) σ H Q → tChain r r' (tM K ma) (tM K mb) (tM K mc) σ H Q := fun σ H Q ⟨as, ρ, S, p, S', R, E, e, k⟩ => by
  obtain ⟨⟨x, S1⟩, e1, e⟩ := Option.bind_eq_some_iff.mp e
  obtain ⟨⟨y, S2⟩, e2, e⟩ := Option.bind_eq_some_iff.mp e
  obtain ⟨z, e3, e⟩ := Option.bind_eq_some_iff.mp e
  refine ⟨as, ρ, S, x, S1, R, E, e1, fun u H1 R1 E1 V1 => ⟨as, ρ, S1, y, S2, R1, E.ext E1, e2, fun w H2 R2 E2 V2 => ho as S2 H2 u w x y z _ R2 (V1.ext E2) V2 e3 fun v H3 R3 E3 V3 => ?_⟩⟩
  dsimp only at e
  split at e
  · cases V3
    refine ⟨true, rfl, ?_⟩
    rw [if_pos rfl]
    obtain ⟨⟨r, S3⟩, e4, e⟩ := Option.bind_eq_some_iff.mp e
    obtain ⟨w', e5, e⟩ := Option.map_eq_some_iff.mp e
    cases e
    exact ⟨as, ρ, S2, r, S3, R3, ((E.ext E1).ext E2).ext E3, e4, fun w2 H4 R4 E4 V4 => ho' as S3 H4 w w2 y r _ _ R4 ((V2.ext E3).ext E4) V4 e5 fun v5 H5 R5 E5 V5 => k v5 H5 R5 ((E1.trans E2).trans (E3.trans (E4.trans E5))) V5⟩
  · cases V3
    cases e
    refine ⟨false, rfl, ?_⟩
    rw [if_neg (by decide)]
    exact k _ H3 R3 ((E1.trans E2).trans E3) (.bl false)
  · cases e
theorem de_chain {op op' : CmpOp} {r r' : R2} {f f' : PV → PV → Sto → Option PV} (ho : OpR X (compareOp op) r) (hd : OpD X.K r f) (ho' : OpR X (compareOp op') r') (hd' : OpD X.K r' f') (ha : DE X a ma) (hb : DE X b mb) (hc : DE X c mc)
    (hm : lastMarks [op, op'] [b, c] = false := by with_unfolding_all rfl) : DE X (.Compare a [op, op'] [b, c] pos) (mChain f f' ma mb mc) := pe_imp (pe_chain ho ho' ha hb hc hm) (tChain_D hd hd')
theorem db_chain {op op' : CmpOp} {r r' : R2} {f f' : PV → PV → Sto → Option PV} (ho : OpR X (compareOp op) r) (hd : OpD X.K r f) (ho' : OpR X (compareOp op') r') (hd' : OpD X.K r' f') (ha : DE X a ma) (hb : DE X b mb) (hc : DE X c mc)
    (hm : lastMarks [op, op'] [b, c] = false := by with_unfolding_all rfl) : DB X (.Compare a [op, op'] [b, c] pos) (asB (mChain f f' ma mb mc)) := pt_imp (pt_chain ho ho' ha hb hc hm) (tTest_D (tChain_D hd hd'))
end
instance (f f' : PV → PV → Sto → Option PV) (a b c : M) [FrOp f] [FrOp f'] [FrM a] [FrM b] [FrM c] : FrM (mChain f f' a b c) := ⟨fun ρ S T => by
  unfold mChain
  rw [FrM.fr (m := a)]
  cases h : a ρ T with
  | none => rfl
  | some p =>
    show (b (shR S.length ρ) (S ++ p.2)).bind _ = _
    rw [FrM.fr (m := b)]
    cases h2 : b ρ p.2 with
    | none => simp [h2]
    | some q =>
      show ((f (shV S.length p.1) (shV S.length q.1) (S ++ q.2)).bind _) = _
      rw [FrOp.fr (f := f)]
      simp only [Option.bind_some, h2]
      cases f p.1 q.1 q.2 with
      | none => rfl
      | some z =>
        cases z with
        | c j => rfl
        | d x =>
          cases x with
          | bool t =>
            cases t with
            | false => rfl
            | true =>
              show ((c (shR S.length ρ) (S ++ q.2)).bind _) = Option.map _ ((c ρ q.2).bind _)
              rw [FrM.fr (m := c)]
              cases c ρ q.2 with
              | none => rfl
              | some r =>
                show (f' (shV S.length q.1) (shV S.length r.1) (S ++ r.2)).map _ = Option.map _ ((f' q.1 r.1 r.2).map _)
                rw [FrOp.fr (f := f')]
                cases f' q.1 r.1 r.2 <;> rfl
          | _ => rfl⟩
end DL

/-! x in xs, x not in xs; xs.extend(data); for x in reversed(data) -/
namespace DL
open PySem PySem.Spec PyProof.Rows L2 DK
/-! ### x in xs -/
section
variable [Nms] [Tabs]
def fIn : PV → PV → Sto → Option PV := fun x y S => (asD S x).bind fun a => (asD S y).bind fun b => match b with
  | .list ds => if (SeqAt.shaped a && SeqAt.shaped (.list ds)) = true then some (.d (.bool (ds.any fun z => PyData.eqv z a))) else none
  | _ => none
def fNotIn : PV → PV → Sto → Option PV := fun x y S => (asD S x).bind fun a => (asD S y).bind fun b => match b with
  | .list ds => if (SeqAt.shaped a && SeqAt.shaped (.list ds)) = true then some (.d (.bool (!ds.any fun z => PyData.eqv z a))) else none
  | _ => none
theorem opD_in {K : Fg} : OpD K (rInD K) fIn := by
  intro as S H u w x y z Q R V1 V2 e k
  obtain ⟨a, e1, e⟩ := Option.bind_eq_some_iff.mp e
  obtain ⟨b, e2, e⟩ := Option.bind_eq_some_iff.mp e
  split at e
  · rename_i ds
    split at e
    · rename_i h
      cases e
      rw [Bool.and_eq_true] at h
      exact ⟨a, ds, asD_dp R V1 e1, asD_dp R V2 e2, h.1, h.2, k _ H R .refl (.bl _)⟩
    · cases e
  · cases e
theorem opD_notIn {K : Fg} : OpD K (rNotInD K) fNotIn := by
  intro as S H u w x y z Q R V1 V2 e k
  obtain ⟨a, e1, e⟩ := Option.bind_eq_some_iff.mp e
  obtain ⟨b, e2, e⟩ := Option.bind_eq_some_iff.mp e
  split at e
  · rename_i ds
    split at e
    · rename_i h
      cases e
      rw [Bool.and_eq_true] at h
      exact ⟨a, ds, asD_dp R V1 e1, asD_dp R V2 e2, h.1, h.2, k _ H R .refl (.bl _)⟩
    · cases e
  · cases e
end
theorem units65 {k : Nat} {A : Around} (r : Room k A) : A.units + 65 < cLine := by have := r.un; omega
section
variable [Nms] [Tabs]
variable {X : Cx} {a b : Expr} {ma mb : M} {k : Nat} {pos : Pos}
theorem de_in (hr : Room k X.A) (ha : DE X a ma) (hb : DE X b mb) (hm : behindInMarks .In b = false := by with_unfolding_all rfl) : DE X (.Compare a [.In] [b] pos) (mOp fIn ma mb) := de_cmp (op_inD (units65 hr)) opD_in ha hb hm
theorem db_in (hr : Room k X.A) (ha : DE X a ma) (hb : DE X b mb) (hm : behindInMarks .In b = false := by with_unfolding_all rfl) : DB X (.Compare a [.In] [b] pos) (asB (mOp fIn ma mb)) := db_cmp (op_inD (units65 hr)) opD_in ha hb hm
theorem de_notIn (hr : Room k X.A) (ha : DE X a ma) (hb : DE X b mb) (hm : behindInMarks .NotIn b = false := by with_unfolding_all rfl) : DE X (.Compare a [.NotIn] [b] pos) (mOp fNotIn ma mb) := de_cmp (op_notInD (units65 hr)) opD_notIn ha hb hm
theorem db_notIn (hr : Room k X.A) (ha : DE X a ma) (hb : DE X b mb) (hm : behindInMarks .NotIn b = false := by with_unfolding_all rfl) : DB X (.Compare a [.NotIn] [b] pos) (asB (mOp fNotIn ma mb)) := db_cmp (op_notInD (units65 hr)) opD_notIn ha hb hm
end
instance : FrOp fIn := ⟨fun x y S T => by
  unfold fIn
  rw [sh_asD, sh_asD]
  cases asD T x with
  | none => rfl
  | some a =>
    cases asD T y with
    | none => rfl
    | some b => cases b <;> first | rfl | (dsimp; split <;> rfl)⟩
instance : FrOp fNotIn := ⟨fun x y S T => by
  unfold fNotIn
  rw [sh_asD, sh_asD]
  cases asD T x with
  | none => rfl
  | some a =>
    cases asD T y with
    | none => rfl
    | some b => cases b <;> first | rfl | (dsimp; split <;> rfl)⟩
/-! ### xs.extend(ys), ys any list -/
open PySem.AutoSeq1 in
theorem list_extend_any (l : Addr) (items : Array Value) (n : Nat) (b : Addr) (items2 : Array Value) (n2 : Nat) (sl : Array (Option Value)) (hc0 : ¬(!items.isEmpty && Builtin.List.listTooLong (items.size + items2.size)) = true) (hc1 : items.size ≤ sizeLine) (hs2 : items.size + items2.size ≤ sizeLine + 1 := by seq_fits) :
    Meets (Builtin.«list.extend» ⟨[.ref l, .ref b], []⟩) (fun _ R s => s.heap.get? l = some { cls := .type "list", dict := none, data := .seq items n, slots := #[] } ∧ s.heap.get? b = some { cls := .type "list", dict := none, data := .seq items2 n2, slots := sl } ∧ R (.ok (.ret Value.none)) { s with heap := s.heap.update l (Obj.mapSeq fun x => x ++ items2), toks := s.toks }) :=
  .of_wp fun prog w A R s h => by
    obtain ⟨hp, g, d, tk, os⟩ := s; obtain ⟨hl, hb, h⟩ := h; have f1 := PySem.AutoSeq1.idx_int; have f2 := PySem.AutoSeq1.sub_tuple_tuple; have f3 := PySem.AutoSeq1.sub_list_list; have f4 := PySem.AutoSeq1.sub_tuple_list; have f5 := PySem.AutoSeq1.sub_list_tuple;
    have hz' : (items ++ items2).size ≤ sizeLine + 1 := by rw [Array.size_append]; exact hs2
    wp_walk using (wpAny_updateSeq hl rfl (hz := hc1) (_hz' := hz')), PySem.AutoSeq1.wpAny_loadPart' hl, PySem.AutoSeq1.wpAny_loadPart' hb; exact ⟨_, rfl, h⟩
def rExtendD (K : PySem.W.Frag) : V → List V → Hp → VK → Prop := fun x vs H Q => ∃ l b xs zs, x = .ref l ∧ vs = [.ref b] ∧ H l = some (.lst xs) ∧ SqL K H b zs ∧ xs.length + zs.length ≤ sizeLine ∧ Q .non (upd H l (.lst (xs ++ zs)))
theorem mt_extendD {X : Cx} : MtM X "list.extend" (rExtendD X.K) := by
  intro pins s σ H x vs v us Q I rx rv h
  obtain ⟨l, b, xs, zs, rfl, rfl, hH, hB, hz, q⟩ := h
  cases rx
  obtain ⟨u, rfl, ru⟩ := rv.one
  cases ru
  obtain ⟨z, its, n, r, hl, e⟩ := I.lstM hH
  obtain ⟨its2, r2, ⟨o2, n2, e2, c2, dd2, d2⟩, hl2⟩ := I.list hB
  obtain ⟨cls2, dict2, data2, sl2⟩ := o2
  dsimp only at c2 dd2 d2
  have hw1 := r.length
  have hw2 := r2.length
  have hsz : its.toArray.size + its2.toArray.size ≤ sizeLine := by rw [List.size_toArray, List.size_toArray]; omega
  have hlong : ¬ (!its.toArray.isEmpty && Builtin.List.listTooLong (its.toArray.size + its2.toArray.size)) = true := by
    rw [notLongL hsz, Bool.and_false]
    exact Bool.false_ne_true
  subst c2 dd2 d2
  refine call_meets F.slot_list_extend ⟨_, e, rfl⟩ F.entry_list_extend (F.args_list_extend_2 _ _)
    (list_extend_any l its.toArray n b its2.toArray n2 sl2 hlong (by rw [List.size_toArray]; omega) (by omega)) ⟨e, e2, ?_⟩
  refine ⟨.non, _, I.lset (its' := its ++ its2) hH e (by simp) (r.append r2) ?_, rfl, q⟩
  rw [List.length_append]
  omega
section
variable [Nms] [Tabs]
def mExtD (mo me : M) : M := fun ρ S => (mo ρ S).bind fun o => (me ρ o.2).bind fun q => match o.1, q.1 with
  | .c j, .d (.list ys) => if (lAt o.2 j).isSome = true then (lAt q.2 j).bind fun ds => if ds.length + ys.length ≤ 1000000 then some (.d .none, q.2.set j (.l (ds ++ ys))) else none else none
  | _, _ => none
theorem de_extD {X : Cx} {o e : Expr} {mo me : M} {apos cpos : Pos} (ho : DE X o mo) (he : DE X e me) (hbase : attributeBase o "extend" X.env (eval o X.env) = eval o X.env := by rfl)
    (hfew : ((backTo cpos (starEach [e] X.env)).all (fun x => !x.1) && (backToKw cpos (keywordEach [] X.env)).all (fun x => x.1.isSome) && decide ([e].length + ([] : List Keyword).length + (if ([] : List Keyword).isEmpty then 0 else 1) < 30)) = true := by rfl)
    (hline : (apos.endLine == cpos.line) = true := by rfl) (hs : starEach [e] X.env = (false, eval e X.env) :: starEach [] X.env := by rfl) (hplain : (backTo cpos (starEach [] X.env)).any (·.1) = false := by rfl) :
    DE X (.Call (.Attribute o "extend" apos) [e] [] cpos) (mExtD mo me) :=
  pe_imp (pe_bm PySem.F.plainAttrs_list PySem.F.slot_list_extend PySem.F.type_list_extend mt_extendD ho (pa_cons he pa_nil hs) hbase hfew hline hs hplain) fun σ H Q ⟨as, ρ, S, r, S', R, E, e, k⟩ => by
    obtain ⟨⟨o, S1⟩, e1, e⟩ := Option.bind_eq_some_iff.mp e
    obtain ⟨⟨y, S2⟩, e2, e⟩ := Option.bind_eq_some_iff.mp e
    refine ⟨as, ρ, S, o, S1, R, E, e1, fun u H1 R1 E1 V1 => ?_⟩
    dsimp only at e
    split at e
    · rename_i j ys _
      split at e
      · rename_i hs
        obtain ⟨ds0, e0⟩ := Option.isSome_iff_exists.mp hs
        obtain ⟨ds, e3, e⟩ := Option.bind_eq_some_iff.mp e
        obtain ⟨a, q, rfl⟩ := id V1
        refine ⟨cell_ty R1 V1 e0, as, ρ, S1, _, S2, R1, E.ext E1, e2, fun w H2 R2 E2 V2 => ?_⟩
        split at e
        · rename_i hz
          cases e
          cases V2 with
          | lst s2 hd =>
            obtain ⟨vs, h1, h2⟩ := R2.at_ j a ds q e3
            obtain ⟨R4, E4⟩ := R2.put q (dpAll_append h2 hd) ⟨_, h1⟩
            refine ⟨a, _, vs, _, rfl, rfl, h1, hide_same.seq s2, by rw [dpAll_len h2, dpAll_len hd, sizeLine_eq]; omega, ?_⟩
            exact k _ _ R4 (E1.trans (E2.trans E4)) .non
        · cases e
      · cases e
    · cases e
/-! ### for x in reversed(t) -/
def mRevI (m : M) : ML := fun ρ S => (m ρ S).bind fun p => match p.1 with
  | .d (.tuple xs) => some (xs.reverse, p.2)
  | _ => none
theorem iters_revT {K : Fg} {as : List Addr} {H1 : Hp} {a : Addr} {vs : List V} {xs : List PyData} (hs : SqT K (hide as H1) a vs) (hd : DpAll K (hide as H1) vs xs) : Iters K as H1 (RT.ItvT K a vs.length) xs.reverse := by
  have st : ∀ {as' H2}, Ext as H1 as' H2 → SqT K H2 a vs := fun {as' H2} E => sqT_mono hide_same (sqT_mono E.same hs)
  have hl : vs.length = xs.length := dpAll_len hd
  have ix : ∀ {i : Nat} {d : PyData}, xs.reverse[i]? = some d → i < vs.length ∧ xs[vs.length - 1 - i]? = some d := fun {i d} e => by
    have hi : i < xs.length := by
      have := (List.getElem?_eq_some_iff.mp e).1
      rw [List.length_reverse] at this
      exact this
    rw [List.getElem?_reverse hi] at e
    exact ⟨by omega, by rw [hl]; exact e⟩
  refine ⟨fun as' H2 E i d e => ?_, fun as' S H2 E R i d e x H3 y => ?_, fun as' H2 E => ?_⟩
  · obtain ⟨hi, e⟩ := ix e
    obtain ⟨v, e1, _⟩ := dpAll_get hd e
    exact ⟨hi, vs, v, st E, e1⟩
  · obtain ⟨hi, e⟩ := ix e
    obtain ⟨v, e1, h1⟩ := dpAll_get hd e
    obtain ⟨rfl, y⟩ := y
    have : x = v := Option.some.inj ((y vs (st E)).symm.trans e1)
    subst this
    exact ⟨.inl rfl, dp_mono E.same _ _ h1⟩
  · show vs.length ≤ xs.reverse.length
    rw [List.length_reverse, hl]
    exact Nat.le_refl _
theorem di_rev {X : Cx} {tg e : Expr} {m : M} {p pos : Pos} (hg : Gl X "reversed") (hm : X.mg "reversed" = none) (he : DE X e m) (hs : starEach [e] X.env = (false, eval e X.env) :: starEach [] X.env := by rfl) : DI X tg (.Call (.Name "reversed" p) [e] [] pos) (mRevI m) :=
  pi_imp (RT.pi_revA hg hm he hs) fun σ H Rr ⟨as, ρ, S, xs, S1, R, E, e, k⟩ => by
    obtain ⟨⟨v, S2⟩, e1, e⟩ := Option.bind_eq_some_iff.mp e
    refine ⟨as, ρ, S, v, S2, R, E, e1, fun u H1 R1 E1 V1 => ?_⟩
    dsimp only at e
    split at e
    · cases e
      cases V1 with
      | tup s a => exact ⟨_, _, rfl, .inr ⟨sqT_mono hide_same s, k _ H1 R1 E1 (iters_revT s a)⟩⟩
    · cases e
end
instance (m : M) [FrM m] : FrL (mRevI m) := ⟨fun ρ S T => by
  unfold mRevI
  rw [FrM.fr (m := m)]
  cases m ρ T with
  | none => rfl
  | some r =>
    obtain ⟨v, T'⟩ := r
    cases v with
    | c j => rfl
    | d x => cases x <;> rfl⟩
instance (mo me : M) [FrM mo] [FrM me] : FrM (mExtD mo me) := ⟨fun ρ S T => by
  unfold mExtD
  rw [FrM.fr (m := mo)]
  cases mo ρ T with
  | none => rfl
  | some o =>
    show (me (shR S.length ρ) (S ++ o.2)).bind _ = Option.map _ ((me ρ o.2).bind _)
    rw [FrM.fr (m := me)]
    cases me ρ o.2 with
    | none => rfl
    | some v =>
      obtain ⟨o, T1⟩ := o
      obtain ⟨v, T2⟩ := v
      cases o with
      | d _ => rfl
      | c j =>
        cases v with
        | c _ => rfl
        | d x => cases x with
          | list ys =>
            show (if (lAt (S ++ T1) (S.length + j)).isSome = true then (lAt (S ++ T2) (S.length + j)).bind _ else none) = Option.map _ (if (lAt T1 j).isSome = true then (lAt T2 j).bind _ else none)
            rw [lAt_sh, lAt_sh]
            cases (lAt T1 j).isSome with
            | false => rfl
            | true =>
              rw [if_pos rfl, if_pos rfl]
              cases lAt T2 j with
              | none => rfl
              | some ds =>
                dsimp
                split
                · rw [sto_set]; rfl
                · rfl
          | _ => rfl⟩
instance : FrOp fRepT := ⟨fun x y S T => by
  cases x with
  | c i => cases y <;> rfl
  | d x =>
    cases y with
    | c j => cases x <;> rfl
    | d y =>
      cases x <;> first | rfl | (cases y <;> first | rfl | (unfold fRepT; dsimp only [shV]; split <;> rfl))⟩
end DL

namespace Law
open PySem PySem.Spec PyProof.Rows L2 DK DL
/-- _law_feed(_law_script); slots: 0 _law_script -/
def g__law_feed : MS :=
    (sRetL (mLst (mCons (mFz (mOpL fCatL (mFz (mCallL cList (mCons (mFz (mSlL (mVar 0) oNone (oSome (mC (.int (63)))))) mNil))) (mFz (mRep (mLst (mCons (mC (.int (0))) mNil)) (mCall cInt (mCons (mOp fEq (mCall cLen (mCons (mVar 0) mNil)) (mC (.int (0)))) mNil)))))) (mCons (mC (.int (0))) (mCons (mC (.int (0))) (mCons (mC (.int (0))) mNil))))))
def F__law_feed : FL := runL 1 g__law_feed
/-- _law_draw(_law_feed_here, _law_many); slots: 0 _law_feed_here 1 _law_many 2 _law_cell 3 _law_mixed 4 _law_found -/
def g__law_draw : MS :=
    (sSeq (sPut (mVar 0) (mC (.int (3))) (mOp fAdd (mOp fIx (mVar 0) (mC (.int (3)))) (mC (.int (1)))))
    (sSeq (sIf (asB (mOp fEq (mOp fIx (mVar 0) (mC (.int (2)))) (mC (.int (0))))) (sSeq (sSet 2 (mOp fIx (mOp fIx (mVar 0) (mC (.int (0)))) (mOp fMod (mOp fIx (mVar 0) (mC (.int (1)))) (mCall cLen (mCons (mOp fIx (mVar 0) (mC (.int (0)))) mNil)))))
    (sSeq (sPut (mVar 0) (mC (.int (1))) (mOp fAdd (mOp fIx (mVar 0) (mC (.int (1)))) (mC (.int (1)))))
    (sSeq (sIf (asB (mOp fLt (mVar 2) (mOp fPow (mC (.int (10))) (mC (.int (18)))))) (sSeq (sSet 3 (mOp fMod (mOp fPow (mOp fAdd (mOp fAdd (mOp fMod (mVar 2) (mC (.int (2147483629)))) (mOp fMul (mC (.int (40763))) (mOp fIx (mVar 0) (mC (.int (3)))))) (mC (.int (1013)))) (mC (.int (5)))) (mC (.int (2147483647)))))
    (sSeq (sSet 3 (mOp fAdd (mOp fMod (mVar 3) (mC (.int (1000003)))) (mC (.int (7)))))
    (sSeq (sSet 3 (mOp fMod (mOp fMul (mVar 3) (mOp fAdd (mOp fMod (mOp fMul (mOp fIx (mVar 0) (mC (.int (3)))) (mOp fIx (mVar 0) (mC (.int (3))))) (mC (.int (99991)))) (mC (.int (104729))))) (mC (.int (2147483587)))))
    (sRet (mOp fMod (mOp fDiv (mVar 3) (mC (.int (11)))) (mVar 1)))))) sNil)
    (sPut (mVar 0) (mC (.int (2))) (mVar 2))))) sNil)
    (sSeq (sSet 4 (mOp fMod (mOp fIx (mVar 0) (mC (.int (2)))) (mVar 1)))
    (sSeq (sPut (mVar 0) (mC (.int (2))) (mOp fDiv (mOp fIx (mVar 0) (mC (.int (2)))) (mVar 1)))
    (sRet (mVar 4))))))
def F__law_draw : FV := runF 5 g__law_draw
/-- _law_shape(_law_feed_here, _law_parts, _law_most); slots: 0 _law_feed_here 1 _law_parts 2 _law_most 3 _law_way 4 _law_part 5 _law_found 6 _law_k -/
def g__law_shape : MS :=
    (sSeq (sSet 3 (mFn 2 F__law_draw (mCons (mVar 0) (mCons (mC (.int (3))) mNil))))
    (sSeq (sSet 4 (mOp fAdd (mC (.int (1))) (mFn 2 F__law_draw (mCons (mVar 0) (mCons (mVar 2) mNil)))))
    (sSeq (sOwn 5 (mLst mNil))
    (sSeq (sFor (mRng1 (mFn 2 F__law_draw (mCons (mVar 0) (mCons (mOp fAdd (mVar 1) (mC (.int (1)))) mNil)))) (gN 6) (sSeq (sDrop (mAppend (mVar 5) (mVar 4)))
    (sSeq (sIf (asB (mOp fEq (mVar 3) (mC (.int (0))))) (sSet 4 (mCall cMax (mCons (mC (.int (1))) (mCons (mOp fSub (mVar 4) (mFn 2 F__law_draw (mCons (mVar 0) (mCons (mC (.int (2))) mNil)))) mNil)))) sNil)
    (sIf (asB (mOp fEq (mVar 3) (mC (.int (1))))) (sSet 4 (mOp fAdd (mC (.int (1))) (mFn 2 F__law_draw (mCons (mVar 0) (mCons (mVar 4) mNil))))) sNil))))
    (sRet (mCall cTuple (mCons (mVar 5) mNil)))))))
def F__law_shape : FV := runF 7 g__law_shape
/-- _law_columns(_law_shape_here); slots: 0 _law_shape_here 1 _law_found 2 _law_part 3 _law_k -/
def g__law_columns : MS :=
    (sSeq (sOwn 1 (mLst mNil))
    (sSeq (sFor (mSeq (mVar 0)) (gN 2) (sFor (mRng1 (mVar 2)) (gN 3) (sSeq (sIf (asB (mOp fEq (mVar 3) (mCall cLen (mCons (mVar 1) mNil)))) (sDrop (mAppend (mVar 1) (mC (.int (0))))) sNil)
    (sPut (mVar 1) (mVar 3) (mOp fAdd (mOp fIx (mVar 1) (mVar 3)) (mC (.int (1))))))))
    (sRet (mCall cTuple (mCons (mVar 1) mNil)))))
def F__law_columns : FV := runF 4 g__law_columns
/-- _law_often(_law_shape_here); slots: 0 _law_shape_here 1 _law_found 2 _law_part -/
def g__law_often : MS :=
    (sSeq (sOwn 1 (mLst mNil))
    (sSeq (sFor (mRevI (mVar 0)) (gN 2) (sIf (bAnd (asB (mOp fNe (mVar 1) (mFz (mLst mNil)))) (asB (mOp fEq (mOp fIx (mOp fIx (mVar 1) (mUn fNeg (mC (.int (1))))) (mC (.int (0)))) (mVar 2)))) (sPut (mVar 1) (mUn fNeg (mC (.int (1)))) (mTup (mCons (mVar 2) (mCons (mOp fAdd (mOp fIx (mOp fIx (mVar 1) (mUn fNeg (mC (.int (1))))) (mC (.int (1)))) (mC (.int (1)))) mNil)))) (sDrop (mAppend (mVar 1) (mTup (mCons (mVar 2) (mCons (mC (.int (1))) mNil)))))))
    (sRet (mCall cTuple (mCons (mVar 1) mNil)))))
def F__law_often : FV := runF 3 g__law_often
/-- _law_weight(_law_shape_here); slots: 0 _law_shape_here 1 _law_found 2 _law_place 3 _law_part 4 _law_one -/
def g__law_weight : MS :=
    (sSeq (sSet 1 (mC (.int (1))))
    (sSeq (sFor (mEnum (mCons (mVar 0) mNil)) (gT 2 (gCs (gN 2) (gCs (gN 3) gNs))) (sSet 1 (mOp fMul (mOp fMul (mVar 1) (mVar 3)) (mCall cLen (mCons (mFz (mLc (mSeq (mSl (mVar 0) oNone (oSome (mOp fAdd (mVar 2) (mC (.int (1))))))) [4] (gN 4) (asB (mOp fEq (mVar 4) (mVar 3))) (mVar 4))) mNil)))))
    (sRet (mVar 1))))
def F__law_weight : FV := runF 5 g__law_weight
/-- columns(shape); slots: 0 shape 1 k 2 part -/
def g_columns : MS :=
    (sSeq (sIf (bNot (bTru (mVar 0))) (sRet (mTup mNil)) sNil)
    (sRet (mTupG (mRng1 (mOp fIx (mVar 0) (mC (.int (0))))) [1] (gN 1) bYes (mSumG (mSeq (mVar 0)) [2] (gN 2) (asB (mOp fGt (mVar 2) (mVar 1))) (mC (.int (1)))))))
def F_columns : FV := runF 3 g_columns
/-- size_of(shape); slots: 0 shape -/
def g_size_of : MS :=
    (sRet (mCall cSum (mCons (mVar 0) mNil)))
def F_size_of : FV := runF 1 g_size_of
/-- often(shape); slots: 0 shape 1 part -/
def g_often : MS :=
    (sRet (mTupG (mSeq (mFz (mSrt (mVar 0)))) [1] (gN 1) bYes (mTup (mCons (mVar 1) (mCons (mCount (mVar 0) (mVar 1)) mNil)))))
def F_often : FV := runF 2 g_often
/-- weight(shape); slots: 0 shape 1 product 2 part 3 many 4 count -/
def g_weight : MS :=
    (sSeq (sSet 1 (mC (.int (1))))
    (sSeq (sFor (mSeq (mFn 1 F_often (mCons (mVar 0) mNil))) (gT 2 (gCs (gN 2) (gCs (gN 3) gNs))) (sFor (mRng2 (mC (.int (1))) (mOp fAdd (mVar 3) (mC (.int (1))))) (gN 4) (sAug 1 fMul (mOp fMul (mVar 2) (mVar 4)))))
    (sRet (mVar 1))))
def F_weight : FV := runF 5 g_weight
/-- _law_right(_law_shape_here); slots: 0 _law_shape_here 1 _law_due 2 _law_turn -/
def g__law_right : MS :=
    (sSeq (sSet 1 (mTup (mCons (mCall cSum (mCons (mFz (mCallL cList (mCons (mVar 0) mNil))) mNil)) (mCons (mFn 1 F__law_columns (mCons (mVar 0) mNil)) (mCons (mFn 1 F__law_often (mCons (mVar 0) mNil)) (mCons (mFn 1 F__law_weight (mCons (mVar 0) mNil)) mNil))))))
    (sSeq (sFor (mRng1 (mC (.int (2)))) (gN 2) (sIf (asB (mOp fNe (mCall cRepr (mCons (mTup (mCons (mFn 1 F_size_of (mCons (mVar 0) mNil)) (mCons (mFn 1 F_columns (mCons (mVar 0) mNil)) (mCons (mFn 1 F_often (mCons (mVar 0) mNil)) (mCons (mFn 1 F_weight (mCons (mVar 0) mNil)) mNil))))) mNil)) (mCall cRepr (mCons (mVar 1) mNil)))) (sRet (mC (.bool false))) sNil))
    (sRet (mAnd (mOp fEq (mFn 1 F_columns (mCons (mFn 1 F_columns (mCons (mVar 0) mNil)) mNil)) (mVar 0)) (mOp fEq (mFn 1 F_size_of (mCons (mFn 1 F_columns (mCons (mVar 0) mNil)) mNil)) (mOp fIx (mVar 1) (mC (.int (0)))))))))
def F__law_right : FV := runF 3 g__law_right
/-- law(_law_script); slots: 0 _law_script 1 _law_feed_here 2 _law_shape_here 3 _law_k -/
def g_law : MS :=
    (sSeq (sOwn 1 (mFnL 1 F__law_feed (mCons (mVar 0) mNil)))
    (sSeq (sFor (mSeq (mFz (mOpL fCatL (mFz (mLst (mCons (mTup mNil) (mCons (mTup (mCons (mC (.int (1))) mNil)) mNil)))) (mFz (mLc (mRng1 (mC (.int (3)))) [3] (gN 3) bYes (mFn 3 F__law_shape (mCons (mVar 1) (mCons (mC (.int (12))) (mCons (mC (.int (30))) mNil))))))))) (gN 2) (sIf (bNot (asB (mFn 1 F__law_right (mCons (mVar 2) mNil)))) (sRet (mC (.bool false))) sNil))
    (sRet (mC (.bool true)))))
def F_law : FV := runF 4 g_law
end Law

/-! rows of whole numbers: specs' helpers; meetings of shapes -/
namespace DN
open PySem PySem.Spec PyProof.Rows L2 DL
theorem runF_cut {N : Nat} {g : MS} {ps : List PV} {ρ : RE} {S S' E : Sto} {x : PyData} (he : ps.map some ++ List.replicate (N - ps.length) none = ρ) (h : g ρ S = some (.rt (.d x) (S' ++ E))) (hl : S'.length = S.length) : runF N g ps S = some (.d x, S') := by
  unfold runF
  rw [he, h]
  show some (_, (S' ++ E).take S.length) = _
  rw [← hl, List.take_left]
theorem ne_eq {w z : Int} (h : w ≠ z) : (w == z) = false := by simpa using h
theorem cut_take {α : Type} (xs : List α) (i : Nat) : cut xs none (some (i : Int)) = xs.take i := by
  unfold cut
  rw [HT.sIx_none, HT.sIx_nat, List.drop_zero, Nat.sub_zero, List.take_eq_take_iff]
  omega
theorem cut_drop {α : Type} (xs : List α) (i : Nat) : cut xs (some (i : Int)) none = xs.drop i := by
  unfold cut
  rw [HT.sIx_none, HT.sIx_nat]
  by_cases h : i ≤ xs.length
  · rw [Nat.min_eq_left h]
    exact List.take_of_length_le (by rw [List.length_drop]; omega)
  · rw [Nat.min_eq_right (by omega), List.drop_eq_nil_of_le (Nat.le_refl _), List.drop_eq_nil_of_le (show xs.length ≤ i by omega)]
    simp
theorem lc_map {T : Sto} {tgt : TgD} {te : M} {ρ : RE} {f : PyData → PyData} : ∀ (xs ds : List PyData), ds.length + xs.length ≤ 1000000 → (∀ x ∈ xs, ∃ ρ1, tgt x ρ = some ρ1 ∧ ∀ S, te ρ1 S = some (.d (f x), S)) → lcGo T.length tgt bYes te ρ xs (T ++ [Cell.l ds]) = some (T ++ [Cell.l (ds ++ xs.map f)])
  | [], ds, _, _ => by
    show some _ = _
    simp
  | x :: xs, ds, hl, h => by
    obtain ⟨ρ1, e1, e2⟩ := h x (by simp)
    rw [List.length_cons] at hl
    have hpush : pushAt T.length (f x) (T ++ [Cell.l ds]) = some (T ++ [Cell.l (ds ++ [f x])]) := by
      unfold pushAt
      rw [last_l]
      show (if ds.length < 1000000 then _ else none) = _
      rw [if_pos (by omega)]
      show some ((T ++ [Cell.l ds]).set T.length (Cell.l (ds ++ [f x]))) = _
      rw [last_set]
    rw [lcGo_yes e1 (e2 _) hpush]
    rw [lc_map xs (ds ++ [f x]) (by rw [List.length_append, List.length_singleton]; omega) fun y hy => h y (List.mem_cons_of_mem _ hy)]
    rw [List.append_assoc]
    rfl
theorem mLc_map {mi : ML} {vs : List Nat} {tgt : TgD} {te : M} {ρ : RE} {S S1 : Sto} {xs : List PyData} {f : PyData → PyData} (h1 : mi ρ S = some (xs, S1)) (hl : xs.length ≤ 1000000) (h2 : ∀ x ∈ xs, ∃ ρ1, tgt x (wipeR ρ vs) = some ρ1 ∧ ∀ S, te ρ1 S = some (.d (f x), S)) : mLc mi vs tgt bYes te ρ S = some (xs.map f, S1) := by
  unfold mLc
  rw [h1]
  show (lcGo S1.length tgt bYes te (wipeR ρ vs) xs (S1 ++ [Cell.l []])).bind _ = _
  rw [lc_map xs [] (by simpa using hl) h2]
  show (lAt (S1 ++ [Cell.l ([] ++ xs.map f)]) S1.length).bind _ = _
  rw [last_l]
  show some ([] ++ xs.map f, (S1 ++ [Cell.l ([] ++ xs.map f)]).take S1.length) = _
  rw [List.take_left, List.nil_append]
def rowOf : PyData → Option (List Int)
  | .tuple xs => intsOf xs
  | _ => none
theorem intsOf_ok : ∀ {xs : List PyData} {ps : List Int}, intsOf xs = some ps → xs = ps.map .int
  | [], ps, h => by cases h; rfl
  | .int i :: r, ps, h => by
    obtain ⟨l, e, h⟩ := Option.map_eq_some_iff.mp h
    subst h
    rw [intsOf_ok e]
    rfl
  | .none :: _, _, h | .bool _ :: _, _, h | .str _ :: _, _, h | .list _ :: _, _, h | .tuple _ :: _, _, h | .dict _ :: _, _, h => by cases h
theorem rowOf_ok {d : PyData} {ps : List Int} (h : rowOf d = some ps) : d = itp ps := by
  cases d with
  | tuple xs =>
    rw [intsOf_ok h]
  | none => cases h
  | bool b => cases h
  | int i => cases h
  | str s => cases h
  | list l => cases h
  | dict l => cases h
theorem var_of {ρ : RE} {i : Nat} {x : PV} {S : Sto} (h : ρ[i]? = some (some x)) : mVar i ρ S = some (x, S) := by
  unfold mVar
  rw [h]
theorem rb (b : Bool) (S : Sto) : cRepr [.d (.bool b)] S = some (.d (.str (PyData.shown (.bool b)))) := (okk_bool b).repr (by decide) (by decide) S
theorem neb (b : Bool) (S : Sto) : fNe (.d (.str (PyData.shown (.bool b)))) (.d (.str (PyData.shown (.bool b)))) S = some (.d (.bool false)) := by
  rw [fNe_str (ok_bool b) (ok_bool b), beq_self_eq_true]
  rfl
theorem sum_row {ps : List Int} {ρ : RE} {i : Nat} {S : Sto} (h : ρ[i]? = some (some (.d (itp ps)))) : mCall cSum (mCons (mVar i) mNil) ρ S = some (.d (.int ps.sum), S) := by
  refine mCall_of (mCons_of (var_of h) rfl) ?_
  show (intsOf (ps.map PyData.int)).map _ = _
  rw [intsOf_map]
  rfl
theorem len_row {ps : List Int} {ρ : RE} {i : Nat} {S : Sto} (h : ρ[i]? = some (some (.d (itp ps)))) : mCall cLen (mCons (mVar i) mNil) ρ S = some (.d (.int (ps.length : Int)), S) := by
  refine mCall_of (mCons_of (var_of h) rfl) ?_
  show some (PV.d (.int ((ps.map PyData.int).length : Int))) = _
  rw [List.length_map]
def fs (ps : List Int) (N : Nat) : List PyData := (List.range (N + 1)).map fun k => .int (pre ps k)
def ls (ps : List Int) (N : Nat) : List PyData := (List.range N).map fun k => .int (pre ps (k + 1))
def mx (ps qs : List Int) : Nat := if qs.length > ps.length then qs.length else ps.length
theorem mx_l (ps qs : List Int) : ps.length ≤ mx ps qs := by unfold mx; split <;> omega
theorem mx_r (ps qs : List Int) : qs.length ≤ mx ps qs := by unfold mx; split <;> omega
theorem mx_eq (ps qs : List Int) : (if (qs.length : Int) > (ps.length : Int) then (qs.length : Int) else (ps.length : Int)) = ((mx ps qs : Nat) : Int) := by
  unfold mx
  split <;> split <;> omega
theorem many_row {ps qs : List Int} {ρ : RE} {S : Sto} (h0 : ρ[0]? = some (some (.d (itp ps)))) (h1 : ρ[1]? = some (some (.d (itp qs)))) : mCall cMax (mCons (mCall cLen (mCons (mVar 0) mNil)) (mCons (mCall cLen (mCons (mVar 1) mNil)) mNil)) ρ S = some (.d (.int ((mx ps qs : Nat) : Int)), S) := by
  refine mCall_of (mCons_of (len_row h0) (mCons_of (len_row h1) rfl)) ?_
  show some (PV.d (.int (if (qs.length : Int) > (ps.length : Int) then (qs.length : Int) else (ps.length : Int)))) = _
  rw [mx_eq]
theorem zip_fs (ps qs : List Int) (N : Nat) : (zipD (fs ps N) (fs qs N)).all geT = true ↔ ∀ k, k ≤ N → pre qs k ≤ pre ps k := by
  rw [List.all_eq_true]
  have g : ∀ (rs : List Int) (k : Nat), k ≤ N → (fs rs N)[k]? = some (.int (pre rs k)) := fun rs k hk => by
    unfold fs
    rw [List.getElem?_map, List.getElem?_range (by omega)]
    rfl
  constructor
  · intro h k hk
    have hz : (zipD (fs ps N) (fs qs N))[k]? = some (.tuple [.int (pre ps k), .int (pre qs k)]) := by
      unfold zipD
      rw [List.getElem?_zipWith, g ps k hk, g qs k hk]
    have z := h _ (List.mem_of_getElem? hz)
    have z2 : decide (pre ps k ≥ pre qs k) = true := z
    exact decide_eq_true_eq.mp z2
  · intro h d hd
    obtain ⟨i, hi, e⟩ := List.getElem_of_mem hd
    obtain ⟨a, b, e1, e2, rfl⟩ := zipD_get (List.getElem?_eq_some_iff.mpr ⟨hi, e⟩)
    have hi' : i ≤ N := by
      have := (List.getElem?_eq_some_iff.mp e1).1
      unfold fs at this
      rw [List.length_map, List.length_range] at this
      omega
    rw [g ps i hi'] at e1
    rw [g qs i hi'] at e2
    cases e1
    cases e2
    show decide (pre ps i ≥ pre qs i) = true
    rw [decide_eq_true_eq]
    exact h i hi'
theorem ls_succ (ps : List Int) (i : Nat) : ls ps (i + 1) = ls ps i ++ [.int (pre ps (i + 1))] := by
  unfold ls
  rw [List.range_succ, List.map_append]
  rfl
def dn (ps qs : List Int) : PyData → Bool
  | .int k => decide (pre ps (k.toNat + 1) < pre qs (k.toNat + 1))
  | _ => false
theorem ls_at (ps : List Int) {N k : Nat} (h : k < N) (S : Sto) : fIx (.d (.list (ls ps N))) (.d (.int (k : Nat))) S = some (.d (.int (pre ps (k + 1)))) := by
  show (atI (ls ps N) (k : Nat)).map _ = _
  have hl : (ls ps N).length = N := by unfold ls; rw [List.length_map, List.length_range]
  rw [atI_get _ (by omega) (by rw [hl]; omega), Int.toNat_natCast]
  unfold ls
  rw [List.getElem?_map, List.getElem?_range h]
  rfl
theorem down_iff (ps qs : List Int) (N : Nat) : ((rangeD 0 N).filter (dn ps qs)).isEmpty = true ↔ ∀ k, k ≤ N → pre qs k ≤ pre ps k := by
  rw [List.isEmpty_iff, List.filter_eq_nil_iff]
  constructor
  · intro h k hk
    cases k with
    | zero => rw [pre_zero, pre_zero]; exact Int.le_refl _
    | succ k =>
      have hm : PyData.int ((k : Nat) : Int) ∈ rangeD 0 N := by
        unfold rangeD
        refine List.mem_map.mpr ⟨k, List.mem_range.mpr (by omega), ?_⟩
        rw [Int.zero_add]
      have z := h _ hm
      have z2 : ¬ decide (pre ps (((k : Nat) : Int).toNat + 1) < pre qs (((k : Nat) : Int).toNat + 1)) = true := z
      rw [decide_eq_true_eq, Int.toNat_natCast] at z2
      omega
  · intro h x hx
    obtain ⟨i, hi, rfl⟩ := List.mem_map.mp hx
    have hi := List.mem_range.mp hi
    show ¬ decide (pre ps ((0 + ((i : Nat) : Int)).toNat + 1) < pre qs ((0 + ((i : Nat) : Int)).toNat + 1)) = true
    rw [decide_eq_true_eq, Int.zero_add, Int.toNat_natCast]
    have := h (i + 1) (by omega)
    omega
def domGo : Int → List Int → List Int → Bool
  | _, [], [] => true
  | d, p :: ps, q :: qs => decide (0 ≤ d + p - q) && domGo (d + p - q) ps qs
  | d, [], q :: qs => decide (0 ≤ d - q) && domGo (d - q) [] qs
  | d, p :: ps, [] => decide (0 ≤ d + p) && domGo (d + p) ps []
theorem domGo_iff : ∀ (ps qs : List Int) (d : Int), 0 ≤ d → (domGo d ps qs = true ↔ ∀ k, pre qs k ≤ d + pre ps k)
  | [], [], d, h => by
    refine ⟨fun _ k => ?_, fun _ => by simp [domGo]⟩
    rw [pre_nil]; omega
  | p :: ps, q :: qs, d, h => by
    unfold domGo
    rw [Bool.and_eq_true, decide_eq_true_eq]
    constructor
    · rintro ⟨h1, h2⟩ k
      cases k with
      | zero => rw [pre_zero, pre_zero]; omega
      | succ k =>
        have := (domGo_iff ps qs _ h1).mp h2 k
        rw [pre_cons, pre_cons]; omega
    · intro g
      have g1 := g 1
      rw [pre_cons, pre_cons, pre_zero, pre_zero] at g1
      have h1 : 0 ≤ d + p - q := by omega
      refine ⟨h1, (domGo_iff ps qs _ h1).mpr fun k => ?_⟩
      have := g (k + 1)
      rw [pre_cons, pre_cons] at this
      omega
  | [], q :: qs, d, h => by
    unfold domGo
    rw [Bool.and_eq_true, decide_eq_true_eq]
    constructor
    · rintro ⟨h1, h2⟩ k
      cases k with
      | zero => rw [pre_zero, pre_zero]; omega
      | succ k =>
        have := (domGo_iff [] qs _ h1).mp h2 k
        rw [pre_nil] at this ⊢
        rw [pre_cons]; omega
    · intro g
      have g1 := g 1
      rw [pre_cons, pre_zero, pre_nil] at g1
      have h1 : 0 ≤ d - q := by omega
      refine ⟨h1, (domGo_iff [] qs _ h1).mpr fun k => ?_⟩
      have := g (k + 1)
      rw [pre_cons, pre_nil] at this
      rw [pre_nil]
      omega
  | p :: ps, [], d, h => by
    unfold domGo
    rw [Bool.and_eq_true, decide_eq_true_eq]
    constructor
    · rintro ⟨h1, h2⟩ k
      cases k with
      | zero => rw [pre_zero, pre_zero]; omega
      | succ k =>
        have := (domGo_iff ps [] _ h1).mp h2 k
        rw [pre_nil] at this ⊢
        rw [pre_cons]; omega
    · intro g
      have g1 := g 1
      rw [pre_cons, pre_zero, pre_nil] at g1
      have h1 : 0 ≤ d + p := by omega
      refine ⟨h1, (domGo_iff ps [] _ h1).mpr fun k => ?_⟩
      have := g (k + 1)
      rw [pre_cons, pre_nil] at this
      rw [pre_nil]
      omega
def domB (ps qs : List Int) : Bool := decide (ps.sum = qs.sum) && domGo 0 ps qs
theorem domB_iff (ps qs : List Int) : domB ps qs = true ↔ Dom ps qs := by
  unfold domB Dom
  rw [Bool.and_eq_true, decide_eq_true_eq, domGo_iff ps qs 0 (Int.le_refl _)]
  simp
theorem gx_any {tgt : TgD} {te : M} {ρ : RE} {S : Sto} {p : PyData → Bool} : ∀ xs : List PyData, (∀ x ∈ xs, ∃ ρ1, tgt x ρ = some ρ1 ∧ te ρ1 S = some (.d (.bool (p x)), S)) → ∃ l, gxGo stopAny tgt bYes te ρ xs S = some (l, !xs.any p, S)
  | [], _ => ⟨[], rfl⟩
  | x :: xs, h => by
    obtain ⟨ρ1, e1, e2⟩ := h x (by simp)
    obtain ⟨l, ih⟩ := gx_any (te := te) xs fun y hy => h y (List.mem_cons_of_mem _ hy)
    cases hp : p x with
    | true =>
      refine ⟨[.bool true], ?_⟩
      show (tgt x ρ).bind _ = _
      rw [e1]
      show (te ρ1 S).bind _ = _
      rw [e2, hp, List.any_cons, hp]
      rfl
    | false =>
      refine ⟨.bool false :: l, ?_⟩
      show (tgt x ρ).bind _ = _
      rw [e1]
      show (te ρ1 S).bind _ = _
      rw [e2, hp, List.any_cons, hp]
      show (gxGo stopAny tgt bYes te ρ xs S).bind _ = _
      rw [ih]
      rfl
theorem mAny_of {mi : ML} {vs : List Nat} {tgt : TgD} {te : M} {ρ : RE} {S S1 : Sto} {xs : List PyData} {p : PyData → Bool} (h1 : mi ρ S = some (xs, S1)) (h2 : ∀ x ∈ xs, ∃ ρ1, tgt x (wipeR ρ vs) = some ρ1 ∧ te ρ1 S1 = some (.d (.bool (p x)), S1)) : mAny mi vs tgt bYes te ρ S = some (.d (.bool (xs.any p)), S1) := by
  obtain ⟨l, e⟩ := gx_any xs h2
  unfold mAny
  rw [h1]
  show (gxGo stopAny tgt bYes te (wipeR ρ vs) xs S1).bind _ = _
  rw [e]
  show some (PV.d (.bool (!!xs.any p)), S1) = _
  rw [Bool.not_not]
theorem lay_ints : ∀ ps : List Int, PyData.canLayAll0 (ps.map .int) = true
  | [] => rfl
  | _ :: r => lay_ints r
theorem deep_ints : ∀ ps : List Int, PyData.depthAll (ps.map .int) = 0
  | [] => rfl
  | _ :: r => by
    show max 0 (PyData.depthAll (r.map .int)) = 0
    rw [deep_ints r]
    rfl
theorem shaped_row (ps : List Int) : SeqAt.shaped (itp ps) = true := by
  show (PyData.canLayAll0 (ps.map .int) && decide (PyData.depthAll (ps.map .int) + 1 ≤ 64)) = true
  rw [lay_ints, deep_ints]
  rfl
theorem eqvAll_ints : ∀ ps qs : List Int, PyData.eqvAll (ps.map .int) (qs.map .int) = decide (ps = qs)
  | [], [] => rfl
  | [], _ :: _ => rfl
  | _ :: _, [] => rfl
  | p :: ps, q :: qs => by
    show ((p == q) && PyData.eqvAll (ps.map .int) (qs.map .int)) = _
    rw [eqvAll_ints ps qs]
    by_cases h : p = q
    · subst h
      simp
    · rw [beq_eq_false_iff_ne.mpr h]
      simp [h]
theorem fNe_rows (ps qs : List Int) (S : Sto) : fNe (.d (itp ps)) (.d (itp qs)) S = some (.d (.bool (!decide (ps = qs)))) := by
  show (if (SeqAt.shaped (itp ps) && SeqAt.shaped (itp qs)) = true then some (PV.d (.bool (!PyData.eqvAll (ps.map .int) (qs.map .int)))) else none) = _
  rw [shaped_row, shaped_row, eqvAll_ints]
  rfl
def rowD : PyData → List Int := fun d => (rowOf d).getD []
theorem rowD_itp (ps : List Int) : rowD (itp ps) = ps := by
  unfold rowD rowOf
  show (intsOf (ps.map .int)).getD [] = ps
  rw [intsOf_map]
  rfl
theorem map_filter_row (rows : List (List Int)) (f : List Int → Bool) : (rows.map itp).filter (fun d => f (rowD d)) = (rows.filter f).map itp := by
  rw [List.filter_map]
  have : ((fun d => f (rowD d)) ∘ itp) = f := funext fun x => by show f (rowD (itp x)) = f x; rw [rowD_itp]
  rw [this]
theorem map_any_row (rows : List (List Int)) (f : List Int → Bool) : (rows.map itp).any (fun d => f (rowD d)) = rows.any f := by
  rw [List.any_map]
  have : ((fun d => f (rowD d)) ∘ itp) = f := funext fun x => by show f (rowD (itp x)) = f x; rw [rowD_itp]
  rw [this]
def toI (l : List Nat) : List Int := l.map fun n => ((n : Nat) : Int)
def sumN : List Nat → Nat
  | [] => 0
  | n :: r => n + sumN r
theorem sumN_eq : ∀ l : List Nat, (toI l).sum = (sumN l : Int)
  | [] => rfl
  | n :: r => by
    show (n : Int) + (toI r).sum = ((n + sumN r : Nat) : Int)
    rw [sumN_eq r]
    omega
theorem toI_inj {a b : List Nat} (h : toI a = toI b) : a = b := by
  have := congrArg (List.map Int.toNat) h
  simpa [toI, List.map_map, Function.comp_def] using this
theorem shaped_rows (rs : List (List Int)) : SeqAt.shaped (.list (rs.map itp)) = true := shaped_list (fun x hx => by
  obtain ⟨r, _, rfl⟩ := List.mem_map.mp hx
  exact lay_ints r) (fun x hx => by
  obtain ⟨r, _, rfl⟩ := List.mem_map.mp hx
  show PyData.depthAll (r.map .int) + 1 ≤ 63
  rw [deep_ints]
  decide)
theorem empty_any {α : Type} (p : α → Bool) : ∀ l : List α, (l.filter p).isEmpty = !l.any p
  | [] => rfl
  | x :: r => by
    rw [List.filter_cons, List.any_cons]
    cases h : p x with
    | true => rfl
    | false => exact empty_any p r
theorem rowN_itp (l : List Nat) : rowN l = itp (toI l) := by
  unfold rowN itp toI
  rw [List.map_map]
  rfl
theorem and_tt {a b : M} {ρ : RE} {S : Sto} {z : PV × Sto} (h : a ρ S = some (.d (.bool true), S)) (g : b ρ S = some z) : mAnd a b ρ S = some z := by
  unfold mAnd
  rw [h]
  exact g
theorem or_ff {a b : MB} {ρ : RE} {S : Sto} (h : a ρ S = some (false, S)) (g : b ρ S = some (false, S)) : bOr a b ρ S = some (false, S) := by
  rw [bOr_f h]
  exact g
theorem okk_row {s : List Nat} (h1 : ∀ x ∈ s, x ≤ 1000) (h2 : s.length ≤ 1000) : Okk 1 (65 * s.length + 2 * s.length + 3) (rowN s) := by
  have z := okk_tuple (n := 0) (L := 65) (xs := s.map fun n => PyData.int ((n : Nat) : Int)) fun y hy => by
    obtain ⟨x, hx, rfl⟩ := List.mem_map.mp hy
    have := h1 x hx
    exact okk_int64 (by
      show (x : Int).natAbs < 2 ^ 64
      have e : (x : Int).natAbs = x := rfl
      rw [e]
      exact Nat.lt_of_le_of_lt this (by decide))
  rw [List.length_map] at z
  exact z
theorem repr_row {s : List Nat} (h1 : ∀ x ∈ s, x ≤ 1000) (h2 : s.length ≤ 1000) (S : Sto) : cRepr [.d (rowN s)] S = some (.d (.str (rowN s).shown)) := (okk_row h1 h2).repr (by decide) (by omega) S
theorem ok_row {s : List Nat} (h1 : ∀ x ∈ s, x ≤ 1000) (h2 : s.length ≤ 1000) : PyData.strOk (rowN s).shown = true := (okk_row h1 h2).ok
theorem ne_same {x : Str} (h : PyData.strOk x = true) (S : Sto) : fNe (.d (.str x)) (.d (.str x)) S = some (.d (.bool false)) := by
  rw [fNe_str h h, beq_self_eq_true]
  rfl
theorem eq_same {x : Str} (h : PyData.strOk x = true) (S : Sto) : fEq (.d (.str x)) (.d (.str x)) S = some (.d (.bool true)) := by
  have z := ne_same h S
  unfold fNe at z
  unfold fEq
  obtain ⟨a, e1, z⟩ := Option.bind_eq_some_iff.mp z
  obtain ⟨b, e2, z⟩ := Option.bind_eq_some_iff.mp z
  cases e1
  cases e2
  show (if _ then _ else _) = _
  split at z
  · rename_i q
    rw [if_pos q]
    have w : (!PyData.eqv (.str x) (.str x)) = false := by
      injection z with z
      injection z with z
      injection z with z
    rw [Bool.not_eq_false'] at w
    rw [w]
  · cases z
/-! ### meetings -/
def mn (a b : Int) : Int := if b < a then b else a
def lsr (ps qs : List Int) (k : Nat) : Int := mn (pre ps k) (pre qs k)
def dif (ps qs : List Int) (k : Nat) : Int := lsr ps qs (k + 1) - lsr ps qs k
def pos (ds : List Int) : List Int := ds.filter fun x => decide (x > 0)
def meet (ps qs : List Int) : List Int := pos ((List.range (mx ps qs)).map (dif ps qs))
theorem pre_zeros : ∀ {ds : List Int}, (∀ x ∈ ds, x = 0) → ∀ k, pre ds k = 0
  | [], _, k => pre_nil k
  | d :: r, h, 0 => pre_zero _
  | d :: r, h, k + 1 => by
    rw [pre_cons, pre_zeros (fun x hx => h x (List.mem_cons_of_mem _ hx)) k, h d List.mem_cons_self]
    rfl
theorem pos_pre : ∀ {ds : List Int}, ds.Pairwise (· ≥ ·) → (∀ x ∈ ds, 0 ≤ x) → ∀ k, pre (pos ds) k = pre ds k
  | [], _, _, k => rfl
  | d :: r, hf, h0, k => by
    rw [List.pairwise_cons] at hf
    have ih := pos_pre hf.2 (fun x hx => h0 x (List.mem_cons_of_mem _ hx))
    have hd := h0 d List.mem_cons_self
    unfold pos at ih ⊢
    rw [List.filter_cons]
    by_cases h : d > 0
    · rw [if_pos (decide_eq_true h)]
      cases k with
      | zero => rw [pre_zero, pre_zero]
      | succ k => rw [pre_cons, pre_cons, ih k]
    · rw [if_neg (by simpa using h), ih k]
      have hz : ∀ x ∈ r, x = 0 := fun x hx => by
        have := hf.1 x hx
        have := h0 x (List.mem_cons_of_mem _ hx)
        omega
      rw [pre_zeros hz, pre_zeros (fun x hx => by
        rcases List.mem_cons.mp hx with rfl | hx
        · omega
        · exact hz x hx)]
theorem pre_map (f : Nat → Int) : ∀ (N k : Nat), k ≤ N → pre ((List.range N).map f) k = ((List.range k).map f).sum := fun N k h => by
  unfold pre
  rw [← List.map_take, List.take_range, Nat.min_eq_left h]
theorem sum_range_succ (f : Nat → Int) (k : Nat) : ((List.range (k + 1)).map f).sum = ((List.range k).map f).sum + f k := by
  rw [List.range_succ, List.map_append, List.sum_append]
  simp
theorem tele (f : Nat → Int) : ∀ k : Nat, ((List.range k).map fun i => f (i + 1) - f i).sum = f k - f 0
  | 0 => by simp
  | k + 1 => by
    rw [sum_range_succ, tele f k]
    omega
theorem get_fall {ps : List Int} (hf : ps.Pairwise (· ≥ ·)) (h0 : ∀ p ∈ ps, 0 ≤ p) (k : Nat) : (ps[k + 1]?).getD 0 ≤ (ps[k]?).getD 0 ∧ 0 ≤ (ps[k + 1]?).getD 0 := by
  by_cases h : k + 1 < ps.length
  · rw [List.getElem?_eq_getElem h, List.getElem?_eq_getElem (show k < ps.length by omega)]
    exact ⟨List.pairwise_iff_getElem.mp hf k (k + 1) (by omega) h (by omega), h0 _ (List.getElem_mem h)⟩
  · rw [List.getElem?_eq_none (by omega)]
    refine ⟨?_, Int.le_refl _⟩
    by_cases h2 : k < ps.length
    · rw [List.getElem?_eq_getElem h2]
      exact h0 _ (List.getElem_mem h2)
    · rw [List.getElem?_eq_none (by omega)]
      exact Int.le_refl _
section
variable {ps qs : List Int}
theorem get_pos (h0 : ∀ p ∈ ps, 0 ≤ p) (k : Nat) : 0 ≤ (ps[k]?).getD 0 := by
  by_cases h2 : k < ps.length
  · rw [List.getElem?_eq_getElem h2]
    exact h0 _ (List.getElem_mem h2)
  · rw [List.getElem?_eq_none (by omega)]
    exact Int.le_refl _
theorem dif_fall (pf : ps.Pairwise (· ≥ ·)) (p0 : ∀ p ∈ ps, 0 ≤ p) (qf : qs.Pairwise (· ≥ ·)) (q0 : ∀ p ∈ qs, 0 ≤ p) (k : Nat) : dif ps qs (k + 1) ≤ dif ps qs k := by
  unfold dif lsr mn
  have a1 := pre_succ ps k
  have a2 := pre_succ ps (k + 1)
  have b1 := pre_succ qs k
  have b2 := pre_succ qs (k + 1)
  have c := (get_fall pf p0 k).1
  have d := (get_fall qf q0 k).1
  split <;> split <;> split <;> omega
theorem dif_pos (p0 : ∀ p ∈ ps, 0 ≤ p) (q0 : ∀ p ∈ qs, 0 ≤ p) (k : Nat) : 0 ≤ dif ps qs k := by
  unfold dif lsr mn
  have a1 := pre_succ ps k
  have b1 := pre_succ qs k
  have c := get_pos p0 k
  have d := get_pos q0 k
  split <;> split <;> omega
theorem anti {f : Nat → Int} (h : ∀ k, f (k + 1) ≤ f k) : ∀ {i j : Nat}, i ≤ j → f j ≤ f i := fun {i j} hij => by
  obtain ⟨d, rfl⟩ := Nat.exists_eq_add_of_le hij
  induction d with
  | zero => exact Int.le_refl _
  | succ d ih => exact Int.le_trans (h (i + d)) (ih (by omega))
theorem difs_fall (pf : ps.Pairwise (· ≥ ·)) (p0 : ∀ p ∈ ps, 0 ≤ p) (qf : qs.Pairwise (· ≥ ·)) (q0 : ∀ p ∈ qs, 0 ≤ p) (N : Nat) : ((List.range N).map (dif ps qs)).Pairwise (· ≥ ·) := by
  rw [List.pairwise_map]
  refine List.Pairwise.imp (fun {a b} (h : a < b) => ?_) List.pairwise_lt_range
  exact anti (dif_fall pf p0 qf q0) (Nat.le_of_lt h)
theorem meet_fall (pf : ps.Pairwise (· ≥ ·)) (p0 : ∀ p ∈ ps, 0 ≤ p) (qf : qs.Pairwise (· ≥ ·)) (q0 : ∀ p ∈ qs, 0 ≤ p) : (meet ps qs).Pairwise (· ≥ ·) := (difs_fall pf p0 qf q0 _).filter _
theorem meet_one : ∀ x ∈ meet ps qs, 1 ≤ x := fun x hx => by
  have := of_decide_eq_true (List.mem_filter.mp hx).2
  omega
theorem meet_len : (meet ps qs).length ≤ mx ps qs := by
  refine Nat.le_trans (List.length_filter_le _ _) ?_
  rw [List.length_map, List.length_range]
  exact Nat.le_refl _
theorem meet_pre (pf : ps.Pairwise (· ≥ ·)) (p0 : ∀ p ∈ ps, 0 ≤ p) (qf : qs.Pairwise (· ≥ ·)) (q0 : ∀ p ∈ qs, 0 ≤ p) (k : Nat) : pre (meet ps qs) k = lsr ps qs k := by
  unfold meet
  rw [pos_pre (difs_fall pf p0 qf q0 _) (fun x hx => by obtain ⟨i, _, rfl⟩ := List.mem_map.mp hx; exact dif_pos p0 q0 i)]
  have go : ∀ j, j ≤ mx ps qs → pre ((List.range (mx ps qs)).map (dif ps qs)) j = lsr ps qs j := fun j hj => by
    rw [pre_map _ _ _ hj]
    show ((List.range j).map fun i => lsr ps qs (i + 1) - lsr ps qs i).sum = _
    rw [tele]
    have : lsr ps qs 0 = 0 := by
      unfold lsr mn
      rw [pre_zero, pre_zero]
      rfl
    omega
  by_cases h : k ≤ mx ps qs
  · exact go k h
  · have e1 : pre ((List.range (mx ps qs)).map (dif ps qs)) k = pre ((List.range (mx ps qs)).map (dif ps qs)) (mx ps qs) := by
      rw [pre_all (by simp; omega), pre_all (by simp)]
    rw [e1, go _ (Nat.le_refl _)]
    unfold lsr
    have l1 := mx_l ps qs
    have l2 := mx_r ps qs
    rw [pre_all l1, pre_all l2, pre_all (show ps.length ≤ k by omega), pre_all (show qs.length ≤ k by omega)]
end
theorem pre_inj : ∀ {ps qs : List Int}, (∀ p ∈ ps, 1 ≤ p) → (∀ p ∈ qs, 1 ≤ p) → (∀ k, pre ps k = pre qs k) → ps = qs
  | [], [], _, _, _ => rfl
  | [], q :: qs, _, hq, h => by
    have := h 1
    rw [pre_nil, pre_cons, pre_zero] at this
    have := hq q List.mem_cons_self
    omega
  | p :: ps, [], hp, _, h => by
    have := h 1
    rw [pre_nil, pre_cons, pre_zero] at this
    have := hp p List.mem_cons_self
    omega
  | p :: ps, q :: qs, hp, hq, h => by
    have e := h 1
    rw [pre_cons, pre_cons, pre_zero, pre_zero] at e
    have e2 : p = q := by omega
    subst e2
    rw [pre_inj (fun x hx => hp x (List.mem_cons_of_mem _ hx)) (fun x hx => hq x (List.mem_cons_of_mem _ hx)) fun k => by
      have := h (k + 1)
      rw [pre_cons, pre_cons] at this
      omega]
/-! ### all shapes of a size -/
def genS : Nat → Nat → Nat → List (List Nat)
  | 0, _, _ => [[]]
  | f + 1, n, m => if n = 0 then [[]] else (List.range (min n m)).flatMap fun i => (genS f (n - (i + 1)) (i + 1)).map ((i + 1) :: ·)
theorem genS_all : ∀ (f n m : Nat) (l : List Nat), l.Pairwise (· ≥ ·) → (∀ x ∈ l, 1 ≤ x ∧ x ≤ m) → sumN l = n → n ≤ f → l ∈ genS f n m
  | 0, n, m, l, _, h1, hs, hn => by
    cases l with
    | nil => exact List.mem_singleton.mpr rfl
    | cons x r =>
      have := h1 x List.mem_cons_self
      have : x + sumN r = n := hs
      omega
  | f + 1, n, m, l, hf, h1, hs, hn => by
    unfold genS
    cases l with
    | nil =>
      have : n = 0 := hs.symm
      rw [if_pos this]
      exact List.mem_singleton.mpr rfl
    | cons x r =>
      have hx := h1 x List.mem_cons_self
      have hs2 : x + sumN r = n := hs
      rw [if_neg (by omega)]
      rw [List.pairwise_cons] at hf
      refine List.mem_flatMap.mpr ⟨x - 1, List.mem_range.mpr (by omega), ?_⟩
      have e : x - 1 + 1 = x := by omega
      rw [e]
      refine List.mem_map.mpr ⟨r, ?_, rfl⟩
      exact genS_all f (n - x) x r hf.2 (fun y hy => ⟨(h1 y (List.mem_cons_of_mem _ hy)).1, hf.1 y hy⟩) (by omega) (by omega)
section
variable [Feed]
def xPar (i j : Nat) (x : SA) : SS where
  m := sPar i j x.m
  a := fun A T => (x.a A T).bind fun l => bindL l fun p => match p.1 with
    | [v, w] => some [.nx ((A.set i (some v)).set j (some w)) p.2]
    | _ => none
  ok := fun {A T l} e {ρ S} hA hT => by
    obtain ⟨l1, e1, e⟩ := Option.bind_eq_some_iff.mp e
    obtain ⟨⟨vs, T1⟩, ho1, xs, S1, f1, r1, t1⟩ := x.ok e1 hA hT
    obtain ⟨s, e2, k⟩ := bindL_mem e ho1
    dsimp only at e2 r1 t1
    split at e2
    · rename_i v w
      cases e2
      cases r1 with
      | cons ra r1 => cases r1 with
        | cons rb r1 => cases r1 with
          | nil =>
            rename_i a b
            refine ⟨_, k _ (List.mem_singleton.mpr rfl), .nx ((ρ.set i (some a)).set j (some b)) S1, ?_, ?_, t1⟩
            · unfold sPar
              rw [f1]
              rfl
            · exact All2.set (R := RO) (show RO (some w) (some b) from rb) j (All2.set (R := RO) (show RO (some v) (some a) from ra) i hA)
    · cases e2
end
end DN

/-! what is told of a shape: columns box by box, how often each part comes, the weight -/
namespace DN
open PySem PySem.Spec PyProof.Rows L2 DL
theorem mRng2_of {m n : M} {ρ : RE} {S S1 S2 : Sto} {i j : Int} (h : m ρ S = some (.d (.int i), S1)) (h2 : n ρ S1 = some (.d (.int j), S2)) (a : -1000000 ≤ i ∧ i ≤ 1000000 ∧ -1000000 ≤ j ∧ j ≤ 1000000) : mRng2 m n ρ S = some (rangeD i (j - i).toNat, S2) := by
  unfold mRng2
  rw [h]
  show (n ρ S1).bind _ = _
  rw [h2]
  show (if -1000000 ≤ i ∧ i ≤ 1000000 ∧ -1000000 ≤ j ∧ j ≤ 1000000 then _ else none) = _
  rw [if_pos a]
/-! ### the columns of the columns -/
theorem filter_lt_range (m : Nat) : ∀ n : Nat, ((List.range n).filter fun k => decide (k < m)).length = if n < m then n else m
  | 0 => by
    show 0 = if 0 < m then 0 else m
    split <;> omega
  | n + 1 => by
    rw [List.range_succ, List.filter_append, List.length_append, filter_lt_range m n]
    by_cases h : n < m
    · have e : ([n].filter fun k => decide (k < m)) = [n] := by
        rw [List.filter_cons, if_pos (by simpa using h)]
        rfl
      rw [e, if_pos h]
      show n + 1 = _
      split <;> omega
    · have e : ([n].filter fun k => decide (k < m)) = [] := by
        rw [List.filter_cons, if_neg (by simpa using h)]
        rfl
      rw [e, if_neg h, if_neg (by omega)]
      rfl
theorem over_all {k : Int} : ∀ {ps : List Int}, (∀ p ∈ ps, p > k) → over k ps = ps := fun {ps} h => by
  unfold over
  rw [List.filter_eq_self]
  intro x hx
  exact decide_eq_true (h x hx)
theorem cols_cols {ps : List Int} (hf : ps.Pairwise (· ≥ ·)) (h1 : ∀ p ∈ ps, 1 ≤ p) : cols (cols ps) = ps := by
  cases hps : ps with
  | nil => rfl
  | cons p r =>
    rw [hps] at hf h1
    have hp := h1 p List.mem_cons_self
    have e : cols (p :: r) = (List.range p.toNat).map fun k => ((over (k : Nat) (p :: r)).length : Int) := rfl
    refine List.ext_getElem? fun i => ?_
    -- the head of the columns is how many parts there are
    have hd : (cols (p :: r))[0]? = some ((p :: r).length : Int) := by
      rw [e, List.getElem?_map, List.getElem?_range (by omega)]
      show some (((over ((0 : Nat) : Int) (p :: r)).length : Int)) = _
      rw [over_all (fun x hx => by have := h1 x hx; omega)]
    by_cases hi : i < (p :: r).length
    · have gi : (p :: r)[i]? = some (p :: r)[i] := List.getElem?_eq_getElem hi
      generalize hq : (p :: r)[i] = q at gi
      have hqm : q ∈ p :: r := List.mem_of_getElem? gi
      have hq1 := h1 q hqm
      have hqp : q ≤ p := by
        obtain ⟨w, e1, e2⟩ := fall0 hf gi
        cases e1
        exact e2
      rw [gi]
      refine cols_get.mpr ⟨_, hd, by omega, ?_⟩
      rw [e]
      unfold over
      rw [List.filter_map, List.length_map]
      have ef : (List.range p.toNat).filter ((fun x => decide (x > (i : Int))) ∘ fun k => ((over (k : Nat) (p :: r)).length : Int)) = (List.range p.toNat).filter fun k => decide (k < q.toNat) := by
        refine List.filter_congr fun k _ => ?_
        show decide (((over (k : Nat) (p :: r)).length : Int) > (i : Int)) = _
        have z := cnt_iff (k : Int) hf i
        by_cases h : k < q.toNat
        · have : i < (over (k : Int) (p :: r)).length := z.mpr ⟨q, gi, by omega⟩
          rw [decide_eq_true h, decide_eq_true (by omega)]
        · have : ¬ i < (over (k : Int) (p :: r)).length := fun w => by
            obtain ⟨q', g', h'⟩ := z.mp w
            rw [gi] at g'
            cases g'
            omega
          rw [decide_eq_false h, decide_eq_false (by omega)]
      show q = ((((List.range p.toNat).filter ((fun x => decide (x > (i : Int))) ∘ fun k => ((over (k : Nat) (p :: r)).length : Int))).length : Nat) : Int)
      rw [ef, filter_lt_range]
      split <;> omega
    · have z : (p :: r)[i]? = none := List.getElem?_eq_none (by omega)
      rw [z]
      cases g : (cols (cols (p :: r)))[i]? with
      | none => rfl
      | some c =>
        obtain ⟨w, e1, e2, _⟩ := cols_get.mp g
        rw [hd] at e1
        cases e1
        omega
/-! ### the columns, box by box -/
def stp (c : List Int) (k : Nat) : List Int := (List.range (if c.length < k then k else c.length)).map fun i => (c[i]?).getD 0 + (if i < k then 1 else 0)
theorem stp_len (c : List Int) (k : Nat) : (stp c k).length = if c.length < k then k else c.length := by unfold stp; rw [List.length_map, List.length_range]
theorem stp_get (c : List Int) (k i : Nat) (h : i < (stp c k).length) : (stp c k)[i]? = some ((c[i]?).getD 0 + (if i < k then 1 else 0)) := by
  rw [stp_len] at h
  unfold stp
  rw [List.getElem?_map, List.getElem?_range h]
  rfl
theorem stp_zero (c : List Int) : stp c 0 = c := by
  refine List.ext_getElem? fun i => ?_
  by_cases h : i < c.length
  · rw [stp_get c 0 i (by rw [stp_len]; simpa using h), List.getElem?_eq_getElem h]
    simp
  · rw [List.getElem?_eq_none (by rw [stp_len]; simp; omega), List.getElem?_eq_none (by omega)]
theorem stp_new {c : List Int} {k : Nat} (h : c.length ≤ k) : (stp c k).length = k ∧ (stp c k ++ [0]).set k 1 = stp c (k + 1) := by
  have l : (stp c k).length = k := by rw [stp_len]; split <;> omega
  refine ⟨l, List.ext_getElem? fun i => ?_⟩
  have l2 : (stp c (k + 1)).length = k + 1 := by rw [stp_len]; split <;> omega
  rw [List.getElem?_set]
  by_cases h1 : k = i
  · subst h1
    rw [if_pos rfl, if_pos (by rw [List.length_append, l]; simp), stp_get c (k + 1) k (by omega), if_pos (by omega), List.getElem?_eq_none h]
    rfl
  · rw [if_neg h1]
    by_cases h2 : i < k
    · rw [List.getElem?_append_left (by omega), stp_get c k i (by omega), stp_get c (k + 1) i (by omega), if_pos h2, if_pos (by omega)]
    · rw [List.getElem?_eq_none (by rw [List.length_append, l]; simp; omega), List.getElem?_eq_none (by omega)]
theorem stp_old {c : List Int} {k : Nat} (h : k < c.length) : (stp c k).length = c.length ∧ ∃ v, (stp c k)[k]? = some v ∧ (stp c k).set k (v + 1) = stp c (k + 1) := by
  have l : (stp c k).length = c.length := by rw [stp_len]; split <;> omega
  have l2 : (stp c (k + 1)).length = c.length := by rw [stp_len]; split <;> omega
  refine ⟨l, (c[k]?).getD 0, ?_, List.ext_getElem? fun i => ?_⟩
  · rw [stp_get c k k (by omega), if_neg (by omega), Int.add_zero]
  · rw [List.getElem?_set]
    by_cases h1 : k = i
    · subst h1
      rw [if_pos rfl, if_pos (by omega), stp_get c (k + 1) k (by omega), if_pos (by omega)]
    · rw [if_neg h1]
      by_cases h2 : i < c.length
      · rw [stp_get c k i (by omega), stp_get c (k + 1) i (by omega)]
        by_cases h3 : i < k
        · rw [if_pos h3, if_pos (by omega)]
        · rw [if_neg h3, if_neg (by omega)]
      · rw [List.getElem?_eq_none (by omega), List.getElem?_eq_none (by omega)]
theorem over_snoc (k u : Int) (us : List Int) : ((over k (us ++ [u])).length : Int) = ((over k us).length : Int) + (if u > k then 1 else 0) := by
  unfold over
  rw [List.filter_append, List.length_append, List.filter_cons]
  by_cases h : u > k
  · rw [if_pos (decide_eq_true h), if_pos h]
    simp
  · rw [if_neg (by simpa using h), if_neg h]
    simp
theorem stp_cols {us : List Int} {u : Int} (h0 : 0 ≤ u) (hu : ∀ x ∈ us, u ≤ x) : stp (cols us) u.toNat = cols (us ++ [u]) := by
  cases us with
  | nil =>
    refine List.ext_getElem? fun i => ?_
    show (stp [] u.toNat)[i]? = ((List.range u.toNat).map fun k => ((over (k : Nat) [u]).length : Int))[i]?
    have l : (stp [] u.toNat).length = u.toNat := by rw [stp_len]; simp; omega
    by_cases h : i < u.toNat
    · rw [stp_get _ _ _ (by omega), if_pos h, List.getElem?_map, List.getElem?_range h]
      show some _ = some (((over (i : Nat) ([] ++ [u])).length : Int))
      rw [over_snoc, if_pos (by omega)]
      rfl
    · rw [List.getElem?_eq_none (by omega), List.getElem?_eq_none (by simp; omega)]
  | cons p r =>
    have hp := hu p List.mem_cons_self
    refine List.ext_getElem? fun i => ?_
    show _ = ((List.range p.toNat).map fun k => ((over (k : Nat) (p :: r ++ [u])).length : Int))[i]?
    have lc : (cols (p :: r)).length = p.toNat := by
      show ((List.range p.toNat).map _).length = _
      rw [List.length_map, List.length_range]
    have l : (stp (cols (p :: r)) u.toNat).length = p.toNat := by rw [stp_len, lc]; split <;> omega
    by_cases h : i < p.toNat
    · rw [stp_get _ _ _ (by omega), List.getElem?_map, List.getElem?_range h]
      have : (cols (p :: r))[i]? = some ((over (i : Nat) (p :: r)).length : Int) := by
        show ((List.range p.toNat).map fun k => ((over (k : Nat) (p :: r)).length : Int))[i]? = _
        rw [List.getElem?_map, List.getElem?_range h]
        rfl
      rw [this]
      show some (_ + _) = some (((over (i : Nat) (p :: r ++ [u])).length : Int))
      rw [over_snoc]
      congr 2
      by_cases h2 : i < u.toNat
      · rw [if_pos h2, if_pos (by omega)]
      · rw [if_neg h2, if_neg (by omega)]
    · rw [List.getElem?_eq_none (by omega), List.getElem?_eq_none (by simp; omega)]
theorem cols_ent {ps : List Int} {N : Nat} (hl : ps.length ≤ N) : ∀ x ∈ cols ps, 0 ≤ x ∧ x ≤ N := fun x hx => by
  obtain ⟨i, hi, e⟩ := List.getElem_of_mem hx
  obtain ⟨p, _, _, rfl⟩ := cols_get.mp (List.getElem?_eq_some_iff.mpr ⟨hi, e⟩)
  have := List.length_filter_le (fun x => decide (x > (i : Int))) ps
  unfold over
  omega
theorem cols_lens {ps : List Int} {N : Nat} (h : ∀ p ∈ ps, p ≤ N) : (cols ps).length ≤ N := by
  cases ps with
  | nil => exact Nat.zero_le _
  | cons p r =>
    show ((List.range p.toNat).map _).length ≤ _
    rw [List.length_map, List.length_range]
    have := h p List.mem_cons_self
    omega
/-! ### how often -/
def oft (ps : List Int) : List (Int × Nat) := (rising ps).map fun k => (k, ps.count k)
def paD (e : Int × Nat) : PyData := .tuple [.int e.1, .int (e.2 : Nat)]
theorem rising_len : ∀ l : List Int, (rising l).length ≤ l.length
  | [] => Nat.le_refl _
  | x :: r => by
    have h : ∀ (k : Int) (m : List Int), (ins k m).length ≤ m.length + 1 := fun k m => by
      induction m with
      | nil => exact Nat.le_refl _
      | cons y t iht =>
        unfold ins
        split
        · simp
        · split
          · simp
          · rw [List.length_cons, List.length_cons]
            omega
    have a := h x (rising r)
    have b := rising_len r
    show (ins x (rising r)).length ≤ _
    rw [List.length_cons]
    omega
theorem oft_len (ps : List Int) : (oft ps).length ≤ ps.length := by
  unfold oft
  rw [List.length_map]
  exact rising_len ps
theorem count_snoc (us : List Int) (u k : Int) : (us ++ [u]).count k = us.count k + (if u = k then 1 else 0) := by
  rw [List.count_append, List.count_singleton]
  congr 1
  by_cases h : u = k
  · rw [if_pos h, if_pos (by simpa using h)]
  · rw [if_neg h, if_neg (by simpa using h)]
section
variable {us : List Int} {u : Int}
def lo (us : List Int) (u : Int) : List Int := (rising us).filter fun k => decide (k < u)
def hi (us : List Int) (u : Int) : List Int := (rising us).filter fun k => decide (u < k)
theorem lo_up : (lo us u ++ [u]).Pairwise (· < ·) := List.pairwise_append.mpr ⟨(rising_up us).filter _, by simp, fun a ha b hb => by
  rw [List.mem_singleton.mp hb]
  exact of_decide_eq_true (List.mem_filter.mp ha).2⟩
theorem hi_up : (u :: hi us u).Pairwise (· < ·) := List.pairwise_cons.mpr ⟨fun a ha => of_decide_eq_true (List.mem_filter.mp ha).2, (rising_up us).filter _⟩
theorem lo_mem {k : Int} : k ∈ lo us u ↔ k ∈ us ∧ k < u := by
  unfold lo
  rw [List.mem_filter, rising_mem, decide_eq_true_eq]
theorem hi_mem {k : Int} : k ∈ hi us u ↔ k ∈ us ∧ u < k := by
  unfold hi
  rw [List.mem_filter, rising_mem, decide_eq_true_eq]
theorem rising_in (h : u ∈ us) (hu : ∀ x ∈ us, x ≤ u) : rising us = lo us u ++ [u] := up_unique (rising_up us) lo_up fun k => by
  rw [rising_mem, List.mem_append, lo_mem, List.mem_singleton]
  constructor
  · intro hk
    have := hu k hk
    by_cases e : k = u
    · exact .inr e
    · exact .inl ⟨hk, by omega⟩
  · rintro (⟨hk, _⟩ | rfl)
    · exact hk
    · exact h
theorem rising_out (h : u ∉ us) (hu : ∀ x ∈ us, x ≤ u) : rising us = lo us u := by
  unfold lo
  refine (List.filter_eq_self.mpr fun k hk => ?_).symm
  rw [rising_mem] at hk
  have := hu k hk
  have : k ≠ u := fun e => h (e ▸ hk)
  exact decide_eq_true (by omega)
theorem rising_snoc (hu : ∀ x ∈ us, x ≤ u) : rising (us ++ [u]) = lo us u ++ [u] := up_unique (rising_up _) lo_up fun k => by
  rw [rising_mem, List.mem_append, List.mem_append, lo_mem, List.mem_singleton]
  constructor
  · rintro (hk | rfl)
    · have := hu k hk
      by_cases e : k = u
      · exact .inr e
      · exact .inl ⟨hk, by omega⟩
    · exact .inr rfl
  · rintro (⟨hk, _⟩ | rfl)
    · exact .inl hk
    · exact .inr rfl
theorem oft_snoc (hu : ∀ x ∈ us, x ≤ u) : oft (us ++ [u]) = (lo us u).map (fun k => (k, us.count k)) ++ [(u, us.count u + 1)] := by
  unfold oft
  rw [rising_snoc hu, List.map_append]
  congr 1
  · refine List.map_congr_left fun k hk => ?_
    rw [count_snoc, if_neg (by have := (lo_mem.mp hk).2; omega)]
    rfl
  · show [(u, (us ++ [u]).count u)] = _
    rw [count_snoc, if_pos rfl]
theorem oft_in (h : u ∈ us) (hu : ∀ x ∈ us, x ≤ u) : oft us = (lo us u).map (fun k => (k, us.count k)) ++ [(u, us.count u)] := by
  unfold oft
  rw [rising_in h hu, List.map_append]
  rfl
theorem oft_out (h : u ∉ us) (hu : ∀ x ∈ us, x ≤ u) : oft us = (lo us u).map (fun k => (k, us.count k)) := by
  unfold oft
  rw [rising_out h hu]
theorem oft_rev (ps : List Int) : oft ps.reverse = oft ps := by
  have e : rising ps.reverse = rising ps := up_unique (rising_up _) (rising_up _) fun k => by rw [rising_mem, rising_mem, List.mem_reverse]
  unfold oft
  rw [e]
  refine List.map_congr_left fun k _ => ?_
  rw [List.count_reverse]
/-! ### the weight -/
def inW (k : Int) : Nat → Int
  | 0 => 1
  | n + 1 => inW k n * (k * ((n + 1 : Nat) : Int))
def pl : List (Int × Nat) → Int
  | [] => 1
  | e :: r => inW e.1 e.2 * pl r
theorem mul_swap (a b c : Int) : a * b * c = a * c * b := by rw [Int.mul_assoc, Int.mul_comm b c, Int.mul_assoc]
theorem pl_snoc (hu : ∀ x ∈ us, u ≤ x) : pl (oft (us ++ [u])) = pl (oft us) * (u * ((us.count u + 1 : Nat) : Int)) := by
  have e1 : rising (us ++ [u]) = u :: hi us u := up_unique (rising_up _) hi_up fun k => by
    rw [rising_mem, List.mem_append, List.mem_singleton, List.mem_cons, hi_mem]
    constructor
    · rintro (hk | rfl)
      · have := hu k hk
        by_cases e : k = u
        · exact .inl e
        · exact .inr ⟨hk, by omega⟩
      · exact .inl rfl
    · rintro (rfl | ⟨hk, _⟩)
      · exact .inr rfl
      · exact .inl hk
  have e2 : oft (us ++ [u]) = (u, us.count u + 1) :: (hi us u).map fun k => (k, us.count k) := by
    unfold oft
    rw [e1, List.map_cons, count_snoc, if_pos rfl]
    congr 1
    refine List.map_congr_left fun k hk => ?_
    rw [count_snoc, if_neg (by have := (hi_mem.mp hk).2; omega)]
    rfl
  have e3 : pl (oft us) = inW u (us.count u) * pl ((hi us u).map fun k => (k, us.count k)) := by
    by_cases h : u ∈ us
    · have e : rising us = u :: hi us u := up_unique (rising_up _) hi_up fun k => by
        rw [rising_mem, List.mem_cons, hi_mem]
        constructor
        · intro hk
          have := hu k hk
          by_cases e : k = u
          · exact .inl e
          · exact .inr ⟨hk, by omega⟩
        · rintro (rfl | ⟨hk, _⟩)
          · exact h
          · exact hk
      unfold oft
      rw [e, List.map_cons]
      rfl
    · have e : rising us = hi us u := by
        unfold hi
        refine (List.filter_eq_self.mpr fun k hk => ?_).symm
        rw [rising_mem] at hk
        have := hu k hk
        have : k ≠ u := fun e => h (e ▸ hk)
        exact decide_eq_true (by omega)
      unfold oft
      rw [e, List.count_eq_zero.mpr h]
      show pl _ = 1 * pl _
      rw [Int.one_mul]
  rw [e2, e3]
  show inW u (us.count u + 1) * pl _ = _
  show inW u (us.count u) * (u * ((us.count u + 1 : Nat) : Int)) * pl _ = _
  rw [mul_swap]
end
theorem pl_bound {ps : List Int} (hf : ps.Pairwise (· ≥ ·)) (h1 : ∀ p ∈ ps, 1 ≤ p ∧ p ≤ 30) (hl : ps.length ≤ 12) : ∀ i, i ≤ ps.length → 0 < pl (oft (ps.take i)) ∧ pl (oft (ps.take i)) ≤ 390 ^ i
  | 0, _ => by
    have e : oft (ps.take 0) = [] := rfl
    rw [e]
    exact ⟨by decide, by decide⟩
  | i + 1, h => by
    obtain ⟨a, b⟩ := pl_bound hf h1 hl i (by omega)
    have hi : i < ps.length := by omega
    have e : ps.take (i + 1) = ps.take i ++ [ps[i]] := by rw [List.take_append_getElem]
    have hm := h1 ps[i] (List.getElem_mem hi)
    have hu : ∀ x ∈ ps.take i, ps[i] ≤ x := fun x hx => by
      obtain ⟨j, hj, ej⟩ := List.getElem_of_mem hx
      rw [List.getElem_take] at ej
      rw [← ej]
      rw [List.length_take] at hj
      exact List.pairwise_iff_getElem.mp hf j i (by omega) hi (by omega)
    rw [e, pl_snoc hu]
    have hc : (ps.take i).count ps[i] ≤ 12 := by
      have := List.count_le_length (a := ps[i]) (l := ps.take i)
      rw [List.length_take] at this
      omega
    generalize (ps.take i).count ps[i] = c at hc
    generalize ps[i] = u at hm
    have h2 : 0 < u * ((c + 1 : Nat) : Int) := Int.mul_pos (by omega) (by omega)
    have h3 : u * ((c + 1 : Nat) : Int) ≤ 390 := by
      have : u * ((c + 1 : Nat) : Int) ≤ 30 * 13 := Int.mul_le_mul hm.2 (by omega) (by omega) (by decide)
      exact this
    refine ⟨Int.mul_pos a h2, ?_⟩
    rw [Int.pow_succ]
    exact Int.mul_le_mul b h3 (by omega) (by have : (0 : Int) < 390 ^ i := Int.pow_pos (by decide); omega)
end DN

set_option synthInstance.maxHeartbeats 0
set_option synthInstance.maxSize 100000
namespace Law
open PySem PySem.Spec PyProof.Rows L2 DK DL DN
theorem fDraw : F__law_draw = FDraw := rfl
instance (priority := 5000) feedUse : Feed := feed1
abbrev shB : MS := (sSeq (sDrop (mAppend (mVar 5) (mVar 4)))
    (sSeq (sIf (asB (mOp fEq (mVar 3) (mC (.int (0))))) (sSet 4 (mCall cMax (mCons (mC (.int (1))) (mCons (mOp fSub (mVar 4) (mFn 2 F__law_draw (mCons (mVar 0) (mCons (mC (.int (2))) mNil)))) mNil)))) sNil)
    (sIf (asB (mOp fEq (mVar 3) (mC (.int (1))))) (sSet 4 (mOp fAdd (mC (.int (1))) (mFn 2 F__law_draw (mCons (mVar 0) (mCons (mVar 4) mNil))))) sNil)))
structure InvS (m : Int) (ps : List Int) (part : Int) : Prop where
  lo : 1 ≤ part
  hi : part ≤ m
  fall : ps.Pairwise (· ≥ ·)
  each : ∀ p ∈ ps, part ≤ p ∧ p ≤ m
theorem InvS.step {m part part' : Int} {ps : List Int} (h : InvS m ps part) (h1 : 1 ≤ part') (h2 : part' ≤ part) : InvS m (ps ++ [part]) part' := by
  refine ⟨h1, by have := h.hi; omega, List.pairwise_append.mpr ⟨h.fall, by simp, fun a ha b hb => ?_⟩, fun p hp => ?_⟩
  · rw [List.mem_singleton.mp hb]
    exact (h.each a ha).1
  · rcases List.mem_append.mp hp with hp | hp
    · have := h.each p hp
      omega
    · rw [List.mem_singleton.mp hp]
      have := h.hi
      omega
theorem shape_go {T : ASto} {j : Nat} {m w : Int} {a b : Option PV} (hm : m ≤ 100000) : ∀ (xs : List PyData) (k : Nat) (ps : List Int) (part : Int) (S : Sto) (x6 : Option PV), Fd T j k S → k + xs.length ≤ 99999 → InvS m ps part → ps.length + xs.length ≤ 10000 →
    ∃ ps' part' S' y6, forGo (gN 6) shB xs [some (.c j), a, b, some (.d (.int w)), some (.d (.int part)), some (.c T.length), x6] (S ++ [Cell.l (ps.map .int)]) = some (.nx [some (.c j), a, b, some (.d (.int w)), some (.d (.int part')), some (.c T.length), y6] (S' ++ [Cell.l (ps'.map .int)])) ∧ Fd T j (k + xs.length) S' ∧ InvS m ps' part' ∧ ps'.length = ps.length + xs.length
  | [], k, ps, part, S, x6, h, _, i, _ => ⟨ps, part, S, x6, rfl, h, i, rfl⟩
  | x :: xs, k, ps, part, S, x6, h, hk, i, hl => by
    rw [List.length_cons] at hk hl
    have step : ∃ part' S', shB [some (.c j), a, b, some (.d (.int w)), some (.d (.int part)), some (.c T.length), some (.d x)] (S ++ [Cell.l (ps.map .int)]) = some (.nx [some (.c j), a, b, some (.d (.int w)), some (.d (.int part')), some (.c T.length), some (.d x)] (S' ++ [Cell.l ((ps ++ [part]).map .int)])) ∧ Fd T j (k + 1) S' ∧ 1 ≤ part' ∧ part' ≤ part := by
      have ap : sDrop (mAppend (mVar 5) (mVar 4)) [some (.c j), a, b, some (.d (.int w)), some (.d (.int part)), some (.c T.length), some (.d x)] (S ++ [Cell.l (ps.map .int)]) = some (.nx [some (.c j), a, b, some (.d (.int w)), some (.d (.int part)), some (.c T.length), some (.d x)] (S ++ [Cell.l ((ps ++ [part]).map .int)])) := by
        rw [List.map_append]
        exact sDrop_of (append_at (by rw [h.len]; rfl) rfl (by rw [List.length_map]; omega))
      have hi := i.hi
      have lo := i.lo
      have eqn : ∀ (z : Int) (part' : Int) (St : Sto), asB (mOp fEq (mVar 3) (mC (.int z))) [some (.c j), a, b, some (.d (.int w)), some (.d (.int part')), some (.c T.length), some (.d x)] St = some (w == z, St) := fun z part' St => asB_of (mOp_of rfl rfl (fEq_int _ _ _))
      by_cases h0 : w = 0
      · subst h0
        obtain ⟨r, S', e, r0, r1, f⟩ := h.draw [Cell.l ((ps ++ [part]).map .int)] (by omega) (many := 2) (by decide) (by decide)
        refine ⟨if part - r > 1 then part - r else 1, S', ?_, f, by split <;> omega, by split <;> omega⟩
        rw [show shB = sSeq _ _ from rfl, sSeq_nx ap]
        rw [sSeq_nx ((sIf_t (eqn 0 part _)).trans (sSet_of (mCall_of (mCons_of rfl (mCons_of (mOp_of rfl (mFn_of (n := 2) rfl rfl (by rw [fDraw]; exact e)) rfl) rfl)) rfl)))]
        exact if_nx (eqn 1 _ _)
      · by_cases h1 : w = 1
        · subst h1
          obtain ⟨r, S', e, r0, r1, f⟩ := h.draw [Cell.l ((ps ++ [part]).map .int)] (by omega) (many := part) (by omega) (by omega)
          refine ⟨1 + r, S', ?_, f, by omega, by omega⟩
          rw [show shB = sSeq _ _ from rfl, sSeq_nx ap]
          rw [sSeq_nx (if_nx (eqn 0 part _))]
          exact (sIf_t (eqn 1 part _)).trans (sSet_of (mOp_of rfl (mFn_of (n := 2) rfl rfl (by rw [fDraw]; exact e)) rfl))
        · refine ⟨part, S, ?_, h.mono (by omega), by omega, by omega⟩
          rw [show shB = sSeq _ _ from rfl, sSeq_nx ap]
          have z0 := eqn 0 part (S ++ [Cell.l ((ps ++ [part]).map .int)])
          have z1 := eqn 1 part (S ++ [Cell.l ((ps ++ [part]).map .int)])
          rw [DN.ne_eq h0] at z0
          rw [DN.ne_eq h1] at z1
          rw [sSeq_nx (if_nx z0)]
          exact if_nx z1
    obtain ⟨part', S1, e1, f1, p1, p2⟩ := step
    obtain ⟨ps', part2, S2, y6, e2, f2, i2, l2⟩ := shape_go (T := T) (j := j) (m := m) (w := w) (a := a) (b := b) hm xs (k + 1) (ps ++ [part]) part' S1 (some (.d x)) f1 (by omega) (i.step p1 p2) (by rw [List.length_append, List.length_singleton]; omega)
    refine ⟨ps', part2, S2, y6, ?_, f2.mono (by rw [List.length_cons]; omega), i2, by rw [l2, List.length_append, List.length_singleton, List.length_cons]; omega⟩
    rw [for_nx rfl e1]
    exact e2
theorem shape_fed {T : ASto} {j k : Nat} {S : Sto} {n m : Int} (h : Fd T j k S) (hk : k ≤ 9999) (hn : 0 ≤ n) (hn2 : n ≤ 1000) (hm : 1 ≤ m) (hm2 : m ≤ 100000) : ∃ d S', F__law_shape [.c j, .d (.int n), .d (.int m)] S = some (.d d, S') ∧ Shp n.toNat m.toNat d ∧ Fd T j (k + 3 + n.toNat) S' := by
  have dr : ∀ {k : Nat} {S : Sto} {many : Int} (E : Sto), Fd T j k S → k ≤ 9999999 → 0 < many → many ≤ 1000000 → ∃ r S', F__law_draw [.c j, .d (.int many)] (S ++ E) = some (.d (.int r), S' ++ E) ∧ 0 ≤ r ∧ r < many ∧ Fd T j (k + 1) S' := fun E h a b c => h.draw E a b c
  obtain ⟨w, S1, e1, w0, w1, f1⟩ := dr [] h (by omega) (many := 3) (by decide) (by decide)
  obtain ⟨p, S2, e2, p0, p1, f2⟩ := dr [] f1 (by omega) (many := m) (by omega) (by omega)
  rw [List.append_nil, List.append_nil] at e1 e2
  obtain ⟨q, S3, e3, q0, q1, f3⟩ := dr [Cell.l []] f2 (by omega) (many := n + 1) (by omega) (by omega)
  obtain ⟨ps, part, S4, y6, e4, f4, i4, l4⟩ := shape_go (T := T) (j := j) (m := m) (w := w) (a := some (.d (.int n))) (b := some (.d (.int m))) hm2 (rangeD 0 q.toNat) (k + 3) [] (1 + p) S3 none f3 (by rw [rangeD_len]; omega) ⟨by omega, by omega, .nil, fun _ h => nomatch h⟩ (by rw [rangeD_len]; simp; omega)
  rw [rangeD_len] at f4 l4
  refine ⟨itp ps, S4, runF_cut (ρ := [some (.c j), some (.d (.int n)), some (.d (.int m)), none, none, none, none]) (E := [Cell.l (ps.map .int)]) rfl ?_ (f4.len.trans h.len.symm), ⟨ps, rfl, by simp at l4; omega, fun x hx => ⟨by have := i4.lo; have := i4.each x hx; omega, by have := i4.each x hx; omega⟩, i4.fall⟩, f4.mono (by omega)⟩
  unfold g__law_shape
  rw [sSeq_nx (sSet_of (mFn_of (n := 2) rfl rfl e1))]
  show sSeq _ _ [some (.c j), some (.d (.int n)), some (.d (.int m)), some (.d (.int w)), none, none, none] S1 = _
  rw [sSeq_nx (sSet_of (mOp_of rfl (mFn_of (n := 2) rfl rfl e2) rfl))]
  show sSeq _ _ [some (.c j), some (.d (.int n)), some (.d (.int m)), some (.d (.int w)), some (.d (.int (1 + p))), none, none] S2 = _
  rw [sSeq_nx (sOwn_of (ds := []) (S1 := S2) rfl)]
  show sSeq _ _ [some (.c j), some (.d (.int n)), some (.d (.int m)), some (.d (.int w)), some (.d (.int (1 + p))), some (.c S2.length), none] (S2 ++ [Cell.l []]) = _
  rw [f2.len]
  have lp : sFor (mRng1 (mFn 2 F__law_draw (mCons (mVar 0) (mCons (mOp fAdd (mVar 1) (mC (.int (1)))) mNil)))) (gN 6) shB [some (.c j), some (.d (.int n)), some (.d (.int m)), some (.d (.int w)), some (.d (.int (1 + p))), some (.c T.length), none] (S2 ++ [Cell.l []]) = _ :=
    (sFor_of (mRng1_of (mFn_of (n := 2) (mCons_of rfl (mCons_of (mOp_of rfl rfl rfl) rfl)) rfl e3) q0 (by omega))).trans e4
  rw [sSeq_nx lp]
  refine sRet_of (mCall_of (mCons_of rfl rfl) ?_)
  show (itemsOf (S4 ++ [Cell.l (ps.map .int)]) (.c T.length)).map _ = _
  show (lAt (S4 ++ [Cell.l (ps.map PyData.int)]) T.length).map _ = _
  rw [← f4.len, last_l]
  rfl
def SF__law_shape : SF where
  F := F__law_shape
  a := fun vs T => match vs with
    | [.c j, .d (.ex (.int n)), .d (.ex (.int m))] => match T[j]? with
      | some (.feed k) => if k ≤ 9999 ∧ 0 ≤ n ∧ n ≤ 1000 ∧ 1 ≤ m ∧ m ≤ 100000 then some [(.d (.shp n.toNat m.toNat), T.set j (.feed (k + 3 + n.toNat)))] else none
      | _ => none
    | _ => none
  ok := fun {vs T l} e {xs S} hv hT => by
    split at e
    · rename_i j n m
      split at e
      · rename_i k e1
        split at e
        · rename_i hz
          cases e
          cases hv with
          | cons r1 t => cases t with
            | cons r2 t2 => cases t2 with
              | cons r3 t3 =>
                cases t3
                rename_i y1 y2 y3
                cases y1 with
                | d z => exact r1.elim
                | c j' =>
                  have ej : j = j' := r1
                  subst ej
                  cases y2 with
                  | c i => exact r2.elim
                  | d z2 =>
                    cases y3 with
                    | c i => exact r3.elim
                    | d z3 =>
                      have h2 : z2 = .int n := r2
                      have h3 : z3 = .int m := r3
                      subst h2 h3
                      obtain ⟨d, S', f, sh, fd⟩ := shape_fed (Fd.of e1 hT) hz.1 hz.2.1 hz.2.2.1 hz.2.2.2.1 hz.2.2.2.2
                      exact ⟨_, List.mem_singleton.mpr rfl, .d d, S', f, sh, fd.2⟩
        · cases e
      · cases e
    · cases e
theorem columns_spec {ps : List Int} (h : ∀ p ∈ ps, 1 ≤ p ∧ p ≤ 100000) (S : Sto) : F_columns [.d (itp ps)] S = some (.d (itp (cols ps)), S) := by
  refine runF_of (ρ := [some (.d (itp ps)), none, none]) rfl ?_ (Nat.le_refl _)
  cases ps with
  | nil => rfl
  | cons p r =>
    have hp := h p (by simp)
    unfold g_columns
    rw [sSeq_nx (if_nx (c := bNot (bTru (mVar 0))) (S' := S) rfl)]
    have rg : mRng1 (mOp fIx (mVar 0) (mC (.int (0)))) [some (.d (itp (p :: r))), none, none] S = some (rangeD 0 p.toNat, S) := mRng1_of (mOp_of rfl rfl (fIx_row (ps := p :: r) (i := 0) rfl S)) (by omega) (by omega)
    have su : ∀ k : Nat, mSumG (mSeq (mVar 0)) [2] (gN 2) (asB (mOp fGt (mVar 2) (mVar 1))) (mC (.int (1))) [some (.d (itp (p :: r))), some (.d (.int (k : Nat))), none] S = some (.d (.int ((over (k : Nat) (p :: r)).length : Int)), S) := fun k => by
      have g := gx_ones (S := S) (tgt := gN 2) (tt := asB (mOp fGt (mVar 2) (mVar 1))) (ρ := [some (.d (itp (p :: r))), some (.d (.int (k : Nat))), none]) (f := fun x => match x with | .int i => decide (i > (k : Nat)) | _ => false) ((p :: r).map PyData.int) fun x hx => by
        obtain ⟨i, _, rfl⟩ := List.mem_map.mp hx
        exact ⟨[some (.d (itp (p :: r))), some (.d (.int (k : Nat))), some (.d (.int i))], rfl, asB_of (mOp_of rfl rfl (fGt_int _ _ _))⟩
      unfold mSumG
      rw [mSeq_tup rfl]
      show (gxGo stopSum (gN 2) (asB (mOp fGt (mVar 2) (mVar 1))) (mC (.int (1))) [some (.d (itp (p :: r))), some (.d (.int (k : Nat))), none] ((p :: r).map PyData.int) S).bind _ = _
      rw [g]
      show some (PV.d (.int (isum (List.replicate _ (.int 1)))), S) = _
      rw [isum_ones, List.filter_map, List.length_map]
      rfl
    refine sRet_of ?_
    unfold mTupG
    rw [rg]
    show (gxGo stopNo (gN 1) bYes _ [some (.d (itp (p :: r))), none, none] (rangeD 0 p.toNat) S).bind _ = _
    rw [gx_map (f := fun x => match x with | .int k => .int ((over k (p :: r)).length : Int) | x => x) _ fun x hx => by
      obtain ⟨i, hi, rfl⟩ := List.mem_map.mp hx
      refine ⟨[some (.d (itp (p :: r))), some (.d (.int (i : Nat))), none], by show some [some (PV.d (itp (p :: r))), some (PV.d (.int (0 + (i : Nat)))), none] = _; rw [Int.zero_add], ?_⟩
      rw [su i]
      show some (PV.d (.int ((over (i : Nat) (p :: r)).length : Int)), S) = some (PV.d (.int ((over (0 + (i : Nat)) (p :: r)).length : Int)), S)
      rw [Int.zero_add]]
    show (if ((rangeD 0 p.toNat).map _).length ≤ 1000000 then some (PV.d (.tuple ((rangeD 0 p.toNat).map _)), S) else none) = _
    rw [if_pos (by rw [List.length_map, rangeD_len]; omega)]
    unfold rangeD
    show _ = some (PV.d (.tuple (((List.range p.toNat).map fun k => ((over (k : Nat) (p :: r)).length : Int)).map PyData.int)), S)
    rw [List.map_map, List.map_map]
    congr 5
    funext i
    show PyData.int ((over (0 + (i : Nat)) (p :: r)).length : Int) = _
    rw [Int.zero_add]
    rfl
theorem size_spec (ps : List Int) (S : Sto) : F_size_of [.d (itp ps)] S = some (.d (.int ps.sum), S) := by
  refine runF_of (ρ := [some (.d (itp ps))]) rfl ?_ (Nat.le_refl _)
  unfold g_size_of
  refine sRet_of (mCall_of (mCons_of rfl rfl) ?_)
  show (intsOf (ps.map PyData.int)).map _ = _
  rw [intsOf_map]
  rfl
/-! how often -/
def ofF (ps : List Int) : PyData → PyData
  | .int k => paD (k, ps.count k)
  | x => x
theorem often_spec {ps : List Int} (hl : ps.length < 64) (S : Sto) : F_often [.d (itp ps)] S = some (.d (.tuple ((oft ps).map paD)), S) := by
  refine runF_of (ρ := [some (.d (itp ps)), none]) rfl ?_ (Nat.le_refl _)
  unfold g_often
  have st : mSrt (mVar 0) [some (.d (itp ps)), none] S = some ((rising ps).map .int, S) := by
    show (intsOf (ps.map PyData.int)).bind (fun ns => if ns.length < 64 then some ((rising ns).map PyData.int, S) else none) = _
    rw [intsOf_map]
    show (if ps.length < 64 then _ else none) = _
    rw [if_pos hl]
  refine sRet_of ?_
  unfold mTupG
  rw [mSeq_list (mFz_of st)]
  show (gxGo stopNo (gN 1) bYes _ [some (.d (itp ps)), none] ((rising ps).map PyData.int) S).bind _ = _
  rw [gx_map (f := ofF ps) _ fun x hx => by
    obtain ⟨k, _, rfl⟩ := List.mem_map.mp hx
    refine ⟨[some (.d (itp ps)), some (.d (.int k))], rfl, ?_⟩
    have c : mCount (mVar 0) (mVar 1) [some (.d (itp ps)), some (.d (.int k))] S = some (.d (.int (ps.count k : Nat)), S) := by
      show (intsOf (ps.map PyData.int)).bind (fun ns => some (PV.d (.int (ns.count k : Nat)), S)) = _
      rw [intsOf_map]
      rfl
    exact mTup_of (ds := [.int k, .int (ps.count k : Nat)]) (mCons_of rfl (mCons_of c rfl)) rfl (by show 2 ≤ 1000; decide)]
  show (if (((rising ps).map PyData.int).map (ofF ps)).length ≤ 1000000 then some (PV.d (.tuple (((rising ps).map PyData.int).map (ofF ps))), S) else none) = _
  have e : ((rising ps).map PyData.int).map (ofF ps) = (oft ps).map paD := by
    unfold oft
    rw [List.map_map, List.map_map]
    rfl
  have lr := rising_len ps
  rw [e, if_pos (by unfold oft; rw [List.length_map, List.length_map]; omega)]
/-! the law's columns, box by box -/
abbrev putB : MS := sPut (mVar 1) (mVar 3) (mOp fAdd (mOp fIx (mVar 1) (mVar 3)) (mC (.int (1))))
abbrev boxB : MS := sSeq (sIf (asB (mOp fEq (mVar 3) (mCall cLen (mCons (mVar 1) mNil)))) (sDrop (mAppend (mVar 1) (mC (.int (0))))) sNil)
    (sPut (mVar 1) (mVar 3) (mOp fAdd (mOp fIx (mVar 1) (mVar 3)) (mC (.int (1)))))
theorem put_ok {a b : Option PV} {rs : List Int} {S : Sto} {i : Nat} {v : Int} (e : rs[i]? = some v) : putB [a, some (.c S.length), b, some (.d (.int (i : Nat)))] (S ++ [Cell.l (rs.map .int)]) = some (.nx [a, some (.c S.length), b, some (.d (.int (i : Nat)))] (S ++ [Cell.l ((rs.set i (v + 1)).map .int)])) := by
  have hi : i < rs.length := (List.getElem?_eq_some_iff.mp e).1
  have g := last_get S (Cell.l (rs.map PyData.int))
  have ix : fIx (.c S.length) (.d (.int (i : Nat))) (S ++ [Cell.l (rs.map .int)]) = some (.d (.int v)) := fIx_cell g (by
    rw [atI_get _ (by omega) (by rw [List.length_map]; omega), Int.toNat_natCast, List.getElem?_map, e]
    rfl)
  have p := sPut_cell (mo := mVar 1) (mi := mVar 3) (mv := mOp fAdd (mOp fIx (mVar 1) (mVar 3)) (mC (.int (1)))) (ρ := [a, some (.c S.length), b, some (.d (.int (i : Nat)))]) (n := i) (z := (i : Int)) (y := .int (v + 1)) (mOp_of (mOp_of rfl rfl ix) rfl rfl) rfl rfl g (by
    unfold ixN
    rw [if_pos (by omega), if_pos (by rw [List.length_map]; omega), Int.toNat_natCast])
  refine p.trans ?_
  rw [last_set, List.map_set]
theorem len_cell {a b d : Option PV} {ds : List PyData} {S : Sto} : mCall cLen (mCons (mVar 1) mNil) [a, some (.c S.length), b, d] (S ++ [Cell.l ds]) = some (.d (.int (ds.length : Int)), S ++ [Cell.l ds]) := by
  refine mCall_of (vs := [.c S.length]) rfl ?_
  have ea : asD (S ++ [Cell.l ds]) (.c S.length) = some (.list ds) := by
    show (lAt (S ++ [Cell.l ds]) S.length).map PyData.list = _
    rw [last_l]
    rfl
  unfold cLen
  dsimp only
  rw [ea]
theorem box_go {a b : Option PV} {c : List Int} {S : Sto} (hc : c.length ≤ 1000) : ∀ (n i : Nat) (x : Option PV), i + n ≤ 1000 → ∃ y, forGo (gN 3) boxB (rangeD (i : Nat) n) [a, some (.c S.length), b, x] (S ++ [Cell.l ((stp c i).map .int)]) = some (.nx [a, some (.c S.length), b, y] (S ++ [Cell.l ((stp c (i + n)).map .int)]))
  | 0, i, x, _ => ⟨x, rfl⟩
  | n + 1, i, x, h => by
    obtain ⟨y, ih⟩ := box_go (a := a) (b := b) (S := S) hc n (i + 1) (some (.d (.int (i : Nat)))) (by omega)
    refine ⟨y, ?_⟩
    have st : boxB [a, some (.c S.length), b, some (.d (.int (i : Nat)))] (S ++ [Cell.l ((stp c i).map .int)]) = some (.nx [a, some (.c S.length), b, some (.d (.int (i : Nat)))] (S ++ [Cell.l ((stp c (i + 1)).map .int)])) := by
      rw [show boxB = sSeq _ _ from rfl]
      have q : asB (mOp fEq (mVar 3) (mCall cLen (mCons (mVar 1) mNil))) [a, some (.c S.length), b, some (.d (.int (i : Nat)))] (S ++ [Cell.l ((stp c i).map .int)]) = some ((i : Int) == (((stp c i).map PyData.int).length : Int), S ++ [Cell.l ((stp c i).map .int)]) := asB_of (mOp_of rfl len_cell (fEq_int _ _ _))
      rw [List.length_map] at q
      by_cases hi : c.length ≤ i
      · obtain ⟨l, e⟩ := stp_new hi
        rw [l, beq_self_eq_true] at q
        have ap : sDrop (mAppend (mVar 1) (mC (.int (0)))) [a, some (.c S.length), b, some (.d (.int (i : Nat)))] (S ++ [Cell.l ((stp c i).map .int)]) = some (.nx [a, some (.c S.length), b, some (.d (.int (i : Nat)))] (S ++ [Cell.l ((stp c i ++ [0]).map .int)])) := by
          rw [List.map_append]
          exact sDrop_of (append_at rfl rfl (by rw [List.length_map, l]; omega))
        rw [sSeq_nx ((sIf_t q).trans ap)]
        have p := put_ok (a := a) (b := b) (S := S) (rs := stp c i ++ [0]) (i := i) (v := 0) (by rw [List.getElem?_append_right (by omega), l]; simp)
        rw [show (0 : Int) + 1 = 1 from rfl, e] at p
        exact p
      · obtain ⟨l, v, e1, e2⟩ := stp_old (c := c) (k := i) (by omega)
        rw [l, show ((i : Int) == (c.length : Int)) = false from by rw [beq_eq_false_iff_ne]; omega] at q
        rw [sSeq_nx (if_nx q)]
        have p := put_ok (a := a) (b := b) (S := S) e1
        rw [e2] at p
        exact p
    rw [rangeD_cons, for_nx (ρ1 := [a, some (.c S.length), b, some (.d (.int (i : Nat)))]) rfl st]
    rw [show i + (n + 1) = i + 1 + n by omega]
    exact ih
theorem col_go {a : Option PV} {S : Sto} : ∀ (xs us : List Int) (x2 x3 : Option PV), (us ++ xs).Pairwise (· ≥ ·) → (∀ x ∈ us ++ xs, 0 ≤ x ∧ x ≤ 1000) → ∃ y2 y3, forGo (gN 2) (sFor (mRng1 (mVar 2)) (gN 3) boxB) (xs.map .int) [a, some (.c S.length), x2, x3] (S ++ [Cell.l ((cols us).map .int)]) = some (.nx [a, some (.c S.length), y2, y3] (S ++ [Cell.l ((cols (us ++ xs)).map .int)]))
  | [], us, x2, x3, _, _ => ⟨x2, x3, by rw [List.append_nil]; rfl⟩
  | u :: xs, us, x2, x3, hf, h0 => by
    have hu := h0 u (by simp)
    have hle : ∀ x ∈ us, u ≤ x := fun x hx => (List.pairwise_append.mp hf).2.2 x hx u List.mem_cons_self
    have lc : (cols us).length ≤ 1000 := cols_lens fun x hx => by have := h0 x (by simp [hx]); omega
    have ea : us ++ u :: xs = us ++ [u] ++ xs := by simp
    rw [ea] at hf h0 ⊢
    obtain ⟨y3, e1⟩ := box_go (a := a) (b := some (.d (.int u))) (S := S) lc u.toNat 0 x3 (by omega)
    rw [stp_zero, Nat.zero_add, stp_cols hu.1 hle] at e1
    obtain ⟨z2, z3, e2⟩ := col_go (a := a) (S := S) xs (us ++ [u]) (some (.d (.int u))) y3 hf h0
    refine ⟨z2, z3, ?_⟩
    have rg : mRng1 (mVar 2) [a, some (.c S.length), some (.d (.int u)), x3] (S ++ [Cell.l ((cols us).map .int)]) = some (rangeD 0 u.toNat, S ++ [Cell.l ((cols us).map .int)]) := mRng1_of rfl hu.1 (by omega)
    rw [List.map_cons, for_nx (ρ1 := [a, some (.c S.length), some (.d (.int u)), x3]) rfl ((sFor_of rg).trans e1)]
    exact e2
theorem runF_tup {N : Nat} {g : MS} {ps : List PV} {ρ : RE} {S E : Sto} {x : PyData} (he : ps.map some ++ List.replicate (N - ps.length) none = ρ) (h : g ρ S = some (.rt (.d x) (S ++ E))) : runF N g ps S = some (.d x, S) := runF_cut he h rfl
theorem lcol_spec {ps : List Int} (hf : ps.Pairwise (· ≥ ·)) (h0 : ∀ x ∈ ps, 0 ≤ x ∧ x ≤ 1000) (S : Sto) : F__law_columns [.d (itp ps)] S = some (.d (itp (cols ps)), S) := by
  obtain ⟨y2, y3, e⟩ := col_go (a := some (.d (itp ps))) (S := S) ps [] none none hf h0
  refine runF_tup (ρ := [some (.d (itp ps)), none, none, none]) (E := [Cell.l ((cols ps).map .int)]) rfl ?_
  unfold g__law_columns
  rw [sSeq_nx (sOwn_of (ds := []) (S1 := S) rfl)]
  show sSeq _ _ [some (.d (itp ps)), some (.c S.length), none, none] (S ++ [Cell.l []]) = _
  have sq : mSeq (mVar 0) [some (.d (itp ps)), some (.c S.length), none, none] (S ++ [Cell.l []]) = some (ps.map .int, S ++ [Cell.l []]) := mSeq_tup rfl
  rw [sSeq_nx ((sFor_of sq).trans e)]
  refine sRet_of (mCall_of (vs := [.c S.length]) rfl ?_)
  show (lAt (S ++ [Cell.l ((cols ([] ++ ps)).map PyData.int)]) S.length).map _ = _
  rw [last_l]
  rfl
/-! the law's look at how often -/
abbrev oftB : MS := sIf (bAnd (asB (mOp fNe (mVar 1) (mFz (mLst mNil)))) (asB (mOp fEq (mOp fIx (mOp fIx (mVar 1) (mUn fNeg (mC (.int (1))))) (mC (.int (0)))) (mVar 2)))) (sPut (mVar 1) (mUn fNeg (mC (.int (1)))) (mTup (mCons (mVar 2) (mCons (mOp fAdd (mOp fIx (mOp fIx (mVar 1) (mUn fNeg (mC (.int (1))))) (mC (.int (1)))) (mC (.int (1)))) mNil)))) (sDrop (mAppend (mVar 1) (mTup (mCons (mVar 2) (mCons (mC (.int (1))) mNil)))))
theorem atI_last {L : List PyData} {d : PyData} : atI (L ++ [d]) (-1) = some d ∧ ixN (L ++ [d]).length (-1) = some L.length := by
  have e : ixN (L ++ [d]).length (-1) = some L.length := by
    unfold ixN
    rw [if_neg (by decide), List.length_append, List.length_singleton, if_pos (by omega)]
    congr 1
    omega
  refine ⟨?_, e⟩
  unfold atI
  rw [e]
  show (L ++ [d])[L.length]? = _
  simp
theorem shaped_prs (l : List (Int × Nat)) : SeqAt.shaped (.list (l.map paD)) = true := shaped_list (fun x hx => by
    obtain ⟨d, hd, rfl⟩ := List.mem_map.mp hx
    rfl) (fun x hx => by
    obtain ⟨d, hd, rfl⟩ := List.mem_map.mp hx
    show PyData.depth (.tuple [.int d.1, .int (d.2 : Nat)]) ≤ 63
    exact Nat.le_trans (show PyData.depth (.tuple [.int d.1, .int (d.2 : Nat)]) ≤ 1 from Nat.le_refl _) (by decide))
theorem ne_nil_cell {ds : List (Int × Nat)} {a b : Option PV} {S : Sto} : asB (mOp fNe (mVar 1) (mFz (mLst mNil))) [a, some (.c S.length), b] (S ++ [Cell.l (ds.map paD)]) = some (!ds.isEmpty, S ++ [Cell.l (ds.map paD)]) := by
  refine asB_of (mOp_of (x := .c S.length) (y := .d (.list [])) rfl rfl ?_)
  have z := fNe_nil (shaped_prs ds) (S ++ [Cell.l (ds.map paD)])
  have ea : asD (S ++ [Cell.l (ds.map paD)]) (.c S.length) = some (.list (ds.map paD)) := by
    show (lAt (S ++ [Cell.l (ds.map paD)]) S.length).map PyData.list = _
    rw [last_l]
    rfl
  unfold fNe at z ⊢
  rw [ea]
  refine z.trans ?_
  cases ds <;> rfl
theorem bAnd_t {a b : MB} {ρ : RE} {S S1 : Sto} (h : a ρ S = some (true, S1)) : bAnd a b ρ S = b ρ S1 := by
  unfold bAnd
  rw [h]
  rfl
theorem bAnd_f {a b : MB} {ρ : RE} {S S1 : Sto} (h : a ρ S = some (false, S1)) : bAnd a b ρ S = some (false, S1) := by
  unfold bAnd
  rw [h]
  rfl
theorem oft_step {us : List Int} {u : Int} {a : Option PV} {S : Sto} (hu : ∀ x ∈ us, x ≤ u) (hl : us.length ≤ 1000) : oftB [a, some (.c S.length), some (.d (.int u))] (S ++ [Cell.l ((oft us).map paD)]) = some (.nx [a, some (.c S.length), some (.d (.int u))] (S ++ [Cell.l ((oft (us ++ [u])).map paD)])) := by
  have nn := ne_nil_cell (ds := oft us) (a := a) (b := some (.d (.int u))) (S := S)
  have lenO : (oft us).length ≤ 1000 := Nat.le_trans (oft_len us) hl
  -- the last pair
  have cond : ∀ {L : List (Int × Nat)} {e : Int × Nat}, oft us = L ++ [e] → bAnd (asB (mOp fNe (mVar 1) (mFz (mLst mNil)))) (asB (mOp fEq (mOp fIx (mOp fIx (mVar 1) (mUn fNeg (mC (.int (1))))) (mC (.int (0)))) (mVar 2))) [a, some (.c S.length), some (.d (.int u))] (S ++ [Cell.l ((oft us).map paD)]) = some (e.1 == u, S ++ [Cell.l ((oft us).map paD)]) := fun {L e} he => by
    have n2 : (!(oft us).isEmpty) = true := by rw [he]; simp
    rw [n2] at nn
    rw [bAnd_t nn]
    have g := last_get S (Cell.l ((oft us).map paD))
    have ix : fIx (.c S.length) (.d (.int (-1))) (S ++ [Cell.l ((oft us).map paD)]) = some (.d (paD e)) := fIx_cell g (by
      rw [he, List.map_append]
      exact (atI_last).1)
    exact asB_of (mOp_of (mOp_of (mOp_of rfl rfl ix) rfl rfl) rfl (fEq_int _ _ _))
  have app : oft (us ++ [u]) = oft us ++ [(u, 1)] → sDrop (mAppend (mVar 1) (mTup (mCons (mVar 2) (mCons (mC (.int (1))) mNil)))) [a, some (.c S.length), some (.d (.int u))] (S ++ [Cell.l ((oft us).map paD)]) = some (.nx [a, some (.c S.length), some (.d (.int u))] (S ++ [Cell.l ((oft (us ++ [u])).map paD)])) := fun e => by
    rw [e, List.map_append]
    exact sDrop_of (append_at (y := paD (u, 1)) rfl (mTup_of (ds := [.int u, .int 1]) rfl rfl (by show 2 ≤ 1000; decide)) (by rw [List.length_map]; omega))
  by_cases h : u ∈ us
  · have e1 := oft_in h hu
    have e2 := oft_snoc hu
    have c := cond e1
    rw [show (((u, us.count u) : Int × Nat).1 == u) = true from beq_self_eq_true u] at c
    refine (sIf_t c).trans ?_
    have g := last_get S (Cell.l ((oft us).map paD))
    have ix : fIx (.c S.length) (.d (.int (-1))) (S ++ [Cell.l ((oft us).map paD)]) = some (.d (paD (u, us.count u))) := fIx_cell g (by
      rw [e1, List.map_append]
      exact (atI_last).1)
    have tv : mTup (mCons (mVar 2) (mCons (mOp fAdd (mOp fIx (mOp fIx (mVar 1) (mUn fNeg (mC (.int (1))))) (mC (.int (1)))) (mC (.int (1)))) mNil)) [a, some (.c S.length), some (.d (.int u))] (S ++ [Cell.l ((oft us).map paD)]) = some (.d (paD (u, us.count u + 1)), S ++ [Cell.l ((oft us).map paD)]) :=
      mTup_of (ds := [.int u, .int ((us.count u + 1 : Nat) : Int)]) (mCons_of rfl (mCons_of (mOp_of (mOp_of (mOp_of rfl rfl ix) rfl rfl) rfl rfl) rfl)) rfl (by show 2 ≤ 1000; decide)
    have p := sPut_cell (mo := mVar 1) (mi := mUn fNeg (mC (.int (1)))) (z := -1) (n := ((lo us u).map (fun k => (k, us.count k))).length) tv rfl rfl g (by
      rw [e1, List.map_append]
      have z := (atI_last (L := ((lo us u).map (fun k => (k, us.count k))).map paD) (d := paD (u, us.count u))).2
      rw [List.length_map] at z
      exact z)
    have ll : ∀ (L : List PyData) (d d' : PyData) (n : Nat), n = L.length → (L ++ [d]).set n d' = L ++ [d'] := fun L d d' n hn => by
      subst hn
      simp
    have es : ((oft us).map paD).set ((DN.lo us u).map (fun k => (k, us.count k))).length (paD (u, us.count u + 1)) = (oft (us ++ [u])).map paD := by
      rw [e1, e2, List.map_append, List.map_append]
      exact ll _ _ _ _ (by simp)
    refine p.trans ?_
    rw [last_set, es]
  · have e1 := oft_out h hu
    have e2 := oft_snoc hu
    rw [List.count_eq_zero.mpr h] at e2
    have e3 : oft (us ++ [u]) = oft us ++ [(u, 1)] := by rw [e2, e1]
    rcases List.eq_nil_or_concat (oft us) with hn | ⟨L, e, he⟩
    · have n2 : (!(oft us).isEmpty) = false := by rw [hn]; rfl
      rw [n2] at nn
      exact (sIf_f (bAnd_f nn)).trans (app e3)
    · rw [List.concat_eq_append] at he
      have c := cond he
      have hne : (e.1 == u) = false := by
        rw [beq_eq_false_iff_ne]
        have : e ∈ oft us := by rw [he]; simp
        rw [e1] at this
        obtain ⟨k, hk, rfl⟩ := List.mem_map.mp this
        have := (lo_mem.mp hk).2
        show k ≠ u
        omega
      rw [hne] at c
      exact (sIf_f c).trans (app e3)
theorem loft_go {a : Option PV} {S : Sto} : ∀ (xs us : List Int) (x2 : Option PV), (us ++ xs).Pairwise (· ≤ ·) → (us ++ xs).length ≤ 1000 → ∃ y2, forGo (gN 2) oftB (xs.map .int) [a, some (.c S.length), x2] (S ++ [Cell.l ((oft us).map paD)]) = some (.nx [a, some (.c S.length), y2] (S ++ [Cell.l ((oft (us ++ xs)).map paD)]))
  | [], us, x2, _, _ => ⟨x2, by rw [List.append_nil]; rfl⟩
  | u :: xs, us, x2, hf, hl => by
    have hle : ∀ x ∈ us, x ≤ u := fun x hx => (List.pairwise_append.mp hf).2.2 x hx u List.mem_cons_self
    have ea : us ++ u :: xs = us ++ [u] ++ xs := by simp
    rw [ea] at hf hl ⊢
    obtain ⟨y2, e⟩ := loft_go (a := a) (S := S) xs (us ++ [u]) (some (.d (.int u))) hf hl
    refine ⟨y2, ?_⟩
    rw [List.map_cons, for_nx (ρ1 := [a, some (.c S.length), some (.d (.int u))]) rfl (oft_step hle (by rw [List.length_append, List.length_append] at hl; omega))]
    exact e
theorem loft_spec {ps : List Int} (hf : ps.Pairwise (· ≥ ·)) (hl : ps.length ≤ 1000) (S : Sto) : F__law_often [.d (itp ps)] S = some (.d (.tuple ((oft ps).map paD)), S) := by
  have hr : ([] ++ ps.reverse).Pairwise (· ≤ ·) := by
    rw [List.nil_append, List.pairwise_reverse]
    exact hf.imp fun {a b} h => h
  obtain ⟨y2, e⟩ := loft_go (a := some (.d (itp ps))) (S := S) ps.reverse [] none hr (by simpa using hl)
  rw [List.nil_append, oft_rev] at e
  refine runF_tup (ρ := [some (.d (itp ps)), none, none]) (E := [Cell.l ((oft ps).map paD)]) rfl ?_
  unfold g__law_often
  rw [sSeq_nx (sOwn_of (ds := []) (S1 := S) rfl)]
  show sSeq _ _ [some (.d (itp ps)), some (.c S.length), none] (S ++ [Cell.l []]) = _
  have sq : mRevI (mVar 0) [some (.d (itp ps)), some (.c S.length), none] (S ++ [Cell.l []]) = some (ps.reverse.map .int, S ++ [Cell.l []]) := by
    show some ((ps.map PyData.int).reverse, S ++ [Cell.l []]) = _
    rw [List.map_reverse]
  rw [sSeq_nx ((sFor_of sq).trans e)]
  refine sRet_of (mCall_of (vs := [.c S.length]) rfl ?_)
  show (lAt (S ++ [Cell.l ((oft ps).map paD)]) S.length).map _ = _
  rw [last_l]
  rfl
/-! the weight -/
abbrev wB : MS := sAug 1 fMul (mOp fMul (mVar 2) (mVar 4))
theorem w_in {a : Option PV} {k acc : Int} {m : PyData} {S : Sto} (hk : k.natAbs ≤ 1000) : ∀ (n i : Nat) (x : Option PV), i + n ≤ 1000 → ∃ y, forGo (gN 4) wB (rangeD ((1 + i : Nat) : Int) n) [a, some (.d (.int (acc * inW k i))), some (.d (.int k)), some (.d m), x] S = some (.nx [a, some (.d (.int (acc * inW k (i + n)))), some (.d (.int k)), some (.d m), y] S)
  | 0, i, x, _ => ⟨x, rfl⟩
  | n + 1, i, x, h => by
    obtain ⟨y, ih⟩ := w_in (a := a) (acc := acc) (m := m) (S := S) hk n (i + 1) (some (.d (.int ((1 + i : Nat) : Int)))) (by omega)
    refine ⟨y, ?_⟩
    have m1 : fMul (.d (.int k)) (.d (.int ((1 + i : Nat) : Int))) S = some (.d (.int (k * ((1 + i : Nat) : Int)))) := fMul_r (by
      show ((1 + i : Nat) : Int).natAbs < _
      exact Nat.lt_of_le_of_lt (show 1 + i ≤ 2000 by omega) (by decide)) S
    have bd : (k * ((1 + i : Nat) : Int)).natAbs < 2 ^ 64 := by
      rw [Int.natAbs_mul]
      exact Nat.lt_of_le_of_lt (Nat.mul_le_mul hk (show ((1 + i : Nat) : Int).natAbs ≤ 2000 by show 1 + i ≤ 2000; omega)) (by decide)
    have m2 : fMul (.d (.int (acc * inW k i))) (.d (.int (k * ((1 + i : Nat) : Int)))) S = some (.d (.int (acc * inW k i * (k * ((1 + i : Nat) : Int))))) := fMul_r bd S
    have st : wB [a, some (.d (.int (acc * inW k i))), some (.d (.int k)), some (.d m), some (.d (.int ((1 + i : Nat) : Int)))] S = some (.nx [a, some (.d (.int (acc * inW k (i + 1)))), some (.d (.int k)), some (.d m), some (.d (.int ((1 + i : Nat) : Int)))] S) := by
      have q : mOp fMul (mVar 2) (mVar 4) [a, some (.d (.int (acc * inW k i))), some (.d (.int k)), some (.d m), some (.d (.int ((1 + i : Nat) : Int)))] S = some (.d (.int (k * ((1 + i : Nat) : Int))), S) := mOp_of rfl rfl m1
      show (mOp fMul (mVar 2) (mVar 4) [a, some (.d (.int (acc * inW k i))), some (.d (.int k)), some (.d m), some (.d (.int ((1 + i : Nat) : Int)))] S).bind _ = _
      rw [q]
      show (fMul (.d (.int (acc * inW k i))) (.d (.int (k * ((1 + i : Nat) : Int)))) S).bind _ = _
      rw [m2]
      have e : acc * inW k i * (k * ((1 + i : Nat) : Int)) = acc * inW k (i + 1) := by
        show _ = acc * (inW k i * (k * ((i + 1 : Nat) : Int)))
        rw [Int.mul_assoc, Nat.add_comm 1 i]
      rw [e]
      rfl
    rw [rangeD_cons, for_nx (ρ1 := [a, some (.d (.int (acc * inW k i))), some (.d (.int k)), some (.d m), some (.d (.int ((1 + i : Nat) : Int)))]) rfl st]
    rw [show i + (n + 1) = i + 1 + n by omega, show (((1 + i : Nat) : Int) + 1) = ((1 + (i + 1) : Nat) : Int) by omega]
    exact ih
theorem w_out {a : Option PV} {S : Sto} : ∀ (es : List (Int × Nat)) (acc : Int) (x2 x3 x4 : Option PV), (∀ e ∈ es, e.1.natAbs ≤ 1000 ∧ e.2 ≤ 1000) → ∃ y2 y3 y4, forGo (gT 2 (gCs (gN 2) (gCs (gN 3) gNs))) (sFor (mRng2 (mC (.int (1))) (mOp fAdd (mVar 3) (mC (.int (1))))) (gN 4) wB) (es.map paD) [a, some (.d (.int acc)), x2, x3, x4] S = some (.nx [a, some (.d (.int (acc * pl es))), y2, y3, y4] S)
  | [], acc, x2, x3, x4, _ => ⟨x2, x3, x4, by show some (Out.nx [a, some (.d (.int acc)), x2, x3, x4] S) = some (Out.nx [a, some (.d (.int (acc * 1))), x2, x3, x4] S); rw [Int.mul_one]⟩
  | e :: es, acc, x2, x3, x4, h => by
    obtain ⟨h1, h2⟩ := h e List.mem_cons_self
    obtain ⟨y, e1⟩ := w_in (a := a) (k := e.1) (acc := acc) (m := .int (e.2 : Nat)) (S := S) h1 e.2 0 x4 (by omega)
    obtain ⟨z2, z3, z4, e2⟩ := w_out (a := a) (S := S) es (acc * inW e.1 e.2) (some (.d (.int e.1))) (some (.d (.int (e.2 : Nat)))) y fun f hf => h f (List.mem_cons_of_mem _ hf)
    refine ⟨z2, z3, z4, ?_⟩
    rw [Nat.zero_add, show inW e.1 0 = 1 from rfl, Int.mul_one] at e1
    have rg : mRng2 (mC (.int (1))) (mOp fAdd (mVar 3) (mC (.int (1)))) [a, some (.d (.int acc)), some (.d (.int e.1)), some (.d (.int (e.2 : Nat))), x4] S = some (rangeD ((1 + 0 : Nat) : Int) e.2, S) := by
      have q : mOp fAdd (mVar 3) (mC (.int (1))) [a, some (.d (.int acc)), some (.d (.int e.1)), some (.d (.int (e.2 : Nat))), x4] S = some (.d (.int ((e.2 : Int) + 1)), S) := mOp_of rfl rfl rfl
      have c1 : mC (.int 1) [a, some (.d (.int acc)), some (.d (.int e.1)), some (.d (.int (e.2 : Nat))), x4] S = some (.d (.int 1), S) := rfl
      rw [mRng2_of c1 q ⟨by omega, by omega, by omega, by omega⟩]
      rw [show (((e.2 : Int) + 1) - 1).toNat = e.2 by omega]
      rfl
    rw [List.map_cons, for_nx (ρ1 := [a, some (.d (.int acc)), some (.d (.int e.1)), some (.d (.int (e.2 : Nat))), x4]) rfl ((sFor_of rg).trans e1)]
    have ea : acc * pl (e :: es) = acc * inW e.1 e.2 * pl es := by
      show acc * (inW e.1 e.2 * pl es) = _
      rw [Int.mul_assoc]
    rw [ea]
    exact e2
theorem weight_spec {ps : List Int} (h1 : ∀ p ∈ ps, 1 ≤ p ∧ p ≤ 30) (hl : ps.length ≤ 12) (S : Sto) : F_weight [.d (itp ps)] S = some (.d (.int (pl (oft ps))), S) := by
  refine runF_of (ρ := [some (.d (itp ps)), none, none, none, none]) rfl ?_ (Nat.le_refl _)
  unfold g_weight
  obtain ⟨y2, y3, y4, e⟩ := w_out (a := some (.d (itp ps))) (S := S) (oft ps) 1 none none none fun e he => by
    obtain ⟨k, hk, rfl⟩ := List.mem_map.mp he
    have := h1 k (rising_mem.mp hk)
    have := List.count_le_length (a := k) (l := ps)
    exact ⟨by show k.natAbs ≤ 1000; omega, by show ps.count k ≤ 1000; omega⟩
  rw [Int.one_mul] at e
  rw [sSeq_nx (sSet_of (v := .d (.int 1)) (S' := S) rfl)]
  have sq : mSeq (mFn 1 F_often (mCons (mVar 0) mNil)) [some (.d (itp ps)), some (.d (.int 1)), none, none, none] S = some ((oft ps).map paD, S) := mSeq_tup (mFn_of (n := 1) rfl rfl (often_spec (by omega) S))
  rw [show ([some (PV.d (itp ps)), none, none, none, none] : RE).set 1 (some (.d (.int 1))) = [some (.d (itp ps)), some (.d (.int 1)), none, none, none] from rfl]
  rw [sSeq_nx ((sFor_of sq).trans e)]
  exact sRet_of rfl
def sameI (u : Int) : PyData → Bool
  | .int k => k == u
  | _ => false
theorem same_len (u : Int) (us : List Int) : ((us.map PyData.int).filter (sameI u)).length = us.count u := by
  rw [List.filter_map, List.length_map, List.count_eq_countP, List.countP_eq_length_filter]
  rfl
abbrev ltB : MS := sSet 1 (mOp fMul (mOp fMul (mVar 1) (mVar 3)) (mCall cLen (mCons (mFz (mLc (mSeq (mSl (mVar 0) oNone (oSome (mOp fAdd (mVar 2) (mC (.int (1))))))) [4] (gN 4) (asB (mOp fEq (mVar 4) (mVar 3))) (mVar 4))) mNil)))
theorem lt_go {S : Sto} {ps : List Int} (h1 : ∀ p ∈ ps, 1 ≤ p ∧ p ≤ 30) (hf : ps.Pairwise (· ≥ ·)) (hl : ps.length ≤ 12) : ∀ (xs us : List Int) (x2 x3 x4 : Option PV), us ++ xs = ps → ∃ y2 y3 y4, forGo (gT 2 (gCs (gN 2) (gCs (gN 3) gNs))) ltB (enumD us.length (xs.map .int)) [some (.d (itp ps)), some (.d (.int (pl (oft us)))), x2, x3, x4] S = some (.nx [some (.d (itp ps)), some (.d (.int (pl (oft ps)))), y2, y3, y4] S)
  | [], us, x2, x3, x4, e => ⟨x2, x3, x4, by rw [List.append_nil] at e; subst e; rfl⟩
  | u :: xs, us, x2, x3, x4, e => by
    have ea : us ++ [u] ++ xs = ps := by rw [← e]; simp
    obtain ⟨y2, y3, y4, e2⟩ := lt_go (S := S) h1 hf hl xs (us ++ [u]) (some (.d (.int ((us.length : Nat) : Int)))) (some (.d (.int u))) x4 ea
    have hu : ∀ x ∈ us, u ≤ x := fun x hx => by
      rw [← e] at hf
      exact (List.pairwise_append.mp hf).2.2 x hx u List.mem_cons_self
    have hu1 := h1 u (by rw [← e]; simp)
    have hlu : us.length ≤ 12 := by
      rw [← e, List.length_append] at hl
      omega
    refine ⟨y2, y3, y4, ?_⟩
    have tk : (ps.map PyData.int).take (us.length + 1) = (us ++ [u]).map .int := by
      rw [← List.map_take, ← ea, List.take_left' (by rw [List.length_append]; rfl)]
    have sl : ∀ {x4 : Option PV}, mSeq (mSl (mVar 0) oNone (oSome (mOp fAdd (mVar 2) (mC (.int (1)))))) [some (.d (itp ps)), some (.d (.int (pl (oft us)))), some (.d (.int ((us.length : Nat) : Int))), some (.d (.int u)), x4] S = some ((us ++ [u]).map .int, S) := fun {x4} => by
      refine mSeq_tup ?_
      show some (PV.d (.tuple (cut (ps.map PyData.int) none (some ((us.length : Int) + 1)))), S) = _
      rw [show ((us.length : Int) + 1) = ((us.length + 1 : Nat) : Int) from rfl, cut_take, tk]
    have lc := mLc_filter (vs := [4]) (tgt := gN 4) (tt := asB (mOp fEq (mVar 4) (mVar 3))) (te := mVar 4) (f := sameI u) (sl (x4 := x4)) (by rw [List.length_map, List.length_append]; simp; omega) fun x hx => by
      obtain ⟨k, _, rfl⟩ := List.mem_map.mp hx
      exact ⟨[some (.d (itp ps)), some (.d (.int (pl (oft us)))), some (.d (.int ((us.length : Nat) : Int))), some (.d (.int u)), some (.d (.int k))], rfl, fun St => ⟨asB_of (mOp_of rfl rfl (fEq_int _ _ _)), rfl⟩⟩
    have ln : mCall cLen (mCons (mFz (mLc (mSeq (mSl (mVar 0) oNone (oSome (mOp fAdd (mVar 2) (mC (.int (1))))))) [4] (gN 4) (asB (mOp fEq (mVar 4) (mVar 3))) (mVar 4))) mNil) [some (.d (itp ps)), some (.d (.int (pl (oft us)))), some (.d (.int ((us.length : Nat) : Int))), some (.d (.int u)), x4] S = some (.d (.int ((us.count u + 1 : Nat) : Int)), S) := by
      refine mCall_of (mCons_of (mFz_of lc) rfl) ?_
      show some (PV.d (.int ((((us ++ [u]).map PyData.int).filter (sameI u)).length : Int))) = _
      rw [same_len, count_snoc, if_pos rfl]
    have hc := List.count_le_length (a := u) (l := us)
    have m1 : fMul (.d (.int (pl (oft us)))) (.d (.int u)) S = some (.d (.int (pl (oft us) * u))) := fMul_r (Nat.lt_of_le_of_lt (show u.natAbs ≤ 1000 by omega) (by decide)) S
    have m2 : fMul (.d (.int (pl (oft us) * u))) (.d (.int ((us.count u + 1 : Nat) : Int))) S = some (.d (.int (pl (oft us) * u * ((us.count u + 1 : Nat) : Int)))) := fMul_r (Nat.lt_of_le_of_lt (show ((us.count u + 1 : Nat) : Int).natAbs ≤ 1000 by show us.count u + 1 ≤ 1000; omega) (by decide)) S
    have st : ltB [some (.d (itp ps)), some (.d (.int (pl (oft us)))), some (.d (.int ((us.length : Nat) : Int))), some (.d (.int u)), x4] S = some (.nx [some (.d (itp ps)), some (.d (.int (pl (oft (us ++ [u]))))), some (.d (.int ((us.length : Nat) : Int))), some (.d (.int u)), x4] S) := by
      rw [pl_snoc hu, ← Int.mul_assoc]
      exact sSet_of (mOp_of (mOp_of rfl rfl m1) ln m2)
    rw [List.map_cons]
    show forGo _ _ (.tuple [.int ((us.length : Nat) : Int), .int u] :: enumD (us.length + 1) (xs.map PyData.int)) _ _ = _
    rw [for_nx (ρ1 := [some (.d (itp ps)), some (.d (.int (pl (oft us)))), some (.d (.int ((us.length : Nat) : Int))), some (.d (.int u)), x4]) rfl st]
    rw [List.length_append] at e2
    exact e2
theorem lwt_spec {ps : List Int} (h1 : ∀ p ∈ ps, 1 ≤ p ∧ p ≤ 30) (hf : ps.Pairwise (· ≥ ·)) (hl : ps.length ≤ 12) (S : Sto) : F__law_weight [.d (itp ps)] S = some (.d (.int (pl (oft ps))), S) := by
  refine runF_of (ρ := [some (.d (itp ps)), none, none, none, none]) rfl ?_ (Nat.le_refl _)
  obtain ⟨y2, y3, y4, e⟩ := lt_go (S := S) h1 hf hl ps [] none none none rfl
  unfold g__law_weight
  rw [sSeq_nx (sSet_of (v := .d (.int 1)) (S' := S) rfl)]
  have sq : mEnum (mCons (mVar 0) mNil) [some (.d (itp ps)), some (.d (.int 1)), none, none, none] S = some (enumD 0 (ps.map .int), S) := rfl
  rw [show ([some (PV.d (itp ps)), none, none, none, none] : RE).set 1 (some (.d (.int 1))) = [some (.d (itp ps)), some (.d (.int 1)), none, none, none] from rfl]
  have e' : forGo (gT 2 (gCs (gN 2) (gCs (gN 3) gNs))) ltB (enumD 0 (ps.map .int)) [some (.d (itp ps)), some (.d (.int 1)), none, none, none] S = _ := e
  rw [sSeq_nx ((sFor_of sq).trans e')]
  exact sRet_of rfl
/-! all of it -/
theorem okk_itp {ps : List Int} {N : Nat} (h : ∀ p ∈ ps, p.natAbs ≤ 100000) (hl : ps.length ≤ N) : Okk 1 (67 * N + 3) (itp ps) := by
  have z := okk_tuple (n := 0) (L := 65) (xs := ps.map PyData.int) fun y hy => by
    obtain ⟨x, hx, rfl⟩ := List.mem_map.mp hy
    exact okk_int64 (Nat.lt_of_le_of_lt (h x hx) (by decide))
  rw [List.length_map] at z
  exact z.mono (Nat.le_refl _) (by omega)
def dueD (ps : List Int) : PyData := .tuple [.int ps.sum, itp (cols ps), .tuple ((oft ps).map paD), .int (pl (oft ps))]
theorem due_okk {ps : List Int} (h1 : ∀ p ∈ ps, 1 ≤ p ∧ p ≤ 30) (hf : ps.Pairwise (· ≥ ·)) (hl : ps.length ≤ 12) : Okk 3 20000 (dueD ps) := by
  have hs : ps.sum.natAbs < 2 ^ 1920 := by
    have : ∀ l : List Int, (∀ p ∈ l, 1 ≤ p ∧ p ≤ 30) → 0 ≤ l.sum ∧ l.sum ≤ 30 * (l.length : Int) := fun l => by
      induction l with
      | nil => intro _; simp
      | cons x r ih =>
        intro h
        have a := h x List.mem_cons_self
        have b := ih fun y hy => h y (List.mem_cons_of_mem _ hy)
        rw [List.sum_cons, List.length_cons]
        omega
    have := this ps h1
    exact Nat.lt_of_le_of_lt (show ps.sum.natAbs ≤ 1000 by omega) (Nat.lt_of_lt_of_le (show 1000 < 2 ^ 10 by decide) (Nat.pow_le_pow_right (by decide) (by decide)))
  have hw : (pl (oft ps)).natAbs < 2 ^ 1920 := by
    have := pl_bound hf h1 hl ps.length (Nat.le_refl _)
    rw [List.take_length] at this
    have h12 : ∀ n : Fin 13, (390 : Int) ^ (n : Nat) ≤ 390 ^ 12 := by decide
    have h2 : (390 : Int) ^ ps.length ≤ 390 ^ 12 := h12 ⟨ps.length, by omega⟩
    have h3 : (390 : Int) ^ 12 < 2 ^ 200 := by decide
    have h4 : (pl (oft ps)).natAbs < 2 ^ 200 := by
      have : pl (oft ps) < 2 ^ 200 := by omega
      have h5 : ((2 : Int) ^ 200) = ((2 ^ 200 : Nat) : Int) := by decide
      rw [h5] at this
      generalize (2 : Nat) ^ 200 = N at *
      omega
    exact Nat.lt_of_lt_of_le h4 (Nat.pow_le_pow_right (by decide) (by decide))
  have o1 := okk_int hs
  have o4 := okk_int hw
  have o2 := okk_itp (ps := cols ps) (N := 30) (fun p hp => by have := cols_ent hl p hp; omega) (cols_lens fun p hp => (h1 p hp).2)
  have o3 : Okk 2 ((67 * 2 + 3) * 12 + 2 * 12 + 3) (.tuple ((oft ps).map paD)) := by
    have z := okk_tuple (n := 1) (L := 67 * 2 + 3) (xs := (oft ps).map paD) fun y hy => by
      obtain ⟨e, he, rfl⟩ := List.mem_map.mp hy
      obtain ⟨k, hk, rfl⟩ := List.mem_map.mp he
      have := h1 k (rising_mem.mp hk)
      have := List.count_le_length (a := k) (l := ps)
      exact okk_itp (ps := [k, (ps.count k : Nat)]) (N := 2) (fun p hp => by
        rcases List.mem_cons.mp hp with rfl | hp
        · omega
        · rw [List.mem_singleton.mp hp]
          omega) (Nat.le_refl _)
    rw [List.length_map] at z
    have := oft_len ps
    exact z.mono (Nat.le_refl _) (by omega)
  have z := okk_tuple (n := 2) (L := 3000) (xs := [.int ps.sum, itp (cols ps), .tuple ((oft ps).map paD), .int (pl (oft ps))]) fun y hy => by
    rcases List.mem_cons.mp hy with rfl | hy
    · exact o1.mono (by decide) (by decide)
    · rcases List.mem_cons.mp hy with rfl | hy
      · exact o2.mono (by decide) (by decide)
      · rcases List.mem_cons.mp hy with rfl | hy
        · exact o3.mono (by decide) (by decide)
        · rw [List.mem_singleton.mp hy]
          exact o4.mono (by decide) (by decide)
  exact z.mono (by decide) (by show 3000 * 4 + 2 * 4 + 3 ≤ 20000; decide)
theorem fEq_rows (ps : List Int) (S : Sto) : fEq (.d (itp ps)) (.d (itp ps)) S = some (.d (.bool true)) := by
  show (if (SeqAt.shaped (itp ps) && SeqAt.shaped (itp ps)) = true then some (PV.d (.bool (PyData.eqv (itp ps) (itp ps)))) else none) = _
  rw [shaped_row]
  show some (PV.d (.bool (PyData.eqvAll (ps.map .int) (ps.map .int)))) = _
  rw [eqvAll_ints, decide_eq_true rfl]
theorem right_spec {ps : List Int} (h1 : ∀ p ∈ ps, 1 ≤ p ∧ p ≤ 30) (hf : ps.Pairwise (· ≥ ·)) (hl : ps.length ≤ 12) (S : Sto) : F__law_right [.d (itp ps)] S = some (.d (.bool true), S) := by
  have h0 : ∀ p ∈ ps, 0 ≤ p ∧ p ≤ 1000 := fun p hp => by have := h1 p hp; omega
  have hb : ∀ p ∈ ps, 1 ≤ p ∧ p ≤ 100000 := fun p hp => by have := h1 p hp; omega
  refine runF_of (ρ := [some (.d (itp ps)), none, none]) rfl ?_ (Nat.le_refl _)
  unfold g__law_right
  have s1 : mCall cSum (mCons (mFz (mCallL cList (mCons (mVar 0) mNil))) mNil) [some (.d (itp ps)), none, none] S = some (.d (.int ps.sum), S) := by
    refine mCall_of (mCons_of (mFz_of (mCallL_of (z := ps.map .int) rfl rfl)) rfl) ?_
    show (intsOf (ps.map PyData.int)).map _ = _
    rw [intsOf_map]
    rfl
  have due : mTup (mCons (mCall cSum (mCons (mFz (mCallL cList (mCons (mVar 0) mNil))) mNil)) (mCons (mFn 1 F__law_columns (mCons (mVar 0) mNil)) (mCons (mFn 1 F__law_often (mCons (mVar 0) mNil)) (mCons (mFn 1 F__law_weight (mCons (mVar 0) mNil)) mNil)))) [some (.d (itp ps)), none, none] S = some (.d (dueD ps), S) :=
    mTup_of (ds := [.int ps.sum, itp (cols ps), .tuple ((oft ps).map paD), .int (pl (oft ps))]) (mCons_of s1 (mCons_of (mFn_of (n := 1) rfl rfl (lcol_spec hf h0 S)) (mCons_of (mFn_of (n := 1) rfl rfl (loft_spec hf (by omega) S)) (mCons_of (mFn_of (n := 1) rfl rfl (lwt_spec h1 hf hl S)) rfl)))) rfl (by show 4 ≤ 1000; decide)
  rw [sSeq_nx (sSet_of due)]
  show sSeq _ _ [some (.d (itp ps)), some (.d (dueD ps)), none] S = _
  have ok := due_okk h1 hf hl
  have rp : cRepr [.d (dueD ps)] S = some (.d (.str (dueD ps).shown)) := ok.repr (by decide) (by decide) S
  have tell : ∀ (x2 : Option PV), mTup (mCons (mFn 1 F_size_of (mCons (mVar 0) mNil)) (mCons (mFn 1 F_columns (mCons (mVar 0) mNil)) (mCons (mFn 1 F_often (mCons (mVar 0) mNil)) (mCons (mFn 1 F_weight (mCons (mVar 0) mNil)) mNil)))) [some (.d (itp ps)), some (.d (dueD ps)), x2] S = some (.d (dueD ps), S) := fun x2 =>
    mTup_of (ds := [.int ps.sum, itp (cols ps), .tuple ((oft ps).map paD), .int (pl (oft ps))]) (mCons_of (mFn_of (n := 1) rfl rfl (size_spec ps S)) (mCons_of (mFn_of (n := 1) rfl rfl (columns_spec hb S)) (mCons_of (mFn_of (n := 1) rfl rfl (often_spec (by omega) S)) (mCons_of (mFn_of (n := 1) rfl rfl (weight_spec h1 hl S)) rfl)))) rfl (by show 4 ≤ 1000; decide)
  have bd : ∀ (x2 : Option PV), sIf (asB (mOp fNe (mCall cRepr (mCons (mTup (mCons (mFn 1 F_size_of (mCons (mVar 0) mNil)) (mCons (mFn 1 F_columns (mCons (mVar 0) mNil)) (mCons (mFn 1 F_often (mCons (mVar 0) mNil)) (mCons (mFn 1 F_weight (mCons (mVar 0) mNil)) mNil))))) mNil)) (mCall cRepr (mCons (mVar 1) mNil)))) (sRet (mC (.bool false))) sNil [some (.d (itp ps)), some (.d (dueD ps)), x2] S = some (.nx [some (.d (itp ps)), some (.d (dueD ps)), x2] S) := fun x2 =>
    if_nx (asB_of (mOp_of (mCall_of (mCons_of (tell x2) rfl) rp) (mCall_of (vs := [.d (dueD ps)]) rfl rp) (ne_same ok.ok S)))
  have lp : sFor (mRng1 (mC (.int (2)))) (gN 2) (sIf (asB (mOp fNe (mCall cRepr (mCons (mTup (mCons (mFn 1 F_size_of (mCons (mVar 0) mNil)) (mCons (mFn 1 F_columns (mCons (mVar 0) mNil)) (mCons (mFn 1 F_often (mCons (mVar 0) mNil)) (mCons (mFn 1 F_weight (mCons (mVar 0) mNil)) mNil))))) mNil)) (mCall cRepr (mCons (mVar 1) mNil)))) (sRet (mC (.bool false))) sNil) [some (.d (itp ps)), some (.d (dueD ps)), none] S = some (.nx [some (.d (itp ps)), some (.d (dueD ps)), some (.d (.int 1))] S) := by
    rw [sFor_of (xs := [.int 0, .int 1]) (S1 := S) rfl]
    rw [for_nx (ρ1 := [some (.d (itp ps)), some (.d (dueD ps)), some (.d (.int 0))]) rfl (bd _), for_nx (ρ1 := [some (.d (itp ps)), some (.d (dueD ps)), some (.d (.int 1))]) rfl (bd _)]
    rfl
  rw [sSeq_nx lp]
  have cb : ∀ p ∈ cols ps, 1 ≤ p ∧ p ≤ 100000 := fun p hp => by
    have a := cols_ent hl p hp
    refine ⟨?_, by omega⟩
    obtain ⟨i, hi, e⟩ := List.getElem_of_mem hp
    obtain ⟨q, e0, hq, ec⟩ := cols_get.mp (List.getElem?_eq_some_iff.mpr ⟨hi, e⟩)
    have := (cnt_iff (i : Int) hf 0).mpr ⟨q, e0, hq⟩
    omega
  have e1 : mOp fEq (mFn 1 F_columns (mCons (mFn 1 F_columns (mCons (mVar 0) mNil)) mNil)) (mVar 0) [some (.d (itp ps)), some (.d (dueD ps)), some (.d (.int 1))] S = some (.d (.bool true), S) := by
    have c2 := columns_spec cb S
    rw [cols_cols hf fun p hp => (h1 p hp).1] at c2
    exact mOp_of (mFn_of (n := 1) (mCons_of (mFn_of (n := 1) rfl rfl (columns_spec hb S)) rfl) rfl c2) rfl (fEq_rows ps S)
  have e2 : mOp fEq (mFn 1 F_size_of (mCons (mFn 1 F_columns (mCons (mVar 0) mNil)) mNil)) (mOp fIx (mVar 1) (mC (.int (0)))) [some (.d (itp ps)), some (.d (dueD ps)), some (.d (.int 1))] S = some (.d (.bool true), S) := by
    have c2 := size_spec (cols ps) S
    rw [cols_sum hf fun p hp => (h0 p hp).1] at c2
    refine mOp_of (mFn_of (n := 1) (mCons_of (mFn_of (n := 1) rfl rfl (columns_spec hb S)) rfl) rfl c2) (y := .d (.int ps.sum)) (mOp_of rfl rfl rfl) ?_
    rw [fEq_int, beq_self_eq_true]
  exact sRet_of (and_tt e1 e2)
/-- a shape, known or told -/
def shpD (d : PyData) : Bool := match rowOf d with
  | some ps => ps.all (fun p => decide (1 ≤ p ∧ p ≤ 30)) && ((zipD (ps.map .int) ((ps.map .int).drop 1)).all geT && decide (ps.length ≤ 1))
  | none => false
theorem shpD_ok {d : PyData} (h : shpD d = true) : ∃ ps : List Int, d = itp ps ∧ (∀ p ∈ ps, 1 ≤ p ∧ p ≤ 30) ∧ ps.Pairwise (· ≥ ·) ∧ ps.length ≤ 12 := by
  unfold shpD at h
  split at h
  · rename_i ps e
    simp only [Bool.and_eq_true, decide_eq_true_eq, List.all_eq_true] at h
    refine ⟨ps, rowOf_ok e, h.1, ?_, by omega⟩
    match ps, h.2.2 with
    | [], _ => exact .nil
    | [x], _ => simp
    | _ :: _ :: _, q => simp at q
  · cases h
def shAV : AV → Bool
  | .ex d => shpD d
  | .shp n m => decide (n ≤ 12 ∧ m ≤ 30)
  | _ => false
theorem shAV_ok {v : AV} {d : PyData} (h : shAV v = true) (g : γ v d) : ∃ ps : List Int, d = itp ps ∧ (∀ p ∈ ps, 1 ≤ p ∧ p ≤ 30) ∧ ps.Pairwise (· ≥ ·) ∧ ps.length ≤ 12 := by
  unfold shAV at h
  split at h
  · rw [show d = _ from g]
    exact shpD_ok h
  · rw [decide_eq_true_eq] at h
    obtain ⟨ps, rfl, a, b, c⟩ := g
    exact ⟨ps, rfl, fun p hp => by have := b p hp; omega, c, by omega⟩
  · cases h
def xRt : SS where
  m := sIf (bNot (asB (mFn 1 F__law_right (mCons (mVar 2) mNil)))) (sRet (mC (.bool false))) sNil
  a := fun A T => match (A[2]? : Option (Option APV)) with
    | some (some (.d v)) => if shAV v = true then some [.nx A T] else none
    | _ => none
  ok := fun {A T l} e {ρ S} hA hT => by
    split at e
    · rename_i v q
      split at e
      · rename_i h
        cases e
        obtain ⟨o, f, r⟩ := hA.get q
        cases o with
        | none => exact r.elim
        | some x => cases x with
          | c i => exact r.elim
          | d y =>
            obtain ⟨ps, rfl, a, b, c⟩ := shAV_ok h r
            refine ⟨_, List.mem_singleton.mpr rfl, _, if_nx ?_, hA, hT⟩
            have z : asB (mFn 1 F__law_right (mCons (mVar 2) mNil)) ρ S = some (true, S) := asB_of (mFn_of (n := 1) (mCons_of (var_of f) rfl) rfl (right_spec a b c S))
            unfold bNot
            rw [z]
            rfl
      · cases e
    · cases e
theorem eq__law_shape : SF__law_shape.F = F__law_shape := rfl
end Law

set_option synthInstance.maxHeartbeats 0
set_option synthInstance.maxSize 100000
namespace Law
open PySem PySem.Spec PyProof.Rows L2 DK DL DN
def S_law : SS :=
    (xSeq nmOne (xFor nmOne (xSeqI (xFz (xOpL oCat (xFz (xLst (xCons (xTup xNil) (xCons (xTup (xCons (xC (.int (1))) xNil)) xNil)))) (xFz (xLc (xRng1 (xC (.int (3)))) [3] (xgN 3) xYes (xFn 3 SF__law_shape (xCons (xVar 1) (xCons (xC (.int (12))) (xCons (xC (.int (30))) xNil))))))))) (xgN 2) xRt)
    (xRet (xC (.bool true))))
set_option maxHeartbeats 0 in
theorem em_law : sSeq (sOwn 1 (mFnL 1 FFeed (mCons (mVar 0) mNil))) S_law.m = g_law := by
  unfold S_law g_law
  dsimp only [xC, xCons, xFn, xFor, xFz, xLc, xLst, xNil, xOpL, xRet, xRng1, xRt, xSeq, xSeqI, xTup, xVar, xYes, xgN]
  simp only [eq__law_shape]
  try rfl
set_option maxHeartbeats 0 in
theorem law_eq : F_law = runF 4 (sSeq (sOwn 1 (mFnL 1 FFeed (mCons (mVar 0) mNil))) S_law.m) := congrArg (runF 4) em_law.symm
set_option maxHeartbeats 0 in
theorem law_true : ∀ ns : List Int, ns.length ≤ 63 → ∃ S', F_law [.d (.list (ns.map .int))] [] = some (.d (.bool true), S') := by
  rw [law_eq]
  exact law1 (N := 2) (rest := S_law) (told_of (by decide +kernel))

end Law

namespace Law
open PySem PySem.Spec PyProof.Rows L2 DK DL
def topS (i : Nat) : Stmt := PySem.Challenge.pw_swapsums_k05_what_is_told_of_a_shape.main.body.getD i (.Pass ⟨0, 0, 0, 0⟩)
abbrev s__law_feed : Stmt := topS 6
theorem sc__law_feed : FnScope ["_law_script"] ["_law_script"] (defScope s__law_feed) := ⟨rfl, rfl, rfl, by decide +kernel, rfl, by decide +kernel, by decide +kernel⟩
abbrev s__law_draw : Stmt := topS 7
theorem sc__law_draw : FnScope ["_law_feed_here", "_law_many", "_law_cell", "_law_mixed", "_law_found"] ["_law_feed_here", "_law_many"] (defScope s__law_draw) := ⟨rfl, rfl, rfl, by decide +kernel, rfl, by decide +kernel, by decide +kernel⟩
abbrev s__law_shape : Stmt := topS 8
theorem sc__law_shape : FnScope ["_law_feed_here", "_law_parts", "_law_most", "_law_way", "_law_part", "_law_found", "_law_k"] ["_law_feed_here", "_law_parts", "_law_most"] (defScope s__law_shape) := ⟨rfl, rfl, rfl, by decide +kernel, rfl, by decide +kernel, by decide +kernel⟩
abbrev s__law_columns : Stmt := topS 9
theorem sc__law_columns : FnScope ["_law_shape_here", "_law_found", "_law_part", "_law_k"] ["_law_shape_here"] (defScope s__law_columns) := ⟨rfl, rfl, rfl, by decide +kernel, rfl, by decide +kernel, by decide +kernel⟩
abbrev s__law_often : Stmt := topS 10
theorem sc__law_often : FnScope ["_law_shape_here", "_law_found", "_law_part"] ["_law_shape_here"] (defScope s__law_often) := ⟨rfl, rfl, rfl, by decide +kernel, rfl, by decide +kernel, by decide +kernel⟩
abbrev s__law_weight : Stmt := topS 11
theorem sc__law_weight : FnScope ["_law_shape_here", "_law_found", "_law_place", "_law_part", "_law_one"] ["_law_shape_here"] (defScope s__law_weight) := ⟨rfl, rfl, rfl, by decide +kernel, rfl, by decide +kernel, by decide +kernel⟩
abbrev s_columns : Stmt := topS 2
theorem sc_columns : FnScope ["shape", "k", "part"] ["shape"] (defScope s_columns) := ⟨rfl, rfl, rfl, by decide +kernel, rfl, by decide +kernel, by decide +kernel⟩
abbrev s_size_of : Stmt := topS 1
theorem sc_size_of : FnScope ["shape"] ["shape"] (defScope s_size_of) := ⟨rfl, rfl, rfl, by decide +kernel, rfl, by decide +kernel, by decide +kernel⟩
abbrev s_often : Stmt := topS 3
theorem sc_often : FnScope ["shape", "part"] ["shape"] (defScope s_often) := ⟨rfl, rfl, rfl, by decide +kernel, rfl, by decide +kernel, by decide +kernel⟩
abbrev s_weight : Stmt := topS 4
theorem sc_weight : FnScope ["shape", "product", "part", "many", "count"] ["shape"] (defScope s_weight) := ⟨rfl, rfl, rfl, by decide +kernel, rfl, by decide +kernel, by decide +kernel⟩
abbrev s__law_right : Stmt := topS 12
theorem sc__law_right : FnScope ["_law_shape_here", "_law_due", "_law_turn"] ["_law_shape_here"] (defScope s__law_right) := ⟨rfl, rfl, rfl, by decide +kernel, rfl, by decide +kernel, by decide +kernel⟩
abbrev s_law : Stmt := topS 13
theorem sc_law : FnScope ["_law_script", "_law_feed_here", "_law_shape_here", "_law_k"] ["_law_script"] (defScope s_law) := ⟨rfl, rfl, rfl, by decide +kernel, rfl, by decide +kernel, by decide +kernel⟩
structure Tx [Tabs] (K : Fg) (mg : Str → Option Value) (base : Heap) where
  f__law_feed : Addr
  fd__law_feed : FuncData
  F__law_feed : Fun K "_law_feed" "_law_feed" s__law_feed f__law_feed fd__law_feed
  b__law_feed : Binds K fd__law_feed ["_law_script"] []
  g__law_feed : mg "_law_feed" = some (.ref f__law_feed)
  f__law_draw : Addr
  fd__law_draw : FuncData
  F__law_draw : Fun K "_law_draw" "_law_draw" s__law_draw f__law_draw fd__law_draw
  b__law_draw : Binds K fd__law_draw ["_law_feed_here", "_law_many"] []
  g__law_draw : mg "_law_draw" = some (.ref f__law_draw)
  f__law_shape : Addr
  fd__law_shape : FuncData
  F__law_shape : Fun K "_law_shape" "_law_shape" s__law_shape f__law_shape fd__law_shape
  b__law_shape : Binds K fd__law_shape ["_law_feed_here", "_law_parts", "_law_most"] []
  g__law_shape : mg "_law_shape" = some (.ref f__law_shape)
  f__law_columns : Addr
  fd__law_columns : FuncData
  F__law_columns : Fun K "_law_columns" "_law_columns" s__law_columns f__law_columns fd__law_columns
  b__law_columns : Binds K fd__law_columns ["_law_shape_here"] []
  g__law_columns : mg "_law_columns" = some (.ref f__law_columns)
  f__law_often : Addr
  fd__law_often : FuncData
  F__law_often : Fun K "_law_often" "_law_often" s__law_often f__law_often fd__law_often
  b__law_often : Binds K fd__law_often ["_law_shape_here"] []
  g__law_often : mg "_law_often" = some (.ref f__law_often)
  f__law_weight : Addr
  fd__law_weight : FuncData
  F__law_weight : Fun K "_law_weight" "_law_weight" s__law_weight f__law_weight fd__law_weight
  b__law_weight : Binds K fd__law_weight ["_law_shape_here"] []
  g__law_weight : mg "_law_weight" = some (.ref f__law_weight)
  f_columns : Addr
  fd_columns : FuncData
  F_columns : Fun K "columns" "columns" s_columns f_columns fd_columns
  b_columns : Binds K fd_columns ["shape"] []
  g_columns : mg "columns" = some (.ref f_columns)
  f_size_of : Addr
  fd_size_of : FuncData
  F_size_of : Fun K "size_of" "size_of" s_size_of f_size_of fd_size_of
  b_size_of : Binds K fd_size_of ["shape"] []
  g_size_of : mg "size_of" = some (.ref f_size_of)
  f_often : Addr
  fd_often : FuncData
  F_often : Fun K "often" "often" s_often f_often fd_often
  b_often : Binds K fd_often ["shape"] []
  g_often : mg "often" = some (.ref f_often)
  f_weight : Addr
  fd_weight : FuncData
  F_weight : Fun K "weight" "weight" s_weight f_weight fd_weight
  b_weight : Binds K fd_weight ["shape"] []
  g_weight : mg "weight" = some (.ref f_weight)
  f__law_right : Addr
  fd__law_right : FuncData
  F__law_right : Fun K "_law_right" "_law_right" s__law_right f__law_right fd__law_right
  b__law_right : Binds K fd__law_right ["_law_shape_here"] []
  g__law_right : mg "_law_right" = some (.ref f__law_right)
  f_law : Addr
  fd_law : FuncData
  F_law : Fun K "law" "law" s_law f_law fd_law
  b_law : Binds K fd_law ["_law_script"] []
  g_law : mg "law" = some (.ref f_law)
  z_enumerate : mg "enumerate" = none
  z_int : mg "int" = none
  z_len : mg "len" = none
  z_list : mg "list" = none
  z_max : mg "max" = none
  z_range : mg "range" = none
  z_repr : mg "repr" = none
  z_reversed : mg "reversed" = none
  z_set : mg "set" = none
  z_sorted : mg "sorted" = none
  z_sum : mg "sum" = none
  z_tuple : mg "tuple" = none
  bi : BI mg base
  knd : noTD K = true
  tc_columns : Addr
  tp_columns : Addr
  tk_columns : fd_columns.code = .ref tc_columns
  th_columns : PySem.W.CodeHd base tc_columns tp_columns
  tm_columns : ((none, tp_columns) : Tb) ∈ Tabs.l
  tc_often : Addr
  tp_often : Addr
  tk_often : fd_often.code = .ref tc_often
  th_often : PySem.W.CodeHd base tc_often tp_often
  tm_often : ((none, tp_often) : Tb) ∈ Tabs.l
section
variable [Tabs] {P : Program} {w : World} {K : Fg} {mg : Str → Option Value} {base : Heap}
set_option maxHeartbeats 0 in
theorem ok__law_feed (T : Tx K mg base) : FnG P w K mg base CX0 1 T.f__law_feed T.fd__law_feed ["_law_script"] (spL K 1 F__law_feed) := by
  have body : FnG P w K mg base CX0 1 T.f__law_feed T.fd__law_feed ["_law_script"] (spL K 1 (runL 1 g__law_feed)) := fn_listC rfl rfl T.F__law_feed sc__law_feed fun cdv A out s H E hc hr hg =>
    (ds_one (ds_retL (dl_lst (da_cons (fz (dl_cat (fz (dl_ct call_list_of cl_list rfl T.z_list PyProof.Rows.boot_list (da_cons (fz (dl_slice (dv 0) do_none (do_some de_int))) da_nil))) (fz (dl_rep (dl_lst (da_cons de_int da_nil)) (de_ct call_int1 cd_int rfl T.z_int PyProof.Rows.boot_int (da_cons (de_eq hr (de_cb call_len cd_len rfl T.z_len PySem.boot_len (da_cons (dv 0) da_nil)) de_int) da_nil)))))) (da_cons de_int (da_cons de_int (da_cons de_int da_nil)))))))
  exact body
set_option maxHeartbeats 0 in
theorem ok__law_draw (T : Tx K mg base) : FnG P w K mg base CX0 1 T.f__law_draw T.fd__law_draw ["_law_feed_here", "_law_many"] (spF K 2 F__law_draw) := by
  have body : FnG P w K mg base CX0 1 T.f__law_draw T.fd__law_draw ["_law_feed_here", "_law_many"] (spF K 2 (runF 5 g__law_draw)) := fn_dataC rfl rfl T.F__law_draw sc__law_draw fun cdv A out s H E hc hr hg =>
    (ds_cons (ds_put (de_add (de_at (dv 0) de_int) de_int) (dv 0) de_int)
    (ds_cons (ds_if (db_eq hr (de_at (dv 0) de_int) de_int)
      (ds_cons (ds_set (i := 2) sc__law_draw.nd rfl (by first | exact .inl rfl | exact .inr rfl) (de_at (de_at (dv 0) de_int) (de_mod (de_at (dv 0) de_int) (de_cb call_len cd_len rfl T.z_len PySem.boot_len (da_cons (de_at (dv 0) de_int) da_nil)))))
    (ds_cons (ds_put (de_add (de_at (dv 0) de_int) de_int) (dv 0) de_int)
    (ds_cons (ds_if (db_lt (dv 2) (de_pow de_int de_int))
      (ds_cons (ds_set (i := 3) sc__law_draw.nd rfl (by first | exact .inl rfl | exact .inr rfl) (de_mod (de_pow (de_add (de_add (de_mod (dv 2) de_int) (de_mul de_int (de_at (dv 0) de_int))) de_int) de_int) de_int))
    (ds_cons (ds_set (i := 3) sc__law_draw.nd rfl (by first | exact .inl rfl | exact .inr rfl) (de_add (de_mod (dv 3) de_int) de_int))
    (ds_cons (ds_set (i := 3) sc__law_draw.nd rfl (by first | exact .inl rfl | exact .inr rfl) (de_mod (de_mul (dv 3) (de_add (de_mod (de_mul (de_at (dv 0) de_int) (de_at (dv 0) de_int)) de_int) de_int)) de_int))
    (ds_one (ds_ret (de_mod (de_div (dv 3) de_int) (dv 1)))))))
      ds_nil)
    (ds_one (ds_put (dv 2) (dv 0) de_int)))))
      ds_nil)
    (ds_cons (ds_set (i := 4) sc__law_draw.nd rfl (by first | exact .inl rfl | exact .inr rfl) (de_mod (de_at (dv 0) de_int) (dv 1)))
    (ds_cons (ds_put (de_div (de_at (dv 0) de_int) (dv 1)) (dv 0) de_int)
    (ds_one (ds_ret (dv 4)))))))
  exact body
set_option maxHeartbeats 0 in
theorem ok__law_shape (T : Tx K mg base) : FnG P w K mg base CX0 2 T.f__law_shape T.fd__law_shape ["_law_feed_here", "_law_parts", "_law_most"] (spF K 3 F__law_shape) := by
  have body : FnG P w K mg base CX0 2 T.f__law_shape T.fd__law_shape ["_law_feed_here", "_law_parts", "_law_most"] (spF K 3 (runF 7 g__law_shape)) := fn_dataC rfl rfl T.F__law_shape sc__law_shape fun cdv A out s H E hc hr hg =>
    (ds_cons (ds_set (i := 3) sc__law_shape.nd rfl (by first | exact .inl rfl | exact .inr rfl) (de_call (ok__law_draw T) (hr.mono (by decide)) hg rfl T.g__law_draw T.F__law_draw.kp T.b__law_draw (da_cons (dv 0) (da_cons de_int da_nil))))
    (ds_cons (ds_set (i := 4) sc__law_shape.nd rfl (by first | exact .inl rfl | exact .inr rfl) (de_add de_int (de_call (ok__law_draw T) (hr.mono (by decide)) hg rfl T.g__law_draw T.F__law_draw.kp T.b__law_draw (da_cons (dv 0) (da_cons (dv 2) da_nil)))))
    (ds_cons (ds_own (i := 5) sc__law_shape.nd rfl (by first | exact .inl rfl | exact .inr rfl) (dl_lst da_nil))
    (ds_cons (ds_for PassesOwn.never rfl (di_rng1 rfl T.z_range (de_call (ok__law_draw T) (hr.mono (by decide)) hg rfl T.g__law_draw T.F__law_draw.kp T.b__law_draw (da_cons (dv 0) (da_cons (de_add (dv 1) de_int) da_nil)))) (dg_name (i := 6) sc__law_shape.nd rfl (by first | exact .inl rfl | exact .inr rfl))
      (ds_cons (ds_expr (de_append (dv 5) (dv 4)))
    (ds_cons (ds_if (db_eq hr (dv 3) de_int)
      (ds_one (ds_set (i := 4) sc__law_shape.nd rfl (by first | exact .inl rfl | exact .inr rfl) (de_cb (call_max2 rfl) cd_max rfl T.z_max boot_max (da_cons de_int (da_cons (de_sub (dv 4) (de_call (ok__law_draw T) (hr.mono (by decide)) hg rfl T.g__law_draw T.F__law_draw.kp T.b__law_draw (da_cons (dv 0) (da_cons de_int da_nil)))) da_nil)))))
      ds_nil)
    (ds_one (ds_if (db_eq hr (dv 3) de_int)
      (ds_one (ds_set (i := 4) sc__law_shape.nd rfl (by first | exact .inl rfl | exact .inr rfl) (de_add de_int (de_call (ok__law_draw T) (hr.mono (by decide)) hg rfl T.g__law_draw T.F__law_draw.kp T.b__law_draw (da_cons (dv 0) (da_cons (dv 4) da_nil))))))
      ds_nil)))))
    (ds_one (ds_ret (de_ct call_tupleF cd_tuple rfl T.z_tuple PyProof.Rows.boot_tuple (da_cons (dv 5) da_nil))))))))
  exact body
set_option maxHeartbeats 0 in
theorem ok__law_columns (T : Tx K mg base) : FnG P w K mg base CX0 1 T.f__law_columns T.fd__law_columns ["_law_shape_here"] (spF K 1 F__law_columns) := by
  have body : FnG P w K mg base CX0 1 T.f__law_columns T.fd__law_columns ["_law_shape_here"] (spF K 1 (runF 4 g__law_columns)) := fn_dataC rfl rfl T.F__law_columns sc__law_columns fun cdv A out s H E hc hr hg =>
    (ds_cons (ds_own (i := 1) sc__law_columns.nd rfl (by first | exact .inl rfl | exact .inr rfl) (dl_lst da_nil))
    (ds_cons (ds_for PassesOwn.never rfl (di_seq (dv 0)) (dg_name (i := 2) sc__law_columns.nd rfl (by first | exact .inl rfl | exact .inr rfl))
      (ds_one (ds_for PassesOwn.never rfl (di_rng1 rfl T.z_range (dv 2)) (dg_name (i := 3) sc__law_columns.nd rfl (by first | exact .inl rfl | exact .inr rfl))
      (ds_cons (ds_if (db_eq hr (dv 3) (de_cb call_len cd_len rfl T.z_len PySem.boot_len (da_cons (dv 1) da_nil)))
      (ds_one (ds_expr (de_append (dv 1) de_int)))
      ds_nil)
    (ds_one (ds_put (de_add (de_at (dv 1) (dv 3)) de_int) (dv 1) (dv 3)))))))
    (ds_one (ds_ret (de_ct call_tupleF cd_tuple rfl T.z_tuple PyProof.Rows.boot_tuple (da_cons (dv 1) da_nil))))))
  exact body
set_option maxHeartbeats 0 in
theorem ok__law_often (T : Tx K mg base) : FnG P w K mg base CX0 1 T.f__law_often T.fd__law_often ["_law_shape_here"] (spF K 1 F__law_often) := by
  have body : FnG P w K mg base CX0 1 T.f__law_often T.fd__law_often ["_law_shape_here"] (spF K 1 (runF 3 g__law_often)) := fn_dataC rfl rfl T.F__law_often sc__law_often fun cdv A out s H E hc hr hg =>
    (ds_cons (ds_own (i := 1) sc__law_often.nd rfl (by first | exact .inl rfl | exact .inr rfl) (dl_lst da_nil))
    (ds_cons (ds_for PassesOwn.never rfl (di_rev rfl T.z_reversed (dv 0)) (dg_name (i := 2) sc__law_often.nd rfl (by first | exact .inl rfl | exact .inr rfl))
      (ds_one (ds_if (PW.pt (dw_and (db_ne hr (dv 1) (fz (dl_lst da_nil))) (dw_and1 (db_eq hr (de_at (de_at (dv 1) (de_neg de_int)) de_int) (dv 2)))))
      (ds_one (ds_put (de_tup (da_cons (dv 2) (da_cons (de_add (de_at (de_at (dv 1) (de_neg de_int)) de_int) de_int) da_nil))) (dv 1) (de_neg de_int)))
      (ds_one (ds_expr (de_append (dv 1) (de_tup (da_cons (dv 2) (da_cons de_int da_nil)))))))))
    (ds_one (ds_ret (de_ct call_tupleF cd_tuple rfl T.z_tuple PyProof.Rows.boot_tuple (da_cons (dv 1) da_nil))))))
  exact body
set_option maxHeartbeats 0 in
theorem ok__law_weight (T : Tx K mg base) : FnG P w K mg base CX0 1 T.f__law_weight T.fd__law_weight ["_law_shape_here"] (spF K 1 F__law_weight) := by
  have body : FnG P w K mg base CX0 1 T.f__law_weight T.fd__law_weight ["_law_shape_here"] (spF K 1 (runF 5 g__law_weight)) := fn_dataC rfl rfl T.F__law_weight sc__law_weight fun cdv A out s H E hc hr hg =>
    (ds_cons (ds_set (i := 1) sc__law_weight.nd rfl (by first | exact .inl rfl | exact .inr rfl) de_int)
    (ds_cons (ds_for PassesOwn.never rfl (di_enum rfl T.z_enumerate (da_cons (dv 0) da_nil)) (dg_tup rfl (dgs_cons (dg_name (i := 2) sc__law_weight.nd rfl (by first | exact .inl rfl | exact .inr rfl)) (dgs_cons (dg_name (i := 3) sc__law_weight.nd rfl (by first | exact .inl rfl | exact .inr rfl)) dgs_nil)))
      (ds_one (ds_set (i := 1) sc__law_weight.nd rfl (by first | exact .inl rfl | exact .inr rfl) (de_mul (de_mul (dv 1) (dv 3)) (de_cb call_len cd_len rfl T.z_len PySem.boot_len (da_cons (fz (dl_lc rfl sc__law_weight.nd (di_seq (de_slice (dv 0) do_none (do_some (de_add (dv 2) de_int)))) (blkOk_by (own := [("_law_one", 4)]) (N := ["_law_shape_here", "_law_found", "_law_place", "_law_part", "_law_one"]) (sc := defScope s__law_weight) (by decide +kernel)) (fun _ _ _ _ _ => (dg_name (i := 4) sc__law_weight.nd rfl (by first | exact .inl rfl | exact .inr rfl))) (fun _ _ _ _ _ => (dts_one (db_eq hr (dv 4) (dv 3)))) (fun _ _ _ _ _ => (dv 4)) rfl)) da_nil))))))
    (ds_one (ds_ret (dv 1)))))
  exact body
set_option maxHeartbeats 0 in
theorem ok_columns (T : Tx K mg base) : FnG P w K mg base CX0 3 T.f_columns T.fd_columns ["shape"] (spF K 1 F_columns) := by
  have T_bi := T.bi
  have T_z_range := T.z_range
  have T_z_sum := T.z_sum
  have T_z_tuple := T.z_tuple
  have body : FnG P w K mg base CX0 3 T.f_columns T.fd_columns ["shape"] (spF K 1 (runF 3 g_columns)) := fn_dataC rfl rfl T.F_columns sc_columns fun cdv A out s H E hc hr hg =>
    (ds_cons (ds_if (db_not (db_tru (dv 0)))
      (ds_one (ds_ret (de_tup da_nil)))
      ds_nil)
    (ds_one (ds_ret (de_tupG (gx_mk (vs := [1]) hr hg sc_columns.nd (di_rng1 rfl T_z_range (de_at (dv 0) de_int)) (codeAt_own T_bi (hc.symm.trans T.tk_columns) T.th_columns) T.tm_columns (fun _ z => nomatch z) (blkOk_by (own := [("k", 1)]) (by kernel_rfl)) (fun c1 P1 A1 s1 H1 fp1 a1 go1 => (letI : Tabs := tabsIn c1 P1; (dg_name (i := 1) sc_columns.nd rfl (by first | exact .inl rfl | exact .inr rfl)))) (fun c1 P1 A1 s1 H1 fp1 a1 go1 hr hg => (letI : Tabs := tabsIn c1 P1; dts_nil)) (fun c1 P1 A1 s1 H1 fp1 a1 go1 hr hg => (letI : Tabs := tabsIn c1 P1; (de_sumG (gx_mk (vs := [2]) hr hg sc_columns.nd (di_seq (dv 0)) (codeAt_in T_bi) (List.mem_cons_self) (fun _ z => nomatch z) (blkOk_by (own := [("part", 2)]) (by kernel_rfl)) (fun c1 P1 A1 s1 H1 fp1 a1 go1 => (DG.up (dg_name (i := 2) sc_columns.nd rfl (by first | exact .inl rfl | exact .inr rfl)))) (fun c1 P1 A1 s1 H1 fp1 a1 go1 hr hg => (DTs.up (dts_one (db_gt (dv 2) (dv 1))))) (fun c1 P1 A1 s1 H1 fp1 a1 go1 hr hg => (DE.up de_int)) rfl) rfl T_z_sum))) rfl) rfl T_z_tuple))))
  exact body
set_option maxHeartbeats 0 in
theorem ok_size_of (T : Tx K mg base) : FnG P w K mg base CX0 1 T.f_size_of T.fd_size_of ["shape"] (spF K 1 F_size_of) := by
  have body : FnG P w K mg base CX0 1 T.f_size_of T.fd_size_of ["shape"] (spF K 1 (runF 1 g_size_of)) := fn_dataC rfl rfl T.F_size_of sc_size_of fun cdv A out s H E hc hr hg =>
    (ds_one (ds_ret (de_cb ((cr_sum rfl).or (cr_sumT rfl)) cd_sum rfl T.z_sum boot_sum (da_cons (dv 0) da_nil))))
  exact body
set_option maxHeartbeats 0 in
theorem ok_often (T : Tx K mg base) : FnG P w K mg base CX0 2 T.f_often T.fd_often ["shape"] (spF K 1 F_often) := by
  have body : FnG P w K mg base CX0 2 T.f_often T.fd_often ["shape"] (spF K 1 (runF 2 g_often)) := fn_dataC rfl rfl T.F_often sc_often fun cdv A out s H E hc hr hg =>
    (ds_one (ds_ret (de_tupG (gx_mk (vs := [1]) hr hg sc_often.nd (di_seq (fz (dl_sortset rfl (dv 0) rfl T.z_sorted rfl T.z_set PyProof.Rows.boot_sorted))) (codeAt_own T.bi (hc.symm.trans T.tk_often) T.th_often) T.tm_often (fun _ z => nomatch z) (blkOk_by (own := [("part", 1)]) (by kernel_rfl)) (fun c1 P1 A1 s1 H1 fp1 a1 go1 => (DG.up (dg_name (i := 1) sc_often.nd rfl (by first | exact .inl rfl | exact .inr rfl)))) (fun c1 P1 A1 s1 H1 fp1 a1 go1 hr hg => (DTs.up dts_nil)) (fun c1 P1 A1 s1 H1 fp1 a1 go1 hr hg => (DE.up (de_tup (da_cons (dv 1) (da_cons (de_count T.knd (dv 0) (dv 1)) da_nil))))) rfl) rfl T.z_tuple)))
  exact body
set_option maxHeartbeats 0 in
theorem ok_weight (T : Tx K mg base) : FnG P w K mg base CX0 3 T.f_weight T.fd_weight ["shape"] (spF K 1 F_weight) := by
  have body : FnG P w K mg base CX0 3 T.f_weight T.fd_weight ["shape"] (spF K 1 (runF 5 g_weight)) := fn_dataC rfl rfl T.F_weight sc_weight fun cdv A out s H E hc hr hg =>
    (ds_cons (ds_set (i := 1) sc_weight.nd rfl (by first | exact .inl rfl | exact .inr rfl) de_int)
    (ds_cons (ds_for PassesOwn.never rfl (di_seq (de_call (ok_often T) (hr.mono (by decide)) hg rfl T.g_often T.F_often.kp T.b_often (da_cons (dv 0) da_nil))) (dg_tup rfl (dgs_cons (dg_name (i := 2) sc_weight.nd rfl (by first | exact .inl rfl | exact .inr rfl)) (dgs_cons (dg_name (i := 3) sc_weight.nd rfl (by first | exact .inl rfl | exact .inr rfl)) dgs_nil)))
      (ds_one (ds_for PassesOwn.never rfl (di_rng2 rfl T.z_range de_int (de_add (dv 3) de_int)) (dg_name (i := 4) sc_weight.nd rfl (by first | exact .inl rfl | exact .inr rfl))
      (ds_one (ds_aug (i := 1) sc_weight.nd rfl (by first | exact .inl rfl | exact .inr rfl) (de_mul (dv 2) (dv 4)) iop_mulA (opD_I (fun _ _ h => mulOk_ok h) fun _ _ _ => .int _))))))
    (ds_one (ds_ret (dv 1)))))
  exact body
set_option maxHeartbeats 0 in
theorem ok__law_right (T : Tx K mg base) : FnG P w K mg base CX0 4 T.f__law_right T.fd__law_right ["_law_shape_here"] (spF K 1 F__law_right) := by
  have body : FnG P w K mg base CX0 4 T.f__law_right T.fd__law_right ["_law_shape_here"] (spF K 1 (runF 3 g__law_right)) := fn_dataC rfl rfl T.F__law_right sc__law_right fun cdv A out s H E hc hr hg =>
    (ds_cons (ds_set (i := 1) sc__law_right.nd rfl (by first | exact .inl rfl | exact .inr rfl) (de_tup (da_cons (de_cb ((cr_sum rfl).or (cr_sumT rfl)) cd_sum rfl T.z_sum boot_sum (da_cons (fz (dl_ct call_list_of cl_list rfl T.z_list PyProof.Rows.boot_list (da_cons (dv 0) da_nil))) da_nil)) (da_cons (de_call (ok__law_columns T) (hr.mono (by decide)) hg rfl T.g__law_columns T.F__law_columns.kp T.b__law_columns (da_cons (dv 0) da_nil)) (da_cons (de_call (ok__law_often T) (hr.mono (by decide)) hg rfl T.g__law_often T.F__law_often.kp T.b__law_often (da_cons (dv 0) da_nil)) (da_cons (de_call (ok__law_weight T) (hr.mono (by decide)) hg rfl T.g__law_weight T.F__law_weight.kp T.b__law_weight (da_cons (dv 0) da_nil)) da_nil))))))
    (ds_cons (ds_for PassesOwn.never rfl (di_rng1 rfl T.z_range de_int) (dg_name (i := 2) sc__law_right.nd rfl (by first | exact .inl rfl | exact .inr rfl))
      (ds_one (ds_if (db_ne hr (de_cb (call_reprA hr hg) cd_repr rfl T.z_repr boot_repr (da_cons (de_tup (da_cons (de_call (ok_size_of T) (hr.mono (by decide)) hg rfl T.g_size_of T.F_size_of.kp T.b_size_of (da_cons (dv 0) da_nil)) (da_cons (de_call (ok_columns T) (hr.mono (by decide)) hg rfl T.g_columns T.F_columns.kp T.b_columns (da_cons (dv 0) da_nil)) (da_cons (de_call (ok_often T) (hr.mono (by decide)) hg rfl T.g_often T.F_often.kp T.b_often (da_cons (dv 0) da_nil)) (da_cons (de_call (ok_weight T) (hr.mono (by decide)) hg rfl T.g_weight T.F_weight.kp T.b_weight (da_cons (dv 0) da_nil)) da_nil))))) da_nil)) (de_cb (call_reprA hr hg) cd_repr rfl T.z_repr boot_repr (da_cons (dv 1) da_nil)))
      (ds_one (ds_ret de_bl))
      ds_nil)))
    (ds_one (ds_ret (de_and (de_eq hr (de_call (ok_columns T) (hr.mono (by decide)) hg rfl T.g_columns T.F_columns.kp T.b_columns (da_cons (de_call (ok_columns T) (hr.mono (by decide)) hg rfl T.g_columns T.F_columns.kp T.b_columns (da_cons (dv 0) da_nil)) da_nil)) (dv 0)) (de_one (de_eq hr (de_call (ok_size_of T) (hr.mono (by decide)) hg rfl T.g_size_of T.F_size_of.kp T.b_size_of (da_cons (de_call (ok_columns T) (hr.mono (by decide)) hg rfl T.g_columns T.F_columns.kp T.b_columns (da_cons (dv 0) da_nil)) da_nil)) (de_at (dv 1) de_int))))))))
  exact body
set_option maxHeartbeats 0 in
theorem ok_law (T : Tx K mg base) : FnG P w K mg base CX0 5 T.f_law T.fd_law ["_law_script"] (spF K 1 F_law) := by
  have body : FnG P w K mg base CX0 5 T.f_law T.fd_law ["_law_script"] (spF K 1 (runF 4 g_law)) := fn_dataC rfl rfl T.F_law sc_law fun cdv A out s H E hc hr hg =>
    (ds_cons (ds_own (i := 1) sc_law.nd rfl (by first | exact .inl rfl | exact .inr rfl) (dl_call (ok__law_feed T) (hr.mono (by decide)) hg rfl T.g__law_feed T.F__law_feed.kp T.b__law_feed (da_cons (dv 0) da_nil)))
    (ds_cons (ds_for PassesOwn.never rfl (di_seq (fz (dl_cat (fz (dl_lst (da_cons (de_tup da_nil) (da_cons (de_tup (da_cons de_int da_nil)) da_nil)))) (fz (dl_lc rfl sc_law.nd (di_rng1 rfl T.z_range de_int) (blkOk_by (own := [("_law_k", 3)]) (N := ["_law_script", "_law_feed_here", "_law_shape_here", "_law_k"]) (sc := defScope s_law) (by decide +kernel)) (fun _ _ _ _ _ => (dg_name (i := 3) sc_law.nd rfl (by first | exact .inl rfl | exact .inr rfl))) (fun _ _ _ _ _ => dts_nil) (fun _ _ _ _ _ => (de_call (ok__law_shape T) (hr.mono (by decide)) hg rfl T.g__law_shape T.F__law_shape.kp T.b__law_shape (da_cons (dv 1) (da_cons de_int (da_cons de_int da_nil))))) rfl))))) (dg_name (i := 2) sc_law.nd rfl (by first | exact .inl rfl | exact .inr rfl))
      (ds_one (ds_if (db_not (db_val (de_call (ok__law_right T) (hr.mono (by decide)) hg rfl T.g__law_right T.F__law_right.kp T.b__law_right (da_cons (dv 2) da_nil))))
      (ds_one (ds_ret de_bl))
      ds_nil)))
    (ds_one (ds_ret de_bl))))
  exact body
end
set_option maxHeartbeats 0 in
theorem all_mk {l : PySem.W.OpenLaw} {w : World} {K : Fg} {h : Heap} {mg : Str → Option Value} {fa : Addr} (X : K.In h) (G : h.Ns mainGlobals mg) (hfa : mg "law" = some (.ref fa)) (tb : ∀ m ∈ (["columns", "often"] : List Str), TabOf mg h m)
    {f0 : Addr} {od0 an0 : Option Addr} {sl0 : Array (Option Value)} {oc0 kV0 dc0 pm0 cd0 ct0 : Value}
    (a0 : PySem.W.nsIn K mainGlobals "_law_feed" = some (some (.ref f0))) (l0 : K.lookup f0 = some ⟨oc0, od0, .func (PySem.W.fnOf "_law_feed" "_law_feed" (defArgs s__law_feed) (defBody s__law_feed) (defScope s__law_feed) .none kV0 dc0 pm0 an0 cd0 ct0), sl0⟩) (c0 : PySem.W.codeIn K cd0 "_law_feed" = true) (k0 : PySem.W.keepIn K (.ref f0) = true)
    {f1 : Addr} {od1 an1 : Option Addr} {sl1 : Array (Option Value)} {oc1 kV1 dc1 pm1 cd1 ct1 : Value}
    (a1 : PySem.W.nsIn K mainGlobals "_law_draw" = some (some (.ref f1))) (l1 : K.lookup f1 = some ⟨oc1, od1, .func (PySem.W.fnOf "_law_draw" "_law_draw" (defArgs s__law_draw) (defBody s__law_draw) (defScope s__law_draw) .none kV1 dc1 pm1 an1 cd1 ct1), sl1⟩) (c1 : PySem.W.codeIn K cd1 "_law_draw" = true) (k1 : PySem.W.keepIn K (.ref f1) = true)
    {f2 : Addr} {od2 an2 : Option Addr} {sl2 : Array (Option Value)} {oc2 kV2 dc2 pm2 cd2 ct2 : Value}
    (a2 : PySem.W.nsIn K mainGlobals "_law_shape" = some (some (.ref f2))) (l2 : K.lookup f2 = some ⟨oc2, od2, .func (PySem.W.fnOf "_law_shape" "_law_shape" (defArgs s__law_shape) (defBody s__law_shape) (defScope s__law_shape) .none kV2 dc2 pm2 an2 cd2 ct2), sl2⟩) (c2 : PySem.W.codeIn K cd2 "_law_shape" = true) (k2 : PySem.W.keepIn K (.ref f2) = true)
    {f3 : Addr} {od3 an3 : Option Addr} {sl3 : Array (Option Value)} {oc3 kV3 dc3 pm3 cd3 ct3 : Value}
    (a3 : PySem.W.nsIn K mainGlobals "_law_columns" = some (some (.ref f3))) (l3 : K.lookup f3 = some ⟨oc3, od3, .func (PySem.W.fnOf "_law_columns" "_law_columns" (defArgs s__law_columns) (defBody s__law_columns) (defScope s__law_columns) .none kV3 dc3 pm3 an3 cd3 ct3), sl3⟩) (c3 : PySem.W.codeIn K cd3 "_law_columns" = true) (k3 : PySem.W.keepIn K (.ref f3) = true)
    {f4 : Addr} {od4 an4 : Option Addr} {sl4 : Array (Option Value)} {oc4 kV4 dc4 pm4 cd4 ct4 : Value}
    (a4 : PySem.W.nsIn K mainGlobals "_law_often" = some (some (.ref f4))) (l4 : K.lookup f4 = some ⟨oc4, od4, .func (PySem.W.fnOf "_law_often" "_law_often" (defArgs s__law_often) (defBody s__law_often) (defScope s__law_often) .none kV4 dc4 pm4 an4 cd4 ct4), sl4⟩) (c4 : PySem.W.codeIn K cd4 "_law_often" = true) (k4 : PySem.W.keepIn K (.ref f4) = true)
    {f5 : Addr} {od5 an5 : Option Addr} {sl5 : Array (Option Value)} {oc5 kV5 dc5 pm5 cd5 ct5 : Value}
    (a5 : PySem.W.nsIn K mainGlobals "_law_weight" = some (some (.ref f5))) (l5 : K.lookup f5 = some ⟨oc5, od5, .func (PySem.W.fnOf "_law_weight" "_law_weight" (defArgs s__law_weight) (defBody s__law_weight) (defScope s__law_weight) .none kV5 dc5 pm5 an5 cd5 ct5), sl5⟩) (c5 : PySem.W.codeIn K cd5 "_law_weight" = true) (k5 : PySem.W.keepIn K (.ref f5) = true)
    {f6 : Addr} {od6 an6 : Option Addr} {sl6 : Array (Option Value)} {oc6 kV6 dc6 pm6 cd6 ct6 : Value}
    (a6 : PySem.W.nsIn K mainGlobals "columns" = some (some (.ref f6))) (l6 : K.lookup f6 = some ⟨oc6, od6, .func (PySem.W.fnOf "columns" "columns" (defArgs s_columns) (defBody s_columns) (defScope s_columns) .none kV6 dc6 pm6 an6 cd6 ct6), sl6⟩) (c6 : PySem.W.codeIn K cd6 "columns" = true) (k6 : PySem.W.keepIn K (.ref f6) = true)
    {f7 : Addr} {od7 an7 : Option Addr} {sl7 : Array (Option Value)} {oc7 kV7 dc7 pm7 cd7 ct7 : Value}
    (a7 : PySem.W.nsIn K mainGlobals "size_of" = some (some (.ref f7))) (l7 : K.lookup f7 = some ⟨oc7, od7, .func (PySem.W.fnOf "size_of" "size_of" (defArgs s_size_of) (defBody s_size_of) (defScope s_size_of) .none kV7 dc7 pm7 an7 cd7 ct7), sl7⟩) (c7 : PySem.W.codeIn K cd7 "size_of" = true) (k7 : PySem.W.keepIn K (.ref f7) = true)
    {f8 : Addr} {od8 an8 : Option Addr} {sl8 : Array (Option Value)} {oc8 kV8 dc8 pm8 cd8 ct8 : Value}
    (a8 : PySem.W.nsIn K mainGlobals "often" = some (some (.ref f8))) (l8 : K.lookup f8 = some ⟨oc8, od8, .func (PySem.W.fnOf "often" "often" (defArgs s_often) (defBody s_often) (defScope s_often) .none kV8 dc8 pm8 an8 cd8 ct8), sl8⟩) (c8 : PySem.W.codeIn K cd8 "often" = true) (k8 : PySem.W.keepIn K (.ref f8) = true)
    {f9 : Addr} {od9 an9 : Option Addr} {sl9 : Array (Option Value)} {oc9 kV9 dc9 pm9 cd9 ct9 : Value}
    (a9 : PySem.W.nsIn K mainGlobals "weight" = some (some (.ref f9))) (l9 : K.lookup f9 = some ⟨oc9, od9, .func (PySem.W.fnOf "weight" "weight" (defArgs s_weight) (defBody s_weight) (defScope s_weight) .none kV9 dc9 pm9 an9 cd9 ct9), sl9⟩) (c9 : PySem.W.codeIn K cd9 "weight" = true) (k9 : PySem.W.keepIn K (.ref f9) = true)
    {f10 : Addr} {od10 an10 : Option Addr} {sl10 : Array (Option Value)} {oc10 kV10 dc10 pm10 cd10 ct10 : Value}
    (a10 : PySem.W.nsIn K mainGlobals "_law_right" = some (some (.ref f10))) (l10 : K.lookup f10 = some ⟨oc10, od10, .func (PySem.W.fnOf "_law_right" "_law_right" (defArgs s__law_right) (defBody s__law_right) (defScope s__law_right) .none kV10 dc10 pm10 an10 cd10 ct10), sl10⟩) (c10 : PySem.W.codeIn K cd10 "_law_right" = true) (k10 : PySem.W.keepIn K (.ref f10) = true)
    {f11 : Addr} {od11 an11 : Option Addr} {sl11 : Array (Option Value)} {oc11 kV11 dc11 pm11 cd11 ct11 : Value}
    (a11 : PySem.W.nsIn K mainGlobals "law" = some (some (.ref f11))) (l11 : K.lookup f11 = some ⟨oc11, od11, .func (PySem.W.fnOf "law" "law" (defArgs s_law) (defBody s_law) (defScope s_law) .none kV11 dc11 pm11 an11 cd11 ct11), sl11⟩) (c11 : PySem.W.codeIn K cd11 "law" = true) (k11 : PySem.W.keepIn K (.ref f11) = true)
    (z0 : PySem.W.nsIn K mainGlobals "enumerate" = some none)
    (z1 : PySem.W.nsIn K mainGlobals "int" = some none)
    (z2 : PySem.W.nsIn K mainGlobals "len" = some none)
    (z3 : PySem.W.nsIn K mainGlobals "list" = some none)
    (z4 : PySem.W.nsIn K mainGlobals "max" = some none)
    (z5 : PySem.W.nsIn K mainGlobals "range" = some none)
    (z6 : PySem.W.nsIn K mainGlobals "repr" = some none)
    (z7 : PySem.W.nsIn K mainGlobals "reversed" = some none)
    (z8 : PySem.W.nsIn K mainGlobals "set" = some none)
    (z9 : PySem.W.nsIn K mainGlobals "sorted" = some none)
    (z10 : PySem.W.nsIn K mainGlobals "sum" = some none)
    (z11 : PySem.W.nsIn K mainGlobals "tuple" = some none)
    (knd : noTD K = true) :
    ∃ (fd : FuncData) (cs : List (Addr × Addr)), (∀ p ∈ cs, h.get? p.2 = some tab0 ∧ PySem.W.CodeHd h p.1 p.2) ∧ (∀ (s : Shared) (v : Value), BindsTo s fd ⟨[v], []⟩ [("_law_script", v)]) ∧ ∀ base : Heap, K.In base → base.Ns mainGlobals mg → BI mg base → (∀ p ∈ cs, PySem.W.CodeHd base p.1 p.2) → FnG l.prog w K mg base CX0 5 fa fd ["_law_script"] (@spF ⟨fun _ _ => none⟩ ⟨cs.map fun p => (none, p.2)⟩ K 1 F_law) := by
  have e := hfa.symm.trans (PySem.W.mg_of X G a11)
  cases e
  have F0 := fun_mk (st := s__law_feed) l0 c0 k0
  have F1 := fun_mk (st := s__law_draw) l1 c1 k1
  have F2 := fun_mk (st := s__law_shape) l2 c2 k2
  have F3 := fun_mk (st := s__law_columns) l3 c3 k3
  have F4 := fun_mk (st := s__law_often) l4 c4 k4
  have F5 := fun_mk (st := s__law_weight) l5 c5 k5
  have F6 := fun_mk (st := s_columns) l6 c6 k6
  have F7 := fun_mk (st := s_size_of) l7 c7 k7
  have F8 := fun_mk (st := s_often) l8 c8 k8
  have F9 := fun_mk (st := s_weight) l9 c9 k9
  have F10 := fun_mk (st := s__law_right) l10 c10 k10
  have F11 := fun_mk (st := s_law) l11 c11 k11
  obtain ⟨c6t, P6t, e6t, h6t, t6t⟩ := (tb "columns" (by decide)).at X (PySem.W.mg_of X G a6) l6
  obtain ⟨c8t, P8t, e8t, h8t, t8t⟩ := (tb "often" (by decide)).at X (PySem.W.mg_of X G a8) l8
  refine ⟨PySem.W.fnOf "law" "law" (defArgs s_law) (defBody s_law) (defScope s_law) .none kV11 dc11 pm11 an11 cd11 ct11, [(c6t, P6t), (c8t, P8t)], List.forall_mem_cons.mpr ⟨⟨t6t, h6t⟩, List.forall_mem_cons.mpr ⟨⟨t8t, h8t⟩, fun p hp => nomatch hp⟩⟩, ?b1, fun base _ _ bi hcs => ?b2⟩
  case b2 =>
    letI : Tabs := ⟨[(none, P6t), (none, P8t)]⟩
    let T : Tx K mg base := ⟨_, _, F0, (F0.binds fun _ _ _ _ _ _ us hl => match us, hl with | [_], _ => rfl), (PySem.W.mg_of X G a0), _, _, F1, (F1.binds fun _ _ _ _ _ _ us hl => match us, hl with | [_, _], _ => rfl), (PySem.W.mg_of X G a1), _, _, F2, (F2.binds fun _ _ _ _ _ _ us hl => match us, hl with | [_, _, _], _ => rfl), (PySem.W.mg_of X G a2), _, _, F3, (F3.binds fun _ _ _ _ _ _ us hl => match us, hl with | [_], _ => rfl), (PySem.W.mg_of X G a3), _, _, F4, (F4.binds fun _ _ _ _ _ _ us hl => match us, hl with | [_], _ => rfl), (PySem.W.mg_of X G a4), _, _, F5, (F5.binds fun _ _ _ _ _ _ us hl => match us, hl with | [_], _ => rfl), (PySem.W.mg_of X G a5), _, _, F6, (F6.binds fun _ _ _ _ _ _ us hl => match us, hl with | [_], _ => rfl), (PySem.W.mg_of X G a6), _, _, F7, (F7.binds fun _ _ _ _ _ _ us hl => match us, hl with | [_], _ => rfl), (PySem.W.mg_of X G a7), _, _, F8, (F8.binds fun _ _ _ _ _ _ us hl => match us, hl with | [_], _ => rfl), (PySem.W.mg_of X G a8), _, _, F9, (F9.binds fun _ _ _ _ _ _ us hl => match us, hl with | [_], _ => rfl), (PySem.W.mg_of X G a9), _, _, F10, (F10.binds fun _ _ _ _ _ _ us hl => match us, hl with | [_], _ => rfl), (PySem.W.mg_of X G a10), _, _, F11, (F11.binds fun _ _ _ _ _ _ us hl => match us, hl with | [_], _ => rfl), (PySem.W.mg_of X G a11), (PySem.W.mg_none_of X G z0), (PySem.W.mg_none_of X G z1), (PySem.W.mg_none_of X G z2), (PySem.W.mg_none_of X G z3), (PySem.W.mg_none_of X G z4), (PySem.W.mg_none_of X G z5), (PySem.W.mg_none_of X G z6), (PySem.W.mg_none_of X G z7), (PySem.W.mg_none_of X G z8), (PySem.W.mg_none_of X G z9), (PySem.W.mg_none_of X G z10), (PySem.W.mg_none_of X G z11), bi, knd, _, _, e6t, (hcs _ List.mem_cons_self), List.mem_cons_self, _, _, e8t, (hcs _ (List.mem_cons_of_mem _ List.mem_cons_self)), (List.mem_cons_of_mem _ List.mem_cons_self)⟩
    exact ok_law T
  case b1 => exact fun s v => .of_eq rfl
end Law
open PySem PySem.W PyProof.Rows
set_option maxHeartbeats 0 in
theorem PySem.Challenge.cw_swapsums_k05_what_is_told_of_a_shape_holds : PySem.Challenge.rw_swapsums_k05_what_is_told_of_a_shape.Holds := by
  w_on; o_law; k_head; (case hw => w_witness2)
  k_fill
  refine DL.walkT (l := PySem.Challenge.rw_swapsums_k05_what_is_told_of_a_shape) (n := 63) (k := 5) (x := "_law_script") (G := Law.F_law) (NM := fun _ _ => none) ["columns", "often"] rfl (by decide) rfl ⟨rfl, by decide, by decide⟩ (by decide +kernel) (fun w h Y => PySem.W.kIn_of Y) ?hnt ?F Law.law_true
  case hnt => exact fun w => by kernel_rfl
  case F =>
    intro w mg fa h KX G hmg tb
    refine' Law.all_mk KX G hmg tb ?a0 ?l0 ?c0 ?k0 ?a1 ?l1 ?c1 ?k1 ?a2 ?l2 ?c2 ?k2 ?a3 ?l3 ?c3 ?k3 ?a4 ?l4 ?c4 ?k4 ?a5 ?l5 ?c5 ?k5 ?a6 ?l6 ?c6 ?k6 ?a7 ?l7 ?c7 ?k7 ?a8 ?l8 ?c8 ?k8 ?a9 ?l9 ?c9 ?k9 ?a10 ?l10 ?c10 ?k10 ?a11 ?l11 ?c11 ?k11 ?z0 ?z1 ?z2 ?z3 ?z4 ?z5 ?z6 ?z7 ?z8 ?z9 ?z10 ?z11 ?knd
    (case a0 => k_is); (case l0 => k_is); (case c0 => k_is); (case k0 => k_is); (case a1 => k_is); (case l1 => k_is); (case c1 => k_is); (case k1 => k_is); (case a2 => k_is); (case l2 => k_is); (case c2 => k_is); (case k2 => k_is); (case a3 => k_is); (case l3 => k_is); (case c3 => k_is); (case k3 => k_is); (case a4 => k_is); (case l4 => k_is); (case c4 => k_is); (case k4 => k_is); (case a5 => k_is); (case l5 => k_is); (case c5 => k_is); (case k5 => k_is); (case a6 => k_is); (case l6 => k_is); (case c6 => k_is); (case k6 => k_is); (case a7 => k_is); (case l7 => k_is); (case c7 => k_is); (case k7 => k_is); (case a8 => k_is); (case l8 => k_is); (case c8 => k_is); (case k8 => k_is); (case a9 => k_is); (case l9 => k_is); (case c9 => k_is); (case k9 => k_is); (case a10 => k_is); (case l10 => k_is); (case c10 => k_is); (case k10 => k_is); (case a11 => k_is); (case l11 => k_is); (case c11 => k_is); (case k11 => k_is); (case z0 => k_is); (case z1 => k_is); (case z2 => k_is); (case z3 => k_is); (case z4 => k_is); (case z5 => k_is); (case z6 => k_is); (case z7 => k_is); (case z8 => k_is); (case z9 => k_is); (case z10 => k_is); (case z11 => k_is); (case knd => kernel_rfl)
