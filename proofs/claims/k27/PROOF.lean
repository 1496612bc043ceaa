import PyProof.Rows.All
import Wide.All
import OpenK.AllK
import Wide.FinOn
import HandS.ForMost
import HandS.Wide
import HandS.TupAny
import HandS.TupMul
import HandS.Zip
import KE.GoesEnum
import HandS.IsInst
import HandS.Conv
import HandS.Flow
import HandS.Style
import HandS.Rev
import HandS.AnyAll
import KE.KeyNested
import KE.KDictKeyed
import HandS.Strs
import HandS.EndBits
import HandS.GenList
import HandS.Nested
import HandS.EndTab
import HandS.SetFor
import HandS.SortInts
import HandS.TupSets
import HandS.SortOrd
import HandS.SortRule
import HandS.NamedTupSort
import HandS.Iter
import PyProof.AutoSeq1
import HandS.Deep
import KE.KDictSum
import KE.KDictList
import KE.KDictPairs
import HandS.More
import HandS.Text
import HandS.SortKw
import PyProof.Rows.IntBool
import KE.KIndexOf
import HandS.Sort
import HandS.TupLe
import KE.GoesZip
import KE.GoesMore
import HandS.DictComp
import HandS.RevRange
import KE.DataMinMax
import HandS.NoneIn
import HandS.TupLen
import PySem.Challenge.RW_swapsums_k27_all_tables_told
set_option Elab.async false
set_option linter.all false
set_option maxRecDepth 100000
/-! tuples that are laid with their very object, so that it is known that they have no dict -/
namespace PySem
/-- enumerate(v) lays two objects, whatever begins -/
theorem enum1_meets {v : Value} {ob : Obj} {Φ : Heap → Prop} (B : Begins v ob Φ) :
    Meets (Builtin.«enumerate.__new__» ⟨[.type "enumerate", v], []⟩) (fun _ R s => Φ s.heap ∧ R (.ok (.ret (.ref (s.heap.push ob).objs.size)))
      { s with heap := (s.heap.push ob).push { cls := .type "enumerate", data := .fields #[.none, .bool false, .ref s.heap.objs.size, rawInt 0, .none, .none] } }) :=
  .of_wp fun prog w A R s hyp => by
    obtain ⟨hp, g, d, tk, os⟩ := s; obtain ⟨hΦ, hyp⟩ := hyp
    have hsub := sub_enumerate
    have begun : ∀ {A1 : Around} {E1 : Value → Shared → Prop} {Q1 : Value → Shared → Prop}, Q1 (.ref hp.objs.size) ⟨hp.push ob, g, d, tk, os⟩ → wpAny (model prog w) A1 (pyIter v) Q1 E1 ⟨hp, g, d, tk, os⟩ := fun q => B.iter prog w _ _ ⟨hp, g, d, tk, os⟩ _ hΦ q
    wp_walk using begun
    refine wpAny_stack_any fun st => wpAny_pure ?_
    split
    · rename_i c _ _ _ _ _
      cases (c == Value.type "enumerate") <;> (wp_walk using begun; exact ⟨_, rfl, hyp⟩)
    · wp_walk using begun; exact ⟨_, rfl, hyp⟩
theorem enum1_call {prog : Program} {w : World} {A : Around} {E : Value → Shared → Prop} {s : Shared} {v : Value} {ob : Obj} {Φ : Heap → Prop} {Q : Value → Shared → Prop} (B : Begins v ob Φ) (hΦ : Φ s.heap)
    (k : ∀ h', IsEnum h' (s.heap.objs.size + 1) s.heap.objs.size 0 .none → h'.get? s.heap.objs.size = some ob → (∀ b o, s.heap.get? b = some o → h'.get? b = some o) → Q (.ref (s.heap.objs.size + 1)) { s with heap := h' }) :
    wpAny (model prog w) A (call (.type "enumerate") [v]) Q E s := by
  refine callType_new F.called_enumerate (by decide) (F.typeCall_enumerate_1 v) (F.newCall_enumerate_1 v) (fun obj => F.args_object_init_2 obj v) F.entry_enumerate_new (enum1_meets B) ⟨hΦ, ?_⟩
  have hz : (s.heap.push ob).objs.size = s.heap.objs.size + 1 := Heap.size_push ..
  have he := Heap.get?_push_size (s.heap.push ob) (o := { cls := .type "enumerate", data := .fields #[.none, .bool false, .ref s.heap.objs.size, rawInt 0, .none, .none] }) rfl
  show _ ∧ _
  rw [hz] at he ⊢
  exact ⟨⟨_, he, rfl⟩, k _ he (Heap.get?_push_of_some _ (Heap.get?_push_size _ B.free)) fun b o x => Heap.get?_push_of_some _ (Heap.get?_push_of_some _ x)⟩
end PySem
namespace DK
open PySem PySem.Spec PyProof.Rows L2
def tupO (its : List Value) : Obj := { cls := .type "tuple", data := .seq its.toArray }
/-- what a rule asks of its end where a new tuple is handed over -/
def NewT (H : Hp) (xs : List V) (Q : VK) : Prop := ∀ (p : Addr) (o : Obj), o.dict = none → H p = none → Q (.ref p) (upd H p (.frz o (.tup xs)))
section
variable {X : Cx} {pins : List (Addr × Obj)} {σ : L2.St} {H : Hp} {s : Shared} {xs : List V} {its : List Value} {Q : VK}
theorem laidT (I : Inv X pins σ H s) (r : Vals xs its) (hz : xs.length ≤ sizeLine) : Inv X pins σ (upd H s.heap.objs.size (.frz (tupO its) (.tup xs))) { s with heap := s.heap.push (tupO its) } :=
  I.laid (t' := s.toks) (fun b u e => Heap.get?_push_of_some _ e) (Nat.le_refl _) ⟨Heap.get?_push_size _ rfl, hz, its, r, IsTup.new _ _⟩
theorem endT (I : Inv X pins σ H s) (r : Vals xs its) (hz : xs.length ≤ sizeLine) (q : NewT H xs Q) : EP X pins σ Q (.ref s.heap.objs.size) { s with heap := s.heap.push (tupO its) } :=
  ⟨.ref s.heap.objs.size, _, laidT I r hz, rfl, q _ _ rfl (I.hok.fresh (Nat.le_refl _))⟩
end
/-! ### (a, b, ..) -/
def tTupF (t : TA) : TE := fun σ H Q => t σ H fun xs H1 => xs.length ≤ sizeLine ∧ NewT H1 xs Q
theorem pe_tupF {X : Cx} {es : List Expr} {t : TA} {pos : Pos} {x1} (h : PA X es t) : PE X (.Tuple es x1 pos) (tTupF t) :=
  ⟨fun pins s σ H Q I hq => wpAny_Tuple_spliced (thn (h.run pos pins s σ H _ I hq) fun us s1 ⟨xs, H1, I1, r, z, q⟩ => ⟨by rw [← r.length]; exact z, endT I1 r z q⟩)⟩
/-! ### t + u -/
def rCatF (K : PySem.W.Frag) : R2 := fun x y H Q => ∃ a b xs ys, x = .ref a ∧ y = .ref b ∧ SqT K H a xs ∧ SqT K H b ys ∧ xs.length + ys.length ≤ sizeLine ∧ (xs = [] → Q (.ref b) H) ∧ (xs ≠ [] → ys = [] → Q (.ref a) H) ∧ (xs ≠ [] → ys ≠ [] → NewT H (xs ++ ys) Q)
theorem op_catF {X : Cx} : OpR X (binaryOp .Add) (rCatF X.K) := by
  intro pins s σ H x y v u Q I rx ry ⟨a, b, xs, ys, ex, ey, ha, hb, hz, q0, q1, q2⟩
  subst ex ey
  cases rx
  cases ry
  obtain ⟨its, r1, p1, _⟩ := I.tuple ha
  obtain ⟨its2, r2, p2, _⟩ := I.tuple hb
  by_cases hx : xs = []
  · subst hx
    cases r1
    exact cat_tup0 p1 p2 ⟨.ref b, H, I, rfl, q0 rfl⟩
  · exact HT.cat_tup p1 p2 (fun z => hx (r1.nil_iff.mp z)) (fun z => ⟨.ref a, H, I, rfl, q1 hx (r2.nil_iff.mp z)⟩) (fun z => endT I (r1.append r2) (by rw [List.length_append]; exact hz) (q2 hx fun w => z (r2.nil_iff.mpr w))) (by rw [← r1.length, ← r2.length]; exact hz)
/-! ### tuple(x) -/
theorem call_tupleF {X : Cx} : CallR X (.type "tuple") (fun xs H Q => ∃ p ys, xs = [.ref p] ∧ ((SqL X.K H p ys ∧ NewT H ys Q) ∨ (SqT X.K H p ys ∧ Q (.ref p) H))) := by
  intro pins s σ H xs us Q I r ⟨p, ys, ex, h⟩
  subst ex
  rw [Vals.ref1 r]
  rcases h with ⟨hq, q⟩ | ⟨hq, q⟩
  · obtain ⟨its, rv, pl, hz⟩ := I.list hq
    have hl := rv.length
    refine call_tuple_list pl.isList (fun h' kp => endT (I.kept (t' := s.toks) kp) rv hz q) (by simp only [List.size_toArray] <;> omega)
  · obtain ⟨its, _, pl, _⟩ := I.tuple hq
    exact call_tuple_same pl ⟨.ref p, H, I, rfl, q⟩
/-! ### t[lo:hi] -/
def rSlF (K : PySem.W.Frag) : V → Option Int → Option Int → Hp → VK → Prop := fun x lo hi H Q => ∃ a xs, x = .ref a ∧ SqT K H a xs ∧
  (HT.sIx xs.length 0 lo = 0 ∧ HT.sIx xs.length xs.length hi = xs.length → Q (.ref a) H) ∧ (¬ (HT.sIx xs.length 0 lo = 0 ∧ HT.sIx xs.length xs.length hi = xs.length) → NewT H (cutV xs lo hi) Q)
theorem sl_tupF {X : Cx} : SlR X (rSlF X.K) := by
  intro pins s σ H x v vl vu lo hi sl Q I rx hs pl pu ⟨a, xs, ex, hx, q1, q2⟩
  subst ex
  cases rx
  obtain ⟨its, r, ht, hz⟩ := I.tuple hx
  have hn : its.toArray.size = xs.length := by rw [List.size_toArray]; exact r.length.symm
  refine ⟨"tuple", _, PyProof.Rows.slot_tuple_getitem.lookup, ht.typeIs, ?_⟩
  by_cases hw : HT.sIx xs.length 0 lo = 0 ∧ HT.sIx xs.length xs.length hi = xs.length
  · exact getItem_tuple_whole ht hs pl pu (by rw [hn]; exact hw) ⟨.ref a, H, I, rfl, q1 hw⟩
  · refine HT.getItem_tuple_cut ht hs pl pu (by rw [hn]; exact hw) ?_ (by rw [hn]; exact hz)
    rw [hn]
    exact endT I (xs := cutV xs lo hi) ((r.drop (HT.sIx xs.length 0 lo)).take (HT.sIx xs.length xs.length hi - HT.sIx xs.length 0 lo)) (Nat.le_trans (cutV_length xs lo hi) hz) (q2 hw)
end DK

set_option maxHeartbeats 4000000
namespace DK
open PySem PySem.Spec PyProof.Rows L2
/-! ### t * n -/
section
variable (l : Addr) (items : Array Value) (n : Nat) (dd : Option Addr) (sl : Array (Option Value)) (u : Tok)
theorem mul_one (c0 : items.isEmpty = false) :
    Meets (Builtin.«tuple.__mul__» ⟨[.ref l, .int 1 u], []⟩) (fun _ R s => s.heap.get? l = some { cls := .type "tuple", dict := dd, data := .seq items n, slots := sl } ∧ R (.ok (.ret (.ref l))) s) :=
  .of_wp fun prog w A R s h => by
    obtain ⟨hp, g, d, tk, os⟩ := s
    obtain ⟨hl, h⟩ := h
    have f1 := AutoSeq1.idx_int
    have ht : (Shared.mk hp g d tk os).TypeIs (.ref l) "tuple" := ⟨_, hl, rfl⟩
    have c1 : (items.isEmpty || (1 : Int) == 1) = true := by rw [c0]; rfl
    wp_walk using wpAny_loadPart' hl
    all_goals (first
      | exact ⟨_, rfl, h⟩
      | (refine wpAny_ite_true (decide_eq_true (by rw [c1])) ?_; wp_walk using wpAny_loadPart' hl; all_goals exact ⟨_, rfl, h⟩))
theorem mul_none {x : Int} (c0 : items.isEmpty = false) (hx : x ≤ 0) (hx2 : -(2 ^ 63) ≤ x) :
    Meets (Builtin.«tuple.__mul__» ⟨[.ref l, .int x u], []⟩) (fun _ R s => s.heap.get? l = some { cls := .type "tuple", dict := dd, data := .seq items n, slots := sl } ∧
      R (.ok (.ret (.ref s.heap.objs.size))) { s with heap := s.heap.push (tupO []) }) :=
  .of_wp fun prog w A R s h => by
    obtain ⟨hp, g, d, tk, os⟩ := s
    obtain ⟨hl, h⟩ := h
    have f1 := AutoSeq1.idx_int
    have b0 : (decide (x < -(2 ^ 63)) || decide (x ≥ 2 ^ 63)) = false := by rw [decide_eq_false (by omega), decide_eq_false (by omega)]; rfl
    have b1 : (items.isEmpty || x == 1) = false := by rw [c0, Bool.false_or]; exact beq_eq_false_iff_ne.mpr (by omega)
    have b2 : (decide (x ≤ 0) || items.isEmpty) = true := by rw [decide_eq_true hx]; rfl
    wp_walk using wpAny_loadPart' hl
    repeat (first
      | (refine wpAny_ite_false (decide_eq_false (by rw [b0]; exact Bool.false_ne_true)) ?_; wp_walk using wpAny_loadPart' hl)
      | (refine wpAny_ite_false (decide_eq_false (by rw [b1]; exact Bool.false_ne_true)) ?_; wp_walk using wpAny_loadPart' hl)
      | (refine wpAny_ite_true (decide_eq_true (by rw [b2])) ?_; wp_walk using wpAny_loadPart' hl))
    all_goals exact ⟨_, rfl, h⟩
end
def rRepF (K : PySem.W.Frag) : R2 := fun x y H Q => ∃ l k xs, x = .ref l ∧ y = .int k ∧ SqT K H l xs ∧ xs ≠ [] ∧ -1000 ≤ k ∧ k ≤ 1000 ∧ xs.length ≤ 1000 ∧ (k = 1 → Q (.ref l) H) ∧ (k ≠ 1 → NewT H (List.replicate k.toNat xs).flatten Q)
theorem op_repF {X : Cx} : OpR X (binaryOp .Mult) (rRepF X.K) := by
  intro pins s σ H x y v u Q I rx ry ⟨l, k, xs, ex, ey, hT, hne, k0, k1, hz, q1, q2⟩
  subst ex ey
  cases rx
  obtain ⟨t, rfl⟩ := ry
  obtain ⟨its, r, ⟨⟨cls, dd, data, sl⟩, ho, hc, n, hd⟩, hs⟩ := I.tuple hT
  simp only at hc hd
  subst hc hd
  have hle : its.length = xs.length := r.length.symm
  have hi : its.toArray.isEmpty = false := by
    cases its with
    | nil => exact absurd (List.eq_nil_of_length_eq_zero hle.symm) hne
    | cons a b => rfl
  have go : ∀ {Φ : Around → (Result → Shared → Prop) → Shared → Prop}, True := fun {_} => trivial
  suffices h : wpAny (model X.prog X.w) X.A (call (.builtin "tuple.__mul__") [.ref l, .int k t]) (EP X pins σ Q) X.xe s from
    wpAny_binaryOp_repeat_ref (T := "tuple") (U := "int") (by decide) ⟨_, ho, rfl⟩ (fun s' => typeIs_int s' k t) noFill_tuple_mul F.fills_int_mul F.slot_int_rmul repeat_tuple F.slot_int_index.lookup
      (call_meets F.slot_int_rmul (typeIs_int s k t) F.entry_int_rmul (F.args_int_rmul_2 _ _) (int_rmul_tuple k t l its.toArray n dd sl) ⟨ho, rfl, ⟨_, ho, rfl⟩, h⟩)
  have flen : (List.replicate k.toNat its).flatten.length ≤ sizeLine := by
    rw [PyProof.Rows.lm_len_rep_flat, hle, sizeLine_eq]
    have a1 : k.toNat * xs.length ≤ 1000 * 1000 := Nat.mul_le_mul (by omega) hz
    omega
  have vlen : (List.replicate k.toNat xs).flatten.length ≤ sizeLine := by
    rw [← (r.rep k.toNat).length] at flen
    exact flen
  by_cases h1 : k = 1
  · subst h1
    exact call_meets F.slot_tuple_mul ⟨_, ho, rfl⟩ F.entry_tuple_mul (F.args_tuple_mul_2 _ _) (mul_one l its.toArray n dd sl t hi) ⟨ho, .ref l, H, I, rfl, q1 rfl⟩
  · by_cases h0 : k ≤ 0
    · have e0 : k.toNat = 0 := by omega
      have e1 : (List.replicate k.toNat xs).flatten = [] := by rw [e0]; rfl
      have q3 := q2 h1
      rw [e1] at q3
      exact call_meets F.slot_tuple_mul ⟨_, ho, rfl⟩ F.entry_tuple_mul (F.args_tuple_mul_2 _ _) (mul_none l its.toArray n dd sl t hi h0 (by omega)) ⟨ho, endT (its := []) I .nil (by show 0 ≤ sizeLine; exact Nat.zero_le _) q3⟩
    · have hsz0 : its.toArray.size = xs.length := by rw [List.size_toArray, hle]
      have hm : ((its.toArray.size : Nat) : Int) * k ≤ 1000000 := by
        rw [hsz0]
        have a1 : ((xs.length : Nat) : Int) * k ≤ 1000 * k := Int.mul_le_mul_of_nonneg_right (by omega) (by omega)
        omega
      refine call_meets F.slot_tuple_mul ⟨_, ho, rfl⟩ F.entry_tuple_mul (F.args_tuple_mul_2 _ _) (tuple_mulW l its.toArray n dd sl k t ?_ ?_ ?_ (by omega) ?_ (by rw [size_rep, List.size_toArray]; exact flen)) ⟨ho, ?_⟩
      · rw [decide_eq_false (by omega), decide_eq_false (by omega)]; rfl
      · rw [hi, Bool.false_or]; exact beq_eq_false_iff_ne.mpr h1
      · rw [hi, Bool.or_false]; exact decide_eq_false h0
      · unfold Builtin.Tuple.tupleTooMany
        rw [sizeLine_eq]
        exact decide_eq_false (by omega)
      · rw [size_rep]
        exact endT I (r.rep k.toNat) vlen (q2 h1)
/-! ### pairs that a zip, an enumerate hand out -/
/-- a list (true) or a tuple (false) -/
def Sq (kd : Bool) (K : PySem.W.Frag) (H : Hp) (a : Addr) (xs : List V) : Prop := match kd with
  | true => SqL K H a xs
  | false => SqT K H a xs
def ItAt (kd : Bool) (h : Heap) (it a : Addr) (i : Nat) : Prop := match kd with
  | true => h.IsListIter it a i
  | false => h.IsTupleIter it a i
theorem ItAt.at {kd : Bool} {h h' : Heap} {it a : Addr} {i : Nat} (x : ItAt kd h it a i) (k : ∀ o, h.get? it = some o → h'.get? it = some o) : ItAt kd h' it a i := by
  cases kd
  · exact Heap.IsTupleIter.at x k
  · exact Heap.IsListIter.at x k
theorem ItAt.obj {kd : Bool} {h : Heap} {it a : Addr} {i : Nat} (x : ItAt kd h it a i) : ∃ o, h.get? it = some o ∧ ∀ v, o.data ≠ .cell v := by
  cases kd
  · obtain ⟨o, e, _, d⟩ := (show h.IsTupleIter it a i from x)
    exact ⟨o, e, fun v q => by rw [d] at q; cases q⟩
  · obtain ⟨o, e, _, d⟩ := (show h.IsListIter it a i from x)
    exact ⟨o, e, fun v q => by rw [d] at q; cases q⟩
def prO (u u2 : Value) : Obj := { cls := .type "tuple", data := .seq #[u, u2] }
section
variable {X : Cx} {pins : List (Addr × Obj)} {σ : L2.St} {H : Hp} {s : Shared}
theorem sq_inj (I : Inv X pins σ H s) {kd : Bool} {a : Addr} {xs ys : List V} (h : Sq kd X.K H a xs) (h' : Sq kd X.K H a ys) : xs = ys := by
  cases kd
  · exact I.tuple_inj h h'
  · exact I.list_inj h h'
/-- a pair is laid while records of ours have turned -/
theorem laidP {t' : Nat} {h' : Heap} {ch : List Addr} {x y : V} {u u2 : Value} (I : Inv X pins σ H s) (k : ∀ b o, b ∉ ch → s.heap.get? b = some o → h'.get? b = some o) (hf : ∀ b ∈ ch, FpOk X pins H b) (hT : h'.get? s.heap.objs.size = some (prO u u2)) (r1 : RelV x u) (r2 : RelV y u2) :
    Inv X pins σ (upd H s.heap.objs.size (.frz (prO u u2) (.tup [x, y]))) { s with heap := h', toks := t' } :=
  I.turnedNew k hf (Nat.le_refl _) ⟨hT, by show 2 ≤ sizeLine; decide, [u, u2], .cons r1 (.cons r2 .nil), ⟨_, hT, rfl, _, rfl⟩⟩
end
end DK

set_option maxHeartbeats 4000000
namespace DK
open PySem PySem.Spec PyProof.Rows L2 RZ
/-! ### enumerate -/
def ItE (kd : Bool) (K : PySem.W.Frag) (a : Addr) : It where
  go := fun i H => ∃ (xs : List V) (x : V), Sq kd K H a xs ∧ xs[i]? = some x
  yld := fun i H v H' => ∃ (T : Addr) (o : Obj) (x : V), v = .ref T ∧ o.dict = none ∧ H T = none ∧ H' = upd H T (.frz o (.tup [.int (i : Nat), x])) ∧ ∀ xs, Sq kd K H a xs → xs[i]? = some x
  stop := fun i H => ∃ xs : List V, Sq kd K H a xs ∧ xs.length ≤ i
theorem enum_item {kd : Bool} {X : Cx} {pins : List (Addr × Obj)} {σ : L2.St} {H : Hp} {s : Shared} {E : Value → Shared → Prop} {a e it : Addr} {i : Nat} {old x : Value} {vs : List V} {v : V} {Q : Option Value → Shared → Prop} (I : Inv X pins σ H s) (hh : X.A.handled = none)
    (he : IsEnum s.heap e it (i : Nat) old) (hit : ItAt kd s.heap it a i) (hne : e ≠ it) (hae : a ≠ e) (hai : a ≠ it) (hq : Sq kd X.K H a vs) (hv : vs[i]? = some v)
    (k : ∀ u h' tk, RelV v u → IsEnumOut h' e it ((i : Int) + 1) u s.heap.objs.size → ItAt kd h' it a (i + 1) → h'.get? s.heap.objs.size = some (prO (.int i tk) u) → (∀ b o, b ≠ e → b ≠ it → s.heap.get? b = some o → h'.get? b = some o) →
      Q (some (.ref s.heap.objs.size)) { s with heap := h', toks := tk + 1 }) : wpAny (model X.prog X.w) X.A (pyNext (.ref e)) Q E s := by
  have hin : X.A.in1.handled = none := hh
  have main : ∀ {its : List Value} {St : Nat → Heap → Prop}, Vals vs its → Draws X.prog X.w X.A.in1 it [it, a] its.toArray.size (fun i v => its.toArray[i]? = some v) St → St i s.heap → (∀ h, St (i + 1) h → ItAt kd h it a (i + 1)) → wpAny (model X.prog X.w) X.A (pyNext (.ref e)) Q E s := by
    intro its St rv D st kk
    obtain ⟨u, hu, ru⟩ := rv.get hv
    have hi : i < its.toArray.size := by
      rw [List.size_toArray]
      exact (List.getElem?_eq_some_iff.mp hu).1
    refine wpAny_pyNext_enum_itemD D he st hi hne (by simp [hne, Ne.symm hae]) fun y h' tk hy ho hit' hT _ hk => ?_
    have ey : y = u := Option.some.inj (hy.symm.trans (show its.toArray[i]? = some u by simpa using hu))
    subst ey
    exact k y h' tk ru ho (kk _ hit') hT hk
  cases kd
  · obtain ⟨its, rv, p, _⟩ := I.tuple hq
    exact main rv (Draws.tuple hin it a hai its.toArray) ⟨hit, p⟩ fun h z => z.1
  · obtain ⟨its, rv, p, _⟩ := I.list hq
    exact main rv (Draws.list hin it a hai its.toArray) ⟨hit, p.isList⟩ fun h z => z.1
theorem enum_done {kd : Bool} {X : Cx} {pins : List (Addr × Obj)} {σ : L2.St} {H : Hp} {s : Shared} {E : Value → Shared → Prop} {a e it : Addr} {i : Nat} {old : Value} {vs : List V} {Q : Option Value → Shared → Prop} (I : Inv X pins σ H s) (hh : X.A.handled = none)
    (he : IsEnum s.heap e it (i : Nat) old) (hit : ItAt kd s.heap it a i) (hq : Sq kd X.K H a vs) (hv : vs.length ≤ i) (k : ∀ h', Heap.ExtBut it s.heap h' → Q none { s with heap := h' }) : wpAny (model X.prog X.w) X.A (pyNext (.ref e)) Q E s := by
  unfold pyNext
  refine wpAny_bind (wpAny_attempt (wpAny_callSpecial?_slot (name := Str.ofString "__next__") ⟨_, he, rfl⟩ PySem.F.slot_enumerate_next (wpAny_call_entry PySem.F.slot_enumerate_next ⟨_, he, rfl⟩ PySem.F.entry_enumerate_next ?_ (PySem.F.args_enumerate_next_1 _))))
  show wpAny _ _ (field (.ref e) 2 >>= _) _ _ _
  refine wpAny_bind (wpAny_field he rfl (x := .ref it) rfl ?_)
  have fin : ∀ {h' : Heap} {x : Addr} {Q' : Option Value → Shared → Prop}, True := fun {_ _ _} => trivial
  cases kd
  · obtain ⟨its, rv, p, _⟩ := I.tuple hq
    have hl := rv.length
    refine wpAny_bind (wpAny_nextOf_tuple_end hh hit p (by simp; omega) fun h' x he' ⟨o, ho, hc'⟩ => ?_)
    exact wpAny_bind (wpAny_isInstance (T := "StopIteration") (b := true) ⟨o, ho, hc'⟩ isSubtype_stop (wpAny_pure (k _ he')))
  · obtain ⟨its, rv, p, _⟩ := I.list hq
    have hl := rv.length
    refine wpAny_bind (wpAny_nextOf_list_end hh hit p.isList (by simp; omega) fun h' x he' ⟨o, ho, hc'⟩ => ?_)
    exact wpAny_bind (wpAny_isInstance (T := "StopIteration") (b := true) ⟨o, ho, hc'⟩ isSubtype_stop (wpAny_pure (k _ he')))
theorem turn_enumF {kd : Bool} {P : Program} {w : World} {K : PySem.W.Frag} {elts : List Expr} {kk : Nat} {tpos : Pos} (a e it : Addr) (hae : a ≠ e) (hai : a ≠ it) :
    Turn P w K (.Tuple elts kk tpos) (ItE kd K a) [e, it] e (fun i h => (∃ old, IsEnum h e it ((i : Nat) : Int) old) ∧ ItAt kd h it a i ∧ e ≠ it) where
  mem := by simp
  obj := fun i h ⟨⟨old, he⟩, hi, _⟩ b hb => by
    rcases (show b = e ∨ b = it by simpa using hb) with rfl | rfl
    · exact ⟨_, he, fun v q => nomatch q⟩
    · exact hi.obj
  keep := fun i h h' ⟨⟨old, he⟩, hi, hne⟩ k => ⟨⟨old, k e (by simp) _ he⟩, hi.at fun o q => k it (by simp) o q, hne⟩
  item := by
    intro X hP hw hK hc i pins s σ H E I hf ⟨⟨old, he⟩, hit, hne⟩ ⟨xs, x, hq, hx⟩
    subst hP hw hK
    have hel : e < s.heap.objs.size := Heap.lt_size he
    have hil : it < s.heap.objs.size := by obtain ⟨_, q, _⟩ := hit.obj; exact Heap.lt_size q
    refine enum_item (x := .none) I (I.ok.hd hc) he hit hne hae hai hq hx fun u h' tk ru ho hit' hT hk => ⟨_, rfl, wpAny_letOwnedTupleGo_enum (s := { s with heap := h', toks := tk + 1 }) ho fun h'' he' sb => ?_⟩
    have I1 := laidP (t' := tk + 1) (h' := h'') (ch := [e, it]) (x := .int (i : Nat)) (y := x) (u := .int i tk) (u2 := u) I (fun b ob hb q => (sb.2 b (fun z => hb (by simp [z]))).trans (hk b ob (fun z => hb (by simp [z])) (fun z => hb (by simp [z])) q)) hf ((sb.2 _ (Nat.ne_of_gt hel)).trans hT) ⟨_, rfl⟩ ru
    refine ⟨.ref s.heap.objs.size, _, I1, rfl, ⟨_, _, x, rfl, rfl, I.hok.fresh (Nat.le_refl _), rfl, fun ys hy => by rw [sq_inj I hy hq]; exact hx⟩, ⟨⟨u, ?_⟩, hit'.at fun o q => (sb.2 it (Ne.symm hne)).trans q, hne⟩, fun b hb => ?_⟩
    · rw [show ((i + 1 : Nat) : Int) = (i : Int) + 1 by omega]; exact he'
    · have hb' : b < s.heap.objs.size := by
        rcases (show b = e ∨ b = it by simpa using hb) with rfl | rfl
        · exact hel
        · exact hil
      rw [upd_ne (Nat.ne_of_lt hb')]
      exact (hf b hb).1
  done := by
    intro X hP hw hK hc i pins s σ H E I hf ⟨⟨old, he⟩, hit, hne⟩ ⟨xs, hq, hx⟩
    subst hP hw hK
    obtain ⟨f0, f1, f2, f3, f4, f5⟩ := hf it (by simp)
    exact enum_done I (I.ok.hd hc) he hit hq hx fun h' eb => ⟨rfl, I.turned (t' := s.toks) (fun b o hb q => eb b o hb q) f0 f1 f3 f4 f5⟩
  self := fun A i s Q E ⟨⟨_, he⟩, _⟩ h => wpAny_pyIter_enum he h
def iEnumF (K : PySem.W.Frag) (ta : TA) : TI := fun σ H R => ta σ H fun vs H1 => ∃ (kd : Bool) (a : Addr) (xs : List V), vs = [.ref a] ∧ Sq kd K H1 a xs ∧ R (ItE kd K a) H1
theorem pi_enumF {X : Cx} {e : Expr} {ta : TA} {p pos tpos : Pos} {elts : List Expr} {kk : Nat} (hg : Gl X "enumerate") (hm : X.mg "enumerate" = none) (ha : PA X [e] ta) (hs : starEach [e] X.env = [(false, eval e X.env)] := by rfl) :
    PI X (.Tuple elts kk tpos) (.Call (.Name "enumerate" p) [e] [] pos) (iEnumF X.K ta) := by
  refine ⟨fun pins s σ H R I h => Call_ (ld_blt I hg hm boot_enumerate (PyProof.Rows.callWith_type1 (thn (ha.run pos pins s σ H _ I h) fun us s1 ⟨vs, H1, I1, r1, kd, a, xs, ex, hq, q⟩ => ?_) hs rfl))⟩
  subst ex
  rw [Vals.ref1 r1]
  have fin : ∀ {h' : Heap} {ob : Obj}, a < s1.heap.objs.size → IsEnum h' (s1.heap.objs.size + 1) s1.heap.objs.size 0 .none → h'.get? s1.heap.objs.size = some ob → ItAt kd h' s1.heap.objs.size a 0 → (∀ b o, s1.heap.get? b = some o → h'.get? b = some o) →
      PIE X pins σ (.Tuple elts kk tpos) R (.ref (s1.heap.objs.size + 1)) { s1 with heap := h' } := fun {h' ob} hal he ho hit hk => by
    refine ⟨s1.heap.objs.size + 1, [s1.heap.objs.size + 1, s1.heap.objs.size], _, _, H1, rfl, I1.kept (t' := s1.toks) hk, turn_enumF (kd := kd) a (s1.heap.objs.size + 1) s1.heap.objs.size (Nat.ne_of_lt (Nat.lt_succ_of_lt hal)) (Nat.ne_of_lt hal), ⟨⟨.none, he⟩, hit, Nat.succ_ne_self _⟩, fun b hb => ?_, q⟩
    have hle : s1.heap.objs.size ≤ b := by
      rcases (show b = s1.heap.objs.size + 1 ∨ b = s1.heap.objs.size by simpa using hb) with rfl | rfl <;> omega
    exact I1.fpOk hle (I1.hok.fresh hle)
  cases kd
  · obtain ⟨its, rv, p', _⟩ := I1.tuple hq
    exact enum1_call (begins_tuple a its.toArray) p' fun h' he hit hk => wpAny_pyIter_enum he (fin p'.lt he hit ⟨_, hit, rfl, rfl⟩ hk)
  · obtain ⟨its, rv, p', _⟩ := I1.list hq
    exact enum1_call (begins_list a its.toArray) p'.isList fun h' he hit hk => wpAny_pyIter_enum he (fin p'.lt he hit ⟨_, hit, rfl, rfl⟩ hk)
/-! ### zip of two lists, of two tuples -/
def ItZ (kd : Bool) (K : PySem.W.Frag) (a b : Addr) : It where
  go := fun i H => ∃ (xs ys : List V) (x y : V), Sq kd K H a xs ∧ Sq kd K H b ys ∧ xs[i]? = some x ∧ ys[i]? = some y
  yld := fun i H v H' => ∃ (T : Addr) (o : Obj) (x y : V), v = .ref T ∧ o.dict = none ∧ H T = none ∧ H' = upd H T (.frz o (.tup [x, y])) ∧ (∀ xs, Sq kd K H a xs → xs[i]? = some x) ∧ ∀ ys, Sq kd K H b ys → ys[i]? = some y
  stop := fun i H => ∃ xs ys : List V, Sq kd K H a xs ∧ Sq kd K H b ys ∧ (xs.length ≤ i ∨ ys.length ≤ i)
theorem zip_item {kd : Bool} {X : Cx} {pins : List (Addr × Obj)} {σ : L2.St} {H : Hp} {s : Shared} {E : Value → Shared → Prop} {a b z TI TO i1 i2 : Addr} {i : Nat} {x0 y0 : Value} {vs ws : List V} {v w : V} {Q : Option Value → Shared → Prop} (I : Inv X pins σ H s) (D : ZipApart z TI TO i1 i2 a b)
    (hz : IsZip s.heap z TI TO .none) (hTI : PySem.IsPair s.heap TI (.ref i1) (.ref i2)) (hTO : PySem.IsPair s.heap TO x0 y0) (h1 : ItAt kd s.heap i1 a i) (h2 : ItAt kd s.heap i2 b i) (q1 : Sq kd X.K H a vs) (q2 : Sq kd X.K H b ws) (hv : vs[i]? = some v) (hw : ws[i]? = some w)
    (k : ∀ u u2 h', RelV v u → RelV w u2 → IsZip h' z TI TO (rawInt s.heap.objs.size) → PySem.IsPair h' TO u u2 → ItAt kd h' i1 a (i + 1) → ItAt kd h' i2 b (i + 1) → PySem.IsPair h' s.heap.objs.size u u2 →
      (∀ c o, c ≠ z → c ≠ TO → c ≠ i1 → c ≠ i2 → s.heap.get? c = some o → h'.get? c = some o) → Q (some (.ref s.heap.objs.size)) { s with heap := h' }) : wpAny (model X.prog X.w) X.A (pyNext (.ref z)) Q E s := by
  cases kd
  · obtain ⟨its, rv, p, _⟩ := I.tuple q1
    obtain ⟨its2, rv2, p2, _⟩ := I.tuple q2
    obtain ⟨u, hu, ru⟩ := rv.get hv
    obtain ⟨u2, hu2, ru2⟩ := rv2.get hw
    exact pyNext_zipT_item D hz hTI hTO h1 h2 p p2 (by simpa using hu) (by simpa using hu2) fun h' z' T' a1 a2 hT _ hk => k u u2 h' ru ru2 z' T' a1 a2 hT hk
  · obtain ⟨its, rv, p, _⟩ := I.list q1
    obtain ⟨its2, rv2, p2, _⟩ := I.list q2
    obtain ⟨u, hu, ru⟩ := rv.get hv
    obtain ⟨u2, hu2, ru2⟩ := rv2.get hw
    exact wpAny_pyNext_zip_item D hz hTI hTO h1 h2 p.isList p2.isList (by simpa using hu) (by simpa using hu2) fun h' z' T' a1 a2 hT _ hk => k u u2 h' ru ru2 z' T' a1 a2 hT hk
theorem zip_done {kd : Bool} {X : Cx} {pins : List (Addr × Obj)} {σ : L2.St} {H : Hp} {s : Shared} {E : Value → Shared → Prop} {a b z TI TO i1 i2 : Addr} {i : Nat} {x0 y0 : Value} {vs ws : List V} {Q : Option Value → Shared → Prop} (I : Inv X pins σ H s) (hh : X.A.handled = none) (D : ZipApart z TI TO i1 i2 a b)
    (hz : IsZip s.heap z TI TO .none) (hTI : PySem.IsPair s.heap TI (.ref i1) (.ref i2)) (hTO : PySem.IsPair s.heap TO x0 y0) (h1 : ItAt kd s.heap i1 a i) (h2 : ItAt kd s.heap i2 b i) (q1 : Sq kd X.K H a vs) (q2 : Sq kd X.K H b ws) (he : vs.length ≤ i ∨ ws.length ≤ i)
    (k : ∀ h', (∀ c o, c ≠ z → c ≠ TO → c ≠ i1 → c ≠ i2 → s.heap.get? c = some o → h'.get? c = some o) → Q none { s with heap := h' }) : wpAny (model X.prog X.w) X.A (pyNext (.ref z)) Q E s := by
  have out : ∀ {its its2 : List Value}, Vals vs its → Vals ws its2 → its.toArray[i]? = none ∨ its2.toArray[i]? = none := fun {its its2} r r2 => by
    have l1 := r.length
    have l2 := r2.length
    rcases he with q | q
    · exact .inl (by simp; omega)
    · exact .inr (by simp; omega)
  cases kd
  · obtain ⟨its, rv, p, _⟩ := I.tuple q1
    obtain ⟨its2, rv2, p2, _⟩ := I.tuple q2
    exact pyNext_zipT_end hh D hz hTI hTO h1 h2 p p2 (out rv rv2) k
  · obtain ⟨its, rv, p, _⟩ := I.list q1
    obtain ⟨its2, rv2, p2, _⟩ := I.list q2
    exact wpAny_pyNext_zip_end hh D hz hTI hTO h1 h2 p.isList p2.isList (out rv rv2) k
theorem turn_zipF {kd : Bool} {P : Program} {w : World} {K : PySem.W.Frag} {elts : List Expr} {kk : Nat} {tpos : Pos} {a b z TI TO i1 i2 : Addr} (D : ZipApart z TI TO i1 i2 a b) :
    Turn P w K (.Tuple elts kk tpos) (ItZ kd K a b) [z, TI, TO, i1, i2] z (fun i h => IsZip h z TI TO .none ∧ PySem.IsPair h TI (.ref i1) (.ref i2) ∧ (∃ x y, PySem.IsPair h TO x y) ∧ ItAt kd h i1 a i ∧ ItAt kd h i2 b i) where
  mem := by simp
  obj := fun i h ⟨hz, hTI, ⟨x, y, hTO⟩, h1, h2⟩ c hc => by
    rcases (show c = z ∨ c = TI ∨ c = TO ∨ c = i1 ∨ c = i2 by simpa using hc) with rfl | rfl | rfl | rfl | rfl
    · exact ⟨_, hz, fun v q => nomatch q⟩
    · exact ⟨_, hTI, fun v q => nomatch q⟩
    · exact ⟨_, hTO, fun v q => nomatch q⟩
    · exact h1.obj
    · exact h2.obj
  keep := fun i h h' ⟨hz, hTI, ⟨x, y, hTO⟩, h1, h2⟩ k => ⟨k z (by simp) _ hz, k TI (by simp) _ hTI, ⟨x, y, k TO (by simp) _ hTO⟩, h1.at fun o q => k i1 (by simp) o q, h2.at fun o q => k i2 (by simp) o q⟩
  item := by
    intro X hP hw hK hc i pins s σ H E I hf ⟨hz, hTI, ⟨x0, y0, hTO⟩, h1, h2⟩ ⟨xs, ys, x, y, qx, qy, hx, hy⟩
    subst hP hw hK
    have lt : ∀ c ∈ [z, TI, TO, i1, i2], c < s.heap.objs.size := fun c hcm => by
      rcases (show c = z ∨ c = TI ∨ c = TO ∨ c = i1 ∨ c = i2 by simpa using hcm) with rfl | rfl | rfl | rfl | rfl
      · exact Heap.lt_size hz
      · exact Heap.lt_size hTI
      · exact Heap.lt_size hTO
      · obtain ⟨_, q, _⟩ := h1.obj; exact Heap.lt_size q
      · obtain ⟨_, q, _⟩ := h2.obj; exact Heap.lt_size q
    have zl := lt z (by simp)
    refine zip_item I D hz hTI hTO h1 h2 qx qy hx hy fun u u2 h' ru ru2 z' TO' h1' h2' hT hk => ⟨_, rfl, wpAny_letOwnedTupleGo_zip (s := { s with heap := h' }) z' fun h'' z'' sb => ?_⟩
    have I1 := laidP (t' := s.toks) (h' := h'') (ch := [z, TI, TO, i1, i2]) (x := x) (y := y) (u := u) (u2 := u2) I (fun c o hb q => (sb.2 c (fun q' => hb (by simp [q']))).trans (hk c o (fun q' => hb (by simp [q'])) (fun q' => hb (by simp [q'])) (fun q' => hb (by simp [q'])) (fun q' => hb (by simp [q'])) q)) hf ((sb.2 _ (Nat.ne_of_gt zl)).trans hT) ru ru2
    refine ⟨.ref s.heap.objs.size, _, I1, rfl, ⟨_, _, x, y, rfl, rfl, I.hok.fresh (Nat.le_refl _), rfl, fun l hl => by rw [sq_inj I hl qx]; exact hx, fun l hl => by rw [sq_inj I hl qy]; exact hy⟩, ⟨z'', ?_, ⟨u, u2, ?_⟩, ?_, ?_⟩, fun c hcm => ?_⟩
    · exact (sb.2 _ D.TIz).trans (hk TI _ D.TIz D.TITO D.TIi1 D.TIi2 hTI)
    · exact (sb.2 _ D.TOz).trans TO'
    · exact h1'.at fun o q => (sb.2 _ D.i1z).trans q
    · exact h2'.at fun o q => (sb.2 _ D.i2z).trans q
    · rw [upd_ne (Nat.ne_of_lt (lt c hcm))]
      exact (hf c hcm).1
  done := by
    intro X hP hw hK hc i pins s σ H E I hf ⟨hz, hTI, ⟨x0, y0, hTO⟩, h1, h2⟩ ⟨xs, ys, qx, qy, he⟩
    subst hP hw hK
    exact zip_done I (I.ok.hd hc) D hz hTI hTO h1 h2 qx qy he fun h' hk => ⟨rfl, I.turnedL (t' := s.toks) (ch := [z, TI, TO, i1, i2]) (fun c o hb q => hk c o (fun q' => hb (by simp [q'])) (fun q' => hb (by simp [q'])) (fun q' => hb (by simp [q'])) (fun q' => hb (by simp [q'])) q) hf⟩
  self := fun A i s Q E st h => wpAny_pyIter_zip st.1 h
def iZipF (K : PySem.W.Frag) (ta : TA) : TI := fun σ H R => ta σ H fun vs H1 => ∃ (kd : Bool) (a b : Addr) (xs ys : List V), vs = [.ref a, .ref b] ∧ Sq kd K H1 a xs ∧ Sq kd K H1 b ys ∧ R (ItZ kd K a b) H1
theorem pi_zipF {X : Cx} {e e2 : Expr} {ta : TA} {p pos tpos : Pos} {elts : List Expr} {kk : Nat} (hg : Gl X "zip") (hm : X.mg "zip" = none) (ha : PA X [e, e2] ta)
    (hs : starEach [e, e2] X.env = (false, eval e X.env) :: starEach [e2] X.env := by rfl) (hpl : (backTo pos (starEach [e2] X.env)).any (·.1) = false := by rfl) :
    PI X (.Tuple elts kk tpos) (.Call (.Name "zip" p) [e, e2] [] pos) (iZipF X.K ta) := by
  refine ⟨fun pins s σ H R I h => Call_ (ld_blt I hg hm PyProof.Rows.boot_zip (PyProof.Rows.callWith_type1 (thn (ha.run pos pins s σ H _ I h) fun us s1 ⟨vs, H1, I1, r1, kd, a, b, xs, ys, ex, qx, qy, q⟩ => ?_) hs hpl))⟩
  subst ex
  have eu : us = [.ref a, .ref b] := by
    cases r1 with
    | cons r rr => cases rr with
      | cons r' rr' => cases rr'; cases r; cases r'; rfl
  subst eu
  have fin : ∀ {h' : Heap}, a < s1.heap.objs.size → b < s1.heap.objs.size → IsZip h' (s1.heap.objs.size + 4) (s1.heap.objs.size + 2) (s1.heap.objs.size + 3) .none → PySem.IsPair h' (s1.heap.objs.size + 2) (.ref s1.heap.objs.size) (.ref (s1.heap.objs.size + 1)) →
      PySem.IsPair h' (s1.heap.objs.size + 3) .none .none → ItAt kd h' s1.heap.objs.size a 0 → ItAt kd h' (s1.heap.objs.size + 1) b 0 → (∀ c o, s1.heap.get? c = some o → h'.get? c = some o) →
      PIE X pins σ (.Tuple elts kk tpos) R (.ref (s1.heap.objs.size + 4)) { s1 with heap := h' } := fun {h'} la lb hz hTI hTO h1 h2 hk => by
    refine ⟨s1.heap.objs.size + 4, [s1.heap.objs.size + 4, s1.heap.objs.size + 2, s1.heap.objs.size + 3, s1.heap.objs.size, s1.heap.objs.size + 1], _, _, H1, rfl, I1.kept (t' := s1.toks) hk, turn_zipF (kd := kd) (PySem.W.ktu_apart s1.heap.objs.size a b la lb), ⟨hz, hTI, ⟨_, _, hTO⟩, h1, h2⟩, fun c hcm => ?_, q⟩
    have hle : s1.heap.objs.size ≤ c := by
      rcases (show c = s1.heap.objs.size + 4 ∨ c = s1.heap.objs.size + 2 ∨ c = s1.heap.objs.size + 3 ∨ c = s1.heap.objs.size ∨ c = s1.heap.objs.size + 1 by simpa using hcm) with rfl | rfl | rfl | rfl | rfl <;> omega
    exact I1.fpOk hle (I1.hok.fresh hle)
  cases kd
  · obtain ⟨its, rv, p1, _⟩ := I1.tuple qx
    obtain ⟨its2, rv2, p2, _⟩ := I1.tuple qy
    exact call_zipT p1 p2 fun h' hz hTI hTO h1 h2 _ hk => wpAny_pyIter_zip hz (fin p1.lt p2.lt hz hTI hTO h1 h2 hk)
  · obtain ⟨its, rv, p1, _⟩ := I1.list qx
    obtain ⟨its2, rv2, p2, _⟩ := I1.list qy
    exact call_zip_2 p1.isList p2.isList fun h' hz hTI hTO h1 h2 _ hk => wpAny_pyIter_zip hz (fin p1.lt p2.lt hz hTI hTO h1 h2 hk)
end DK

namespace DL
open PySem PySem.Spec PyProof.Rows L2 DK
/-- a table: of a code object that is tracked (some c), or of one of the module's own -/
abbrev Tb := Option Addr × Addr
/-- the names of code objects by their places -/
class Nms where
  nm : Nat → Nat → Option Str
  /-- defs that are handed on as values -/
  fn : Nat → Option Addr
/-- the tables that a law keeps track of -/
class Tabs where
  l : List Tb
variable [Nms] [Tabs]
/-- the code object at c, its table at P, its name q -/
def CodeT (c P : Addr) (q : Str) : HO := .ext fun h => PySem.W.CodeHd h c P ∧ h.CodeRec (.ref c) q
/-- tables, closed under the code objects that they tell -/
def TabW (H : Hp) (T : Addr → Prop) : Prop := ∀ P, T P → ∃ ps : Array Value, H P = some (.tbl ps) ∧ TriplesOk ps.toList ∧
  ∀ (pos : Pos) (cv : Value), codeAmong pos ps.toList = some cv → ∃ c P' q, cv = .ref c ∧ H c = some (CodeT c P' q) ∧ T P' ∧ ∀ q', Nms.nm pos.line pos.col = some q' → q = q'
def TabD (H : Hp) (P : Addr) : Prop := ∃ T, T P ∧ TabW H T
def TabX (H : Hp) (t : Tb) : Prop := TabD H t.2 ∧ ∀ c, t.1 = some c → ∃ q, H c = some (CodeT c t.2 q)

/-! ### values: data, or a list of the law's own that may change -/
inductive PV where
  | d (x : PyData)
  | c (i : Nat)
  /-- a def handed on -/
  | f (n : Nat)
/-- a cell of our own: a list, a dict, or a dict while a loop walks it -/
inductive Cell where
  | l (ds : List PyData)
  | d (kvs : List (PyData × PyData))
  | k (kvs : List (PyData × PyData))
  /-- a list that holds the k cells before it -/
  | r (k : Nat)
  /-- a dict whose keys are ints and texts -/
  | n (kvs : List (Key × PyData))
  /-- a set of ints; b: whether the world's order of sets follows the text -/
  | s (b : Bool) (ns : List Int)
abbrev Sto := List Cell
instance : Coe (List PyData) Cell := ⟨Cell.l⟩
def lAt (S : Sto) (i : Nat) : Option (List PyData) := match S[i]? with
  | some (.l ds) => some ds
  | _ => none
def dAt (S : Sto) (i : Nat) : Option (List (PyData × PyData)) := match S[i]? with
  | some (.d ds) => some ds
  | some (.k ds) => some ds
  | _ => none
def dAtW (S : Sto) (i : Nat) : Option (List (PyData × PyData)) := match S[i]? with
  | some (.d ds) => some ds
  | _ => none
theorem lAt_some {S : Sto} {i : Nat} {ds : List PyData} : lAt S i = some ds ↔ S[i]? = some (.l ds) := by
  unfold lAt
  split
  · rename_i e
    rw [e]
    exact ⟨fun h => (by rw [Option.some.inj h]), fun h => (by cases h; rfl)⟩
  · rename_i h
    exact ⟨fun e => (by cases e), fun e => absurd e (h ds)⟩
theorem dAt_some {S : Sto} {i : Nat} {ds : List (PyData × PyData)} (h : dAt S i = some ds) : S[i]? = some (.d ds) ∨ S[i]? = some (.k ds) := by
  unfold dAt at h
  split at h
  · rename_i e
    rw [e, Option.some.inj h]
    exact .inl rfl
  · rename_i e
    rw [e, Option.some.inj h]
    exact .inr rfl
  · cases h
theorem dAtW_some {S : Sto} {i : Nat} {ds : List (PyData × PyData)} : dAtW S i = some ds ↔ S[i]? = some (.d ds) := by
  unfold dAtW
  split
  · rename_i e
    rw [e]
    exact ⟨fun h => (by rw [Option.some.inj h]), fun h => (by cases h; rfl)⟩
  · rename_i h
    exact ⟨fun e => (by cases e), fun e => absurd e (h ds)⟩
abbrev RE := List (Option PV)
abbrev Fg := PySem.W.Frag

/-- no code object's table; no tuple of which it isn't known that it has no dict -/
def noTb : HO → Bool
  | .tbl _ => false
  | .tup _ => false
  | .frz o (.tup _) => o.dict.isNone
  | _ => true
/-- no tuple with a dict stands among these -/
def noTD (K : Fg) : Bool := K.all fun q => !(q.2.cls == .type "tuple") || q.2.dict.isNone
/-- what data lies in: not the cells, not the tables -/
def hide (as : List Addr) (H : Hp) : Hp := fun a => if a ∈ as then none else (H a).filter noTb
theorem hide_of3 {as : List Addr} {H : Hp} {a : Addr} {o : HO} (h : hide as H a = some o) : a ∉ as ∧ H a = some o ∧ noTb o = true := by
  unfold hide at h
  split at h
  · cases h
  · rename_i n
    obtain ⟨h1, h2⟩ := Option.filter_eq_some_iff.mp h
    exact ⟨n, h1, h2⟩
theorem hide_of {as : List Addr} {H : Hp} {a : Addr} {o : HO} (h : hide as H a = some o) : a ∉ as ∧ H a = some o := ⟨(hide_of3 h).1, (hide_of3 h).2.1⟩
theorem hide_some {as : List Addr} {H : Hp} {a : Addr} {o : HO} (n : a ∉ as) (h : H a = some o) (ht : noTb o = true := by rfl) : hide as H a = some o := by
  unfold hide
  rw [if_neg n]
  exact Option.filter_eq_some_iff.mpr ⟨h, ht⟩
theorem hide_same {as : List Addr} {H : Hp} : Same (hide as H) H := fun a o h => (hide_of h).2

theorem sqT_mono {K : Fg} {H H' : Hp} {a : Addr} {xs : List V} (e : Same H H') (h : SqT K H a xs) : SqT K H' a xs := by
  rcases h with (h | ⟨o, h⟩) | h
  · exact .inl (.inl (e _ _ h))
  · exact .inl (.inr ⟨o, e _ _ h⟩)
  · exact .inr h
mutual
theorem dp_mono {K : Fg} {H H' : Hp} (e : Same H H') : ∀ (d : PyData) (v : V), Dp K H v d → Dp K H' v d
  | .none, _, h => by cases h; exact .non
  | .bool b, _, h => by cases h; exact .bl b
  | .int i, _, h => by cases h; exact .int i
  | .str x, _, h => by cases h; exact .str x
  | .list ds, _, h => by
    cases h with
    | lst s a => exact .lst (e.seq s) (dpAll_mono e ds _ a)
  | .tuple ds, _, h => by
    cases h with
    | tup s a => exact .tup (sqT_mono e s) (dpAll_mono e ds _ a)
  | .dict _, _, h => by cases h
theorem dpAll_mono {K : Fg} {H H' : Hp} (e : Same H H') : ∀ (ds : List PyData) (vs : List V), DpAll K H vs ds → DpAll K H' vs ds
  | [], _, h => by cases h; exact .nil
  | d :: ds, _, h => by
    cases h with
    | cons a b => exact .cons (dp_mono e d _ a) (dpAll_mono e ds _ b)
end
theorem sqL_noT {K : Fg} {H : Hp} {a : Addr} {xs : List V} (h : SqL K H a xs) : SqL K (hide [] H) a xs := by
  rcases h with (h | ⟨o, h⟩) | h
  · exact .inl (.inl (hide_some (by simp) h))
  · exact .inl (.inr ⟨o, hide_some (by simp) h⟩)
  · exact .inr h
theorem dpAll_len {K : Fg} {H : Hp} : ∀ {vs : List V} {ds : List PyData}, DpAll K H vs ds → vs.length = ds.length
  | _, _, .nil => rfl
  | _, _, .cons _ b => by
    rw [List.length_cons, List.length_cons, dpAll_len b]
theorem dpAll_get {K : Fg} {H : Hp} : ∀ {vs : List V} {ds : List PyData} {i : Nat} {d : PyData}, DpAll K H vs ds → ds[i]? = some d → ∃ v, vs[i]? = some v ∧ Dp K H v d
  | _, _, i, d, .nil, h => by simp at h
  | _, _, 0, d, .cons a _, h => by
    simp at h
    subst h
    exact ⟨_, rfl, a⟩
  | _, _, i + 1, d, .cons _ b, h => by
    obtain ⟨v, e, q⟩ := dpAll_get (i := i) (d := d) b (by simpa using h)
    exact ⟨v, by simpa using e, q⟩
theorem dpAll_append {K : Fg} {H : Hp} : ∀ {vs ws : List V} {ds es : List PyData}, DpAll K H vs ds → DpAll K H ws es → DpAll K H (vs ++ ws) (ds ++ es)
  | _, _, _, _, .nil, h => h
  | _, _, _, _, .cons a b, h => .cons a (dpAll_append b h)
theorem dpAll_take {K : Fg} {H : Hp} : ∀ {vs : List V} {ds : List PyData} (n : Nat), DpAll K H vs ds → DpAll K H (vs.take n) (ds.take n)
  | _, _, 0, _ => .nil
  | _, _, _ + 1, .nil => .nil
  | _, _, n + 1, .cons a b => .cons a (dpAll_take n b)
theorem dpAll_drop {K : Fg} {H : Hp} : ∀ {vs : List V} {ds : List PyData} (n : Nat), DpAll K H vs ds → DpAll K H (vs.drop n) (ds.drop n)
  | _, _, 0, h => h
  | _, _, _ + 1, .nil => .nil
  | _, _, n + 1, .cons _ b => dpAll_drop n b
theorem dpAll_set {K : Fg} {H : Hp} {v : V} {d : PyData} (h : Dp K H v d) : ∀ {vs : List V} {ds : List PyData} (n : Nat), DpAll K H vs ds → DpAll K H (vs.set n v) (ds.set n d)
  | _, _, _, .nil => .nil
  | _, _, 0, .cons _ b => .cons h b
  | _, _, n + 1, .cons a b => .cons a (dpAll_set h n b)
theorem dpAll_rep {K : Fg} {H : Hp} {vs : List V} {ds : List PyData} (h : DpAll K H vs ds) : ∀ n : Nat, DpAll K H (List.replicate n vs).flatten (List.replicate n ds).flatten
  | 0 => .nil
  | n + 1 => by
    rw [List.replicate_succ, List.replicate_succ, List.flatten_cons, List.flatten_cons]
    exact dpAll_append h (dpAll_rep h n)
theorem dpAll_reverse {K : Fg} {H : Hp} : ∀ {vs : List V} {ds : List PyData}, DpAll K H vs ds → DpAll K H vs.reverse ds.reverse
  | _, _, .nil => .nil
  | _, _, .cons a b => by
    rw [List.reverse_cons, List.reverse_cons]
    exact dpAll_append (dpAll_reverse b) (.cons a .nil)
theorem dpAll_ints {K : Fg} {H : Hp} : ∀ (ns : List Int), DpAll K H (ns.map V.int) (ns.map PyData.int)
  | [] => .nil
  | n :: ns => .cons (.int n) (dpAll_ints ns)
theorem dpAll_ints_inv {K : Fg} {H : Hp} : ∀ {vs : List V} {ns : List Int}, DpAll K H vs (ns.map PyData.int) → vs = ns.map V.int
  | _, [], h => by cases h; rfl
  | _, n :: ns, h => by
    cases h with
    | cons a b =>
      cases a
      rw [dpAll_ints_inv b]
      rfl

/-! ### a dict of our own: its entries (key, the key's address, value) -/
mutual
def freeK : NestedKey → Bool
  | .none => true
  | .num _ => true
  | .text _ => false
  | .tup ks => freeKs ks
def freeKs : List NestedKey → Bool
  | [] => true
  | k :: ks => freeK k && freeKs ks
end
mutual
def hash0 : NestedKey → Int
  | .none => reduceHash 0xFCA86420
  | .num i => hashInt i
  | .text _ => 0
  | .tup ks => reduceHash (Builtin.Tuple.tupleHashOf (hashes0 ks))
def hashes0 : List NestedKey → List Int
  | [] => []
  | k :: ks => hash0 k :: hashes0 ks
end
mutual
theorem hash_free (w : World) : ∀ {k : NestedKey}, freeK k = true → NestedKey.hash w k = hash0 k
  | .none, _ => by unfold NestedKey.hash hash0; exact Eq.refl _
  | .num i, _ => by unfold NestedKey.hash hash0; exact Eq.refl _
  | .text _, h => by unfold freeK at h; cases h
  | .tup ks, h => by
    unfold freeK at h
    unfold NestedKey.hash hash0
    rw [hashes_free w h]
theorem hashes_free (w : World) : ∀ {ks : List NestedKey}, freeKs ks = true → NestedKey.hashes w ks = hashes0 ks
  | [], _ => by unfold NestedKey.hashes hashes0; exact Eq.refl _
  | k :: ks, h => by
    unfold freeKs at h
    rw [Bool.and_eq_true] at h
    unfold NestedKey.hashes hashes0
    rw [hash_free w h.1, hashes_free w h.2]
end
abbrev DEnt := NestedKey × Addr × V
def DctAt (h : Heap) (a : Addr) (es : List DEnt) : Prop := ∃ (xs : List (NestedKey × Addr × Value)) (o : Obj) (arr : Array DictEntry) (ep : Nat),
  Paired (fun (p : DEnt) (q : NestedKey × Addr × Value) => p.1 = q.1 ∧ p.2.1 = q.2.1 ∧ RelV p.2.2 q.2.2) es xs ∧ h.get? a = some o ∧ o.ExactDict ∧ o.data = .dict arr ep ∧ arr.toList = xs.map (fun x => ⟨hash0 x.1, .ref x.2.1, x.2.2⟩)
def DctO (a : Addr) (es : List DEnt) : HO := .ext fun h => DctAt h a es
def toVal : V → Value
  | .non => .none
  | .bl b => .bool b
  | .int i => .int i 0
  | .str x => .str x 0
  | .byt b => .bytes b 0
  | .flt b => .float b 0
  | .ref a => .ref a
  | .ty n => .type n
theorem toVal_rel : ∀ v : V, RelV v (toVal v)
  | .non => rfl
  | .bl _ => rfl
  | .int _ => ⟨0, rfl⟩
  | .str _ => ⟨0, rfl⟩
  | .byt _ => ⟨0, rfl⟩
  | .flt _ => ⟨0, rfl⟩
  | .ref _ => rfl
  | .ty _ => rfl
theorem dct_get (n : Nat) (o : Obj) (h : o.data ≠ .freed) : (⟨Array.replicate (n + 1) o, {}⟩ : Heap).get? n = some o := by
  have e : (Array.replicate (n + 1) o)[n]? = some o := by
    rw [Array.getElem?_replicate, if_pos (Nat.lt_succ_self n)]
  unfold Heap.get?
  show (match (Array.replicate (n + 1) o)[n]? with | some ⟨_, _, .freed, _⟩ => none | o => o) = some o
  rw [e]
  obtain ⟨c, d, dt, sl⟩ := o
  cases dt <;> first | rfl | exact absurd rfl h
def dctObj (es : List DEnt) : Obj := { cls := .type "dict", data := .dict ((es.map fun p => (⟨hash0 p.1, .ref p.2.1, toVal p.2.2⟩ : DictEntry)).toArray) 0 }
theorem dct_pairs : ∀ es : List DEnt, Paired (fun (p : DEnt) (q : NestedKey × Addr × Value) => p.1 = q.1 ∧ p.2.1 = q.2.1 ∧ RelV p.2.2 q.2.2) es (es.map fun p => (p.1, p.2.1, toVal p.2.2))
  | [] => .nil
  | p :: r => .cons ⟨rfl, rfl, toVal_rel _⟩ (dct_pairs r)
theorem dct_sat (a : Addr) (es : List DEnt) : ∃ h : Heap, DctAt h a es ∧ ∀ o, h.get? a = some o → o.cls = .type "dict" := by
  have g := dct_get a (dctObj es) (fun z => by cases z)
  refine ⟨_, ⟨_, dctObj es, _, 0, dct_pairs es, g, ⟨rfl, rfl, rfl⟩, rfl, ?_⟩, fun o e => ?_⟩
  · rw [List.map_map]
    rfl
  · rw [g] at e
    cases e
    rfl
theorem dct_ne_code {a P : Addr} {es : List DEnt} {q : Str} (e : DctO a es = CodeT a P q) : False := by
  unfold DctO CodeT at e
  injection e with e
  obtain ⟨h, h1, h2⟩ := dct_sat a es
  have h3 := congrFun e h
  rw [h3] at h1
  obtain ⟨⟨o, vs, file, tf, flags, tg, inF, text, tt, e1, e2, _⟩, _⟩ := h1
  have := h2 o e1
  rw [e2] at this
  exact absurd (Value.type.inj this) (by decide)
mutual
inductive KeyD : PyData → NestedKey → Prop
  | non : KeyD .none .none
  | int (i : Int) : KeyD (.int i) (.num i)
  | tup {ds : List PyData} {ks : List NestedKey} : KeyDs ds ks → KeyD (.tuple ds) (.tup ks)
inductive KeyDs : List PyData → List NestedKey → Prop
  | nil : KeyDs [] []
  | cons {d : PyData} {k : NestedKey} {ds : List PyData} {ks : List NestedKey} : KeyD d k → KeyDs ds ks → KeyDs (d :: ds) (k :: ks)
end
/-- an entry of a dict: its key's datum, the key, the value's datum -/
structure EntR (K : Fg) (G : Hp) (e : DEnt) (kv : PyData × PyData) : Prop where
  key : KeyD kv.1 e.1
  tup : ∃ ks, e.1 = .tup ks
  deep : e.1.depth ≤ 8
  at_ : Dp K G (.ref e.2.1) kv.1
  val : Dp K G e.2.2 kv.2
def NtR (K : Fg) (G : Hp) (e : Key × V) (kv : Key × PyData) : Prop := e.1 = kv.1 ∧ Dp K G e.2 kv.2
theorem NtR.mono {K : Fg} {G G' : Hp} (s : Same G G') {e : Key × V} {kv : Key × PyData} (h : NtR K G e kv) : NtR K G' e kv := ⟨h.1, dp_mono s _ _ h.2⟩
/-! ### sets of ints -/
def setObj (ns : List Int) : Obj := { cls := .type "set", data := .set ((ns.map fun k => (hashInt k, Value.int k 0)).toArray) 0 { mask := ns.length, place := Array.range ns.length, dummies := #[], finger := 0, led := true, moves := 0, plain := true } }
theorem set_sat (w : World) (a : Addr) {ns : List Int} (hn : ns.Nodup) (hl : ns.length ≤ 1000) : ∃ h : Heap, SetR w h a (fun k => decide (k ∈ ns)) ns.length ∧ ∀ o, h.get? a = some o → o.cls = .type "set" := by
  have g := dct_get a (setObj ns) (fun z => by cases z)
  have ek : (((ns.map fun k => (hashInt k, Value.int k 0)).toArray).toList.map keyOf) = ns := by
    rw [List.toList_toArray, List.map_map]
    exact (List.map_congr_left fun k _ => rfl).trans (List.map_id ns)
  have es : ((ns.map fun k => (hashInt k, Value.int k 0)).toArray : Array (Int × Value)).size = ns.length := by rw [List.size_toArray, List.length_map]
  refine ⟨_, ⟨setObj ns, _, 0, _, g, ⟨rfl, rfl, rfl⟩, rfl, fun e he => ?_, ?_, fun k => ?_, ?_, ?_, es, ris_range _, .inr rfl⟩, fun o e => ?_⟩
  · rw [List.toList_toArray] at he
    obtain ⟨k, _, rfl⟩ := List.mem_map.mp he
    exact ⟨k, 0, rfl, rfl⟩
  · rw [ek]
    exact hn
  · rw [ek, decide_eq_true_eq]
  · rw [es]
    show ns.length < 4096
    omega
  · rw [es]
    unfold SetTable.fits SetTable.fill
    simp
  · rw [g] at e
    cases e
    rfl
theorem set_ne_code {w : World} {a P : Addr} {ns : List Int} {q : Str} (hn : ns.Nodup) (hl : ns.length ≤ 1000) (e : SetO w a (fun k => decide (k ∈ ns)) ns.length = CodeT a P q) : False := by
  unfold SetO CodeT at e
  injection e with e
  obtain ⟨h, h1, h2⟩ := set_sat w a hn hl
  have h3 := congrFun e h
  rw [h3] at h1
  obtain ⟨⟨o, vs, file, tf, flags, tg, inF, text, tt, e1, e2, _⟩, _⟩ := h1
  have := h2 o e1
  rw [e2] at this
  exact absurd (Value.type.inj this) (by decide)
def SetW (H : Hp) (a : Addr) (b : Bool) (ns : List Int) : Prop := ∃ w : World, w.params.followText "set-order" = b ∧ H a = some (SetO w a (fun k => decide (k ∈ ns)) ns.length)
def CellR (K : Fg) (G H : Hp) (pre : List Addr) (a : Addr) : Cell → Prop
  | .l ds => ∃ vs, H a = some (.lst vs) ∧ DpAll K G vs ds
  | .d kvs => ∃ es, H a = some (DctO a es) ∧ Paired (EntR K G) es kvs ∧ es.length ≤ 1000000 ∧ (a == sysModules) = false ∧ (es.map (·.1)).Nodup
  | .k kvs => ∃ es, (∃ o, H a = some (.frz o (DctO a es))) ∧ Paired (EntR K G) es kvs ∧ es.length ≤ 1000000 ∧ (a == sysModules) = false ∧ (es.map (·.1)).Nodup
  | .r k => ∃ vs, H a = some (.lst vs) ∧ k ≤ pre.length ∧ vs = (pre.drop (pre.length - k)).map V.ref
  | .n kvs => ∃ es : List (Key × V), H a = some (.dK es) ∧ Paired (NtR K G) es kvs ∧ es.length ≤ 1000000
  | .s b ns => SetW H a b ns ∧ ns.Nodup ∧ ns.length ≤ 1000
/-- what may be changed: a list or a dict -/
def IsCell (H : Hp) (a : Addr) : Prop := (∃ vs, H a = some (.lst vs)) ∨ (∃ es, H a = some (DctO a es)) ∨ (∃ o es, H a = some (.frz o (DctO a es))) ∨ (∃ es : List (Key × V), H a = some (.dK es)) ∨ ∃ b ns, SetW H a b ns ∧ ns.Nodup ∧ ns.length ≤ 1000
theorem CellR.isCell {K : Fg} {G H : Hp} {pre : List Addr} {a : Addr} {c : Cell} (h : CellR K G H pre a c) : IsCell H a := by
  cases c with
  | l ds => exact .inl ⟨_, h.choose_spec.1⟩
  | d kvs => exact .inr (.inl ⟨_, h.choose_spec.1⟩)
  | k kvs => exact .inr (.inr (.inl (by obtain ⟨es, ⟨o, e⟩, _⟩ := h; exact ⟨o, es, e⟩)))
  | r k => exact .inl ⟨_, h.choose_spec.1⟩
  | n kvs => exact .inr (.inr (.inr (.inl ⟨_, h.choose_spec.1⟩)))
  | s b ns => exact .inr (.inr (.inr (.inr ⟨b, ns, h⟩)))
theorem EntR.mono {K : Fg} {G G' : Hp} (s : Same G G') {e : DEnt} {kv : PyData × PyData} (h : EntR K G e kv) : EntR K G' e kv := ⟨h.key, h.tup, h.deep, dp_mono s _ _ h.at_, dp_mono s _ _ h.val⟩
theorem CellR.mono {K : Fg} {G G' H H' : Hp} {pre : List Addr} {a : Addr} {c : Cell} (s : Same G G') (e : H' a = H a) (h : CellR K G H pre a c) : CellR K G' H' pre a c := by
  cases c with
  | l ds =>
    obtain ⟨vs, h1, h2⟩ := h
    exact ⟨vs, e.trans h1, dpAll_mono s _ _ h2⟩
  | d kvs =>
    obtain ⟨es, h1, h2, h3⟩ := h
    exact ⟨es, e.trans h1, Paired.mapP h2 fun _ _ q => q.mono s, h3⟩
  | k kvs =>
    obtain ⟨es, ⟨o, h1⟩, h2, h3⟩ := h
    exact ⟨es, ⟨o, e.trans h1⟩, Paired.mapP h2 fun _ _ q => q.mono s, h3⟩
  | r k =>
    obtain ⟨vs, h1, h2⟩ := h
    exact ⟨vs, e.trans h1, h2⟩
  | n kvs =>
    obtain ⟨es, h1, h2, h3⟩ := h
    exact ⟨es, e.trans h1, Paired.mapP h2 fun _ _ q => q.mono s, h3⟩
  | s b ns =>
    obtain ⟨⟨w, h1, h2⟩, h3⟩ := h
    exact ⟨⟨w, h1, e.trans h2⟩, h3⟩
theorem CellR.kept {K : Fg} {G G' H H' : Hp} {pre : List Addr} {a : Addr} {c : Cell} (s : Same G G') (k : ∀ o, H a = some o → noTb o = true → H' a = some o) (h : CellR K G H pre a c) : CellR K G' H' pre a c := by
  cases c with
  | l ds =>
    obtain ⟨vs, h1, h2⟩ := h
    exact ⟨vs, k _ h1 rfl, dpAll_mono s _ _ h2⟩
  | d kvs =>
    obtain ⟨es, h1, h2, h3⟩ := h
    exact ⟨es, k _ h1 rfl, Paired.mapP h2 fun _ _ q => q.mono s, h3⟩
  | k kvs =>
    obtain ⟨es, ⟨o, h1⟩, h2, h3⟩ := h
    exact ⟨es, ⟨o, k _ h1 rfl⟩, Paired.mapP h2 fun _ _ q => q.mono s, h3⟩
  | r n =>
    obtain ⟨vs, h1, h2⟩ := h
    exact ⟨vs, k _ h1 rfl, h2⟩
  | n kvs =>
    obtain ⟨es, h1, h2, h3⟩ := h
    exact ⟨es, k _ h1 rfl, Paired.mapP h2 fun _ _ q => q.mono s, h3⟩
  | s b ns =>
    obtain ⟨⟨w, h1, h2⟩, h3⟩ := h
    exact ⟨⟨w, h1, k _ h2 rfl⟩, h3⟩
/-! ### the relation -/
structure Rel (K : Fg) (as : List Addr) (S : Sto) (H : Hp) : Prop where
  nd : as.Nodup
  len : as.length = S.length
  cell : ∀ (i : Nat) (a : Addr) (c : Cell), as[i]? = some a → S[i]? = some c → CellR K (hide as H) H (as.take i) a c
def VR (K : Fg) (as : List Addr) (H : Hp) (v : V) : PV → Prop
  | .d x => Dp K (hide as H) v x
  | .c i => ∃ a, as[i]? = some a ∧ v = .ref a
  | .f n => ∃ a, Nms.fn n = some a ∧ v = .ref a
structure ER (K : Fg) (as : List Addr) (H : Hp) (σ : L2.St) (ρ : RE) : Prop where
  len : σ.length = ρ.length
  at_ : ∀ (i : Nat) (p : PV), ρ[i]? = some (some p) → ∃ v, σ[i]? = some (some v) ∧ VR K as H v p
  tab : ∀ t ∈ Tabs.l, TabX H t
structure Ext (as : List Addr) (H : Hp) (as' : List Addr) (H' : Hp) : Prop where
  pre : ∃ bs, as' = as ++ bs
  new : ∀ b ∈ as', b ∉ as → H b = none
  keep : ∀ a o, a ∉ as → H a = some o → noTb o = true → H' a = some o
  tab : ∀ t, TabX H t → TabX H' t
  there : ∀ a o, a ∉ as → H a = some o → ∃ o', H' a = some o'
  kind : ∀ a ∈ as, (∃ vs, H' a = some (.lst vs)) → ∃ vs, H a = some (.lst vs)
  lock : ∀ a ∈ as, ∀ o u, H a = some (.frz o u) → H' a = some (.frz o u)
section
variable {K : Fg} {as as1 as2 : List Addr} {S S1 : Sto} {H H1 H2 : Hp} {v : V} {p : PV} {σ : L2.St} {ρ : RE}
theorem tab_but {H H' : Hp} {a : Addr} (h : H a = none ∨ IsCell H a) (k : ∀ b, b ≠ a → H' b = H b) : ∀ t, TabX H t → TabX H' t := by
  have n1 : ∀ {b : Addr} {ps : Array Value}, H b = some (.tbl ps) → b ≠ a := fun {b ps} e z => by
    subst z
    rcases h with h | ⟨vs, h⟩ | ⟨es, h⟩ | ⟨o, es, h⟩ | ⟨es, h⟩ | ⟨b, ns, ⟨w, _, h⟩, _⟩ <;> rw [h] at e <;> cases e
  have n2 : ∀ {b P : Addr} {q : Str}, H b = some (CodeT b P q) → b ≠ a := fun {b P q} e z => by
    subst z
    rcases h with h | ⟨vs, h⟩ | ⟨es, h⟩ | ⟨o, es, h⟩ | ⟨es, h⟩ | ⟨b, ns, ⟨w, _, h⟩, h1, h2⟩
    · rw [h] at e; cases e
    · rw [h] at e; unfold CodeT at e; cases e
    · rw [h] at e; exact dct_ne_code (Option.some.inj e)
    · rw [h] at e; unfold CodeT at e; cases e
    · rw [h] at e; unfold CodeT at e; cases e
    · rw [h] at e; exact set_ne_code h1 h2 (Option.some.inj e)
  intro t ⟨⟨T, t1, t2⟩, t3⟩
  refine ⟨⟨T, t1, fun P hP => ?_⟩, fun c hc => ?_⟩
  · obtain ⟨ps, e1, e2, e3⟩ := t2 P hP
    refine ⟨ps, by rw [k _ (n1 e1)]; exact e1, e2, fun pos cv q => ?_⟩
    obtain ⟨c, P', q', f1, f2, f3⟩ := e3 pos cv q
    exact ⟨c, P', q', f1, by rw [k _ (n2 f2)]; exact f2, f3⟩
  · obtain ⟨q, e⟩ := t3 c hc
    exact ⟨q, by rw [k _ (n2 e)]; exact e⟩
theorem tab_upd {H : Hp} {a : Addr} {o : HO} (h : H a = none ∨ IsCell H a) : ∀ t, TabX H t → TabX (upd H a o) t := tab_but h fun _ n => upd_ne n
theorem there_upd {H : Hp} {a b : Addr} {o u : HO} (h : H b = some u) : ∃ o', upd H a o b = some o' := by
  by_cases z : b = a
  · subst z
    exact ⟨o, upd_same⟩
  · exact ⟨u, by rw [upd_ne z]; exact h⟩
theorem Ext.refl : Ext as H as H := ⟨⟨[], by simp⟩, fun b h n => absurd h n, fun _ _ _ h _ => h, fun _ h => h, fun _ o _ h => ⟨o, h⟩, fun _ _ h => h, fun _ _ _ _ h => h⟩
theorem Ext.sub (e : Ext as H as1 H1) {a : Addr} (h : a ∈ as) : a ∈ as1 := by
  obtain ⟨bs, rfl⟩ := e.pre
  exact List.mem_append_left _ h
theorem Ext.trans (e : Ext as H as1 H1) (f : Ext as1 H1 as2 H2) : Ext as H as2 H2 := by
  obtain ⟨b1, e1⟩ := e.pre
  obtain ⟨b2, e2⟩ := f.pre
  refine ⟨⟨b1 ++ b2, by rw [e2, e1, List.append_assoc]⟩, fun b hb nb => ?_, fun a o na h ht => ?_, fun P h => f.tab P (e.tab P h), fun a o na h => ?_, fun a ha h => e.kind a ha (f.kind a (e.sub ha) h), fun a ha o u h => f.lock a (e.sub ha) o u (e.lock a ha o u h)⟩
  · by_cases h1 : b ∈ as1
    · exact e.new b h1 nb
    · have z := f.new b hb h1
      cases q : H b with
      | none => rfl
      | some o =>
        obtain ⟨o', z'⟩ := e.there b o nb q
        rw [z'] at z
        cases z
  · have na1 : a ∉ as1 := fun z => by
      rw [e.new a z na] at h
      cases h
    exact f.keep a o na1 (e.keep a o na h ht) ht
  · have na1 : a ∉ as1 := fun z => by
      rw [e.new a z na] at h
      cases h
    obtain ⟨o', h'⟩ := e.there a o na h
    exact f.there a o' na1 h'
theorem Ext.same (e : Ext as H as1 H1) : Same (hide as H) (hide as1 H1) := fun a o h => by
  obtain ⟨na, h, ht⟩ := hide_of3 h
  have na1 : a ∉ as1 := fun z => by
    rw [e.new a z na] at h
    cases h
  exact hide_some na1 (e.keep a o na h ht) ht
theorem VR.ext (h : VR K as H v p) (e : Ext as H as1 H1) : VR K as1 H1 v p := by
  cases p with
  | d x => exact dp_mono e.same _ _ h
  | c i =>
    obtain ⟨a, q, r⟩ := h
    obtain ⟨bs, rfl⟩ := e.pre
    refine ⟨a, ?_, r⟩
    rw [List.getElem?_append_left (List.getElem?_eq_some_iff.mp q).1]
    exact q
  | f n => exact h
theorem ER.ext (h : ER K as H σ ρ) (e : Ext as H as1 H1) : ER K as1 H1 σ ρ := ⟨h.len, fun i p q => by
  obtain ⟨v, a, b⟩ := h.at_ i p q
  exact ⟨v, a, b.ext e⟩, fun P hP => e.tab P (h.tab P hP)⟩
theorem Rel.at_ (R : Rel K as S H) (i : Nat) (a : Addr) (ds : List PyData) (x : as[i]? = some a) (y : lAt S i = some ds) : ∃ vs, H a = some (.lst vs) ∧ DpAll K (hide as H) vs ds := R.cell i a _ x (lAt_some.mp y)
theorem Rel.mem (R : Rel K as S H) {a : Addr} (h : a ∈ as) : IsCell H a := by
  obtain ⟨i, hi, e⟩ := List.getElem_of_mem h
  have hs : i < S.length := by rw [← R.len]; exact hi
  exact (R.cell i a S[i] (by rw [List.getElem?_eq_getElem hi, e]) (List.getElem?_eq_getElem hs)).isCell
theorem Rel.free (R : Rel K as S H) {a : Addr} (h : H a = none) : a ∉ as := fun z => by
  rcases R.mem z with ⟨vs, q⟩ | ⟨es, q⟩ | ⟨o, es, q⟩ | ⟨es, q⟩ | ⟨b, ns, ⟨w, _, q⟩, _⟩ <;> rw [h] at q <;> cases q
theorem Rel.laid (R : Rel K as S H) {a : Addr} {o : HO} (h : H a = none) : Rel K as S (upd H a o) ∧ Ext as H as (upd H a o) := by
  have E : Ext as H as (upd H a o) := ⟨⟨[], by simp⟩, fun b x n => absurd x n, fun b u nb q _ => by
    rw [upd_ne (ne_of_none q h)]
    exact q, tab_upd (.inl h), fun b u _ q => there_upd q, fun b hb q => by
      rw [upd_ne (fun z => R.free h (by rw [← z]; exact hb))] at q
      exact q, fun b hb o' u q => by
      rw [upd_ne (fun z => R.free h (by rw [← z]; exact hb))]
      exact q⟩
  refine ⟨⟨R.nd, R.len, fun i b c x y => (R.cell i b c x y).mono E.same (upd_ne fun z => ?_)⟩, E⟩
  subst z
  exact R.free h (List.mem_of_getElem? x)
theorem Rel.nilR (H : Hp) : Rel K [] [] H := ⟨List.nodup_nil, rfl, fun i a ds x => by simp at x⟩
theorem nodup_ix' {l : List Addr} (hN : l.Nodup) {i j : Nat} {x : Addr} (a : l[i]? = some x) (b : l[j]? = some x) : i = j := by
  obtain ⟨h1, e1⟩ := List.getElem?_eq_some_iff.mp a
  obtain ⟨h2, e2⟩ := List.getElem?_eq_some_iff.mp b
  exact (List.getElem_inj hN).mp (e1.trans e2.symm)
/-- a cell's content is changed -/
theorem Rel.putC (R : Rel K as S H) {i : Nat} {a : Addr} {c : Cell} {o : HO} (ha : as[i]? = some a) (hc : ∀ G, Same (hide as H) G → CellR K G (upd H a o) (as.take i) a c) (hk : (∃ vs, o = .lst vs) → ∃ vs, H a = some (.lst vs)) (hm : ∀ o' u, H a ≠ some (.frz o' u)) :
    Rel K as (S.set i c) (upd H a o) ∧ Ext as H as (upd H a o) := by
  have ma : a ∈ as := List.mem_of_getElem? ha
  have hs : Same (hide as H) (hide as (upd H a o)) := fun b u h => by
    obtain ⟨nb, h, ht⟩ := hide_of3 h
    refine hide_some nb ?_ ht
    rw [upd_ne (show b ≠ a from fun z => nb (by rw [z]; exact ma))]
    exact h
  refine ⟨⟨R.nd, by rw [List.length_set]; exact R.len, fun j b es x y => ?_⟩, ⟨⟨[], by simp⟩, fun b x n => absurd x n, fun b u nb q _ => ?_, tab_upd (.inr (R.mem ma)), fun b u _ q => there_upd q, fun b hb q => ?_, fun b hb o' u q => ?_⟩⟩
  · by_cases e : j = i
    · subst e
      rw [ha] at x
      cases x
      have hl : j < S.length := by rw [← R.len]; exact (List.getElem?_eq_some_iff.mp ha).1
      rw [List.getElem?_set_self hl] at y
      cases y
      exact hc _ hs
    · rw [List.getElem?_set_ne (Ne.symm e)] at y
      refine (R.cell j b es x y).mono hs (upd_ne fun z => e ?_)
      subst z
      exact nodup_ix' R.nd x ha
  · rw [upd_ne (show b ≠ a from fun z => nb (by rw [z]; exact ma))]
    exact q
  · by_cases z : b = a
    · subst z
      obtain ⟨vs, q⟩ := q
      rw [upd_same] at q
      exact hk ⟨vs, Option.some.inj q⟩
    · rw [upd_ne z] at q
      exact q
  · rw [upd_ne fun z => hm o' u (by rw [← z]; exact q)]
    exact q
theorem Rel.put (R : Rel K as S H) {i : Nat} {a : Addr} {vs : List V} {ds : List PyData} (ha : as[i]? = some a) (hv : DpAll K (hide as H) vs ds) (hk : ∃ ws, H a = some (.lst ws)) :
    Rel K as (S.set i (.l ds)) (upd H a (.lst vs)) ∧ Ext as H as (upd H a (.lst vs)) := R.putC ha (fun G s => ⟨vs, upd_same, dpAll_mono s _ _ hv⟩) (fun _ => hk) fun o u z => by
  obtain ⟨ws, q⟩ := hk
  rw [q] at z
  cases z
/-- a new object becomes a cell -/
theorem Rel.growC (R : Rel K as S H) {a : Addr} {c : Cell} {o : HO} (ha : H a = none) (hc : ∀ G, Same (hide as H) G → CellR K G (upd H a o) as a c) :
    Rel K (as ++ [a]) (S ++ [c]) (upd H a o) ∧ Ext as H (as ++ [a]) (upd H a o) := by
  have na : a ∉ as := R.free ha
  have E : Ext as H (as ++ [a]) (upd H a o) := ⟨⟨[a], rfl⟩, fun b hb nb => by
      rcases List.mem_append.mp hb with z | z
      · exact absurd z nb
      · rw [List.mem_singleton.mp z]; exact ha, fun b u nb q _ => by
      rw [upd_ne (ne_of_none q ha)]
      exact q, tab_upd (.inl ha), fun b u _ q => there_upd q, fun b hb q => by
      rw [upd_ne (fun z => na (by rw [← z]; exact hb))] at q
      exact q, fun b hb o' u q => by
      rw [upd_ne (fun z => na (by rw [← z]; exact hb))]
      exact q⟩
  refine ⟨⟨?_, by simp [R.len], fun j b es x y => ?_⟩, E⟩
  · rw [List.nodup_append]
    refine ⟨R.nd, by simp, fun x hx y hy => ?_⟩
    rw [List.mem_singleton.mp hy]
    exact fun z => na (z ▸ hx)
  · by_cases hj : j < as.length
    · rw [List.getElem?_append_left hj] at x
      rw [List.getElem?_append_left (by rw [← R.len]; exact hj)] at y
      rw [List.take_append_of_le_length (Nat.le_of_lt hj)]
      refine (R.cell j b es x y).mono E.same (upd_ne fun z => na ?_)
      subst z
      exact List.mem_of_getElem? x
    · have hj' : as.length ≤ j := Nat.le_of_not_lt hj
      rw [List.getElem?_append_right hj'] at x
      rw [List.getElem?_append_right (by rw [← R.len]; exact hj'), ← R.len] at y
      have e0 : j - as.length = 0 := by
        have := (List.getElem?_eq_some_iff.mp x).1
        simp at this
        omega
      have ej : j = as.length := by omega
      rw [e0] at x y
      simp at x y
      subst x
      subst y
      rw [ej, List.take_left]
      exact hc _ E.same
theorem Rel.grow (R : Rel K as S H) {a : Addr} {vs : List V} {ds : List PyData} (ha : H a = none) (hv : DpAll K (hide as H) vs ds) :
    Rel K (as ++ [a]) (S ++ [.l ds]) (upd H a (.lst vs)) ∧ Ext as H (as ++ [a]) (upd H a (.lst vs)) := R.growC ha fun G s => ⟨vs, upd_same, dpAll_mono s _ _ hv⟩
/-- the last cells are forgotten -/
theorem Rel.take (R : Rel K as1 S1 H1) (e : as1 = as ++ as2) : Rel K as (S1.take as.length) H1 := by
  subst e
  have sm : Same (hide (as ++ as2) H1) (hide as H1) := fun a o h => by
    obtain ⟨na, h, ht⟩ := hide_of3 h
    exact hide_some (fun z => na (List.mem_append_left _ z)) h ht
  refine ⟨(List.nodup_append.mp R.nd).1, ?_, fun i a ds x y => ?_⟩
  · rw [List.length_take, ← R.len, List.length_append]
    omega
  · have hi : i < as.length := (List.getElem?_eq_some_iff.mp x).1
    rw [List.getElem?_take_of_lt hi] at y
    have z := (R.cell i a ds (by rw [List.getElem?_append_left hi]; exact x) y).mono sm rfl
    rw [List.take_append_of_le_length (Nat.le_of_lt hi)] at z
    exact z
end
/-- a new tuple, with its object -/
theorem Rel.newT {K : Fg} {as : List Addr} {S : Sto} {H : Hp} {z : List PyData} {vs : List V} {o : Obj} {p : Addr} (R : Rel K as S H) (hd : DpAll K (hide as H) vs z) (ho : o.dict = none) (hp : H p = none) :
    Rel K as S (upd H p (.frz o (.tup vs))) ∧ Ext as H as (upd H p (.frz o (.tup vs))) ∧ VR K as (upd H p (.frz o (.tup vs))) (.ref p) (.d (.tuple z)) := by
  obtain ⟨R2, E2⟩ := R.laid (o := .frz o (.tup vs)) hp
  refine ⟨R2, E2, Dp.tup (.inl (.inr ⟨o, hide_some (R.free hp) upd_same ?_⟩)) (dpAll_mono E2.same _ _ hd)⟩
  show o.dict.isNone = true
  rw [ho]
  rfl
end DL

namespace DL
open PySem PySem.Spec PyProof.Rows L2 DK
variable [Nms] [Tabs]

abbrev M := RE → Sto → Option (PV × Sto)
abbrev MB := RE → Sto → Option (Bool × Sto)
abbrev MA := RE → Sto → Option (List PV × Sto)
abbrev ML := RE → Sto → Option (List PyData × Sto)

def tM (K : Fg) (m : M) : TE := fun σ H Q => ∃ as ρ S v S', Rel K as S H ∧ ER K as H σ ρ ∧ m ρ S = some (v, S') ∧ ∀ u H', Rel K as S' H' → Ext as H as H' → VR K as H' u v → Q u H'
def tMB (K : Fg) (m : MB) : TT := fun σ H Q => ∃ as ρ S b S', Rel K as S H ∧ ER K as H σ ρ ∧ m ρ S = some (b, S') ∧ ∀ H', Rel K as S' H' → Ext as H as H' → Q b H'
def tMA (K : Fg) (m : MA) : TA := fun σ H Q => ∃ as ρ S vs S', Rel K as S H ∧ ER K as H σ ρ ∧ m ρ S = some (vs, S') ∧ ∀ us H', Rel K as S' H' → Ext as H as H' → Paired (VR K as H') us vs → Q us H'
def tL (K : Fg) (m : ML) : TE := fun σ H Q => ∃ as ρ S ds S', Rel K as S H ∧ ER K as H σ ρ ∧ m ρ S = some (ds, S') ∧ ∀ p H' vs, Rel K as S' H' → Ext as H as H' → H' p = none → DpAll K (hide as H') vs ds → Q (.ref p) (upd H' p (.lst vs))
abbrev DE (X : Cx) (e : Expr) (m : M) : Prop := PE X e (tM X.K m)
abbrev DB (X : Cx) (e : Expr) (m : MB) : Prop := PT X e (tMB X.K m)
abbrev DW (X : Cx) (e : Expr) (m : MB) : Prop := PW X e (tMB X.K m)
abbrev DA (X : Cx) (es : List Expr) (m : MA) : Prop := PA X es (tMA X.K m)
abbrev DLs (X : Cx) (e : Expr) (m : ML) : Prop := PE X e (tL X.K m)

theorem pe_imp {X : Cx} {e : Expr} {t t' : TE} (h : PE X e t) (w : ∀ σ H Q, t' σ H Q → t σ H Q) : PE X e t' := ⟨fun pins s σ H Q I q => h.run pins s σ H Q I (w _ _ _ q)⟩
theorem pt_imp {X : Cx} {e : Expr} {t t' : TT} (h : PT X e t) (w : ∀ σ H Q, t' σ H Q → t σ H Q) : PT X e t' := ⟨fun pins s σ H Q I q => h.run pins s σ H Q I (w _ _ _ q)⟩
theorem pw_imp {X : Cx} {e : Expr} {t t' : TT} (h : PW X e t) (w : ∀ σ H Q, t' σ H Q → t σ H Q) : PW X e t' := ⟨fun wh pins s σ H Q I q => h.run wh pins s σ H Q I (w _ _ _ q)⟩
theorem pa_imp {X : Cx} {es : List Expr} {t t' : TA} (h : PA X es t) (w : ∀ σ H Q, t' σ H Q → t σ H Q) : PA X es t' := ⟨fun pos pins s σ H Q I q => h.run pos pins s σ H Q I (w _ _ _ q)⟩

/-! ### names, constants -/
section
variable {X : Cx}
def mVar (i : Nat) : M := fun ρ S => match ρ[i]? with
  | some (some p) => some (p, S)
  | _ => none
def mC (x : PyData) : M := fun _ S => some (.d x, S)
theorem mVar_some {i : Nat} {ρ : RE} {S S' : Sto} {v : PV} (h : mVar i ρ S = some (v, S')) : ρ[i]? = some (some v) ∧ S' = S := by
  unfold mVar at h
  split at h
  · rename_i p e
    cases h
    exact ⟨e, rfl⟩
  · cases h
theorem dv (i : Nat) {x : Str} {pos : Pos} (hN : X.N[i]? = some x := by rfl) (hv : Vis X.env.scope x := by first | exact Or.inl rfl | exact Or.inr (Or.inl rfl) | exact Or.inr (Or.inr rfl)) (hd : (x == ("__debug__" : Str)) = false := by decide)
    (hcd : (x == ("__classdict__" : Str)) = false := by decide) : DE X (.Name x pos) (mVar i) :=
  pe_imp (pe_var hN hv hd hcd) fun σ H Q ⟨as, ρ, S, v, S', R, E, e, k⟩ => by
    obtain ⟨e1, rfl⟩ := mVar_some e
    obtain ⟨u, a, b⟩ := E.at_ i v e1
    exact ⟨u, a, k u H R .refl b⟩
theorem tC_tM {K : Fg} {v : V} {d : PyData} (hd : Dp K (fun _ => none) v d) : ∀ σ H Q, tM K (mC d) σ H Q → tC v σ H Q := fun σ H Q ⟨as, ρ, S, p, S', R, E, e, k⟩ => by
  cases e
  exact k v H R .refl (dp_mono (fun _ _ z => absurd z (by simp)) _ _ hd)
theorem de_int {i j pos} : DE X (.Constant (.int i) j pos) (mC (.int i)) := pe_imp pe_int (tC_tM (.int i))
theorem de_bl {b j pos} : DE X (.Constant (.bool b) j pos) (mC (.bool b)) := pe_imp pe_bl (tC_tM (.bl b))
theorem de_non {j pos} : DE X (.Constant .none j pos) (mC .none) := pe_imp pe_non (tC_tM .non)
theorem de_str {x j pos} : DE X (.Constant (.str x) j pos) (mC (.str x)) := pe_imp pe_str (tC_tM (.str x))
theorem de_glob {x : Str} {v : V} {u : Value} {d : PyData} {pos : Pos} (hg : Gl X x) (hm : X.mg x = some u) (r : RelV v u) (hd : Dp X.K (fun _ => none) v d) (hb : (x == ("__debug__" : Str)) = false := by decide) : DE X (.Name x pos) (mC d) :=
  pe_imp (pe_glob hg hm r hb) (tC_tM hd)

/-! ### argument lists, displays -/
def mNil : MA := fun _ S => some ([], S)
def mCons (m : M) (ms : MA) : MA := fun ρ S => (m ρ S).bind fun p => (ms ρ p.2).bind fun q => some (p.1 :: q.1, q.2)
theorem da_nil : DA X [] mNil := pa_imp pa_nil fun σ H Q ⟨as, ρ, S, p, S', R, E, e, k⟩ => by
  cases e
  exact k [] H R .refl .nil
theorem da_cons {e : Expr} {es : List Expr} {m : M} {ms : MA} (ha : DE X e m) (hr : DA X es ms) (hs : starEach (e :: es) X.env = (false, eval e X.env) :: starEach es X.env := by rfl) : DA X (e :: es) (mCons m ms) :=
  pa_imp (pa_cons ha hr hs) fun σ H Q ⟨as, ρ, S, p, S', R, E, e, k⟩ => by
    obtain ⟨⟨x, S1⟩, e1, e⟩ := Option.bind_eq_some_iff.mp e
    obtain ⟨⟨xs, S2⟩, e2, e⟩ := Option.bind_eq_some_iff.mp e
    cases e
    refine ⟨as, ρ, S, x, S1, R, E, e1, fun u H1 R1 E1 V1 => ?_⟩
    refine ⟨as, ρ, S1, xs, S2, R1, E.ext E1, e2, fun us H2 R2 E2 V2 => ?_⟩
    exact k _ _ R2 (E1.trans E2) (.cons (V1.ext E2) V2)

def datas : List PV → Option (List PyData)
  | [] => some []
  | .d x :: r => (datas r).bind fun y => some (x :: y)
  | _ :: _ => none
theorem datas_dp {K : Fg} {as : List Addr} {H : Hp} : ∀ {us : List V} {vs : List PV} {ds : List PyData}, Paired (VR K as H) us vs → datas vs = some ds → DpAll K (hide as H) us ds
  | _, _, ds, .nil, h => by
    cases h
    exact .nil
  | _, .d x :: r, ds, .cons a b, h => by
    obtain ⟨y, e, h⟩ := Option.bind_eq_some_iff.mp h
    cases h
    exact .cons a (datas_dp b e)
  | _, .c i :: r, ds, .cons a b, h => by cases h
  | _, .f i :: r, ds, .cons a b, h => by cases h
def mTup (ma : MA) : M := fun ρ S => (ma ρ S).bind fun p => (datas p.1).bind fun ds => if ds.length ≤ 1000 then some (.d (.tuple ds), p.2) else none
def mLst (ma : MA) : ML := fun ρ S => (ma ρ S).bind fun p => (datas p.1).bind fun ds => if ds.length ≤ 1000 then some (ds, p.2) else none
theorem le_line {n : Nat} (h : n ≤ 1000) : n ≤ sizeLine := Nat.le_of_lt (small1000 h)
theorem de_tup {es : List Expr} {x1 pos} {ma : MA} (h : DA X es ma) : DE X (.Tuple es x1 pos) (mTup ma) :=
  pe_imp (pe_tupF h) fun σ H Q ⟨as, ρ, S, p, S', R, E, e, k⟩ => by
    obtain ⟨⟨xs, S1⟩, e1, e⟩ := Option.bind_eq_some_iff.mp e
    obtain ⟨ds, e2, e⟩ := Option.bind_eq_some_iff.mp e
    split at e
    · rename_i hz
      cases e
      refine ⟨as, ρ, S, xs, S1, R, E, e1, fun us H1 R1 E1 V1 => ?_⟩
      have hd := datas_dp V1 e2
      have hl := dpAll_len hd
      refine ⟨by rw [hl]; exact le_line hz, fun q o ho hq => ?_⟩
      obtain ⟨R2, E2, V2⟩ := R1.newT hd ho hq
      exact k _ _ R2 (E1.trans E2) V2
    · cases e
theorem dl_lst {es : List Expr} {pos} {ma : MA} (h : DA X es ma) : DLs X (.List es pos) (mLst ma) :=
  pe_imp (pe_lst h) fun σ H Q ⟨as, ρ, S, p, S', R, E, e, k⟩ => by
    obtain ⟨⟨xs, S1⟩, e1, e⟩ := Option.bind_eq_some_iff.mp e
    obtain ⟨ds, e2, e⟩ := Option.bind_eq_some_iff.mp e
    split at e
    · rename_i hz
      cases e
      refine ⟨as, ρ, S, xs, S1, R, E, e1, fun us H1 R1 E1 V1 => ?_⟩
      have hd := datas_dp V1 e2
      have hl := dpAll_len hd
      exact ⟨by rw [hl]; exact le_line hz, fun q hq => k _ _ _ R1 E1 hq hd⟩
    · cases e
def mFz (m : ML) : M := fun ρ S => (m ρ S).bind fun p => some (.d (.list p.1), p.2)
theorem fz {e : Expr} {m : ML} (h : DLs X e m) : DE X e (mFz m) := pe_imp h fun σ H Q ⟨as, ρ, S, p, S', R, E, e, k⟩ => by
  obtain ⟨⟨ds, S1⟩, e1, e⟩ := Option.bind_eq_some_iff.mp e
  cases e
  refine ⟨as, ρ, S, ds, S1, R, E, e1, fun q H1 vs R1 E1 hq hd => ?_⟩
  obtain ⟨R2, E2⟩ := R1.laid (o := .lst vs) hq
  exact k _ _ R2 (E1.trans E2) (.lst (SqL.of (hide_some (R1.free hq) upd_same)) (dpAll_mono E2.same _ _ hd))

/-! ### operators -/
def OpD (K : Fg) (r : R2) (f : PV → PV → Sto → Option PV) : Prop := ∀ (as : List Addr) (S : Sto) (H : Hp) (u w : V) (x y z : PV) (Q : VK), Rel K as S H → VR K as H u x → VR K as H w y → f x y S = some z →
  (∀ v H', Rel K as S H' → Ext as H as H' → VR K as H' v z → Q v H') → r u w H Q
def OpL (K : Fg) (r : R2) (f : PV → PV → Sto → Option (List PyData)) : Prop := ∀ (as : List Addr) (S : Sto) (H : Hp) (u w : V) (x y : PV) (z : List PyData) (Q : VK), Rel K as S H → VR K as H u x → VR K as H w y → f x y S = some z →
  (∀ p H' vs, Rel K as S H' → Ext as H as H' → H' p = none → DpAll K (hide as H') vs z → Q (.ref p) (upd H' p (.lst vs))) → r u w H Q
def mOp (f : PV → PV → Sto → Option PV) (a b : M) : M := fun ρ S => (a ρ S).bind fun p => (b ρ p.2).bind fun q => (f p.1 q.1 q.2).bind fun z => some (z, q.2)
def mOpL (f : PV → PV → Sto → Option (List PyData)) (a b : M) : ML := fun ρ S => (a ρ S).bind fun p => (b ρ p.2).bind fun q => (f p.1 q.1 q.2).bind fun z => some (z, q.2)
theorem tOp_D {K : Fg} {r : R2} {f : PV → PV → Sto → Option PV} {a b : M} (ho : OpD K r f) : ∀ σ H Q, tM K (mOp f a b) σ H Q → tOp r (tM K a) (tM K b) σ H Q := fun σ H Q ⟨as, ρ, S, p, S', R, E, e, k⟩ => by
  obtain ⟨⟨x, S1⟩, e1, e⟩ := Option.bind_eq_some_iff.mp e
  obtain ⟨⟨y, S2⟩, e2, e⟩ := Option.bind_eq_some_iff.mp e
  obtain ⟨z, e3, e⟩ := Option.bind_eq_some_iff.mp e
  cases e
  refine ⟨as, ρ, S, x, S1, R, E, e1, fun u H1 R1 E1 V1 => ?_⟩
  refine ⟨as, ρ, S1, y, S2, R1, E.ext E1, e2, fun w H2 R2 E2 V2 => ?_⟩
  exact ho as S2 H2 u w x y _ Q R2 (V1.ext E2) V2 e3 fun v H3 R3 E3 V3 => k v H3 R3 ((E1.trans E2).trans E3) V3
theorem tOp_L {K : Fg} {r : R2} {f : PV → PV → Sto → Option (List PyData)} {a b : M} (ho : OpL K r f) : ∀ σ H Q, tL K (mOpL f a b) σ H Q → tOp r (tM K a) (tM K b) σ H Q := fun σ H Q ⟨as, ρ, S, p, S', R, E, e, k⟩ => by
  obtain ⟨⟨x, S1⟩, e1, e⟩ := Option.bind_eq_some_iff.mp e
  obtain ⟨⟨y, S2⟩, e2, e⟩ := Option.bind_eq_some_iff.mp e
  obtain ⟨z, e3, e⟩ := Option.bind_eq_some_iff.mp e
  cases e
  refine ⟨as, ρ, S, x, S1, R, E, e1, fun u H1 R1 E1 V1 => ?_⟩
  refine ⟨as, ρ, S1, y, S2, R1, E.ext E1, e2, fun w H2 R2 E2 V2 => ?_⟩
  exact ho as S2 H2 u w x y _ Q R2 (V1.ext E2) V2 e3 fun v H3 vs R3 E3 V3 => k v H3 vs R3 ((E1.trans E2).trans E3) V3
theorem de_op {op : Operator} {r : R2} {f} {a b : Expr} {ma mb : M} {pos : Pos} (ho : OpR X (binaryOp op) r) (hd : OpD X.K r f) (ha : DE X a ma) (hb : DE X b mb) : DE X (.BinOp a op b pos) (mOp f ma mb) := pe_imp (pe_op ho ha hb) (tOp_D hd)
theorem dl_op {op : Operator} {r : R2} {f} {a b : Expr} {ma mb : M} {pos : Pos} (ho : OpR X (binaryOp op) r) (hd : OpL X.K r f) (ha : DE X a ma) (hb : DE X b mb) : DLs X (.BinOp a op b pos) (mOpL f ma mb) := pe_imp (pe_op ho ha hb) (tOp_L hd)
theorem de_cmp {op : CmpOp} {r : R2} {f} {a b : Expr} {ma mb : M} {pos : Pos} (ho : OpR X (compareOp op) r) (hd : OpD X.K r f) (ha : DE X a ma) (hb : DE X b mb) (hm : behindInMarks op b = false) : DE X (.Compare a [op] [b] pos) (mOp f ma mb) := pe_imp (pe_cmpR ho ha hb hm) (tOp_D hd)
theorem de_ix {r : R2} {f} {a b : Expr} {ma mb : M} {pos : Pos} (ho : IxR X r) (hd : OpD X.K r f) (ha : DE X a ma) (hb : DE X b mb) (hs : PlainIx b) : DE X (.Subscript a b pos) (mOp f ma mb) := pe_imp (pe_ix ho ha hb hs) (tOp_D hd)
/-- a value that is a truth, as a test -/
def asB (m : M) : MB := fun ρ S => (m ρ S).bind fun p => match p.1 with
  | .d (.bool b) => some (b, p.2)
  | _ => none
theorem asB_some {m : M} {ρ : RE} {S S' : Sto} {b : Bool} (h : asB m ρ S = some (b, S')) : m ρ S = some (.d (.bool b), S') := by
  obtain ⟨⟨v, S1⟩, e1, e⟩ := Option.bind_eq_some_iff.mp h
  dsimp only at e
  split at e
  · cases e
    exact e1
  · cases e
theorem tTest_D {K : Fg} {t : TE} {m : M} (h : ∀ σ H Q, tM K m σ H Q → t σ H Q) : ∀ σ H Q, tMB K (asB m) σ H Q → tTest t σ H Q := fun σ H Q ⟨as, ρ, S, b, S', R, E, e, k⟩ =>
  h σ H _ ⟨as, ρ, S, .d (.bool b), S', R, E, asB_some e, fun u H1 R1 E1 V1 => by
    cases V1
    exact ⟨b, rfl, k H1 R1 E1⟩⟩
theorem db_cmp {op : CmpOp} {r : R2} {f} {a b : Expr} {ma mb : M} {pos : Pos} (ho : OpR X (compareOp op) r) (hd : OpD X.K r f) (ha : DE X a ma) (hb : DE X b mb) (hm : behindInMarks op b = false) : DB X (.Compare a [op] [b] pos) (asB (mOp f ma mb)) :=
  pt_imp (pt_cmpR ho ha hb hm) (tTest_D (tOp_D hd))
theorem db_val {e : Expr} {m : M} (h : DE X e m) (he : ∀ whole, isTrue e X.env whole = (do let v ← whole; standAt e.pos; holding [v] (truthy v)) := by intro _; rfl) : DB X e (asB m) :=
  pt_imp (pt_val h he) (tTest_D (t := tM X.K m) fun _ _ _ q => q)
def bNot (m : MB) : MB := fun ρ S => (m ρ S).bind fun p => some (!p.1, p.2)
def bAnd (a b : MB) : MB := fun ρ S => (a ρ S).bind fun p => if p.1 = true then b ρ p.2 else some (false, p.2)
def bOr (a b : MB) : MB := fun ρ S => (a ρ S).bind fun p => if p.1 = true then some (true, p.2) else b ρ p.2
theorem db_not {e : Expr} {m : MB} {pos : Pos} (h : DB X e m) : DB X (.UnaryOp .Not e pos) (bNot m) := pt_imp (pt_not h) fun σ H Q ⟨as, ρ, S, b, S', R, E, e, k⟩ => by
  obtain ⟨⟨x, S1⟩, e1, e⟩ := Option.bind_eq_some_iff.mp e
  cases e
  exact ⟨as, ρ, S, x, S1, R, E, e1, fun H1 R1 E1 => k H1 R1 E1⟩
theorem dw_and1 {a : Expr} {m : MB} {pos : Pos} (h : DB X a m) : DW X (.BoolOp .And [a] pos) m := pw_and1 h
theorem dw_or1 {a : Expr} {m : MB} {pos : Pos} (h : DB X a m) : DW X (.BoolOp .Or [a] pos) m := pw_or1 h
theorem dw_and {a b : Expr} {rest : List Expr} {m n : MB} {pos : Pos} (h : DB X a m) (h2 : DW X (.BoolOp .And (b :: rest) pos) n) : DW X (.BoolOp .And (a :: b :: rest) pos) (bAnd m n) := pw_imp (pw_and h h2) fun σ H Q ⟨as, ρ, S, b, S', R, E, e, k⟩ => by
  obtain ⟨⟨x, S1⟩, e1, e⟩ := Option.bind_eq_some_iff.mp e
  refine ⟨as, ρ, S, x, S1, R, E, e1, fun H1 R1 E1 => ?_⟩
  dsimp only at e ⊢
  split
  · rename_i hx
    rw [if_pos hx] at e
    exact ⟨as, ρ, S1, b, S', R1, E.ext E1, e, fun H2 R2 E2 => k H2 R2 (E1.trans E2)⟩
  · rename_i hx
    rw [if_neg hx] at e
    cases e
    exact k H1 R1 E1
theorem dw_or {a b : Expr} {rest : List Expr} {m n : MB} {pos : Pos} (h : DB X a m) (h2 : DW X (.BoolOp .Or (b :: rest) pos) n) : DW X (.BoolOp .Or (a :: b :: rest) pos) (bOr m n) := pw_imp (pw_or h h2) fun σ H Q ⟨as, ρ, S, b, S', R, E, e, k⟩ => by
  obtain ⟨⟨x, S1⟩, e1, e⟩ := Option.bind_eq_some_iff.mp e
  refine ⟨as, ρ, S, x, S1, R, E, e1, fun H1 R1 E1 => ?_⟩
  dsimp only at e ⊢
  split
  · rename_i hx
    rw [if_pos hx] at e
    cases e
    exact k H1 R1 E1
  · rename_i hx
    rw [if_neg hx] at e
    exact ⟨as, ρ, S1, b, S', R1, E.ext E1, e, fun H2 R2 E2 => k H2 R2 (E1.trans E2)⟩
def mAnd (a b : M) : M := fun ρ S => (a ρ S).bind fun p => match p.1 with
  | .d (.bool true) => b ρ p.2
  | .d (.bool false) => some (.d (.bool false), p.2)
  | _ => none
def mOr (a b : M) : M := fun ρ S => (a ρ S).bind fun p => match p.1 with
  | .d (.bool true) => some (.d (.bool true), p.2)
  | .d (.bool false) => b ρ p.2
  | _ => none
def mNot (a : M) : M := fun ρ S => (a ρ S).bind fun p => match p.1 with
  | .d (.bool b) => some (.d (.bool (!b)), p.2)
  | _ => none
theorem de_one {op} {a : Expr} {m : M} {pos : Pos} (h : DE X a m) : DE X (.BoolOp op [a] pos) m := pe_one h
theorem de_and {a b : Expr} {rest : List Expr} {m n : M} {pos : Pos} (ha : DE X a m) (hb : DE X (.BoolOp .And (b :: rest) pos) n) : DE X (.BoolOp .And (a :: b :: rest) pos) (mAnd m n) := pe_imp (pe_and ha hb) fun σ H Q ⟨as, ρ, S, v, S', R, E, e, k⟩ => by
  obtain ⟨⟨x, S1⟩, e1, e⟩ := Option.bind_eq_some_iff.mp e
  refine ⟨as, ρ, S, x, S1, R, E, e1, fun u H1 R1 E1 V1 => ?_⟩
  dsimp only at e
  split at e
  · cases V1
    refine ⟨true, rfl, ?_⟩
    rw [if_pos rfl]
    exact ⟨as, ρ, S1, v, S', R1, E.ext E1, e, fun u2 H2 R2 E2 => k u2 H2 R2 (E1.trans E2)⟩
  · cases V1
    cases e
    refine ⟨false, rfl, ?_⟩
    rw [if_neg Bool.false_ne_true]
    exact k _ H1 R1 E1 (.bl false)
  · cases e
def mIf (c : MB) (a b : M) : M := fun ρ S => (c ρ S).bind fun p => if p.1 = true then a ρ p.2 else b ρ p.2
theorem de_if {c a b : Expr} {mc : MB} {ma mb : M} {pos : Pos} (hc : DB X c mc) (ha : DE X a ma) (hb : DE X b mb) : DE X (.IfExp c a b pos) (mIf mc ma mb) := pe_imp (pe_ifExp hc ha hb) fun σ H Q ⟨as, ρ, S, v, S', R, E, e, k⟩ => by
  obtain ⟨⟨x, S1⟩, e1, e⟩ := Option.bind_eq_some_iff.mp e
  refine ⟨as, ρ, S, x, S1, R, E, e1, fun H1 R1 E1 => ?_⟩
  dsimp only at e ⊢
  split
  · rename_i hx
    rw [if_pos hx] at e
    exact ⟨as, ρ, S1, v, S', R1, E.ext E1, e, fun u2 H2 R2 E2 => k u2 H2 R2 (E1.trans E2)⟩
  · rename_i hx
    rw [if_neg hx] at e
    exact ⟨as, ρ, S1, v, S', R1, E.ext E1, e, fun u2 H2 R2 E2 => k u2 H2 R2 (E1.trans E2)⟩
end
end DL

namespace DL
open PySem PySem.Spec PyProof.Rows L2 DK
variable [Nms] [Tabs]

/-! ### ints -/
def fI0 (g : Int → Int → PyData) : PV → PV → Sto → Option PV := fun x y _ => match x, y with
  | .d (.int i), .d (.int j) => some (.d (g i j))
  | _, _ => none
def fIc (c : Int → Int → Bool) (g : Int → Int → PyData) : PV → PV → Sto → Option PV := fun x y _ => match x, y with
  | .d (.int i), .d (.int j) => if c i j = true then some (.d (g i j)) else none
  | _, _ => none
theorem opD_I0 {K : Fg} {g : Int → Int → V} {g' : Int → Int → PyData} (hg : ∀ i j H, Dp K H (g i j) (g' i j)) : OpD K (rI0 g) (fI0 g') := by
  intro as S H u w x y z Q R V1 V2 e k
  unfold fI0 at e
  split at e
  · rename_i i j
    cases V1
    cases V2
    cases e
    exact ⟨i, j, rfl, rfl, k _ H R .refl (hg i j _)⟩
  · cases e
theorem opD_I {K : Fg} {C : Int → Int → Prop} {g : Int → Int → V} {c : Int → Int → Bool} {g' : Int → Int → PyData} (hc : ∀ i j, c i j = true → C i j) (hg : ∀ i j H, Dp K H (g i j) (g' i j)) : OpD K (rI C g) (fIc c g') := by
  intro as S H u w x y z Q R V1 V2 e k
  unfold fIc at e
  split at e
  · rename_i i j
    split at e
    · rename_i h
      cases V1
      cases V2
      cases e
      exact ⟨i, j, rfl, rfl, hc i j h, k _ H R .refl (hg i j _)⟩
    · cases e
  · cases e
def CMulA (i j : Int) : Prop := CMul i j ∨ CMulW i j
theorem CMulA.ok {i j : Int} (h : CMulA i j) : IntMulOk i j := by
  rcases h with h | h
  · exact h.ok
  · exact h.ok
def CDivA (_ j : Int) : Prop := j ≠ 0 ∧ j.natAbs.log2 < 9000
section
variable {X : Cx}
theorem op_mulA : OpR X (binaryOp .Mult) (rI CMulA fun i j => .int (i * j)) := opI fun _ _ _ _ _ _ _ hc q => mul_int q hc.ok
theorem op_fdivA : OpR X (binaryOp .FloorDiv) (rI CDivA fun i j => .int (i.fdiv j)) := opI fun _ _ _ _ _ _ _ hc q => floordiv_int hc.1 q (.inl (PyProof.noPylong_of_log2 hc.2))
end
def mulOk (i j : Int) : Bool := (decide (-(2 ^ 64) < i) && decide (i < 2 ^ 64)) || (decide (-(2 ^ 64) < j) && decide (j < 2 ^ 64)) || decide (i.natAbs.log2 + j.natAbs.log2 < 1000000)
def divOk (_ j : Int) : Bool := !decide (j = 0) && decide (j.natAbs.log2 < 9000)
def modOk (_ j : Int) : Bool := !decide (j = 0)
def powOk (i j : Int) : Bool := decide (0 ≤ j) && decide (j ≤ 1000000) && decide (i.natAbs < 2 ^ 64)
theorem mulOk_ok {i j : Int} (h : mulOk i j = true) : CMulA i j := by
  unfold mulOk at h
  simp only [Bool.or_eq_true, Bool.and_eq_true, decide_eq_true_eq] at h
  rcases h with (h | h) | h
  · exact .inl (.inl h)
  · exact .inl (.inr h)
  · exact .inr h
theorem divOk_ok {i j : Int} (h : divOk i j = true) : CDivA i j := by
  unfold divOk at h
  simp only [Bool.and_eq_true, Bool.not_eq_true', decide_eq_true_eq, decide_eq_false_iff_not] at h
  exact h
theorem modOk_ok {i j : Int} (h : modOk i j = true) : j ≠ 0 := by
  unfold modOk at h
  simpa using h
theorem powOk_ok {i j : Int} (h : powOk i j = true) : CPow i j := by
  unfold powOk at h
  simp only [Bool.and_eq_true, decide_eq_true_eq] at h
  exact ⟨h.1.1, h.1.2, h.2⟩
abbrev fSub := fI0 fun i j => .int (i - j)
abbrev fDiv := fIc divOk fun i j => .int (i.fdiv j)
abbrev fMod := fIc modOk fun i j => .int (i.fmod j)
abbrev fPow := fIc powOk fun i j => .int (i ^ j.toNat)
abbrev fLt := fI0 fun i j => .bool (decide (i < j))
abbrev fLe := fI0 fun i j => .bool (decide (i ≤ j))
abbrev fGt := fI0 fun i j => .bool (decide (j < i))
abbrev fGe := fI0 fun i j => .bool (decide (j ≤ i))
section
variable {X : Cx} {a b : Expr} {ma mb : M} {pos : Pos}
theorem de_sub (ha : DE X a ma) (hb : DE X b mb) : DE X (.BinOp a .Sub b pos) (mOp fSub ma mb) := de_op op_sub (opD_I0 fun _ _ _ => .int _) ha hb
theorem de_div (ha : DE X a ma) (hb : DE X b mb) : DE X (.BinOp a .FloorDiv b pos) (mOp fDiv ma mb) := de_op op_fdivA (opD_I (fun _ _ h => divOk_ok h) fun _ _ _ => .int _) ha hb
theorem de_mod (ha : DE X a ma) (hb : DE X b mb) : DE X (.BinOp a .Mod b pos) (mOp fMod ma mb) := de_op op_modN (opD_I (fun _ _ h => modOk_ok h) fun _ _ _ => .int _) ha hb
theorem de_pow (ha : DE X a ma) (hb : DE X b mb) : DE X (.BinOp a .Pow b pos) (mOp fPow ma mb) := de_op op_pow (opD_I (fun _ _ h => powOk_ok h) fun _ _ _ => .int _) ha hb
theorem db_lt (ha : DE X a ma) (hb : DE X b mb) : DB X (.Compare a [.Lt] [b] pos) (asB (mOp fLt ma mb)) := db_cmp op_lt (opD_I0 fun _ _ _ => .bl _) ha hb (nomark _)
theorem db_le (ha : DE X a ma) (hb : DE X b mb) : DB X (.Compare a [.LtE] [b] pos) (asB (mOp fLe ma mb)) := db_cmp op_le (opD_I0 fun _ _ _ => .bl _) ha hb (nomark _)
theorem db_gt (ha : DE X a ma) (hb : DE X b mb) : DB X (.Compare a [.Gt] [b] pos) (asB (mOp fGt ma mb)) := db_cmp op_gt (opD_I0 fun _ _ _ => .bl _) ha hb (nomark _)
theorem db_ge (ha : DE X a ma) (hb : DE X b mb) : DB X (.Compare a [.GtE] [b] pos) (asB (mOp fGe ma mb)) := db_cmp op_ge (opD_I0 fun _ _ _ => .bl _) ha hb (nomark _)
def fNeg : PV → Option PV := fun x => match x with
  | .d (.int i) => some (.d (.int (-i)))
  | _ => none
def mUn (f : PV → Option PV) (a : M) : M := fun ρ S => (a ρ S).bind fun p => (f p.1).bind fun z => some (z, p.2)
theorem de_neg (ha : DE X a ma) : DE X (.UnaryOp .USub a pos) (mUn fNeg ma) := pe_imp (pe_un un_neg ha) fun σ H Q ⟨as, ρ, S, p, S', R, E, e, k⟩ => by
  obtain ⟨⟨x, S1⟩, e1, e⟩ := Option.bind_eq_some_iff.mp e
  obtain ⟨z, e2, e⟩ := Option.bind_eq_some_iff.mp e
  cases e
  refine ⟨as, ρ, S, x, S1, R, E, e1, fun u H1 R1 E1 V1 => ?_⟩
  unfold fNeg at e2
  split at e2
  · rename_i i q
    cases e2
    dsimp only at q
    subst q
    cases V1
    exact ⟨i, rfl, k _ H1 R1 E1 (.int _)⟩
  · cases e2
end

/-! ### what a value is to be read as -/
def asD (S : Sto) : PV → Option PyData
  | .d x => some x
  | .f _ => none
  | .c i => (lAt S i).map .list
theorem asD_dp {K : Fg} {as : List Addr} {S : Sto} {H : Hp} {u : V} {x : PV} {d : PyData} (R : Rel K as S H) (h : VR K as H u x) (e : asD S x = some d) : Dp K H u d := by
  cases x with
  | d y =>
    cases e
    exact dp_mono hide_same _ _ h
  | f _ => first | rfl | exact h | (cases e; done) | (cases e1; done) | (cases e2; done) | (cases e3; done) | (cases e4; done) | (cases e5; done) | (cases e6; done) | (cases h; done) | (cases h1; done) | (cases h2; done) | (cases h3; done) | (cases b; done) | (cases q; done) | exact h.elim | exact g.elim | exact r.elim | exact r.1.elim | exact r1.elim | exact r2.elim | exact z.elim | exact h1.elim | contradiction | (cases y <;> rfl) | (cases x <;> rfl) | (cases q <;> rfl) | (cases a <;> rfl) | exact L _ _ | exact L _ | (simp_all; done)
  | c i =>
    obtain ⟨a, q, rfl⟩ := h
    unfold asD at e; dsimp only at e
    cases hs : lAt S i with
    | none => rw [hs] at e; cases e
    | some ds =>
      rw [hs] at e
      cases e
      obtain ⟨vs, h1, h2⟩ := R.at_ i a ds q hs
      exact .lst (SqL.of h1) (dpAll_mono hide_same _ _ h2)
/-- the items of a list, a tuple -/
def itemsOf (S : Sto) : PV → Option (List PyData)
  | .d (.list xs) => some xs
  | .d (.tuple xs) => some xs
  | .c i => lAt S i
  | _ => none
theorem items_at {K : Fg} {as : List Addr} {S : Sto} {H : Hp} {u : V} {x : PV} {ds : List PyData} (R : Rel K as S H) (h : VR K as H u x) (e : itemsOf S x = some ds) :
    ∃ a vs, u = .ref a ∧ (SqL K H a vs ∨ SqT K H a vs) ∧ DpAll K (hide as H) vs ds := by
  cases x with
  | d y =>
    cases y with
    | list xs =>
      cases e
      cases h with
      | lst s a => exact ⟨_, _, rfl, .inl (hide_same.seq s), a⟩
    | tuple xs =>
      cases e
      cases h with
      | tup s a => exact ⟨_, _, rfl, .inr (sqT_mono hide_same s), a⟩
    | _ => cases e
  | f _ => first | rfl | exact h | (cases e; done) | (cases e1; done) | (cases e2; done) | (cases e3; done) | (cases e4; done) | (cases e5; done) | (cases e6; done) | (cases h; done) | (cases h1; done) | (cases h2; done) | (cases h3; done) | (cases b; done) | (cases q; done) | exact h.elim | exact g.elim | exact r.elim | exact r.1.elim | exact r1.elim | exact r2.elim | exact z.elim | exact h1.elim | contradiction | (cases y <;> rfl) | (cases x <;> rfl) | (cases q <;> rfl) | (cases a <;> rfl) | exact L _ _ | exact L _ | (simp_all; done)
  | c i =>
    obtain ⟨a, q, rfl⟩ := h
    obtain ⟨vs, h1, h2⟩ := R.at_ i a ds q e
    exact ⟨a, vs, rfl, .inl (SqL.of h1), h2⟩

/-! ### == and != -/
def fEq : PV → PV → Sto → Option PV := fun x y S => (asD S x).bind fun a => (asD S y).bind fun b => if (SeqAt.shaped a && SeqAt.shaped b) = true then some (.d (.bool (PyData.eqv a b))) else none
def fNe : PV → PV → Sto → Option PV := fun x y S => (asD S x).bind fun a => (asD S y).bind fun b => if (SeqAt.shaped a && SeqAt.shaped b) = true then some (.d (.bool (!PyData.eqv a b))) else none
theorem opD_eq {K : Fg} : OpD K (rEqD K) fEq := by
  intro as S H u w x y z Q R V1 V2 e k
  obtain ⟨a, e1, e⟩ := Option.bind_eq_some_iff.mp e
  obtain ⟨b, e2, e⟩ := Option.bind_eq_some_iff.mp e
  split at e
  · rename_i h
    cases e
    rw [Bool.and_eq_true] at h
    exact ⟨a, b, asD_dp R V1 e1, asD_dp R V2 e2, h.1, h.2, k _ H R .refl (.bl _)⟩
  · cases e
theorem opD_ne {K : Fg} : OpD K (rNeD K) fNe := by
  intro as S H u w x y z Q R V1 V2 e k
  obtain ⟨a, e1, e⟩ := Option.bind_eq_some_iff.mp e
  obtain ⟨b, e2, e⟩ := Option.bind_eq_some_iff.mp e
  split at e
  · rename_i h
    cases e
    rw [Bool.and_eq_true] at h
    exact ⟨a, b, asD_dp R V1 e1, asD_dp R V2 e2, h.1, h.2, k _ H R .refl (.bl _)⟩
  · cases e
section
variable {X : Cx} {a b : Expr} {ma mb : M} {pos : Pos} {k : Nat}
theorem de_eq (hr : Room k X.A) (ha : DE X a ma) (hb : DE X b mb) : DE X (.Compare a [.Eq] [b] pos) (mOp fEq ma mb) := de_cmp (op_eqD hr.units) opD_eq ha hb (nomark _)
theorem db_ne (hr : Room k X.A) (ha : DE X a ma) (hb : DE X b mb) : DB X (.Compare a [.NotEq] [b] pos) (asB (mOp fNe ma mb)) := db_cmp (op_neD hr.units) opD_ne ha hb (nomark _)
end

/-! ### +, * of all kinds -/
/-- list + list, whatever stands there -/
def rCatS (K : Fg) : R2 := fun x y H Q => ∃ l b xs zs, x = .ref l ∧ y = .ref b ∧ SqL K H l xs ∧ SqL K H b zs ∧ xs.length + zs.length ≤ sizeLine ∧ ∀ p, H p = none → Q (.ref p) (upd H p (.lst (xs ++ zs)))
theorem op_catS {X : Cx} : OpR X (binaryOp .Add) (rCatS X.K) := by
  intro pins s σ H x y v u Q I rx ry h
  obtain ⟨l, b, xs, zs, rfl, rfl, hH, hB, hz, q⟩ := h
  cases rx
  cases ry
  obtain ⟨its, r, ⟨⟨cls, dd, data, sl⟩, n, ho, hc, hdd, hd⟩, _⟩ := I.list hH
  obtain ⟨its2, r2, ⟨⟨cls2, dd2, data2, sl2⟩, n2, ho2, hc2, hdd2, hd2⟩, _⟩ := I.list hB
  simp only at hc hd hc2 hd2
  subst hc hd hc2 hd2
  have e : its.toArray ++ its2.toArray = (its ++ its2).toArray := by simp
  have l1 := r.length
  have l2 := r2.length
  refine concat_meets ⟨_, ho, rfl⟩ ⟨_, ho2, rfl⟩ noFill_list_add seq_list_add PySem.F.slot_list_add PySem.F.entry_list_add (PySem.F.args_list_add_2 _ _) (list_addW l b its.toArray its2.toArray n n2 dd dd2 sl sl2 (by rw [List.size_toArray, List.size_toArray]; omega)) ⟨ho, ho2, ?_⟩
  rw [e]
  exact ⟨.ref _, _, I.lnew (t' := s.toks) (r.append r2) (by rw [List.length_append]; omega), rfl, q _ I.fresh⟩
def rAddA (K : Fg) : R2 := fun x y H Q => rI0 (fun i j => .int (i + j)) x y H Q ∨ rCatF K x y H Q ∨ rCatS K x y H Q ∨ ∃ i j, x = .str i ∧ y = .str j ∧ i.length + j.length ≤ sizeLine ∧ Q (.str (i ++ j)) H
theorem op_addA {X : Cx} : OpR X (binaryOp .Add) (rAddA X.K) := op_add.or (op_catF.or (op_catS.or op_add_str))
def fCatL : PV → PV → Sto → Option (List PyData) := fun x y S => match asD S x, asD S y with
  | some (.list xs), some (.list ys) => if xs.length + ys.length ≤ 1000000 then some (xs ++ ys) else none
  | _, _ => none
def fAdd : PV → PV → Sto → Option PV := fun x y S => match x, y with
  | .d (.int i), .d (.int j) => some (.d (.int (i + j)))
  | .d (.tuple xs), .d (.tuple ys) => if xs.length + ys.length ≤ 1000000 then some (.d (.tuple (xs ++ ys))) else none
  | .d (.str i), .d (.str j) => if i.length + j.length ≤ 1000000 then some (.d (.str (i ++ j))) else none
  | x, y => (fCatL x y S).map fun l => .d (.list l)
theorem million {n : Nat} (h : n ≤ 1000000) : n ≤ sizeLine := by rw [sizeLine_eq]; omega
theorem list_at {K : Fg} {as : List Addr} {S : Sto} {H : Hp} {u : V} {x : PV} {ds : List PyData} (R : Rel K as S H) (h : VR K as H u x) (e : asD S x = some (.list ds)) :
    ∃ a vs, u = .ref a ∧ SqL K H a vs ∧ DpAll K (hide as H) vs ds := by
  cases x with
  | d y =>
    cases e
    cases h with
    | lst s a => exact ⟨_, _, rfl, hide_same.seq s, a⟩
  | f _ => first | rfl | exact h | (cases e; done) | (cases e1; done) | (cases e2; done) | (cases e3; done) | (cases e4; done) | (cases e5; done) | (cases e6; done) | (cases h; done) | (cases h1; done) | (cases h2; done) | (cases h3; done) | (cases b; done) | (cases q; done) | exact h.elim | exact g.elim | exact r.elim | exact r.1.elim | exact r1.elim | exact r2.elim | exact z.elim | exact h1.elim | contradiction | (cases y <;> rfl) | (cases x <;> rfl) | (cases q <;> rfl) | (cases a <;> rfl) | exact L _ _ | exact L _ | (simp_all; done)
  | c i =>
    obtain ⟨a, q, rfl⟩ := h
    unfold asD at e; dsimp only at e
    cases hs : lAt S i with
    | none => rw [hs] at e; cases e
    | some es =>
      rw [hs] at e
      cases e
      obtain ⟨vs, h1, h2⟩ := R.at_ i a ds q hs
      exact ⟨a, vs, rfl, SqL.of h1, h2⟩
theorem opL_cat {K : Fg} : OpL K (rCatS K) fCatL := by
  intro as S H u w x y z Q R V1 V2 e k
  unfold fCatL at e
  split at e
  · rename_i xs ys e1 e2
    split at e
    · rename_i hz
      cases e
      obtain ⟨a, vs, rfl, h1, d1⟩ := list_at R V1 e1
      obtain ⟨b, ws, rfl, h2, d2⟩ := list_at R V2 e2
      exact ⟨a, b, vs, ws, rfl, rfl, h1, h2, by rw [dpAll_len d1, dpAll_len d2]; exact million hz, fun p hp => k p H _ R .refl hp (dpAll_append d1 d2)⟩
    · cases e
  · cases e
/-- what is new and frozen at once -/
theorem frozen_new {K : Fg} {as : List Addr} {S : Sto} {H : Hp} {z : List PyData} {Q : VK} (k : ∀ v H', Rel K as S H' → Ext as H as H' → VR K as H' v (.d (.list z)) → Q v H') :
    ∀ p H' vs, Rel K as S H' → Ext as H as H' → H' p = none → DpAll K (hide as H') vs z → Q (.ref p) (upd H' p (.lst vs)) := fun p H' vs R1 E1 hq hd => by
  obtain ⟨R2, E2⟩ := R1.laid (o := .lst vs) hq
  exact k _ _ R2 (E1.trans E2) (.lst (SqL.of (hide_some (R1.free hq) upd_same)) (dpAll_mono E2.same _ _ hd))
theorem tuple_new {K : Fg} {as : List Addr} {S : Sto} {H : Hp} {z : List PyData} {vs : List V} {Q : VK} (R : Rel K as S H) (hd : DpAll K (hide as H) vs z) (k : ∀ v H', Rel K as S H' → Ext as H as H' → VR K as H' v (.d (.tuple z)) → Q v H') : NewT H vs Q := fun p o ho hq => by
  obtain ⟨R2, E2, V2⟩ := R.newT hd ho hq
  exact k _ _ R2 E2 V2
theorem opD_add {K : Fg} : OpD K (rAddA K) fAdd := by
  intro as S H u w x y z Q R V1 V2 e k
  unfold fAdd at e
  split at e
  · rename_i i j
    cases V1
    cases V2
    cases e
    exact .inl ⟨i, j, rfl, rfl, k _ H R .refl (.int _)⟩
  · rename_i xs ys
    split at e
    · rename_i hz
      cases e
      cases V1 with
      | tup s1 a1 =>
        cases V2 with
        | tup s2 a2 =>
          rename_i p1 vs1 p2 vs2
          refine .inr (.inl ⟨_, _, _, _, rfl, rfl, sqT_mono hide_same s1, sqT_mono hide_same s2, by rw [dpAll_len a1, dpAll_len a2]; exact million hz, fun h0 => ?_, fun h0 h1 => ?_, fun h0 h1 => tuple_new R (dpAll_append a1 a2) k⟩)
          · subst h0
            cases a1
            exact k _ H R .refl (.tup s2 a2)
          · subst h1
            cases a2
            refine k _ H R .refl ?_
            show Dp _ _ _ _
            rw [List.append_nil]
            exact .tup s1 a1
    · cases e
  · rename_i i j
    split at e
    · rename_i hz
      cases V1
      cases V2
      cases e
      exact .inr (.inr (.inr ⟨i, j, rfl, rfl, million hz, k _ H R .refl (.str _)⟩))
    · cases e
  · obtain ⟨l, e1, e⟩ := Option.map_eq_some_iff.mp e
    subst e
    exact .inr (.inr (.inl (opL_cat as S H u w _ _ l Q R V1 V2 e1 (frozen_new k))))
section
variable {X : Cx} {a b : Expr} {ma mb : M} {pos : Pos}
theorem de_add (ha : DE X a ma) (hb : DE X b mb) : DE X (.BinOp a .Add b pos) (mOp fAdd ma mb) := de_op op_addA opD_add ha hb
theorem dl_cat (ha : DE X a ma) (hb : DE X b mb) : DLs X (.BinOp a .Add b pos) (mOpL fCatL ma mb) := dl_op op_catS opL_cat ha hb
end
end DL

namespace DL
open PySem PySem.Spec PyProof.Rows L2 DK
variable [Nms] [Tabs]

/-! ### a def's promise where nothing is being shown (no repr under way) -/
structure FnG (P : Program) (w : World) (K : Fg) (mg : Str → Option Value) (base : Heap) (CX : CXT) (k : Nat) (f : Addr) (fd : FuncData) (ps : List Str) (sp : Sp) : Prop where
  cnt : ∀ vs H Q E, sp vs H Q E → vs.length = ps.length
  go : ∀ (A : Around) (out : List Env) (s : Shared) (H : Hp) (ar : Args) (us : List Value) (vs : List V) (Q : VK) (E : XK), Room k A → A.guards = some [] → Env0 P w K mg base A out s H →
    BindsTo s fd ar (ps.zip us) → Vals vs us → sp vs H Q E → codeAny (model P w) A (.call (.ref f) ar) (CR CX out P w H s Q E) s
section
variable {P : Program} {w : World} {K : Fg} {mg : Str → Option Value} {base : Heap} {CX : CXT}
theorem FnG.up {j k : Nat} {f : Addr} {fd : FuncData} {ps : List Str} {sp : Sp} (F : FnG P w K mg base CX j f fd ps sp) (h : j ≤ k) : FnG P w K mg base CX k f fd ps sp :=
  ⟨F.cnt, fun A out s H ar us vs Q E hr => F.go A out s H ar us vs Q E (hr.mono h)⟩
theorem FnG.weak {k : Nat} {f : Addr} {fd : FuncData} {ps : List Str} {sp sp' : Sp} (F : FnG P w K mg base CX k f fd ps sp) (h : ∀ vs H Q E, sp' vs H Q E → sp vs H Q E) : FnG P w K mg base CX k f fd ps sp' :=
  ⟨fun vs H Q E q => F.cnt vs H Q E (h _ _ _ _ q), fun A out s H ar us vs Q E hr hg he hb hv hs => F.go A out s H ar us vs Q E hr hg he hb hv (h _ _ _ _ hs)⟩
/-- a def of the text, by its body -/
theorem fng_of {k : Nat} {f : Addr} {name qual : Str} {params : Arguments} {body : List Stmt} {scope : Scope} {dV kV doc pm cdv ct oc : Value} {an od : Option Addr} {osl : Array (Option Value)} {N ps : List Str} {sp : Sp}
    (lk : K.lookup f = some ⟨oc, od, .func (PySem.W.fnOf name qual params body scope dV kV doc pm an cdv ct), osl⟩) (hcd : PySem.W.codeIn K cdv qual = true) (sc : FnScope N ps scope) (cnt : ∀ vs H Q E, sp vs H Q E → vs.length = ps.length)
    (hbody : ∀ (A : Around) (out : List Env) (s : Shared) (H : Hp) (vs : List V) (Q : VK) (E : XK), Room k (A.deeper (envOfC qual scope s.heap.objs.size f cdv)) → (A.deeper (envOfC qual scope s.heap.objs.size f cdv)).guards = some [] → sp vs H Q E →
      ∃ t, PSs (cxOf CX P w K mg base N qual scope f cdv A out s H E) body t ∧ t { nx := fun _ H' => Q .non H', rt := Q } (start N vs) H) :
    FnG P w K mg base CX (k + 1) f (PySem.W.fnOf name qual params body scope dV kV doc pm an cdv ct) ps sp := by
  refine ⟨cnt, fun A out s H ar us vs Q E room gd en bd rel want => ?_⟩
  have old : ∀ b o, base.get? b = some o → s.heap.get? b = some o := fun b o e => (en.bs b o e).1
  have kin : K.In s.heap := en.mod.kin.keeps old
  have kinds : ∀ y ∈ ps.zip us, scope.names.lookup y.1 = some .local ∨ (scope.names.lookup y.1 = some .cell ∧ ((cellsFrom (s.heap.objs.size + 1) scope.names []).lookup y.1).isSome = true) := fun y hy =>
    (sc.par y.1 (List.of_mem_zip (show (y.1, y.2) ∈ ps.zip us from hy)).1).imp id fun q => ⟨q, PySem.W.cellsFrom_some _ _ _ (.inl q)⟩
  refine codeAny_call_function room.depth (kin _ _ lk) rfl sc.co sc.gen rfl (PySem.W.codeRec_of kin hcd) (bd _ _ _ _ (wpAny_newFunctionEnv_cells sc.kind kinds fun env ee s1 x => ?_))
  subst ee
  refine ⟨(en.mod.nolimit.keeps old).keeps x.toInCall.keep, codeAny_func ?_⟩
  obtain ⟨t, ht, hq⟩ := hbody A out s H vs Q E (room.deeper _) gd want
  refine wpAny_mono (ht.run [] s1 (start N vs) H _ (inv_start sc room.hd en (cnt _ _ _ _ want) rel x) hq) (fun fl s' z => ?_) fun e s' z => z
  cases fl with
  | ret u => obtain ⟨v, σ', H', J, rv, q⟩ := z; exact ⟨v, H', J.os, J.bare, J.base, J.hok, rv, q⟩
  | next => obtain ⟨σ', H', J, q⟩ := z; exact ⟨V.non, H', J.os, J.bare, J.base, J.hok, rfl, q⟩
  | brk => obtain ⟨_, _, _, q⟩ := z; exact q.elim
  | cont => obtain ⟨_, _, _, q⟩ := z; exact q.elim
end
section
variable {X : Cx} {CX : CXT} {k : Nat} {f : Addr} {fd : FuncData} {ps : List Str} {sp : Sp} {E : XK} {x : Str} {p pos : Pos} {e : Expr} {es : List Expr} {t : TA}
theorem pe_callG (F : FnG X.prog X.w X.K X.mg X.base CX k f fd ps sp) (hr : Room k X.A) (hgd : X.A.guards = some []) (hg : Gl X x) (hm : X.mg x = some (.ref f)) (hk : PySem.W.keepIn X.K (.ref f) = true) (hb : Binds X.K fd ps []) (hx : Passes CX X E)
    (ha : PA X (e :: es) t) (hdb : (x == ("__debug__" : Str)) = false := by decide) (he : starEach (e :: es) X.env = (false, eval e X.env) :: starEach es X.env := by rfl) (hpl : (backTo pos (starEach es X.env)).any (·.1) = false := by rfl) :
    PE X (.Call (.Name x p) (e :: es) [] pos) (fun σ H Q => t σ H fun vs H1 => sp vs H1 Q E) := by
  refine ⟨fun pins s σ H Q I want => wpAny_Call_Name_kw (ld_glob I hg hm (PySem.W.callWith_K (h₀ := X.base) I.ok.mod.kin hk (thn (ha.run pos pins s σ H _ I want) fun us s1 z => ?_) he hpl) hdb)⟩
  obtain ⟨vs, H1, I1, rel, q⟩ := z
  have hl : us.length = ps.length := by rw [← rel.length]; exact F.cnt _ _ _ _ q
  have bt := hb s1 us I1.kIn (by rw [List.append_nil]; exact hl)
  rw [List.append_nil] at bt
  refine ⟨I1.kIn, wpAny_call (codeAny_mono (F.go X.A X.stack s1 H1 ⟨us, []⟩ us vs Q E hr hgd I1.env0 bt rel q) fun r s' z => ?_)⟩
  cases r with
  | error ev => exact hx pins σ H1 s1 ev s' I1 z
  | ok fl =>
    cases fl with
    | ret u => exact I1.after z
    | next => exact z.elim
    | brk => exact z.elim
    | cont => exact z.elim
end

/-! ### promises over data -/
abbrev FV := List PV → Sto → Option (PV × Sto)
abbrev FL := List PV → Sto → Option (List PyData × Sto)
def spF (K : Fg) (n : Nat) (F : FV) : Sp := fun vs H Q _ => vs.length = n ∧ (∀ t ∈ Tabs.l, TabX H t) ∧ ∃ as S ps v S', Rel K as S H ∧ Paired (VR K as H) vs ps ∧ F ps S = some (v, S') ∧ ∀ u H', Rel K as S' H' → Ext as H as H' → VR K as H' u v → Q u H'
def spL (K : Fg) (n : Nat) (F : FL) : Sp := fun vs H Q _ => vs.length = n ∧ (∀ t ∈ Tabs.l, TabX H t) ∧ ∃ as S ps ds S', Rel K as S H ∧ Paired (VR K as H) vs ps ∧ F ps S = some (ds, S') ∧ ∀ p H' ws, Rel K as S' H' → Ext as H as H' → H' p = none → DpAll K (hide as H') ws ds → Q (.ref p) (upd H' p (.lst ws))
theorem paired_len {α β : Type} {R : α → β → Prop} : ∀ {l : List α} {m : List β}, Paired R l m → l.length = m.length
  | _, _, .nil => rfl
  | _, _, .cons _ r => by rw [List.length_cons, List.length_cons, paired_len r]
def mFn (n : Nat) (F : FV) (ma : MA) : M := fun ρ S => (ma ρ S).bind fun p => if p.1.length = n then F p.1 p.2 else none
def mFnL (n : Nat) (F : FL) (ma : MA) : ML := fun ρ S => (ma ρ S).bind fun p => if p.1.length = n then F p.1 p.2 else none
section
variable {X : Cx} {k n : Nat} {f : Addr} {fd : FuncData} {ps : List Str} {x : Str} {p pos : Pos} {e : Expr} {es : List Expr} {ma : MA}
theorem de_call {F : FV} (G : FnG X.prog X.w X.K X.mg X.base CX0 k f fd ps (spF X.K n F)) (hr : Room k X.A) (hgd : X.A.guards = some []) (hg : Gl X x) (hm : X.mg x = some (.ref f)) (hk : PySem.W.keepIn X.K (.ref f) = true) (hb : Binds X.K fd ps [])
    (ha : DA X (e :: es) ma) (hdb : (x == ("__debug__" : Str)) = false := by decide) (he : starEach (e :: es) X.env = (false, eval e X.env) :: starEach es X.env := by rfl) (hpl : (backTo pos (starEach es X.env)).any (·.1) = false := by rfl) :
    DE X (.Call (.Name x p) (e :: es) [] pos) (mFn n F ma) := pe_imp (pe_callG (E := E0) G hr hgd hg hm hk hb pass0 ha hdb he hpl) fun σ H Q ⟨as, ρ, S, v, S', R, E, e, k⟩ => by
  obtain ⟨⟨xs, S1⟩, e1, e⟩ := Option.bind_eq_some_iff.mp e
  dsimp only at e
  split at e
  · rename_i hn
    refine ⟨as, ρ, S, xs, S1, R, E, e1, fun us H1 R1 E1 V1 => ?_⟩
    exact ⟨by rw [paired_len V1]; exact hn, (E.ext E1).tab, as, S1, xs, v, S', R1, V1, e, fun u H2 R2 E2 V2 => k u H2 R2 (E1.trans E2) V2⟩
  · cases e
theorem dl_call {F : FL} (G : FnG X.prog X.w X.K X.mg X.base CX0 k f fd ps (spL X.K n F)) (hr : Room k X.A) (hgd : X.A.guards = some []) (hg : Gl X x) (hm : X.mg x = some (.ref f)) (hk : PySem.W.keepIn X.K (.ref f) = true) (hb : Binds X.K fd ps [])
    (ha : DA X (e :: es) ma) (hdb : (x == ("__debug__" : Str)) = false := by decide) (he : starEach (e :: es) X.env = (false, eval e X.env) :: starEach es X.env := by rfl) (hpl : (backTo pos (starEach es X.env)).any (·.1) = false := by rfl) :
    DLs X (.Call (.Name x p) (e :: es) [] pos) (mFnL n F ma) := pe_imp (pe_callG (E := E0) G hr hgd hg hm hk hb pass0 ha hdb he hpl) fun σ H Q ⟨as, ρ, S, v, S', R, E, e, k⟩ => by
  obtain ⟨⟨xs, S1⟩, e1, e⟩ := Option.bind_eq_some_iff.mp e
  dsimp only at e
  split at e
  · rename_i hn
    refine ⟨as, ρ, S, xs, S1, R, E, e1, fun us H1 R1 E1 V1 => ?_⟩
    exact ⟨by rw [paired_len V1]; exact hn, (E.ext E1).tab, as, S1, xs, v, S', R1, V1, e, fun p H2 ws R2 E2 h2 h3 => k p H2 ws R2 (E1.trans E2) h2 h3⟩
  · cases e
end

/-! ### built-in calls -/
def CallD (K : Fg) (r : List V → Hp → VK → Prop) (f : List PV → Sto → Option PV) : Prop := ∀ (as : List Addr) (S : Sto) (H : Hp) (us : List V) (vs : List PV) (z : PV) (Q : VK), Rel K as S H → Paired (VR K as H) us vs → f vs S = some z →
  (∀ v H', Rel K as S H' → Ext as H as H' → VR K as H' v z → Q v H') → r us H Q
def CallL (K : Fg) (r : List V → Hp → VK → Prop) (f : List PV → Sto → Option (List PyData)) : Prop := ∀ (as : List Addr) (S : Sto) (H : Hp) (us : List V) (vs : List PV) (z : List PyData) (Q : VK), Rel K as S H → Paired (VR K as H) us vs → f vs S = some z →
  (∀ p H' ws, Rel K as S H' → Ext as H as H' → H' p = none → DpAll K (hide as H') ws z → Q (.ref p) (upd H' p (.lst ws))) → r us H Q
def mCall (f : List PV → Sto → Option PV) (ma : MA) : M := fun ρ S => (ma ρ S).bind fun p => (f p.1 p.2).bind fun z => some (z, p.2)
def mCallL (f : List PV → Sto → Option (List PyData)) (ma : MA) : ML := fun ρ S => (ma ρ S).bind fun p => (f p.1 p.2).bind fun z => some (z, p.2)
section
variable {X : Cx} {x : Str} {p pos : Pos} {e : Expr} {es : List Expr} {ma : MA} {id T : String} {r : List V → Hp → VK → Prop}
theorem tCB_D {f} (hd : CallD X.K r f) : ∀ σ H Q, tM X.K (mCall f ma) σ H Q → tCB r (tMA X.K ma) σ H Q := fun σ H Q ⟨as, ρ, S, v, S', R, E, e, k⟩ => by
  obtain ⟨⟨xs, S1⟩, e1, e⟩ := Option.bind_eq_some_iff.mp e
  obtain ⟨z, e2, e⟩ := Option.bind_eq_some_iff.mp e
  cases e
  exact ⟨as, ρ, S, xs, S1, R, E, e1, fun us H1 R1 E1 V1 => hd as S1 H1 us xs _ Q R1 V1 e2 fun v H2 R2 E2 V2 => k v H2 R2 (E1.trans E2) V2⟩
theorem tCB_L {f} (hd : CallL X.K r f) : ∀ σ H Q, tL X.K (mCallL f ma) σ H Q → tCB r (tMA X.K ma) σ H Q := fun σ H Q ⟨as, ρ, S, v, S', R, E, e, k⟩ => by
  obtain ⟨⟨xs, S1⟩, e1, e⟩ := Option.bind_eq_some_iff.mp e
  obtain ⟨z, e2, e⟩ := Option.bind_eq_some_iff.mp e
  cases e
  exact ⟨as, ρ, S, xs, S1, R, E, e1, fun us H1 R1 E1 V1 => hd as S1 H1 us xs _ Q R1 V1 e2 fun v H2 ws R2 E2 V2 => k v H2 ws R2 (E1.trans E2) V2⟩
theorem de_cb {f} (hc : CallR X (.builtin id) r) (hd : CallD X.K r f) (hg : Gl X x) (hm : X.mg x = none) (hv : bootBuiltins x = some (.builtin id)) (ha : DA X (e :: es) ma) (hn : x ≠ "__name__" := by decide) (hdb : (x == ("__debug__" : Str)) = false := by decide)
    (he : starEach (e :: es) X.env = (false, eval e X.env) :: starEach es X.env := by rfl) (hpl : (backTo pos (starEach es X.env)).any (·.1) = false := by rfl) : DE X (.Call (.Name x p) (e :: es) [] pos) (mCall f ma) := pe_imp (pe_callB hc hg hm hv ha hn hdb he hpl) (tCB_D hd)
theorem de_ct {f} (hc : CallR X (.type T) r) (hd : CallD X.K r f) (hg : Gl X x) (hm : X.mg x = none) (hv : bootBuiltins x = some (.type T)) (ha : DA X (e :: es) ma) (hn : x ≠ "__name__" := by decide) (hdb : (x == ("__debug__" : Str)) = false := by decide)
    (he : starEach (e :: es) X.env = (false, eval e X.env) :: starEach es X.env := by rfl) (hpl : (backTo pos (starEach es X.env)).any (·.1) = false := by rfl) : DE X (.Call (.Name x p) (e :: es) [] pos) (mCall f ma) := pe_imp (pe_callTy hc hg hm hv ha hn hdb he hpl) (tCB_D hd)
theorem dl_ct {f} (hc : CallR X (.type T) r) (hd : CallL X.K r f) (hg : Gl X x) (hm : X.mg x = none) (hv : bootBuiltins x = some (.type T)) (ha : DA X (e :: es) ma) (hn : x ≠ "__name__" := by decide) (hdb : (x == ("__debug__" : Str)) = false := by decide)
    (he : starEach (e :: es) X.env = (false, eval e X.env) :: starEach es X.env := by rfl) (hpl : (backTo pos (starEach es X.env)).any (·.1) = false := by rfl) : DLs X (.Call (.Name x p) (e :: es) [] pos) (mCallL f ma) := pe_imp (pe_callTy hc hg hm hv ha hn hdb he hpl) (tCB_L hd)
end
end DL

namespace DL
open PySem PySem.Spec PyProof.Rows L2 DK
variable [Nms] [Tabs]

/-! ### len, abs, min, max, sum -/
def cLen : List PV → Sto → Option PV := fun vs S => match vs with
  | [x] => match asD S x with
    | some (.list xs) => some (.d (.int xs.length))
    | some (.tuple xs) => some (.d (.int xs.length))
    | some (.str z) => if z.length ≤ 1000000 then some (.d (.int z.length)) else none
    | _ => none
  | _ => none
theorem paired1 {K : Fg} {as : List Addr} {H : Hp} {us : List V} {x : PV} (h : Paired (VR K as H) us [x]) : ∃ u, us = [u] ∧ VR K as H u x := by
  cases h with
  | cons a b =>
    cases b
    exact ⟨_, rfl, a⟩
theorem paired2 {K : Fg} {as : List Addr} {H : Hp} {us : List V} {x y : PV} (h : Paired (VR K as H) us [x, y]) : ∃ u v, us = [u, v] ∧ VR K as H u x ∧ VR K as H v y := by
  cases h with
  | cons a b =>
    cases b with
    | cons c d =>
      cases d
      exact ⟨_, _, rfl, a, c⟩
theorem cd_len {K : Fg} : CallD K (fun xs H Q => ∃ x n, xs = [x] ∧ LenV K x H n ∧ Q (.int n) H) cLen := by
  intro as S H us vs z Q R V1 e k
  unfold cLen at e
  split at e
  · rename_i x
    obtain ⟨u, rfl, V⟩ := paired1 V1
    split at e
    · rename_i ds q
      cases e
      have h := asD_dp R V q
      cases h with
      | lst s a => exact ⟨_, ds.length, rfl, .inl ⟨_, s, (dpAll_len a).symm⟩, k _ H R .refl (.int _)⟩
    · rename_i ds q
      cases e
      have h := asD_dp R V q
      cases h with
      | tup s a => exact ⟨_, ds.length, rfl, .inr ⟨_, s, (dpAll_len a).symm⟩, k _ H R .refl (.int _)⟩
    · rename_i z q
      split at e
      · rename_i hz
        cases e
        have h := asD_dp R V q
        cases h
        exact ⟨_, z.length, rfl, ⟨million hz, rfl⟩, k _ H R .refl (.int _)⟩
      · cases e
    · cases e
  · cases e
def cAbs : List PV → Sto → Option PV := fun vs _ => match vs with
  | [.d (.int i)] => some (.d (.int (if i < 0 then -i else i)))
  | _ => none
def cMax : List PV → Sto → Option PV := fun vs _ => match vs with
  | [.d (.int i), .d (.int j)] => some (.d (.int (if j > i then j else i)))
  | _ => none
def cMin : List PV → Sto → Option PV := fun vs _ => match vs with
  | [.d (.int i), .d (.int j)] => some (.d (.int (if j < i then j else i)))
  | _ => none
theorem cd_max {K : Fg} : CallD K (fun xs H Q => ∃ i j, xs = [.int i, .int j] ∧ Q (.int (if j > i then j else i)) H) cMax := by
  intro as S H us vs z Q R V1 e k
  unfold cMax at e
  split at e
  · rename_i i j
    obtain ⟨u, v, rfl, V, V'⟩ := paired2 V1
    cases V
    cases V'
    cases e
    exact ⟨i, j, rfl, k _ H R .refl (.int _)⟩
  · cases e
def intsOf : List PyData → Option (List Int)
  | [] => some []
  | .int i :: r => (intsOf r).map (i :: ·)
  | _ :: _ => none
theorem intsOf_some : ∀ {ds : List PyData} {ns : List Int}, intsOf ds = some ns → ds = ns.map .int
  | [], ns, h => by cases h; rfl
  | d :: r, ns, h => by
    cases d with
    | int i =>
      obtain ⟨l, e1, e2⟩ := Option.map_eq_some_iff.mp h
      subst e2
      rw [intsOf_some e1]
      rfl
    | _ => cases h
theorem intsOf_map : ∀ ns : List Int, intsOf (ns.map .int) = some ns
  | [] => rfl
  | n :: r => by
    show (intsOf (r.map .int)).map (n :: ·) = _
    rw [intsOf_map r]
    rfl
section
variable {X : Cx}
/-- sum of a tuple of ints -/
def rSumT (K : Fg) : List V → Hp → VK → Prop := fun vs H Q => ∃ (a : Addr) (ns : List Int), vs = [V.ref a] ∧ SqT K H a (ns.map V.int) ∧ Q (.int ns.sum) H
theorem sum_tup_raw {prog : Program} {w : World} {A : Around} {E : Value → Shared → Prop} {s : Shared} {l : Addr} {its : List Value} {ns : List Int} {Q : Value → Shared → Prop} (hh : A.handled = none) (hl : s.heap.IsTuple l its.toArray) (hi : IntsAre its ns)
    (h : ∀ h' tk t', (∀ b o, s.heap.get? b = some o → h'.get? b = some o) → Q (.int ns.sum t') { s with heap := h', toks := tk }) : wpAny (model prog w) A (call (.builtin "sum") [.ref l]) Q E s := by
  obtain ⟨xs, e⟩ := hi.allInts.items
  have hn : numsOf (intItems xs).toList = ns := by rw [← e]; exact hi.numsOf
  rw [nums_intItems] at hn
  rw [e] at hl
  have hlt : l < s.heap.objs.size := by obtain ⟨_, q, _⟩ := hl; exact Heap.lt_size q
  refine call_sum_walkG (wpAny_pyIter_tuple hl ⟨_, _, _, _, _, _, numAt xs, rfl, Walks.tuple (A := A.in1) hh _ l (Nat.ne_of_lt hlt) (intItems xs), ⟨⟨_, Heap.get?_push_size _ rfl, rfl, rfl⟩, ?_⟩, ?_, (fun _ _ => intItems_at), fun h' tk t' hk => ?_⟩)
  · exact hl.push _
  · intro b hb
    show b < (s.heap.push _).objs.size
    rw [Heap.size_push]
    rcases List.mem_cons.mp hb with rfl | hb
    · exact Nat.lt_succ_self _
    · rcases List.mem_cons.mp hb with rfl | hb
      · exact Nat.lt_succ_of_lt hlt
      · cases hb
  · have z := h h' tk t' fun b o q => hk b o (fun z => absurd (Heap.lt_size q) (by rw [List.mem_singleton.mp z]; exact Nat.lt_irrefl _)) (Heap.get?_push_of_some _ q)
    have zs : (intItems xs).size = xs.size := by simp [intItems]
    rw [zs, preSum_eq, List.take_of_length_le (by simp), hn]
    exact z
theorem cr_sumT (hc : X.calm = true) : CallR X (.builtin "sum") (rSumT X.K) := by
  intro pins s σ H vs us Q I r h
  obtain ⟨a, ns, rfl, hs, q⟩ := h
  obtain ⟨its, rv, hl, _⟩ := I.tuple hs
  rw [Vals.ref1 r]
  exact sum_tup_raw (I.ok.hd hc) hl rv.ints fun h' tk t' hk => ⟨.int _, H, I.kept hk, ⟨_, rfl⟩, q⟩
end
def rSumA (K : Fg) : List V → Hp → VK → Prop := fun vs H Q => rSum K vs H Q ∨ rSumT K vs H Q
def cSum : List PV → Sto → Option PV := fun vs S => match vs with
  | [x] => (itemsOf S x).bind fun ds => (intsOf ds).map fun ns => .d (.int ns.sum)
  | _ => none
theorem cd_sum {K : Fg} : CallD K (rSumA K) cSum := by
  intro as S H us vs z Q R V1 e k
  unfold cSum at e
  split at e
  · rename_i x
    obtain ⟨u, rfl, V⟩ := paired1 V1
    obtain ⟨ds, e1, e⟩ := Option.bind_eq_some_iff.mp e
    obtain ⟨ns, e2, e⟩ := Option.map_eq_some_iff.mp e
    subst e
    obtain ⟨a, ws, rfl, hs, hd⟩ := items_at R V e1
    rw [intsOf_some e2] at hd
    have := dpAll_ints_inv hd
    subst this
    rcases hs with hs | hs
    · exact .inl ⟨a, ns, rfl, hs, k _ H R .refl (.int _)⟩
    · exact .inr ⟨a, ns, rfl, hs, k _ H R .refl (.int _)⟩
  · cases e

/-! ### list(..), tuple(..), int(..), str(..) -/
def cList : List PV → Sto → Option (List PyData) := fun vs S => match vs with
  | [x] => itemsOf S x
  | _ => none
theorem cl_list {K : Fg} : CallL K (fun xs H Q => ∃ p ys, xs = [.ref p] ∧ (SqL K H p ys ∨ SqT K H p ys) ∧ ∀ l, H l = none → Q (.ref l) (upd H l (.lst ys))) cList := by
  intro as S H us vs z Q R V1 e k
  unfold cList at e
  split at e
  · obtain ⟨u, rfl, V⟩ := paired1 V1
    obtain ⟨a, ws, rfl, hs, hd⟩ := items_at R V e
    exact ⟨a, ws, rfl, hs, fun l hl => k l H ws R .refl hl hd⟩
  · cases e
def cTuple : List PV → Sto → Option PV := fun vs S => match vs with
  | [x] => (itemsOf S x).map fun ds => .d (.tuple ds)
  | _ => none
theorem cd_tuple {K : Fg} : CallD K (fun xs H Q => ∃ p ys, xs = [.ref p] ∧ ((SqL K H p ys ∧ NewT H ys Q) ∨ (SqT K H p ys ∧ Q (.ref p) H))) cTuple := by
  intro as S H us vs z Q R V1 e k
  unfold cTuple at e
  split at e
  · rename_i x
    obtain ⟨u, rfl, V⟩ := paired1 V1
    obtain ⟨ds, e1, e⟩ := Option.map_eq_some_iff.mp e
    subst e
    cases x with
    | d y =>
      cases y with
      | list xs =>
        cases e1
        cases V with
        | lst s a => exact ⟨_, _, rfl, .inl ⟨hide_same.seq s, tuple_new R a k⟩⟩
      | tuple xs =>
        cases e1
        cases V with
        | tup s a => exact ⟨_, _, rfl, .inr ⟨sqT_mono hide_same s, k _ H R .refl (.tup s a)⟩⟩
      | _ => cases e1
    | f _ => first | rfl | exact h | (cases e; done) | (cases e1; done) | (cases e2; done) | (cases e3; done) | (cases e4; done) | (cases e5; done) | (cases e6; done) | (cases h; done) | (cases h1; done) | (cases h2; done) | (cases h3; done) | (cases b; done) | (cases q; done) | exact h.elim | exact g.elim | exact r.elim | exact r.1.elim | exact r1.elim | exact r2.elim | exact z.elim | exact h1.elim | contradiction | (cases y <;> rfl) | (cases x <;> rfl) | (cases q <;> rfl) | (cases a <;> rfl) | exact L _ _ | exact L _ | (simp_all; done)
    | c i =>
      obtain ⟨a, q, rfl⟩ := V
      obtain ⟨ws, h1, h2⟩ := R.at_ i a ds q e1
      exact ⟨_, _, rfl, .inl ⟨SqL.of h1, tuple_new R h2 k⟩⟩
  · cases e
def cInt : List PV → Sto → Option PV := fun vs _ => match vs with
  | [.d (.int i)] => some (.d (.int i))
  | [.d (.bool b)] => some (.d (.int (if b then 1 else 0)))
  | _ => none
def cStr : List PV → Sto → Option PV := fun vs _ => match vs with
  | [.d (.int i)] => if i.natAbs.log2 < 1920 then some (.d (.str (toString i))) else none
  | _ => none
/-! ### repr -/
def rRepr (K : Fg) : List V → Hp → VK → Prop := fun xs H Q => ∃ x d, xs = [x] ∧ Dp K H x d ∧ d.showable = true ∧ d.hasDict = false ∧ d.depth ≤ 40 ∧ d.shown.length ≤ sizeLine ∧ Q (.str d.shown) H
theorem call_reprA {X : Cx} {k : Nat} (hr : Room k X.A) (hgd : X.A.guards = some []) : CallR X (.builtin "repr") (rRepr X.K) := by
  intro pins s σ H vs us Q I r h
  obtain ⟨x, d, rfl, hd, h1, h2, h3, h4, q⟩ := h
  have hu := hr.units
  cases hd with
  | non =>
    obtain ⟨u, rfl, rx⟩ := vals1 r
    cases (show u = Value.none from rx)
    exact PySem.P.repr_of_none ⟨.str _, H, I.tok _, ⟨_, rfl⟩, q⟩
  | bl b =>
    obtain ⟨u, rfl, rx⟩ := vals1 r
    cases (show u = Value.bool b from rx)
    exact PySem.P.repr_of_bool ⟨.str _, H, I.tok _, ⟨_, rfl⟩, q⟩
  | int i =>
    obtain ⟨u, rfl, rx⟩ := vals1 r
    obtain ⟨t, rfl⟩ := (show ∃ t, u = Value.int i t from rx)
    exact PySem.P.repr_of_int (by simpa [PyData.showable] using h1) ⟨.str _, H, I.tok _, ⟨_, rfl⟩, q⟩
  | str z =>
    obtain ⟨u, rfl, rx⟩ := vals1 r
    obtain ⟨t, rfl⟩ := (show ∃ t, u = Value.str z t from rx)
    exact PySem.P.repr_of_str ⟨.str _, H, I.tok _, ⟨_, rfl⟩, q⟩ h4
  | lst sq al =>
    rename_i a xs ds
    obtain ⟨u, rfl, rx⟩ := vals1 r
    cases (show u = Value.ref a from rx)
    obtain ⟨as, rd⟩ := Dp.reads I _ _ _ (.lst sq al) rx
    refine repr_of_reads' rd h1 (fun z => ?_) hgd (by omega) (fun _ _ z => z) (fun h' u tk hk => ⟨.str _, H, I.kept hk, ⟨_, rfl⟩, q⟩) h4
    rw [h2] at z
    cases z
  | tup sq al =>
    rename_i a xs ds
    obtain ⟨u, rfl, rx⟩ := vals1 r
    cases (show u = Value.ref a from rx)
    obtain ⟨as, rd⟩ := Dp.reads I _ _ _ (.tup sq al) rx
    refine repr_of_reads' rd h1 (fun z => ?_) hgd (by omega) (fun _ _ z => z) (fun h' u tk hk => ⟨.str _, H, I.kept hk, ⟨_, rfl⟩, q⟩) h4
    rw [h2] at z
    cases z
def reprOk (d : PyData) : Bool := d.showable && !d.hasDict && decide (d.depth ≤ 40) && decide (d.shown.length ≤ 16777216)
def cRepr : List PV → Sto → Option PV := fun vs S => match vs with
  | [x] => (asD S x).bind fun d => if reprOk d = true then some (.d (.str d.shown)) else none
  | _ => none
theorem cd_repr {K : Fg} : CallD K (rRepr K) cRepr := by
  intro as S H us vs z Q R V1 e k
  unfold cRepr at e
  split at e
  · obtain ⟨u, rfl, V⟩ := paired1 V1
    obtain ⟨d, e1, e⟩ := Option.bind_eq_some_iff.mp e
    split at e
    · rename_i hz
      cases e
      unfold reprOk at hz
      simp only [Bool.and_eq_true, Bool.not_eq_true', decide_eq_true_eq] at hz
      exact ⟨u, d, rfl, asD_dp R V e1, hz.1.1.1, hz.1.1.2, hz.1.2, by rw [sizeLine_eq]; exact hz.2, k _ H R .refl (.str _)⟩
    · cases e
  · cases e
end DL

namespace DL
open PySem PySem.Spec PyProof.Rows L2 DK
variable [Nms] [Tabs]

/-! ### isinstance of built-in classes -/
inductive Kd where
  | int | bool | str | tuple | list
def Kd.nm : Kd → String
  | .int => "int"
  | .bool => "bool"
  | .str => "str"
  | .tuple => "tuple"
  | .list => "list"
def isK : PyData → Kd → Bool
  | .int _, .int => true
  | .bool _, .int => true
  | .bool _, .bool => true
  | .str _, .str => true
  | .tuple _, .tuple => true
  | .list _, .list => true
  | _, _ => false
def mIsi (k : Kd) (ma : M) : M := fun ρ S => (ma ρ S).bind fun p => (asD p.2 p.1).bind fun d => some (.d (.bool (isK d k)), p.2)
section
variable {X : Cx} {p pos q : Pos} {e : Expr} {T : Str} {m : M}
end

/-! ### subscripts -/
def fIx : PV → PV → Sto → Option PV := fun x y S => match y with
  | .d (.int i) => match x with
    | .d (.str z) => if z.length ≤ 1000000 then (atI z.cps.toList i).map fun c => .d (.str ⟨#[c]⟩) else none
    | x => (itemsOf S x).bind fun ds => (atI ds i).map .d
  | _ => none
theorem atI_dp {K : Fg} {H : Hp} {vs : List V} {ds : List PyData} {i : Int} {d : PyData} (h : DpAll K H vs ds) (e : atI ds i = some d) : ∃ v, atI vs i = some v ∧ Dp K H v d := by
  unfold atI at e ⊢
  obtain ⟨j, e1, e2⟩ := Option.bind_eq_some_iff.mp e
  obtain ⟨v, a, b⟩ := dpAll_get h e2
  exact ⟨v, by rw [dpAll_len h, e1]; exact a, b⟩
theorem opD_ix {K : Fg} : OpD K (rIx K) fIx := by
  intro as S H u w x y z Q R V1 V2 e k
  unfold fIx at e
  split at e
  · rename_i i
    cases V2
    split at e
    · rename_i zz
      split at e
      · rename_i hz
        obtain ⟨c, e1, e⟩ := Option.map_eq_some_iff.mp e
        subst e
        cases V1
        exact .inr (.inr ⟨zz, i, c, rfl, rfl, million hz, e1, k _ H R .refl (.str _)⟩)
      · cases e
    · obtain ⟨ds, e1, e⟩ := Option.bind_eq_some_iff.mp e
      obtain ⟨d, e2, e⟩ := Option.map_eq_some_iff.mp e
      subst e
      obtain ⟨a, ws, rfl, hs, hd⟩ := items_at R V1 e1
      obtain ⟨v, e3, hv⟩ := atI_dp hd e2
      rcases hs with hs | hs
      · exact .inl ⟨a, ws, i, v, rfl, rfl, hs, e3, k _ H R .refl hv⟩
      · exact .inr (.inl ⟨a, ws, i, v, rfl, rfl, hs, e3, k _ H R .refl hv⟩)
  · cases e
section
variable {X : Cx} {a b : Expr} {ma mb : M} {pos : Pos}
theorem de_at (ha : DE X a ma) (hb : DE X b mb) (hs : PlainIx b := by intro _ _; rfl) : DE X (.Subscript a b pos) (mOp fIx ma mb) := de_ix ix_seq opD_ix ha hb hs
end

/-! ### slices -/
abbrev MO := RE → Sto → Option (Option Int × Sto)
def tMO (K : Fg) (m : MO) : TO := fun σ H Q => ∃ as ρ S o S', Rel K as S H ∧ ER K as H σ ρ ∧ m ρ S = some (o, S') ∧ ∀ H', Rel K as S' H' → Ext as H as H' → Q o H'
def oNone : MO := fun _ S => some (none, S)
def oSome (m : M) : MO := fun ρ S => (m ρ S).bind fun p => match p.1 with
  | .d (.int i) => some (some i, p.2)
  | _ => none
theorem po_imp {X : Cx} {e : Option Expr} {t t' : TO} (h : PO X e t) (w : ∀ σ H Q, t' σ H Q → t σ H Q) : PO X e t' := ⟨fun pins s σ H Q I q => h.run pins s σ H Q I (w _ _ _ q)⟩
section
variable {X : Cx} {e : Expr} {lo hi : Option Expr} {m : M} {ml mh : MO} {pos p2 : Pos}
theorem do_none : PO X none (tMO X.K oNone) := po_imp po_none fun σ H Q ⟨as, ρ, S, v, S', R, E, e, k⟩ => by
  cases e
  exact k H R .refl
theorem do_some (h : DE X e m) : PO X (some e) (tMO X.K (oSome m)) := po_imp (po_some h) fun σ H Q ⟨as, ρ, S, v, S', R, E, e, k⟩ => by
  obtain ⟨⟨x, S1⟩, e1, e⟩ := Option.bind_eq_some_iff.mp e
  refine ⟨as, ρ, S, x, S1, R, E, e1, fun u H1 R1 E1 V1 => ?_⟩
  dsimp only at e
  split at e
  · rename_i i
    cases e
    cases V1
    exact ⟨i, rfl, k H1 R1 E1⟩
  · cases e
/-- what a slice takes -/
def cut {α : Type} (xs : List α) (lo hi : Option Int) : List α := (xs.drop (HT.sIx xs.length 0 lo)).take (HT.sIx xs.length xs.length hi - HT.sIx xs.length 0 lo)
theorem cut_whole {α : Type} {xs : List α} {lo hi : Option Int} (hw : HT.sIx xs.length 0 lo = 0 ∧ HT.sIx xs.length xs.length hi = xs.length) : cut xs lo hi = xs := by
  unfold cut
  rw [hw.1, hw.2]
  simp
theorem cut_dp {K : Fg} {H : Hp} {vs : List V} {ds : List PyData} (lo hi : Option Int) (h : DpAll K H vs ds) : DpAll K H (cutV vs lo hi) (cut ds lo hi) := by
  unfold cutV cut
  rw [dpAll_len h]
  exact dpAll_take _ (dpAll_drop _ h)
def mSl (m : M) (ml mh : MO) : M := fun ρ S => (m ρ S).bind fun p => (ml ρ p.2).bind fun l => (mh ρ l.2).bind fun h => match p.1 with
  | .d (.tuple xs) => some (.d (.tuple (cut xs l.1 h.1)), h.2)
  | .d (.str z) => if z.length ≤ 1000000 then some (.d (.str (cutS z l.1 h.1)), h.2) else none
  | _ => none
def mSlL (m : M) (ml mh : MO) : ML := fun ρ S => (m ρ S).bind fun p => (ml ρ p.2).bind fun l => (mh ρ l.2).bind fun h => match asD h.2 p.1 with
  | some (.list xs) => some (cut xs l.1 h.1, h.2)
  | _ => none
theorem dl_slice (he : DE X e m) (hl : PO X lo (tMO X.K ml)) (hh : PO X hi (tMO X.K mh)) : DLs X (.Subscript e (.Slice lo hi none p2) pos) (mSlL m ml mh) := pe_imp (pe_slice sl_list he hl hh) fun σ H Q ⟨as, ρ, S, v, S', R, E, e, k⟩ => by
  obtain ⟨⟨x, S1⟩, e1, e⟩ := Option.bind_eq_some_iff.mp e
  obtain ⟨⟨l, S2⟩, e2, e⟩ := Option.bind_eq_some_iff.mp e
  obtain ⟨⟨h, S3⟩, e3, e⟩ := Option.bind_eq_some_iff.mp e
  refine ⟨as, ρ, S, x, S1, R, E, e1, fun u H1 R1 E1 V1 => ⟨as, ρ, S1, l, S2, R1, E.ext E1, e2, fun H2 R2 E2 => ⟨as, ρ, S2, h, S3, R2, E.ext (E1.trans E2), e3, fun H3 R3 E3 => ?_⟩⟩⟩
  dsimp only at e
  split at e
  · rename_i xs q
    cases e
    obtain ⟨a, ws, rfl, hs, hd⟩ := list_at R3 (V1.ext (E2.trans E3)) q
    exact ⟨a, ws, rfl, hs, fun p hp => k p H3 _ R3 (E1.trans (E2.trans E3)) hp (cut_dp l h hd)⟩
  · cases e
def rSlX (K : Fg) : V → Option Int → Option Int → Hp → VK → Prop := fun x lo hi H Q => rSlF K x lo hi H Q ∨ ∃ z, x = .str z ∧ z.length ≤ sizeLine ∧ Q (.str (cutS z lo hi)) H
theorem sl_X : SlR X (rSlX X.K) := sl_tupF.or sl_str
theorem de_slice (he : DE X e m) (hl : PO X lo (tMO X.K ml)) (hh : PO X hi (tMO X.K mh)) : DE X (.Subscript e (.Slice lo hi none p2) pos) (mSl m ml mh) := pe_imp (pe_slice sl_X he hl hh) fun σ H Q ⟨as, ρ, S, v, S', R, E, e, k⟩ => by
  obtain ⟨⟨x, S1⟩, e1, e⟩ := Option.bind_eq_some_iff.mp e
  obtain ⟨⟨l, S2⟩, e2, e⟩ := Option.bind_eq_some_iff.mp e
  obtain ⟨⟨h, S3⟩, e3, e⟩ := Option.bind_eq_some_iff.mp e
  refine ⟨as, ρ, S, x, S1, R, E, e1, fun u H1 R1 E1 V1 => ⟨as, ρ, S1, l, S2, R1, E.ext E1, e2, fun H2 R2 E2 => ⟨as, ρ, S2, h, S3, R2, E.ext (E1.trans E2), e3, fun H3 R3 E3 => ?_⟩⟩⟩
  have EE := E1.trans (E2.trans E3)
  have V3 := V1.ext (E2.trans E3)
  dsimp only at e
  split at e
  · cases e
    cases V3 with
    | tup s a =>
      refine .inl ⟨_, _, rfl, sqT_mono hide_same s, fun hw => ?_, fun _ => tuple_new R3 (cut_dp l h a) fun v H4 R4 E4 V4 => k v H4 R4 (EE.trans E4) V4⟩
      refine k _ H3 R3 EE ?_
      show Dp _ _ _ _
      rw [cut_whole (by rw [← dpAll_len a]; exact hw)]
      exact .tup s a
  · split at e
    · rename_i hz
      cases e
      cases V3
      exact .inr ⟨_, rfl, million hz, k _ H3 R3 EE (.str _)⟩
    · cases e
  · cases e
end

/-! ### products: ints, a list so often -/
def fMul : PV → PV → Sto → Option PV := fIc mulOk fun i j => .int (i * j)
section
variable {X : Cx} {a b : Expr} {ma mb : M} {pos : Pos}
theorem de_mul (ha : DE X a ma) (hb : DE X b mb) : DE X (.BinOp a .Mult b pos) (mOp fMul ma mb) := de_op op_mulA (opD_I (fun _ _ h => mulOk_ok h) fun _ _ _ => .int _) ha hb
/-- a fresh list times an int -/
def mRep (m : ML) (mb : M) : ML := fun ρ S => (m ρ S).bind fun p => (mb ρ p.2).bind fun q => match q.1 with
  | .d (.int k) => if k ≤ 1000000 ∧ -1000000 ≤ k ∧ p.1.length * k.toNat ≤ 1000000 then some ((List.replicate k.toNat p.1).flatten, q.2) else none
  | _ => none
end
end DL

namespace DL
open PySem PySem.Spec PyProof.Rows L2 DK
variable [Nms] [Tabs]

/-! ### statements -/
inductive Out where
  | nx (ρ : RE) (S : Sto)
  | bk (ρ : RE) (S : Sto)
  | ct (ρ : RE) (S : Sto)
  | rt (v : PV) (S : Sto)
  | rl (ds : List PyData) (S : Sto)
abbrev MS := RE → Sto → Option Out
def Post (K : Fg) (as : List Addr) (H : Hp) (D : Ends) : Out → Prop
  | .nx ρ S => ∀ as' σ' H', Ext as H as' H' → Rel K as' S H' → ER K as' H' σ' ρ → D.nx σ' H'
  | .bk ρ S => ∀ as' σ' H', Ext as H as' H' → Rel K as' S H' → ER K as' H' σ' ρ → D.bk σ' H'
  | .ct ρ S => ∀ as' σ' H', Ext as H as' H' → Rel K as' S H' → ER K as' H' σ' ρ → D.ct σ' H'
  | .rt v S => ∀ as' u H', Ext as H as' H' → Rel K as' S H' → VR K as' H' u v → D.rt u H'
  | .rl ds S => ∀ as' p H' vs, Ext as H as' H' → Rel K as' S H' → H' p = none → DpAll K (hide as' H') vs ds → D.rt (.ref p) (upd H' p (.lst vs))
theorem Post.ext {K : Fg} {as as1 : List Addr} {H H1 : Hp} {D : Ends} {o : Out} (h : Post K as H D o) (e : Ext as H as1 H1) : Post K as1 H1 D o := by
  cases o with
  | nx ρ S => exact fun as' σ' H' e' => h as' σ' H' (e.trans e')
  | bk ρ S => exact fun as' σ' H' e' => h as' σ' H' (e.trans e')
  | ct ρ S => exact fun as' σ' H' e' => h as' σ' H' (e.trans e')
  | rt ρ S => exact fun as' σ' H' e' => h as' σ' H' (e.trans e')
  | rl ρ S => exact fun as' p H' vs e' => h as' p H' vs (e.trans e')
def tS (K : Fg) (g : MS) : TS := fun D σ H => ∃ as ρ S o, Rel K as S H ∧ ER K as H σ ρ ∧ g ρ S = some o ∧ Post K as H D o
abbrev DS (X : Cx) (st : Stmt) (g : MS) : Prop := PS X st (tS X.K g)
abbrev DSs (X : Cx) (st : List Stmt) (g : MS) : Prop := PSs X st (tS X.K g)
theorem ps_imp {X : Cx} {st : Stmt} {t t' : TS} (h : PS X st t) (w : ∀ D σ H, t' D σ H → t D σ H) : PS X st t' := ⟨fun pins s σ H D I q => h.run pins s σ H D I (w _ _ _ q)⟩
theorem pss_imp {X : Cx} {st : List Stmt} {t t' : TS} (h : PSs X st t) (w : ∀ D σ H, t' D σ H → t D σ H) : PSs X st t' := ⟨fun pins s σ H D I q => h.run pins s σ H D I (w _ _ _ q)⟩
theorem ER.set {K : Fg} {as : List Addr} {H : Hp} {σ : L2.St} {ρ : RE} {v : V} {p : PV} (E : ER K as H σ ρ) (i : Nat) (h : VR K as H v p) : ER K as H (σ.set i (some v)) (ρ.set i (some p)) := by
  refine ⟨by rw [List.length_set, List.length_set]; exact E.len, fun j q e => ?_, E.tab⟩
  by_cases hj : j = i
  · subst hj
    have hl : j < ρ.length := by
      have := (List.getElem?_eq_some_iff.mp e).1
      rwa [List.length_set] at this
    rw [List.getElem?_set_self hl] at e
    cases e
    exact ⟨v, List.getElem?_set_self (by rw [E.len]; exact hl), h⟩
  · rw [List.getElem?_set_ne (Ne.symm hj)] at e
    obtain ⟨u, a, b⟩ := E.at_ j q e
    exact ⟨u, by rw [List.getElem?_set_ne (Ne.symm hj)]; exact a, b⟩
section
variable {X : Cx} {pos : Pos}
def sNil : MS := fun ρ S => some (.nx ρ S)
def sSeq (a b : MS) : MS := fun ρ S => (a ρ S).bind fun o => match o with
  | .nx ρ' S' => b ρ' S'
  | o => some o
theorem ds_nil : DSs X [] sNil := pss_imp pss_nil fun D σ H ⟨as, ρ, S, o, R, E, e, k⟩ => by
  cases e
  exact k as σ H .refl R E
theorem ds_cons {st : Stmt} {rest : List Stmt} {a b : MS} (h1 : DS X st a) (h2 : DSs X rest b) : DSs X (st :: rest) (sSeq a b) := pss_imp (pss_cons h1 h2) fun D σ H ⟨as, ρ, S, o, R, E, e, k⟩ => by
  obtain ⟨o1, e1, e⟩ := Option.bind_eq_some_iff.mp e
  refine ⟨as, ρ, S, o1, R, E, e1, ?_⟩
  cases o1 with
  | nx ρ' S' => exact fun as' σ' H' e' R' E' => ⟨as', ρ', S', o, R', E', e, k.ext e'⟩
  | bk ρ' S' => cases e; exact k
  | ct ρ' S' => cases e; exact k
  | rt ρ' S' => cases e; exact k
  | rl ρ' S' => cases e; exact k
theorem ds_one {st : Stmt} {a : MS} (h1 : DS X st a) : DSs X [st] a := pss_one h1
def sBk : MS := fun ρ S => some (.bk ρ S)
def sCt : MS := fun ρ S => some (.ct ρ S)
def sNever : MS := fun _ _ => none
theorem ds_never {st : Stmt} : DS X st sNever := ps_imp ps_never fun D σ H ⟨as, ρ, S, o, R, E, e, k⟩ => by cases e
/-- x = e -/
def sSet (i : Nat) (m : M) : MS := fun ρ S => (m ρ S).bind fun p => some (.nx (ρ.set i (some p.1)) p.2)
theorem ds_set {i : Nat} {x : Str} {e : Expr} {m : M} {pos' : Pos} (hN : X.N.Nodup) (hi : X.N[i]? = some x) (hx : Loc X.env.scope x) (he : DE X e m) (hs : swapsWith e (some (.Name x pos')) pos.line X.env = pure false := by rfl)
    (hf : X.fn x = true ∨ X.env.scope.names.lookup x = some .local := by first | exact .inl rfl | exact .inr rfl | assumption) : DS X (.Assign [.Name x pos'] e pos) (sSet i m) :=
  ps_imp (ps_set hN hi hx he hs hf) fun D σ H ⟨as, ρ, S, o, R, E, e, k⟩ => by
    obtain ⟨⟨v, S1⟩, e1, e⟩ := Option.bind_eq_some_iff.mp e
    cases e
    exact ⟨as, ρ, S, v, S1, R, E, e1, fun u H1 R1 E1 V1 => k as _ H1 E1 R1 ((E.ext E1).set i V1)⟩
/-- x = a new list that x may change from here on -/
def sOwn (i : Nat) (m : ML) : MS := fun ρ S => (m ρ S).bind fun p => some (.nx (ρ.set i (some (.c p.2.length))) (p.2 ++ [.l p.1]))
theorem own_post {K : Fg} {as : List Addr} {H H1 : Hp} {σ : L2.St} {ρ : RE} {S1 : Sto} {ds : List PyData} {i : Nat} {D : Ends} {p : Addr} {vs : List V} (E : ER K as H σ ρ) (k : Post K as H D (.nx (ρ.set i (some (.c S1.length))) (S1 ++ [.l ds])))
    (R1 : Rel K as S1 H1) (E1 : Ext as H as H1) (hp : H1 p = none) (hd : DpAll K (hide as H1) vs ds) : D.nx (σ.set i (some (.ref p))) (upd H1 p (.lst vs)) := by
  obtain ⟨R2, E2⟩ := R1.grow hp hd
  refine k (as ++ [p]) _ _ (E1.trans E2) R2 (((E.ext E1).ext E2).set i ⟨p, ?_, rfl⟩)
  rw [← R1.len]
  simp
theorem ds_own {i : Nat} {x : Str} {e : Expr} {m : ML} {pos' : Pos} (hN : X.N.Nodup) (hi : X.N[i]? = some x) (hx : Loc X.env.scope x) (he : DLs X e m) (hs : swapsWith e (some (.Name x pos')) pos.line X.env = pure false := by rfl)
    (hf : X.fn x = true ∨ X.env.scope.names.lookup x = some .local := by first | exact .inl rfl | exact .inr rfl | assumption) : DS X (.Assign [.Name x pos'] e pos) (sOwn i m) :=
  ps_imp (ps_set hN hi hx he hs hf) fun D σ H ⟨as, ρ, S, o, R, E, e, k⟩ => by
    obtain ⟨⟨ds, S1⟩, e1, e⟩ := Option.bind_eq_some_iff.mp e
    cases e
    exact ⟨as, ρ, S, ds, S1, R, E, e1, fun p H1 vs R1 E1 hp hd => own_post E k R1 E1 hp hd⟩
/-- return e -/
def sRet (m : M) : MS := fun ρ S => (m ρ S).bind fun p => some (.rt p.1 p.2)
def sRetL (m : ML) : MS := fun ρ S => (m ρ S).bind fun p => some (.rl p.1 p.2)
theorem ds_ret {e : Expr} {m : M} (he : DE X e m) : DS X (.Return (some e) pos) (sRet m) := ps_imp (ps_ret he) fun D σ H ⟨as, ρ, S, o, R, E, e, k⟩ => by
  obtain ⟨⟨v, S1⟩, e1, e⟩ := Option.bind_eq_some_iff.mp e
  cases e
  exact ⟨as, ρ, S, v, S1, R, E, e1, fun u H1 R1 E1 V1 => k as u H1 E1 R1 V1⟩
theorem ds_retL {e : Expr} {m : ML} (he : DLs X e m) : DS X (.Return (some e) pos) (sRetL m) := ps_imp (ps_ret he) fun D σ H ⟨as, ρ, S, o, R, E, e, k⟩ => by
  obtain ⟨⟨v, S1⟩, e1, e⟩ := Option.bind_eq_some_iff.mp e
  cases e
  exact ⟨as, ρ, S, v, S1, R, E, e1, fun p H1 vs R1 E1 hp hd => k as p H1 vs E1 R1 hp hd⟩
/-- if -/
def sIf (c : MB) (a b : MS) : MS := fun ρ S => (c ρ S).bind fun p => if p.1 = true then a ρ p.2 else b ρ p.2
theorem ds_if {c : Expr} {a b : List Stmt} {mc : MB} {ga gb : MS} (hc : DB X c mc) (ha : DSs X a ga) (hb : DSs X b gb) : DS X (.If c a b pos) (sIf mc ga gb) := ps_imp (ps_if hc ha hb) fun D σ H ⟨as, ρ, S, o, R, E, e, k⟩ => by
  obtain ⟨⟨v, S1⟩, e1, e⟩ := Option.bind_eq_some_iff.mp e
  refine ⟨as, ρ, S, v, S1, R, E, e1, fun H1 R1 E1 => ?_⟩
  dsimp only at e ⊢
  split
  · rename_i hx
    rw [if_pos hx] at e
    exact ⟨as, ρ, S1, o, R1, E.ext E1, e, k.ext E1⟩
  · rename_i hx
    rw [if_neg hx] at e
    exact ⟨as, ρ, S1, o, R1, E.ext E1, e, k.ext E1⟩
/-- an expression alone -/
def sDrop (m : M) : MS := fun ρ S => (m ρ S).bind fun p => some (.nx ρ p.2)
theorem ds_expr {e : Expr} {m : M} (he : DE X e m) (hs : swapsWith e none pos.line X.env = pure false := by rfl) : DS X (.Expr e pos) (sDrop m) := ps_imp (ps_expr he hs) fun D σ H ⟨as, ρ, S, o, R, E, e, k⟩ => by
  obtain ⟨⟨v, S1⟩, e1, e⟩ := Option.bind_eq_some_iff.mp e
  cases e
  exact ⟨as, ρ, S, v, S1, R, E, e1, fun u H1 R1 E1 V1 => k as σ H1 E1 R1 (E.ext E1)⟩
/-- a, b = e1, e2 -/
def sPar (i j : Nat) (ma : MA) : MS := fun ρ S => (ma ρ S).bind fun p => match p.1 with
  | [v, w] => some (.nx ((ρ.set i (some v)).set j (some w)) p.2)
  | _ => none
theorem ds_par {i j : Nat} {x y : Str} {a b : Expr} {ma : MA} {px py pt : Pos} {kt k2 pt2} (hc : X.calm = true) (hN : X.N.Nodup) (hi : X.N[i]? = some x) (hj : X.N[j]? = some y) (hij : i ≠ j)
    (hx : X.env.scope.names.lookup x = some .local) (hy : X.env.scope.names.lookup y = some .local) (ha : DA X [a, b] ma) (hw : swappedStores [.Tuple [.Name x px, .Name y py] kt pt] (.Tuple [a, b] k2 pt2) X.env = pure (some [x, y]))
    (hs : swapsWithSole [.Tuple [.Name x px, .Name y py] kt pt] (.Tuple [a, b] k2 pt2) pos.line X.env = pure false := by rfl) : DS X (.Assign [.Tuple [.Name x px, .Name y py] kt pt] (.Tuple [a, b] k2 pt2) pos) (sPar i j ma) :=
  ps_imp (ps_par hc hN hi hj hij hx hy ha hw hs) fun D σ H ⟨as, ρ, S, o, R, E, e, k⟩ => by
    obtain ⟨⟨vs, S1⟩, e1, e⟩ := Option.bind_eq_some_iff.mp e
    dsimp only at e
    split at e
    · cases e
      refine ⟨as, ρ, S, _, S1, R, E, e1, fun us H1 R1 E1 V1 => ?_⟩
      obtain ⟨u, w, rfl, a, b⟩ := paired2 V1
      exact ⟨u, w, rfl, k as _ H1 E1 R1 (((E.ext E1).set i a).set j b)⟩
    · cases e
/-- x op= e of ints -/
def sAug (i : Nat) (f : PV → PV → Sto → Option PV) (m : M) : MS := fun ρ S => (mVar i ρ S).bind fun p => (m ρ S).bind fun q => (f p.1 q.1 q.2).bind fun z => some (.nx (ρ.set i (some z)) q.2)
theorem ds_aug {i : Nat} {x : Str} {e : Expr} {m : M} {op : Operator} {r : R2} {f} {pos' : Pos} (hN : X.N.Nodup) (hi : X.N[i]? = some x) (hx : Loc X.env.scope x) (he : DE X e m) (ho : OpR X (inplaceOp op) r) (hd : OpD X.K r f)
    (hf : X.fn x = true ∨ X.env.scope.names.lookup x = some .local := by first | exact .inl rfl | exact .inr rfl | assumption) : DS X (.AugAssign (.Name x pos') op e pos) (sAug i f m) :=
  ps_imp (ps_aug (ti := r) hN hi hx he ho hf) fun D σ H ⟨as, ρ, S, o, R, E, e, k⟩ => by
    obtain ⟨⟨v, S0⟩, e0, e⟩ := Option.bind_eq_some_iff.mp e
    obtain ⟨⟨w, S1⟩, e1, e⟩ := Option.bind_eq_some_iff.mp e
    obtain ⟨z, e2, e⟩ := Option.bind_eq_some_iff.mp e
    cases e
    obtain ⟨e0, _⟩ := mVar_some e0
    obtain ⟨u, a, b⟩ := E.at_ i v e0
    refine ⟨u, a, as, ρ, S, w, S1, R, E, e1, fun u2 H1 R1 E1 V1 => ?_⟩
    exact hd as S1 H1 u u2 v w z _ R1 (b.ext E1) V1 e2 fun v3 H3 R3 E3 V3 => k as _ H3 (E1.trans E3) R3 ((E.ext (E1.trans E3)).set i V3)
/-- xs[i] = e, xs a list of ours -/
def sPut (mo mi mv : M) : MS := fun ρ S => (mv ρ S).bind fun v => (mo ρ v.2).bind fun o => (mi ρ o.2).bind fun i => match v.1, o.1, i.1 with
  | .d y, .c j, .d (.int z) => (lAt i.2 j).bind fun ds => (ixN ds.length z).bind fun n => some (.nx ρ (i.2.set j (.l (ds.set n y))))
  | _, _, _ => none
theorem ds_put {o i e : Expr} {mo mi mv : M} {p2 : Pos} (hv : DE X e mv) (ho : DE X o mo) (hi : DE X i mi) (hs : swapsWithSole [.Subscript o i p2] e pos.line X.env = pure false := by rfl) (hw : swappedStores [.Subscript o i p2] e X.env = pure none := by rfl)
    (h1 : (assignEach [.Subscript o i p2] X.env).map (·.2) = [assign (.Subscript o i p2) X.env] := by rfl)
    (ha : ∀ v, assign (.Subscript o i p2) X.env v = (do
      let ov ← holding [v] (eval o X.env)
      let iv ← holding [v, ov] (eval i X.env)
      standAt p2
      holding [v, ov, iv] (setItem ov iv v)
      release [v, ov, iv] []) := by intro _; rfl) : DS X (.Assign [.Subscript o i p2] e pos) (sPut mo mi mv) :=
  ps_imp (ps_asg hv (pg_sub ho hi set_list ha) hs hw h1) fun D σ H ⟨as, ρ, S, out, R, E, e, k⟩ => by
    obtain ⟨⟨v, S1⟩, e1, e⟩ := Option.bind_eq_some_iff.mp e
    obtain ⟨⟨o, S2⟩, e2, e⟩ := Option.bind_eq_some_iff.mp e
    obtain ⟨⟨i, S3⟩, e3, e⟩ := Option.bind_eq_some_iff.mp e
    refine ⟨as, ρ, S, v, S1, R, E, e1, fun u H1 R1 E1 V1 => ⟨as, ρ, S1, o, S2, R1, E.ext E1, e2, fun w H2 R2 E2 V2 => ⟨as, ρ, S2, i, S3, R2, E.ext (E1.trans E2), e3, fun z H3 R3 E3 V3 => ?_⟩⟩⟩
    dsimp only at e
    split at e
    · obtain ⟨ds, e4, e⟩ := Option.bind_eq_some_iff.mp e
      obtain ⟨n, e5, e⟩ := Option.bind_eq_some_iff.mp e
      cases e
      cases V3
      obtain ⟨a, q, rfl⟩ := V2.ext E3
      obtain ⟨vs, h1, h2⟩ := R3.at_ _ a ds q e4
      obtain ⟨R4, E4⟩ := R3.put q (dpAll_set (V1.ext (E2.trans E3)) n h2) ⟨_, h1⟩
      refine ⟨a, vs, _, n, rfl, rfl, h1, by rw [dpAll_len h2]; exact e5, ?_⟩
      exact k as σ _ ((E1.trans (E2.trans E3)).trans E4) R4 (E.ext ((E1.trans (E2.trans E3)).trans E4))
    · cases e
/-- xs.append(e), xs a list of ours -/
def mAppend (mo mv : M) : M := fun ρ S => (mo ρ S).bind fun o => (mv ρ o.2).bind fun v => match o.1, v.1 with
  | .c j, .d y => if (lAt o.2 j).isSome = true then (lAt v.2 j).bind fun ds => if ds.length < 1000000 then some (.d .none, v.2.set j (.l (ds ++ [y]))) else none else none
  | _, _ => none
theorem cell_ty {K : Fg} {as : List Addr} {S : Sto} {H : Hp} {u : V} {j : Nat} {ds : List PyData} (R : Rel K as S H) (h : VR K as H u (.c j)) (e : lAt S j = some ds) : tyV K "list" u H := by
  obtain ⟨a, q, rfl⟩ := h
  obtain ⟨vs, h1, h2⟩ := R.at_ j a ds q e
  exact .inl ⟨rfl, _, SqL.of h1⟩
theorem de_append {o e : Expr} {mo mv : M} {apos cpos : Pos} (ho : DE X o mo) (he : DE X e mv) (hbase : attributeBase o "append" X.env (eval o X.env) = eval o X.env := by rfl)
    (hfew : ((backTo cpos (starEach [e] X.env)).all (fun x => !x.1) && (backToKw cpos (keywordEach [] X.env)).all (fun x => x.1.isSome) && decide ([e].length + ([] : List Keyword).length + (if ([] : List Keyword).isEmpty then 0 else 1) < 30)) = true := by rfl)
    (hline : (apos.endLine == cpos.line) = true := by rfl) (hs : starEach [e] X.env = (false, eval e X.env) :: starEach [] X.env := by rfl) (hplain : (backTo cpos (starEach [] X.env)).any (·.1) = false := by rfl) :
    DE X (.Call (.Attribute o "append" apos) [e] [] cpos) (mAppend mo mv) :=
  pe_imp (pe_bm PySem.F.plainAttrs_list PySem.F.slot_list_append PySem.F.type_list_append mt_append ho (pa_cons he pa_nil hs) hbase hfew hline hs hplain) fun σ H Q ⟨as, ρ, S, r, S', R, E, e, k⟩ => by
    obtain ⟨⟨o, S1⟩, e1, e⟩ := Option.bind_eq_some_iff.mp e
    obtain ⟨⟨v, S2⟩, e2, e⟩ := Option.bind_eq_some_iff.mp e
    refine ⟨as, ρ, S, o, S1, R, E, e1, fun u H1 R1 E1 V1 => ?_⟩
    dsimp only at e
    split at e
    · rename_i j y _
      split at e
      · rename_i hs
        obtain ⟨ds0, e0⟩ := Option.isSome_iff_exists.mp hs
        obtain ⟨ds, e3, e⟩ := Option.bind_eq_some_iff.mp e
        obtain ⟨a, q, rfl⟩ := id V1
        refine ⟨cell_ty R1 V1 e0, as, ρ, S1, .d y, S2, R1, E.ext E1, e2, fun w H2 R2 E2 V2 => ?_⟩
        split at e
        · rename_i hz
          cases e
          obtain ⟨vs, h1, h2⟩ := R2.at_ j a ds q e3
          obtain ⟨R3, E3⟩ := R2.put q (dpAll_append h2 (.cons V2 .nil)) ⟨_, h1⟩
          refine ⟨a, vs, w, rfl, rfl, h1, by rw [dpAll_len h2, sizeLine_eq]; omega, ?_⟩
          exact k _ _ R3 (E1.trans (E2.trans E3)) .non
        · cases e
      · cases e
    · cases e
/-- xs.reverse(), xs a list of ours -/
def mReverse (mo : M) : M := fun ρ S => (mo ρ S).bind fun o => match o.1 with
  | .c j => (lAt o.2 j).bind fun ds => some (.d .none, o.2.set j (.l ds.reverse))
  | _ => none
theorem de_reverse {o : Expr} {mo : M} {apos cpos : Pos} (ho : DE X o mo) (hbase : attributeBase o "reverse" X.env (eval o X.env) = eval o X.env := by rfl) (hline : (apos.endLine == cpos.line) = true := by rfl) :
    DE X (.Call (.Attribute o "reverse" apos) [] [] cpos) (mReverse mo) :=
  pe_imp (pe_bm0 PySem.F.plainAttrs_list PySem.F.slot_list_reverse PySem.F.type_list_reverse mt_reverse ho hbase hline) fun σ H Q ⟨as, ρ, S, r, S', R, E, e, k⟩ => by
    obtain ⟨⟨o, S1⟩, e1, e⟩ := Option.bind_eq_some_iff.mp e
    refine ⟨as, ρ, S, o, S1, R, E, e1, fun u H1 R1 E1 V1 => ?_⟩
    dsimp only at e
    split at e
    · rename_i j
      obtain ⟨ds, e3, e⟩ := Option.bind_eq_some_iff.mp e
      cases e
      refine ⟨cell_ty R1 V1 e3, ?_⟩
      obtain ⟨a, q, rfl⟩ := V1
      obtain ⟨vs, h1, h2⟩ := R1.at_ j a ds q e3
      obtain ⟨R3, E3⟩ := R1.put q (dpAll_reverse h2) ⟨_, h1⟩
      exact ⟨a, vs, rfl, rfl, h1, k _ _ R3 (E1.trans E3) .non⟩
    · cases e
end
end DL

namespace DL
open PySem PySem.Spec PyProof.Rows L2 DK
variable [Nms] [Tabs]

/-! ### targets -/
def Agr (is : List Nat) (σ σ' : L2.St) : Prop := σ'.length = σ.length ∧ ∀ j, j ∉ is → σ'[j]? = σ[j]?
theorem wipe_in {σ : L2.St} {i : Nat} : ∀ {vs : List Nat}, i ∈ vs → i < σ.length → (wipe σ vs)[i]? = some none
  | [], h, _ => by cases h
  | v :: vs, h, hl => by
    show ((wipe σ vs).set v none)[i]? = _
    by_cases e : v = i
    · subst e
      exact List.getElem?_set_self (by rw [wipe_length]; exact hl)
    · rw [List.getElem?_set_ne e]
      rcases List.mem_cons.mp h with z | z
      · exact absurd z.symm e
      · exact wipe_in z hl
theorem agr_wipe {is vs : List Nat} {σ σ' : L2.St} (a : Agr is σ σ') (h : ∀ i ∈ is, i ∈ vs) : wipe σ' vs = wipe σ vs := by
  refine List.ext_getElem? fun i => ?_
  by_cases hi : i ∈ vs
  · by_cases hl : i < σ.length
    · rw [wipe_in hi hl, wipe_in hi (by rw [a.1]; exact hl)]
    · rw [List.getElem?_eq_none (by rw [wipe_length, a.1]; omega), List.getElem?_eq_none (by rw [wipe_length]; omega)]
  · rw [wipe_out hi, wipe_out hi]
    exact a.2 i fun z => hi (h i z)
theorem agr_wiped (vs : List Nat) (σ : L2.St) : Agr vs σ (wipe σ vs) := ⟨wipe_length _ _, fun j hj => wipe_out hj⟩
theorem Agr.trans {is js : List Nat} {σ1 σ2 σ3 : L2.St} (a : Agr is σ1 σ2) (b : Agr js σ2 σ3) : Agr (is ++ js) σ1 σ3 :=
  ⟨b.1.trans a.1, fun j hj => (b.2 j fun z => hj (List.mem_append_right _ z)).trans (a.2 j fun z => hj (List.mem_append_left _ z))⟩
theorem agr_set (i : Nat) (σ : L2.St) (x : Option V) : Agr [i] σ (σ.set i x) := ⟨List.length_set, fun j hj => List.getElem?_set_ne fun z => hj (by simp [z])⟩
theorem wipe_ww {vs : List Nat} {σ σ' : L2.St} {is : List Nat} (a : Agr is (wipe σ vs) σ') (h : ∀ i ∈ is, i ∈ vs) : wipe σ' vs = wipe σ vs := by
  rw [agr_wipe a h]
  exact agr_wipe (agr_wiped vs σ) fun _ z => z
def wipeR (ρ : RE) : List Nat → RE
  | [] => ρ
  | v :: vs => (wipeR ρ vs).set v none
theorem ER.none {K : Fg} {as : List Addr} {H : Hp} {σ : L2.St} {ρ : RE} (E : ER K as H σ ρ) (i : Nat) : ER K as H (σ.set i none) (ρ.set i none) := by
  refine ⟨by rw [List.length_set, List.length_set]; exact E.len, fun j q e => ?_, E.tab⟩
  by_cases hj : j = i
  · subst hj
    have hl : j < ρ.length := by
      have := (List.getElem?_eq_some_iff.mp e).1
      rwa [List.length_set] at this
    rw [List.getElem?_set_self hl] at e
    cases e
  · rw [List.getElem?_set_ne (Ne.symm hj)] at e
    obtain ⟨u, a, b⟩ := E.at_ j q e
    exact ⟨u, by rw [List.getElem?_set_ne (Ne.symm hj)]; exact a, b⟩
theorem ER.wiped {K : Fg} {as : List Addr} {H : Hp} {σ : L2.St} {ρ : RE} (E : ER K as H σ ρ) : ∀ vs : List Nat, ER K as H (wipe σ vs) (wipeR ρ vs)
  | [] => E
  | v :: vs => (ER.wiped E vs).none v
abbrev TgD := PyData → RE → Option RE
abbrev TgDs := List PyData → RE → Option RE
def tG (K : Fg) (is : List Nat) (f : TgD) : TG := fun v σ H Q => ∃ as ρ d ρ', ER K as H σ ρ ∧ Dp K (hide as H) v d ∧ f d ρ = some ρ' ∧ ∀ σ', ER K as H σ' ρ' → Agr is σ σ' → Q σ' H
def tGs (K : Fg) (is : List Nat) (f : TgDs) : TGs := fun vs σ H Q => ∃ as ρ ds ρ', ER K as H σ ρ ∧ DpAll K (hide as H) vs ds ∧ f ds ρ = some ρ' ∧ ∀ σ', ER K as H σ' ρ' → Agr is σ σ' → Q σ' H
abbrev DG (X : Cx) (tg : Expr) (is : List Nat) (f : TgD) : Prop := PG X tg (tG X.K is f)
abbrev DGs (X : Cx) (tgs : List Expr) (is : List Nat) (f : TgDs) : Prop := PGs X tgs (tGs X.K is f)
theorem pg_imp {X : Cx} {tg : Expr} {t t' : TG} (h : PG X tg t) (w : ∀ v σ H Q, t' v σ H Q → t v σ H Q) : PG X tg t' := ⟨fun pins s σ H v u Q I r q => h.run pins s σ H v u Q I r (w _ _ _ _ q)⟩
theorem pgs_imp {X : Cx} {tg : List Expr} {t t' : TGs} (h : PGs X tg t) (w : ∀ v σ H Q, t' v σ H Q → t v σ H Q) : PGs X tg t' := ⟨fun pins s σ H v u Q I r q => h.run pins s σ H v u Q I r (w _ _ _ _ q)⟩
def gN (i : Nat) : TgD := fun d ρ => some (ρ.set i (some (.d d)))
def gNs : TgDs := fun ds ρ => match ds with
  | [] => some ρ
  | _ => none
def gCs (f : TgD) (g : TgDs) : TgDs := fun ds ρ => match ds with
  | d :: r => (f d ρ).bind fun ρ' => g r ρ'
  | [] => none
def gT (n : Nat) (g : TgDs) : TgD := fun d ρ => match d with
  | .tuple ds => if ds.length = n then g ds ρ else none
  | _ => none
section
variable {X : Cx} {pos : Pos}
theorem dg_name {i : Nat} {x : Str} (hN : X.N.Nodup) (hi : X.N[i]? = some x) (hx : Loc X.env.scope x) (hf : X.fn x = true ∨ X.env.scope.names.lookup x = some .local := by first | exact .inl rfl | exact .inr rfl | assumption) : DG X (.Name x pos) [i] (gN i) :=
  pg_imp (pg_name hN hi hx hf) fun v σ H Q ⟨as, ρ, d, ρ', E, hd, e, k⟩ => by
    cases e
    exact k _ (E.set i hd) (agr_set i σ _)
theorem dgs_nil : DGs X [] [] gNs := pgs_imp pgs_nil fun v σ H Q ⟨as, ρ, d, ρ', E, hd, e, k⟩ => by
  unfold gNs at e
  split at e
  · cases e
    cases hd
    exact ⟨rfl, k σ E ⟨rfl, fun _ _ => rfl⟩⟩
  · cases e
theorem dgs_cons {e : Expr} {es : List Expr} {is js : List Nat} {f : TgD} {g : TgDs} (h1 : DG X e is f) (h2 : DGs X es js g)
    (hs : (assignEach (e :: es) X.env).map (·.2) = assign e X.env :: (assignEach es X.env).map (·.2) := by rfl) : DGs X (e :: es) (is ++ js) (gCs f g) :=
  pgs_imp (pgs_cons h1 h2 hs) fun v σ H Q ⟨as, ρ, ds, ρ', E, hd, e, k⟩ => by
    unfold gCs at e
    split at e
    · obtain ⟨ρ1, e1, e⟩ := Option.bind_eq_some_iff.mp e
      cases hd with
      | cons a b => exact ⟨_, _, rfl, as, ρ, _, ρ1, E, a, e1, fun σ1 E1 A1 => ⟨as, ρ1, _, ρ', E1, b, e, fun σ2 E2 A2 => k σ2 E2 (A1.trans A2)⟩⟩
    · cases e
theorem dg_tup {es : List Expr} {q n : Nat} {is : List Nat} {g : TgDs} (hc : X.calm = true) (h : DGs X es is g) (hn : (assignEach es X.env).length = n := by rfl) (hst : (assignEach es X.env).findIdx? (·.1) = none := by rfl) : DG X (.Tuple es q pos) is (gT n g) :=
  pg_imp (pg_tup hc h hn hst) fun v σ H Q ⟨as, ρ, d, ρ', E, hd, e, k⟩ => by
    unfold gT at e
    split at e
    · split at e
      · rename_i hl
        cases hd with
        | tup s a => exact ⟨_, _, rfl, sqT_mono hide_same s, by rw [dpAll_len a]; exact hl, as, ρ, _, ρ', E, a, e, k⟩
      · cases e
    · cases e
/-- a, b = e (a tuple) -/
def sAsg (g : TgD) (m : M) : MS := fun ρ S => (m ρ S).bind fun p => match p.1 with
  | .d d => (g d ρ).bind fun ρ' => some (.nx ρ' p.2)
  | _ => none
theorem ds_asg {tg e : Expr} {m : M} {is : List Nat} {g : TgD} (he : DE X e m) (hg : DG X tg is g) (hs : swapsWithSole [tg] e pos.line X.env = pure false := by rfl) (hw : swappedStores [tg] e X.env = pure none := by rfl)
    (h1 : (assignEach [tg] X.env).map (·.2) = [assign tg X.env] := by rfl) : DS X (.Assign [tg] e pos) (sAsg g m) :=
  ps_imp (ps_asg he hg hs hw h1) fun D σ H ⟨as, ρ, S, o, R, E, e, k⟩ => by
    obtain ⟨⟨v, S1⟩, e1, e⟩ := Option.bind_eq_some_iff.mp e
    refine ⟨as, ρ, S, v, S1, R, E, e1, fun u H1 R1 E1 V1 => ?_⟩
    dsimp only at e
    split at e
    · obtain ⟨ρ', e2, e⟩ := Option.bind_eq_some_iff.mp e
      cases e
      exact ⟨as, ρ, _, ρ', E.ext E1, V1, e2, fun σ' E' _ => k as σ' H1 E1 R1 E'⟩
    · cases e
end

/-! ### what is walked -/
def Grw (H H' : Hp) : Prop := H' = H ∨ ∃ T o, H T = none ∧ H' = upd H T o
structure Iters (K : Fg) (as : List Addr) (H1 : Hp) (J : It) (xs : List PyData) : Prop where
  go : ∀ as' H2, Ext as H1 as' H2 → ∀ (i : Nat) (d : PyData), xs[i]? = some d → J.go i H2
  yld : ∀ as' S H2, Ext as H1 as' H2 → Rel K as' S H2 → ∀ (i : Nat) (d : PyData), xs[i]? = some d → ∀ x H3, J.yld i H2 x H3 → Grw H2 H3 ∧ Dp K (hide as' H3) x d
  stop : ∀ as' H2, Ext as H1 as' H2 → J.stop xs.length H2
theorem Rel.grw {K : Fg} {as : List Addr} {S : Sto} {H H' : Hp} (R : Rel K as S H) (g : Grw H H') : Rel K as S H' ∧ Ext as H as H' := by
  rcases g with rfl | ⟨T, o, h, rfl⟩
  · exact ⟨R, .refl⟩
  · exact R.laid h
def tI (K : Fg) (mi : ML) : TI := fun σ H R => ∃ as ρ S xs S1, Rel K as S H ∧ ER K as H σ ρ ∧ mi ρ S = some (xs, S1) ∧ ∀ J H1, Rel K as S1 H1 → Ext as H as H1 → Iters K as H1 J xs → R J H1
abbrev DI (X : Cx) (tg iter : Expr) (mi : ML) : Prop := PI X tg iter (tI X.K mi)
theorem pi_imp {X : Cx} {tg iter : Expr} {t t' : TI} (h : PI X tg iter t) (w : ∀ σ H R, t' σ H R → t σ H R) : PI X tg iter t' := ⟨fun pins s σ H R I q => h.run pins s σ H R I (w _ _ _ q)⟩
theorem iters_list {K : Fg} {as : List Addr} {H1 : Hp} {a : Addr} {vs : List V} {xs : List PyData} (hs : SqL K (hide as H1) a vs) (hd : DpAll K (hide as H1) vs xs) : Iters K as H1 (Itl K a) xs := by
  have st : ∀ {as' H2}, Ext as H1 as' H2 → SqL K H2 a vs := fun {as' H2} E => hide_same.seq (E.same.seq hs)
  refine ⟨fun as' H2 E i d e => ?_, fun as' S H2 E R i d e x H3 y => ?_, fun as' H2 E => ?_⟩
  · obtain ⟨v, e1, _⟩ := dpAll_get hd e
    exact ⟨vs, v, st E, e1⟩
  · obtain ⟨v, e1, h1⟩ := dpAll_get hd e
    obtain ⟨rfl, y⟩ := y
    have : x = v := Option.some.inj ((y vs (st E)).symm.trans e1)
    subst this
    exact ⟨.inl rfl, dp_mono E.same _ _ h1⟩
  · exact ⟨vs, st E, by rw [dpAll_len hd]; exact Nat.le_refl _⟩
theorem iters_tup {K : Fg} {as : List Addr} {H1 : Hp} {a : Addr} {vs : List V} {xs : List PyData} (hs : SqT K (hide as H1) a vs) (hd : DpAll K (hide as H1) vs xs) : Iters K as H1 (Itt K a) xs := by
  have st : ∀ {as' H2}, Ext as H1 as' H2 → SqT K H2 a vs := fun {as' H2} E => sqT_mono hide_same (sqT_mono E.same hs)
  refine ⟨fun as' H2 E i d e => ?_, fun as' S H2 E R i d e x H3 y => ?_, fun as' H2 E => ?_⟩
  · obtain ⟨v, e1, _⟩ := dpAll_get hd e
    exact ⟨vs, v, st E, e1⟩
  · obtain ⟨v, e1, h1⟩ := dpAll_get hd e
    obtain ⟨rfl, y⟩ := y
    have : x = v := Option.some.inj ((y vs (st E)).symm.trans e1)
    subst this
    exact ⟨.inl rfl, dp_mono E.same _ _ h1⟩
  · exact ⟨vs, st E, by rw [dpAll_len hd]; exact Nat.le_refl _⟩
def rangeD (lo : Int) (n : Nat) : List PyData := (List.range n).map fun i => .int (lo + (i : Nat))
theorem rangeD_get {lo : Int} {n i : Nat} {d : PyData} (h : (rangeD lo n)[i]? = some d) : i < n ∧ d = .int (lo + (i : Nat)) := by
  unfold rangeD at h
  rw [List.getElem?_map] at h
  obtain ⟨j, e, q⟩ := Option.map_eq_some_iff.mp h
  have hi := (List.getElem?_eq_some_iff.mp e)
  obtain ⟨hl, e2⟩ := hi
  rw [List.length_range] at hl
  rw [List.getElem_range] at e2
  subst e2
  exact ⟨hl, q.symm⟩
theorem iters_rng {K : Fg} {as : List Addr} {H1 : Hp} {lo : Int} {n : Nat} : Iters K as H1 (Itr lo n) (rangeD lo n) := by
  refine ⟨fun as' H2 E i d e => (rangeD_get e).1, fun as' S H2 E R i d e x H3 y => ?_, fun as' H2 E => ?_⟩
  · obtain ⟨rfl, rfl⟩ := y
    obtain ⟨_, rfl⟩ := rangeD_get e
    exact ⟨.inl rfl, .int _⟩
  · show n ≤ (rangeD lo n).length
    unfold rangeD
    rw [List.length_map, List.length_range]
    exact Nat.le_refl _
def mSeq (m : M) : ML := fun ρ S => (m ρ S).bind fun p => match p.1 with
  | .d (.list xs) => some (xs, p.2)
  | .d (.tuple xs) => some (xs, p.2)
  | _ => none
def mRng1 (m : M) : ML := fun ρ S => (m ρ S).bind fun p => match p.1 with
  | .d (.int j) => if -1000000 ≤ j ∧ j ≤ 1000000 then some (rangeD 0 j.toNat, p.2) else none
  | _ => none
def mRng2 (m n : M) : ML := fun ρ S => (m ρ S).bind fun p => (n ρ p.2).bind fun q => match p.1, q.1 with
  | .d (.int i), .d (.int j) => if -1000000 ≤ i ∧ i ≤ 1000000 ∧ -1000000 ≤ j ∧ j ≤ 1000000 then some (rangeD i (j - i).toNat, q.2) else none
  | _, _ => none
section
variable {X : Cx} {tg : Expr} {pos p : Pos}
/-- a list or a tuple that stands still -/
theorem pi_seq {l : Expr} {tl : TE} (hl : PE X l tl) : PI X tg l (fun σ H R => tl σ H fun x H1 => (∃ a, x = .ref a ∧ (∃ xs, SqL X.K H1 a xs) ∧ R (Itl X.K a) H1) ∨ ∃ a, x = .ref a ∧ (∃ xs, SqT X.K H1 a xs) ∧ R (Itt X.K a) H1) := by
  refine ⟨fun pins s σ H R I h => thn (hl.run pins s σ H _ I h) fun v s1 z => ?_⟩
  obtain ⟨x, H1, I1, r1, z | z⟩ := z
  · have pe : wpAny (model X.prog X.w) X.A (pure v : Sem Value) (EP X pins σ fun y H2 => y = x ∧ H2 = H1) X.xe s1 := wpAny_pure ⟨x, H1, I1, r1, rfl, rfl⟩
    obtain ⟨a, rfl, ⟨xs, hq⟩, q⟩ := z
    cases r1
    obtain ⟨its, rv, pl, hz⟩ := I1.list hq
    exact wpAny_pyIter_list pl.isList ⟨s1.heap.objs.size, [s1.heap.objs.size], _, _, H1, rfl, I1.kept (t' := s1.toks) fun b o e => Heap.get?_push_of_some _ e, turn_list a _, ⟨_, Heap.get?_push_size _ rfl, rfl, rfl⟩, fun b hb => by
      rw [List.mem_singleton.mp hb]; exact I1.fpOk (Nat.le_refl _) (I1.hok.fresh (Nat.le_refl _)), q⟩
  · obtain ⟨a, rfl, ⟨xs, hq⟩, q⟩ := z
    cases r1
    obtain ⟨its, rv, pl, hz⟩ := I1.tuple hq
    exact wpAny_pyIter_tuple (show s1.heap.IsTuple a its.toArray from pl) ⟨s1.heap.objs.size, [s1.heap.objs.size], _, _, H1, rfl, I1.kept (t' := s1.toks) fun b o e => Heap.get?_push_of_some _ e, turn_tuple a _, ⟨_, Heap.get?_push_size _ rfl, rfl, rfl⟩, fun b hb => by
      rw [List.mem_singleton.mp hb]; exact I1.fpOk (Nat.le_refl _) (I1.hok.fresh (Nat.le_refl _)), q⟩
theorem di_seq {l : Expr} {m : M} (hl : DE X l m) : DI X tg l (mSeq m) := pi_imp (pi_seq hl) fun σ H Rr ⟨as, ρ, S, xs, S1, R, E, e, k⟩ => by
  obtain ⟨⟨v, S2⟩, e1, e⟩ := Option.bind_eq_some_iff.mp e
  refine ⟨as, ρ, S, v, S2, R, E, e1, fun u H1 R1 E1 V1 => ?_⟩
  dsimp only at e
  split at e
  · cases e
    cases V1 with
    | lst s a => exact .inl ⟨_, rfl, ⟨_, hide_same.seq s⟩, k _ H1 R1 E1 (iters_list s a)⟩
  · cases e
    cases V1 with
    | tup s a => exact .inr ⟨_, rfl, ⟨_, sqT_mono hide_same s⟩, k _ H1 R1 E1 (iters_tup s a)⟩
  · cases e
theorem di_rng1 {a : Expr} {m : M} (hg : Gl X "range") (hm : X.mg "range" = none) (ha : DE X a m) (hs : starEach [a] X.env = (false, eval a X.env) :: starEach [] X.env := by rfl) : DI X tg (.Call (.Name "range" p) [a] [] pos) (mRng1 m) :=
  pi_imp (pi_range1 hg hm (pa_cons ha pa_nil hs) hs) fun σ H Rr ⟨as, ρ, S, xs, S1, R, E, e, k⟩ => by
    obtain ⟨⟨v, S2⟩, e1, e⟩ := Option.bind_eq_some_iff.mp e
    refine ⟨as, ρ, S, v, S2, R, E, e1, fun u H1 R1 E1 V1 => ?_⟩
    dsimp only at e
    split at e
    · split at e
      · rename_i hz
        cases e
        cases V1
        have z1 : (1000000 : Int) < 2 ^ 62 := by decide
        have z2 : -(2 ^ 62) ≤ (-1000000 : Int) := by decide
        exact ⟨_, rfl, by omega, by omega, k _ H1 R1 E1 iters_rng⟩
      · cases e
    · cases e
theorem di_rng2 {a b : Expr} {m n : M} (hg : Gl X "range") (hm : X.mg "range" = none) (ha : DE X a m) (hb : DE X b n) (hs : starEach [a, b] X.env = (false, eval a X.env) :: starEach [b] X.env := by rfl) (hs2 : starEach [b] X.env = (false, eval b X.env) :: starEach [] X.env := by rfl) :
    DI X tg (.Call (.Name "range" p) [a, b] [] pos) (mRng2 m n) :=
  pi_imp (pi_range2 hg hm (pa_cons ha (pa_cons hb pa_nil hs2) hs) (by rw [hs, hs2]; rfl) hs2) fun σ H Rr ⟨as, ρ, S, xs, S1, R, E, e, k⟩ => by
    obtain ⟨⟨v, S2⟩, e1, e⟩ := Option.bind_eq_some_iff.mp e
    obtain ⟨⟨w, S3⟩, e2, e⟩ := Option.bind_eq_some_iff.mp e
    refine ⟨as, ρ, S, v, S2, R, E, e1, fun u H1 R1 E1 V1 => ⟨as, ρ, S2, w, S3, R1, E.ext E1, e2, fun u2 H2 R2 E2 V2 => ?_⟩⟩
    dsimp only at e
    split at e
    · split at e
      · rename_i hz
        cases e
        cases V1
        cases V2
        have z1 : (1000000 : Int) < 2 ^ 62 := by decide
        have z2 : -(2 ^ 62) ≤ (-1000000 : Int) := by decide
        exact ⟨_, _, rfl, ⟨by omega, by omega, by omega, by omega⟩, k _ H2 R2 (E1.trans E2) iters_rng⟩
      · cases e
    · cases e
end

/-! ### for, while -/
def forGo (tgt : TgD) (body : MS) : List PyData → RE → Sto → Option Out
  | [], ρ, S => some (.nx ρ S)
  | x :: xs, ρ, S => (tgt x ρ).bind fun ρ1 => (body ρ1 S).bind fun o => match o with
    | .nx ρ' S' => forGo tgt body xs ρ' S'
    | .ct ρ' S' => forGo tgt body xs ρ' S'
    | .bk ρ' S' => some (.nx ρ' S')
    | .rt v S' => some (.rt v S')
    | .rl v S' => some (.rl v S')
def sFor (mi : ML) (tgt : TgD) (body : MS) : MS := fun ρ S => (mi ρ S).bind fun p => forGo tgt body p.1 ρ p.2
theorem drop_cons {α : Type} {xs : List α} {i : Nat} (h : i < xs.length) : xs.drop i = xs[i] :: xs.drop (i + 1) := by simp
theorem ds_for {X : Cx} {tg iter : Expr} {body : List Stmt} {mi : ML} {is : List Nat} {g : TgD} {gb : MS} {pos : Pos} (hp : PassesOwn (model X.prog X.w) X.A X.env X.xe) (hc : X.calm = true) (hi : DI X tg iter mi) (hg : DG X tg is g) (hb : DSs X body gb)
    (hs : ∀ x, foldedSetIterable iter X.env x = pure x := by intro _; rfl) : DS X (.For tg iter body [] pos) (sFor mi g gb) := ps_imp (ps_for hp hc hi hg hb hs) fun D σ H ⟨as, ρ, S, o, R, E, e, k⟩ => by
  obtain ⟨⟨xs, S1⟩, e1, e⟩ := Option.bind_eq_some_iff.mp e
  refine ⟨as, ρ, S, xs, S1, R, E, e1, fun J H1 R1 E1 it => ?_⟩
  dsimp only at e
  refine ⟨fun i m σ' H' => m = xs.length - i ∧ i ≤ xs.length ∧ ∃ as' ρ' S', Ext as H1 as' H' ∧ Rel X.K as' S' H' ∧ ER X.K as' H' σ' ρ' ∧ forGo g gb (xs.drop i) ρ' S' = some o,
    ⟨xs.length, by omega, Nat.zero_le _, as, ρ, S1, .refl, R1, E.ext E1, e⟩, ?_⟩
  rintro i m σ' H' ⟨hm, hi, as', ρ', S', X1, R2, E2, e2⟩
  have K2 : Post X.K as' H' D o := k.ext (E1.trans X1)
  by_cases hlt : i < xs.length
  · refine .inr ⟨it.go as' H' X1 i xs[i] (List.getElem?_eq_getElem hlt), ?_⟩
    refine ⟨fun σ2 H2 => ∃ as2 ρ2 S2, Ext as H1 as2 H2 ∧ Rel X.K as2 S2 H2 ∧ ER X.K as2 H2 σ2 ρ2 ∧ forGo g gb (xs.drop (i + 1)) ρ2 S2 = some o, fun σ2 H2 z => ⟨xs.length - (i + 1), by omega, rfl, hlt, z⟩, fun x H2 y => ?_⟩
    obtain ⟨gr, hx⟩ := it.yld as' S' H' X1 R2 i xs[i] (List.getElem?_eq_getElem hlt) x H2 y
    obtain ⟨R3, X2⟩ := R2.grw gr
    rw [drop_cons hlt] at e2
    obtain ⟨ρ3, e3, e2⟩ := Option.bind_eq_some_iff.mp e2
    obtain ⟨o2, e4, e2⟩ := Option.bind_eq_some_iff.mp e2
    refine ⟨as', ρ', xs[i], ρ3, E2.ext X2, hx, e3, fun σ3 E3 _ => ⟨as', ρ3, S', o2, R3, E3, e4, ?_⟩⟩
    cases o2 with
    | nx ρ4 S4 => exact fun as4 σ4 H4 X4 R4 E4 => ⟨as4, ρ4, S4, (X1.trans X2).trans X4, R4, E4, e2⟩
    | ct ρ4 S4 => exact fun as4 σ4 H4 X4 R4 E4 => ⟨as4, ρ4, S4, (X1.trans X2).trans X4, R4, E4, e2⟩
    | bk ρ4 S4 =>
      cases e2
      exact fun as4 σ4 H4 X4 R4 E4 => K2 as4 σ4 H4 (X2.trans X4) R4 E4
    | rt v S4 =>
      cases e2
      exact fun as4 u H4 X4 R4 V4 => K2 as4 u H4 (X2.trans X4) R4 V4
    | rl v S4 =>
      cases e2
      exact fun as4 u H4 vs X4 R4 => K2 as4 u H4 vs (X2.trans X4) R4
  · have he : i = xs.length := by omega
    subst he
    rw [List.drop_length] at e2
    cases e2
    exact .inl ⟨it.stop as' H' X1, K2 as' σ' H' .refl R2 E2⟩
def whileGo (c : MB) (body : MS) : Nat → RE → Sto → Option Out
  | 0, _, _ => none
  | n + 1, ρ, S => (c ρ S).bind fun p => if p.1 = true then (body ρ p.2).bind fun o => match o with
      | .nx ρ' S' => whileGo c body n ρ' S'
      | .ct ρ' S' => whileGo c body n ρ' S'
      | .bk ρ' S' => some (.nx ρ' S')
      | .rt v S' => some (.rt v S')
      | .rl v S' => some (.rl v S')
    else some (.nx ρ p.2)
def sWhile (fuel : RE → Sto → Nat) (c : MB) (body : MS) : MS := fun ρ S => whileGo c body (fuel ρ S) ρ S
theorem ds_while {X : Cx} {c : Expr} {body : List Stmt} {mc : MB} {gb : MS} {pos : Pos} (fuel : RE → Sto → Nat) (hp : PassesOwn (model X.prog X.w) X.A X.env X.xe) (hc : DB X c mc) (hb : DSs X body gb) : DS X (.While c body [] pos) (sWhile fuel mc gb) :=
  ps_imp (ps_while hp hc hb) fun D σ H ⟨as, ρ, S, o, R, E, e, k⟩ => by
    refine ⟨fun n σ' H' => ∃ as' ρ' S', Ext as H as' H' ∧ Rel X.K as' S' H' ∧ ER X.K as' H' σ' ρ' ∧ whileGo mc gb n ρ' S' = some o, ⟨fuel ρ S, as, ρ, S, .refl, R, E, e⟩, ?_⟩
    rintro n σ' H' ⟨as', ρ', S', X1, R2, E2, e2⟩
    cases n with
    | zero => cases e2
    | succ n =>
      obtain ⟨⟨b, S3⟩, e3, e2⟩ := Option.bind_eq_some_iff.mp e2
      refine ⟨as', ρ', S', b, S3, R2, E2, e3, fun H3 R3 X3 => ?_⟩
      have K2 : Post X.K as' H3 D o := k.ext (X1.trans X3)
      dsimp only at e2 ⊢
      split
      · rename_i hb
        rw [if_pos hb] at e2
        obtain ⟨o2, e4, e2⟩ := Option.bind_eq_some_iff.mp e2
        refine ⟨fun σ4 H4 => ∃ as4 ρ4 S4, Ext as H as4 H4 ∧ Rel X.K as4 S4 H4 ∧ ER X.K as4 H4 σ4 ρ4 ∧ whileGo mc gb n ρ4 S4 = some o, fun σ4 H4 z => ⟨n, Nat.lt_succ_self n, z⟩, as', ρ', S3, o2, R3, E2.ext X3, e4, ?_⟩
        cases o2 with
        | nx ρ4 S4 => exact fun as4 σ4 H4 X4 R4 E4 => ⟨as4, ρ4, S4, (X1.trans X3).trans X4, R4, E4, e2⟩
        | ct ρ4 S4 => exact fun as4 σ4 H4 X4 R4 E4 => ⟨as4, ρ4, S4, (X1.trans X3).trans X4, R4, E4, e2⟩
        | bk ρ4 S4 => cases e2; exact fun as4 σ4 H4 X4 R4 E4 => K2 as4 σ4 H4 X4 R4 E4
        | rt v S4 => cases e2; exact fun as4 u H4 X4 R4 V4 => K2 as4 u H4 X4 R4 V4
        | rl v S4 => cases e2; exact fun as4 u H4 vs X4 R4 => K2 as4 u H4 vs X4 R4
      · rename_i hb
        rw [if_neg hb] at e2
        cases e2
        exact K2 as' σ' H3 .refl R3 (E2.ext X3)
end DL

namespace DL
open PySem PySem.Spec PyProof.Rows L2 DK
variable [Nms] [Tabs]

/-! ### a cell of ours is let go -/
def unH (D : Addr) (H : Hp) : Hp := fun a => if a = D then none else H a
theorem hide_app (as : List Addr) (D : Addr) (H : Hp) : hide (as ++ [D]) H = hide as (unH D H) := by
  funext a
  unfold hide unH
  by_cases h1 : a ∈ as
  · rw [if_pos (List.mem_append_left _ h1), if_pos h1]
  · rw [if_neg h1]
    by_cases h2 : a = D
    · rw [if_pos (List.mem_append_right _ (by simp [h2])), if_pos h2]
      rfl
    · rw [if_neg h2, if_neg (fun z => (List.mem_append.mp z).elim h1 (by simpa using h2))]
theorem unown {K : Fg} {as : List Addr} {D : Addr} {S : Sto} {H0 H : Hp} {ds : List PyData} (R : Rel K (as ++ [D]) S H) (E : Ext as H0 (as ++ [D]) H) (hL : lAt S as.length = some ds) :
    ∃ vs, H D = some (.lst vs) ∧ Rel K as (S.take as.length) (unH D H) ∧ Ext as H0 as (unH D H) ∧ (unH D H) D = none ∧ DpAll K (hide as (unH D H)) vs ds ∧ upd (unH D H) D (.lst vs) = H := by
  have hl := R.len
  rw [List.length_append, List.length_singleton] at hl
  have hs : as.length < S.length := by omega
  obtain ⟨vs, h1, h2⟩ := R.at_ as.length D ds (by simp) hL
  rw [hide_app] at h2
  have nD : D ∉ as := fun z => by
    have nd := List.nodup_append.mp R.nd
    exact nd.2.2 D z D (by simp) rfl
  have hn : (unH D H) D = none := by unfold unH; rw [if_pos rfl]
  have ne : ∀ a, a ≠ D → (unH D H) a = H a := fun a z => by unfold unH; rw [if_neg z]
  refine ⟨vs, h1, ⟨(List.nodup_append.mp R.nd).1, by rw [List.length_take]; omega, fun i a ds x y => ?_⟩, ⟨⟨[], by simp⟩, fun b z nz => absurd z nz, fun a o na z t => ?_, fun P tp => ?_, fun a o na z => ?_, fun a ha q => ?_, fun a ha o u q => ?_⟩, hn, h2, ?_⟩
  · have hi : i < as.length := (List.getElem?_eq_some_iff.mp x).1
    rw [List.getElem?_take_of_lt hi] at y
    have r := R.cell i a ds (by rw [List.getElem?_append_left hi]; exact x) y
    rw [hide_app, List.take_append_of_le_length (Nat.le_of_lt hi)] at r
    exact r.mono (fun _ _ z => z) (ne a (fun z => nD (by rw [← z]; exact List.mem_of_getElem? x)))
  · have z2 := E.keep a o na z t
    rw [ne a (fun w => ?_)]
    · exact z2
    · have := E.new D (by simp) nD
      rw [← w, z] at this
      cases this
  · exact tab_but (.inr (.inl ⟨vs, h1⟩)) ne P (E.tab P tp)
  · obtain ⟨o', z2⟩ := E.there a o na z
    refine ⟨o', ?_⟩
    rw [ne a (fun w => ?_)]
    · exact z2
    · have := E.new D (by simp) nD
      rw [← w, z] at this
      cases this
  · rw [ne a (fun w => nD (by rw [← w]; exact ha))] at q
    exact E.kind a ha q
  · rw [ne a (fun w => nD (by rw [← w]; exact ha))]
    exact E.lock a ha o u q
  · funext b
    by_cases hb : b = D
    · subst hb
      rw [upd_same, h1]
    · rw [upd_ne hb, ne b hb]

/-! ### list comprehensions -/
def pushAt (n : Nat) (y : PyData) (S : Sto) : Option Sto := (lAt S n).bind fun l => if l.length < 1000000 then some (S.set n (.l (l ++ [y]))) else none
def lcGo (n : Nat) (tgt : TgD) (tt : MB) (te : M) (ρ : RE) : List PyData → Sto → Option Sto
  | [], S => some S
  | x :: xs, S => (tgt x ρ).bind fun ρ1 => (tt ρ1 S).bind fun b => if b.1 = true then (te ρ1 b.2).bind fun v => match v.1 with
      | .d y => (pushAt n y v.2).bind fun S' => lcGo n tgt tt te ρ xs S'
      | _ => none
    else lcGo n tgt tt te ρ xs b.2
def mLc (mi : ML) (vs : List Nat) (tgt : TgD) (tt : MB) (te : M) : ML := fun ρ S => (mi ρ S).bind fun p => (lcGo p.2.length tgt tt te (wipeR ρ vs) p.1 (p.2 ++ [.l []])).bind fun S' => (lAt S' p.2.length).bind fun ds => some (ds, S'.take p.2.length)
def bYes : MB := fun _ S => some (true, S)
abbrev DTs (X : Cx) (ifs : List Expr) (m : MB) : Prop := PTs X ifs (tMB X.K m)
theorem dts_nil {X : Cx} : DTs X [] bYes := ⟨fun pins s σ H Q I ⟨as, ρ, S, b, S', R, E, e, k⟩ => by
  cases e
  exact pts_nil.run pins s σ H Q I (k H R .refl)⟩
theorem dts_one {X : Cx} {c : Expr} {m : MB} (h : DB X c m) : DTs X [c] m := pts_one h
theorem push_ok {K : Fg} {as : List Addr} {S S' : Sto} {H : Hp} {n : Nat} {D : Addr} {y : PyData} {u : V} (R : Rel K as S H) (hD : as[n]? = some D) (e : pushAt n y S = some S') (hv : Dp K (hide as H) u y) :
    ∃ acc, H D = some (.lst acc) ∧ acc.length < sizeLine ∧ Rel K as S' (upd H D (.lst (acc ++ [u]))) ∧ Ext as H as (upd H D (.lst (acc ++ [u]))) := by
  obtain ⟨l, e1, e⟩ := Option.bind_eq_some_iff.mp e
  split at e
  · rename_i hz
    cases e
    obtain ⟨vs, h1, h2⟩ := R.at_ n D l hD e1
    obtain ⟨R2, E2⟩ := R.put hD (dpAll_append h2 (.cons hv .nil)) ⟨_, h1⟩
    exact ⟨vs, h1, by rw [dpAll_len h2, sizeLine_eq]; omega, R2, E2⟩
  · cases e
theorem Iters.ext {K : Fg} {as as1 : List Addr} {H1 H2 : Hp} {J : It} {xs : List PyData} (it : Iters K as H1 J xs) (e : Ext as H1 as1 H2) : Iters K as1 H2 J xs :=
  ⟨fun as' H3 E => it.go as' H3 (e.trans E), fun as' S H3 E => it.yld as' S H3 (e.trans E), fun as' H3 E => it.stop as' H3 (e.trans E)⟩
theorem lc_loop {K : Fg} {bs : List Addr} {H4 : Hp} {J : It} {xs : List PyData} {S S2 : Sto} {σ : L2.St} {ρ : RE} {n : Nat} {D : Addr} {vs is : List Nat} {tgt : TgD} {tt : MB} {te : M} {Nx : Hp → Prop} (it : Iters K bs H4 J xs) (R : Rel K bs S H4) (E : ER K bs H4 σ ρ) (hn : bs[n]? = some D)
    (e : lcGo n tgt tt te (wipeR ρ vs) xs S = some S2) (hv : ∀ i ∈ is, i ∈ vs) (k : ∀ H', Rel K bs S2 H' → Ext bs H4 bs H' → Nx H') :
    ∃ W1 : Nat → Nat → Hp → Prop, (∃ m, W1 0 m H4) ∧ ∀ j q H, W1 j q H → (J.stop j H ∧ Nx H) ∨ (J.go j H ∧ ∃ Nx1 : Hp → Prop, (∀ H', Nx1 H' → ∃ k', k' < q ∧ W1 (j + 1) k' H') ∧ ∀ x H', J.yld j H x H' → tG K is tgt x (wipe σ vs) H' fun σ3 H5 => wipe σ3 vs = wipe σ vs ∧ tMB K tt σ3 H5 fun b H6 =>
      if b = true then tM K te σ3 H6 fun y H7 => ∃ acc, H7 D = some (.lst acc) ∧ acc.length < sizeLine ∧ Nx1 (upd H7 D (.lst (acc ++ [y]))) else Nx1 H6) := by
  refine ⟨fun i m H' => m = xs.length - i ∧ i ≤ xs.length ∧ ∃ S3, Ext bs H4 bs H' ∧ Rel K bs S3 H' ∧ lcGo n tgt tt te (wipeR ρ vs) (xs.drop i) S3 = some S2, ⟨xs.length, by omega, Nat.zero_le _, S, .refl, R, e⟩, ?_⟩
  rintro i m H' ⟨hm, hi, S3, X1, R3, e4⟩
  by_cases hlt : i < xs.length
  · refine .inr ⟨it.go _ H' X1 i xs[i] (List.getElem?_eq_getElem hlt), fun H2 => ∃ S4, Ext bs H4 bs H2 ∧ Rel K bs S4 H2 ∧ lcGo n tgt tt te (wipeR ρ vs) (xs.drop (i + 1)) S4 = some S2, fun H2 z => ⟨xs.length - (i + 1), by omega, rfl, hlt, z⟩, fun x H2 y => ?_⟩
    obtain ⟨gr, hx⟩ := it.yld _ S3 H' X1 R3 i xs[i] (List.getElem?_eq_getElem hlt) x H2 y
    obtain ⟨R4, X2⟩ := R3.grw gr
    rw [drop_cons hlt] at e4
    obtain ⟨ρ3, e5, e4⟩ := Option.bind_eq_some_iff.mp e4
    obtain ⟨⟨b, S5⟩, e6, e4⟩ := Option.bind_eq_some_iff.mp e4
    refine ⟨bs, wipeR ρ vs, xs[i], ρ3, (E.ext (X1.trans X2)).wiped vs, hx, e5, fun σ3 E3 A3 => ⟨wipe_ww A3 hv, bs, ρ3, S3, b, S5, R4, E3, e6, fun H5 R5 X5 => ?_⟩⟩
    dsimp only at e4 ⊢
    split
    · rename_i hb
      rw [if_pos hb] at e4
      obtain ⟨⟨v, S6⟩, e7, e4⟩ := Option.bind_eq_some_iff.mp e4
      refine ⟨bs, ρ3, S5, v, S6, R5, E3.ext X5, e7, fun u H6 R6 X6 V6 => ?_⟩
      cases v with
      | f _ => first | rfl | exact h | (cases e; done) | (cases e1; done) | (cases e2; done) | (cases e3; done) | (cases e4; done) | (cases e5; done) | (cases e6; done) | (cases h; done) | (cases h1; done) | (cases h2; done) | (cases h3; done) | (cases b; done) | (cases q; done) | exact h.elim | exact g.elim | exact r.elim | exact r.1.elim | exact r1.elim | exact r2.elim | exact z.elim | exact h1.elim | contradiction | (cases y <;> rfl) | (cases x <;> rfl) | (cases q <;> rfl) | (cases a <;> rfl) | exact L _ _ | exact L _ | (simp_all; done)
      | c j => cases e4
      | d y =>
        obtain ⟨S7, e8, e4⟩ := Option.bind_eq_some_iff.mp e4
        obtain ⟨acc, h1, h2, R7, X7⟩ := push_ok R6 hn e8 V6
        exact ⟨acc, h1, h2, S7, (X1.trans X2).trans (X5.trans (X6.trans X7)), R7, e4⟩
    · rename_i hb
      rw [if_neg hb] at e4
      exact ⟨S5, (X1.trans X2).trans X5, R5, e4⟩
  · have he : i = xs.length := by omega
    subst he
    rw [List.drop_length] at e4
    cases e4
    exact .inl ⟨it.stop _ H' X1, k H' R3 X1⟩
/-- the new list at its end -/
theorem lc_end {K : Fg} {as : List Addr} {D : Addr} {S1 S2 : Sto} {H0 H1 H' : Hp} {ds : List PyData} {Q : VK} (R1 : Rel K as S1 H1) (E1 : Ext as H0 as H1) (e3 : lAt S2 S1.length = some ds) (R3 : Rel K (as ++ [D]) S2 H') (X1 : Ext as H1 (as ++ [D]) H')
    (k : ∀ p H2 ws, Rel K as (S2.take S1.length) H2 → Ext as H0 as H2 → H2 p = none → DpAll K (hide as H2) ws ds → Q (.ref p) (upd H2 p (.lst ws))) : Q (.ref D) H' := by
  obtain ⟨ws, g2, g3, g4, g5, g6, g7⟩ := unown R3 X1 (by rw [R1.len]; exact e3)
  have z := k D (unH D H') ws (by rw [← R1.len]; exact g3) (E1.trans g4) g5 g6
  rw [g7] at z
  exact z
theorem lc_D {K : Fg} {mi : ML} {vs is : List Nat} {tgt : TgD} {tt : MB} {te : M} (hv : ∀ i ∈ is, i ∈ vs) : ∀ σ H Q, tL K (mLc mi vs tgt tt te) σ H Q → tLc (tI K mi) (tG K is tgt) (tMB K tt) (tM K te) vs σ H Q := fun σ H Q ⟨as, ρ, S, ds, S', R, E, e, k⟩ => by
  obtain ⟨⟨xs, S1⟩, e1, e⟩ := Option.bind_eq_some_iff.mp e
  obtain ⟨S2, e2, e⟩ := Option.bind_eq_some_iff.mp e
  obtain ⟨ds2, e3, e⟩ := Option.bind_eq_some_iff.mp e
  cases e
  dsimp only at e2 e3 k
  refine ⟨as, ρ, S, xs, S1, R, E, e1, fun J H1 R1 E1 it D hD => ?_⟩
  obtain ⟨R0, X0⟩ := R1.grow (vs := []) (ds := []) hD .nil
  exact lc_loop (it.ext X0) R0 ((E.ext E1).ext X0) (by rw [← R1.len]; simp) e2 hv fun H' R3 X1 => lc_end R1 E1 e3 R3 (X0.trans X1) k
/-- two clauses -/
def lc2Go (n : Nat) (tgt : TgD) (tt : MB) (mi1 : ML) (vs1 : List Nat) (tgt1 : TgD) (tt1 : MB) (te : M) (ρ : RE) : List PyData → Sto → Option Sto
  | [], S => some S
  | x :: xs, S => (tgt x ρ).bind fun ρ1 => (tt ρ1 S).bind fun b => if b.1 = true then (mi1 ρ1 b.2).bind fun p => (lcGo n tgt1 tt1 te (wipeR ρ1 vs1) p.1 p.2).bind fun S' => lc2Go n tgt tt mi1 vs1 tgt1 tt1 te ρ xs S'
    else lc2Go n tgt tt mi1 vs1 tgt1 tt1 te ρ xs b.2
def mLc2 (mi : ML) (vs : List Nat) (tgt : TgD) (tt : MB) (mi1 : ML) (vs1 : List Nat) (tgt1 : TgD) (tt1 : MB) (te : M) : ML := fun ρ S => (mi ρ S).bind fun p => (lc2Go p.2.length tgt tt mi1 vs1 tgt1 tt1 te (wipeR ρ vs) p.1 (p.2 ++ [.l []])).bind fun S' =>
  (lAt S' p.2.length).bind fun ds => some (ds, S'.take p.2.length)
theorem lc2_D {K : Fg} {mi mi1 : ML} {vs is vs1 is1 : List Nat} {tgt tgt1 : TgD} {tt tt1 : MB} {te : M} (hv : ∀ i ∈ is, i ∈ vs) (hv1 : ∀ i ∈ is1, i ∈ vs1) :
    ∀ σ H Q, tL K (mLc2 mi vs tgt tt mi1 vs1 tgt1 tt1 te) σ H Q → tLc2 (tI K mi) (tG K is tgt) (tMB K tt) (tI K mi1) (tG K is1 tgt1) (tMB K tt1) (tM K te) vs vs1 σ H Q := fun σ H Q ⟨as, ρ, S, ds, S', R, E, e, k⟩ => by
  obtain ⟨⟨xs, S1⟩, e1, e⟩ := Option.bind_eq_some_iff.mp e
  obtain ⟨S2, e2, e⟩ := Option.bind_eq_some_iff.mp e
  obtain ⟨ds2, e3, e⟩ := Option.bind_eq_some_iff.mp e
  cases e
  dsimp only at e2 e3 k
  refine ⟨as, ρ, S, xs, S1, R, E, e1, fun J H1 R1 E1 it D hD => ?_⟩
  obtain ⟨R0, X0⟩ := R1.grow (vs := []) (ds := []) hD .nil
  have EE := (E.ext E1).ext X0
  have it0 := it.ext X0
  have hn : (as ++ [D])[S1.length]? = some D := by rw [← R1.len]; simp
  refine ⟨fun i m H' => m = xs.length - i ∧ i ≤ xs.length ∧ ∃ S3, Ext (as ++ [D]) (upd H1 D (.lst [])) (as ++ [D]) H' ∧ Rel K (as ++ [D]) S3 H' ∧ lc2Go S1.length tgt tt mi1 vs1 tgt1 tt1 te (wipeR ρ vs) (xs.drop i) S3 = some S2, ⟨xs.length, by omega, Nat.zero_le _, S1 ++ [Cell.l []], .refl, R0, e2⟩, ?_⟩
  rintro i m H' ⟨hm, hi, S3, X1, R3, e4⟩
  by_cases hlt : i < xs.length
  · refine .inr ⟨it0.go _ H' X1 i xs[i] (List.getElem?_eq_getElem hlt), fun H2 => ∃ S4, Ext (as ++ [D]) (upd H1 D (.lst [])) (as ++ [D]) H2 ∧ Rel K (as ++ [D]) S4 H2 ∧ lc2Go S1.length tgt tt mi1 vs1 tgt1 tt1 te (wipeR ρ vs) (xs.drop (i + 1)) S4 = some S2,
      fun H2 z => ⟨xs.length - (i + 1), by omega, rfl, hlt, z⟩, fun x H2 y => ?_⟩
    obtain ⟨gr, hx⟩ := it0.yld _ S3 H' X1 R3 i xs[i] (List.getElem?_eq_getElem hlt) x H2 y
    obtain ⟨R4, X2⟩ := R3.grw gr
    rw [drop_cons hlt] at e4
    obtain ⟨ρ3, e5, e4⟩ := Option.bind_eq_some_iff.mp e4
    obtain ⟨⟨b, S5⟩, e6, e4⟩ := Option.bind_eq_some_iff.mp e4
    refine ⟨as ++ [D], wipeR ρ vs, xs[i], ρ3, (EE.ext (X1.trans X2)).wiped vs, hx, e5, fun σ3 E3 A3 => ⟨wipe_ww A3 hv, as ++ [D], ρ3, S3, b, S5, R4, E3, e6, fun H5 R5 X5 => ?_⟩⟩
    dsimp only at e4 ⊢
    split
    · rename_i hb
      rw [if_pos hb] at e4
      obtain ⟨⟨ys, S6⟩, e7, e4⟩ := Option.bind_eq_some_iff.mp e4
      obtain ⟨S7, e8, e4⟩ := Option.bind_eq_some_iff.mp e4
      refine ⟨as ++ [D], ρ3, S5, ys, S6, R5, E3.ext X5, e7, fun J1 H6 R6 X6 it1 => ?_⟩
      exact lc_loop it1 R6 (E3.ext (X5.trans X6)) hn e8 hv1 fun H7 R7 X7 => ⟨S7, (X1.trans X2).trans (X5.trans (X6.trans X7)), R7, e4⟩
    · rename_i hb
      rw [if_neg hb] at e4
      exact ⟨S5, (X1.trans X2).trans X5, R5, e4⟩
  · have he : i = xs.length := by omega
    subst he
    rw [List.drop_length] at e4
    cases e4
    exact .inl ⟨it0.stop _ H' X1, lc_end R1 E1 e3 R3 (X0.trans X1) k⟩
section
variable {X : Cx} {elt tg iter : Expr} {ifs : List Expr} {scope : Scope} {own : List (Str × Nat)} {pos : Pos} {mi : ML} {is vs : List Nat} {tgt : TgD} {tt : MB} {te : M}
/-- [elt for tg in iter if ..] -/
theorem dl_lc (hc : X.calm = true) (hN : X.N.Nodup) (hi : DI X tg iter mi) (ok : BlkOk X.N X.env.scope scope own)
    (hg : ∀ (s : Shared) (H : Hp) (C : Addr) (cl : List (Str × Addr)) (fp : List Addr), DG (X.blk s H scope (compEnvC scope cl C X.env) fp) tg is tgt) (ht : ∀ (s : Shared) (H : Hp) (C : Addr) (cl : List (Str × Addr)) (fp : List Addr), DTs (X.blk s H scope (compEnvC scope cl C X.env) fp) ifs tt)
    (he : ∀ (s : Shared) (H : Hp) (C : Addr) (cl : List (Str × Addr)) (fp : List Addr), DE (X.blk s H scope (compEnvC scope cl C X.env) fp) elt te) (hv : (is.all fun i => vs.contains i) = true) (hs : ∀ x, foldedSetIterable iter X.env x = pure x := by intro _; rfl) (hvs : own.map (·.2) = vs := by rfl) :
    DLs X (.ListComp elt [⟨tg, iter, ifs, 0⟩] scope pos) (mLc mi vs tgt tt te) := by
  subst hvs
  exact pe_imp (pe_lc hc hN hi ok hg ht he hs) (lc_D fun i h => by simpa using List.all_eq_true.mp hv i h)
theorem set_L {K : Fg} {i : Nat} {m : ML} {t : TE} (h : ∀ σ H Q, tL K m σ H Q → t σ H Q) : ∀ D σ H, tS K (sSet i (mFz m)) D σ H → tAsg t (gName i) D σ H := fun D σ H ⟨as, ρ, S, o, R, E, e, k⟩ => by
  obtain ⟨⟨v, S1⟩, e1, e⟩ := Option.bind_eq_some_iff.mp e
  obtain ⟨⟨ds, S2⟩, e2, e1⟩ := Option.bind_eq_some_iff.mp e1
  cases e1
  cases e
  refine h σ H _ ⟨as, ρ, S, ds, S2, R, E, e2, fun p H1 vs R1 E1 hp hd => ?_⟩
  obtain ⟨R2, E2⟩ := R1.laid (o := .lst vs) hp
  exact k as _ _ (E1.trans E2) R2 ((E.ext (E1.trans E2)).set i (.lst (SqL.of (hide_some (R1.free hp) upd_same)) (dpAll_mono E2.same _ _ hd)))
end
section
variable {X : Cx} {elt tg iter tg1 iter1 : Expr} {ifs ifs1 : List Expr} {scope : Scope} {own : List (Str × Nat)} {pos : Pos} {mi mi1 : ML} {is is1 vs vs1 : List Nat} {tgt tgt1 : TgD} {tt tt1 : MB} {te : M}
end

/-! ### a def from its body -/
def finV (n : Nat) (v : PV) (S : Sto) : Option (PV × Sto) := match v with
  | .d x => some (.d x, S.take n)
  | .f _ => none
  | .c i => if i < n then some (.c i, S.take n) else (lAt S i).map fun ds => (.d (.list ds), S.take n)
def runF (N : Nat) (g : MS) : FV := fun ps S => (g (ps.map some ++ List.replicate (N - ps.length) none) S).bind fun o => match o with
  | .rt v S' => finV S.length v S'
  | .rl ds S' => some (.d (.list ds), S'.take S.length)
  | .nx _ S' => some (.d .none, S'.take S.length)
  | _ => none
def runL (N : Nat) (g : MS) : FL := fun ps S => (g (ps.map some ++ List.replicate (N - ps.length) none) S).bind fun o => match o with
  | .rl ds S' => some (ds, S'.take S.length)
  | _ => none
theorem start_er {K : Fg} {as : List Addr} {H : Hp} {N : List Str} {vs : List V} {ps : List PV} (h : Paired (VR K as H) vs ps) (ht : ∀ t ∈ Tabs.l, TabX H t) : ER K as H (L2.start N vs) (ps.map some ++ List.replicate (N.length - ps.length) none) := by
  have hl := paired_len h
  refine ⟨by unfold L2.start; simp [hl], fun i p e => ?_, ht⟩
  by_cases hi : i < ps.length
  · rw [List.getElem?_append_left (by simpa using hi), List.getElem?_map, List.getElem?_eq_getElem hi] at e
    have e2 : ps[i] = p := by simpa using e
    have hv : i < vs.length := by omega
    refine ⟨vs[i], ?_, ?_⟩
    · unfold L2.start
      rw [List.getElem?_append_left (by simpa using hv), List.getElem?_map, List.getElem?_eq_getElem hv]
      rfl
    · rw [← e2]
      exact paired_at h hv hi
  · rw [List.getElem?_append_right (by simpa using hi), List.getElem?_replicate] at e
    split at e <;> cases e
where
  paired_at {K : Fg} {as : List Addr} {H : Hp} : ∀ {vs : List V} {ps : List PV} {i : Nat}, Paired (VR K as H) vs ps → (h1 : i < vs.length) → (h2 : i < ps.length) → VR K as H vs[i] ps[i]
    | _, _, _, .nil, h1, _ => absurd h1 (by simp)
    | _, _, 0, .cons a _, _, _ => a
    | _, _, i + 1, .cons _ b, h1, h2 => paired_at b (by simpa using h1) (by simpa using h2)
theorem Ext.back {as as1 : List Addr} {H H1 : Hp} (e : Ext as H as1 H1) : Ext as H as H1 := ⟨⟨[], by simp⟩, fun b z nz => absurd z nz, e.keep, e.tab, e.there, e.kind, e.lock⟩
theorem same_hide_sub {as as2 : List Addr} {H : Hp} : Same (hide (as ++ as2) H) (hide as H) := fun a o h => by
  obtain ⟨na, h, ht⟩ := hide_of3 h
  exact hide_some (fun z => na (List.mem_append_left _ z)) h ht
theorem body_F {K : Fg} {N : List Str} {g : MS} {vs : List V} {H : Hp} {Q : VK} {E : XK} {n : Nat} (h : spF K n (runF N.length g) vs H Q E) : tS K g { nx := fun _ H' => Q .non H', rt := Q } (L2.start N vs) H := by
  obtain ⟨_, ht, as, S, ps, v, S', R, V, e, k⟩ := h
  obtain ⟨o, e1, e⟩ := Option.bind_eq_some_iff.mp e
  refine ⟨as, _, S, o, R, start_er V ht, e1, ?_⟩
  cases o with
  | nx ρ' S1 =>
    cases e
    rintro as' σ' H' X1 R1 E1
    obtain ⟨bs, rfl⟩ := X1.pre
    have z := R1.take rfl
    rw [R.len] at z
    exact k _ _ z X1.back .non
  | bk ρ' S1 => cases e
  | ct ρ' S1 => cases e
  | rl ds S1 =>
    cases e
    rintro as' p H' ws X1 R1 hp hd
    obtain ⟨bs, rfl⟩ := X1.pre
    obtain ⟨R2, X2⟩ := R1.laid (o := .lst ws) hp
    have z := R2.take rfl
    rw [R.len] at z
    have np : p ∉ as := fun w => R1.free hp (List.mem_append_left _ w)
    refine k _ _ z (X1.trans X2).back (.lst (SqL.of (hide_some np upd_same)) (dpAll_mono (fun a o q => ?_) _ _ hd))
    exact same_hide_sub _ _ (X2.same _ _ q)
  | rt w S1 =>
    rintro as' u H' X1 R1 V1
    obtain ⟨bs, rfl⟩ := X1.pre
    have z := R1.take rfl
    rw [R.len] at z
    cases w with
    | d x =>
      cases e
      exact k _ _ z X1.back (dp_mono same_hide_sub _ _ V1)
    | f _ => first | rfl | exact h | (cases e; done) | (cases e1; done) | (cases e2; done) | (cases e3; done) | (cases e4; done) | (cases e5; done) | (cases e6; done) | (cases h; done) | (cases h1; done) | (cases h2; done) | (cases h3; done) | (cases b; done) | (cases q; done) | exact h.elim | exact g.elim | exact r.elim | exact r.1.elim | exact r1.elim | exact r2.elim | exact z.elim | exact h1.elim | contradiction | (cases y <;> rfl) | (cases x <;> rfl) | (cases q <;> rfl) | (cases a <;> rfl) | exact L _ _ | exact L _ | (simp_all; done)
    | c i =>
      obtain ⟨a, q, rfl⟩ := V1
      unfold finV at e
      dsimp only at e
      split at e
      · rename_i hi
        cases e
        rw [← R.len] at hi
        rw [List.getElem?_append_left hi] at q
        exact k _ _ z X1.back ⟨a, q, rfl⟩
      · rename_i hi
        obtain ⟨ds, e2, e⟩ := Option.map_eq_some_iff.mp e
        cases e
        obtain ⟨ws, h1, h2⟩ := R1.at_ i a ds q e2
        have na : a ∉ as := fun w => by
          obtain ⟨j, hj, e3⟩ := List.getElem_of_mem w
          have q2 : (as ++ bs)[j]? = some a := by rw [List.getElem?_append_left hj, List.getElem?_eq_getElem hj, e3]
          have := nd_ix R1.nd q2 q
          rw [R.len] at hj
          omega
        exact k _ _ z X1.back (.lst (SqL.of (hide_some na h1)) (dpAll_mono same_hide_sub _ _ h2))
theorem body_L {K : Fg} {N : List Str} {g : MS} {vs : List V} {H : Hp} {Q : VK} {E : XK} {n : Nat} (h : spL K n (runL N.length g) vs H Q E) : tS K g { nx := fun _ H' => Q .non H', rt := Q } (L2.start N vs) H := by
  obtain ⟨_, ht, as, S, ps, v, S', R, V, e, k⟩ := h
  obtain ⟨o, e1, e⟩ := Option.bind_eq_some_iff.mp e
  refine ⟨as, _, S, o, R, start_er V ht, e1, ?_⟩
  cases o with
  | nx ρ' S1 => cases e
  | bk ρ' S1 => cases e
  | ct ρ' S1 => cases e
  | rt ρ' S1 => cases e
  | rl ds S1 =>
    cases e
    rintro as' p H' ws X1 R1 hp hd
    obtain ⟨bs, rfl⟩ := X1.pre
    have z := R1.take rfl
    rw [R.len] at z
    exact k p H' ws z X1.back hp (dpAll_mono same_hide_sub _ _ hd)
section
variable {P : Program} {w : World} {K : Fg} {mg : Str → Option Value} {base : Heap}
end
end DL

namespace DL
open PySem PySem.Spec PyProof.Rows L2 DK
variable [Nms] [Tabs]

/-! ### the law's own call, from its data promise -/
/-- a heap in which the script alone is tracked (or nothing, where the script is one of the module's own lists) -/
theorem script_heap {P : Program} {w : World} {K : Fg} {s1 : Shared} {a : Addr} {vs : List Value} {ns : List Int} (kin : K.In s1.heap) (ha : s1.heap.get? a = some { cls := .type "list", data := .seq vs.toArray }) (hi : IntsAre vs ns) (hl : ns.length ≤ sizeLine) :
    ∃ H : Hp, Only H ∧ SqL K H a (ns.map V.int) ∧ HOk P w H s1.heap ∧ (∀ b, H b ≠ none → b = a) ∧ (H a ≠ none → K.lookup a = none) := by
  have rel := vals_ints hi
  have len := hi.length
  cases hk : K.lookup a with
  | some o =>
    have same := kin a o hk
    rw [ha] at same
    cases same
    exact ⟨fun _ => none, fun _ => .inl rfl, .inr ⟨_, vs.toArray, _, hk, rfl, rfl, rfl, by rw [List.size_toArray, len]; exact hl, by simpa using rel⟩, fun b u z => (absurd z (by simp)), fun b z => absurd rfl z, fun z => absurd rfl z⟩
  | none =>
    let ob : Obj := { cls := .type "list", data := .seq vs.toArray }
    refine ⟨fun b => if b = a then some (.frz ob (.lst (ns.map V.int))) else none, fun b => ?_, .inl (.inr ⟨ob, if_pos rfl⟩), fun b u z => ?_, fun b z => ?_, fun _ => rfl⟩
    · by_cases e : b = a
      · exact .inr ⟨ob, _, if_pos e⟩
      · exact .inl (if_neg e)
    · by_cases e : b = a
      · subst e
        dsimp only at z
        rw [if_pos rfl] at z
        cases z
        exact ⟨ha, by rw [List.length_map]; exact hl, vs, _, rel, ha⟩
      · dsimp only at z
        rw [if_neg e] at z
        cases z
    · by_cases e : b = a
      · exact e
      · exact absurd (if_neg e) z
end DL

namespace DL
open PySem PySem.Spec PyProof.Rows L2 DK
variable [Nms] [Tabs]

/-! ### tuples of ints by their order -/
def fLtT : PV → PV → Sto → Option PV := fun x y _ => match x, y with
  | .d (.tuple xs), .d (.tuple ys) => (intsOf xs).bind fun a => (intsOf ys).bind fun b => some (.d (.bool (HT.lexLt a b)))
  | _, _ => none
section
variable {X : Cx} {a b : Expr} {ma mb : M} {pos : Pos} {k : Nat}
end

/-! ### truth -/
def truD : PyData → Option Bool
  | .none => some false
  | .bool b => some b
  | .int i => some (i != 0)
  | .str z => if z.length ≤ 1000000 then some ((z.length : Int) != 0) else none
  | .list xs => some (!xs.isEmpty)
  | .tuple xs => some (!xs.isEmpty)
  | .dict _ => none
def bTru (m : M) : MB := fun ρ S => (m ρ S).bind fun p => (asD p.2 p.1).bind fun d => (truD d).bind fun b => some (b, p.2)
theorem isEmpty_dp {K : Fg} {H : Hp} {vs : List V} {ds : List PyData} (h : DpAll K H vs ds) : (!ds.isEmpty) = !vs.isEmpty := by
  cases h <;> rfl
theorem tru_dp {K : Fg} {H : Hp} {u : V} {d : PyData} {b : Bool} (h : Dp K H u d) (e : truD d = some b) : TruV K u H b := by
  cases h with
  | non => cases e; rfl
  | bl x => cases e; rfl
  | int i => cases e; rfl
  | str z =>
    unfold truD at e
    dsimp only at e
    split at e
    · rename_i hz
      cases e
      exact ⟨million hz, rfl⟩
    · cases e
  | lst s a =>
    cases e
    exact .inl ⟨_, s, isEmpty_dp a⟩
  | tup s a =>
    cases e
    exact .inr (.inl ⟨_, s, isEmpty_dp a⟩)
theorem db_tru {X : Cx} {a : Expr} {m : M} (ha : DE X a m) (he : ∀ whole, isTrue a X.env whole = (do let v ← whole; standAt a.pos; holding [v] (truthy v)) := by intro _; rfl) : DB X a (bTru m) :=
  pt_imp (pt_truth ha he) fun σ H Q ⟨as, ρ, S, b, S', R, E, e, k⟩ => by
    obtain ⟨⟨x, S1⟩, e1, e⟩ := Option.bind_eq_some_iff.mp e
    obtain ⟨d, e2, e⟩ := Option.bind_eq_some_iff.mp e
    obtain ⟨b2, e3, e⟩ := Option.bind_eq_some_iff.mp e
    cases e
    exact ⟨as, ρ, S, x, S1, R, E, e1, fun u H1 R1 E1 V1 => ⟨_, tru_dp (asD_dp R1 V1 e2) e3, k H1 R1 E1⟩⟩

/-! ### list(range(..)) -/
theorem rgV_dp {K : Fg} {H : Hp} (a b : Int) : DpAll K H (rgV a b) (rangeD a (b - a).toNat) := by
  unfold rgV rangeD
  induction (List.range (b - a).toNat) with
  | nil => exact .nil
  | cons x r ih => exact .cons (.int _) ih
section
variable {X : Cx} {pos p p2 q2 : Pos} {a b : Expr} {m n : M}
end
end DL

namespace DL
open PySem PySem.Spec PyProof.Rows L2 DK
/-- where nothing else is told: no tables -/
instance (priority := low) noTabs : Tabs := ⟨[]⟩
instance (priority := low) noNms : Nms := ⟨fun _ _ => none, fun _ => none⟩
/-- as many turns as the number in a slot tells, and two -/
def fuelAt (i : Nat) : RE → Sto → Nat := fun ρ _ => match ρ[i]? with
  | some (some (.d (.int x))) => x.natAbs + 2
  | _ => 0
end DL

namespace DL
open PySem PySem.Spec PyProof.Rows L2 DK

/-! ### what stands ahead in the store changes nothing -/
def shV (n : Nat) : PV → PV
  | .d x => .d x
  | .c j => .c (n + j)
  | .f k => .f k
def shR (n : Nat) (ρ : RE) : RE := ρ.map (Option.map (shV n))
def shO (S : Sto) : Out → Out
  | .nx ρ T => .nx (shR S.length ρ) (S ++ T)
  | .bk ρ T => .bk (shR S.length ρ) (S ++ T)
  | .ct ρ T => .ct (shR S.length ρ) (S ++ T)
  | .rt v T => .rt (shV S.length v) (S ++ T)
  | .rl v T => .rl v (S ++ T)
class FrM (m : M) : Prop where
  fr : ∀ ρ S T, m (shR S.length ρ) (S ++ T) = (m ρ T).map fun r => (shV S.length r.1, S ++ r.2)
class FrB (m : MB) : Prop where
  fr : ∀ ρ S T, m (shR S.length ρ) (S ++ T) = (m ρ T).map fun r => (r.1, S ++ r.2)
class FrA (m : MA) : Prop where
  fr : ∀ ρ S T, m (shR S.length ρ) (S ++ T) = (m ρ T).map fun r => (r.1.map (shV S.length), S ++ r.2)
class FrL (m : ML) : Prop where
  fr : ∀ ρ S T, m (shR S.length ρ) (S ++ T) = (m ρ T).map fun r => (r.1, S ++ r.2)
class FrO (m : MO) : Prop where
  fr : ∀ ρ S T, m (shR S.length ρ) (S ++ T) = (m ρ T).map fun r => (r.1, S ++ r.2)
class FrS (m : MS) : Prop where
  fr : ∀ ρ S T, m (shR S.length ρ) (S ++ T) = (m ρ T).map (shO S)
class FrT (t : TgD) : Prop where
  fr : ∀ d ρ n, t d (shR n ρ) = (t d ρ).map (shR n)
class FrTs (t : TgDs) : Prop where
  fr : ∀ d ρ n, t d (shR n ρ) = (t d ρ).map (shR n)
class FrOp (f : PV → PV → Sto → Option PV) : Prop where
  fr : ∀ x y S T, f (shV S.length x) (shV S.length y) (S ++ T) = (f x y T).map (shV S.length)
class FrOpL (f : PV → PV → Sto → Option (List PyData)) : Prop where
  fr : ∀ x y S T, f (shV S.length x) (shV S.length y) (S ++ T) = f x y T
class FrC (f : List PV → Sto → Option PV) : Prop where
  fr : ∀ xs S T, f (xs.map (shV S.length)) (S ++ T) = (f xs T).map (shV S.length)
class FrCL (f : List PV → Sto → Option (List PyData)) : Prop where
  fr : ∀ xs S T, f (xs.map (shV S.length)) (S ++ T) = f xs T
class FrF (F : FV) : Prop where
  fr : ∀ xs S T, F (xs.map (shV S.length)) (S ++ T) = (F xs T).map fun r => (shV S.length r.1, S ++ r.2)
class FrFL (F : FL) : Prop where
  fr : ∀ xs S T, F (xs.map (shV S.length)) (S ++ T) = (F xs T).map fun r => (r.1, S ++ r.2)

theorem sh_get (ρ : RE) (n i : Nat) : (shR n ρ)[i]? = (ρ[i]?).map (Option.map (shV n)) := by unfold shR; rw [List.getElem?_map]
theorem sh_set (ρ : RE) (n i : Nat) (p : PV) : (shR n ρ).set i (some (shV n p)) = shR n (ρ.set i (some p)) := by unfold shR; rw [List.map_set]; rfl
theorem sh_setd (ρ : RE) (n i : Nat) (d : PyData) : (shR n ρ).set i (some (.d d)) = shR n (ρ.set i (some (.d d))) := sh_set ρ n i (.d d)
theorem sto_get (S T : Sto) (j : Nat) : (S ++ T)[S.length + j]? = T[j]? := by rw [List.getElem?_append_right (Nat.le_add_right _ _), Nat.add_sub_cancel_left]
theorem lAt_sh (S T : Sto) (j : Nat) : lAt (S ++ T) (S.length + j) = lAt T j := by
  unfold lAt
  rw [sto_get]
theorem dAt_sh (S T : Sto) (j : Nat) : dAt (S ++ T) (S.length + j) = dAt T j := by
  unfold dAt
  rw [sto_get]
theorem dAtW_sh (S T : Sto) (j : Nat) : dAtW (S ++ T) (S.length + j) = dAtW T j := by
  unfold dAtW
  rw [sto_get]
theorem sto_set (S T : Sto) (j : Nat) (x : Cell) : (S ++ T).set (S.length + j) x = S ++ T.set j x := by rw [List.set_append_right _ _ (Nat.le_add_right _ _), Nat.add_sub_cancel_left]
theorem sh_asD (S T : Sto) (x : PV) : asD (S ++ T) (shV S.length x) = asD T x := by
  cases x with
  | d y => rfl
  | f _ => first | rfl | exact h | (cases e; done) | (cases e1; done) | (cases e2; done) | (cases e3; done) | (cases e4; done) | (cases e5; done) | (cases e6; done) | (cases h; done) | (cases h1; done) | (cases h2; done) | (cases h3; done) | (cases b; done) | (cases q; done) | exact h.elim | exact g.elim | exact r.elim | exact r.1.elim | exact r1.elim | exact r2.elim | exact z.elim | exact h1.elim | contradiction | (cases y <;> rfl) | (cases x <;> rfl) | (cases q <;> rfl) | (cases a <;> rfl) | exact L _ _ | exact L _ | (simp_all; done)
  | c j => show (lAt (S ++ T) (S.length + j)).map _ = _; rw [lAt_sh]; rfl
theorem sh_items (S T : Sto) (x : PV) : itemsOf (S ++ T) (shV S.length x) = itemsOf T x := by
  cases x with
  | d y => cases y <;> rfl
  | f _ => first | rfl | exact h | (cases e; done) | (cases e1; done) | (cases e2; done) | (cases e3; done) | (cases e4; done) | (cases e5; done) | (cases e6; done) | (cases h; done) | (cases h1; done) | (cases h2; done) | (cases h3; done) | (cases b; done) | (cases q; done) | exact h.elim | exact g.elim | exact r.elim | exact r.1.elim | exact r1.elim | exact r2.elim | exact z.elim | exact h1.elim | contradiction | (cases y <;> rfl) | (cases x <;> rfl) | (cases q <;> rfl) | (cases a <;> rfl) | exact L _ _ | exact L _ | (simp_all; done)
  | c j => show lAt (S ++ T) (S.length + j) = _; rw [lAt_sh]; rfl

instance (i : Nat) : FrM (mVar i) := ⟨fun ρ S T => by
  unfold mVar
  rw [sh_get]
  cases h : ρ[i]? with
  | none => rfl
  | some o => cases o <;> rfl⟩
instance (x : PyData) : FrM (mC x) := ⟨fun ρ S T => rfl⟩
instance : FrA mNil := ⟨fun ρ S T => rfl⟩
instance (m : M) (ms : MA) [FrM m] [FrA ms] : FrA (mCons m ms) := ⟨fun ρ S T => by
  unfold mCons
  rw [FrM.fr (m := m)]
  cases h : m ρ T with
  | none => rfl
  | some r =>
    show (ms (shR S.length ρ) (S ++ r.2)).bind _ = _
    rw [FrA.fr (m := ms)]
    cases h2 : ms ρ r.2 with
    | none => simp [h2]
    | some q => simp [h2]⟩
theorem datas_sh (n : Nat) : ∀ vs : List PV, datas (vs.map (shV n)) = datas vs
  | [] => rfl
  | .d x :: r => by show (datas (r.map (shV n))).bind _ = _; rw [datas_sh n r]; rfl
  | .f _ :: _ => rfl
  | .c _ :: _ => rfl
instance (m : MA) [FrA m] : FrM (mTup m) := ⟨fun ρ S T => by
  unfold mTup
  rw [FrA.fr (m := m)]
  cases h : m ρ T with
  | none => rfl
  | some r =>
    show (datas (r.1.map _)).bind _ = Option.map _ ((datas r.1).bind _)
    rw [datas_sh]
    cases datas r.1 with
    | none => rfl
    | some ds => dsimp; split <;> rfl⟩
instance (m : MA) [FrA m] : FrL (mLst m) := ⟨fun ρ S T => by
  unfold mLst
  rw [FrA.fr (m := m)]
  cases h : m ρ T with
  | none => rfl
  | some r =>
    show (datas (r.1.map _)).bind _ = Option.map _ ((datas r.1).bind _)
    rw [datas_sh]
    cases datas r.1 with
    | none => rfl
    | some ds => dsimp; split <;> rfl⟩
instance (m : ML) [FrL m] : FrM (mFz m) := ⟨fun ρ S T => by
  unfold mFz
  rw [FrL.fr (m := m)]
  cases h : m ρ T <;> rfl⟩
instance (f : PV → PV → Sto → Option PV) (a b : M) [FrOp f] [FrM a] [FrM b] : FrM (mOp f a b) := ⟨fun ρ S T => by
  unfold mOp
  rw [FrM.fr (m := a)]
  cases h : a ρ T with
  | none => rfl
  | some r =>
    show (b (shR S.length ρ) (S ++ r.2)).bind _ = _
    rw [FrM.fr (m := b)]
    cases h2 : b ρ r.2 with
    | none => simp [h2]
    | some q =>
      show ((f (shV S.length r.1) (shV S.length q.1) (S ++ q.2)).bind _) = _
      rw [FrOp.fr (f := f)]
      simp only [Option.bind_some, h2]
      cases f r.1 q.1 q.2 <;> rfl⟩
instance (f : PV → PV → Sto → Option (List PyData)) (a b : M) [FrOpL f] [FrM a] [FrM b] : FrL (mOpL f a b) := ⟨fun ρ S T => by
  unfold mOpL
  rw [FrM.fr (m := a)]
  cases h : a ρ T with
  | none => rfl
  | some r =>
    show (b (shR S.length ρ) (S ++ r.2)).bind _ = _
    rw [FrM.fr (m := b)]
    cases h2 : b ρ r.2 with
    | none => simp [h2]
    | some q =>
      show ((f (shV S.length r.1) (shV S.length q.1) (S ++ q.2)).bind _) = _
      rw [FrOpL.fr (f := f)]
      simp only [Option.bind_some, h2]
      cases f r.1 q.1 q.2 <;> rfl⟩
instance (g : Int → Int → PyData) : FrOp (fI0 g) := ⟨fun x y S T => by
  cases x with
  | f _ => first | rfl | exact h | (cases e; done) | (cases e1; done) | (cases e2; done) | (cases e3; done) | (cases e4; done) | (cases e5; done) | (cases e6; done) | (cases h; done) | (cases h1; done) | (cases h2; done) | (cases h3; done) | (cases b; done) | (cases q; done) | exact h.elim | exact g.elim | exact r.elim | exact r.1.elim | exact r1.elim | exact r2.elim | exact z.elim | exact h1.elim | contradiction | (cases y <;> rfl) | (cases x <;> rfl) | (cases q <;> rfl) | (cases a <;> rfl) | exact L _ _ | exact L _ | (simp_all; done)
  | c j => cases y <;> rfl
  | d x =>
    cases y with
    | f _ => first | rfl | exact h | (cases e; done) | (cases e1; done) | (cases e2; done) | (cases e3; done) | (cases e4; done) | (cases e5; done) | (cases e6; done) | (cases h; done) | (cases h1; done) | (cases h2; done) | (cases h3; done) | (cases b; done) | (cases q; done) | exact h.elim | exact g.elim | exact r.elim | exact r.1.elim | exact r1.elim | exact r2.elim | exact z.elim | exact h1.elim | contradiction | (cases y <;> rfl) | (cases x <;> rfl) | (cases q <;> rfl) | (cases a <;> rfl) | exact L _ _ | exact L _ | (simp_all; done)
    | c j => cases x <;> rfl
    | d y => cases x <;> first | rfl | (cases y <;> rfl)⟩
instance (c : Int → Int → Bool) (g : Int → Int → PyData) : FrOp (fIc c g) := ⟨fun x y S T => by
  cases x with
  | f _ => first | rfl | exact h | (cases e; done) | (cases e1; done) | (cases e2; done) | (cases e3; done) | (cases e4; done) | (cases e5; done) | (cases e6; done) | (cases h; done) | (cases h1; done) | (cases h2; done) | (cases h3; done) | (cases b; done) | (cases q; done) | exact h.elim | exact g.elim | exact r.elim | exact r.1.elim | exact r1.elim | exact r2.elim | exact z.elim | exact h1.elim | contradiction | (cases y <;> rfl) | (cases x <;> rfl) | (cases q <;> rfl) | (cases a <;> rfl) | exact L _ _ | exact L _ | (simp_all; done)
  | c j => cases y <;> rfl
  | d x =>
    cases y with
    | f _ => first | rfl | exact h | (cases e; done) | (cases e1; done) | (cases e2; done) | (cases e3; done) | (cases e4; done) | (cases e5; done) | (cases e6; done) | (cases h; done) | (cases h1; done) | (cases h2; done) | (cases h3; done) | (cases b; done) | (cases q; done) | exact h.elim | exact g.elim | exact r.elim | exact r.1.elim | exact r1.elim | exact r2.elim | exact z.elim | exact h1.elim | contradiction | (cases y <;> rfl) | (cases x <;> rfl) | (cases q <;> rfl) | (cases a <;> rfl) | exact L _ _ | exact L _ | (simp_all; done)
    | c j => cases x <;> rfl
    | d y =>
      cases x <;> first | rfl | (cases y <;> first | rfl | (unfold fIc; dsimp only [shV]; split <;> rfl))⟩
instance : FrOp fMul := inferInstanceAs (FrOp (fIc mulOk fun i j => .int (i * j)))
instance : FrOp fEq := ⟨fun x y S T => by
  unfold fEq
  rw [sh_asD, sh_asD]
  cases asD T x with
  | none => rfl
  | some a =>
    cases asD T y with
    | none => rfl
    | some b => dsimp; split <;> rfl⟩
instance : FrOp fNe := ⟨fun x y S T => by
  unfold fNe
  rw [sh_asD, sh_asD]
  cases asD T x with
  | none => rfl
  | some a =>
    cases asD T y with
    | none => rfl
    | some b => dsimp; split <;> rfl⟩
instance : FrOpL fCatL := ⟨fun x y S T => by
  unfold fCatL
  rw [sh_asD, sh_asD]⟩
theorem map_shV_list (n : Nat) (o : Option (List PyData)) : (o.map fun l => PV.d (.list l)).map (shV n) = o.map fun l => PV.d (.list l) := by cases o <;> rfl
instance : FrOp fAdd := ⟨fun x y S T => by
  have L : ∀ x y : PV, ((fCatL (shV S.length x) (shV S.length y) (S ++ T)).map fun l => PV.d (.list l)) = ((fCatL x y T).map fun l => PV.d (.list l)).map (shV S.length) := fun x y => by
    rw [FrOpL.fr (f := fCatL), map_shV_list]
  cases x with
  | f _ => first | rfl | exact h | (cases e; done) | (cases e1; done) | (cases e2; done) | (cases e3; done) | (cases e4; done) | (cases e5; done) | (cases e6; done) | (cases h; done) | (cases h1; done) | (cases h2; done) | (cases h3; done) | (cases b; done) | (cases q; done) | exact h.elim | exact g.elim | exact r.elim | exact r.1.elim | exact r1.elim | exact r2.elim | exact z.elim | exact h1.elim | contradiction | (cases y <;> rfl) | (cases x <;> rfl) | (cases q <;> rfl) | (cases a <;> rfl) | exact L _ _ | exact L _ | (simp_all; done)
  | c j => cases y with
    | f _ => first | rfl | exact h | (cases e; done) | (cases e1; done) | (cases e2; done) | (cases e3; done) | (cases e4; done) | (cases e5; done) | (cases e6; done) | (cases h; done) | (cases h1; done) | (cases h2; done) | (cases h3; done) | (cases b; done) | (cases q; done) | exact h.elim | exact g.elim | exact r.elim | exact r.1.elim | exact r1.elim | exact r2.elim | exact z.elim | exact h1.elim | contradiction | (cases y <;> rfl) | (cases x <;> rfl) | (cases q <;> rfl) | (cases a <;> rfl) | exact L _ _ | exact L _ | (simp_all; done)
    | c i => exact L (.c j) (.c i)
    | d y => exact L (.c j) (.d y)
  | d x =>
    cases y with
    | f _ => first | rfl | exact h | (cases e; done) | (cases e1; done) | (cases e2; done) | (cases e3; done) | (cases e4; done) | (cases e5; done) | (cases e6; done) | (cases h; done) | (cases h1; done) | (cases h2; done) | (cases h3; done) | (cases b; done) | (cases q; done) | exact h.elim | exact g.elim | exact r.elim | exact r.1.elim | exact r1.elim | exact r2.elim | exact z.elim | exact h1.elim | contradiction | (cases y <;> rfl) | (cases x <;> rfl) | (cases q <;> rfl) | (cases a <;> rfl) | exact L _ _ | exact L _ | (simp_all; done)
    | c j =>
      cases x with
      | none => exact L (.d .none) (.c j)
      | bool b => exact L (.d (.bool b)) (.c j)
      | int b => exact L (.d (.int b)) (.c j)
      | str b => exact L (.d (.str b)) (.c j)
      | list b => exact L (.d (.list b)) (.c j)
      | tuple b => exact L (.d (.tuple b)) (.c j)
      | dict b => exact L (.d (.dict b)) (.c j)
    | d y =>
      cases x <;> cases y <;> first
        | rfl
        | exact L (.d _) (.d _)
        | (unfold fAdd; dsimp only [shV]; split <;> rfl)⟩
instance : FrOp fLtT := ⟨fun x y S T => by
  cases x with
  | f _ => first | rfl | exact h | (cases e; done) | (cases e1; done) | (cases e2; done) | (cases e3; done) | (cases e4; done) | (cases e5; done) | (cases e6; done) | (cases h; done) | (cases h1; done) | (cases h2; done) | (cases h3; done) | (cases b; done) | (cases q; done) | exact h.elim | exact g.elim | exact r.elim | exact r.1.elim | exact r1.elim | exact r2.elim | exact z.elim | exact h1.elim | contradiction | (cases y <;> rfl) | (cases x <;> rfl) | (cases q <;> rfl) | (cases a <;> rfl) | exact L _ _ | exact L _ | (simp_all; done)
  | c j => cases y <;> rfl
  | d x =>
    cases y with
    | f _ => first | rfl | exact h | (cases e; done) | (cases e1; done) | (cases e2; done) | (cases e3; done) | (cases e4; done) | (cases e5; done) | (cases e6; done) | (cases h; done) | (cases h1; done) | (cases h2; done) | (cases h3; done) | (cases b; done) | (cases q; done) | exact h.elim | exact g.elim | exact r.elim | exact r.1.elim | exact r1.elim | exact r2.elim | exact z.elim | exact h1.elim | contradiction | (cases y <;> rfl) | (cases x <;> rfl) | (cases q <;> rfl) | (cases a <;> rfl) | exact L _ _ | exact L _ | (simp_all; done)
    | c j => cases x <;> rfl
    | d y =>
      cases x <;> first
        | rfl
        | (cases y <;> first
          | rfl
          | (unfold fLtT
             dsimp only [shV]
             generalize intsOf _ = o1
             generalize intsOf _ = o2
             cases o1 <;> cases o2 <;> rfl))⟩
instance : FrOp fIx := ⟨fun x y S T => by
  cases y with
  | f _ => first | rfl | exact h | (cases e; done) | (cases e1; done) | (cases e2; done) | (cases e3; done) | (cases e4; done) | (cases e5; done) | (cases e6; done) | (cases h; done) | (cases h1; done) | (cases h2; done) | (cases h3; done) | (cases b; done) | (cases q; done) | exact h.elim | exact g.elim | exact r.elim | exact r.1.elim | exact r1.elim | exact r2.elim | exact z.elim | exact h1.elim | contradiction | (cases y <;> rfl) | (cases x <;> rfl) | (cases q <;> rfl) | (cases a <;> rfl) | exact L _ _ | exact L _ | (simp_all; done)
  | c j => rfl
  | d y =>
    cases y with
    | int i =>
      have L : ∀ x : PV, ((itemsOf (S ++ T) (shV S.length x)).bind fun ds => (atI ds i).map PV.d) = ((itemsOf T x).bind fun ds => (atI ds i).map PV.d).map (shV S.length) := fun x => by
        rw [sh_items]
        cases itemsOf T x with
        | none => rfl
        | some ds =>
          show (atI ds i).map PV.d = ((atI ds i).map PV.d).map _
          cases atI ds i <;> rfl
      cases x with
      | f _ => first | rfl | exact h | (cases e; done) | (cases e1; done) | (cases e2; done) | (cases e3; done) | (cases e4; done) | (cases e5; done) | (cases e6; done) | (cases h; done) | (cases h1; done) | (cases h2; done) | (cases h3; done) | (cases b; done) | (cases q; done) | exact h.elim | exact g.elim | exact r.elim | exact r.1.elim | exact r1.elim | exact r2.elim | exact z.elim | exact h1.elim | contradiction | (cases y <;> rfl) | (cases x <;> rfl) | (cases q <;> rfl) | (cases a <;> rfl) | exact L _ _ | exact L _ | (simp_all; done)
      | c j => exact L (.c j)
      | d x =>
        cases x with
        | none => exact L (.d .none)
        | bool b => exact L (.d (.bool b))
        | int b => exact L (.d (.int b))
        | list b => exact L (.d (.list b))
        | tuple b => exact L (.d (.tuple b))
        | dict b => exact L (.d (.dict b))
        | str z =>
          unfold fIx
          dsimp only [shV]
          split
          · generalize atI _ i = o
            cases o <;> rfl
          · rfl
    | _ => rfl⟩
class FrU (f : PV → Option PV) : Prop where
  fr : ∀ n x, f (shV n x) = (f x).map (shV n)
instance : FrU fNeg := ⟨fun n x => by
  cases x with
  | f _ => first | rfl | exact h | (cases e; done) | (cases e1; done) | (cases e2; done) | (cases e3; done) | (cases e4; done) | (cases e5; done) | (cases e6; done) | (cases h; done) | (cases h1; done) | (cases h2; done) | (cases h3; done) | (cases b; done) | (cases q; done) | exact h.elim | exact g.elim | exact r.elim | exact r.1.elim | exact r1.elim | exact r2.elim | exact z.elim | exact h1.elim | contradiction | (cases y <;> rfl) | (cases x <;> rfl) | (cases q <;> rfl) | (cases a <;> rfl) | exact L _ _ | exact L _ | (simp_all; done)
  | c j => rfl
  | d x => cases x <;> rfl⟩
instance (f : PV → Option PV) (a : M) [FrM a] [FrU f] : FrM (mUn f a) := ⟨fun ρ S T => by
  unfold mUn
  rw [FrM.fr (m := a)]
  cases a ρ T with
  | none => rfl
  | some r =>
    show (f (shV S.length r.1)).bind _ = _
    rw [FrU.fr (f := f)]
    simp only [Option.bind_some]
    cases f r.1 <;> rfl⟩
/-! tests -/
instance (m : M) [FrM m] : FrB (asB m) := ⟨fun ρ S T => by
  unfold asB
  rw [FrM.fr (m := m)]
  cases m ρ T with
  | none => rfl
  | some r =>
    obtain ⟨v, T'⟩ := r
    cases v with
    | f _ => first | rfl | exact h | (cases e; done) | (cases e1; done) | (cases e2; done) | (cases e3; done) | (cases e4; done) | (cases e5; done) | (cases e6; done) | (cases h; done) | (cases h1; done) | (cases h2; done) | (cases h3; done) | (cases b; done) | (cases q; done) | exact h.elim | exact g.elim | exact r.elim | exact r.1.elim | exact r1.elim | exact r2.elim | exact z.elim | exact h1.elim | contradiction | (cases y <;> rfl) | (cases x <;> rfl) | (cases q <;> rfl) | (cases a <;> rfl) | exact L _ _ | exact L _ | (simp_all; done)
    | c j => rfl
    | d x => cases x <;> rfl⟩
instance (m : MB) [FrB m] : FrB (bNot m) := ⟨fun ρ S T => by
  unfold bNot
  rw [FrB.fr (m := m)]
  cases m ρ T <;> rfl⟩
instance : FrB bYes := ⟨fun ρ S T => rfl⟩
instance (a b : MB) [FrB a] [FrB b] : FrB (bAnd a b) := ⟨fun ρ S T => by
  unfold bAnd
  rw [FrB.fr (m := a)]
  cases a ρ T with
  | none => rfl
  | some r =>
    obtain ⟨v, T'⟩ := r
    cases v with
    | false => rfl
    | true => exact FrB.fr (m := b) ρ S T'⟩
instance (a b : MB) [FrB a] [FrB b] : FrB (bOr a b) := ⟨fun ρ S T => by
  unfold bOr
  rw [FrB.fr (m := a)]
  cases a ρ T with
  | none => rfl
  | some r =>
    obtain ⟨v, T'⟩ := r
    cases v with
    | true => rfl
    | false => exact FrB.fr (m := b) ρ S T'⟩
instance (m : M) [FrM m] : FrB (bTru m) := ⟨fun ρ S T => by
  unfold bTru
  rw [FrM.fr (m := m)]
  cases m ρ T with
  | none => rfl
  | some r =>
    show (asD (S ++ r.2) (shV S.length r.1)).bind _ = Option.map _ ((asD r.2 r.1).bind _)
    rw [sh_asD]
    cases asD r.2 r.1 with
    | none => rfl
    | some d =>
      show (truD d).bind _ = Option.map _ ((truD d).bind _)
      cases truD d <;> rfl⟩
instance (a b : M) [FrM a] [FrM b] : FrM (mAnd a b) := ⟨fun ρ S T => by
  unfold mAnd
  rw [FrM.fr (m := a)]
  cases a ρ T with
  | none => rfl
  | some r =>
    obtain ⟨v, T'⟩ := r
    cases v with
    | f _ => first | rfl | exact h | (cases e; done) | (cases e1; done) | (cases e2; done) | (cases e3; done) | (cases e4; done) | (cases e5; done) | (cases e6; done) | (cases h; done) | (cases h1; done) | (cases h2; done) | (cases h3; done) | (cases b; done) | (cases q; done) | exact h.elim | exact g.elim | exact r.elim | exact r.1.elim | exact r1.elim | exact r2.elim | exact z.elim | exact h1.elim | contradiction | (cases y <;> rfl) | (cases x <;> rfl) | (cases q <;> rfl) | (cases a <;> rfl) | exact L _ _ | exact L _ | (simp_all; done)
    | c j => rfl
    | d x =>
      cases x with
      | bool q => cases q with
        | true => exact FrM.fr (m := b) ρ S T'
        | false => rfl
      | _ => rfl⟩
instance (a b : M) [FrM a] [FrM b] : FrM (mOr a b) := ⟨fun ρ S T => by
  unfold mOr
  rw [FrM.fr (m := a)]
  cases a ρ T with
  | none => rfl
  | some r =>
    obtain ⟨v, T'⟩ := r
    cases v with
    | f _ => first | rfl | exact h | (cases e; done) | (cases e1; done) | (cases e2; done) | (cases e3; done) | (cases e4; done) | (cases e5; done) | (cases e6; done) | (cases h; done) | (cases h1; done) | (cases h2; done) | (cases h3; done) | (cases b; done) | (cases q; done) | exact h.elim | exact g.elim | exact r.elim | exact r.1.elim | exact r1.elim | exact r2.elim | exact z.elim | exact h1.elim | contradiction | (cases y <;> rfl) | (cases x <;> rfl) | (cases q <;> rfl) | (cases a <;> rfl) | exact L _ _ | exact L _ | (simp_all; done)
    | c j => rfl
    | d x =>
      cases x with
      | bool q => cases q with
        | false => exact FrM.fr (m := b) ρ S T'
        | true => rfl
      | _ => rfl⟩
instance (a : M) [FrM a] : FrM (mNot a) := ⟨fun ρ S T => by
  unfold mNot
  rw [FrM.fr (m := a)]
  cases a ρ T with
  | none => rfl
  | some r =>
    obtain ⟨v, T'⟩ := r
    cases v with
    | f _ => first | rfl | exact h | (cases e; done) | (cases e1; done) | (cases e2; done) | (cases e3; done) | (cases e4; done) | (cases e5; done) | (cases e6; done) | (cases h; done) | (cases h1; done) | (cases h2; done) | (cases h3; done) | (cases b; done) | (cases q; done) | exact h.elim | exact g.elim | exact r.elim | exact r.1.elim | exact r1.elim | exact r2.elim | exact z.elim | exact h1.elim | contradiction | (cases y <;> rfl) | (cases x <;> rfl) | (cases q <;> rfl) | (cases a <;> rfl) | exact L _ _ | exact L _ | (simp_all; done)
    | c j => rfl
    | d x => cases x <;> rfl⟩
instance (c : MB) (a b : M) [FrB c] [FrM a] [FrM b] : FrM (mIf c a b) := ⟨fun ρ S T => by
  unfold mIf
  rw [FrB.fr (m := c)]
  cases c ρ T with
  | none => rfl
  | some r =>
    obtain ⟨v, T'⟩ := r
    cases v with
    | true => exact FrM.fr (m := a) ρ S T'
    | false => exact FrM.fr (m := b) ρ S T'⟩
/-! calls -/
instance (n : Nat) (F : FV) (m : MA) [FrF F] [FrA m] : FrM (mFn n F m) := ⟨fun ρ S T => by
  unfold mFn
  rw [FrA.fr (m := m)]
  cases m ρ T with
  | none => rfl
  | some r =>
    show (if (r.1.map (shV S.length)).length = n then F (r.1.map (shV S.length)) (S ++ r.2) else none) = Option.map _ (if r.1.length = n then F r.1 r.2 else none)
    rw [List.length_map]
    split
    · exact FrF.fr (F := F) r.1 S r.2
    · rfl⟩
instance (n : Nat) (F : FL) (m : MA) [FrFL F] [FrA m] : FrL (mFnL n F m) := ⟨fun ρ S T => by
  unfold mFnL
  rw [FrA.fr (m := m)]
  cases m ρ T with
  | none => rfl
  | some r =>
    show (if (r.1.map (shV S.length)).length = n then F (r.1.map (shV S.length)) (S ++ r.2) else none) = Option.map _ (if r.1.length = n then F r.1 r.2 else none)
    rw [List.length_map]
    split
    · exact FrFL.fr (F := F) r.1 S r.2
    · rfl⟩
instance (f : List PV → Sto → Option PV) (m : MA) [FrC f] [FrA m] : FrM (mCall f m) := ⟨fun ρ S T => by
  unfold mCall
  rw [FrA.fr (m := m)]
  cases m ρ T with
  | none => rfl
  | some r =>
    show (f (r.1.map (shV S.length)) (S ++ r.2)).bind _ = Option.map _ ((f r.1 r.2).bind _)
    rw [FrC.fr (f := f)]
    cases f r.1 r.2 <;> rfl⟩
instance (f : List PV → Sto → Option (List PyData)) (m : MA) [FrCL f] [FrA m] : FrL (mCallL f m) := ⟨fun ρ S T => by
  unfold mCallL
  rw [FrA.fr (m := m)]
  cases m ρ T with
  | none => rfl
  | some r =>
    show (f (r.1.map (shV S.length)) (S ++ r.2)).bind _ = Option.map _ ((f r.1 r.2).bind _)
    rw [FrCL.fr (f := f)]
    cases f r.1 r.2 <;> rfl⟩
instance : FrC cLen := ⟨fun xs S T => by
  cases xs with
  | nil => rfl
  | cons x r => cases r with
    | cons y r => rfl
    | nil =>
      show (match asD (S ++ T) (shV S.length x) with | some (.list xs) => some (PV.d (.int xs.length)) | some (.tuple xs) => some (.d (.int xs.length)) | some (.str z) => if z.length ≤ 1000000 then some (.d (.int z.length)) else none | _ => none) = Option.map _ (match asD T x with | some (.list xs) => some (PV.d (.int xs.length)) | some (.tuple xs) => some (.d (.int xs.length)) | some (.str z) => if z.length ≤ 1000000 then some (.d (.int z.length)) else none | _ => none)
      rw [sh_asD]
      cases asD T x with
      | none => rfl
      | some d => cases d <;> first | rfl | (dsimp only; split <;> rfl)⟩
instance : FrC cSum := ⟨fun xs S T => by
  cases xs with
  | nil => rfl
  | cons x r => cases r with
    | cons y r => rfl
    | nil =>
      show (itemsOf (S ++ T) (shV S.length x)).bind _ = Option.map _ ((itemsOf T x).bind _)
      rw [sh_items]
      cases itemsOf T x with
      | none => rfl
      | some ds =>
        show (intsOf ds).map _ = Option.map _ ((intsOf ds).map _)
        cases intsOf ds <;> rfl⟩
instance : FrC cTuple := ⟨fun xs S T => by
  cases xs with
  | nil => rfl
  | cons x r => cases r with
    | cons y r => rfl
    | nil =>
      show (itemsOf (S ++ T) (shV S.length x)).map _ = Option.map _ ((itemsOf T x).map _)
      rw [sh_items]
      cases itemsOf T x <;> rfl⟩
instance : FrCL cList := ⟨fun xs S T => by
  cases xs with
  | nil => rfl
  | cons x r => cases r with
    | cons y r => rfl
    | nil => exact sh_items S T x⟩
instance : FrC cRepr := ⟨fun xs S T => by
  cases xs with
  | nil => rfl
  | cons x r => cases r with
    | cons y r => rfl
    | nil =>
      show (asD (S ++ T) (shV S.length x)).bind _ = Option.map _ ((asD T x).bind _)
      rw [sh_asD]
      cases asD T x with
      | none => rfl
      | some d => dsimp; split <;> rfl⟩
end DL

namespace DL
open PySem PySem.Spec PyProof.Rows L2 DK
instance : FrC cAbs := ⟨fun xs S T => by
  cases xs with
  | nil => rfl
  | cons x r => cases r with
    | cons y r => cases x with
      | f _ => first | rfl | exact h | (cases e; done) | (cases e1; done) | (cases e2; done) | (cases e3; done) | (cases e4; done) | (cases e5; done) | (cases e6; done) | (cases h; done) | (cases h1; done) | (cases h2; done) | (cases h3; done) | (cases b; done) | (cases q; done) | exact h.elim | exact g.elim | exact r.elim | exact r.1.elim | exact r1.elim | exact r2.elim | exact z.elim | exact h1.elim | contradiction | (cases y <;> rfl) | (cases x <;> rfl) | (cases q <;> rfl) | (cases a <;> rfl) | exact L _ _ | exact L _ | (simp_all; done)
      | c j => rfl
      | d x => cases x <;> rfl
    | nil => cases x with
      | f _ => first | rfl | exact h | (cases e; done) | (cases e1; done) | (cases e2; done) | (cases e3; done) | (cases e4; done) | (cases e5; done) | (cases e6; done) | (cases h; done) | (cases h1; done) | (cases h2; done) | (cases h3; done) | (cases b; done) | (cases q; done) | exact h.elim | exact g.elim | exact r.elim | exact r.1.elim | exact r1.elim | exact r2.elim | exact z.elim | exact h1.elim | contradiction | (cases y <;> rfl) | (cases x <;> rfl) | (cases q <;> rfl) | (cases a <;> rfl) | exact L _ _ | exact L _ | (simp_all; done)
      | c j => rfl
      | d x => cases x <;> rfl⟩
instance : FrC cInt := ⟨fun xs S T => by
  cases xs with
  | nil => rfl
  | cons x r => cases r with
    | cons y r => cases x with
      | f _ => first | rfl | exact h | (cases e; done) | (cases e1; done) | (cases e2; done) | (cases e3; done) | (cases e4; done) | (cases e5; done) | (cases e6; done) | (cases h; done) | (cases h1; done) | (cases h2; done) | (cases h3; done) | (cases b; done) | (cases q; done) | exact h.elim | exact g.elim | exact r.elim | exact r.1.elim | exact r1.elim | exact r2.elim | exact z.elim | exact h1.elim | contradiction | (cases y <;> rfl) | (cases x <;> rfl) | (cases q <;> rfl) | (cases a <;> rfl) | exact L _ _ | exact L _ | (simp_all; done)
      | c j => rfl
      | d x => cases x <;> rfl
    | nil => cases x with
      | f _ => first | rfl | exact h | (cases e; done) | (cases e1; done) | (cases e2; done) | (cases e3; done) | (cases e4; done) | (cases e5; done) | (cases e6; done) | (cases h; done) | (cases h1; done) | (cases h2; done) | (cases h3; done) | (cases b; done) | (cases q; done) | exact h.elim | exact g.elim | exact r.elim | exact r.1.elim | exact r1.elim | exact r2.elim | exact z.elim | exact h1.elim | contradiction | (cases y <;> rfl) | (cases x <;> rfl) | (cases q <;> rfl) | (cases a <;> rfl) | exact L _ _ | exact L _ | (simp_all; done)
      | c j => rfl
      | d x => cases x <;> rfl⟩
instance : FrC cStr := ⟨fun xs S T => by
  cases xs with
  | nil => rfl
  | cons x r => cases r with
    | cons y r => cases x with
      | f _ => first | rfl | exact h | (cases e; done) | (cases e1; done) | (cases e2; done) | (cases e3; done) | (cases e4; done) | (cases e5; done) | (cases e6; done) | (cases h; done) | (cases h1; done) | (cases h2; done) | (cases h3; done) | (cases b; done) | (cases q; done) | exact h.elim | exact g.elim | exact r.elim | exact r.1.elim | exact r1.elim | exact r2.elim | exact z.elim | exact h1.elim | contradiction | (cases y <;> rfl) | (cases x <;> rfl) | (cases q <;> rfl) | (cases a <;> rfl) | exact L _ _ | exact L _ | (simp_all; done)
      | c j => rfl
      | d x => cases x <;> rfl
    | nil => cases x with
      | f _ => first | rfl | exact h | (cases e; done) | (cases e1; done) | (cases e2; done) | (cases e3; done) | (cases e4; done) | (cases e5; done) | (cases e6; done) | (cases h; done) | (cases h1; done) | (cases h2; done) | (cases h3; done) | (cases b; done) | (cases q; done) | exact h.elim | exact g.elim | exact r.elim | exact r.1.elim | exact r1.elim | exact r2.elim | exact z.elim | exact h1.elim | contradiction | (cases y <;> rfl) | (cases x <;> rfl) | (cases q <;> rfl) | (cases a <;> rfl) | exact L _ _ | exact L _ | (simp_all; done)
      | c j => rfl
      | d x => cases x with
        | int i =>
          show (if i.natAbs.log2 < 1920 then some (PV.d (.str (toString i))) else none) = Option.map _ (if i.natAbs.log2 < 1920 then some (PV.d (.str (toString i))) else none)
          split <;> rfl
        | _ => rfl⟩
theorem frC2 {f : Int → Int → PyData} {g : List PV → Sto → Option PV} (h2 : ∀ i j S, g [.d (.int i), .d (.int j)] S = some (.d (f i j))) (hn : ∀ xs S, (∀ i j, xs ≠ [.d (.int i), .d (.int j)]) → g xs S = none) : FrC g := ⟨fun xs S T => by
  by_cases e : ∃ i j, xs = [.d (.int i), .d (.int j)]
  · obtain ⟨i, j, rfl⟩ := e
    rw [h2]
    show g [.d (.int i), .d (.int j)] _ = _
    rw [h2]
    rfl
  · rw [hn xs T fun i j z => e ⟨i, j, z⟩, hn _ _ fun i j z => ?_]
    · rfl
    · cases xs with
      | nil => exact absurd (congrArg List.length z) (by simp)
      | cons x r =>
        cases r with
        | nil => exact absurd (congrArg List.length z) (by simp)
        | cons y r =>
          cases r with
          | cons _ _ => exact absurd (congrArg List.length z) (by simp)
          | nil =>
            rw [List.map_cons, List.map_cons, List.map_nil] at z
            injection z with z1 z
            injection z with z2 z
            cases x with
            | f _ => first | rfl | exact h | (cases e; done) | (cases e1; done) | (cases e2; done) | (cases e3; done) | (cases e4; done) | (cases e5; done) | (cases e6; done) | (cases h; done) | (cases h1; done) | (cases h2; done) | (cases h3; done) | (cases b; done) | (cases q; done) | exact h.elim | exact g.elim | exact r.elim | exact r.1.elim | exact r1.elim | exact r2.elim | exact z.elim | exact h1.elim | contradiction | (cases y <;> rfl) | (cases x <;> rfl) | (cases q <;> rfl) | (cases a <;> rfl) | exact L _ _ | exact L _ | (simp_all; done)
            | c a => cases z1
            | d a =>
              cases y with
              | f _ => first | rfl | exact h | (cases e; done) | (cases e1; done) | (cases e2; done) | (cases e3; done) | (cases e4; done) | (cases e5; done) | (cases e6; done) | (cases h; done) | (cases h1; done) | (cases h2; done) | (cases h3; done) | (cases b; done) | (cases q; done) | exact h.elim | exact g.elim | exact r.elim | exact r.1.elim | exact r1.elim | exact r2.elim | exact z.elim | exact h1.elim | contradiction | (cases y <;> rfl) | (cases x <;> rfl) | (cases q <;> rfl) | (cases a <;> rfl) | exact L _ _ | exact L _ | (simp_all; done)
              | c b => cases z2
              | d b =>
                cases z1
                cases z2
                exact e ⟨i, j, rfl⟩⟩
instance : FrC cMax := frC2 (f := fun i j => .int (if j > i then j else i)) (fun _ _ _ => rfl) fun xs S h => by
  unfold cMax
  split
  · exact absurd rfl (h _ _)
  · rfl
instance : FrC cMin := frC2 (f := fun i j => .int (if j < i then j else i)) (fun _ _ _ => rfl) fun xs S h => by
  unfold cMin
  split
  · exact absurd rfl (h _ _)
  · rfl
instance (k : Kd) (m : M) [FrM m] : FrM (mIsi k m) := ⟨fun ρ S T => by
  unfold mIsi
  rw [FrM.fr (m := m)]
  cases m ρ T with
  | none => rfl
  | some r =>
    show (asD (S ++ r.2) (shV S.length r.1)).bind _ = Option.map _ ((asD r.2 r.1).bind _)
    rw [sh_asD]
    cases asD r.2 r.1 <;> rfl⟩
/-! slices -/
instance : FrO oNone := ⟨fun ρ S T => rfl⟩
instance (m : M) [FrM m] : FrO (oSome m) := ⟨fun ρ S T => by
  unfold oSome
  rw [FrM.fr (m := m)]
  cases m ρ T with
  | none => rfl
  | some r =>
    obtain ⟨v, T'⟩ := r
    cases v with
    | f _ => first | rfl | exact h | (cases e; done) | (cases e1; done) | (cases e2; done) | (cases e3; done) | (cases e4; done) | (cases e5; done) | (cases e6; done) | (cases h; done) | (cases h1; done) | (cases h2; done) | (cases h3; done) | (cases b; done) | (cases q; done) | exact h.elim | exact g.elim | exact r.elim | exact r.1.elim | exact r1.elim | exact r2.elim | exact z.elim | exact h1.elim | contradiction | (cases y <;> rfl) | (cases x <;> rfl) | (cases q <;> rfl) | (cases a <;> rfl) | exact L _ _ | exact L _ | (simp_all; done)
    | c j => rfl
    | d x => cases x <;> rfl⟩
instance (m : M) (ml mh : MO) [FrM m] [FrO ml] [FrO mh] : FrM (mSl m ml mh) := ⟨fun ρ S T => by
  unfold mSl
  rw [FrM.fr (m := m)]
  cases m ρ T with
  | none => rfl
  | some r =>
    show (ml (shR S.length ρ) (S ++ r.2)).bind _ = Option.map _ ((ml ρ r.2).bind _)
    rw [FrO.fr (m := ml)]
    cases ml ρ r.2 with
    | none => rfl
    | some l =>
      show (mh (shR S.length ρ) (S ++ l.2)).bind _ = Option.map _ ((mh ρ l.2).bind _)
      rw [FrO.fr (m := mh)]
      cases mh ρ l.2 with
      | none => rfl
      | some h =>
        obtain ⟨v, T'⟩ := r
        cases v with
        | f _ => first | rfl | exact h | (cases e; done) | (cases e1; done) | (cases e2; done) | (cases e3; done) | (cases e4; done) | (cases e5; done) | (cases e6; done) | (cases h; done) | (cases h1; done) | (cases h2; done) | (cases h3; done) | (cases b; done) | (cases q; done) | exact h.elim | exact g.elim | exact r.elim | exact r.1.elim | exact r1.elim | exact r2.elim | exact z.elim | exact h1.elim | contradiction | (cases y <;> rfl) | (cases x <;> rfl) | (cases q <;> rfl) | (cases a <;> rfl) | exact L _ _ | exact L _ | (simp_all; done)
        | c j => rfl
        | d x => cases x <;> first | rfl | (dsimp [shV]; split <;> rfl)⟩
instance (m : M) (ml mh : MO) [FrM m] [FrO ml] [FrO mh] : FrL (mSlL m ml mh) := ⟨fun ρ S T => by
  unfold mSlL
  rw [FrM.fr (m := m)]
  cases m ρ T with
  | none => rfl
  | some r =>
    show (ml (shR S.length ρ) (S ++ r.2)).bind _ = Option.map _ ((ml ρ r.2).bind _)
    rw [FrO.fr (m := ml)]
    cases ml ρ r.2 with
    | none => rfl
    | some l =>
      show (mh (shR S.length ρ) (S ++ l.2)).bind _ = Option.map _ ((mh ρ l.2).bind _)
      rw [FrO.fr (m := mh)]
      cases mh ρ l.2 with
      | none => rfl
      | some h =>
        dsimp
        rw [sh_asD]
        cases asD h.2 r.1 with
        | none => rfl
        | some d => cases d <;> rfl⟩
instance (m : ML) (mb : M) [FrL m] [FrM mb] : FrL (mRep m mb) := ⟨fun ρ S T => by
  unfold mRep
  rw [FrL.fr (m := m)]
  cases m ρ T with
  | none => rfl
  | some r =>
    show (mb (shR S.length ρ) (S ++ r.2)).bind _ = Option.map _ ((mb ρ r.2).bind _)
    rw [FrM.fr (m := mb)]
    cases mb ρ r.2 with
    | none => rfl
    | some q =>
      obtain ⟨v, T'⟩ := q
      cases v with
      | f _ => first | rfl | exact h | (cases e; done) | (cases e1; done) | (cases e2; done) | (cases e3; done) | (cases e4; done) | (cases e5; done) | (cases e6; done) | (cases h; done) | (cases h1; done) | (cases h2; done) | (cases h3; done) | (cases b; done) | (cases q; done) | exact h.elim | exact g.elim | exact r.elim | exact r.1.elim | exact r1.elim | exact r2.elim | exact z.elim | exact h1.elim | contradiction | (cases y <;> rfl) | (cases x <;> rfl) | (cases q <;> rfl) | (cases a <;> rfl) | exact L _ _ | exact L _ | (simp_all; done)
      | c j => rfl
      | d x => cases x <;> first | rfl | (dsimp [shV]; split <;> rfl)⟩
/-! what is walked -/
instance (m : M) [FrM m] : FrL (mSeq m) := ⟨fun ρ S T => by
  unfold mSeq
  rw [FrM.fr (m := m)]
  cases m ρ T with
  | none => rfl
  | some r =>
    obtain ⟨v, T'⟩ := r
    cases v with
    | f _ => first | rfl | exact h | (cases e; done) | (cases e1; done) | (cases e2; done) | (cases e3; done) | (cases e4; done) | (cases e5; done) | (cases e6; done) | (cases h; done) | (cases h1; done) | (cases h2; done) | (cases h3; done) | (cases b; done) | (cases q; done) | exact h.elim | exact g.elim | exact r.elim | exact r.1.elim | exact r1.elim | exact r2.elim | exact z.elim | exact h1.elim | contradiction | (cases y <;> rfl) | (cases x <;> rfl) | (cases q <;> rfl) | (cases a <;> rfl) | exact L _ _ | exact L _ | (simp_all; done)
    | c j => rfl
    | d x => cases x <;> rfl⟩
instance (m : M) [FrM m] : FrL (mRng1 m) := ⟨fun ρ S T => by
  unfold mRng1
  rw [FrM.fr (m := m)]
  cases m ρ T with
  | none => rfl
  | some r =>
    obtain ⟨v, T'⟩ := r
    cases v with
    | f _ => first | rfl | exact h | (cases e; done) | (cases e1; done) | (cases e2; done) | (cases e3; done) | (cases e4; done) | (cases e5; done) | (cases e6; done) | (cases h; done) | (cases h1; done) | (cases h2; done) | (cases h3; done) | (cases b; done) | (cases q; done) | exact h.elim | exact g.elim | exact r.elim | exact r.1.elim | exact r1.elim | exact r2.elim | exact z.elim | exact h1.elim | contradiction | (cases y <;> rfl) | (cases x <;> rfl) | (cases q <;> rfl) | (cases a <;> rfl) | exact L _ _ | exact L _ | (simp_all; done)
    | c j => rfl
    | d x => cases x <;> first | rfl | (dsimp [shV]; split <;> rfl)⟩
instance (m n : M) [FrM m] [FrM n] : FrL (mRng2 m n) := ⟨fun ρ S T => by
  unfold mRng2
  rw [FrM.fr (m := m)]
  cases m ρ T with
  | none => rfl
  | some r =>
    show (n (shR S.length ρ) (S ++ r.2)).bind _ = Option.map _ ((n ρ r.2).bind _)
    rw [FrM.fr (m := n)]
    cases n ρ r.2 with
    | none => rfl
    | some q =>
      obtain ⟨v, T'⟩ := r
      obtain ⟨w, T2⟩ := q
      cases v with
      | f _ => first | rfl | exact h | (cases e; done) | (cases e1; done) | (cases e2; done) | (cases e3; done) | (cases e4; done) | (cases e5; done) | (cases e6; done) | (cases h; done) | (cases h1; done) | (cases h2; done) | (cases h3; done) | (cases b; done) | (cases q; done) | exact h.elim | exact g.elim | exact r.elim | exact r.1.elim | exact r1.elim | exact r2.elim | exact z.elim | exact h1.elim | contradiction | (cases y <;> rfl) | (cases x <;> rfl) | (cases q <;> rfl) | (cases a <;> rfl) | exact L _ _ | exact L _ | (simp_all; done)
      | c j => cases w with
        | f _ => first | rfl | exact h | (cases e; done) | (cases e1; done) | (cases e2; done) | (cases e3; done) | (cases e4; done) | (cases e5; done) | (cases e6; done) | (cases h; done) | (cases h1; done) | (cases h2; done) | (cases h3; done) | (cases b; done) | (cases q; done) | exact h.elim | exact g.elim | exact r.elim | exact r.1.elim | exact r1.elim | exact r2.elim | exact z.elim | exact h1.elim | contradiction | (cases y <;> rfl) | (cases x <;> rfl) | (cases q <;> rfl) | (cases a <;> rfl) | exact L _ _ | exact L _ | (simp_all; done)
        | c i => rfl
        | d y => rfl
      | d x =>
        cases w with
        | f _ => first | rfl | exact h | (cases e; done) | (cases e1; done) | (cases e2; done) | (cases e3; done) | (cases e4; done) | (cases e5; done) | (cases e6; done) | (cases h; done) | (cases h1; done) | (cases h2; done) | (cases h3; done) | (cases b; done) | (cases q; done) | exact h.elim | exact g.elim | exact r.elim | exact r.1.elim | exact r1.elim | exact r2.elim | exact z.elim | exact h1.elim | contradiction | (cases y <;> rfl) | (cases x <;> rfl) | (cases q <;> rfl) | (cases a <;> rfl) | exact L _ _ | exact L _ | (simp_all; done)
        | c i => cases x <;> rfl
        | d y => cases x <;> first | rfl | (cases y <;> first | rfl | (dsimp [shV]; split <;> rfl))⟩
/-! targets -/
instance (i : Nat) : FrT (gN i) := ⟨fun d ρ n => by
  unfold gN
  rw [sh_setd]
  rfl⟩
instance : FrTs gNs := ⟨fun d ρ n => by cases d <;> rfl⟩
instance (f : TgD) (g : TgDs) [FrT f] [FrTs g] : FrTs (gCs f g) := ⟨fun d ρ n => by
  cases d with
  | nil => rfl
  | cons x r =>
    show (f x (shR n ρ)).bind _ = Option.map _ ((f x ρ).bind _)
    rw [FrT.fr (t := f)]
    cases f x ρ with
    | none => rfl
    | some ρ' => exact FrTs.fr (t := g) r ρ' n⟩
instance (k : Nat) (g : TgDs) [FrTs g] : FrT (gT k g) := ⟨fun d ρ n => by
  cases d <;> first
    | rfl
    | (unfold gT
       dsimp only
       split
       · exact FrTs.fr (t := g) _ ρ n
       · rfl)⟩
theorem sh_wipe (n : Nat) (ρ : RE) : ∀ vs : List Nat, wipeR (shR n ρ) vs = shR n (wipeR ρ vs)
  | [] => rfl
  | v :: vs => by
    show (wipeR (shR n ρ) vs).set v none = shR n ((wipeR ρ vs).set v none)
    rw [sh_wipe n ρ vs]
    unfold shR
    rw [List.map_set]
    rfl
/-! comprehensions -/
theorem push_sh (S T : Sto) (j : Nat) (y : PyData) : pushAt (S.length + j) y (S ++ T) = (pushAt j y T).map (S ++ ·) := by
  unfold pushAt
  rw [lAt_sh]
  cases lAt T j with
  | none => rfl
  | some l =>
    dsimp
    split
    · rw [sto_set]; rfl
    · rfl
theorem lcGo_sh {tgt : TgD} {tt : MB} {te : M} [FrT tgt] [FrB tt] [FrM te] (S : Sto) (j : Nat) (ρ : RE) : ∀ (xs : List PyData) (T : Sto), lcGo (S.length + j) tgt tt te (shR S.length ρ) xs (S ++ T) = (lcGo j tgt tt te ρ xs T).map (S ++ ·)
  | [], T => rfl
  | x :: xs, T => by
    show (tgt x (shR S.length ρ)).bind _ = Option.map _ ((tgt x ρ).bind _)
    rw [FrT.fr (t := tgt)]
    cases tgt x ρ with
    | none => rfl
    | some ρ1 =>
      show (tt (shR S.length ρ1) (S ++ T)).bind _ = Option.map _ ((tt ρ1 T).bind _)
      rw [FrB.fr (m := tt)]
      cases tt ρ1 T with
      | none => rfl
      | some b =>
        obtain ⟨b, T1⟩ := b
        cases b with
        | false => exact lcGo_sh S j ρ xs T1
        | true =>
          show (te (shR S.length ρ1) (S ++ T1)).bind _ = Option.map _ ((te ρ1 T1).bind _)
          rw [FrM.fr (m := te)]
          cases te ρ1 T1 with
          | none => rfl
          | some v =>
            obtain ⟨v, T2⟩ := v
            cases v with
            | f _ => first | rfl | exact h | (cases e; done) | (cases e1; done) | (cases e2; done) | (cases e3; done) | (cases e4; done) | (cases e5; done) | (cases e6; done) | (cases h; done) | (cases h1; done) | (cases h2; done) | (cases h3; done) | (cases b; done) | (cases q; done) | exact h.elim | exact g.elim | exact r.elim | exact r.1.elim | exact r1.elim | exact r2.elim | exact z.elim | exact h1.elim | contradiction | (cases y <;> rfl) | (cases x <;> rfl) | (cases q <;> rfl) | (cases a <;> rfl) | exact L _ _ | exact L _ | (simp_all; done)
            | c i => rfl
            | d y =>
              show (pushAt (S.length + j) y (S ++ T2)).bind _ = Option.map _ ((pushAt j y T2).bind _)
              rw [push_sh]
              cases pushAt j y T2 with
              | none => rfl
              | some T3 => exact lcGo_sh S j ρ xs T3
theorem app_sh (S T : Sto) (x : Cell) : (S ++ T) ++ [x] = S ++ (T ++ [x]) := List.append_assoc ..
theorem len_sh (S T : Sto) : (S ++ T).length = S.length + T.length := List.length_append
theorem take_sh (S T : Sto) (n : Nat) : (S ++ T).take (S.length + n) = S ++ T.take n := by
  rw [List.take_append, List.take_of_length_le (Nat.le_add_right _ _), Nat.add_sub_cancel_left]
instance (mi : ML) (vs : List Nat) (tgt : TgD) (tt : MB) (te : M) [FrL mi] [FrT tgt] [FrB tt] [FrM te] : FrL (mLc mi vs tgt tt te) := ⟨fun ρ S T => by
  unfold mLc
  rw [FrL.fr (m := mi)]
  cases mi ρ T with
  | none => rfl
  | some p =>
    show (lcGo (S ++ p.2).length tgt tt te (wipeR (shR S.length ρ) vs) p.1 ((S ++ p.2) ++ [.l []])).bind _ = Option.map _ ((lcGo p.2.length tgt tt te (wipeR ρ vs) p.1 (p.2 ++ [.l []])).bind _)
    rw [len_sh, app_sh, sh_wipe, lcGo_sh]
    cases lcGo p.2.length tgt tt te (wipeR ρ vs) p.1 (p.2 ++ [.l []]) with
    | none => rfl
    | some T2 =>
      show (lAt (S ++ T2) (S.length + p.2.length)).bind _ = Option.map _ ((lAt T2 p.2.length).bind _)
      rw [lAt_sh]
      cases lAt T2 p.2.length with
      | none => rfl
      | some ds =>
        show some (ds, (S ++ T2).take (S.length + p.2.length)) = _
        rw [take_sh]
        rfl⟩
theorem lc2Go_sh {tgt tgt1 : TgD} {tt tt1 : MB} {mi1 : ML} {vs1 : List Nat} {te : M} [FrT tgt] [FrB tt] [FrL mi1] [FrT tgt1] [FrB tt1] [FrM te] (S : Sto) (j : Nat) (ρ : RE) : ∀ (xs : List PyData) (T : Sto),
    lc2Go (S.length + j) tgt tt mi1 vs1 tgt1 tt1 te (shR S.length ρ) xs (S ++ T) = (lc2Go j tgt tt mi1 vs1 tgt1 tt1 te ρ xs T).map (S ++ ·)
  | [], T => rfl
  | x :: xs, T => by
    show (tgt x (shR S.length ρ)).bind _ = Option.map _ ((tgt x ρ).bind _)
    rw [FrT.fr (t := tgt)]
    cases tgt x ρ with
    | none => rfl
    | some ρ1 =>
      show (tt (shR S.length ρ1) (S ++ T)).bind _ = Option.map _ ((tt ρ1 T).bind _)
      rw [FrB.fr (m := tt)]
      cases tt ρ1 T with
      | none => rfl
      | some b =>
        obtain ⟨b, T1⟩ := b
        cases b with
        | false => exact lc2Go_sh S j ρ xs T1
        | true =>
          show (mi1 (shR S.length ρ1) (S ++ T1)).bind _ = Option.map _ ((mi1 ρ1 T1).bind _)
          rw [FrL.fr (m := mi1)]
          cases mi1 ρ1 T1 with
          | none => rfl
          | some p =>
            show (lcGo (S.length + j) tgt1 tt1 te (wipeR (shR S.length ρ1) vs1) p.1 (S ++ p.2)).bind _ = Option.map _ ((lcGo j tgt1 tt1 te (wipeR ρ1 vs1) p.1 p.2).bind _)
            rw [sh_wipe, lcGo_sh]
            cases lcGo j tgt1 tt1 te (wipeR ρ1 vs1) p.1 p.2 with
            | none => rfl
            | some T3 => exact lc2Go_sh S j ρ xs T3
instance (mi : ML) (vs : List Nat) (tgt : TgD) (tt : MB) (mi1 : ML) (vs1 : List Nat) (tgt1 : TgD) (tt1 : MB) (te : M) [FrL mi] [FrT tgt] [FrB tt] [FrL mi1] [FrT tgt1] [FrB tt1] [FrM te] : FrL (mLc2 mi vs tgt tt mi1 vs1 tgt1 tt1 te) := ⟨fun ρ S T => by
  unfold mLc2
  rw [FrL.fr (m := mi)]
  cases mi ρ T with
  | none => rfl
  | some p =>
    show (lc2Go (S ++ p.2).length tgt tt mi1 vs1 tgt1 tt1 te (wipeR (shR S.length ρ) vs) p.1 ((S ++ p.2) ++ [.l []])).bind _ = Option.map _ ((lc2Go p.2.length tgt tt mi1 vs1 tgt1 tt1 te (wipeR ρ vs) p.1 (p.2 ++ [.l []])).bind _)
    rw [len_sh, app_sh, sh_wipe, lc2Go_sh]
    cases lc2Go p.2.length tgt tt mi1 vs1 tgt1 tt1 te (wipeR ρ vs) p.1 (p.2 ++ [.l []]) with
    | none => rfl
    | some T2 =>
      show (lAt (S ++ T2) (S.length + p.2.length)).bind _ = Option.map _ ((lAt T2 p.2.length).bind _)
      rw [lAt_sh]
      cases lAt T2 p.2.length with
      | none => rfl
      | some ds =>
        show some (ds, (S ++ T2).take (S.length + p.2.length)) = _
        rw [take_sh]
        rfl⟩
/-! statements -/
instance : FrS sNil := ⟨fun ρ S T => rfl⟩
instance : FrS sBk := ⟨fun ρ S T => rfl⟩
instance : FrS sCt := ⟨fun ρ S T => rfl⟩
instance : FrS sNever := ⟨fun ρ S T => rfl⟩
instance (a b : MS) [FrS a] [FrS b] : FrS (sSeq a b) := ⟨fun ρ S T => by
  unfold sSeq
  rw [FrS.fr (m := a)]
  cases a ρ T with
  | none => rfl
  | some o => cases o with
    | nx ρ' T' => exact FrS.fr (m := b) ρ' S T'
    | _ => rfl⟩
instance (i : Nat) (m : M) [FrM m] : FrS (sSet i m) := ⟨fun ρ S T => by
  unfold sSet
  rw [FrM.fr (m := m)]
  cases m ρ T with
  | none => rfl
  | some p =>
    show some (Out.nx ((shR S.length ρ).set i (some (shV S.length p.1))) (S ++ p.2)) = _
    rw [sh_set]
    rfl⟩
instance (i : Nat) (m : ML) [FrL m] : FrS (sOwn i m) := ⟨fun ρ S T => by
  unfold sOwn
  rw [FrL.fr (m := m)]
  cases m ρ T with
  | none => rfl
  | some p =>
    show some (Out.nx ((shR S.length ρ).set i (some (.c (S ++ p.2).length))) ((S ++ p.2) ++ [.l p.1])) = _
    rw [len_sh, app_sh, show PV.c (S.length + p.2.length) = shV S.length (.c p.2.length) from rfl, sh_set]
    rfl⟩
instance (m : M) [FrM m] : FrS (sRet m) := ⟨fun ρ S T => by
  unfold sRet
  rw [FrM.fr (m := m)]
  cases m ρ T <;> rfl⟩
instance (m : ML) [FrL m] : FrS (sRetL m) := ⟨fun ρ S T => by
  unfold sRetL
  rw [FrL.fr (m := m)]
  cases m ρ T <;> rfl⟩
instance (m : M) [FrM m] : FrS (sDrop m) := ⟨fun ρ S T => by
  unfold sDrop
  rw [FrM.fr (m := m)]
  cases m ρ T <;> rfl⟩
instance (c : MB) (a b : MS) [FrB c] [FrS a] [FrS b] : FrS (sIf c a b) := ⟨fun ρ S T => by
  unfold sIf
  rw [FrB.fr (m := c)]
  cases c ρ T with
  | none => rfl
  | some r =>
    obtain ⟨v, T'⟩ := r
    cases v with
    | true => exact FrS.fr (m := a) ρ S T'
    | false => exact FrS.fr (m := b) ρ S T'⟩
instance (i j : Nat) (m : MA) [FrA m] : FrS (sPar i j m) := ⟨fun ρ S T => by
  unfold sPar
  rw [FrA.fr (m := m)]
  cases m ρ T with
  | none => rfl
  | some r =>
    obtain ⟨vs, T'⟩ := r
    cases vs with
    | nil => rfl
    | cons v r => cases r with
      | nil => rfl
      | cons w r => cases r with
        | cons _ _ => rfl
        | nil =>
          show some (Out.nx (((shR S.length ρ).set i (some (shV S.length v))).set j (some (shV S.length w))) (S ++ T')) = _
          rw [sh_set, sh_set]
          rfl⟩
instance (i : Nat) (f : PV → PV → Sto → Option PV) (m : M) [FrOp f] [FrM m] : FrS (sAug i f m) := ⟨fun ρ S T => by
  unfold sAug
  rw [FrM.fr (m := mVar i)]
  cases mVar i ρ T with
  | none => rfl
  | some p =>
    show (m (shR S.length ρ) (S ++ T)).bind _ = Option.map _ ((m ρ T).bind _)
    rw [FrM.fr (m := m)]
    cases m ρ T with
    | none => rfl
    | some q =>
      show (f (shV S.length p.1) (shV S.length q.1) (S ++ q.2)).bind _ = Option.map _ ((f p.1 q.1 q.2).bind _)
      rw [FrOp.fr (f := f)]
      cases f p.1 q.1 q.2 with
      | none => rfl
      | some z =>
        show some (Out.nx ((shR S.length ρ).set i (some (shV S.length z))) (S ++ q.2)) = _
        rw [sh_set]
        rfl⟩
instance (g : TgD) (m : M) [FrT g] [FrM m] : FrS (sAsg g m) := ⟨fun ρ S T => by
  unfold sAsg
  rw [FrM.fr (m := m)]
  cases m ρ T with
  | none => rfl
  | some p =>
    obtain ⟨v, T'⟩ := p
    cases v with
    | f _ => first | rfl | exact h | (cases e; done) | (cases e1; done) | (cases e2; done) | (cases e3; done) | (cases e4; done) | (cases e5; done) | (cases e6; done) | (cases h; done) | (cases h1; done) | (cases h2; done) | (cases h3; done) | (cases b; done) | (cases q; done) | exact h.elim | exact g.elim | exact r.elim | exact r.1.elim | exact r1.elim | exact r2.elim | exact z.elim | exact h1.elim | contradiction | (cases y <;> rfl) | (cases x <;> rfl) | (cases q <;> rfl) | (cases a <;> rfl) | exact L _ _ | exact L _ | (simp_all; done)
    | c j => rfl
    | d x =>
      show (g x (shR S.length ρ)).bind _ = Option.map _ ((g x ρ).bind _)
      rw [FrT.fr (t := g)]
      cases g x ρ <;> rfl⟩
instance (mo mi mv : M) [FrM mo] [FrM mi] [FrM mv] : FrS (sPut mo mi mv) := ⟨fun ρ S T => by
  unfold sPut
  rw [FrM.fr (m := mv)]
  cases mv ρ T with
  | none => rfl
  | some v =>
    show (mo (shR S.length ρ) (S ++ v.2)).bind _ = Option.map _ ((mo ρ v.2).bind _)
    rw [FrM.fr (m := mo)]
    cases mo ρ v.2 with
    | none => rfl
    | some o =>
      show (mi (shR S.length ρ) (S ++ o.2)).bind _ = Option.map _ ((mi ρ o.2).bind _)
      rw [FrM.fr (m := mi)]
      cases mi ρ o.2 with
      | none => rfl
      | some i =>
        obtain ⟨v, T1⟩ := v
        obtain ⟨o, T2⟩ := o
        obtain ⟨i, T3⟩ := i
        cases v with
        | f _ => first | rfl | exact h | (cases e; done) | (cases e1; done) | (cases e2; done) | (cases e3; done) | (cases e4; done) | (cases e5; done) | (cases e6; done) | (cases h; done) | (cases h1; done) | (cases h2; done) | (cases h3; done) | (cases b; done) | (cases q; done) | exact h.elim | exact g.elim | exact r.elim | exact r.1.elim | exact r1.elim | exact r2.elim | exact z.elim | exact h1.elim | contradiction | (cases y <;> rfl) | (cases x <;> rfl) | (cases q <;> rfl) | (cases a <;> rfl) | exact L _ _ | exact L _ | (simp_all; done)
        | c _ => rfl
        | d y =>
          cases o with
          | d _ => rfl
          | f _ => first | rfl | exact h | (cases e; done) | (cases e1; done) | (cases e2; done) | (cases e3; done) | (cases e4; done) | (cases e5; done) | (cases e6; done) | (cases h; done) | (cases h1; done) | (cases h2; done) | (cases h3; done) | (cases b; done) | (cases q; done) | exact h.elim | exact g.elim | exact r.elim | exact r.1.elim | exact r1.elim | exact r2.elim | exact z.elim | exact h1.elim | contradiction | (cases y <;> rfl) | (cases x <;> rfl) | (cases q <;> rfl) | (cases a <;> rfl) | exact L _ _ | exact L _ | (simp_all; done)
          | c j =>
            cases i with
            | f _ => first | rfl | exact h | (cases e; done) | (cases e1; done) | (cases e2; done) | (cases e3; done) | (cases e4; done) | (cases e5; done) | (cases e6; done) | (cases h; done) | (cases h1; done) | (cases h2; done) | (cases h3; done) | (cases b; done) | (cases q; done) | exact h.elim | exact g.elim | exact r.elim | exact r.1.elim | exact r1.elim | exact r2.elim | exact z.elim | exact h1.elim | contradiction | (cases y <;> rfl) | (cases x <;> rfl) | (cases q <;> rfl) | (cases a <;> rfl) | exact L _ _ | exact L _ | (simp_all; done)
            | c _ => rfl
            | d x =>
              cases x with
              | int z =>
                show (lAt (S ++ T3) (S.length + j)).bind _ = Option.map _ ((lAt T3 j).bind _)
                rw [lAt_sh]
                cases lAt T3 j with
                | none => rfl
                | some ds =>
                  show (ixN ds.length z).bind _ = Option.map _ ((ixN ds.length z).bind _)
                  cases ixN ds.length z with
                  | none => rfl
                  | some n =>
                    show some (Out.nx (shR S.length ρ) ((S ++ T3).set (S.length + j) (.l (ds.set n y)))) = _
                    rw [sto_set]
                    rfl
              | _ => rfl⟩
instance (mo mv : M) [FrM mo] [FrM mv] : FrM (mAppend mo mv) := ⟨fun ρ S T => by
  unfold mAppend
  rw [FrM.fr (m := mo)]
  cases mo ρ T with
  | none => rfl
  | some o =>
    show (mv (shR S.length ρ) (S ++ o.2)).bind _ = Option.map _ ((mv ρ o.2).bind _)
    rw [FrM.fr (m := mv)]
    cases mv ρ o.2 with
    | none => rfl
    | some v =>
      obtain ⟨o, T1⟩ := o
      obtain ⟨v, T2⟩ := v
      cases o with
      | d _ => rfl
      | f _ => first | rfl | exact h | (cases e; done) | (cases e1; done) | (cases e2; done) | (cases e3; done) | (cases e4; done) | (cases e5; done) | (cases e6; done) | (cases h; done) | (cases h1; done) | (cases h2; done) | (cases h3; done) | (cases b; done) | (cases q; done) | exact h.elim | exact g.elim | exact r.elim | exact r.1.elim | exact r1.elim | exact r2.elim | exact z.elim | exact h1.elim | contradiction | (cases y <;> rfl) | (cases x <;> rfl) | (cases q <;> rfl) | (cases a <;> rfl) | exact L _ _ | exact L _ | (simp_all; done)
      | c j =>
        cases v with
        | f _ => first | rfl | exact h | (cases e; done) | (cases e1; done) | (cases e2; done) | (cases e3; done) | (cases e4; done) | (cases e5; done) | (cases e6; done) | (cases h; done) | (cases h1; done) | (cases h2; done) | (cases h3; done) | (cases b; done) | (cases q; done) | exact h.elim | exact g.elim | exact r.elim | exact r.1.elim | exact r1.elim | exact r2.elim | exact z.elim | exact h1.elim | contradiction | (cases y <;> rfl) | (cases x <;> rfl) | (cases q <;> rfl) | (cases a <;> rfl) | exact L _ _ | exact L _ | (simp_all; done)
        | c _ => rfl
        | d y =>
          show (if (lAt (S ++ T1) (S.length + j)).isSome = true then (lAt (S ++ T2) (S.length + j)).bind _ else none) = Option.map _ (if (lAt T1 j).isSome = true then (lAt T2 j).bind _ else none)
          rw [lAt_sh, lAt_sh]
          cases (lAt T1 j).isSome with
          | false => rfl
          | true =>
            rw [if_pos rfl, if_pos rfl]
            cases lAt T2 j with
            | none => rfl
            | some ds =>
              dsimp
              split
              · rw [sto_set]; rfl
              · rfl⟩
instance (mo : M) [FrM mo] : FrM (mReverse mo) := ⟨fun ρ S T => by
  unfold mReverse
  rw [FrM.fr (m := mo)]
  cases mo ρ T with
  | none => rfl
  | some o =>
    obtain ⟨o, T1⟩ := o
    cases o with
    | d _ => rfl
    | f _ => first | rfl | exact h | (cases e; done) | (cases e1; done) | (cases e2; done) | (cases e3; done) | (cases e4; done) | (cases e5; done) | (cases e6; done) | (cases h; done) | (cases h1; done) | (cases h2; done) | (cases h3; done) | (cases b; done) | (cases q; done) | exact h.elim | exact g.elim | exact r.elim | exact r.1.elim | exact r1.elim | exact r2.elim | exact z.elim | exact h1.elim | contradiction | (cases y <;> rfl) | (cases x <;> rfl) | (cases q <;> rfl) | (cases a <;> rfl) | exact L _ _ | exact L _ | (simp_all; done)
    | c j =>
      show (lAt (S ++ T1) (S.length + j)).bind _ = Option.map _ ((lAt T1 j).bind _)
      rw [lAt_sh]
      cases lAt T1 j with
      | none => rfl
      | some ds =>
        show some (PV.d .none, (S ++ T1).set (S.length + j) (.l ds.reverse)) = _
        rw [sto_set]
        rfl⟩
theorem forGo_sh {tgt : TgD} {body : MS} [FrT tgt] [FrS body] (S : Sto) : ∀ (xs : List PyData) (ρ : RE) (T : Sto), forGo tgt body xs (shR S.length ρ) (S ++ T) = (forGo tgt body xs ρ T).map (shO S)
  | [], ρ, T => rfl
  | x :: xs, ρ, T => by
    show (tgt x (shR S.length ρ)).bind _ = Option.map _ ((tgt x ρ).bind _)
    rw [FrT.fr (t := tgt)]
    cases tgt x ρ with
    | none => rfl
    | some ρ1 =>
      show (body (shR S.length ρ1) (S ++ T)).bind _ = Option.map _ ((body ρ1 T).bind _)
      rw [FrS.fr (m := body)]
      cases body ρ1 T with
      | none => rfl
      | some o => cases o with
        | nx ρ' T' => exact forGo_sh S xs ρ' T'
        | ct ρ' T' => exact forGo_sh S xs ρ' T'
        | _ => rfl
instance (mi : ML) (tgt : TgD) (body : MS) [FrL mi] [FrT tgt] [FrS body] : FrS (sFor mi tgt body) := ⟨fun ρ S T => by
  unfold sFor
  rw [FrL.fr (m := mi)]
  cases mi ρ T with
  | none => rfl
  | some p => exact forGo_sh S p.1 ρ p.2⟩
theorem whileGo_sh {c : MB} {body : MS} [FrB c] [FrS body] (S : Sto) : ∀ (n : Nat) (ρ : RE) (T : Sto), whileGo c body n (shR S.length ρ) (S ++ T) = (whileGo c body n ρ T).map (shO S)
  | 0, ρ, T => rfl
  | n + 1, ρ, T => by
    show (c (shR S.length ρ) (S ++ T)).bind _ = Option.map _ ((c ρ T).bind _)
    rw [FrB.fr (m := c)]
    cases c ρ T with
    | none => rfl
    | some r =>
      obtain ⟨v, T'⟩ := r
      cases v with
      | false => rfl
      | true =>
        show (body (shR S.length ρ) (S ++ T')).bind _ = Option.map _ ((body ρ T').bind _)
        rw [FrS.fr (m := body)]
        cases body ρ T' with
        | none => rfl
        | some o => cases o with
          | nx ρ' T' => exact whileGo_sh S n ρ' T'
          | ct ρ' T' => exact whileGo_sh S n ρ' T'
          | _ => rfl
class FrN (f : RE → Sto → Nat) : Prop where
  fr : ∀ ρ S T, f (shR S.length ρ) (S ++ T) = f ρ T
instance (n : Nat) : FrN (fun _ _ => n) := ⟨fun _ _ _ => rfl⟩
instance (f : RE → Sto → Nat) (c : MB) (body : MS) [FrN f] [FrB c] [FrS body] : FrS (sWhile f c body) := ⟨fun ρ S T => by
  unfold sWhile
  rw [FrN.fr (f := f)]
  exact whileGo_sh S _ ρ T⟩
/-! defs -/
theorem sh_start (n N : Nat) (xs : List PV) : (xs.map (shV n)).map some ++ List.replicate (N - (xs.map (shV n)).length) none = shR n (xs.map some ++ List.replicate (N - xs.length) none) := by
  unfold shR
  rw [List.map_append, List.length_map, List.map_map, List.map_map, List.map_replicate]
  rfl
instance (N : Nat) (g : MS) [FrS g] : FrF (runF N g) := ⟨fun xs S T => by
  unfold runF
  rw [sh_start, FrS.fr (m := g)]
  cases g (xs.map some ++ List.replicate (N - xs.length) none) T with
  | none => rfl
  | some o =>
    cases o with
    | bk _ _ => rfl
    | ct _ _ => rfl
    | nx ρ' T' =>
      show some (PV.d .none, (S ++ T').take (S ++ T).length) = _
      rw [len_sh, take_sh]
      rfl
    | rl ds T' =>
      show some (PV.d (.list ds), (S ++ T').take (S ++ T).length) = _
      rw [len_sh, take_sh]
      rfl
    | rt v T' =>
      cases v with
      | d x =>
        show some (PV.d x, (S ++ T').take (S ++ T).length) = _
        rw [len_sh, take_sh]
        rfl
      | f _ => first | rfl | exact h | (cases e; done) | (cases e1; done) | (cases e2; done) | (cases e3; done) | (cases e4; done) | (cases e5; done) | (cases e6; done) | (cases h; done) | (cases h1; done) | (cases h2; done) | (cases h3; done) | (cases b; done) | (cases q; done) | exact h.elim | exact g.elim | exact r.elim | exact r.1.elim | exact r1.elim | exact r2.elim | exact z.elim | exact h1.elim | contradiction | (cases y <;> rfl) | (cases x <;> rfl) | (cases q <;> rfl) | (cases a <;> rfl) | exact L _ _ | exact L _ | (simp_all; done)
      | c j =>
        show (if S.length + j < (S ++ T).length then some (PV.c (S.length + j), (S ++ T').take (S ++ T).length) else (lAt (S ++ T') (S.length + j)).map fun ds => (PV.d (.list ds), (S ++ T').take (S ++ T).length)) = Option.map _ (if j < T.length then some (PV.c j, T'.take T.length) else (lAt T' j).map fun ds => (PV.d (.list ds), T'.take T.length))
        rw [len_sh, take_sh, lAt_sh]
        by_cases h : j < T.length
        · rw [if_pos h, if_pos (by omega)]
          rfl
        · rw [if_neg h, if_neg (by omega)]
          cases lAt T' j <;> rfl⟩
instance (N : Nat) (g : MS) [FrS g] : FrFL (runL N g) := ⟨fun xs S T => by
  unfold runL
  rw [sh_start, FrS.fr (m := g)]
  cases g (xs.map some ++ List.replicate (N - xs.length) none) T with
  | none => rfl
  | some o =>
    cases o with
    | bk _ _ => rfl
    | ct _ _ => rfl
    | nx _ _ => rfl
    | rt _ _ => rfl
    | rl ds T' =>
      show some (ds, (S ++ T').take (S ++ T).length) = _
      rw [len_sh, take_sh]
      rfl⟩
instance : FrFL (fun _ _ => none) := ⟨fun _ _ _ => rfl⟩
instance : FrF (fun _ _ => none) := ⟨fun _ _ _ => rfl⟩
/-- a def asked with data alone, whatever stands in the store -/
theorem map_data (n : Nat) (ds : List PyData) : (ds.map PV.d).map (shV n) = ds.map .d := by
  rw [List.map_map]
  rfl
theorem frame {F : FV} [FrF F] {ds : List PyData} {x : PyData} {T : Sto} (h : F (ds.map .d) [] = some (.d x, T)) (S : Sto) : F (ds.map .d) S = some (.d x, S ++ T) := by
  have z := FrF.fr (F := F) (ds.map .d) S []
  rw [map_data, List.append_nil, h] at z
  exact z
end DL

namespace DL
open PySem PySem.Spec PyProof.Rows L2 DK

/-! ### a law's draws -/
def gDraw : MS :=
    (sSeq (sPut (mVar 0) (mC (.int (3))) (mOp fAdd (mOp fIx (mVar 0) (mC (.int (3)))) (mC (.int (1)))))
    (sSeq (sIf (asB (mOp fEq (mOp fIx (mVar 0) (mC (.int (2)))) (mC (.int (0))))) (sSeq (sSet 2 (mOp fIx (mOp fIx (mVar 0) (mC (.int (0)))) (mOp fMod (mOp fIx (mVar 0) (mC (.int (1)))) (mCall cLen (mCons (mOp fIx (mVar 0) (mC (.int (0)))) mNil)))))
    (sSeq (sPut (mVar 0) (mC (.int (1))) (mOp fAdd (mOp fIx (mVar 0) (mC (.int (1)))) (mC (.int (1)))))
    (sSeq (sIf (asB (mOp fLt (mVar 2) (mOp fPow (mC (.int (10))) (mC (.int (18)))))) (sSeq (sSet 3 (mOp fMod (mOp fPow (mOp fAdd (mOp fAdd (mOp fMod (mVar 2) (mC (.int (2147483629)))) (mOp fMul (mC (.int (40763))) (mOp fIx (mVar 0) (mC (.int (3)))))) (mC (.int (1013)))) (mC (.int (5)))) (mC (.int (2147483647)))))
    (sSeq (sSet 3 (mOp fAdd (mOp fMod (mVar 3) (mC (.int (1000003)))) (mC (.int (7)))))
    (sSeq (sSet 3 (mOp fMod (mOp fMul (mVar 3) (mOp fAdd (mOp fMod (mOp fMul (mOp fIx (mVar 0) (mC (.int (3)))) (mOp fIx (mVar 0) (mC (.int (3))))) (mC (.int (99991)))) (mC (.int (104729))))) (mC (.int (2147483587)))))
    (sRet (mOp fMod (mOp fDiv (mVar 3) (mC (.int (11)))) (mVar 1)))))) sNil)
    (sPut (mVar 0) (mC (.int (2))) (mVar 2))))) sNil)
    (sSeq (sSet 4 (mOp fMod (mOp fIx (mVar 0) (mC (.int (2)))) (mVar 1)))
    (sSeq (sPut (mVar 0) (mC (.int (2))) (mOp fDiv (mOp fIx (mVar 0) (mC (.int (2)))) (mVar 1)))
    (sRet (mVar 4))))))
def FDraw : FV := runF 5 gDraw
def feedC (ms : List Int) (i c k : Int) : List PyData := [.list (ms.map .int), .int i, .int c, .int k]

/-! how the pieces come out -/
theorem fEq_int (a b : Int) (S : Sto) : fEq (.d (.int a)) (.d (.int b)) S = some (.d (.bool (a == b))) := by
  unfold fEq
  rfl
theorem fmod_pos {a b : Int} (h : 0 < b) : a.fmod b = a % b := Int.fmod_eq_emod_of_nonneg a (by omega)
theorem fdiv_pos {a b : Int} (h : 0 < b) : a.fdiv b = a / b := Int.fdiv_eq_ediv_of_nonneg a (by omega)
theorem fMod_int {a b : Int} (h : 0 < b) (S : Sto) : fMod (.d (.int a)) (.d (.int b)) S = some (.d (.int (a % b))) := by
  show (if modOk a b = true then some (PV.d (.int (a.fmod b))) else none) = _
  rw [if_pos (by unfold modOk; simp; omega), fmod_pos h]
theorem fDiv_int {a b : Int} (h : 0 < b) (hl : b.natAbs.log2 < 9000) (S : Sto) : fDiv (.d (.int a)) (.d (.int b)) S = some (.d (.int (a / b))) := by
  show (if divOk a b = true then some (PV.d (.int (a.fdiv b))) else none) = _
  rw [if_pos (by unfold divOk; simp; exact ⟨by omega, hl⟩), fdiv_pos h]
theorem fMul_l {a b : Int} (h1 : -(2 ^ 64) < a) (h2 : a < 2 ^ 64) (S : Sto) : fMul (.d (.int a)) (.d (.int b)) S = some (.d (.int (a * b))) := by
  show (if mulOk a b = true then some (PV.d (.int (a * b))) else none) = _
  rw [if_pos (by unfold mulOk; simp only [Bool.or_eq_true, Bool.and_eq_true, decide_eq_true_eq]; exact .inl (.inl ⟨h1, h2⟩))]
theorem fPow_int {a b : Int} (h0 : 0 ≤ b) (h1 : b ≤ 1000000) (h2 : a.natAbs < 2 ^ 64) (S : Sto) : fPow (.d (.int a)) (.d (.int b)) S = some (.d (.int (a ^ b.toNat))) := by
  show (if powOk a b = true then some (PV.d (.int (a ^ b.toNat))) else none) = _
  rw [if_pos (by unfold powOk; simp only [Bool.and_eq_true, decide_eq_true_eq]; exact ⟨⟨h0, h1⟩, h2⟩)]
theorem set_get (S : Sto) {j : Nat} (h : j < S.length) (x : Cell) : (S.set j x)[j]? = some x := List.getElem?_set_self h
theorem len_set (S : Sto) (j : Nat) (x : Cell) : (S.set j x).length = S.length := List.length_set
theorem set_set (S : Sto) (j : Nat) (x y : Cell) : (S.set j x).set j y = S.set j y := List.set_set ..
/-- an item of the feed -/
theorem fIx_cell {S : Sto} {j : Nat} {ds : List PyData} {z : Int} {y : PyData} (h : S[j]? = some ds) (e : atI ds z = some y) : fIx (.c j) (.d (.int z)) S = some (.d y) := by
  show ((itemsOf S (.c j)).bind fun ds => (atI ds z).map PV.d) = _
  rw [show itemsOf S (.c j) = some ds from lAt_some.mpr h]
  show (atI ds z).map PV.d = _
  rw [e]
  rfl
theorem atI_f0 (a b c d : PyData) : atI [a, b, c, d] 0 = some a := rfl
theorem atI_f1 (a b c d : PyData) : atI [a, b, c, d] 1 = some b := rfl
theorem atI_f2 (a b c d : PyData) : atI [a, b, c, d] 2 = some c := rfl
theorem atI_f3 (a b c d : PyData) : atI [a, b, c, d] 3 = some d := rfl
/-- a cell's item put -/
theorem sPut_cell {mo mi mv : M} {ρ : RE} {S : Sto} {j : Nat} {z : Int} {y : PyData} {ds : List PyData} {n : Nat} (h1 : mv ρ S = some (.d y, S)) (h2 : mo ρ S = some (.c j, S)) (h3 : mi ρ S = some (.d (.int z), S)) (h4 : S[j]? = some ds) (h5 : ixN ds.length z = some n) :
    sPut mo mi mv ρ S = some (.nx ρ (S.set j (ds.set n y))) := by
  unfold sPut
  rw [h1]
  show (mo ρ S).bind _ = _
  rw [h2]
  show (mi ρ S).bind _ = _
  rw [h3]
  show (lAt S j).bind _ = _
  rw [lAt_some.mpr h4]
  show (ixN ds.length z).bind _ = _
  rw [h5]
  rfl
theorem mOp_of {f : PV → PV → Sto → Option PV} {a b : M} {ρ : RE} {S S1 S2 : Sto} {x y z : PV} (h1 : a ρ S = some (x, S1)) (h2 : b ρ S1 = some (y, S2)) (h3 : f x y S2 = some z) : mOp f a b ρ S = some (z, S2) := by
  unfold mOp
  rw [h1]
  show (b ρ S1).bind _ = _
  rw [h2]
  show (f x y S2).bind _ = _
  rw [h3]
  rfl
theorem sSeq_nx {a b : MS} {ρ ρ' : RE} {S S' : Sto} (h : a ρ S = some (.nx ρ' S')) : sSeq a b ρ S = b ρ' S' := by
  unfold sSeq
  rw [h]
  rfl
theorem sSeq_rt {a b : MS} {ρ : RE} {S S' : Sto} {v : PV} (h : a ρ S = some (.rt v S')) : sSeq a b ρ S = some (.rt v S') := by
  unfold sSeq
  rw [h]
  rfl
theorem sIf_t {c : MB} {a b : MS} {ρ : RE} {S S' : Sto} (h : c ρ S = some (true, S')) : sIf c a b ρ S = a ρ S' := by
  unfold sIf
  rw [h]
  rfl
theorem sIf_f {c : MB} {a b : MS} {ρ : RE} {S S' : Sto} (h : c ρ S = some (false, S')) : sIf c a b ρ S = b ρ S' := by
  unfold sIf
  rw [h]
  rfl
theorem asB_of {m : M} {ρ : RE} {S S' : Sto} {b : Bool} (h : m ρ S = some (.d (.bool b), S')) : asB m ρ S = some (b, S') := by
  unfold asB
  rw [h]
  rfl
theorem sSet_of {i : Nat} {m : M} {ρ : RE} {S S' : Sto} {v : PV} (h : m ρ S = some (v, S')) : sSet i m ρ S = some (.nx (ρ.set i (some v)) S') := by
  unfold sSet
  rw [h]
  rfl
theorem sRet_of {m : M} {ρ : RE} {S S' : Sto} {v : PV} (h : m ρ S = some (v, S')) : sRet m ρ S = some (.rt v S') := by
  unfold sRet
  rw [h]
  rfl
theorem small_pow {u k : Int} (h0 : 0 ≤ u) (h1 : u < 2147483629) (h2 : 0 ≤ k) (h3 : k ≤ 1000000000) : (u + 40763 * k + 1013).natAbs < 2 ^ 64 := by
  have : (2 : Nat) ^ 64 = 18446744073709551616 := by decide
  omega
theorem draw_spec {S : Sto} {j : Nat} {ms : List Int} {i c k many : Int} (hS : S[j]? = some (feedC ms i c k)) (hm : ms ≠ []) (hi : 0 ≤ i) (hk : 0 ≤ k) (hk2 : k ≤ 999999999) (hp : 0 < many) (hl : many.natAbs.log2 < 9000) :
    ∃ r i' c', FDraw [.c j, .d (.int many)] S = some (.d (.int r), S.set j (feedC ms i' c' (k + 1))) ∧ 0 ≤ r ∧ r < many ∧ 0 ≤ i' := by
  have hj : j < S.length := (List.getElem?_eq_some_iff.mp hS).1
  have hml : 0 < ms.length := List.length_pos_iff.mpr hm
  -- the first statement
  have e1 : ∀ ρ : RE, ρ[0]? = some (some (.c j)) → sPut (mVar 0) (mC (.int 3)) (mOp fAdd (mOp fIx (mVar 0) (mC (.int 3))) (mC (.int 1))) ρ S = some (.nx ρ (S.set j (feedC ms i c (k + 1)))) := fun ρ h => by
    have v0 : mVar 0 ρ S = some (.c j, S) := by unfold mVar; rw [h]
    exact sPut_cell (n := 3) (mOp_of (mOp_of v0 rfl (fIx_cell hS (atI_f3 ..))) rfl rfl) v0 rfl hS rfl
  have rd : ∀ {T : Sto} {i c k : Int} {ρ : RE} (q : PyData) (z : Int), T[j]? = some (feedC ms i c k) → ρ[0]? = some (some (.c j)) → atI (feedC ms i c k) z = some q → mOp fIx (mVar 0) (mC (.int z)) ρ T = some (.d q, T) := fun {T i c k ρ} q z h1 h2 h3 => by
    have v0 : mVar 0 ρ T = some (.c j, T) := by unfold mVar; rw [h2]
    exact mOp_of v0 rfl (fIx_cell h1 h3)
  have pt : ∀ {T : Sto} {i c k : Int} {ρ : RE} {mv : M} (z : Int) (n : Nat) (y : PyData), T[j]? = some (feedC ms i c k) → ρ[0]? = some (some (.c j)) → mv ρ T = some (.d y, T) → ixN 4 z = some n → sPut (mVar 0) (mC (.int z)) mv ρ T = some (.nx ρ (T.set j ((feedC ms i c k).set n y))) := fun {T i c k ρ mv} z n y h1 h2 h3 h4 => by
    have v0 : mVar 0 ρ T = some (.c j, T) := by unfold mVar; rw [h2]
    exact sPut_cell h3 v0 rfl h1 h4
  generalize hT : S.set j (feedC ms i c (k + 1)) = T at e1
  have tj : T[j]? = some (feedC ms i c (k + 1)) := by rw [← hT]; exact set_get S hj _
  have tl : j < T.length := by rw [← hT, len_set]; exact hj
  -- the figures of a great cell
  have tail : ∀ {U : Sto} {i2 c2 : Int} {ρ : RE}, U[j]? = some (feedC ms i2 c2 (k + 1)) → ρ[0]? = some (some (.c j)) → ρ[1]? = some (some (.d (.int many))) → 4 < ρ.length → (sSeq (sSet 4 (mOp fMod (mOp fIx (mVar 0) (mC (.int (2)))) (mVar 1)))
    (sSeq (sPut (mVar 0) (mC (.int (2))) (mOp fDiv (mOp fIx (mVar 0) (mC (.int (2)))) (mVar 1)))
    (sRet (mVar 4)))) ρ U = some (.rt (.d (.int (c2 % many))) (U.set j (feedC ms i2 (c2 / many) (k + 1)))) := fun {U i2 c2 ρ} h1 h2 h3 h4 => by
    have v1 : ∀ {ρ : RE}, ρ[1]? = some (some (.d (.int many))) → mVar 1 ρ U = some (.d (.int many), U) := fun {ρ} h => by unfold mVar; rw [h]
    rw [sSeq_nx (sSet_of (mOp_of (rd _ 2 h1 h2 (atI_f2 ..)) (v1 h3) (fMod_int hp U)))]
    have h2' : (ρ.set 4 (some (.d (.int (c2 % many)))))[0]? = some (some (.c j)) := by rw [List.getElem?_set_ne (by decide)]; exact h2
    have h3' : (ρ.set 4 (some (.d (.int (c2 % many)))))[1]? = some (some (.d (.int many))) := by rw [List.getElem?_set_ne (by decide)]; exact h3
    rw [sSeq_nx (pt 2 2 _ h1 h2' (mOp_of (rd _ 2 h1 h2' (atI_f2 ..)) (v1 h3') (fDiv_int hp hl U)) rfl)]
    refine sRet_of ?_
    unfold mVar
    rw [List.getElem?_set_self h4]
    rfl
  unfold FDraw runF
  show ∃ r i' c', (gDraw [some (.c j), some (.d (.int many)), none, none, none] S).bind _ = _ ∧ _
  unfold gDraw
  rw [sSeq_nx (e1 _ rfl)]
  by_cases hc : c = 0
  · -- a cell of the script
    subst hc
    have hx : ∃ x, ms[(i % (ms.length : Int)).toNat]? = some x := by
      have b1 := Int.emod_nonneg i (show (ms.length : Int) ≠ 0 by omega)
      have b2 := Int.emod_lt_of_pos i (show (0 : Int) < ms.length by omega)
      exact ⟨_, List.getElem?_eq_getElem (by omega)⟩
    obtain ⟨x, hx⟩ := hx
    have hxa : atI (ms.map PyData.int) (i % (ms.length : Int)) = some (.int x) := by
      have b1 := Int.emod_nonneg i (show (ms.length : Int) ≠ 0 by omega)
      have b2 := Int.emod_lt_of_pos i (show (0 : Int) < ms.length by omega)
      unfold atI ixN
      rw [List.length_map, if_pos b1, if_pos b2]
      show (ms.map PyData.int)[(i % (ms.length : Int)).toNat]? = _
      rw [List.getElem?_map, hx]
      rfl
    have cond : asB (mOp fEq (mOp fIx (mVar 0) (mC (.int 2))) (mC (.int 0))) [some (.c j), some (.d (.int many)), none, none, none] T = some (true, T) := asB_of (mOp_of (rd _ 2 tj rfl (atI_f2 ..)) rfl (fEq_int 0 0 T))
    have cell : mOp fIx (mOp fIx (mVar 0) (mC (.int 0))) (mOp fMod (mOp fIx (mVar 0) (mC (.int 1))) (mCall cLen (mCons (mOp fIx (mVar 0) (mC (.int 0))) mNil))) [some (.c j), some (.d (.int many)), none, none, none] T = some (.d (.int x), T) := by
      have a0 := rd (ρ := [some (.c j), some (.d (.int many)), none, none, none]) _ 0 tj rfl (atI_f0 ..)
      have ln : mCall cLen (mCons (mOp fIx (mVar 0) (mC (.int 0))) mNil) [some (.c j), some (.d (.int many)), none, none, none] T = some (.d (.int (ms.length : Int)), T) := by
        unfold mCall mCons
        rw [a0]
        show some (PV.d (.int ((ms.map PyData.int).length : Int)), T) = _
        rw [List.length_map]
      refine mOp_of a0 (mOp_of (rd _ 1 tj rfl (atI_f1 ..)) ln (fMod_int (by omega) T)) ?_
      show (atI (ms.map PyData.int) (i % (ms.length : Int))).map PV.d = _
      rw [hxa]
      rfl
    generalize hU : T.set j (feedC ms (i + 1) 0 (k + 1)) = U
    have uj : U[j]? = some (feedC ms (i + 1) 0 (k + 1)) := by rw [← hU]; exact set_get T tl _
    have put1 : ∀ ρ : RE, ρ[0]? = some (some (.c j)) → sPut (mVar 0) (mC (.int 1)) (mOp fAdd (mOp fIx (mVar 0) (mC (.int 1))) (mC (.int 1))) ρ T = some (.nx ρ U) := fun ρ h => by
      rw [pt 1 1 (.int (i + 1)) tj h (mOp_of (rd _ 1 tj h (atI_f1 ..)) rfl rfl) rfl, ← hU]
      rfl
    by_cases hx18 : x < 10 ^ 18
    · -- mixed
      have inner : ∃ r, (sSeq (sSet 2 (mOp fIx (mOp fIx (mVar 0) (mC (.int (0)))) (mOp fMod (mOp fIx (mVar 0) (mC (.int (1)))) (mCall cLen (mCons (mOp fIx (mVar 0) (mC (.int (0)))) mNil)))))
    (sSeq (sPut (mVar 0) (mC (.int (1))) (mOp fAdd (mOp fIx (mVar 0) (mC (.int (1)))) (mC (.int (1)))))
    (sSeq (sIf (asB (mOp fLt (mVar 2) (mOp fPow (mC (.int (10))) (mC (.int (18)))))) (sSeq (sSet 3 (mOp fMod (mOp fPow (mOp fAdd (mOp fAdd (mOp fMod (mVar 2) (mC (.int (2147483629)))) (mOp fMul (mC (.int (40763))) (mOp fIx (mVar 0) (mC (.int (3)))))) (mC (.int (1013)))) (mC (.int (5)))) (mC (.int (2147483647)))))
    (sSeq (sSet 3 (mOp fAdd (mOp fMod (mVar 3) (mC (.int (1000003)))) (mC (.int (7)))))
    (sSeq (sSet 3 (mOp fMod (mOp fMul (mVar 3) (mOp fAdd (mOp fMod (mOp fMul (mOp fIx (mVar 0) (mC (.int (3)))) (mOp fIx (mVar 0) (mC (.int (3))))) (mC (.int (99991)))) (mC (.int (104729))))) (mC (.int (2147483587)))))
    (sRet (mOp fMod (mOp fDiv (mVar 3) (mC (.int (11)))) (mVar 1)))))) sNil)
    (sPut (mVar 0) (mC (.int (2))) (mVar 2))))) [some (.c j), some (.d (.int many)), none, none, none] T = some (.rt (.d (.int r)) U) ∧ 0 ≤ r ∧ r < many := by
        rw [sSeq_nx (sSet_of cell)]
        show ∃ r, (sSeq _ _) [some (.c j), some (.d (.int many)), some (.d (.int x)), none, none] T = _ ∧ _
        rw [sSeq_nx (put1 _ rfl)]
        have c18 : asB (mOp fLt (mVar 2) (mOp fPow (mC (.int (10))) (mC (.int (18))))) [some (.c j), some (.d (.int many)), some (.d (.int x)), none, none] U = some (true, U) := by
          refine asB_of (mOp_of (z := .d (.bool true)) rfl (mOp_of rfl rfl (fPow_int (by decide) (by decide) (by decide) U)) ?_)
          show some (PV.d (.bool (decide (x < 10 ^ 18)))) = _
          rw [decide_eq_true hx18]
        have k3 : ∀ ρ : RE, ρ[0]? = some (some (.c j)) → mOp fIx (mVar 0) (mC (.int (3))) ρ U = some (.d (.int (k + 1)), U) := fun ρ h => rd _ 3 uj h (atI_f3 ..)
        have u0 := Int.emod_nonneg x (show (2147483629 : Int) ≠ 0 by decide)
        have u1 := Int.emod_lt_of_pos x (show (0 : Int) < 2147483629 by decide)
        let w1 : Int := (x % 2147483629 + 40763 * (k + 1) + 1013) ^ 5 % 2147483647
        let w2 : Int := w1 % 1000003 + 7
        have w20 := Int.emod_nonneg w1 (show (1000003 : Int) ≠ 0 by decide)
        have w21 := Int.emod_lt_of_pos w1 (show (0 : Int) < 1000003 by decide)
        let w3 : Int := w2 * ((k + 1) * (k + 1) % 99991 + 104729) % 2147483587
        have m1 : mOp fMod (mOp fPow (mOp fAdd (mOp fAdd (mOp fMod (mVar 2) (mC (.int (2147483629)))) (mOp fMul (mC (.int (40763))) (mOp fIx (mVar 0) (mC (.int (3)))))) (mC (.int (1013)))) (mC (.int (5)))) (mC (.int (2147483647))) [some (.c j), some (.d (.int many)), some (.d (.int x)), none, none] U = some (.d (.int w1), U) :=
          mOp_of (mOp_of (mOp_of (mOp_of (mOp_of rfl rfl (fMod_int (by decide) U)) (mOp_of rfl (k3 _ rfl) (fMul_l (by decide) (by decide) U)) rfl) rfl rfl) rfl (fPow_int (by decide) (by decide) (small_pow u0 u1 (by omega) (by omega)) U)) rfl (fMod_int (by decide) U)
        have m2 : mOp fAdd (mOp fMod (mVar 3) (mC (.int (1000003)))) (mC (.int (7))) [some (.c j), some (.d (.int many)), some (.d (.int x)), some (.d (.int w1)), none] U = some (.d (.int w2), U) := mOp_of (mOp_of rfl rfl (fMod_int (by decide) U)) rfl rfl
        have m3 : mOp fMod (mOp fMul (mVar 3) (mOp fAdd (mOp fMod (mOp fMul (mOp fIx (mVar 0) (mC (.int (3)))) (mOp fIx (mVar 0) (mC (.int (3))))) (mC (.int (99991)))) (mC (.int (104729))))) (mC (.int (2147483587))) [some (.c j), some (.d (.int many)), some (.d (.int x)), some (.d (.int w2)), none] U = some (.d (.int w3), U) := by
          have z64 : (18446744073709551616 : Int) = 2 ^ 64 := by decide
          refine mOp_of (mOp_of rfl (mOp_of (mOp_of (mOp_of (k3 _ rfl) (k3 _ rfl) (fMul_l (by omega) (by omega) U)) rfl (fMod_int (by decide) U)) rfl rfl) (fMul_l (b := (k + 1) * (k + 1) % 99991 + 104729) ?_ ?_ U)) rfl (fMod_int (by decide) U)
          · show -(2 ^ 64) < w1 % 1000003 + 7
            omega
          · show w1 % 1000003 + 7 < 2 ^ 64
            omega
        have m4 : mOp fMod (mOp fDiv (mVar 3) (mC (.int (11)))) (mVar 1) [some (.c j), some (.d (.int many)), some (.d (.int x)), some (.d (.int w3)), none] U = some (.d (.int (w3 / 11 % many)), U) := mOp_of (mOp_of rfl rfl (fDiv_int (by decide) (by decide) U)) rfl (fMod_int hp U)
        refine ⟨w3 / 11 % many, sSeq_rt ?_, Int.emod_nonneg _ (by omega), Int.emod_lt_of_pos _ hp⟩
        rw [sIf_t c18, sSeq_nx (sSet_of m1)]
        show (sSeq _ _) [some (.c j), some (.d (.int many)), some (.d (.int x)), some (.d (.int w1)), none] U = _
        rw [sSeq_nx (sSet_of m2)]
        show (sSeq _ _) [some (.c j), some (.d (.int many)), some (.d (.int x)), some (.d (.int w2)), none] U = _
        rw [sSeq_nx (sSet_of m3)]
        exact sRet_of m4
      obtain ⟨r, e, r0, r1⟩ := inner
      refine ⟨r, i + 1, 0, ?_, r0, r1, by omega⟩
      rw [sSeq_rt (by rw [sIf_t cond]; exact e)]
      show some (PV.d (.int r), U.take S.length) = _
      rw [List.take_of_length_le (by rw [← hU, len_set, ← hT, len_set]; exact Nat.le_refl _), ← hU, ← hT, set_set]
    · -- a great one
      have c18 : asB (mOp fLt (mVar 2) (mOp fPow (mC (.int (10))) (mC (.int (18))))) [some (.c j), some (.d (.int many)), some (.d (.int x)), none, none] U = some (false, U) := by
        refine asB_of (mOp_of (z := .d (.bool false)) rfl (mOp_of rfl rfl (fPow_int (by decide) (by decide) (by decide) U)) ?_)
        show some (PV.d (.bool (decide (x < 10 ^ 18)))) = _
        rw [decide_eq_false hx18]
      generalize hW : U.set j (feedC ms (i + 1) x (k + 1)) = W
      have ul : j < U.length := by rw [← hU, len_set]; exact tl
      have wj : W[j]? = some (feedC ms (i + 1) x (k + 1)) := by rw [← hW]; exact set_get U ul _
      have put2 : sPut (mVar 0) (mC (.int (2))) (mVar 2) [some (.c j), some (.d (.int many)), some (.d (.int x)), none, none] U = some (.nx [some (.c j), some (.d (.int many)), some (.d (.int x)), none, none] W) := by
        rw [pt 2 2 (.int x) uj rfl rfl rfl, ← hW]
        rfl
      refine ⟨x % many, i + 1, x / many, ?_, Int.emod_nonneg _ (by omega), Int.emod_lt_of_pos _ hp, by omega⟩
      rw [sSeq_nx (ρ' := [some (.c j), some (.d (.int many)), some (.d (.int x)), none, none]) (S' := W) (by
        rw [sIf_t cond, sSeq_nx (sSet_of cell)]
        show (sSeq _ _) [some (.c j), some (.d (.int many)), some (.d (.int x)), none, none] T = _
        rw [sSeq_nx (put1 _ rfl), sSeq_nx (ρ' := [some (.c j), some (.d (.int many)), some (.d (.int x)), none, none]) (S' := U) (by rw [sIf_f c18]; rfl)]
        exact put2)]
      rw [tail wj rfl rfl (by simp)]
      show some (PV.d (.int (x % many)), (W.set j _).take S.length) = _
      rw [List.take_of_length_le (by rw [len_set, ← hW, len_set, ← hU, len_set, ← hT, len_set]; exact Nat.le_refl _), ← hW, ← hU, ← hT, set_set, set_set, set_set]
  · have cond : asB (mOp fEq (mOp fIx (mVar 0) (mC (.int 2))) (mC (.int 0))) [some (.c j), some (.d (.int many)), none, none, none] T = some (false, T) := by
      refine asB_of (mOp_of (z := .d (.bool false)) (rd _ 2 tj rfl (atI_f2 ..)) rfl ?_)
      rw [fEq_int, beq_eq_false_iff_ne.mpr hc]
    refine ⟨c % many, i, c / many, ?_, Int.emod_nonneg _ (by omega), Int.emod_lt_of_pos _ hp, hi⟩
    rw [sSeq_nx (ρ' := [some (.c j), some (.d (.int many)), none, none, none]) (S' := T) (by rw [sIf_f cond]; rfl), tail tj rfl rfl (by simp)]
    show some (PV.d (.int (c % many)), (T.set j _).take S.length) = _
    rw [List.take_of_length_le (by rw [len_set, ← hT, len_set]; exact Nat.le_refl _), ← hT, set_set]
end DL

namespace DL
open PySem PySem.Spec PyProof.Rows L2 DK
/-- a list's items, drawn one by one, and the like -/
theorem mCons_of {m : M} {ms : MA} {ρ : RE} {S S1 S2 : Sto} {v : PV} {vs : List PV} (h1 : m ρ S = some (v, S1)) (h2 : ms ρ S1 = some (vs, S2)) : mCons m ms ρ S = some (v :: vs, S2) := by
  unfold mCons
  rw [h1]
  show (ms ρ S1).bind _ = _
  rw [h2]
  rfl
theorem mFn_of {n : Nat} {F : FV} {m : MA} {ρ : RE} {S S1 S2 : Sto} {vs : List PV} {v : PV} (h1 : m ρ S = some (vs, S1)) (hn : vs.length = n) (h2 : F vs S1 = some (v, S2)) : mFn n F m ρ S = some (v, S2) := by
  unfold mFn
  rw [h1]
  show (if vs.length = n then F vs S1 else none) = _
  rw [if_pos hn, h2]
theorem mFnL_of {n : Nat} {F : FL} {m : MA} {ρ : RE} {S S1 S2 : Sto} {vs : List PV} {v : List PyData} (h1 : m ρ S = some (vs, S1)) (hn : vs.length = n) (h2 : F vs S1 = some (v, S2)) : mFnL n F m ρ S = some (v, S2) := by
  unfold mFnL
  rw [h1]
  show (if vs.length = n then F vs S1 else none) = _
  rw [if_pos hn, h2]
theorem mFz_of {m : ML} {ρ : RE} {S S1 : Sto} {ds : List PyData} (h : m ρ S = some (ds, S1)) : mFz m ρ S = some (.d (.list ds), S1) := by
  unfold mFz
  rw [h]
  rfl
theorem sOwn_of {i : Nat} {m : ML} {ρ : RE} {S S1 : Sto} {ds : List PyData} (h : m ρ S = some (ds, S1)) : sOwn i m ρ S = some (.nx (ρ.set i (some (.c S1.length))) (S1 ++ [.l ds])) := by
  unfold sOwn
  rw [h]
  rfl
theorem sDrop_of {m : M} {ρ : RE} {S S1 : Sto} {v : PV} (h : m ρ S = some (v, S1)) : sDrop m ρ S = some (.nx ρ S1) := by
  unfold sDrop
  rw [h]
  rfl
theorem bNot_of {m : MB} {ρ : RE} {S S1 : Sto} {b : Bool} (h : m ρ S = some (b, S1)) : bNot m ρ S = some (!b, S1) := by
  unfold bNot
  rw [h]
  rfl
theorem sFor_of {mi : ML} {tgt : TgD} {body : MS} {ρ : RE} {S S1 : Sto} {xs : List PyData} (h : mi ρ S = some (xs, S1)) : sFor mi tgt body ρ S = forGo tgt body xs ρ S1 := by
  unfold sFor
  rw [h]
  rfl
theorem for_nx {tgt : TgD} {body : MS} {ρ ρ1 ρ' : RE} {S S' : Sto} {x : PyData} {xs : List PyData} (h1 : tgt x ρ = some ρ1) (h2 : body ρ1 S = some (.nx ρ' S')) : forGo tgt body (x :: xs) ρ S = forGo tgt body xs ρ' S' := by
  show (tgt x ρ).bind _ = _
  rw [h1]
  show (body ρ1 S).bind _ = _
  rw [h2]
  rfl
/-- a truth that a run comes to -/
def isT : Option (PV × Sto) → Bool
  | some (.d (.bool true), _) => true
  | _ => false
theorem last_get (S : Sto) (x : Cell) : (S ++ [x])[S.length]? = some x := by simp
theorem last_l (S : Sto) (x : List PyData) : lAt (S ++ [.l x]) S.length = some x := lAt_some.mpr (last_get S _)
theorem last_set (S : Sto) (x y : Cell) : (S ++ [x]).set S.length y = S ++ [y] := by simp
theorem mCallL_of {f : List PV → Sto → Option (List PyData)} {m : MA} {ρ : RE} {S S1 : Sto} {vs : List PV} {z : List PyData} (h1 : m ρ S = some (vs, S1)) (h2 : f vs S1 = some z) : mCallL f m ρ S = some (z, S1) := by
  unfold mCallL
  rw [h1]
  show (f vs S1).bind _ = _
  rw [h2]
  rfl
theorem mCall_of {f : List PV → Sto → Option PV} {m : MA} {ρ : RE} {S S1 : Sto} {vs : List PV} {z : PV} (h1 : m ρ S = some (vs, S1)) (h2 : f vs S1 = some z) : mCall f m ρ S = some (z, S1) := by
  unfold mCall
  rw [h1]
  show (f vs S1).bind _ = _
  rw [h2]
  rfl
theorem mOpL_of {f : PV → PV → Sto → Option (List PyData)} {a b : M} {ρ : RE} {S S1 S2 : Sto} {x y : PV} {z : List PyData} (h1 : a ρ S = some (x, S1)) (h2 : b ρ S1 = some (y, S2)) (h3 : f x y S2 = some z) : mOpL f a b ρ S = some (z, S2) := by
  unfold mOpL
  rw [h1]
  show (b ρ S1).bind _ = _
  rw [h2]
  show (f x y S2).bind _ = _
  rw [h3]
  rfl
theorem mLst_of {m : MA} {ρ : RE} {S S1 : Sto} {vs : List PV} {ds : List PyData} (h1 : m ρ S = some (vs, S1)) (h2 : datas vs = some ds) (h3 : ds.length ≤ 1000) : mLst m ρ S = some (ds, S1) := by
  unfold mLst
  rw [h1]
  show (datas vs).bind _ = _
  rw [h2]
  show (if ds.length ≤ 1000 then some (ds, S1) else none) = _
  rw [if_pos h3]
theorem mTup_of {m : MA} {ρ : RE} {S S1 : Sto} {vs : List PV} {ds : List PyData} (h1 : m ρ S = some (vs, S1)) (h2 : datas vs = some ds) (h3 : ds.length ≤ 1000) : mTup m ρ S = some (.d (.tuple ds), S1) := by
  unfold mTup
  rw [h1]
  show (datas vs).bind _ = _
  rw [h2]
  show (if ds.length ≤ 1000 then some (PV.d (.tuple ds), S1) else none) = _
  rw [if_pos h3]
theorem mSeq_list {m : M} {ρ : RE} {S S1 : Sto} {xs : List PyData} (h : m ρ S = some (.d (.list xs), S1)) : mSeq m ρ S = some (xs, S1) := by
  unfold mSeq
  rw [h]
  rfl
theorem mSeq_tup {m : M} {ρ : RE} {S S1 : Sto} {xs : List PyData} (h : m ρ S = some (.d (.tuple xs), S1)) : mSeq m ρ S = some (xs, S1) := by
  unfold mSeq
  rw [h]
  rfl
theorem cut63 (xs : List PyData) (h : xs.length ≤ 63) : cut xs none (some 63) = xs := by
  refine cut_whole ⟨rfl, ?_⟩
  rw [show (63 : Int) = ((63 : Nat) : Int) from rfl, HT.sIx_nat]
  omega
end DL

namespace DL
open PySem PySem.Spec PyProof.Rows L2 DK
instance (i : Nat) : FrN (fuelAt i) := ⟨fun ρ S T => by
  unfold fuelAt
  have : (shR S.length ρ)[i]? = (ρ[i]?).map (Option.map (shV S.length)) := by
    unfold shR
    rw [List.getElem?_map]
  rw [this]
  cases ρ[i]? with
  | none => rfl
  | some o => cases o with
    | none => rfl
    | some v => cases v with
      | f _ => first | rfl | exact h | (cases e; done) | (cases e1; done) | (cases e2; done) | (cases e3; done) | (cases e4; done) | (cases e5; done) | (cases e6; done) | (cases h; done) | (cases h1; done) | (cases h2; done) | (cases h3; done) | (cases b; done) | (cases q; done) | exact h.elim | exact g.elim | exact r.elim | exact r.1.elim | exact r1.elim | exact r2.elim | exact z.elim | exact h1.elim | contradiction | (cases y <;> rfl) | (cases x <;> rfl) | (cases q <;> rfl) | (cases a <;> rfl) | exact L _ _ | exact L _ | (simp_all; done)
      | c j => rfl
      | d x => rfl⟩
theorem log2_of {n k : Nat} (hk : 0 < k) (h : n < 2 ^ k) : n.log2 < k := by
  by_cases h0 : n = 0
  · subst h0
    exact hk
  · exact (Nat.log2_lt h0).mpr h
theorem shownInt_le {i : Int} (h : i.natAbs.log2 < 1920) : (PyData.shown (.int i)).length ≤ 1921 := by
  have e := int_text_length_le (k := 1920) (by decide) h
  show (Str.ofString (toString i)).length ≤ 1921
  rw [PySem.ofString_length]
  exact e
theorem ok_app {a b : Str} (ha : PyData.strOk a = true) (hb : PyData.strOk b = true) : PyData.strOk (a ++ b) = true := by
  show (a.cps ++ b.cps).all _ = true
  rw [Array.all_append, Bool.and_eq_true]
  exact ⟨ha, hb⟩
theorem ok_str (s : String) : PyData.strOk (Str.ofString s) = true := by
  unfold PyData.strOk
  rw [Array.all_eq_true']
  intro c hc
  have h : c ∈ (Str.ofString s).cps.toList := by simpa using hc
  have e : (Str.ofString s).cps.toList = s.toList.map Char.toNat := by rw [Str.ofString_eq_toList]
  rw [e] at h
  obtain ⟨ch, _, rfl⟩ := List.mem_map.mp h
  have := ch.valid
  apply decide_eq_true
  unfold Char.toNat
  rcases this with h | h
  · have : ch.val.toNat < 0xd800 := h
    omega
  · exact h.2
theorem ok_join {sep : Str} (hs : PyData.strOk sep = true) : ∀ ts : List Str, (∀ t ∈ ts, PyData.strOk t = true) → PyData.strOk (Str.join sep ts) = true
  | [], _ => by
    show (#[] : Array Nat).all _ = true
    simp
  | [x], h => h x (by simp)
  | x :: y :: r, h => ok_app (ok_app (h x (by simp)) hs) (ok_join hs (y :: r) fun t ht => h t (List.mem_cons_of_mem _ ht))
theorem ok_tuple {ts : List Str} (h : ∀ t ∈ ts, PyData.strOk t = true) : PyData.strOk (tupleText ts) = true := ok_app (ok_app (ok_str _) (ok_join (ok_str _) ts h)) (ok_str _)
theorem ok_textFrom : ∀ (ts : List Str) (k : Nat) (acc : Str), PyData.strOk acc = true → (∀ t ∈ ts, PyData.strOk t = true) → PyData.strOk (textFrom k acc ts) = true
  | [], _, _, h, _ => h
  | t :: ts, k, acc, h, g => ok_textFrom ts (k + 1) _ (ok_app (ok_app h (ok_str _)) (g t (by simp))) fun t ht => g t (List.mem_cons_of_mem _ ht)
theorem ok_list {ts : List Str} (h : ∀ t ∈ ts, PyData.strOk t = true) : PyData.strOk (listText ts) = true := ok_app (ok_textFrom ts 0 _ (ok_str _) h) (ok_str _)
theorem ok_int (i : Int) : PyData.strOk (PyData.shown (.int i)) = true := ok_str _
theorem shaped_str {a : Str} (h : PyData.strOk a = true) : SeqAt.shaped (.str a) = true := by
  show (PyData.strOk a && _) = true
  rw [h]
  rfl
theorem fEq_str {a b : Str} (ha : PyData.strOk a = true) (hb : PyData.strOk b = true) (S : Sto) : fEq (.d (.str a)) (.d (.str b)) S = some (.d (.bool (a == b))) := by
  show (if (SeqAt.shaped (.str a) && SeqAt.shaped (.str b)) = true then some (PV.d (.bool (PyData.eqv (.str a) (.str b)))) else none) = _
  rw [shaped_str ha, shaped_str hb]
  rfl
theorem fNe_str {a b : Str} (ha : PyData.strOk a = true) (hb : PyData.strOk b = true) (S : Sto) : fNe (.d (.str a)) (.d (.str b)) S = some (.d (.bool (!(a == b)))) := by
  show (if (SeqAt.shaped (.str a) && SeqAt.shaped (.str b)) = true then some (PV.d (.bool (!PyData.eqv (.str a) (.str b)))) else none) = _
  rw [shaped_str ha, shaped_str hb]
  rfl
end DL

namespace DL
open PySem PySem.Spec PyProof.Rows L2 DK
/-! the program's ratios -/
theorem while_t {c : MB} {body : MS} {k : Nat} {ρ ρ' : RE} {S S1 S' : Sto} (h : c ρ S = some (true, S1)) (b : body ρ S1 = some (.nx ρ' S')) : whileGo c body (k + 1) ρ S = whileGo c body k ρ' S' := by
  show (c ρ S).bind _ = _
  rw [h]
  show (body ρ S1).bind _ = _
  rw [b]
  rfl
theorem while_f {c : MB} {body : MS} {k : Nat} {ρ : RE} {S S1 : Sto} (h : c ρ S = some (false, S1)) : whileGo c body (k + 1) ρ S = some (.nx ρ S1) := by
  show (c ρ S).bind _ = _
  rw [h]
  rfl
end DL

namespace DL
open PySem PySem.Spec PyProof.Rows L2 DK
/-! a feed alone in the store; functions, loops, comprehensions as they come out -/
def Fed (ms : List Int) (k : Int) (S : Sto) : Prop := ∃ i c j, S = [.l (feedC ms i c j)] ∧ 0 ≤ i ∧ 0 ≤ j ∧ j ≤ k
theorem Fed.len {ms : List Int} {k : Int} {S : Sto} (h : Fed ms k S) : S.length = 1 := by
  obtain ⟨i, c, j, rfl, _⟩ := h
  rfl
theorem Fed.mono {ms : List Int} {k l : Int} {S : Sto} (h : Fed ms k S) (hk : k ≤ l) : Fed ms l S := by
  obtain ⟨i, c, j, rfl, a, b, d⟩ := h
  exact ⟨i, c, j, rfl, a, b, by omega⟩
theorem log2_small {n : Int} (h0 : 0 ≤ n) (h : n ≤ 1000000000) : n.natAbs.log2 < 9000 := by
  refine log2_of (by decide) (Nat.lt_of_lt_of_le (m := 2 ^ 40) ?_ (Nat.pow_le_pow_right (by decide) (by decide)))
  have : (2 : Nat) ^ 40 = 1099511627776 := by decide
  omega
theorem runF_of {N : Nat} {g : MS} {ps : List PV} {ρ : RE} {S S' : Sto} {x : PyData} (he : ps.map some ++ List.replicate (N - ps.length) none = ρ) (h : g ρ S = some (.rt (.d x) S')) (hl : S'.length ≤ S.length) : runF N g ps S = some (.d x, S') := by
  unfold runF
  rw [he, h]
  show some (_, S'.take S.length) = _
  rw [List.take_of_length_le hl]
theorem mIf_t {c : MB} {a b : M} {ρ : RE} {S S' : Sto} (h : c ρ S = some (true, S')) : mIf c a b ρ S = a ρ S' := by
  unfold mIf
  rw [h]
  rfl
theorem mIf_f {c : MB} {a b : M} {ρ : RE} {S S' : Sto} (h : c ρ S = some (false, S')) : mIf c a b ρ S = b ρ S' := by
  unfold mIf
  rw [h]
  rfl
theorem if_nx {c : MB} {a : MS} {ρ : RE} {S S' : Sto} (h : c ρ S = some (false, S')) : sIf c a sNil ρ S = some (.nx ρ S') := by
  rw [sIf_f h]
  rfl
theorem fLt_int (a b : Int) (S : Sto) : fLt (.d (.int a)) (.d (.int b)) S = some (.d (.bool (decide (a < b)))) := rfl
theorem fGt_int (a b : Int) (S : Sto) : fGt (.d (.int a)) (.d (.int b)) S = some (.d (.bool (decide (a > b)))) := rfl
theorem mRng1_of {m : M} {ρ : RE} {S S1 : Sto} {j : Int} (h : m ρ S = some (.d (.int j), S1)) (h0 : 0 ≤ j) (h1 : j ≤ 1000000) : mRng1 m ρ S = some (rangeD 0 j.toNat, S1) := by
  unfold mRng1
  rw [h]
  show (if -1000000 ≤ j ∧ j ≤ 1000000 then _ else none) = _
  rw [if_pos ⟨by omega, h1⟩]
end DL

namespace DL
open PySem PySem.Spec PyProof.Rows L2 DK
/-! a feed at the head of the store, whatever lies behind it -/
def FedT (ms : List Int) (k : Int) (T S : Sto) : Prop := ∃ i c j, S = .l (feedC ms i c j) :: T ∧ 0 ≤ i ∧ 0 ≤ j ∧ j ≤ k
section
variable {ms : List Int} {k : Int} {T S : Sto}
theorem FedT.len (h : FedT ms k T S) : S.length = T.length + 1 := by
  obtain ⟨i, c, j, rfl, _⟩ := h
  rfl
theorem FedT.mono {l : Int} (h : FedT ms k T S) (hk : k ≤ l) : FedT ms l T S := by
  obtain ⟨i, c, j, rfl, a, b, d⟩ := h
  exact ⟨i, c, j, rfl, a, b, by omega⟩
theorem FedT.same {l : Int} {S' : Sto} (h : FedT ms k T S) (h' : FedT ms l T S') : S'.length ≤ S.length := by
  rw [h.len, h'.len]
  exact Nat.le_refl _
theorem FedT.draw {many : Int} (hm : ms ≠ []) (h : FedT ms k T S) (hk : k ≤ 999999) (hp : 0 < many) (hl : many.natAbs < 2 ^ 8999) :
    ∃ r S', FDraw [.c 0, .d (.int many)] S = some (.d (.int r), S') ∧ 0 ≤ r ∧ r < many ∧ FedT ms (k + 1) T S' := by
  obtain ⟨i, c, j, rfl, a, b, d⟩ := h
  obtain ⟨r, i', c', x, y, z, w⟩ := draw_spec (S := .l (feedC ms i c j) :: T) (j := 0) (many := many) rfl hm a b (by omega) hp (Nat.lt_succ_of_lt (log2_of (by decide) hl))
  exact ⟨r, _, x, y, z, i', c', j + 1, rfl, w, by omega, by omega⟩
end
/-! a law's number -/
def gNumber : MS :=
    (sSeq (sSet 2 (mFn 2 FDraw (mCons (mVar 0) (mCons (mC (.int (4))) mNil))))
    (sSeq (sIf (asB (mOp fEq (mVar 2) (mC (.int (0))))) (sRet (mFn 2 FDraw (mCons (mVar 0) (mCons (mCall cMin (mCons (mVar 1) (mCons (mC (.int (4))) mNil))) mNil)))) sNil)
    (sSeq (sIf (asB (mOp fEq (mVar 2) (mC (.int (1))))) (sRet (mFn 2 FDraw (mCons (mVar 0) (mCons (mCall cMin (mCons (mVar 1) (mCons (mC (.int (100))) mNil))) mNil)))) sNil)
    (sSeq (sIf (asB (mOp fEq (mVar 2) (mC (.int (2))))) (sRet (mFn 2 FDraw (mCons (mVar 0) (mCons (mVar 1) mNil)))) sNil)
    (sRet (mOp fSub (mOp fSub (mVar 1) (mC (.int (1)))) (mFn 2 FDraw (mCons (mVar 0) (mCons (mCall cMin (mCons (mVar 1) (mCons (mC (.int (9))) mNil))) mNil)))))))))
def FNumber : FV := runF 3 gNumber
theorem up2 {x c d : Nat} (h : x < 2 ^ c) (hc : c ≤ d) : x < 2 ^ d := Nat.lt_of_lt_of_le h (Nat.pow_le_pow_right (by decide) hc)
theorem FedT.number {ms : List Int} {k most : Int} {T S : Sto} (hm : ms ≠ []) (h : FedT ms k T S) (hk : k ≤ 99999) (h0 : 9 < most) (h1 : most.natAbs < 2 ^ 8000) :
    ∃ r S', FNumber [.c 0, .d (.int most)] S = some (.d (.int r), S') ∧ 0 ≤ r ∧ r < most ∧ FedT ms (k + 2) T S' := by
  obtain ⟨w, S1, e1, w0, w1, f1⟩ := h.draw hm (by omega) (many := 4) (by decide) (up2 (c := 3) (by decide) (by decide))
  have st : ∀ {x : PyData} {S' : Sto}, gNumber [some (.c 0), some (.d (.int most)), none] S = some (.rt (.d x) S') → FedT ms (k + 2) T S' → FNumber [.c 0, .d (.int most)] S = some (.d x, S') := fun e f =>
    runF_of (ρ := [some (.c 0), some (.d (.int most)), none]) rfl e (h.same f)
  have go : ∀ {o}, (sSeq (sIf (asB (mOp fEq (mVar 2) (mC (.int (0))))) (sRet (mFn 2 FDraw (mCons (mVar 0) (mCons (mCall cMin (mCons (mVar 1) (mCons (mC (.int (4))) mNil))) mNil)))) sNil)
    (sSeq (sIf (asB (mOp fEq (mVar 2) (mC (.int (1))))) (sRet (mFn 2 FDraw (mCons (mVar 0) (mCons (mCall cMin (mCons (mVar 1) (mCons (mC (.int (100))) mNil))) mNil)))) sNil)
    (sSeq (sIf (asB (mOp fEq (mVar 2) (mC (.int (2))))) (sRet (mFn 2 FDraw (mCons (mVar 0) (mCons (mVar 1) mNil)))) sNil)
    (sRet (mOp fSub (mOp fSub (mVar 1) (mC (.int (1)))) (mFn 2 FDraw (mCons (mVar 0) (mCons (mCall cMin (mCons (mVar 1) (mCons (mC (.int (9))) mNil))) mNil)))))))) [some (.c 0), some (.d (.int most)), some (.d (.int w))] S1 = o → gNumber [some (.c 0), some (.d (.int most)), none] S = o := fun e => by
    unfold gNumber
    rw [sSeq_nx (sSet_of (mFn_of (n := 2) rfl rfl e1))]
    exact e
  have eqn : ∀ (z : Int), asB (mOp fEq (mVar 2) (mC (.int z))) [some (.c 0), some (.d (.int most)), some (.d (.int w))] S1 = some (w == z, S1) := fun z => asB_of (mOp_of rfl rfl (fEq_int _ _ _))
  have mn : ∀ (z : Int), cMin [.d (.int most), .d (.int z)] S1 = some (.d (.int (if z < most then z else most))) := fun z => rfl
  have cases4 : w = 0 ∨ w = 1 ∨ w = 2 ∨ w = 3 := by omega
  have hz : ∀ z : Int, 0 < z → 0 < (if z < most then z else most) ∧ (if z < most then z else most) ≤ most ∧ (if z < most then z else most) ≤ z := fun z hz => by split <;> omega
  have sm : ∀ z : Int, 0 < z → z ≤ most → z.natAbs < 2 ^ 8999 := fun z p q => up2 (c := 8000) (Nat.lt_of_le_of_lt (show z.natAbs ≤ most.natAbs by omega) h1) (by decide)
  rcases cases4 with rfl | rfl | rfl | rfl
  · obtain ⟨p0, p1, p2⟩ := hz 4 (by decide)
    obtain ⟨r, S2, e2, r0, r1, f2⟩ := f1.draw hm (by omega) p0 (sm _ p0 p1)
    have f2' : FedT ms (k + 2) T S2 := f2.mono (by omega)
    refine ⟨r, S2, st (go ?_) f2', r0, by omega, f2'⟩
    exact sSeq_rt ((sIf_t (eqn 0)).trans (sRet_of (mFn_of (n := 2) (mCons_of rfl (mCons_of (mCall_of rfl (mn 4)) rfl)) rfl e2)))
  · obtain ⟨p0, p1, p2⟩ := hz 100 (by decide)
    obtain ⟨r, S2, e2, r0, r1, f2⟩ := f1.draw hm (by omega) p0 (sm _ p0 p1)
    have f2' : FedT ms (k + 2) T S2 := f2.mono (by omega)
    refine ⟨r, S2, st (go ?_) f2', r0, by omega, f2'⟩
    rw [sSeq_nx (if_nx (eqn 0))]
    exact sSeq_rt ((sIf_t (eqn 1)).trans (sRet_of (mFn_of (n := 2) (mCons_of rfl (mCons_of (mCall_of rfl (mn 100)) rfl)) rfl e2)))
  · obtain ⟨r, S2, e2, r0, r1, f2⟩ := f1.draw hm (by omega) (many := most) (by omega) (sm _ (by omega) (by omega))
    have f2' : FedT ms (k + 2) T S2 := f2.mono (by omega)
    refine ⟨r, S2, st (go ?_) f2', r0, by omega, f2'⟩
    rw [sSeq_nx (if_nx (eqn 0)), sSeq_nx (if_nx (eqn 1))]
    exact sSeq_rt ((sIf_t (eqn 2)).trans (sRet_of (mFn_of (n := 2) rfl rfl e2)))
  · obtain ⟨p0, p1, p2⟩ := hz 9 (by decide)
    obtain ⟨r, S2, e2, r0, r1, f2⟩ := f1.draw hm (by omega) p0 (sm _ p0 p1)
    have f2' : FedT ms (k + 2) T S2 := f2.mono (by omega)
    refine ⟨most - 1 - r, S2, st (go ?_) f2', by omega, by omega, f2'⟩
    rw [sSeq_nx (if_nx (eqn 0)), sSeq_nx (if_nx (eqn 1)), sSeq_nx (if_nx (eqn 2))]
    exact sRet_of (mOp_of rfl (mFn_of (n := 2) (mCons_of rfl (mCons_of (mCall_of rfl (mn 9)) rfl)) rfl e2) rfl)
/-! a law's lowest terms -/
/-! things that can be shown -/
structure Okk (n L : Nat) (d : PyData) : Prop where
  sh : d.showable = true
  nd : d.hasDict = false
  dp : d.depth ≤ n
  ln : d.shown.length ≤ L
  ok : PyData.strOk d.shown = true
  ly : d.canLay0 = true
theorem Okk.mono {n L m M : Nat} {d : PyData} (h : Okk n L d) (hn : n ≤ m) (hL : L ≤ M) : Okk m M d := ⟨h.sh, h.nd, Nat.le_trans h.dp hn, Nat.le_trans h.ln hL, h.ok, h.ly⟩
theorem Okk.repr {n L : Nat} {d : PyData} (h : Okk n L d) (hn : n ≤ 40) (hL : L ≤ 16777216) (S : Sto) : cRepr [.d d] S = some (.d (.str d.shown)) := by
  have : reprOk d = true := by
    unfold reprOk
    have h1 := h.dp
    have h2 := h.ln
    rw [h.sh, h.nd, decide_eq_true (by omega), decide_eq_true (by omega)]
    rfl
  show (if reprOk d = true then _ else none) = _
  rw [if_pos this]
theorem okk_int {i : Int} (h : i.natAbs < 2 ^ 1920) : Okk 0 1921 (.int i) := ⟨decide_eq_true (log2_of (by decide) h), rfl, Nat.le_refl _, shownInt_le (log2_of (by decide) h), ok_int i, rfl⟩
theorem okk_all {n L : Nat} : ∀ {xs : List PyData}, (∀ x ∈ xs, Okk n L x) → PyData.showableAll xs = true ∧ PyData.hasDictAll xs = false ∧ PyData.depthAll xs ≤ n ∧ ((PyData.shownAll xs).map (·.length)).sum ≤ L * xs.length ∧ (PyData.shownAll xs).length = xs.length ∧ (∀ t ∈ PyData.shownAll xs, PyData.strOk t = true) ∧ PyData.canLayAll0 xs = true
  | [], _ => ⟨rfl, rfl, Nat.zero_le _, Nat.zero_le _, rfl, (fun _ h => nomatch h), rfl⟩
  | x :: xs, h => by
    obtain ⟨a, b, c, d, e, f, gl⟩ := okk_all (xs := xs) fun y hy => h y (List.mem_cons_of_mem _ hy)
    have hx := h x (by simp)
    refine ⟨?_, ?_, ?_, ?_, ?_, ?_, ?_⟩
    · show (x.showable && PyData.showableAll xs) = true
      rw [hx.sh, a]; rfl
    · show (x.hasDict || PyData.hasDictAll xs) = false
      rw [hx.nd, b]; rfl
    · show max x.depth (PyData.depthAll xs) ≤ n
      have := hx.dp
      omega
    · show x.shown.length + ((PyData.shownAll xs).map (·.length)).sum ≤ L * (xs.length + 1)
      have := hx.ln
      rw [Nat.mul_succ]
      omega
    · show (PyData.shownAll xs).length + 1 = xs.length + 1
      rw [e]
    · intro t ht
      rcases List.mem_cons.mp ht with rfl | ht
      · exact hx.ok
      · exact f t ht
    · show (x.canLay0 && PyData.canLayAll0 xs) = true
      rw [hx.ly, gl]; rfl
theorem okk_tuple {n L : Nat} {xs : List PyData} (h : ∀ x ∈ xs, Okk n L x) : Okk (n + 1) (L * xs.length + 2 * xs.length + 3) (.tuple xs) := by
  obtain ⟨a, b, c, d, e, f, gl⟩ := okk_all h
  refine ⟨a, b, ?_, ?_, ok_tuple f, gl⟩
  · show PyData.depthAll xs + 1 ≤ n + 1
    omega
  · have := tupleText_len_le (PyData.shownAll xs)
    show (tupleText (PyData.shownAll xs)).length ≤ _
    omega
theorem okk_list {n L : Nat} {xs : List PyData} (h : ∀ x ∈ xs, Okk n L x) : Okk (n + 1) (L * xs.length + 2 * xs.length + 3) (.list xs) := by
  obtain ⟨a, b, c, d, e, f, gl⟩ := okk_all h
  refine ⟨a, b, ?_, ?_, ok_list f, gl⟩
  · show PyData.depthAll xs + 1 ≤ n + 1
    omega
  · have := listText_len_le (PyData.shownAll xs)
    show (listText (PyData.shownAll xs)).length ≤ _
    omega
theorem lcGo_yes {n : Nat} {tgt : TgD} {te : M} {ρ ρ1 : RE} {x y : PyData} {xs : List PyData} {S S1 S2 : Sto} (h1 : tgt x ρ = some ρ1) (h2 : te ρ1 S = some (.d y, S1)) (h3 : pushAt n y S1 = some S2) : lcGo n tgt bYes te ρ (x :: xs) S = lcGo n tgt bYes te ρ xs S2 := by
  show (tgt x ρ).bind _ = _
  rw [h1]
  show (te ρ1 S).bind _ = _
  rw [h2]
  show (pushAt n y S1).bind _ = _
  rw [h3]
  rfl
theorem ok_bool (b : Bool) : PyData.strOk (PyData.shown (.bool b)) = true := by cases b <;> exact ok_str _
theorem okk_bool (b : Bool) : Okk 0 5 (.bool b) := by
  refine ⟨rfl, rfl, Nat.le_refl _, ?_, ok_bool b, rfl⟩
  cases b <;> decide
end DL

namespace DL
open PySem PySem.Spec PyProof.Rows L2 DK
variable [Nms] [Tabs]
abbrev gEnv (X : Cx) (scope : Scope) (cl : List (Str × Addr)) (C : Addr) (code : Value) : Env := genEnv scope cl C code builtinsNs X.env
/-- the context of a generator expression's frame -/
def gcx (X : Cx) (scope : Scope) (cl : List (Str × Addr)) (C : Addr) (code : Value) (A : Around) (s : Shared) (H : Hp) (ex : List Addr) (pn : List (Addr × Obj)) : Cx where
  prog := X.prog
  w := X.w
  K := X.K
  mg := X.mg
  base := X.base
  A := A.deeper (gEnv X scope cl C code)
  N := X.N
  s_0 := s
  H_0 := H
  env := gEnv X scope cl C code
  outer := X.stack
  stack := gEnv X scope cl C code :: X.stack
  ex := ex
  fn := fun x => scope.names.lookup x == some .cell
  calm := true
  pn := pn
  xe := fun _ _ => False
theorem over_gl {A : Around} {elt : Expr} {gs : List Comprehension} {sc : Scope} {pos : Pos} {it acc : Value} {env : Env} : A.over (.compLoop (.GeneratorExp elt gs sc pos) 0 it acc env) [] = A.deeper env := by
  first
    | rfl
    | (obtain ⟨hd, d, fr, gs, u⟩ := A; simp [Around.over, Around.deeper, marksOver, frameCount, unitsOf, envsOf, guardsOf, pushEnvs, pushGuards, Code.envs, Code.env?, Code.isFrame, Code.guards, Code.isGuard, Code.weight, Code.frames, Code.isCreation, Code.isCaller, Code.cUnits])
/-- what is taken of it: the values, whether it came to its end, the store; stop tells behind which value no more is asked -/
def gxGo (stop : PyData → Option Bool) (tgt : TgD) (tt : MB) (te : M) (ρ : RE) : List PyData → Sto → Option (List PyData × Bool × Sto)
  | [], S => some ([], true, S)
  | x :: xs, S => (tgt x ρ).bind fun ρ1 => (tt ρ1 S).bind fun b => if b.1 = true then (te ρ1 b.2).bind fun v => match v.1 with
      | .d y => (stop y).bind fun st => if st = true then some ([y], false, v.2) else (gxGo stop tgt tt te ρ xs v.2).bind fun r => some (y :: r.1, r.2)
      | _ => none
    else gxGo stop tgt tt te ρ xs b.2

theorem wipeR_len (ρ : RE) : ∀ vs : List Nat, (wipeR ρ vs).length = ρ.length
  | [] => rfl
  | v :: vs => by
    show ((wipeR ρ vs).set v none).length = _
    rw [List.length_set, wipeR_len ρ vs]
theorem wipeR_in {ρ : RE} {i : Nat} : ∀ {vs : List Nat}, i ∈ vs → i < ρ.length → (wipeR ρ vs)[i]? = some none
  | [], h, _ => by cases h
  | v :: vs, h, hl => by
    show ((wipeR ρ vs).set v none)[i]? = _
    by_cases hv : v = i
    · subst hv
      rw [List.getElem?_set_self (by rw [wipeR_len]; exact hl)]
    · rw [List.getElem?_set_ne hv]
      rcases List.mem_cons.mp h with z | z
      · exact absurd z.symm hv
      · exact wipeR_in z hl
theorem ER.agr {K : Fg} {as : List Addr} {H : Hp} {σ σ' : L2.St} {ρ : RE} {vs is : List Nat} (E : ER K as H σ (wipeR ρ vs)) (a : Agr is σ σ') (h : ∀ i ∈ is, i ∈ vs) : ER K as H σ' (wipeR ρ vs) := by
  refine ⟨by rw [a.1]; exact E.len, fun i p e => ?_, E.tab⟩
  have hi : i ∉ is := fun z => by
    have hl : i < ρ.length := by
      have q := (List.getElem?_eq_some_iff.mp e).1
      rw [wipeR_len] at q
      exact q
    rw [wipeR_in (h i z) hl] at e
    cases e
  rw [a.2 i hi]
  exact E.at_ i p e
section
variable {X : Cx} {scope : Scope} {cl : List (Str × Addr)} {C : Addr} {code : Value} {A : Around} {sb : Shared} {Hb : Hp} {fp : List Addr} {pn : List (Addr × Obj)} {tn : Nat → Heap → Prop} {bs : List Addr}
/-- at rest, behind i items; Sx: the consumer's own objects -/
def GRest (G : Cx) (fp Sx : List Addr) (tn : Nat → Heap → Prop) (bs : List Addr) (Hb : Hp) (ρ : RE) (Cn : Hp → Heap → Prop) (i : Nat) (S : Sto) (H : Hp) (s : Shared) : Prop :=
  Cn H s.heap ∧ ∃ σ, Inv G (pinsAt Sx s.heap) σ H s ∧ (∀ b ∈ Sx, H b = none ∧ ∃ o, s.heap.get? b = some o ∧ ∀ v, o.data ≠ .cell v) ∧ tn i s.heap ∧ (∀ b ∈ fp, H b = none) ∧ Ext bs Hb bs H ∧ Rel G.K bs S H ∧ ER G.K bs H σ ρ
/-- while it sleeps its consumer may change what is its own -/
structure Slp (Sx : List Addr) (s s' : Shared) : Prop where
  os : s'.os = s.os
  bare : AllBare s'.gens
  keep : ∀ b o, b ∉ Sx → s.heap.get? b = some o → s'.heap.get? b = some o
  own : ∀ b ∈ Sx, ∃ o, s'.heap.get? b = some o ∧ ∀ v, o.data ≠ .cell v
def GFinP (G : Cx) (Sx bs : List Addr) (Hb : Hp) (Cn : Nat → Hp → Heap → Prop) (N : Nat) (e : Bool) (Sf : Sto) (n : Nat) (s₀ s : Shared) : Prop :=
  n = 0 ∧ e = true ∧ ∃ (σ : L2.St) (H : Hp) (P : List (Addr × Obj)), Cn N H s.heap ∧ (∀ b ∈ Sx, H b = none ∧ ∃ o, (b, o) ∈ P) ∧ Inv G P σ H s ∧ (∀ b ∈ Sx, s.heap.get? b = s₀.heap.get? b) ∧ Ext bs Hb bs H ∧ Rel G.K bs Sf H
abbrev GFin (G : Cx) (Sx bs : List Addr) (Hb : Hp) (Cn : Nat → Hp → Heap → Prop) (N : Nat) (e : Bool) (Sf : Sto) : GenEnd := fun n s₀ r s => r = .ok .next ∧ GFinP G Sx bs Hb Cn N e Sf n s₀ s
/-- what a consumer knows of its own objects lasts -/
def CnOk (Sx bs : List Addr) (Cn : Nat → Hp → Heap → Prop) : Prop := ∀ j H H' h h', Cn j H h → Ext bs H bs H' → (∀ b ∈ Sx, h'.get? b = h.get? b) → Cn j H' h'
def GOut (G : Cx) (fp Sx : List Addr) (tn : Nat → Heap → Prop) (bs : List Addr) (Hb : Hp) (ρ : RE) (Cn : Nat → Hp → Heap → Prop) (stop : PyData → Option Bool) (all : List PyData) (e : Bool) (Sf : Sto) : Protocol := fun m s₀ v s kap =>
  ∃ y x H S i, m < all.length ∧ all[all.length - 1 - m]? = some y ∧ RelV x v ∧ Dp G.K (hide bs H) x y ∧ GRest G fp Sx tn bs Hb ρ (Cn (all.length - 1 - m)) i S H s ∧ (∀ b ∈ Sx, s.heap.get? b = s₀.heap.get? b) ∧
    ((stop y = some true ∧ m = 0 ∧ e = false ∧ S = Sf) ∨ (stop y = some false ∧ ∀ s'' : Shared, Slp Sx s s'' → Cn (all.length - m) H s''.heap → kap (.send .none) s''))
/-- the consumer's objects: none of the frame's, not pinned, younger -/
def SxOk (G : Cx) (Sx : List Addr) : Prop := ∀ b ∈ Sx, (b ∈ G.ex ∨ G.s_0.heap.objs.size ≤ b) ∧ b ≠ G.env.locals ∧ b ∉ G.fs ∧ (∀ x c, G.env.cells.lookup x = some c → c ≠ b) ∧ ∀ p ∈ G.pn, p.1 ≠ b
theorem GRest.wake {G : Cx} {Sx : List Addr} {ρ : RE} {Cn Cn' : Hp → Heap → Prop} {i : Nat} {S : Sto} {H : Hp} {s s' : Shared} (hS : SxOk G Sx) (hfp : ∀ b ∈ fp, b ∉ Sx) (tk : ∀ i h h', tn i h → (∀ b ∈ fp, ∀ o, h.get? b = some o → h'.get? b = some o) → tn i h')
    (R : GRest G fp Sx tn bs Hb ρ Cn i S H s) (z : Slp Sx s s') (hc : Cn' H s'.heap) : GRest G fp Sx tn bs Hb ρ Cn' i S H s' := by
  obtain ⟨_, σ, I, hs, t, c⟩ := R
  obtain ⟨z1, z2, z3, z4⟩ := z
  have I0 : Inv G [] σ H s := I.pins_of fun p hp => absurd hp (by simp)
  have nt : ∀ b u, H b = some u → b ∉ Sx := fun b u q hb => by rw [(hs b hb).1] at q; cases q
  have J : Inv G [] σ H s' := by
    refine I0.call' (ch := Sx) z1 ⟨fun b o q _ _ hc => z3 b o hc q, fun b o q _ _ hc => ⟨o.slots, z3 b o hc q⟩, fun _ _ _ n _ => n, fun b o q hc => ⟨o, z3 b o hc q⟩, fun _ _ q => q, fun _ _ _ q => q, fun b ps q => ⟨#[], by rw [q]; simp⟩⟩ (fun b u q => ?_) z2 fun b hb => ?_
    · refine (I0.hok b u q).stay (fun c v hc y => z3 c v ?_ y) (fun _ y => y) fun _ _ y => y
      rcases hc with y | y
      · rw [y]; exact nt b u q
      · exact nt c _ y
    · obtain ⟨a1, a2, _, a4, a5⟩ := hS b hb
      exact ⟨a1, a2, a4, fun p hp => a5 p (by simpa using hp)⟩
  refine ⟨hc, σ, J.pins_of fun p hp => ?_, fun b hb => ⟨(hs b hb).1, z4 b hb⟩, tk _ _ _ t fun b hb o q => z3 b o (hfp b hb) q, c⟩
  obtain ⟨hb, e⟩ := of_pinsAt hp
  obtain ⟨_, a2, a3, _⟩ := hS p.1 hb
  obtain ⟨o, e', d⟩ := z4 p.1 hb
  rw [e] at e'
  cases e'
  exact ⟨e, (hs p.1 hb).1, a2, a3, d⟩
theorem gx_loop {elt iter tg : Expr} {ifs : List Expr} {pos : Pos} {it : Addr} {J : It} {xs : List PyData} {tgt : TgD} {tt : MB} {te : M} {is vs : List Nat} {ρ0 : RE} {stop : PyData → Option Bool} {all : List PyData} {e : Bool} {Sf : Sto} {Sx : List Addr} {Cn : Nat → Hp → Heap → Prop}
    (hCn : CnOk Sx bs Cn) (T : Turn X.prog X.w X.K tg J fp it tn) (hit : Iters X.K bs Hb J xs) (hg : DG (gcx X scope cl C code A sb Hb fp pn) tg is tgt) (ht : DTs (gcx X scope cl C code A sb Hb fp pn) ifs tt) (he : DE (gcx X scope cl C code A sb Hb fp pn) elt te) (hv : ∀ i ∈ is, i ∈ vs)
    (hS : SxOk (gcx X scope cl C code A sb Hb fp pn) Sx) (hfs : ∀ b ∈ fp, b ∉ Sx)
    (stat : ∀ {H' : Hp} {P : List (Addr × Obj)}, (∀ p ∈ P, p.1 ∈ Sx) → (∀ b ∈ fp, H' b = none) → ∀ b ∈ fp, FpOk (gcx X scope cl C code A sb Hb fp pn) P H' b) (hco : scope.isCoroutine = false) :
    ∀ (k i j : Nat) (S : Sto) (H : Hp) (s₀ s : Shared), xs.length - i = k → i ≤ xs.length → GRest (gcx X scope cl C code A sb Hb fp pn) fp Sx tn bs Hb (wipeR ρ0 vs) (Cn j) i S H s → gxGo stop tgt tt te (wipeR ρ0 vs) (xs.drop i) S = some (all.drop j, e, Sf) → j ≤ all.length → (∀ b ∈ Sx, s.heap.get? b = s₀.heap.get? b) →
      Seg (model X.prog X.w) A (GFin (gcx X scope cl C code A sb Hb fp pn) Sx bs Hb Cn all.length e Sf) (GOut (gcx X scope cl C code A sb Hb fp pn) fp Sx tn bs Hb (wipeR ρ0 vs) Cn stop all e Sf) (all.length - j) s₀
        (.compLoop (.GeneratorExp elt [⟨tg, iter, ifs, 0⟩] scope pos) 0 (.ref it) .none (gEnv X scope cl C code)) ((model X.prog X.w).den (.compLoop (.GeneratorExp elt [⟨tg, iter, ifs, 0⟩] scope pos) 0 (.ref it) .none (gEnv X scope cl C code))) [] s := by
  intro k
  induction k with
  | zero =>
    intro i j S H s₀ s hk hi hR hgo hj h0
    have hin : i = xs.length := by omega
    subst hin
    obtain ⟨hC, σ, I, hs, st, fr, E1, R1, E2⟩ := hR
    have hP0 : ∀ p ∈ pinsAt Sx s.heap, p.1 ∈ Sx := fun p hp => (of_pinsAt hp).1
    rw [List.drop_length] at hgo
    unfold gxGo at hgo
    injection hgo with hgo
    injection hgo with h1 h2
    injection h2 with h2 h3
    have hjl : all.length - j = 0 := by
      have := congrArg List.length h1
      rw [List.length_drop] at this
      exact this.symm
    show Seg _ A _ _ _ s₀ _ ((compTurn (.GeneratorExp elt [⟨tg, iter, ifs, 0⟩] scope pos) 0 (.ref it) .none (gEnv X scope cl C code)).onRaise (leaving (gEnv X scope cl C code))) [] s
    rw [compTurn_gen, Sem.onRaise_eq_wrap]
    refine seg_bind_wrap (wpAny_standAt ?_)
    refine seg_bind_wrap ?_
    rw [over_gl]
    refine wpAny_mono (T.done (gcx X scope cl C code A sb Hb fp pn) rfl rfl rfl rfl _ (pinsAt Sx s.heap) s σ H (fun _ _ => False) I (stat hP0 fr) st (hit.stop bs H E1)) (fun r s1 ⟨hr, I1⟩ => ?_) fun _ _ z => z.elim
    subst hr
    have hjn : j = all.length := by omega
    refine seg_end (.ok .next) ⟨rfl, hjl, h2.symm, σ, H, pinsAt Sx s.heap, by
      rw [← hjn]
      refine hCn _ _ _ _ _ hC .refl fun b hb => ?_
      obtain ⟨o, eo, _⟩ := (hs b hb).2
      rw [eo]
      exact (I1.pin (b, o) (List.mem_append_right _ (mem_pinsAt hb eo))).1, fun b hb => ⟨(hs b hb).1, let ⟨o, eo, _⟩ := (hs b hb).2; ⟨o, mem_pinsAt hb eo⟩⟩, I1, fun b hb => ?_, E1, by rw [← h3]; exact R1⟩
    obtain ⟨o, eo, _⟩ := (hs b hb).2
    rw [← h0 b hb, eo]
    exact (I1.pin (b, o) (List.mem_append_right _ (mem_pinsAt hb eo))).1
  | succ k ih =>
    intro i j S H s₀ s hk hi hR hgo hj h0
    have hlt : i < xs.length := by omega
    obtain ⟨hC, σ, I, hs, st, fr, E1, R1, E2⟩ := hR
    have hP0 : ∀ p ∈ pinsAt Sx s.heap, p.1 ∈ Sx := fun p hp => (of_pinsAt hp).1
    rw [drop_cons hlt] at hgo
    unfold gxGo at hgo
    obtain ⟨ρ3, e3, hgo⟩ := Option.bind_eq_some_iff.mp hgo
    obtain ⟨⟨b, S5⟩, e5, hgo⟩ := Option.bind_eq_some_iff.mp hgo
    show Seg _ A _ _ _ s₀ _ ((compTurn (.GeneratorExp elt [⟨tg, iter, ifs, 0⟩] scope pos) 0 (.ref it) .none (gEnv X scope cl C code)).onRaise (leaving (gEnv X scope cl C code))) [] s
    rw [compTurn_gen, Sem.onRaise_eq_wrap]
    refine seg_bind_wrap (wpAny_standAt ?_)
    refine seg_bind_wrap ?_
    rw [over_gl]
    refine wpAny_mono (T.item (gcx X scope cl C code A sb Hb fp pn) rfl rfl rfl rfl i (pinsAt Sx s.heap) s σ H (fun _ _ => False) I (stat hP0 fr) st (hit.go bs H E1 i xs[i] (List.getElem?_eq_getElem hlt))) (fun r s1 ⟨u, hr, h1⟩ => ?_) fun _ _ z => z.elim
    subst hr
    refine seg_bind_wrap ?_
    rw [over_gl]
    refine wpAny_mono h1 (fun _ s2 ⟨x, H2, I2, rx, y2, st2, fr2⟩ => ?_) fun _ _ z => z.elim
    obtain ⟨gr, hx⟩ := hit.yld bs S H E1 R1 i xs[i] (List.getElem?_eq_getElem hlt) x H2 y2
    obtain ⟨R2, X2⟩ := Rel.grw R1 gr
    have I2' := I2.pinned (stat hP0 fr2) (T.obj _ _ st2)
    refine seg_bind_wrap ?_
    rw [over_gl]
    refine wpAny_mono (hg.run _ s2 σ H2 x u (fun σ3 H3 => H3 = H2 ∧ ER X.K bs H2 σ3 ρ3 ∧ Agr is σ σ3) I2' rx ⟨bs, wipeR ρ0 vs, xs[i], ρ3, E2.ext X2, hx, e3, fun σ3 E3 A3 => ⟨rfl, E3, A3⟩⟩) (fun _ s3 ⟨σ3, H3, I3, q3, E3, A3⟩ => ?_) fun _ _ z => z.elim
    subst q3
    refine seg_bind_wrap ?_
    rw [over_gl]
    refine wpAny_mono (ht.run _ s3 σ3 H3 (fun b' H4 => b' = b ∧ Rel X.K bs S5 H4 ∧ Ext bs H3 bs H4) I3 ⟨bs, ρ3, S, b, S5, R2, E3, e5, fun H4 R4 X4 => ⟨rfl, R4, X4⟩⟩) (fun b' s4 ⟨H4, I4, q4, R4, X4⟩ => ?_) fun _ _ z => z.elim
    subst q4
    have sx : ∀ {s7 : Shared} {H7 : Hp}, Inv (gcx X scope cl C code A sb Hb fp pn) (pinsAt Sx s.heap ++ pinsAt fp s2.heap) σ3 H7 s7 → ∀ b ∈ Sx, H7 b = none ∧ s7.heap.get? b = s.heap.get? b ∧ ∃ o, s7.heap.get? b = some o ∧ ∀ v, o.data ≠ .cell v := fun {s7 H7} I7 b hb => by
      obtain ⟨o, eo, d⟩ := (hs b hb).2
      obtain ⟨p1, p2, _⟩ := I7.pin (b, o) (List.mem_append_right _ (List.mem_append_left _ (mem_pinsAt hb eo)))
      exact ⟨p2, p1.trans eo.symm, o, p1, d⟩
    have back : ∀ {s7 : Shared} {H7 : Hp} {S7 : Sto}, Inv (gcx X scope cl C code A sb Hb fp pn) (pinsAt Sx s.heap ++ pinsAt fp s2.heap) σ3 H7 s7 → Rel X.K bs S7 H7 → Ext bs H3 bs H7 → GRest (gcx X scope cl C code A sb Hb fp pn) fp Sx tn bs Hb (wipeR ρ0 vs) (Cn j) (i + 1) S7 H7 s7 := fun {s7 H7 S7} I7 R7 X7 => by
      refine ⟨hCn _ _ _ _ _ hC (X2.trans X7) fun b hb => (sx I7 b hb).2.1, σ3, I7.pins_of fun p hp => ?_, fun b hb => ⟨(sx I7 b hb).1, (sx I7 b hb).2.2⟩, T.keep _ _ _ st2 fun b hb o e => (I7.pin (b, o) (List.mem_append_right _ (List.mem_append_right _ (mem_pinsAt hb e)))).1, fun b hb => ?_, (E1.trans X2).trans X7, R7, ?_⟩
      · obtain ⟨hb, e⟩ := of_pinsAt hp
        obtain ⟨q1, q2, o, q3, q4⟩ := sx I7 p.1 hb
        obtain ⟨_, a2, a3, _⟩ := hS p.1 hb
        rw [e] at q3
        cases q3
        exact ⟨e, q1, a2, a3, q4⟩
      · obtain ⟨o, e, d⟩ := T.obj _ _ st2 b hb
        exact (I7.pin (b, o) (List.mem_append_right _ (List.mem_append_right _ (mem_pinsAt hb e)))).2.1
      · exact ER.agr (E2.ext (X2.trans X7)) A3 hv
    cases b' with
    | false =>
      simp only [Bool.false_eq_true, if_false] at hgo ⊢
      exact seg_again rfl (ih (i + 1) j S5 H4 s₀ s4 (by omega) hlt (back I4 R4 X4) hgo hj fun b hb => (sx I4 b hb).2.1.trans (h0 b hb))
    | true =>
      simp only [if_true] at hgo ⊢
      obtain ⟨⟨v, S6⟩, e6, hgo⟩ := Option.bind_eq_some_iff.mp hgo
      cases v with
      | f _ => first | rfl | exact h | (cases e; done) | (cases e1; done) | (cases e2; done) | (cases e3; done) | (cases e4; done) | (cases e5; done) | (cases e6; done) | (cases h; done) | (cases h1; done) | (cases h2; done) | (cases h3; done) | (cases b; done) | (cases q; done) | exact h.elim | exact g.elim | exact r.elim | exact r.1.elim | exact r1.elim | exact r2.elim | exact z.elim | exact h1.elim | contradiction | (cases y <;> rfl) | (cases x <;> rfl) | (cases q <;> rfl) | (cases a <;> rfl) | exact L _ _ | exact L _ | (simp_all; done)
      | c n => cases hgo
      | d y =>
        obtain ⟨t, et, hgo⟩ := Option.bind_eq_some_iff.mp hgo
        have hy : ∀ v, yieldOut (gEnv X scope cl C code) v = yieldValue v := fun v => by
          have hco' : (gEnv X scope cl C code).scope.isCoroutine = false := hco
          simp only [yieldOut, hco', Bool.false_eq_true, if_false]
        simp only [hy]
        rw [Sem.bind_eq_wrap', Sem.bind_eq_wrap', Sem.wrap_wrap, Sem.wrap_wrap]
        -- one is handed out
        have hlen : ∃ j', all[j]? = some y ∧ j < all.length ∧ j' = j + 1 := by
          have : ∃ r, all.drop j = y :: r := by
            cases t with
            | true =>
              simp only [if_true] at hgo
              injection hgo with hgo
              injection hgo with h1 h2
              exact ⟨[], h1.symm⟩
            | false =>
              simp only [Bool.false_eq_true, if_false] at hgo
              obtain ⟨r, er, hgo⟩ := Option.bind_eq_some_iff.mp hgo
              injection hgo with hgo
              injection hgo with h1 h2
              exact ⟨r.1, h1.symm⟩
          obtain ⟨r, hr⟩ := this
          have hjl : j < all.length := by
            have := congrArg List.length hr
            rw [List.length_drop, List.length_cons] at this
            omega
          refine ⟨j + 1, ?_, hjl, rfl⟩
          have := congrArg (·[0]?) hr
          simpa using this
        obtain ⟨_, hay, hjl, _⟩ := hlen
        obtain ⟨n', hn'⟩ : ∃ n', all.length - j = n' + 1 := ⟨all.length - j - 1, by omega⟩
        rw [hn']
        refine seg_wrap ?_
        rw [over_gl]
        refine wpAny_mono (he.run _ s4 σ3 H4 (fun u' H6 => Rel X.K bs S6 H6 ∧ Ext bs H4 bs H6 ∧ VR X.K bs H6 u' (.d y)) I4 ⟨bs, ρ3, S5, .d y, S6, R4, E3.ext X4, e6, fun u' H6 R6 X6 V6 => ⟨R6, X6, V6⟩⟩) (fun w5 s5 ⟨u5, H6, I6, r6, R6, X6, V6⟩ => ?_) fun _ _ z => z.elim
        have rest := back I6 R6 (X4.trans X6)
        have hidx : all.length - 1 - n' = j := by omega
        refine seg_at (seg_yield rfl rfl rfl ⟨y, u5, H6, S6, i + 1, by omega, by rw [hidx]; exact hay, r6, V6, by rw [hidx]; exact rest, fun b hb => (sx I6 b hb).2.1.trans (h0 b hb), ?_⟩)
        cases t with
        | true =>
          simp only [if_true] at hgo
          injection hgo with hgo
          injection hgo with h1 h2
          injection h2 with h2 h3
          refine .inl ⟨et, ?_, h2.symm, h3⟩
          have := congrArg List.length h1
          rw [List.length_drop, List.length_singleton] at this
          omega
        | false =>
          simp only [Bool.false_eq_true, if_false] at hgo
          obtain ⟨⟨r1, r2, r3⟩, er, hgo⟩ := Option.bind_eq_some_iff.mp hgo
          injection hgo with hgo
          injection hgo with h1 h2
          injection h2 with h2 h3
          refine .inr ⟨et, fun s'' hz hC2 => ?_⟩
          rw [show all.length - n' = j + 1 by omega] at hC2
          have hd : all.drop (j + 1) = r1 := by
            have z := congrArg List.tail h1
            rw [List.tail_drop] at z
            exact z.symm
          subst h2 h3
          rw [← hd] at er
          have q := ih (i + 1) (j + 1) S6 H6 s'' s'' (by omega) hlt (rest.wake hS hfs T.keep hz hC2) er (by omega) fun _ _ => rfl
          have hn2 : all.length - (j + 1) = n' := by omega
          rw [hn2] at q
          exact seg_again rfl q
end
end DL

namespace DL
open PySem PySem.Spec PyProof.Rows L2 DK
variable [Nms] [Tabs]
section
variable {X : Cx} {scope : Scope} {cl : List (Str × Addr)} {C : Addr} {code : Value} {A : Around} {sb : Shared} {Hb : Hp} {fp : List Addr} {pn : List (Addr × Obj)} {tn : Nat → Heap → Prop} {bs : List Addr}
theorem gx_start {elt iter tg : Expr} {ifs : List Expr} {pos : Pos} {it : Addr} {J : It} {xs : List PyData} {tgt : TgD} {tt : MB} {te : M} {is vs : List Nat} {ρ0 : RE} {stop : PyData → Option Bool} {all : List PyData} {e : Bool} {Sf : Sto} {Sx : List Addr} {Cn : Nat → Hp → Heap → Prop}
    (hCn : CnOk Sx bs Cn) (T : Turn X.prog X.w X.K tg J fp it tn) (hit : Iters X.K bs Hb J xs) (hg : DG (gcx X scope cl C code A sb Hb fp pn) tg is tgt) (ht : DTs (gcx X scope cl C code A sb Hb fp pn) ifs tt) (he : DE (gcx X scope cl C code A sb Hb fp pn) elt te) (hv : ∀ i ∈ is, i ∈ vs)
    (hS : SxOk (gcx X scope cl C code A sb Hb fp pn) Sx) (hfs : ∀ b ∈ fp, b ∉ Sx)
    (stat : ∀ {H' : Hp} {P : List (Addr × Obj)}, (∀ p ∈ P, p.1 ∈ Sx) → (∀ b ∈ fp, H' b = none) → ∀ b ∈ fp, FpOk (gcx X scope cl C code A sb Hb fp pn) P H' b) (hco : scope.isCoroutine = false)
    {S : Sto} {H : Hp} {s₀ s : Shared} (hR : GRest (gcx X scope cl C code A sb Hb fp pn) fp Sx tn bs Hb (wipeR ρ0 vs) (Cn 0) 0 S H s) (hgo : gxGo stop tgt tt te (wipeR ρ0 vs) xs S = some (all, e, Sf)) (h0 : ∀ b ∈ Sx, s.heap.get? b = s₀.heap.get? b) :
    Seg (model X.prog X.w) A (GFin (gcx X scope cl C code A sb Hb fp pn) Sx bs Hb Cn all.length e Sf) (GOut (gcx X scope cl C code A sb Hb fp pn) fp Sx tn bs Hb (wipeR ρ0 vs) Cn stop all e Sf) all.length s₀
      (.compStart (.GeneratorExp elt [⟨tg, iter, ifs, 0⟩] scope pos) 0 (.ref it) .none (gEnv X scope cl C code)) ((model X.prog X.w).den (.compStart (.GeneratorExp elt [⟨tg, iter, ifs, 0⟩] scope pos) 0 (.ref it) .none (gEnv X scope cl C code))) [] s := by
  have loop := gx_loop (iter := iter) (pos := pos) (stop := stop) (all := all) (e := e) (Sf := Sf) hCn T hit hg ht he hv hS hfs stat hco xs.length 0 0 S H s₀ s (Nat.sub_zero _) (Nat.zero_le _) hR (by rw [List.drop_zero, List.drop_zero]; exact hgo) (Nat.zero_le _) h0
  rw [Nat.sub_zero] at loop
  obtain ⟨_, σ, I, hs, st, _⟩ := hR
  show Seg _ A _ _ _ s₀ _ ((compStart (.GeneratorExp elt [⟨tg, iter, ifs, 0⟩] scope pos) 0 (.ref it) .none (gEnv X scope cl C code)).onRaise (leaving (gEnv X scope cl C code))) [] s
  unfold compStart
  rw [Sem.onRaise_eq_wrap]
  show Seg _ A _ _ _ s₀ _ ((ask >>= _).wrap _ _ _ _) [] s
  refine seg_bind_wrap (wpAny_askSetting ?_)
  split
  · exact seg_again rfl loop
  · first
      | exact seg_bind_wrap (wpAny_rule (seg_bind_wrap (wpAny_standAt (seg_bind_wrap (T.self _ 0 s _ _ st (seg_again rfl loop))))))
      | (refine seg_bind_wrap (wpAny_rule ?_); show Seg _ A _ _ _ s₀ _ ((standAt iter.pos >>= _).wrap _ _ _ _) [] s; exact seg_bind_wrap (wpAny_standAt (seg_bind_wrap (T.self _ 0 s _ _ st (seg_again rfl loop)))))
/-- what is left behind it in the maker's frame -/
def GBack (X : Cx) (fp bs : List Addr) (sb : Shared) (Hb : Hp) (Sf : Sto) (s' : Shared) : Prop :=
  ∃ H, s'.os = sb.os ∧ AllBare s'.gens ∧ Un (frs X.stack) fp Hb H sb.heap s'.heap ∧ HOk X.prog X.w H s'.heap ∧ Ext bs Hb bs H ∧ Rel X.K bs Sf H
theorem GBack.of {P : List (Addr × Obj)} {σ : L2.St} {H : Hp} {Sf : Sto} {s s' : Shared} (I : Inv (gcx X scope cl C code A sb Hb fp pn) P σ H s) (E1 : Ext bs Hb bs H) (R1 : Rel X.K bs Sf H) (ho : s'.os = s.os) (hb : AllBare s'.gens) (hk : ∀ b o, s.heap.get? b = some o → s'.heap.get? b = some o) : GBack X fp bs sb Hb Sf s' :=
  ⟨H, ho.trans I.os, hb, I.base.trans (Un.kept hk), I.hok.kept hk, E1, R1⟩
def stopAll : PyData → Option Bool
  | .bool b => some (!b)
  | _ => none
def stopAny : PyData → Option Bool
  | .bool b => some b
  | _ => none
theorem setGen_bare {s : Shared} {g : Nat} {x : GenState} (h : AllBare s.gens) (hx : x.bare = true) : AllBare (s.setGen g x).gens := allBare_setGen h hx
end
end DL

namespace DL
open PySem PySem.Spec PyProof.Rows L2 DK
variable [Nms] [Tabs]
section
variable {X : Cx} {scope : Scope} {cl : List (Str × Addr)} {C : Addr} {code : Value} {A : Around} {fp : List Addr} {pn P : List (Addr × Obj)}
/-- the generator's frame begins -/
theorem gx_inv {pins : List (Addr × Obj)} {σ : L2.St} {H2 H5 : Hp} {s2 s6 : Shared} {own : List (Str × Nat)} {vs : List Nat} (I : Inv X pins σ H2 s2) (hf : ∀ b ∈ fp, FpOk X pins H2 b) (hfo : ∀ b ∈ fp, ∃ o, s2.heap.get? b = some o)
    (hh : A.handled = none) (hfr : A.frames = some X.stack) (hN : X.N.Nodup) (B : BlkOk X.N X.env.scope scope own) (hvs : ∀ p ∈ own, p.2 ∈ vs)
    (hcl : ∀ x c, cl.lookup x = some c → (scope.names.lookup x = some .free ∧ X.env.cells.lookup x = some c) ∨ (scope.names.lookup x = some .cell ∧ s2.heap.objs.size ≤ c ∧ (∃ v, s6.heap.IsCell c v) ∧ H5 c = none))
    (hinj : ∀ x y c, cl.lookup x = some c → cl.lookup y = some c → x = y)
    (hhas : ∀ x, scope.names.lookup x = some .cell ∨ scope.names.lookup x = some .free → ∃ c, cl.lookup x = some c)
    (hC : s2.heap.objs.size ≤ C) (hns : ∃ m, s6.heap.Ns C m) (hHC : H5 C = none)
    (hun : Un (frs X.stack) fp H2 H5 s2.heap s6.heap) (hok : HOk X.prog X.w H5 s6.heap) (hos : s6.os = s2.os) (hb : AllBare s6.gens)
    (hpin : ∀ p ∈ pn ++ P, s6.heap.get? p.1 = some p.2 ∧ H5 p.1 = none ∧ p.1 ≠ C ∧ p.1 ∉ frs X.stack ∧ ∀ v, p.2.data ≠ .cell v) :
    Inv (gcx X scope cl C code A s2 H2 fp pn) P (wipe σ vs) H5 s6 := by
  have nfp : ∀ x c, X.env.cells.lookup x = some c → c ∉ fp := fun x c e hc => (hf c hc).2.2.2.2.1 x c e rfl
  have cellAt : ∀ x c v, X.env.cells.lookup x = some c → s2.heap.IsCell c v → s6.heap.IsCell c v := fun x c v e ⟨o, eo, d⟩ => by
    obtain ⟨sl, e2⟩ := hun.any eo (I.freeC x c e) (nfp x c e)
    exact ⟨_, e2, d⟩
  refine ⟨⟨I.ok.mod, B.kind, I.ok.glob, rfl, hC, hinj, hhas, fun x c z e => ?_, fun _ => hh, Around.frames_deeper hfr, .inr ⟨rfl, rfl⟩, fun b hb => ⟨?_, fun x c e => ?_⟩, I.bs, Nat.le_trans I.ok.bsz I.sz, fun b o e hb => ?_, fun b hb => ?_, I.stack, I.stkFree⟩,
    hos, hb, hun, ?_, fun x c e => ?_, hHC, fun x c e => ?_, hpin, hok, ?_⟩
  · have z' : scope.names.lookup x = some .cell := by simpa using (show (scope.names.lookup x == some NameKind.cell) = true from z)
    rcases hcl x c e with ⟨q, _⟩ | ⟨_, h2, _⟩
    · rw [z'] at q; cases q
    · exact h2
  · obtain ⟨o, e⟩ := hfo b hb
    exact Nat.ne_of_lt (Nat.lt_of_lt_of_le (Heap.lt_size e) hC)
  · rcases hcl x c e with ⟨_, e2⟩ | ⟨_, h2, _⟩
    · exact (hf b hb).2.2.2.2.1 x c e2
    · intro z
      obtain ⟨o, eo⟩ := hfo b hb
      have := Heap.lt_size eo
      rw [← z] at this
      exact absurd (Nat.lt_of_lt_of_le this h2) (Nat.lt_irrefl _)
  · obtain ⟨_, _, _, h4, _⟩ := hf b hb
    rcases h4 with h4 | h4
    · exact I.ok.noex b o e h4
    · have h1 := Heap.lt_size e
      have h2 := I.ok.bsz
      exact absurd (Nat.lt_of_lt_of_le (Nat.lt_of_lt_of_le h1 h2) h4) (Nat.lt_irrefl _)
  · intro z
    obtain ⟨_, h2, h3, _⟩ := hf b hb
    rcases List.mem_cons.mp (I.stkSub b z) with q | q
    · exact h2 q
    · exact h3 q
  · obtain ⟨m, hm⟩ := hns
    refine ⟨m, hm, fun i x v hi hσ hv => ?_⟩
    obtain ⟨hσ', hiv⟩ := wipe_some hσ
    have notOwn : ∀ k, scope.names.lookup x = some k → (k = .local ∨ k = .cell) → False := fun k hk hk2 => by
      rcases B.own (x, k) (PySem.mem_of_lookup hk) hk2 with q | q
      · obtain ⟨p, hp, rfl⟩ := List.mem_map.mp q
        have := nodup_ix hN (B.ix p hp) hi
        exact hiv (this ▸ hvs p hp)
      · exact q (List.mem_of_getElem? hi)
    rcases hv with hv | hv | hv
    · exact (notOwn _ hv (.inl rfl)).elim
    · exact (notOwn _ hv (.inr rfl)).elim
    · have hk := B.free (x, .free) (PySem.mem_of_lookup hv) rfl
      obtain ⟨m2, _, hl⟩ := I.loc
      obtain ⟨u, ru, lk⟩ := hl i x v hi hσ' (.inr hk)
      refine ⟨u, ru, .inr ⟨.inr hv, ?_⟩⟩
      rcases lk with ⟨q, _⟩ | ⟨_, c, ec, ic⟩
      · have q' : X.env.scope.names.lookup x = some .local := q
        rcases hk with hk | hk <;> rw [hk] at q' <;> cases q'
      · obtain ⟨c', ec'⟩ := hhas x (.inr hv)
        rcases hcl x c' ec' with ⟨_, e2⟩ | ⟨e2, _⟩
        · rw [ec] at e2
          cases e2
          exact ⟨c, ec', cellAt x c _ ec ic⟩
        · have hv' : scope.names.lookup x = some .free := hv
          rw [hv'] at e2
          cases e2
  · rcases hcl x c e with ⟨_, e2⟩ | ⟨_, _, h3, _⟩
    · obtain ⟨v, ic⟩ := I.cell x c e2
      exact ⟨v, cellAt x c v e2 ic⟩
    · exact h3
  · rcases hcl x c e with ⟨_, e2⟩ | ⟨_, _, _, h4⟩
    · obtain ⟨v, o, eo, _⟩ := I.cell x c e2
      exact hun.free c o eo (I.freeC x c e2) (nfp x c e2)
    · exact h4
  · rw [wipe_length]
    exact I.len
/-- back in the maker's frame -/
theorem gx_back {pins : List (Addr × Obj)} {σ : L2.St} {Hb : Hp} {sb s' : Shared} {bs : List Addr} {Sf : Sto} (I : Inv X pins σ Hb sb) (hf : ∀ b ∈ fp, FpOk X pins Hb b) (h : GBack X fp bs sb Hb Sf s') :
    ∃ H, Inv X pins σ H s' ∧ Ext bs Hb bs H ∧ Rel X.K bs Sf H := by
  obtain ⟨H, h1, h2, h3, h4, h5, h6⟩ := h
  refine ⟨H, I.call' (ch := fp) h1 h3 h4 h2 fun b hb => ?_, h5, h6⟩
  obtain ⟨_, a2, _, a4, a5, a6⟩ := hf b hb
  exact ⟨a4, a2, a5, a6⟩
end
end DL

namespace DL
open PySem PySem.Spec PyProof.Rows L2 DK
variable [Nms] [Tabs]
section
variable {M : Model} {A : Around} {E : Value → Shared → Prop} {s : Shared}
theorem gx_env {scope : Scope} {globals : Addr} {cl0 : List (Str × Addr)} {qual : Str} {code it : Value} {builtins : Addr} {Q : Env → Shared → Prop} (hk : scope.kind = .function) (h0 : scope.names.lookup (".0" : Str) = some .local)
    (hQ : ∀ (h' : Heap) (m : Str → Option Value), h'.Ns s.heap.objs.size m → Heap.SameBut s.heap.objs.size (pushCells (s.heap.push { cls := .type "frame", data := .dict #[] }) scope.names) h' →
      Q (newEnv scope s.heap.objs.size globals (cellsFrom (s.heap.objs.size + 1) scope.names cl0) qual none code none builtins) { s with heap := h', toks := s.toks + 1 }) :
    wpAny M A (newFunctionEnv scope globals cl0 [(".0", it)] qual none code none builtins) Q E s := by
  simp only [newFunctionEnv, Option.isSome_none, Bool.false_eq_true, if_false]
  refine wpAny_bind (wpAny_alloc ?_)
  refine wpAny_bind (wpAny_layCells _ (fun name kind cells => by cases hkc : kind == NameKind.cell <;> simp [hkc]) _ _ _ _ ?_)
  rw [show ({ s with heap := s.heap.push { cls := .type "frame", data := .dict #[] } } : Shared).heap.objs.size = s.heap.objs.size + 1 from Heap.size_push ..]
  rw [List.forIn_cons]
  refine wpAny_bind (wpAny_bind (wpAny_bind (wpAny_storeName_local (env := newEnv scope s.heap.objs.size globals (cellsFrom (s.heap.objs.size + 1) scope.names cl0) qual none code none builtins) h0
    ((Heap.Ns.new s.heap (.type "frame")).keeps (pushCells_keeps _ _)) (fun h' hn' hs' => ?_) (by show (scope.kind == .class || (scope.kind == .module && _)) = false; rw [hk]; rfl))))
  refine wpAny_pure ?_
  show wpAny M A (forIn [] _ _) _ _ _
  rw [List.forIn_nil]
  exact wpAny_pure (wpAny_pure (hQ h' _ hn' hs'))
/-- a generator is made -/
theorem gx_make {env : Env} {elt target iter : Expr} {ifs : List Expr} {scope : Scope} {cl0 : List (Str × Addr)} {pos : Pos} {Q : Value → Shared → Prop}
    (hco : scope.isCoroutine = false) (hclos : closureFor scope env = pure cl0) (h0 : scope.names.lookup (".0" : Str) = some NameKind.local) (hkind : scope.kind = .function) (hroom : A.depth < recursionLimit)
    (h : wpAny M A (eval iter env) (fun xv s₁ => wpAny M A (pyIter xv) (fun it s₂ => s₂.heap.NoLimit ∧
      wpAny M A (genexprCode env pos (env.qual ++ "<genexpr>") scope) (fun code s₃ => wpAny M A (builtinsFor env.globals env.builtins) (fun bi s₄ =>
        ∀ (h' : Heap) (m : Str → Option Value), h'.Ns s₄.heap.objs.size m → Heap.SameBut s₄.heap.objs.size (pushCells (s₄.heap.push { cls := .type "frame", data := .dict #[] }) scope.names) h' →
          Q (.ref h'.objs.size) { s₄ with
            gens := s₄.gens.push (.fresh (.compStart (.GeneratorExp elt [⟨target, iter, ifs, 0⟩] scope pos) 0 it .none (genEnv scope (cellsFrom (s₄.heap.objs.size + 1) scope.names cl0) s₄.heap.objs.size code bi env))),
            toks := s₄.toks + 1 + 1 + 1,
            heap := h'.push { cls := .type "generator", data := .fields #[.int s₄.gens.size 0, .str "<genexpr>" (s₄.toks + 1), .str (env.qual ++ "<genexpr>") (s₄.toks + 1 + 1)] } }) E s₃) E s₂) E s₁) E s)
    (hs : ∀ x, genFold iter env x = pure x) :
    wpAny M A (eval (.GeneratorExp elt [⟨target, iter, ifs, 0⟩] scope pos) env) Q E s := by
  rw [eval_GeneratorExp1 _ _ _ _ _ _ _ hco, hclos]
  refine wpAny_bind (wpAny_mono h (fun xv s₁ h₁ => ?_) fun _ _ e => e)
  refine wpAny_bind (wpAny_standAt ?_)
  refine wpAny_bind (wpAny_of_eq (hs xv) ?_)
  refine wpAny_bind (wpAny_holding (wpAny_mono h₁ (fun it s₂ h₂ => ?_) fun _ _ e => e))
  refine wpAny_bind (wpAny_enterFrame h₂.1 hroom ?_)
  refine wpAny_bind (wpAny_pure ?_)
  refine wpAny_bind (wpAny_mono h₂.2 (fun code s₃ h₃ => ?_) fun _ _ e => e)
  refine wpAny_bind (wpAny_mono h₃ (fun bi s₄ h₄ => ?_) fun _ _ e => e)
  refine wpAny_bind (gx_env hkind h0 fun h' m hn' hs' => ?_)
  simp only [newGenerator, newFields]
  refine wpAny_bind (wpAny_newGen (wpAny_bind (wpAny_mkText (wpAny_bind (wpAny_mkText (wpAny_newObj_type ?_ (by size_fits)))))))
  exact h₄ h' m hn' hs'
end
end DL

namespace DL
open PySem PySem.Spec PyProof.Rows L2 DK
variable [Nms] [Tabs]
abbrev gCl (X : Cx) (scope : Scope) (C : Addr) : List (Str × Addr) := cellsFrom (C + 1) scope.names (cloFrom X.env.cells scope.names [])
theorem notStk {X : Cx} {pins : List (Addr × Obj)} {σ : L2.St} {H : Hp} {s : Shared} (I : Inv X pins σ H s) {b : Addr} (hb : s.heap.objs.size ≤ b) : b ∉ frs X.stack := fun z => by
  rcases List.mem_cons.mp (I.stkSub b z) with q | q
  · have := I.lt
    rw [← q] at this
    exact absurd (Nat.lt_of_lt_of_le this hb) (Nat.lt_irrefl _)
  · exact I.nofs hb q
section
variable {X : Cx} {pins : List (Addr × Obj)} {σ : L2.St} {H : Hp} {s : Shared}
/-- the frame of a generator that has just been made, from whenever it is woken -/
theorem gx_frame {scope : Scope} {own : List (Str × Nat)} {vs : List Nat} {fp : List Addr} {code : Value} {A : Around} {pn P : List (Addr × Obj)} {h' : Heap} {m : Str → Option Value} {s6 : Shared} (I : Inv X pins σ H s) (B : BlkOk X.N X.env.scope scope own) (hN : X.N.Nodup) (hvs : ∀ p ∈ own, p.2 ∈ vs)
    (hf : ∀ b ∈ fp, FpOk X pins H b) (hfo : ∀ b ∈ fp, ∃ o, s.heap.get? b = some o) (hns : h'.Ns s.heap.objs.size m) (hsb : Heap.SameBut s.heap.objs.size (pushCells (s.heap.push { cls := .type "frame", data := .dict #[] }) scope.names) h')
    (hk : ∀ b o, h'.get? b = some o → s6.heap.get? b = some o) (hos : s6.os = s.os) (hbare : AllBare s6.gens) (hh : A.handled = none) (hfr : A.frames = some X.stack)
    (hpin : ∀ p ∈ pn ++ P, s6.heap.get? p.1 = some p.2 ∧ s.heap.objs.size < p.1 ∧ ∀ v, p.2.data ≠ .cell v) :
    Inv (gcx X scope (gCl X scope s.heap.objs.size) s.heap.objs.size code A s H fp pn) P (wipe σ vs) H s6 := by
  have hfree : ∀ y ∈ scope.names, y.2 = .free → ∃ c, X.env.cells.lookup y.1 = some c := fun y hy e => by
    rcases B.free y hy e with k | k
    · exact I.ok.has _ (.inl k)
    · exact I.ok.has _ (.inr k)
  have kp0 : ∀ b o, s.heap.get? b = some o → h'.get? b = some o := fun b o e => (hsb.2 b (Nat.ne_of_lt (Heap.lt_size e))).trans (pushCells_keeps _ _ _ _ (Heap.get?_push_of_some _ e))
  have kp : ∀ b o, s.heap.get? b = some o → s6.heap.get? b = some o := fun b o e => hk b o (kp0 b o e)
  have hcl : gCl X scope s.heap.objs.size = cellsFrom (s.heap.push { cls := .type "frame", data := .dict #[] }).objs.size scope.names (cloFrom X.env.cells scope.names []) := by
    rw [Heap.size_push]
  have cm : ∀ {y c}, (y, c) ∈ cloFrom X.env.cells scope.names [] → (y, NameKind.free) ∈ scope.names ∧ X.env.cells.lookup y = some c ∧ c < s.heap.objs.size := fun {y c} hm => by
    rcases cloFrom_mem hm with hm | ⟨h1, rfl⟩
    · cases hm
    · obtain ⟨c, hc⟩ := hfree _ h1 rfl
      rw [hc]
      obtain ⟨w, z⟩ := I.cell _ _ hc
      exact ⟨h1, rfl, z.lt⟩
  refine gx_inv (vs := vs) (own := own) (H2 := H) (H5 := H) I hf hfo hh hfr hN B hvs (fun x c e => ?_) (fun x y c e1 e2 => ?_) (fun x hx => ?_) (Nat.le_refl _) ⟨m, hns.keeps hk⟩ (I.hok.fresh (Nat.le_refl _)) (Un.kept kp) (I.hok.kept kp) hos hbare fun p hp => ?_
  · rw [hcl] at e
    rcases cells_mem (PySem.mem_of_lookup e) with hm | ⟨h1, h2, h3⟩
    · exact .inl ⟨B.uniq _ (cm hm).1, (cm hm).2.1⟩
    · rw [Heap.size_push] at h2
      refine .inr ⟨B.uniq _ h1, Nat.le_of_succ_le h2, ?_, I.hok.fresh (Nat.le_of_succ_le h2)⟩
      obtain ⟨o, e1, e2⟩ := h3
      exact ⟨none, o, hk c o ((hsb.2 c (Nat.ne_of_gt h2)).trans e1), e2⟩
  · rw [hcl] at e1 e2
    refine cells_inj (fun p hp => ?_) (fun y z c a b => I.ok.inj y z c (cm a).2.1 (cm b).2.1) (PySem.mem_of_lookup e1) (PySem.mem_of_lookup e2)
    rw [Heap.size_push]
    exact Nat.lt_succ_of_lt (cm (y := p.1) (c := p.2) hp).2.2
  · rw [hcl]
    rcases hx with hx | hx
    · obtain ⟨c, hm⟩ := cells_has (n := (s.heap.push { cls := .type "frame", data := .dict #[] }).objs.size) (acc := cloFrom X.env.cells scope.names []) (PySem.mem_of_lookup hx)
      exact mem_lookup hm
    · exact mem_lookup (cells_acc (names := scope.names) (n := (s.heap.push { cls := .type "frame", data := .dict #[] }).objs.size) (cloFrom_has (cells := X.env.cells) (acc := []) (PySem.mem_of_lookup hx)))
  · obtain ⟨p1, p2, p3⟩ := hpin p hp
    exact ⟨p1, I.hok.fresh (Nat.le_of_lt p2), Nat.ne_of_gt p2, notStk I (Nat.le_of_lt p2), p3⟩
end
end DL

namespace DL
open PySem PySem.Spec PyProof.Rows L2 DK
variable [Nms] [Tabs]
section
variable {X : Cx} {pins : List (Addr × Obj)} {σ : L2.St} {H : Hp} {s : Shared}
theorem inv_grow {P : Addr} {ps more : Array Value} {h' : Heap} {H' : Hp} {t' : Nat} (I : Inv X pins σ H s) (hP : H P = some (.tbl ps)) (k : ∀ b o, b ≠ P → s.heap.get? b = some o → h'.get? b = some o)
    (hm : h'.get? P = some { cls := .none, data := .fields (ps ++ more) }) (hH : ∀ b, b < s.heap.objs.size → b ≠ P → H' b = H b) (hHP : H' P = some (.tbl (ps ++ more)))
    (hnew : ∀ b u, s.heap.objs.size ≤ b → H' b = some u → ObjOk X.prog X.w H' h' b u) : Inv X pins σ H' { s with heap := h', toks := t' } := by
  have nP : ∀ b u, H b = some u → (∀ q, u ≠ .tbl q) → b ≠ P := fun b u e q z => by
    rw [z, hP] at e
    exact q ps (Option.some.inj e).symm
  have nN : ∀ b, H b = none → b ≠ P := fun b e z => by
    rw [z, hP] at e
    cases e
  have keep : ∀ b u, H b = some u → (∀ q, u ≠ .tbl q) → H' b = some u := fun b u e q => by
    rw [hH b (I.hok.lt e) (nP b u e q)]
    exact e
  refine I.step (g' := s.gens) (d' := s.drawn) (ch := []) (fun b hb => absurd hb (by simp)) (fun b o _ _ _ e n => k b o (nN b n) e) (fun b o _ _ _ e n => ⟨o.slots, k b o (nN b n) e⟩)
    (fun b o _ e n => by rw [hH b (Heap.lt_size e) (nN b n)]; exact n) (fun b o _ e => ?_) (fun b xs e => keep b _ e fun q z => by cases z) (fun b o u e => keep b _ e fun q z => by cases z) (fun b qs e => ?_) (fun m hn => ?_) (fun b u e => ?_) I.bare
  · by_cases hb : b = P
    · rw [hb]
      exact ⟨_, hm⟩
    · exact ⟨o, k b o hb e⟩
  · by_cases hb : b = P
    · rw [hb, hP] at e
      cases e
      rw [hb]
      exact ⟨more, hHP⟩
    · exact ⟨#[], by rw [hH b (I.hok.lt e) hb, e]; simp⟩
  · obtain ⟨ob, es, ep, ho, r⟩ := hn
    exact ⟨ob, es, ep, k _ ob (nN _ I.free) ho, r⟩
  · by_cases hl : b < s.heap.objs.size
    · by_cases hb2 : b = P
      · rw [hb2, hHP] at e
        cases e
        rw [hb2]
        exact hm
      · rw [hH b hl hb2] at e
        refine (I.hok b u e).stay (fun d v hd q => k d v ?_ q) (fun d q => keep d _ q fun q z => by cases z) fun d xs q => keep d _ q fun q z => by cases z
        rcases hd with z | z
        · rw [z]
          exact hb2
        · exact nP d _ z (fun q z => by cases z)
    · exact hnew b u (Nat.le_of_not_lt hl) e
/-- the running frame's code object: tracked, or the module's own -/
structure CodeAt (X : Cx) (t : Tb) : Prop where
  bi : ∃ (bm : Addr) (o : Obj), X.mg "__builtins__" = some (.ref bm) ∧ bm ≠ builtinsNs ∧ X.base.get? bm = some o ∧ o.cls = .type "module" ∧ o.dict = some builtinsNs ∧ o.data = .plain
  code : ∃ c, X.env.code = .ref c ∧ (t.1 = some c ∨ PySem.W.CodeHd X.base c t.2)
theorem CodeAt.hd {t : Tb} (hc : CodeAt X t) (I : Inv X pins σ H s) (hx : TabX H t) : ∃ c, X.env.code = .ref c ∧ PySem.W.CodeHd s.heap c t.2 := by
  obtain ⟨c, e, z | z⟩ := hc.code
  · obtain ⟨q, e2⟩ := hx.2 c z
    exact ⟨c, e, (I.hok c _ e2).1.1⟩
  · exact ⟨c, e, z.keeps I.bk⟩
theorem tabX_grow {P c' P' : Addr} {ps : Array Value} {pos : Pos} {qual : Str} {H : Hp} (hP : H P = some (.tbl ps)) (hc : H c' = none) (hP' : H P' = none) (hne : c' ≠ P') (ht : TriplesOk ps.toList) (hn : ∀ q, Nms.nm pos.line pos.col = some q → qual = q) (t : Tb) (h : TabX H t) :
    TabX (upd (upd (upd H P (.tbl (ps ++ #[rawInt pos.line, rawInt pos.col, .ref c']))) c' (CodeT c' P' qual)) P' (.tbl #[])) t := by
  have n1 : P ≠ c' := ne_of_none hP hc
  have n2 : P ≠ P' := ne_of_none hP hP'
  have kc : ∀ {b c Q : Addr} {q : Str}, H b = some (CodeT c Q q) → (upd (upd (upd H P (.tbl (ps ++ #[rawInt pos.line, rawInt pos.col, .ref c']))) c' (CodeT c' P' qual)) P' (.tbl #[])) b = some (CodeT c Q q) := fun {b c Q q} e => by
    rw [upd_ne (ne_of_none e hP'), upd_ne (ne_of_none e hc), upd_ne (fun z => by rw [z, hP] at e; unfold CodeT at e; cases e)]
    exact e
  obtain ⟨⟨T, t1, t2⟩, t3⟩ := h
  refine ⟨⟨fun Q => T Q ∨ Q = P', .inl t1, fun Q hQ => ?_⟩, fun c e => ?_⟩
  · by_cases hQ' : Q = P'
    · subst hQ'
      refine ⟨#[], upd_same, trivial, fun p cv z => ?_⟩
      have z' : codeAmong p [] = some cv := z
      simp [codeAmong] at z'
    · rcases hQ with hQ | hQ
      · obtain ⟨qs, e1, e2, e3⟩ := t2 Q hQ
        by_cases hQP : Q = P
        · subst hQP
          rw [hP] at e1
          cases e1
          have eL : (ps ++ #[rawInt pos.line, rawInt pos.col, .ref c']).toList = ps.toList ++ [rawInt pos.line, rawInt pos.col, .ref c'] := by simp
          refine ⟨_, by rw [upd_ne n2, upd_ne n1, upd_same], by rw [eL]; exact PySem.TriplesOk_snoc _ _ _ _ ht, fun p cv z => ?_⟩
          rw [eL] at z
          rcases NdefX.among_app2 _ ht z with z | ⟨z, z1, z2⟩
          · obtain ⟨c, Q', q, f1, f2, f3, f4⟩ := e3 p cv z
            exact ⟨c, Q', q, f1, kc f2, .inl f3, f4⟩
          · refine ⟨c', P', qual, z, by rw [upd_ne hne, upd_same], .inr rfl, fun q' hq => hn q' ?_⟩
            rw [z1, z2]
            exact hq
        · refine ⟨qs, by rw [upd_ne (ne_of_none e1 hP'), upd_ne (ne_of_none e1 hc), upd_ne hQP]; exact e1, e2, fun p cv z => ?_⟩
          obtain ⟨c, Q', q, f1, f2, f3, f4⟩ := e3 p cv z
          exact ⟨c, Q', q, f1, kc f2, .inl f3, f4⟩
      · exact absurd hQ hQ'
  · obtain ⟨q, e2⟩ := t3 c e
    exact ⟨q, kc e2⟩
/-- a generator expression's code object is found or made; the builtins are looked up -/
theorem gx_code {t : Tb} {pos : Pos} {qual : Str} {scope : Scope} {E : Value → Shared → Prop} {Q : Value → Addr → Shared → Prop} (hc : CodeAt X t) (I : Inv X pins σ H s) (hx : TabX H t) (hn : ∀ q, Nms.nm pos.line pos.col = some q → qual = q)
    (hQ : ∀ (c' P' : Addr) (h' : Heap) (tk : Nat) (H' : Hp), Inv X pins σ H' { s with heap := h', toks := tk } → (∀ (K : Fg) (as : List Addr) (S : Sto), Rel K as S H → Rel K as S H' ∧ Ext as H as H') → (∀ b o, s.heap.get? b = some o → H b = none → H' b = none ∧ h'.get? b = some o) → TabX H' (some c', P') →
      Q (.ref c') builtinsNs { s with heap := h', toks := tk }) :
    wpAny (model X.prog X.w) X.A (genexprCode X.env pos qual scope) (fun code s3 => wpAny (model X.prog X.w) X.A (builtinsFor X.env.globals X.env.builtins) (fun bi s4 => Q code bi s4) E s3) E s := by
  obtain ⟨c, hcode, cd⟩ := hc.hd I hx
  obtain ⟨⟨T, hT, hW⟩, _⟩ := id hx
  obtain ⟨ps, hP, ht, hin⟩ := hW t.2 hT
  have hPs : s.heap.get? t.2 = some { cls := .none, data := .fields ps } := I.hok t.2 _ hP
  have bifor : ∀ {h' : Heap} {tk : Nat} {H' : Hp} {code : Value}, Inv X pins σ H' { s with heap := h', toks := tk } → Q code builtinsNs { s with heap := h', toks := tk } →
      wpAny (model X.prog X.w) X.A (builtinsFor X.env.globals X.env.builtins) (fun bi s4 => Q code bi s4) E { s with heap := h', toks := tk } := fun {h' tk H' code} I' q => by
    obtain ⟨bm, o, b1, b2, b3, b4, b5, b6⟩ := hc.bi
    refine wpAny_builtinsFor (m := X.mg) ?_ b1 b2 (I'.bk _ _ b3) b4 b5 b6 q
    rw [I.ok.glob]
    exact I'.mod.glob.keeps I'.bk
  cases hf : codeAmong pos ps.toList with
  | none =>
    refine wpAny_genexprCodeX hcode (cd.code hPs ht) (cd.tab hPs) hf fun c' h' tk hx' hge hlt hco' hrec htab' hown => ?_
    obtain ⟨P', hP'ge, hcode', htab''⟩ := hown
    have hd' := PySem.W.CodeHd.of hcode' htab''
    have hne : c' ≠ P' := by
      obtain ⟨_, _, _, _, _, _, _, _, _, _, _, _, _, _, _, _, _, _, z⟩ := hd'
      exact z
    have nc : H c' = none := I.hok.fresh hge
    have nP' : H P' = none := I.hok.fresh hP'ge
    have hPl : t.2 < s.heap.objs.size := I.hok.lt hP
    have nPc : t.2 ≠ c' := Nat.ne_of_lt (Nat.lt_of_lt_of_le hPl hge)
    have nPP : t.2 ≠ P' := Nat.ne_of_lt (Nat.lt_of_lt_of_le hPl hP'ge)
    have hQ' := hQ c' P' h' tk (upd (upd (upd H t.2 (.tbl (ps ++ #[rawInt pos.line, rawInt pos.col, .ref c']))) c' (CodeT c' P' qual)) P' (.tbl #[]))
    have old : ∀ b, b < s.heap.objs.size → b ≠ t.2 → (upd (upd (upd H t.2 (.tbl (ps ++ #[rawInt pos.line, rawInt pos.col, .ref c']))) c' (CodeT c' P' qual)) P' (.tbl #[])) b = H b := fun b hb hbP => by
      rw [upd_ne (Nat.ne_of_lt (Nat.lt_of_lt_of_le hb hP'ge)), upd_ne (Nat.ne_of_lt (Nat.lt_of_lt_of_le hb hge)), upd_ne hbP]
    have J := inv_grow (t' := tk) (more := #[rawInt pos.line, rawInt pos.col, .ref c']) (h' := h') (H' := upd (upd (upd H t.2 (.tbl (ps ++ #[rawInt pos.line, rawInt pos.col, .ref c']))) c' (CodeT c' P' qual)) P' (.tbl #[])) I hP (fun b o hb e => hx' b o hb e) htab'.2 old (by rw [upd_ne nPP, upd_ne nPc, upd_same]) fun b u hb e => by
      by_cases h1 : b = P'
      · subst h1
        rw [upd_same] at e
        cases e
        exact htab''.2
      · rw [upd_ne h1] at e
        by_cases h2 : b = c'
        · subst h2
          rw [upd_same] at e
          cases e
          refine ⟨⟨hd', hrec⟩, ?_, fun h1 h2 ⟨⟨o, vs, file, tf, flags, tg, inF, text, tt, e1, r⟩, ⟨c2, o2, vs2, t2, e2, g2, r2⟩⟩ st => ⟨⟨o, vs, file, tf, flags, tg, inF, text, tt, st _ e1, r⟩, ?_⟩⟩
          · obtain ⟨o, _, _, _, _, _, _, _, _, e1, _⟩ := hd'
            exact ⟨o, e1⟩
          · cases e2
            exact ⟨_, o2, vs2, t2, rfl, st _ g2, r2⟩
        · rw [upd_ne h2, upd_ne (Nat.ne_of_gt (Nat.lt_of_lt_of_le hPl hb)), I.hok.fresh hb] at e
          cases e
    have nm : ∀ {b : Addr}, H b = none → b ≠ t.2 := fun {b} e z => by rw [z, hP] at e; cases e
    have tg := fun t' (h : TabX H t') => tabX_grow (P := t.2) (c' := c') (P' := P') (pos := pos) (qual := qual) hP nc nP' hne ht hn t' h
    refine bifor J (hQ' J (fun K as S R => ?_) (fun b o e n => ⟨by rw [old b (Heap.lt_size e) (nm n)]; exact n, hx' b o (nm n) e⟩) ?_)
    · have nas : ∀ {b : Addr}, b ∈ as → b < s.heap.objs.size ∧ b ≠ t.2 := fun {b} hb => by
        rcases R.mem hb with ⟨vs, e⟩ | ⟨es, e⟩ | ⟨o, es, e⟩ | ⟨es, e⟩ | ⟨_, _, ⟨_, _, e⟩, _⟩
        · exact ⟨I.hok.lt e, fun z => by rw [z, hP] at e; cases e⟩
        · exact ⟨I.hok.lt e, fun z => by rw [z, hP] at e; cases e⟩
        · exact ⟨I.hok.lt e, fun z => by rw [z, hP] at e; cases e⟩
        · exact ⟨I.hok.lt e, fun z => by rw [z, hP] at e; cases e⟩
        · exact ⟨I.hok.lt e, fun z => by rw [z, hP] at e; cases e⟩
      have E1 : Ext as H as (upd (upd (upd H t.2 (.tbl (ps ++ #[rawInt pos.line, rawInt pos.col, .ref c']))) c' (CodeT c' P' qual)) P' (.tbl #[])) := by
        refine ⟨⟨[], by simp⟩, fun b hb nb => absurd hb nb, fun b o nb e ht => ?_, tg, fun b o nb e => ?_, fun b hb q => ?_, fun b hb o u q => ?_⟩
        · rw [old b (I.hok.lt e) (fun z => by rw [z, hP] at e; cases e; cases ht)]
          exact e
        · by_cases hb : b = t.2
          · exact ⟨_, by rw [hb, upd_ne nPP, upd_ne nPc, upd_same]⟩
          · exact ⟨o, by rw [old b (I.hok.lt e) hb]; exact e⟩
        · rw [old b (nas hb).1 (nas hb).2] at q
          exact q
        · rw [old b (nas hb).1 (nas hb).2]
          exact q
      refine ⟨⟨R.nd, R.len, fun i a ds e1 e2 => ?_⟩, E1⟩
      obtain ⟨z1, z2⟩ := nas (List.mem_of_getElem? e1)
      exact (R.cell i a ds e1 e2).mono E1.same (old a z1 z2)
    · refine ⟨?_, fun c e => ?_⟩
      · obtain ⟨⟨T', t1, t2⟩, _⟩ := tg t hx
        obtain ⟨qs, e1, e2, e3⟩ := t2 t.2 t1
        refine ⟨fun Q => T' Q ∨ Q = P', .inr rfl, fun Q hQ => ?_⟩
        rcases hQ with hQ | hQ
        · obtain ⟨qs, e1, e2, e3⟩ := t2 Q hQ
          refine ⟨qs, e1, e2, fun p cv z => ?_⟩
          obtain ⟨c, Q', q, f1, f2, f3, f4⟩ := e3 p cv z
          exact ⟨c, Q', q, f1, f2, .inl f3, f4⟩
        · subst hQ
          refine ⟨#[], upd_same, trivial, fun p cv z => ?_⟩
          have z' : codeAmong p [] = some cv := z
          simp [codeAmong] at z'
      · cases e
        exact ⟨qual, by rw [upd_ne hne, upd_same]⟩
  | some cv =>
    obtain ⟨c', P', q, rfl, f2, f3, f4⟩ := hin pos cv hf
    refine wpAny_genexprCode_hit hcode (cd.code hPs ht) hf ?_
    exact bifor (h' := s.heap) (tk := s.toks) I (hQ c' P' s.heap s.toks H I (fun K as S R => ⟨R, .refl⟩) (fun b o e n => ⟨n, e⟩) ⟨⟨T, f3, hW⟩, fun c e => by cases e; exact ⟨q, f2⟩⟩)
end
end DL

namespace DL
open PySem PySem.Spec PyProof.Rows L2 DK
variable [Nms] [T0 : Tabs]
/-- the tables that are known in a generator's frame -/
abbrev tabsIn (c' P' : Addr) : Tabs := ⟨(some c', P') :: Tabs.l⟩
theorem ER.up {c' P' : Addr} {K : Fg} {as : List Addr} {H : Hp} {σ : L2.St} {ρ : RE} (E : ER K as H σ ρ) (h : TabX H (some c', P')) : @ER _ (tabsIn c' P') K as H σ ρ :=
  @ER.mk _ (tabsIn c' P') K as H σ ρ E.len E.at_ fun t ht => by
    rcases List.mem_cons.mp (show t ∈ (some c', P') :: T0.l from ht) with z | z
    · rw [z]; exact h
    · exact E.tab t z
/-- a generator that has just been made -/
structure GReady (X : Cx) (pins : List (Addr × Obj)) (σ : L2.St) (ρ : RE) (tg iter elt : Expr) (ifs : List Expr) (scope : Scope) (gpos : Pos) (xs : List PyData) (as : List Addr) (S1 : Sto) (H5 : Hp) (s4 : Shared) (c' P' : Addr) (fp : List Addr) (tn : Nat → Heap → Prop) (J : It) (it a : Addr) (go : Obj) (h' : Heap) (m : Str → Option Value) (s5 : Shared) : Prop where
  inv : Inv X pins σ H5 s4
  rel : Rel X.K as S1 H5
  er : ER X.K as H5 σ ρ
  tab : TabX H5 (some c', P')
  turn : Turn X.prog X.w X.K tg J fp it tn
  at0 : tn 0 s4.heap
  fpk : ∀ b ∈ fp, FpOk X pins H5 b
  its : Iters X.K as H5 J xs
  ns : h'.Ns s4.heap.objs.size m
  sb : Heap.SameBut s4.heap.objs.size (pushCells (s4.heap.push { cls := .type "frame", data := .dict #[] }) scope.names) h'
  atA : a = h'.objs.size
  isG : ∀ h : Heap, h.get? a = some go → h.IsGen a s4.gens.size
  heap : s5.heap = h'.push go
  gens : s5.gens = s4.gens.push (.fresh (.compStart (.GeneratorExp elt [⟨tg, iter, ifs, 0⟩] scope gpos) 0 (.ref it) .none (gEnv X scope (gCl X scope s4.heap.objs.size) s4.heap.objs.size (.ref c'))))
  os : s5.os = s4.os
  noc : ∀ v, go.data ≠ .cell v
  atG : s5.heap.get? a = some go
section
variable {X : Cx} {pins : List (Addr × Obj)} {σ : L2.St} {H : Hp} {s : Shared} {ρ : RE} {tg iter elt : Expr} {ifs : List Expr} {scope : Scope} {gpos : Pos} {xs : List PyData} {as : List Addr} {S S1 : Sto} {own : List (Str × Nat)} {vs is : List Nat} {mi : ML}
theorem gx_eval {t : Tb} {k : Nat} {Q : Value → Shared → Prop} (hr : Room k X.A) (hi : DI X tg iter mi) (hc : CodeAt X t) (htm : t ∈ Tabs.l) (hco : scope.isCoroutine = false) (h0 : scope.names.lookup (".0" : Str) = some NameKind.local) (B : BlkOk X.N X.env.scope scope own)
    (hn : ∀ q, Nms.nm gpos.line gpos.col = some q → X.env.qual ++ "<genexpr>" = q) (hs : ∀ x, genFold iter X.env x = pure x) (I : Inv X pins σ H s) (R : Rel X.K as S H) (E : ER X.K as H σ ρ) (e : mi ρ S = some (xs, S1))
    (hQ : ∀ H5 s4 c' P' fp tn J it a go h' m s5, GReady X pins σ ρ tg iter elt ifs scope gpos xs as S1 H5 s4 c' P' fp tn J it a go h' m s5 → Ext as H as H5 → Q (.ref a) s5) :
    wpAny (model X.prog X.w) X.A (eval (.GeneratorExp elt [⟨tg, iter, ifs, 0⟩] scope gpos) X.env) Q X.xe s := by
  have hfree : ∀ y ∈ scope.names, y.2 = .free → ∃ c, X.env.cells.lookup y.1 = some c := fun y hy e => by
    rcases B.free y hy e with k | k
    · exact I.ok.has _ (.inl k)
    · exact I.ok.has _ (.inr k)
  refine gx_make hco (closure_ok hfree) h0 B.kind hr.depth ?_ hs
  refine thn (hi.run pins s σ H (fun J H1 => Rel X.K as S1 H1 ∧ Ext as H as H1 ∧ Iters X.K as H1 J xs) I ⟨as, ρ, S, xs, S1, R, E, e, fun J H1 R1 X1 it => ⟨R1, X1, it⟩⟩) fun v s1 h1 => ?_
  refine thn h1 fun itv s2 ⟨it, fp, tn, J, H2, eit, I2, T, st, hf, R2, X2, its⟩ => ?_
  subst eit
  refine ⟨I2.nolimit, ?_⟩
  have tx : TabX H2 t := (E.ext X2).tab t htm
  refine gx_code (Q := fun code bi s4 => ∀ (h' : Heap) (m : Str → Option Value), h'.Ns s4.heap.objs.size m → Heap.SameBut s4.heap.objs.size (pushCells (s4.heap.push { cls := .type "frame", data := .dict #[] }) scope.names) h' →
    Q (.ref h'.objs.size) { s4 with
      gens := s4.gens.push (.fresh (.compStart (.GeneratorExp elt [⟨tg, iter, ifs, 0⟩] scope gpos) 0 (.ref it) .none (genEnv scope (cellsFrom (s4.heap.objs.size + 1) scope.names (cloFrom X.env.cells scope.names [])) s4.heap.objs.size code bi X.env))),
      toks := s4.toks + 1 + 1 + 1,
      heap := h'.push { cls := .type "generator", data := .fields #[.int s4.gens.size 0, .str "<genexpr>" (s4.toks + 1), .str (X.env.qual ++ "<genexpr>") (s4.toks + 1 + 1)] } }) hc I2 tx hn fun c' P' h3 tk H3 I3 hR hK hT h' m hns hsb => ?_
  obtain ⟨R3, X3⟩ := hR X.K as S1 R2
  have fo : ∀ b ∈ fp, ∃ o, s2.heap.get? b = some o := fun b hb => let ⟨o, e, _⟩ := T.obj _ _ st b hb; ⟨o, e⟩
  refine hQ H3 _ c' P' fp tn J it _ _ h' m _ ⟨I3, R3, E.ext (X2.trans X3), hT, T, T.keep _ _ _ st fun b hb o e => (hK b o e (hf b hb).1).2, fun b hb => ?_, its.ext X3, hns, hsb, rfl, fun h e => ⟨_, _, _, e, rfl, rfl, rfl⟩, rfl, rfl, rfl, fun v z => (by cases z), Heap.get?_push_size _ rfl⟩ (X2.trans X3)
  obtain ⟨o, e⟩ := fo b hb
  exact ⟨(hK b o e (hf b hb).1).1, (hf b hb).2⟩
variable {H5 : Hp} {s4 : Shared} {c' P' : Addr} {fp : List Addr} {tn : Nat → Heap → Prop} {J : It} {it a : Addr} {go : Obj} {h' : Heap} {m : Str → Option Value} {s5 : Shared}
theorem GReady.keep5 (G : GReady X pins σ ρ tg iter elt ifs scope gpos xs as S1 H5 s4 c' P' fp tn J it a go h' m s5) : ∀ b o, s4.heap.get? b = some o → s5.heap.get? b = some o := fun b o e => by
  rw [G.heap]
  exact Heap.get?_push_of_some _ ((G.sb.2 b (Nat.ne_of_lt (Heap.lt_size e))).trans (pushCells_keeps _ _ _ _ (Heap.get?_push_of_some _ e)))
theorem GReady.isGen (G : GReady X pins σ ρ tg iter elt ifs scope gpos xs as S1 H5 s4 c' P' fp tn J it a go h' m s5) : s5.heap.IsGen a s4.gens.size := G.isG _ G.atG
end
end DL

namespace DL
open PySem PySem.Spec PyProof.Rows L2 DK
variable [Nms] [T0 : Tabs]
section
variable {X : Cx} {pins : List (Addr × Obj)} {σ : L2.St} {ρ : RE} {tg iter elt : Expr} {ifs : List Expr} {scope : Scope} {gpos : Pos} {xs : List PyData} {as : List Addr} {S S1 : Sto} {own : List (Str × Nat)} {vs is : List Nat}
variable {H5 : Hp} {s4 : Shared} {c' P' : Addr} {fp : List Addr} {tn : Nat → Heap → Prop} {J : It} {it a : Addr} {go : Obj} {h' : Heap} {m : Str → Option Value} {s5 : Shared}
abbrev gcR (X : Cx) (scope : Scope) (c' : Addr) (A : Around) (s4 : Shared) (H5 : Hp) (fp : List Addr) (a : Addr) (go : Obj) : Cx := gcx X scope (gCl X scope s4.heap.objs.size) s4.heap.objs.size (.ref c') A s4 H5 fp [(a, go)]
theorem GReady.wake {A : Around} {Sx : List Addr} {s6 : Shared} {stop : PyData → Option Bool} {all : List PyData} {e : Bool} {Sf : Sto} {tgt : TgD} {tt : MB} {te : M} {Cn : Nat → Hp → Heap → Prop} (hCn : CnOk Sx as Cn) (G : GReady X pins σ ρ tg iter elt ifs scope gpos xs as S1 H5 s4 c' P' fp tn J it a go h' m s5)
    (B : BlkOk X.N X.env.scope scope own) (hN : X.N.Nodup) (hvs : ∀ p ∈ own, p.2 ∈ vs) (hv : ∀ i ∈ is, i ∈ vs) (hco : scope.isCoroutine = false)
    (hg : @DG _ (tabsIn c' P') (gcR X scope c' A s4 H5 fp a go) tg is tgt) (ht : @DTs _ (tabsIn c' P') (gcR X scope c' A s4 H5 fp a go) ifs tt) (he : @DE _ (tabsIn c' P') (gcR X scope c' A s4 H5 fp a go) elt te)
    (hh : A.handled = none) (hfr : A.frames = some X.stack) (hgo : gxGo stop tgt tt te (wipeR ρ vs) xs S1 = some (all, e, Sf)) (hk : ∀ b o, s5.heap.get? b = some o → s6.heap.get? b = some o) (hos : s6.os = s5.os) (hb : AllBare s6.gens)
    (hSx : ∀ b ∈ Sx, s5.heap.objs.size ≤ b ∧ ∃ o, s6.heap.get? b = some o ∧ ∀ v, o.data ≠ .cell v) (hC0 : Cn 0 H5 s6.heap) :
    (GenState.fresh (.compStart (.GeneratorExp elt [⟨tg, iter, ifs, 0⟩] scope gpos) 0 (.ref it) .none (gEnv X scope (gCl X scope s4.heap.objs.size) s4.heap.objs.size (.ref c')))).Goes (model X.prog X.w) A
      (GFin (gcR X scope c' A s4 H5 fp a go) Sx as H5 Cn all.length e Sf) (@GOut _ (tabsIn c' P') (gcR X scope c' A s4 H5 fp a go) fp Sx tn as H5 (wipeR ρ vs) Cn stop all e Sf) all.length (.send .none) s6 := by
  have sz5 : s5.heap.objs.size = h'.objs.size + 1 := by rw [G.heap, Heap.size_push]
  have szC : s4.heap.objs.size < h'.objs.size := G.ns.lt
  have kh : ∀ b o, h'.get? b = some o → s5.heap.get? b = some o := fun b o q => by rw [G.heap]; exact Heap.get?_push_of_some _ q
  have fo : ∀ b ∈ fp, ∃ o, s4.heap.get? b = some o := fun b hb => let ⟨o, q, _⟩ := G.turn.obj _ _ G.at0 b hb; ⟨o, q⟩
  have hpn : ∀ p ∈ [(a, go)] ++ pinsAt Sx s6.heap, s6.heap.get? p.1 = some p.2 ∧ s4.heap.objs.size < p.1 ∧ ∀ v, p.2.data ≠ .cell v := fun p hp => by
    rcases List.mem_append.mp hp with z | z
    · rw [List.mem_singleton.mp z]
      exact ⟨hk _ _ G.atG, by show s4.heap.objs.size < a; rw [G.atA]; exact szC, G.noc⟩
    · obtain ⟨z1, z2⟩ := of_pinsAt z
      obtain ⟨y1, o, y2, y3⟩ := hSx p.1 z1
      rw [z2] at y2
      cases y2
      exact ⟨z2, by have h1 : s4.heap.objs.size < h'.objs.size := szC; have h2 : h'.objs.size + 1 ≤ p.1 := by rw [← sz5]; exact y1
                    exact Nat.lt_of_lt_of_le (Nat.lt_succ_of_lt h1) h2, y3⟩
  have I6 : Inv (gcR X scope c' A s4 H5 fp a go) (pinsAt Sx s6.heap) (wipe σ vs) H5 s6 := gx_frame G.inv B hN hvs G.fpk fo G.ns G.sb (fun b o q => hk b o (kh b o q)) (hos.trans G.os) hb hh hfr hpn
  have I5 : ∀ x c, (gcR X scope c' A s4 H5 fp a go).env.cells.lookup x = some c → c < s5.heap.objs.size := fun x c q => by
    have Z : Inv (gcR X scope c' A s4 H5 fp a go) [] (wipe σ vs) H5 { s6 with heap := s5.heap } := gx_frame G.inv B hN hvs G.fpk fo G.ns G.sb kh (hos.trans G.os) hb hh hfr fun p hp => by
      have hp' : p ∈ [(a, go)] := by simpa using hp
      rw [List.mem_singleton.mp hp']
      exact ⟨G.atG, by show s4.heap.objs.size < a; rw [G.atA]; exact szC, G.noc⟩
    obtain ⟨v, z⟩ := Z.cell x c q
    exact z.lt
  have alt : a < s5.heap.objs.size := Heap.lt_size G.atG
  have sx : SxOk (gcR X scope c' A s4 H5 fp a go) Sx := fun b hb => by
    obtain ⟨y1, _⟩ := hSx b hb
    have h1 : s4.heap.objs.size < b := Nat.lt_of_lt_of_le (Nat.lt_succ_of_lt szC) (show h'.objs.size + 1 ≤ b by rw [← sz5]; exact y1)
    refine ⟨.inr (Nat.le_of_lt h1), Nat.ne_of_gt h1, notStk G.inv (Nat.le_of_lt h1), fun x c q z => ?_, fun p hp z => ?_⟩
    · have := I5 x c q
      rw [z] at this
      exact absurd (Nat.lt_of_lt_of_le this y1) (Nat.lt_irrefl _)
    · rw [List.mem_singleton.mp hp] at z
      rw [← z] at y1
      exact absurd (Nat.lt_of_lt_of_le alt y1) (Nat.lt_irrefl _)
  have fl : ∀ b ∈ fp, b < s4.heap.objs.size := fun b hb => let ⟨o, q⟩ := fo b hb; Heap.lt_size q
  have l45 : s4.heap.objs.size < s5.heap.objs.size := by rw [sz5]; exact Nat.lt_succ_of_lt szC
  have fsx : ∀ b ∈ fp, b ∉ Sx := fun b hb z => absurd (Nat.lt_of_lt_of_le (Nat.lt_trans (fl b hb) l45) (hSx b z).1) (Nat.lt_irrefl _)
  refine ⟨rfl, @gx_start _ (tabsIn c' P') X scope _ _ _ A s4 H5 fp _ tn as elt iter tg ifs gpos it J xs tgt tt te is vs ρ stop all e Sf Sx Cn hCn G.turn G.its hg ht he hv sx fsx (fun {H' P} hP hH b hb => ?_) hco S1 H5 s6 s6 ⟨hC0, wipe σ vs, I6, fun b hb => ⟨?_, (hSx b hb).2⟩, ?_, fun b hb => (G.fpk b hb).1, .refl, G.rel, ?_⟩ hgo fun _ _ => rfl⟩
  · refine ⟨hH b hb, (I6.ok.exf b hb).1, I6.ok.exfs b hb, .inl hb, (I6.ok.exf b hb).2, fun p hp z => ?_⟩
    have lb := fl b hb
    rcases List.mem_append.mp hp with q | q
    · rw [List.mem_singleton.mp q] at z
      have : a = b := z
      rw [← this, G.atA] at lb
      exact absurd (Nat.lt_trans szC lb) (Nat.lt_irrefl _)
    · exact fsx b hb (z ▸ hP p q)
  · obtain ⟨y1, _⟩ := hSx b hb
    exact G.inv.hok.fresh (Nat.le_trans (Nat.le_of_lt l45) y1)
  · exact G.turn.keep _ _ _ G.at0 fun b _ o q => hk b o (G.keep5 b o q)
  · exact @ER.wiped _ (tabsIn c' P') _ _ _ _ _ (G.er.up G.tab) vs
theorem GReady.bare (G : GReady X pins σ ρ tg iter elt ifs scope gpos xs as S1 H5 s4 c' P' fp tn J it a go h' m s5) : AllBare s5.gens := by
  rw [G.gens]
  exact G.inv.bare.push rfl
theorem GReady.nolimit (G : GReady X pins σ ρ tg iter elt ifs scope gpos xs as S1 H5 s4 c' P' fp tn J it a go h' m s5) : s5.heap.NoLimit := G.inv.nolimit.keeps G.keep5
theorem GReady.gen (G : GReady X pins σ ρ tg iter elt ifs scope gpos xs as S1 H5 s4 c' P' fp tn J it a go h' m s5) : s5.gens[s4.gens.size]? = some (.fresh (.compStart (.GeneratorExp elt [⟨tg, iter, ifs, 0⟩] scope gpos) 0 (.ref it) .none (gEnv X scope (gCl X scope s4.heap.objs.size) s4.heap.objs.size (.ref c')))) := by
  rw [G.gens]
  simp
end
end DL

namespace DL
open PySem PySem.Spec PyProof.Rows L2 DK
variable [Nms] [T0 : Tabs]
def mAll (mi : ML) (vs : List Nat) (tgt : TgD) (tt : MB) (te : M) : M := fun ρ S => (mi ρ S).bind fun p => (gxGo stopAll tgt tt te (wipeR ρ vs) p.1 p.2).bind fun r => some (.d (.bool r.2.1), r.2.2)
def mAny (mi : ML) (vs : List Nat) (tgt : TgD) (tt : MB) (te : M) : M := fun ρ S => (mi ρ S).bind fun p => (gxGo stopAny tgt tt te (wipeR ρ vs) p.1 p.2).bind fun r => some (.d (.bool (!r.2.1)), r.2.2)
section
variable {X : Cx} {tg iter elt : Expr} {ifs : List Expr} {scope : Scope} {p pos gpos : Pos} {own : List (Str × Nat)} {vs is : List Nat} {mi : ML} {tgt : TgD} {tt : MB} {te : M} {t : Tb} {k : Nat}
/-- what a rule for a consumer of a generator expression asks -/
structure GxOk (X : Cx) (k : Nat) (t : Tb) (tg iter elt : Expr) (ifs : List Expr) (scope : Scope) (gpos : Pos) (vs : List Nat) (mi : ML) (tgt : TgD) (tt : MB) (te : M) : Prop where
  room : Room (k + 1) X.A
  gd : X.A.guards = some []
  nd : X.N.Nodup
  it : DI X tg iter mi
  code : CodeAt X t
  mem : t ∈ Tabs.l
  nm : ∀ q, Nms.nm gpos.line gpos.col = some q → X.env.qual ++ "<genexpr>" = q
  co : scope.isCoroutine = false
  dot : scope.names.lookup (".0" : Str) = some NameKind.local
  fold : ∀ x, genFold iter X.env x = pure x
  body : ∃ own is, BlkOk X.N X.env.scope scope own ∧ (∀ p ∈ own, p.2 ∈ vs) ∧ (∀ i ∈ is, i ∈ vs) ∧ ∀ (c' P' : Addr) (A : Around) (s4 : Shared) (H5 : Hp) (fp : List Addr) (a : Addr) (go : Obj), Room k (gcR X scope c' A s4 H5 fp a go).A → (gcR X scope c' A s4 H5 fp a go).A.guards = some [] →
    @DG _ (tabsIn c' P') (gcR X scope c' A s4 H5 fp a go) tg is tgt ∧ @DTs _ (tabsIn c' P') (gcR X scope c' A s4 H5 fp a go) ifs tt ∧ @DE _ (tabsIn c' P') (gcR X scope c' A s4 H5 fp a go) elt te
theorem gx_mk (hr : Room (k + 1) X.A) (hgd : X.A.guards = some []) (hN : X.N.Nodup) (hi : DI X tg iter mi) (hc : CodeAt X t) (htm : t ∈ Tabs.l) (hnm : ∀ q, Nms.nm gpos.line gpos.col = some q → X.env.qual ++ "<genexpr>" = q) (B : BlkOk X.N X.env.scope scope own)
    (hg : ∀ (c' P' : Addr) (A : Around) (s4 : Shared) (H5 : Hp) (fp : List Addr) (a : Addr) (go : Obj), @DG _ (tabsIn c' P') (gcR X scope c' A s4 H5 fp a go) tg is tgt)
    (ht : ∀ (c' P' : Addr) (A : Around) (s4 : Shared) (H5 : Hp) (fp : List Addr) (a : Addr) (go : Obj), Room k (gcR X scope c' A s4 H5 fp a go).A → (gcR X scope c' A s4 H5 fp a go).A.guards = some [] → @DTs _ (tabsIn c' P') (gcR X scope c' A s4 H5 fp a go) ifs tt)
    (he : ∀ (c' P' : Addr) (A : Around) (s4 : Shared) (H5 : Hp) (fp : List Addr) (a : Addr) (go : Obj), Room k (gcR X scope c' A s4 H5 fp a go).A → (gcR X scope c' A s4 H5 fp a go).A.guards = some [] → @DE _ (tabsIn c' P') (gcR X scope c' A s4 H5 fp a go) elt te)
    (hv : (is.all fun i => vs.contains i) = true) (hvs : own.map (·.2) = vs := by rfl) (hco : scope.isCoroutine = false := by rfl) (h0 : scope.names.lookup (".0" : Str) = some NameKind.local := by rfl) (hs : ∀ x, genFold iter X.env x = pure x := by intro _; rfl) :
    GxOk X k t tg iter elt ifs scope gpos vs mi tgt tt te :=
  ⟨hr, hgd, hN, hi, hc, htm, hnm, hco, h0, hs, own, is, B, fun p hp => by rw [← hvs]; exact List.mem_map.mpr ⟨p, hp, rfl⟩, fun i h => by simpa using List.all_eq_true.mp hv i h, fun c' P' A s4 H5 fp a go h1 h2 => ⟨hg c' P' A s4 H5 fp a go, ht c' P' A s4 H5 fp a go h1 h2, he c' P' A s4 H5 fp a go h1 h2⟩⟩
theorem room2 {env : Env} {A : Around} (h : Room (k + 1) A) : Room k (A.in1.in1.deeper env) :=
  ⟨h.hd, by have := h.dp; show A.depth + 1 + 3 * k + 5 < _; omega, by have := h.un; show A.units + 1 + 1 + 3 + 16 * k + 200 < _; omega⟩
end
end DL

namespace DL
open PySem PySem.Spec PyProof.Rows L2 DK
variable [Nms] [T0 : Tabs]
def isum : List PyData → Int
  | [] => 0
  | .int i :: r => i + isum r
  | _ :: r => isum r
theorem isum_app (i : Int) : ∀ l : List PyData, isum (l ++ [.int i]) = isum l + i
  | [] => by simp [isum]
  | .int j :: r => by
    show j + isum (r ++ [.int i]) = j + isum r + i
    rw [isum_app i r]
    omega
  | .none :: r => isum_app i r
  | .bool _ :: r => isum_app i r
  | .str _ :: r => isum_app i r
  | .list _ :: r => isum_app i r
  | .tuple _ :: r => isum_app i r
  | .dict _ :: r => isum_app i r
theorem take_snoc {α : Type} {l : List α} {j : Nat} {y : α} (h : l[j]? = some y) : l.take (j + 1) = l.take j ++ [y] := by
  rw [List.take_add_one, h]
  rfl
def stopSum : PyData → Option Bool
  | .int _ => some false
  | _ => none
def cnSum (S : Addr) (all : List PyData) : Nat → Hp → Heap → Prop := fun j _ h => ∃ tA c, h.get? S = some { cls := .type "list", dict := none, data := .seq #[.int (isum (all.take j)) tA] c, slots := #[] }
theorem cnSum_ok {S : Addr} {bs : List Addr} {all : List PyData} : CnOk [S] bs (cnSum S all) := fun j H H' h h' ⟨tA, c, e⟩ _ k => ⟨tA, c, by rw [k S (List.mem_singleton.mpr rfl)]; exact e⟩
section
variable {X : Cx} {scope : Scope} {cl : List (Str × Addr)} {C : Addr} {code : Value} {A : Around} {sb : Shared} {Hb : Hp} {fp : List Addr} {pn : List (Addr × Obj)} {tn : Nat → Heap → Prop} {bs : List Addr}
/-- sum(…): its loop -/
theorem sum_loop {ρ : RE} {S : Addr} {all : List PyData} {e : Bool} {Sf : Sto} {Ab : Around} {R : Result → Shared → Prop} {a : Addr} {go : Obj} {g : Nat} (hA : A = Ab.in1.in1) (hh : Ab.handled = none) (hd : Ab.depth < recursionLimit) (hpn : pn = [(a, go)]) (hgo : ∀ h : Heap, h.get? a = some go → h.IsGen a g) (hSa : S ≠ a) (hSc : S ≠ cStatics)
    (hend : ∀ s' t', GBack X fp bs sb Hb Sf s' → R (.ok (.ret (.int (isum all) t'))) s') :
    ∀ (n : Nat) (s : Shared) (gs : GenState) (stage : Int), (stage = 0 ∨ stage = 2) → s.heap.NoLimit → s.heap.IsGen a g → AllBare s.gens → s.gens[g]? = some gs → (∃ z tA c, s.heap.get? S = some { cls := .type "list", dict := none, data := .seq #[.int z tA] c, slots := #[] }) →
      gs.Goes (model X.prog X.w) A (GFin (gcx X scope cl C code A sb Hb fp pn) [S] bs Hb (cnSum S all) all.length e Sf) (GOut (gcx X scope cl C code A sb Hb fp pn) fp [S] tn bs Hb ρ (cnSum S all) stopSum all e Sf) n (.send .none) (s.setGen g .running) →
      codeAny (model X.prog X.w) Ab (.builtin "sum.loop" ⟨[.ref a, .ref S, rawInt stage, rawInt 0], []⟩) R s := by
  subst hA
  intro n
  induction n using Nat.strongRecOn with
  | ind n ih =>
    intro s gs stage hst hl hg hb hgs ⟨z, tA, c, hS⟩ hgoes
    have hgl : g < s.gens.size := (Array.getElem?_eq_some_iff.mp hgs).1
    refine codeAny_builtin F.entry_sum_loop ?_
    rw [Around.under_plainId F.plain_sum_loop _]
    show wpAny _ Ab.in1 (seqItems? (.ref S) >>= _) _ _ s
    refine wpAny_bind (wpAny_seqItems hS rfl ?_)
    show wpAny _ Ab.in1 (tryCatch (pyNext (.ref a)) _ >>= _) _ _ s
    refine wpAny_bind (wpAny_tryCatch (GenW.wpAny_gsz (n := g + 1) hgl (wpAny_pyNext_genexpQ (A := Ab.in1) (P := GFinP (gcx X scope cl C code Ab.in1.in1 sb Hb fp pn) [S] bs Hb (cnSum S all) all.length e Sf) hh hl hd hg hgs hgoes (fun v s₁ gs' hbare hv => ?_) (fun s₁ hp h' hk => ?_))))
    · intro hsz
      obtain ⟨y, x, H, S7, i, hm, hy, rv, dv, hR, hsx, hc⟩ := hv
      obtain ⟨⟨tB, cB, hSB⟩, σ, I, hown, _⟩ := hR
      rcases hc with ⟨c1, _⟩ | ⟨c1, c2⟩
      · cases y <;> cases c1
      · have hyb : ∃ b, y = .int b := by
          cases y with
          | int b => exact ⟨b, rfl⟩
          | _ => cases c1
        obtain ⟨b, rfl⟩ := hyb
        cases dv
        obtain ⟨t, rfl⟩ := (show ∃ t, v = Value.int b t from rv)
        have hz : z = isum (all.take (all.length - 1 - (n - 1))) := by
          have q := hsx S (List.mem_singleton.mpr rfl)
          have q2 : s₁.heap.get? S = s.heap.get? S := q
          rw [hSB, hS] at q2
          have q3 := congrArg Obj.data (Option.some.inj q2)
          have q4 : Data.seq #[Value.int (isum (all.take (all.length - 1 - (n - 1)))) tB] cB = Data.seq #[Value.int z tA] c := q3
          injection q4 with q5 q6
          have q7 := congrArg Array.toList q5
          simp at q7
          exact q7.1.symm
        have hnext : z + b = isum (all.take (all.length - (n - 1))) := by
          have e1 : all.length - (n - 1) = all.length - 1 - (n - 1) + 1 := by omega
          rw [e1, take_snoc hy, isum_app, hz]
        have hSs : s₁.heap.get? S = some { cls := .type "list", dict := none, data := .seq #[.int z tA] c, slots := #[] } := by
          have q2 : s₁.heap.get? S = s.heap.get? S := hsx S (List.mem_singleton.mpr rfl)
          rw [q2]; exact hS
        have hga : s₁.heap.get? a = some go := (I.pin (a, go) (List.mem_append_left _ (by show (a, go) ∈ pn; rw [hpn]; exact List.mem_singleton.mpr rfl))).1
        have hsz1 : g < s₁.gens.size := by
          have q : (s₁.setGen g gs').gens.size = s₁.gens.size := GenW.setGen_size _ _ _
          have hsz' : g + 1 ≤ (s₁.setGen g gs').gens.size := hsz
          omega
        -- the next turn, from a heap in which S alone has changed
        have next : ∀ (h2 : Heap) (tk : Nat) (tC : Tok) (cC : Nat) (stage2 : Int), (stage2 = 0 ∨ stage2 = 2) → (∀ b o, b ≠ S → s₁.heap.get? b = some o → h2.get? b = some o) → h2.get? S = some { cls := .type "list", dict := none, data := .seq #[.int (z + b) tC] cC, slots := #[] } →
            codeAny (model X.prog X.w) Ab (.builtin "sum.loop" ⟨[.ref a, .ref S, rawInt stage2, rawInt 0], []⟩) R { s₁.setGen g gs' with heap := h2, toks := tk } := fun h2 tk tC cC stage2 hs2 hk2 hS2 => by
          have go2 := c2 (({ s₁.setGen g gs' with heap := h2, toks := tk } : Shared).setGen g .running) ⟨rfl, setGen_bare (s := { s₁.setGen g gs' with heap := h2, toks := tk }) (setGen_bare I.bare hbare) rfl, fun b o hb q => hk2 b o (fun w => hb (by rw [w]; exact List.mem_singleton.mpr rfl)) q, fun b hb => by
            rcases List.mem_singleton.mp hb with rfl
            exact ⟨_, hS2, fun v w => by cases w⟩⟩ ⟨tC, cC, by rw [← hnext]; exact hS2⟩
          cases n with
          | zero => exact False.elim go2
          | succ m =>
            refine ih m (Nat.lt_succ_self m) { s₁.setGen g gs' with heap := h2, toks := tk } gs' stage2 hs2 ?_ (hgo _ (hk2 a go (Ne.symm hSa) hga)) (setGen_bare I.bare hbare) (setGen_at hsz1) ⟨_, tC, cC, hS2⟩ go2
            obtain ⟨mc, hns, hnn⟩ := I.nolimit
            exact ⟨mc, hns.at' fun o q => hk2 _ o (Ne.symm hSc) q, hnn⟩
        rcases hst with rfl | rfl
        · show wpAny _ Ab.in1 (if (_ : Bool) = true then (mkInt (z + b) >>= _) else _) _ _ _
          split
          · refine wpAny_bind (wpAny_mkInt ?_)
            show wpAny _ Ab.in1 (updateSeq S (fun _ => #[.int (z + b) s₁.toks]) >>= _) _ _ _
            refine wpAny_bind ?_
            refine wpAny_updateSeq hSs rfl (wpAny_pure ⟨plainId_quiet F.plain_sum_loop _, ?_⟩)
            exact next _ _ _ _ 0 (.inl rfl) (fun b o hb q => (Heap.get?_update_other _ _ (Ne.symm hb)).trans q) (Heap.get?_update_self _ hSs rfl)
          · refine wpAny_bind (wpAny_rule ?_)
            refine wpAny_bind (wpAny_attempt (wpAny_holding (PySem.P.add_int ?_)))
            show wpAny _ Ab.in1 (updateSeq S (fun _ => #[.int (z + b) s₁.toks]) >>= _) _ _ _
            refine wpAny_bind ?_
            refine wpAny_updateSeq hSs rfl ?_
            have hS2 := Heap.get?_update_self (Obj.mapSeq fun _ => #[Value.int (z + b) s₁.toks]) hSs rfl
            refine wpAny_bind (wpAny_letGo ?_)
            refine wpAny_bind ?_
            refine wpAny_updateSeq hS2 rfl (wpAny_pure ⟨plainId_quiet F.plain_sum_loop _, ?_⟩)
            exact next _ _ _ _ 2 (.inr rfl) (fun b o hb q => (Heap.get?_update_other _ _ (Ne.symm hb)).trans ((Heap.get?_update_other _ _ (Ne.symm hb)).trans q)) (Heap.get?_update_self _ hS2 rfl)
        · show wpAny _ Ab.in1 ((holding [Value.int b t] (binaryOp .Add (.int z tA) (.int b t))).attempt >>= _) _ _ _
          refine wpAny_bind (wpAny_attempt (wpAny_holding (PySem.P.add_int ?_)))
          show wpAny _ Ab.in1 (updateSeq S (fun _ => #[.int (z + b) s₁.toks]) >>= _) _ _ _
          refine wpAny_bind ?_
          refine wpAny_updateSeq hSs rfl ?_
          have hS2 := Heap.get?_update_self (Obj.mapSeq fun _ => #[Value.int (z + b) s₁.toks]) hSs rfl
          refine wpAny_bind (wpAny_letGo ?_)
          refine wpAny_bind ?_
          refine wpAny_updateSeq hS2 rfl (wpAny_pure ⟨plainId_quiet F.plain_sum_loop _, ?_⟩)
          exact next _ _ _ _ 2 (.inr rfl) (fun b o hb q => (Heap.get?_update_other _ _ (Ne.symm hb)).trans ((Heap.get?_update_other _ _ (Ne.symm hb)).trans q)) (Heap.get?_update_self _ hS2 rfl)
    · intro _
      obtain ⟨_, he, σ, H, P, ⟨tB, cB, hSB⟩, _, I, hsx, E1, R1⟩ := hp
      have hz : z = isum all := by
        have q2 : s₁.heap.get? S = s.heap.get? S := hsx S (List.mem_singleton.mpr rfl)
        rw [hSB, hS] at q2
        have q3 := congrArg Obj.data (Option.some.inj q2)
        have q4 : Data.seq #[Value.int (isum (all.take all.length)) tB] cB = Data.seq #[Value.int z tA] c := q3
        injection q4 with q5 q6
        have q7 := congrArg Array.toList q5
        simp at q7
        exact q7.1.symm
      subst hz
      exact wpAny_pure (hend _ _ (GBack.of I E1 R1 rfl (setGen_bare I.bare rfl) hk))
end
def mSumG (mi : ML) (vs : List Nat) (tgt : TgD) (tt : MB) (te : M) : M := fun ρ S => (mi ρ S).bind fun p => (gxGo stopSum tgt tt te (wipeR ρ vs) p.1 p.2).bind fun r => some (.d (.int (isum r.1)), r.2.2)
section
variable {X : Cx} {tg iter elt : Expr} {ifs : List Expr} {scope : Scope} {p pos gpos : Pos} {vs is : List Nat} {mi : ML} {tgt : TgD} {tt : MB} {te : M} {t : Tb} {k : Nat}
theorem de_sumG (G : GxOk X k t tg iter elt ifs scope gpos vs mi tgt tt te) (hg : Gl X "sum") (hm : X.mg "sum" = none)
    (he : starEach [.GeneratorExp elt [⟨tg, iter, ifs, 0⟩] scope gpos] X.env = (false, eval (.GeneratorExp elt [⟨tg, iter, ifs, 0⟩] scope gpos) X.env) :: starEach [] X.env := by rfl) :
    DE X (.Call (.Name "sum" p) [.GeneratorExp elt [⟨tg, iter, ifs, 0⟩] scope gpos] [] pos) (mSumG mi vs tgt tt te) := by
  refine ⟨fun pins s σ H Q I ⟨as, ρ, S, v, S', R, E, e, kk⟩ => ?_⟩
  obtain ⟨⟨xs, S1⟩, e1, e⟩ := Option.bind_eq_some_iff.mp e
  obtain ⟨⟨all, fin, Sf⟩, e2, e⟩ := Option.bind_eq_some_iff.mp e
  cases e
  obtain ⟨own, is, B, hvs, hv, hb⟩ := G.body
  refine wpAny_Call_Name_kw (ld_blt I hg hm PyProof.Rows.boot_sum ?_)
  refine PyProof.Rows.callWith_builtin1 ?_ he (by rfl)
  rw [he]
  show wpAny _ _ (spliced ((false, eval (.GeneratorExp elt [⟨tg, iter, ifs, 0⟩] scope gpos) X.env) :: backTo pos (starEach [] X.env))) _ _ s
  refine Calls.spliced_cons (gx_eval G.room G.it G.code G.mem G.co G.dot B G.nm G.fold I R E e1 fun H5 s4 c' P' fp tn J it a go h' m s5 W X5 => ?_)
  refine Calls.spliced_nil ?_
  refine call_function_tree F.kind_sum F.plain_sum F.entry_sum (F.args_sum1 _) ?_
  unfold Builtin.«sum»
  simp only [List.length_cons, List.length_nil]
  rw [if_neg (by decide)]
  refine wpAny_bind (wpAny_of_eq (show Builtin.Builtins.bindParams "sum" ["start"] 0 { } = pure [none] from rfl) ?_)
  refine wpAny_bind (wpAny_pyIter_gen W.isGen ?_)
  refine wpAny_bind (wpAny_mkInt ?_)
  refine wpAny_bind (wpAny_pure ?_)
  simp only [List.forIn_cons, List.forIn_nil]
  refine wpAny_bind (wpAny_bind (wpAny_bind (wpAny_isInstance (T := "int") (b := false) (PySem.typeIs_int _ _ _) PySem.sub_int_str ?_)))
  simp only [Bool.false_eq_true, if_false]
  refine wpAny_pure (wpAny_bind (wpAny_bind (wpAny_isInstance (T := "int") (b := false) (PySem.typeIs_int _ _ _) PySem.sub_int_bytes ?_)))
  simp only [Bool.false_eq_true, if_false]
  refine wpAny_pure (wpAny_bind (wpAny_bind (wpAny_isInstance (T := "int") (b := false) (PySem.typeIs_int _ _ _) PySem.sub_int_bytearray ?_)))
  simp only [Bool.false_eq_true, if_false]
  refine wpAny_pure (wpAny_pure ?_)
  refine wpAny_bind (wpAny_newObj_type ?_)
  obtain ⟨b1, b2, b3⟩ := hb c' P' X.A.in1.in1 s4 H5 fp a go (room2 G.room) G.gd
  have hS : (s5.heap.push { cls := .type "list", data := .seq #[Value.int 0 s5.toks] }).get? s5.heap.objs.size = some { cls := .type "list", data := .seq #[Value.int 0 s5.toks] } := Heap.get?_push_size _ rfl
  have kp : ∀ b o, s5.heap.get? b = some o → (s5.heap.push { cls := .type "list", data := .seq #[Value.int 0 s5.toks] }).get? b = some o := fun b o q => Heap.get?_push_of_some _ q
  have alt : a < s5.heap.objs.size := Heap.lt_size W.atG
  have clt : cStatics < s5.heap.objs.size := let ⟨_, hn, _⟩ := W.nolimit; hn.lt
  refine wpAny_pure ⟨plainId_quiet F.plain_sum_loop _, @sum_loop _ (tabsIn c' P') X scope _ _ _ X.A.in1.in1 s4 H5 fp _ tn as (wipeR ρ vs) s5.heap.objs.size all fin Sf X.A _ a go s4.gens.size rfl G.room.hd G.room.depth rfl W.isG (Nat.ne_of_gt alt) (Nat.ne_of_gt clt) (fun s' t' hB => ?_) all.length _ _ 0 (.inl rfl) (W.nolimit.keeps kp) (W.isG _ (kp _ _ W.atG)) W.bare W.gen ⟨0, s5.toks, 0, hS⟩
    (W.wake (Sx := [s5.heap.objs.size]) cnSum_ok B G.nd hvs hv G.co b1 b2 b3 G.room.hd I.ok.frames e2 kp rfl (setGen_bare W.bare rfl) (fun b hb => by
      rcases List.mem_singleton.mp hb with rfl
      exact ⟨Nat.le_refl _, _, hS, fun v z => by cases z⟩) ⟨s5.toks, 0, hS⟩)⟩
  obtain ⟨H6, J6, X6, R6⟩ := gx_back W.inv W.fpk hB
  exact ⟨.int _, H6, J6, ⟨_, rfl⟩, kk _ H6 R6 (X5.trans X6) (.int _)⟩
end
end DL

namespace DL
open PySem PySem.Spec PyProof.Rows L2 DK
variable [Nms] [T0 : Tabs]
abbrev lsO (acc : Array Value) (c : Nat) : Obj := { cls := .type "list", dict := none, data := .seq acc c, slots := #[] }
def stopNo : PyData → Option Bool := fun _ => some false
def cnTup (K : Fg) (bs : List Addr) (S : Addr) (all : List PyData) : Nat → Hp → Heap → Prop := fun j H h => ∃ ws acc c, h.get? S = some (lsO acc c) ∧ Vals ws acc.toList ∧ DpAll K (hide bs H) ws (all.take j)
theorem cnTup_ok {K : Fg} {S : Addr} {bs : List Addr} {all : List PyData} : CnOk [S] bs (cnTup K bs S all) := fun j H H' h h' ⟨ws, acc, c, e, v, d⟩ x k => ⟨ws, acc, c, by rw [k S (List.mem_singleton.mpr rfl)]; exact e, v, dpAll_mono x.same _ _ d⟩
section
variable {X : Cx} {scope : Scope} {cl : List (Str × Addr)} {C : Addr} {code : Value} {A : Around} {sb : Shared} {Hb : Hp} {fp : List Addr} {pn : List (Addr × Obj)} {tn : Nat → Heap → Prop} {bs : List Addr}
/-- a list that takes all of it: its loop -/
theorem ext_loop {ρ : RE} {S : Addr} {all : List PyData} {e : Bool} {Sf : Sto} {Ab : Around} {R : Result → Shared → Prop} {a : Addr} {go : Obj} {g : Nat} {res : Value} (hA : A = Ab.in1.in1) (hh : Ab.handled = none) (hd : Ab.depth < recursionLimit) (hpn : pn = [(a, go)]) (hgo : ∀ h : Heap, h.get? a = some go → h.IsGen a g) (hSa : S ≠ a) (hSc : S ≠ cStatics) (hall : all.length ≤ 1000000)
    (hend : ∀ s' ws acc c H, s'.heap.get? S = some (lsO acc c) → Vals ws acc.toList → DpAll X.K (hide bs H) ws all → s'.os = sb.os → AllBare s'.gens → Un (frs X.stack) fp Hb H sb.heap s'.heap → HOk X.prog X.w H s'.heap → Ext bs Hb bs H → Rel X.K bs Sf H → R (.ok (.ret res)) s') :
    ∀ (n : Nat) (s : Shared) (gs : GenState), s.heap.NoLimit → s.heap.IsGen a g → AllBare s.gens → s.gens[g]? = some gs →
      gs.Goes (model X.prog X.w) A (GFin (gcx X scope cl C code A sb Hb fp pn) [S] bs Hb (cnTup X.K bs S all) all.length e Sf) (GOut (gcx X scope cl C code A sb Hb fp pn) fp [S] tn bs Hb ρ (cnTup X.K bs S all) stopNo all e Sf) n (.send .none) (s.setGen g .running) →
      codeAny (model X.prog X.w) Ab (.builtin "list.extend.loop" ⟨[.ref S, .ref a, res], []⟩) R s := by
  subst hA
  intro n
  induction n using Nat.strongRecOn with
  | ind n ih =>
    intro s gs hl hg hb hgs hgoes
    have hgl : g < s.gens.size := (Array.getElem?_eq_some_iff.mp hgs).1
    refine codeAny_builtin F.entry_extend_loop ?_
    rw [Around.under_plainId F.plain_extend_loop _]
    show wpAny _ Ab.in1 (pyNext (.ref a) >>= _) _ _ s
    refine wpAny_bind (GenW.wpAny_gsz (n := g + 1) hgl (wpAny_pyNext_genexpQ (A := Ab.in1) (P := GFinP (gcx X scope cl C code Ab.in1.in1 sb Hb fp pn) [S] bs Hb (cnTup X.K bs S all) all.length e Sf) hh hl hd hg hgs hgoes (fun v s₁ gs' hbare hv => ?_) (fun s₁ hp h' hk => ?_)))
    · intro hsz
      obtain ⟨y, x, H, S7, i, hm, hy, rv, dv, hR, hsx, hc⟩ := hv
      obtain ⟨⟨ws, acc, c, hSB, hvl, hda⟩, σ, I, hown, _⟩ := hR
      rcases hc with ⟨c1, _⟩ | ⟨c1, c2⟩
      · cases c1
      · have hga : s₁.heap.get? a = some go := (I.pin (a, go) (List.mem_append_left _ (by show (a, go) ∈ pn; rw [hpn]; exact List.mem_singleton.mpr rfl))).1
        have hsz1 : g < s₁.gens.size := by
          have q : (s₁.setGen g gs').gens.size = s₁.gens.size := GenW.setGen_size _ _ _
          have hsz' : g + 1 ≤ (s₁.setGen g gs').gens.size := hsz
          omega
        have hasz : acc.size < 1000000 := by
          have l1 := hvl.length
          have l2 := dpAll_len hda
          rw [List.length_take] at l2
          have l3 : acc.toList.length = acc.size := by simp
          omega
        have hln : (1000000 : Nat) < sizeLine := by rw [sizeLine_eq]; decide
        show wpAny _ Ab.in1 (updateSeq S (·.push v) >>= _) _ _ _
        refine wpAny_bind ?_
        refine wpAny_updateSeq hSB rfl (wpAny_pure ⟨plainId_quiet F.plain_extend_loop _, ?_⟩) (by omega) (by show (acc.push v).size ≤ sizeLine + 1; rw [Array.size_push]; omega)
        have hS2 := Heap.get?_update_self (Obj.mapSeq (·.push v)) hSB rfl
        have hk2 : ∀ b o, b ≠ S → s₁.heap.get? b = some o → (s₁.heap.update S (Obj.mapSeq (·.push v))).get? b = some o := fun b o hb q => (Heap.get?_update_other _ _ (Ne.symm hb)).trans q
        have hC : cnTup X.K bs S all (all.length - (n - 1)) H (s₁.heap.update S (Obj.mapSeq (·.push v))) := by
          have e1 : all.length - (n - 1) = all.length - 1 - (n - 1) + 1 := by omega
          refine ⟨ws ++ [x], acc.push v, _, hS2, ?_, ?_⟩
          · rw [Array.toList_push]
            exact hvl.append (.cons rv .nil)
          · rw [e1, take_snoc hy]
            exact dpAll_append hda (.cons dv .nil)
        have go2 := c2 (({ s₁.setGen g gs' with heap := s₁.heap.update S (Obj.mapSeq (·.push v)) } : Shared).setGen g .running) ⟨rfl, setGen_bare (s := { s₁.setGen g gs' with heap := s₁.heap.update S (Obj.mapSeq (·.push v)) }) (setGen_bare I.bare hbare) rfl, fun b o hb q => hk2 b o (fun w => hb (by rw [w]; exact List.mem_singleton.mpr rfl)) q, fun b hb => by
          rcases List.mem_singleton.mp hb with rfl
          exact ⟨_, hS2, fun v w => by cases w⟩⟩ hC
        cases n with
        | zero => exact False.elim go2
        | succ m =>
          refine ih m (Nat.lt_succ_self m) { s₁.setGen g gs' with heap := s₁.heap.update S (Obj.mapSeq (·.push v)) } gs' ?_ (hgo _ (hk2 a go (Ne.symm hSa) hga)) (setGen_bare I.bare hbare) (setGen_at hsz1) go2
          obtain ⟨mc, hns, hnn⟩ := I.nolimit
          exact ⟨mc, hns.at' fun o q => hk2 _ o (Ne.symm hSc) q, hnn⟩
    · intro _
      obtain ⟨_, he, σ, H, P, ⟨ws, acc, c, hSB, hvl, hda⟩, _, I, hsx, E1, R1⟩ := hp
      rw [List.take_length] at hda
      exact wpAny_pure (hend _ ws acc c H (hk _ _ hSB) hvl hda I.os (setGen_bare I.bare rfl) (I.base.trans (Un.kept hk)) (I.hok.kept hk) E1 R1)
end
/-- collect of a generator -/
theorem collect_gen {prog : Program} {w : World} {A : Around} {E : Value → Shared → Prop} {s : Shared} {a : Addr} {g : Nat} {Q : List Value → Shared → Prop} (hg : s.heap.IsGen a g)
    (h : ∀ h2 : Heap, (∀ b o, s.heap.get? b = some o → h2.get? b = some o) → (∃ c, h2.get? s.heap.objs.size = some (lsO #[] c)) → codeAny (model prog w) A (.builtin "list.extend.loop" ⟨[.ref s.heap.objs.size, .ref a, .ref s.heap.objs.size], []⟩) (fun r s' => ∃ acc c, r = .ok (.ret (.ref s.heap.objs.size)) ∧ s'.heap.get? s.heap.objs.size = some (lsO acc c) ∧ Q acc.toList s') { s with heap := h2 }) :
    wpAny (model prog w) A (collect (.ref a)) Q E s := by
  have hlt : a < s.heap.objs.size := let ⟨_, _, _, e, _⟩ := hg; Heap.lt_size e
  have hSI : s.heap.objs.size ≠ a := Nat.ne_of_gt hlt
  unfold collect
  refine wpAny_bind (wpAny_runValue (codeAny_builtin F.entry_proto_collect ?_))
  rw [Around.under_plainId F.plain_proto_collect _]
  show wpAny _ A.in1 (newList [] >>= fun l => again (.builtin "list.__iadd__" ⟨[l, .ref a], []⟩)) _ _ s
  refine wpAny_bind (wpAny_newObj_type ?_)
  refine wpAny_pure ⟨plainId_quiet F.plain_list_iadd _, codeAny_builtin F.entry_list_iadd ?_⟩
  rw [Around.under_plainId F.plain_list_iadd _]
  have k1 : ∀ b o, s.heap.get? b = some o → (s.heap.push { cls := .type "list", data := .seq ([] : List Value).toArray }).get? b = some o := fun b o e => Heap.get?_push_of_some _ e
  have gty : ∀ {h : Heap}, (∀ b o, s.heap.get? b = some o → h.get? b = some o) → h.IsGen a g := fun {h} q => hg.keeps q
  show wpAny _ A.in1 (Builtin.List.listExtendWith (.ref s.heap.objs.size) (.ref a) (.ref s.heap.objs.size)) _ _ _
  unfold Builtin.List.listExtendWith
  refine wpAny_bind (wpAny_typeOf (Heap.IsGen.typeIs (s := { s with heap := _ }) (gty k1)) ?_)
  have h1 : Builtin.List.listSameRef (.ref s.heap.objs.size) (.ref a) = false := by simp [Builtin.List.listSameRef, hSI]
  have h2 : (Value.type "generator" == Value.type "list") = false := by decide
  have h3 : (Value.type "generator" == Value.type "tuple") = false := by decide
  simp only [h1, h2, h3, Bool.or_false, Bool.false_eq_true, if_false]
  refine wpAny_bind (wpAny_pyIter_gen (s := { s with heap := _ }) (gty k1) ?_)
  refine wpAny_bind (wpAny_holding ?_)
  unfold Builtin.List.listLengthHint
  refine wpAny_bind (wpAny_specialOf (Heap.IsGen.typeIs (s := { s with heap := _ }) (gty k1)) F.gen_no_len ?_)
  show wpAny _ A.in1 (specialOf (Value.ref a) (Str.ofString "__length_hint__") >>= _) _ _ _
  refine wpAny_bind (wpAny_specialOf (Heap.IsGen.typeIs (s := { s with heap := _ }) (gty k1)) F.gen_no_hint ?_)
  refine wpAny_pure ?_
  show wpAny _ A.in1 (rule "list.extend.makes-room" >>= fun _ => Builtin.List.listTouch (.ref s.heap.objs.size) >>= fun _ =>
    again (.builtin "list.extend.loop" ⟨[.ref s.heap.objs.size, .ref a, .ref s.heap.objs.size], []⟩)) _ _ _
  refine wpAny_bind (wpAny_rule ?_)
  have hS₁ : (s.heap.push { cls := .type "list", data := .seq ([] : List Value).toArray }).get? s.heap.objs.size = some { cls := .type "list", data := .seq ([] : List Value).toArray } := Heap.get?_push_size _ rfl
  refine wpAny_bind ?_
  show wpAny _ A.in1 (updateSeq s.heap.objs.size (·.push .none) >>= fun _ => updateSeq s.heap.objs.size (·.pop)) _ _ _
  refine wpAny_bind (wpAny_updateSeq hS₁ rfl ?_)
  have hS₂ := Heap.get?_update_self (Obj.mapSeq (·.push Value.none)) hS₁ rfl
  refine wpAny_updateSeq hS₂ rfl ?_
  have hS₃ := Heap.get?_update_self (Obj.mapSeq (·.pop)) hS₂ rfl
  have up : ∀ (h : Heap) (f : Obj → Obj), (∀ b o, s.heap.get? b = some o → h.get? b = some o) → ∀ b o, s.heap.get? b = some o → (h.update s.heap.objs.size f).get? b = some o := fun h f q b o e =>
    (Heap.get?_update_other _ _ (Ne.symm (Nat.ne_of_lt (Heap.lt_size e)))).trans (q b o e)
  have k3 := up _ (Obj.mapSeq (·.pop)) (up _ (Obj.mapSeq (·.push Value.none)) k1)
  refine wpAny_pure ⟨plainId_quiet F.plain_extend_loop _, codeAny_mono (h _ k3 ⟨_, hS₃⟩) fun r s' z => ?_⟩
  obtain ⟨acc, c, rfl, hS', hq⟩ := z
  show wpAny _ A (load s.heap.objs.size >>= _) _ _ s'
  exact wpAny_bind (wpAny_load hS' (wpAny_pure hq))
theorem tuple_new_gen {prog : Program} {w : World} {A : Around} {E : Value → Shared → Prop} {s : Shared} {a : Addr} {g : Nat} {Q : Value → Shared → Prop} (hg : s.heap.IsGen a g)
    (h : wpAny (model prog w) A.in1 (collect (.ref a)) (fun l s' => l.length ≤ sizeLine ∧ Q (.ref s'.heap.objs.size) { s' with heap := s'.heap.push { cls := .type "tuple", data := .seq l.toArray } }) E s) :
    codeAny (model prog w) A (.call (.builtin "tuple.__new__") ⟨[.type "tuple", .ref a], []⟩) (wants Q E) s := by
  refine codeAny_of_tree ?_
  show wpAny _ A.in1 (do checkBuiltinCall "tuple.__new__" ⟨[.type "tuple", .ref a], []⟩; again (.builtin "tuple.__new__" ⟨[.type "tuple", .ref a], []⟩)) _ _ s
  refine wpAny_bind (wpAny_of_eq (F.newCall_tuple_1 _) (wpAny_pure ⟨plainId_quiet F.plain_tuple_new _, codeAny_builtin F.entry_tuple_new ?_⟩))
  rw [Around.under_plainId F.plain_tuple_new _]
  have hsub := sub_tuple_self
  have hinit := init_tuple_lookup
  have hmh := madeHere_tuple
  have hTI := hg.typeIs
  have hcol : ∀ (Q' : List Value → Shared → Prop), (∀ l s', l.length ≤ sizeLine ∧ Q (.ref s'.heap.objs.size) { s' with heap := s'.heap.push { cls := .type "tuple", data := .seq l.toArray } } → Q' l s') → wpAny (model prog w) A.in1 (collect (.ref a)) Q' E s := fun Q' hq => wpAny_mono h hq fun _ _ z => z
  wp_walk using wpAny_typeOf hTI, hcol
  intro l s' ⟨hz, hq⟩
  show wpAny _ _ (Builtin.Tuple.tupleExact l.toArray >>= fun v => ret v) _ _ _
  unfold Builtin.Tuple.tupleExact
  refine wpAny_bind (wpAny_newObj_type ?_ (by show l.toArray.size ≤ sizeLine; simpa using hz))
  exact wpAny_pure hq
end DL

namespace DL
open PySem PySem.Spec PyProof.Rows L2 DK
variable [Nms] [T0 : Tabs]
def mTupG (mi : ML) (vs : List Nat) (tgt : TgD) (tt : MB) (te : M) : M := fun ρ S => (mi ρ S).bind fun p => (gxGo stopNo tgt tt te (wipeR ρ vs) p.1 p.2).bind fun r => if r.1.length ≤ 1000000 then some (.d (.tuple r.1), r.2.2) else none
section
variable {X : Cx} {tg iter elt : Expr} {ifs : List Expr} {scope : Scope} {p pos gpos : Pos} {vs is : List Nat} {mi : ML} {tgt : TgD} {tt : MB} {te : M} {t : Tb} {k : Nat}
theorem room4 {env : Env} {A : Around} (h : Room (k + 1) A) : Room k (A.in1.in1.in1.in1.deeper env) :=
  ⟨h.hd, by have := h.dp; show A.depth + 1 + 3 * k + 5 < _; omega, by have := h.un; show A.units + 1 + 1 + 1 + 1 + 3 + 16 * k + 200 < _; omega⟩
theorem de_tupG (G : GxOk X k t tg iter elt ifs scope gpos vs mi tgt tt te) (hg : Gl X "tuple") (hm : X.mg "tuple" = none)
    (he : starEach [.GeneratorExp elt [⟨tg, iter, ifs, 0⟩] scope gpos] X.env = (false, eval (.GeneratorExp elt [⟨tg, iter, ifs, 0⟩] scope gpos) X.env) :: starEach [] X.env := by rfl) :
    DE X (.Call (.Name "tuple" p) [.GeneratorExp elt [⟨tg, iter, ifs, 0⟩] scope gpos] [] pos) (mTupG mi vs tgt tt te) := by
  refine ⟨fun pins s σ H Q I ⟨as, ρ, S, v, S', R, E, e, kk⟩ => ?_⟩
  obtain ⟨⟨xs, S1⟩, e1, e⟩ := Option.bind_eq_some_iff.mp e
  obtain ⟨⟨all, fin, Sf⟩, e2, e⟩ := Option.bind_eq_some_iff.mp e
  dsimp only at e
  split at e
  case isFalse => cases e
  case isTrue hall =>
  injection e with e
  injection e with ev eS
  subst ev
  subst eS
  obtain ⟨own, is, B, hvs, hv, hb⟩ := G.body
  refine wpAny_Call_Name_kw (ld_blt I hg hm PyProof.Rows.boot_tuple ?_)
  refine PyProof.Rows.callWith_type1 ?_ he (by rfl)
  rw [he]
  show wpAny _ _ (spliced ((false, eval (.GeneratorExp elt [⟨tg, iter, ifs, 0⟩] scope gpos) X.env) :: backTo pos (starEach [] X.env))) _ _ s
  refine Calls.spliced_cons (gx_eval G.room G.it G.code G.mem G.co G.dot B G.nm G.fold I R E e1 fun H5 s4 c' P' fp tn J it a go h' m s5 W X5 => ?_)
  refine Calls.spliced_nil ?_
  obtain ⟨b1, b2, b3⟩ := hb c' P' X.A.in1.in1.in1.in1 s4 H5 fp a go (room4 G.room) G.gd
  have alt : a < s5.heap.objs.size := Heap.lt_size W.atG
  have clt : cStatics < s5.heap.objs.size := let ⟨_, hn, _⟩ := W.nolimit; hn.lt
  refine callType_codes (Q₁ := fun obj s₁ => s₁.TypeIs obj "tuple" ∧ EP X pins σ Q obj s₁) F.called_tuple (F.typeCall_tuple_1 _) F.entry_object_init
    (tuple_new_gen W.isGen (collect_gen W.isGen fun h2 kp ⟨c0, hS⟩ => ?_)) fun obj s₁ h₁ => ?_
  · refine @ext_loop _ (tabsIn c' P') X scope _ _ _ X.A.in1.in1.in1.in1 s4 H5 fp _ tn as (wipeR ρ vs) s5.heap.objs.size all fin _ X.A.in1.in1 _ a go s4.gens.size _ rfl G.room.hd G.room.depth rfl W.isG (Nat.ne_of_gt alt) (Nat.ne_of_gt clt) hall (fun s' ws acc c H6 q1 q2 q3 q4 q5 q6 q7 q8 q9 => ?_) all.length { s5 with heap := h2 } _ (W.nolimit.keeps kp) (W.isG _ (kp _ _ W.atG)) W.bare W.gen
      (W.wake (Sx := [s5.heap.objs.size]) cnTup_ok B G.nd hvs hv G.co b1 b2 b3 G.room.hd I.ok.frames e2 kp rfl (setGen_bare (s := { s5 with heap := h2 }) W.bare rfl) (fun b hb => ?_) ⟨[], #[], c0, hS, .nil, .nil⟩)
    · have hz : acc.toList.length ≤ sizeLine := by
        rw [← q2.length, dpAll_len q3]
        exact million hall
      refine ⟨acc, c, rfl, q1, hz, ⟨_, Heap.get?_push_size _ rfl, rfl⟩, ?_⟩
      have J6 : Inv X pins σ H6 s' := by
        refine W.inv.call' (ch := fp) q4 q6 q7 q5 fun b hb => ?_
        obtain ⟨_, a2, _, a4, a5, a6⟩ := W.fpk b hb
        exact ⟨a4, a2, a5, a6⟩
      have nw := laidT J6 q2 (by rw [q2.length]; exact hz)
      have hn : H6 s'.heap.objs.size = none := J6.hok.fresh (Nat.le_refl _)
      refine ⟨.ref s'.heap.objs.size, _, nw, rfl, ?_⟩
      obtain ⟨R8, X8, V8⟩ := q9.newT (o := tupO acc.toList) q3 rfl hn
      exact kk _ _ R8 (X5.trans (q8.trans X8)) V8
    · rcases List.mem_singleton.mp hb with rfl
      exact ⟨Nat.le_refl _, _, hS, fun v z => by cases z⟩
  · exact ⟨h₁.1, F.args_object_init_2 obj _, object_init_meets F.called_tuple.init.lookup F.called_tuple.made (by decide) X.prog X.w X.A.in1 _ s₁ ⟨h₁.1, rfl, h₁.2⟩⟩
end
end DL

namespace DL
open PySem PySem.Spec PyProof.Rows L2 RZ DK
variable [Nms] [T0 : Tabs]

/-! ### what holds with fewer tables holds with more -/
theorem ER.down {c' P' : Addr} {K : Fg} {as : List Addr} {H : Hp} {σ : L2.St} {ρ : RE} (E : @ER _ (tabsIn c' P') K as H σ ρ) : ER K as H σ ρ :=
  @ER.mk _ T0 K as H σ ρ (@ER.len _ (tabsIn c' P') _ _ _ _ _ E) (@ER.at_ _ (tabsIn c' P') _ _ _ _ _ E) fun t ht => @ER.tab _ (tabsIn c' P') _ _ _ _ _ E t (List.mem_cons_of_mem _ ht)
section
variable {X : Cx} {c' P' : Addr}
theorem DE.up {e : Expr} {m : M} (h : DE X e m) : @DE _ (tabsIn c' P') X e m := ⟨fun pins s σ H Q I ⟨as, ρ, S, v, S', R, E, e, k⟩ => h.run pins s σ H Q I ⟨as, ρ, S, v, S', R, ER.down E, e, k⟩⟩
theorem DTs.up {e : List Expr} {m : MB} (h : DTs X e m) : @DTs _ (tabsIn c' P') X e m := ⟨fun pins s σ H Q I ⟨as, ρ, S, v, S', R, E, e, k⟩ => h.run pins s σ H Q I ⟨as, ρ, S, v, S', R, ER.down E, e, k⟩⟩
theorem DG.up {e : Expr} {is : List Nat} {f : TgD} (h : DG X e is f) : @DG _ (tabsIn c' P') X e is f := ⟨fun pins s σ H v u Q I r ⟨as, ρ, d, ρ', E, hd, e, k⟩ => h.run pins s σ H v u Q I r ⟨as, ρ, d, ρ', ER.down E, hd, e, fun σ' E' => k σ' (@ER.mk _ (tabsIn c' P') _ _ _ _ _ (ER.len E') (ER.at_ E') fun t ht => by
  rcases List.mem_cons.mp (show t ∈ (some c', P') :: T0.l from ht) with z | z
  · rw [z]; exact @ER.tab _ (tabsIn c' P') _ _ _ _ _ E _ (List.mem_cons_self)
  · exact E'.tab t z)⟩⟩
end

/-! ### zip of two tuples, of two lists -/
def zipD (xs ys : List PyData) : List PyData := List.zipWith (fun a b => .tuple [a, b]) xs ys
theorem zipD_get {xs ys : List PyData} {i : Nat} {d : PyData} (h : (zipD xs ys)[i]? = some d) : ∃ a b, xs[i]? = some a ∧ ys[i]? = some b ∧ d = .tuple [a, b] := by
  unfold zipD at h
  rw [List.getElem?_zipWith] at h
  cases hx : xs[i]? with
  | none => rw [hx] at h; cases h
  | some a =>
    cases hy : ys[i]? with
    | none => rw [hx, hy] at h; cases h
    | some b =>
      rw [hx, hy] at h
      exact ⟨a, b, rfl, rfl, (Option.some.inj h).symm⟩
theorem zipD_len (xs ys : List PyData) : (zipD xs ys).length = min xs.length ys.length := by
  unfold zipD
  simp
theorem pair_yld {K : Fg} {as' : List Addr} {S : Sto} {H2 H3 : Hp} {T : Addr} {o : Obj} {x y : V} {a b : PyData} (R : Rel K as' S H2) (ho : o.dict = none) (hT : H2 T = none) (e : H3 = upd H2 T (.frz o (.tup [x, y]))) (hx : Dp K (hide as' H2) x a) (hy : Dp K (hide as' H2) y b) : Grw H2 H3 ∧ Dp K (hide as' H3) (.ref T) (.tuple [a, b]) := by
  subst e
  exact ⟨.inr ⟨T, _, hT, rfl⟩, (R.newT (.cons hx (.cons hy .nil)) ho hT).2.2⟩
theorem sq_ext {kd : Bool} {K : Fg} {as as' : List Addr} {H1 H2 : Hp} {a : Addr} {vs : List V} (h : Sq kd K (hide as H1) a vs) (E : Ext as H1 as' H2) : Sq kd K H2 a vs := by
  cases kd
  · exact sqT_mono hide_same (sqT_mono E.same h)
  · exact hide_same.seq (E.same.seq h)
theorem iters_zip {kd : Bool} {K : Fg} {as : List Addr} {H1 : Hp} {a b : Addr} {vs ws : List V} {xs ys : List PyData} (hs : Sq kd K (hide as H1) a vs) (hd : DpAll K (hide as H1) vs xs) (hs2 : Sq kd K (hide as H1) b ws) (hd2 : DpAll K (hide as H1) ws ys) : Iters K as H1 (ItZ kd K a b) (zipD xs ys) := by
  refine ⟨fun as' H2 E i d e => ?_, fun as' S H2 E R i d e x H3 y => ?_, fun as' H2 E => ?_⟩
  · obtain ⟨p, q, e1, e2, _⟩ := zipD_get e
    obtain ⟨v, f1, _⟩ := dpAll_get hd e1
    obtain ⟨w, f2, _⟩ := dpAll_get hd2 e2
    exact ⟨vs, ws, v, w, sq_ext hs E, sq_ext hs2 E, f1, f2⟩
  · obtain ⟨p, q, e1, e2, rfl⟩ := zipD_get e
    obtain ⟨v, f1, g1⟩ := dpAll_get hd e1
    obtain ⟨w, f2, g2⟩ := dpAll_get hd2 e2
    obtain ⟨T, o, x', y', rfl, ho, hT, h3, k1, k2⟩ := y
    have ev : x' = v := Option.some.inj ((k1 vs (sq_ext hs E)).symm.trans f1)
    have ew : y' = w := Option.some.inj ((k2 ws (sq_ext hs2 E)).symm.trans f2)
    subst ev ew
    exact pair_yld R ho hT h3 (dp_mono E.same _ _ g1) (dp_mono E.same _ _ g2)
  · refine ⟨vs, ws, sq_ext hs E, sq_ext hs2 E, ?_⟩
    rw [zipD_len, dpAll_len hd, dpAll_len hd2]
    omega
def mZip (ma : MA) : ML := fun ρ S => (ma ρ S).bind fun p => match p.1 with
  | [.d (.list xs), .d (.list ys)] => some (zipD xs ys, p.2)
  | [.d (.tuple xs), .d (.tuple ys)] => some (zipD xs ys, p.2)
  | _ => none
theorem di_zip {X : Cx} {e e2 : Expr} {ma : MA} {p pos tpos : Pos} {elts : List Expr} {kk : Nat} (hg : Gl X "zip") (hm : X.mg "zip" = none) (ha : DA X [e, e2] ma)
    (hs : starEach [e, e2] X.env = (false, eval e X.env) :: starEach [e2] X.env := by rfl) (hpl : (backTo pos (starEach [e2] X.env)).any (·.1) = false := by rfl) : DI X (.Tuple elts kk tpos) (.Call (.Name "zip" p) [e, e2] [] pos) (mZip ma) :=
  pi_imp (pi_zipF hg hm ha hs hpl) fun σ H Rr ⟨as, ρ, S, xs, S1, R, E, e, k⟩ => by
    obtain ⟨⟨vs, S2⟩, e1, e⟩ := Option.bind_eq_some_iff.mp e
    refine ⟨as, ρ, S, vs, S2, R, E, e1, fun us H1 R1 E1 V1 => ?_⟩
    dsimp only at e
    split at e
    · cases e
      obtain ⟨u, w, rfl, a, b⟩ := paired2 V1
      cases a with
      | lst s1 d1 => cases b with
        | lst s2 d2 => exact ⟨true, _, _, _, _, rfl, hide_same.seq s1, hide_same.seq s2, k _ H1 R1 E1 (iters_zip (kd := true) s1 d1 s2 d2)⟩
    · cases e
      obtain ⟨u, w, rfl, a, b⟩ := paired2 V1
      cases a with
      | tup s1 d1 => cases b with
        | tup s2 d2 => exact ⟨false, _, _, _, _, rfl, sqT_mono hide_same s1, sqT_mono hide_same s2, k _ H1 R1 E1 (iters_zip (kd := false) s1 d1 s2 d2)⟩
    · cases e

/-! ### xs[::-1] -/
section
variable {prog : Program} {w : World} {A : Around} {E : Value → Shared → Prop} {s : Shared}
end
/-- of a tuple; of a list (a new one) -/
def mRev (m st : M) : M := fun ρ S => (m ρ S).bind fun p => (st ρ p.2).bind fun q => match p.1, q.1 with
  | .d (.tuple xs), .d (.int (-1)) => some (.d (.tuple xs.reverse), q.2)
  | _, _ => none
def mRevL (m st : M) : ML := fun ρ S => (m ρ S).bind fun p => (st ρ p.2).bind fun q => match asD q.2 p.1, q.1 with
  | some (.list xs), .d (.int (-1)) => some (xs.reverse, q.2)
  | _, _ => none
section
variable {X : Cx} {e st : Expr} {m ms : M} {p2 pos : Pos}
end
end DL

namespace DL
open PySem PySem.Spec PyProof.Rows L2 DK

abbrev tab0 : Obj := { cls := .none, data := .fields #[] }
/-- the module of the builtins is where a program finds it -/
def BI (mg : Str → Option Value) (base : Heap) : Prop := ∃ (bm : Addr) (o : Obj), mg "__builtins__" = some (.ref bm) ∧ bm ≠ builtinsNs ∧ base.get? bm = some o ∧ o.cls = .type "module" ∧ o.dict = some builtinsNs ∧ o.data = .plain
theorem codeAt_own {X : Cx} {c P : Addr} (bi : BI X.mg X.base) (h : X.env.code = .ref c) (hd : PySem.W.CodeHd X.base c P) : CodeAt X (none, P) := ⟨bi, c, h, .inr hd⟩
theorem codeAt_in {X : Cx} {scope : Scope} {c' P' : Addr} {A : Around} {s4 : Shared} {H5 : Hp} {fp : List Addr} {a : Addr} {go : Obj} (bi : BI X.mg X.base) : CodeAt (gcR X scope c' A s4 H5 fp a go) (some c', P') := ⟨bi, c', rfl, .inl rfl⟩
section
variable {P : Program} {w : World} {K : Fg} {mg : Str → Option Value} {base : Heap}
/-- a def by its body, its code object known -/
theorem fng_okC {x qual : Str} {st : Stmt} {f : Addr} {fd : FuncData} {N ps : List Str} {k : Nat} {sp : Sp} (F : Fun K x qual st f fd) (sc : FnScope N ps (defScope st)) (cnt : ∀ vs H Q E, sp vs H Q E → vs.length = ps.length)
    (hbody : ∀ (cdv : Value) (A : Around) (out : List Env) (s : Shared) (H : Hp) (vs : List V) (Q : VK) (E : XK), fd.code = cdv → Room k (A.deeper (envOfC qual (defScope st) s.heap.objs.size f cdv)) → (A.deeper (envOfC qual (defScope st) s.heap.objs.size f cdv)).guards = some [] → sp vs H Q E →
      ∃ t, PSs (cxOf CX0 P w K mg base N qual (defScope st) f cdv A out s H E).nox (defBody st) t ∧ t { nx := fun _ H' => Q .non H', rt := Q } (start N vs) H) : FnG P w K mg base CX0 (k + 1) f fd ps sp := by
  obtain ⟨oc, od, kV, doc, pm, an, cdv, ct, osl, rfl, lk, hcd⟩ := F.ex
  refine fng_of lk hcd sc cnt fun A out s H vs Q E hr hg want => ?_
  obtain ⟨t, h, q⟩ := hbody cdv A out s H vs Q E rfl hr hg want
  exact ⟨t, h.nox, q⟩
variable [Nms] [T0 : Tabs]
theorem fn_dataC {x qual : Str} {st : Stmt} {f : Addr} {fd : FuncData} {N ps : List Str} {k n m : Nat} {g : MS} (hn : N.length = n) (hm : ps.length = m) (F : Fun K x qual st f fd) (sc : FnScope N ps (defScope st))
    (hb : ∀ (cdv : Value) (A : Around) (out : List Env) (s : Shared) (H : Hp) (E : XK), fd.code = cdv → Room k (A.deeper (envOfC qual (defScope st) s.heap.objs.size f cdv)) → (A.deeper (envOfC qual (defScope st) s.heap.objs.size f cdv)).guards = some [] →
      DSs (cxOf CX0 P w K mg base N qual (defScope st) f cdv A out s H E).nox (defBody st) g) : FnG P w K mg base CX0 (k + 1) f fd ps (spF K m (runF n g)) :=
  fng_okC F sc (fun _ _ _ _ h => h.1.trans hm.symm) fun cdv A out s H vs Q E hc hr hg h => ⟨_, hb cdv A out s H E hc hr hg, body_F (by rw [hn]; exact h)⟩
theorem fn_listC {x qual : Str} {st : Stmt} {f : Addr} {fd : FuncData} {N ps : List Str} {k n m : Nat} {g : MS} (hn : N.length = n) (hm : ps.length = m) (F : Fun K x qual st f fd) (sc : FnScope N ps (defScope st))
    (hb : ∀ (cdv : Value) (A : Around) (out : List Env) (s : Shared) (H : Hp) (E : XK), fd.code = cdv → Room k (A.deeper (envOfC qual (defScope st) s.heap.objs.size f cdv)) → (A.deeper (envOfC qual (defScope st) s.heap.objs.size f cdv)).guards = some [] →
      DSs (cxOf CX0 P w K mg base N qual (defScope st) f cdv A out s H E).nox (defBody st) g) : FnG P w K mg base CX0 (k + 1) f fd ps (spL K m (runL n g)) :=
  fng_okC F sc (fun _ _ _ _ h => h.1.trans hm.symm) fun cdv A out s H vs Q E hc hr hg h => ⟨_, hb cdv A out s H E hc hr hg, body_L (by rw [hn]; exact h)⟩
end
/-! ### the end, with tables -/
theorem script_heapT {P : Program} {w : World} {K : Fg} {s1 : Shared} {a : Addr} {vs : List Value} {ns : List Int} {ts : List Addr} (kin : K.In s1.heap) (ha : s1.heap.get? a = some { cls := .type "list", data := .seq vs.toArray }) (hi : IntsAre vs ns) (hl : ns.length ≤ sizeLine)
    (hT : ∀ t ∈ ts, s1.heap.get? t = some tab0) (nT : ∀ t ∈ ts, K.lookup t = none) :
    ∃ H : Hp, (∀ b, H b = none ∨ (b ∈ ts ∧ H b = some (.tbl #[])) ∨ ∃ o xs, H b = some (.frz o (.lst xs))) ∧ (∀ t ∈ ts, H t = some (.tbl #[])) ∧ SqL K H a (ns.map V.int) ∧ HOk P w H s1.heap ∧ (∀ b, H b ≠ none → b = a ∨ b ∈ ts) ∧ (∀ b, H b ≠ none → K.lookup b = none) := by
  obtain ⟨H0, only, sq, hok, hA, hK⟩ := script_heap (P := P) (w := w) kin ha hi hl
  have na : a ∉ ts := fun z => by
    have q := hT a z
    rw [ha] at q
    cases q
  have h0 : ∀ b o, H0 b = some o → b ∉ ts := fun b o e z => by
    have : b = a := hA b (by rw [e]; simp)
    exact na (this ▸ z)
  let H : Hp := fun b => if b ∈ ts then some (.tbl #[]) else H0 b
  have yes : ∀ t ∈ ts, H t = some (.tbl #[]) := fun t ht => if_pos ht
  have no : ∀ b, b ∉ ts → H b = H0 b := fun b hb => if_neg hb
  have same : Same H0 H := fun b o e => by rw [no b (h0 b o e)]; exact e
  refine ⟨H, fun b => ?_, yes, same.seq sq, fun b u e => ?_, fun b e => ?_, fun b e => ?_⟩
  · by_cases hb : b ∈ ts
    · exact .inr (.inl ⟨hb, yes b hb⟩)
    · rw [no b hb]
      rcases only b with z | z
      · exact .inl z
      · exact .inr (.inr z)
  · by_cases hb : b ∈ ts
    · rw [yes b hb] at e
      cases e
      exact hT b hb
    · rw [no b hb] at e
      exact (hok b u e).stay (fun _ _ _ q => q) (fun d q => same d _ q) fun d xs q => same d _ q
  · by_cases hb : b ∈ ts
    · exact .inr hb
    · rw [no b hb] at e
      exact .inl (hA b e)
  · by_cases hb : b ∈ ts
    · exact nT b hb
    · rw [no b hb] at e
      have eb := hA b e
      rw [eb] at e ⊢
      exact hK e
theorem law_runT {P : Program} {w : World} {K : Fg} {mg mb : Str → Option Value} {k : Nat} {fa a : Addr} {fd : FuncData} {x : Str} {sp : Sp} {s1 : Shared} {vs : List Value} {ns : List Int} {cs : List (Addr × Addr)}
    (kin : K.In s1.heap) (glo : s1.heap.Ns mainGlobals mg) (blt : s1.heap.Ns builtinsNs mb) (bb : ∀ x : Str, x ≠ "__name__" → mb x = bootBuiltins x) (lim : s1.heap.NoLimit) (gens : s1.gens = #[])
    (hT : ∀ p ∈ cs, s1.heap.get? p.2 = some tab0) (nT : ∀ p ∈ cs, K.lookup p.2 = none) (C : ∀ p ∈ cs, PySem.W.CodeHd s1.heap p.1 p.2) (hbm : BI mg s1.heap)
    (ha : s1.heap.get? a = some { cls := .type "list", data := .seq vs.toArray }) (hi : IntsAre vs ns) (hl : ns.length ≤ sizeLine) (room : Room k callerA)
    (F : ∀ base : Heap, K.In base → base.Ns mainGlobals mg → BI mg base → (∀ p ∈ cs, PySem.W.CodeHd base p.1 p.2) → FnG P w K mg base CX0 k fa fd [x] sp) (bind : ∀ (s : Shared) (u : Value), BindsTo s fd ⟨[u], []⟩ [(x, u)])
    (want : ∀ H : Hp, (∀ p ∈ cs, H p.2 = some (.tbl #[])) → SqL K H a (ns.map V.int) → sp [.ref a] H (fun v _ => v = .bl true) fun _ _ _ => False) :
    codeAny (model P w) callerA (.call (.ref fa) ⟨[.ref a], []⟩) (fun r s' => r = .ok (.ret (.bool true)) ∧ OldK s1.heap s'.heap ∧ s'.os = s1.os ∧ AllBare s'.gens) s1 := by
  obtain ⟨H, only, isT, sq, hok, hA, hK⟩ := script_heapT (P := P) (w := w) (ts := cs.map (·.2)) kin ha hi hl (fun t ht => let ⟨p, hp, e⟩ := List.mem_map.mp ht; e ▸ hT p hp) (fun t ht => let ⟨p, hp, e⟩ := List.mem_map.mp ht; e ▸ nT p hp)
  have isT' : ∀ p ∈ cs, H p.2 = some (.tbl #[]) := fun p hp => isT _ (List.mem_map.mpr ⟨p, hp, rfl⟩)
  have free : ∀ {b : Addr} {o : Obj}, s1.heap.get? b = some o → (∀ its n, o.data ≠ .seq its n) → o.data ≠ .fields #[] → H b = none := fun {b o} e d d2 => by
    cases q : H b with
    | none => rfl
    | some u =>
      rcases hA b (by rw [q]; simp) with eb | eb
      · rw [eb, ha] at e
        cases e
        exact absurd rfl (d _ _)
      · obtain ⟨p, hp, e2⟩ := List.mem_map.mp eb
        have z := hT p hp
        rw [e2, e] at z
        cases z
        exact absurd rfl d2
  have nsOf : ∀ {b : Addr} {m : Str → Option Value}, s1.heap.Ns b m → (hidT s1.heap H).Ns b m := fun {b m} z => by
    obtain ⟨o, es, ep, e, d, r⟩ := z
    exact ⟨o, es, ep, hidT_get e (free e (fun its n q => by rw [d] at q; cases q) (fun q => by rw [d] at q; cases q)), d, r⟩
  have kb : K.In (hidT s1.heap H) := fun b o e => hidT_get (kin b o e) (by
    cases q : H b with
    | none => rfl
    | some u =>
      rw [hK b (by rw [q]; simp)] at e
      cases e)
  obtain ⟨mc, c1, c2⟩ := lim
  have en : Env0 P w K mg (hidT s1.heap H) callerA [] s1 H :=
    ⟨rfl, ⟨kb, nsOf glo, ⟨mb, nsOf blt, bb⟩, ⟨mc, nsOf c1, c2⟩⟩, fun b o e => of_hidT e, Nat.le_of_eq (hidT_size _ _), trivial, fun b z => absurd (show b ∈ ([] : List Addr) from z) (by simp), hok, .of_eq gens⟩
  have bi : BI mg (hidT s1.heap H) := by
    obtain ⟨bm, o, b1, b2, b3, b4, b5, b6⟩ := hbm
    exact ⟨bm, o, b1, b2, hidT_get b3 (free b3 (fun its n q => by rw [b6] at q; cases q) (fun q => by rw [b6] at q; cases q)), b4, b5, b6⟩
  have cd : ∀ p ∈ cs, PySem.W.CodeHd (hidT s1.heap H) p.1 p.2 := fun p hp => by
    obtain ⟨o, us, file, tf, flags, tg, inF, text, tt, e1, r1, r2, r3, r⟩ := C p hp
    refine ⟨o, us, file, tf, flags, tg, inF, text, tt, hidT_get e1 (free e1 (fun its n q => by rw [r2] at q; cases q) fun q => ?_), r1, r2, r3, r⟩
    rw [r2] at q
    cases q
    simp at r3
  refine codeAny_mono ((F _ kb (nsOf glo) bi cd).go callerA [] s1 H ⟨[.ref a], []⟩ [.ref a] [.ref a] _ _ room rfl en (bind s1 (.ref a)) (.cons rfl .nil) (want H isT' sq)) fun r s' z => ?_
  cases r with
  | error e => exact z.elim
  | ok fl =>
    cases fl with
    | next => exact z.elim
    | brk => exact z.elim
    | cont => exact z.elim
    | ret u =>
      obtain ⟨v, H', os, bare, un, hok', rv, q⟩ := z
      have q' : v = .bl true := q
      subst q'
      have eu : u = Value.bool true := rv
      subst eu
      have key : ∀ b o, b ∉ cs.map (·.2) → s1.heap.get? b = some o → s'.heap.get? b = some o := fun b o nb e => by
        rcases only b with n | ⟨n, _⟩ | ⟨ob, xs, n⟩
        · exact un.keep b o e n (fun z => absurd (show b ∈ ([] : List Addr) from z) (by simp)) (by simp)
        · exact absurd n nb
        · obtain ⟨e1, _⟩ := hok b _ n
          obtain ⟨e2, _⟩ := hok' b _ (un.frzs b ob _ n)
          rw [e] at e1
          cases e1
          exact e2
      have grown : ∀ p ∈ cs, ∃ more : Array Value, s'.heap.get? p.2 = some { cls := .none, data := .fields more } := fun p hp => by
        obtain ⟨more, z⟩ := un.tbls p.2 #[] (isT' p hp)
        exact ⟨_, hok' p.2 _ z⟩
      refine ⟨rfl, ⟨fun b o e => ?_, fun b o e => ?_⟩, os, bare⟩
      · by_cases hb : b ∈ cs.map (·.2)
        · obtain ⟨p, hp, ep⟩ := List.mem_map.mp hb
          obtain ⟨more, hm⟩ := grown p hp
          rw [← ep] at e ⊢
          rw [hT p hp] at e
          cases e
          exact .inr (.inl ⟨((C p hp).tab (hT p hp)).isCodeTable, rfl, #[], more, rfl, by rw [Array.empty_append]; exact hm⟩)
        · exact .inl (key b o hb e)
      · by_cases hb : b ∈ cs.map (·.2)
        · obtain ⟨p, hp, ep⟩ := List.mem_map.mp hb
          obtain ⟨more, hm⟩ := grown p hp
          exact ⟨_, by rw [← ep]; exact hm⟩
        · exact ⟨o, key b o hb e⟩
def emptyT : Obj → Bool
  | ⟨.none, none, .fields vs, sl⟩ => vs.isEmpty && sl.isEmpty
  | _ => false
/-- no empty table stands among these -/
def noTab (K : Fg) : Bool := K.all fun q => !emptyT q.2
theorem look_mem {t : Addr} {o : Obj} : ∀ {l : List (Addr × Obj)}, l.lookup t = some o → (t, o) ∈ l
  | [], h => nomatch h
  | (b, u) :: r, h => by
    rw [List.lookup_cons] at h
    split at h
    · rename_i q
      cases h
      rw [beq_iff_eq.mp q]
      exact List.mem_cons_self
    · exact List.mem_cons_of_mem _ (look_mem h)
theorem noTab_none {K : Fg} {h : Heap} {t : Addr} (kin : K.In h) (hn : noTab K = true) (e : h.get? t = some tab0) : K.lookup t = none := by
  cases q : K.lookup t with
  | none => rfl
  | some o =>
    have z := kin t o q
    rw [e] at z
    cases z
    have y := List.all_eq_true.mp hn _ (look_mem q)
    cases y
/-- what the top tells of a def's code object -/
def TabOf (mg : Str → Option Value) (h : Heap) (m : Str) : Prop := ∃ a o fd c P, mg m = some (.ref a) ∧ h.get? a = some o ∧ o.data = .func fd ∧ fd.code = .ref c ∧ PySem.W.CodeHd h c P ∧ h.get? P = some tab0
theorem TabOf.at {K : Fg} {mg : Str → Option Value} {h : Heap} {m : Str} {f : Addr} {oc : Value} {od : Option Addr} {osl : Array (Option Value)} {fd : FuncData} (t : TabOf mg h m) (kin : K.In h) (hm : mg m = some (.ref f)) (l : K.lookup f = some ⟨oc, od, .func fd, osl⟩) :
    ∃ c P, fd.code = .ref c ∧ PySem.W.CodeHd h c P ∧ h.get? P = some tab0 := by
  obtain ⟨a, o, fd', c, P, h1, h2, h3, h4, h5, h6⟩ := t
  rw [hm] at h1
  cases h1
  rw [kin f _ l] at h2
  cases h2
  cases h3
  exact ⟨c, P, h4, h5, h6⟩
/-- the goal that k_head leaves, for a law with generator expressions -/
theorem walkT {l : PySem.W.OpenLaw} {n k : Nat} {q : Program} {loose : List Str} {XP : (Str → Option Value) → Heap → Prop} {YP : World → Heap → Prop} {d : DefRec} {K : Params → Fg} {G : FV} {x : Str} {NM : Nat → Nat → Option Str} {FN : (Str → Option Value) → Nat → Option Addr} (names : List Str) (hn : l.most = some n) (hn2 : n ≤ sizeLine) (hdf : d.params.defaults = []) (room : Room k callerA)
    (hrec : (names.all fun m => (recsOf q).any fun e => e.name == m) = true) (hY : ∀ (w : World) (h : Heap), YP w h → (K w.params).In h) (hnt : ∀ w : World, noTab (K w.params) = true)
    (F : ∀ (w : World) (mg : Str → Option Value) (fa : Addr) (h : Heap), (K w.params).In h → h.Ns mainGlobals mg → mg d.name = some (.ref fa) → (∀ m ∈ names, TabOf mg h m) →
      ∃ (fd : FuncData) (cs : List (Addr × Addr)), (∀ p ∈ cs, h.get? p.2 = some tab0 ∧ PySem.W.CodeHd h p.1 p.2) ∧ (∀ (s : Shared) (u : Value), BindsTo s fd ⟨[u], []⟩ [(x, u)]) ∧
        ∀ base : Heap, (K w.params).In base → base.Ns mainGlobals mg → BI mg base → (∀ p ∈ cs, PySem.W.CodeHd base p.1 p.2) → FnG l.prog w (K w.params) mg base CX0 k fa fd [x] (@spF ⟨NM, FN mg⟩ ⟨cs.map fun p => (none, p.2)⟩ (K w.params) 1 G))
    (hG : ∀ ns : List Int, ns.length ≤ n → ∃ S', G [.d (.list (ns.map .int))] [] = some (.d (.bool true), S')) :
    PySem.W.WalkO q loose XP YP l.row.toRowW d [] (fun f vs => PySem.call f vs) := by
  refine Att.attach_call hn hdf fun w s0 s1 mg mb fa o pm cd doc a vs ns gr Y ho hd hcd hmg hobj hints hlen hg => ?_
  have kin := hY w _ Y
  obtain ⟨fd, cs, hcs, hb, hF⟩ := F w mg fa _ kin gr.T.g hmg fun m hm => by
    obtain ⟨e, he, en⟩ := List.any_eq_true.mp (List.all_eq_true.mp hrec m hm)
    have en' : e.name = m := beq_iff_eq.mp en
    obtain ⟨a', o', fd', c', P', h1, h2, h3, h4, h5, h6⟩ := gr.T.tab e he
    rw [en'] at h1
    exact ⟨a', o', fd', c', P', h1, h2, h3, h4, PySem.W.CodeHd.of h5 h6, h6.2⟩
  refine law_runT kin gr.T.g gr.T.b gr.T.builtins gr.T.nolimit hg (fun p hp => (hcs p hp).1) (fun p hp => noTab_none kin (hnt w) (hcs p hp).1) (fun p hp => (hcs p hp).2) gr.T.bmain hobj hints (Nat.le_trans hlen hn2) room hF hb fun H hH sq => ?_
  obtain ⟨S', e⟩ := hG ns hlen
  have v1 : VR (K w.params) [] H (.ref a) (.d (.list (ns.map .int))) := Dp.lst (sqL_noT sq) (dpAll_ints ns)
  refine ⟨rfl, fun t ht => ?_, [], [], _, _, S', .nilR H, .cons v1 .nil, e, fun u H' _ _ V => ?_⟩
  · obtain ⟨p, hp, et⟩ := List.mem_map.mp (show t ∈ cs.map (fun p => ((none, p.2) : Tb)) from ht)
    subst et
    refine ⟨⟨fun P => P = p.2, rfl, fun P hP => ?_⟩, fun c hc => by cases hc⟩
    subst hP
    refine ⟨#[], hH p hp, trivial, fun pos cv z => ?_⟩
    have z' : codeAmong pos [] = some cv := z
    simp [codeAmong] at z'
  · cases V
    rfl
end DL

namespace DL
open PySem PySem.Spec PyProof.Rows L2 DK
variable [Nms] [T0 : Tabs]
/-! ### a tuple so often -/
def fRepT : PV → PV → Sto → Option PV := fun x y _ => match x, y with
  | .d (.tuple xs), .d (.int k) => if xs ≠ [] ∧ -1000 ≤ k ∧ k ≤ 1000 ∧ xs.length ≤ 1000 then some (.d (.tuple (List.replicate k.toNat xs).flatten)) else none
  | _, _ => none
theorem opD_repT {K : Fg} : OpD K (rRepF K) fRepT := by
  intro as S H u w x y z Q R V1 V2 e k
  unfold fRepT at e
  split at e
  · rename_i xs n
    split at e
    · rename_i hz
      cases e
      cases V2
      cases V1 with
      | tup s a =>
        have hl := dpAll_len a
        refine ⟨_, n, _, rfl, rfl, sqT_mono hide_same s, fun h0 => hz.1 ?_, hz.2.1, hz.2.2.1, by rw [hl]; exact hz.2.2.2, fun h1 => ?_, fun _ => tuple_new R (dpAll_rep a _) k⟩
        · rw [h0] at hl
          exact List.eq_nil_of_length_eq_zero hl.symm
        · subst h1
          refine k _ H R .refl ?_
          have e1 : (List.replicate (1 : Int).toNat xs).flatten = xs := by simp
          rw [e1]
          exact .tup s a
    · cases e
  · cases e
theorem de_rept {X : Cx} {a b : Expr} {ma mb : M} {pos : Pos} (ha : DE X a ma) (hb : DE X b mb) : DE X (.BinOp a .Mult b pos) (mOp fRepT ma mb) := de_op op_repF opD_repT ha hb
end DL

namespace DL
open PySem PySem.Spec PyProof.Rows L2 DK
variable [Nms] [Tabs]
/-! a comprehension over a list of ours: at each turn it is read as it stands -/
def lcGoC (n j : Nat) (tgt : TgD) (tt : MB) (te : M) (ρ : RE) : Nat → Nat → Sto → Option Sto
  | 0, _, _ => none
  | f + 1, i, S => (lAt S j).bind fun l => match l[i]? with
    | none => some S
    | some x => (tgt x ρ).bind fun ρ1 => (tt ρ1 S).bind fun b => if b.1 = true then (te ρ1 b.2).bind fun v => match v.1 with
        | .d y => (pushAt n y v.2).bind fun S' => lcGoC n j tgt tt te ρ f (i + 1) S'
        | _ => none
      else lcGoC n j tgt tt te ρ f (i + 1) b.2
def mLcC (m : M) (vs : List Nat) (tgt : TgD) (tt : MB) (te : M) : ML := fun ρ S => (m ρ S).bind fun p => match p.1 with
  | .c j => (lAt p.2 j).bind fun l => (lcGoC p.2.length j tgt tt te (wipeR ρ vs) (l.length + 1) 0 (p.2 ++ [.l []])).bind fun S' => (lAt S' p.2.length).bind fun ds => some (ds, S'.take p.2.length)
  | _ => none
theorem lcC_D {K : Fg} {m : M} {vs is : List Nat} {tgt : TgD} {tt : MB} {te : M} (hv : ∀ i ∈ is, i ∈ vs) : ∀ σ H Q, tL K (mLcC m vs tgt tt te) σ H Q →
    tLc (fun σ H R => tM K m σ H fun x H1 => (∃ a, x = .ref a ∧ (∃ xs, SqL K H1 a xs) ∧ R (Itl K a) H1) ∨ ∃ a, x = .ref a ∧ (∃ xs, SqT K H1 a xs) ∧ R (Itt K a) H1) (tG K is tgt) (tMB K tt) (tM K te) vs σ H Q := fun σ H Q ⟨as, ρ, S, ds, S', R, E, e, k⟩ => by
  obtain ⟨⟨v, S1⟩, e1, e⟩ := Option.bind_eq_some_iff.mp e
  cases v with
  | d y => cases e
  | f _ => first | rfl | exact h | (cases e; done) | (cases e1; done) | (cases e2; done) | (cases e3; done) | (cases e4; done) | (cases e5; done) | (cases e6; done) | (cases h; done) | (cases h1; done) | (cases h2; done) | (cases h3; done) | (cases b; done) | (cases q; done) | exact h.elim | exact g.elim | exact r.elim | exact r.1.elim | exact r1.elim | exact r2.elim | exact z.elim | exact h1.elim | contradiction | (cases y <;> rfl) | (cases x <;> rfl) | (cases q <;> rfl) | (cases a <;> rfl) | exact L _ _ | exact L _ | (simp_all; done)
  | c j =>
    obtain ⟨l, el, e⟩ := Option.bind_eq_some_iff.mp e
    obtain ⟨S2, e2, e⟩ := Option.bind_eq_some_iff.mp e
    obtain ⟨ds2, e3, e⟩ := Option.bind_eq_some_iff.mp e
    cases e
    dsimp only at e2 e3 k el
    refine ⟨as, ρ, S, .c j, S1, R, E, e1, fun u H1 R1 E1 V1 => ?_⟩
    obtain ⟨a, ha, rfl⟩ := V1
    obtain ⟨ws, hw, dw⟩ := R1.at_ j a l ha el
    refine .inl ⟨a, rfl, ⟨ws, SqL.of hw⟩, fun D hD => ?_⟩
    obtain ⟨R0, X0⟩ := R1.grow (vs := []) (ds := []) hD .nil
    have hn : (as ++ [D])[S1.length]? = some D := by rw [← R1.len]; simp
    have haj : (as ++ [D])[j]? = some a := by
      rw [List.getElem?_append_left (List.getElem?_eq_some_iff.mp ha).1]
      exact ha
    have EE := (E.ext E1).ext X0
    refine ⟨fun i q H' => ∃ S3, Ext (as ++ [D]) (upd H1 D (.lst [])) (as ++ [D]) H' ∧ Rel K (as ++ [D]) S3 H' ∧ lcGoC S1.length j tgt tt te (wipeR ρ vs) q i S3 = some S2, ⟨_, S1 ++ [Cell.l []], .refl, R0, e2⟩, ?_⟩
    rintro i q H' ⟨S3, X1, R3, e4⟩
    cases q with
    | zero => cases e4
    | succ q =>
      obtain ⟨l3, el3, e4⟩ := Option.bind_eq_some_iff.mp e4
      obtain ⟨ws3, hw3, dw3⟩ := R3.at_ j a l3 haj el3
      have sq : SqL K H' a ws3 := SqL.of hw3
      cases hx : l3[i]? with
      | none =>
        rw [hx] at e4
        cases e4
        refine .inl ⟨⟨ws3, sq, by rw [dpAll_len dw3]; exact List.getElem?_eq_none_iff.mp hx⟩, ?_⟩
        exact lc_end R1 E1 e3 R3 (X0.trans X1) k
      | some x =>
        rw [hx] at e4
        obtain ⟨w, ew, dw4⟩ := dpAll_get dw3 hx
        refine .inr ⟨⟨ws3, w, sq, ew⟩, fun H2 => ∃ S4, Ext (as ++ [D]) (upd H1 D (.lst [])) (as ++ [D]) H2 ∧ Rel K (as ++ [D]) S4 H2 ∧ lcGoC S1.length j tgt tt te (wipeR ρ vs) q (i + 1) S4 = some S2, fun H2 z => ⟨q, Nat.lt_succ_self _, z⟩, fun y H2 yl => ?_⟩
        obtain ⟨rfl, yl⟩ := yl
        have hyw : y = w := Option.some.inj ((yl ws3 sq).symm.trans ew)
        subst hyw
        obtain ⟨ρ3, e5, e4⟩ := Option.bind_eq_some_iff.mp e4
        obtain ⟨⟨b, S5⟩, e6, e4⟩ := Option.bind_eq_some_iff.mp e4
        refine ⟨as ++ [D], wipeR ρ vs, x, ρ3, (EE.ext X1).wiped vs, dw4, e5, fun σ3 E3 A3 => ⟨wipe_ww A3 hv, as ++ [D], ρ3, S3, b, S5, R3, E3, e6, fun H5 R5 X5 => ?_⟩⟩
        dsimp only at e4 ⊢
        split
        · rename_i hb
          rw [if_pos hb] at e4
          obtain ⟨⟨v, S6⟩, e7, e4⟩ := Option.bind_eq_some_iff.mp e4
          refine ⟨as ++ [D], ρ3, S5, v, S6, R5, E3.ext X5, e7, fun u H6 R6 X6 V6 => ?_⟩
          cases v with
          | f _ => first | rfl | exact h | (cases e; done) | (cases e1; done) | (cases e2; done) | (cases e3; done) | (cases e4; done) | (cases e5; done) | (cases e6; done) | (cases h; done) | (cases h1; done) | (cases h2; done) | (cases h3; done) | (cases b; done) | (cases q; done) | exact h.elim | exact g.elim | exact r.elim | exact r.1.elim | exact r1.elim | exact r2.elim | exact z.elim | exact h1.elim | contradiction | (cases y <;> rfl) | (cases x <;> rfl) | (cases q <;> rfl) | (cases a <;> rfl) | exact L _ _ | exact L _ | (simp_all; done)
          | c j => cases e4
          | d y =>
            obtain ⟨S7, e8, e4⟩ := Option.bind_eq_some_iff.mp e4
            obtain ⟨acc, h1, h2, R7, X7⟩ := push_ok R6 hn e8 V6
            exact ⟨acc, h1, h2, S7, X1.trans (X5.trans (X6.trans X7)), R7, e4⟩
        · rename_i hb
          rw [if_neg hb] at e4
          exact ⟨S5, X1.trans X5, R5, e4⟩
section
variable {X : Cx} {tg iter elt : Expr} {ifs : List Expr} {scope : Scope} {pos : Pos} {own : List (Str × Nat)} {vs is : List Nat} {tgt : TgD} {tt : MB} {te : M}
theorem dl_lcC {m : M} (hc : X.calm = true) (hN : X.N.Nodup) (hi : DE X iter m) (ok : BlkOk X.N X.env.scope scope own)
    (hg : ∀ (s : Shared) (H : Hp) (C : Addr) (cl : List (Str × Addr)) (fp : List Addr), DG (X.blk s H scope (compEnvC scope cl C X.env) fp) tg is tgt) (ht : ∀ (s : Shared) (H : Hp) (C : Addr) (cl : List (Str × Addr)) (fp : List Addr), DTs (X.blk s H scope (compEnvC scope cl C X.env) fp) ifs tt)
    (he : ∀ (s : Shared) (H : Hp) (C : Addr) (cl : List (Str × Addr)) (fp : List Addr), DE (X.blk s H scope (compEnvC scope cl C X.env) fp) elt te) (hv : (is.all fun i => vs.contains i) = true) (hs : ∀ x, foldedSetIterable iter X.env x = pure x := by intro _; rfl) (hvs : own.map (·.2) = vs := by rfl) :
    DLs X (.ListComp elt [⟨tg, iter, ifs, 0⟩] scope pos) (mLcC m vs tgt tt te) := by
  subst hvs
  exact pe_imp (pe_lc hc hN (pi_seq hi) ok hg ht he hs) (lcC_D fun i h => by simpa using List.all_eq_true.mp hv i h)
end
end DL

namespace DL
open PySem PySem.Spec PyProof.Rows L2 DK
variable [Nms] [Tabs]
/-! ### sorted(set(row)) of whole numbers -/
def ins (k : Int) : List Int → List Int
  | [] => [k]
  | x :: r => if k < x then k :: x :: r else if k = x then x :: r else x :: ins k r
def rising : List Int → List Int
  | [] => []
  | k :: r => ins k (rising r)
def mSrt (m : M) : ML := fun ρ S => (m ρ S).bind fun p => match p.1 with
  | .d (.tuple xs) => (intsOf xs).bind fun ns => if ns.length < 64 then some ((rising ns).map .int, p.2) else none
  | _ => none
section
variable {X : Cx} {e : Expr} {m : M} {p p2 pos pos2 : Pos}
end
/-! ### row.count(k) -/
def rCntT (K : PySem.W.Frag) : V → List V → Hp → VK → Prop := fun x xs H Q => ∃ (p : Addr) (ns : List Int) (k : Int), x = .ref p ∧ xs = [.int k] ∧ SqT K H p (ns.map V.int) ∧ Q (.int (ns.count k : Nat)) H
theorem mt_tcount {X : Cx} : MtR X "tuple.count" (rCntT X.K) := by
  intro pins s σ H x xs v us Q I rx rxs h
  obtain ⟨p, ns, k, rfl, rfl, hs, q⟩ := h
  cases rx
  obtain ⟨u, rfl, ru⟩ := rxs.one
  obtain ⟨t, rfl⟩ := ru
  obtain ⟨its, rv, pl, hlen⟩ := I.tuple hs
  obtain ⟨⟨cls, dd, data, sl⟩, ho, hc, n, hd⟩ := (show s.heap.IsTuple p its.toArray from pl)
  simp only at hc hd
  subst hc hd
  have hi := ints_of_vals rv
  refine call_meets PySem.F.slot_tuple_count ⟨_, ho, rfl⟩ PySem.F.entry_tuple_count (PySem.F.args_tuple_count_2 _ _)
    (SeqAt.tuple_countAt p its.toArray n dd sl (.int k t) (eqk k)) ⟨ho, fun y hy => (eqk_gives hi y (by simpa using hy)).at _ _, ?_⟩
  have ec : its.toArray.toList.countP (eqk k) = ns.count k := eqk_count hi
  refine ⟨.int (ns.count k : Nat), H, I.tok _, ⟨s.toks, ?_⟩, q⟩
  show Value.int ((its.toArray.toList.countP (eqk k) : Nat) : Int) s.toks = Value.int ((ns.count k : Nat) : Int) s.toks
  rw [ec]
/-! ### xs.extend(ys): xs a list of ours, ys a new one -/
def mExtend (mo : M) (ml : ML) : M := fun ρ S => (mo ρ S).bind fun o => (ml ρ o.2).bind fun q => match o.1 with
  | .c j => if (lAt o.2 j).isSome = true then (lAt q.2 j).bind fun ds => if ds.length + q.1.length ≤ 1000000 then some (.d .none, q.2.set j (.l (ds ++ q.1))) else none else none
  | _ => none
theorem de_extend {X : Cx} {o e : Expr} {mo : M} {ml : ML} {apos cpos : Pos} (ho : DE X o mo) (he : DLs X e ml) (hbase : attributeBase o "extend" X.env (eval o X.env) = eval o X.env := by rfl)
    (hfew : ((backTo cpos (starEach [e] X.env)).all (fun x => !x.1) && (backToKw cpos (keywordEach [] X.env)).all (fun x => x.1.isSome) && decide ([e].length + ([] : List Keyword).length + (if ([] : List Keyword).isEmpty then 0 else 1) < 30)) = true := by rfl)
    (hline : (apos.endLine == cpos.line) = true := by rfl) (hs : starEach [e] X.env = (false, eval e X.env) :: starEach [] X.env := by rfl) (hplain : (backTo cpos (starEach [] X.env)).any (·.1) = false := by rfl) :
    DE X (.Call (.Attribute o "extend" apos) [e] [] cpos) (mExtend mo ml) :=
  pe_imp (pe_bm PySem.F.plainAttrs_list PySem.F.slot_list_extend PySem.F.type_list_extend mt_extend ho (pa_cons he pa_nil hs) hbase hfew hline hs hplain) fun σ H Q ⟨as, ρ, S, r, S', R, E, e, k⟩ => by
    obtain ⟨⟨o, S1⟩, e1, e⟩ := Option.bind_eq_some_iff.mp e
    obtain ⟨⟨zs, S2⟩, e2, e⟩ := Option.bind_eq_some_iff.mp e
    refine ⟨as, ρ, S, o, S1, R, E, e1, fun u H1 R1 E1 V1 => ?_⟩
    dsimp only at e
    split at e
    · rename_i j _
      split at e
      · rename_i hs
        obtain ⟨ds0, e0⟩ := Option.isSome_iff_exists.mp hs
        obtain ⟨ds, e3, e⟩ := Option.bind_eq_some_iff.mp e
        obtain ⟨a, q, rfl⟩ := id V1
        refine ⟨cell_ty R1 V1 e0, as, ρ, S1, zs, S2, R1, E.ext E1, e2, fun p H2 ws R2 E2 hp hd => ?_⟩
        split at e
        · rename_i hz
          cases e
          obtain ⟨R3, X3⟩ := R2.laid (o := .lst ws) hp
          obtain ⟨vs, h1, h2⟩ := R3.at_ j a ds q e3
          have hd3 := dpAll_mono X3.same _ _ hd
          obtain ⟨R4, E4⟩ := R3.put q (dpAll_append h2 hd3) ⟨_, h1⟩
          refine ⟨a, p, vs, ws, rfl, rfl, h1, upd_same .., by rw [dpAll_len h2, dpAll_len hd, sizeLine_eq]; omega, ?_⟩
          exact k _ _ R4 (E1.trans (E2.trans (X3.trans E4))) .non
        · cases e
      · cases e
    · cases e
/-! ### sorted(xs) of whole numbers -/
def insL (k : Int) : List Int → List Int
  | [] => [k]
  | x :: r => if k ≤ x then k :: x :: r else x :: insL k r
def sortI : List Int → List Int
  | [] => []
  | k :: r => insL k (sortI r)
theorem insL_perm (k : Int) : ∀ l : List Int, (insL k l).Perm (k :: l)
  | [] => .refl _
  | x :: r => by
    unfold insL
    split
    · exact .refl _
    · exact ((insL_perm k r).cons x).trans (.swap k x r)
theorem insL_up (k : Int) : ∀ {l : List Int}, l.Pairwise (· ≤ ·) → (insL k l).Pairwise (· ≤ ·)
  | [], _ => by simp [insL]
  | x :: r, h => by
    obtain ⟨h1, h2⟩ := List.pairwise_cons.mp h
    unfold insL
    split
    · rename_i hk
      refine List.pairwise_cons.mpr ⟨fun y hy => ?_, h⟩
      rcases List.mem_cons.mp hy with rfl | hy
      · exact hk
      · have := h1 y hy
        omega
    · rename_i hk
      refine List.pairwise_cons.mpr ⟨fun y hy => ?_, insL_up k h2⟩
      rcases List.mem_cons.mp ((insL_perm k r).mem_iff.mp hy) with rfl | hy
      · omega
      · exact h1 y hy
theorem sortI_perm : ∀ l : List Int, (sortI l).Perm l
  | [] => .refl _
  | k :: r => (insL_perm k (sortI r)).trans ((sortI_perm r).cons k)
theorem sortI_up : ∀ l : List Int, (sortI l).Pairwise (· ≤ ·)
  | [] => .nil
  | k :: r => insL_up k (sortI_up r)
theorem sorted_unique : ∀ {a b : List Int}, a.Pairwise (· ≤ ·) → b.Pairwise (· ≤ ·) → a.Perm b → a = b
  | [], b, _, _, h => (h.nil_eq)
  | x :: a, [], _, _, h => absurd h.length_eq (by simp)
  | x :: a, y :: b, ha, hb, h => by
    obtain ⟨a1, a2⟩ := List.pairwise_cons.mp ha
    obtain ⟨b1, b2⟩ := List.pairwise_cons.mp hb
    have hxy : x = y := by
      rcases List.mem_cons.mp (h.mem_iff.mp (List.mem_cons_self (a := x))) with q1 | q1
      · exact q1
      · rcases List.mem_cons.mp (h.mem_iff.mpr (List.mem_cons_self (a := y))) with q2 | q2
        · exact q2.symm
        · have := b1 x q1
          have := a1 y q2
          omega
    subst hxy
    rw [sorted_unique a2 b2 (List.Perm.cons_inv h)]
def mSortI (m : M) : ML := fun ρ S => (m ρ S).bind fun p => (asD p.2 p.1).bind fun d => match d with
  | .list xs => (intsOf xs).bind fun ns => some ((sortI ns).map .int, p.2)
  | _ => none
section
variable {X : Cx} {e : Expr} {m : M} {p pos : Pos}
end
end DL

namespace DL
open PySem PySem.Spec PyProof.Rows L2 DK
variable [Nms] [T0 : Tabs]
def enumD : Nat → List PyData → List PyData
  | _, [] => []
  | i, x :: r => .tuple [.int (i : Nat), x] :: enumD (i + 1) r
theorem enumD_get : ∀ {xs : List PyData} {k i : Nat} {d : PyData}, (enumD k xs)[i]? = some d → ∃ a, xs[i]? = some a ∧ d = .tuple [.int ((k + i : Nat) : Int), a]
  | [], _, _, _, h => by simp [enumD] at h
  | x :: r, k, 0, d, h => by
    simp [enumD] at h
    exact ⟨x, rfl, h.symm⟩
  | x :: r, k, i + 1, d, h => by
    have h' : (enumD (k + 1) r)[i]? = some d := by simpa [enumD] using h
    obtain ⟨a, e1, e2⟩ := enumD_get h'
    exact ⟨a, by simpa using e1, by rw [e2]; congr 4; omega⟩
theorem enumD_len : ∀ (xs : List PyData) (k : Nat), (enumD k xs).length = xs.length
  | [], _ => rfl
  | x :: r, k => by simp [enumD, enumD_len r]
theorem iters_enum {kd : Bool} {K : Fg} {as : List Addr} {H1 : Hp} {a : Addr} {vs : List V} {xs : List PyData} (hs : Sq kd K (hide as H1) a vs) (hd : DpAll K (hide as H1) vs xs) : Iters K as H1 (ItE kd K a) (enumD 0 xs) := by
  refine ⟨fun as' H2 E i d e => ?_, fun as' S H2 E R i d e x H3 y => ?_, fun as' H2 E => ⟨vs, sq_ext hs E, by rw [enumD_len, dpAll_len hd]; exact Nat.le_refl _⟩⟩
  · obtain ⟨p, e1, _⟩ := enumD_get e
    obtain ⟨v, f1, _⟩ := dpAll_get hd e1
    exact ⟨vs, v, sq_ext hs E, f1⟩
  · obtain ⟨p, e1, rfl⟩ := enumD_get e
    obtain ⟨v, f1, g1⟩ := dpAll_get hd e1
    obtain ⟨T, o, x', rfl, ho, hT, h3, k1⟩ := y
    have ev : x' = v := Option.some.inj ((k1 vs (sq_ext hs E)).symm.trans f1)
    subst ev
    rw [Nat.zero_add]
    exact pair_yld R ho hT h3 (.int _) (dp_mono E.same _ _ g1)
def mEnum (ma : MA) : ML := fun ρ S => (ma ρ S).bind fun p => match p.1 with
  | [.d (.tuple xs)] => some (enumD 0 xs, p.2)
  | [.d (.list xs)] => some (enumD 0 xs, p.2)
  | _ => none
theorem di_enum {X : Cx} {e : Expr} {ma : MA} {p pos tpos : Pos} {elts : List Expr} {kk : Nat} (hg : Gl X "enumerate") (hm : X.mg "enumerate" = none) (ha : DA X [e] ma)
    (hs : starEach [e] X.env = [(false, eval e X.env)] := by rfl) : DI X (.Tuple elts kk tpos) (.Call (.Name "enumerate" p) [e] [] pos) (mEnum ma) :=
  pi_imp (pi_enumF hg hm ha hs) fun σ H Rr ⟨as, ρ, S, xs, S1, R, E, e, k⟩ => by
    obtain ⟨⟨vs, S2⟩, e1, e⟩ := Option.bind_eq_some_iff.mp e
    refine ⟨as, ρ, S, vs, S2, R, E, e1, fun us H1 R1 E1 V1 => ?_⟩
    dsimp only at e
    split at e
    · cases e
      obtain ⟨u, rfl, a⟩ := paired1 V1
      cases a with
      | tup s1 d1 => exact ⟨false, _, _, rfl, sqT_mono hide_same s1, k _ H1 R1 E1 (iters_enum (kd := false) s1 d1)⟩
    · cases e
      obtain ⟨u, rfl, a⟩ := paired1 V1
      cases a with
      | lst s1 d1 => exact ⟨true, _, _, rfl, hide_same.seq s1, k _ H1 R1 E1 (iters_enum (kd := true) s1 d1)⟩
    · cases e
/-! ### t.count(x) -/
/-- a tuple of ours has no dict -/
theorem tup_nd {K : Fg} {as : List Addr} {H : Hp} {a : Addr} {vs : List V} (hk : noTD K = true) (h : SqT K (hide as H) a vs) : (∃ o : Obj, o.dict = none ∧ H a = some (.frz o (.tup vs))) ∨ ∃ o : Obj, K.lookup a = some o ∧ o.cls = .type "tuple" ∧ o.dict = none := by
  rcases h with (h | ⟨o, h⟩) | ⟨o, its, n, h, c, _⟩
  · obtain ⟨_, _, t⟩ := hide_of3 h
    cases t
  · obtain ⟨_, e, t⟩ := hide_of3 h
    exact .inl ⟨o, Option.isNone_iff_eq_none.mp t, e⟩
  · refine .inr ⟨o, h, c, ?_⟩
    have z := List.all_eq_true.mp hk _ (look_mem h)
    rw [Bool.or_eq_true] at z
    rcases z with z | z
    · rw [show (a, o).2.cls = .type "tuple" from c] at z
      simp at z
    · exact Option.isNone_iff_eq_none.mp z
/-- o.m(e) of a tuple that has no dict -/
theorem pe_tm {X : Cx} {o e : Expr} {to : TE} {t : TA} {name : Str} {id : String} {r : V → List V → Hp → VK → Prop} {apos cpos : Pos} (hk : noTD X.K = true) (slot : Slot "tuple" name id) (hty : typeOf (.builtin id) = pure (.type "method_descriptor")) (hm : MtR X id r) (ho : PE X o to) (ha : PA X [e] t)
    (hbase : attributeBase o name X.env (eval o X.env) = eval o X.env := by rfl)
    (hfew : ((backTo cpos (starEach [e] X.env)).all (fun x => !x.1) && (backToKw cpos (keywordEach [] X.env)).all (fun x => x.1.isSome) && decide ([e].length + ([] : List Keyword).length + (if ([] : List Keyword).isEmpty then 0 else 1) < 30)) = true := by rfl)
    (hline : (apos.endLine == cpos.line) = true := by rfl) (hs : starEach [e] X.env = (false, eval e X.env) :: starEach [] X.env := by rfl) (hplain : (backTo cpos (starEach [] X.env)).any (·.1) = false := by rfl) :
    PE X (.Call (.Attribute o name apos) [e] [] cpos) (fun σ H Q => to σ H fun x H1 => (∃ as a vs, x = .ref a ∧ SqT X.K (hide as H1) a vs) ∧ t σ H1 fun xs H2 => r x xs H2 Q) := by
  refine ⟨fun pins s σ H Q I h => wpAny_Call_method_late hbase hfew hline rfl (thn (ho.run pins s σ H _ I h) fun v s1 ⟨x, H1, I1, r1, ⟨as, a, vs, ex, hq⟩, q1⟩ => ?_)⟩
  subst ex
  cases r1
  obtain ⟨its, _, pl, _⟩ := I1.tuple (sqT_mono hide_same hq)
  refine ⟨"tuple", id, PySem.F.plainAttrs_tuple, slot, hty, pl.typeIs, fun b e => ?_, ?_⟩
  · cases e
    rcases tup_nd hk hq with ⟨o, hd, e⟩ | ⟨o, e, _, hd⟩
    · exact ⟨o, (I1.hok _ _ e).1, hd⟩
    · exact ⟨o, I1.kIn _ _ e, hd⟩
  · have hA := ha.run cpos pins s1 σ H1 _ I1 q1
    rw [hs] at hA ⊢
    exact Calls.callWith_builtin (by show (false || (backTo cpos (starEach [] X.env)).any (·.1)) = false; rw [hplain] <;> rfl) (Calls.evalArgs_plain (thn hA fun us s2 ⟨ws, H2, I2, r2, q2⟩ => hm pins s2 σ H2 (.ref a) ws (.ref a) us Q I2 rfl r2 q2))
def mCount (mo mi : M) : M := fun ρ S => (mo ρ S).bind fun o => (mi ρ o.2).bind fun i => match o.1, i.1 with
  | .d (.tuple xs), .d (.int k) => (intsOf xs).bind fun ns => some (.d (.int (ns.count k : Nat)), i.2)
  | _, _ => none
theorem de_count {X : Cx} {o e : Expr} {mo mi : M} {apos cpos : Pos} (hk : noTD X.K = true) (ho : DE X o mo) (he : DE X e mi) (hbase : attributeBase o "count" X.env (eval o X.env) = eval o X.env := by rfl)
    (hfew : ((backTo cpos (starEach [e] X.env)).all (fun x => !x.1) && (backToKw cpos (keywordEach [] X.env)).all (fun x => x.1.isSome) && decide ([e].length + ([] : List Keyword).length + (if ([] : List Keyword).isEmpty then 0 else 1) < 30)) = true := by rfl)
    (hline : (apos.endLine == cpos.line) = true := by rfl) (hs : starEach [e] X.env = (false, eval e X.env) :: starEach [] X.env := by rfl) (hplain : (backTo cpos (starEach [] X.env)).any (·.1) = false := by rfl) :
    DE X (.Call (.Attribute o "count" apos) [e] [] cpos) (mCount mo mi) :=
  pe_imp (pe_tm hk PySem.F.slot_tuple_count PySem.F.type_tuple_count mt_tcount ho (pa_cons he pa_nil hs) hbase hfew hline hs hplain) fun σ H Q ⟨as, ρ, S, r, S', R, E, e, k⟩ => by
    obtain ⟨⟨o, S1⟩, e1, e⟩ := Option.bind_eq_some_iff.mp e
    obtain ⟨⟨i, S2⟩, e2, e⟩ := Option.bind_eq_some_iff.mp e
    refine ⟨as, ρ, S, o, S1, R, E, e1, fun u H1 R1 E1 V1 => ?_⟩
    dsimp only at e
    split at e
    · rename_i xs j _
      obtain ⟨ns, e3, e⟩ := Option.bind_eq_some_iff.mp e
      have eS := congrArg Prod.snd (Option.some.inj e)
      have eR := congrArg Prod.fst (Option.some.inj e)
      dsimp only at eS eR
      subst eS eR
      have V1' := V1
      cases V1' with
      | tup s1 a1 =>
        refine ⟨⟨as, _, _, rfl, s1⟩, as, ρ, S1, .d (.int j), S2, R1, E.ext E1, e2, fun w H2 R2 E2 V2 => ?_⟩
        cases V2
        cases V1.ext E2 with
        | tup s2 a2 =>
          rw [intsOf_some e3] at a2
          rw [dpAll_ints_inv a2] at s2
          exact ⟨_, ns, j, rfl, rfl, sqT_mono hide_same s2, k _ H2 R2 (E1.trans E2) (.int _)⟩
    · cases e
end DL

namespace DL
open PySem PySem.Spec PyProof.Rows L2 DK
/-! the frame, for what came later -/
theorem gxGo_sh {stop : PyData → Option Bool} {tgt : TgD} {tt : MB} {te : M} [FrT tgt] [FrB tt] [FrM te] (S : Sto) (ρ : RE) : ∀ (xs : List PyData) (T : Sto), gxGo stop tgt tt te (shR S.length ρ) xs (S ++ T) = (gxGo stop tgt tt te ρ xs T).map fun r => (r.1, r.2.1, S ++ r.2.2)
  | [], T => rfl
  | x :: xs, T => by
    show (tgt x (shR S.length ρ)).bind _ = Option.map _ ((tgt x ρ).bind _)
    rw [FrT.fr (t := tgt)]
    cases tgt x ρ with
    | none => rfl
    | some ρ1 =>
      show (tt (shR S.length ρ1) (S ++ T)).bind _ = Option.map _ ((tt ρ1 T).bind _)
      rw [FrB.fr (m := tt)]
      cases tt ρ1 T with
      | none => rfl
      | some b =>
        obtain ⟨b, T1⟩ := b
        cases b with
        | false => exact gxGo_sh S ρ xs T1
        | true =>
          show (te (shR S.length ρ1) (S ++ T1)).bind _ = Option.map _ ((te ρ1 T1).bind _)
          rw [FrM.fr (m := te)]
          cases te ρ1 T1 with
          | none => rfl
          | some v =>
            obtain ⟨v, T2⟩ := v
            cases v with
            | f _ => first | rfl | exact h | (cases e; done) | (cases e1; done) | (cases e2; done) | (cases e3; done) | (cases e4; done) | (cases e5; done) | (cases e6; done) | (cases h; done) | (cases h1; done) | (cases h2; done) | (cases h3; done) | (cases b; done) | (cases q; done) | exact h.elim | exact g.elim | exact r.elim | exact r.1.elim | exact r1.elim | exact r2.elim | exact z.elim | exact h1.elim | contradiction | (cases y <;> rfl) | (cases x <;> rfl) | (cases q <;> rfl) | (cases a <;> rfl) | exact L _ _ | exact L _ | (simp_all; done)
            | c i => rfl
            | d y =>
              show (stop y).bind _ = Option.map _ ((stop y).bind _)
              cases stop y with
              | none => rfl
              | some st =>
                cases st with
                | true => rfl
                | false =>
                  show (gxGo stop tgt tt te (shR S.length ρ) xs (S ++ T2)).bind _ = Option.map _ ((gxGo stop tgt tt te ρ xs T2).bind _)
                  rw [gxGo_sh S ρ xs T2]
                  cases gxGo stop tgt tt te ρ xs T2 <;> rfl
section
variable (mi : ML) (vs : List Nat) (tgt : TgD) (tt : MB) (te : M) [FrL mi] [FrT tgt] [FrB tt] [FrM te]
instance : FrM (mAll mi vs tgt tt te) := ⟨fun ρ S T => by
  unfold mAll
  rw [FrL.fr (m := mi)]
  cases mi ρ T with
  | none => rfl
  | some p =>
    show (gxGo stopAll tgt tt te (wipeR (shR S.length ρ) vs) p.1 (S ++ p.2)).bind _ = Option.map _ ((gxGo stopAll tgt tt te (wipeR ρ vs) p.1 p.2).bind _)
    rw [sh_wipe, gxGo_sh]
    cases gxGo stopAll tgt tt te (wipeR ρ vs) p.1 p.2 <;> rfl⟩
instance : FrM (mAny mi vs tgt tt te) := ⟨fun ρ S T => by
  unfold mAny
  rw [FrL.fr (m := mi)]
  cases mi ρ T with
  | none => rfl
  | some p =>
    show (gxGo stopAny tgt tt te (wipeR (shR S.length ρ) vs) p.1 (S ++ p.2)).bind _ = Option.map _ ((gxGo stopAny tgt tt te (wipeR ρ vs) p.1 p.2).bind _)
    rw [sh_wipe, gxGo_sh]
    cases gxGo stopAny tgt tt te (wipeR ρ vs) p.1 p.2 <;> rfl⟩
instance : FrM (mSumG mi vs tgt tt te) := ⟨fun ρ S T => by
  unfold mSumG
  rw [FrL.fr (m := mi)]
  cases mi ρ T with
  | none => rfl
  | some p =>
    show (gxGo stopSum tgt tt te (wipeR (shR S.length ρ) vs) p.1 (S ++ p.2)).bind _ = Option.map _ ((gxGo stopSum tgt tt te (wipeR ρ vs) p.1 p.2).bind _)
    rw [sh_wipe, gxGo_sh]
    cases gxGo stopSum tgt tt te (wipeR ρ vs) p.1 p.2 <;> rfl⟩
instance : FrM (mTupG mi vs tgt tt te) := ⟨fun ρ S T => by
  unfold mTupG
  rw [FrL.fr (m := mi)]
  cases mi ρ T with
  | none => rfl
  | some p =>
    show (gxGo stopNo tgt tt te (wipeR (shR S.length ρ) vs) p.1 (S ++ p.2)).bind _ = Option.map _ ((gxGo stopNo tgt tt te (wipeR ρ vs) p.1 p.2).bind _)
    rw [sh_wipe, gxGo_sh]
    cases gxGo stopNo tgt tt te (wipeR ρ vs) p.1 p.2 with
    | none => rfl
    | some r =>
      dsimp
      split <;> rfl⟩
end
instance (mo mi : M) [FrM mo] [FrM mi] : FrM (mCount mo mi) := ⟨fun ρ S T => by
  unfold mCount
  rw [FrM.fr (m := mo)]
  cases mo ρ T with
  | none => rfl
  | some o =>
    show (mi (shR S.length ρ) (S ++ o.2)).bind _ = Option.map _ ((mi ρ o.2).bind _)
    rw [FrM.fr (m := mi)]
    cases mi ρ o.2 with
    | none => rfl
    | some v =>
      obtain ⟨o, T1⟩ := o
      obtain ⟨v, T2⟩ := v
      cases o with
      | f _ => first | rfl | exact h | (cases e; done) | (cases e1; done) | (cases e2; done) | (cases e3; done) | (cases e4; done) | (cases e5; done) | (cases e6; done) | (cases h; done) | (cases h1; done) | (cases h2; done) | (cases h3; done) | (cases b; done) | (cases q; done) | exact h.elim | exact g.elim | exact r.elim | exact r.1.elim | exact r1.elim | exact r2.elim | exact z.elim | exact h1.elim | contradiction | (cases y <;> rfl) | (cases x <;> rfl) | (cases q <;> rfl) | (cases a <;> rfl) | exact L _ _ | exact L _ | (simp_all; done)
      | c _ => rfl
      | d x =>
        cases v with
        | f _ => first | rfl | exact h | (cases e; done) | (cases e1; done) | (cases e2; done) | (cases e3; done) | (cases e4; done) | (cases e5; done) | (cases e6; done) | (cases h; done) | (cases h1; done) | (cases h2; done) | (cases h3; done) | (cases b; done) | (cases q; done) | exact h.elim | exact g.elim | exact r.elim | exact r.1.elim | exact r1.elim | exact r2.elim | exact z.elim | exact h1.elim | contradiction | (cases y <;> rfl) | (cases x <;> rfl) | (cases q <;> rfl) | (cases a <;> rfl) | exact L _ _ | exact L _ | (simp_all; done)
        | c _ => cases x <;> rfl
        | d y =>
          cases x <;> cases y <;> try rfl
          rename_i xs k
          show (intsOf xs).bind _ = Option.map _ ((intsOf xs).bind _)
          cases intsOf xs <;> rfl⟩
instance (m : M) [FrM m] : FrL (mSrt m) := ⟨fun ρ S T => by
  unfold mSrt
  rw [FrM.fr (m := m)]
  cases m ρ T with
  | none => rfl
  | some o =>
    obtain ⟨o, T1⟩ := o
    cases o with
    | f _ => first | rfl | exact h | (cases e; done) | (cases e1; done) | (cases e2; done) | (cases e3; done) | (cases e4; done) | (cases e5; done) | (cases e6; done) | (cases h; done) | (cases h1; done) | (cases h2; done) | (cases h3; done) | (cases b; done) | (cases q; done) | exact h.elim | exact g.elim | exact r.elim | exact r.1.elim | exact r1.elim | exact r2.elim | exact z.elim | exact h1.elim | contradiction | (cases y <;> rfl) | (cases x <;> rfl) | (cases q <;> rfl) | (cases a <;> rfl) | exact L _ _ | exact L _ | (simp_all; done)
    | c _ => rfl
    | d x =>
      cases x <;> try rfl
      rename_i xs
      show (intsOf xs).bind _ = Option.map _ ((intsOf xs).bind _)
      cases intsOf xs with
      | none => rfl
      | some ns =>
        dsimp
        split <;> rfl⟩
instance (ma : MA) [FrA ma] : FrL (mEnum ma) := ⟨fun ρ S T => by
  unfold mEnum
  rw [FrA.fr (m := ma)]
  cases ma ρ T with
  | none => rfl
  | some p =>
    obtain ⟨vs, T1⟩ := p
    match vs with
    | [] => rfl
    | [.f _] => rfl
    | [.c _] => rfl
    | [.d x] => cases x <;> rfl
    | a :: b :: r => cases a with
      | f _ => first | rfl | exact h | (cases e; done) | (cases e1; done) | (cases e2; done) | (cases e3; done) | (cases e4; done) | (cases e5; done) | (cases e6; done) | (cases h; done) | (cases h1; done) | (cases h2; done) | (cases h3; done) | (cases b; done) | (cases q; done) | exact h.elim | exact g.elim | exact r.elim | exact r.1.elim | exact r1.elim | exact r2.elim | exact z.elim | exact h1.elim | contradiction | (cases y <;> rfl) | (cases x <;> rfl) | (cases q <;> rfl) | (cases a <;> rfl) | exact L _ _ | exact L _ | (simp_all; done)
      | c _ => rfl
      | d x => cases x <;> rfl⟩
end DL

/-! a run over what is known of the values -/
namespace DN
open PySem PySem.Spec PyProof.Rows L2 DL
inductive All2 {α β : Type} (R : α → β → Prop) : List α → List β → Prop
  | nil : All2 R [] []
  | cons {a b l m} : R a b → All2 R l m → All2 R (a :: l) (b :: m)
section
variable {α β : Type} {R : α → β → Prop}
theorem All2.len : ∀ {l : List α} {m : List β}, All2 R l m → l.length = m.length
  | _, _, .nil => rfl
  | _, _, .cons _ t => by rw [List.length_cons, List.length_cons, t.len]
theorem All2.get : ∀ {l : List α} {m : List β} {i : Nat} {a : α}, All2 R l m → l[i]? = some a → ∃ b, m[i]? = some b ∧ R a b
  | _, _, i, a, .nil, h => by simp at h
  | _, _, 0, a, .cons r _, h => by
    simp at h
    subst h
    exact ⟨_, rfl, r⟩
  | _, _, i + 1, a, .cons _ t, h => by
    obtain ⟨b, e, q⟩ := All2.get (i := i) (a := a) t (by simpa using h)
    exact ⟨b, by simpa using e, q⟩
theorem All2.set {a : α} {b : β} (r : R a b) : ∀ {l : List α} {m : List β} (i : Nat), All2 R l m → All2 R (l.set i a) (m.set i b)
  | _, _, _, .nil => .nil
  | _, _, 0, .cons _ t => .cons r t
  | _, _, i + 1, .cons q t => .cons q (All2.set r i t)
theorem All2.app : ∀ {l l' : List α} {m m' : List β}, All2 R l m → All2 R l' m' → All2 R (l ++ l') (m ++ m')
  | _, _, _, _, .nil, h => h
  | _, _, _, _, .cons r t, h => .cons r (All2.app t h)
theorem All2.take : ∀ {l : List α} {m : List β} (n : Nat), All2 R l m → All2 R (l.take n) (m.take n)
  | _, _, 0, _ => .nil
  | _, _, _ + 1, .nil => .nil
  | _, _, n + 1, .cons r t => .cons r (All2.take n t)
theorem All2.imp {R' : α → β → Prop} (f : ∀ a b, R a b → R' a b) : ∀ {l : List α} {m : List β}, All2 R l m → All2 R' l m
  | _, _, .nil => .nil
  | _, _, .cons r t => .cons (f _ _ r) (All2.imp f t)
theorem All2.mem : ∀ {l : List α} {m : List β} {b : β}, All2 R l m → b ∈ m → ∃ a ∈ l, R a b
  | _, _, b, .cons r t, h => by
    rcases List.mem_cons.mp h with rfl | h
    · exact ⟨_, List.mem_cons_self, r⟩
    · obtain ⟨a, ha, q⟩ := All2.mem t h
      exact ⟨a, List.mem_cons_of_mem _ ha, q⟩
end
/-! ### what is known of a datum -/
/-- a row of whole numbers that falls, from 1 to m, at most n of them -/
def Shp (n m : Nat) (d : PyData) : Prop := ∃ ps : List Int, d = .tuple (ps.map .int) ∧ ps.length ≤ n ∧ (∀ p ∈ ps, 1 ≤ p ∧ p ≤ m) ∧ ps.Pairwise (· ≥ ·)
inductive AV where
  | shp (n m : Nat)
  | ex (d : PyData)
  | int (lo hi : Int)
  | bool
  | tup (vs : List AV)
  | lst (vs : List AV)
  | tups (n : Nat) (v : AV)
  | lsts (n : Nat) (v : AV)
  | okk (n L : Nat)
  | one (ds : List PyData)
  | sat (P : PyData → Prop)
  | rep (d : PyData)
  | top
mutual
def γ : AV → PyData → Prop
  | .shp n m, x => Shp n m x
  | .ex d, x => x = d
  | .int lo hi, x => ∃ i, x = .int i ∧ lo ≤ i ∧ i ≤ hi
  | .bool, x => ∃ b, x = .bool b
  | .tup vs, x => ∃ xs, x = .tuple xs ∧ γs vs xs
  | .lst vs, x => ∃ xs, x = .list xs ∧ γs vs xs
  | .tups n v, x => ∃ xs, x = .tuple xs ∧ xs.length ≤ n ∧ ∀ y ∈ xs, γ v y
  | .lsts n v, x => ∃ xs, x = .list xs ∧ xs.length ≤ n ∧ ∀ y ∈ xs, γ v y
  | .okk n L, x => Okk n L x
  | .one ds, x => x ∈ ds
  | .sat P, x => P x
  | .rep d, x => x = .str d.shown ∧ PyData.strOk d.shown = true
  | .top, _ => True
def γs : List AV → List PyData → Prop
  | [], [] => True
  | v :: vs, x :: xs => γ v x ∧ γs vs xs
  | [], _ :: _ => False
  | _ :: _, [] => False
end
/-- a list's items: each one, or how many at most and of which kind -/
inductive Sq where
  | exs (vs : List AV)
  | sum (n : Nat) (v : AV)
def γq : Sq → List PyData → Prop
  | .exs vs, xs => All2 γ vs xs
  | .sum n v, xs => xs.length ≤ n ∧ ∀ y ∈ xs, γ v y
/-! equal data -/
mutual
def sameD : PyData → PyData → Bool
  | .none, .none => true
  | .bool a, .bool b => a == b
  | .int i, .int j => i == j
  | .str x, .str y => x == y
  | .list xs, .list ys => sameDs xs ys
  | .tuple xs, .tuple ys => sameDs xs ys
  | _, _ => false
def sameDs : List PyData → List PyData → Bool
  | [], [] => true
  | x :: xs, y :: ys => sameD x y && sameDs xs ys
  | _, _ => false
end
mutual
theorem sameD_eq : ∀ {a b : PyData}, sameD a b = true → a = b
  | .none, .none, _ => rfl
  | .bool a, .bool b, h => by rw [show a = b from beq_iff_eq.mp h]
  | .int a, .int b, h => by rw [show a = b from beq_iff_eq.mp h]
  | .str a, .str b, h => by rw [show a = b from beq_iff_eq.mp h]
  | .list xs, .list ys, h => by rw [sameDs_eq (show sameDs xs ys = true from h)]
  | .tuple xs, .tuple ys, h => by rw [sameDs_eq (show sameDs xs ys = true from h)]
  | .none, .bool _, h | .none, .int _, h | .none, .str _, h | .none, .list _, h | .none, .tuple _, h | .none, .dict _, h => by simp [sameD] at h
  | .bool _, .none, h | .bool _, .int _, h | .bool _, .str _, h | .bool _, .list _, h | .bool _, .tuple _, h | .bool _, .dict _, h => by simp [sameD] at h
  | .int _, .none, h | .int _, .bool _, h | .int _, .str _, h | .int _, .list _, h | .int _, .tuple _, h | .int _, .dict _, h => by simp [sameD] at h
  | .str _, .none, h | .str _, .bool _, h | .str _, .int _, h | .str _, .list _, h | .str _, .tuple _, h | .str _, .dict _, h => by simp [sameD] at h
  | .list _, .none, h | .list _, .bool _, h | .list _, .int _, h | .list _, .str _, h | .list _, .tuple _, h | .list _, .dict _, h => by simp [sameD] at h
  | .tuple _, .none, h | .tuple _, .bool _, h | .tuple _, .int _, h | .tuple _, .str _, h | .tuple _, .list _, h | .tuple _, .dict _, h => by simp [sameD] at h
  | .dict _, _, h => by simp [sameD] at h
theorem sameDs_eq : ∀ {xs ys : List PyData}, sameDs xs ys = true → xs = ys
  | [], [], _ => rfl
  | x :: xs, y :: ys, h => by
    have h2 : (sameD x y && sameDs xs ys) = true := h
    rw [Bool.and_eq_true] at h2
    rw [sameD_eq h2.1, sameDs_eq h2.2]
  | [], _ :: _, h => by simp [sameDs] at h
  | _ :: _, [], h => by simp [sameDs] at h
end
/-! ### views -/
def asInt : AV → Option (Int × Int)
  | .ex (.int i) => some (i, i)
  | .int lo hi => some (lo, hi)
  | _ => none
def asBool : AV → Bool
  | .ex (.bool _) => true
  | .bool => true
  | _ => false
def tupOf : AV → Option Sq
  | .ex (.tuple xs) => some (.exs (xs.map .ex))
  | .tup vs => some (.exs vs)
  | .tups n v => some (.sum n v)
  | .shp n m => some (.sum n (.int 1 m))
  | _ => none
def lstOf : AV → Option Sq
  | .ex (.list xs) => some (.exs (xs.map .ex))
  | .lst vs => some (.exs vs)
  | .lsts n v => some (.sum n v)
  | _ => none
theorem all_ex : ∀ xs : List PyData, All2 γ (xs.map .ex) xs
  | [] => .nil
  | x :: xs => .cons rfl (all_ex xs)
def exOf : List AV → Option (List PyData)
  | [] => some []
  | .ex d :: r => (exOf r).map (d :: ·)
  | _ :: _ => none
def mkTup : Sq → AV
  | .exs vs => match exOf vs with
    | some ds => .ex (.tuple ds)
    | none => .tup vs
  | .sum n v => .tups n v
def mkLst : Sq → AV
  | .exs vs => match exOf vs with
    | some ds => .ex (.list ds)
    | none => .lst vs
  | .sum n v => .lsts n v
/-! ### what can be shown -/
def okD (d : PyData) : Bool := d.showable && !d.hasDict && PyData.strOk d.shown && d.canLay0
def small (i : Int) : Bool := decide (i.natAbs < 2 ^ 1920)
def small64 (i : Int) : Bool := decide (i.natAbs < 2 ^ 64)
theorem shownInt64 {i : Int} (h : i.natAbs.log2 < 64) : (PyData.shown (.int i)).length ≤ 65 := by
  have e := int_text_length_le (k := 64) (by decide) h
  show (Str.ofString (toString i)).length ≤ 65
  rw [PySem.ofString_length]
  exact e
theorem okk_int64 {i : Int} (h : i.natAbs < 2 ^ 64) : Okk 0 65 (.int i) := by
  have h2 : i.natAbs < 2 ^ 1920 := Nat.lt_of_lt_of_le h (Nat.pow_le_pow_right (by decide) (by decide))
  have o := okk_int h2
  exact ⟨o.sh, o.nd, o.dp, shownInt64 (log2_of (by decide) h), o.ok, o.ly⟩
mutual
def okkD : PyData → Option (Nat × Nat)
  | .none => some (0, 4)
  | .bool _ => some (0, 5)
  | .int i => if small64 i = true then some (0, 65) else if small i = true then some (0, 1921) else none
  | .str x => if okD (.str x) = true then some (0, (PyData.shown (.str x)).length) else none
  | .list xs => (okkDs xs).map fun p => (p.1 + 1, p.2 * xs.length + 2 * xs.length + 3)
  | .tuple xs => (okkDs xs).map fun p => (p.1 + 1, p.2 * xs.length + 2 * xs.length + 3)
  | .dict _ => none
def okkDs : List PyData → Option (Nat × Nat)
  | [] => some (0, 0)
  | x :: xs => (okkD x).bind fun p => (okkDs xs).map fun q => (max p.1 q.1, max p.2 q.2)
end
mutual
def okkOf : AV → Option (Nat × Nat)
  | .ex d => okkD d
  | .int lo hi => if small lo && small hi then some (0, 1921) else none
  | .bool => some (0, 5)
  | .tup vs => (okkAll vs).map fun p => (p.1 + 1, p.2 * vs.length + 2 * vs.length + 3)
  | .lst vs => (okkAll vs).map fun p => (p.1 + 1, p.2 * vs.length + 2 * vs.length + 3)
  | .tups n v => (okkOf v).map fun p => (p.1 + 1, p.2 * n + 2 * n + 3)
  | .lsts n v => (okkOf v).map fun p => (p.1 + 1, p.2 * n + 2 * n + 3)
  | .okk n L => some (n, L)
  | .shp n m => if small m then some (1, 1921 * n + 2 * n + 3) else none
  | .one _ => none
  | .sat _ => none
  | .rep _ => none
  | .top => none
def okkAll : List AV → Option (Nat × Nat)
  | [] => some (0, 0)
  | v :: vs => (okkOf v).bind fun p => (okkAll vs).map fun q => (max p.1 q.1, max p.2 q.2)
end
end DN

namespace DN
open PySem PySem.Spec PyProof.Rows L2 DL
/-! ### joins -/
def joinFlat (a b : AV) : AV := match okkOf a, okkOf b with
  | some p, some q => .okk (max p.1 q.1) (max p.2 q.2)
  | _, _ => .top
def joinAll (j : AV → AV → AV) : List AV → AV
  | [] => .top
  | [v] => v
  | v :: r => j v (joinAll j r)
def sumOf (j : AV → AV → AV) : Sq → Nat × AV
  | .exs vs => (vs.length, joinAll j vs)
  | .sum n v => (n, v)
def mix (j : AV → AV → AV) (n : Nat) (p q : Nat × AV) : Sq := if p.1 = 0 then .sum n q.2 else if q.1 = 0 then .sum n p.2 else .sum n (j p.2 q.2)
def joinQ (j : AV → AV → AV) (p q : Sq) : Sq := match p, q with
  | .exs vs, .exs ws => if vs.length = ws.length then .exs (List.zipWith j vs ws) else mix j (max vs.length ws.length) (sumOf j p) (sumOf j q)
  | p, q => mix j (max (sumOf j p).1 (sumOf j q).1) (sumOf j p) (sumOf j q)
def joinG (j : AV → AV → AV) (a b : AV) : AV := match asInt a, asInt b with
  | some p, some q => .int (min p.1 q.1) (max p.2 q.2)
  | _, _ => if (asBool a && asBool b) = true then .bool else match tupOf a, tupOf b with
    | some p, some q => mkTup (joinQ j p q)
    | _, _ => match lstOf a, lstOf b with
      | some p, some q => mkLst (joinQ j p q)
      | _, _ => joinFlat a b
def joinN : Nat → AV → AV → AV
  | 0, a, b => joinFlat a b
  | n + 1, a, b => match a, b with
    | .ex x, .ex y => if sameD x y = true then .ex x else joinG (joinN n) a b
    | .shp p q, .shp r s => .shp (max p r) (max q s)
    | .one xs, .one ys => if sameDs xs ys = true then .one xs else .top
    | a, b => joinG (joinN n) a b
def join : AV → AV → AV := joinN 6
def Up (j : AV → AV → AV) : Prop := ∀ a b x, γ a x ∨ γ b x → γ (j a b) x
section
variable {j : AV → AV → AV} (hj : Up j)
include hj
end
/-! ### states -/
inductive APV where
  | d (v : AV)
  | c (i : Nat)
abbrev AEnv := List (Option APV)
inductive ACell where
  | feed (k : Nat)
  | q (s : Sq)
abbrev ASto := List ACell
/-- what a feed is after so many draws -/
class Feed where
  P : Nat → List PyData → Prop
  mono : ∀ {k l c}, P k c → k ≤ l → P l c
section
variable [Feed]
def RV : APV → PV → Prop
  | .d v, .d x => γ v x
  | .c i, .c j => i = j
  | _, _ => False
def RO : Option APV → Option PV → Prop
  | none, _ => True
  | some a, some b => RV a b
  | some _, none => False
def RC : ACell → Cell → Prop
  | .feed k, .l l => Feed.P k l
  | .q s, .l l => γq s l
  | _, _ => False
abbrev REn : AEnv → RE → Prop := All2 RO
abbrev RSt : ASto → Sto → Prop := All2 RC
theorem stF {T : ASto} {S : Sto} {j k : Nat} (hT : RSt T S) (h : T[j]? = some (.feed k)) : ∃ ds, S[j]? = some (.l ds) ∧ Feed.P k ds := by
  obtain ⟨c, e, r⟩ := hT.get h
  cases c with
  | l ds => exact ⟨ds, e, r⟩
  | d kvs => exact r.elim
  | k kvs => exact r.elim
  | r _ => exact r.elim
  | n _ => exact r.elim
  | s _ _ => exact r.elim
def joinC : ACell → ACell → Option ACell
  | .feed k, .feed l => some (.feed (max k l))
  | .q p, .q s => some (.q (joinQ join p s))
  | _, _ => none
def joinS : ASto → ASto → Option ASto
  | [], [] => some []
  | a :: r, b :: s => (joinC a b).bind fun c => (joinS r s).map (c :: ·)
  | _, _ => none
end
end DN

namespace DN
open PySem PySem.Spec PyProof.Rows L2 DL
/-! ### many outcomes -/
section
variable [Feed]
/-! ### names, constants, arguments -/
/-! ### data of values -/
/-! ### operators -/
/-! ### functions -/
/-! ### tests -/
end
end DN

namespace DN
open PySem PySem.Spec PyProof.Rows L2 DL
section
variable [Feed]
/-! ### statements -/
inductive AOut where
  | nx (A : AEnv) (T : ASto)
  | bk (A : AEnv) (T : ASto)
  | ct (A : AEnv) (T : ASto)
  | rt (v : APV) (T : ASto)
  | rl (q : Sq) (T : ASto)
def ROut : AOut → Out → Prop
  | .nx A T, .nx ρ S => REn A ρ ∧ RSt T S
  | .bk A T, .bk ρ S => REn A ρ ∧ RSt T S
  | .ct A T, .ct ρ S => REn A ρ ∧ RSt T S
  | .rt v T, .rt x S => RV v x ∧ RSt T S
  | .rl q T, .rl ds S => γq q ds ∧ RSt T S
  | _, _ => False
structure SS where
  m : MS
  a : AEnv → ASto → Option (List AOut)
  ok : ∀ {A T l}, a A T = some l → ∀ {ρ S}, REn A ρ → RSt T S → ∃ o ∈ l, ∃ out, m ρ S = some out ∧ ROut o out
/-! dead slots forgotten -/
/-! ### targets -/
structure SG where
  m : TgD
  a : AV → AEnv → Option AEnv
  ok : ∀ {v A B}, a v A = some B → ∀ {d ρ}, γ v d → REn A ρ → ∃ ρ', m d ρ = some ρ' ∧ REn B ρ'
end
end DN

namespace DN
open PySem PySem.Spec PyProof.Rows L2 DL
/-! ### a loop as steps over outcomes: ct, it runs; else it has ended -/
section
variable [Feed]
def convA : AOut → AOut
  | .nx A T => .ct A T
  | .ct A T => .ct A T
  | .bk A T => .nx A T
  | o => o
def stepA (tg : SG) (b : SS) (v : AV) : AOut → Option (List AOut)
  | .ct A T => (tg.a v A).bind fun B => (b.a B T).map fun l => l.map convA
  | o => some [o]
/-! ### what is walked -/
/-! ### functions from bodies -/
end
end DN

namespace DN
open PySem PySem.Spec PyProof.Rows L2 DL
/-! ### operators over data -/
/-- of two ints -/
def tI (h : Int × Int → Int × Int → Option AV) (a b : AV) : Option AV := match asInt a, asInt b with
  | some p, some q => h p q
  | _, _ => none
end DN

namespace DN
open PySem PySem.Spec PyProof.Rows L2 DL
/-! ### calls -/
section
variable [Feed]
/-! ### slices -/
theorem cut_mem {α : Type} {xs : List α} {lo hi : Option Int} {y : α} (h : y ∈ cut xs lo hi) : y ∈ xs := List.mem_of_mem_drop (List.mem_of_mem_take h)
theorem cut_len {α : Type} (xs : List α) (lo hi : Option Int) : (cut xs lo hi).length ≤ xs.length := by
  unfold cut
  rw [List.length_take, List.length_drop]
  omega
/-! ### list comprehensions -/
def addS (o : ASto) : List ASto → List ASto
  | [] => [o]
  | p :: r => match joinS p o with
    | some c => c :: r
    | none => p :: addS o r
end
/-! ### the feed, its first kind -/
instance feed1 : Feed where
  P := fun k c => ∃ (ms : List Int) (i q j : Int), ms ≠ [] ∧ c = feedC ms i q j ∧ 0 ≤ i ∧ 0 ≤ j ∧ j ≤ k
  mono := fun {k l c} ⟨ms, i, q, j, a, b, d, e, f⟩ h => ⟨ms, i, q, j, a, b, d, e, by omega⟩
/-- a law that begins with its feed -/
def isTrue : AOut → Bool
  | .rt (.d (.ex (.bool true))) _ => true
  | _ => false
end DN

namespace DN
open PySem PySem.Spec PyProof.Rows L2 DL
def told (r : Option (List AOut)) : Bool := match r with
  | some l => l.all isTrue
  | none => false
section
variable [Feed]
end
end DN

namespace DN
open PySem PySem.Spec PyProof.Rows L2 DL
/-! ### all over a generator expression; a comprehension that picks -/
/-! ### tuples that can be shown -/
theorem deep_mem : ∀ {xs : List PyData} {n : Nat}, PyData.depthAll xs ≤ n → ∀ x ∈ xs, x.depth ≤ n
  | [], _, _, _, h => nomatch h
  | x :: xs, n, h, y, hy => by
    have h2 : max x.depth (PyData.depthAll xs) ≤ n := h
    rcases List.mem_cons.mp hy with rfl | hy
    · omega
    · exact deep_mem (n := n) (by omega) y hy
theorem deep_all : ∀ {xs : List PyData} {n : Nat}, (∀ x ∈ xs, x.depth ≤ n) → PyData.depthAll xs ≤ n
  | [], _, _ => Nat.zero_le _
  | x :: xs, n, h => by
    show max x.depth (PyData.depthAll xs) ≤ n
    have := h x (by simp)
    have := deep_all (n := n) fun y hy => h y (List.mem_cons_of_mem (a := y) x hy)
    omega
theorem bOr_f {a b : MB} {ρ : RE} {S S1 : Sto} (h : a ρ S = some (false, S1)) : bOr a b ρ S = b ρ S1 := by
  unfold bOr
  rw [h]
  rfl
theorem mAnd_t {a b : M} {ρ : RE} {S S1 : Sto} (h : a ρ S = some (.d (.bool true), S1)) : mAnd a b ρ S = b ρ S1 := by
  unfold mAnd
  rw [h]
  rfl
/-! ### whole numbers, falling rows -/
theorem atI_get (xs : List PyData) {k : Int} (h0 : 0 ≤ k) (h1 : k < xs.length) : atI xs k = xs[k.toNat]? := by
  unfold atI ixN
  rw [if_pos h0, if_pos h1]
  rfl
end DN

namespace DN
open PySem PySem.Spec PyProof.Rows L2 DL
/-! ### rows of whole numbers, one within another -/
abbrev itp (ps : List Int) : PyData := .tuple (ps.map .int)
def over (k : Int) (ps : List Int) : List Int := ps.filter fun x => decide (x > k)
def leT : PyData → Bool
  | .tuple [.int a, .int b] => decide (a ≤ b)
  | _ => false
theorem map_at {ps : List Int} {i : Nat} {p : Int} (e : ps[i]? = some p) : atI (ps.map PyData.int) (i : Nat) = some (.int p) := by
  have hl := (List.getElem?_eq_some_iff.mp e).1
  rw [atI_get _ (by omega) (by rw [List.length_map]; omega), Int.toNat_natCast, List.getElem?_map, e]
  rfl
theorem fIx_row {ps : List Int} {i : Nat} {p : Int} (e : ps[i]? = some p) (S : Sto) : fIx (.d (itp ps)) (.d (.int (i : Nat))) S = some (.d (.int p)) := by
  show (atI (ps.map PyData.int) (i : Nat)).map _ = _
  rw [map_at e]
  rfl
/-! ### what a generator expression hands on, item by item -/
theorem isum_ones : ∀ n : Nat, isum (List.replicate n (.int 1)) = n
  | 0 => rfl
  | n + 1 => by
    show 1 + isum (List.replicate n (.int 1)) = _
    rw [isum_ones n]
    omega
/-! ### a feed in the store, and what lies behind it -/
def Fd (T : ASto) (j k : Nat) (S : Sto) : Prop := j < T.length ∧ RSt (T.set j (.feed k)) S
theorem Fd.of {T : ASto} {j k : Nat} {S : Sto} (h : T[j]? = some (.feed k)) (hs : RSt T S) : Fd T j k S := by
  obtain ⟨hl, e⟩ := List.getElem?_eq_some_iff.mp h
  refine ⟨hl, ?_⟩
  rw [← e, List.set_getElem_self]
  exact hs
theorem Fd.len {T : ASto} {j k : Nat} {S : Sto} (h : Fd T j k S) : S.length = T.length := by
  have := h.2.len
  rw [List.length_set] at this
  exact this.symm
theorem Fd.mono {T : ASto} {j k l : Nat} {S : Sto} (h : Fd T j k S) (hk : k ≤ l) : Fd T j l S := by
  refine ⟨h.1, ?_⟩
  have e : (T.set j (.feed k))[j]? = some (.feed k) := List.getElem?_set_self h.1
  obtain ⟨c, ec, g⟩ := stF h.2 e
  have z := All2.set (R := RC) (show RC (.feed l) (.l c) from Feed.mono g hk) j h.2
  rw [List.set_set] at z
  obtain ⟨hl, e2⟩ := List.getElem?_eq_some_iff.mp ec
  rw [← e2, List.set_getElem_self] at z
  exact z
theorem Fd.draw {T : ASto} {j k : Nat} {S : Sto} (E : Sto) {many : Int} (h : Fd T j k S) (hk : k ≤ 9999999) (hp : 0 < many) (hl : many ≤ 1000000) :
    ∃ r S', FDraw [.c j, .d (.int many)] (S ++ E) = some (.d (.int r), S' ++ E) ∧ 0 ≤ r ∧ r < many ∧ Fd T j (k + 1) S' := by
  have e : (T.set j (.feed k))[j]? = some (.feed k) := List.getElem?_set_self h.1
  obtain ⟨c, ec, ms, i, q, n, hm, rfl, h0, h1, h2⟩ := stF h.2 e
  have hj : j < S.length := (List.getElem?_eq_some_iff.mp ec).1
  obtain ⟨r, i', c', f, r0, r1, i0⟩ := draw_spec (S := S ++ E) (j := j) (many := many) (by rw [List.getElem?_append_left hj]; exact ec) hm h0 h1 (by omega) hp (log2_small (by omega) (by omega))
  refine ⟨r, S.set j (feedC ms i' c' (n + 1)), ?_, r0, r1, h.1, ?_⟩
  · rw [f, List.set_append_left _ _ hj]
  · have z := All2.set (R := RC) (show RC (.feed (k + 1)) (.l (feedC ms i' c' (n + 1))) from ⟨ms, i', c', n + 1, hm, rfl, i0, by omega, by omega⟩) j h.2
    rw [List.set_set] at z
    exact z
end DN

namespace DN
open PySem PySem.Spec PyProof.Rows L2 DL
/-! ### first sums, and what columns make of them -/
def pre (ps : List Int) (k : Nat) : Int := (ps.take k).sum
end DN

/-! the engine: pure defs run at known data; a drawn number gone through -/
namespace DN
open PySem PySem.Spec PyProof.Rows L2 DK DL
section
variable [Feed]
end
end DN

namespace DN
open PySem PySem.Spec PyProof.Rows L2 DK DL
section
variable [Feed]
end
end DN

/-! the engine: one of some data; while; any feed -/
namespace DN
open PySem PySem.Spec PyProof.Rows L2 DK DL
section
variable [Feed]
/-! ### a feed, whatever its kind -/
end
end DN

/-! the feed of k55 to k72 -/
namespace DN
open PySem PySem.Spec PyProof.Rows L2 DK DL
def feedB (ms : List Int) (i c : Int) : List PyData := [.list (ms.map .int), .int i, .int c]
theorem shaped_ints (ms : List Int) : SeqAt.shaped (.list (ms.map .int)) = true := by
  induction ms with
  | nil => rfl
  | cons m r ih => exact ih
theorem eqv_nilB (ms : List Int) : PyData.eqv (.list (ms.map .int)) (.list []) = ms.isEmpty := by cases ms <;> rfl
theorem bAnd_of {a b : MB} {ρ : RE} {S S1 S2 : Sto} {x y : Bool} (h1 : a ρ S = some (x, S1)) (h2 : b ρ S1 = some (y, S2)) (h3 : x = false → S1 = S2) : bAnd a b ρ S = some (x && y, S2) := by
  unfold bAnd
  rw [h1]
  cases x
  · rw [h3 rfl]; rfl
  · exact h2
instance feed2 : Feed where
  P := fun _ c => ∃ (ms : List Int) (i q : Int), c = feedB ms i q
  mono := fun h _ => h
end DN

namespace DL
open PySem PySem.Spec PyProof.Rows L2 DK
/-! the frame: extend, comprehensions over lists of our own -/
instance (mo : M) (ml : ML) [FrM mo] [FrL ml] : FrM (mExtend mo ml) := ⟨fun ρ S T => by
  unfold mExtend
  rw [FrM.fr (m := mo)]
  cases mo ρ T with
  | none => rfl
  | some o =>
    show (ml (shR S.length ρ) (S ++ o.2)).bind _ = Option.map _ ((ml ρ o.2).bind _)
    rw [FrL.fr (m := ml)]
    cases ml ρ o.2 with
    | none => rfl
    | some v =>
      obtain ⟨o, T1⟩ := o
      obtain ⟨v, T2⟩ := v
      cases o with
      | d _ => rfl
      | f _ => first | rfl | exact h | (cases e; done) | (cases e1; done) | (cases e2; done) | (cases e3; done) | (cases e4; done) | (cases e5; done) | (cases e6; done) | (cases h; done) | (cases h1; done) | (cases h2; done) | (cases h3; done) | (cases b; done) | (cases q; done) | exact h.elim | exact g.elim | exact r.elim | exact r.1.elim | exact r1.elim | exact r2.elim | exact z.elim | exact h1.elim | contradiction | (cases y <;> rfl) | (cases x <;> rfl) | (cases q <;> rfl) | (cases a <;> rfl) | exact L _ _ | exact L _ | (simp_all; done)
      | c j =>
        show (if (lAt (S ++ T1) (S.length + j)).isSome = true then (lAt (S ++ T2) (S.length + j)).bind _ else none) = Option.map _ (if (lAt T1 j).isSome = true then (lAt T2 j).bind _ else none)
        rw [lAt_sh, lAt_sh]
        cases (lAt T1 j).isSome with
        | false => rfl
        | true =>
          rw [if_pos rfl, if_pos rfl]
          cases lAt T2 j with
          | none => rfl
          | some ds =>
            dsimp
            split
            · rw [sto_set]; rfl
            · rfl⟩
theorem lcGoC_sh {tgt : TgD} {tt : MB} {te : M} [FrT tgt] [FrB tt] [FrM te] (S : Sto) (n j : Nat) (ρ : RE) : ∀ (f i : Nat) (T : Sto),
    lcGoC (S.length + n) (S.length + j) tgt tt te (shR S.length ρ) f i (S ++ T) = (lcGoC n j tgt tt te ρ f i T).map (S ++ ·)
  | 0, i, T => rfl
  | f + 1, i, T => by
    unfold lcGoC
    rw [lAt_sh]
    cases lAt T j with
    | none => rfl
    | some l =>
      show (match l[i]? with | none => _ | some x => _) = Option.map _ (match l[i]? with | none => _ | some x => _)
      cases l[i]? with
      | none => rfl
      | some x =>
        show (tgt x (shR S.length ρ)).bind _ = Option.map _ ((tgt x ρ).bind _)
        rw [FrT.fr (t := tgt)]
        cases tgt x ρ with
        | none => rfl
        | some ρ1 =>
          show (tt (shR S.length ρ1) (S ++ T)).bind _ = Option.map _ ((tt ρ1 T).bind _)
          rw [FrB.fr (m := tt)]
          cases tt ρ1 T with
          | none => rfl
          | some b =>
            obtain ⟨b, T1⟩ := b
            cases b with
            | false => exact lcGoC_sh S n j ρ f (i + 1) T1
            | true =>
              show (te (shR S.length ρ1) (S ++ T1)).bind _ = Option.map _ ((te ρ1 T1).bind _)
              rw [FrM.fr (m := te)]
              cases te ρ1 T1 with
              | none => rfl
              | some v =>
                obtain ⟨v, T2⟩ := v
                cases v with
                | f _ => first | rfl | exact h | (cases e; done) | (cases e1; done) | (cases e2; done) | (cases e3; done) | (cases e4; done) | (cases e5; done) | (cases e6; done) | (cases h; done) | (cases h1; done) | (cases h2; done) | (cases h3; done) | (cases b; done) | (cases q; done) | exact h.elim | exact g.elim | exact r.elim | exact r.1.elim | exact r1.elim | exact r2.elim | exact z.elim | exact h1.elim | contradiction | (cases y <;> rfl) | (cases x <;> rfl) | (cases q <;> rfl) | (cases a <;> rfl) | exact L _ _ | exact L _ | (simp_all; done)
                | c i => rfl
                | d y =>
                  show (pushAt (S.length + n) y (S ++ T2)).bind _ = Option.map _ ((pushAt n y T2).bind _)
                  rw [push_sh]
                  cases pushAt n y T2 with
                  | none => rfl
                  | some T3 => exact lcGoC_sh S n j ρ f (i + 1) T3
instance (m : M) (vs : List Nat) (tgt : TgD) (tt : MB) (te : M) [FrM m] [FrT tgt] [FrB tt] [FrM te] : FrL (mLcC m vs tgt tt te) := ⟨fun ρ S T => by
  unfold mLcC
  rw [FrM.fr (m := m)]
  cases m ρ T with
  | none => rfl
  | some p =>
    obtain ⟨v, T1⟩ := p
    cases v with
    | d _ => rfl
    | f _ => first | rfl | exact h | (cases e; done) | (cases e1; done) | (cases e2; done) | (cases e3; done) | (cases e4; done) | (cases e5; done) | (cases e6; done) | (cases h; done) | (cases h1; done) | (cases h2; done) | (cases h3; done) | (cases b; done) | (cases q; done) | exact h.elim | exact g.elim | exact r.elim | exact r.1.elim | exact r1.elim | exact r2.elim | exact z.elim | exact h1.elim | contradiction | (cases y <;> rfl) | (cases x <;> rfl) | (cases q <;> rfl) | (cases a <;> rfl) | exact L _ _ | exact L _ | (simp_all; done)
    | c j =>
      show (lAt (S ++ T1) (S.length + j)).bind _ = Option.map _ ((lAt T1 j).bind _)
      rw [lAt_sh]
      cases lAt T1 j with
      | none => rfl
      | some l =>
        show (lcGoC (S ++ T1).length (S.length + j) tgt tt te (wipeR (shR S.length ρ) vs) (l.length + 1) 0 ((S ++ T1) ++ [.l []])).bind _ = Option.map _ ((lcGoC T1.length j tgt tt te (wipeR ρ vs) (l.length + 1) 0 (T1 ++ [.l []])).bind _)
        rw [len_sh, app_sh, sh_wipe, lcGoC_sh]
        cases lcGoC T1.length j tgt tt te (wipeR ρ vs) (l.length + 1) 0 (T1 ++ [.l []]) with
        | none => rfl
        | some T2 =>
          show (lAt (S ++ T2) (S.length + T1.length)).bind _ = Option.map _ ((lAt T2 T1.length).bind _)
          rw [lAt_sh]
          cases lAt T2 T1.length with
          | none => rfl
          | some ds =>
            show some (ds, (S ++ T2).take (S.length + T1.length)) = _
            rw [take_sh]
            rfl⟩
end DL

namespace DL
open PySem PySem.Spec PyProof.Rows L2 DK
variable [Nms] [Tabs]
section
variable {X : Cx} {tg iter elt : Expr} {ifs : List Expr} {scope : Scope} {pos : Pos} {own : List (Str × Nat)} {vs is : List Nat} {tgt : TgD} {tt : MB} {te : M}
end
end DL

set_option maxHeartbeats 4000000
/-! sorted of rows of whole numbers, of any lengths, any number of them -/
namespace DP
open PySem PySem.W PySem.Calls PyProof.Rows Builtin
section
variable {prog : Program} {w : World} {A : Around} {E : Value → Shared → Prop} {s : Shared}
/-! the kind that a sort finds -/
def first? (h : Heap) (v : Value) : Option Value := match v with
  | .ref a => match h.get? a with
    | some o => match o.data with
      | .seq xs _ => xs[0]?
      | _ => none
    | none => none
  | _ => none
end
end DP

namespace DL
open PySem PySem.Spec PyProof.Rows L2 DK
/-! ### rows by their order -/
def leR (x y : List Int) : Prop := HT.lexLt y x = false
theorem leR_anti : ∀ {x y : List Int}, leR x y → leR y x → x = y
  | [], [], _, _ => rfl
  | [], _ :: _, _, h => by unfold leR at h; rw [HT.lexLt_nil_cons] at h; cases h
  | _ :: _, [], h, _ => by unfold leR at h; rw [HT.lexLt_nil_cons] at h; cases h
  | a :: x, b :: y, h1, h2 => by
    unfold leR at h1 h2
    rw [HT.lexLt_cons] at h1 h2
    by_cases e : a = b
    · subst e
      rw [if_pos rfl] at h1 h2
      rw [leR_anti h1 h2]
    · rw [if_neg (Ne.symm e)] at h1
      rw [if_neg e] at h2
      have := of_decide_eq_false h1
      have := of_decide_eq_false h2
      omega
theorem leR_trans {x y z : List Int} (h1 : leR x y) (h2 : leR y z) : leR x z := NtL.lex_tr _ _ _ h1 h2
def insR (k : List Int) : List (List Int) → List (List Int)
  | [] => [k]
  | x :: r => if HT.lexLt x k = true then x :: insR k r else k :: x :: r
def sortR : List (List Int) → List (List Int)
  | [] => []
  | k :: r => insR k (sortR r)
theorem insR_perm (k : List Int) : ∀ l, (insR k l).Perm (k :: l)
  | [] => .refl _
  | x :: r => by
    unfold insR
    split
    · exact ((insR_perm k r).cons x).trans (.swap k x r)
    · exact .refl _
theorem insR_up (k : List Int) : ∀ {l : List (List Int)}, l.Pairwise leR → (insR k l).Pairwise leR
  | [], _ => by simp [insR]
  | x :: r, h => by
    obtain ⟨h1, h2⟩ := List.pairwise_cons.mp h
    unfold insR
    split
    · rename_i hk
      refine List.pairwise_cons.mpr ⟨fun y hy => ?_, insR_up k h2⟩
      rcases List.mem_cons.mp ((insR_perm k r).mem_iff.mp hy) with rfl | hy
      · exact NtL.lex_asym _ _ hk
      · exact h1 y hy
    · rename_i hk
      have hk' : leR k x := by
        unfold leR
        cases q : HT.lexLt x k with
        | false => rfl
        | true => exact absurd q hk
      refine List.pairwise_cons.mpr ⟨fun y hy => ?_, h⟩
      rcases List.mem_cons.mp hy with rfl | hy
      · exact hk'
      · exact leR_trans hk' (h1 y hy)
theorem sortR_perm : ∀ l, (sortR l).Perm l
  | [] => .refl _
  | k :: r => (insR_perm k (sortR r)).trans ((sortR_perm r).cons k)
theorem sortR_up : ∀ l, (sortR l).Pairwise leR
  | [] => .nil
  | k :: r => insR_up k (sortR_up r)
/-! ### sorted(rows) -/
section
variable {X : Cx}
end
variable [Nms] [Tabs]
def rowsOf : List PyData → Option (List (List Int))
  | [] => some []
  | .tuple xs :: r => (intsOf xs).bind fun ns => (rowsOf r).map (ns :: ·)
  | _ :: _ => none
abbrev itR (ps : List Int) : PyData := .tuple (ps.map .int)
theorem rowsOf_some : ∀ {ds : List PyData} {rs : List (List Int)}, rowsOf ds = some rs → ds = rs.map itR
  | [], rs, h => by cases h; rfl
  | d :: r, rs, h => by
    cases d with
    | tuple xs =>
      obtain ⟨ns, e1, e2⟩ := Option.bind_eq_some_iff.mp h
      obtain ⟨l, e3, e4⟩ := Option.map_eq_some_iff.mp e2
      subst e4
      rw [rowsOf_some e3, intsOf_some e1]
      rfl
    | _ => cases h
theorem rows_dp {K : Fg} {H : Hp} : ∀ {vs : List V} {rs : List (List Int)}, DpAll K H vs (rs.map itR) → Paired (fun x ns => TupI K H x ns) vs rs
  | _, [], h => by cases h; exact .nil
  | _, r :: rs, h => by
    cases h with
    | cons a b =>
      cases a with
      | tup s a =>
        rw [dpAll_ints_inv a] at s
        exact .cons ⟨_, rfl, s⟩ (rows_dp b)
theorem dp_rows {K : Fg} {H : Hp} : ∀ {vs : List V} {rs : List (List Int)}, Paired (fun x ns => TupI K H x ns) vs rs → DpAll K H vs (rs.map itR)
  | _, _, .nil => .nil
  | _, _, .cons ⟨t, e, s⟩ r => by
    rw [e, List.map_cons]
    exact .cons (.tup s (dpAll_ints _)) (dp_rows r)
def mSortR (m : M) : ML := fun ρ S => (m ρ S).bind fun p => (asD p.2 p.1).bind fun d => match d with
  | .list xs => (rowsOf xs).bind fun rs => some ((sortR rs).map itR, p.2)
  | _ => none
section
variable {X : Cx} {e : Expr} {m : M} {p pos : Pos} {k : Nat}
end
end DL

namespace DL
open PySem PySem.Spec PyProof.Rows L2 DK
instance (m : M) [FrM m] : FrL (mSortR m) := ⟨fun ρ S T => by
  unfold mSortR
  rw [FrM.fr (m := m)]
  cases m ρ T with
  | none => rfl
  | some p =>
    obtain ⟨v, T1⟩ := p
    show (asD (S ++ T1) (shV S.length v)).bind _ = Option.map _ ((asD T1 v).bind _)
    rw [sh_asD]
    cases asD T1 v with
    | none => rfl
    | some d =>
      cases d with
      | list xs =>
        show (rowsOf xs).bind _ = Option.map _ ((rowsOf xs).bind _)
        cases rowsOf xs <;> rfl
      | _ => rfl⟩
end DL
namespace DN
open PySem PySem.Spec PyProof.Rows L2 DK DL
section
variable [Feed]
end
end DN
namespace DN
open PySem PySem.Spec PyProof.Rows L2 DK DL
end DN
namespace DL
open PySem PySem.Spec PyProof.Rows L2 DK
instance (ma : MA) [FrA ma] : FrL (mZip ma) := ⟨fun ρ S T => by
  unfold mZip
  rw [FrA.fr (m := ma)]
  cases ma ρ T with
  | none => rfl
  | some p =>
    obtain ⟨vs, T1⟩ := p
    match vs with
    | [] => rfl
    | [.f _] => rfl
    | [.c _] => rfl
    | [.d x] => cases x <;> rfl
    | [.f _, _] => rfl
    | [.c _, _] => rfl
    | [.d x, .f _] => cases x <;> rfl
    | [.d x, .c _] => cases x <;> rfl
    | [.d x, .d y] => cases x <;> cases y <;> rfl
    | a :: b :: c :: r => cases a with
      | f _ => first | rfl | exact h | (cases e; done) | (cases e1; done) | (cases e2; done) | (cases e3; done) | (cases e4; done) | (cases e5; done) | (cases e6; done) | (cases h; done) | (cases h1; done) | (cases h2; done) | (cases h3; done) | (cases b; done) | (cases q; done) | exact h.elim | exact g.elim | exact r.elim | exact r.1.elim | exact r1.elim | exact r2.elim | exact z.elim | exact h1.elim | contradiction | (cases y <;> rfl) | (cases x <;> rfl) | (cases q <;> rfl) | (cases a <;> rfl) | exact L _ _ | exact L _ | (simp_all; done)
      | c _ => rfl
      | d x => cases x <;> (cases b with
        | f _ => first | rfl | exact h | (cases e; done) | (cases e1; done) | (cases e2; done) | (cases e3; done) | (cases e4; done) | (cases e5; done) | (cases e6; done) | (cases h; done) | (cases h1; done) | (cases h2; done) | (cases h3; done) | (cases b; done) | (cases q; done) | exact h.elim | exact g.elim | exact r.elim | exact r.1.elim | exact r1.elim | exact r2.elim | exact z.elim | exact h1.elim | contradiction | (cases y <;> rfl) | (cases x <;> rfl) | (cases q <;> rfl) | (cases a <;> rfl) | exact L _ _ | exact L _ | (simp_all; done)
        | c _ => rfl
        | d y => cases y <;> rfl)⟩
end DL

/-! a loop over a list of ours: at each turn it is read as it stands -/
namespace DL
open PySem PySem.Spec PyProof.Rows L2 DK
section
variable [Nms] [Tabs]
def forGoC (j : Nat) (tgt : TgD) (body : MS) : Nat → Nat → RE → Sto → Option Out
  | 0, _, _, _ => none
  | f + 1, i, ρ, S => (lAt S j).bind fun l => match l[i]? with
    | none => some (.nx ρ S)
    | some x => (tgt x ρ).bind fun ρ1 => (body ρ1 S).bind fun o => match o with
      | .nx ρ' S' => forGoC j tgt body f (i + 1) ρ' S'
      | .ct ρ' S' => forGoC j tgt body f (i + 1) ρ' S'
      | .bk ρ' S' => some (.nx ρ' S')
      | .rt v S' => some (.rt v S')
      | .rl v S' => some (.rl v S')
def sForC (m : M) (tgt : TgD) (body : MS) : MS := fun ρ S => (m ρ S).bind fun p => match p.1 with
  | .c j => forGoC j tgt body 100000 0 ρ p.2
  | _ => none
theorem ds_forC {X : Cx} {tg iter : Expr} {body : List Stmt} {m : M} {is : List Nat} {g : TgD} {gb : MS} {pos : Pos} (hp : PassesOwn (model X.prog X.w) X.A X.env X.xe) (hc : X.calm = true) (hi : DE X iter m) (hg : DG X tg is g) (hb : DSs X body gb)
    (hs : ∀ x, foldedSetIterable iter X.env x = pure x := by intro _; rfl) : DS X (.For tg iter body [] pos) (sForC m g gb) := ps_imp (ps_for hp hc (pi_seq hi) hg hb hs) fun D σ H ⟨as, ρ, S, o, R, E, e, k⟩ => by
  obtain ⟨⟨v, S1⟩, e1, e⟩ := Option.bind_eq_some_iff.mp e
  cases v with
  | d y => cases e
  | f _ => first | rfl | exact h | (cases e; done) | (cases e1; done) | (cases e2; done) | (cases e3; done) | (cases e4; done) | (cases e5; done) | (cases e6; done) | (cases h; done) | (cases h1; done) | (cases h2; done) | (cases h3; done) | (cases b; done) | (cases q; done) | exact h.elim | exact g.elim | exact r.elim | exact r.1.elim | exact r1.elim | exact r2.elim | exact z.elim | exact h1.elim | contradiction | (cases y <;> rfl) | (cases x <;> rfl) | (cases q <;> rfl) | (cases a <;> rfl) | exact L _ _ | exact L _ | (simp_all; done)
  | c j =>
    dsimp only at e
    refine ⟨as, ρ, S, .c j, S1, R, E, e1, fun u H1 R1 E1 V1 => ?_⟩
    obtain ⟨a, ha, rfl⟩ := V1
    obtain ⟨l0, el0, _⟩ := Option.bind_eq_some_iff.mp (show (lAt S1 j).bind _ = some o from e)
    obtain ⟨ws, hw, _⟩ := R1.at_ j a l0 ha el0
    refine .inl ⟨a, rfl, ⟨ws, SqL.of hw⟩, ?_⟩
    refine ⟨fun i q σ' H' => ∃ as' ρ' S', Ext as H1 as' H' ∧ Rel X.K as' S' H' ∧ ER X.K as' H' σ' ρ' ∧ forGoC j g gb q i ρ' S' = some o,
      ⟨100000, as, ρ, S1, .refl, R1, E.ext E1, e⟩, ?_⟩
    rintro i q σ' H' ⟨as', ρ', S', X1, R2, E2, e2⟩
    have K2 : Post X.K as' H' D o := k.ext (E1.trans X1)
    have ha' : as'[j]? = some a := by
      obtain ⟨bs, rfl⟩ := X1.pre
      rw [List.getElem?_append_left (List.getElem?_eq_some_iff.mp ha).1]
      exact ha
    cases q with
    | zero => cases e2
    | succ q =>
      obtain ⟨l3, el3, e2⟩ := Option.bind_eq_some_iff.mp e2
      obtain ⟨ws3, hw3, dw3⟩ := R2.at_ j a l3 ha' el3
      have sq : SqL X.K H' a ws3 := SqL.of hw3
      cases hx : l3[i]? with
      | none =>
        rw [hx] at e2
        cases e2
        exact .inl ⟨⟨ws3, sq, by rw [dpAll_len dw3]; exact List.getElem?_eq_none_iff.mp hx⟩, K2 as' σ' H' .refl R2 E2⟩
      | some x =>
        rw [hx] at e2
        obtain ⟨w, ew, dw4⟩ := dpAll_get dw3 hx
        refine .inr ⟨⟨ws3, w, sq, ew⟩, fun σ2 H2 => ∃ as2 ρ2 S2, Ext as H1 as2 H2 ∧ Rel X.K as2 S2 H2 ∧ ER X.K as2 H2 σ2 ρ2 ∧ forGoC j g gb q (i + 1) ρ2 S2 = some o, fun σ2 H2 z => ⟨q, Nat.lt_succ_self _, z⟩, fun y H2 yl => ?_⟩
        obtain ⟨rfl, yl⟩ := yl
        have hyw : y = w := Option.some.inj ((yl ws3 sq).symm.trans ew)
        subst hyw
        obtain ⟨ρ3, e3, e2⟩ := Option.bind_eq_some_iff.mp e2
        obtain ⟨o2, e4, e2⟩ := Option.bind_eq_some_iff.mp e2
        refine ⟨as', ρ', x, ρ3, E2, dw4, e3, fun σ3 E3 _ => ⟨as', ρ3, S', o2, R2, E3, e4, ?_⟩⟩
        cases o2 with
        | nx ρ4 S4 => exact fun as4 σ4 H4 X4 R4 E4 => ⟨as4, ρ4, S4, X1.trans X4, R4, E4, e2⟩
        | ct ρ4 S4 => exact fun as4 σ4 H4 X4 R4 E4 => ⟨as4, ρ4, S4, X1.trans X4, R4, E4, e2⟩
        | bk ρ4 S4 =>
          cases e2
          exact fun as4 σ4 H4 X4 R4 E4 => K2 as4 σ4 H4 X4 R4 E4
        | rt v S4 =>
          cases e2
          exact fun as4 u H4 X4 R4 V4 => K2 as4 u H4 X4 R4 V4
        | rl v S4 =>
          cases e2
          exact fun as4 u H4 vs X4 R4 => K2 as4 u H4 vs X4 R4
end
theorem forGoC_sh {tgt : TgD} {body : MS} [FrT tgt] [FrS body] (S : Sto) (j : Nat) : ∀ (f i : Nat) (ρ : RE) (T : Sto), forGoC (S.length + j) tgt body f i (shR S.length ρ) (S ++ T) = (forGoC j tgt body f i ρ T).map (shO S)
  | 0, i, ρ, T => rfl
  | f + 1, i, ρ, T => by
    unfold forGoC
    rw [lAt_sh]
    cases lAt T j with
    | none => rfl
    | some l =>
      show (match l[i]? with | none => _ | some x => _) = Option.map _ (match l[i]? with | none => _ | some x => _)
      cases l[i]? with
      | none => rfl
      | some x =>
        show (tgt x (shR S.length ρ)).bind _ = Option.map _ ((tgt x ρ).bind _)
        rw [FrT.fr (t := tgt)]
        cases tgt x ρ with
        | none => rfl
        | some ρ1 =>
          show (body (shR S.length ρ1) (S ++ T)).bind _ = Option.map _ ((body ρ1 T).bind _)
          rw [FrS.fr (m := body)]
          cases body ρ1 T with
          | none => rfl
          | some o => cases o with
            | nx ρ' T' => exact forGoC_sh S j f (i + 1) ρ' T'
            | ct ρ' T' => exact forGoC_sh S j f (i + 1) ρ' T'
            | _ => rfl
instance (m : M) (tgt : TgD) (body : MS) [FrM m] [FrT tgt] [FrS body] : FrS (sForC m tgt body) := ⟨fun ρ S T => by
  unfold sForC
  rw [FrM.fr (m := m)]
  cases m ρ T with
  | none => rfl
  | some p =>
    obtain ⟨v, T1⟩ := p
    cases v with
    | d _ => rfl
    | f _ => first | rfl | exact h | (cases e; done) | (cases e1; done) | (cases e2; done) | (cases e3; done) | (cases e4; done) | (cases e5; done) | (cases e6; done) | (cases h; done) | (cases h1; done) | (cases h2; done) | (cases h3; done) | (cases b; done) | (cases q; done) | exact h.elim | exact g.elim | exact r.elim | exact r.1.elim | exact r1.elim | exact r2.elim | exact z.elim | exact h1.elim | contradiction | (cases y <;> rfl) | (cases x <;> rfl) | (cases q <;> rfl) | (cases a <;> rfl) | exact L _ _ | exact L _ | (simp_all; done)
    | c j => exact forGoC_sh S j _ _ ρ T1⟩
end DL
namespace DN
open PySem PySem.Spec PyProof.Rows L2 DK DL
section
variable [Feed]
end
end DN

/-! pure defs by a table of their answers, which the kernel reckons once -/
namespace DN
open PySem PySem.Spec PyProof.Rows L2 DK DL
def rowN (l : List Nat) : PyData := .tuple (l.map fun n => .int ((n : Nat) : Int))
def look {β : Type} (d : PyData) : List (List Nat × β) → Option β
  | [] => none
  | e :: r => if sameD d (rowN e.1) = true then some e.2 else look d r
theorem look_mem {β : Type} {d : PyData} {b : β} : ∀ {t : List (List Nat × β)}, look d t = some b → ∃ e ∈ t, d = rowN e.1 ∧ e.2 = b
  | [], h => by cases h
  | e :: r, h => by
    unfold look at h
    split at h
    · rename_i q
      cases h
      exact ⟨e, List.mem_cons_self, sameD_eq q, rfl⟩
    · obtain ⟨f, m, q⟩ := look_mem h
      exact ⟨f, List.mem_cons_of_mem _ m, q⟩
end DN

/-! dicts of our own whose keys are tuples of whole numbers and of such: what the machine does with them -/
namespace DL
open PySem PySem.Spec PyProof.Rows L2 DK
mutual
inductive KeyAt (K : Fg) (H : Hp) : V → NestedKey → Prop
  | non : KeyAt K H .non .none
  | int (i : Int) : KeyAt K H (.int i) (.num i)
  | tup {a : Addr} {xs : List V} {ks : List NestedKey} : SqT K H a xs → KeyAts K H xs ks → KeyAt K H (.ref a) (.tup ks)
inductive KeyAts (K : Fg) (H : Hp) : List V → List NestedKey → Prop
  | nil : KeyAts K H [] []
  | cons {x : V} {k : NestedKey} {xs : List V} {ks : List NestedKey} : KeyAt K H x k → KeyAts K H xs ks → KeyAts K H (x :: xs) (k :: ks)
end
mutual
theorem keyAt_dp {K : Fg} {G : Hp} : ∀ {k : NestedKey} {v : V} {d : PyData}, Dp K G v d → KeyD d k → KeyAt K G v k
  | .none, _, _, h, q => by cases q; cases h; exact .non
  | .num i, _, _, h, q => by cases q; cases h; exact .int i
  | .text _, _, _, h, q => by cases q
  | .tup ks, _, _, h, q => by
    cases q with
    | tup q => cases h with
      | tup s a => exact .tup s (keyAts_dp a q)
theorem keyAts_dp {K : Fg} {G : Hp} : ∀ {ks : List NestedKey} {vs : List V} {ds : List PyData}, DpAll K G vs ds → KeyDs ds ks → KeyAts K G vs ks
  | [], _, _, h, q => by cases q; cases h; exact .nil
  | k :: ks, _, _, h, q => by
    cases q with
    | cons q r => cases h with
      | cons a b => exact .cons (keyAt_dp a q) (keyAts_dp b r)
end
mutual
theorem keyAt_mono {K : Fg} {G H : Hp} (e : Same G H) : ∀ {k : NestedKey} {v : V}, KeyAt K G v k → KeyAt K H v k
  | .none, _, h => by cases h; exact .non
  | .num i, _, h => by cases h; exact .int i
  | .text _, _, h => by cases h
  | .tup ks, _, h => by
    cases h with
    | tup s a => exact .tup (sqT_mono e s) (keyAts_mono e a)
theorem keyAts_mono {K : Fg} {G H : Hp} (e : Same G H) : ∀ {ks : List NestedKey} {vs : List V}, KeyAts K G vs ks → KeyAts K H vs ks
  | [], _, h => by cases h; exact .nil
  | k :: ks, _, h => by
    cases h with
    | cons a b => exact .cons (keyAt_mono e a) (keyAts_mono e b)
end
mutual
theorem keyD_free : ∀ {k : NestedKey} {d : PyData}, KeyD d k → freeK k = true
  | .none, _, _ => rfl
  | .num _, _, _ => rfl
  | .text _, _, h => by cases h
  | .tup ks, _, h => by cases h with | tup q => exact keyDs_free q
theorem keyDs_free : ∀ {ks : List NestedKey} {ds : List PyData}, KeyDs ds ks → freeKs ks = true
  | [], _, _ => rfl
  | k :: ks, _, h => by
    cases h with
    | cons a b =>
      show (freeK k && freeKs ks) = true
      rw [keyD_free a, keyDs_free b]
      rfl
end
mutual
theorem keyD_inj : ∀ {k : NestedKey} {d d' : PyData}, KeyD d k → KeyD d' k → d = d'
  | .none, _, _, h, g => by cases h; cases g; rfl
  | .num _, _, _, h, g => by cases h; cases g; rfl
  | .text _, _, _, h, _ => by cases h
  | .tup ks, _, _, h, g => by
    cases h with
    | tup q => cases g with
      | tup r => rw [keyDs_inj q r]
theorem keyDs_inj : ∀ {ks : List NestedKey} {ds ds' : List PyData}, KeyDs ds ks → KeyDs ds' ks → ds = ds'
  | [], _, _, h, g => by cases h; cases g; rfl
  | k :: ks, _, _, h, g => by
    cases h with
    | cons a b => cases g with
      | cons c d => rw [keyD_inj a c, keyDs_inj b d]
end
mutual
def keyOf : PyData → Option NestedKey
  | .none => some .none
  | .int i => some (.num i)
  | .tuple ds => (keysOf ds).map .tup
  | _ => none
def keysOf : List PyData → Option (List NestedKey)
  | [] => some []
  | d :: ds => (keyOf d).bind fun k => (keysOf ds).map (k :: ·)
end
mutual
theorem keyOf_ok : ∀ {d : PyData} {k : NestedKey}, keyOf d = some k → KeyD d k
  | .none, k, h => by unfold keyOf at h; cases h; exact .non
  | .int i, k, h => by unfold keyOf at h; cases h; exact .int i
  | .tuple ds, k, h => by
    unfold keyOf at h
    obtain ⟨ks, e, rfl⟩ := Option.map_eq_some_iff.mp h
    exact .tup (keysOf_ok e)
  | .bool _, k, h => by unfold keyOf at h; cases h
  | .str _, k, h => by unfold keyOf at h; cases h
  | .list _, k, h => by unfold keyOf at h; cases h
  | .dict _, k, h => by unfold keyOf at h; cases h
theorem keysOf_ok : ∀ {ds : List PyData} {ks : List NestedKey}, keysOf ds = some ks → KeyDs ds ks
  | [], ks, h => by unfold keysOf at h; cases h; exact .nil
  | d :: ds, ks, h => by
    unfold keysOf at h
    obtain ⟨k, e1, h⟩ := Option.bind_eq_some_iff.mp h
    obtain ⟨l, e2, rfl⟩ := Option.map_eq_some_iff.mp h
    exact .cons (keyOf_ok e1) (keysOf_ok e2)
end
mutual
theorem keyD_fun : ∀ {k k' : NestedKey} {d : PyData}, KeyD d k → KeyD d k' → k = k'
  | .none, _, _, h, g => by cases h; cases g; rfl
  | .num _, _, _, h, g => by cases h; cases g; rfl
  | .text _, _, _, h, _ => by cases h
  | .tup ks, _, _, h, g => by
    cases h with
    | tup q => cases g with
      | tup r => rw [keyDs_fun q r]
theorem keyDs_fun : ∀ {ks ks' : List NestedKey} {ds : List PyData}, KeyDs ds ks → KeyDs ds ks' → ks = ks'
  | [], _, _, h, g => by cases h; cases g; rfl
  | k :: ks, _, _, h, g => by
    cases h with
    | cons a b => cases g with
      | cons c d => rw [keyD_fun a c, keyDs_fun b d]
end
section
variable {X : Cx} {pins : List (Addr × Obj)} {σ : L2.St} {H : Hp} {s : Shared}
mutual
theorem keyAt_nested (I : Inv X pins σ H s) : ∀ {k : NestedKey} {v : V} {u : Value}, KeyAt X.K H v k → RelV v u → NestedIs s.heap k u
  | .none, _, _, h, r => by cases h; cases r; exact .none
  | .num i, _, _, h, r => by
    cases h
    obtain ⟨t, rfl⟩ := r
    exact .int i t
  | .text _, _, _, h, _ => by cases h
  | .tup ks, _, _, h, r => by
    cases h with
    | tup sq a =>
      cases r
      obtain ⟨its, rv, ⟨o, ho, hc, n, hd⟩, _⟩ := I.tuple sq
      exact .tup ho hc hd (by
        rw [List.toList_toArray]
        exact keyAts_nested I a rv)
theorem keyAts_nested (I : Inv X pins σ H s) : ∀ {ks : List NestedKey} {vs : List V} {us : List Value}, KeyAts X.K H vs ks → Vals vs us → NestedAll s.heap ks us
  | [], _, _, h, r => by cases h; cases r; exact .nil
  | k :: ks, _, _, h, r => by
    cases h with
    | cons a b => cases r with
      | cons c d => exact .cons (keyAt_nested I a c) (keyAts_nested I b d)
end
end
/-- at a: a dict of our own with these entries -/
structure DctOk (K : Fg) (H : Hp) (a : Addr) (es : List DEnt) : Prop where
  at_ : Rd H a (DctO a es)
  keys : ∀ e ∈ es, KeyAt K H (.ref e.2.1) e.1 ∧ e.1.depth ≤ 8 ∧ freeK e.1 = true
  len : es.length ≤ 1000000
  sys : (a == sysModules) = false
  nodup : (es.map (·.1)).Nodup
abbrev EntsR : List DEnt → List (NestedKey × Addr × Value) → Prop := Paired (fun (p : DEnt) (q : NestedKey × Addr × Value) => p.1 = q.1 ∧ p.2.1 = q.2.1 ∧ RelV p.2.2 q.2.2)
theorem entsR_mem : ∀ {es : List DEnt} {xs : List (NestedKey × Addr × Value)}, EntsR es xs → ∀ x ∈ xs, ∃ e ∈ es, e.1 = x.1 ∧ e.2.1 = x.2.1
  | _, _, .nil, x, h => by cases h
  | _, _, .cons r t, x, h => by
    rcases List.mem_cons.mp h with rfl | h
    · exact ⟨_, List.mem_cons_self, r.1, r.2.1⟩
    · obtain ⟨e, m, q⟩ := entsR_mem t x h
      exact ⟨e, List.mem_cons_of_mem _ m, q⟩
theorem entsR_keys : ∀ {es : List DEnt} {xs : List (NestedKey × Addr × Value)}, EntsR es xs → es.map (·.1) = xs.map (·.1)
  | _, _, .nil => rfl
  | _, _, .cons r t => by rw [List.map_cons, List.map_cons, r.1, entsR_keys t]
def valE (es : List DEnt) (k : NestedKey) : Option V := (es.find? fun e => decide (e.1 = k)).map (·.2.2)
def putE (es : List DEnt) (k : NestedKey) (b : Addr) (v : V) : List DEnt := if (valE es k).isSome then es.map (fun e => if e.1 = k then (e.1, e.2.1, v) else e) else es ++ [(k, b, v)]
theorem entsR_val : ∀ {es : List DEnt} {xs : List (NestedKey × Addr × Value)}, EntsR es xs → ∀ k, RelO (valE es k) ((atKey xs k).map (·.2))
  | _, _, .nil, k => True.intro
  | e :: es, x :: xs, .cons r t, k => by
    obtain ⟨h1, _, h2⟩ := r
    unfold valE atKey
    rw [List.find?_cons, List.find?_cons]
    by_cases h : e.1 = k
    · rw [decide_eq_true h, decide_eq_true (h1.symm.trans h)]
      exact h2
    · rw [decide_eq_false h, decide_eq_false (fun z => h (h1.trans z))]
      exact entsR_val t k
theorem entsR_put {es : List DEnt} {xs : List (NestedKey × Addr × Value)} (r : EntsR es xs) (k : NestedKey) (b : Addr) {v : V} {u : Value} (rv : RelV v u) : EntsR (putE es k b v) (storedH xs k b u) := by
  have e : (valE es k).isSome = (atKey xs k).isSome := by
    have := entsR_val r k
    rw [this.isSome_eq, Option.isSome_map]
  unfold putE storedH
  rw [e]
  split
  · rename_i hh
    clear hh e
    induction r with
    | nil => exact .nil
    | cons q t ih =>
      rw [List.map_cons, List.map_cons]
      refine .cons ?_ ih
      obtain ⟨h1, h2, h3⟩ := q
      unfold putAt
      split
      · rename_i h
        rw [if_pos (h1.symm.trans h)]
        exact ⟨h1, h2, rv⟩
      · rename_i h
        rw [if_neg (fun z => h (h1.trans z))]
        exact ⟨h1, h2, h3⟩
  · exact Paired.snoc r ⟨rfl, rfl, rv⟩
section
variable {X : Cx} {pins : List (Addr × Obj)} {σ : L2.St} {H : Hp} {s : Shared} {a : Addr} {es : List DEnt}
theorem dct_of (I : Inv X pins σ H s) (D : DctOk X.K H a es) : ∃ xs, EntsR es xs ∧ s.heap.DictOfH (nestedKind X.prog X.w) a xs := by
  obtain ⟨⟨xs, o, arr, ep, r, h1, h2, h3, h4⟩, _⟩ := (show ObjOk X.prog X.w H s.heap a (.ext fun h => DctAt h a es) from D.at_.ok I.hok)
  refine ⟨xs, r, o, arr, ep, h1, h2, h3, ?_, fun x hx => ?_, by rw [← entsR_keys r]; exact D.nodup⟩
  · rw [h4]
    refine List.map_congr_left fun x hx => ?_
    obtain ⟨e, m, q1, q2⟩ := entsR_mem r x hx
    show (⟨hash0 x.1, .ref x.2.1, x.2.2⟩ : DictEntry) = ⟨NestedKey.hash X.w x.1, .ref x.2.1, x.2.2⟩
    rw [hash_free X.w (k := x.1) (by rw [← q1]; exact (D.keys e m).2.2)]
  · obtain ⟨e, m, q1, q2⟩ := entsR_mem r x hx
    obtain ⟨k1, k2, _⟩ := D.keys e m
    rw [← q1, ← q2]
    exact ⟨keyAt_nested I k1 rfl, k2⟩
theorem room8 {A : Around} (hu : A.units + 64 < cLine) : (nestedKind X.prog X.w).room A.in1 := by
  show A.in1.units + 8 < cLine
  have : A.in1.units ≤ A.units + 1 := Nat.le_refl _
  omega
theorem key_is (I : Inv X pins σ H s) {b : Addr} {k : NestedKey} (h : KeyAt X.K H (.ref b) k) (hd : k.depth ≤ 8) : (nestedKind X.prog X.w).is s.heap k b := ⟨keyAt_nested I h rfl, hd⟩
variable {A : Around} {E : Value → Shared → Prop} {b : Addr} {k : NestedKey} {v : V} {r : Value}
theorem putE_len (es : List DEnt) (k : NestedKey) (b : Addr) (v : V) : (putE es k b v).length ≤ es.length + 1 := by
  unfold putE
  split
  · rw [List.length_map]; omega
  · rw [List.length_append, List.length_singleton]; exact Nat.le_refl _
theorem dctO_ok {P : Program} {w : World} {H' : Hp} {h' : Heap} {es' : List DEnt} (x : DctAt h' a es') : ObjOk P w H' h' a (DctO a es') := by
  refine ⟨x, ?_, fun h1 h2 y st => ?_⟩
  · obtain ⟨_, o, _, _, _, e, _⟩ := x
    exact ⟨o, e⟩
  · obtain ⟨xs, o, arr, ep, r, e, q⟩ := y
    exact ⟨xs, o, arr, ep, r, st _ e, q⟩
theorem dct_typeIs (I : Inv X pins σ H s) (D : DctOk X.K H a es) : s.TypeIs (.ref a) "dict" := by
  obtain ⟨xs, _, dd⟩ := dct_of I D
  exact dd.typeIs
theorem dct_noDict (I : Inv X pins σ H s) (D : DctOk X.K H a es) : ∀ b, Value.ref a = .ref b → ∃ ob, s.heap.get? b = some ob ∧ ob.dict = none := fun b q => by
  cases q
  obtain ⟨xs, _, ob, _, _, h1, h2, _⟩ := dct_of I D
  exact ⟨ob, h1, h2.2.1⟩
end
end DL

/-! dict cells: {}, d[k], d.get(k, x), d[k] = v -/
namespace DL
open PySem PySem.Spec PyProof.Rows L2 DK
/-! ### rules of the layer -/
section
variable {X : Cx} {o i e f value : Expr} {pos pos' apos cpos : Pos} {td ty tv tx : TE}
end
/-! ### entries as data -/
def keyOk (d : PyData) : Option NestedKey := match d with
  | .tuple ds => (keysOf ds).bind fun ks => if (NestedKey.tup ks).depth ≤ 8 then some (.tup ks) else none
  | _ => none
theorem keyOk_ok {d : PyData} {k : NestedKey} (h : keyOk d = some k) : KeyD d k ∧ (∃ ks, k = .tup ks) ∧ k.depth ≤ 8 := by
  unfold keyOk at h
  split at h
  · obtain ⟨ks, e, h⟩ := Option.bind_eq_some_iff.mp h
    split at h
    · rename_i hd
      cases h
      exact ⟨.tup (keysOf_ok e), ⟨ks, rfl⟩, hd⟩
    · cases h
  · cases h
def dgetD (kvs : List (PyData × PyData)) (kd : PyData) : Option PyData := (kvs.find? fun p => DN.sameD p.1 kd).map (·.2)
def dputD (kvs : List (PyData × PyData)) (kd vd : PyData) : List (PyData × PyData) := if (dgetD kvs kd).isSome then kvs.map (fun p => if DN.sameD p.1 kd = true then (p.1, vd) else p) else kvs ++ [(kd, vd)]
mutual
theorem sameD_key : ∀ {d : PyData} {k : NestedKey}, KeyD d k → DN.sameD d d = true
  | .none, _, _ => rfl
  | .int i, _, _ => by show (i == i) = true; exact beq_self_eq_true i
  | .tuple ds, _, h => by cases h with | tup q => exact sameDs_key q
  | .bool _, _, h => by cases h
  | .str _, _, h => by cases h
  | .list _, _, h => by cases h
  | .dict _, _, h => by cases h
theorem sameDs_key : ∀ {ds : List PyData} {ks : List NestedKey}, KeyDs ds ks → DN.sameDs ds ds = true
  | [], _, _ => rfl
  | d :: ds, _, h => by
    cases h with
    | cons a b =>
      show (DN.sameD d d && DN.sameDs ds ds) = true
      rw [sameD_key a, sameDs_key b]
      rfl
end
theorem key_same {d d' : PyData} {k k' : NestedKey} (h : KeyD d k) (g : KeyD d' k') : DN.sameD d d' = decide (k = k') := by
  by_cases e : k = k'
  · subst e
    rw [decide_eq_true rfl, keyD_inj h g]
    exact sameD_key g
  · rw [decide_eq_false e]
    cases q : DN.sameD d d' with
    | false => rfl
    | true =>
      have := DN.sameD_eq q
      subst this
      exact absurd (keyD_fun h g) e
inductive OptR {α β : Type} (R : α → β → Prop) : Option α → Option β → Prop
  | none : OptR R none none
  | some {a b} : R a b → OptR R (some a) (some b)
theorem dget_rel {K : Fg} {G : Hp} {kd : PyData} {k : NestedKey} (hk : KeyD kd k) : ∀ {es : List DEnt} {kvs : List (PyData × PyData)}, Paired (EntR K G) es kvs → OptR (Dp K G) (valE es k) (dgetD kvs kd)
  | _, _, .nil => .none
  | e :: es, p :: kvs, .cons r t => by
    unfold valE dgetD
    rw [List.find?_cons, List.find?_cons, key_same r.key hk]
    by_cases h : e.1 = k
    · rw [decide_eq_true h]
      exact .some r.val
    · rw [decide_eq_false h]
      exact dget_rel hk t
theorem dput_rel {K : Fg} {G : Hp} {kd vd : PyData} {k : NestedKey} {b : Addr} {v : V} (hk : KeyD kd k) (ht : ∃ ks, k = .tup ks) (hd : k.depth ≤ 8) (hb : Dp K G (.ref b) kd) (hv : Dp K G v vd) {es : List DEnt} {kvs : List (PyData × PyData)} (h : Paired (EntR K G) es kvs) :
    Paired (EntR K G) (putE es k b v) (dputD kvs kd vd) := by
  have e : (valE es k).isSome = (dgetD kvs kd).isSome := by
    have := dget_rel hk h
    generalize valE es k = x at this
    generalize dgetD kvs kd = y at this
    cases this <;> rfl
  unfold putE dputD
  rw [e]
  split
  · rename_i hh
    clear hh e
    induction h with
    | nil => exact .nil
    | cons r t ih =>
      rw [List.map_cons, List.map_cons, key_same r.key hk]
      refine .cons ?_ ih
      split
      · rename_i q
        rw [if_pos (decide_eq_true q)]
        exact ⟨r.key, r.tup, r.deep, r.at_, hv⟩
      · rename_i q
        rw [if_neg (by simpa using q)]
        exact r
  · exact Paired.snoc h ⟨hk, ht, hd, hb, hv⟩
theorem putE_nodup {es : List DEnt} {k : NestedKey} {b : Addr} {v : V} (h : (es.map (·.1)).Nodup) : ((putE es k b v).map (·.1)).Nodup := by
  unfold putE
  split
  · rw [List.map_map]
    have : ((fun e : DEnt => e.1) ∘ fun e : DEnt => if e.1 = k then (e.1, e.2.1, v) else e) = fun e => e.1 := funext fun e => by
      show (if e.1 = k then (e.1, e.2.1, v) else e).1 = e.1
      split <;> rfl
    rw [this]
    exact h
  · rename_i q
    rw [List.map_append]
    refine List.nodup_append.mpr ⟨h, by simp, fun x hx y hy => ?_⟩
    rw [List.map_singleton, List.mem_singleton] at hy
    subst hy
    intro z
    subst z
    obtain ⟨e, m, e2⟩ := List.mem_map.mp hx
    refine q ?_
    unfold valE
    rw [Option.isSome_map]
    exact List.find?_isSome.mpr ⟨e, m, decide_eq_true e2⟩
theorem ents_keys {K : Fg} {as : List Addr} {H : Hp} {l : List DEnt} {m : List (PyData × PyData)} (q : Paired (EntR K (hide as H)) l m) : ∀ x ∈ l, KeyAt K H (.ref x.2.1) x.1 ∧ x.1.depth ≤ 8 ∧ freeK x.1 = true := by
  induction q with
  | nil => intro x hx; cases hx
  | cons r t ih =>
    intro x hx
    rcases List.mem_cons.mp hx with rfl | hx
    · exact ⟨keyAt_mono hide_same (keyAt_dp r.at_ r.key), r.deep, keyD_free r.key⟩
    · exact ih x hx
theorem Rel.dct {K : Fg} {as : List Addr} {S : Sto} {H : Hp} (R : Rel K as S H) {j : Nat} {a : Addr} {kvs : List (PyData × PyData)} (ha : as[j]? = some a) (e : dAt S j = some kvs) : ∃ es, DctOk K H a es ∧ Paired (EntR K (hide as H)) es kvs := by
  rcases dAt_some e with e | e
  · obtain ⟨es, h1, h2, h3, h4, h5⟩ := (show ∃ es, H a = some (DctO a es) ∧ Paired (EntR K (hide as H)) es kvs ∧ es.length ≤ 1000000 ∧ (a == sysModules) = false ∧ (es.map (·.1)).Nodup from R.cell j a _ ha e)
    exact ⟨es, ⟨.inl h1, ents_keys h2, h3, h4, h5⟩, h2⟩
  · obtain ⟨es, ⟨o, h1⟩, h2, h3, h4, h5⟩ := (show ∃ es, (∃ o, H a = some (.frz o (DctO a es))) ∧ Paired (EntR K (hide as H)) es kvs ∧ es.length ≤ 1000000 ∧ (a == sysModules) = false ∧ (es.map (·.1)).Nodup from R.cell j a _ ha e)
    exact ⟨es, ⟨.inr ⟨o, h1⟩, ents_keys h2, h3, h4, h5⟩, h2⟩
theorem Rel.dctW {K : Fg} {as : List Addr} {S : Sto} {H : Hp} (R : Rel K as S H) {j : Nat} {a : Addr} {kvs : List (PyData × PyData)} (ha : as[j]? = some a) (e : dAtW S j = some kvs) : ∃ es, H a = some (DctO a es) ∧ DctOk K H a es ∧ Paired (EntR K (hide as H)) es kvs := by
  obtain ⟨es, h1, h2, h3, h4, h5⟩ := (show ∃ es, H a = some (DctO a es) ∧ Paired (EntR K (hide as H)) es kvs ∧ es.length ≤ 1000000 ∧ (a == sysModules) = false ∧ (es.map (·.1)).Nodup from R.cell j a _ ha (dAtW_some.mp e))
  exact ⟨es, h1, ⟨.inl h1, ents_keys h2, h3, h4, h5⟩, h2⟩
/-! ### derivations -/
section
variable [Nms] [Tabs]
def mDGet (mo mk : M) : M := fun ρ S => (mo ρ S).bind fun o => (mk ρ o.2).bind fun q => match o.1, q.1 with
  | .c j, .d kd => (dAt q.2 j).bind fun kvs => (keyOk kd).bind fun _ => (dgetD kvs kd).map fun v => (PV.d v, q.2)
  | _, _ => none
def mDGet2 (mo mk mx : M) : M := fun ρ S => (mo ρ S).bind fun o => (mk ρ o.2).bind fun q => (mx ρ q.2).bind fun x => match o.1, q.1, x.1 with
  | .c j, .d kd, .d xd => if (dAt o.2 j).isSome = true then (dAt x.2 j).bind fun kvs => (keyOk kd).map fun _ => (PV.d ((dgetD kvs kd).getD xd), x.2) else none
  | _, _, _ => none
def sDPut (mo mk mv : M) : MS := fun ρ S => (mv ρ S).bind fun v => (mo ρ v.2).bind fun o => (mk ρ o.2).bind fun q => match v.1, o.1, q.1 with
  | .d vd, .c j, .d kd => (dAtW q.2 j).bind fun kvs => (keyOk kd).bind fun _ => if kvs.length < 1000000 then some (.nx ρ (q.2.set j (.d (dputD kvs kd vd)))) else none
  | _, _, _ => none
def sNewD (i : Nat) : MS := fun ρ S => some (.nx (ρ.set i (some (.c S.length))) (S ++ [.d []]))
variable {X : Cx} {o i e f : Expr} {mo mk mv mx : M} {k : Nat}
theorem dp_key {K : Fg} {G : Hp} {u : V} {kd : PyData} {kk : NestedKey} (h : Dp K G u kd) (q : keyOk kd = some kk) : ∃ b, u = .ref b := by
  unfold keyOk at q
  split at q
  · cases h
    exact ⟨_, rfl⟩
  · cases q
end
end DL

/-! a loop over the keys of a dict of our own: the dict is locked while it is walked -/
namespace DL
open PySem PySem.Spec PyProof.Rows L2 DK
/-! ### locked and unlocked -/
section
variable [Nms] [Tabs]
variable {K : Fg} {as as1 : List Addr} {S S1 : Sto} {H H1 H' : Hp} {d : Addr} {j : Nat} {es : List DEnt} {od : Obj} {kvs : List (PyData × PyData)}
theorem VR.same {v : V} {p : PV} (s : Same (hide as H) (hide as H1)) (h : VR K as H v p) : VR K as H1 v p := by
  cases p with
  | d x => exact dp_mono s _ _ h
  | f _ => first | rfl | exact h | (cases e; done) | (cases e1; done) | (cases e2; done) | (cases e3; done) | (cases e4; done) | (cases e5; done) | (cases e6; done) | (cases h; done) | (cases h1; done) | (cases h2; done) | (cases h3; done) | (cases b; done) | (cases q; done) | exact h.elim | exact g.elim | exact r.elim | exact r.1.elim | exact r1.elim | exact r2.elim | exact z.elim | exact h1.elim | contradiction | (cases y <;> rfl) | (cases x <;> rfl) | (cases q <;> rfl) | (cases a <;> rfl) | exact L _ _ | exact L _ | (simp_all; done)
  | c i => exact h
section
end
end
section
variable [Nms] [Tabs]
def mapSto (g : Sto → Sto) : Out → Option Out
  | .nx ρ S => some (.nx ρ (g S))
  | .ct ρ S => some (.ct ρ (g S))
  | .bk ρ S => some (.bk ρ (g S))
  | .rt v S => some (.rt v (g S))
  | .rl _ _ => none
def sForD (i : Nat) (tgt : TgD) (body : MS) : MS := fun ρ S => match ρ[i]? with
  | some (some (.c j)) => (dAtW S j).bind fun kvs => (forGo tgt body (kvs.map (·.1)) ρ (S.set j (.k kvs))).bind (mapSto fun S' => S'.set j (.d kvs))
  | _ => none
end
end DL

/-! dict cells: a new one, k in d; frames -/
namespace DL
open PySem PySem.Spec PyProof.Rows L2 DK
section
variable [Nms] [Tabs]
variable {X : Cx} {o e : Expr} {mo mk : M} {k : Nat} {pos : Pos}
def mDIn (mk mo : M) : M := fun ρ S => (mk ρ S).bind fun q => (mo ρ q.2).bind fun o => match q.1, o.1 with
  | .d kd, .c j => (dAt o.2 j).bind fun kvs => (keyOk kd).map fun _ => (PV.d (.bool (dgetD kvs kd).isSome), o.2)
  | _, _ => none
end
/-! ### frames -/
instance (a b : M) [FrM a] [FrM b] : FrM (mDGet a b) := ⟨fun ρ S T => by
  unfold mDGet
  rw [FrM.fr (m := a)]
  cases h : a ρ T with
  | none => rfl
  | some r =>
    show (b (shR S.length ρ) (S ++ r.2)).bind _ = _
    rw [FrM.fr (m := b)]
    cases h2 : b ρ r.2 with
    | none => simp [h2]
    | some q =>
      simp only [Option.bind_some, h2, Option.map_some]
      obtain ⟨o, S1⟩ := r
      obtain ⟨q, S2⟩ := q
      cases o with
      | d x => rfl
      | f _ => first | rfl | exact h | (cases e; done) | (cases e1; done) | (cases e2; done) | (cases e3; done) | (cases e4; done) | (cases e5; done) | (cases e6; done) | (cases h; done) | (cases h1; done) | (cases h2; done) | (cases h3; done) | (cases b; done) | (cases q; done) | exact h.elim | exact g.elim | exact r.elim | exact r.1.elim | exact r1.elim | exact r2.elim | exact z.elim | exact h1.elim | contradiction | (cases y <;> rfl) | (cases x <;> rfl) | (cases q <;> rfl) | (cases a <;> rfl) | exact L _ _ | exact L _ | (simp_all; done)
      | c j =>
        cases q with
        | f _ => first | rfl | exact h | (cases e; done) | (cases e1; done) | (cases e2; done) | (cases e3; done) | (cases e4; done) | (cases e5; done) | (cases e6; done) | (cases h; done) | (cases h1; done) | (cases h2; done) | (cases h3; done) | (cases b; done) | (cases q; done) | exact h.elim | exact g.elim | exact r.elim | exact r.1.elim | exact r1.elim | exact r2.elim | exact z.elim | exact h1.elim | contradiction | (cases y <;> rfl) | (cases x <;> rfl) | (cases q <;> rfl) | (cases a <;> rfl) | exact L _ _ | exact L _ | (simp_all; done)
        | c j2 => rfl
        | d kd =>
          show (dAt (S ++ S2) (S.length + j)).bind _ = Option.map _ ((dAt S2 j).bind _)
          rw [dAt_sh]
          cases dAt S2 j with
          | none => rfl
          | some kvs =>
            dsimp
            cases keyOk kd with
            | none => rfl
            | some kk => cases dgetD kvs kd <;> rfl⟩
instance (a b : M) [FrM a] [FrM b] : FrM (mDIn a b) := ⟨fun ρ S T => by
  unfold mDIn
  rw [FrM.fr (m := a)]
  cases h : a ρ T with
  | none => rfl
  | some r =>
    show (b (shR S.length ρ) (S ++ r.2)).bind _ = _
    rw [FrM.fr (m := b)]
    cases h2 : b ρ r.2 with
    | none => simp [h2]
    | some q =>
      simp only [Option.bind_some, h2, Option.map_some]
      obtain ⟨o, S1⟩ := r
      obtain ⟨q, S2⟩ := q
      cases o with
      | f _ => first | rfl | exact h | (cases e; done) | (cases e1; done) | (cases e2; done) | (cases e3; done) | (cases e4; done) | (cases e5; done) | (cases e6; done) | (cases h; done) | (cases h1; done) | (cases h2; done) | (cases h3; done) | (cases b; done) | (cases q; done) | exact h.elim | exact g.elim | exact r.elim | exact r.1.elim | exact r1.elim | exact r2.elim | exact z.elim | exact h1.elim | contradiction | (cases y <;> rfl) | (cases x <;> rfl) | (cases q <;> rfl) | (cases a <;> rfl) | exact L _ _ | exact L _ | (simp_all; done)
      | c j => cases q <;> rfl
      | d kd =>
        cases q with
        | d x => rfl
        | f _ => first | rfl | exact h | (cases e; done) | (cases e1; done) | (cases e2; done) | (cases e3; done) | (cases e4; done) | (cases e5; done) | (cases e6; done) | (cases h; done) | (cases h1; done) | (cases h2; done) | (cases h3; done) | (cases b; done) | (cases q; done) | exact h.elim | exact g.elim | exact r.elim | exact r.1.elim | exact r1.elim | exact r2.elim | exact z.elim | exact h1.elim | contradiction | (cases y <;> rfl) | (cases x <;> rfl) | (cases q <;> rfl) | (cases a <;> rfl) | exact L _ _ | exact L _ | (simp_all; done)
        | c j =>
          show (dAt (S ++ S2) (S.length + j)).bind _ = Option.map _ ((dAt S2 j).bind _)
          rw [dAt_sh]
          cases dAt S2 j with
          | none => rfl
          | some kvs =>
            dsimp
            cases keyOk kd <;> rfl⟩
instance (a b c : M) [FrM a] [FrM b] [FrM c] : FrM (mDGet2 a b c) := ⟨fun ρ S T => by
  unfold mDGet2
  rw [FrM.fr (m := a)]
  cases h : a ρ T with
  | none => rfl
  | some r =>
    show (b (shR S.length ρ) (S ++ r.2)).bind _ = _
    rw [FrM.fr (m := b)]
    cases h2 : b ρ r.2 with
    | none => simp [h2]
    | some q =>
      show (c (shR S.length ρ) (S ++ q.2)).bind _ = _
      rw [FrM.fr (m := c)]
      cases h3 : c ρ q.2 with
      | none => simp [h2, h3]
      | some z =>
        simp only [Option.bind_some, h2, h3, Option.map_some]
        obtain ⟨o, S1⟩ := r
        obtain ⟨q, S2⟩ := q
        obtain ⟨z, S3⟩ := z
        cases o with
        | d x => rfl
        | f _ => first | rfl | exact h | (cases e; done) | (cases e1; done) | (cases e2; done) | (cases e3; done) | (cases e4; done) | (cases e5; done) | (cases e6; done) | (cases h; done) | (cases h1; done) | (cases h2; done) | (cases h3; done) | (cases b; done) | (cases q; done) | exact h.elim | exact g.elim | exact r.elim | exact r.1.elim | exact r1.elim | exact r2.elim | exact z.elim | exact h1.elim | contradiction | (cases y <;> rfl) | (cases x <;> rfl) | (cases q <;> rfl) | (cases a <;> rfl) | exact L _ _ | exact L _ | (simp_all; done)
        | c j =>
          cases q with
          | f _ => first | rfl | exact h | (cases e; done) | (cases e1; done) | (cases e2; done) | (cases e3; done) | (cases e4; done) | (cases e5; done) | (cases e6; done) | (cases h; done) | (cases h1; done) | (cases h2; done) | (cases h3; done) | (cases b; done) | (cases q; done) | exact h.elim | exact g.elim | exact r.elim | exact r.1.elim | exact r1.elim | exact r2.elim | exact z.elim | exact h1.elim | contradiction | (cases y <;> rfl) | (cases x <;> rfl) | (cases q <;> rfl) | (cases a <;> rfl) | exact L _ _ | exact L _ | (simp_all; done)
          | c j2 => rfl
          | d kd =>
            cases z with
            | f _ => first | rfl | exact h | (cases e; done) | (cases e1; done) | (cases e2; done) | (cases e3; done) | (cases e4; done) | (cases e5; done) | (cases e6; done) | (cases h; done) | (cases h1; done) | (cases h2; done) | (cases h3; done) | (cases b; done) | (cases q; done) | exact h.elim | exact g.elim | exact r.elim | exact r.1.elim | exact r1.elim | exact r2.elim | exact z.elim | exact h1.elim | contradiction | (cases y <;> rfl) | (cases x <;> rfl) | (cases q <;> rfl) | (cases a <;> rfl) | exact L _ _ | exact L _ | (simp_all; done)
            | c j3 => rfl
            | d xd =>
              show (if (dAt (S ++ S1) (S.length + j)).isSome = true then (dAt (S ++ S3) (S.length + j)).bind _ else none) = Option.map _ (if (dAt S1 j).isSome = true then (dAt S3 j).bind _ else none)
              rw [dAt_sh, dAt_sh]
              split
              · cases dAt S3 j with
                | none => rfl
                | some kvs =>
                  dsimp
                  cases keyOk kd <;> rfl
              · rfl⟩
instance (a b c : M) [FrM a] [FrM b] [FrM c] : FrS (sDPut a b c) := ⟨fun ρ S T => by
  unfold sDPut
  rw [FrM.fr (m := c)]
  cases h : c ρ T with
  | none => rfl
  | some r =>
    show (a (shR S.length ρ) (S ++ r.2)).bind _ = _
    rw [FrM.fr (m := a)]
    cases h2 : a ρ r.2 with
    | none => simp [h2]
    | some q =>
      show (b (shR S.length ρ) (S ++ q.2)).bind _ = _
      rw [FrM.fr (m := b)]
      cases h3 : b ρ q.2 with
      | none => simp [h2, h3]
      | some z =>
        simp only [Option.bind_some, h2, h3, Option.map_some]
        obtain ⟨v, S1⟩ := r
        obtain ⟨o, S2⟩ := q
        obtain ⟨q, S3⟩ := z
        cases v with
        | f _ => first | rfl | exact h | (cases e; done) | (cases e1; done) | (cases e2; done) | (cases e3; done) | (cases e4; done) | (cases e5; done) | (cases e6; done) | (cases h; done) | (cases h1; done) | (cases h2; done) | (cases h3; done) | (cases b; done) | (cases q; done) | exact h.elim | exact g.elim | exact r.elim | exact r.1.elim | exact r1.elim | exact r2.elim | exact z.elim | exact h1.elim | contradiction | (cases y <;> rfl) | (cases x <;> rfl) | (cases q <;> rfl) | (cases a <;> rfl) | exact L _ _ | exact L _ | (simp_all; done)
        | c j => rfl
        | d vd =>
          cases o with
          | d x => rfl
          | f _ => first | rfl | exact h | (cases e; done) | (cases e1; done) | (cases e2; done) | (cases e3; done) | (cases e4; done) | (cases e5; done) | (cases e6; done) | (cases h; done) | (cases h1; done) | (cases h2; done) | (cases h3; done) | (cases b; done) | (cases q; done) | exact h.elim | exact g.elim | exact r.elim | exact r.1.elim | exact r1.elim | exact r2.elim | exact z.elim | exact h1.elim | contradiction | (cases y <;> rfl) | (cases x <;> rfl) | (cases q <;> rfl) | (cases a <;> rfl) | exact L _ _ | exact L _ | (simp_all; done)
          | c j =>
            cases q with
            | f _ => first | rfl | exact h | (cases e; done) | (cases e1; done) | (cases e2; done) | (cases e3; done) | (cases e4; done) | (cases e5; done) | (cases e6; done) | (cases h; done) | (cases h1; done) | (cases h2; done) | (cases h3; done) | (cases b; done) | (cases q; done) | exact h.elim | exact g.elim | exact r.elim | exact r.1.elim | exact r1.elim | exact r2.elim | exact z.elim | exact h1.elim | contradiction | (cases y <;> rfl) | (cases x <;> rfl) | (cases q <;> rfl) | (cases a <;> rfl) | exact L _ _ | exact L _ | (simp_all; done)
            | c j2 => rfl
            | d kd =>
              show (dAtW (S ++ S3) (S.length + j)).bind _ = Option.map _ ((dAtW S3 j).bind _)
              rw [dAtW_sh]
              cases dAtW S3 j with
              | none => rfl
              | some kvs =>
                dsimp
                cases keyOk kd with
                | none => rfl
                | some kk =>
                  dsimp
                  split
                  · show some (Out.nx (shR S.length ρ) ((S ++ S3).set (S.length + j) _)) = _
                    rw [sto_set]
                    rfl
                  · rfl⟩
instance (i : Nat) : FrS (sNewD i) := ⟨fun ρ S T => by
  unfold sNewD
  show some (Out.nx ((shR S.length ρ).set i (some (.c (S ++ T).length))) ((S ++ T) ++ [.d []])) = _
  rw [len_sh, app_sh, show PV.c (S.length + T.length) = shV S.length (.c T.length) from rfl, sh_set]
  rfl⟩
end DL

/-! frames of a loop over a dict's keys -/
namespace DL
open PySem PySem.Spec PyProof.Rows L2 DK
theorem mapSto_sh (S : Sto) (j : Nat) (c : Cell) : ∀ o : Out, mapSto (fun T => T.set (S.length + j) c) (shO S o) = (mapSto (fun T => T.set j c) o).map (shO S)
  | .nx ρ T => by show some (Out.nx (shR S.length ρ) ((S ++ T).set (S.length + j) c)) = _; rw [sto_set]; rfl
  | .ct ρ T => by show some (Out.ct (shR S.length ρ) ((S ++ T).set (S.length + j) c)) = _; rw [sto_set]; rfl
  | .bk ρ T => by show some (Out.bk (shR S.length ρ) ((S ++ T).set (S.length + j) c)) = _; rw [sto_set]; rfl
  | .rt v T => by show some (Out.rt (shV S.length v) ((S ++ T).set (S.length + j) c)) = _; rw [sto_set]; rfl
  | .rl v T => rfl
instance (i : Nat) (tgt : TgD) (body : MS) [FrT tgt] [FrS body] : FrS (sForD i tgt body) := ⟨fun ρ S T => by
  unfold sForD
  rw [sh_get]
  cases h : ρ[i]? with
  | none => rfl
  | some p =>
    cases p with
    | none => rfl
    | some v =>
      cases v with
      | d x => rfl
      | f _ => first | rfl | exact h | (cases e; done) | (cases e1; done) | (cases e2; done) | (cases e3; done) | (cases e4; done) | (cases e5; done) | (cases e6; done) | (cases h; done) | (cases h1; done) | (cases h2; done) | (cases h3; done) | (cases b; done) | (cases q; done) | exact h.elim | exact g.elim | exact r.elim | exact r.1.elim | exact r1.elim | exact r2.elim | exact z.elim | exact h1.elim | contradiction | (cases y <;> rfl) | (cases x <;> rfl) | (cases q <;> rfl) | (cases a <;> rfl) | exact L _ _ | exact L _ | (simp_all; done)
      | c j =>
        show (dAtW (S ++ T) (S.length + j)).bind _ = Option.map _ ((dAtW T j).bind _)
        rw [dAtW_sh]
        cases dAtW T j with
        | none => rfl
        | some kvs =>
          show (forGo tgt body (kvs.map (·.1)) (shR S.length ρ) ((S ++ T).set (S.length + j) (.k kvs))).bind _ = Option.map _ ((forGo tgt body (kvs.map (·.1)) ρ (T.set j (.k kvs))).bind _)
          rw [sto_set, forGo_sh]
          cases forGo tgt body (kvs.map (·.1)) ρ (T.set j (.k kvs)) with
          | none => rfl
          | some o => exact mapSto_sh S j (.d kvs) o⟩
end DL

/-! a dict of one entry, displayed -/
namespace DL
open PySem PySem.Spec PyProof.Rows L2 DK
section
variable {X : Cx} {pins : List (Addr × Obj)} {σ : L2.St} {H : Hp} {s : Shared} {a : Addr} {es : List DEnt}
variable {A : Around} {E : Value → Shared → Prop} {b : Addr} {k : NestedKey} {v : V} {r : Value}
end
section
variable [Nms] [Tabs]
variable {X : Cx} {ke ve : Expr} {mk mv : M} {k : Nat} {pos : Pos}
def sOwnD1 (i : Nat) (mk mv : M) : MS := fun ρ S => (mk ρ (S ++ [.d []])).bind fun q => (mv ρ q.2).bind fun v => match q.1, v.1 with
  | .d kd, .d vd => match dAtW v.2 S.length with
    | some [] => (keyOk kd).map fun _ => .nx (ρ.set i (some (.c S.length))) (v.2.set S.length (.d [(kd, vd)]))
    | _ => none
  | _, _ => none
end
instance (i : Nat) (a b : M) [FrM a] [FrM b] : FrS (sOwnD1 i a b) := ⟨fun ρ S T => by
  unfold sOwnD1
  rw [List.append_assoc, FrM.fr (m := a)]
  cases h : a ρ (T ++ [.d []]) with
  | none => rfl
  | some q =>
    show (b (shR S.length ρ) (S ++ q.2)).bind _ = Option.map _ ((b ρ q.2).bind _)
    rw [FrM.fr (m := b)]
    cases h2 : b ρ q.2 with
    | none => rfl
    | some v =>
      obtain ⟨q, S1⟩ := q
      obtain ⟨v, S2⟩ := v
      cases q with
      | f _ => first | rfl | exact h | (cases e; done) | (cases e1; done) | (cases e2; done) | (cases e3; done) | (cases e4; done) | (cases e5; done) | (cases e6; done) | (cases h; done) | (cases h1; done) | (cases h2; done) | (cases h3; done) | (cases b; done) | (cases q; done) | exact h.elim | exact g.elim | exact r.elim | exact r.1.elim | exact r1.elim | exact r2.elim | exact z.elim | exact h1.elim | contradiction | (cases y <;> rfl) | (cases x <;> rfl) | (cases q <;> rfl) | (cases a <;> rfl) | exact L _ _ | exact L _ | (simp_all; done)
      | c j => rfl
      | d kd =>
        cases v with
        | f _ => first | rfl | exact h | (cases e; done) | (cases e1; done) | (cases e2; done) | (cases e3; done) | (cases e4; done) | (cases e5; done) | (cases e6; done) | (cases h; done) | (cases h1; done) | (cases h2; done) | (cases h3; done) | (cases b; done) | (cases q; done) | exact h.elim | exact g.elim | exact r.elim | exact r.1.elim | exact r1.elim | exact r2.elim | exact z.elim | exact h1.elim | contradiction | (cases y <;> rfl) | (cases x <;> rfl) | (cases q <;> rfl) | (cases a <;> rfl) | exact L _ _ | exact L _ | (simp_all; done)
        | c j => rfl
        | d vd =>
          rw [len_sh]
          show (match dAtW (S ++ S2) (S.length + T.length) with | some [] => _ | _ => none) = Option.map _ (match dAtW S2 T.length with | some [] => _ | _ => none)
          rw [dAtW_sh]
          cases dAtW S2 T.length with
          | none => rfl
          | some l =>
            cases l with
            | cons _ _ => rfl
            | nil =>
              dsimp
              cases keyOk kd with
              | none => rfl
              | some kk =>
                show some (Out.nx ((shR S.length ρ).set i (some (.c (S.length + T.length)))) ((S ++ S2).set (S.length + T.length) _)) = _
                rw [sto_set, show PV.c (S.length + T.length) = shV S.length (.c T.length) from rfl, sh_set]
                rfl⟩
end DL

/-! a op1 b op2 c -/
namespace DL
open PySem PySem.Spec PyProof.Rows L2 DK
section
variable [Nms] [Tabs]
variable {X : Cx} {a b c : Expr} {ma mb mc : M} {pos : Pos}
def mChain (f f' : PV → PV → Sto → Option PV) (a b c : M) : M := fun ρ S => (a ρ S).bind fun p => (b ρ p.2).bind fun q => (f p.1 q.1 q.2).bind fun z => match z with
  | .d (.bool true) => (c ρ q.2).bind fun r => (f' q.1 r.1 r.2).map fun w => (w, r.2)
  | .d (.bool false) => some (.d (.bool false), q.2)
  | _ => none
end
instance (f f' : PV → PV → Sto → Option PV) (a b c : M) [FrOp f] [FrOp f'] [FrM a] [FrM b] [FrM c] : FrM (mChain f f' a b c) := ⟨fun ρ S T => by
  unfold mChain
  rw [FrM.fr (m := a)]
  cases h : a ρ T with
  | none => rfl
  | some p =>
    show (b (shR S.length ρ) (S ++ p.2)).bind _ = _
    rw [FrM.fr (m := b)]
    cases h2 : b ρ p.2 with
    | none => simp [h2]
    | some q =>
      show ((f (shV S.length p.1) (shV S.length q.1) (S ++ q.2)).bind _) = _
      rw [FrOp.fr (f := f)]
      simp only [Option.bind_some, h2]
      cases f p.1 q.1 q.2 with
      | none => rfl
      | some z =>
        cases z with
        | f _ => first | rfl | exact h | (cases e; done) | (cases e1; done) | (cases e2; done) | (cases e3; done) | (cases e4; done) | (cases e5; done) | (cases e6; done) | (cases h; done) | (cases h1; done) | (cases h2; done) | (cases h3; done) | (cases b; done) | (cases q; done) | exact h.elim | exact g.elim | exact r.elim | exact r.1.elim | exact r1.elim | exact r2.elim | exact z.elim | exact h1.elim | contradiction | (cases y <;> rfl) | (cases x <;> rfl) | (cases q <;> rfl) | (cases a <;> rfl) | exact L _ _ | exact L _ | (simp_all; done)
        | c j => rfl
        | d x =>
          cases x with
          | bool t =>
            cases t with
            | false => rfl
            | true =>
              show ((c (shR S.length ρ) (S ++ q.2)).bind _) = Option.map _ ((c ρ q.2).bind _)
              rw [FrM.fr (m := c)]
              cases c ρ q.2 with
              | none => rfl
              | some r =>
                show (f' (shV S.length q.1) (shV S.length r.1) (S ++ r.2)).map _ = Option.map _ ((f' q.1 r.1 r.2).map _)
                rw [FrOp.fr (f := f')]
                cases f' q.1 r.1 r.2 <;> rfl
          | _ => rfl⟩
end DL

/-! x in xs, x not in xs; xs.extend(data); for x in reversed(data) -/
namespace DL
open PySem PySem.Spec PyProof.Rows L2 DK
/-! ### x in xs -/
section
variable [Nms] [Tabs]
def fIn : PV → PV → Sto → Option PV := fun x y S => (asD S x).bind fun a => (asD S y).bind fun b => match b with
  | .list ds => if (SeqAt.shaped a && SeqAt.shaped (.list ds)) = true then some (.d (.bool (ds.any fun z => PyData.eqv z a))) else none
  | _ => none
def fNotIn : PV → PV → Sto → Option PV := fun x y S => (asD S x).bind fun a => (asD S y).bind fun b => match b with
  | .list ds => if (SeqAt.shaped a && SeqAt.shaped (.list ds)) = true then some (.d (.bool (!ds.any fun z => PyData.eqv z a))) else none
  | _ => none
end
section
variable [Nms] [Tabs]
variable {X : Cx} {a b : Expr} {ma mb : M} {k : Nat} {pos : Pos}
end
instance : FrOp fIn := ⟨fun x y S T => by
  unfold fIn
  rw [sh_asD, sh_asD]
  cases asD T x with
  | none => rfl
  | some a =>
    cases asD T y with
    | none => rfl
    | some b => cases b <;> first | rfl | (dsimp; split <;> rfl)⟩
instance : FrOp fNotIn := ⟨fun x y S T => by
  unfold fNotIn
  rw [sh_asD, sh_asD]
  cases asD T x with
  | none => rfl
  | some a =>
    cases asD T y with
    | none => rfl
    | some b => cases b <;> first | rfl | (dsimp; split <;> rfl)⟩
/-! ### xs.extend(ys), ys any list -/
section
variable [Nms] [Tabs]
def mExtD (mo me : M) : M := fun ρ S => (mo ρ S).bind fun o => (me ρ o.2).bind fun q => match o.1, q.1 with
  | .c j, .d (.list ys) => if (lAt o.2 j).isSome = true then (lAt q.2 j).bind fun ds => if ds.length + ys.length ≤ 1000000 then some (.d .none, q.2.set j (.l (ds ++ ys))) else none else none
  | _, _ => none
/-! ### for x in reversed(t) -/
def mRevI (m : M) : ML := fun ρ S => (m ρ S).bind fun p => match p.1 with
  | .d (.tuple xs) => some (xs.reverse, p.2)
  | _ => none
end
instance (m : M) [FrM m] : FrL (mRevI m) := ⟨fun ρ S T => by
  unfold mRevI
  rw [FrM.fr (m := m)]
  cases m ρ T with
  | none => rfl
  | some r =>
    obtain ⟨v, T'⟩ := r
    cases v with
    | f _ => first | rfl | exact h | (cases e; done) | (cases e1; done) | (cases e2; done) | (cases e3; done) | (cases e4; done) | (cases e5; done) | (cases e6; done) | (cases h; done) | (cases h1; done) | (cases h2; done) | (cases h3; done) | (cases b; done) | (cases q; done) | exact h.elim | exact g.elim | exact r.elim | exact r.1.elim | exact r1.elim | exact r2.elim | exact z.elim | exact h1.elim | contradiction | (cases y <;> rfl) | (cases x <;> rfl) | (cases q <;> rfl) | (cases a <;> rfl) | exact L _ _ | exact L _ | (simp_all; done)
    | c j => rfl
    | d x => cases x <;> rfl⟩
instance (mo me : M) [FrM mo] [FrM me] : FrM (mExtD mo me) := ⟨fun ρ S T => by
  unfold mExtD
  rw [FrM.fr (m := mo)]
  cases mo ρ T with
  | none => rfl
  | some o =>
    show (me (shR S.length ρ) (S ++ o.2)).bind _ = Option.map _ ((me ρ o.2).bind _)
    rw [FrM.fr (m := me)]
    cases me ρ o.2 with
    | none => rfl
    | some v =>
      obtain ⟨o, T1⟩ := o
      obtain ⟨v, T2⟩ := v
      cases o with
      | d _ => rfl
      | f _ => first | rfl | exact h | (cases e; done) | (cases e1; done) | (cases e2; done) | (cases e3; done) | (cases e4; done) | (cases e5; done) | (cases e6; done) | (cases h; done) | (cases h1; done) | (cases h2; done) | (cases h3; done) | (cases b; done) | (cases q; done) | exact h.elim | exact g.elim | exact r.elim | exact r.1.elim | exact r1.elim | exact r2.elim | exact z.elim | exact h1.elim | contradiction | (cases y <;> rfl) | (cases x <;> rfl) | (cases q <;> rfl) | (cases a <;> rfl) | exact L _ _ | exact L _ | (simp_all; done)
      | c j =>
        cases v with
        | f _ => first | rfl | exact h | (cases e; done) | (cases e1; done) | (cases e2; done) | (cases e3; done) | (cases e4; done) | (cases e5; done) | (cases e6; done) | (cases h; done) | (cases h1; done) | (cases h2; done) | (cases h3; done) | (cases b; done) | (cases q; done) | exact h.elim | exact g.elim | exact r.elim | exact r.1.elim | exact r1.elim | exact r2.elim | exact z.elim | exact h1.elim | contradiction | (cases y <;> rfl) | (cases x <;> rfl) | (cases q <;> rfl) | (cases a <;> rfl) | exact L _ _ | exact L _ | (simp_all; done)
        | c _ => rfl
        | d x => cases x with
          | list ys =>
            show (if (lAt (S ++ T1) (S.length + j)).isSome = true then (lAt (S ++ T2) (S.length + j)).bind _ else none) = Option.map _ (if (lAt T1 j).isSome = true then (lAt T2 j).bind _ else none)
            rw [lAt_sh, lAt_sh]
            cases (lAt T1 j).isSome with
            | false => rfl
            | true =>
              rw [if_pos rfl, if_pos rfl]
              cases lAt T2 j with
              | none => rfl
              | some ds =>
                dsimp
                split
                · rw [sto_set]; rfl
                · rfl
          | _ => rfl⟩
instance : FrOp fRepT := ⟨fun x y S T => by
  cases x with
  | f _ => first | rfl | exact h | (cases e; done) | (cases e1; done) | (cases e2; done) | (cases e3; done) | (cases e4; done) | (cases e5; done) | (cases e6; done) | (cases h; done) | (cases h1; done) | (cases h2; done) | (cases h3; done) | (cases b; done) | (cases q; done) | exact h.elim | exact g.elim | exact r.elim | exact r.1.elim | exact r1.elim | exact r2.elim | exact z.elim | exact h1.elim | contradiction | (cases y <;> rfl) | (cases x <;> rfl) | (cases q <;> rfl) | (cases a <;> rfl) | exact L _ _ | exact L _ | (simp_all; done)
  | c i => cases y <;> rfl
  | d x =>
    cases y with
    | f _ => first | rfl | exact h | (cases e; done) | (cases e1; done) | (cases e2; done) | (cases e3; done) | (cases e4; done) | (cases e5; done) | (cases e6; done) | (cases h; done) | (cases h1; done) | (cases h2; done) | (cases h3; done) | (cases b; done) | (cases q; done) | exact h.elim | exact g.elim | exact r.elim | exact r.1.elim | exact r1.elim | exact r2.elim | exact z.elim | exact h1.elim | contradiction | (cases y <;> rfl) | (cases x <;> rfl) | (cases q <;> rfl) | (cases a <;> rfl) | exact L _ _ | exact L _ | (simp_all; done)
    | c j => cases x <;> rfl
    | d y =>
      cases x <;> first | rfl | (cases y <;> first | rfl | (unfold fRepT; dsimp only [shV]; split <;> rfl))⟩
end DL

/-! rows of whole numbers: specs' helpers; meetings of shapes -/
namespace DN
open PySem PySem.Spec PyProof.Rows L2 DL
theorem runF_cut {N : Nat} {g : MS} {ps : List PV} {ρ : RE} {S S' E : Sto} {x : PyData} (he : ps.map some ++ List.replicate (N - ps.length) none = ρ) (h : g ρ S = some (.rt (.d x) (S' ++ E))) (hl : S'.length = S.length) : runF N g ps S = some (.d x, S') := by
  unfold runF
  rw [he, h]
  show some (_, (S' ++ E).take S.length) = _
  rw [← hl, List.take_left]
theorem lc_map {T : Sto} {tgt : TgD} {te : M} {ρ : RE} {f : PyData → PyData} : ∀ (xs ds : List PyData), ds.length + xs.length ≤ 1000000 → (∀ x ∈ xs, ∃ ρ1, tgt x ρ = some ρ1 ∧ ∀ S, te ρ1 S = some (.d (f x), S)) → lcGo T.length tgt bYes te ρ xs (T ++ [Cell.l ds]) = some (T ++ [Cell.l (ds ++ xs.map f)])
  | [], ds, _, _ => by
    show some _ = _
    simp
  | x :: xs, ds, hl, h => by
    obtain ⟨ρ1, e1, e2⟩ := h x (by simp)
    rw [List.length_cons] at hl
    have hpush : pushAt T.length (f x) (T ++ [Cell.l ds]) = some (T ++ [Cell.l (ds ++ [f x])]) := by
      unfold pushAt
      rw [last_l]
      show (if ds.length < 1000000 then _ else none) = _
      rw [if_pos (by omega)]
      show some ((T ++ [Cell.l ds]).set T.length (Cell.l (ds ++ [f x]))) = _
      rw [last_set]
    rw [lcGo_yes e1 (e2 _) hpush]
    rw [lc_map xs (ds ++ [f x]) (by rw [List.length_append, List.length_singleton]; omega) fun y hy => h y (List.mem_cons_of_mem _ hy)]
    rw [List.append_assoc]
    rfl
theorem mLc_map {mi : ML} {vs : List Nat} {tgt : TgD} {te : M} {ρ : RE} {S S1 : Sto} {xs : List PyData} {f : PyData → PyData} (h1 : mi ρ S = some (xs, S1)) (hl : xs.length ≤ 1000000) (h2 : ∀ x ∈ xs, ∃ ρ1, tgt x (wipeR ρ vs) = some ρ1 ∧ ∀ S, te ρ1 S = some (.d (f x), S)) : mLc mi vs tgt bYes te ρ S = some (xs.map f, S1) := by
  unfold mLc
  rw [h1]
  show (lcGo S1.length tgt bYes te (wipeR ρ vs) xs (S1 ++ [Cell.l []])).bind _ = _
  rw [lc_map xs [] (by simpa using hl) h2]
  show (lAt (S1 ++ [Cell.l ([] ++ xs.map f)]) S1.length).bind _ = _
  rw [last_l]
  show some ([] ++ xs.map f, (S1 ++ [Cell.l ([] ++ xs.map f)]).take S1.length) = _
  rw [List.take_left, List.nil_append]
def rowOf : PyData → Option (List Int)
  | .tuple xs => intsOf xs
  | _ => none
theorem var_of {ρ : RE} {i : Nat} {x : PV} {S : Sto} (h : ρ[i]? = some (some x)) : mVar i ρ S = some (x, S) := by
  unfold mVar
  rw [h]
def fs (ps : List Int) (N : Nat) : List PyData := (List.range (N + 1)).map fun k => .int (pre ps k)
def mx (ps qs : List Int) : Nat := if qs.length > ps.length then qs.length else ps.length
def dn (ps qs : List Int) : PyData → Bool
  | .int k => decide (pre ps (k.toNat + 1) < pre qs (k.toNat + 1))
  | _ => false
theorem lay_ints : ∀ ps : List Int, PyData.canLayAll0 (ps.map .int) = true
  | [] => rfl
  | _ :: r => lay_ints r
theorem deep_ints : ∀ ps : List Int, PyData.depthAll (ps.map .int) = 0
  | [] => rfl
  | _ :: r => by
    show max 0 (PyData.depthAll (r.map .int)) = 0
    rw [deep_ints r]
    rfl
theorem shaped_row (ps : List Int) : SeqAt.shaped (itp ps) = true := by
  show (PyData.canLayAll0 (ps.map .int) && decide (PyData.depthAll (ps.map .int) + 1 ≤ 64)) = true
  rw [lay_ints, deep_ints]
  rfl
theorem eqvAll_ints : ∀ ps qs : List Int, PyData.eqvAll (ps.map .int) (qs.map .int) = decide (ps = qs)
  | [], [] => rfl
  | [], _ :: _ => rfl
  | _ :: _, [] => rfl
  | p :: ps, q :: qs => by
    show ((p == q) && PyData.eqvAll (ps.map .int) (qs.map .int)) = _
    rw [eqvAll_ints ps qs]
    by_cases h : p = q
    · subst h
      simp
    · rw [beq_eq_false_iff_ne.mpr h]
      simp [h]
theorem fNe_rows (ps qs : List Int) (S : Sto) : fNe (.d (itp ps)) (.d (itp qs)) S = some (.d (.bool (!decide (ps = qs)))) := by
  show (if (SeqAt.shaped (itp ps) && SeqAt.shaped (itp qs)) = true then some (PV.d (.bool (!PyData.eqvAll (ps.map .int) (qs.map .int)))) else none) = _
  rw [shaped_row, shaped_row, eqvAll_ints]
  rfl
def rowD : PyData → List Int := fun d => (rowOf d).getD []
theorem rowD_itp (ps : List Int) : rowD (itp ps) = ps := by
  unfold rowD rowOf
  show (intsOf (ps.map .int)).getD [] = ps
  rw [intsOf_map]
  rfl
/-! ### meetings -/
def mn (a b : Int) : Int := if b < a then b else a
def pos (ds : List Int) : List Int := ds.filter fun x => decide (x > 0)
section
variable {ps qs : List Int}
end
/-! ### all shapes of a size -/
section
variable [Feed]
end
end DN

/-! what is told of a shape: columns box by box, how often each part comes, the weight -/
namespace DN
open PySem PySem.Spec PyProof.Rows L2 DL
theorem mRng2_of {m n : M} {ρ : RE} {S S1 S2 : Sto} {i j : Int} (h : m ρ S = some (.d (.int i), S1)) (h2 : n ρ S1 = some (.d (.int j), S2)) (a : -1000000 ≤ i ∧ i ≤ 1000000 ∧ -1000000 ≤ j ∧ j ≤ 1000000) : mRng2 m n ρ S = some (rangeD i (j - i).toNat, S2) := by
  unfold mRng2
  rw [h]
  show (n ρ S1).bind _ = _
  rw [h2]
  show (if -1000000 ≤ i ∧ i ≤ 1000000 ∧ -1000000 ≤ j ∧ j ≤ 1000000 then _ else none) = _
  rw [if_pos a]
/-! ### the columns of the columns -/
/-! ### the columns, box by box -/
/-! ### how often -/
section
variable {us : List Int} {u : Int}
def lo (us : List Int) (u : Int) : List Int := (rising us).filter fun k => decide (k < u)
def hi (us : List Int) (u : Int) : List Int := (rising us).filter fun k => decide (u < k)
/-! ### the weight -/
def inW (k : Int) : Nat → Int
  | 0 => 1
  | n + 1 => inW k n * (k * ((n + 1 : Nat) : Int))
def pl : List (Int × Nat) → Int
  | [] => 1
  | e :: r => inW e.1 e.2 * pl r
end
end DN

/-! sorted(d): the keys of a dict of our own, rows of whole numbers -/
namespace DL
open PySem PySem.Spec PyProof.Rows L2 DK
section
variable {prog : Program} {w : World} {A : Around} {d I : Addr} {o : Obj} {arr : Array DictEntry} {ep : Nat}
end
section
variable {X : Cx}
end
section
variable [Nms] [Tabs]
def mSortD (m : M) : ML := fun ρ S => (m ρ S).bind fun p => match p.1 with
  | .c j => (dAt p.2 j).bind fun kvs => (rowsOf (kvs.map (·.1))).bind fun rs => some ((sortR rs).map itR, p.2)
  | _ => none
variable {X : Cx} {e : Expr} {m : M} {p pos : Pos} {k : Nat}
end
instance (m : M) [FrM m] : FrL (mSortD m) := ⟨fun ρ S T => by
  unfold mSortD
  rw [FrM.fr (m := m)]
  cases m ρ T with
  | none => rfl
  | some r =>
    obtain ⟨v, T'⟩ := r
    cases v with
    | d x => rfl
    | f _ => first | rfl | exact h | (cases e; done) | (cases e1; done) | (cases e2; done) | (cases e3; done) | (cases e4; done) | (cases e5; done) | (cases e6; done) | (cases h; done) | (cases h1; done) | (cases h2; done) | (cases h3; done) | (cases b; done) | (cases q; done) | exact h.elim | exact g.elim | exact r.elim | exact r.1.elim | exact r1.elim | exact r2.elim | exact z.elim | exact h1.elim | contradiction | (cases y <;> rfl) | (cases x <;> rfl) | (cases q <;> rfl) | (cases a <;> rfl) | exact L _ _ | exact L _ | (simp_all; done)
    | c j =>
      show (dAt (S ++ T') (S.length + j)).bind _ = Option.map _ ((dAt T' j).bind _)
      rw [dAt_sh]
      cases dAt T' j with
      | none => rfl
      | some kvs =>
        dsimp
        cases rowsOf (kvs.map (·.1)) <;> rfl⟩
end DL

/-! a row of the program that stands for either of two denotations -/
namespace DL
open PySem PySem.Spec PyProof.Rows L2 DK
def sEither (f g : MS) : MS := fun ρ S => match f ρ S with
  | some o => some o
  | none => g ρ S
section
variable [Nms] [Tabs]
end
instance (f g : MS) [FrS f] [FrS g] : FrS (sEither f g) := ⟨fun ρ S T => by
  unfold sEither
  rw [FrS.fr (m := f)]
  cases f ρ T with
  | none => exact FrS.fr (m := g) ρ S T
  | some o => rfl⟩
end DL

/-! ratios as rational numbers; pairs gathered in a dict -/
namespace DN
open PySem PySem.Spec PyProof.Rows L2 DK DL
def rd (q : Rat) : PyData := .tuple [.int q.num, .int (q.den : Nat)]
/-- no number above a bound -/
def Bd (N : Nat) (q : Rat) : Prop := q.num.natAbs ≤ N ∧ q.den ≤ N
/-! ### pairs gathered -/
abbrev Prs := List (List Int × Rat)
def getQ (s : List Int) : Prs → Option Rat
  | [] => none
  | e :: r => if e.1 = s then some e.2 else getQ s r
def addQ (s : List Int) (c : Rat) : Prs → Prs
  | [] => [(s, 0 + c)]
  | e :: r => if e.1 = s then (e.1, e.2 + c) :: r else e :: addQ s c r
def valQ (es : Prs) (s : List Int) : Rat := (getQ s es).getD 0
theorem sameDs_int : ∀ a b : List Int, sameDs (a.map .int) (b.map .int) = decide (a = b)
  | [], [] => rfl
  | [], _ :: _ => rfl
  | _ :: _, [] => rfl
  | x :: a, y :: b => by
    show ((x == y) && sameDs _ _) = _
    rw [sameDs_int a b]
    by_cases h : x = y
    · subst h
      simp
    · simp [h]
theorem sameD_itp (a b : List Int) : sameD (itp a) (itp b) = decide (a = b) := sameDs_int a b
theorem addQ_mem {s : List Int} {c : Rat} : ∀ {es : Prs} {x : List Int}, x ∈ (addQ s c es).map (·.1) ↔ x = s ∨ x ∈ es.map (·.1)
  | [], x => by simp [addQ]
  | e :: r, x => by
    unfold addQ
    split
    · rename_i q
      rw [List.map_cons, List.map_cons, List.mem_cons, q]
      constructor
      · exact fun h => .inr h
      · rintro (h | h)
        · exact .inl h
        · exact h
    · rw [List.map_cons, List.mem_cons, addQ_mem, List.map_cons, List.mem_cons]
      constructor
      · rintro (h | h | h)
        · exact .inr (.inl h)
        · exact .inl h
        · exact .inr (.inr h)
      · rintro (h | h | h)
        · exact .inr (.inl h)
        · exact .inl h
        · exact .inr (.inr h)
theorem addQ_nodup {s : List Int} {c : Rat} : ∀ {es : Prs}, (es.map (·.1)).Nodup → ((addQ s c es).map (·.1)).Nodup
  | [], _ => by simp [addQ]
  | e :: r, h => by
    rw [List.map_cons, List.nodup_cons] at h
    unfold addQ
    split
    · exact List.nodup_cons.mpr h
    · rename_i q
      rw [List.map_cons, List.nodup_cons]
      refine ⟨fun z => ?_, addQ_nodup h.2⟩
      rcases addQ_mem.mp z with z | z
      · exact q z
      · exact h.1 z
theorem val_add {s : List Int} {c : Rat} (k : List Int) : ∀ es : Prs, valQ (addQ s c es) k = valQ es k + (if s = k then c else 0)
  | [] => by
    unfold valQ addQ getQ
    by_cases h : s = k
    · simp [h, getQ]
    · simp [h, getQ, Rat.add_zero]
  | e :: r => by
    have ih := val_add (s := s) (c := c) k r
    unfold valQ at ih ⊢
    unfold addQ
    by_cases q : e.1 = s
    · rw [if_pos q]
      unfold getQ
      by_cases h : s = k
      · simp [q, h]
      · simp [q, h, Rat.add_zero]
    · rw [if_neg q]
      unfold getQ
      by_cases h : e.1 = k
      · have : ¬ s = k := fun z => q (h.trans z.symm)
        simp [h, this, Rat.add_zero]
      · simp only [h, if_false]
        exact ih
theorem Bd.mono {N M : Nat} {q : Rat} (h : Bd N q) (g : N ≤ M) : Bd M q := ⟨Nat.le_trans h.1 g, Nat.le_trans h.2 g⟩
theorem key_row {s : List Int} : ∃ k, keyOk (itp s) = some k := by
  have e : ∀ l : List Int, keysOf (l.map .int) = some (l.map .num) := fun l => by
    induction l with
    | nil => rfl
    | cons x r ih =>
      show (keyOf (.int x)).bind _ = _
      show (keysOf (r.map .int)).map _ = _
      rw [ih]
      rfl
  refine ⟨.tup (s.map .num), ?_⟩
  show (keysOf (s.map .int)).bind _ = _
  rw [e]
  show (if (NestedKey.tup (s.map .num)).depth ≤ 8 then _ else none) = _
  have d : ∀ l : List Int, NestedKey.depthAll (l.map .num) = 0 := fun l => by
    induction l with
    | nil => rfl
    | cons x r ih =>
      show max 0 (NestedKey.depthAll (r.map .num)) = 0
      rw [ih]
      rfl
  rw [if_pos]
  show NestedKey.depthAll (s.map .num) + 1 ≤ 8
  rw [d]
  decide
/-! ### the program's sum_of -/
theorem rowsOf_map : ∀ rs : List (List Int), rowsOf (rs.map itp) = some rs
  | [] => rfl
  | r :: rs => by
    show (intsOf (r.map .int)).bind (fun ns => (rowsOf (rs.map itp)).map (ns :: ·)) = _
    rw [intsOf_map, rowsOf_map rs]
    rfl
theorem gx_fm {tgt : TgD} {tt : MB} {te : M} {ρ : RE} {S : Sto} {p : PyData → Bool} {f : PyData → PyData} : ∀ xs : List PyData, (∀ x ∈ xs, ∃ ρ1, tgt x ρ = some ρ1 ∧ tt ρ1 S = some (p x, S) ∧ te ρ1 S = some (.d (f x), S)) → gxGo stopNo tgt tt te ρ xs S = some ((xs.filter p).map f, true, S)
  | [], _ => rfl
  | x :: xs, h => by
    obtain ⟨ρ1, e1, e2, e3⟩ := h x (by simp)
    have ih := gx_fm (tt := tt) (te := te) xs fun y hy => h y (List.mem_cons_of_mem _ hy)
    show (tgt x ρ).bind _ = _
    rw [e1]
    show (tt ρ1 S).bind _ = _
    rw [e2]
    cases hf : p x with
    | false =>
      rw [List.filter_cons, hf]
      exact ih
    | true =>
      rw [List.filter_cons, hf]
      show (te ρ1 S).bind _ = _
      rw [e3]
      show (gxGo stopNo tgt tt te ρ xs S).bind _ = _
      rw [ih]
      rfl
theorem sForC_of {m : M} {tgt : TgD} {body : MS} {ρ : RE} {S S1 : Sto} {j : Nat} (h : m ρ S = some (.c j, S1)) : sForC m tgt body ρ S = forGoC j tgt body 100000 0 ρ S1 := by
  unfold sForC
  rw [h]
  simp only [Option.bind_some]
end DN

/-! lowest terms by the laws' own loop; lists of what a dict holds; what a feed's defs draw -/
namespace DN
open PySem PySem.Spec PyProof.Rows L2 DK DL
abbrev pr (a b : Int) : PV := .d (.tuple [.int a, .int b])
abbrev iv (a : Int) : PV := .d (.int a)
theorem lc_fm {T : Sto} {tgt : TgD} {tt : MB} {te : M} {ρ : RE} {p : PyData → Bool} {f : PyData → PyData} : ∀ (xs ds : List PyData), ds.length + xs.length ≤ 1000000 → (∀ x ∈ xs, ∃ ρ1, tgt x ρ = some ρ1 ∧ ∀ E, tt ρ1 (T ++ [Cell.l E]) = some (p x, T ++ [Cell.l E]) ∧ te ρ1 (T ++ [Cell.l E]) = some (.d (f x), T ++ [Cell.l E])) → lcGo T.length tgt tt te ρ xs (T ++ [Cell.l ds]) = some (T ++ [Cell.l (ds ++ (xs.filter p).map f)])
  | [], ds, _, _ => by
    show some _ = _
    simp
  | x :: xs, ds, hl, h => by
    obtain ⟨ρ1, e1, e2⟩ := h x (by simp)
    rw [List.length_cons] at hl
    show (tgt x ρ).bind _ = _
    rw [e1]
    show (tt ρ1 _).bind _ = _
    rw [(e2 _).1]
    cases hp : p x with
    | false =>
      rw [List.filter_cons, hp]
      exact lc_fm xs ds (by omega) fun y hy => h y (List.mem_cons_of_mem _ hy)
    | true =>
      rw [List.filter_cons, hp]
      show (te ρ1 _).bind _ = _
      rw [(e2 _).2]
      have hpush : pushAt T.length (f x) (T ++ [Cell.l ds]) = some (T ++ [Cell.l (ds ++ [f x])]) := by
        unfold pushAt
        rw [last_l]
        show (if ds.length < 1000000 then _ else none) = _
        rw [if_pos (by omega)]
        show some ((T ++ [Cell.l ds]).set T.length (Cell.l (ds ++ [f x]))) = _
        rw [last_set]
      show (pushAt T.length (f x) (T ++ [Cell.l ds])).bind _ = _
      rw [hpush]
      show lcGo T.length tgt tt te ρ xs (T ++ [Cell.l (ds ++ [f x])]) = _
      rw [lc_fm xs (ds ++ [f x]) (by rw [List.length_append, List.length_singleton]; omega) fun y hy => h y (List.mem_cons_of_mem _ hy)]
      rw [List.append_assoc]
      rfl
theorem mLc_fm {mi : ML} {vs : List Nat} {tgt : TgD} {tt : MB} {te : M} {ρ : RE} {S S1 : Sto} {xs : List PyData} {p : PyData → Bool} {f : PyData → PyData} (h1 : mi ρ S = some (xs, S1)) (hl : xs.length ≤ 1000000) (h2 : ∀ x ∈ xs, ∃ ρ1, tgt x (wipeR ρ vs) = some ρ1 ∧ ∀ E, tt ρ1 (S1 ++ [Cell.l E]) = some (p x, S1 ++ [Cell.l E]) ∧ te ρ1 (S1 ++ [Cell.l E]) = some (.d (f x), S1 ++ [Cell.l E])) : mLc mi vs tgt tt te ρ S = some ((xs.filter p).map f, S1) := by
  unfold mLc
  rw [h1]
  show (lcGo S1.length tgt tt te (wipeR ρ vs) xs (S1 ++ [Cell.l []])).bind _ = _
  rw [lc_fm xs [] (by simpa using hl) h2]
  show (lAt (S1 ++ [Cell.l ([] ++ (xs.filter p).map f)]) S1.length).bind _ = _
  rw [last_l]
  show some ([] ++ (xs.filter p).map f, (S1 ++ [Cell.l ([] ++ (xs.filter p).map f)]).take S1.length) = _
  rw [List.take_left, List.nil_append]
/-! ### what a feed's defs draw -/
section
instance (priority := 5000) feedHere : Feed := feed1
theorem Fd.push {T : ASto} {j k : Nat} {S : Sto} {ds : List PyData} (h : Fd T j k S) : Fd (T ++ [.q (.exs (ds.map .ex))]) j k (S ++ [Cell.l ds]) := by
  refine ⟨by rw [List.length_append]; have := h.1; omega, ?_⟩
  rw [List.set_append_left _ _ h.1]
  exact All2.app h.2 (.cons (show All2 γ (ds.map .ex) ds from all_ex ds) .nil)
theorem ex_all : ∀ {ds es : List PyData}, All2 γ (ds.map AV.ex) es → es = ds
  | [], _, .nil => rfl
  | d :: ds, _, .cons r t => by
    rw [ex_all t]
    rw [show _ = d from r]
theorem All2.split {α β : Type} {R : α → β → Prop} : ∀ {l1 l2 : List α} {m : List β}, All2 R (l1 ++ l2) m → ∃ m1 m2, m = m1 ++ m2 ∧ All2 R l1 m1 ∧ All2 R l2 m2
  | [], l2, m, h => ⟨[], m, rfl, .nil, h⟩
  | a :: l1, l2, _, .cons r t => by
    obtain ⟨m1, m2, e, h1, h2⟩ := All2.split t
    exact ⟨_ :: m1, m2, by rw [e]; rfl, .cons r h1, h2⟩
theorem Fd.pop {T : ASto} {j k : Nat} {S : Sto} {ds : List PyData} (hj : j < T.length) (h : Fd (T ++ [.q (.exs (ds.map .ex))]) j k S) : ∃ S', S = S' ++ [Cell.l ds] ∧ Fd T j k S' := by
  have h2 := h.2
  rw [List.set_append_left _ _ hj] at h2
  obtain ⟨m1, m2, rfl, a, b⟩ := All2.split h2
  cases b with
  | cons r t =>
    cases t
    rename_i c
    cases c with
    | l es =>
      rw [ex_all (show All2 γ (ds.map .ex) es from r)]
      exact ⟨m1, rfl, hj, a⟩
    | d kvs => exact r.elim
    | k kvs => exact r.elim
    | r kk => exact r.elim
    | n kk => exact r.elim
    | s _ _ => exact r.elim
/-- what F draws of a feed, with data -/
def Fed0 (F : FV) (args : List PV) (P : PyData → Prop) (c : Nat) : Prop := ∀ {T : ASto} {j k : Nat} {S : Sto}, Fd T j k S → k + c ≤ 9999 → ∃ d S', F (.c j :: args) S = some (.d d, S') ∧ P d ∧ Fd T j (k + c) S'
theorem Fed0.behind {F : FV} {args : List PV} {P : PyData → Prop} {c : Nat} (h : Fed0 F args P c) {T : ASto} {j k : Nat} {S : Sto} (f : Fd T j k S) (hk : k + c ≤ 9999) (ds : List PyData) : ∃ d S', F (.c j :: args) (S ++ [Cell.l ds]) = some (.d d, S' ++ [Cell.l ds]) ∧ P d ∧ Fd T j (k + c) S' := by
  obtain ⟨d, S', e, p, g⟩ := h (f.push (ds := ds)) hk
  obtain ⟨S2, rfl, g2⟩ := Fd.pop f.1 g
  exact ⟨d, S2, e, p, g2⟩
end
end DN

/-! dict(x), x a tuple of pairs whose keys are tuples -/
namespace DL
open PySem PySem.Spec PyProof.Rows L2 DK
section
variable {X : Cx}
end
/-! ### the denotation -/
def pairsD : List PyData → Option (List (PyData × PyData))
  | [] => some []
  | .tuple [k, v] :: r => (keyOk k).bind fun _ => (pairsD r).map ((k, v) :: ·)
  | _ => none
def dputsD (acc kvs : List (PyData × PyData)) : List (PyData × PyData) := kvs.foldl (fun acc p => dputD acc p.1 p.2) acc
section
variable [Nms] [Tabs]
def sDictP (i : Nat) (ma : MA) : MS := fun ρ S => (ma ρ S).bind fun p => match p.1 with
  | [.d (.tuple ds)] => (pairsD ds).bind fun kvs => if kvs.length ≤ 1000000 then some (.nx (ρ.set i (some (.c p.2.length))) (p.2 ++ [.d (dputsD [] kvs)])) else none
  | _ => none
variable {X : Cx} {e : Expr} {ma : MA} {k : Nat} {pos : Pos}
instance (i : Nat) (ma : MA) [FrA ma] : FrS (sDictP i ma) := ⟨fun ρ S T => by
  unfold sDictP
  rw [FrA.fr (m := ma)]
  cases h : ma ρ T with
  | none => rfl
  | some r =>
    obtain ⟨vs, S1⟩ := r
    rw [Option.map_some, Option.bind_some, Option.bind_some]
    match vs with
    | [] => rfl
    | [.f j] => rfl
    | [.c j] => rfl
    | [.d (.tuple ds)] =>
      show (pairsD ds).bind _ = Option.map _ ((pairsD ds).bind _)
      cases pairsD ds with
      | none => rfl
      | some kvs =>
        dsimp
        split
        · show some (Out.nx ((shR S.length ρ).set i (some (.c (S ++ S1).length))) ((S ++ S1) ++ [.d _])) = _
          rw [len_sh, app_sh, show PV.c (S.length + S1.length) = shV S.length (.c S1.length) from rfl, sh_set]
          rfl
        · rfl
    | [.d .none] => rfl
    | [.d (.bool _)] => rfl
    | [.d (.int _)] => rfl
    | [.d (.str _)] => rfl
    | [.d (.list _)] => rfl
    | [.d (.dict _)] => rfl
    | .f j :: y :: z => rfl
    | .c j :: y :: z => rfl
    | .d x :: y :: z => cases x <;> rfl⟩
end
end DL

/-! ratios times ratios; sums in order; dict cells at any slot; draws with cells behind -/
namespace DN
open PySem PySem.Spec PyProof.Rows L2 DK DL
/-! ### times -/
/-! ### sums in order -/
structure Srt (ps : Prs) : Prop where
  nodup : (ps.map (·.1)).Nodup
  up : (ps.map (·.1)).Pairwise leR
  nz : ∀ p ∈ ps, p.2 ≠ 0
theorem val_mem : ∀ {ps : Prs}, (ps.map (·.1)).Nodup → ∀ p ∈ ps, valQ ps p.1 = p.2
  | [], _, p, hp => by cases hp
  | e :: r, h, p, hp => by
    rw [List.map_cons, List.nodup_cons] at h
    rcases List.mem_cons.mp hp with rfl | hp
    · unfold valQ getQ
      rw [if_pos rfl]
      rfl
    · have ne : ¬ e.1 = p.1 := fun z => h.1 (by rw [z]; exact List.mem_map.mpr ⟨p, hp, rfl⟩)
      have := val_mem h.2 p hp
      unfold valQ at this ⊢
      unfold getQ
      rw [if_neg ne]
      exact this
theorem Srt.filter {ps : Prs} (h : Srt ps) (f : List Int × Rat → Bool) : Srt (ps.filter f) :=
  ⟨h.nodup.sublist (List.filter_sublist.map _), h.up.sublist (List.filter_sublist.map _), fun p hp => h.nz p (List.mem_filter.mp hp).1⟩
/-! ### d[k] = c, whatever stood there -/
def setQ (s : List Int) (c : Rat) (es : Prs) : Prs := addQ s (c - valQ es s) es
theorem val_set {s : List Int} {c : Rat} (k : List Int) (es : Prs) : valQ (setQ s c es) k = if s = k then c else valQ es k := by
  unfold setQ
  rw [val_add]
  split
  · rename_i h
    subst h
    rw [Rat.sub_eq_add_neg, Rat.add_comm c, ← Rat.add_assoc, Rat.add_neg_cancel, Rat.zero_add]
  · exact Rat.add_zero _
/-- what a dict says, sorted -/
def toldQ (es : Prs) : Prs := (sortR (es.map (·.1))).map fun k => (k, valQ es k)
/-- a dict whose every entry has P -/
structure Ent (P : List Int × Rat → Prop) (es : Prs) : Prop where
  nodup : (es.map (·.1)).Nodup
  each : ∀ k ∈ es.map (·.1), P (k, valQ es k)
theorem Ent.nil {P : List Int × Rat → Prop} : Ent P [] := ⟨List.nodup_nil, fun _ h => by cases h⟩
theorem Ent.set {P : List Int × Rat → Prop} {es : Prs} (h : Ent P es) {s : List Int} {c : Rat} (p : P (s, c)) : Ent P (setQ s c es) := by
  refine ⟨addQ_nodup h.nodup, fun k hk => ?_⟩
  rw [val_set]
  split
  · rename_i e
    rw [← e]
    exact p
  · rename_i e
    rcases addQ_mem.mp hk with rfl | hk
    · exact absurd rfl e
    · exact h.each k hk
theorem Ent.of {P : List Int × Rat → Prop} {ps : Prs} (h : Srt ps) (hp : ∀ p ∈ ps, P p) : Ent P ps := ⟨h.nodup, fun k hk => by
  obtain ⟨p, m, rfl⟩ := List.mem_map.mp hk
  rw [val_mem h.nodup p m]
  exact hp p m⟩
theorem Ent.told {P : List Int × Rat → Prop} {es : Prs} (h : Ent P es) (hz : ∀ p, P p → p.2 ≠ 0) : Srt (toldQ es) ∧ (∀ p ∈ toldQ es, P p) ∧ (toldQ es).length = es.length := by
  have e : (toldQ es).map (·.1) = sortR (es.map (·.1)) := by
    unfold toldQ
    rw [List.map_map]
    exact List.map_id _
  have hp : ∀ p ∈ toldQ es, P p := fun p hp => by
    obtain ⟨k, hk, rfl⟩ := List.mem_map.mp hp
    exact h.each k ((sortR_perm _).mem_iff.mp hk)
  refine ⟨⟨by rw [e]; exact (sortR_perm _).nodup_iff.mpr h.nodup, by rw [e]; exact sortR_up _, fun p q => hz p (hp p q)⟩, hp, ?_⟩
  have := (sortR_perm (es.map (·.1))).length_eq
  unfold toldQ
  rw [List.length_map, this, List.length_map]
/-! ### dict cells at any slot -/
section
variable {B B' : Sto} {es : Prs} {s : List Int} {c : Rat} {ρ : RE} {mv mx : M} {i j n : Nat}
end
/-! ### dict(pairs) -/
/-! ### draws with cells behind the feed's store -/
section
instance (priority := 5000) feedHere2 : Feed := feed1
end
end DN

/-! the feed of k19 to k36 -/
namespace DN
open PySem PySem.Spec PyProof.Rows L2 DK DL
def gFeedD : MS :=
    (sRetL (mLst (mCons (mFz (mCallL cList (mCons (mFz (mSlL (mVar 0) oNone (oSome (mC (.int (63)))))) mNil))) (mCons (mC (.int (0))) (mCons (mC (.int (0))) (mCons (mC (.int (0))) mNil))))))
def FFeedD : FL := runL 1 gFeedD
def gDrawD : MS :=
    (sSeq (sSet 2 (mOp fAdd (mOp fIx (mVar 0) (mC (.int (3)))) (mC (.int (1)))))
    (sSeq (sPut (mVar 0) (mC (.int (3))) (mVar 2))
    (sSeq (sIf (asB (mOp fGt (mOp fIx (mVar 0) (mC (.int (2)))) (mC (.int (0))))) (sSeq (sSet 3 (mOp fMod (mOp fIx (mVar 0) (mC (.int (2)))) (mVar 1)))
    (sSeq (sPut (mVar 0) (mC (.int (2))) (mOp fDiv (mOp fIx (mVar 0) (mC (.int (2)))) (mVar 1)))
    (sRet (mVar 3)))) sNil)
    (sSeq (sSet 4 (mC (.int (11))))
    (sSeq (sIf (asB (mOp fNe (mOp fIx (mVar 0) (mC (.int (0)))) (mFz (mLst mNil)))) (sSet 4 (mOp fIx (mOp fIx (mVar 0) (mC (.int (0)))) (mOp fMod (mOp fIx (mVar 0) (mC (.int (1)))) (mCall cLen (mCons (mOp fIx (mVar 0) (mC (.int (0)))) mNil))))) sNil)
    (sSeq (sPut (mVar 0) (mC (.int (1))) (mOp fAdd (mOp fIx (mVar 0) (mC (.int (1)))) (mC (.int (1)))))
    (sSeq (sIf (bAnd (asB (mOp fGe (mVar 4) (mOp fPow (mC (.int (10))) (mC (.int (18)))))) (asB (mOp fLe (mOp fIx (mVar 0) (mC (.int (1)))) (mCall cLen (mCons (mOp fIx (mVar 0) (mC (.int (0)))) mNil))))) (sSeq (sPut (mVar 0) (mC (.int (2))) (mOp fDiv (mVar 4) (mVar 1)))
    (sRet (mOp fMod (mVar 4) (mVar 1)))) sNil)
    (sSeq (sSet 5 (mOp fMod (mOp fPow (mOp fAdd (mOp fMod (mVar 4) (mC (.int (2147483629)))) (mOp fMul (mC (.int (7919))) (mVar 2))) (mC (.int (5)))) (mC (.int (2147483647)))))
    (sSeq (sSet 5 (mOp fMod (mOp fMul (mOp fAdd (mOp fDiv (mVar 5) (mC (.int (64)))) (mC (.int (104729)))) (mOp fPow (mOp fAdd (mOp fMod (mOp fMul (mC (.int (48271))) (mVar 2)) (mC (.int (65521)))) (mC (.int (1)))) (mC (.int (3))))) (mC (.int (2147483587)))))
    (sRet (mOp fMod (mOp fDiv (mVar 5) (mC (.int (64)))) (mVar 1))))))))))))
def FDrawD : FV := runF 6 gDrawD
theorem draw_specD {S : Sto} {j : Nat} {ms : List Int} {i q t many : Int} (hS : S[j]? = some (feedC ms i q t)) (ht0 : 0 ≤ t) (ht : t ≤ 100000000) (hp : 0 < many) (hl : many.natAbs.log2 < 9000) :
    ∃ r i' q', FDrawD [.c j, .d (.int many)] S = some (.d (.int r), S.set j (feedC ms i' q' (t + 1))) ∧ 0 ≤ r ∧ r < many := by
  have hj : j < S.length := (List.getElem?_eq_some_iff.mp hS).1
  have rd : ∀ {T : Sto} {i q t : Int} {ρ : RE} (y : PyData) (z : Int), T[j]? = some (feedC ms i q t) → ρ[0]? = some (some (.c j)) → atI (feedC ms i q t) z = some y → mOp fIx (mVar 0) (mC (.int z)) ρ T = some (.d y, T) := fun {T i q t ρ} y z h1 h2 h3 => by
    have v0 : mVar 0 ρ T = some (.c j, T) := by unfold mVar; rw [h2]
    exact mOp_of v0 rfl (fIx_cell h1 h3)
  have pt : ∀ {T : Sto} {i q t : Int} {ρ : RE} {mv : M} (z : Int) (n : Nat) (y : PyData), T[j]? = some (feedC ms i q t) → ρ[0]? = some (some (.c j)) → mv ρ T = some (.d y, T) → ixN 4 z = some n → sPut (mVar 0) (mC (.int z)) mv ρ T = some (.nx ρ (T.set j ((feedC ms i q t).set n y))) := fun {T i q t ρ mv} z n y h1 h2 h3 h4 => by
    have v0 : mVar 0 ρ T = some (.c j, T) := by unfold mVar; rw [h2]
    exact sPut_cell h3 v0 rfl h1 h4
  unfold FDrawD runF
  show ∃ r i' q', (gDrawD [some (.c j), some (.d (.int many)), none, none, none, none] S).bind _ = _ ∧ _
  unfold gDrawD
  rw [sSeq_nx (sSet_of (mOp_of (rd (.int t) 3 hS rfl rfl) rfl rfl))]
  show ∃ r i' q', ((sSeq _ _) [some (.c j), some (.d (.int many)), some (.d (.int (t + 1))), none, none, none] S).bind _ = _ ∧ _
  generalize hU : S.set j (feedC ms i q (t + 1)) = U
  have uj : U[j]? = some (feedC ms i q (t + 1)) := by rw [← hU]; exact set_get S hj _
  have ul : U.length = S.length := by rw [← hU]; exact len_set ..
  have put3 : sPut (mVar 0) (mC (.int 3)) (mVar 2) [some (.c j), some (.d (.int many)), some (.d (.int (t + 1))), none, none, none] S = some (.nx [some (.c j), some (.d (.int many)), some (.d (.int (t + 1))), none, none, none] U) := by
    rw [pt 3 3 (.int (t + 1)) hS rfl rfl rfl, ← hU]
    rfl
  rw [sSeq_nx put3]
  by_cases hc : 0 < q
  · have cond : asB (mOp fGt (mOp fIx (mVar 0) (mC (.int 2))) (mC (.int 0))) [some (.c j), some (.d (.int many)), some (.d (.int (t + 1))), none, none, none] U = some (true, U) := by
      refine asB_of (mOp_of (z := .d (.bool true)) (rd _ 2 uj rfl rfl) rfl ?_)
      show some (PV.d (.bool (decide (q > 0)))) = _
      rw [decide_eq_true hc]
    refine ⟨q % many, i, q / many, ?_, Int.emod_nonneg _ (by omega), Int.emod_lt_of_pos _ hp⟩
    rw [sSeq_rt (v := .d (.int (q % many))) (S' := U.set j (feedC ms i (q / many) (t + 1))) (by
      rw [sIf_t cond, sSeq_nx (sSet_of (mOp_of (rd _ 2 uj rfl rfl) rfl (fMod_int hp U)))]
      show (sSeq _ _) [some (.c j), some (.d (.int many)), some (.d (.int (t + 1))), some (.d (.int (q % many))), none, none] U = _
      rw [sSeq_nx (pt 2 2 _ uj rfl (mOp_of (rd _ 2 uj rfl rfl) rfl (fDiv_int hp hl U)) rfl)]
      rfl)]
    show some (PV.d (.int (q % many)), (U.set j _).take S.length) = _
    rw [List.take_of_length_le (by rw [len_set, ul]; exact Nat.le_refl _), ← hU, set_set]
  · have cond : asB (mOp fGt (mOp fIx (mVar 0) (mC (.int 2))) (mC (.int 0))) [some (.c j), some (.d (.int many)), some (.d (.int (t + 1))), none, none, none] U = some (false, U) := by
      refine asB_of (mOp_of (z := .d (.bool false)) (rd _ 2 uj rfl rfl) rfl ?_)
      show some (PV.d (.bool (decide (q > 0)))) = _
      rw [decide_eq_false hc]
    rw [sSeq_nx (ρ' := [some (.c j), some (.d (.int many)), some (.d (.int (t + 1))), none, none, none]) (S' := U) (by rw [sIf_f cond]; rfl)]
    rw [sSeq_nx (sSet_of (v := .d (.int 11)) rfl)]
    show ∃ r i' q', ((sSeq _ _) [some (.c j), some (.d (.int many)), some (.d (.int (t + 1))), none, some (.d (.int 11)), none] U).bind _ = _ ∧ _
    have lnT : ∀ {T : Sto} {i q t : Int} {ρ : RE}, T[j]? = some (feedC ms i q t) → ρ[0]? = some (some (.c j)) → mCall cLen (mCons (mOp fIx (mVar 0) (mC (.int 0))) mNil) ρ T = some (.d (.int (ms.length : Int)), T) := fun {T i q t ρ} tj h => by
      unfold mCall mCons
      rw [rd _ 0 tj h rfl]
      show some (PV.d (.int ((ms.map PyData.int).length : Int)), T) = _
      rw [List.length_map]
    have cell : ∃ x, sIf (asB (mOp fNe (mOp fIx (mVar 0) (mC (.int (0)))) (mFz (mLst mNil)))) (sSet 4 (mOp fIx (mOp fIx (mVar 0) (mC (.int (0)))) (mOp fMod (mOp fIx (mVar 0) (mC (.int (1)))) (mCall cLen (mCons (mOp fIx (mVar 0) (mC (.int (0)))) mNil))))) sNil [some (.c j), some (.d (.int many)), some (.d (.int (t + 1))), none, some (.d (.int 11)), none] U = some (.nx [some (.c j), some (.d (.int many)), some (.d (.int (t + 1))), none, some (.d (.int x)), none] U) := by
      have a0 := rd (ρ := [some (.c j), some (.d (.int many)), some (.d (.int (t + 1))), none, some (.d (.int 11)), none]) _ 0 uj rfl rfl
      have cn : asB (mOp fNe (mOp fIx (mVar 0) (mC (.int (0)))) (mFz (mLst mNil))) [some (.c j), some (.d (.int many)), some (.d (.int (t + 1))), none, some (.d (.int 11)), none] U = some (!ms.isEmpty, U) := by
        refine asB_of (mOp_of a0 rfl ?_)
        show (if (SeqAt.shaped (.list (ms.map .int)) && SeqAt.shaped (.list [])) = true then some (PV.d (.bool (!PyData.eqv (.list (ms.map .int)) (.list [])))) else none) = _
        rw [shaped_ints, eqv_nilB]
        rfl
      cases hms : ms with
      | nil =>
        rw [hms] at cn
        exact ⟨11, if_nx cn⟩
      | cons m r =>
        have hml : 0 < ms.length := by rw [hms]; simp
        have cn' := cn
        rw [hms] at cn'
        have b1 := Int.emod_nonneg i (show (ms.length : Int) ≠ 0 by omega)
        have b2 := Int.emod_lt_of_pos i (show (0 : Int) < ms.length by omega)
        have hx : ms[(i % (ms.length : Int)).toNat]? = some (ms[(i % (ms.length : Int)).toNat]'(by omega)) := List.getElem?_eq_getElem (by omega)
        generalize (ms[(i % (ms.length : Int)).toNat]'(by omega)) = x at hx
        refine ⟨x, (sIf_t cn').trans (sSet_of (i := 4) ?_)⟩
        refine mOp_of a0 (mOp_of (rd (.int i) 1 uj rfl rfl) (lnT uj rfl) (fMod_int (by omega) U)) ?_
        have hxa : atI (ms.map PyData.int) (i % (ms.length : Int)) = some (.int x) := by
          unfold atI ixN
          rw [List.length_map, if_pos b1, if_pos b2]
          show (ms.map PyData.int)[(i % (ms.length : Int)).toNat]? = _
          rw [List.getElem?_map, hx]
          rfl
        show (atI (ms.map PyData.int) (i % (ms.length : Int))).map PV.d = _
        rw [hxa]
        rfl
    obtain ⟨x, cell⟩ := cell
    rw [sSeq_nx cell]
    generalize hT : U.set j (feedC ms (i + 1) q (t + 1)) = T
    have tj : T[j]? = some (feedC ms (i + 1) q (t + 1)) := by rw [← hT]; exact set_get U (by rw [ul]; exact hj) _
    have tl : T.length = S.length := by rw [← hT, ← ul]; exact len_set ..
    have put1 : sPut (mVar 0) (mC (.int 1)) (mOp fAdd (mOp fIx (mVar 0) (mC (.int (1)))) (mC (.int 1))) [some (.c j), some (.d (.int many)), some (.d (.int (t + 1))), none, some (.d (.int x)), none] U = some (.nx [some (.c j), some (.d (.int many)), some (.d (.int (t + 1))), none, some (.d (.int x)), none] T) := by
      rw [pt 1 1 (.int (i + 1)) uj rfl (mOp_of (rd (.int i) 1 uj rfl rfl) rfl rfl) rfl, ← hT]
      rfl
    rw [sSeq_nx put1]
    have ca : asB (mOp fGe (mVar 4) (mOp fPow (mC (.int (10))) (mC (.int (18))))) [some (.c j), some (.d (.int many)), some (.d (.int (t + 1))), none, some (.d (.int x)), none] T = some (decide (x ≥ 10 ^ 18), T) := asB_of (mOp_of rfl (mOp_of rfl rfl (fPow_int (by decide) (by decide) (by decide) T)) rfl)
    have cb : asB (mOp fLe (mOp fIx (mVar 0) (mC (.int (1)))) (mCall cLen (mCons (mOp fIx (mVar 0) (mC (.int (0)))) mNil))) [some (.c j), some (.d (.int many)), some (.d (.int (t + 1))), none, some (.d (.int x)), none] T = some (decide (i + 1 ≤ (ms.length : Int)), T) := asB_of (mOp_of (rd (.int (i + 1)) 1 tj rfl rfl) (lnT tj rfl) rfl)
    have cc := bAnd_of ca cb (fun _ => rfl)
    by_cases hb : (decide (x ≥ 10 ^ 18) && decide (i + 1 ≤ (ms.length : Int))) = true
    · rw [hb] at cc
      refine ⟨x % many, i + 1, x / many, ?_, Int.emod_nonneg _ (by omega), Int.emod_lt_of_pos _ hp⟩
      rw [sSeq_rt (v := .d (.int (x % many))) (S' := T.set j (feedC ms (i + 1) (x / many) (t + 1))) (by
        rw [sIf_t cc, sSeq_nx (pt 2 2 _ tj rfl (mOp_of rfl rfl (fDiv_int hp hl T)) rfl)]
        exact sRet_of (mOp_of rfl rfl (fMod_int hp _)))]
      show some (PV.d (.int (x % many)), (T.set j _).take S.length) = _
      rw [List.take_of_length_le (by rw [len_set, tl]; exact Nat.le_refl _), ← hT, set_set, ← hU, set_set]
    · rw [Bool.not_eq_true] at hb
      rw [hb] at cc
      rw [sSeq_nx (ρ' := [some (.c j), some (.d (.int many)), some (.d (.int (t + 1))), none, some (.d (.int x)), none]) (S' := T) (by rw [sIf_f cc]; rfl)]
      have u0 := Int.emod_nonneg x (show (2147483629 : Int) ≠ 0 by decide)
      have u1 := Int.emod_lt_of_pos x (show (0 : Int) < 2147483629 by decide)
      let b1 : Int := x % 2147483629 + 7919 * (t + 1)
      let w1 : Int := b1 ^ 5 % 2147483647
      have w10 : 0 ≤ w1 := Int.emod_nonneg _ (by decide)
      have w11 : w1 < 2147483647 := Int.emod_lt_of_pos _ (by decide)
      let b2 : Int := 48271 * (t + 1) % 65521 + 1
      have b20 : 0 ≤ 48271 * (t + 1) % 65521 := Int.emod_nonneg _ (by decide)
      have b21 : 48271 * (t + 1) % 65521 < 65521 := Int.emod_lt_of_pos _ (by decide)
      let w2 : Int := (w1 / 64 + 104729) * b2 ^ 3 % 2147483587
      have m1 : mOp fMod (mOp fPow (mOp fAdd (mOp fMod (mVar 4) (mC (.int (2147483629)))) (mOp fMul (mC (.int (7919))) (mVar 2))) (mC (.int (5)))) (mC (.int (2147483647))) [some (.c j), some (.d (.int many)), some (.d (.int (t + 1))), none, some (.d (.int x)), none] T = some (.d (.int w1), T) :=
        mOp_of (mOp_of (z := .d (.int (b1 ^ 5))) (mOp_of (z := .d (.int b1)) (mOp_of rfl rfl (fMod_int (by decide) T)) (mOp_of rfl rfl (fMul_l (by decide) (by decide) T)) rfl) rfl (fPow_int (by decide) (by decide) (by show (x % 2147483629 + 7919 * (t + 1)).natAbs < 2 ^ 64; omega) T)) rfl (fMod_int (by decide) T)
      have m2 : mOp fMod (mOp fMul (mOp fAdd (mOp fDiv (mVar 5) (mC (.int (64)))) (mC (.int (104729)))) (mOp fPow (mOp fAdd (mOp fMod (mOp fMul (mC (.int (48271))) (mVar 2)) (mC (.int (65521)))) (mC (.int (1)))) (mC (.int (3))))) (mC (.int (2147483587))) [some (.c j), some (.d (.int many)), some (.d (.int (t + 1))), none, some (.d (.int x)), some (.d (.int w1))] T = some (.d (.int w2), T) :=
        mOp_of (mOp_of (z := .d (.int ((w1 / 64 + 104729) * b2 ^ 3))) (mOp_of (mOp_of rfl rfl (fDiv_int (by decide) (by decide) T)) rfl rfl) (mOp_of (z := .d (.int (b2 ^ 3))) (mOp_of (z := .d (.int b2)) (mOp_of (mOp_of rfl rfl (fMul_l (by decide) (by decide) T)) rfl (fMod_int (by decide) T)) rfl rfl) rfl (fPow_int (by decide) (by decide) (by show (48271 * (t + 1) % 65521 + 1).natAbs < 2 ^ 64; omega) T)) (fMul_l (by omega) (by omega) T)) rfl (fMod_int (by decide) T)
      have m3 : mOp fMod (mOp fDiv (mVar 5) (mC (.int (64)))) (mVar 1) [some (.c j), some (.d (.int many)), some (.d (.int (t + 1))), none, some (.d (.int x)), some (.d (.int w2))] T = some (.d (.int (w2 / 64 % many)), T) :=
        mOp_of (mOp_of rfl rfl (fDiv_int (by decide) (by decide) T)) rfl (fMod_int hp T)
      refine ⟨w2 / 64 % many, i + 1, q, ?_, Int.emod_nonneg _ (by omega), Int.emod_lt_of_pos _ hp⟩
      rw [sSeq_nx (sSet_of m1)]
      show ((sSeq _ _) [some (.c j), some (.d (.int many)), some (.d (.int (t + 1))), none, some (.d (.int x)), some (.d (.int w1))] T).bind _ = _
      rw [sSeq_nx (sSet_of m2)]
      show ((sRet _) [some (.c j), some (.d (.int many)), some (.d (.int (t + 1))), none, some (.d (.int x)), some (.d (.int w2))] T).bind _ = _
      rw [sRet_of m3]
      show some (PV.d (.int (w2 / 64 % many)), T.take S.length) = _
      rw [List.take_of_length_le (by rw [tl]; exact Nat.le_refl _), ← hT, ← hU, set_set]
theorem feed_specD (ns : List Int) (h : ns.length ≤ 63) : FFeedD [.d (.list (ns.map .int))] [] = some (feedC ns 0 0 0, []) := by
  have hl : (ns.map PyData.int).length ≤ 63 := by rw [List.length_map]; exact h
  have sl : mSlL (mVar 0) oNone (oSome (mC (.int (63)))) [some (.d (.list (ns.map .int)))] [] = some (ns.map .int, []) := by
    show some (cut (ns.map PyData.int) none (some 63), []) = _
    rw [cut63 _ hl]
  unfold FFeedD runL
  show (gFeedD [some (.d (.list (ns.map .int)))] []).bind _ = _
  unfold gFeedD sRetL
  rw [mLst_of (mCons_of (mFz_of (mCallL_of (mCons_of (mFz_of sl) rfl) rfl)) rfl) rfl (by simp)]
  rfl
@[reducible] def feed3 : Feed where
  P := fun k c => ∃ (ms : List Int) (i q t : Int), c = feedC ms i q t ∧ 0 ≤ t ∧ t ≤ k
  mono := fun ⟨ms, i, q, t, a, b, c⟩ h => ⟨ms, i, q, t, a, b, by omega⟩
section
local instance (priority := 20000) feedHere3 : Feed := feed3
def Fe (T : ASto) (j k : Nat) (S : Sto) : Prop := j < T.length ∧ RSt (T.set j (.feed k)) S
theorem Fe.of {T : ASto} {j k : Nat} {S : Sto} (h : T[j]? = some (.feed k)) (hs : RSt T S) : Fe T j k S := by
  obtain ⟨hl, e⟩ := List.getElem?_eq_some_iff.mp h
  refine ⟨hl, ?_⟩
  rw [← e, List.set_getElem_self]
  exact hs
theorem Fe.len {T : ASto} {j k : Nat} {S : Sto} (h : Fe T j k S) : S.length = T.length := by
  have := h.2.len
  rw [List.length_set] at this
  exact this.symm
theorem Fe.mono {T : ASto} {j k l : Nat} {S : Sto} (h : Fe T j k S) (hk : k ≤ l) : Fe T j l S := by
  refine ⟨h.1, ?_⟩
  have e : (T.set j (.feed k))[j]? = some (.feed k) := List.getElem?_set_self h.1
  obtain ⟨c, ec, g⟩ := stF h.2 e
  have z := All2.set (R := RC) (show RC (.feed l) (.l c) from Feed.mono g hk) j h.2
  rw [List.set_set] at z
  obtain ⟨hl, e2⟩ := List.getElem?_eq_some_iff.mp ec
  rw [← e2, List.set_getElem_self] at z
  exact z
theorem Fe.drawD {T : ASto} {j k : Nat} {S : Sto} (E : Sto) {many : Int} (h : Fe T j k S) (hk : k ≤ 9999999) (hp : 0 < many) (hl : many ≤ 1000000) :
    ∃ r S', FDrawD [.c j, .d (.int many)] (S ++ E) = some (.d (.int r), S' ++ E) ∧ 0 ≤ r ∧ r < many ∧ Fe T j (k + 1) S' := by
  have e : (T.set j (.feed k))[j]? = some (.feed k) := List.getElem?_set_self h.1
  obtain ⟨c, ec, ms, i, q, t, rfl, h1, h2⟩ := stF h.2 e
  have hj : j < S.length := (List.getElem?_eq_some_iff.mp ec).1
  obtain ⟨r, i', c', f, r0, r1⟩ := draw_specD (S := S ++ E) (j := j) (many := many) (by rw [List.getElem?_append_left hj]; exact ec) h1 (by omega) hp (log2_small (by omega) (by omega))
  refine ⟨r, S.set j (feedC ms i' c' (t + 1)), ?_, r0, r1, h.1, ?_⟩
  · rw [f, List.set_append_left _ _ hj]
  · have z := All2.set (R := RC) (show RC (.feed (k + 1)) (.l (feedC ms i' c' (t + 1))) from ⟨ms, i', c', t + 1, rfl, by omega, by omega⟩) j h.2
    rw [List.set_set] at z
    exact z
end
end DN

/-! xs.insert(i, y), xs.clear() -/
namespace DL
open PySem PySem.Spec PyProof.Rows L2 DK
section
variable [Nms] [Tabs]
variable {X : Cx} {o e f : Expr} {mo mi mv : M} {apos cpos : Pos}
def mInsert (mo mi mv : M) : M := fun ρ S => (mo ρ S).bind fun o => (mi ρ o.2).bind fun i => (mv ρ i.2).bind fun v => match o.1, i.1, v.1 with
  | .c j, .d (.int z), .d y => if (lAt o.2 j).isSome = true then (lAt v.2 j).bind fun ds => if ds.length < 1000000 ∧ 0 ≤ z ∧ z < 1000000000 then some (.d .none, v.2.set j (.l (ds.take z.toNat ++ [y] ++ ds.drop z.toNat))) else none else none
  | _, _, _ => none
def mClear (mo : M) : M := fun ρ S => (mo ρ S).bind fun o => match o.1 with
  | .c j => (lAt o.2 j).bind fun _ => some (.d .none, o.2.set j (.l []))
  | _ => none
end
instance (mo mi mv : M) [FrM mo] [FrM mi] [FrM mv] : FrM (mInsert mo mi mv) := ⟨fun ρ S T => by
  unfold mInsert
  rw [FrM.fr (m := mo)]
  cases mo ρ T with
  | none => rfl
  | some o =>
    show (mi (shR S.length ρ) (S ++ o.2)).bind _ = Option.map _ ((mi ρ o.2).bind _)
    rw [FrM.fr (m := mi)]
    cases mi ρ o.2 with
    | none => rfl
    | some i =>
      show (mv (shR S.length ρ) (S ++ i.2)).bind _ = Option.map _ ((mv ρ i.2).bind _)
      rw [FrM.fr (m := mv)]
      cases mv ρ i.2 with
      | none => rfl
      | some v =>
        obtain ⟨o, T1⟩ := o
        obtain ⟨i, T2⟩ := i
        obtain ⟨v, T3⟩ := v
        cases o with
        | d _ => rfl
        | f _ => first | rfl | exact h | (cases e; done) | (cases e1; done) | (cases e2; done) | (cases e3; done) | (cases e4; done) | (cases e5; done) | (cases e6; done) | (cases h; done) | (cases h1; done) | (cases h2; done) | (cases h3; done) | (cases b; done) | (cases q; done) | exact h.elim | exact g.elim | exact r.elim | exact r.1.elim | exact r1.elim | exact r2.elim | exact z.elim | exact h1.elim | contradiction | (cases y <;> rfl) | (cases x <;> rfl) | (cases q <;> rfl) | (cases a <;> rfl) | exact L _ _ | exact L _ | (simp_all; done)
        | c j =>
          cases i with
          | f _ => first | rfl | exact h | (cases e; done) | (cases e1; done) | (cases e2; done) | (cases e3; done) | (cases e4; done) | (cases e5; done) | (cases e6; done) | (cases h; done) | (cases h1; done) | (cases h2; done) | (cases h3; done) | (cases b; done) | (cases q; done) | exact h.elim | exact g.elim | exact r.elim | exact r.1.elim | exact r1.elim | exact r2.elim | exact z.elim | exact h1.elim | contradiction | (cases y <;> rfl) | (cases x <;> rfl) | (cases q <;> rfl) | (cases a <;> rfl) | exact L _ _ | exact L _ | (simp_all; done)
          | c _ => rfl
          | d z =>
            cases z with
            | int z =>
              cases v with
              | f _ => first | rfl | exact h | (cases e; done) | (cases e1; done) | (cases e2; done) | (cases e3; done) | (cases e4; done) | (cases e5; done) | (cases e6; done) | (cases h; done) | (cases h1; done) | (cases h2; done) | (cases h3; done) | (cases b; done) | (cases q; done) | exact h.elim | exact g.elim | exact r.elim | exact r.1.elim | exact r1.elim | exact r2.elim | exact z.elim | exact h1.elim | contradiction | (cases y <;> rfl) | (cases x <;> rfl) | (cases q <;> rfl) | (cases a <;> rfl) | exact L _ _ | exact L _ | (simp_all; done)
              | c _ => rfl
              | d y =>
                show (if (lAt (S ++ T1) (S.length + j)).isSome = true then (lAt (S ++ T3) (S.length + j)).bind _ else none) = Option.map _ (if (lAt T1 j).isSome = true then (lAt T3 j).bind _ else none)
                rw [lAt_sh, lAt_sh]
                cases (lAt T1 j).isSome with
                | false => rfl
                | true =>
                  rw [if_pos rfl, if_pos rfl]
                  cases lAt T3 j with
                  | none => rfl
                  | some ds =>
                    dsimp
                    split
                    · rw [sto_set]; rfl
                    · rfl
            | _ => cases v <;> rfl⟩
instance (mo : M) [FrM mo] : FrM (mClear mo) := ⟨fun ρ S T => by
  unfold mClear
  rw [FrM.fr (m := mo)]
  cases mo ρ T with
  | none => rfl
  | some o =>
    obtain ⟨o, T1⟩ := o
    cases o with
    | d _ => rfl
    | f _ => first | rfl | exact h | (cases e; done) | (cases e1; done) | (cases e2; done) | (cases e3; done) | (cases e4; done) | (cases e5; done) | (cases e6; done) | (cases h; done) | (cases h1; done) | (cases h2; done) | (cases h3; done) | (cases b; done) | (cases q; done) | exact h.elim | exact g.elim | exact r.elim | exact r.1.elim | exact r1.elim | exact r2.elim | exact z.elim | exact h1.elim | contradiction | (cases y <;> rfl) | (cases x <;> rfl) | (cases q <;> rfl) | (cases a <;> rfl) | exact L _ _ | exact L _ | (simp_all; done)
    | c j =>
      show (lAt (S ++ T1) (S.length + j)).bind _ = Option.map _ ((lAt T1 j).bind _)
      rw [lAt_sh]
      cases lAt T1 j with
      | none => rfl
      | some ds =>
        show some (PV.d .none, (S ++ T1).set (S.length + j) (.l [])) = _
        rw [sto_set]
        rfl⟩
end DL

/-! sep.join(texts); calls without arguments -/
namespace DL
open PySem PySem.Spec PyProof.Rows L2 DK
section
variable {X : Cx} {CX : CXT} {k n : Nat} {f : Addr} {fd : FuncData} {ps : List Str} {sp : Sp} {E : XK} {x : Str} {p pos : Pos}
end
section
variable [Nms] [Tabs]
variable {X : Cx} {k : Nat} {f : Addr} {fd : FuncData} {ps : List Str} {x : Str} {p pos : Pos}
/-! ### join -/
def strsOf : List PyData → Option (List Str)
  | [] => some []
  | .str a :: r => (strsOf r).map (a :: ·)
  | _ => none
/-- the items of data or of a list of ours -/
def itemsJ (S : Sto) : PV → Option (List PyData)
  | .d (.list xs) => some xs
  | .d (.tuple xs) => some xs
  | .c j => lAt S j
  | _ => none
def mJoin (mo mi : M) : M := fun ρ S => (mo ρ S).bind fun o => (mi ρ o.2).bind fun i => match o.1 with
  | .d (.str a) => (itemsJ i.2 i.1).bind fun ds => (strsOf ds).bind fun ys => if (ys.map (·.length)).sum + ys.length * a.length ≤ 16777216 then some (.d (.str (Txt.join a ys)), i.2) else none
  | _ => none
variable {o e : Expr} {mo mi : M} {apos cpos : Pos}
end
instance (mo mi : M) [FrM mo] [FrM mi] : FrM (mJoin mo mi) := ⟨fun ρ S T => by
  unfold mJoin
  rw [FrM.fr (m := mo)]
  cases mo ρ T with
  | none => rfl
  | some o =>
    show (mi (shR S.length ρ) (S ++ o.2)).bind _ = Option.map _ ((mi ρ o.2).bind _)
    rw [FrM.fr (m := mi)]
    cases mi ρ o.2 with
    | none => rfl
    | some i =>
      obtain ⟨o, T1⟩ := o
      obtain ⟨i, T2⟩ := i
      cases o with
      | f _ => first | rfl | exact h | (cases e; done) | (cases e1; done) | (cases e2; done) | (cases e3; done) | (cases e4; done) | (cases e5; done) | (cases e6; done) | (cases h; done) | (cases h1; done) | (cases h2; done) | (cases h3; done) | (cases b; done) | (cases q; done) | exact h.elim | exact g.elim | exact r.elim | exact r.1.elim | exact r1.elim | exact r2.elim | exact z.elim | exact h1.elim | contradiction | (cases y <;> rfl) | (cases x <;> rfl) | (cases q <;> rfl) | (cases a <;> rfl) | exact L _ _ | exact L _ | (simp_all; done)
      | c _ => rfl
      | d d =>
        cases d with
        | str a =>
          have hi : itemsJ (S ++ T2) (shV S.length i) = itemsJ T2 i := by
            cases i with
            | f _ => first | rfl | exact h | (cases e; done) | (cases e1; done) | (cases e2; done) | (cases e3; done) | (cases e4; done) | (cases e5; done) | (cases e6; done) | (cases h; done) | (cases h1; done) | (cases h2; done) | (cases h3; done) | (cases b; done) | (cases q; done) | exact h.elim | exact g.elim | exact r.elim | exact r.1.elim | exact r1.elim | exact r2.elim | exact z.elim | exact h1.elim | contradiction | (cases y <;> rfl) | (cases x <;> rfl) | (cases q <;> rfl) | (cases a <;> rfl) | exact L _ _ | exact L _ | (simp_all; done)
            | c j => exact lAt_sh S T2 j
            | d d => cases d <;> rfl
          show (itemsJ (S ++ T2) (shV S.length i)).bind _ = Option.map _ ((itemsJ T2 i).bind _)
          rw [hi]
          cases itemsJ T2 i with
          | none => rfl
          | some ds =>
            show (strsOf ds).bind _ = Option.map _ ((strsOf ds).bind _)
            cases strsOf ds with
            | none => rfl
            | some ys =>
              dsimp
              split <;> rfl
        | _ => rfl⟩
end DL

/-! texts that are reckoned: what they show -/
namespace DN
open PySem PySem.Spec PyProof.Rows L2 DK DL
theorem codes_ok {a : Array Nat} : (a.all (· < 0x110000)) = true ↔ ∀ c ∈ a.toList, c < 0x110000 := by
  rw [Array.all_eq_true']
  constructor
  · intro h c hc
    exact of_decide_eq_true (h c (by simpa using hc))
  · intro h c hc
    exact decide_eq_true (h c (by simpa using hc))
theorem hexDig (c : Nat) : ∀ d ∈ (Nat.toDigits 16 c).map Char.toNat, d < 0x110000 := fun d hd => by
  obtain ⟨ch, _, rfl⟩ := List.mem_map.mp hd
  have := ch.valid
  unfold Char.toNat
  rcases this with h | h
  · have : ch.val.toNat < 0xd800 := h
    omega
  · exact h.2
theorem hexPad (c w : Nat) : ∀ d ∈ List.replicate (w - ((Nat.toDigits 16 c).map Char.toNat).length) 48 ++ (Nat.toDigits 16 c).map Char.toNat, d < 0x110000 := fun d hd => by
  rcases List.mem_append.mp hd with h | h
  · rw [List.eq_of_mem_replicate h]
    decide
  · exact hexDig c d h
theorem reprChar_ok {q c : Nat} (hc : c < 0x110000) : ∀ d ∈ Builtin.Str.reprChar q c, d < 0x110000 := fun d hd => by
  unfold Builtin.Str.reprChar at hd
  have two : ∀ x y : Nat, x < 0x110000 → y < 0x110000 → d ∈ [x, y] → d < 0x110000 := fun x y hx hy h => by
    rcases List.mem_cons.mp h with rfl | h
    · exact hx
    · rw [List.mem_singleton.mp h]
      exact hy
  have pad : ∀ (x y w : Nat), x < 0x110000 → y < 0x110000 → d ∈ [x, y] ++ (List.replicate (w - ((Nat.toDigits 16 c).map Char.toNat).length) 48 ++ (Nat.toDigits 16 c).map Char.toNat) → d < 0x110000 := fun x y w hx hy h => by
    rcases List.mem_append.mp h with h | h
    · exact two x y hx hy h
    · exact hexPad c w d h
  dsimp only at hd
  split at hd
  · exact two _ _ (by decide) hc hd
  · split at hd
    · exact two _ _ (by decide) (by decide) hd
    · split at hd
      · exact two _ _ (by decide) (by decide) hd
      · split at hd
        · exact two _ _ (by decide) (by decide) hd
        · split at hd
          · rw [List.mem_singleton.mp hd]
            exact hc
          · split at hd
            · exact pad _ _ _ (by decide) (by decide) hd
            · split at hd
              · exact pad _ _ _ (by decide) (by decide) hd
              · exact pad _ _ _ (by decide) (by decide) hd
theorem foldl_ok (q : Nat) : ∀ (l : List Nat) (acc : Array Nat), (∀ c ∈ acc.toList, c < 0x110000) → (∀ c ∈ l, c < 0x110000) → ∀ c ∈ (l.foldl (fun out c => out ++ (Builtin.Str.reprChar q c).toArray) acc).toList, c < 0x110000
  | [], _, h, _ => h
  | x :: l, acc, h, g => foldl_ok q l _ (fun c hc => by
    rw [Array.toList_append, List.toList_toArray] at hc
    rcases List.mem_append.mp hc with hc | hc
    · exact h c hc
    · exact reprChar_ok (g x List.mem_cons_self) c hc) fun c hc => g c (List.mem_cons_of_mem _ hc)
theorem quote_ok (x : Str) : reprQuote x < 0x110000 := by
  unfold reprQuote
  split <;> decide
theorem ok_repr {x : Str} (h : PyData.strOk x = true) : PyData.strOk (reprText x) = true := by
  have hx : ∀ c ∈ x.cps.toList, c < 0x110000 := codes_ok.mp h
  refine codes_ok.mpr fun c hc => ?_
  unfold reprText at hc
  rw [Array.toList_push, ← Array.foldl_toList] at hc
  rcases List.mem_append.mp hc with hc | hc
  · refine foldl_ok _ _ _ (fun c hc => ?_) hx c hc
    rw [show c = reprQuote x from by simpa using hc]
    exact quote_ok x
  · rw [List.mem_singleton.mp hc]
    exact quote_ok x
theorem okk_str {x : Str} {L : Nat} (h : PyData.strOk x = true) (hl : x.length ≤ L) : Okk 0 (10 * L + 2) (.str x) := by
  have hx : ∀ c ∈ x.cps.toList, c < 0x110000 := codes_ok.mp h
  have ln := StrLaws.reprText_len x fun c hc => Nat.lt_trans (hx c hc) (by decide)
  exact ⟨rfl, rfl, Nat.le_refl _, Nat.le_trans ln (by omega), ok_repr h, h⟩
end DN

/-! powers of whole numbers of any size -/
namespace DL
open PySem PySem.Spec PyProof.Rows L2 DK
section
variable [Nms] [Tabs]
variable {X : Cx} {a b : Expr} {ma mb : M} {pos : Pos}
end
end DL

/-! a global tuple of texts -/
namespace DL
open PySem PySem.Spec PyProof.Rows L2 DK
end DL

/-! x in a tuple; s.upper() -/
namespace DL
open PySem PySem.Spec PyProof.Rows L2 DK
def fInT : PV → PV → Sto → Option PV := fun x y S => (asD S x).bind fun a => match y with
  | .d (.tuple ds) => if (SeqAt.shaped a && SeqAt.shaped (.tuple ds)) = true then some (.d (.bool (ds.any fun z => PyData.eqv z a))) else none
  | _ => none
section
variable [Nms] [Tabs]
variable {X : Cx} {a b : Expr} {ma mb : M} {k : Nat} {pos : Pos}
def mUpper (mo : M) : M := fun ρ S => (mo ρ S).bind fun o => match o.1 with
  | .d (.str a) => if a.length ≤ 1000000 then some (.d (.str (Txt.upper a)), o.2) else none
  | _ => none
variable {o : Expr} {mo : M} {apos cpos : Pos}
end
instance : FrOp fInT := ⟨fun x y S T => by
  unfold fInT
  rw [sh_asD]
  cases asD T x with
  | none => rfl
  | some a =>
    cases y with
    | f _ => first | rfl | exact h | (cases e; done) | (cases e1; done) | (cases e2; done) | (cases e3; done) | (cases e4; done) | (cases e5; done) | (cases e6; done) | (cases h; done) | (cases h1; done) | (cases h2; done) | (cases h3; done) | (cases b; done) | (cases q; done) | exact h.elim | exact g.elim | exact r.elim | exact r.1.elim | exact r1.elim | exact r2.elim | exact z.elim | exact h1.elim | contradiction | (cases y <;> rfl) | (cases x <;> rfl) | (cases q <;> rfl) | (cases a <;> rfl) | exact L _ _ | exact L _ | (simp_all; done)
    | c j => rfl
    | d y =>
      cases y with
      | tuple ds =>
        dsimp [shV]
        split <;> rfl
      | _ => rfl⟩
instance (mo : M) [FrM mo] : FrM (mUpper mo) := ⟨fun ρ S T => by
  unfold mUpper
  rw [FrM.fr (m := mo)]
  cases mo ρ T with
  | none => rfl
  | some o =>
    obtain ⟨o, T1⟩ := o
    cases o with
    | f _ => first | rfl | exact h | (cases e; done) | (cases e1; done) | (cases e2; done) | (cases e3; done) | (cases e4; done) | (cases e5; done) | (cases e6; done) | (cases h; done) | (cases h1; done) | (cases h2; done) | (cases h3; done) | (cases b; done) | (cases q; done) | exact h.elim | exact g.elim | exact r.elim | exact r.1.elim | exact r1.elim | exact r2.elim | exact z.elim | exact h1.elim | contradiction | (cases y <;> rfl) | (cases x <;> rfl) | (cases q <;> rfl) | (cases a <;> rfl) | exact L _ _ | exact L _ | (simp_all; done)
    | c _ => rfl
    | d d =>
      cases d with
      | str a =>
        dsimp [shV]
        split <;> rfl
      | _ => rfl⟩
end DL

/-! x is None -/
namespace DL
open PySem PySem.Spec PyProof.Rows L2 DK
def isNoneP : PV → Bool
  | .d .none => true
  | _ => false
def fIsN (no : Bool) : PV → PV → Sto → Option PV := fun x y _ => match y with
  | .d .none => some (.d (.bool (no != isNoneP x)))
  | _ => none
theorem isNone_vr [Nms] {K : Fg} {as : List Addr} {H : Hp} {u : V} {x : PV} (h : VR K as H u x) : decide (u = V.non) = isNoneP x := by
  cases x with
  | f j =>
    obtain ⟨a, _, rfl⟩ := h
    exact decide_eq_false (fun z => by cases z)
  | c j =>
    obtain ⟨a, _, rfl⟩ := h
    exact decide_eq_false (fun z => by cases z)
  | d d =>
    have h : Dp K (hide as H) u d := h
    cases h <;> first | rfl | exact decide_eq_false (fun z => by cases z)
theorem opD_isN [Nms] {K : Fg} : OpD K (fun x y H Q => y = .non ∧ Q (.bl (decide (x = .non))) H) (fIsN false) := by
  intro as S H u w x y z Q R V1 V2 e k
  unfold fIsN at e
  split at e
  · cases e
    have n : w = .non := by
      have h : Dp K (hide as H) w .none := V2
      cases h
      rfl
    refine ⟨n, ?_⟩
    rw [isNone_vr V1]
    have : (false != isNoneP x) = isNoneP x := by cases isNoneP x <;> rfl
    rw [this] at k
    exact k _ H R .refl (.bl _)
  · cases e
theorem opD_notN [Nms] {K : Fg} : OpD K (fun x y H Q => y = .non ∧ Q (.bl (!decide (x = .non))) H) (fIsN true) := by
  intro as S H u w x y z Q R V1 V2 e k
  unfold fIsN at e
  split at e
  · cases e
    have n : w = .non := by
      have h : Dp K (hide as H) w .none := V2
      cases h
      rfl
    refine ⟨n, ?_⟩
    rw [isNone_vr V1]
    have : (true != isNoneP x) = !isNoneP x := by cases isNoneP x <;> rfl
    rw [this] at k
    exact k _ H R .refl (.bl _)
  · cases e
section
variable [Nms] [Tabs]
variable {X : Cx} {a b : Expr} {ma mb : M} {k : Nat} {pos : Pos}
theorem db_is (ha : DE X a ma) (hb : DE X b mb) (hm : behindInMarks .Is b = false := by with_unfolding_all rfl) : DB X (.Compare a [.Is] [b] pos) (asB (mOp (fIsN false) ma mb)) := db_cmp op_isN opD_isN ha hb hm
theorem db_isnot (ha : DE X a ma) (hb : DE X b mb) (hm : behindInMarks .IsNot b = false := by with_unfolding_all rfl) : DB X (.Compare a [.IsNot] [b] pos) (asB (mOp (fIsN true) ma mb)) := db_cmp op_notN opD_notN ha hb hm
end
instance (no : Bool) : FrOp (fIsN no) := ⟨fun x y S T => by
  unfold fIsN
  cases y with
  | f _ => first | rfl | exact h | (cases e; done) | (cases e1; done) | (cases e2; done) | (cases e3; done) | (cases e4; done) | (cases e5; done) | (cases e6; done) | (cases h; done) | (cases h1; done) | (cases h2; done) | (cases h3; done) | (cases b; done) | (cases q; done) | exact h.elim | exact g.elim | exact r.elim | exact r.1.elim | exact r1.elim | exact r2.elim | exact z.elim | exact h1.elim | contradiction | (cases y <;> rfl) | (cases x <;> rfl) | (cases q <;> rfl) | (cases a <;> rfl) | exact L _ _ | exact L _ | (simp_all; done)
  | c j => rfl
  | d y =>
    cases y with
    | none =>
      show some (PV.d (.bool (no != isNoneP (shV S.length x)))) = _
      have : isNoneP (shV S.length x) = isNoneP x := by
        cases x with
        | f _ => first | rfl | exact h | (cases e; done) | (cases e1; done) | (cases e2; done) | (cases e3; done) | (cases e4; done) | (cases e5; done) | (cases e6; done) | (cases h; done) | (cases h1; done) | (cases h2; done) | (cases h3; done) | (cases b; done) | (cases q; done) | exact h.elim | exact g.elim | exact r.elim | exact r.1.elim | exact r1.elim | exact r2.elim | exact z.elim | exact h1.elim | contradiction | (cases y <;> rfl) | (cases x <;> rfl) | (cases q <;> rfl) | (cases a <;> rfl) | exact L _ _ | exact L _ | (simp_all; done)
        | c j => rfl
        | d d => rfl
      rw [this]
      rfl
    | _ => rfl⟩
end DL

/-! max(xs), min(xs) of a list of whole numbers -/
namespace DL
open PySem PySem.Spec PyProof.Rows L2 DK
def maxL : Int → List Int → Int
  | n, [] => n
  | n, y :: r => maxL (if y > n then y else n) r
def minL : Int → List Int → Int
  | n, [] => n
  | n, y :: r => minL (if y < n then y else n) r
theorem minL_spec : ∀ (r : List Int) (n : Int), minL n r ∈ n :: r ∧ ∀ y ∈ n :: r, minL n r ≤ y
  | [], n => ⟨List.mem_cons_self, fun y hy => by rw [List.mem_singleton.mp hy]; exact Int.le_refl _⟩
  | x :: r, n => by
    have hw : ∃ w, (if x < n then x else n) = w ∧ w ≤ n ∧ w ≤ x ∧ (w = n ∨ w = x) := ⟨_, rfl, by split <;> omega, by split <;> omega, by split <;> simp⟩
    obtain ⟨w, ew, w1, w2, w3⟩ := hw
    obtain ⟨h1, h2⟩ := minL_spec r w
    have h3 := h2 _ List.mem_cons_self
    have em : minL n (x :: r) = minL w r := by rw [← ew]; rfl
    rw [em]
    refine ⟨?_, fun y hy => ?_⟩
    · rcases List.mem_cons.mp h1 with h | h
      · rw [h]
        rcases w3 with rfl | rfl
        · exact List.mem_cons_self
        · exact List.mem_cons_of_mem _ List.mem_cons_self
      · exact List.mem_cons_of_mem _ (List.mem_cons_of_mem _ h)
    · rcases List.mem_cons.mp hy with rfl | hy
      · omega
      · rcases List.mem_cons.mp hy with rfl | hy
        · omega
        · exact h2 y (List.mem_cons_of_mem _ hy)
def cMaxL : List PV → Sto → Option PV := fun vs _ => match vs with
  | [.d (.list xs)] => (intsOf xs).bind fun ns => match ns with
    | [] => none
    | n :: r => some (.d (.int (maxL n r)))
  | _ => none
def cMinL : List PV → Sto → Option PV := fun vs _ => match vs with
  | [.d (.list xs)] => (intsOf xs).bind fun ns => match ns with
    | [] => none
    | n :: r => some (.d (.int (minL n r)))
  | _ => none
theorem cd_minL [Nms] {K : Fg} : CallD K (rMin K) cMinL := by
  intro as S H us vs z Q R V1 e k
  unfold cMinL at e
  split at e
  · obtain ⟨ns, e1, e⟩ := Option.bind_eq_some_iff.mp e
    obtain ⟨u, rfl, V⟩ := paired1 V1
    cases ns with
    | nil => cases e
    | cons n r =>
      cases e
      cases V with
      | lst s1 d1 =>
        rw [intsOf_some e1] at d1
        rw [dpAll_ints_inv d1] at s1
        obtain ⟨g1, g2⟩ := minL_spec r n
        refine ⟨_, n :: r, rfl, hide_same.seq s1, Nat.succ_pos _, fun m hm hy => ?_⟩
        have : m = minL n r := Int.le_antisymm (hy _ g1) (g2 m hm)
        rw [this]
        exact k _ H R .refl (.int _)
  · cases e
instance : FrC cMaxL := ⟨fun xs S T => by
  cases xs with
  | nil => rfl
  | cons x r =>
    cases r with
    | cons y r => cases x with
      | f _ => first | rfl | exact h | (cases e; done) | (cases e1; done) | (cases e2; done) | (cases e3; done) | (cases e4; done) | (cases e5; done) | (cases e6; done) | (cases h; done) | (cases h1; done) | (cases h2; done) | (cases h3; done) | (cases b; done) | (cases q; done) | exact h.elim | exact g.elim | exact r.elim | exact r.1.elim | exact r1.elim | exact r2.elim | exact z.elim | exact h1.elim | contradiction | (cases y <;> rfl) | (cases x <;> rfl) | (cases q <;> rfl) | (cases a <;> rfl) | exact L _ _ | exact L _ | (simp_all; done)
      | c j => rfl
      | d d => cases d <;> rfl
    | nil => cases x with
      | f _ => first | rfl | exact h | (cases e; done) | (cases e1; done) | (cases e2; done) | (cases e3; done) | (cases e4; done) | (cases e5; done) | (cases e6; done) | (cases h; done) | (cases h1; done) | (cases h2; done) | (cases h3; done) | (cases b; done) | (cases q; done) | exact h.elim | exact g.elim | exact r.elim | exact r.1.elim | exact r1.elim | exact r2.elim | exact z.elim | exact h1.elim | contradiction | (cases y <;> rfl) | (cases x <;> rfl) | (cases q <;> rfl) | (cases a <;> rfl) | exact L _ _ | exact L _ | (simp_all; done)
      | c j => rfl
      | d d => cases d with
        | list xs =>
          show ((intsOf xs).bind _) = Option.map _ ((intsOf xs).bind _)
          cases intsOf xs with
          | none => rfl
          | some ns => cases ns <;> rfl
        | _ => rfl⟩
instance : FrC cMinL := ⟨fun xs S T => by
  cases xs with
  | nil => rfl
  | cons x r =>
    cases r with
    | cons y r => cases x with
      | f _ => first | rfl | exact h | (cases e; done) | (cases e1; done) | (cases e2; done) | (cases e3; done) | (cases e4; done) | (cases e5; done) | (cases e6; done) | (cases h; done) | (cases h1; done) | (cases h2; done) | (cases h3; done) | (cases b; done) | (cases q; done) | exact h.elim | exact g.elim | exact r.elim | exact r.1.elim | exact r1.elim | exact r2.elim | exact z.elim | exact h1.elim | contradiction | (cases y <;> rfl) | (cases x <;> rfl) | (cases q <;> rfl) | (cases a <;> rfl) | exact L _ _ | exact L _ | (simp_all; done)
      | c j => rfl
      | d d => cases d <;> rfl
    | nil => cases x with
      | f _ => first | rfl | exact h | (cases e; done) | (cases e1; done) | (cases e2; done) | (cases e3; done) | (cases e4; done) | (cases e5; done) | (cases e6; done) | (cases h; done) | (cases h1; done) | (cases h2; done) | (cases h3; done) | (cases b; done) | (cases q; done) | exact h.elim | exact g.elim | exact r.elim | exact r.1.elim | exact r1.elim | exact r2.elim | exact z.elim | exact h1.elim | contradiction | (cases y <;> rfl) | (cases x <;> rfl) | (cases q <;> rfl) | (cases a <;> rfl) | exact L _ _ | exact L _ | (simp_all; done)
      | c j => rfl
      | d d => cases d with
        | list xs =>
          show ((intsOf xs).bind _) = Option.map _ ((intsOf xs).bind _)
          cases intsOf xs with
          | none => rfl
          | some ns => cases ns <;> rfl
        | _ => rfl⟩
end DL

/-! any data of bounded depth, numbers and size: what a law bends -/
namespace DN
open PySem PySem.Spec PyProof.Rows L2 DK DL
mutual
def good (b : Nat) : PyData → Bool
  | .none => true
  | .bool _ => true
  | .int i => decide (i.natAbs < 2 ^ b)
  | .str x => x.cps.toList.all (· < 128)
  | .list xs => goods b xs
  | .tuple xs => goods b xs
  | .dict _ => false
def goods (b : Nat) : List PyData → Bool
  | [] => true
  | x :: xs => good b x && goods b xs
end
mutual
def sz : PyData → Nat
  | .none => 4
  | .bool _ => 5
  | .int i => i.natAbs.log2 + 3
  | .str x => 10 * x.length + 2
  | .list xs => szs xs + 3
  | .tuple xs => szs xs + 3
  | .dict _ => 0
def szs : List PyData → Nat
  | [] => 0
  | x :: xs => sz x + 2 + szs xs
end
structure Fit (n b m : Nat) (d : PyData) : Prop where
  g : good b d = true
  dp : d.depth ≤ n
  s : sz d ≤ m
theorem goods_iff {b : Nat} : ∀ {xs : List PyData}, goods b xs = true ↔ ∀ x ∈ xs, good b x = true
  | [] => ⟨fun _ _ h => (nomatch h), fun _ => rfl⟩
  | x :: xs => by
    have ih := goods_iff (b := b) (xs := xs)
    show (good b x && goods b xs) = true ↔ _
    rw [Bool.and_eq_true, ih]
    simp
theorem sz_mem : ∀ {xs : List PyData} {x : PyData}, x ∈ xs → sz x + 2 ≤ szs xs
  | y :: xs, x, h => by
    show sz x + 2 ≤ sz y + 2 + szs xs
    rcases List.mem_cons.mp h with rfl | h
    · omega
    · have := sz_mem h
      omega
theorem szs_len : ∀ xs : List PyData, 2 * xs.length ≤ szs xs
  | [] => Nat.le_refl _
  | x :: xs => by
    have := szs_len xs
    show 2 * (xs.length + 1) ≤ sz x + 2 + szs xs
    omega
theorem asc_ok {x : Str} (h : x.cps.toList.all (· < 128) = true) : PyData.strOk x = true :=
  codes_ok.mpr fun c hc => Nat.lt_trans (of_decide_eq_true (List.all_eq_true.mp h c hc)) (by decide)
mutual
theorem okk_good {b : Nat} (hb : b ≤ 1919) : ∀ d : PyData, good b d = true → d.showable = true ∧ d.hasDict = false ∧ d.shown.length ≤ sz d ∧ PyData.strOk d.shown = true ∧ d.canLay0 = true
  | .none, _ => ⟨rfl, rfl, by decide, ok_str _, rfl⟩
  | .bool c, _ => ⟨rfl, rfl, (okk_bool c).ln, ok_bool c, rfl⟩
  | .int i, h => by
    have h1 : i.natAbs < 2 ^ b := of_decide_eq_true h
    have h2 : i.natAbs < 2 ^ 1920 := up2 h1 (by omega)
    have o := okk_int h2
    refine ⟨o.sh, rfl, ?_, o.ok, rfl⟩
    have e := int_text_length_le (k := i.natAbs.log2 + 1) (a := i) (by omega) (Nat.lt_succ_self _)
    show (Str.ofString (toString i)).length ≤ i.natAbs.log2 + 3
    rw [PySem.ofString_length]
    omega
  | .str x, h => by
    have o := okk_str (asc_ok h) (Nat.le_refl _)
    exact ⟨rfl, rfl, o.ln, o.ok, asc_ok h⟩
  | .list xs, h => by
    obtain ⟨a, c, d, e, f, g⟩ := okk_goods hb xs h
    refine ⟨a, c, ?_, ok_list f, g⟩
    have := listText_len_le (PyData.shownAll xs)
    show (listText (PyData.shownAll xs)).length ≤ szs xs + 3
    omega
  | .tuple xs, h => by
    obtain ⟨a, c, d, e, f, g⟩ := okk_goods hb xs h
    refine ⟨a, c, ?_, ok_tuple f, g⟩
    have := tupleText_len_le (PyData.shownAll xs)
    show (tupleText (PyData.shownAll xs)).length ≤ szs xs + 3
    omega
  | .dict _, h => by cases h
theorem okk_goods {b : Nat} (hb : b ≤ 1919) : ∀ xs : List PyData, goods b xs = true → PyData.showableAll xs = true ∧ PyData.hasDictAll xs = false ∧ ((PyData.shownAll xs).map (·.length)).sum + 2 * (PyData.shownAll xs).length ≤ szs xs ∧ (PyData.shownAll xs).length = xs.length ∧ (∀ t ∈ PyData.shownAll xs, PyData.strOk t = true) ∧ PyData.canLayAll0 xs = true
  | [], _ => ⟨rfl, rfl, Nat.le_refl _, rfl, (fun _ h => nomatch h), rfl⟩
  | x :: xs, h => by
    have h' : (good b x && goods b xs) = true := h
    rw [Bool.and_eq_true] at h'
    obtain ⟨x1, x2, x3, x4, x5⟩ := okk_good hb x h'.1
    obtain ⟨a, c, d, e, f, g⟩ := okk_goods hb xs h'.2
    refine ⟨?_, ?_, ?_, ?_, ?_, ?_⟩
    · show (x.showable && PyData.showableAll xs) = true
      rw [x1, a]; rfl
    · show (x.hasDict || PyData.hasDictAll xs) = false
      rw [x2, c]; rfl
    · show x.shown.length + ((PyData.shownAll xs).map (·.length)).sum + 2 * ((PyData.shownAll xs).length + 1) ≤ sz x + 2 + szs xs
      omega
    · show (PyData.shownAll xs).length + 1 = xs.length + 1
      rw [e]
    · intro t ht
      rcases List.mem_cons.mp ht with rfl | ht
      · exact x4
      · exact f t ht
    · show (x.canLay0 && PyData.canLayAll0 xs) = true
      rw [x5, g]; rfl
end
theorem Fit.okk {n b m : Nat} {d : PyData} (h : Fit n b m d) (hb : b ≤ 1919) : Okk n m d := by
  obtain ⟨a, c, e, f, g⟩ := okk_good hb d h.g
  exact ⟨a, c, h.dp, Nat.le_trans e h.s, f, g⟩
theorem Fit.shaped {n b m : Nat} {d : PyData} (h : Fit n b m d) (hb : b ≤ 1919) (hn : n ≤ 64) : SeqAt.shaped d = true := by
  unfold SeqAt.shaped
  have := h.dp
  rw [(h.okk hb).ly, decide_eq_true (by omega)]
  rfl
theorem Fit.mono {n b m n' b' m' : Nat} {d : PyData} (h : Fit n b m d) (hn : n ≤ n') (hb : b = b') (hm : m ≤ m') : Fit n' b' m' d := ⟨hb ▸ h.g, Nat.le_trans h.dp hn, Nat.le_trans h.s hm⟩
mutual
theorem good_up {b c : Nat} (h : b ≤ c) : ∀ d : PyData, good b d = true → good c d = true
  | .none, _ => rfl
  | .bool _, _ => rfl
  | .int i, g => decide_eq_true (up2 (of_decide_eq_true g) h)
  | .str x, g => g
  | .list xs, g => goods_up h xs g
  | .tuple xs, g => goods_up h xs g
  | .dict _, g => by cases g
theorem goods_up {b c : Nat} (h : b ≤ c) : ∀ xs : List PyData, goods b xs = true → goods c xs = true
  | [], _ => rfl
  | x :: xs, g => by
    have g' : (good b x && goods b xs) = true := g
    rw [Bool.and_eq_true] at g'
    show (good c x && goods c xs) = true
    rw [good_up h x g'.1, goods_up h xs g'.2]
    rfl
end
theorem Fit.up {n b m n' b' m' : Nat} {d : PyData} (h : Fit n b m d) (hn : n ≤ n') (hb : b ≤ b') (hm : m ≤ m') : Fit n' b' m' d := ⟨good_up hb d h.g, Nat.le_trans h.dp hn, Nat.le_trans h.s hm⟩
theorem Fit.mem {n b m : Nat} {xs : List PyData} {x : PyData} (h : Fit (n + 1) b m (.tuple xs)) (hx : x ∈ xs) : Fit n b m x := by
  refine ⟨goods_iff.mp h.g x hx, deep_mem (n := n) ?_ x hx, ?_⟩
  · have : PyData.depthAll xs + 1 ≤ n + 1 := h.dp
    omega
  · have h1 := sz_mem hx
    have : szs xs + 3 ≤ m := h.s
    omega
theorem Fit.len {n b m : Nat} {xs : List PyData} (h : Fit n b m (.tuple xs)) : 2 * xs.length ≤ m := by
  have h1 := szs_len xs
  have : szs xs + 3 ≤ m := h.s
  omega
theorem Fit.tuple {n b m : Nat} {xs : List PyData} (h : ∀ x ∈ xs, good b x = true ∧ x.depth ≤ n) (hs : szs xs + 3 ≤ m) : Fit (n + 1) b m (.tuple xs) :=
  ⟨goods_iff.mpr fun x hx => (h x hx).1, Nat.succ_le_succ (deep_all fun x hx => (h x hx).2), hs⟩
theorem Fit.list {n b m : Nat} {xs : List PyData} (h : ∀ x ∈ xs, good b x = true ∧ x.depth ≤ n) (hs : szs xs + 3 ≤ m) : Fit (n + 1) b m (.list xs) :=
  ⟨goods_iff.mpr fun x hx => (h x hx).1, Nat.succ_le_succ (deep_all fun x hx => (h x hx).2), hs⟩
theorem Fit.all {n b m : Nat} {xs : List PyData} (h : Fit (n + 1) b m (.tuple xs)) : ∀ x ∈ xs, good b x = true ∧ x.depth ≤ n := fun x hx => ⟨(h.mem hx).g, (h.mem hx).dp⟩
/-! upper case -/
end DN

/-! loops by what stays; draws behind several lists -/
namespace DN
open PySem PySem.Spec PyProof.Rows L2 DK DL
theorem bAnd_t {a b : MB} {ρ : RE} {S S1 : Sto} (h : a ρ S = some (true, S1)) : bAnd a b ρ S = b ρ S1 := by
  unfold bAnd
  rw [h]
  rfl
end DN

/-! the feed of k37 to k54; draws as they stand anywhere in a store -/
namespace DN
open PySem PySem.Spec PyProof.Rows L2 DK DL
/-- what F draws of a feed, wherever it stands -/
def FedW (Fk : Nat → Cell → Prop) (F : FV) (args : List PV) (P : PyData → Prop) (n : Nat) : Prop := ∀ (A E : Sto) (k : Nat) (c : Cell), Fk k c → k + n ≤ 99999 → ∃ d c', F (.c A.length :: args) (A ++ c :: E) = some (.d d, A ++ c' :: E) ∧ P d ∧ Fk (k + n) c'
abbrev feed4C (ms : List Int) (i q : Int) : List PyData := [.list (ms.map .int), .int i, .int q]
def Fk4 (k : Nat) (c : Cell) : Prop := ∃ (ms : List Int) (i q : Int), c = .l (feed4C ms i q) ∧ 0 ≤ i ∧ i ≤ k
theorem Fk4.mono {k l : Nat} {c : Cell} (h : Fk4 k c) (hk : k ≤ l) : Fk4 l c := by
  obtain ⟨ms, i, q, rfl, a, b⟩ := h
  exact ⟨ms, i, q, rfl, a, by omega⟩
end DN

/-! what the laws k37 to k54 draw: shapes of a size, ratios, sums -/
namespace DN
open PySem PySem.Spec PyProof.Rows L2 DK DL
theorem FedW.snoc {Fk : Nat → Cell → Prop} {F : FV} {args : List PV} {P : PyData → Prop} {n : Nat} (h : FedW Fk F args P n) (A E X : Sto) {k : Nat} {c : Cell} (hc : Fk k c) (hk : k + n ≤ 99999) :
    ∃ d c', F (.c A.length :: args) (A ++ c :: E ++ X) = some (.d d, A ++ c' :: E ++ X) ∧ P d ∧ Fk (k + n) c' := by
  obtain ⟨d, c', e, p, g⟩ := h A (E ++ X) k c hc hk
  refine ⟨d, c', ?_, p, g⟩
  rw [List.append_assoc, List.append_assoc]
  exact e
theorem cut_neg1 {α : Type} (L : List α) (d : α) : cut (L ++ [d]) (some (-1)) none = [d] := by
  have s : HT.sIx (L ++ [d]).length 0 (some (-1)) = L.length := by
    show (if (-1 : Int) < 0 then ((-1 : Int) + ((L ++ [d]).length : Int)).toNat else min (-1 : Int).toNat (L ++ [d]).length) = _
    rw [if_pos (by decide), List.length_append, List.length_singleton]
    omega
  unfold cut
  rw [s, HT.sIx_none, List.drop_append_of_le_length (Nat.le_refl _), List.drop_length, List.length_append, List.length_singleton, show L.length + 1 - L.length = 1 by omega]
  rfl
/-- the last items, of none or some -/
def lastL (ps : List Int) : List Int := match ps.getLast? with
  | none => []
  | some p => [p]
theorem lastL_snoc (ps : List Int) (p : Int) : lastL (ps ++ [p]) = [p] := by
  unfold lastL
  rw [List.getLast?_append]
  rfl
theorem cut_last (ps : List Int) : cut (ps.map PyData.int) (some (-1)) none = (lastL ps).map PyData.int := by
  rcases List.eq_nil_or_concat ps with rfl | ⟨L, d, rfl⟩
  · rfl
  · rw [List.concat_eq_append, List.map_append, List.map_singleton, cut_neg1, lastL_snoc]
    rfl
/-- the greatest part that may come -/
def mostOf (left : Int) (ps : List Int) : Int := minL left (lastL ps)
theorem mostOf_snoc (left : Int) (ps : List Int) (p : Int) : mostOf left (ps ++ [p]) = if p < left then p else left := by
  unfold mostOf
  rw [lastL_snoc]
  rfl
structure Falls (ps : List Int) : Prop where
  fall : ps.Pairwise (· ≥ ·)
  one : ∀ p ∈ ps, 1 ≤ p
theorem Falls.nil : Falls [] := ⟨List.Pairwise.nil, fun _ h => by cases h⟩
theorem Falls.snoc {ps : List Int} (h : Falls ps) {p left : Int} (h1 : 1 ≤ p) (h2 : p ≤ mostOf left ps) : Falls (ps ++ [p]) := by
  refine ⟨List.pairwise_append.mpr ⟨h.fall, by simp, fun a ha b hb => ?_⟩, fun q hq => ?_⟩
  · rw [List.mem_singleton.mp hb]
    rcases List.eq_nil_or_concat ps with rfl | ⟨L, d, rfl⟩
    · cases ha
    · rw [List.concat_eq_append] at h h2 ha
      rw [mostOf_snoc] at h2
      have hd : p ≤ d := by
        split at h2 <;> omega
      rcases List.mem_append.mp ha with ha | ha
      · have := (List.pairwise_append.mp h.fall).2.2 a ha d (by simp)
        have : d ≤ a := this
        omega
      · rw [List.mem_singleton.mp ha]
        omega
  · rcases List.mem_append.mp hq with hq | hq
    · exact h.one q hq
    · rw [List.mem_singleton.mp hq]
      exact h1
theorem atI_last (L : List PyData) (d : PyData) : atI (L ++ [d]) (-1) = some d := by
  unfold atI ixN
  rw [if_neg (by decide), List.length_append, List.length_singleton, if_pos (by omega)]
  show (L ++ [d])[((-1 : Int) + ((L.length + 1 : Nat) : Int)).toNat]? = _
  rw [show ((-1 : Int) + ((L.length + 1 : Nat) : Int)).toNat = L.length by omega]
  simp
theorem append_mv {a b : DL.M} {ρ : RE} {S S' : Sto} {n : Nat} {ds : List PyData} {y : PyData} (hn : S.length = n) (hS : S'.length = n) (h1 : a ρ (S ++ [Cell.l ds]) = some (.c n, S ++ [Cell.l ds])) (h2 : b ρ (S ++ [Cell.l ds]) = some (.d y, S' ++ [Cell.l ds])) (hl : ds.length < 1000000) : mAppend a b ρ (S ++ [Cell.l ds]) = some (.d .none, S' ++ [Cell.l (ds ++ [y])]) := by
  subst hn
  unfold mAppend
  rw [h1]
  show (b ρ (S ++ [Cell.l ds])).bind _ = _
  rw [h2]
  show (if (lAt (S ++ [Cell.l ds]) S.length).isSome = true then (lAt (S' ++ [Cell.l ds]) S.length).bind _ else none) = _
  rw [last_l, ← hS, last_l]
  show (if ds.length < 1000000 then some (PV.d .none, (S' ++ [Cell.l ds]).set S'.length (Cell.l (ds ++ [y]))) else none) = _
  rw [if_pos hl, last_set]
section
variable (A E : Sto)
abbrev shR (j : Nat) (size : Int) (n : Nat) (left : Int) (x4 : Option PV) : RE := [some (.c j), some (iv size), some (.c n), some (iv left), x4]
end
/-! ratios -/
end DN

/-! the laws' sums of k37 to k54, their ratios as whole numbers by 2520 -/
namespace DN
open PySem PySem.Spec PyProof.Rows L2 DK DL
def u0 : Rat := mkRat 1 2520
def fr (z : Int) : Rat := (z : Rat) * u0
/-! a number -/
/-! a sum -/
end DN

/-! stores by their places; sums with whole numbers by 2520; all parts times k -/
namespace DN
open PySem PySem.Spec PyProof.Rows L2 DK DL
/-! what stands ahead stays -/
def Keep (S S' : Sto) : Prop := S'.take S.length = S
theorem Keep.refl (S : Sto) : Keep S S := List.take_length ..
theorem Keep.app {S S' : Sto} (h : Keep S S') (x : Cell) : Keep S (S' ++ [x]) := by
  unfold Keep at *
  have hl : S.length ≤ S'.length := by
    have := congrArg List.length h
    rw [List.length_take] at this
    omega
  rw [List.take_append_of_le_length hl]
  exact h
theorem Keep.set {S S' : Sto} (h : Keep S S') {n : Nat} (hn : S.length ≤ n) (x : Cell) : Keep S (S'.set n x) := by
  unfold Keep at *
  rw [List.take_set_of_le hn]
  exact h
theorem dAt_d {S : Sto} {n : Nat} {kvs : List (PyData × PyData)} (h : S[n]? = some (.d kvs)) : dAt S n = some kvs := by
  unfold dAt
  rw [h]
theorem dAtW_d {S : Sto} {n : Nat} {kvs : List (PyData × PyData)} (h : S[n]? = some (.d kvs)) : dAtW S n = some kvs := by
  unfold dAtW
  rw [h]
/-! ### sums with whole numbers -/
/-! all keys mapped -/
/-! all parts times k -/
def kap (k : Int) (s : List Int) : List Int := s.map (k * ·)
end DN

/-! sorted(x, reverse=True), sorted(x): a list or a tuple of whole numbers -/
namespace DL
open PySem PySem.Spec PyProof.Rows L2 DK
def rSortedSq (K : PySem.W.Frag) (b : Bool) (zs0 : List V) : List V → List V → Hp → VK → Prop := fun vs zs H Q => ∃ (a : Addr) (ns : List Int), vs = [V.ref a] ∧ zs = zs0 ∧ (SqL K H a (ns.map V.int) ∨ SqT K H a (ns.map V.int)) ∧
  ∀ (ns' : List Int) (p : Addr), ns'.Perm ns → OrdB b ns' → H p = none → Q (.ref p) (upd H p (.lst (ns'.map V.int)))
section
variable {X : Cx}
theorem sorted_runS {b : Bool} {kw : List (Str × Value)} {pins : List (Addr × Obj)} {s : Shared} {σ : L2.St} {H : Hp} {a : Addr} {ns : List Int} {Q : VK} (I : Inv X pins σ H s) (hs : SqL X.K H a (ns.map V.int) ∨ SqT X.K H a (ns.map V.int))
    (hk : ∀ a, Builtin.«list.sort» ⟨[.ref a], kw⟩ = Builtin.«list.sort» ⟨[.ref a], [(Str.ofString "reverse", .bool b)]⟩) (ha1 : argsOk "sorted" ⟨[.ref a], kw⟩) (ha2 : ∀ a, argsOk "list.sort" ⟨[a], kw⟩)
    (q : ∀ (ns' : List Int) (p : Addr), ns'.Perm ns → OrdB b ns' → H p = none → Q (.ref p) (upd H p (.lst (ns'.map V.int)))) : wpAny (model X.prog X.w) X.A (call (.builtin "sorted") [.ref a] kw) (EP X pins σ Q) X.xe s := by
  have src : ∃ (its : List Value) (T : String) (o : Obj) (n : Nat), Vals (ns.map V.int) its ∧ (ns.map V.int).length ≤ sizeLine ∧ (T = "list" ∨ T = "tuple") ∧ s.heap.get? a = some o ∧ o.cls = .type T ∧ o.data = .seq its.toArray n := by
    rcases hs with hs | hs
    · obtain ⟨its, rv, ⟨o, n, e1, e2, e3, e4⟩, hz⟩ := I.list hs
      exact ⟨its, "list", o, n, rv, hz, .inl rfl, e1, e2, e4⟩
    · obtain ⟨its, rv, ⟨o, e1, e2, n, e3⟩, hz⟩ := I.tuple hs
      exact ⟨its, "tuple", o, n, rv, hz, .inr rfl, e1, e2, e3⟩
  obtain ⟨its, T, o, n, rv, hz, hT, ho, hc, hd⟩ := src
  have hi := rv.ints
  have hzl : its.length ≤ sizeLine := by rw [← rv.length]; exact hz
  refine PyProof.Rows.call_function_entry_kw PyProof.Rows.kind_sorted PyProof.Rows.plain_sorted PyProof.Rows.entry_sorted ha1 ?_
  unfold Builtin.«sorted»
  refine wpAny_bind (m := checkCount "sorted" 1 1 _) (wpAny_pure ?_)
  refine wpAny_bind (wpAny_collect_seq a hT ho hc hd (fun h' keep => ?_) (by simpa using hzl))
  have I1 : Inv X pins σ H { s with heap := h' } := I.kept keep
  rw [show its.toArray.toList = its by simp]
  refine wpAny_bind (wpAny_newList ?_ (by simpa using hzl))
  have hoL : (h'.push (seqObj "list" its.toArray 0)).get? h'.objs.size = some (seqObj "list" its.toArray 0) := Heap.get?_push_size _ rfl
  show wpAny _ _ _ _ _ { s with heap := h'.push (seqObj "list" its.toArray 0) }
  refine wpAny_bind (wpAny_holding (PyProof.Rows.wpAny_call_entry_kw PyProof.Rows.slot_list_sort ⟨_, hoL, rfl⟩ PyProof.Rows.entry_list_sort ?_ (ha2 _)))
  rw [hk]
  refine SrtR.list_sort_ordR SrtO.swo_int hoL hzl (fun h2 => SrtO.ints_sortable hi h2) fun out h1 h2 => ⟨_, rfl, ?_⟩
  obtain ⟨ns', k1, k2, k3⟩ := SrtR.ints_outR hi h1 h2
  obtain ⟨ep', he'⟩ := PyProof.Rows.sortedHeap_at (vs := its) (out := if b = true then out.toArray.reverse else out.toArray) hoL
  have hlen : (ns'.map V.int).length ≤ sizeLine := by
    rw [List.length_map, k2.length_eq]
    rw [List.length_map] at hz
    exact hz
  have e0 : ((if b = true then out.toArray.reverse else out.toArray).toList).toArray = (if b = true then out.toArray.reverse else out.toArray) := by rw [Array.toArray_toList]
  refine wpAny_pure ⟨_, rfl, .ref h'.objs.size, upd H h'.objs.size (.lst (ns'.map V.int)), I1.laid (t' := s.toks) (fun c u e => ?_) (Nat.le_refl _) (show ObjOk X.prog X.w _ _ _ (.lst (ns'.map V.int)) from ⟨hlen, _, ep', vals_of_ints k1, by rw [e0]; exact he'⟩), rfl, q _ _ k2 k3 (I1.hok.fresh (Nat.le_refl _))⟩
  have hb : c < h'.objs.size := Heap.lt_size e
  rw [PyProof.Rows.sortedHeap_old (Nat.ne_of_lt hb) (by rw [size_push']; exact Nat.lt_succ_of_lt hb)]
  exact Heap.get?_push_of_some _ e
theorem cr_sortedSqR {b : Bool} : CallRK X (.builtin "sorted") [Str.ofString "reverse"] (rSortedSq X.K b [.bl b]) := by
  intro pins s σ H vs zs us ws Q I r rz h
  obtain ⟨a, ns, rfl, rfl, hs, q⟩ := h
  obtain rfl := Vals.ref1 r
  obtain ⟨w1, rfl, e1⟩ := vals1 rz
  obtain rfl : w1 = Value.bool b := e1
  exact sorted_runS I hs (fun _ => rfl) (PyProof.Rows.args_sorted_rev _ _) (fun _ => PyProof.Rows.args_list_sort_rev _ _) q
end
/-- falling -/
def sortDn (ns : List Int) : List Int := (sortI ns).reverse
theorem sortDn_perm (ns : List Int) : (sortDn ns).Perm ns := (List.reverse_perm _).trans (sortI_perm ns)
theorem sortDn_dn (ns : List Int) : (sortDn ns).Pairwise (· ≥ ·) := by
  unfold sortDn
  rw [List.pairwise_reverse]
  exact sortI_up ns
theorem dn_unique {a b : List Int} (h1 : a.Pairwise (· ≥ ·)) (h2 : b.Pairwise (· ≥ ·)) (hp : a.Perm b) : a = b := by
  have r := sorted_unique (a := a.reverse) (b := b.reverse) (List.pairwise_reverse.mpr h1) (List.pairwise_reverse.mpr h2) (((List.reverse_perm a).trans hp).trans (List.reverse_perm b).symm)
  have := congrArg List.reverse r
  rw [List.reverse_reverse, List.reverse_reverse] at this
  exact this
section
variable [Nms] [Tabs]
/-- sorted(m, reverse=True) -/
def mSortRv (m : M) : ML := fun ρ S => (m ρ S).bind fun p => match asD p.2 p.1 with
  | some (.list xs) => (intsOf xs).bind fun ns => some ((sortDn ns).map .int, p.2)
  | some (.tuple xs) => (intsOf xs).bind fun ns => some ((sortDn ns).map .int, p.2)
  | _ => none
variable {X : Cx} {e : Expr} {m : M} {p pos q1 q2 : Pos} {k : Nat}
theorem seq_ints {K : Fg} {as : List Addr} {S : Sto} {H : Hp} {u : V} {x : PV} {xs : List PyData} {ns : List Int} (R : Rel K as S H) (h : VR K as H u x) (e : asD S x = some (.list xs) ∨ asD S x = some (.tuple xs)) (e2 : intsOf xs = some ns) : ∃ a, u = .ref a ∧ (SqL K H a (ns.map V.int) ∨ SqT K H a (ns.map V.int)) := by
  rcases e with e | e
  · obtain ⟨a, vs, rfl, s1, a1⟩ := list_at R h e
    rw [intsOf_some e2] at a1
    rw [dpAll_ints_inv a1] at s1
    exact ⟨a, rfl, .inl s1⟩
  · cases x with
    | d d =>
      have ed : d = .tuple xs := Option.some.inj e
      subst ed
      have h' : Dp K (hide as H) u (.tuple xs) := h
      cases h' with
      | tup s1 a1 =>
        rw [intsOf_some e2] at a1
        rw [dpAll_ints_inv a1] at s1
        exact ⟨_, rfl, .inr (sqT_mono hide_same s1)⟩
    | f _ => first | rfl | exact h | (cases e; done) | (cases e1; done) | (cases e2; done) | (cases e3; done) | (cases e4; done) | (cases e5; done) | (cases e6; done) | (cases h; done) | (cases h1; done) | (cases h2; done) | (cases h3; done) | (cases b; done) | (cases q; done) | exact h.elim | exact g.elim | exact r.elim | exact r.1.elim | exact r1.elim | exact r2.elim | exact z.elim | exact h1.elim | contradiction | (cases y <;> rfl) | (cases x <;> rfl) | (cases q <;> rfl) | (cases a <;> rfl) | exact L _ _ | exact L _ | (simp_all; done)
    | c j =>
      exfalso
      have e' : (lAt S j).map PyData.list = some (.tuple xs) := e
      cases hl : lAt S j with
      | none => rw [hl] at e'; cases e'
      | some l => rw [hl] at e'; cases e'
theorem dl_sortRv {j : Nat} {q1 q2 : Pos} (he : DE X e m) (hg : Gl X "sorted") (hm : X.mg "sorted" = none) (hv : bootBuiltins "sorted" = some (.builtin "sorted"))
    (h2 : starEach [e] X.env = (false, eval e X.env) :: starEach [] X.env := by rfl) (h3 : backTo pos (starEach [e] X.env) = (false, eval e X.env) :: backTo pos (starEach [] X.env) := by rfl) (h4 : (backTo pos (starEach [e] X.env)).any (·.1) = false := by rfl) :
    DLs X (.Call (.Name "sorted" p) [e] [⟨some "reverse", .Constant (.bool true) j q1, q2⟩] pos) (mSortRv m) :=
  pe_imp (pe_callBK (cr_sortedSqR (b := true)) hg hm hv (pa_cons he pa_nil h2) (pk_cons pe_bl pk_nil) (he := h3) (hpl := h4)) fun σ H Q ⟨as, ρ, S, ds, S', R, E, e0, k⟩ => by
    obtain ⟨⟨v, S1⟩, e1, e0⟩ := Option.bind_eq_some_iff.mp e0
    refine ⟨as, ρ, S, v, S1, R, E, e1, fun u H1 R1 E1 V1 => ?_⟩
    dsimp only at e0
    have fin : ∀ xs ns, intsOf xs = some ns → (asD S1 v = some (.list xs) ∨ asD S1 v = some (.tuple xs)) → ds = (sortDn ns).map .int → S' = S1 → tCKw (rSortedSq X.K true [.bl true]) (fun σ H Q => Q [u] H) (fun σ H Q => Q [V.bl true] H) σ H1 Q := fun xs ns h3 h4 h5 h6 => by
      subst h5 h6
      obtain ⟨a, rfl, s1⟩ := seq_ints R1 V1 h4 h3
      refine ⟨a, ns, rfl, rfl, s1, fun ms l g1 g2 g4 => ?_⟩
      have em : ms = sortDn ns := dn_unique (by simpa [OrdB] using g2) (sortDn_dn ns) (g1.trans (sortDn_perm ns).symm)
      subst em
      exact k l _ _ R1 E1 g4 (dpAll_ints _)
    split at e0
    · rename_i xs e3
      obtain ⟨ns, e2, e0⟩ := Option.bind_eq_some_iff.mp e0
      cases e0
      exact fin xs ns e2 (.inl e3) rfl rfl
    · rename_i xs e3
      obtain ⟨ns, e2, e0⟩ := Option.bind_eq_some_iff.mp e0
      cases e0
      exact fin xs ns e2 (.inr e3) rfl rfl
    · cases e0
end
end DL

namespace DL
open PySem PySem.Spec PyProof.Rows L2 DK
/-! ### xs.extend(t), t a tuple -/
open PySem.AutoSeq1 in
theorem list_extend_tup (l : Addr) (items : Array Value) (n : Nat) (b : Addr) (items2 : Array Value) (n2 : Nat) (dd : Option Addr) (sl : Array (Option Value)) (hc0 : ¬(!items.isEmpty && Builtin.List.listTooLong (items.size + items2.size)) = true) (hc1 : items.size ≤ sizeLine) (hs2 : items.size + items2.size ≤ sizeLine + 1 := by seq_fits) :
    Meets (Builtin.«list.extend» ⟨[.ref l, .ref b], []⟩) (fun _ R s => s.heap.get? l = some { cls := .type "list", dict := none, data := .seq items n, slots := #[] } ∧ s.heap.get? b = some { cls := .type "tuple", dict := dd, data := .seq items2 n2, slots := sl } ∧ R (.ok (.ret Value.none)) { s with heap := s.heap.update l (Obj.mapSeq fun x => x ++ items2), toks := s.toks }) :=
  .of_wp fun prog w A R s h => by
    obtain ⟨hp, g, d, tk, os⟩ := s; obtain ⟨hl, hb, h⟩ := h; have f1 := PySem.AutoSeq1.idx_int; have f2 := PySem.AutoSeq1.sub_tuple_tuple; have f3 := PySem.AutoSeq1.sub_list_list; have f4 := PySem.AutoSeq1.sub_tuple_list; have f5 := PySem.AutoSeq1.sub_list_tuple;
    have hz' : (items ++ items2).size ≤ sizeLine + 1 := by rw [Array.size_append]; exact hs2
    wp_walk using (wpAny_updateSeq hl rfl (hz := hc1) (_hz' := hz')), PySem.AutoSeq1.wpAny_loadPart' hl, PySem.AutoSeq1.wpAny_loadPart' hb; exact ⟨_, rfl, h⟩
def rExtendT (K : PySem.W.Frag) : V → List V → Hp → VK → Prop := fun x vs H Q => ∃ l b xs zs, x = .ref l ∧ vs = [.ref b] ∧ H l = some (.lst xs) ∧ SqT K H b zs ∧ xs.length + zs.length ≤ sizeLine ∧ Q .non (upd H l (.lst (xs ++ zs)))
theorem mt_extendT {X : Cx} : MtM X "list.extend" (rExtendT X.K) := by
  intro pins s σ H x vs v us Q I rx rv h
  obtain ⟨l, b, xs, zs, rfl, rfl, hH, hB, hz, q⟩ := h
  cases rx
  obtain ⟨u, rfl, ru⟩ := rv.one
  cases ru
  obtain ⟨z, its, n, r, hl, e⟩ := I.lstM hH
  obtain ⟨its2, r2, ⟨o2, e2, c2, n2, d2⟩, hl2⟩ := I.tuple hB
  obtain ⟨cls2, dict2, data2, sl2⟩ := o2
  dsimp only at c2 d2
  have hw1 := r.length
  have hw2 := r2.length
  have hsz : its.toArray.size + its2.toArray.size ≤ sizeLine := by rw [List.size_toArray, List.size_toArray]; omega
  have hlong : ¬ (!its.toArray.isEmpty && Builtin.List.listTooLong (its.toArray.size + its2.toArray.size)) = true := by
    rw [notLongL hsz, Bool.and_false]
    exact Bool.false_ne_true
  subst c2 d2
  refine call_meets F.slot_list_extend ⟨_, e, rfl⟩ F.entry_list_extend (F.args_list_extend_2 _ _)
    (list_extend_tup l its.toArray n b its2.toArray n2 dict2 sl2 hlong (by rw [List.size_toArray]; omega) (by omega)) ⟨e, e2, ?_⟩
  refine ⟨.non, _, I.lset (its' := its ++ its2) hH e (by simp) (r.append r2) ?_, rfl, q⟩
  rw [List.length_append]
  omega
section
variable [Nms] [Tabs]
def mExtT (mo me : M) : M := fun ρ S => (mo ρ S).bind fun o => (me ρ o.2).bind fun q => match o.1, q.1 with
  | .c j, .d (.tuple ys) => if (lAt o.2 j).isSome = true then (lAt q.2 j).bind fun ds => if ds.length + ys.length ≤ 1000000 then some (.d .none, q.2.set j (.l (ds ++ ys))) else none else none
  | _, _ => none
theorem de_extT {X : Cx} {o e : Expr} {mo me : M} {apos cpos : Pos} (ho : DE X o mo) (he : DE X e me) (hbase : attributeBase o "extend" X.env (eval o X.env) = eval o X.env := by rfl)
    (hfew : ((backTo cpos (starEach [e] X.env)).all (fun x => !x.1) && (backToKw cpos (keywordEach [] X.env)).all (fun x => x.1.isSome) && decide ([e].length + ([] : List Keyword).length + (if ([] : List Keyword).isEmpty then 0 else 1) < 30)) = true := by rfl)
    (hline : (apos.endLine == cpos.line) = true := by rfl) (hs : starEach [e] X.env = (false, eval e X.env) :: starEach [] X.env := by rfl) (hplain : (backTo cpos (starEach [] X.env)).any (·.1) = false := by rfl) :
    DE X (.Call (.Attribute o "extend" apos) [e] [] cpos) (mExtT mo me) :=
  pe_imp (pe_bm PySem.F.plainAttrs_list PySem.F.slot_list_extend PySem.F.type_list_extend mt_extendT ho (pa_cons he pa_nil hs) hbase hfew hline hs hplain) fun σ H Q ⟨as, ρ, S, r, S', R, E, e, k⟩ => by
    obtain ⟨⟨o, S1⟩, e1, e⟩ := Option.bind_eq_some_iff.mp e
    obtain ⟨⟨y, S2⟩, e2, e⟩ := Option.bind_eq_some_iff.mp e
    refine ⟨as, ρ, S, o, S1, R, E, e1, fun u H1 R1 E1 V1 => ?_⟩
    dsimp only at e
    split at e
    · rename_i j ys _
      split at e
      · rename_i hs
        obtain ⟨ds0, e0⟩ := Option.isSome_iff_exists.mp hs
        obtain ⟨ds, e3, e⟩ := Option.bind_eq_some_iff.mp e
        obtain ⟨a, q, rfl⟩ := id V1
        refine ⟨cell_ty R1 V1 e0, as, ρ, S1, _, S2, R1, E.ext E1, e2, fun w H2 R2 E2 V2 => ?_⟩
        split at e
        · rename_i hz
          cases e
          cases V2 with
          | tup s2 hd =>
            obtain ⟨vs, h1, h2⟩ := R2.at_ j a ds q e3
            obtain ⟨R4, E4⟩ := R2.put q (dpAll_append h2 hd) ⟨_, h1⟩
            refine ⟨a, _, vs, _, rfl, rfl, h1, sqT_mono hide_same s2, by rw [dpAll_len h2, dpAll_len hd, sizeLine_eq]; omega, ?_⟩
            exact k _ _ R4 (E1.trans (E2.trans E4)) .non
        · cases e
      · cases e
    · cases e
end
end DL

/-! a list of own lists: its cell stands just behind theirs -/
namespace DL
open PySem PySem.Spec PyProof.Rows L2 DK
section
variable [Nms] [Tabs]
section
variable {K : Fg} {as bs fs : List Addr} {S T : Sto} {H H0 : Hp} {D p : Addr} {m : Nat} {ws : List V} {ds : List PyData}
end
end
end DL

/-! y = [f(..) for ..] of new lists that may be changed later on; a loop over such a list -/
namespace DL
open PySem PySem.Spec PyProof.Rows L2 DK
section
variable [Nms] [Tabs]
section
variable {X : Cx} {elt tg iter : Expr} {scope : Scope} {own : List (Str × Nat)} {pos : Pos} {mi me : ML} {is vs : List Nat} {tgt : TgD}
end
/-! ### for x in asides -/
end
end DL

/-! asides[i] -/
namespace DL
open PySem PySem.Spec PyProof.Rows L2 DK
section
variable [Nms] [Tabs]
end
end DL

/-! x[i], x[j] = (a, b), x a list of ours -/
namespace DL
open PySem PySem.Spec PyProof.Rows L2 DK
section
variable [Nms] [Tabs]
end
end DL

/-! xs[:n:-1], xs a list -/
namespace DL
open PySem PySem.Spec PyProof PyProof.Rows L2 DK
section
variable [Nms] [Tabs]
end
end DL

/-! bools among numbers: b + i, b - i, i - b, str(b) -/
namespace DL
open PySem PySem.Spec PyProof PyProof.Rows L2 DK
section
variable {X : Cx}
end
section
variable [Nms] [Tabs]
section
variable {X : Cx} {a b : Expr} {ma mb : M} {pos : Pos}
end
end
end DL

/-! a feed among any cells: cell j of T is a feed, all other cells of S stand as in T -/
namespace DN
open PySem PySem.Spec PyProof.Rows L2 DK DL
def FeS (T : Sto) (j k : Nat) (S : Sto) : Prop := S.length = T.length ∧ (∀ i, i ≠ j → S[i]? = T[i]?) ∧ ∃ (ms : List Int) (i q t : Int), S[j]? = some (Cell.l (feedC ms i q t)) ∧ 0 ≤ t ∧ t ≤ (k : Int)
theorem FeS.len {T : Sto} {j k : Nat} {S : Sto} (h : FeS T j k S) : S.length = T.length := h.1
theorem FeS.mono {T : Sto} {j k l : Nat} {S : Sto} (h : FeS T j k S) (hk : k ≤ l) : FeS T j l S := by
  obtain ⟨a, b, ms, i, q, t, c, d, e⟩ := h
  exact ⟨a, b, ms, i, q, t, c, d, by omega⟩
theorem FeS.self {T : Sto} {j k : Nat} {ms : List Int} {i q t : Int} (h : T[j]? = some (Cell.l (feedC ms i q t))) (h0 : 0 ≤ t) (h1 : t ≤ (k : Int)) : FeS T j k T := ⟨rfl, fun _ _ => rfl, ms, i, q, t, h, h0, h1⟩
theorem FeS.drawK {K : Int} (hK : K.natAbs.log2 < 9000) {T : Sto} {j k : Nat} {S : Sto} (E : Sto) (h : FeS T j k S) (hk : k ≤ 9999999) (hp : 0 < K) :
    ∃ r S', FDrawD [.c j, .d (.int K)] (S ++ E) = some (.d (.int r), S' ++ E) ∧ 0 ≤ r ∧ r < K ∧ FeS T j (k + 1) S' := by
  obtain ⟨a, b, ms, i, q, t, c, d, e⟩ := h
  have hj : j < S.length := (List.getElem?_eq_some_iff.mp c).1
  obtain ⟨r, i', c', f, r0, r1⟩ := draw_specD (S := S ++ E) (j := j) (many := K) (by rw [List.getElem?_append_left hj]; exact c) d (by omega) hp hK
  refine ⟨r, S.set j (feedC ms i' c' (t + 1)), ?_, r0, r1, by rw [List.length_set]; exact a, fun i hi => ?_, ms, i', c', t + 1, List.getElem?_set_self hj, by omega, by omega⟩
  · rw [f, List.set_append_left _ _ hj]
  · rw [List.getElem?_set_ne (Ne.symm hi)]
    exact b i hi
theorem FeS.drawD {T : Sto} {j k : Nat} {S : Sto} (E : Sto) {many : Int} (h : FeS T j k S) (hk : k ≤ 9999999) (hp : 0 < many) (hl : many ≤ 1000000) :
    ∃ r S', FDrawD [.c j, .d (.int many)] (S ++ E) = some (.d (.int r), S' ++ E) ∧ 0 ≤ r ∧ r < many ∧ FeS T j (k + 1) S' := h.drawK (log2_small (by omega) (by omega)) E hk hp
/-- what F draws of such a feed, with cells behind it -/
def FedS (F : FV) (args : List PV) (P : PyData → Prop) (c : Nat) : Prop := ∀ {T : Sto} {j k : Nat} {S : Sto} (E : Sto), FeS T j k S → k + c ≤ 99999 → ∃ d S', F (.c j :: args) (S ++ E) = some (.d d, S' ++ E) ∧ P d ∧ FeS T j (k + c) S'
theorem drawDS {m : Int} (h : 0 < m) (hm : m ≤ 1000000) : FedS FDrawD [.d (.int m)] (fun d => ∃ r, d = .int r ∧ 0 ≤ r ∧ r < m) 1 := fun E f hk => by
  obtain ⟨r, S', e, r0, r1, g⟩ := f.drawD E (by omega) h hm
  exact ⟨_, S', e, ⟨r, rfl, r0, r1⟩, g⟩
end DN

namespace DL
open PySem PySem.Spec PyProof.Rows L2 DK
variable [Nms] [T0 : Tabs]
/-! generator expressions of two clauses -/
def gxIn (stop : PyData → Option Bool) (tgt1 : TgD) (tt1 : MB) (te : M) (ρ1 : RE) (k : Sto → Option (List PyData × Bool × Sto)) : List PyData → Sto → Option (List PyData × Bool × Sto)
  | [], S => k S
  | x :: xs, S => (tgt1 x ρ1).bind fun ρ2 => (tt1 ρ2 S).bind fun b => if b.1 = true then (te ρ2 b.2).bind fun v => match v.1 with
      | .d y => (stop y).bind fun st => if st = true then some ([y], false, v.2) else (gxIn stop tgt1 tt1 te ρ1 k xs v.2).bind fun r => some (y :: r.1, r.2)
      | _ => none
    else gxIn stop tgt1 tt1 te ρ1 k xs b.2
def gxGo2 (stop : PyData → Option Bool) (tgt : TgD) (tt : MB) (mi1 : ML) (vs1 : List Nat) (tgt1 : TgD) (tt1 : MB) (te : M) (ρ : RE) : List PyData → Sto → Option (List PyData × Bool × Sto)
  | [], S => some ([], true, S)
  | x :: xs, S => (tgt x ρ).bind fun ρ1 => (tt ρ1 S).bind fun b => if b.1 = true then (mi1 ρ1 b.2).bind fun p => gxIn stop tgt1 tt1 te (wipeR ρ1 vs1) (fun S => gxGo2 stop tgt tt mi1 vs1 tgt1 tt1 te ρ xs S) p.1 p.2
    else gxGo2 stop tgt tt mi1 vs1 tgt1 tt1 te ρ xs b.2
abbrev gE2 (elt tg iter tg1 iter1 : Expr) (ifs ifs1 : List Expr) (scope : Scope) (pos : Pos) : Expr := .GeneratorExp elt [⟨tg, iter, ifs, 0⟩, ⟨tg1, iter1, ifs1, 0⟩] scope pos
theorem compTurn_gen2_out (elt t0 i0 t1 i1 : Expr) (ifs0 ifs1 : List Expr) (scope : Scope) (pos : Pos) (it acc : Value) (env : Env) :
    compTurn (gE2 elt t0 i0 t1 i1 ifs0 ifs1 scope pos) 0 it acc env = (do
      standAt i0.pos
      match ← pyNext it with
      | none => pure (.done .next)
      | some v =>
        letOwnedTupleGo t0 it v
        assign t0 env v
        let mut ok := true
        for c in ifs0 do
          if ok then ok ← isTrue c env (eval c env)
        if ok then
          let x ← eval i1 env
          standAt i1.pos
          let x ← foldedSetIterable i1 env x
          let _ ← runOwn (.compStart (gE2 elt t0 i0 t1 i1 ifs0 ifs1 scope pos) 1 (← holding [x] (pyIter x)) acc env) env
        again (.compLoop (gE2 elt t0 i0 t1 i1 ifs0 ifs1 scope pos) 0 it acc env)) := by rfl
theorem compTurn_gen2_in (elt t0 i0 t1 i1 : Expr) (ifs0 ifs1 : List Expr) (scope : Scope) (pos : Pos) (it acc : Value) (env : Env) :
    compTurn (gE2 elt t0 i0 t1 i1 ifs0 ifs1 scope pos) 1 it acc env = (do
      standAt i1.pos
      match ← pyNext it with
      | none => pure (.done .next)
      | some v =>
        letOwnedTupleGo t1 it v
        assign t1 env v
        let mut ok := true
        for c in ifs1 do
          if ok then ok ← isTrue c env (eval c env)
        if ok then
          (do let v ← eval elt env; standAt elt.pos; let _ ← yieldOut env v)
        again (.compLoop (gE2 elt t0 i0 t1 i1 ifs0 ifs1 scope pos) 1 it acc env)) := by rfl
theorem over_in {A : Around} {elt : Expr} {gs : List Comprehension} {sc : Scope} {pos p : Pos} {it acc it0 acc0 : Value} {env : Env} {k : Result → Sem Fin} {g : Bool} {l : List Value} {kp : List Value} :
    A.over (.compLoop (.GeneratorExp elt gs sc pos) 1 it acc env) [.ret k none g l (.compLoop (.GeneratorExp elt gs sc pos) 0 it0 acc0 env) p kp] = A.deeper env := by
  first
    | rfl
    | (obtain ⟨hd, d, fr, gs, u⟩ := A; simp [Around.over, Around.deeper, marksOver, Frame.marks, markOver, Frame.where_, frameCount, unitsOf, envsOf, guardsOf, pushEnvs, pushGuards, Code.envs, Code.env?, Code.isFrame, Code.guards, Code.isGuard, Code.weight, Code.frames, Code.isCreation, Code.isCaller, Code.cUnits])
end DL

namespace DL
open PySem PySem.Spec PyProof.Rows L2 DK
variable [Nms] [Tabs]
section
variable {X : Cx} {scope : Scope} {cl : List (Str × Addr)} {C : Addr} {code : Value} {A : Around} {sb : Shared} {Hb : Hp} {fp fp1 : List Addr} {pn : List (Addr × Obj)} {tn tn1 : Nat → Heap → Prop} {bs : List Addr}
/-- at rest inside the second clause -/
def IRest (G : Cx) (fp fp1 Sx : List Addr) (tn tn1 : Nat → Heap → Prop) (bs : List Addr) (Hb H1 : Hp) (ρ ρ1 : RE) (Cn : Hp → Heap → Prop) (i i1 : Nat) (S : Sto) (H : Hp) (s : Shared) : Prop :=
  Cn H s.heap ∧ ∃ σ, Inv G (pinsAt Sx s.heap) σ H s ∧ (∀ b ∈ Sx, H b = none ∧ ∃ o, s.heap.get? b = some o ∧ ∀ v, o.data ≠ .cell v) ∧ (tn i s.heap ∧ tn1 i1 s.heap) ∧ ((∀ b ∈ fp, H b = none) ∧ ∀ b ∈ fp1, H b = none) ∧ (Ext bs Hb bs H ∧ Ext bs H1 bs H) ∧ Rel G.K bs S H ∧ ER G.K bs H σ ρ ∧ ER G.K bs H σ ρ1
theorem IRest.outer {G : Cx} {Sx : List Addr} {H1 : Hp} {ρ ρ1 : RE} {Cn : Hp → Heap → Prop} {i i1 : Nat} {S : Sto} {H : Hp} {s : Shared} (R : IRest G fp fp1 Sx tn tn1 bs Hb H1 ρ ρ1 Cn i i1 S H s) : GRest G fp Sx tn bs Hb ρ Cn i S H s := by
  obtain ⟨hC, σ, I, hs, st, fr, E1, R1, E2, _⟩ := R
  exact ⟨hC, σ, I, hs, st.1, fr.1, E1.1, R1, E2⟩
theorem IRest.wake {G : Cx} {Sx : List Addr} {H1 : Hp} {ρ ρ1 : RE} {Cn Cn' : Hp → Heap → Prop} {i i1 : Nat} {S : Sto} {H : Hp} {s s' : Shared} (hS : SxOk G Sx) (hfp : ∀ b ∈ fp, b ∉ Sx) (hfp1 : ∀ b ∈ fp1, b ∉ Sx)
    (tk : ∀ i h h', tn i h → (∀ b ∈ fp, ∀ o, h.get? b = some o → h'.get? b = some o) → tn i h') (tk1 : ∀ i h h', tn1 i h → (∀ b ∈ fp1, ∀ o, h.get? b = some o → h'.get? b = some o) → tn1 i h')
    (R : IRest G fp fp1 Sx tn tn1 bs Hb H1 ρ ρ1 Cn i i1 S H s) (z : Slp Sx s s') (hc : Cn' H s'.heap) : IRest G fp fp1 Sx tn tn1 bs Hb H1 ρ ρ1 Cn' i i1 S H s' := by
  obtain ⟨_, σ, I, hs, t, c⟩ := R
  obtain ⟨z1, z2, z3, z4⟩ := z
  have I0 : Inv G [] σ H s := I.pins_of fun p hp => absurd hp (by simp)
  have nt : ∀ b u, H b = some u → b ∉ Sx := fun b u q hb => by rw [(hs b hb).1] at q; cases q
  have J : Inv G [] σ H s' := by
    refine I0.call' (ch := Sx) z1 ⟨fun b o q _ _ hc => z3 b o hc q, fun b o q _ _ hc => ⟨o.slots, z3 b o hc q⟩, fun _ _ _ n _ => n, fun b o q hc => ⟨o, z3 b o hc q⟩, fun _ _ q => q, fun _ _ _ q => q, fun b ps q => ⟨#[], by rw [q]; simp⟩⟩ (fun b u q => ?_) z2 fun b hb => ?_
    · refine (I0.hok b u q).stay (fun c v hc y => z3 c v ?_ y) (fun _ y => y) fun _ _ y => y
      rcases hc with y | y
      · rw [y]; exact nt b u q
      · exact nt c _ y
    · obtain ⟨a1, a2, _, a4, a5⟩ := hS b hb
      exact ⟨a1, a2, a4, fun p hp => a5 p (by simpa using hp)⟩
  refine ⟨hc, σ, J.pins_of fun p hp => ?_, fun b hb => ⟨(hs b hb).1, z4 b hb⟩, ⟨tk _ _ _ t.1 fun b hb o q => z3 b o (hfp b hb) q, tk1 _ _ _ t.2 fun b hb o q => z3 b o (hfp1 b hb) q⟩, c⟩
  obtain ⟨hb, e⟩ := of_pinsAt hp
  obtain ⟨_, a2, a3, _⟩ := hS p.1 hb
  obtain ⟨o, e', d⟩ := z4 p.1 hb
  rw [e] at e'
  cases e'
  exact ⟨e, (hs p.1 hb).1, a2, a3, d⟩
theorem gx2_in {elt tg iter tg1 iter1 : Expr} {ifs ifs1 : List Expr} {pos : Pos} {it1 : Addr} {J J1 : It} {it : Addr} {xs1 : List PyData} {tgt1 : TgD} {tt1 : MB} {te : M} {is1 vs vs1 : List Nat} {ρ0 ρ1 : RE} {stop : PyData → Option Bool} {all : List PyData} {e : Bool} {Sf : Sto} {Sx : List Addr} {Cn : Nat → Hp → Heap → Prop} {H1 : Hp} {kont : Sto → Option (List PyData × Bool × Sto)} {i : Nat} {fr : Frame}
    (hCn : CnOk Sx bs Cn) (T : Turn X.prog X.w X.K tg J fp it tn) (T1 : Turn X.prog X.w X.K tg1 J1 fp1 it1 tn1) (hit : Iters X.K bs H1 J1 xs1) (hg : DG (gcx X scope cl C code A sb Hb fp pn) tg1 is1 tgt1) (ht : DTs (gcx X scope cl C code A sb Hb fp pn) ifs1 tt1) (he : DE (gcx X scope cl C code A sb Hb fp pn) elt te) (hv : ∀ i ∈ is1, i ∈ vs) (hv1 : ∀ i ∈ is1, i ∈ vs1)
    (hS : SxOk (gcx X scope cl C code A sb Hb fp pn) Sx) (hfs : ∀ b ∈ fp, b ∉ Sx) (hfs1 : ∀ b ∈ fp1, b ∉ Sx)
    (stat : ∀ {H' : Hp} {P : List (Addr × Obj)}, (∀ p ∈ P, p.1 ∈ Sx) → (∀ b ∈ fp, H' b = none) → ∀ b ∈ fp, FpOk (gcx X scope cl C code A sb Hb fp pn) P H' b)
    (stat1 : ∀ {H' : Hp} {P : List (Addr × Obj)}, (∀ p ∈ P, p.1 ∈ Sx ∨ p.1 ∈ fp) → (∀ b ∈ fp1, H' b = none) → ∀ b ∈ fp1, FpOk (gcx X scope cl C code A sb Hb fp pn) P H' b) (hco : scope.isCoroutine = false)
    (hov : A.over (.compLoop (gE2 elt tg iter tg1 iter1 ifs ifs1 scope pos) 1 (.ref it1) .none (gEnv X scope cl C code)) [fr] = A.deeper (gEnv X scope cl C code)) (hsp : splitAtGen [fr] = none) (hgu : [fr].any Frame.guarded = false)
    (next : ∀ (j : Nat) (S : Sto) (H : Hp) (s₀ s : Shared), GRest (gcx X scope cl C code A sb Hb fp pn) fp Sx tn bs Hb (wipeR ρ0 vs) (Cn j) i S H s → kont S = some (all.drop j, e, Sf) → j ≤ all.length → (∀ b ∈ Sx, s.heap.get? b = s₀.heap.get? b) →
      Seg (model X.prog X.w) A (GFin (gcx X scope cl C code A sb Hb fp pn) Sx bs Hb Cn all.length e Sf) (GOut (gcx X scope cl C code A sb Hb fp pn) fp Sx tn bs Hb (wipeR ρ0 vs) Cn stop all e Sf) (all.length - j) s₀
        (.compLoop (gE2 elt tg iter tg1 iter1 ifs ifs1 scope pos) 1 (.ref it1) .none (gEnv X scope cl C code)) (leafOf (.ok .next)) [fr] s) :
    ∀ (k i1 j : Nat) (S : Sto) (H : Hp) (s₀ s : Shared), xs1.length - i1 = k → i1 ≤ xs1.length → IRest (gcx X scope cl C code A sb Hb fp pn) fp fp1 Sx tn tn1 bs Hb H1 (wipeR ρ0 vs) (wipeR ρ1 vs1) (Cn j) i i1 S H s → gxIn stop tgt1 tt1 te (wipeR ρ1 vs1) kont (xs1.drop i1) S = some (all.drop j, e, Sf) → j ≤ all.length → (∀ b ∈ Sx, s.heap.get? b = s₀.heap.get? b) →
      Seg (model X.prog X.w) A (GFin (gcx X scope cl C code A sb Hb fp pn) Sx bs Hb Cn all.length e Sf) (GOut (gcx X scope cl C code A sb Hb fp pn) fp Sx tn bs Hb (wipeR ρ0 vs) Cn stop all e Sf) (all.length - j) s₀
        (.compLoop (gE2 elt tg iter tg1 iter1 ifs ifs1 scope pos) 1 (.ref it1) .none (gEnv X scope cl C code)) ((model X.prog X.w).den (.compLoop (gE2 elt tg iter tg1 iter1 ifs ifs1 scope pos) 1 (.ref it1) .none (gEnv X scope cl C code))) [fr] s := by
  intro k
  induction k with
  | zero =>
    intro i1 j S H s₀ s hk hi hR hgo hj h0
    have hin : i1 = xs1.length := by omega
    subst hin
    obtain ⟨hC, σ, I, hs, ⟨st, st1⟩, ⟨fr0, fr1⟩, ⟨E1, E1'⟩, R1, E2, E2'⟩ := hR
    have hP0 : ∀ p ∈ pinsAt Sx s.heap, p.1 ∈ Sx := fun p hp => (of_pinsAt hp).1
    have I' := I.pinned (stat hP0 fr0) (T.obj _ _ st)
    have hP1 : ∀ p ∈ pinsAt Sx s.heap ++ pinsAt fp s.heap, p.1 ∈ Sx ∨ p.1 ∈ fp := fun p hp => (List.mem_append.mp hp).elim (fun z => .inl (hP0 p z)) fun z => .inr (of_pinsAt z).1
    rw [List.drop_length] at hgo
    show Seg _ A _ _ _ s₀ _ ((compTurn (gE2 elt tg iter tg1 iter1 ifs ifs1 scope pos) 1 (.ref it1) .none (gEnv X scope cl C code)).onRaise (fun x => do noteFrame x (gEnv X scope cl C code); theTreesLotGoes x)) [fr] s
    rw [compTurn_gen2_in, Sem.onRaise_eq_wrap]
    refine seg_bind_wrap (wpAny_standAt ?_)
    refine seg_bind_wrap ?_
    rw [hov]
    refine wpAny_mono (T1.done (gcx X scope cl C code A sb Hb fp pn) rfl rfl rfl rfl _ (pinsAt Sx s.heap ++ pinsAt fp s.heap) s σ H (fun _ _ => False) I' (stat1 hP1 fr1) st1 (hit.stop bs H E1')) (fun r s1 ⟨hr, I1⟩ => ?_) fun _ _ z => z.elim
    subst hr
    have sx : ∀ b ∈ Sx, s1.heap.get? b = s.heap.get? b ∧ ∃ o, s1.heap.get? b = some o ∧ ∀ v, o.data ≠ .cell v := fun b hb => by
      obtain ⟨o, eo, d⟩ := (hs b hb).2
      obtain ⟨p1, _⟩ := I1.pin (b, o) (List.mem_append_right _ (List.mem_append_left _ (mem_pinsAt hb eo)))
      exact ⟨p1.trans eo.symm, o, p1, d⟩
    refine next j S H s₀ s1 ⟨hCn _ _ _ _ _ hC .refl fun b hb => (sx b hb).1, σ, I1.pins_of fun p hp => ?_, fun b hb => ⟨(hs b hb).1, (sx b hb).2⟩, T.keep _ _ _ st fun b hb o eo => (I1.pin (b, o) (List.mem_append_right _ (List.mem_append_right _ (mem_pinsAt hb eo)))).1, fr0, E1, R1, E2⟩ hgo hj fun b hb => (sx b hb).1.trans (h0 b hb)
    obtain ⟨hb, eo⟩ := of_pinsAt hp
    obtain ⟨_, o, q3, q4⟩ := sx p.1 hb
    obtain ⟨_, a2, a3, _⟩ := hS p.1 hb
    rw [eo] at q3
    cases q3
    exact ⟨eo, (hs p.1 hb).1, a2, a3, q4⟩
  | succ k ih =>
    intro i1 j S H s₀ s hk hi hR hgo hj h0
    have hlt : i1 < xs1.length := by omega
    obtain ⟨hC, σ, I, hs, ⟨st, st1⟩, ⟨fr0, fr1⟩, ⟨E1, E1'⟩, R1, E2, E2'⟩ := hR
    have hP0 : ∀ p ∈ pinsAt Sx s.heap, p.1 ∈ Sx := fun p hp => (of_pinsAt hp).1
    have I' := I.pinned (stat hP0 fr0) (T.obj _ _ st)
    have hP1 : ∀ p ∈ pinsAt Sx s.heap ++ pinsAt fp s.heap, p.1 ∈ Sx ∨ p.1 ∈ fp := fun p hp => (List.mem_append.mp hp).elim (fun z => .inl (hP0 p z)) fun z => .inr (of_pinsAt z).1
    rw [drop_cons hlt] at hgo
    unfold gxIn at hgo
    obtain ⟨ρ3, e3, hgo⟩ := Option.bind_eq_some_iff.mp hgo
    obtain ⟨⟨b, S5⟩, e5, hgo⟩ := Option.bind_eq_some_iff.mp hgo
    show Seg _ A _ _ _ s₀ _ ((compTurn (gE2 elt tg iter tg1 iter1 ifs ifs1 scope pos) 1 (.ref it1) .none (gEnv X scope cl C code)).onRaise (fun x => do noteFrame x (gEnv X scope cl C code); theTreesLotGoes x)) [fr] s
    rw [compTurn_gen2_in, Sem.onRaise_eq_wrap]
    refine seg_bind_wrap (wpAny_standAt ?_)
    refine seg_bind_wrap ?_
    rw [hov]
    refine wpAny_mono (T1.item (gcx X scope cl C code A sb Hb fp pn) rfl rfl rfl rfl i1 (pinsAt Sx s.heap ++ pinsAt fp s.heap) s σ H (fun _ _ => False) I' (stat1 hP1 fr1) st1 (hit.go bs H E1' i1 xs1[i1] (List.getElem?_eq_getElem hlt))) (fun r s1 ⟨u, hr, h1⟩ => ?_) fun _ _ z => z.elim
    subst hr
    refine seg_bind_wrap ?_
    rw [hov]
    refine wpAny_mono h1 (fun _ s2 ⟨x, H2, I2, rx, y2, st2, fr2⟩ => ?_) fun _ _ z => z.elim
    obtain ⟨gr, hx⟩ := hit.yld bs S H E1' R1 i1 xs1[i1] (List.getElem?_eq_getElem hlt) x H2 y2
    obtain ⟨R2, X2⟩ := Rel.grw R1 gr
    have I2' := I2.pinned (stat1 hP1 fr2) (T1.obj _ _ st2)
    refine seg_bind_wrap ?_
    rw [hov]
    refine wpAny_mono (hg.run _ s2 σ H2 x u (fun σ3 H3 => H3 = H2 ∧ ER X.K bs H2 σ3 ρ3 ∧ Agr is1 σ σ3) I2' rx ⟨bs, wipeR ρ1 vs1, xs1[i1], ρ3, E2'.ext X2, hx, e3, fun σ3 E3 A3 => ⟨rfl, E3, A3⟩⟩) (fun _ s3 ⟨σ3, H3, I3, q3, E3, A3⟩ => ?_) fun _ _ z => z.elim
    subst q3
    refine seg_bind_wrap ?_
    rw [hov]
    refine wpAny_mono (ht.run _ s3 σ3 H3 (fun b' H4 => b' = b ∧ Rel X.K bs S5 H4 ∧ Ext bs H3 bs H4) I3 ⟨bs, ρ3, S, b, S5, R2, E3, e5, fun H4 R4 X4 => ⟨rfl, R4, X4⟩⟩) (fun b' s4 ⟨H4, I4, q4, R4, X4⟩ => ?_) fun _ _ z => z.elim
    subst q4
    have sx : ∀ {s7 : Shared} {H7 : Hp}, Inv (gcx X scope cl C code A sb Hb fp pn) ((pinsAt Sx s.heap ++ pinsAt fp s.heap) ++ pinsAt fp1 s2.heap) σ3 H7 s7 → ∀ b ∈ Sx, H7 b = none ∧ s7.heap.get? b = s.heap.get? b ∧ ∃ o, s7.heap.get? b = some o ∧ ∀ v, o.data ≠ .cell v := fun {s7 H7} I7 b hb => by
      obtain ⟨o, eo, d⟩ := (hs b hb).2
      obtain ⟨p1, p2, _⟩ := I7.pin (b, o) (List.mem_append_right _ (List.mem_append_left _ (List.mem_append_left _ (mem_pinsAt hb eo))))
      exact ⟨p2, p1.trans eo.symm, o, p1, d⟩
    have back : ∀ {s7 : Shared} {H7 : Hp} {S7 : Sto}, Inv (gcx X scope cl C code A sb Hb fp pn) ((pinsAt Sx s.heap ++ pinsAt fp s.heap) ++ pinsAt fp1 s2.heap) σ3 H7 s7 → Rel X.K bs S7 H7 → Ext bs H3 bs H7 → IRest (gcx X scope cl C code A sb Hb fp pn) fp fp1 Sx tn tn1 bs Hb H1 (wipeR ρ0 vs) (wipeR ρ1 vs1) (Cn j) i (i1 + 1) S7 H7 s7 := fun {s7 H7 S7} I7 R7 X7 => by
      refine ⟨hCn _ _ _ _ _ hC (X2.trans X7) fun b hb => (sx I7 b hb).2.1, σ3, I7.pins_of fun p hp => ?_, fun b hb => ⟨(sx I7 b hb).1, (sx I7 b hb).2.2⟩, ⟨T.keep _ _ _ st fun b hb o e => (I7.pin (b, o) (List.mem_append_right _ (List.mem_append_left _ (List.mem_append_right _ (mem_pinsAt hb e))))).1, T1.keep _ _ _ st2 fun b hb o e => (I7.pin (b, o) (List.mem_append_right _ (List.mem_append_right _ (mem_pinsAt hb e)))).1⟩, ⟨fun b hb => ?_, fun b hb => ?_⟩, ⟨(E1.trans X2).trans X7, (E1'.trans X2).trans X7⟩, R7, ER.agr (E2.ext (X2.trans X7)) A3 hv, ER.agr (E2'.ext (X2.trans X7)) A3 hv1⟩
      · obtain ⟨hb, e⟩ := of_pinsAt hp
        obtain ⟨q1, q2, o, q3, q4⟩ := sx I7 p.1 hb
        obtain ⟨_, a2, a3, _⟩ := hS p.1 hb
        rw [e] at q3
        cases q3
        exact ⟨e, q1, a2, a3, q4⟩
      · obtain ⟨o, e, d⟩ := T.obj _ _ st b hb
        exact (I7.pin (b, o) (List.mem_append_right _ (List.mem_append_left _ (List.mem_append_right _ (mem_pinsAt hb e))))).2.1
      · obtain ⟨o, e, d⟩ := T1.obj _ _ st2 b hb
        exact (I7.pin (b, o) (List.mem_append_right _ (List.mem_append_right _ (mem_pinsAt hb e)))).2.1
    cases b' with
    | false =>
      simp only [Bool.false_eq_true, if_false] at hgo ⊢
      exact seg_again rfl (ih (i1 + 1) j S5 H4 s₀ s4 (by omega) hlt (back I4 R4 X4) hgo hj fun b hb => (sx I4 b hb).2.1.trans (h0 b hb))
    | true =>
      simp only [if_true] at hgo ⊢
      obtain ⟨⟨v, S6⟩, e6, hgo⟩ := Option.bind_eq_some_iff.mp hgo
      cases v with
      | f _ => first | rfl | exact h | (cases e; done) | (cases e1; done) | (cases e2; done) | (cases e3; done) | (cases e4; done) | (cases e5; done) | (cases e6; done) | (cases h; done) | (cases h1; done) | (cases h2; done) | (cases h3; done) | (cases b; done) | (cases q; done) | exact h.elim | exact g.elim | exact r.elim | exact r.1.elim | exact r1.elim | exact r2.elim | exact z.elim | exact h1.elim | contradiction | (cases y <;> rfl) | (cases x <;> rfl) | (cases q <;> rfl) | (cases a <;> rfl) | exact L _ _ | exact L _ | (simp_all; done)
      | c n => cases hgo
      | d y =>
        obtain ⟨t, et, hgo⟩ := Option.bind_eq_some_iff.mp hgo
        have hy : ∀ v, yieldOut (gEnv X scope cl C code) v = yieldValue v := fun v => by
          have hco' : (gEnv X scope cl C code).scope.isCoroutine = false := hco
          simp only [yieldOut, hco', Bool.false_eq_true, if_false]
        simp only [hy]
        rw [Sem.bind_eq_wrap', Sem.bind_eq_wrap', Sem.wrap_wrap, Sem.wrap_wrap]
        have hlen : ∃ j', all[j]? = some y ∧ j < all.length ∧ j' = j + 1 := by
          have : ∃ r, all.drop j = y :: r := by
            cases t with
            | true =>
              simp only [if_true] at hgo
              injection hgo with hgo
              injection hgo with h1 h2
              exact ⟨[], h1.symm⟩
            | false =>
              simp only [Bool.false_eq_true, if_false] at hgo
              obtain ⟨r, er, hgo⟩ := Option.bind_eq_some_iff.mp hgo
              injection hgo with hgo
              injection hgo with h1 h2
              exact ⟨r.1, h1.symm⟩
          obtain ⟨r, hr⟩ := this
          have hjl : j < all.length := by
            have := congrArg List.length hr
            rw [List.length_drop, List.length_cons] at this
            omega
          refine ⟨j + 1, ?_, hjl, rfl⟩
          have := congrArg (·[0]?) hr
          simpa using this
        obtain ⟨_, hay, hjl, _⟩ := hlen
        obtain ⟨n', hn'⟩ : ∃ n', all.length - j = n' + 1 := ⟨all.length - j - 1, by omega⟩
        rw [hn']
        refine seg_wrap ?_
        rw [hov]
        refine wpAny_mono (he.run _ s4 σ3 H4 (fun u' H6 => Rel X.K bs S6 H6 ∧ Ext bs H4 bs H6 ∧ VR X.K bs H6 u' (.d y)) I4 ⟨bs, ρ3, S5, .d y, S6, R4, E3.ext X4, e6, fun u' H6 R6 X6 V6 => ⟨R6, X6, V6⟩⟩) (fun w5 s5 ⟨u5, H6, I6, r6, R6, X6, V6⟩ => ?_) fun _ _ z => z.elim
        have rest := back I6 R6 (X4.trans X6)
        have hidx : all.length - 1 - n' = j := by omega
        refine seg_at (seg_yield hsp rfl hgu ⟨y, u5, H6, S6, i, by omega, by rw [hidx]; exact hay, r6, V6, by rw [hidx]; exact rest.outer, fun b hb => (sx I6 b hb).2.1.trans (h0 b hb), ?_⟩)
        cases t with
        | true =>
          simp only [if_true] at hgo
          injection hgo with hgo
          injection hgo with h1 h2
          injection h2 with h2 h3
          refine .inl ⟨et, ?_, h2.symm, h3⟩
          have := congrArg List.length h1
          rw [List.length_drop, List.length_singleton] at this
          omega
        | false =>
          simp only [Bool.false_eq_true, if_false] at hgo
          obtain ⟨⟨r1, r2, r3⟩, er, hgo⟩ := Option.bind_eq_some_iff.mp hgo
          injection hgo with hgo
          injection hgo with h1 h2
          injection h2 with h2 h3
          refine .inr ⟨et, fun s'' hz hC2 => ?_⟩
          rw [show all.length - n' = j + 1 by omega] at hC2
          have hd : all.drop (j + 1) = r1 := by
            have z := congrArg List.tail h1
            rw [List.tail_drop] at z
            exact z.symm
          subst h2 h3
          rw [← hd] at er
          have q := ih (i1 + 1) (j + 1) S6 H6 s'' s'' (by omega) hlt (rest.wake hS hfs hfs1 T.keep T1.keep hz hC2) er (by omega) fun _ _ => rfl
          have hn2 : all.length - (j + 1) = n' := by omega
          rw [hn2] at q
          exact seg_again rfl q
end
end DL

namespace DL
open PySem PySem.Spec PyProof.Rows L2 DK
variable [Nms] [Tabs]
theorem wipeR_sub {ρ : RE} {i : Nat} {p : PV} : ∀ {vs : List Nat}, (wipeR ρ vs)[i]? = some (some p) → ρ[i]? = some (some p)
  | [], h => h
  | v :: vs, h => by
    have h' : ((wipeR ρ vs).set v none)[i]? = some (some p) := h
    by_cases hv : v = i
    · subst hv
      rw [List.getElem?_set] at h'
      simp only [if_true] at h'
      split at h' <;> cases h'
    · rw [List.getElem?_set_ne hv] at h'
      exact wipeR_sub h'
theorem ER.unk {K : Fg} {as : List Addr} {H : Hp} {σ : L2.St} {ρ : RE} (E : ER K as H σ ρ) (vs : List Nat) : ER K as H σ (wipeR ρ vs) :=
  ⟨by rw [wipeR_len]; exact E.len, fun i p e => E.at_ i p (wipeR_sub e), E.tab⟩
theorem seg_start1 {prog : Program} {w : World} {K : Fg} {A : Around} {R : GenEnd} {Y : Protocol} {n : Nat} {s₀ s : Shared} {fs : List Frame} {elt iter tg iter1 tg1 : Expr} {ifs ifs1 : List Expr} {scope : Scope} {pos : Pos} {env : Env} {it1 : Addr} {J1 : It} {fp1 : List Addr} {tn1 : Nat → Heap → Prop} (T1 : Turn prog w K tg1 J1 fp1 it1 tn1) (st : tn1 0 s.heap)
    (h : Seg (model prog w) A R Y n s₀ (.compLoop (gE2 elt tg iter tg1 iter1 ifs ifs1 scope pos) 1 (.ref it1) .none env) ((model prog w).den (.compLoop (gE2 elt tg iter tg1 iter1 ifs ifs1 scope pos) 1 (.ref it1) .none env)) fs s) :
    Seg (model prog w) A R Y n s₀ (.compStart (gE2 elt tg iter tg1 iter1 ifs ifs1 scope pos) 1 (.ref it1) .none env) ((model prog w).den (.compStart (gE2 elt tg iter tg1 iter1 ifs ifs1 scope pos) 1 (.ref it1) .none env)) fs s := by
  show Seg _ A _ _ _ s₀ _ ((compStart (gE2 elt tg iter tg1 iter1 ifs ifs1 scope pos) 1 (.ref it1) .none env).onRaise (fun x => do noteFrame x env; standAt theWindowsPlace)) _ s
  unfold compStart
  rw [Sem.onRaise_eq_wrap]
  show Seg _ A _ _ _ s₀ _ ((ask >>= _).wrap _ _ _ _) _ s
  refine seg_bind_wrap (wpAny_askSetting ?_)
  split
  · exact seg_again rfl h
  · first
      | exact seg_bind_wrap (wpAny_rule (seg_bind_wrap (wpAny_standAt (seg_bind_wrap (T1.self _ 0 s _ _ st (seg_again rfl h))))))
      | (refine seg_bind_wrap (wpAny_rule ?_); show Seg _ A _ _ _ s₀ _ ((standAt iter1.pos >>= _).wrap _ _ _ _) _ s; exact seg_bind_wrap (wpAny_standAt (seg_bind_wrap (T1.self _ 0 s _ _ st (seg_again rfl h)))))
section
variable {X : Cx} {scope : Scope} {cl : List (Str × Addr)} {C : Addr} {code : Value} {A : Around} {sb : Shared} {Hb : Hp} {fp : List Addr} {pn : List (Addr × Obj)} {tn : Nat → Heap → Prop} {bs : List Addr}
theorem gx2_loop {elt iter tg iter1 tg1 : Expr} {ifs ifs1 : List Expr} {pos : Pos} {it : Addr} {J : It} {xs : List PyData} {tgt tgt1 : TgD} {tt tt1 : MB} {te : M} {mi1 : ML} {is is1 vs vs1 : List Nat} {ρ0 : RE} {stop : PyData → Option Bool} {all : List PyData} {e : Bool} {Sf : Sto} {Sx : List Addr} {Cn : Nat → Hp → Heap → Prop}
    (hCn : CnOk Sx bs Cn) (T : Turn X.prog X.w X.K tg J fp it tn) (hit : Iters X.K bs Hb J xs) (hg : DG (gcx X scope cl C code A sb Hb fp pn) tg is tgt) (ht : DTs (gcx X scope cl C code A sb Hb fp pn) ifs tt)
    (hi1 : DI (gcx X scope cl C code A sb Hb fp pn) tg1 iter1 mi1) (hg1 : DG (gcx X scope cl C code A sb Hb fp pn) tg1 is1 tgt1) (ht1 : DTs (gcx X scope cl C code A sb Hb fp pn) ifs1 tt1) (he : DE (gcx X scope cl C code A sb Hb fp pn) elt te) (hv : ∀ i ∈ is, i ∈ vs) (hv1 : ∀ i ∈ is1, i ∈ vs1) (hv2 : ∀ i ∈ is1, i ∈ vs)
    (hS : SxOk (gcx X scope cl C code A sb Hb fp pn) Sx) (hfs : ∀ b ∈ fp, b ∉ Sx)
    (stat : ∀ {H' : Hp} {P : List (Addr × Obj)}, (∀ p ∈ P, p.1 ∈ Sx) → (∀ b ∈ fp, H' b = none) → ∀ b ∈ fp, FpOk (gcx X scope cl C code A sb Hb fp pn) P H' b) (hco : scope.isCoroutine = false) (hs1 : ∀ x, foldedSetIterable iter1 (gEnv X scope cl C code) x = pure x) :
    ∀ (k i j : Nat) (S : Sto) (H : Hp) (s₀ s : Shared), xs.length - i = k → i ≤ xs.length → GRest (gcx X scope cl C code A sb Hb fp pn) fp Sx tn bs Hb (wipeR ρ0 vs) (Cn j) i S H s → gxGo2 stop tgt tt mi1 vs1 tgt1 tt1 te (wipeR ρ0 vs) (xs.drop i) S = some (all.drop j, e, Sf) → j ≤ all.length → (∀ b ∈ Sx, s.heap.get? b = s₀.heap.get? b) →
      Seg (model X.prog X.w) A (GFin (gcx X scope cl C code A sb Hb fp pn) Sx bs Hb Cn all.length e Sf) (GOut (gcx X scope cl C code A sb Hb fp pn) fp Sx tn bs Hb (wipeR ρ0 vs) Cn stop all e Sf) (all.length - j) s₀
        (.compLoop (gE2 elt tg iter tg1 iter1 ifs ifs1 scope pos) 0 (.ref it) .none (gEnv X scope cl C code)) ((model X.prog X.w).den (.compLoop (gE2 elt tg iter tg1 iter1 ifs ifs1 scope pos) 0 (.ref it) .none (gEnv X scope cl C code))) [] s := by
  intro k
  induction k with
  | zero =>
    intro i j S H s₀ s hk hi hR hgo hj h0
    have hin : i = xs.length := by omega
    subst hin
    obtain ⟨hC, σ, I, hs, st, fr, E1, R1, E2⟩ := hR
    have hP0 : ∀ p ∈ pinsAt Sx s.heap, p.1 ∈ Sx := fun p hp => (of_pinsAt hp).1
    rw [List.drop_length] at hgo
    unfold gxGo2 at hgo
    injection hgo with hgo
    injection hgo with h1 h2
    injection h2 with h2 h3
    have hjl : all.length - j = 0 := by
      have := congrArg List.length h1
      rw [List.length_drop] at this
      exact this.symm
    show Seg _ A _ _ _ s₀ _ ((compTurn (gE2 elt tg iter tg1 iter1 ifs ifs1 scope pos) 0 (.ref it) .none (gEnv X scope cl C code)).onRaise (leaving (gEnv X scope cl C code))) [] s
    rw [compTurn_gen2_out, Sem.onRaise_eq_wrap]
    refine seg_bind_wrap (wpAny_standAt ?_)
    refine seg_bind_wrap ?_
    rw [over_gl]
    refine wpAny_mono (T.done (gcx X scope cl C code A sb Hb fp pn) rfl rfl rfl rfl _ (pinsAt Sx s.heap) s σ H (fun _ _ => False) I (stat hP0 fr) st (hit.stop bs H E1)) (fun r s1 ⟨hr, I1⟩ => ?_) fun _ _ z => z.elim
    subst hr
    have hjn : j = all.length := by omega
    refine seg_end (.ok .next) ⟨rfl, hjl, h2.symm, σ, H, pinsAt Sx s.heap, by
      rw [← hjn]
      refine hCn _ _ _ _ _ hC .refl fun b hb => ?_
      obtain ⟨o, eo, _⟩ := (hs b hb).2
      rw [eo]
      exact (I1.pin (b, o) (List.mem_append_right _ (mem_pinsAt hb eo))).1, fun b hb => ⟨(hs b hb).1, let ⟨o, eo, _⟩ := (hs b hb).2; ⟨o, mem_pinsAt hb eo⟩⟩, I1, fun b hb => ?_, E1, by rw [← h3]; exact R1⟩
    obtain ⟨o, eo, _⟩ := (hs b hb).2
    rw [← h0 b hb, eo]
    exact (I1.pin (b, o) (List.mem_append_right _ (mem_pinsAt hb eo))).1
  | succ k ih =>
    intro i j S H s₀ s hk hi hR hgo hj h0
    have hlt : i < xs.length := by omega
    obtain ⟨hC, σ, I, hs, st, fr, E1, R1, E2⟩ := hR
    have hP0 : ∀ p ∈ pinsAt Sx s.heap, p.1 ∈ Sx := fun p hp => (of_pinsAt hp).1
    rw [drop_cons hlt] at hgo
    unfold gxGo2 at hgo
    obtain ⟨ρ3, e3, hgo⟩ := Option.bind_eq_some_iff.mp hgo
    obtain ⟨⟨b, S5⟩, e5, hgo⟩ := Option.bind_eq_some_iff.mp hgo
    show Seg _ A _ _ _ s₀ _ ((compTurn (gE2 elt tg iter tg1 iter1 ifs ifs1 scope pos) 0 (.ref it) .none (gEnv X scope cl C code)).onRaise (leaving (gEnv X scope cl C code))) [] s
    rw [compTurn_gen2_out, Sem.onRaise_eq_wrap]
    refine seg_bind_wrap (wpAny_standAt ?_)
    refine seg_bind_wrap ?_
    rw [over_gl]
    refine wpAny_mono (T.item (gcx X scope cl C code A sb Hb fp pn) rfl rfl rfl rfl i (pinsAt Sx s.heap) s σ H (fun _ _ => False) I (stat hP0 fr) st (hit.go bs H E1 i xs[i] (List.getElem?_eq_getElem hlt))) (fun r s1 ⟨u, hr, h1⟩ => ?_) fun _ _ z => z.elim
    subst hr
    refine seg_bind_wrap ?_
    rw [over_gl]
    refine wpAny_mono h1 (fun _ s2 ⟨x, H2, I2, rx, y2, st2, fr2⟩ => ?_) fun _ _ z => z.elim
    obtain ⟨gr, hx⟩ := hit.yld bs S H E1 R1 i xs[i] (List.getElem?_eq_getElem hlt) x H2 y2
    obtain ⟨R2, X2⟩ := Rel.grw R1 gr
    have I2' := I2.pinned (stat hP0 fr2) (T.obj _ _ st2)
    refine seg_bind_wrap ?_
    rw [over_gl]
    refine wpAny_mono (hg.run _ s2 σ H2 x u (fun σ3 H3 => H3 = H2 ∧ ER X.K bs H2 σ3 ρ3 ∧ Agr is σ σ3) I2' rx ⟨bs, wipeR ρ0 vs, xs[i], ρ3, E2.ext X2, hx, e3, fun σ3 E3 A3 => ⟨rfl, E3, A3⟩⟩) (fun _ s3 ⟨σ3, H3, I3, q3, E3, A3⟩ => ?_) fun _ _ z => z.elim
    subst q3
    refine seg_bind_wrap ?_
    rw [over_gl]
    refine wpAny_mono (ht.run _ s3 σ3 H3 (fun b' H4 => b' = b ∧ Rel X.K bs S5 H4 ∧ Ext bs H3 bs H4) I3 ⟨bs, ρ3, S, b, S5, R2, E3, e5, fun H4 R4 X4 => ⟨rfl, R4, X4⟩⟩) (fun b' s4 ⟨H4, I4, q4, R4, X4⟩ => ?_) fun _ _ z => z.elim
    subst q4
    have sx : ∀ {s7 : Shared} {H7 : Hp}, Inv (gcx X scope cl C code A sb Hb fp pn) (pinsAt Sx s.heap ++ pinsAt fp s2.heap) σ3 H7 s7 → ∀ b ∈ Sx, H7 b = none ∧ s7.heap.get? b = s.heap.get? b ∧ ∃ o, s7.heap.get? b = some o ∧ ∀ v, o.data ≠ .cell v := fun {s7 H7} I7 b hb => by
      obtain ⟨o, eo, d⟩ := (hs b hb).2
      obtain ⟨p1, p2, _⟩ := I7.pin (b, o) (List.mem_append_right _ (List.mem_append_left _ (mem_pinsAt hb eo)))
      exact ⟨p2, p1.trans eo.symm, o, p1, d⟩
    have back : ∀ {s7 : Shared} {H7 : Hp} {S7 : Sto}, Inv (gcx X scope cl C code A sb Hb fp pn) (pinsAt Sx s.heap ++ pinsAt fp s2.heap) σ3 H7 s7 → Rel X.K bs S7 H7 → Ext bs H3 bs H7 → GRest (gcx X scope cl C code A sb Hb fp pn) fp Sx tn bs Hb (wipeR ρ0 vs) (Cn j) (i + 1) S7 H7 s7 := fun {s7 H7 S7} I7 R7 X7 => by
      refine ⟨hCn _ _ _ _ _ hC (X2.trans X7) fun b hb => (sx I7 b hb).2.1, σ3, I7.pins_of fun p hp => ?_, fun b hb => ⟨(sx I7 b hb).1, (sx I7 b hb).2.2⟩, T.keep _ _ _ st2 fun b hb o e => (I7.pin (b, o) (List.mem_append_right _ (List.mem_append_right _ (mem_pinsAt hb e)))).1, fun b hb => ?_, (E1.trans X2).trans X7, R7, ?_⟩
      · obtain ⟨hb, e⟩ := of_pinsAt hp
        obtain ⟨q1, q2, o, q3, q4⟩ := sx I7 p.1 hb
        obtain ⟨_, a2, a3, _⟩ := hS p.1 hb
        rw [e] at q3
        cases q3
        exact ⟨e, q1, a2, a3, q4⟩
      · obtain ⟨o, e, d⟩ := T.obj _ _ st2 b hb
        exact (I7.pin (b, o) (List.mem_append_right _ (List.mem_append_right _ (mem_pinsAt hb e)))).2.1
      · exact ER.agr (E2.ext (X2.trans X7)) A3 hv
    cases b' with
    | false =>
      simp only [Bool.false_eq_true, if_false] at hgo ⊢
      exact seg_again rfl (ih (i + 1) j S5 H4 s₀ s4 (by omega) hlt (back I4 R4 X4) hgo hj fun b hb => (sx I4 b hb).2.1.trans (h0 b hb))
    | true =>
      simp only [if_true] at hgo ⊢
      obtain ⟨⟨xs1, S6⟩, e6, hgo⟩ := Option.bind_eq_some_iff.mp hgo
      dsimp only at hgo
      refine seg_bind_wrap ?_
      rw [over_gl]
      refine wpAny_mono (hi1.run _ s4 σ3 H4 (fun J1 H6 => Rel X.K bs S6 H6 ∧ Ext bs H4 bs H6 ∧ Iters X.K bs H6 J1 xs1) I4 ⟨bs, ρ3, S5, xs1, S6, R4, E3.ext X4, e6, fun J1 H6 R6 X6 it1 => ⟨R6, X6, it1⟩⟩) (fun v s5 h5 => ?_) fun _ _ z => z.elim
      refine seg_bind_wrap (wpAny_standAt ?_)
      refine seg_bind_wrap (wpAny_of_eq (hs1 v) ?_)
      refine seg_bind_wrap ?_
      rw [over_gl]
      refine wpAny_holding ?_
      refine wpAny_mono h5 (fun itv s6 ⟨it1, fp1, tn1, J1, H6, eit, I6, T1, st6, hf6, R6, X6, its1⟩ => ?_) fun _ _ z => z.elim
      subst eit
      have pS : ∀ b ∈ Sx, ∃ o, (b, o) ∈ pinsAt Sx s.heap ++ pinsAt fp s2.heap := fun b hb => by
        obtain ⟨o, eo, d⟩ := (hs b hb).2
        exact ⟨o, List.mem_append_left _ (mem_pinsAt hb eo)⟩
      have pF : ∀ b ∈ fp, ∃ o, (b, o) ∈ pinsAt Sx s.heap ++ pinsAt fp s2.heap := fun b hb => by
        obtain ⟨o, eo, d⟩ := T.obj _ _ st2 b hb
        exact ⟨o, List.mem_append_right _ (mem_pinsAt hb eo)⟩
      have hfs1 : ∀ b ∈ fp1, b ∉ Sx := fun b hb z => by
        obtain ⟨o, ho⟩ := pS b z
        exact (hf6 b hb).2.2.2.2.2 (b, o) (List.mem_append_right _ ho) rfl
      have stat1 : ∀ {H' : Hp} {P : List (Addr × Obj)}, (∀ p ∈ P, p.1 ∈ Sx ∨ p.1 ∈ fp) → (∀ b ∈ fp1, H' b = none) → ∀ b ∈ fp1, FpOk (gcx X scope cl C code A sb Hb fp pn) P H' b := fun {H' P} hP hH b hb => by
        obtain ⟨g0, g1, g2, g3, g4, g5⟩ := hf6 b hb
        refine ⟨hH b hb, g1, g2, g3, g4, fun p hp => ?_⟩
        rcases List.mem_append.mp hp with z | z
        · exact g5 p (List.mem_append_left _ z)
        · rcases hP p z with w | w
          · obtain ⟨o, ho⟩ := pS p.1 w
            exact g5 (p.1, o) (List.mem_append_right _ ho)
          · obtain ⟨o, ho⟩ := pF p.1 w
            exact g5 (p.1, o) (List.mem_append_right _ ho)
      have rest := back I6 R6 (X4.trans X6)
      refine seg_call (c' := .compStart (gE2 elt tg iter tg1 iter1 ifs ifs1 scope pos) 1 (.ref it1) .none (gEnv X scope cl C code)) (h := none) (g := false) fun p => ?_
      refine seg_start1 T1 st6 (gx2_in (X := X) (scope := scope) (cl := cl) (C := C) (code := code) (A := A) (sb := sb) (Hb := Hb) (fp := fp) (fp1 := fp1) (pn := pn) (tn := tn) (tn1 := tn1) (bs := bs) (elt := elt) (tg := tg) (iter := iter) (ifs := ifs) (ifs1 := ifs1) (pos := pos) (it := it) (stop := stop) (all := all) (e := e) (Sf := Sf) (ρ0 := ρ0) (ρ1 := ρ3) (H1 := H6) (i := i + 1) (vs := vs) (vs1 := vs1)
        (kont := fun S => gxGo2 stop tgt tt mi1 vs1 tgt1 tt1 te (wipeR ρ0 vs) (xs.drop (i + 1)) S) hCn T T1 its1 hg1 ht1 he hv2 hv1 hS hfs hfs1 stat stat1 hco over_in rfl rfl
        ?next xs1.length 0 j S6 H6 s₀ s6 (Nat.sub_zero _) (Nat.zero_le _) ?rest (by rw [List.drop_zero]; exact hgo) hj (fun b hb => (sx I6 b hb).2.1.trans (h0 b hb)))
      case next =>
        intro j' S' H' s₀' s' hR' hgo' hj' h0'
        exact seg_leaf (.ok .next) (seg_again rfl (ih (i + 1) j' S' H' s₀' s' (by omega) hlt hR' hgo' hj' h0'))
      case rest =>
        obtain ⟨c1, σ', c2, c3, c4, c5, c6, c7, c8⟩ := rest
        refine ⟨hCn _ _ _ _ _ hC ((X2.trans X4).trans X6) fun b hb => (sx I6 b hb).2.1, σ3, I6.pins_of fun p hp => ?_, fun b hb => ⟨(sx I6 b hb).1, (sx I6 b hb).2.2⟩, ⟨c4, st6⟩, ⟨c5, fun b hb => (hf6 b hb).1⟩, ⟨c6, .refl⟩, R6, ER.agr (E2.ext ((X2.trans X4).trans X6)) A3 hv, (E3.ext (X4.trans X6)).unk vs1⟩
        obtain ⟨hb, e⟩ := of_pinsAt hp
        obtain ⟨q1, q2, o, q3, q4⟩ := sx I6 p.1 hb
        obtain ⟨_, a2, a3, _⟩ := hS p.1 hb
        rw [e] at q3
        cases q3
        exact ⟨e, q1, a2, a3, q4⟩
end
end DL

namespace DL
open PySem PySem.Spec PyProof.Rows L2 DK
variable [Nms] [T0 : Tabs]
section
variable {X : Cx} {scope : Scope} {cl : List (Str × Addr)} {C : Addr} {code : Value} {A : Around} {sb : Shared} {Hb : Hp} {fp : List Addr} {pn : List (Addr × Obj)} {tn : Nat → Heap → Prop} {bs : List Addr}
theorem gx2_start {elt iter tg iter1 tg1 : Expr} {ifs ifs1 : List Expr} {pos : Pos} {it : Addr} {J : It} {xs : List PyData} {tgt tgt1 : TgD} {tt tt1 : MB} {te : M} {mi1 : ML} {is is1 vs vs1 : List Nat} {ρ0 : RE} {stop : PyData → Option Bool} {all : List PyData} {e : Bool} {Sf : Sto} {Sx : List Addr} {Cn : Nat → Hp → Heap → Prop}
    (hCn : CnOk Sx bs Cn) (T : Turn X.prog X.w X.K tg J fp it tn) (hit : Iters X.K bs Hb J xs) (hg : DG (gcx X scope cl C code A sb Hb fp pn) tg is tgt) (ht : DTs (gcx X scope cl C code A sb Hb fp pn) ifs tt)
    (hi1 : DI (gcx X scope cl C code A sb Hb fp pn) tg1 iter1 mi1) (hg1 : DG (gcx X scope cl C code A sb Hb fp pn) tg1 is1 tgt1) (ht1 : DTs (gcx X scope cl C code A sb Hb fp pn) ifs1 tt1) (he : DE (gcx X scope cl C code A sb Hb fp pn) elt te) (hv : ∀ i ∈ is, i ∈ vs) (hv1 : ∀ i ∈ is1, i ∈ vs1) (hv2 : ∀ i ∈ is1, i ∈ vs)
    (hS : SxOk (gcx X scope cl C code A sb Hb fp pn) Sx) (hfs : ∀ b ∈ fp, b ∉ Sx)
    (stat : ∀ {H' : Hp} {P : List (Addr × Obj)}, (∀ p ∈ P, p.1 ∈ Sx) → (∀ b ∈ fp, H' b = none) → ∀ b ∈ fp, FpOk (gcx X scope cl C code A sb Hb fp pn) P H' b) (hco : scope.isCoroutine = false) (hs1 : ∀ x, foldedSetIterable iter1 (gEnv X scope cl C code) x = pure x)
    {S : Sto} {H : Hp} {s₀ s : Shared} (hR : GRest (gcx X scope cl C code A sb Hb fp pn) fp Sx tn bs Hb (wipeR ρ0 vs) (Cn 0) 0 S H s) (hgo : gxGo2 stop tgt tt mi1 vs1 tgt1 tt1 te (wipeR ρ0 vs) xs S = some (all, e, Sf)) (h0 : ∀ b ∈ Sx, s.heap.get? b = s₀.heap.get? b) :
    Seg (model X.prog X.w) A (GFin (gcx X scope cl C code A sb Hb fp pn) Sx bs Hb Cn all.length e Sf) (GOut (gcx X scope cl C code A sb Hb fp pn) fp Sx tn bs Hb (wipeR ρ0 vs) Cn stop all e Sf) all.length s₀
      (.compStart (gE2 elt tg iter tg1 iter1 ifs ifs1 scope pos) 0 (.ref it) .none (gEnv X scope cl C code)) ((model X.prog X.w).den (.compStart (gE2 elt tg iter tg1 iter1 ifs ifs1 scope pos) 0 (.ref it) .none (gEnv X scope cl C code))) [] s := by
  have loop := gx2_loop (iter := iter) (pos := pos) (stop := stop) (all := all) (e := e) (Sf := Sf) hCn T hit hg ht hi1 hg1 ht1 he hv hv1 hv2 hS hfs stat hco hs1 xs.length 0 0 S H s₀ s (Nat.sub_zero _) (Nat.zero_le _) hR (by rw [List.drop_zero, List.drop_zero]; exact hgo) (Nat.zero_le _) h0
  rw [Nat.sub_zero] at loop
  obtain ⟨_, σ, I, hs, st, _⟩ := hR
  show Seg _ A _ _ _ s₀ _ ((compStart (gE2 elt tg iter tg1 iter1 ifs ifs1 scope pos) 0 (.ref it) .none (gEnv X scope cl C code)).onRaise (leaving (gEnv X scope cl C code))) [] s
  unfold compStart
  rw [Sem.onRaise_eq_wrap]
  show Seg _ A _ _ _ s₀ _ ((ask >>= _).wrap _ _ _ _) [] s
  refine seg_bind_wrap (wpAny_askSetting ?_)
  split
  · exact seg_again rfl loop
  · first
      | exact seg_bind_wrap (wpAny_rule (seg_bind_wrap (wpAny_standAt (seg_bind_wrap (T.self _ 0 s _ _ st (seg_again rfl loop))))))
      | (refine seg_bind_wrap (wpAny_rule ?_); show Seg _ A _ _ _ s₀ _ ((standAt iter.pos >>= _).wrap _ _ _ _) [] s; exact seg_bind_wrap (wpAny_standAt (seg_bind_wrap (T.self _ 0 s _ _ st (seg_again rfl loop)))))
end
section
variable {M : Model} {A : Around} {E : Value → Shared → Prop} {s : Shared}
end
/-- a generator that has just been made -/
structure GReady2 (X : Cx) (pins : List (Addr × Obj)) (σ : L2.St) (ρ : RE) (tg iter elt : Expr) (ifs : List Expr) (gs : List Comprehension) (scope : Scope) (gpos : Pos) (xs : List PyData) (as : List Addr) (S1 : Sto) (H5 : Hp) (s4 : Shared) (c' P' : Addr) (fp : List Addr) (tn : Nat → Heap → Prop) (J : It) (it a : Addr) (go : Obj) (h' : Heap) (m : Str → Option Value) (s5 : Shared) : Prop where
  inv : Inv X pins σ H5 s4
  rel : Rel X.K as S1 H5
  er : ER X.K as H5 σ ρ
  tab : TabX H5 (some c', P')
  turn : Turn X.prog X.w X.K tg J fp it tn
  at0 : tn 0 s4.heap
  fpk : ∀ b ∈ fp, FpOk X pins H5 b
  its : Iters X.K as H5 J xs
  ns : h'.Ns s4.heap.objs.size m
  sb : Heap.SameBut s4.heap.objs.size (pushCells (s4.heap.push { cls := .type "frame", data := .dict #[] }) scope.names) h'
  atA : a = h'.objs.size
  isG : ∀ h : Heap, h.get? a = some go → h.IsGen a s4.gens.size
  heap : s5.heap = h'.push go
  gens : s5.gens = s4.gens.push (.fresh (.compStart (.GeneratorExp elt (⟨tg, iter, ifs, 0⟩ :: gs) scope gpos) 0 (.ref it) .none (gEnv X scope (gCl X scope s4.heap.objs.size) s4.heap.objs.size (.ref c'))))
  os : s5.os = s4.os
  noc : ∀ v, go.data ≠ .cell v
  atG : s5.heap.get? a = some go
section
variable {X : Cx} {pins : List (Addr × Obj)} {σ : L2.St} {H : Hp} {s : Shared} {ρ : RE} {tg iter elt : Expr} {ifs : List Expr} {gs : List Comprehension} {scope : Scope} {gpos : Pos} {xs : List PyData} {as : List Addr} {S S1 : Sto} {own : List (Str × Nat)} {vs is : List Nat} {mi : ML}
variable {H5 : Hp} {s4 : Shared} {c' P' : Addr} {fp : List Addr} {tn : Nat → Heap → Prop} {J : It} {it a : Addr} {go : Obj} {h' : Heap} {m : Str → Option Value} {s5 : Shared}
theorem GReady2.keep5 (G : GReady2 X pins σ ρ tg iter elt ifs gs scope gpos xs as S1 H5 s4 c' P' fp tn J it a go h' m s5) : ∀ b o, s4.heap.get? b = some o → s5.heap.get? b = some o := fun b o e => by
  rw [G.heap]
  exact Heap.get?_push_of_some _ ((G.sb.2 b (Nat.ne_of_lt (Heap.lt_size e))).trans (pushCells_keeps _ _ _ _ (Heap.get?_push_of_some _ e)))
theorem GReady2.isGen (G : GReady2 X pins σ ρ tg iter elt ifs gs scope gpos xs as S1 H5 s4 c' P' fp tn J it a go h' m s5) : s5.heap.IsGen a s4.gens.size := G.isG _ G.atG
end
section
variable {X : Cx} {pins : List (Addr × Obj)} {σ : L2.St} {ρ : RE} {tg iter elt : Expr} {ifs : List Expr} {scope : Scope} {gpos : Pos} {xs : List PyData} {as : List Addr} {S S1 : Sto} {own : List (Str × Nat)} {vs is : List Nat}
variable {H5 : Hp} {s4 : Shared} {c' P' : Addr} {fp : List Addr} {tn : Nat → Heap → Prop} {J : It} {it a : Addr} {go : Obj} {h' : Heap} {m : Str → Option Value} {s5 : Shared} {gs : List Comprehension}
theorem GReady2.wake {A : Around} {Sx : List Addr} {s6 : Shared} {stop : PyData → Option Bool} {all : List PyData} {e : Bool} {Sf : Sto} {tgt tgt1 : TgD} {tt tt1 : MB} {te : M} {mi1 : ML} {tg1 iter1 : Expr} {ifs1 : List Expr} {is1 vs1 : List Nat} {Cn : Nat → Hp → Heap → Prop} (hCn : CnOk Sx as Cn) (G : GReady2 X pins σ ρ tg iter elt ifs [⟨tg1, iter1, ifs1, 0⟩] scope gpos xs as S1 H5 s4 c' P' fp tn J it a go h' m s5)
    (B : BlkOk X.N X.env.scope scope own) (hN : X.N.Nodup) (hvs : ∀ p ∈ own, p.2 ∈ vs) (hv : ∀ i ∈ is, i ∈ vs) (hv1 : ∀ i ∈ is1, i ∈ vs1) (hv2 : ∀ i ∈ is1, i ∈ vs) (hco : scope.isCoroutine = false)
    (hg : @DG _ (tabsIn c' P') (gcR X scope c' A s4 H5 fp a go) tg is tgt) (ht : @DTs _ (tabsIn c' P') (gcR X scope c' A s4 H5 fp a go) ifs tt) (hi1 : @DI _ (tabsIn c' P') (gcR X scope c' A s4 H5 fp a go) tg1 iter1 mi1) (hg1 : @DG _ (tabsIn c' P') (gcR X scope c' A s4 H5 fp a go) tg1 is1 tgt1) (ht1 : @DTs _ (tabsIn c' P') (gcR X scope c' A s4 H5 fp a go) ifs1 tt1) (hs1 : ∀ env x, foldedSetIterable iter1 env x = pure x) (he : @DE _ (tabsIn c' P') (gcR X scope c' A s4 H5 fp a go) elt te)
    (hh : A.handled = none) (hfr : A.frames = some X.stack) (hgo : gxGo2 stop tgt tt mi1 vs1 tgt1 tt1 te (wipeR ρ vs) xs S1 = some (all, e, Sf)) (hk : ∀ b o, s5.heap.get? b = some o → s6.heap.get? b = some o) (hos : s6.os = s5.os) (hb : AllBare s6.gens)
    (hSx : ∀ b ∈ Sx, s5.heap.objs.size ≤ b ∧ ∃ o, s6.heap.get? b = some o ∧ ∀ v, o.data ≠ .cell v) (hC0 : Cn 0 H5 s6.heap) :
    (GenState.fresh (.compStart (.GeneratorExp elt [⟨tg, iter, ifs, 0⟩, ⟨tg1, iter1, ifs1, 0⟩] scope gpos) 0 (.ref it) .none (gEnv X scope (gCl X scope s4.heap.objs.size) s4.heap.objs.size (.ref c')))).Goes (model X.prog X.w) A
      (GFin (gcR X scope c' A s4 H5 fp a go) Sx as H5 Cn all.length e Sf) (@GOut _ (tabsIn c' P') (gcR X scope c' A s4 H5 fp a go) fp Sx tn as H5 (wipeR ρ vs) Cn stop all e Sf) all.length (.send .none) s6 := by
  have sz5 : s5.heap.objs.size = h'.objs.size + 1 := by rw [G.heap, Heap.size_push]
  have szC : s4.heap.objs.size < h'.objs.size := G.ns.lt
  have kh : ∀ b o, h'.get? b = some o → s5.heap.get? b = some o := fun b o q => by rw [G.heap]; exact Heap.get?_push_of_some _ q
  have fo : ∀ b ∈ fp, ∃ o, s4.heap.get? b = some o := fun b hb => let ⟨o, q, _⟩ := G.turn.obj _ _ G.at0 b hb; ⟨o, q⟩
  have hpn : ∀ p ∈ [(a, go)] ++ pinsAt Sx s6.heap, s6.heap.get? p.1 = some p.2 ∧ s4.heap.objs.size < p.1 ∧ ∀ v, p.2.data ≠ .cell v := fun p hp => by
    rcases List.mem_append.mp hp with z | z
    · rw [List.mem_singleton.mp z]
      exact ⟨hk _ _ G.atG, by show s4.heap.objs.size < a; rw [G.atA]; exact szC, G.noc⟩
    · obtain ⟨z1, z2⟩ := of_pinsAt z
      obtain ⟨y1, o, y2, y3⟩ := hSx p.1 z1
      rw [z2] at y2
      cases y2
      exact ⟨z2, by have h1 : s4.heap.objs.size < h'.objs.size := szC; have h2 : h'.objs.size + 1 ≤ p.1 := by rw [← sz5]; exact y1
                    exact Nat.lt_of_lt_of_le (Nat.lt_succ_of_lt h1) h2, y3⟩
  have I6 : Inv (gcR X scope c' A s4 H5 fp a go) (pinsAt Sx s6.heap) (wipe σ vs) H5 s6 := gx_frame G.inv B hN hvs G.fpk fo G.ns G.sb (fun b o q => hk b o (kh b o q)) (hos.trans G.os) hb hh hfr hpn
  have I5 : ∀ x c, (gcR X scope c' A s4 H5 fp a go).env.cells.lookup x = some c → c < s5.heap.objs.size := fun x c q => by
    have Z : Inv (gcR X scope c' A s4 H5 fp a go) [] (wipe σ vs) H5 { s6 with heap := s5.heap } := gx_frame G.inv B hN hvs G.fpk fo G.ns G.sb kh (hos.trans G.os) hb hh hfr fun p hp => by
      have hp' : p ∈ [(a, go)] := by simpa using hp
      rw [List.mem_singleton.mp hp']
      exact ⟨G.atG, by show s4.heap.objs.size < a; rw [G.atA]; exact szC, G.noc⟩
    obtain ⟨v, z⟩ := Z.cell x c q
    exact z.lt
  have alt : a < s5.heap.objs.size := Heap.lt_size G.atG
  have sx : SxOk (gcR X scope c' A s4 H5 fp a go) Sx := fun b hb => by
    obtain ⟨y1, _⟩ := hSx b hb
    have h1 : s4.heap.objs.size < b := Nat.lt_of_lt_of_le (Nat.lt_succ_of_lt szC) (show h'.objs.size + 1 ≤ b by rw [← sz5]; exact y1)
    refine ⟨.inr (Nat.le_of_lt h1), Nat.ne_of_gt h1, notStk G.inv (Nat.le_of_lt h1), fun x c q z => ?_, fun p hp z => ?_⟩
    · have := I5 x c q
      rw [z] at this
      exact absurd (Nat.lt_of_lt_of_le this y1) (Nat.lt_irrefl _)
    · rw [List.mem_singleton.mp hp] at z
      rw [← z] at y1
      exact absurd (Nat.lt_of_lt_of_le alt y1) (Nat.lt_irrefl _)
  have fl : ∀ b ∈ fp, b < s4.heap.objs.size := fun b hb => let ⟨o, q⟩ := fo b hb; Heap.lt_size q
  have l45 : s4.heap.objs.size < s5.heap.objs.size := by rw [sz5]; exact Nat.lt_succ_of_lt szC
  have fsx : ∀ b ∈ fp, b ∉ Sx := fun b hb z => absurd (Nat.lt_of_lt_of_le (Nat.lt_trans (fl b hb) l45) (hSx b z).1) (Nat.lt_irrefl _)
  refine ⟨rfl, @gx2_start _ (tabsIn c' P') X scope _ _ _ A s4 H5 fp _ tn as elt iter tg iter1 tg1 ifs ifs1 gpos it J xs tgt tgt1 tt tt1 te mi1 is is1 vs vs1 ρ stop all e Sf Sx Cn hCn G.turn G.its hg ht hi1 hg1 ht1 he hv hv1 hv2 sx fsx (fun {H' P} hP hH b hb => ?_) hco (hs1 _) S1 H5 s6 s6 ⟨hC0, wipe σ vs, I6, fun b hb => ⟨?_, (hSx b hb).2⟩, ?_, fun b hb => (G.fpk b hb).1, .refl, G.rel, ?_⟩ hgo fun _ _ => rfl⟩
  · refine ⟨hH b hb, (I6.ok.exf b hb).1, I6.ok.exfs b hb, .inl hb, (I6.ok.exf b hb).2, fun p hp z => ?_⟩
    have lb := fl b hb
    rcases List.mem_append.mp hp with q | q
    · rw [List.mem_singleton.mp q] at z
      have : a = b := z
      rw [← this, G.atA] at lb
      exact absurd (Nat.lt_trans szC lb) (Nat.lt_irrefl _)
    · exact fsx b hb (z ▸ hP p q)
  · obtain ⟨y1, _⟩ := hSx b hb
    exact G.inv.hok.fresh (Nat.le_trans (Nat.le_of_lt l45) y1)
  · exact G.turn.keep _ _ _ G.at0 fun b _ o q => hk b o (G.keep5 b o q)
  · exact @ER.wiped _ (tabsIn c' P') _ _ _ _ _ (G.er.up G.tab) vs
theorem GReady2.bare (G : GReady2 X pins σ ρ tg iter elt ifs [⟨tg1, iter1, ifs1, 0⟩] scope gpos xs as S1 H5 s4 c' P' fp tn J it a go h' m s5) : AllBare s5.gens := by
  rw [G.gens]
  exact G.inv.bare.push rfl
theorem GReady2.nolimit (G : GReady2 X pins σ ρ tg iter elt ifs [⟨tg1, iter1, ifs1, 0⟩] scope gpos xs as S1 H5 s4 c' P' fp tn J it a go h' m s5) : s5.heap.NoLimit := G.inv.nolimit.keeps G.keep5
theorem GReady2.gen (G : GReady2 X pins σ ρ tg iter elt ifs [⟨tg1, iter1, ifs1, 0⟩] scope gpos xs as S1 H5 s4 c' P' fp tn J it a go h' m s5) : s5.gens[s4.gens.size]? = some (.fresh (.compStart (.GeneratorExp elt [⟨tg, iter, ifs, 0⟩, ⟨tg1, iter1, ifs1, 0⟩] scope gpos) 0 (.ref it) .none (gEnv X scope (gCl X scope s4.heap.objs.size) s4.heap.objs.size (.ref c')))) := by
  rw [G.gens]
  simp
end
end DL

namespace DL
open PySem PySem.Spec PyProof.Rows L2 DK
variable [Nms] [T0 : Tabs]
section
variable {X : Cx} {tg iter elt tg1 iter1 : Expr} {ifs ifs1 : List Expr} {scope : Scope} {p pos gpos : Pos} {own : List (Str × Nat)} {vs is vs1 is1 : List Nat} {mi mi1 : ML} {tgt tgt1 : TgD} {tt tt1 : MB} {te : M} {t : Tb} {k : Nat}
end
end DL

/-! xs.pop(), xs.pop(i), xs.count(k) of a list of ours; t.index(k) of a tuple of whole numbers -/
namespace DL
open PySem PySem.Spec PyProof.Rows L2 DK
section
variable [Nms] [Tabs]
variable {X : Cx} {o e : Expr} {mo mi : M} {apos cpos : Pos}
def mPop0 (mo : M) : M := fun ρ S => (mo ρ S).bind fun o => match o.1 with
  | .c j => (lAt o.2 j).bind fun ds => (ds[ds.length - 1]?).bind fun y => some (.d y, o.2.set j (.l ds.dropLast))
  | _ => none
/-- xs.count(k), xs a list of ours, of whole numbers -/
def mCountC (mo mi : M) : M := fun ρ S => (mo ρ S).bind fun o => (mi ρ o.2).bind fun i => match o.1, i.1 with
  | .c j, .d (.int z) => if (lAt o.2 j).isSome = true then (lAt i.2 j).bind fun ds => (intsOf ds).bind fun ns => some (.d (.int (ns.count z : Nat)), i.2) else none
  | _, _ => none
theorem de_countC (ho : DE X o mo) (hi : DE X e mi) (hbase : attributeBase o "count" X.env (eval o X.env) = eval o X.env := by rfl)
    (hfew : ((backTo cpos (starEach [e] X.env)).all (fun x => !x.1) && (backToKw cpos (keywordEach [] X.env)).all (fun x => x.1.isSome) && decide ([e].length + ([] : List Keyword).length + (if ([] : List Keyword).isEmpty then 0 else 1) < 30)) = true := by rfl)
    (hline : (apos.endLine == cpos.line) = true := by rfl) (hs : starEach [e] X.env = (false, eval e X.env) :: starEach [] X.env := by rfl) (hplain : (backTo cpos (starEach [] X.env)).any (·.1) = false := by rfl) :
    DE X (.Call (.Attribute o "count" apos) [e] [] cpos) (mCountC mo mi) :=
  pe_imp (pe_bm PySem.F.plainAttrs_list PySem.F.slot_list_count PySem.F.type_list_count mt_lcount ho (pa_cons hi pa_nil hs) hbase hfew hline hs hplain) fun σ H Q ⟨as, ρ, S, r, S', R, E, e, k⟩ => by
    obtain ⟨⟨o, S1⟩, e1, e⟩ := Option.bind_eq_some_iff.mp e
    obtain ⟨⟨i, S2⟩, e2, e⟩ := Option.bind_eq_some_iff.mp e
    refine ⟨as, ρ, S, o, S1, R, E, e1, fun u H1 R1 E1 V1 => ?_⟩
    dsimp only at e
    split at e
    · rename_i j z _
      split at e
      · rename_i hs
        obtain ⟨ds0, e0⟩ := Option.isSome_iff_exists.mp hs
        obtain ⟨ds, e4, e⟩ := Option.bind_eq_some_iff.mp e
        obtain ⟨ns, e5, e⟩ := Option.bind_eq_some_iff.mp e
        obtain ⟨a, q, rfl⟩ := id V1
        refine ⟨cell_ty R1 V1 e0, as, ρ, S1, .d (.int z), S2, R1, E.ext E1, e2, fun w H2 R2 E2 V2 => ?_⟩
        have eS := congrArg Prod.snd (Option.some.inj e)
        have eR := congrArg Prod.fst (Option.some.inj e)
        dsimp only at eS eR
        subst eS eR
        cases V2
        obtain ⟨vs, h1, h2⟩ := R2.at_ j a ds q e4
        rw [intsOf_some e5] at h2
        rw [dpAll_ints_inv h2] at h1
        exact ⟨a, ns, z, rfl, rfl, SqL.of h1, k _ _ R2 (E1.trans E2) (.int _)⟩
      · cases e
    · cases e
def mIndexT (mo mi : M) : M := fun ρ S => (mo ρ S).bind fun o => (mi ρ o.2).bind fun i => match o.1, i.1 with
  | .d (.tuple xs), .d (.int k) => (intsOf xs).bind fun ns => if k ∈ ns then some (.d (.int (ns.idxOf k : Nat)), i.2) else none
  | _, _ => none
end
end DL

/-! dicts whose keys are ints and texts: cells .n; {k: v, ..} -/
namespace DL
open PySem PySem.Spec PyProof.Rows L2 DK
abbrev NKs := List (Key × PyData)
def nAt (S : Sto) (i : Nat) : Option NKs := match S[i]? with
  | some (.n ds) => some ds
  | _ => none
theorem nAt_some {S : Sto} {i : Nat} {ds : NKs} : nAt S i = some ds ↔ S[i]? = some (.n ds) := by
  unfold nAt
  split
  · rename_i e
    rw [e]
    exact ⟨fun h => (by rw [Option.some.inj h]), fun h => (by cases h; rfl)⟩
  · rename_i h
    exact ⟨fun e => (by cases e), fun e => absurd e (h ds)⟩
section
variable {K : Fg} {G : Hp}
end
section
variable [Nms] [Tabs]
theorem Rel.nt {K : Fg} {as : List Addr} {S : Sto} {H : Hp} {j : Nat} {a : Addr} {kvs : NKs} (R : Rel K as S H) (ha : as[j]? = some a) (e : nAt S j = some kvs) : ∃ es : List (Key × V), H a = some (.dK es) ∧ Paired (NtR K (hide as H)) es kvs ∧ es.length ≤ 1000000 := R.cell j a _ ha (nAt_some.mp e)
variable {X : Cx} {o i e f : Expr} {mo mk mv mx : M} {k : Nat}
/-! ### {k: v, ..} handed back by a def -/
abbrev FN := List PV → Sto → Option (NKs × Sto)
end
end DL

set_option maxHeartbeats 4000000
/-! () * k; x in range(n), x not in range(n); tuple(range(..)) -/
namespace DK
open PySem PySem.Spec PyProof.Rows L2
section
variable (l : Addr) (items : Array Value) (n : Nat) (dd : Option Addr) (sl : Array (Option Value)) (u : Tok)
end
end DK
namespace DL
open PySem PySem.Spec PyProof.Rows L2 DK
section
variable [Nms] [Tabs]
variable {X : Cx} {a b : Expr} {ma mb m : M} {k : Nat} {pos p q p2 q2 : Pos}
/-! x in range(n) -/
/-! tuple(range(..)) -/
end
end DL

set_option maxHeartbeats 4000000
/-! f(dict(xs)), xs a new list of pairs whose keys are tuples -/
namespace DL
open PySem PySem.Spec PyProof.Rows L2 DK
section
variable {X : Cx}
end
section
variable [Nms] [Tabs]
variable {X : Cx} {k : Nat} {f : Addr} {fd : FuncData} {ps : List Str} {g : Str} {p pos p2 pos2 : Pos} {e : Expr} {ml : ML}
end
end DL

namespace DL
open PySem PySem.Spec PyProof.Rows L2 DK
section
variable [Nms] [T0 : Tabs] {X : Cx} {c' P' : Addr}
theorem DI.up {tg iter : Expr} {mi : ML} (h : DI X tg iter mi) : @DI _ (tabsIn c' P') X tg iter mi := ⟨fun pins s σ H R I ⟨as, ρ, S, xs, S1, R1, E, e, k⟩ => h.run pins s σ H R I ⟨as, ρ, S, xs, S1, R1, ER.down E, e, k⟩⟩
end
section
variable [Nms] [Tabs]
variable {X : Cx} {a b : Expr} {ma mb : M} {pos : Pos}
end
end DL

/-! list displays of new lists that are changed afterwards; two own lists at once; what is shown of them; len(set(..)) -/
namespace DL
open PySem PySem.Spec PyProof.Rows L2 DK
section
variable [Nms] [Tabs]
end
end DL

namespace DL
open PySem PySem.Spec PyProof.Rows L2 DK
section
variable [Nms] [Tabs]
/-! len(set(list of whole numbers)) -/
end
/-! y = [.. for .. for ..], y a list that is not changed -/
section
variable [Nms] [Tabs]
theorem ds_setLc2 {X : Cx} {elt tg iter tg1 iter1 : Expr} {ifs ifs1 : List Expr} {scope : Scope} {own : List (Str × Nat)} {pos : Pos} {mi mi1 : ML} {is vs is1 vs1 : List Nat} {tgt tgt1 : TgD} {tt tt1 : MB} {te : M} {i : Nat} {y : Str} {py spos : Pos} (hc : X.calm = true) (hN : X.N.Nodup) (hy : X.N[i]? = some y) (hyl : X.env.scope.names.lookup y = some .local)
    (hsw : swapsWith (.ListComp elt [⟨tg, iter, ifs, 0⟩, ⟨tg1, iter1, ifs1, 0⟩] scope pos) (some (.Name y py)) spos.line X.env = pure true) (hi : DI X tg iter mi) (ok : BlkOk X.N X.env.scope scope own)
    (hg : ∀ (s : Shared) (H : Hp) (C : Addr) (cl : List (Str × Addr)) (fp : List Addr), DG (X.blk s H scope (compEnvC scope cl C X.env) fp) tg is tgt) (ht : ∀ (s : Shared) (H : Hp) (C : Addr) (cl : List (Str × Addr)) (fp : List Addr), DTs (X.blk s H scope (compEnvC scope cl C X.env) fp) ifs tt)
    (hi1 : ∀ (s : Shared) (H : Hp) (C : Addr) (cl : List (Str × Addr)) (fp : List Addr), DI (X.blk s H scope (compEnvC scope cl C X.env) fp) tg1 iter1 mi1)
    (hg1 : ∀ (s : Shared) (H : Hp) (C : Addr) (cl : List (Str × Addr)) (fp : List Addr), DG (X.blk s H scope (compEnvC scope cl C X.env) fp) tg1 is1 tgt1) (ht1 : ∀ (s : Shared) (H : Hp) (C : Addr) (cl : List (Str × Addr)) (fp : List Addr), DTs (X.blk s H scope (compEnvC scope cl C X.env) fp) ifs1 tt1)
    (he : ∀ (s : Shared) (H : Hp) (C : Addr) (cl : List (Str × Addr)) (fp : List Addr), DE (X.blk s H scope (compEnvC scope cl C X.env) fp) elt te)
    (hv : (is.all fun i => vs.contains i) = true) (hv1 : (is1.all fun i => vs1.contains i) = true) (hv2 : (vs1.all fun i => vs.contains i) = true) (hs : ∀ x, foldedSetIterable iter X.env x = pure x := by intro _; rfl) (hs1 : ∀ env x, foldedSetIterable iter1 env x = pure x := by intro _ _; rfl) (hvs : own.map (·.2) = vs := by rfl) :
    DS X (.Assign [.Name y py] (.ListComp elt [⟨tg, iter, ifs, 0⟩, ⟨tg1, iter1, ifs1, 0⟩] scope pos) spos) (sSet i (mFz (mLc2 mi vs tgt tt mi1 vs1 tgt1 tt1 te))) := by
  subst hvs
  exact ps_imp (ps_setLc2 hc hN hy hyl hsw hi ok (fun i h => by simpa using List.all_eq_true.mp hv2 i h) hg ht hi1 hg1 ht1 he hs hs1) (set_L (lc2_D (fun i h => by simpa using List.all_eq_true.mp hv i h) fun i h => by simpa using List.all_eq_true.mp hv1 i h))
end
end DL

/-! x not in a tuple; k not in a dict -/
namespace DL
open PySem PySem.Spec PyProof.Rows L2 DK
def fNotInT : PV → PV → Sto → Option PV := fun x y S => (asD S x).bind fun a => match y with
  | .d (.tuple ds) => if (SeqAt.shaped a && SeqAt.shaped (.tuple ds)) = true then some (.d (.bool (!ds.any fun z => PyData.eqv z a))) else none
  | _ => none
section
variable {X : Cx} {A : Around} {a b : Addr} {pins : List (Addr × Obj)} {σ : L2.St} {H : Hp} {s : Shared} {es : List DEnt} {k : NestedKey} {E : Value → Shared → Prop}
end
section
variable {X : Cx} {i o : Expr} {ty td : TE}
end
section
variable [Nms] [Tabs]
variable {X : Cx} {a b : Expr} {ma mb : M} {k : Nat} {pos : Pos}
variable {o e : Expr} {mo mk : M}
end
instance : FrOp fNotInT := ⟨fun x y S T => by
  unfold fNotInT
  rw [sh_asD]
  cases asD T x with
  | none => rfl
  | some a =>
    cases y with
    | f _ => first | rfl | exact h | (cases e; done) | (cases e1; done) | (cases e2; done) | (cases e3; done) | (cases e4; done) | (cases e5; done) | (cases e6; done) | (cases h; done) | (cases h1; done) | (cases h2; done) | (cases h3; done) | (cases b; done) | (cases q; done) | exact h.elim | exact g.elim | exact r.elim | exact r.1.elim | exact r1.elim | exact r2.elim | exact z.elim | exact h1.elim | contradiction | (cases y <;> rfl) | (cases x <;> rfl) | (cases q <;> rfl) | (cases a <;> rfl) | exact L _ _ | exact L _ | (simp_all; done)
    | c j => rfl
    | d y =>
      cases y with
      | tuple ds =>
        dsimp [shV]
        split <;> rfl
      | _ => rfl⟩
end DL

/-! sorted(x), a list or a tuple of whole numbers -/
namespace DL
open PySem PySem.Spec PyProof.Rows L2 DK
def mSortQ (m : M) : ML := fun ρ S => (m ρ S).bind fun p => match asD p.2 p.1 with
  | some (.list xs) => (intsOf xs).bind fun ns => some ((sortI ns).map .int, p.2)
  | some (.tuple xs) => (intsOf xs).bind fun ns => some ((sortI ns).map .int, p.2)
  | _ => none
section
variable [Nms] [Tabs]
variable {X : Cx} {e : Expr} {m : M} {p pos : Pos}
end
end DL

set_option maxHeartbeats 4000000
/-! x = dict(xs), xs a new list of pairs whose keys are tuples -/
namespace DL
open PySem PySem.Spec PyProof.Rows L2 DK
section
variable [Nms] [Tabs]
variable {X : Cx} {e : Expr} {ml : ML} {k : Nat} {pos : Pos}
end
end DL

/-! sorted(x), a tuple of rows of whole numbers -/
namespace DL
open PySem PySem.Spec PySem.W PyProof.Rows L2 DK
section
variable [Nms] [Tabs]
variable {X : Cx} {e : Expr} {m : M} {p pos : Pos} {k : Nat}
end
end DL

/-! sets of ints: cells .s; x = set(), x.add(k), k in x, k not in x -/
/-- whether the world's order of sets follows the text -/
class SetB where
  b : Bool
namespace DL
open PySem PySem.Spec PySem.W PyProof.Rows L2 DK
theorem setO_flag {w w' : World} (h : w'.params.followText "set-order" = w.params.followText "set-order") (a : Addr) (S : Int → Bool) (n : Nat) : SetO w' a S n = SetO w a S n := by
  unfold SetO SetR
  rw [h]
theorem SetW.at {H : Hp} {a : Addr} {b : Bool} {ns : List Int} {w : World} (h : SetW H a b ns) (hw : w.params.followText "set-order" = b) : H a = some (SetO w a (fun k => decide (k ∈ ns)) ns.length) := by
  obtain ⟨w', h1, h2⟩ := h
  rw [h2, setO_flag (w := w) (w' := w') (by rw [h1, hw])]
def addS (ns : List Int) (k : Int) : List Int := if k ∈ ns then ns else ns ++ [k]
def sAt (S : Sto) (i : Nat) : Option (Bool × List Int) := match S[i]? with
  | some (.s b ns) => some (b, ns)
  | _ => none
theorem sAt_some {S : Sto} {i : Nat} {p : Bool × List Int} : sAt S i = some p ↔ S[i]? = some (.s p.1 p.2) := by
  unfold sAt
  split
  · rename_i e
    rw [e]
    exact ⟨fun h => (by rw [← Option.some.inj h]), fun h => (by cases h; rfl)⟩
  · rename_i h
    exact ⟨fun e => (by cases e), fun e => absurd e (h p.1 p.2)⟩
section
variable [Nms] [Tabs] [SetB]
theorem Rel.st {K : Fg} {as : List Addr} {S : Sto} {H : Hp} {j : Nat} {a : Addr} {p : Bool × List Int} (R : Rel K as S H) (ha : as[j]? = some a) (e : sAt S j = some p) : SetW H a p.1 p.2 ∧ p.2.Nodup ∧ p.2.length ≤ 1000 := R.cell j a _ ha (sAt_some.mp e)
variable {X : Cx} {o e : Expr} {mo mk : M}
def sOwnSet (i : Nat) : MS := fun ρ S => some (.nx (ρ.set i (some (.c S.length))) (S ++ [.s SetB.b []]))
def mSAdd (mo mk : M) : M := fun ρ S => (mo ρ S).bind fun o => (mk ρ o.2).bind fun q => match o.1, q.1 with
  | .c j, .d (.int k) => (sAt o.2 j).bind fun z => (sAt q.2 j).bind fun y => if z.1 = SetB.b ∧ y.1 = SetB.b ∧ y.2.length < 1000 then some (.d .none, q.2.set j (.s SetB.b (addS y.2 k))) else none
  | _, _ => none
def fSIn : PV → PV → Sto → Option PV := fun x y S => match x, y with
  | .d (.int k), .c j => (sAt S j).bind fun z => if z.1 = SetB.b then some (.d (.bool (decide (k ∈ z.2)))) else none
  | _, _ => none
def fSNotIn : PV → PV → Sto → Option PV := fun x y S => match x, y with
  | .d (.int k), .c j => (sAt S j).bind fun z => if z.1 = SetB.b then some (.d (.bool (!decide (k ∈ z.2)))) else none
  | _, _ => none
variable {a b : Expr} {ma mb : M} {pos : Pos}
end
/-! ### frames -/
section
variable [SetB]
theorem sAt_sh (S T : Sto) (j : Nat) : sAt (S ++ T) (S.length + j) = sAt T j := by
  unfold sAt
  rw [sto_get]
instance (i : Nat) : FrS (sOwnSet i) := ⟨fun ρ S T => by
  show some (Out.nx ((shR S.length ρ).set i (some (.c (S ++ T).length))) (S ++ T ++ [.s SetB.b []])) = some (.nx (shR S.length (ρ.set i (some (.c T.length)))) (S ++ (T ++ [.s SetB.b []])))
  rw [List.length_append, List.append_assoc, ← sh_set]
  rfl⟩
instance : FrOp fSIn := ⟨fun x y S T => by
  unfold fSIn
  cases x with
  | d x => cases x <;> first | rfl | (cases y with
    | d y => rfl
    | f _ => first | rfl | exact h | (cases e; done) | (cases e1; done) | (cases e2; done) | (cases e3; done) | (cases e4; done) | (cases e5; done) | (cases e6; done) | (cases h; done) | (cases h1; done) | (cases h2; done) | (cases h3; done) | (cases b; done) | (cases q; done) | exact h.elim | exact g.elim | exact r.elim | exact r.1.elim | exact r1.elim | exact r2.elim | exact z.elim | exact h1.elim | contradiction | (cases y <;> rfl) | (cases x <;> rfl) | (cases q <;> rfl) | (cases a <;> rfl) | exact L _ _ | exact L _ | (simp_all; done)
    | c j =>
      show (sAt (S ++ T) (S.length + j)).bind _ = ((sAt T j).bind _).map _
      rw [sAt_sh]
      cases sAt T j with
      | none => rfl
      | some z =>
        show (if z.1 = SetB.b then _ else none) = (if z.1 = SetB.b then _ else none).map _
        split <;> rfl)
  | f _ => first | rfl | exact h | (cases e; done) | (cases e1; done) | (cases e2; done) | (cases e3; done) | (cases e4; done) | (cases e5; done) | (cases e6; done) | (cases h; done) | (cases h1; done) | (cases h2; done) | (cases h3; done) | (cases b; done) | (cases q; done) | exact h.elim | exact g.elim | exact r.elim | exact r.1.elim | exact r1.elim | exact r2.elim | exact z.elim | exact h1.elim | contradiction | (cases y <;> rfl) | (cases x <;> rfl) | (cases q <;> rfl) | (cases a <;> rfl) | exact L _ _ | exact L _ | (simp_all; done)
  | c j => rfl⟩
instance : FrOp fSNotIn := ⟨fun x y S T => by
  unfold fSNotIn
  cases x with
  | d x => cases x <;> first | rfl | (cases y with
    | d y => rfl
    | f _ => first | rfl | exact h | (cases e; done) | (cases e1; done) | (cases e2; done) | (cases e3; done) | (cases e4; done) | (cases e5; done) | (cases e6; done) | (cases h; done) | (cases h1; done) | (cases h2; done) | (cases h3; done) | (cases b; done) | (cases q; done) | exact h.elim | exact g.elim | exact r.elim | exact r.1.elim | exact r1.elim | exact r2.elim | exact z.elim | exact h1.elim | contradiction | (cases y <;> rfl) | (cases x <;> rfl) | (cases q <;> rfl) | (cases a <;> rfl) | exact L _ _ | exact L _ | (simp_all; done)
    | c j =>
      show (sAt (S ++ T) (S.length + j)).bind _ = ((sAt T j).bind _).map _
      rw [sAt_sh]
      cases sAt T j with
      | none => rfl
      | some z =>
        show (if z.1 = SetB.b then _ else none) = (if z.1 = SetB.b then _ else none).map _
        split <;> rfl)
  | f _ => first | rfl | exact h | (cases e; done) | (cases e1; done) | (cases e2; done) | (cases e3; done) | (cases e4; done) | (cases e5; done) | (cases e6; done) | (cases h; done) | (cases h1; done) | (cases h2; done) | (cases h3; done) | (cases b; done) | (cases q; done) | exact h.elim | exact g.elim | exact r.elim | exact r.1.elim | exact r1.elim | exact r2.elim | exact z.elim | exact h1.elim | contradiction | (cases y <;> rfl) | (cases x <;> rfl) | (cases q <;> rfl) | (cases a <;> rfl) | exact L _ _ | exact L _ | (simp_all; done)
  | c j => rfl⟩
instance (mo mk : M) [FrM mo] [FrM mk] : FrM (mSAdd mo mk) := ⟨fun ρ S T => by
  unfold mSAdd
  rw [FrM.fr (m := mo)]
  cases mo ρ T with
  | none => rfl
  | some o =>
    obtain ⟨o, T1⟩ := o
    show (mk (shR S.length ρ) (S ++ T1)).bind _ = ((mk ρ T1).bind _).map _
    rw [FrM.fr (m := mk)]
    cases mk ρ T1 with
    | none => rfl
    | some q =>
      obtain ⟨q, T2⟩ := q
      cases o with
      | d o => cases q <;> rfl
      | f _ => first | rfl | exact h | (cases e; done) | (cases e1; done) | (cases e2; done) | (cases e3; done) | (cases e4; done) | (cases e5; done) | (cases e6; done) | (cases h; done) | (cases h1; done) | (cases h2; done) | (cases h3; done) | (cases b; done) | (cases q; done) | exact h.elim | exact g.elim | exact r.elim | exact r.1.elim | exact r1.elim | exact r2.elim | exact z.elim | exact h1.elim | contradiction | (cases y <;> rfl) | (cases x <;> rfl) | (cases q <;> rfl) | (cases a <;> rfl) | exact L _ _ | exact L _ | (simp_all; done)
      | c j =>
        cases q with
        | f _ => first | rfl | exact h | (cases e; done) | (cases e1; done) | (cases e2; done) | (cases e3; done) | (cases e4; done) | (cases e5; done) | (cases e6; done) | (cases h; done) | (cases h1; done) | (cases h2; done) | (cases h3; done) | (cases b; done) | (cases q; done) | exact h.elim | exact g.elim | exact r.elim | exact r.1.elim | exact r1.elim | exact r2.elim | exact z.elim | exact h1.elim | contradiction | (cases y <;> rfl) | (cases x <;> rfl) | (cases q <;> rfl) | (cases a <;> rfl) | exact L _ _ | exact L _ | (simp_all; done)
        | c i => rfl
        | d q =>
          cases q <;> first | rfl | (
            show ((sAt (S ++ T1) (S.length + j)).bind _) = ((sAt T1 j).bind _).map _
            rw [sAt_sh]
            cases sAt T1 j with
            | none => rfl
            | some z =>
              show ((sAt (S ++ T2) (S.length + j)).bind _) = ((sAt T2 j).bind _).map _
              rw [sAt_sh]
              cases sAt T2 j with
              | none => rfl
              | some y =>
                show (if _ then some (_, (S ++ T2).set (S.length + j) _) else none) = (if _ then some _ else none).map _
                rw [List.set_append_right _ _ (Nat.le_add_right _ _), Nat.add_sub_cancel_left]
                split <;> rfl)⟩
end
end DL

/-! sorted(set(xs)), xs a list of fewer than 64 rows of whole numbers, of any lengths -/
namespace DL
open PySem PySem.Spec PySem.W PyProof.Rows L2 DK
section
variable [Nms] [Tabs]
variable {X : Cx} {e : Expr} {m : M} {p p2 pos pos2 : Pos} {k : Nat}
end
end DL

namespace DL
open PySem PySem.Spec PyProof.Rows L2 DK
end DL

/-! xs.count(x), xs a list that is data, x any datum -/
namespace DL
open PySem PySem.Spec PySem.W PyProof.Rows L2 DK
section
variable [Nms] [Tabs]
def mCountD (mo mi : M) : M := fun ρ S => (mo ρ S).bind fun o => (mi ρ o.2).bind fun i => match o.1, i.1 with
  | .d (.list ds), .d d => if (SeqAt.shaped (.list ds) && SeqAt.shaped d) = true then some (.d (.int (ds.countP fun z => PyData.eqv z d : Nat)), i.2) else none
  | _, _ => none
variable {X : Cx} {o e : Expr} {mo mi : M} {k : Nat} {apos cpos : Pos}
instance (mo mi : M) [FrM mo] [FrM mi] : FrM (mCountD mo mi) := ⟨fun ρ S T => by
  unfold mCountD
  rw [FrM.fr (m := mo)]
  cases mo ρ T with
  | none => rfl
  | some o =>
    obtain ⟨o, T1⟩ := o
    show (mi (shR S.length ρ) (S ++ T1)).bind _ = ((mi ρ T1).bind _).map _
    rw [FrM.fr (m := mi)]
    cases mi ρ T1 with
    | none => rfl
    | some i =>
      obtain ⟨i, T2⟩ := i
      cases o with
      | f _ => first | rfl | exact h | (cases e; done) | (cases e1; done) | (cases e2; done) | (cases e3; done) | (cases e4; done) | (cases e5; done) | (cases e6; done) | (cases h; done) | (cases h1; done) | (cases h2; done) | (cases h3; done) | (cases b; done) | (cases q; done) | exact h.elim | exact g.elim | exact r.elim | exact r.1.elim | exact r1.elim | exact r2.elim | exact z.elim | exact h1.elim | contradiction | (cases y <;> rfl) | (cases x <;> rfl) | (cases q <;> rfl) | (cases a <;> rfl) | exact L _ _ | exact L _ | (simp_all; done)
      | c j => rfl
      | d x =>
        cases x <;> first | rfl | (cases i with
          | f _ => first | rfl | exact h | (cases e; done) | (cases e1; done) | (cases e2; done) | (cases e3; done) | (cases e4; done) | (cases e5; done) | (cases e6; done) | (cases h; done) | (cases h1; done) | (cases h2; done) | (cases h3; done) | (cases b; done) | (cases q; done) | exact h.elim | exact g.elim | exact r.elim | exact r.1.elim | exact r1.elim | exact r2.elim | exact z.elim | exact h1.elim | contradiction | (cases y <;> rfl) | (cases x <;> rfl) | (cases q <;> rfl) | (cases a <;> rfl) | exact L _ _ | exact L _ | (simp_all; done)
          | c j => rfl
          | d y =>
            dsimp only [Option.map_some, Option.bind_some, shV]
            split <;> rfl)⟩
end
/-! ### min(xs), max(xs): a list of whole numbers, data or our own -/
section
variable [Nms] [Tabs]
def cMinO : List PV → Sto → Option PV := fun vs S => match vs with
  | [v] => match asD S v with
    | some (.list xs) => (intsOf xs).bind fun ns => match ns with
      | [] => none
      | n :: r => some (.d (.int (minL n r)))
    | _ => none
  | _ => none
def cMaxO : List PV → Sto → Option PV := fun vs S => match vs with
  | [v] => match asD S v with
    | some (.list xs) => (intsOf xs).bind fun ns => match ns with
      | [] => none
      | n :: r => some (.d (.int (maxL n r)))
    | _ => none
  | _ => none
end
instance : FrC cMinO := ⟨fun vs S T => by
  match vs with
  | [] => rfl
  | [v] =>
    show (match asD (S ++ T) (shV S.length v) with | some (.list xs) => _ | _ => none) = (match asD T v with | some (.list xs) => _ | _ => none).map _
    rw [sh_asD]
    cases asD T v with
    | none => rfl
    | some x => cases x <;> first | rfl | (rename_i xs; dsimp only; cases intsOf xs with
      | none => rfl
      | some ns => cases ns <;> rfl)
  | _ :: _ :: _ => rfl⟩
instance : FrC cMaxO := ⟨fun vs S T => by
  match vs with
  | [] => rfl
  | [v] =>
    show (match asD (S ++ T) (shV S.length v) with | some (.list xs) => _ | _ => none) = (match asD T v with | some (.list xs) => _ | _ => none).map _
    rw [sh_asD]
    cases asD T v with
    | none => rfl
    | some x => cases x <;> first | rfl | (rename_i xs; dsimp only; cases intsOf xs with
      | none => rfl
      | some ns => cases ns <;> rfl)
  | _ :: _ :: _ => rfl⟩
section
variable [Nms] [Tabs]
variable {X : Cx} {pos p p2 q2 : Pos} {a b : Expr} {ma mb : M}
theorem dl_lrg2 (hc : X.calm = true) (hg : Gl X "list") (hm : X.mg "list" = none) (hg2 : Gl X "range") (hm2 : X.mg "range" = none) (ha : DE X a ma) (hb : DE X b mb) (na : starEach [a, b] X.env = (false, eval a X.env) :: starEach [b] X.env := by rfl)
    (nb' : starEach [b] X.env = (false, eval b X.env) :: starEach [] X.env := by rfl) (hp : (backTo q2 (starEach [b] X.env)).any (·.1) = false := by rfl)
    (nb : starEach [.Call (.Name "range" p2) [a, b] [] q2] X.env = (false, eval (.Call (.Name "range" p2) [a, b] [] q2) X.env) :: starEach [] X.env := by rfl) : DLs X (.Call (.Name "list" p) [.Call (.Name "range" p2) [a, b] [] q2] [] pos) (mRng2 ma mb) :=
  pe_imp (pe_listRg hc hg hm (prg_2 hg2 hm2 ha hb na nb' hp) nb) fun σ H Q ⟨as, ρ, S, ds, S', R, E, e, k⟩ => by
    obtain ⟨⟨v, S2⟩, e1, e⟩ := Option.bind_eq_some_iff.mp e
    obtain ⟨⟨w, S3⟩, e2, e⟩ := Option.bind_eq_some_iff.mp e
    refine ⟨as, ρ, S, v, S2, R, E, e1, fun u H1 R1 E1 V1 => ⟨as, ρ, S2, w, S3, R1, E.ext E1, e2, fun u2 H2 R2 E2 V2 => ?_⟩⟩
    dsimp only at e
    split at e
    · split at e
      · rename_i hz
        cases e
        cases V1
        cases V2
        exact ⟨_, _, rfl, rfl, ⟨by omega, by omega, by omega, by omega, by omega⟩, fun q hq => k q H2 _ R2 (E1.trans E2) hq (rgV_dp (K := X.K) (H := hide as H2) _ _)⟩
      · cases e
    · cases e
end
end DL

/-! frames: sorted(..), xs[::-1] of lists -/
namespace DL
open PySem PySem.Spec PyProof.Rows L2 DK
instance (m : M) [FrM m] : FrL (mSortI m) := ⟨fun ρ S T => by
  unfold mSortI
  rw [FrM.fr (m := m)]
  cases m ρ T with
  | none => rfl
  | some p =>
    show ((asD (S ++ p.2) (shV S.length p.1)).bind _) = ((asD p.2 p.1).bind _).map _
    rw [sh_asD]
    cases asD p.2 p.1 with
    | none => rfl
    | some d => cases d <;> first | rfl | (rename_i xs; show ((intsOf xs).bind _) = ((intsOf xs).bind _).map _; cases intsOf xs <;> rfl)⟩
instance (m : M) [FrM m] : FrL (mSortRv m) := ⟨fun ρ S T => by
  unfold mSortRv
  rw [FrM.fr (m := m)]
  cases m ρ T with
  | none => rfl
  | some p =>
    show (match asD (S ++ p.2) (shV S.length p.1) with | some (.list xs) => _ | some (.tuple xs) => _ | _ => none) = (match asD p.2 p.1 with | some (.list xs) => _ | some (.tuple xs) => _ | _ => none : Option _).map _
    rw [sh_asD]
    cases asD p.2 p.1 with
    | none => rfl
    | some d => cases d <;> first | rfl | (rename_i xs; show ((intsOf xs).bind _) = ((intsOf xs).bind _).map _; cases intsOf xs <;> rfl)⟩
instance (m : M) [FrM m] : FrL (mSortQ m) := ⟨fun ρ S T => by
  unfold mSortQ
  rw [FrM.fr (m := m)]
  cases m ρ T with
  | none => rfl
  | some p =>
    show (match asD (S ++ p.2) (shV S.length p.1) with | some (.list xs) => _ | some (.tuple xs) => _ | _ => none) = (match asD p.2 p.1 with | some (.list xs) => _ | some (.tuple xs) => _ | _ => none : Option _).map _
    rw [sh_asD]
    cases asD p.2 p.1 with
    | none => rfl
    | some d => cases d <;> first | rfl | (rename_i xs; show ((intsOf xs).bind _) = ((intsOf xs).bind _).map _; cases intsOf xs <;> rfl)⟩
instance (m st : M) [FrM m] [FrM st] : FrL (mRevL m st) := ⟨fun ρ S T => by
  unfold mRevL
  rw [FrM.fr (m := m)]
  cases m ρ T with
  | none => rfl
  | some p =>
    show ((st (shR S.length ρ) (S ++ p.2)).bind _) = ((st ρ p.2).bind _).map _
    rw [FrM.fr (m := st)]
    cases st ρ p.2 with
    | none => rfl
    | some q =>
      show (match asD (S ++ q.2) (shV S.length p.1), shV S.length q.1 with | some (.list xs), .d (.int (-1)) => _ | _, _ => none) = (match asD q.2 p.1, q.1 with | some (.list xs), .d (.int (-1)) => _ | _, _ => none : Option _).map _
      rw [sh_asD]
      cases asD q.2 p.1 with
      | none => rfl
      | some d =>
        obtain ⟨q, T2⟩ := q
        cases d <;> first | rfl | (cases q with
          | f _ => first | rfl | exact h | (cases e; done) | (cases e1; done) | (cases e2; done) | (cases e3; done) | (cases e4; done) | (cases e5; done) | (cases e6; done) | (cases h; done) | (cases h1; done) | (cases h2; done) | (cases h3; done) | (cases b; done) | (cases q; done) | exact h.elim | exact g.elim | exact r.elim | exact r.1.elim | exact r1.elim | exact r2.elim | exact z.elim | exact h1.elim | contradiction | (cases y <;> rfl) | (cases x <;> rfl) | (cases q <;> rfl) | (cases a <;> rfl) | exact L _ _ | exact L _ | (simp_all; done)
          | c j => rfl
          | d y => cases y <;> first | rfl | (dsimp only [shV]; split <;> simp_all))⟩
end DL

set_option maxHeartbeats 1000000
/-! zip of three tuples -/
namespace DL
open PySem PySem.Spec PyProof.Rows L2 DK
section
variable [Nms] [Tabs]
end
end DL

/-! defs handed on as values -/
namespace DL
open PySem PySem.Spec PyProof.Rows L2 DK
section
variable [Nms] [Tabs]
variable {X : Cx} {x : Str} {p pos : Pos} {e : Expr} {es : List Expr} {ma : MA}
def mFr (n : Nat) : M := fun _ S => some (.f n, S)
/-- what is known of the defs that are handed on -/
def FnKn (P : Program) (w : World) (K : Fg) (mg : Str → Option Value) (base : Heap) (lv ar : Nat) (tb : Nat → Option FV) : Prop :=
  ∀ n F, tb n = some F → ∃ a fd ps, Nms.fn n = some a ∧ FnG P w K mg base CX0 lv a fd ps (spF K ar F) ∧ PySem.W.keepIn K (.ref a) = true ∧ Binds K fd ps []
def mFnV (i ar : Nat) (tb : Nat → Option FV) (ma : MA) : M := fun ρ S => match ρ[i]? with
  | some (some (.f n)) => (tb n).bind fun F => (ma ρ S).bind fun p => if p.1.length = ar then F p.1 p.2 else none
  | _ => none
end
/-! frames -/
instance (n : Nat) : FrM (mFr n) := ⟨fun ρ S T => rfl⟩
end DL

/-! defs that hand back a dict (or a list) that they made: a new cell -/
namespace DL
open PySem PySem.Spec PyProof.Rows L2 DK
section
variable [Nms] [Tabs]
variable {X : Cx} {k : Nat}
end
section
variable {P : Program} {w : World} {K : Fg} {mg : Str → Option Value} {base : Heap}
variable [Nms] [T0 : Tabs]
end
end DL

/-! frames of defs handed on, of defs that hand back a cell -/
namespace DL
open PySem PySem.Spec PyProof.Rows L2 DK
class FrTb (tb : Nat → Option FV) : Prop where
  fr : ∀ n F, tb n = some F → FrF F
instance (i ar : Nat) (tb : Nat → Option FV) (ma : MA) [FrTb tb] [FrA ma] : FrM (mFnV i ar tb ma) := ⟨fun ρ S T => by
  unfold mFnV
  rw [sh_get]
  cases ρ[i]? with
  | none => rfl
  | some o =>
    cases o with
    | none => rfl
    | some v =>
      cases v with
      | d x => rfl
      | c j => rfl
      | f n =>
        show (tb n).bind _ = Option.map _ ((tb n).bind _)
        cases h : tb n with
        | none => rfl
        | some F =>
          have : FrF F := FrTb.fr n F h
          show ((ma (shR S.length ρ) (S ++ T)).bind _) = Option.map _ ((ma ρ T).bind _)
          rw [FrA.fr (m := ma)]
          cases ma ρ T with
          | none => rfl
          | some r =>
            show (if (r.1.map (shV S.length)).length = ar then F (r.1.map (shV S.length)) (S ++ r.2) else none) = Option.map _ (if r.1.length = ar then F r.1 r.2 else none)
            rw [List.length_map]
            split
            · exact FrF.fr (F := F) r.1 S r.2
            · rfl⟩
end DL
namespace DL
open PySem PySem.Spec PyProof.Rows L2 DK
instance (a b : M) [FrM a] [FrM b] : FrM (mIndexT a b) := ⟨fun ρ S T => by
  unfold mIndexT
  rw [FrM.fr (m := a)]
  cases a ρ T with
  | none => rfl
  | some r =>
    show ((b (shR S.length ρ) (S ++ r.2)).bind _) = Option.map _ ((b ρ r.2).bind _)
    rw [FrM.fr (m := b)]
    cases b ρ r.2 with
    | none => rfl
    | some q =>
      obtain ⟨x, T1⟩ := r
      obtain ⟨y, T2⟩ := q
      cases x with
      | c j => rfl
      | f j => rfl
      | d x =>
        cases x with
        | tuple xs =>
          cases y with
          | c j => rfl
          | f j => rfl
          | d y =>
            cases y with
            | int k =>
              show ((intsOf xs).bind _) = Option.map _ ((intsOf xs).bind _)
              cases intsOf xs with
              | none => rfl
              | some ns =>
                dsimp
                split <;> rfl
            | _ => rfl
        | _ => rfl⟩
end DL

/-! d.get(k) of a dict cell -/
namespace DL
open PySem PySem.Spec PyProof.Rows L2 DK
section
variable {X : Cx} {pins : List (Addr × Obj)} {σ : L2.St} {H : Hp} {s : Shared} {a : Addr} {es : List DEnt} {A : Around} {E : Value → Shared → Prop} {b : Addr} {k : NestedKey}
/-- d.get(k) -/
theorem dct_get1 {Q : Value → Shared → Prop} (hu : A.units + 64 < cLine) (I : Inv X pins σ H s) (D : DctOk X.K H a es) (hk : KeyAt X.K H (.ref b) k) (hd : k.depth ≤ 8) (h : ∀ w' s', Inv X pins σ H s' → RelV ((valE es k).getD .non) w' → Q w' s') :
    wpAny (model X.prog X.w) A (call (.builtin "dict.get") [.ref a, .ref b]) Q E s := by
  obtain ⟨xs, rel, dd⟩ := dct_of I D
  refine call_meetsIn PySem.F.slot_dict_get dd.typeIs PySem.F.entry_dict_get (PySem.F.args_dict_get_2 _ _) (meetsH_dict_get (nestedKind X.prog X.w) a b D.sys) ⟨room8 hu, k, xs, key_is I hk hd, dd, h _ _ (I.tok _) ?_⟩
  exact (entsR_val rel k).getD rfl
end
def tDGet1O (K : Fg) (td ty : TE) : TE := fun σ H Q => td σ H fun x H1 => ∃ a, x = .ref a ∧ (∃ es, DctOk K H1 a es) ∧ ty σ H1 fun y H2 => ∃ es b k, y = .ref b ∧ DctOk K H2 a es ∧ KeyAt K H2 (.ref b) k ∧ k.depth ≤ 8 ∧ Q ((valE es k).getD .non) H2
section
variable {X : Cx} {o e : Expr} {apos cpos : Pos} {td ty : TE}
theorem pe_dget1O (hu : X.A.units + 64 < cLine) (ho : PE X o td) (he : PE X e ty) (m : M1 X o "get" apos e cpos) : PE X (.Call (.Attribute o "get" apos) [e] [] cpos) (tDGet1O X.K td ty) := by
  refine ⟨fun pins s σ H Q I h => ?_⟩
  refine wpAny_Call_method m.base m.few m.line PySem.F.plainAttrs_dict PySem.F.slot_dict_get PySem.F.type_dict_get (thn (ho.run pins s σ H _ I h) fun u s1 ⟨x, H1, I1, rx, a, ex, ⟨es1, d⟩, q1⟩ => ?_)
  subst ex
  obtain rfl : u = Value.ref a := rx
  refine ⟨dct_typeIs I1 d, dct_noDict I1 d, ?_⟩
  rw [m.trees]
  refine Calls.callWith_builtin rfl (Calls.evalArgs_plain (Calls.spliced_cons (thn (he.run pins s1 σ H1 _ I1 q1) fun iv s2 ⟨y, H2, I2, ry, es, b, k, ey, D, hk, hd, q2⟩ => Calls.spliced_nil ?_)))
  subst ey
  obtain rfl : iv = Value.ref b := ry
  exact dct_get1 hu I2 D hk hd fun w' s4 I4 rw' => ⟨_, H2, I4, rw', q2⟩
end
section
variable [Nms] [Tabs]
def mDGet1 (mo mk : M) : M := fun ρ S => (mo ρ S).bind fun o => (mk ρ o.2).bind fun q => match o.1, q.1 with
  | .c j, .d kd => if (dAt o.2 j).isSome = true then (dAt q.2 j).bind fun kvs => (keyOk kd).map fun _ => (PV.d ((dgetD kvs kd).getD .none), q.2) else none
  | _, _ => none
variable {X : Cx} {o e : Expr} {mo mk : M} {k : Nat}
theorem de_dget1 {apos cpos : Pos} (hr : Room k X.A) (ho : DE X o mo) (he : DE X e mk) (m : M1 X o "get" apos e cpos) : DE X (.Call (.Attribute o "get" apos) [e] [] cpos) (mDGet1 mo mk) :=
  pe_imp (pe_dget1O hr.units ho he m) fun σ H Q ⟨as, ρ, S, r, S', R, E, e, k⟩ => by
    obtain ⟨⟨o, S1⟩, e1, e⟩ := Option.bind_eq_some_iff.mp e
    obtain ⟨⟨q, S2⟩, e2, e⟩ := Option.bind_eq_some_iff.mp e
    refine ⟨as, ρ, S, o, S1, R, E, e1, fun u H1 R1 E1 V1 => ?_⟩
    dsimp only at e
    split at e
    · rename_i j kd _
      split at e
      · rename_i hs
        obtain ⟨kvs0, e0⟩ := Option.isSome_iff_exists.mp hs
        obtain ⟨kvs, e4, e⟩ := Option.bind_eq_some_iff.mp e
        obtain ⟨kk, e5, e⟩ := Option.map_eq_some_iff.mp e
        cases e
        obtain ⟨a, ha, rfl⟩ := V1
        obtain ⟨es0, D0, _⟩ := R1.dct ha e0
        refine ⟨a, rfl, ⟨es0, D0⟩, as, ρ, S1, .d kd, _, R1, E.ext E1, e2, fun w H2 R2 E2 V2 => ?_⟩
        obtain ⟨es, D, P⟩ := R2.dct ha e4
        obtain ⟨kD, _, hd⟩ := keyOk_ok e5
        obtain ⟨b, rfl⟩ := dp_key V2 e5
        have g := dget_rel kD P
        refine ⟨es, b, kk, rfl, D, keyAt_mono hide_same (keyAt_dp V2 kD), hd, k _ _ R2 (E1.trans E2) ?_⟩
        show Dp X.K (hide as H2) ((valE es kk).getD .non) ((dgetD kvs kd).getD .none)
        generalize valE es kk = p at g
        generalize dgetD kvs kd = q at g
        cases g with
        | none => exact .non
        | some g => exact g
      · cases e
    · cases e
end
end DL

/-! x = {k: v for target in iter if ..}, the keys tuples: a new dict cell -/
namespace DL
open PySem PySem.Spec PyProof.Rows L2 DK
/-! ### the rule below -/
section
variable {X : Cx} {pins : List (Addr × Obj)} {σ : L2.St} {H : Hp} {s : Shared} {a : Addr} {es : List DEnt} {A : Around} {E : Value → Shared → Prop} {b : Addr} {k : NestedKey} {v : V} {r : Value}
theorem dct_set {Q : Unit → Shared → Prop} (hu : A.units + 64 < cLine) (I : Inv X pins σ H s) (D : DctOk X.K H a es) (hk : KeyAt X.K H (.ref b) k) (hd : k.depth ≤ 8) (hf : freeK k = true) (hw : H a = some (DctO a es)) (rv : RelV v r) (h : ∀ s', Inv X pins σ (upd H a (DctO a (putE es k b v))) s' → Q () s') :
    wpAny (model X.prog X.w) A (dictSet a (.ref b) r) Q E s := by
  obtain ⟨xs, rel, dd⟩ := dct_of I D
  have hz : xs.length ≤ sizeLine := by
    have := D.len
    rw [← Paired.length rel, sizeLine_eq]
    omega
  refine wpAny_dictSet_heap (hsz := hz) (show A.units + 8 < cLine by omega) (key_is I hk hd) dd fun h' dd' hs => h _ ?_
  obtain ⟨q, arr, ep, hq, h2, h3, h4, _, h5⟩ := dd'
  have rel' := entsR_put rel k b rv
  have hfr : ∀ x ∈ storedH xs k b r, freeK x.1 = true := fun x hx => by
    obtain ⟨e, m, q1, _⟩ := entsR_mem rel' x hx
    rw [← q1]
    unfold putE at m
    split at m
    · obtain ⟨e0, m0, rfl⟩ := List.mem_map.mp m
      have := (D.keys e0 m0).2.2
      split <;> exact this
    · rcases List.mem_append.mp m with m | m
      · exact (D.keys e m).2.2
      · rw [List.mem_singleton.mp m]
        exact hf
  refine d_write I (by rw [hw]; exact True.intro) hs ⟨q, hq⟩ (dctO_ok ⟨_, q, arr, ep, rel', hq, h2, h3, ?_⟩)
  rw [h4]
  refine List.map_congr_left fun x hx => ?_
  show (⟨NestedKey.hash X.w x.1, .ref x.2.1, x.2.2⟩ : DictEntry) = ⟨hash0 x.1, .ref x.2.1, x.2.2⟩
  rw [hash_free X.w (k := x.1) (hfr x hx)]
end
/-- what one turn of such a comprehension does with its key and value -/
def putR (K : Fg) (D : Addr) (tk tv : TE) (Nx : Hp → Prop) (σ : L2.St) (H : Hp) : Prop := tk σ H fun y H1 => tv σ H1 fun z H2 => ∃ es bk k, y = .ref bk ∧ DctOk K H2 D es ∧ KeyAt K H2 (.ref bk) k ∧ k.depth ≤ 8 ∧ freeK k = true ∧ H2 D = some (DctO D es) ∧ Nx (upd H2 D (DctO D (putE es k bk z)))
/-- the turns, J the iterator, W what holds ahead of each of them -/
def dcTurns (K : Fg) (D : Addr) (J : It) (g : TG) (tt : TT) (tk tv : TE) (vs : List Nat) (σ : L2.St) (Qd : Hp → Prop) (W : Nat → Nat → Hp → Prop) : Prop := ∀ i m H, W i m H → (J.stop i H ∧ Qd H) ∨ (J.go i H ∧ ∃ Nx : Hp → Prop, (∀ H', Nx H' → ∃ m', m' < m ∧ W (i + 1) m' H') ∧
  ∀ x H', J.yld i H x H' → g x (wipe σ vs) H' fun σ2 H2 => wipe σ2 vs = wipe σ vs ∧ tt σ2 H2 fun b H3 => if b = true then putR K D tk tv Nx σ2 H3 else Nx H3)
def tDcO (K : Fg) (wi : TI) (g : TG) (tt : TT) (tk tv : TE) (vs : List Nat) : TE := fun σ H Q => wi σ H fun J H1 => ∀ D, H1 D = none → (D == sysModules) = false → ∃ W : Nat → Nat → Hp → Prop, (∃ m, W 0 m (upd H1 D (DctO D []))) ∧ dcTurns K D J g tt tk tv vs σ (Q (.ref D)) W
section
variable {X : Cx}
abbrev BlkAll (X : Cx) (scope : Scope) (P : Cx → Prop) : Prop := ∀ (s : Shared) (H : Hp) (C : Addr) (cl : List (Str × Addr)) (fp : List Addr), P (X.blk s H scope (compEnvC scope cl C X.env) fp)
theorem dcO_core {pins : List (Addr × Obj)} {s : Shared} {σ : L2.St} {H : Hp} {Q : VK} {kx vx tg iter : Expr} {ifs : List Expr} {scope : Scope} {own : List (Str × Nat)} {pos pos' : Pos} {wi : TI} {g : TG} {tt : TT} {tk tv : TE} {use : Option (Value → Sem Unit)} {Qf : Value → Shared → Prop}
    (hc : X.calm = true) (hu : X.A.units + 64 < cLine) (hN : X.N.Nodup) (I : Inv X pins σ H s) (hi : PI X tg iter wi) (ok : BlkOk X.N X.env.scope scope own)
    (hg : BlkAll X scope fun Y => PG Y tg g) (ht : BlkAll X scope fun Y => PTs Y ifs tt) (hk : BlkAll X scope fun Y => PE Y kx tk) (hv : BlkAll X scope fun Y => PE Y vx tv) (hs : ∀ x, foldedSetIterable iter X.env x = pure x)
    (h : tDcO X.K wi g tt tk tv (own.map (·.2)) σ H Q)
    (hEnd : ∀ D C s' m H', Inv X pins σ H' s' → Q (.ref D) H' → s'.heap.Ns C m → FpOk X pins H' C → compPost (model X.prog X.w) X.A X.xe use Qf (.ref D) C (.ok .next) s') :
    wpAny (model X.prog X.w) X.A (comprehension (.DictComp kx vx [⟨tg, iter, ifs, 0⟩] scope pos) scope X.env pos' newDict false (eval iter X.env) use) Qf X.xe s := by
  have hfree : ∀ y ∈ scope.names, y.2 = .free → ∃ c, X.env.cells.lookup y.1 = some c := fun y hy e => (ok.free y hy e).elim (fun k => I.ok.has _ (.inl k)) fun k => I.ok.has _ (.inr k)
  refine wpAny_comprehension_free (use := use) rfl hs (closure_ok hfree) ok.kind (fun y hy e => by rw [ok.uniq y hy, e]) (thn (hi.run pins s σ H _ I h) fun _ s1 hx => thn hx fun _ s2 ⟨it, fp, tn, J, H2, e, I2, T, st2, f2, q⟩ => ?_)
  subst e
  refine wpAny_newObj_type (newEnv_comp ?_)
  generalize hD : s2.heap.objs.size = D
  have hDn : H2 D = none := I2.hok.fresh (Nat.le_of_eq hD)
  have hDs : (D == sysModules) = false := by
    rw [← hD]
    exact beq_eq_false_iff_ne.mpr (Ne.symm (Nat.ne_of_lt I2.big))
  obtain ⟨W, ⟨m0, w0⟩, turn⟩ := q D hDn hDs
  generalize hs3 : ({ s2 with heap := s2.heap.push { cls := .type "dict", data := .dict #[] } } : Shared) = s3
  have h3 : s3.heap = s2.heap.push { cls := .type "dict", data := .dict #[] } := by rw [← hs3]
  have I3 : Inv X pins σ (upd H2 D (DctO D [])) s3 := by
    rw [← hs3]
    refine I2.laid (t' := s2.toks) (fun b o e => Heap.get?_push_of_some _ e) (Nat.le_of_eq hD) ?_
    rw [← hD]
    exact dctO_ok ⟨[], _, #[], 0, .nil, Heap.get?_push_size _ rfl, ⟨rfl, rfl, rfl⟩, rfl, rfl⟩
  have f3 : ∀ b ∈ fp, FpOk X pins (upd H2 D (DctO D [])) b ∧ b < s3.heap.objs.size := fun b hb => by
    obtain ⟨o, e, _⟩ := T.obj _ _ st2 b hb
    have lt := Heap.lt_size e
    refine ⟨⟨?_, (f2 b hb).2⟩, by rw [h3, Heap.size_push]; exact Nat.lt_succ_of_lt lt⟩
    rw [upd_ne (by rw [← hD]; exact Nat.ne_of_lt lt)]
    exact (f2 b hb).1
  have I4 := block_start I3 ok hN f3
  have pg := hg s3 (upd H2 D (DctO D [])) s3.heap.objs.size (cellsFrom (s3.heap.objs.size + 1) scope.names (cloFrom X.env.cells scope.names [])) fp
  have pt := ht s3 (upd H2 D (DctO D [])) s3.heap.objs.size (cellsFrom (s3.heap.objs.size + 1) scope.names (cloFrom X.env.cells scope.names [])) fp
  have pk := hk s3 (upd H2 D (DctO D [])) s3.heap.objs.size (cellsFrom (s3.heap.objs.size + 1) scope.names (cloFrom X.env.cells scope.names [])) fp
  have pv := hv s3 (upd H2 D (DctO D [])) s3.heap.objs.size (cellsFrom (s3.heap.objs.size + 1) scope.names (cloFrom X.env.cells scope.names [])) fp
  have nfp : ∀ b ∈ fp, (upd H2 D (DctO D [])) b = none := fun b hb => (f3 b hb).1.1
  show codeAny _ _ (.compStart (.DictComp kx vx [⟨tg, iter, ifs, 0⟩] scope pos) 0 (.ref it) (.ref D) (compEnvC scope (cellsFrom (s3.heap.objs.size + 1) scope.names (cloFrom X.env.cells scope.names [])) s3.heap.objs.size X.env)) (compPost (model X.prog X.w) X.A X.xe use Qf (.ref D) s3.heap.objs.size) { s3 with heap := pushCells (s3.heap.push { cls := .type "dict", data := .dict #[] }) scope.names }
  generalize hce : compEnvC scope (cellsFrom (s3.heap.objs.size + 1) scope.names (cloFrom X.env.cells scope.names [])) s3.heap.objs.size X.env = ce at I4 pg pt pk pv ⊢
  have cL : ce.locals = s3.heap.objs.size := by subst hce; rfl
  have st4 : tn 0 (pushCells (s3.heap.push { cls := .type "dict", data := .dict #[] }) scope.names) := T.keep _ _ _ st2 fun b _ o e => pushCells_keeps _ _ _ _ (Heap.get?_push_of_some _ (by rw [h3]; exact Heap.get?_push_of_some _ e))
  generalize hH3 : upd H2 D (DctO D []) = H3 at I3 I4 pg pt pk pv w0 nfp f3
  generalize hs4 : ({ s3 with heap := pushCells (s3.heap.push { cls := .type "dict", data := .dict #[] }) scope.names } : Shared) = s4 at I4 ⊢
  have st4' : tn 0 s4.heap := by rw [← hs4]; exact st4
  have stat : ∀ {σ' : L2.St} {H' : Hp} {s' : Shared}, Inv (X.blk s3 H3 scope ce fp) [] σ' H' s' → (∀ b ∈ fp, H' b = none) → ∀ b ∈ fp, FpOk (X.blk s3 H3 scope ce fp) [] H' b := fun {σ' H' s'} I' hn b hb =>
    ⟨hn b hb, (I'.ok.exf b hb).1, I'.ok.exfs b hb, .inl hb, fun x c e => (I'.ok.exf b hb).2 x c e, fun p hp => absurd (show p ∈ ([] : List (Addr × Obj)) ++ [] from hp) (by simp)⟩
  have loop : codeAny (model X.prog X.w) X.A (.compLoop (.DictComp kx vx [⟨tg, iter, ifs, 0⟩] scope pos) 0 (.ref it) (.ref D) ce) (compPost (model X.prog X.w) X.A X.xe use Qf (.ref D) s3.heap.objs.size) s4 := by
    refine compLoop_anyD (fun n s' => ∃ i H', Inv (X.blk s3 H3 scope ce fp) [] (wipe σ (own.map (·.2))) H' s' ∧ tn i s'.heap ∧ (∀ b ∈ fp, H' b = none) ∧ W i n H') (fun n s5 ⟨i, H5, I5, st5, n5, w5⟩ => ?_) m0 ⟨0, H3, I4, st4', nfp, w0⟩
    rcases turn i n H5 w5 with ⟨stop, qq⟩ | ⟨go, Nx, hNx, step⟩
    · refine thnF (T.done (X.blk s3 H3 scope ce fp) rfl rfl rfl hc i [] s5 _ H5 (fun _ _ => False) I5 (stat I5 n5) st5 stop) fun r s6 ⟨hr, I6⟩ => ?_
      subst hr
      have I7 : Inv X pins σ H5 s6 := I3.call' (ch := fp) I6.os I6.base I6.hok I6.bare fun b hb => ⟨(f3 b hb).1.2.2.2.1, (f3 b hb).1.2.1, (f3 b hb).1.2.2.2.2.1, (f3 b hb).1.2.2.2.2.2⟩
      have nC : H5 s3.heap.objs.size = none := cL ▸ (show H5 ce.locals = none from I6.free)
      obtain ⟨m, hn, _⟩ := I6.loc
      exact hEnd D s3.heap.objs.size s6 m H5 I7 qq (cL ▸ (show s6.heap.Ns ce.locals m from hn)) (I3.fpOk (Nat.le_refl _) nC)
    · refine thnF (T.item (X.blk s3 H3 scope ce fp) rfl rfl rfl hc i [] s5 _ H5 (fun _ _ => False) I5 (stat I5 n5) st5 go) fun r s6 ⟨u, hr, h6⟩ => ?_
      subst hr
      refine thnF h6 fun _ s7 ⟨x, H7, I7, r7, y7, st7, n7⟩ => ?_
      have I7' := I7.pinned (stat I7 n7) (T.obj _ _ st7)
      refine thnF (pg.run _ s7 _ H7 x u _ I7' r7 (step x H7 y7)) fun _ s8 ⟨σ8, H8, I8, hw8, q8⟩ => thnF (pt.run _ s8 σ8 H8 _ I8 q8) fun b s9 ⟨H9, I9, q9⟩ => ?_
      have fin : ∀ {s' : Shared} {H' : Hp}, Inv (X.blk s3 H3 scope ce fp) ([] ++ pinsAt fp s7.heap) σ8 H' s' → Nx H' → ∃ m, m < n ∧ ∃ i H', Inv (X.blk s3 H3 scope ce fp) [] (wipe σ (own.map (·.2))) H' s' ∧ tn i s'.heap ∧ (∀ b ∈ fp, H' b = none) ∧ W i m H' := fun {s' H'} I' nx => by
        obtain ⟨m', hm, w'⟩ := hNx H' nx
        have pin' : ∀ b ∈ fp, ∀ o, s7.heap.get? b = some o → s'.heap.get? b = some o ∧ H' b = none := fun b hb o e =>
          let z := I'.pin (b, o) (List.mem_append_right _ (List.mem_append_right _ (mem_pinsAt hb e)))
          ⟨z.1, z.2.1⟩
        refine ⟨m', hm, i + 1, H', (I'.unpinned (pins := [])).weak (by rw [← hw8, wipe_length]) (fun j v e => ?_), T.keep _ _ _ st7 fun b hb o e => (pin' b hb o e).1, fun b hb => ?_, w'⟩
        · rw [← hw8] at e
          exact (wipe_some e).1
        · obtain ⟨o, e, _⟩ := T.obj _ _ st7 b hb
          exact (pin' b hb o e).2
      cases b with
      | false =>
        simp only [Bool.false_eq_true, if_false] at q9 ⊢
        exact fin I9 q9
      | true =>
        simp only [if_true] at q9 ⊢
        refine thnF (pk.run _ s9 σ8 H9 _ I9 q9) fun z s10 ⟨yk, H10, I10, r10, q10⟩ => thnF (pv.run _ s10 σ8 H10 _ I10 q10) fun z2 s11 ⟨yv, H11, I11, r11, es, bk, kk, ek, Dk, hk1, hk2, hk3, hk4, nx⟩ => ?_
        subst ek
        obtain rfl : z = Value.ref bk := r10
        exact dct_set (X := X.blk s3 H3 scope ce fp) hu I11 Dk hk1 hk2 hk3 hk4 r11 fun s12 I12 => fin I12 nx
  exact codeAny_compStart_dict loop (T.self X.A 0 _ _ _ st4' loop)
/-- as a value -/
theorem pe_dcO {kx vx tg iter : Expr} {ifs : List Expr} {scope : Scope} {own : List (Str × Nat)} {pos : Pos} {wi : TI} {g : TG} {tt : TT} {tk tv : TE} (hc : X.calm = true) (hu : X.A.units + 64 < cLine) (hN : X.N.Nodup) (hi : PI X tg iter wi) (ok : BlkOk X.N X.env.scope scope own)
    (hg : BlkAll X scope fun Y => PG Y tg g) (ht : BlkAll X scope fun Y => PTs Y ifs tt) (hk : BlkAll X scope fun Y => PE Y kx tk) (hv : BlkAll X scope fun Y => PE Y vx tv) (hs : ∀ x, foldedSetIterable iter X.env x = pure x) :
    PE X (.DictComp kx vx [⟨tg, iter, ifs, 0⟩] scope pos) (tDcO X.K wi g tt tk tv (own.map (·.2))) := by
  refine ⟨fun pins s σ H Q I h => ?_⟩
  rw [arm_eval_DictComp]
  exact dcO_core hc hu hN I hi ok hg ht hk hv hs h fun D C s' m H' I' q hn ⟨f0, f1, f2, f3, f4, f5⟩ => ⟨m, hn, fun h'' sb => ⟨.ref D, H', I'.turned (t' := s'.toks) (fun b o hb e => (sb.2 b hb).trans e) f0 f1 f3 f4 f5, rfl, q⟩⟩
end
end DL

/-! x = {k: v for target in iter if ..} over the layer -/
namespace DL
open PySem PySem.Spec PyProof.Rows L2 DK
section
variable [Nms] [Tabs]
def dputAt (n : Nat) (kd vd : PyData) (S : Sto) : Option Sto := (dAtW S n).bind fun kvs => (keyOk kd).bind fun _ => if kvs.length < 1000000 then some (S.set n (.d (dputD kvs kd vd))) else none
def dcGo (n : Nat) (tgt : TgD) (tt : MB) (mk mv : M) (ρ : RE) : List PyData → Sto → Option Sto
  | [], S => some S
  | x :: xs, S => (tgt x ρ).bind fun ρ1 => (tt ρ1 S).bind fun b => if b.1 = true then (mk ρ1 b.2).bind fun q => (mv ρ1 q.2).bind fun v => match q.1, v.1 with
      | .d kd, .d vd => (dputAt n kd vd v.2).bind fun S' => dcGo n tgt tt mk mv ρ xs S'
      | _, _ => none
    else dcGo n tgt tt mk mv ρ xs b.2
/-- x = {k: v for target in iter if ..} -/
def sDc (i : Nat) (mi : ML) (vs : List Nat) (tgt : TgD) (tt : MB) (mk mv : M) : MS := fun ρ S => (mi ρ S).bind fun p => (dcGo p.2.length tgt tt mk mv (wipeR ρ vs) p.1 (p.2 ++ [.d []])).bind fun S' => some (.nx (ρ.set i (some (.c p.2.length))) S')
theorem dput_ok {K : Fg} {as : List Addr} {S S' : Sto} {H : Hp} {n : Nat} {D b : Addr} {kd vd : PyData} {u : V} (R : Rel K as S H) (hD : as[n]? = some D) (e : dputAt n kd vd S = some S') (hk : Dp K (hide as H) (.ref b) kd) (hv : Dp K (hide as H) u vd) :
    ∃ es kk, DctOk K H D es ∧ KeyAt K H (.ref b) kk ∧ kk.depth ≤ 8 ∧ freeK kk = true ∧ H D = some (DctO D es) ∧ Rel K as S' (upd H D (DctO D (putE es kk b u))) ∧ Ext as H as (upd H D (DctO D (putE es kk b u))) := by
  obtain ⟨kvs, e4, e⟩ := Option.bind_eq_some_iff.mp e
  obtain ⟨kk, e5, e⟩ := Option.bind_eq_some_iff.mp e
  split at e
  · rename_i hz
    cases e
    obtain ⟨es, hw, Dk, P⟩ := R.dctW hD e4
    obtain ⟨kD, ht, hd⟩ := keyOk_ok e5
    have hl : es.length = kvs.length := Paired.length P
    obtain ⟨R4, E4⟩ := R.putC (c := .d (dputD kvs kd vd)) (o := DctO D (putE es kk b u)) hD (fun G sm => ⟨_, upd_same, dput_rel kD ht hd (dp_mono sm _ _ hk) (dp_mono sm _ _ hv) (Paired.mapP P fun _ _ q => q.mono sm), Nat.le_trans (putE_len _ _ _ _) (by omega), Dk.sys, putE_nodup Dk.nodup⟩) (fun ⟨vs, q⟩ => by unfold DctO at q; cases q) (fun o' u z => by rw [hw] at z; unfold DctO at z; cases z)
    exact ⟨es, kk, Dk, keyAt_mono hide_same (keyAt_dp hk kD), hd, keyD_free kD, hw, R4, E4⟩
  · cases e
theorem dc_turns {K : Fg} {bs : List Addr} {H4 : Hp} {J : It} {xs : List PyData} {S S2 : Sto} {σ : L2.St} {ρ : RE} {n : Nat} {D : Addr} {vs is : List Nat} {tgt : TgD} {tt : MB} {mk mv : M} {Qd : Hp → Prop} (it : Iters K bs H4 J xs) (R : Rel K bs S H4) (E : ER K bs H4 σ ρ) (hn : bs[n]? = some D)
    (e : dcGo n tgt tt mk mv (wipeR ρ vs) xs S = some S2) (hv : ∀ i ∈ is, i ∈ vs) (k : ∀ H', Rel K bs S2 H' → Ext bs H4 bs H' → Qd H') :
    ∃ W : Nat → Nat → Hp → Prop, (∃ m, W 0 m H4) ∧ dcTurns K D J (tG K is tgt) (tMB K tt) (tM K mk) (tM K mv) vs σ Qd W := by
  refine ⟨fun i m H' => m = xs.length - i ∧ i ≤ xs.length ∧ ∃ S3, Ext bs H4 bs H' ∧ Rel K bs S3 H' ∧ dcGo n tgt tt mk mv (wipeR ρ vs) (xs.drop i) S3 = some S2, ⟨xs.length, by omega, Nat.zero_le _, S, .refl, R, e⟩, ?_⟩
  rintro i m H' ⟨hm, hi, S3, X1, R3, e4⟩
  by_cases hlt : i < xs.length
  · refine .inr ⟨it.go _ H' X1 i xs[i] (List.getElem?_eq_getElem hlt), fun H2 => ∃ S4, Ext bs H4 bs H2 ∧ Rel K bs S4 H2 ∧ dcGo n tgt tt mk mv (wipeR ρ vs) (xs.drop (i + 1)) S4 = some S2, fun H2 z => ⟨xs.length - (i + 1), by omega, rfl, hlt, z⟩, fun x H2 y => ?_⟩
    obtain ⟨gr, hx⟩ := it.yld _ S3 H' X1 R3 i xs[i] (List.getElem?_eq_getElem hlt) x H2 y
    obtain ⟨R4, X2⟩ := R3.grw gr
    rw [drop_cons hlt] at e4
    obtain ⟨ρ3, e5, e4⟩ := Option.bind_eq_some_iff.mp e4
    obtain ⟨⟨b, S5⟩, e6, e4⟩ := Option.bind_eq_some_iff.mp e4
    refine ⟨bs, wipeR ρ vs, xs[i], ρ3, (E.ext (X1.trans X2)).wiped vs, hx, e5, fun σ3 E3 A3 => ⟨wipe_ww A3 hv, bs, ρ3, S3, b, S5, R4, E3, e6, fun H5 R5 X5 => ?_⟩⟩
    dsimp only at e4 ⊢
    split
    · rename_i hb
      rw [if_pos hb] at e4
      obtain ⟨⟨q, S6⟩, e7, e4⟩ := Option.bind_eq_some_iff.mp e4
      obtain ⟨⟨v, S7⟩, e8, e4⟩ := Option.bind_eq_some_iff.mp e4
      refine ⟨bs, ρ3, S5, q, S6, R5, E3.ext X5, e7, fun u H6 R6 X6 V6 => ⟨bs, ρ3, S6, v, S7, R6, (E3.ext X5).ext X6, e8, fun w H7 R7 X7 V7 => ?_⟩⟩
      dsimp only at e4
      split at e4
      · rename_i kd vd _
        obtain ⟨S8, e9, e4⟩ := Option.bind_eq_some_iff.mp e4
        have V6' := V6.ext X7
        obtain ⟨kk0, e10⟩ : ∃ kk, keyOk kd = some kk := by
          obtain ⟨_, _, e9⟩ := Option.bind_eq_some_iff.mp e9
          obtain ⟨kk, e10, _⟩ := Option.bind_eq_some_iff.mp e9
          exact ⟨kk, e10⟩
        obtain ⟨bk, rfl⟩ := dp_key V6 e10
        obtain ⟨es, kk, h1, h2, h3, h4, h5, R8, X8⟩ := dput_ok R7 hn e9 V6' V7
        exact ⟨es, bk, kk, rfl, h1, h2, h3, h4, h5, S8, (X1.trans X2).trans (X5.trans (X6.trans (X7.trans X8))), R8, e4⟩
      · cases e4
    · rename_i hb
      rw [if_neg hb] at e4
      exact ⟨S5, (X1.trans X2).trans X5, R5, e4⟩
  · have he : i = xs.length := by omega
    subst he
    rw [List.drop_length] at e4
    cases e4
    exact .inl ⟨it.stop _ H' X1, k H' R3 X1⟩
variable {X : Cx} {kx vx tg iter : Expr} {ifs : List Expr} {scope : Scope} {own : List (Str × Nat)} {pos : Pos} {mi : ML} {is vs : List Nat} {tgt : TgD} {tt : MB} {mk mv : M}
theorem dc_D {i : Nat} (hv : ∀ j ∈ is, j ∈ vs) : ∀ D σ H, tS X.K (sDc i mi vs tgt tt mk mv) D σ H → tAsg (tDcO X.K (tI X.K mi) (tG X.K is tgt) (tMB X.K tt) (tM X.K mk) (tM X.K mv) vs) (gName i) D σ H := fun D σ H ⟨as, ρ, S, o, R, E, e, k⟩ => by
  obtain ⟨⟨xs, S1⟩, e1, e⟩ := Option.bind_eq_some_iff.mp e
  obtain ⟨S2, e2, e⟩ := Option.bind_eq_some_iff.mp e
  cases e
  dsimp only at e2 k
  refine ⟨as, ρ, S, xs, S1, R, E, e1, fun J H1 R1 E1 it p hp hsys => ?_⟩
  obtain ⟨R0, X0⟩ := R1.growC (c := .d []) (o := DctO p []) hp (fun G sm => ⟨[], upd_same, .nil, Nat.zero_le _, hsys, List.nodup_nil⟩)
  refine dc_turns (it.ext X0) R0 ((E.ext E1).ext X0) (by rw [← R1.len]; simp) e2 hv fun H' R3 X1 => ?_
  have EE := E1.trans (X0.trans X1)
  refine k (as ++ [p]) _ _ EE R3 ((E.ext EE).set i ⟨p, ?_, rfl⟩)
  rw [← R1.len]
  simp
/-- of a name that a comprehension looks at -/
theorem ds_setDcV {r i : Nat} {y : Str} {py spos : Pos} (hr : Room r X.A) (hc : X.calm = true) (hN : X.N.Nodup) (hy : X.N[i]? = some y) (hx : Loc X.env.scope y) (hsw : swapsWith (.DictComp kx vx [⟨tg, iter, ifs, 0⟩] scope pos) (some (.Name y py)) spos.line X.env = pure false)
    (hi : DI X tg iter mi) (ok : BlkOk X.N X.env.scope scope own)
    (hg : ∀ (s : Shared) (H : Hp) (C : Addr) (cl : List (Str × Addr)) (fp : List Addr), DG (X.blk s H scope (compEnvC scope cl C X.env) fp) tg is tgt) (ht : ∀ (s : Shared) (H : Hp) (C : Addr) (cl : List (Str × Addr)) (fp : List Addr), DTs (X.blk s H scope (compEnvC scope cl C X.env) fp) ifs tt)
    (hk : ∀ (s : Shared) (H : Hp) (C : Addr) (cl : List (Str × Addr)) (fp : List Addr), DE (X.blk s H scope (compEnvC scope cl C X.env) fp) kx mk) (he : ∀ (s : Shared) (H : Hp) (C : Addr) (cl : List (Str × Addr)) (fp : List Addr), DE (X.blk s H scope (compEnvC scope cl C X.env) fp) vx mv)
    (hv : (is.all fun i => vs.contains i) = true) (hs : ∀ x, foldedSetIterable iter X.env x = pure x := by intro _; rfl) (hvs : own.map (·.2) = vs := by rfl)
    (hf : X.fn y = true ∨ X.env.scope.names.lookup y = some .local := by first | exact .inl rfl | exact .inr rfl | assumption) :
    DS X (.Assign [.Name y py] (.DictComp kx vx [⟨tg, iter, ifs, 0⟩] scope pos) spos) (sDc i mi vs tgt tt mk mv) := by
  subst hvs
  exact ps_imp (ps_set hN hy hx (pe_dcO (wi := tI X.K mi) (g := tG X.K is tgt) (tt := tMB X.K tt) (tk := tM X.K mk) (tv := tM X.K mv) hc hr.units hN hi ok hg ht hk he hs) hsw hf) (dc_D fun i h => by simpa using List.all_eq_true.mp hv i h)
end
end DL

set_option maxHeartbeats 4000000
/-! sorted(tables): tuples of rows of whole numbers -/
namespace DP
open PySem PySem.W PySem.Calls PyProof.Rows Builtin L2
abbrev Tab := List (List Int)
def lexT : Tab → Tab → Bool
  | [], [] => false
  | [], _ :: _ => true
  | _ :: _, [] => false
  | x :: a, y :: b => if x = y then lexT a b else HT.lexLt x y
theorem lexT_cons (x y : List Int) (a b : Tab) : lexT (x :: a) (y :: b) = if x = y then lexT a b else HT.lexLt x y := rfl
theorem lexT_asym : ∀ (x y : Tab), lexT x y = true → lexT y x = false
  | [], [], h => by cases h
  | [], _ :: _, _ => rfl
  | _ :: _, [], h => by cases h
  | x :: a, y :: b, h => by
    rw [lexT_cons] at h ⊢
    by_cases e : x = y
    · subst e
      rw [if_pos rfl] at h ⊢
      exact lexT_asym a b h
    · rw [if_neg e] at h
      rw [if_neg (Ne.symm e)]
      exact NtL.lex_asym _ _ h
theorem lexT_tr : ∀ (x y z : Tab), lexT y x = false → lexT z y = false → lexT z x = false
  | [], [], z, _, h2 => h2
  | [], y :: b, [], _, h2 => by cases h2
  | [], y :: b, z :: c, _, _ => rfl
  | x :: a, [], z, h1, _ => by cases h1
  | x :: a, y :: b, [], _, h2 => by cases h2
  | x :: a, y :: b, z :: c, h1, h2 => by
    rw [lexT_cons] at h1 h2 ⊢
    by_cases e1 : y = x
    · subst e1
      rw [if_pos rfl] at h1
      by_cases e2 : z = y
      · subst e2
        rw [if_pos rfl] at h2 ⊢
        exact lexT_tr a b c h1 h2
      · rw [if_neg e2] at h2 ⊢
        exact h2
    · rw [if_neg e1] at h1
      by_cases e2 : z = y
      · subst e2
        rw [if_neg e1]
        exact h1
      · rw [if_neg e2] at h2
        by_cases e3 : z = x
        · subst e3
          exact absurd (DL.leR_anti (x := z) (y := y) h1 h2) e2
        · rw [if_neg e3]
          exact NtL.lex_tr _ _ _ h1 h2
theorem swo_lexT {α : Type} (k : α → Tab) : SrtO.Swo (fun v u : α => lexT (k v) (k u)) := ⟨fun x y h => lexT_asym _ _ h, fun x y z h1 h2 => lexT_tr _ _ _ h1 h2⟩
def leT (x y : Tab) : Prop := lexT y x = false
theorem leT_anti : ∀ {x y : Tab}, leT x y → leT y x → x = y
  | [], [], _, _ => rfl
  | [], _ :: _, _, h => by cases h
  | _ :: _, [], h, _ => by cases h
  | x :: a, y :: b, h1, h2 => by
    unfold leT at h1 h2
    rw [lexT_cons] at h1 h2
    by_cases e : x = y
    · subst e
      rw [if_pos rfl] at h1 h2
      rw [leT_anti h1 h2]
    · rw [if_neg (Ne.symm e)] at h1
      rw [if_neg e] at h2
      exact absurd (DL.leR_anti h1 h2) e
def insT (k : Tab) : List Tab → List Tab
  | [] => [k]
  | x :: r => if lexT x k = true then x :: insT k r else k :: x :: r
def sortT : List Tab → List Tab
  | [] => []
  | k :: r => insT k (sortT r)
theorem insT_perm (k : Tab) : ∀ l, (insT k l).Perm (k :: l)
  | [] => .refl _
  | x :: r => by
    unfold insT
    split
    · exact ((insT_perm k r).cons x).trans (.swap k x r)
    · exact .refl _
theorem insT_up (k : Tab) : ∀ {l : List Tab}, l.Pairwise leT → (insT k l).Pairwise leT
  | [], _ => by simp [insT]
  | x :: r, h => by
    obtain ⟨h1, h2⟩ := List.pairwise_cons.mp h
    unfold insT
    split
    · rename_i hk
      refine List.pairwise_cons.mpr ⟨fun y hy => ?_, insT_up k h2⟩
      rcases List.mem_cons.mp ((insT_perm k r).mem_iff.mp hy) with rfl | hy
      · exact lexT_asym _ _ hk
      · exact h1 y hy
    · rename_i hk
      have hk' : leT k x := by
        unfold leT
        cases q : lexT x k with
        | false => rfl
        | true => exact absurd q hk
      refine List.pairwise_cons.mpr ⟨fun y hy => ?_, h⟩
      rcases List.mem_cons.mp hy with rfl | hy
      · exact hk'
      · exact lexT_tr _ _ _ hk' (h1 y hy)
theorem sortT_perm : ∀ l, (sortT l).Perm l
  | [] => .refl _
  | k :: r => (insT_perm k (sortT r)).trans ((sortT_perm r).cons k)
theorem sortT_up : ∀ l, (sortT l).Pairwise leT
  | [] => .nil
  | k :: r => insT_up k (sortT_up r)
theorem tabs_unique : ∀ {a b : List Tab}, a.Pairwise leT → b.Pairwise leT → a.Perm b → a = b
  | [], b, _, _, h => (h.nil_eq)
  | x :: a, [], _, _, h => absurd h.length_eq (by simp)
  | x :: a, y :: b, ha, hb, h => by
    obtain ⟨a1, a2⟩ := List.pairwise_cons.mp ha
    obtain ⟨b1, b2⟩ := List.pairwise_cons.mp hb
    have hxy : x = y := by
      rcases List.mem_cons.mp (h.mem_iff.mp (List.mem_cons_self (a := x))) with q1 | q1
      · exact q1
      · rcases List.mem_cons.mp (h.mem_iff.mpr (List.mem_cons_self (a := y))) with q2 | q2
        · exact q2.symm
        · exact leT_anti (a1 y q2) (b1 x q1)
    subst hxy
    rw [tabs_unique a2 b2 (List.Perm.cons_inv h)]
/-! ### tables on the heap -/
def TabIs (h : Heap) (v : Value) (t : Tab) : Prop := ∃ a xs, v = .ref a ∧ (∃ o, h.get? a = some o ∧ o.cls = .type "tuple" ∧ ∃ n, o.data = .seq xs n) ∧ Paired (TS.TupInts h) xs.toList t
def tabOf (h : Heap) (v : Value) : Tab := match v with
  | .ref a => match h.get? a with
    | some o => match o.data with
      | .seq xs _ => xs.toList.map (TS.intsOf h)
      | _ => []
    | none => []
  | _ => []
theorem paired_ints {h : Heap} : ∀ {vs : List Value} {t : Tab}, Paired (TS.TupInts h) vs t → vs.map (TS.intsOf h) = t
  | _, _, .nil => rfl
  | _, _, .cons a r => by rw [List.map_cons, a.ints, paired_ints r]
theorem TabIs.read {h : Heap} {v : Value} {t : Tab} (x : TabIs h v t) : tabOf h v = t := by
  obtain ⟨a, xs, rfl, ⟨o, ho, hc, n, hd⟩, p⟩ := x
  unfold tabOf
  simp only [ho, hd]
  exact paired_ints p
theorem paired_keeps {h h' : Heap} (k : ∀ b o, h.get? b = some o → o.cls = .type "tuple" → h'.get? b = some o) : ∀ {vs : List Value} {t : Tab}, Paired (TS.TupInts h) vs t → Paired (TS.TupInts h') vs t
  | _, _, .nil => .nil
  | _, _, .cons a r => .cons (a.keeps k) (paired_keeps k r)
theorem TabIs.keeps {h h' : Heap} {v : Value} {t : Tab} (x : TabIs h v t) (k : ∀ b o, h.get? b = some o → o.cls = .type "tuple" → h'.get? b = some o) : TabIs h' v t := by
  obtain ⟨a, xs, e, ⟨o, ho, hc, hd⟩, p⟩ := x
  exact ⟨a, xs, e, ⟨o, k _ _ ho hc, hc, hd⟩, paired_keeps k p⟩
section
variable {prog : Program} {w : World} {A : Around} {E : Value → Shared → Prop} {s : Shared}
theorem ints_at {vs : List Value} {ns : List Int} (h : IntsAre vs ns) : ∀ j (h1 : j < vs.length) (h2 : j < ns.length), ∃ t, vs[j] = .int ns[j] t := by
  induction h with
  | nil => intro j h1; exact absurd h1 (by simp)
  | cons k t r ih =>
    intro j h1 h2
    cases j with
    | zero => exact ⟨t, rfl⟩
    | succ j => exact ih j (by simpa using h1) (by simpa using h2)
theorem row_eq {v u : Value} {ns ms : List Int} (hA : A.units < cLine) (hv : TS.TupInts s.heap v ns) (hu : TS.TupInts s.heap u ms) : SeqAt.EqAt A s v u (decide (ns = ms)) := by
  obtain ⟨a, xs, rfl, t1, i⟩ := id hv
  obtain ⟨a2, ys, rfl, t2, i2⟩ := id hu
  by_cases e : a = a2
  · subst e
    have : ns = ms := hv.ints.symm.trans hu.ints
    subst this
    rw [decide_eq_true rfl]
    exact SeqAt.EqAt.same _
  · have z1 : xs.size = ns.length := by rw [← i.length]; simp
    have z2 : ys.size = ms.length := by rw [← i2.length]; simp
    have r := SeqAt.RcAt.tuples (A := A) (s := s) (e := fun j => ns.getD j 0 == ms.getD j 0) (show s.heap.IsTuple a xs from t1) (show s.heap.IsTuple a2 ys from t2) hA fun j j1 j2 => by
      obtain ⟨t, e1⟩ := ints_at i j (by simpa using j1) (by omega)
      obtain ⟨t', e2⟩ := ints_at i2 j (by simpa using j2) (by omega)
      rw [show xs[j] = xs.toList[j]'(by simpa using j1) by simp, show ys[j] = ys.toList[j]'(by simpa using j2) by simp, e1, e2, List.getD_eq_getElem?_getD, List.getD_eq_getElem?_getD, List.getElem?_eq_getElem (by omega), List.getElem?_eq_getElem (by omega)]
      exact SeqAt.EqAt.int_int _ _ _ _
    have q : ((List.range (min xs.size ys.size)).all (fun j => ns.getD j 0 == ms.getD j 0) && xs.size == ys.size) = decide (ns = ms) := by
      rw [z1, z2, Bool.eq_iff_iff, decide_eq_true_eq, Bool.and_eq_true, List.all_eq_true, beq_iff_eq]
      refine ⟨fun ⟨h1, h2⟩ => List.ext_getElem h2 fun j j1 j2 => ?_, fun h => ?_⟩
      · have := h1 j (List.mem_range.mpr (by omega))
        rw [beq_iff_eq, List.getD_eq_getElem?_getD, List.getD_eq_getElem?_getD, List.getElem?_eq_getElem j1, List.getElem?_eq_getElem j2] at this
        exact this
      · subst h
        exact ⟨fun j _ => beq_self_eq_true _, rfl⟩
    rw [← q]
    exact SeqAt.EqAt.of_refs e r
theorem tab_go {Q : Bool → Shared → Prop} (hA : A.units < cLine) : ∀ {vs ws : List Value} {t u : Tab} (fin : Bool) (i : Nat), Paired (TS.TupInts s.heap) vs t → Paired (TS.TupInts s.heap) ws u → (fin = decide (t.length < u.length)) → Q (lexT t u) s → KatLex prog w A false fin Q (vs.zip ws) i s
  | _, _, _, _, fin, i, .nil, .nil, hf, hq => by
    rw [List.zip_nil_left]
    have : fin = false := by rw [hf]; rfl
    rw [this]
    exact kat_nil hq
  | _, _, _, _, fin, i, .nil, .cons c h, hf, hq => by
    rw [List.zip_nil_left]
    have : fin = true := by rw [hf]; simp
    rw [this]
    exact kat_nil hq
  | _, _, _, _, fin, i, .cons a h1, .nil, hf, hq => by
    rw [List.zip_nil_right]
    have : fin = false := by rw [hf]; simp
    rw [this]
    exact kat_nil hq
  | _, _, _, _, fin, i, .cons a h1, .cons c h2, hf, hq => by
    rw [List.zip_cons_cons]
    rw [lexT_cons] at hq
    refine kat_cons (row_eq hA a c prog w _ _ ?_)
    refine kat_go (fun e1 => ?_) (fun e1 => ?_)
    · rw [if_pos (of_decide_eq_true e1)] at hq
      exact kat_yes (tab_go hA fin (i + 1) h1 h2 (by rw [hf]; simp) hq)
    · rw [if_neg (of_decide_eq_false e1)] at hq
      obtain ⟨b, xs, rfl, t1, j1⟩ := a
      obtain ⟨b2, ys, rfl, t2, j2⟩ := c
      exact kat_no (kat_one _ _ (HT.lt_tupInts t1 t2 j1 j2 hA hq))
theorem paired_length {α β : Type} {F : α → β → Prop} : ∀ {l : List α} {m : List β}, Paired F l m → l.length = m.length
  | _, _, .nil => rfl
  | _, _, .cons _ r => by rw [List.length_cons, List.length_cons, paired_length r]
theorem tab_lt {v u : Value} {t t' : Tab} {Q : Bool → Shared → Prop} (hA : A.units < cLine) (hv : TabIs s.heap v t) (hu : TabIs s.heap u t') (h : Q (lexT t t') s) : wpAny (model prog w) A (keyLt' (tuples' false) v u) Q E s := by
  obtain ⟨a, xs, rfl, ⟨o, ho, hc, n, hd⟩, p⟩ := hv
  obtain ⟨a2, ys, rfl, ⟨o2, ho2, hc2, n2, hd2⟩, p2⟩ := hu
  refine kat_lt ho hd ho2 hd2 (tab_go hA _ 0 p p2 ?_ h)
  have z1 : xs.size = t.length := by rw [← paired_length p]; simp
  have z2 : ys.size = t'.length := by rw [← paired_length p2]; simp
  rw [z1, z2]
theorem first_tab {v : Value} {t : Tab} (ht : t ≠ []) (hv : TabIs s.heap v t) : ∃ u ns, first? s.heap v = some u ∧ TS.TupInts s.heap u ns := by
  obtain ⟨a, xs, rfl, ⟨o, ho, hc, n, hd⟩, p⟩ := hv
  have e : first? s.heap (.ref a) = xs[0]? := by
    unfold first?
    simp only [ho, hd]
  rw [e, ← Array.getElem?_toList]
  generalize xs.toList = l at p ⊢
  cases p with
  | nil => exact absurd rfl ht
  | cons a r => exact ⟨_, _, rfl, a⟩
theorem tab_firsts {M : Model} : ∀ (vs : List Value) {Q : List (Option Value) → Shared → Prop}, (∀ v ∈ vs, ∃ t, TabIs s.heap v t) → Q (vs.map (first? s.heap)) s → wpAny M A (vs.mapM firstOfTuple') Q E s
  | [], _, _, h => by rw [List.mapM_nil]; exact wpAny_pure h
  | v :: vs, Q, t, h => by
    obtain ⟨tt, a, xs, rfl, ⟨o, ho, hc, n, hd⟩, i⟩ := t v (List.mem_cons_self ..)
    rw [List.mapM_cons]
    refine wpAny_bind ?_
    rw [kas_first_eq]
    refine wpAny_bind (Looks.here (show Looks M s.heap (typeOf (.ref a)) o.cls from (Looks.ld ho).andThen .now) ?_)
    rw [hc, if_neg (by first | decide | simp)]
    refine wpAny_bind (listItems_at ho hd (wpAny_pure ?_))
    have e : first? s.heap (.ref a) = xs[0]? := by
      unfold first?
      simp only [ho, hd]
    rw [List.map_cons, e] at h
    exact wpAny_bind (tab_firsts vs (Q := fun bs s' => wpAny M A (pure (xs[0]? :: bs)) Q E s') (fun u hu => t u (List.mem_cons_of_mem _ hu)) (wpAny_pure h))
theorem tab_kind {M : Model} {vs : List Value} {k : Value → Tab} (h2 : 2 ≤ vs.length) (hv : ∀ v ∈ vs, TabIs s.heap v (k v) ∧ k v ≠ []) {Q : SortKind → Shared → Prop} (h : Q (tuples' false) s) : wpAny M A (keyKind' vs.toArray) Q E s := by
  have hall : ((vs.map (first? s.heap)).toArray.all fun x => x.isSome) = true := by
    simp only [List.all_toArray, List.all_map, List.all_eq_true]
    intro v hm
    obtain ⟨u, ns, e, _⟩ := first_tab (hv v hm).2 (hv v hm).1
    show (first? s.heap v).isSome = true
    rw [e]
    rfl
  rw [kat_kind_eq, List.mapM_toArray, map_eq_pure_bind]
  refine wpAny_bind (wpAny_bind (tab_firsts vs (fun v m => ⟨_, (hv v m).1⟩) (wpAny_pure ?_)))
  rw [if_pos hall]
  refine wpAny_bind (wpAny_rule ?_)
  have hf : ∀ f ∈ (((vs.map (first? s.heap)).toArray.filterMap id).toList), ∃ ns, TS.TupInts s.heap f ns := fun f hf => by
    rw [Array.toList_filterMap, List.mem_filterMap] at hf
    obtain ⟨o, ho, e⟩ := hf
    obtain ⟨v, hm, e2⟩ := List.mem_map.mp ho
    obtain ⟨u, ns, e3, x⟩ := first_tab (hv v hm).2 (hv v hm).1
    rw [e3] at e2
    rw [← e2] at e
    cases e
    exact ⟨ns, x⟩
  have hne : ((vs.map (first? s.heap)).toArray.filterMap id).toList ≠ [] := by
    match vs, h2 with
    | v :: r, _ =>
      obtain ⟨u, ns, e3, x⟩ := first_tab (hv v (List.mem_cons_self ..)).2 (hv v (List.mem_cons_self ..)).1
      intro z
      rw [Array.toList_filterMap, List.map_cons, e3] at z
      simp at z
  generalize ((vs.map (first? s.heap)).toArray.filterMap id) = fs at hf hne
  obtain ⟨fl, rfl⟩ : ∃ fl : List Value, fs = fl.toArray := ⟨fs.toList, by simp⟩
  rw [List.toList_toArray] at hf hne
  obtain ⟨f₁, fr, rfl⟩ : ∃ f₁ fr, fl = f₁ :: fr := by
    match fl, hne with
    | f₁ :: fr, _ => exact ⟨f₁, fr, rfl⟩
    | [], h => exact absurd rfl h
  have hT : ∀ v ∈ f₁ :: fr, Looks M s.heap (typeOf v) (.type "tuple") := fun v m => by
    obtain ⟨ns, a, xs, rfl, ⟨o, ho, hc, n, hd⟩, i⟩ := hf v m
    rw [← hc]
    exact (Looks.ld ho).andThen .now
  rw [oneTypeOnly'_eq, List.mapM_toArray, map_eq_pure_bind]
  refine wpAny_bind (wpAny_bind (wpAny_bind (kas_mapM (r := .type "tuple") _ (fun v hv Q' hq => (hT v hv).here hq) (wpAny_pure ?_))))
  have hall2 : ((List.map (fun _ => Value.type "tuple") (f₁ :: fr)).toArray.all fun x => x == Value.type "tuple") = true := by
    simp only [List.all_toArray, List.all_map, List.all_eq_true]
    intro _ _
    rfl
  have h0 : (List.map (fun _ => Value.type "tuple") (f₁ :: fr)).toArray[0]? = some (Value.type "tuple") := by simp
  rw [h0]
  simp only [hall2, if_true]
  exact wpAny_pure (wpAny_pure h)
theorem tabs_sortable {a : Addr} {vs : List Value} {k : Value → Tab} (hA : A.units < cLine) (h2 : 2 ≤ vs.length) (hv : ∀ v ∈ vs, TabIs s.heap v (k v) ∧ k v ≠ []) (ha : ∀ o, s.heap.get? a = some o → o.cls ≠ .type "tuple") :
    SrtO.SortableO prog w A s a vs fun v u => lexT (k v) (k u) := by
  intro h' keep
  have hp' : ∀ v ∈ vs, TabIs h' v (k v) ∧ k v ≠ [] := fun v hm => ⟨(hv v hm).1.keeps fun b o e c => keep b o (fun z => by subst z; exact ha o e c) e, (hv v hm).2⟩
  refine ⟨tuples' false, fun Q E h => tab_kind (M := model prog w) (A := A) (s := { s with heap := h' }) h2 hp' h, fun p q hm hm' => ?_⟩
  exact tab_lt (s := { s with heap := h' }) (Q := fun r s' => s' = { s with heap := h' } ∧ r = lexT (k p.1) (k q.1)) (E := fun _ _ => False) hA (hp' _ hm).1 (hp' _ hm').1 ⟨rfl, rfl⟩
end
end DP

/-! frames of d.get(k) and of dict comprehensions -/
namespace DL
open PySem PySem.Spec PyProof.Rows L2 DK
instance (a b : M) [FrM a] [FrM b] : FrM (mDGet1 a b) := ⟨fun ρ S T => by
  unfold mDGet1
  rw [FrM.fr (m := a)]
  cases a ρ T with
  | none => rfl
  | some r =>
    show (b (shR S.length ρ) (S ++ r.2)).bind _ = Option.map _ ((b ρ r.2).bind _)
    rw [FrM.fr (m := b)]
    cases b ρ r.2 with
    | none => rfl
    | some q =>
      obtain ⟨o, S1⟩ := r
      obtain ⟨q, S2⟩ := q
      cases o with
      | d x => rfl
      | f x => rfl
      | c j =>
        cases q with
        | f _ => rfl
        | c j2 => rfl
        | d kd =>
          show (if (dAt (S ++ S1) (S.length + j)).isSome = true then (dAt (S ++ S2) (S.length + j)).bind _ else none) = Option.map _ (if (dAt S1 j).isSome = true then (dAt S2 j).bind _ else none)
          rw [dAt_sh, dAt_sh]
          split
          · cases dAt S2 j with
            | none => rfl
            | some kvs =>
              dsimp
              cases keyOk kd <;> rfl
          · rfl⟩
theorem dputAt_sh (S T : Sto) (j : Nat) (kd vd : PyData) : dputAt (S.length + j) kd vd (S ++ T) = (dputAt j kd vd T).map (S ++ ·) := by
  unfold dputAt
  rw [dAtW_sh]
  cases dAtW T j with
  | none => rfl
  | some kvs =>
    dsimp
    cases keyOk kd with
    | none => rfl
    | some kk =>
      dsimp
      split
      · show some ((S ++ T).set (S.length + j) _) = _
        rw [sto_set]
        rfl
      · rfl
theorem dcGo_sh {tgt : TgD} {tt : MB} {mk mv : M} [FrT tgt] [FrB tt] [FrM mk] [FrM mv] (S : Sto) (j : Nat) (ρ : RE) : ∀ (xs : List PyData) (T : Sto), dcGo (S.length + j) tgt tt mk mv (shR S.length ρ) xs (S ++ T) = (dcGo j tgt tt mk mv ρ xs T).map (S ++ ·)
  | [], T => rfl
  | x :: xs, T => by
    show (tgt x (shR S.length ρ)).bind _ = Option.map _ ((tgt x ρ).bind _)
    rw [FrT.fr (t := tgt)]
    cases tgt x ρ with
    | none => rfl
    | some ρ1 =>
      show (tt (shR S.length ρ1) (S ++ T)).bind _ = Option.map _ ((tt ρ1 T).bind _)
      rw [FrB.fr (m := tt)]
      cases tt ρ1 T with
      | none => rfl
      | some b =>
        obtain ⟨b, T1⟩ := b
        cases b with
        | false => exact dcGo_sh S j ρ xs T1
        | true =>
          show (mk (shR S.length ρ1) (S ++ T1)).bind _ = Option.map _ ((mk ρ1 T1).bind _)
          rw [FrM.fr (m := mk)]
          cases mk ρ1 T1 with
          | none => rfl
          | some q =>
            obtain ⟨q, T2⟩ := q
            show (mv (shR S.length ρ1) (S ++ T2)).bind _ = Option.map _ ((mv ρ1 T2).bind _)
            rw [FrM.fr (m := mv)]
            cases mv ρ1 T2 with
            | none => rfl
            | some v =>
              obtain ⟨v, T3⟩ := v
              cases q with
              | f _ => rfl
              | c i => rfl
              | d kd =>
                cases v with
                | f _ => rfl
                | c i => rfl
                | d vd =>
                  show (dputAt (S.length + j) kd vd (S ++ T3)).bind _ = Option.map _ ((dputAt j kd vd T3).bind _)
                  rw [dputAt_sh]
                  cases dputAt j kd vd T3 with
                  | none => rfl
                  | some T4 => exact dcGo_sh S j ρ xs T4
instance (i : Nat) (mi : ML) (vs : List Nat) (tgt : TgD) (tt : MB) (mk mv : M) [FrL mi] [FrT tgt] [FrB tt] [FrM mk] [FrM mv] : FrS (sDc i mi vs tgt tt mk mv) := ⟨fun ρ S T => by
  unfold sDc
  rw [FrL.fr (m := mi)]
  cases mi ρ T with
  | none => rfl
  | some p =>
    show (dcGo (S ++ p.2).length tgt tt mk mv (wipeR (shR S.length ρ) vs) p.1 ((S ++ p.2) ++ [.d []])).bind _ = Option.map _ ((dcGo p.2.length tgt tt mk mv (wipeR ρ vs) p.1 (p.2 ++ [.d []])).bind _)
    rw [len_sh, app_sh, sh_wipe, dcGo_sh]
    cases dcGo p.2.length tgt tt mk mv (wipeR ρ vs) p.1 (p.2 ++ [.d []]) with
    | none => rfl
    | some T2 =>
      show some (Out.nx ((shR S.length ρ).set i (some (.c (S.length + p.2.length)))) (S ++ T2)) = _
      rw [show PV.c (S.length + p.2.length) = shV S.length (.c p.2.length) from rfl, sh_set]
      rfl⟩
end DL

set_option maxHeartbeats 4000000
/-! sorted(tables) over the layer -/
namespace DL
open PySem PySem.Spec PyProof.Rows L2 DK DP
def TabI (K : PySem.W.Frag) (H : Hp) (x : V) (t : Tab) : Prop := ∃ b ys, x = .ref b ∧ SqT K H b ys ∧ Paired (fun x ns => TupI K H x ns) ys t
def rSortedTabs (K : PySem.W.Frag) : List V → Hp → VK → Prop := fun vs H Q => ∃ (a : Addr) (xs : List V) (ts : List Tab) (F : V → Tab → Prop), vs = [V.ref a] ∧ SqL K H a xs ∧ (∀ x t, F x t → TabI K H x t) ∧ Paired F xs ts ∧ (ts.length < 2 ∨ ∀ t ∈ ts, t ≠ []) ∧
  ∀ (ys : List V) (p : Addr), Paired F ys (sortT ts) → H p = none → Q (.ref p) (upd H p (.lst ys))
section
variable {X : Cx}
theorem rows_raw {pins : List (Addr × Obj)} {σ : L2.St} {H : Hp} {s : Shared} (I : Inv X pins σ H s) : ∀ {xs : List V} {t : Tab} {its : List Value}, Paired (fun x ns => TupI X.K H x ns) xs t → Vals xs its → Paired (TS.TupInts s.heap) its t
  | _, _, _, .nil, r => by cases r; exact .nil
  | _, _, _, .cons ⟨b, e, h⟩ t, r => by
    subst e
    cases r with
    | cons rv rt =>
      cases rv
      exact .cons (tupI_raw I h) (rows_raw I t rt)
theorem tab_raw {pins : List (Addr × Obj)} {σ : L2.St} {H : Hp} {s : Shared} (I : Inv X pins σ H s) {b : Addr} {t : Tab} (h : TabI X.K H (.ref b) t) : TabIs s.heap (.ref b) t := by
  obtain ⟨b', ys, e, h1, h2⟩ := h
  cases e
  obtain ⟨its, rv, hT, _⟩ := I.tuple h1
  exact ⟨b, its.toArray, rfl, hT, by simpa using rows_raw I h2 rv⟩
theorem tabs_read {pins : List (Addr × Obj)} {σ : L2.St} {H : Hp} {s : Shared} {F : V → Tab → Prop} (I : Inv X pins σ H s) (hF : ∀ x t, F x t → TabI X.K H x t) : ∀ {xs : List V} {ts : List Tab} {its : List Value}, Paired F xs ts → Vals xs its →
    its.map (tabOf s.heap) = ts ∧ ∀ v ∈ its, TabIs s.heap v (tabOf s.heap v) ∧ F (bkV v) (tabOf s.heap v)
  | _, _, _, .nil, r => by cases r; exact ⟨rfl, fun v hv => by cases hv⟩
  | _, _, _, .cons q t, r => by
    cases r with
    | cons rv rt =>
      obtain ⟨e1, e2⟩ := tabs_read I hF t rt
      obtain ⟨b, ys, rfl, h1, h2⟩ := hF _ _ q
      cases rv
      have hr := tab_raw I ⟨b, ys, rfl, h1, h2⟩
      refine ⟨by rw [List.map_cons, e1, hr.read], fun v hv => ?_⟩
      rcases List.mem_cons.mp hv with rfl | hv
      · rw [hr.read]
        exact ⟨hr, q⟩
      · exact e2 v hv
theorem paired_memT {F : V → Tab → Prop} : ∀ {l : List V} {m : List Tab}, Paired F l m → ∀ x ∈ l, ∃ y, F x y
  | _, _, .cons r t, x, h => by
    rcases List.mem_cons.mp h with rfl | h
    · exact ⟨_, r⟩
    · exact paired_memT t x h
theorem cr_sortedTabs (hu : X.A.units + 64 < cLine) : CallR X (.builtin "sorted") (rSortedTabs X.K) := by
  intro pins s σ H vs us Q I r h
  obtain ⟨a, xs, ts, F, rfl, hs, hF, hx, hne, q⟩ := h
  obtain ⟨its, rv, hl, hz⟩ := I.list hs
  rw [Vals.ref1 r]
  obtain ⟨er, ht⟩ := tabs_read I hF hx rv
  obtain ⟨e1, e2⟩ := bkV_refs rv fun x m => by
    obtain ⟨ns, hf⟩ := paired_memT hx x m
    obtain ⟨t, _, e, _⟩ := hF _ _ hf
    exact ⟨t, e⟩
  have hln : its.length = ts.length := by rw [← er, List.length_map]
  refine SrtO.sorted_ord (swo_lexT (tabOf s.heap)) hl.isList (by rw [← rv.length]; exact hz) (fun h2 h₁ a' ha kk => ?_) fun out h1 h2 => ?_
  · have hne : ∀ t ∈ ts, t ≠ [] := hne.resolve_left (by omega)
    refine DP.tabs_sortable (s := { s with heap := h₁ }) (by show X.A.in1.in1.units < cLine; have : X.A.in1.in1.units ≤ X.A.units + 2 := Nat.le_refl _; omega) h2 (fun v hv => ⟨((ht v hv).1).keeps fun b o e _ => (kk b o e).2, hne _ (by rw [← er]; exact List.mem_map_of_mem hv)⟩) fun o e => ?_
    have e' : some o = some (seqObj "list" its.toArray 0) := e.symm.trans ha
    cases e'
    intro c
    exact absurd (Value.type.inj c) (by decide)
  · obtain ⟨ep, he'⟩ := PyProof.Rows.sortedAll_at s.heap its out.toArray
    have hmem : ∀ u ∈ out, u ∈ its := fun u hu => h2.perm.mem_iff.mp hu
    have h3 : ∀ u ∈ out, ∃ a, u = Value.ref a := fun u hu => e2 u (hmem u hu)
    have hlen : (out.map bkV).length ≤ sizeLine := by
      rw [List.length_map, h2.perm.length_eq, ← rv.length]
      exact hz
    have hrow : out.map (tabOf s.heap) = sortT ts := by
      refine tabs_unique (List.pairwise_map.mpr h1) (sortT_up _) ((h2.perm.map _).trans ?_)
      rw [er]
      exact (sortT_perm ts).symm
    have hp : Paired F (out.map bkV) (sortT ts) := by
      rw [← hrow]
      have : ∀ l : List Value, (∀ u ∈ l, u ∈ its) → Paired F (l.map bkV) (l.map (tabOf s.heap)) := fun l => by
        induction l with
        | nil => exact fun _ => .nil
        | cons u l ih => exact fun hm => .cons (ht u (hm u (List.mem_cons_self ..))).2 (ih fun v hv => hm v (List.mem_cons_of_mem _ hv))
      exact this out hmem
    exact ⟨.ref _, upd H (s.heap.objs.size + 1) (.lst (out.map bkV)), I.laid (t' := s.toks) (fun _ _ => PyProof.Rows.sortedAll_old) (Nat.le_succ _) ⟨hlen, out, ep, bkV_vals h3, he'⟩, rfl, q _ _ hp (I.hok.fresh (Nat.le_succ _))⟩
end
def tabsOf : List PyData → Option (List Tab)
  | [] => some []
  | .tuple xs :: r => (rowsOf xs).bind fun t => (tabsOf r).map (t :: ·)
  | _ :: _ => none
abbrev itT (t : Tab) : PyData := .tuple (t.map itR)
theorem tabsOf_some : ∀ {ds : List PyData} {ts : List Tab}, tabsOf ds = some ts → ds = ts.map itT
  | [], ts, h => by cases h; rfl
  | d :: r, ts, h => by
    cases d with
    | tuple xs =>
      obtain ⟨ns, e1, e2⟩ := Option.bind_eq_some_iff.mp h
      obtain ⟨l, e3, e4⟩ := Option.map_eq_some_iff.mp e2
      subst e4
      rw [tabsOf_some e3, rowsOf_some e1]
      rfl
    | _ => cases h
theorem tabs_dp {K : Fg} {H : Hp} : ∀ {vs : List V} {ts : List Tab}, DpAll K H vs (ts.map itT) → Paired (fun x t => TabI K H x t) vs ts
  | _, [], h => by cases h; exact .nil
  | _, r :: rs, h => by
    cases h with
    | cons a b =>
      cases a with
      | tup s a => exact .cons ⟨_, _, rfl, s, rows_dp a⟩ (tabs_dp b)
theorem dp_tabs {K : Fg} {H : Hp} : ∀ {vs : List V} {ts : List Tab}, Paired (fun x t => TabI K H x t) vs ts → DpAll K H vs (ts.map itT)
  | _, _, .nil => .nil
  | _, _, .cons ⟨t, ys, e, s, p⟩ r => by
    rw [e, List.map_cons]
    exact .cons (.tup s (dp_rows p)) (dp_tabs r)
theorem tupI_mono {K : Fg} {G H : Hp} (e : Same G H) : ∀ {ys : List V} {t : Tab}, Paired (fun x ns => TupI K G x ns) ys t → Paired (fun x ns => TupI K H x ns) ys t
  | _, _, .nil => .nil
  | _, _, .cons ⟨t, e1, q⟩ r => .cons ⟨t, e1, sqT_mono e q⟩ (tupI_mono e r)
section
variable [Nms] [Tabs]
def mSortT (m : M) : ML := fun ρ S => (m ρ S).bind fun p => (asD p.2 p.1).bind fun d => match d with
  | .list xs => (tabsOf xs).bind fun ts => if (decide (ts.length < 2) || ts.all fun t => !t.isEmpty) = true then some ((sortT ts).map itT, p.2) else none
  | _ => none
variable {X : Cx} {e : Expr} {m : M} {p pos : Pos} {k : Nat}
theorem dl_sortT (hr : Room k X.A) (he : DE X e m) (hg : Gl X "sorted") (hm : X.mg "sorted" = none) (hv : bootBuiltins "sorted" = some (.builtin "sorted")) (h2 : starEach [e] X.env = (false, eval e X.env) :: starEach [] X.env := by rfl) :
    DLs X (.Call (.Name "sorted" p) [e] [] pos) (mSortT m) :=
  pe_imp (pe_callB (cr_sortedTabs hr.units) hg hm hv (pa_cons he pa_nil h2) (he := h2)) fun σ H Q ⟨as, ρ, S, ds, S', R, E, e0, k⟩ => by
    obtain ⟨⟨v, S1⟩, e1, e0⟩ := Option.bind_eq_some_iff.mp e0
    refine ⟨as, ρ, S, v, S1, R, E, e1, fun u H1 R1 E1 V1 => ?_⟩
    obtain ⟨d, e3, e0⟩ := Option.bind_eq_some_iff.mp e0
    dsimp only at e0 e3
    split at e0
    · rename_i xs
      obtain ⟨ts, e2, e0⟩ := Option.bind_eq_some_iff.mp e0
      split at e0
      · rename_i hc
        cases e0
        obtain ⟨a, vs, rfl, s1, a1⟩ := list_at R1 V1 e3
        rw [tabsOf_some e2] at a1
        refine ⟨a, vs, ts, _, rfl, s1, fun x t ⟨b, ys, e, q, p⟩ => ⟨b, ys, e, sqT_mono hide_same q, tupI_mono hide_same p⟩, tabs_dp a1, ?_, fun ys l h1 h4 => k l H1 ys R1 E1 h4 (dp_tabs h1)⟩
        rcases Bool.or_eq_true_iff.mp hc with h | h
        · exact .inl (of_decide_eq_true h)
        · refine .inr fun t ht z => ?_
          subst z
          exact absurd (List.all_eq_true.mp h _ ht) (by decide)
      · cases e0
    · cases e0
end
instance (m : M) [FrM m] : FrL (mSortT m) := ⟨fun ρ S T => by
  unfold mSortT
  rw [FrM.fr (m := m)]
  cases m ρ T with
  | none => rfl
  | some r =>
    show ((asD (S ++ r.2) (shV S.length r.1)).bind _) = Option.map _ ((asD r.2 r.1).bind _)
    rw [sh_asD]
    cases asD r.2 r.1 with
    | none => rfl
    | some d =>
      cases d with
      | list xs =>
        show ((tabsOf xs).bind _) = Option.map _ ((tabsOf xs).bind _)
        cases tabsOf xs with
        | none => rfl
        | some ts =>
          dsimp only [Option.bind_some]
          split <;> rfl
      | _ => rfl⟩
end DL

/-! for x in reversed(range(..)); x is not True -/
namespace DL
open PySem PySem.Spec PyProof.Rows L2 DK
def downD (lo : Int) (n : Nat) : List PyData := (List.range n).map fun i => .int (lo + (i : Nat) * (-1))
def mRevR1 (m : M) : ML := fun ρ S => (m ρ S).bind fun p => match p.1 with
  | .d (.int j) => if -1000000 ≤ j ∧ j ≤ 1000000 then some (downD (0 + (((j - 0).toNat : Nat) : Int) - 1) (j - 0).toNat, p.2) else none
  | _ => none
def mRevR2 (m n : M) : ML := fun ρ S => (m ρ S).bind fun p => (n ρ p.2).bind fun q => match p.1, q.1 with
  | .d (.int i), .d (.int j) => if -1000000 ≤ i ∧ i ≤ 1000000 ∧ -1000000 ≤ j ∧ j ≤ 1000000 then some (downD (i + (((j - i).toNat : Nat) : Int) - 1) (j - i).toNat, q.2) else none
  | _, _ => none
section
variable [Nms] [Tabs]
variable {X : Cx} {tg : Expr} {pos p p2 pos2 : Pos}
end
instance (m : M) [FrM m] : FrL (mRevR1 m) := ⟨fun ρ S T => by
  unfold mRevR1
  rw [FrM.fr (m := m)]
  cases m ρ T with
  | none => rfl
  | some r =>
    obtain ⟨x, T1⟩ := r
    cases x with
    | c j => rfl
    | f j => rfl
    | d x =>
      cases x with
      | int j =>
        show (if _ then _ else _) = Option.map _ (if _ then _ else _)
        split <;> rfl
      | _ => rfl⟩
instance (m n : M) [FrM m] [FrM n] : FrL (mRevR2 m n) := ⟨fun ρ S T => by
  unfold mRevR2
  rw [FrM.fr (m := m)]
  cases m ρ T with
  | none => rfl
  | some r =>
    show (n (shR S.length ρ) (S ++ r.2)).bind _ = Option.map _ ((n ρ r.2).bind _)
    rw [FrM.fr (m := n)]
    cases n ρ r.2 with
    | none => rfl
    | some q =>
      obtain ⟨x, T1⟩ := r
      obtain ⟨y, T2⟩ := q
      cases x with
      | c j => rfl
      | f j => rfl
      | d x =>
        cases x with
        | int i =>
          cases y with
          | c j => rfl
          | f j => rfl
          | d y =>
            cases y with
            | int j =>
              show (if _ then _ else _) = Option.map _ (if _ then _ else _)
              split <;> rfl
            | _ => rfl
        | _ => rfl⟩
/-- x is not True, x is not False: of two bools -/
def fIsNB : PV → PV → Sto → Option PV := fun x y _ => match x, y with
  | .d (.bool a), .d (.bool b) => some (.d (.bool (!decide (a = b))))
  | _, _ => none
section
variable [Nms] [Tabs]
variable {X : Cx} {a b : Expr} {ma mb : M} {pos : Pos}
end
instance : FrOp fIsNB := ⟨fun x y S T => by
  cases x with
  | c j => rfl
  | f j => rfl
  | d x =>
    cases x with
    | bool a =>
      cases y with
      | c j => rfl
      | f j => rfl
      | d y => cases y <;> rfl
    | _ => rfl⟩
instance (m st : M) [FrM m] [FrM st] : FrM (mRev m st) := ⟨fun ρ S T => by
  unfold mRev
  rw [FrM.fr (m := m)]
  cases m ρ T with
  | none => rfl
  | some p =>
    show ((st (shR S.length ρ) (S ++ p.2)).bind _) = ((st ρ p.2).bind _).map _
    rw [FrM.fr (m := st)]
    cases st ρ p.2 with
    | none => rfl
    | some q =>
      obtain ⟨x, T1⟩ := p
      obtain ⟨y, T2⟩ := q
      cases x with
      | c j => rfl
      | f j => rfl
      | d x =>
        cases x with
        | tuple xs =>
          cases y with
          | c j => rfl
          | f j => rfl
          | d y =>
            cases y with
            | int i =>
              cases i with
              | ofNat n => rfl
              | negSucc n => cases n <;> rfl
            | _ => rfl
        | _ => (cases y <;> first | rfl | (dsimp only [shV]; split <;> simp_all))⟩
end DL

/-! for x in range(a, b, -1) -/
namespace DL
open PySem PySem.Spec PyProof.Rows L2 DK
def intV : PV → Option Int
  | .d (.int i) => some i
  | _ => none
theorem intV_sh (n : Nat) (x : PV) : intV (shV n x) = intV x := by
  cases x with
  | d y => rfl
  | c j => rfl
  | f j => rfl
def downV (x y z : PV) : Option (List PyData) := (intV x).bind fun i => (intV y).bind fun j => (intV z).bind fun c => if -1000000 ≤ i ∧ i ≤ 1000000 ∧ -1000000 ≤ j ∧ j ≤ 1000000 ∧ c = -1 then some (downD i (i - j).toNat) else none
def mRngD (ma : MA) : ML := fun ρ S => (ma ρ S).bind fun p => match p.1 with
  | [x, y, z] => (downV x y z).map fun l => (l, p.2)
  | _ => none
section
variable [Nms] [Tabs]
variable {X : Cx} {tg : Expr} {pos p : Pos}
end
instance (ma : MA) [FrA ma] : FrL (mRngD ma) := ⟨fun ρ S T => by
  unfold mRngD
  rw [FrA.fr (m := ma)]
  cases ma ρ T with
  | none => rfl
  | some r =>
    obtain ⟨vs, T1⟩ := r
    match vs with
    | [] => rfl
    | [_] => rfl
    | [_, _] => rfl
    | [x, y, z] =>
      show (downV (shV S.length x) (shV S.length y) (shV S.length z)).map _ = Option.map _ ((downV x y z).map _)
      unfold downV
      rw [intV_sh, intV_sh, intV_sh]
      cases intV x with
      | none => rfl
      | some i =>
        cases intV y with
        | none => rfl
        | some j =>
          cases intV z with
          | none => rfl
          | some c =>
            dsimp only [Option.bind_some]
            split <;> rfl
    | _ :: _ :: _ :: _ :: _ => rfl⟩
end DL

/-! max(x, default=d), x a list or a tuple of whole numbers -/
namespace DL
open PySem PySem.Spec PyProof.Rows L2 DK
def maxOr {α : Type} (d : α) (f : Int → α) : List Int → α
  | [] => d
  | n :: r => f (r.foldl max n)
section
variable {X : Cx}
end
section
variable [Nms] [Tabs]
def mMaxDf (m md : M) : M := fun ρ S => (m ρ S).bind fun p => (md ρ p.2).bind fun d => match asD d.2 p.1 with
  | some (.list xs) => (intsOf xs).bind fun ns => some (maxOr d.1 (fun z => PV.d (.int z)) ns, d.2)
  | some (.tuple xs) => (intsOf xs).bind fun ns => some (maxOr d.1 (fun z => PV.d (.int z)) ns, d.2)
  | _ => none
variable {X : Cx} {e d : Expr} {m md : M} {p pos q2 : Pos} {k : Nat}
end
instance (m md : M) [FrM m] [FrM md] : FrM (mMaxDf m md) := ⟨fun ρ S T => by
  unfold mMaxDf
  rw [FrM.fr (m := m)]
  cases m ρ T with
  | none => rfl
  | some p =>
    show ((md (shR S.length ρ) (S ++ p.2)).bind _) = ((md ρ p.2).bind _).map _
    rw [FrM.fr (m := md)]
    cases md ρ p.2 with
    | none => rfl
    | some d =>
      show (match asD (S ++ d.2) (shV S.length p.1) with | some (.list xs) => _ | some (.tuple xs) => _ | _ => none) = (match asD d.2 p.1 with | some (.list xs) => _ | some (.tuple xs) => _ | _ => none : Option _).map _
      rw [sh_asD]
      cases asD d.2 p.1 with
      | none => rfl
      | some x => cases x <;> first | rfl | (rename_i xs; show ((intsOf xs).bind _) = ((intsOf xs).bind _).map _; cases intsOf xs with
        | none => rfl
        | some ns => cases ns <;> rfl)⟩
end DL

/-! xs.index(x), xs a list of ours, x any datum -/
namespace DL
open PySem PySem.Spec PySem.W PyProof.Rows L2 DK
section
variable [Nms] [Tabs]
def mIndexC (mo mi : M) : M := fun ρ S => (mo ρ S).bind fun o => (mi ρ o.2).bind fun i => match o.1, i.1 with
  | .c j, .d d => if (lAt o.2 j).isSome = true then (lAt i.2 j).bind fun ds => if (SeqAt.shaped (.list ds) && SeqAt.shaped d) = true then (ds.findIdx? fun z => PyData.eqv z d).map fun n => (PV.d (.int (n : Nat)), i.2) else none else none
  | _, _ => none
variable {X : Cx} {o e : Expr} {mo mi : M} {k : Nat} {apos cpos : Pos}
end
instance (mo mi : M) [FrM mo] [FrM mi] : FrM (mIndexC mo mi) := ⟨fun ρ S T => by
  unfold mIndexC
  rw [FrM.fr (m := mo)]
  cases mo ρ T with
  | none => rfl
  | some o =>
    obtain ⟨o, T1⟩ := o
    show (mi (shR S.length ρ) (S ++ T1)).bind _ = ((mi ρ T1).bind _).map _
    rw [FrM.fr (m := mi)]
    cases mi ρ T1 with
    | none => rfl
    | some i =>
      obtain ⟨i, T2⟩ := i
      cases o with
      | d x => rfl
      | f _ => rfl
      | c j =>
        cases i with
        | c _ => rfl
        | f _ => rfl
        | d x =>
          show (if (lAt (S ++ T1) (S.length + j)).isSome = true then (lAt (S ++ T2) (S.length + j)).bind _ else none) = Option.map _ (if (lAt T1 j).isSome = true then (lAt T2 j).bind _ else none)
          rw [lAt_sh, lAt_sh]
          split
          · cases lAt T2 j with
            | none => rfl
            | some ds =>
              dsimp only [Option.bind_some]
              split
              · cases ds.findIdx? fun z => PyData.eqv z x <;> rfl
              · rfl
          · rfl⟩
end DL

/-! lambdas handed to a def -/
namespace DL
open PySem PySem.Spec PyProof.Rows L2 DK
open NdefX (NF CellsAt NScope ncx envF startF slotAt Caps)
/-! ### the function object -/
section
variable {M : Model} {A : Around} {E : Value → Shared → Prop} {s : Shared} {nam ql : Str} {pr : Arguments} {bd : Expr} {sc : Scope} {ev : Env} {c P : Addr} {ps : Array Value} {at_ : Pos} {ln : Nat} {mg : Str → Option Value} {cl : List (Str × Addr)} {Q : Value → Shared → Prop}
end
section
variable [Nms] [Tabs]
variable {X : Cx} {pins : List (Addr × Obj)} {σ : L2.St} {H : Hp} {s : Shared}
end
end DL

/-! lambdas: what they promise, calls -/
namespace DL
open PySem PySem.Spec PyProof.Rows L2 DK
open NdefX (NF CellsAt NScope ncx envF startF slotAt Caps)
/-! ### data that no one can change -/
/-! ### a call of a lambda -/
/-! ### denotations -/
section
variable [Nms] [T0 : Tabs]
/-- what a lambda promises, from the state where it was made on -/
structure LamOk (P : Program) (w : World) (K : Fg) (mg : Str → Option Value) (base : Heap) (outer : List Env) (s : Shared) (H : Hp) (f : Addr) (lv ar : Nat) (F : FV) : Prop where
  at_ : ∀ (H' : Hp) (h' : Heap), Un (frs outer) [] H H' s.heap h' → PySem.W.FnAt f h'
  run : ∀ (A' : Around) (out' : List Env) (s' : Shared) (H' : Hp) (us : List Value) (vs : List V) (Q : VK) (E : XK), Room lv A' → A'.guards = some [] → Env0 P w K mg base A' out' s' H' → Un (frs outer) [] H H' s.heap s'.heap → Vals vs us → spF K ar F vs H' Q E →
    codeAny (model P w) A' (.call (.ref f) ⟨us, []⟩) (CR CX0 out' P w H' s' Q E) s'
theorem LamOk.up {P : Program} {w : World} {K : Fg} {mg : Str → Option Value} {base : Heap} {outer : List Env} {s : Shared} {H : Hp} {f : Addr} {lv lv' ar : Nat} {F : FV} (h : LamOk P w K mg base outer s H f lv ar F) (hl : lv ≤ lv') : LamOk P w K mg base outer s H f lv' ar F :=
  ⟨h.at_, fun A' out' s' H' us vs Q E hr => h.run A' out' s' H' us vs Q E (hr.mono hl)⟩
def FnKnS (P : Program) (w : World) (K : Fg) (mg : Str → Option Value) (base : Heap) (outer : List Env) (s : Shared) (H : Hp) (lv ar : Nat) (tb : Nat → Option FV) : Prop :=
  ∀ n F, tb n = some F → ∃ a, Nms.fn n = some a ∧ ((∃ fd ps, FnG P w K mg base CX0 lv a fd ps (spF K ar F) ∧ PySem.W.keepIn K (.ref a) = true ∧ Binds K fd ps []) ∨ LamOk P w K mg base outer s H a lv ar F)
/-! ### a def that takes them -/
structure FnGK (P : Program) (w : World) (K : Fg) (mg : Str → Option Value) (base : Heap) (k : Nat) (f : Addr) (fd : FuncData) (ps : List Str) (m lv ar : Nat) (tb : Nat → Option FV) (G : FV) : Prop where
  len : ps.length = m
  go : ∀ (A : Around) (out : List Env) (s : Shared) (H : Hp) (args : Args) (us : List Value) (vs : List V) (Q : VK) (E : XK), Room k A → A.guards = some [] → Env0 P w K mg base A out s H → BindsTo s fd args (ps.zip us) → Vals vs us → FnKnS P w K mg base out s H lv ar tb → spF K m G vs H Q E →
    codeAny (model P w) A (.call (.ref f) args) (CR CX0 out P w H s Q E) s
section
variable {P : Program} {w : World} {K : Fg} {mg : Str → Option Value} {base : Heap}
theorem FnGK.up {k k' : Nat} {f : Addr} {fd : FuncData} {ps : List Str} {m lv ar : Nat} {tb : Nat → Option FV} {G : FV} (F : FnGK P w K mg base k f fd ps m lv ar tb G) (h : k ≤ k') : FnGK P w K mg base k' f fd ps m lv ar tb G :=
  ⟨F.len, fun A out s H args us vs Q E hr => F.go A out s H args us vs Q E (hr.mono h)⟩
/-- .. handed defs alone -/
theorem FnGK.stat {k : Nat} {f : Addr} {fd : FuncData} {ps : List Str} {m lv ar : Nat} {tb : Nat → Option FV} {G : FV} (F : FnGK P w K mg base k f fd ps m lv ar tb G) (hs : FnKn P w K mg base lv ar tb) : FnG P w K mg base CX0 k f fd ps (spF K m G) :=
  ⟨fun vs H Q E q => q.1.trans F.len.symm, fun A out s H args us vs Q E hr hg e0 hb hv q => F.go A out s H args us vs Q E hr hg e0 hb hv (fun n F' e => by
    obtain ⟨a, fd', ps', z1, z2, z3, z4⟩ := hs n F' e
    exact ⟨a, z1, .inl ⟨fd', ps', z2, z3, z4⟩⟩) q⟩
end
/-! ### .. and calls them -/
section
variable {X : Cx} {x : Str} {p pos : Pos} {e : Expr} {es : List Expr} {ma : MA}
end
end
end DL

/-! x(.., lambda ..: ..) -/
namespace DL
open PySem PySem.Spec PyProof.Rows L2 DK
open NdefX (NF CellsAt NScope ncx envF startF slotAt Caps)
section
variable [N0 : Nms] [T0 : Tabs]
end
end DL

namespace DL
open PySem PySem.Spec
end DL

set_option maxHeartbeats 4000000
/-! for a, b in f(..).items(), f a def that hands back its own dict -/
namespace DL
open PySem PySem.Spec PyProof.Rows L2 DK
/-! ### the same, over what is known of the values -/
section
variable [Nms] [Tabs]
end
end DL

/-! a, b = a list -/
namespace DL
open PySem PySem.Spec PyProof.Rows L2 DK
variable [Nms] [Tabs]
end DL

/-! x = {k: v, ..}; {k: v, ..}[i]: keys are ints and texts -/
namespace DL
open PySem PySem.Spec PyProof.Rows L2 DK
section
variable [Nms] [Tabs]
variable {X : Cx} {k : Nat}
end
end DL

/-! d.pop(k), the key there; d[k], d[l] = (a, b), d a dict cell -/
namespace DL
open PySem PySem.Spec PyProof.Rows L2 DK
section
variable {X : Cx} {pins : List (Addr × Obj)} {σ : L2.St} {H : Hp} {s : Shared} {a : Addr} {es : List DEnt} {A : Around} {E : Value → Shared → Prop} {b : Addr} {k : NestedKey}
end
section
variable {X : Cx} {o e : Expr} {apos cpos : Pos} {td ty : TE}
end
section
variable [Nms] [Tabs]
variable {X : Cx} {o e : Expr} {mo mk : M} {k : Nat}
/-! d[k], d[l] = (a, b) -/
end
end DL


/-! sorted(d): the keys of a dict of our own, tuples of rows -/
namespace DL
open PySem PySem.Spec PyProof.Rows L2 DK DP
section
variable {X : Cx}
end
section
variable [Nms] [Tabs]
def mSortTD (m : M) : ML := fun ρ S => (m ρ S).bind fun p => match p.1 with
  | .c j => (dAt p.2 j).bind fun kvs => (tabsOf (kvs.map (·.1))).bind fun ts => if (decide (ts.length < 2) || ts.all fun t => !t.isEmpty) = true then some ((sortT ts).map itT, p.2) else none
  | _ => none
variable {X : Cx} {e : Expr} {m : M} {p pos : Pos} {k : Nat}
end
instance (m : M) [FrM m] : FrL (mSortTD m) := ⟨fun ρ S T => by
  unfold mSortTD
  rw [FrM.fr (m := m)]
  cases m ρ T with
  | none => rfl
  | some r =>
    obtain ⟨v, T'⟩ := r
    cases v with
    | d x => rfl
    | f _ => rfl
    | c j =>
      show (dAt (S ++ T') (S.length + j)).bind _ = Option.map _ ((dAt T' j).bind _)
      rw [dAt_sh]
      cases dAt T' j with
      | none => rfl
      | some kvs =>
        show ((tabsOf (kvs.map (·.1))).bind _) = Option.map _ ((tabsOf (kvs.map (·.1))).bind _)
        cases tabsOf (kvs.map (·.1)) with
        | none => rfl
        | some ts =>
          dsimp only [Option.bind_some]
          split <;> rfl⟩
end DL

/-! sorted(set(xs)), xs a list of whole numbers -/
namespace DL
open PySem PySem.Spec PyProof.Rows L2 DK
section
variable {P : Program} {w : World} {A : Around} {E : Value → Shared → Prop} {s : Shared} {l : Addr} {xs : Array Value} {ns : List Int}
end
section
variable [Nms] [Tabs]
def mSrtL (ml : ML) : ML := fun ρ S => (ml ρ S).bind fun p => (intsOf p.1).bind fun ns => if ns.length < 64 then some ((rising ns).map .int, p.2) else none
variable {X : Cx} {e : Expr} {ml : ML} {p p2 pos pos2 : Pos}
end
section
variable [Nms] [Tabs]
instance (ml : ML) [FrL ml] : FrL (mSrtL ml) := ⟨fun ρ S T => by
  unfold mSrtL
  rw [FrL.fr (m := ml)]
  cases ml ρ T with
  | none => rfl
  | some r =>
    obtain ⟨ds, T'⟩ := r
    dsimp only [Option.map_some, Option.bind_some]
    cases intsOf ds with
    | none => rfl
    | some ns =>
      dsimp only [Option.bind_some]
      split <;> rfl⟩
end
end DL

/-! len(d) of a dict cell -/
namespace DL
open PySem PySem.Spec PySem.W PyProof.Rows L2 DK
section
variable [Nms] [Tabs]
def mLenD (mo : M) : M := fun ρ S => (mo ρ S).bind fun o => match o.1 with
  | .c j => (dAt o.2 j).bind fun kvs => if kvs.length ≤ 1000000 then some (PV.d (.int (kvs.length : Nat)), o.2) else none
  | _ => none
variable {X : Cx} {o : Expr} {mo : M} {p pos : Pos}
instance (m : M) [FrM m] : FrM (mLenD m) := ⟨fun ρ S T => by
  unfold mLenD
  rw [FrM.fr (m := m)]
  cases m ρ T with
  | none => rfl
  | some r =>
    obtain ⟨v, T'⟩ := r
    cases v with
    | d x => rfl
    | f _ => rfl
    | c j =>
      show (dAt (S ++ T') (S.length + j)).bind _ = Option.map _ ((dAt T' j).bind _)
      rw [dAt_sh]
      cases dAt T' j with
      | none => rfl
      | some kvs =>
        dsimp only [Option.bind_some]
        split <;> rfl⟩
end
end DL

/-! min(t), max(t), t a list or a tuple of whole numbers -/
namespace DL
open PySem PySem.Spec PyProof.Rows L2 DK
section
variable {X : Cx}
end
section
variable [Nms] [Tabs]
def cPickT (f : Int → Int → Int) : List PV → Sto → Option PV := fun vs S => match vs with
  | [v] => (itemsOf S v).bind fun xs => (intsOf xs).bind fun ns => match ns with
    | [] => none
    | n :: r => some (.d (.int (r.foldl f n)))
  | _ => none
instance (f : Int → Int → Int) : FrC (cPickT f) := ⟨fun vs S T => by
  match vs with
  | [] => rfl
  | [v] =>
    show ((itemsOf (S ++ T) (shV S.length v)).bind _) = ((itemsOf T v).bind _).map _
    have e : itemsOf (S ++ T) (shV S.length v) = itemsOf T v := by
      cases v with
      | d y => cases y <;> rfl
      | f _ => rfl
      | c i => exact lAt_sh ..
    rw [e]
    cases itemsOf T v with
    | none => rfl
    | some xs =>
      dsimp only [Option.bind_some]
      cases intsOf xs with
      | none => rfl
      | some ns => cases ns <;> rfl
  | _ :: _ :: _ => rfl⟩
instance (mo : M) [FrM mo] : FrM (mPop0 mo) := ⟨fun ρ S T => by
  unfold mPop0
  rw [FrM.fr (m := mo)]
  cases mo ρ T with
  | none => rfl
  | some o =>
    obtain ⟨o, T1⟩ := o
    cases o with
    | d _ => rfl
    | f _ => rfl
    | c j =>
      show (lAt (S ++ T1) (S.length + j)).bind _ = Option.map _ ((lAt T1 j).bind _)
      rw [lAt_sh]
      cases lAt T1 j with
      | none => rfl
      | some ds =>
        show ((ds[ds.length - 1]?).bind _) = Option.map _ ((ds[ds.length - 1]?).bind _)
        cases ds[ds.length - 1]? with
        | none => rfl
        | some y =>
          show some (PV.d y, (S ++ T1).set (S.length + j) (.l ds.dropLast)) = some (PV.d y, S ++ T1.set j (.l ds.dropLast))
          rw [List.set_append_right _ _ (Nat.le_add_right _ _), Nat.add_sub_cancel_left]⟩
end
end DL

/-! the draws of k86 to k98 -/
namespace DN
open PySem PySem.Spec PyProof.Rows L2 DK DL
end DN

namespace Law
open PySem PySem.Spec PyProof.Rows L2 DK DL
/-- _law_feed(_law_script); slots: 0 _law_script -/
def g__law_feed : MS :=
    (sRetL (mLst (mCons (mFz (mCallL cList (mCons (mFz (mSlL (mVar 0) oNone (oSome (mC (.int (63)))))) mNil))) (mCons (mC (.int (0))) (mCons (mC (.int (0))) (mCons (mC (.int (0))) mNil))))))
def F__law_feed : FL := runL 1 g__law_feed
/-- _law_draw(_law_feed_here, _law_many); slots: 0 _law_feed_here 1 _law_many 2 _law_turn 3 _law_found 4 _law_cell 5 _law_mixed -/
def g__law_draw : MS :=
    (sSeq (sSet 2 (mOp fAdd (mOp fIx (mVar 0) (mC (.int (3)))) (mC (.int (1)))))
    (sSeq (sPut (mVar 0) (mC (.int (3))) (mVar 2))
    (sSeq (sIf (asB (mOp fGt (mOp fIx (mVar 0) (mC (.int (2)))) (mC (.int (0))))) (sSeq (sSet 3 (mOp fMod (mOp fIx (mVar 0) (mC (.int (2)))) (mVar 1)))
    (sSeq (sPut (mVar 0) (mC (.int (2))) (mOp fDiv (mOp fIx (mVar 0) (mC (.int (2)))) (mVar 1)))
    (sRet (mVar 3)))) sNil)
    (sSeq (sSet 4 (mC (.int (11))))
    (sSeq (sIf (asB (mOp fNe (mOp fIx (mVar 0) (mC (.int (0)))) (mFz (mLst mNil)))) (sSet 4 (mOp fIx (mOp fIx (mVar 0) (mC (.int (0)))) (mOp fMod (mOp fIx (mVar 0) (mC (.int (1)))) (mCall cLen (mCons (mOp fIx (mVar 0) (mC (.int (0)))) mNil))))) sNil)
    (sSeq (sPut (mVar 0) (mC (.int (1))) (mOp fAdd (mOp fIx (mVar 0) (mC (.int (1)))) (mC (.int (1)))))
    (sSeq (sIf (bAnd (asB (mOp fGe (mVar 4) (mOp fPow (mC (.int (10))) (mC (.int (18)))))) (asB (mOp fLe (mOp fIx (mVar 0) (mC (.int (1)))) (mCall cLen (mCons (mOp fIx (mVar 0) (mC (.int (0)))) mNil))))) (sSeq (sPut (mVar 0) (mC (.int (2))) (mOp fDiv (mVar 4) (mVar 1)))
    (sRet (mOp fMod (mVar 4) (mVar 1)))) sNil)
    (sSeq (sSet 5 (mOp fMod (mOp fPow (mOp fAdd (mOp fMod (mVar 4) (mC (.int (2147483629)))) (mOp fMul (mC (.int (7919))) (mVar 2))) (mC (.int (5)))) (mC (.int (2147483647)))))
    (sSeq (sSet 5 (mOp fMod (mOp fMul (mOp fAdd (mOp fDiv (mVar 5) (mC (.int (64)))) (mC (.int (104729)))) (mOp fPow (mOp fAdd (mOp fMod (mOp fMul (mC (.int (48271))) (mVar 2)) (mC (.int (65521)))) (mC (.int (1)))) (mC (.int (3))))) (mC (.int (2147483587)))))
    (sRet (mOp fMod (mOp fDiv (mVar 5) (mC (.int (64)))) (mVar 1))))))))))))
def F__law_draw : FV := runF 6 g__law_draw
/-- _law_shape(_law_feed_here, _law_size); slots: 0 _law_feed_here 1 _law_size 2 _law_found 3 _law_part -/
def g__law_shape : MS :=
    (sSeq (sOwn 2 (mLst mNil))
    (sSeq (sWhile (fun _ _ => 50) (asB (mOp fGt (mVar 1) (mC (.int (0))))) (sSeq (sSet 3 (mOp fAdd (mC (.int (1))) (mFn 2 F__law_draw (mCons (mVar 0) (mCons (mVar 1) mNil)))))
    (sSeq (sDrop (mAppend (mVar 2) (mVar 3)))
    (sSet 1 (mOp fSub (mVar 1) (mVar 3))))))
    (sRet (mCall cTuple (mCons (mFz (mSortRv (mVar 2))) mNil)))))
def F__law_shape : FV := runF 4 g__law_shape
/-- _law_skew(_law_feed_here, _law_most); slots: 0 _law_feed_here 1 _law_most 2 _law_outer 3 _law_inner 4 _law_part -/
def g__law_skew : MS :=
    (sSeq (sSet 2 (mFn 2 F__law_shape (mCons (mVar 0) (mCons (mOp fAdd (mC (.int (1))) (mFn 2 F__law_draw (mCons (mVar 0) (mCons (mVar 1) mNil)))) mNil))))
    (sSeq (sOwn 3 (mLst mNil))
    (sSeq (sIf (asB (mOp fGt (mFn 2 F__law_draw (mCons (mVar 0) (mCons (mC (.int (3))) mNil))) (mC (.int (0))))) (sFor (mSeq (mVar 2)) (gN 4) (sDrop (mAppend (mVar 3) (mFn 2 F__law_draw (mCons (mVar 0) (mCons (mOp fAdd (mCall cMinL (mCons (mFz (mOpL fCatL (mFz (mLst (mCons (mVar 4) mNil))) (mFz (mSlL (mVar 3) (oSome (mUn fNeg (mC (.int (1))))) oNone)))) mNil)) (mC (.int (1)))) mNil)))))) sNil)
    (sRet (mTup (mCons (mVar 2) (mCons (mCall cTuple (mCons (mFz (mLcC (mVar 3) [4] (gN 4) (asB (mOp fGt (mVar 4) (mC (.int (0))))) (mVar 4))) mNil)) mNil)))))))
def F__law_skew : FV := runF 5 g__law_skew
/-- _law_boxes(_law_skew_here); slots: 0 _law_skew_here -/
def g__law_boxes : MS :=
    (sRet (mOp fSub (mCall cSum (mCons (mOp fIx (mVar 0) (mC (.int (0)))) mNil)) (mCall cSum (mCons (mOp fIx (mVar 0) (mC (.int (1)))) mNil))))
def F__law_boxes : FV := runF 1 g__law_boxes
/-- _law_first(_law_skew_here, _law_row); slots: 0 _law_skew_here 1 _law_row -/
def g__law_first : MS :=
    (sRet (mIf (asB (mOp fLt (mVar 1) (mCall cLen (mCons (mOp fIx (mVar 0) (mC (.int (1)))) mNil)))) (mOp fIx (mOp fIx (mVar 0) (mC (.int (1)))) (mVar 1)) (mC (.int (0)))))
def F__law_first : FV := runF 2 g__law_first
/-- _law_skew_rows(_law_skew_here, _law_row, _law_above, _law_n); slots: 0 _law_skew_here 1 _law_row 2 _law_above 3 _law_n 4 _law_first_here 5 _law_higher 6 _law_found 7 _law_column 8 _law_longer 9 _law_ahead 10 _law_least 11 _law_letter -/
def g__law_skew_rows : MS :=
    (sSeq (sPar 4 5 (mCons (mFn 2 F__law_first (mCons (mVar 0) (mCons (mVar 1) mNil))) (mCons (mIf (asB (mOp fGt (mVar 1) (mC (.int (0))))) (mFn 2 F__law_first (mCons (mVar 0) (mCons (mOp fSub (mVar 1) (mC (.int (1)))) mNil))) (mC (.int (99)))) mNil)))
    (sSeq (sOwn 6 (mLst (mCons (mTup mNil) mNil)))
    (sSeq (sFor (mRng2 (mVar 4) (mOp fIx (mOp fIx (mVar 0) (mC (.int (0)))) (mVar 1))) (gN 7) (sSeq (sOwn 8 (mLst mNil))
    (sSeq (sForC (mVar 6) (gN 9) (sSeq (sSet 10 (mIf (asB (mOp fGe (mVar 7) (mVar 5))) (mOp fAdd (mOp fIx (mVar 2) (mOp fSub (mVar 7) (mVar 5))) (mC (.int (1)))) (mC (.int (0)))))
    (sSeq (sIf (asB (mOp fNe (mVar 9) (mTup mNil))) (sSet 10 (mCall cMax (mCons (mVar 10) (mCons (mOp fIx (mVar 9) (mUn fNeg (mC (.int (1))))) mNil)))) sNil)
    (sDrop (mExtend (mVar 8) (mLc (mRng2 (mVar 10) (mVar 3)) [11] (gN 11) bYes (mOp fAdd (mVar 9) (mTup (mCons (mVar 11) mNil)))))))))
    (sSet 6 (mVar 8)))))
    (sRet (mVar 6)))))
def F__law_skew_rows : FV := runF 12 g__law_skew_rows
/-- _law_tables(_law_skew_here, _law_n); slots: 0 _law_skew_here 1 _law_n 2 _law_found 3 _law_row 4 _law_longer 5 _law_rows 6 _law_above 7 _law_one -/
def g__law_tables : MS :=
    (sSeq (sOwn 2 (mLst (mCons (mTup mNil) mNil)))
    (sSeq (sFor (mRng1 (mCall cLen (mCons (mOp fIx (mVar 0) (mC (.int (0)))) mNil))) (gN 3) (sSeq (sOwn 4 (mLst mNil))
    (sSeq (sForC (mVar 2) (gN 5) (sSeq (sSet 6 (mIf (asB (mOp fGt (mVar 3) (mC (.int (0))))) (mOp fIx (mVar 5) (mUn fNeg (mC (.int (1))))) (mTup mNil)))
    (sDrop (mExtend (mVar 4) (mLc (mSeq (mFn 4 F__law_skew_rows (mCons (mVar 0) (mCons (mVar 3) (mCons (mVar 6) (mCons (mVar 1) mNil)))))) [7] (gN 7) bYes (mOp fAdd (mVar 5) (mTup (mCons (mVar 7) mNil))))))))
    (sSet 2 (mVar 4)))))
    (sRet (mFz (mSortT (mVar 2))))))
def F__law_tables : FV := runF 8 g__law_tables
/-- columns(shape); slots: 0 shape 1 k 2 part -/
def g_columns : MS :=
    (sSeq (sIf (bNot (bTru (mVar 0))) (sRet (mTup mNil)) sNil)
    (sRet (mTupG (mRng1 (mOp fIx (mVar 0) (mC (.int (0))))) [1] (gN 1) bYes (mSumG (mSeq (mVar 0)) [2] (gN 2) (asB (mOp fGt (mVar 2) (mVar 1))) (mC (.int (1)))))))
def F_columns : FV := runF 3 g_columns
/-- row_starts(skew); slots: 0 skew 1 outer 2 inner -/
def g_row_starts : MS :=
    (sSeq (sAsg (gT 2 (gCs (gN 1) (gCs (gN 2) gNs))) (mVar 0))
    (sRet (mOp fAdd (mVar 2) (mOp fRepT (mTup (mCons (mC (.int (0))) mNil)) (mOp fSub (mCall cLen (mCons (mVar 1) mNil)) (mCall cLen (mCons (mVar 2) mNil)))))))
def F_row_starts : FV := runF 3 g_row_starts
/-- ties_of(skew); slots: 0 skew 1 heights 2 boxes 3 numbers 4 row 5 start 6 column 7 number 8 box -/
def g_ties_of : MS :=
    (sSeq (sSet 1 (mFn 1 F_columns (mCons (mOp fIx (mVar 0) (mC (.int (0)))) mNil)))
    (sSeq (sSet 2 (mFz (mLc2 (mEnum (mCons (mFn 1 F_row_starts (mCons (mVar 0) mNil)) mNil)) [4, 5, 6] (gT 2 (gCs (gN 4) (gCs (gN 5) gNs))) bYes (mRng2 (mVar 5) (mOp fIx (mOp fIx (mVar 0) (mC (.int (0)))) (mVar 4))) [6] (gN 6) bYes (mTup (mCons (mVar 4) (mCons (mVar 6) mNil))))))
    (sSeq (sDc 3 (mEnum (mCons (mVar 2) mNil)) [7, 8] (gT 2 (gCs (gN 7) (gCs (gN 8) gNs))) bYes (mVar 8) (mVar 7))
    (sRet (mFz (mLc (mSeq (mVar 2)) [4, 6] (gT 2 (gCs (gN 4) (gCs (gN 6) gNs))) bYes (mTup (mCons (mDGet1 (mVar 3) (mTup (mCons (mVar 4) (mCons (mOp fSub (mVar 6) (mC (.int (1)))) mNil)))) (mCons (mDGet1 (mVar 3) (mTup (mCons (mOp fSub (mVar 4) (mC (.int (1)))) (mCons (mVar 6) mNil)))) (mCons (mOp fSub (mOp fSub (mOp fIx (mVar 1) (mVar 6)) (mC (.int (1)))) (mVar 4)) mNil))))))))))
def F_ties_of : FV := runF 9 g_ties_of
/-- in_rows(skew, letters); slots: 0 skew 1 letters 2 rows 3 used 4 start 5 end -/
def g_in_rows : MS :=
    (sSeq (sOwn 2 (mLst mNil))
    (sSeq (sSet 3 (mC (.int (0))))
    (sSeq (sFor (mZip (mCons (mFn 1 F_row_starts (mCons (mVar 0) mNil)) (mCons (mOp fIx (mVar 0) (mC (.int (0)))) mNil))) (gT 2 (gCs (gN 4) (gCs (gN 5) gNs))) (sSeq (sDrop (mAppend (mVar 2) (mSl (mVar 1) (oSome (mVar 3)) (oSome (mOp fSub (mOp fAdd (mVar 3) (mVar 5)) (mVar 4))))))
    (sAug 3 (fI0 fun i j => .int (i + j)) (mOp fSub (mVar 5) (mVar 4)))))
    (sRet (mCall cTuple (mCons (mVar 2) mNil))))))
def F_in_rows : FV := runF 6 g_in_rows
/-- fitting(letters, left, above, end); slots: 0 letters 1 left 2 above 3 end 4 least -/
def g_fitting : MS :=
    (sSeq (sSet 4 (mIf (asB (mOp (fIsN false) (mVar 1) (mC .none))) (mC (.int (0))) (mOp fIx (mVar 0) (mVar 1))))
    (sSeq (sIf (asB (mOp (fIsN true) (mVar 2) (mC .none))) (sSet 4 (mCall cMax (mCons (mVar 4) (mCons (mOp fAdd (mOp fIx (mVar 0) (mVar 2)) (mC (.int (1)))) mNil)))) sNil)
    (sRet (mFz (mRng2 (mVar 4) (mVar 3))))))
def F_fitting : FV := runF 5 g_fitting
/-- filled(skew, n, most); slots: 0 skew 1 n 2 most 3 grown 4 left 5 above 6 lower 7 letters 8 letter -/
def g_filled : MS :=
    (sSeq (sSet 3 (mFz (mLst (mCons (mTup mNil) mNil))))
    (sSeq (sFor (mSeq (mFn 1 F_ties_of (mCons (mVar 0) mNil))) (gT 3 (gCs (gN 4) (gCs (gN 5) (gCs (gN 6) gNs)))) (sSeq (sSet 3 (mFz (mLc2 (mSeq (mVar 3)) [7, 8] (gN 7) bYes (mSeq (mFn 4 F_fitting (mCons (mVar 7) (mCons (mVar 4) (mCons (mVar 5) (mCons (mOp fSub (mVar 1) (mVar 6)) mNil)))))) [8] (gN 8) bYes (mOp fAdd (mVar 7) (mTup (mCons (mVar 8) mNil))))))
    (sIf (bAnd (asB (mOp (fIsN true) (mVar 2) (mC .none))) (asB (mOp fGt (mCall cLen (mCons (mVar 3) mNil)) (mVar 2)))) sNever sNil)))
    (sRetL (mLc (mSeq (mVar 3)) [7] (gN 7) bYes (mFn 2 F_in_rows (mCons (mVar 0) (mCons (mVar 7) mNil)))))))
def F_filled : FL := runL 9 g_filled
/-- tables_of(skew, n); slots: 0 skew 1 n -/
def g_tables_of : MS :=
    (sRetL (mFnL 3 F_filled (mCons (mVar 0) (mCons (mVar 1) (mCons (mC (.int (1000))) mNil)))))
def F_tables_of : FL := runL 2 g_tables_of
/-- content_of(n, table); slots: 0 n 1 table 2 letter 3 row -/
def g_content_of : MS :=
    (sRet (mTupG (mRng1 (mVar 0)) [2] (gN 2) bYes (mSumG (mSeq (mVar 1)) [3] (gN 3) bYes (mCount (mVar 3) (mVar 2)))))
def F_content_of : FV := runF 4 g_content_of
/-- _law_content_right(_law_n, _law_table); slots: 0 _law_n 1 _law_table 2 _law_letters 3 _law_row 4 _law_letter -/
def g__law_content_right : MS :=
    (sSeq (sOwn 2 (mLst mNil))
    (sSeq (sFor (mSeq (mVar 1)) (gN 3) (sDrop (mExtT (mVar 2) (mVar 3))))
    (sRet (mOp fEq (mCall cRepr (mCons (mFn 2 F_content_of (mCons (mVar 0) (mCons (mVar 1) mNil))) mNil)) (mCall cRepr (mCons (mCall cTuple (mCons (mFz (mLc (mRng1 (mVar 0)) [4] (gN 4) bYes (mCountC (mVar 2) (mVar 4)))) mNil)) mNil))))))
def F__law_content_right : FV := runF 5 g__law_content_right
/-- law(_law_script); slots: 0 _law_script 1 _law_feed_here 2 _law_k 3 _law_skew_here 4 _law_boxes_here 5 _law_most 6 _law_n 7 _law_stood 8 _law_due 9 _law_told 10 _law_table -/
def g_law : MS :=
    (sSeq (sOwn 1 (mFnL 1 F__law_feed (mCons (mVar 0) mNil)))
    (sSeq (sFor (mRng1 (mC (.int (4)))) (gN 2) (sSeq (sSet 3 (mFn 2 F__law_skew (mCons (mVar 1) (mCons (mC (.int (9))) mNil))))
    (sSeq (sSet 4 (mFn 1 F__law_boxes (mCons (mVar 3) mNil)))
    (sSeq (sSet 5 (mOp fIx (mFz (mLst (mCons (mC (.int (6))) (mCons (mC (.int (6))) (mCons (mC (.int (6))) (mCons (mC (.int (6))) (mCons (mC (.int (5))) (mCons (mC (.int (3))) (mCons (mC (.int (3))) (mCons (mC (.int (2))) (mCons (mC (.int (2))) (mCons (mC (.int (2))) mNil)))))))))))) (mVar 4)))
    (sSeq (sSet 6 (mCall cMax (mCons (mC (.int (0))) (mCons (mOp fSub (mVar 5) (mOp fIx (mFz (mLst (mCons (mC (.int (0))) (mCons (mC (.int (0))) (mCons (mC (.int (0))) (mCons (mC (.int (1))) (mCons (mC (.int (1))) (mCons (mC (.int (2))) (mCons (mC (.int (3))) (mCons (mC (.int (6))) mNil)))))))))) (mFn 2 F__law_draw (mCons (mVar 1) (mCons (mC (.int (8))) mNil))))) mNil))))
    (sSeq (sSet 7 (mCall cRepr (mCons (mVar 3) mNil)))
    (sSeq (sSet 8 (mFn 2 F__law_tables (mCons (mVar 3) (mCons (mVar 6) mNil))))
    (sIf (asB (mOp fLt (mCall cLen (mCons (mVar 8) mNil)) (mC (.int (1001))))) (sSeq (sOwn 9 (mFnL 2 F_tables_of (mCons (mVar 3) (mCons (mVar 6) mNil))))
    (sSeq (sIf (bOr (asB (mOp fNe (mCall cRepr (mCons (mVar 9) mNil)) (mCall cRepr (mCons (mVar 8) mNil)))) (asB (mOp fNe (mCall cRepr (mCons (mVar 3) mNil)) (mVar 7)))) (sRet (mC (.bool false))) sNil)
    (sSeq (sDrop (mReverse (mVar 9)))
    (sSeq (sDrop (mAppend (mVar 9) (mTup mNil)))
    (sSeq (sIf (asB (mOp fNe (mCall cRepr (mCons (mFz (mFnL 2 F_tables_of (mCons (mVar 3) (mCons (mVar 6) mNil)))) mNil)) (mCall cRepr (mCons (mVar 8) mNil)))) (sRet (mC (.bool false))) sNil)
    (sFor (mSeq (mFz (mOpL fCatL (mFz (mSlL (mVar 8) oNone (oSome (mC (.int (6)))))) (mFz (mSlL (mVar 8) (oSome (mUn fNeg (mC (.int (6))))) oNone))))) (gN 10) (sIf (bNot (asB (mFn 2 F__law_content_right (mCons (mVar 6) (mCons (mVar 10) mNil))))) (sRet (mC (.bool false))) sNil))))))) sNil))))))))
    (sRet (mAnd (mOp fEq (mCall cRepr (mCons (mFz (mFnL 2 F_tables_of (mCons (mTup (mCons (mTup mNil) (mCons (mTup mNil) mNil))) (mCons (mC (.int (3))) mNil)))) mNil)) (mC (.str "[()]"))) (mOp fEq (mCall cRepr (mCons (mFz (mFnL 2 F_tables_of (mCons (mTup (mCons (mTup (mCons (mC (.int (2))) (mCons (mC (.int (1))) mNil))) (mCons (mTup (mCons (mC (.int (2))) (mCons (mC (.int (1))) mNil))) mNil))) (mCons (mC (.int (0))) mNil)))) mNil)) (mC (.str "[((), ())]")))))))
def F_law : FV := runF 11 g_law
end Law

namespace Law
open PySem PySem.Spec PyProof.Rows L2 DK DL DN
/-! tables, without the program -/
def startsW (outer inner : List Int) : List Int := inner ++ List.replicate (outer.length - inner.length) 0
def iota (a b : Int) : List Int := (List.range (b - a).toNat).map fun (k : Nat) => a + (k : Int)
def bxGo : Nat → List (Int × Int) → List (Int × Int)
  | _, [] => []
  | r, p :: t => ((iota p.1 p.2).map fun c => ((r : Int), c)) ++ bxGo (r + 1) t
def boxesP (o i : List Int) : List (Int × Int) := bxGo 0 ((startsW o i).zip o)
def idxGo (b : Int × Int) : Nat → List (Int × Int) → Option Int
  | _, [] => none
  | k, x :: r => if x = b then some (k : Int) else idxGo b (k + 1) r
def heightP (o : List Int) (c : Int) : Int := ((o.filter fun x => decide (x > c)).length : Nat)
abbrev Tie3 := Option Int × Option Int × Int
def tiesP (o i : List Int) : List Tie3 := (boxesP o i).map fun b => (idxGo (b.1, b.2 - 1) 0 (boxesP o i), idxGo (b.1 - 1, b.2) 0 (boxesP o i), heightP o b.2 - 1 - b.1)
def leastP (w : List Int) (t : Tie3) : Int := match t.1, t.2.1 with
  | none, none => 0
  | some l, none => w.getD l.toNat 0
  | none, some a => max 0 (w.getD a.toNat 0 + 1)
  | some l, some a => max (w.getD l.toNat 0) (w.getD a.toNat 0 + 1)
def growP (n : Int) (t : Tie3) (ws : List (List Int)) : List (List Int) := ws.flatMap fun w => (iota (leastP w t) (n - t.2.2)).map fun l => w ++ [l]
def wordsT (n : Int) : List Tie3 → List (List Int) → List (List Int)
  | [], ws => ws
  | t :: ts, ws => wordsT n ts (growP n t ws)
def rowsW (w : List Int) : List (Int × Int) → Int → List (List Int)
  | [], _ => []
  | p :: r, u => cut w (some u) (some (u + p.2 - p.1)) :: rowsW w r (u + (p.2 - p.1))
def tabP (o i : List Int) (n : Int) : List (List (List Int)) := (wordsT n (tiesP o i) [[]]).map fun w => rowsW w ((startsW o i).zip o) 0
def firstP (i : List Int) (r : Int) : Int := if r < (i.length : Int) then i.getD r.toNat 0 else 0
def leastR (hi : Int) (above : List Int) (c : Int) (a : List Int) : Int :=
  let l := if c ≥ hi then above.getD (c - hi).toNat 0 + 1 else 0
  if a = [] then l else max l (a.getLast?.getD 0)
def skewRows (o i : List Int) (r : Int) (above : List Int) (n : Int) : List (List Int) :=
  (iota (firstP i r) (o.getD r.toNat 0)).foldl (fun found c => found.flatMap fun a => (iota (leastR (if r > 0 then firstP i (r - 1) else 99) above c a) n).map fun l => a ++ [l]) [[]]
def lawTab (o i : List Int) (n : Int) : List (List (List Int)) :=
  (iota 0 (o.length : Nat)).foldl (fun found r => found.flatMap fun t => (skewRows o i r (if r > 0 then t.getLast?.getD [] else []) n).map fun x => t ++ [x]) [[]]
/-- the shapes of sizes to nine -/
def S9 : List (List Int) := [[], [1], [1, 1], [2], [1, 1, 1], [2, 1], [3], [1, 1, 1, 1], [2, 1, 1], [2, 2], [3, 1], [4], [1, 1, 1, 1, 1], [2, 1, 1, 1], [2, 2, 1], [3, 1, 1], [3, 2], [4, 1], [5], [1, 1, 1, 1, 1, 1], [2, 1, 1, 1, 1], [2, 2, 1, 1], [2, 2, 2], [3, 1, 1, 1], [3, 2, 1], [3, 3], [4, 1, 1], [4, 2], [5, 1], [6], [1, 1, 1, 1, 1, 1, 1], [2, 1, 1, 1, 1, 1], [2, 2, 1, 1, 1], [2, 2, 2, 1], [3, 1, 1, 1, 1], [3, 2, 1, 1], [3, 2, 2], [3, 3, 1], [4, 1, 1, 1], [4, 2, 1], [4, 3], [5, 1, 1], [5, 2], [6, 1], [7], [1, 1, 1, 1, 1, 1, 1, 1], [2, 1, 1, 1, 1, 1, 1], [2, 2, 1, 1, 1, 1], [2, 2, 2, 1, 1], [2, 2, 2, 2], [3, 1, 1, 1, 1, 1], [3, 2, 1, 1, 1], [3, 2, 2, 1], [3, 3, 1, 1], [3, 3, 2], [4, 1, 1, 1, 1], [4, 2, 1, 1], [4, 2, 2], [4, 3, 1], [4, 4], [5, 1, 1, 1], [5, 2, 1], [5, 3], [6, 1, 1], [6, 2], [7, 1], [8], [1, 1, 1, 1, 1, 1, 1, 1, 1], [2, 1, 1, 1, 1, 1, 1, 1], [2, 2, 1, 1, 1, 1, 1], [2, 2, 2, 1, 1, 1], [2, 2, 2, 2, 1], [3, 1, 1, 1, 1, 1, 1], [3, 2, 1, 1, 1, 1], [3, 2, 2, 1, 1], [3, 2, 2, 2], [3, 3, 1, 1, 1], [3, 3, 2, 1], [3, 3, 3], [4, 1, 1, 1, 1, 1], [4, 2, 1, 1, 1], [4, 2, 2, 1], [4, 3, 1, 1], [4, 3, 2], [4, 4, 1], [5, 1, 1, 1, 1], [5, 2, 1, 1], [5, 2, 2], [5, 3, 1], [5, 4], [6, 1, 1, 1], [6, 2, 1], [6, 3], [7, 1, 1], [7, 2], [8, 1], [9]]
def holdsP (i o : List Int) : Bool := decide (i.length ≤ o.length) && (List.range i.length).all fun k => decide (i.getD k 0 ≤ o.getD k 0)
def within9 (o : List Int) : List (List Int) := S9.filter fun i => holdsP i o
def mostP (b : Int) : Int := [6, 6, 6, 6, 5, 3, 3, 2, 2, 2].getD b.toNat 0
def nsP (o i : List Int) : List Int := [0, 1, 2, 3, 6].map fun d => max 0 (mostP (o.sum - i.sum) - d)
def idOk (n : Nat) : Option Int → Bool
  | none => true
  | some k => decide (0 ≤ k) && decide (k < (n : Int))
/-- each tie looks at boxes that come before it -/
def tiesOk : Nat → List Tie3 → Bool
  | _, [] => true
  | n, t :: ts => idOk n t.1 && idOk n t.2.1 && decide (0 ≤ t.2.2) && decide (t.2.2 ≤ 100) && tiesOk (n + 1) ts
def upT : List DP.Tab → Bool
  | [] => true
  | [_] => true
  | a :: b :: r => !DP.lexT b a && upT (b :: r)
def lenR (o i : List Int) (r : Nat) : Nat := (o.getD r 0 - firstP i (r : Int)).toNat
def sumL (o i : List Int) : Nat → Nat → Nat
  | _, 0 => 0
  | r, k + 1 => lenR o i r + sumL o i (r + 1) k
def chkN (o i : List Int) (n : Int) : Bool := decide (tabP o i n = lawTab o i n) && upT (lawTab o i n) && decide ((max n.toNat 1) ^ (tiesP o i).length ≤ 1000)
def chkI (o i : List Int) : Bool := tiesOk 0 (tiesP o i) && decide (0 ≤ o.sum - i.sum) && decide (o.sum - i.sum ≤ 9) && decide (sumL o i 0 o.length = (tiesP o i).length) && ((nsP o i).all fun n => chkN o i n)
def chkO (o : List Int) : Bool := (within9 o).all fun i => chkI o i
end Law

/-! sums gathered of a cell, numbers to 2^40; products of sums of powers, choices, repeats -/
namespace DN
open PySem PySem.Spec PyProof.Rows L2 DK DL
end DN

set_option synthInstance.maxHeartbeats 0
set_option synthInstance.maxSize 100000
namespace Law
open PySem PySem.Spec PyProof.Rows L2 DK DL DN
theorem lc2_fm {T : Sto} {tgt tgt1 : TgD} {tt tt1 : MB} {mi1 : ML} {vs1 : List Nat} {te : DL.M} {ρ : RE} {h : PyData → List PyData} : ∀ (xs ds : List PyData), ds.length + (xs.flatMap h).length ≤ 1000000 →
    (∀ x ∈ xs, ∃ ρ1 ys, ∃ g : PyData → PyData, tgt x ρ = some ρ1 ∧ h x = ys.map g ∧ (∀ E, tt ρ1 (T ++ [Cell.l E]) = some (true, T ++ [Cell.l E]) ∧ mi1 ρ1 (T ++ [Cell.l E]) = some (ys, T ++ [Cell.l E])) ∧ ∀ y ∈ ys, ∃ ρ2, tgt1 y (wipeR ρ1 vs1) = some ρ2 ∧ ∀ E, tt1 ρ2 (T ++ [Cell.l E]) = some (true, T ++ [Cell.l E]) ∧ te ρ2 (T ++ [Cell.l E]) = some (.d (g y), T ++ [Cell.l E])) →
    lc2Go T.length tgt tt mi1 vs1 tgt1 tt1 te ρ xs (T ++ [Cell.l ds]) = some (T ++ [Cell.l (ds ++ xs.flatMap h)])
  | [], ds, _, _ => by
    show some _ = _
    simp
  | x :: xs, ds, hl, hx => by
    obtain ⟨ρ1, ys, g, e1, e2, e3, e4⟩ := hx x (by simp)
    rw [List.flatMap_cons, List.length_append, e2, List.length_map] at hl
    show (tgt x ρ).bind _ = _
    rw [e1]
    show (tt ρ1 _).bind _ = _
    rw [(e3 _).1]
    show (mi1 ρ1 _).bind _ = _
    rw [(e3 _).2]
    show (lcGo T.length tgt1 tt1 te (wipeR ρ1 vs1) ys (T ++ [Cell.l ds])).bind _ = _
    rw [lc_fm (p := fun _ => true) (f := g) ys ds (by omega) e4, List.filter_eq_self.mpr (fun _ _ => rfl)]
    show lc2Go T.length tgt tt mi1 vs1 tgt1 tt1 te ρ xs (T ++ [Cell.l (ds ++ ys.map g)]) = _
    rw [lc2_fm xs (ds ++ ys.map g) (by rw [List.length_append, List.length_map]; omega) fun y hy => hx y (List.mem_cons_of_mem _ hy), List.flatMap_cons, e2, List.append_assoc]

theorem mLc2_fm {mi : ML} {vs : List Nat} {tgt tgt1 : TgD} {tt tt1 : MB} {mi1 : ML} {vs1 : List Nat} {te : DL.M} {ρ : RE} {S S1 : Sto} {xs : List PyData} {h : PyData → List PyData} (h1 : mi ρ S = some (xs, S1)) (hl : (xs.flatMap h).length ≤ 1000000)
    (hx : ∀ x ∈ xs, ∃ ρ1 ys, ∃ g : PyData → PyData, tgt x (wipeR ρ vs) = some ρ1 ∧ h x = ys.map g ∧ (∀ E, tt ρ1 (S1 ++ [Cell.l E]) = some (true, S1 ++ [Cell.l E]) ∧ mi1 ρ1 (S1 ++ [Cell.l E]) = some (ys, S1 ++ [Cell.l E])) ∧ ∀ y ∈ ys, ∃ ρ2, tgt1 y (wipeR ρ1 vs1) = some ρ2 ∧ ∀ E, tt1 ρ2 (S1 ++ [Cell.l E]) = some (true, S1 ++ [Cell.l E]) ∧ te ρ2 (S1 ++ [Cell.l E]) = some (.d (g y), S1 ++ [Cell.l E])) :
    mLc2 mi vs tgt tt mi1 vs1 tgt1 tt1 te ρ S = some (xs.flatMap h, S1) := by
  unfold mLc2
  rw [h1]
  show (lc2Go S1.length tgt tt mi1 vs1 tgt1 tt1 te (wipeR ρ vs) xs (S1 ++ [Cell.l []])).bind _ = _
  rw [lc2_fm xs [] (by simpa using hl) hx]
  show (lAt (S1 ++ [Cell.l ([] ++ xs.flatMap h)]) S1.length).bind _ = _
  rw [last_l]
  show some ([] ++ xs.flatMap h, (S1 ++ [Cell.l ([] ++ xs.flatMap h)]).take S1.length) = _
  rw [List.take_left, List.nil_append]
abbrev skD (outer inner : List Int) : PyData := .tuple [itp outer, itp inner]
theorem rep_int (x : Int) (k : Nat) (hk : k ≤ 1000) (S : Sto) : fRepT (.d (.tuple [.int x])) (.d (.int (k : Nat))) S = some (.d (itp (List.replicate k x))) := by
  show (if [PyData.int x] ≠ [] ∧ -1000 ≤ ((k : Nat) : Int) ∧ ((k : Nat) : Int) ≤ 1000 ∧ [PyData.int x].length ≤ 1000 then some (PV.d (.tuple (List.replicate ((k : Nat) : Int).toNat [PyData.int x]).flatten)) else none) = _
  rw [if_pos ⟨by simp, by omega, by omega, by show 1 ≤ 1000; decide⟩, Int.toNat_natCast]
  have : ∀ k : Nat, (List.replicate k [PyData.int x]).flatten = (List.replicate k x).map .int := fun k => by
    induction k with
    | zero => rfl
    | succ k ih => rw [List.replicate_succ, List.flatten_cons, ih, List.replicate_succ]; rfl
  rw [this]
theorem starts_ok {outer inner : List Int} (h : inner.length ≤ outer.length) (ho : outer.length ≤ 900) (S : Sto) : F_row_starts [.d (skD outer inner)] S = some (.d (itp (startsW outer inner)), S) := by
  refine runF_of (ρ := [some (.d (skD outer inner)), none, none]) rfl ?_ (Nat.le_refl _)
  unfold g_row_starts
  rw [sSeq_nx (show sAsg (gT 2 (gCs (gN 1) (gCs (gN 2) gNs))) (mVar 0) [some (.d (skD outer inner)), none, none] S = some (.nx [some (.d (skD outer inner)), some (.d (itp outer)), some (.d (itp inner))] S) from rfl)]
  have ln : ∀ {i : Nat} {a : List Int}, [some (PV.d (skD outer inner)), some (.d (itp outer)), some (.d (itp inner))][i]? = some (some (.d (itp a))) → mCall cLen (mCons (mVar i) mNil) [some (.d (skD outer inner)), some (.d (itp outer)), some (.d (itp inner))] S = some (.d (.int (a.length : Nat)), S) := fun {i a} e => by
    refine mCall_of (vs := [.d (itp a)]) (mCons_of (var_of e) rfl) ?_
    show some (PV.d (.int ((a.map PyData.int).length : Int))) = _
    rw [List.length_map]
  have sb : mOp fSub (mCall cLen (mCons (mVar 1) mNil)) (mCall cLen (mCons (mVar 2) mNil)) [some (.d (skD outer inner)), some (.d (itp outer)), some (.d (itp inner))] S = some (.d (.int ((outer.length - inner.length : Nat) : Int)), S) :=
    mOp_of (ln rfl) (ln rfl) (by
      show some (PV.d (.int ((outer.length : Int) - (inner.length : Int)))) = _
      rw [show (outer.length : Int) - (inner.length : Int) = ((outer.length - inner.length : Nat) : Int) by omega])
  have rp : mOp fRepT (mTup (mCons (mC (.int (0))) mNil)) (mOp fSub (mCall cLen (mCons (mVar 1) mNil)) (mCall cLen (mCons (mVar 2) mNil))) [some (.d (skD outer inner)), some (.d (itp outer)), some (.d (itp inner))] S = some (.d (itp (List.replicate (outer.length - inner.length) 0)), S) :=
    mOp_of (mTup_of (vs := [.d (.int 0)]) (ds := [.int 0]) rfl rfl (by show 1 ≤ 1000; decide)) sb (rep_int 0 _ (by omega) S)
  refine sRet_of (mOp_of rfl rp ?_)
  show (if (inner.map PyData.int).length + ((List.replicate (outer.length - inner.length) (0 : Int)).map PyData.int).length ≤ 1000000 then some (PV.d (.tuple (inner.map PyData.int ++ (List.replicate (outer.length - inner.length) (0 : Int)).map PyData.int))) else none) = _
  rw [if_pos (by rw [List.length_map, List.length_map, List.length_replicate]; omega)]
  unfold startsW
  show _ = some (PV.d (.tuple ((inner ++ List.replicate (outer.length - inner.length) (0 : Int)).map .int)))
  rw [List.map_append]
/-! ### a word cut into rows -/
theorem rowsW_len (w : List Int) : ∀ (ps : List (Int × Int)) (u : Int), (rowsW w ps u).length = ps.length
  | [], _ => rfl
  | p :: r, u => by
    show (rowsW w r _).length + 1 = _
    rw [rowsW_len w r, List.length_cons]
theorem cut_map {α β : Type} (f : α → β) (xs : List α) (lo hi : Option Int) : cut (xs.map f) lo hi = (cut xs lo hi).map f := by
  unfold cut
  rw [List.length_map, List.map_take, List.map_drop]
abbrev irB : MS := (sSeq (sDrop (mAppend (mVar 2) (mSl (mVar 1) (oSome (mVar 3)) (oSome (mOp fSub (mOp fAdd (mVar 3) (mVar 5)) (mVar 4))))))
    (sAug 3 (fI0 fun i j => .int (i + j)) (mOp fSub (mVar 5) (mVar 4))))
abbrev irR (x0 : Option PV) (w : List Int) (n : Nat) (u : Int) (x4 x5 : Option PV) : RE := [x0, some (.d (itp w)), some (.c n), some (.d (.int u)), x4, x5]
def prP (p : Int × Int) : PyData := .tuple [.int p.1, .int p.2]
theorem ir_step {x0 : Option PV} {w : List Int} {A : Sto} {acc : List (List Int)} {u : Int} {p : Int × Int} (hl : acc.length ≤ 900) : irB (irR x0 w A.length u (some (.d (.int p.1))) (some (.d (.int p.2)))) (A ++ [.l (acc.map itp)]) = some (.nx (irR x0 w A.length (u + (p.2 - p.1)) (some (.d (.int p.1))) (some (.d (.int p.2)))) (A ++ [.l ((acc ++ [cut w (some u) (some (u + p.2 - p.1))]).map itp)])) := by
  have sl : mSl (mVar 1) (oSome (mVar 3)) (oSome (mOp fSub (mOp fAdd (mVar 3) (mVar 5)) (mVar 4))) (irR x0 w A.length u (some (.d (.int p.1))) (some (.d (.int p.2)))) (A ++ [.l (acc.map itp)]) = some (.d (itp (cut w (some u) (some (u + p.2 - p.1)))), A ++ [.l (acc.map itp)]) := by
    show some (PV.d (.tuple (cut (w.map PyData.int) (some u) (some (u + p.2 - p.1)))), _) = _
    rw [cut_map]
  have ap : mAppend (mVar 2) (mSl (mVar 1) (oSome (mVar 3)) (oSome (mOp fSub (mOp fAdd (mVar 3) (mVar 5)) (mVar 4)))) (irR x0 w A.length u (some (.d (.int p.1))) (some (.d (.int p.2)))) (A ++ [.l (acc.map itp)]) = some (.d .none, A ++ [.l ((acc ++ [cut w (some u) (some (u + p.2 - p.1))]).map itp)]) := by
    unfold mAppend
    rw [var_of (x := .c A.length) rfl]
    dsimp only [Option.bind_some]
    rw [sl]
    show (if (lAt (A ++ [Cell.l (acc.map itp)]) A.length).isSome = true then (lAt (A ++ [Cell.l (acc.map itp)]) A.length).bind _ else none) = _
    rw [last_l]
    show (if (acc.map itp).length < 1000000 then some (PV.d .none, (A ++ [Cell.l (acc.map itp)]).set A.length (.l (acc.map itp ++ [itp (cut w (some u) (some (u + p.2 - p.1)))]))) else none) = _
    rw [if_pos (by rw [List.length_map]; omega), last_set, List.map_append]
    rfl
  exact (sSeq_nx (sDrop_of (v := .d .none) ap)).trans rfl
theorem ir_go {x0 : Option PV} {w : List Int} {A : Sto} : ∀ (ps : List (Int × Int)) (acc : List (List Int)) (u : Int) (x4 x5 : Option PV), acc.length + ps.length ≤ 900 → ∃ u' y4 y5,
    forGo (gT 2 (gCs (gN 4) (gCs (gN 5) gNs))) irB (ps.map prP) (irR x0 w A.length u x4 x5) (A ++ [.l (acc.map itp)]) = some (.nx (irR x0 w A.length u' y4 y5) (A ++ [.l ((acc ++ rowsW w ps u).map itp)]))
  | [], acc, u, x4, x5, _ => ⟨u, x4, x5, by rw [show acc ++ rowsW w [] u = acc from List.append_nil acc]; rfl⟩
  | p :: ps, acc, u, x4, x5, hl => by
    rw [List.length_cons] at hl
    obtain ⟨u', y4, y5, e⟩ := ir_go (x0 := x0) (w := w) (A := A) ps (acc ++ [cut w (some u) (some (u + p.2 - p.1))]) (u + (p.2 - p.1)) (some (.d (.int p.1))) (some (.d (.int p.2))) (by rw [List.length_append, List.length_singleton]; omega)
    refine ⟨u', y4, y5, ?_⟩
    rw [List.map_cons, for_nx (ρ1 := irR x0 w A.length u (some (.d (.int p.1))) (some (.d (.int p.2)))) rfl (ir_step (by omega)), e, List.append_assoc]
    rfl
theorem zipP : ∀ a b : List Int, zipD (a.map .int) (b.map .int) = (a.zip b).map prP
  | [], [] => rfl
  | [], _ :: _ => rfl
  | _ :: _, [] => rfl
  | x :: a, y :: b => by
    show PyData.tuple [.int x, .int y] :: zipD (a.map .int) (b.map .int) = _
    rw [zipP a b]
    rfl
theorem in_rows_ok {outer inner w : List Int} (h : inner.length ≤ outer.length) (ho : outer.length ≤ 900) (S : Sto) : F_in_rows [.d (skD outer inner), .d (itp w)] S = some (.d (.tuple ((rowsW w ((startsW outer inner).zip outer) 0).map itp)), S) := by
  obtain ⟨u', y4, y5, e⟩ := ir_go (x0 := some (.d (skD outer inner))) (w := w) (A := S) ((startsW outer inner).zip outer) [] 0 none none (by rw [List.length_zip, List.length_nil]; omega)
  rw [List.nil_append] at e
  have hr := rowsW_len w ((startsW outer inner).zip outer) 0
  rw [List.length_zip] at hr
  generalize rowsW w ((startsW outer inner).zip outer) 0 = rows at e hr
  refine runF_cut (S' := S) (ρ := [some (.d (skD outer inner)), some (.d (itp w)), none, none, none, none]) (E := [.l (rows.map itp)]) rfl ?_ rfl
  unfold g_in_rows
  refine (sSeq_nx (show sOwn 2 (mLst mNil) [some (.d (skD outer inner)), some (.d (itp w)), none, none, none, none] S = some (.nx [some (.d (skD outer inner)), some (.d (itp w)), some (.c S.length), none, none, none] (S ++ [.l []])) from rfl)).trans ?_
  refine (sSeq_nx (show sSet 3 (mC (.int (0))) [some (.d (skD outer inner)), some (.d (itp w)), some (.c S.length), none, none, none] (S ++ [.l []]) = some (.nx (irR (some (.d (skD outer inner))) w S.length 0 none none) (S ++ [.l []])) from rfl)).trans ?_
  have zp : mZip (mCons (mFn 1 F_row_starts (mCons (mVar 0) mNil)) (mCons (mOp fIx (mVar 0) (mC (.int (0)))) mNil)) (irR (some (.d (skD outer inner))) w S.length 0 none none) (S ++ [.l []]) = some (((startsW outer inner).zip outer).map prP, S ++ [.l []]) := by
    have q1 : mFn 1 F_row_starts (mCons (mVar 0) mNil) (irR (some (.d (skD outer inner))) w S.length 0 none none) (S ++ [.l []]) = some (.d (itp (startsW outer inner)), S ++ [.l []]) := mFn_of (n := 1) rfl rfl (starts_ok h ho _)
    have q2 : mCons (mFn 1 F_row_starts (mCons (mVar 0) mNil)) (mCons (mOp fIx (mVar 0) (mC (.int (0)))) mNil) (irR (some (.d (skD outer inner))) w S.length 0 none none) (S ++ [.l []]) = some ([.d (itp (startsW outer inner)), .d (itp outer)], S ++ [.l []]) := mCons_of q1 (mCons_of rfl rfl)
    unfold mZip
    rw [q2]
    show some (zipD ((startsW outer inner).map PyData.int) (outer.map PyData.int), S ++ [Cell.l []]) = _
    rw [zipP]
  refine (sSeq_nx ((sFor_of zp).trans e)).trans ?_
  refine sRet_of (mCall_of (vs := [.c S.length]) rfl ?_)
  show cTuple [.c S.length] (S ++ [.l (rows.map itp)]) = _
  unfold cTuple
  simp only [itemsOf]
  rw [last_l]
  rfl
end Law

set_option synthInstance.maxHeartbeats 0
set_option synthInstance.maxSize 100000
namespace Law
open PySem PySem.Spec PyProof.Rows L2 DK DL DN
theorem iota_rng (a b : Int) : rangeD a (b - a).toNat = (iota a b).map .int := by
  unfold rangeD iota
  rw [List.map_map]
  rfl
theorem iota_mem {a b x : Int} (h : x ∈ iota a b) : a ≤ x ∧ x < b := by
  obtain ⟨i, hi, rfl⟩ := List.mem_map.mp h
  have := List.mem_range.mp hi
  omega
theorem iota_len (a b : Int) : (iota a b).length = (b - a).toNat := by
  unfold iota
  rw [List.length_map, List.length_range]
theorem rng2_of {m n : DL.M} {ρ : RE} {S S1 S2 : Sto} {i j : Int} (h : m ρ S = some (.d (.int i), S1)) (h2 : n ρ S1 = some (.d (.int j), S2)) (a : -1000000 ≤ i ∧ i ≤ 1000000 ∧ -1000000 ≤ j ∧ j ≤ 1000000) : mRng2 m n ρ S = some ((iota i j).map .int, S2) := by
  rw [mRng2_of h h2 a, iota_rng]
theorem rng1_of {m : DL.M} {ρ : RE} {S S1 : Sto} {j : Int} (h : m ρ S = some (.d (.int j), S1)) (h0 : 0 ≤ j) (h1 : j ≤ 1000000) : mRng1 m ρ S = some ((iota 0 j).map .int, S1) := by
  rw [mRng1_of h h0 h1, ← iota_rng, Int.sub_zero]
/-! columns -/
theorem gx_sum {tgt : TgD} {tt : MB} {te : DL.M} {ρ : RE} {S : Sto} {p : PyData → Bool} {f : PyData → Int} : ∀ xs : List PyData, (∀ x ∈ xs, ∃ ρ1, tgt x ρ = some ρ1 ∧ tt ρ1 S = some (p x, S) ∧ te ρ1 S = some (.d (.int (f x)), S)) → gxGo stopSum tgt tt te ρ xs S = some ((xs.filter p).map fun x => .int (f x), true, S)
  | [], _ => rfl
  | x :: xs, h => by
    obtain ⟨ρ1, e1, e2, e3⟩ := h x (by simp)
    have ih := gx_sum (tt := tt) (te := te) xs fun y hy => h y (List.mem_cons_of_mem _ hy)
    show (tgt x ρ).bind _ = _
    rw [e1]
    show (tt ρ1 S).bind _ = _
    rw [e2]
    cases hf : p x with
    | false =>
      rw [List.filter_cons, hf]
      exact ih
    | true =>
      rw [List.filter_cons, hf]
      show (te ρ1 S).bind _ = _
      rw [e3]
      show (gxGo stopSum tgt tt te ρ xs S).bind _ = _
      rw [ih]
      rfl
theorem sumG_of {mi : ML} {vs : List Nat} {tgt : TgD} {tt : MB} {te : DL.M} {ρ : RE} {S : Sto} {xs : List PyData} {p : PyData → Bool} {f : PyData → Int} (h1 : mi ρ S = some (xs, S)) (h2 : ∀ x ∈ xs, ∃ ρ1, tgt x (wipeR ρ vs) = some ρ1 ∧ tt ρ1 S = some (p x, S) ∧ te ρ1 S = some (.d (.int (f x)), S)) : mSumG mi vs tgt tt te ρ S = some (.d (.int (isum ((xs.filter p).map fun x => .int (f x)))), S) := by
  unfold mSumG
  rw [h1]
  show (gxGo stopSum tgt tt te (wipeR ρ vs) xs S).bind _ = _
  rw [gx_sum xs h2]
  rfl
theorem isum_ones {α : Type} : ∀ l : List α, isum (l.map fun _ => PyData.int 1) = (l.length : Nat)
  | [] => rfl
  | _ :: l => by
    show (1 : Int) + isum (l.map fun _ => PyData.int 1) = _
    rw [isum_ones l, List.length_cons]
    omega
theorem tupG_map {mi : ML} {vs : List Nat} {tgt : TgD} {te : DL.M} {ρ : RE} {S : Sto} {xs : List PyData} {f : PyData → PyData} (h1 : mi ρ S = some (xs, S)) (hl : xs.length ≤ 1000000) (h2 : ∀ x ∈ xs, ∃ ρ1, tgt x (wipeR ρ vs) = some ρ1 ∧ te ρ1 S = some (.d (f x), S)) : mTupG mi vs tgt bYes te ρ S = some (.d (.tuple (xs.map f)), S) := by
  have g := gx_fm (tgt := tgt) (tt := bYes) (te := te) (ρ := wipeR ρ vs) (S := S) (p := fun _ => true) (f := f) xs fun x hx => by
    obtain ⟨ρ1, a, b⟩ := h2 x hx
    exact ⟨ρ1, a, rfl, b⟩
  unfold mTupG
  rw [h1]
  show ((gxGo stopNo tgt bYes te (wipeR ρ vs) xs S).bind _) = _
  rw [g]
  show (if ((xs.filter fun _ => true).map f).length ≤ 1000000 then some (PV.d (.tuple ((xs.filter fun _ => true).map f)), S) else none) = _
  rw [List.filter_eq_self.mpr (fun _ _ => rfl), if_pos (by rw [List.length_map]; exact hl)]
def colsP (o : List Int) : List Int := match o with
  | [] => []
  | x :: _ => (iota 0 x).map (heightP o)
theorem columns_ok {o : List Int} (ho : ∀ x ∈ o, 0 ≤ x ∧ x ≤ 1000) (S : Sto) : F_columns [.d (itp o)] S = some (.d (itp (colsP o)), S) := by
  refine runF_of (ρ := [some (.d (itp o)), none, none]) rfl ?_ (Nat.le_refl _)
  unfold g_columns
  cases o with
  | nil => rfl
  | cons x r =>
    have x0 := ho x List.mem_cons_self
    refine (sSeq_nx (if_nx (show bNot (bTru (mVar 0)) [some (.d (itp (x :: r))), none, none] S = some (false, S) from rfl))).trans ?_
    refine sRet_of ?_
    have q := tupG_map (mi := mRng1 (mOp fIx (mVar 0) (mC (.int (0))))) (vs := [1]) (tgt := gN 1) (te := mSumG (mSeq (mVar 0)) [2] (gN 2) (asB (mOp fGt (mVar 2) (mVar 1))) (mC (.int (1)))) (ρ := [some (.d (itp (x :: r))), none, none]) (S := S) (xs := (iota 0 x).map .int) (f := fun d => match d with | .int c => .int (heightP (x :: r) c) | d => d) (rng1_of (j := x) (mOp_of (x := .d (itp (x :: r))) (y := .d (.int ((0 : Nat) : Int))) rfl rfl (fIx_row (i := 0) rfl S)) x0.1 (by omega)) (by rw [List.length_map, iota_len]; omega) fun y hy => by
      obtain ⟨c, _, rfl⟩ := List.mem_map.mp hy
      refine ⟨[some (.d (itp (x :: r))), some (.d (.int c)), none], rfl, ?_⟩
      refine (sumG_of (xs := (x :: r).map .int) (p := fun d => match d with | .int v => decide (v > c) | _ => false) (f := fun _ => 1) rfl fun y hy => ?_).trans ?_
      · obtain ⟨v, _, rfl⟩ := List.mem_map.mp hy
        exact ⟨[some (.d (itp (x :: r))), some (.d (.int c)), some (.d (.int v))], rfl, asB_of (mOp_of rfl rfl (fGt_int _ _ _)), rfl⟩
      · rw [isum_ones]
        show some (PV.d (.int (((List.map PyData.int (x :: r)).filter _).length : Nat)), S) = some (PV.d (.int (heightP (x :: r) c)), S)
        unfold heightP
        rw [List.filter_map, List.length_map]
        rfl
    rw [q, List.map_map]
    show _ = some (PV.d (.tuple (((iota 0 x).map (heightP (x :: r))).map .int)), S)
    rw [List.map_map]
    rfl
/-! boxes -/
theorem box_len : ∀ (r : Nat) (l : List (Int × Int)), (∀ p ∈ l, 0 ≤ p.1 ∧ p.2 ≤ 100) → (bxGo r l).length ≤ 100 * l.length
  | _, [], _ => Nat.le_refl _
  | r, p :: t, h => by
    have ih := box_len (r + 1) t fun q hq => h q (List.mem_cons_of_mem _ hq)
    have := h p List.mem_cons_self
    show (((iota p.1 p.2).map fun c => ((r : Int), c)) ++ bxGo (r + 1) t).length ≤ _
    rw [List.length_append, List.length_map, iota_len, List.length_cons]
    omega
theorem box_mem : ∀ (r : Nat) (l : List (Int × Int)), ∀ b ∈ bxGo r l, (r : Int) ≤ b.1 ∧ b.1 < (r : Int) + l.length ∧ ∃ p ∈ l, p.1 ≤ b.2 ∧ b.2 < p.2
  | _, [], b, h => nomatch h
  | r, p :: t, b, h => by
    rcases List.mem_append.mp (show b ∈ ((iota p.1 p.2).map fun c => ((r : Int), c)) ++ bxGo (r + 1) t from h) with h | h
    · obtain ⟨c, hc, rfl⟩ := List.mem_map.mp h
      have := iota_mem hc
      exact ⟨Int.le_refl _, by rw [List.length_cons]; show (r : Int) < _; omega, p, List.mem_cons_self, this⟩
    · obtain ⟨a, b', q, hq, c⟩ := box_mem (r + 1) t b h
      exact ⟨by omega, by rw [List.length_cons]; omega, q, List.mem_cons_of_mem _ hq, c⟩
theorem box_nd : ∀ (r : Nat) (l : List (Int × Int)), (bxGo r l).Nodup
  | _, [] => List.nodup_nil
  | r, p :: t => by
    show (((iota p.1 p.2).map fun c => ((r : Int), c)) ++ bxGo (r + 1) t).Nodup
    refine List.nodup_append.mpr ⟨?_, box_nd (r + 1) t, fun x hx y hy e => ?_⟩
    · unfold iota
      refine List.pairwise_map.mpr (List.pairwise_map.mpr (List.Pairwise.imp (fun {a b} h e => ?_) List.nodup_range))
      have e : p.1 + (a : Int) = p.1 + (b : Int) := (Prod.mk.inj e).2
      omega
    · obtain ⟨c, _, rfl⟩ := List.mem_map.mp hx
      have := (box_mem (r + 1) t y hy).1
      rw [← e] at this
      have : ((r + 1 : Nat) : Int) ≤ (r : Int) := this
      omega
def rowH (o : List Int) : PyData → List PyData
  | .tuple [.int r, .int s] => (iota s (o.getD r.toNat 0)).map fun c => prP (r, c)
  | _ => []
theorem box_fm (o : List Int) : ∀ (pre s os : List Int), o = pre ++ os → s.length = os.length → (enumD pre.length (s.map .int)).flatMap (rowH o) = (bxGo pre.length (s.zip os)).map prP
  | _, [], [], _, _ => rfl
  | _, [], _ :: _, _, h => nomatch h
  | _, _ :: _, [], _, h => nomatch h
  | pre, x :: s, y :: os, e, h => by
    have ih := box_fm o (pre ++ [y]) s os (by rw [e]; simp) (by simpa using h)
    rw [List.length_append, List.length_singleton] at ih
    show rowH o (.tuple [.int (pre.length : Nat), .int x]) ++ (enumD (pre.length + 1) (s.map .int)).flatMap (rowH o) = (((iota x y).map fun c => ((pre.length : Int), c)) ++ bxGo (pre.length + 1) (s.zip os)).map prP
    rw [ih, List.map_append, List.map_map]
    congr 1
    show (iota x (o.getD ((pre.length : Nat) : Int).toNat 0)).map _ = _
    rw [Int.toNat_natCast, e, List.getD_eq_getElem?_getD, List.getElem?_append_right (Nat.le_refl _), Nat.sub_self]
    rfl
/-! the numbers of the boxes -/
def numE : Nat → List (Int × Int) → List (PyData × PyData)
  | _, [] => []
  | k, b :: r => (prP b, .int (k : Nat)) :: numE (k + 1) r
theorem prP_itp (b : Int × Int) : prP b = itp [b.1, b.2] := rfl
theorem sameD_pr (a b : Int × Int) : sameD (prP a) (prP b) = decide (a = b) := by
  rw [prP_itp, prP_itp, sameD_itp]
  obtain ⟨a1, a2⟩ := a
  obtain ⟨b1, b2⟩ := b
  simp
theorem num_get (b : Int × Int) : ∀ (k : Nat) (l : List (Int × Int)), dgetD (numE k l) (prP b) = (idxGo b k l).map .int
  | _, [] => rfl
  | k, x :: r => by
    have ih := num_get b (k + 1) r
    unfold dgetD at ih ⊢
    show (List.find? _ ((prP x, PyData.int (k : Nat)) :: numE (k + 1) r)).map _ = _
    rw [List.find?_cons]
    show ((match sameD (prP x) (prP b) with | true => _ | false => _) : Option (PyData × PyData)).map _ = _
    rw [sameD_pr]
    unfold idxGo
    by_cases h : x = b
    · simp [h]
    · simp only [h, decide_false, if_false]
      exact ih
theorem idx_none (b : Int × Int) : ∀ (k : Nat) (l : List (Int × Int)), b ∉ l → idxGo b k l = none
  | _, [], _ => rfl
  | k, x :: r, h => by
    rw [List.mem_cons, not_or] at h
    unfold idxGo
    rw [if_neg fun e => h.1 e.symm]
    exact idx_none b (k + 1) r h.2
theorem num_app : ∀ (k : Nat) (a b : List (Int × Int)), numE k (a ++ b) = numE k a ++ numE (k + a.length) b
  | _, [], _ => rfl
  | k, x :: a, b => by
    show (prP x, PyData.int (k : Nat)) :: numE (k + 1) (a ++ b) = _
    rw [num_app (k + 1) a b, List.length_cons, show k + 1 + a.length = k + (a.length + 1) by omega]
    rfl
theorem num_len : ∀ (k : Nat) (l : List (Int × Int)), (numE k l).length = l.length
  | _, [] => rfl
  | k, _ :: r => by
    show (numE (k + 1) r).length + 1 = _
    rw [num_len (k + 1) r, List.length_cons]
abbrev tyR (x0 x1 x2 x3 x4 x5 x6 x7 x8 : Option PV) : RE := [x0, x1, x2, x3, x4, x5, x6, x7, x8]
theorem num_go {x0 x1 x2 x3 x4 x5 x6 : Option PV} {A : Sto} : ∀ (bs done : List (Int × Int)), (done ++ bs).Nodup → (done ++ bs).length ≤ 900000 →
    dcGo A.length (gT 2 (gCs (gN 7) (gCs (gN 8) gNs))) bYes (mVar 8) (mVar 7) (tyR x0 x1 x2 x3 x4 x5 x6 none none) (enumD done.length (bs.map prP)) (A ++ [.d (numE 0 done)]) = some (A ++ [.d (numE 0 (done ++ bs))])
  | [], done, _, _ => by
    rw [List.append_nil]
    rfl
  | b :: bs, done, hn, hl => by
    have ih := num_go (x0 := x0) (x1 := x1) (x2 := x2) (x3 := x3) (x4 := x4) (x5 := x5) (x6 := x6) (A := A) bs (done ++ [b]) (by rw [List.append_assoc]; exact hn) (by rw [List.append_assoc]; exact hl)
    rw [List.length_append, List.length_singleton, List.append_assoc] at ih
    have nb : b ∉ done := fun h => (List.nodup_append.mp hn).2.2 b h b List.mem_cons_self rfl
    obtain ⟨k, ek⟩ := key_row (s := [b.1, b.2])
    have ek : keyOk (prP b) = some k := ek
    have dp : dputAt A.length (prP b) (.int (done.length : Nat)) (A ++ [.d (numE 0 done)]) = some (A ++ [.d (numE 0 (done ++ [b]))]) := by
      unfold dputAt
      rw [dAtW_d (last_get A _), Option.bind_some, ek, Option.bind_some, num_len, if_pos (by rw [List.length_append] at hl; omega), last_set]
      unfold dputD
      rw [num_get, idx_none b 0 done nb, num_app, Nat.zero_add]
      rfl
    show ((dputAt A.length (prP b) (.int (done.length : Nat)) (A ++ [.d (numE 0 done)])).bind fun S' => dcGo A.length (gT 2 (gCs (gN 7) (gCs (gN 8) gNs))) bYes (mVar 8) (mVar 7) (tyR x0 x1 x2 x3 x4 x5 x6 none none) (enumD (done.length + 1) (bs.map prP)) S') = _
    rw [dp]
    exact ih
theorem num_ok {x0 x1 x3 x4 x5 x6 x7 x8 : Option PV} {bs : List (Int × Int)} (hn : bs.Nodup) (hl : bs.length ≤ 900000) (S : Sto) :
    sDc 3 (mEnum (mCons (mVar 2) mNil)) [7, 8] (gT 2 (gCs (gN 7) (gCs (gN 8) gNs))) bYes (mVar 8) (mVar 7) (tyR x0 x1 (some (.d (.list (bs.map prP)))) x3 x4 x5 x6 x7 x8) S = some (.nx (tyR x0 x1 (some (.d (.list (bs.map prP)))) (some (.c S.length)) x4 x5 x6 x7 x8) (S ++ [.d (numE 0 bs)])) := by
  have e := num_go (x0 := x0) (x1 := x1) (x2 := some (.d (.list (bs.map prP)))) (x3 := x3) (x4 := x4) (x5 := x5) (x6 := x6) (A := S) bs [] hn hl
  unfold sDc
  show ((dcGo S.length (gT 2 (gCs (gN 7) (gCs (gN 8) gNs))) bYes (mVar 8) (mVar 7) (tyR x0 x1 (some (.d (.list (bs.map prP)))) x3 x4 x5 x6 none none) (enumD 0 (bs.map prP)) (S ++ [.d []])).bind _) = _
  rw [show dcGo S.length (gT 2 (gCs (gN 7) (gCs (gN 8) gNs))) bYes (mVar 8) (mVar 7) (tyR x0 x1 (some (.d (.list (bs.map prP)))) x3 x4 x5 x6 none none) (enumD 0 (bs.map prP)) (S ++ [.d []]) = _ from e]
  rfl
theorem get1_num {i n : Nat} {mk : DL.M} {bs : List (Int × Int)} {b : Int × Int} {ρ : RE} {S : Sto} (h1 : ρ[i]? = some (some (.c n))) (h2 : mk ρ S = some (.d (prP b), S)) (hj : dAt S n = some (numE 0 bs)) : mDGet1 (mVar i) mk ρ S = some (.d (match idxGo b 0 bs with | none => .none | some k => .int k), S) := by
  obtain ⟨k, ek⟩ := key_row (s := [b.1, b.2])
  have ek : keyOk (prP b) = some k := ek
  unfold mDGet1
  rw [var_of h1]
  show (mk ρ S).bind _ = _
  rw [h2]
  show (if (dAt S n).isSome = true then (dAt S n).bind fun kvs => (keyOk (prP b)).map fun _ => (PV.d ((dgetD kvs (prP b)).getD .none), S) else none) = _
  rw [hj, ek]
  show some (PV.d ((dgetD (numE 0 bs) (prP b)).getD .none), S) = _
  rw [num_get]
  cases idxGo b 0 bs <;> rfl
end Law

set_option synthInstance.maxHeartbeats 0
set_option synthInstance.maxSize 100000
namespace Law
open PySem PySem.Spec PyProof.Rows L2 DK DL DN
/-- the skew shapes that are asked -/
structure Sk9 (o i : List Int) : Prop where
  dn : o.Pairwise (· ≥ ·)
  ob : ∀ x ∈ o, 1 ≤ x ∧ x ≤ 9
  hi : o.length ≤ 9
  le : i.length ≤ o.length
  ib : ∀ x ∈ i, 0 ≤ x ∧ x ≤ 9
theorem Sk9.stl {o i : List Int} (h : Sk9 o i) : (startsW o i).length = o.length := by
  unfold startsW
  rw [List.length_append, List.length_replicate]
  have := h.le
  omega
theorem Sk9.stb {o i : List Int} (h : Sk9 o i) : ∀ x ∈ startsW o i, 0 ≤ x ∧ x ≤ 9 := fun x hx => by
  rcases List.mem_append.mp hx with hx | hx
  · exact h.ib x hx
  · rw [(List.mem_replicate.mp hx).2]
    decide
theorem zip_mem {a b : List Int} {p : Int × Int} (h : p ∈ a.zip b) : p.1 ∈ a ∧ p.2 ∈ b := by
  obtain ⟨x, y⟩ := p
  exact List.of_mem_zip h
theorem Sk9.few {o i : List Int} (h : Sk9 o i) : (boxesP o i).length ≤ 900 := by
  have := box_len 0 ((startsW o i).zip o) fun p hp => ⟨(h.stb _ (zip_mem hp).1).1, by have := h.ob _ (zip_mem hp).2; omega⟩
  have l : ((startsW o i).zip o).length ≤ 9 := by
    have := h.hi
    rw [List.length_zip]
    omega
  unfold boxesP
  omega
theorem boxes_ok {o i : List Int} (h : Sk9 o i) {x1 x2 x3 x7 x8 : Option PV} (S : Sto) :
    mLc2 (mEnum (mCons (mFn 1 F_row_starts (mCons (mVar 0) mNil)) mNil)) [4, 5, 6] (gT 2 (gCs (gN 4) (gCs (gN 5) gNs))) bYes (mRng2 (mVar 5) (mOp fIx (mOp fIx (mVar 0) (mC (.int (0)))) (mVar 4))) [6] (gN 6) bYes (mTup (mCons (mVar 4) (mCons (mVar 6) mNil))) (tyR (some (.d (skD o i))) x1 x2 x3 none none none x7 x8) S = some ((boxesP o i).map prP, S) := by
  have fm := box_fm o [] (startsW o i) o rfl h.stl
  have en : mEnum (mCons (mFn 1 F_row_starts (mCons (mVar 0) mNil)) mNil) (tyR (some (.d (skD o i))) x1 x2 x3 none none none x7 x8) S = some (enumD 0 ((startsW o i).map .int), S) := by
    unfold mEnum
    rw [mCons_of (v := .d (itp (startsW o i))) (vs := []) (mFn_of (n := 1) rfl rfl (starts_ok h.le (by have := h.hi; omega) S)) rfl]
    rfl
  have q := mLc2_fm (vs := [4, 5, 6]) (tgt := gT 2 (gCs (gN 4) (gCs (gN 5) gNs))) (tgt1 := gN 6) (tt := bYes) (tt1 := bYes) (mi1 := mRng2 (mVar 5) (mOp fIx (mOp fIx (mVar 0) (mC (.int (0)))) (mVar 4))) (vs1 := [6]) (te := mTup (mCons (mVar 4) (mCons (mVar 6) mNil))) (h := rowH o) en (by
      rw [show enumD 0 ((startsW o i).map .int) = enumD ([] : List Int).length ((startsW o i).map .int) from rfl, fm, List.length_map]
      have := h.few
      exact Nat.le_trans this (by decide)) fun x hx => by
    obtain ⟨k, hk⟩ := List.getElem?_of_mem hx
    obtain ⟨a, ha, rfl⟩ := enumD_get hk
    rw [Nat.zero_add] at *
    rw [List.getElem?_map] at ha
    obtain ⟨s, hs, rfl⟩ := Option.map_eq_some_iff.mp ha
    have hkl : k < o.length := by
      rw [← h.stl]
      exact (List.getElem?_eq_some_iff.mp hs).1
    have hs9 := h.stb s (List.mem_of_getElem? hs)
    have ok : o[k]? = some (o.getD k 0) := by rw [List.getD_eq_getElem?_getD, List.getElem?_eq_getElem hkl]; rfl
    have ob := h.ob _ (List.mem_of_getElem? ok)
    refine ⟨tyR (some (.d (skD o i))) x1 x2 x3 (some (.d (.int (k : Nat)))) (some (.d (.int s))) none x7 x8, (iota s (o.getD k 0)).map .int, fun d => match d with | .int c => prP ((k : Int), c) | d => d, rfl, ?_, fun E => ⟨rfl, ?_⟩, fun y hy => ?_⟩
    · show (iota s (o.getD ((k : Nat) : Int).toNat 0)).map _ = _
      rw [Int.toNat_natCast, List.map_map]
      rfl
    · exact rng2_of (i := s) (j := o.getD k 0) rfl (mOp_of (x := .d (itp o)) (y := .d (.int (k : Nat))) rfl rfl (fIx_row ok _)) (by omega)
    · obtain ⟨c, _, rfl⟩ := List.mem_map.mp hy
      exact ⟨tyR (some (.d (skD o i))) x1 x2 x3 (some (.d (.int (k : Nat)))) (some (.d (.int s))) (some (.d (.int c))) x7 x8, rfl, fun E => ⟨rfl, mTup_of (vs := [.d (.int (k : Nat)), .d (.int c)]) rfl rfl (by show 2 ≤ 1000; decide)⟩⟩
  rw [q, show enumD 0 ((startsW o i).map .int) = enumD ([] : List Int).length ((startsW o i).map .int) from rfl, fm]
  rfl
def tieD : Option Int → PyData
  | none => .none
  | some k => .int k
def tieT (t : Tie3) : PyData := .tuple [tieD t.1, tieD t.2.1, .int t.2.2]
theorem get1_tie {i n : Nat} {mk : DL.M} {bs : List (Int × Int)} {b : Int × Int} {ρ : RE} {S : Sto} (h1 : ρ[i]? = some (some (.c n))) (h2 : mk ρ S = some (.d (prP b), S)) (hj : dAt S n = some (numE 0 bs)) : mDGet1 (mVar i) mk ρ S = some (.d (tieD (idxGo b 0 bs)), S) := by
  rw [get1_num h1 h2 hj]
  cases idxGo b 0 bs <;> rfl
theorem dn_head {x : Int} {r : List Int} (h : (x :: r).Pairwise (· ≥ ·)) : ∀ y ∈ x :: r, y ≤ x := fun y hy => by
  rcases List.mem_cons.mp hy with rfl | hy
  · exact Int.le_refl _
  · exact (List.pairwise_cons.mp h).1 y hy
theorem col_at {o : List Int} (h : o.Pairwise (· ≥ ·)) {y c : Int} (hy : y ∈ o) (c0 : 0 ≤ c) (c1 : c < y) : (colsP o)[c.toNat]? = some (heightP o c) := by
  cases o with
  | nil => cases hy
  | cons x r =>
    have := dn_head h y hy
    show ((iota 0 x).map (heightP (x :: r)))[c.toNat]? = _
    unfold iota
    rw [List.getElem?_map, List.getElem?_map, List.getElem?_range (by omega)]
    show some (heightP (x :: r) (0 + ((c.toNat : Nat) : Int))) = _
    rw [show (0 : Int) + ((c.toNat : Nat) : Int) = c by omega]
theorem ties_ok {o i : List Int} (h : Sk9 o i) (S : Sto) : F_ties_of [.d (skD o i)] S = some (.d (.list ((tiesP o i).map tieT)), S) := by
  refine runF_cut (S' := S) (ρ := tyR (some (.d (skD o i))) none none none none none none none none) (E := [.d (numE 0 (boxesP o i))]) rfl ?_ rfl
  unfold g_ties_of
  have s1 : sSet 1 (mFn 1 F_columns (mCons (mOp fIx (mVar 0) (mC (.int (0)))) mNil)) (tyR (some (.d (skD o i))) none none none none none none none none) S = some (.nx (tyR (some (.d (skD o i))) (some (.d (itp (colsP o)))) none none none none none none none) S) :=
    sSet_of (mFn_of (n := 1) (vs := [.d (itp o)]) rfl rfl (columns_ok (fun x hx => by have := h.ob x hx; omega) S))
  refine (sSeq_nx s1).trans ?_
  refine (sSeq_nx (sSet_of (mFz_of (boxes_ok h S)))).trans ?_
  refine (sSeq_nx (num_ok (x0 := some (.d (skD o i))) (x1 := some (.d (itp (colsP o)))) (box_nd 0 _) (Nat.le_trans h.few (by decide)) S)).trans ?_
  have lc := mLc_fm (mi := mSeq (mVar 2)) (vs := [4, 6]) (tgt := gT 2 (gCs (gN 4) (gCs (gN 6) gNs))) (tt := bYes) (te := mTup (mCons (mDGet1 (mVar 3) (mTup (mCons (mVar 4) (mCons (mOp fSub (mVar 6) (mC (.int (1)))) mNil)))) (mCons (mDGet1 (mVar 3) (mTup (mCons (mOp fSub (mVar 4) (mC (.int (1)))) (mCons (mVar 6) mNil)))) (mCons (mOp fSub (mOp fSub (mOp fIx (mVar 1) (mVar 6)) (mC (.int (1)))) (mVar 4)) mNil))))
    (ρ := tyR (some (.d (skD o i))) (some (.d (itp (colsP o)))) (some (.d (.list ((boxesP o i).map prP)))) (some (.c S.length)) none none none none none) (S := S ++ [.d (numE 0 (boxesP o i))]) (S1 := S ++ [.d (numE 0 (boxesP o i))]) (xs := (boxesP o i).map prP) (p := fun _ => true)
    (f := fun d => match d with | .tuple [.int r, .int c] => tieT (idxGo (r, c - 1) 0 (boxesP o i), idxGo (r - 1, c) 0 (boxesP o i), heightP o c - 1 - r) | d => d) (mSeq_list rfl) (by rw [List.length_map]; exact Nat.le_trans h.few (by decide)) fun x hx => by
      obtain ⟨b, hb, rfl⟩ := List.mem_map.mp hx
      obtain ⟨r, c⟩ := b
      obtain ⟨_, _, p, hp, c0, c1⟩ := box_mem 0 ((startsW o i).zip o) _ hb
      have z := zip_mem hp
      have p0 := h.stb _ z.1
      have ca := col_at h.dn z.2 (c := c) (by have : p.1 ≤ c := c0; omega) c1
      have ct : ((c.toNat : Nat) : Int) = c := by have : p.1 ≤ c := c0; omega
      refine ⟨tyR (some (.d (skD o i))) (some (.d (itp (colsP o)))) (some (.d (.list ((boxesP o i).map prP)))) (some (.c S.length)) (some (.d (.int r))) none (some (.d (.int c))) none none, rfl, fun E => ⟨rfl, ?_⟩⟩
      have hd : dAt (S ++ [Cell.d (numE 0 (boxesP o i))] ++ [Cell.l E]) S.length = some (numE 0 (boxesP o i)) := dAt_d (by
        rw [List.append_assoc, List.getElem?_append_right (Nat.le_refl _), Nat.sub_self]
        rfl)
      have e1 := get1_tie (i := 3) (n := S.length) (mk := mTup (mCons (mVar 4) (mCons (mOp fSub (mVar 6) (mC (.int (1)))) mNil))) (bs := boxesP o i) (b := (r, c - 1)) (ρ := tyR (some (.d (skD o i))) (some (.d (itp (colsP o)))) (some (.d (.list ((boxesP o i).map prP)))) (some (.c S.length)) (some (.d (.int r))) none (some (.d (.int c))) none none) (S := S ++ [Cell.d (numE 0 (boxesP o i))] ++ [Cell.l E]) rfl (mTup_of (vs := [.d (.int r), .d (.int (c - 1))]) rfl rfl (by show 2 ≤ 1000; decide)) hd
      have e2 := get1_tie (i := 3) (n := S.length) (mk := mTup (mCons (mOp fSub (mVar 4) (mC (.int (1)))) (mCons (mVar 6) mNil))) (bs := boxesP o i) (b := (r - 1, c)) (ρ := tyR (some (.d (skD o i))) (some (.d (itp (colsP o)))) (some (.d (.list ((boxesP o i).map prP)))) (some (.c S.length)) (some (.d (.int r))) none (some (.d (.int c))) none none) (S := S ++ [Cell.d (numE 0 (boxesP o i))] ++ [Cell.l E]) rfl (mTup_of (vs := [.d (.int (r - 1)), .d (.int c)]) rfl rfl (by show 2 ≤ 1000; decide)) hd
      have e3 : mOp fSub (mOp fSub (mOp fIx (mVar 1) (mVar 6)) (mC (.int (1)))) (mVar 4) (tyR (some (.d (skD o i))) (some (.d (itp (colsP o)))) (some (.d (.list ((boxesP o i).map prP)))) (some (.c S.length)) (some (.d (.int r))) none (some (.d (.int c))) none none) (S ++ [Cell.d (numE 0 (boxesP o i))] ++ [Cell.l E]) = some (.d (.int (heightP o c - 1 - r)), S ++ [Cell.d (numE 0 (boxesP o i))] ++ [Cell.l E]) := by
        exact mOp_of (x := .d (.int (heightP o c - 1))) (mOp_of (x := .d (.int (heightP o c))) (mOp_of (x := .d (itp (colsP o))) (y := .d (.int ((c.toNat : Nat) : Int))) rfl (by rw [ct]; rfl) (fIx_row ca _)) rfl rfl) rfl rfl
      exact mTup_of (vs := [.d (tieD _), .d (tieD _), .d (.int _)]) (mCons_of e1 (mCons_of e2 (mCons_of e3 rfl))) rfl (by show 3 ≤ 1000; decide)
  rw [List.filter_eq_self.mpr (fun _ _ => rfl)] at lc
  refine sRet_of (mFz_of (lc.trans ?_))
  unfold tiesP
  rw [List.map_map, List.map_map]
  rfl
end Law

set_option synthInstance.maxHeartbeats 0
set_option synthInstance.maxSize 100000
namespace Law
open PySem PySem.Spec PyProof.Rows L2 DK DL DN
theorem sRetL_of {m : ML} {ρ : RE} {S S1 : Sto} {ds : List PyData} (h : m ρ S = some (ds, S1)) : sRetL m ρ S = some (.rl ds S1) := by
  unfold sRetL
  rw [h]
  rfl
theorem runL_of {N : Nat} {g : MS} {ps : List PV} {ρ : RE} {S : Sto} {ds : List PyData} (he : ps.map some ++ List.replicate (N - ps.length) none = ρ) (h : g ρ S = some (.rl ds S)) : runL N g ps S = some (ds, S) := by
  unfold runL
  rw [he, h]
  show some (ds, S.take S.length) = _
  rw [List.take_length]
theorem fMax_int (a b : Int) (S : Sto) : cMax [.d (.int a), .d (.int b)] S = some (.d (.int (max a b))) := by
  show some (PV.d (.int (if b > a then b else a))) = _
  congr 3
  show _ = max a b
  rw [Int.max_def]
  split <;> split <;> omega
theorem id_ok {n : Nat} {t : Option Int} (h : idOk n t = true) : ∀ k, t = some k → 0 ≤ k ∧ k < (n : Int) := fun k e => by
  subst e
  unfold idOk at h
  rw [Bool.and_eq_true] at h
  exact ⟨of_decide_eq_true h.1, of_decide_eq_true h.2⟩
theorem at_ix {w : List Int} {k : Int} (h0 : 0 ≤ k) (h1 : k < (w.length : Int)) (S : Sto) : fIx (.d (itp w)) (.d (.int k)) S = some (.d (.int (w.getD k.toNat 0))) := by
  obtain ⟨n, rfl⟩ : ∃ n : Nat, k = (n : Int) := ⟨k.toNat, by omega⟩
  have hn : n < w.length := by omega
  rw [Int.toNat_natCast, List.getD_eq_getElem?_getD, List.getElem?_eq_getElem hn]
  exact fIx_row (List.getElem?_eq_getElem hn) S
theorem at_bd {w : List Int} {b : Int} (hb : 0 ≤ b) (h : ∀ x ∈ w, 0 ≤ x ∧ x ≤ b) (k : Nat) : 0 ≤ w.getD k 0 ∧ w.getD k 0 ≤ b := by
  rw [List.getD_eq_getElem?_getD]
  cases e : w[k]? with
  | none => exact ⟨Int.le_refl _, hb⟩
  | some x => exact h x (List.mem_of_getElem? e)
theorem least_bd {w : List Int} {t : Tie3} (h : ∀ x ∈ w, 0 ≤ x ∧ x ≤ 100) : 0 ≤ leastP w t ∧ leastP w t ≤ 101 := by
  have g := at_bd (b := 100) (by decide) h
  unfold leastP
  split
  · exact ⟨by decide, by decide⟩
  · rename_i l _ _
    have := g l.toNat
    omega
  · rename_i a _ _
    have := g a.toNat
    rw [Int.max_def]
    split <;> omega
  · rename_i l a _ _
    have := g l.toNat
    have := g a.toNat
    rw [Int.max_def]
    split <;> omega
theorem fit_ok {n : Nat} {w : List Int} {t : Tie3} (hn : w.length = n) (h : ∀ x ∈ w, 0 ≤ x ∧ x ≤ 100) (t1 : idOk n t.1 = true) (t2 : idOk n t.2.1 = true) {e : Int} (he : -1000 ≤ e ∧ e ≤ 1000) (S : Sto) :
    F_fitting [.d (itp w), .d (tieD t.1), .d (tieD t.2.1), .d (.int e)] S = some (.d (.list ((iota (leastP w t) e).map .int)), S) := by
  obtain ⟨l, a, low⟩ := t
  have lb := least_bd (t := (l, a, low)) h
  refine runF_of (ρ := [some (.d (itp w)), some (.d (tieD l)), some (.d (tieD a)), some (.d (.int e)), none]) rfl ?_ (Nat.le_refl _)
  unfold g_fitting
  cases l with
  | none =>
    refine (sSeq_nx (show sSet 4 _ _ S = some (.nx [some (.d (itp w)), some (.d .none), some (.d (tieD a)), some (.d (.int e)), some (.d (.int 0))] S) from rfl)).trans ?_
    cases a with
    | none =>
      refine (sSeq_nx (if_nx (show asB (mOp (fIsN true) (mVar 2) (mC .none)) _ S = some (false, S) from rfl))).trans ?_
      exact sRet_of (mFz_of (rng2_of (i := 0) rfl rfl (by omega)))
    | some k =>
      have hk := id_ok t2 k rfl
      have g := at_ix (w := w) hk.1 (by omega) S
      refine (sSeq_nx ((sIf_t (show asB (mOp (fIsN true) (mVar 2) (mC .none)) _ S = some (true, S) from rfl)).trans (sSet_of (v := .d (.int (max 0 (w.getD k.toNat 0 + 1)))) (mCall_of (vs := [.d (.int 0), .d (.int (w.getD k.toNat 0 + 1))]) (mCons_of rfl (mCons_of (mOp_of (x := .d (.int (w.getD k.toNat 0))) (mOp_of (x := .d (itp w)) (y := .d (.int k)) rfl rfl g) rfl rfl) rfl)) (fMax_int _ _ _))))).trans ?_
      refine sRet_of (mFz_of (rng2_of (i := max 0 (w.getD k.toNat 0 + 1)) rfl rfl ?_))
      have : 0 ≤ max 0 (w.getD k.toNat 0 + 1) ∧ max 0 (w.getD k.toNat 0 + 1) ≤ 101 := lb
      omega
  | some j =>
    have hj := id_ok t1 j rfl
    have gj := at_ix (w := w) hj.1 (by omega) S
    refine (sSeq_nx (sSet_of (v := .d (.int (w.getD j.toNat 0))) ((mIf_f (show asB (mOp (fIsN false) (mVar 1) (mC .none)) _ S = some (false, S) from rfl)).trans (mOp_of (x := .d (itp w)) (y := .d (.int j)) rfl rfl gj)))).trans ?_
    cases a with
    | none =>
      refine (sSeq_nx (if_nx (show asB (mOp (fIsN true) (mVar 2) (mC .none)) _ S = some (false, S) from rfl))).trans ?_
      refine sRet_of (mFz_of (rng2_of (i := w.getD j.toNat 0) rfl rfl ?_))
      have : 0 ≤ w.getD j.toNat 0 ∧ w.getD j.toNat 0 ≤ 101 := lb
      omega
    | some k =>
      have hk := id_ok t2 k rfl
      have g := at_ix (w := w) hk.1 (by omega) S
      refine (sSeq_nx ((sIf_t (show asB (mOp (fIsN true) (mVar 2) (mC .none)) _ S = some (true, S) from rfl)).trans (sSet_of (v := .d (.int (max (w.getD j.toNat 0) (w.getD k.toNat 0 + 1)))) (mCall_of (vs := [.d (.int (w.getD j.toNat 0)), .d (.int (w.getD k.toNat 0 + 1))]) (mCons_of rfl (mCons_of (mOp_of (x := .d (.int (w.getD k.toNat 0))) (mOp_of (x := .d (itp w)) (y := .d (.int k)) rfl rfl g) rfl rfl) rfl)) (fMax_int _ _ _))))).trans ?_
      refine sRet_of (mFz_of (rng2_of (i := max (w.getD j.toNat 0) (w.getD k.toNat 0 + 1)) rfl rfl ?_))
      have : 0 ≤ max (w.getD j.toNat 0) (w.getD k.toNat 0 + 1) ∧ max (w.getD j.toNat 0) (w.getD k.toNat 0 + 1) ≤ 101 := lb
      omega
/-! ### all words -/
structure WsOk (n m : Nat) (ws : List (List Int)) : Prop where
  word : ∀ w ∈ ws, w.length = n ∧ ∀ x ∈ w, 0 ≤ x ∧ x ≤ 100
  few : ws.length ≤ m
theorem flat_le {α β : Type} {f : α → List β} {c : Nat} : ∀ {l : List α}, (∀ x ∈ l, (f x).length ≤ c) → (l.flatMap f).length ≤ l.length * c
  | [], _ => by simp
  | x :: l, h => by
    have ih := flat_le (l := l) fun y hy => h y (List.mem_cons_of_mem _ hy)
    have := h x List.mem_cons_self
    rw [List.flatMap_cons, List.length_append, List.length_cons, Nat.succ_mul]
    omega
theorem grow_ok {n m N : Nat} {ws : List (List Int)} {t : Tie3} (h : WsOk n m ws) (hN : N ≤ 100) (t3 : 0 ≤ t.2.2) : WsOk (n + 1) (m * N) (growP (N : Int) t ws) := by
  refine ⟨fun w hw => ?_, ?_⟩
  · obtain ⟨v, hv, hw⟩ := List.mem_flatMap.mp hw
    obtain ⟨l, hl, rfl⟩ := List.mem_map.mp hw
    obtain ⟨a, b⟩ := h.word v hv
    have lb := least_bd (t := t) b
    have := iota_mem hl
    refine ⟨by rw [List.length_append, a]; rfl, fun x hx => ?_⟩
    rcases List.mem_append.mp hx with hx | hx
    · exact b x hx
    · rw [List.mem_singleton.mp hx]
      omega
  · refine Nat.le_trans (flat_le (c := N) fun w hw => ?_) (Nat.mul_le_mul_right _ h.few)
    have lb := least_bd (t := t) (h.word w hw).2
    rw [List.length_map, iota_len]
    omega
abbrev grB : MS := (sSet 3 (mFz (mLc2 (mSeq (mVar 3)) [7, 8] (gN 7) bYes (mSeq (mFn 4 F_fitting (mCons (mVar 7) (mCons (mVar 4) (mCons (mVar 5) (mCons (mOp fSub (mVar 1) (mVar 6)) mNil)))))) [8] (gN 8) bYes (mOp fAdd (mVar 7) (mTup (mCons (mVar 8) mNil))))))
abbrev flB : MS := sSeq grB (sIf (bAnd (asB (mOp (fIsN true) (mVar 2) (mC .none))) (asB (mOp fGt (mCall cLen (mCons (mVar 3) mNil)) (mVar 2)))) sNever sNil)
abbrev grR (x0 : Option PV) (N : Nat) (ws : List (List Int)) (x4 x5 x6 : Option PV) : RE := [x0, some (.d (.int (N : Nat))), some (.d (.int 1000)), some (.d (.list (ws.map itp))), x4, x5, x6, none, none]
theorem gr_step {x0 : Option PV} {n m N : Nat} {ws : List (List Int)} {t : Tie3} (h : WsOk n m ws) (hn : n ≤ 900) (hN : N ≤ 100) (hm : m * N ≤ 1000) (t1 : idOk n t.1 = true) (t2 : idOk n t.2.1 = true) (t3 : 0 ≤ t.2.2 ∧ t.2.2 ≤ 100) (S : Sto) :
    flB (grR x0 N ws (some (.d (tieD t.1))) (some (.d (tieD t.2.1))) (some (.d (.int t.2.2)))) S = some (.nx (grR x0 N (growP (N : Int) t ws) (some (.d (tieD t.1))) (some (.d (tieD t.2.1))) (some (.d (.int t.2.2)))) S) := by
  have G := grow_ok (N := N) (t := t) h hN t3.1
  have fm : ((ws.map itp).flatMap fun d => ((iota (leastP (rowD d) t) ((N : Int) - t.2.2)).map fun l => rowD d ++ [l]).map itp) = (growP (N : Int) t ws).map itp := by
    unfold growP
    rw [List.map_flatMap, List.flatMap_map]
    congr 1
    funext w
    rw [rowD_itp]
  have lc := mLc2_fm (mi := mSeq (mVar 3)) (vs := [7, 8]) (tgt := gN 7) (tt := bYes) (mi1 := mSeq (mFn 4 F_fitting (mCons (mVar 7) (mCons (mVar 4) (mCons (mVar 5) (mCons (mOp fSub (mVar 1) (mVar 6)) mNil)))))) (vs1 := [8]) (tgt1 := gN 8) (tt1 := bYes) (te := mOp fAdd (mVar 7) (mTup (mCons (mVar 8) mNil))) (ρ := grR x0 N ws (some (.d (tieD t.1))) (some (.d (tieD t.2.1))) (some (.d (.int t.2.2)))) (S := S) (S1 := S) (xs := ws.map itp) (h := fun d => ((iota (leastP (rowD d) t) ((N : Int) - t.2.2)).map fun l => rowD d ++ [l]).map itp) (mSeq_list rfl) (by
      rw [fm, List.length_map]
      exact Nat.le_trans G.few (by omega)) fun x hx => by
    obtain ⟨w, hw, rfl⟩ := List.mem_map.mp hx
    obtain ⟨a, b⟩ := h.word w hw
    refine ⟨[x0, some (.d (.int (N : Nat))), some (.d (.int 1000)), some (.d (.list (ws.map itp))), some (.d (tieD t.1)), some (.d (tieD t.2.1)), some (.d (.int t.2.2)), some (.d (itp w)), none], (iota (leastP w t) ((N : Int) - t.2.2)).map .int, fun d => match d with | .int l => itp (w ++ [l]) | d => d, rfl, ?_, fun E => ⟨rfl, mSeq_list (mFn_of (n := 4) rfl rfl (fit_ok a b t1 t2 (e := (N : Int) - t.2.2) (by omega) (S ++ [Cell.l E])))⟩, fun y hy => ?_⟩
    · rw [rowD_itp, List.map_map, List.map_map]
      rfl
    · obtain ⟨l, hl, rfl⟩ := List.mem_map.mp hy
      refine ⟨[x0, some (.d (.int (N : Nat))), some (.d (.int 1000)), some (.d (.list (ws.map itp))), some (.d (tieD t.1)), some (.d (tieD t.2.1)), some (.d (.int t.2.2)), some (.d (itp w)), some (.d (.int l))], rfl, fun E => ⟨rfl, ?_⟩⟩
      refine mOp_of (x := .d (itp w)) (y := .d (.tuple [.int l])) rfl (mTup_of (vs := [.d (.int l)]) (ds := [.int l]) rfl rfl (by show 1 ≤ 1000; decide)) ?_
      show (if (w.map PyData.int).length + [PyData.int l].length ≤ 1000000 then some (PV.d (.tuple (w.map PyData.int ++ [PyData.int l]))) else none) = some (PV.d (itp (w ++ [l])))
      rw [if_pos (by rw [List.length_map, List.length_singleton]; omega)]
      show _ = some (PV.d (.tuple ((w ++ [l]).map .int)))
      rw [List.map_append]
      rfl
  rw [fm] at lc
  refine (sSeq_nx (sSet_of (mFz_of lc))).trans ?_
  refine if_nx ((bAnd_t (show asB (mOp (fIsN true) (mVar 2) (mC .none)) _ S = some (true, S) from rfl)).trans ?_)
  have ln : mCall cLen (mCons (mVar 3) mNil) (grR x0 N (growP (N : Int) t ws) (some (.d (tieD t.1))) (some (.d (tieD t.2.1))) (some (.d (.int t.2.2)))) S = some (.d (.int ((growP (N : Int) t ws).length : Nat)), S) := by
    refine mCall_of (vs := [.d (.list ((growP (N : Int) t ws).map itp))]) rfl ?_
    show some (PV.d (.int (((growP (N : Int) t ws).map itp).length : Nat))) = _
    rw [List.length_map]
  refine asB_of (mOp_of ln rfl ((fGt_int _ _ _).trans ?_))
  rw [decide_eq_false]
  have := G.few
  omega
theorem gr_go {x0 : Option PV} {N : Nat} (hN : N ≤ 100) : ∀ (ts : List Tie3) (n m : Nat) (ws : List (List Int)) (x4 x5 x6 : Option PV) (S : Sto), WsOk n m ws → n + ts.length ≤ 900 → m * (max N 1) ^ ts.length ≤ 1000 → tiesOk n ts = true → ∃ y4 y5 y6,
    forGo (gT 3 (gCs (gN 4) (gCs (gN 5) (gCs (gN 6) gNs)))) flB (ts.map tieT) (grR x0 N ws x4 x5 x6) S = some (.nx (grR x0 N (wordsT (N : Int) ts ws) y4 y5 y6) S) ∧ WsOk (n + ts.length) 1000 (wordsT (N : Int) ts ws)
  | [], n, m, ws, x4, x5, x6, S, h, _, hm, _ => ⟨x4, x5, x6, rfl, h.word, by
    have := h.few
    rw [List.length_nil, Nat.pow_zero, Nat.mul_one] at hm
    exact Nat.le_trans this hm⟩
  | t :: ts, n, m, ws, x4, x5, x6, S, h, hn, hm, ht => by
    rw [List.length_cons] at hn hm
    unfold tiesOk at ht
    simp only [Bool.and_eq_true, decide_eq_true_eq] at ht
    obtain ⟨⟨⟨⟨t1, t2⟩, t3⟩, t4⟩, tr⟩ := ht
    have e : (max N 1) ^ (ts.length + 1) = (max N 1) * (max N 1) ^ ts.length := by rw [Nat.pow_succ, Nat.mul_comm]
    rw [e, ← Nat.mul_assoc] at hm
    have p1 : 1 ≤ (max N 1) ^ ts.length := Nat.pow_pos (by omega)
    have m1 : m * N ≤ m * (max N 1) := Nat.mul_le_mul_left _ (by omega)
    have m2 : m * (max N 1) ≤ m * (max N 1) * (max N 1) ^ ts.length := Nat.le_mul_of_pos_right _ p1
    have st := gr_step (x0 := x0) (N := N) (t := t) h (by omega) hN (by omega) t1 t2 ⟨t3, t4⟩ S
    obtain ⟨y4, y5, y6, e2, w2⟩ := gr_go (x0 := x0) hN ts (n + 1) (m * N) (growP (N : Int) t ws) (some (.d (tieD t.1))) (some (.d (tieD t.2.1))) (some (.d (.int t.2.2))) S (grow_ok h hN t3) (by omega) (Nat.le_trans (Nat.mul_le_mul_right _ m1) hm) tr
    refine ⟨y4, y5, y6, ?_, by rw [List.length_cons, show n + (ts.length + 1) = n + 1 + ts.length by omega]; exact w2⟩
    rw [List.map_cons]
    exact (for_nx (ρ1 := grR x0 N ws (some (.d (tieD t.1))) (some (.d (tieD t.2.1))) (some (.d (.int t.2.2)))) rfl st).trans e2
def tabD (t : List (List Int)) : PyData := .tuple (t.map itp)
theorem filled_ok {o i : List Int} (h : Sk9 o i) {N : Nat} (hN : N ≤ 100) (ht : tiesOk 0 (tiesP o i) = true) (hp : (max N 1) ^ (tiesP o i).length ≤ 1000) (S : Sto) : F_filled [.d (skD o i), .d (.int (N : Nat)), .d (.int 1000)] S = some ((tabP o i (N : Int)).map tabD, S) := by
  have tl : (tiesP o i).length ≤ 900 := by
    unfold tiesP
    rw [List.length_map]
    exact h.few
  obtain ⟨y4, y5, y6, e, w⟩ := gr_go (x0 := some (.d (skD o i))) hN (tiesP o i) 0 1 [[]] none none none S ⟨fun w hw => by rw [List.mem_singleton.mp hw]; exact ⟨rfl, fun x hx => nomatch hx⟩, Nat.le_refl _⟩ (by omega) (by omega) ht
  refine runL_of (ρ := [some (.d (skD o i)), some (.d (.int (N : Nat))), some (.d (.int 1000)), none, none, none, none, none, none]) rfl ?_
  unfold g_filled
  refine (sSeq_nx (show sSet 3 (mFz (mLst (mCons (mTup mNil) mNil))) _ S = some (.nx (grR (some (.d (skD o i))) N [[]] none none none) S) from rfl)).trans ?_
  refine (sSeq_nx ((sFor_of (mSeq_list (mFn_of (n := 1) (vs := [.d (skD o i)]) rfl rfl (ties_ok h S)))).trans e)).trans ?_
  refine sRetL_of ?_
  rw [mLc_map (mi := mSeq (mVar 3)) (S1 := S) (xs := (wordsT (N : Int) (tiesP o i) [[]]).map itp) (f := fun d => tabD (rowsW (rowD d) ((startsW o i).zip o) 0)) (mSeq_list rfl) (by rw [List.length_map]; exact Nat.le_trans w.few (by decide)) fun x hx => by
    obtain ⟨v, hv, rfl⟩ := List.mem_map.mp hx
    refine ⟨[some (.d (skD o i)), some (.d (.int (N : Nat))), some (.d (.int 1000)), some (.d (.list ((wordsT (N : Int) (tiesP o i) [[]]).map itp))), y4, y5, y6, some (.d (itp v)), none], rfl, fun S => ?_⟩
    rw [rowD_itp]
    exact mFn_of (n := 2) (vs := [.d (skD o i), .d (itp v)]) rfl rfl (in_rows_ok h.le (by have := h.hi; omega) S)]
  unfold tabP
  rw [List.map_map, List.map_map]
  congr 2
  apply List.map_congr_left
  intro v _
  show tabD (rowsW (rowD (itp v)) _ 0) = _
  rw [rowD_itp]
  rfl
theorem tables_ok {o i : List Int} (h : Sk9 o i) {N : Nat} (hN : N ≤ 100) (ht : tiesOk 0 (tiesP o i) = true) (hp : (max N 1) ^ (tiesP o i).length ≤ 1000) (S : Sto) : F_tables_of [.d (skD o i), .d (.int (N : Nat))] S = some ((tabP o i (N : Int)).map tabD, S) := by
  refine runL_of (ρ := [some (.d (skD o i)), some (.d (.int (N : Nat)))]) rfl ?_
  unfold g_tables_of
  exact sRetL_of (mFnL_of (n := 3) (vs := [.d (skD o i), .d (.int (N : Nat)), .d (.int 1000)]) rfl rfl (filled_ok h hN ht hp S))
end Law

set_option synthInstance.maxHeartbeats 0
set_option synthInstance.maxSize 100000
namespace Law
open PySem PySem.Spec PyProof.Rows L2 DK DL DN
theorem runF_cell {N : Nat} {g : MS} {ps : List PV} {ρ : RE} {S E : Sto} {i : Nat} {ds : List PyData} (he : ps.map some ++ List.replicate (N - ps.length) none = ρ) (h : g ρ S = some (.rt (.c i) (S ++ E))) (hi : S.length ≤ i) (hd : lAt (S ++ E) i = some ds) : runF N g ps S = some (.d (.list ds), S) := by
  unfold runF
  rw [he, h]
  show (if i < S.length then some (PV.c i, (S ++ E).take S.length) else (lAt (S ++ E) i).map fun ds => (PV.d (.list ds), (S ++ E).take S.length)) = _
  rw [if_neg (by omega), hd, List.take_left]
  rfl
theorem fGe_int (a b : Int) (S : Sto) : fGe (.d (.int a)) (.d (.int b)) S = some (.d (.bool (decide (a ≥ b)))) := rfl
theorem len_itp {a : List Int} {m : DL.M} {ρ : RE} {S : Sto} (h : m ρ S = some (.d (itp a), S)) : mCall cLen (mCons m mNil) ρ S = some (.d (.int (a.length : Nat)), S) := by
  refine mCall_of (vs := [.d (itp a)]) (mCons_of h rfl) ?_
  show some (PV.d (.int ((a.map PyData.int).length : Int))) = _
  rw [List.length_map]
theorem first_ok {o i : List Int} {r : Int} (h : 0 ≤ r) (S : Sto) : F__law_first [.d (skD o i), .d (.int r)] S = some (.d (.int (firstP i r)), S) := by
  refine runF_of (ρ := [some (.d (skD o i)), some (.d (.int r))]) rfl ?_ (Nat.le_refl _)
  unfold g__law_first
  refine sRet_of ?_
  have c : asB (mOp fLt (mVar 1) (mCall cLen (mCons (mOp fIx (mVar 0) (mC (.int (1)))) mNil))) [some (.d (skD o i)), some (.d (.int r))] S = some (decide (r < (i.length : Int)), S) := asB_of (mOp_of rfl (len_itp (a := i) rfl) (fLt_int _ _ _))
  unfold firstP
  by_cases q : r < (i.length : Int)
  · rw [if_pos q]
    rw [decide_eq_true q] at c
    exact (mIf_t c).trans (mOp_of (x := .d (itp i)) (y := .d (.int r)) rfl rfl (at_ix h q S))
  · rw [if_neg q]
    rw [decide_eq_false q] at c
    exact (mIf_f c).trans rfl
/-- a loop over a list of ours that stands still -/
theorem forC_list {j : Nat} {tgt : TgD} {body : MS} {l : List PyData} (I : Nat → RE → Sto → Prop) (hI : ∀ k ρ S, I k ρ S → lAt S j = some l) (step : ∀ k x, l[k]? = some x → ∀ ρ S, I k ρ S → ∃ ρ1 ρ' S', tgt x ρ = some ρ1 ∧ body ρ1 S = some (.nx ρ' S') ∧ I (k + 1) ρ' S') :
    ∀ f k ρ S, l.length < f + k → k ≤ l.length → I k ρ S → ∃ ρ' S', forGoC j tgt body f k ρ S = some (.nx ρ' S') ∧ I l.length ρ' S'
  | 0, k, _, _, h, h2, _ => by omega
  | f + 1, k, ρ, S, h, h2, i => by
    unfold forGoC
    rw [hI k ρ S i, Option.bind_some]
    cases e : l[k]? with
    | none =>
      have : l.length ≤ k := List.getElem?_eq_none_iff.mp e
      have : k = l.length := by omega
      subst this
      exact ⟨ρ, S, rfl, i⟩
    | some x =>
      obtain ⟨ρ1, ρ', S', e1, e2, i2⟩ := step k x e ρ S i
      have kl := (List.getElem?_eq_some_iff.mp e).1
      obtain ⟨ρ2, S2, e3, i3⟩ := forC_list I hI step f (k + 1) ρ' S' (by omega) (by omega) i2
      refine ⟨ρ2, S2, ?_, i3⟩
      show (tgt x ρ).bind _ = _
      rw [e1, Option.bind_some, e2]
      exact e3
theorem take_fm {α β : Type} {l : List α} {k : Nat} {x : α} (h : l[k]? = some x) (f : α → List β) : (l.take (k + 1)).flatMap f = (l.take k).flatMap f ++ f x := by
  rw [List.take_add_one, h, List.flatMap_append]
  simp
theorem extend_last {a : Nat} {ml : ML} {ρ : RE} {X : Sto} {ds q : List PyData} (ha : ρ[a]? = some (some (.c X.length))) (h : ml ρ (X ++ [.l ds]) = some (q, X ++ [.l ds])) (hl : ds.length + q.length ≤ 1000000) : sDrop (mExtend (mVar a) ml) ρ (X ++ [.l ds]) = some (.nx ρ (X ++ [.l (ds ++ q)])) := by
  refine sDrop_of (v := .d .none) ?_
  unfold mExtend
  rw [var_of ha]
  show (ml ρ (X ++ [Cell.l ds])).bind _ = _
  rw [h]
  show (if (lAt (X ++ [Cell.l ds]) X.length).isSome = true then (lAt (X ++ [Cell.l ds]) X.length).bind _ else none) = _
  rw [last_l]
  show (if ds.length + q.length ≤ 1000000 then some (PV.d .none, (X ++ [Cell.l ds]).set X.length (.l (ds ++ q))) else none) = _
  rw [if_pos hl, last_set]
abbrev srR (o i : List Int) (r : Int) (above : List Int) (N : Nat) (fi hi : Int) (x6 x7 x8 x9 x10 : Option PV) : RE := [some (.d (skD o i)), some (.d (.int r)), some (.d (itp above)), some (.d (.int (N : Nat))), some (.d (.int fi)), some (.d (.int hi)), x6, x7, x8, x9, x10, none]
abbrev srI : MS := (sSeq (sSet 10 (mIf (asB (mOp fGe (mVar 7) (mVar 5))) (mOp fAdd (mOp fIx (mVar 2) (mOp fSub (mVar 7) (mVar 5))) (mC (.int (1)))) (mC (.int (0)))))
    (sSeq (sIf (asB (mOp fNe (mVar 9) (mTup mNil))) (sSet 10 (mCall cMax (mCons (mVar 10) (mCons (mOp fIx (mVar 9) (mUn fNeg (mC (.int (1))))) mNil)))) sNil)
    (sDrop (mExtend (mVar 8) (mLc (mRng2 (mVar 10) (mVar 3)) [11] (gN 11) bYes (mOp fAdd (mVar 9) (mTup (mCons (mVar 11) mNil))))))))
abbrev srB : MS := (sSeq (sOwn 8 (mLst mNil)) (sSeq (sForC (mVar 6) (gN 9) srI) (sSet 6 (mVar 8))))
def extP (hi : Int) (above : List Int) (N : Nat) (c : Int) (a : List Int) : List (List Int) := (iota (leastR hi above c a) (N : Int)).map fun l => a ++ [l]
theorem leastR_bd {hi c : Int} {above a : List Int} (h1 : ∀ x ∈ above, 0 ≤ x ∧ x ≤ 100) (h2 : ∀ x ∈ a, 0 ≤ x ∧ x ≤ 100) : 0 ≤ leastR hi above c a ∧ leastR hi above c a ≤ 101 := by
  have g := at_bd (b := 100) (by decide) h1 (c - hi).toNat
  have l : 0 ≤ (if c ≥ hi then above.getD (c - hi).toNat 0 + 1 else 0) ∧ (if c ≥ hi then above.getD (c - hi).toNat 0 + 1 else 0) ≤ 101 := by split <;> omega
  have e : leastR hi above c a = if a = [] then (if c ≥ hi then above.getD (c - hi).toNat 0 + 1 else 0) else max (if c ≥ hi then above.getD (c - hi).toNat 0 + 1 else 0) (a.getLast?.getD 0) := rfl
  rw [e]
  by_cases ha : a = []
  · rw [if_pos ha]
    exact l
  · have g2 : 0 ≤ a.getLast?.getD 0 ∧ a.getLast?.getD 0 ≤ 100 := by
      rw [List.getLast?_eq_some_getLast ha]
      exact h2 _ (List.getLast_mem ha)
    rw [if_neg ha, Int.max_def]
    split <;> omega
theorem ext_ok {hi c : Int} {above : List Int} {n m N : Nat} (hN : N ≤ 100) (h1 : ∀ x ∈ above, 0 ≤ x ∧ x ≤ 100) {found : List (List Int)} (h : WsOk n m found) : WsOk (n + 1) (m * N) (found.flatMap (extP hi above N c)) := by
  refine ⟨fun w hw => ?_, ?_⟩
  · obtain ⟨v, hv, hw⟩ := List.mem_flatMap.mp hw
    obtain ⟨l, hl, rfl⟩ := List.mem_map.mp hw
    obtain ⟨a, b⟩ := h.word v hv
    have lb := leastR_bd (hi := hi) (c := c) h1 b
    have := iota_mem hl
    refine ⟨by rw [List.length_append, a]; rfl, fun x hx => ?_⟩
    rcases List.mem_append.mp hx with hx | hx
    · exact b x hx
    · rw [List.mem_singleton.mp hx]
      omega
  · refine Nat.le_trans (flat_le (c := N) fun w hw => ?_) (Nat.mul_le_mul_right _ h.few)
    have lb := leastR_bd (hi := hi) (c := c) h1 (h.word w hw).2
    unfold extP
    rw [List.length_map, iota_len]
    omega
theorem sr_inner {o i above a : List Int} {r fi hi c : Int} {N : Nat} {x6 x10 : Option PV} {X : Sto} {ds : List PyData} (ha : a.length ≤ 900) (hN : N ≤ 100) (h1 : ∀ x ∈ above, 0 ≤ x ∧ x ≤ 100) (h2 : ∀ x ∈ a, 0 ≤ x ∧ x ≤ 100) (hc : c ≥ hi → c - hi < (above.length : Int)) (hl : ds.length ≤ 1000) :
    ∃ y10, srI (srR o i r above N fi hi x6 (some (.d (.int c))) (some (.c X.length)) (some (.d (itp a))) x10) (X ++ [.l ds]) = some (.nx (srR o i r above N fi hi x6 (some (.d (.int c))) (some (.c X.length)) (some (.d (itp a))) y10) (X ++ [.l (ds ++ (extP hi above N c a).map itp)])) := by
  have lb := leastR_bd (hi := hi) (c := c) h1 h2
  let l0 : Int := if c ≥ hi then above.getD (c - hi).toNat 0 + 1 else 0
  have s1 : sSet 10 (mIf (asB (mOp fGe (mVar 7) (mVar 5))) (mOp fAdd (mOp fIx (mVar 2) (mOp fSub (mVar 7) (mVar 5))) (mC (.int (1)))) (mC (.int (0)))) (srR o i r above N fi hi x6 (some (.d (.int c))) (some (.c X.length)) (some (.d (itp a))) x10) (X ++ [.l ds]) = some (.nx (srR o i r above N fi hi x6 (some (.d (.int c))) (some (.c X.length)) (some (.d (itp a))) (some (.d (.int l0)))) (X ++ [.l ds])) := by
    refine sSet_of (v := .d (.int l0)) ?_
    have g : asB (mOp fGe (mVar 7) (mVar 5)) (srR o i r above N fi hi x6 (some (.d (.int c))) (some (.c X.length)) (some (.d (itp a))) x10) (X ++ [.l ds]) = some (decide (c ≥ hi), X ++ [.l ds]) := asB_of (mOp_of rfl rfl (fGe_int _ _ _))
    by_cases q : c ≥ hi
    · rw [decide_eq_true q] at g
      refine (mIf_t g).trans ?_
      show _ = some (PV.d (.int (if c ≥ hi then above.getD (c - hi).toNat 0 + 1 else 0)), _)
      rw [if_pos q]
      exact mOp_of (x := .d (.int (above.getD (c - hi).toNat 0))) (mOp_of (x := .d (itp above)) (y := .d (.int (c - hi))) rfl rfl (at_ix (by omega) (hc q) _)) rfl rfl
    · rw [decide_eq_false q] at g
      refine (mIf_f g).trans ?_
      show _ = some (PV.d (.int (if c ≥ hi then above.getD (c - hi).toNat 0 + 1 else 0)), _)
      rw [if_neg q]
      rfl
  have s2 : sIf (asB (mOp fNe (mVar 9) (mTup mNil))) (sSet 10 (mCall cMax (mCons (mVar 10) (mCons (mOp fIx (mVar 9) (mUn fNeg (mC (.int (1))))) mNil)))) sNil (srR o i r above N fi hi x6 (some (.d (.int c))) (some (.c X.length)) (some (.d (itp a))) (some (.d (.int l0)))) (X ++ [.l ds]) = some (.nx (srR o i r above N fi hi x6 (some (.d (.int c))) (some (.c X.length)) (some (.d (itp a))) (some (.d (.int (leastR hi above c a))))) (X ++ [.l ds])) := by
    have g : asB (mOp fNe (mVar 9) (mTup mNil)) (srR o i r above N fi hi x6 (some (.d (.int c))) (some (.c X.length)) (some (.d (itp a))) (some (.d (.int l0)))) (X ++ [.l ds]) = some (!decide (a = []), X ++ [.l ds]) := asB_of (mOp_of (x := .d (itp a)) (y := .d (itp [])) rfl rfl (fNe_rows _ _ _))
    rcases List.eq_nil_or_concat a with rfl | ⟨L, d, rfl⟩
    · refine (if_nx g).trans ?_
      rfl
    · rw [List.concat_eq_append] at *
      rw [decide_eq_false (by simp)] at g
      refine (sIf_t g).trans (sSet_of ?_)
      have la : mOp fIx (mVar 9) (mUn fNeg (mC (.int (1)))) (srR o i r above N fi hi x6 (some (.d (.int c))) (some (.c X.length)) (some (.d (itp (L ++ [d])))) (some (.d (.int l0)))) (X ++ [.l ds]) = some (.d (.int d), X ++ [.l ds]) := by
        refine mOp_of (x := .d (itp (L ++ [d]))) (y := .d (.int (-1))) rfl rfl ?_
        show (atI ((L ++ [d]).map PyData.int) (-1)).map PV.d = _
        rw [List.map_append, show [d].map PyData.int = [PyData.int d] from rfl, DN.atI_last]
        rfl
      have ee : leastR hi above c (L ++ [d]) = max l0 d := by
        unfold leastR
        rw [if_neg (by simp), List.getLast?_append]
        rfl
      rw [ee]
      exact mCall_of (vs := [.d (.int l0), .d (.int d)]) (mCons_of rfl (mCons_of la rfl)) (fMax_int _ _ _)
  refine ⟨some (.d (.int (leastR hi above c a))), (sSeq_nx s1).trans ((sSeq_nx s2).trans ?_)⟩
  refine extend_last rfl ?_ (by
    unfold extP
    rw [List.length_map, List.length_map, iota_len]
    omega)
  rw [mLc_map (mi := mRng2 (mVar 10) (mVar 3)) (S1 := X ++ [.l ds]) (xs := (iota (leastR hi above c a) (N : Int)).map .int) (f := fun d => match d with | .int l => itp (a ++ [l]) | d => d) (rng2_of (i := leastR hi above c a) (j := (N : Nat)) rfl rfl (by omega)) (by rw [List.length_map, iota_len]; omega) fun x hx => by
    obtain ⟨l, hl, rfl⟩ := List.mem_map.mp hx
    refine ⟨[some (.d (skD o i)), some (.d (.int r)), some (.d (itp above)), some (.d (.int (N : Nat))), some (.d (.int fi)), some (.d (.int hi)), x6, some (.d (.int c)), some (.c X.length), some (.d (itp a)), some (.d (.int (leastR hi above c a))), some (.d (.int l))], rfl, fun E => ?_⟩
    refine mOp_of (x := .d (itp a)) (y := .d (.tuple [.int l])) rfl (mTup_of (vs := [.d (.int l)]) (ds := [.int l]) rfl rfl (by show 1 ≤ 1000; decide)) ?_
    show (if (a.map PyData.int).length + [PyData.int l].length ≤ 1000000 then some (PV.d (.tuple (a.map PyData.int ++ [PyData.int l]))) else none) = some (PV.d (itp (a ++ [l])))
    rw [if_pos (by rw [List.length_map, List.length_singleton]; omega)]
    show _ = some (PV.d (.tuple ((a ++ [l]).map .int)))
    rw [List.map_append]
    rfl]
  unfold extP
  rw [List.map_map, List.map_map]
  rfl
theorem sr_step {o i above : List Int} {r fi hi c : Int} {N n m : Nat} {x8 x9 x10 : Option PV} {A : Sto} {found : List (List Int)} (h : WsOk n m found) (hn : n ≤ 900) (hN : N ≤ 100) (hm : m * N ≤ 1000) (hm1 : m ≤ 1000) (h1 : ∀ x ∈ above, 0 ≤ x ∧ x ≤ 100) (hc : c ≥ hi → c - hi < (above.length : Int)) :
    ∃ y8 y9 y10, srB (srR o i r above N fi hi (some (.c A.length)) (some (.d (.int c))) x8 x9 x10) (A ++ [.l (found.map itp)]) = some (.nx (srR o i r above N fi hi (some (.c (A ++ [Cell.l (found.map itp)]).length)) (some (.d (.int c))) y8 y9 y10) (A ++ [.l (found.map itp)] ++ [.l ((found.flatMap (extP hi above N c)).map itp)])) := by
  let X : Sto := A ++ [.l (found.map itp)]
  let I : Nat → RE → Sto → Prop := fun k ρ S => S = X ++ [.l (((found.take k).flatMap (extP hi above N c)).map itp)] ∧ ∃ y9 y10, ρ = srR o i r above N fi hi (some (.c A.length)) (some (.d (.int c))) (some (.c X.length)) y9 y10
  have few := h.few
  obtain ⟨ρ', S', e, i1⟩ := forC_list (j := A.length) (tgt := gN 9) (body := srI) (l := found.map itp) I (fun k ρ S hI => by
    rw [hI.1]
    show lAt (A ++ [Cell.l (found.map itp)] ++ _) A.length = _
    refine lAt_some.mpr ?_
    rw [List.append_assoc, List.getElem?_append_right (Nat.le_refl _), Nat.sub_self]
    rfl) (fun k x hx ρ S hI => by
    obtain ⟨rfl, y9, y10, rfl⟩ := hI
    rw [List.getElem?_map] at hx
    obtain ⟨a, ha, rfl⟩ := Option.map_eq_some_iff.mp hx
    obtain ⟨al, ab⟩ := h.word a (List.mem_of_getElem? ha)
    have dl : (((found.take k).flatMap (extP hi above N c)).map itp).length ≤ 1000 := by
      rw [List.length_map]
      refine Nat.le_trans (flat_le (c := N) fun w hw => ?_) (Nat.le_trans (Nat.mul_le_mul_right N (show (found.take k).length ≤ m by rw [List.length_take]; omega)) hm)
      have lb := leastR_bd (hi := hi) (c := c) h1 (h.word w (List.mem_of_mem_take hw)).2
      unfold extP
      rw [List.length_map, iota_len]
      omega
    obtain ⟨z10, es⟩ := sr_inner (o := o) (i := i) (r := r) (fi := fi) (x6 := some (.c A.length)) (x10 := y10) (X := X) (ds := ((found.take k).flatMap (extP hi above N c)).map itp) (a := a) (c := c) (by omega) hN h1 ab hc dl
    refine ⟨srR o i r above N fi hi (some (.c A.length)) (some (.d (.int c))) (some (.c X.length)) (some (.d (itp a))) y10, _, _, rfl, es, ?_, some (.d (itp a)), z10, rfl⟩
    rw [take_fm ha, List.map_append]) 100000 0 (srR o i r above N fi hi (some (.c A.length)) (some (.d (.int c))) (some (.c X.length)) x9 x10) (X ++ [.l []]) (by rw [List.length_map]; omega) (Nat.zero_le _) ⟨rfl, x9, x10, rfl⟩
  obtain ⟨rfl, y9, y10, rfl⟩ := i1
  rw [List.length_map, List.take_length] at e
  refine ⟨some (.c X.length), y9, y10, ?_⟩
  refine (sSeq_nx (show sOwn 8 (mLst mNil) (srR o i r above N fi hi (some (.c A.length)) (some (.d (.int c))) x8 x9 x10) X = some (.nx (srR o i r above N fi hi (some (.c A.length)) (some (.d (.int c))) (some (.c X.length)) x9 x10) (X ++ [.l []])) from rfl)).trans ?_
  refine (sSeq_nx ((sForC_of (j := A.length) rfl).trans e)).trans ?_
  rfl
theorem sr_go {o i above : List Int} {r fi hi : Int} {N : Nat} (hN : N ≤ 100) (h1 : ∀ x ∈ above, 0 ≤ x ∧ x ≤ 100) : ∀ (cs : List Int) (n m : Nat) (found : List (List Int)) (A : Sto) (x7 x8 x9 x10 : Option PV), (∀ c ∈ cs, c ≥ hi → c - hi < (above.length : Int)) → WsOk n m found → n + cs.length ≤ 900 → m * (max N 1) ^ cs.length ≤ 1000 →
    ∃ (B : Sto) (y7 y8 y9 y10 : Option PV), forGo (gN 7) srB (cs.map .int) (srR o i r above N fi hi (some (.c A.length)) x7 x8 x9 x10) (A ++ [.l (found.map itp)]) = some (.nx (srR o i r above N fi hi (some (.c (A ++ B).length)) y7 y8 y9 y10) (A ++ B ++ [.l ((cs.foldl (fun f c => f.flatMap (extP hi above N c)) found).map itp)])) ∧ WsOk (n + cs.length) (m * (max N 1) ^ cs.length) (cs.foldl (fun f c => f.flatMap (extP hi above N c)) found)
  | [], n, m, found, A, x7, x8, x9, x10, _, h, _, _ => ⟨[], x7, x8, x9, x10, by rw [List.append_nil]; rfl, by
    rw [List.length_nil, Nat.pow_zero, Nat.mul_one]
    exact h⟩
  | c :: cs, n, m, found, A, x7, x8, x9, x10, hc, h, hn, hm => by
    rw [List.length_cons] at hn hm
    have e : (max N 1) ^ (cs.length + 1) = (max N 1) * (max N 1) ^ cs.length := by rw [Nat.pow_succ, Nat.mul_comm]
    rw [e, ← Nat.mul_assoc] at hm
    have p1 : 1 ≤ (max N 1) ^ cs.length := Nat.pow_pos (by omega)
    have m1 : m * N ≤ m * (max N 1) := Nat.mul_le_mul_left _ (by omega)
    have m3 : m ≤ m * (max N 1) := Nat.le_mul_of_pos_right _ (by omega)
    have m2 : m * (max N 1) ≤ m * (max N 1) * (max N 1) ^ cs.length := Nat.le_mul_of_pos_right _ p1
    obtain ⟨z8, z9, z10, st⟩ := sr_step (o := o) (i := i) (r := r) (fi := fi) (hi := hi) (c := c) (x8 := x8) (x9 := x9) (x10 := x10) (A := A) h (by omega) hN (by omega) (by omega) h1 (hc c List.mem_cons_self)
    have g0 := ext_ok (hi := hi) (c := c) hN h1 h
    have g : WsOk (n + 1) (m * (max N 1)) (found.flatMap (extP hi above N c)) := ⟨g0.word, Nat.le_trans g0.few m1⟩
    obtain ⟨B, y7, y8, y9, y10, e2, w2⟩ := sr_go (o := o) (i := i) (r := r) (fi := fi) (hi := hi) hN h1 cs (n + 1) (m * (max N 1)) (found.flatMap (extP hi above N c)) (A ++ [.l (found.map itp)]) (some (.d (.int c))) z8 z9 z10 (fun d hd => hc d (List.mem_cons_of_mem _ hd)) g (by omega) hm
    refine ⟨[.l (found.map itp)] ++ B, y7, y8, y9, y10, ?_, ?_⟩
    · rw [List.map_cons]
      refine (for_nx (ρ1 := srR o i r above N fi hi (some (.c A.length)) (some (.d (.int c))) x8 x9 x10) rfl st).trans ?_
      rw [← List.append_assoc]
      exact e2
    · rw [List.length_cons, e, ← Nat.mul_assoc, show n + (cs.length + 1) = n + 1 + cs.length by omega]
      exact w2
theorem skewRows_ok {o i above : List Int} {r : Int} {N : Nat} (hN : N ≤ 100) (h1 : ∀ x ∈ above, 0 ≤ x ∧ x ≤ 100) (r0 : 0 ≤ r) (r1 : r < (o.length : Int)) (hf : 0 ≤ firstP i r ∧ firstP i r ≤ 9) (ho : 0 ≤ o.getD r.toNat 0 ∧ o.getD r.toNat 0 ≤ 9)
    (hc : ∀ c ∈ iota (firstP i r) (o.getD r.toNat 0), c ≥ (if r > 0 then firstP i (r - 1) else 99) → c - (if r > 0 then firstP i (r - 1) else 99) < (above.length : Int)) (hm : (max N 1) ^ (o.getD r.toNat 0 - firstP i r).toNat ≤ 1000) (S : Sto) :
    F__law_skew_rows [.d (skD o i), .d (.int r), .d (itp above), .d (.int (N : Nat))] S = some (.d (.list ((skewRows o i r above (N : Int)).map itp)), S) ∧ WsOk (o.getD r.toNat 0 - firstP i r).toNat ((max N 1) ^ (o.getD r.toNat 0 - firstP i r).toNat) (skewRows o i r above (N : Int)) := by
  obtain ⟨B, y7, y8, y9, y10, e, w⟩ := sr_go (o := o) (i := i) (r := r) (fi := firstP i r) (hi := if r > 0 then firstP i (r - 1) else 99) hN h1 (iota (firstP i r) (o.getD r.toNat 0)) 0 1 [[]] S none none none none hc ⟨fun w hw => by rw [List.mem_singleton.mp hw]; exact ⟨rfl, fun x hx => nomatch hx⟩, Nat.le_refl _⟩ (by rw [iota_len]; omega) (by rw [iota_len, Nat.one_mul]; exact hm)
  rw [iota_len, Nat.one_mul, Nat.zero_add] at w
  refine ⟨?_, w⟩
  have z6 : sPar 4 5 (mCons (mFn 2 F__law_first (mCons (mVar 0) (mCons (mVar 1) mNil))) (mCons (mIf (asB (mOp fGt (mVar 1) (mC (.int (0))))) (mFn 2 F__law_first (mCons (mVar 0) (mCons (mOp fSub (mVar 1) (mC (.int (1)))) mNil))) (mC (.int (99)))) mNil)) [some (.d (skD o i)), some (.d (.int r)), some (.d (itp above)), some (.d (.int (N : Nat))), none, none, none, none, none, none, none, none] S = some (.nx (srR o i r above N (firstP i r) (if r > 0 then firstP i (r - 1) else 99) none none none none none) S) := by
    have f1 : mFn 2 F__law_first (mCons (mVar 0) (mCons (mVar 1) mNil)) [some (.d (skD o i)), some (.d (.int r)), some (.d (itp above)), some (.d (.int (N : Nat))), none, none, none, none, none, none, none, none] S = some (.d (.int (firstP i r)), S) := mFn_of (n := 2) (vs := [.d (skD o i), .d (.int r)]) rfl rfl (first_ok r0 S)
    have f2 : mIf (asB (mOp fGt (mVar 1) (mC (.int (0))))) (mFn 2 F__law_first (mCons (mVar 0) (mCons (mOp fSub (mVar 1) (mC (.int (1)))) mNil))) (mC (.int (99))) [some (.d (skD o i)), some (.d (.int r)), some (.d (itp above)), some (.d (.int (N : Nat))), none, none, none, none, none, none, none, none] S = some (.d (.int (if r > 0 then firstP i (r - 1) else 99)), S) := by
      have g : asB (mOp fGt (mVar 1) (mC (.int (0)))) [some (.d (skD o i)), some (.d (.int r)), some (.d (itp above)), some (.d (.int (N : Nat))), none, none, none, none, none, none, none, none] S = some (decide (r > 0), S) := asB_of (mOp_of rfl rfl (fGt_int _ _ _))
      by_cases q : r > 0
      · rw [decide_eq_true q] at g
        rw [if_pos q]
        exact (mIf_t g).trans (mFn_of (n := 2) (vs := [.d (skD o i), .d (.int (r - 1))]) rfl rfl (first_ok (by omega) S))
      · rw [decide_eq_false q] at g
        rw [if_neg q]
        exact (mIf_f g).trans rfl
    unfold sPar
    rw [mCons_of f1 (mCons_of f2 rfl)]
    rfl
  refine runF_cell (ρ := [some (.d (skD o i)), some (.d (.int r)), some (.d (itp above)), some (.d (.int (N : Nat))), none, none, none, none, none, none, none, none]) (E := B ++ [.l ((skewRows o i r above (N : Int)).map itp)]) (i := (S ++ B).length) rfl ?_ (by rw [List.length_append]; omega) (by rw [← List.append_assoc]; exact last_l _ _)
  unfold g__law_skew_rows
  refine (sSeq_nx z6).trans ?_
  refine (sSeq_nx (show sOwn 6 (mLst (mCons (mTup mNil) mNil)) _ S = some (.nx (srR o i r above N (firstP i r) (if r > 0 then firstP i (r - 1) else 99) (some (.c S.length)) none none none none) (S ++ [.l [.tuple []]])) from rfl)).trans ?_
  have rg : mRng2 (mVar 4) (mOp fIx (mOp fIx (mVar 0) (mC (.int (0)))) (mVar 1)) (srR o i r above N (firstP i r) (if r > 0 then firstP i (r - 1) else 99) (some (.c S.length)) none none none none) (S ++ [.l [.tuple []]]) = some ((iota (firstP i r) (o.getD r.toNat 0)).map .int, S ++ [.l [.tuple []]]) :=
    rng2_of (i := firstP i r) (j := o.getD r.toNat 0) rfl (mOp_of (x := .d (itp o)) (y := .d (.int r)) rfl rfl (at_ix r0 r1 _)) (by omega)
  refine (sSeq_nx ((sFor_of rg).trans e)).trans ?_
  rw [← List.append_assoc]
  rfl
end Law

set_option synthInstance.maxHeartbeats 0
set_option synthInstance.maxSize 100000
namespace Law
open PySem PySem.Spec PyProof.Rows L2 DK DL DN
theorem sort_up : ∀ {l : List DP.Tab}, upT l = true → DP.sortT l = l
  | [], _ => rfl
  | [_], _ => rfl
  | a :: b :: r, h => by
    unfold upT at h
    rw [Bool.and_eq_true] at h
    have ih := sort_up (l := b :: r) h.2
    show DP.insT a (DP.sortT (b :: r)) = _
    rw [ih]
    unfold DP.insT
    have := h.1
    cases q : DP.lexT b a with
    | true =>
      rw [q] at this
      cases this
    | false => rfl
theorem tabs_map : ∀ l : List DP.Tab, tabsOf (l.map tabD) = some l
  | [] => rfl
  | t :: r => by
    show ((rowsOf (t.map itp)).bind fun t => (tabsOf (r.map tabD)).map (t :: ·)) = _
    rw [rowsOf_map, tabs_map r]
    rfl
theorem first_bd {o i : List Int} (h : Sk9 o i) (r : Int) : 0 ≤ firstP i r ∧ firstP i r ≤ 9 := by
  unfold firstP
  split
  · exact at_bd (b := 9) (by decide) h.ib _
  · decide
theorem outer_bd {o i : List Int} (h : Sk9 o i) (r : Nat) : 0 ≤ o.getD r 0 ∧ o.getD r 0 ≤ 9 := at_bd (b := 9) (by decide) (fun x hx => by have := h.ob x hx; omega) r
theorem outer_dn {o i : List Int} (h : Sk9 o i) (r : Nat) : o.getD (r + 1) 0 ≤ o.getD r 0 := by
  rw [List.getD_eq_getElem?_getD, List.getD_eq_getElem?_getD]
  cases e : o[r + 1]? with
  | none =>
    cases e2 : o[r]? with
    | none => exact Int.le_refl _
    | some x =>
      have := h.ob x (List.mem_of_getElem? e2)
      show (0 : Int) ≤ x
      omega
  | some y =>
    obtain ⟨l1, rfl⟩ := List.getElem?_eq_some_iff.mp e
    rw [List.getElem?_eq_getElem (by omega)]
    exact List.pairwise_iff_getElem.mp h.dn r (r + 1) (by omega) l1 (by omega)
/-- the tables so far -/
structure TbOk (o i : List Int) (r m : Nat) (found : List (List (List Int))) : Prop where
  tab : ∀ t ∈ found, t.length = r ∧ (∀ x ∈ t, ∀ v ∈ x, 0 ≤ v ∧ v ≤ 100) ∧ (0 < r → (t.getLast?.getD []).length = lenR o i (r - 1))
  few : found.length ≤ m
  wid : ∀ t ∈ found, ∀ x ∈ t, x.length ≤ 9
def abvP (r : Nat) (t : List (List Int)) : List Int := if ((r : Nat) : Int) > 0 then t.getLast?.getD [] else []
def extT (o i : List Int) (N r : Nat) (t : List (List Int)) : List (List (List Int)) := (skewRows o i (r : Int) (abvP r t) (N : Int)).map fun x => t ++ [x]
abbrev tbR (o i : List Int) (N : Nat) (x2 x3 x4 x5 x6 : Option PV) : RE := [some (.d (skD o i)), some (.d (.int (N : Nat))), x2, x3, x4, x5, x6, none]
abbrev tbI : MS := (sSeq (sSet 6 (mIf (asB (mOp fGt (mVar 3) (mC (.int (0))))) (mOp fIx (mVar 5) (mUn fNeg (mC (.int (1))))) (mTup mNil)))
    (sDrop (mExtend (mVar 4) (mLc (mSeq (mFn 4 F__law_skew_rows (mCons (mVar 0) (mCons (mVar 3) (mCons (mVar 6) (mCons (mVar 1) mNil)))))) [7] (gN 7) bYes (mOp fAdd (mVar 5) (mTup (mCons (mVar 7) mNil)))))))
abbrev tbB : MS := (sSeq (sOwn 4 (mLst mNil)) (sSeq (sForC (mVar 2) (gN 5) tbI) (sSet 2 (mVar 4))))
theorem abv_ok {o i : List Int} {r : Nat} {t : List (List Int)} (tl : t.length = r) (tv : ∀ x ∈ t, ∀ v ∈ x, 0 ≤ v ∧ v ≤ 100) : ∀ v ∈ abvP r t, 0 ≤ v ∧ v ≤ 100 := fun v hv => by
  unfold abvP at hv
  split at hv
  · cases e : t.getLast? with
    | none =>
      rw [e] at hv
      cases hv
    | some x =>
      rw [e] at hv
      exact tv x (List.mem_of_getLast? e) v hv
  · cases hv
theorem iota_cons {a b : Int} (h : a < b) : iota a b = a :: iota (a + 1) b := by
  unfold iota
  obtain ⟨k, hk⟩ : ∃ k : Nat, (b - a).toNat = k + 1 := ⟨(b - a).toNat - 1, by omega⟩
  rw [hk, show (b - (a + 1)).toNat = k by omega, List.range_succ_eq_map, List.map_cons, List.map_map]
  congr 1
  · show a + ((0 : Nat) : Int) = a
    omega
  · apply List.map_congr_left
    intro x _
    show a + ((x + 1 : Nat) : Int) = a + 1 + (x : Int)
    omega
section
variable {o i : List Int} (h : Sk9 o i) {N : Nat} (hN : N ≤ 100)
include h hN
theorem rowsr_ok {r : Nat} (hr : r < o.length) {t : List (List Int)} (tl : t.length = r) (tv : ∀ x ∈ t, ∀ v ∈ x, 0 ≤ v ∧ v ≤ 100) (tz : 0 < r → (t.getLast?.getD []).length = lenR o i (r - 1)) (hm : (max N 1) ^ lenR o i r ≤ 1000) (S : Sto) :
    F__law_skew_rows [.d (skD o i), .d (.int (r : Nat)), .d (itp (abvP r t)), .d (.int (N : Nat))] S = some (.d (.list ((skewRows o i (r : Int) (abvP r t) (N : Int)).map itp)), S) ∧ WsOk (lenR o i r) ((max N 1) ^ lenR o i r) (skewRows o i (r : Int) (abvP r t) (N : Int)) := by
  have q := skewRows_ok (o := o) (i := i) (above := abvP r t) (r := (r : Nat)) hN (abv_ok (o := o) (i := i) tl tv) (by omega) (by omega) (first_bd h _) (by rw [Int.toNat_natCast]; exact outer_bd h r) (fun c hc cg => by
    rw [Int.toNat_natCast] at hc
    have cm := iota_mem hc
    have ob := outer_bd h r
    by_cases r0 : ((r : Nat) : Int) > 0
    · rw [if_pos r0] at cg ⊢
      have lt := tz (by omega)
      unfold abvP
      rw [if_pos r0, lt]
      unfold lenR
      have od := outer_dn h (r - 1)
      rw [show r - 1 + 1 = r by omega] at od
      rw [show (((r - 1 : Nat)) : Int) = (r : Int) - 1 by omega]
      omega
    · rw [if_neg r0] at cg ⊢
      omega) (by rw [Int.toNat_natCast]; exact hm) S
  rw [Int.toNat_natCast] at q
  exact q
theorem ext_tb {r m : Nat} (hr : r < o.length) {found : List (List (List Int))} (hf : TbOk o i r m found) (hm : (max N 1) ^ lenR o i r ≤ 1000) : TbOk o i (r + 1) (m * (max N 1) ^ lenR o i r) (found.flatMap (extT o i N r)) := by
  refine ⟨fun w hw => ?_, Nat.le_trans (flat_le (c := (max N 1) ^ lenR o i r) fun t ht => ?_) (Nat.mul_le_mul_right _ hf.few), fun w hw => ?_⟩
  · obtain ⟨t, ht, hw⟩ := List.mem_flatMap.mp hw
    obtain ⟨x, hx, rfl⟩ := List.mem_map.mp hw
    obtain ⟨a, b, c⟩ := hf.tab t ht
    have q := (rowsr_ok h hN hr a b c hm []).2.word x hx
    refine ⟨by rw [List.length_append, a]; rfl, fun y hy => ?_, fun _ => ?_⟩
    · rcases List.mem_append.mp hy with hy | hy
      · exact b y hy
      · rw [List.mem_singleton.mp hy]
        exact q.2
    · rw [List.getLast?_append]
      exact q.1
  · obtain ⟨a, b, c⟩ := hf.tab t ht
    have q := (rowsr_ok h hN hr a b c hm []).2.few
    unfold extT
    rw [List.length_map]
    exact q
  · obtain ⟨t, ht, hw⟩ := List.mem_flatMap.mp hw
    obtain ⟨x, hx, rfl⟩ := List.mem_map.mp hw
    obtain ⟨a, b, c⟩ := hf.tab t ht
    have q := (rowsr_ok h hN hr a b c hm []).2.word x hx
    intro y hy
    rcases List.mem_append.mp hy with hy | hy
    · exact hf.wid t ht y hy
    · rw [List.mem_singleton.mp hy, q.1]
      have o1 := outer_bd h r
      have f1 := first_bd h (r : Nat)
      unfold lenR
      omega
theorem tb_inner {r : Nat} (hr : r < o.length) (hr9 : r ≤ 9) {t : List (List Int)} (tl : t.length = r) (tv : ∀ x ∈ t, ∀ v ∈ x, 0 ≤ v ∧ v ≤ 100) (tz : 0 < r → (t.getLast?.getD []).length = lenR o i (r - 1)) (hm : (max N 1) ^ lenR o i r ≤ 1000) {x2 x6 : Option PV} {X : Sto} {ds : List PyData} (hl : ds.length ≤ 1000) :
    ∃ y6, tbI (tbR o i N x2 (some (.d (.int (r : Nat)))) (some (.c X.length)) (some (.d (tabD t))) x6) (X ++ [.l ds]) = some (.nx (tbR o i N x2 (some (.d (.int (r : Nat)))) (some (.c X.length)) (some (.d (tabD t))) y6) (X ++ [.l (ds ++ (extT o i N r t).map tabD)])) := by
  have s1 : sSet 6 (mIf (asB (mOp fGt (mVar 3) (mC (.int (0))))) (mOp fIx (mVar 5) (mUn fNeg (mC (.int (1))))) (mTup mNil)) (tbR o i N x2 (some (.d (.int (r : Nat)))) (some (.c X.length)) (some (.d (tabD t))) x6) (X ++ [.l ds]) = some (.nx (tbR o i N x2 (some (.d (.int (r : Nat)))) (some (.c X.length)) (some (.d (tabD t))) (some (.d (itp (abvP r t))))) (X ++ [.l ds])) := by
    refine sSet_of (v := .d (itp (abvP r t))) ?_
    have g : asB (mOp fGt (mVar 3) (mC (.int (0)))) (tbR o i N x2 (some (.d (.int (r : Nat)))) (some (.c X.length)) (some (.d (tabD t))) x6) (X ++ [.l ds]) = some (decide (((r : Nat) : Int) > 0), X ++ [.l ds]) := asB_of (mOp_of rfl rfl (fGt_int _ _ _))
    unfold abvP
    by_cases q : ((r : Nat) : Int) > 0
    · rw [decide_eq_true q] at g
      rw [if_pos q]
      refine (mIf_t g).trans ?_
      rcases List.eq_nil_or_concat t with rfl | ⟨L, d, rfl⟩
      · rw [List.length_nil] at tl
        omega
      · rw [List.concat_eq_append] at *
        refine mOp_of (x := .d (tabD (L ++ [d]))) (y := .d (.int (-1))) rfl rfl ?_
        show (atI ((L ++ [d]).map itp) (-1)).map PV.d = _
        rw [List.map_append, show [d].map itp = [itp d] from rfl, DN.atI_last, List.getLast?_append]
        rfl
    · rw [decide_eq_false q] at g
      rw [if_neg q]
      exact (mIf_f g).trans rfl
  have R := rowsr_ok h hN hr tl tv tz hm
  refine ⟨some (.d (itp (abvP r t))), (sSeq_nx s1).trans ?_⟩
  have few := (R []).2.few
  refine extend_last rfl ?_ (by
    unfold extT
    rw [List.length_map, List.length_map]
    omega)
  rw [mLc_map (S1 := X ++ [.l ds]) (xs := (skewRows o i (r : Int) (abvP r t) (N : Int)).map itp) (f := fun d => tabD (t ++ [rowD d])) (mSeq_list (mFn_of (n := 4) (vs := [.d (skD o i), .d (.int (r : Nat)), .d (itp (abvP r t)), .d (.int (N : Nat))]) rfl rfl (R _).1)) (by rw [List.length_map]; omega) fun x hx => by
    obtain ⟨v, hv, rfl⟩ := List.mem_map.mp hx
    refine ⟨[some (.d (skD o i)), some (.d (.int (N : Nat))), x2, some (.d (.int (r : Nat))), some (.c X.length), some (.d (tabD t)), some (.d (itp (abvP r t))), some (.d (itp v))], rfl, fun E => ?_⟩
    refine mOp_of (x := .d (tabD t)) (y := .d (.tuple [itp v])) rfl (mTup_of (vs := [.d (itp v)]) (ds := [itp v]) rfl rfl (by show 1 ≤ 1000; decide)) ?_
    show (if (t.map itp).length + [itp v].length ≤ 1000000 then some (PV.d (.tuple (t.map itp ++ [itp v]))) else none) = some (PV.d (tabD (t ++ [rowD (itp v)])))
    rw [if_pos (by rw [List.length_map, List.length_singleton]; omega), rowD_itp]
    show _ = some (PV.d (.tuple ((t ++ [v]).map itp)))
    rw [List.map_append]
    rfl]
  unfold extT
  rw [List.map_map, List.map_map]
  congr 2
  apply List.map_congr_left
  intro v _
  show tabD (t ++ [rowD (itp v)]) = _
  rw [rowD_itp]
  rfl
theorem tb_step {r m : Nat} (hr : r < o.length) {found : List (List (List Int))} (hf : TbOk o i r m found) (hm : m * (max N 1) ^ lenR o i r ≤ 1000) (m1 : 1 ≤ m) {x4 x5 x6 : Option PV} {A : Sto} :
    ∃ y4 y5 y6, tbB (tbR o i N (some (.c A.length)) (some (.d (.int (r : Nat)))) x4 x5 x6) (A ++ [.l (found.map tabD)]) = some (.nx (tbR o i N (some (.c (A ++ [Cell.l (found.map tabD)]).length)) (some (.d (.int (r : Nat)))) y4 y5 y6) (A ++ [.l (found.map tabD)] ++ [.l ((found.flatMap (extT o i N r)).map tabD)])) := by
  let X : Sto := A ++ [.l (found.map tabD)]
  have hr9 : r ≤ 9 := by have := h.hi; omega
  have hp : (max N 1) ^ lenR o i r ≤ 1000 := Nat.le_trans (Nat.le_mul_of_pos_left _ (by omega)) hm
  have hp1 : 1 ≤ (max N 1) ^ lenR o i r := Nat.pow_pos (by omega)
  have few : found.length ≤ 1000 := Nat.le_trans hf.few (Nat.le_trans (Nat.le_mul_of_pos_right _ hp1) hm)
  let I : Nat → RE → Sto → Prop := fun k ρ S => S = X ++ [.l (((found.take k).flatMap (extT o i N r)).map tabD)] ∧ ∃ y5 y6, ρ = tbR o i N (some (.c A.length)) (some (.d (.int (r : Nat)))) (some (.c X.length)) y5 y6
  obtain ⟨ρ', S', e, i1⟩ := forC_list (j := A.length) (tgt := gN 5) (body := tbI) (l := found.map tabD) I (fun k ρ S hI => by
    rw [hI.1]
    show lAt (A ++ [Cell.l (found.map tabD)] ++ _) A.length = _
    refine lAt_some.mpr ?_
    rw [List.append_assoc, List.getElem?_append_right (Nat.le_refl _), Nat.sub_self]
    rfl) (fun k x hx ρ S hI => by
    obtain ⟨rfl, y5, y6, rfl⟩ := hI
    rw [List.getElem?_map] at hx
    obtain ⟨t, ht, rfl⟩ := Option.map_eq_some_iff.mp hx
    obtain ⟨tl, tv, tz⟩ := hf.tab t (List.mem_of_getElem? ht)
    have dl : (((found.take k).flatMap (extT o i N r)).map tabD).length ≤ 1000 := by
      rw [List.length_map]
      refine Nat.le_trans (flat_le (c := (max N 1) ^ lenR o i r) fun w hw => ?_) (Nat.le_trans (Nat.mul_le_mul_right _ (show (found.take k).length ≤ m by rw [List.length_take]; have := hf.few; omega)) hm)
      obtain ⟨a, b, c⟩ := hf.tab w (List.mem_of_mem_take hw)
      unfold extT
      rw [List.length_map]
      exact (rowsr_ok h hN hr a b c hp []).2.few
    obtain ⟨z6, es⟩ := tb_inner h hN hr hr9 tl tv tz hp (x2 := some (.c A.length)) (x6 := y6) (X := X) dl
    refine ⟨tbR o i N (some (.c A.length)) (some (.d (.int (r : Nat)))) (some (.c X.length)) (some (.d (tabD t))) y6, _, _, rfl, es, ?_, some (.d (tabD t)), z6, rfl⟩
    rw [take_fm ht, List.map_append]) 100000 0 (tbR o i N (some (.c A.length)) (some (.d (.int (r : Nat)))) (some (.c X.length)) x5 x6) (X ++ [.l []]) (by rw [List.length_map]; omega) (Nat.zero_le _) ⟨rfl, x5, x6, rfl⟩
  obtain ⟨rfl, y5, y6, rfl⟩ := i1
  rw [List.length_map, List.take_length] at e
  refine ⟨some (.c X.length), y5, y6, ?_⟩
  refine (sSeq_nx (show sOwn 4 (mLst mNil) (tbR o i N (some (.c A.length)) (some (.d (.int (r : Nat)))) x4 x5 x6) X = some (.nx (tbR o i N (some (.c A.length)) (some (.d (.int (r : Nat)))) (some (.c X.length)) x5 x6) (X ++ [.l []])) from rfl)).trans ?_
  refine (sSeq_nx ((sForC_of (j := A.length) rfl).trans e)).trans ?_
  rfl
theorem tb_go : ∀ (k r m : Nat) (found : List (List (List Int))) (A : Sto) (x3 x4 x5 x6 : Option PV), r + k = o.length → TbOk o i r m found → 1 ≤ m → m * (max N 1) ^ sumL o i r k ≤ 1000 →
    ∃ (B : Sto) (y3 y4 y5 y6 : Option PV), forGo (gN 3) tbB ((iota (r : Int) (o.length : Nat)).map .int) (tbR o i N (some (.c A.length)) x3 x4 x5 x6) (A ++ [.l (found.map tabD)]) = some (.nx (tbR o i N (some (.c (A ++ B).length)) y3 y4 y5 y6) (A ++ B ++ [.l (((iota (r : Int) (o.length : Nat)).foldl (fun f r => f.flatMap (extT o i N r.toNat)) found).map tabD)])) ∧ TbOk o i o.length 1000 ((iota (r : Int) (o.length : Nat)).foldl (fun f r => f.flatMap (extT o i N r.toNat)) found)
  | 0, r, m, found, A, x3, x4, x5, x6, hr, hf, m1, hm => by
    have e : iota (r : Int) (o.length : Nat) = [] := by
      unfold iota
      rw [show (((o.length : Nat) : Int) - (r : Int)).toNat = 0 by omega]
      rfl
    rw [e]
    refine ⟨[], x3, x4, x5, x6, by rw [List.append_nil]; rfl, ?_⟩
    rw [show o.length = r by omega]
    refine ⟨hf.tab, Nat.le_trans hf.few ?_, hf.wid⟩
    unfold sumL at hm
    rw [Nat.pow_zero, Nat.mul_one] at hm
    exact hm
  | k + 1, r, m, found, A, x3, x4, x5, x6, hr, hf, m1, hm => by
    have es : sumL o i r (k + 1) = lenR o i r + sumL o i (r + 1) k := rfl
    rw [es, Nat.pow_add, ← Nat.mul_assoc] at hm
    have p1 : 1 ≤ (max N 1) ^ sumL o i (r + 1) k := Nat.pow_pos (by omega)
    have p2 : 1 ≤ (max N 1) ^ lenR o i r := Nat.pow_pos (by omega)
    have hm1 : m * (max N 1) ^ lenR o i r ≤ 1000 := Nat.le_trans (Nat.le_mul_of_pos_right _ p1) hm
    have hp : (max N 1) ^ lenR o i r ≤ 1000 := Nat.le_trans (Nat.le_mul_of_pos_left _ (by omega)) hm1
    obtain ⟨z4, z5, z6, st⟩ := tb_step h hN (r := r) (by omega) hf hm1 m1 (x4 := x4) (x5 := x5) (x6 := x6) (A := A)
    obtain ⟨B, y3, y4, y5, y6, e2, t2⟩ := tb_go k (r + 1) (m * (max N 1) ^ lenR o i r) (found.flatMap (extT o i N r)) (A ++ [.l (found.map tabD)]) (some (.d (.int (r : Nat)))) z4 z5 z6 (by omega) (ext_tb h hN (by omega) hf hp) (Nat.le_trans m1 (Nat.le_mul_of_pos_right _ p2)) hm
    have ec : ((r + 1 : Nat) : Int) = (r : Int) + 1 := by omega
    rw [ec] at e2 t2
    rw [iota_cons (a := (r : Int)) (b := (o.length : Nat)) (by omega)]
    refine ⟨[.l (found.map tabD)] ++ B, y3, y4, y5, y6, ?_, ?_⟩
    · rw [List.map_cons]
      refine (for_nx (ρ1 := tbR o i N (some (.c A.length)) (some (.d (.int (r : Nat)))) x4 x5 x6) rfl st).trans ?_
      rw [← List.append_assoc]
      exact e2
    · exact t2
end
theorem fold_eq (o i : List Int) (N : Nat) : (iota 0 (o.length : Nat)).foldl (fun f r => f.flatMap (extT o i N r.toNat)) [[]] = lawTab o i (N : Int) := by
  unfold lawTab
  have : ∀ (l : List Int) (a : List (List (List Int))), (∀ x ∈ l, 0 ≤ x) → l.foldl (fun f r => f.flatMap (extT o i N r.toNat)) a = l.foldl (fun found r => found.flatMap fun t => (skewRows o i r (if r > 0 then t.getLast?.getD [] else []) (N : Int)).map fun x => t ++ [x]) a := fun l => by
    induction l with
    | nil => exact fun _ _ => rfl
    | cons x l ih =>
      intro a hx
      have x0 := hx x List.mem_cons_self
      rw [List.foldl_cons, List.foldl_cons, ih _ fun y hy => hx y (List.mem_cons_of_mem _ hy)]
      congr 2
      funext t
      unfold extT abvP
      rw [show ((x.toNat : Nat) : Int) = x by omega]
  exact this _ _ fun x hx => (iota_mem hx).1
theorem lawTab_ok {o i : List Int} (h : Sk9 o i) {N : Nat} (hN : N ≤ 100) (hm : (max N 1) ^ sumL o i 0 o.length ≤ 1000) (up : upT (lawTab o i (N : Int)) = true) (S : Sto) : F__law_tables [.d (skD o i), .d (.int (N : Nat))] S = some (.d (.list ((lawTab o i (N : Int)).map tabD)), S) ∧ TbOk o i o.length 1000 (lawTab o i (N : Int)) := by
  obtain ⟨B, y3, y4, y5, y6, e, w⟩ := tb_go h hN o.length 0 1 [[]] S none none none none (by omega) ⟨fun t ht => by rw [List.mem_singleton.mp ht]; exact ⟨rfl, (fun x hx => nomatch hx), fun z => absurd z (by decide)⟩, Nat.le_refl _, fun t ht => by rw [List.mem_singleton.mp ht]; exact fun x hx => nomatch hx⟩ (Nat.le_refl _) (by rw [Nat.one_mul]; exact hm)
  rw [show ((0 : Nat) : Int) = 0 from rfl, fold_eq] at e w
  refine ⟨?_, w⟩
  refine runF_cut (S' := S) (ρ := [some (.d (skD o i)), some (.d (.int (N : Nat))), none, none, none, none, none, none]) (E := B ++ [.l ((lawTab o i (N : Int)).map tabD)]) rfl ?_ rfl
  unfold g__law_tables
  refine (sSeq_nx (show sOwn 2 (mLst (mCons (mTup mNil) mNil)) _ S = some (.nx (tbR o i N (some (.c S.length)) none none none none) (S ++ [.l [.tuple []]])) from rfl)).trans ?_
  have rg : mRng1 (mCall cLen (mCons (mOp fIx (mVar 0) (mC (.int (0)))) mNil)) (tbR o i N (some (.c S.length)) none none none none) (S ++ [.l [.tuple []]]) = some ((iota 0 (o.length : Nat)).map .int, S ++ [.l [.tuple []]]) := rng1_of (j := (o.length : Nat)) (len_itp (a := o) rfl) (by omega) (by have := h.hi; omega)
  refine (sSeq_nx ((sFor_of rg).trans e)).trans ?_
  rw [← List.append_assoc]
  refine sRet_of (mFz_of ?_)
  unfold mSortT
  rw [var_of (x := .c (S ++ B).length) rfl]
  show (((lAt (S ++ B ++ [Cell.l ((lawTab o i (N : Int)).map tabD)]) (S ++ B).length).map PyData.list).bind _) = _
  rw [last_l]
  show ((tabsOf ((lawTab o i (N : Int)).map tabD)).bind _) = _
  rw [tabs_map]
  show (if (decide ((lawTab o i (N : Int)).length < 2) || (lawTab o i (N : Int)).all fun t => !t.isEmpty) = true then some ((DP.sortT (lawTab o i (N : Int))).map itT, S ++ B ++ [Cell.l ((lawTab o i (N : Int)).map tabD)]) else none) = _
  have ne : (decide ((lawTab o i (N : Int)).length < 2) || (lawTab o i (N : Int)).all fun t => !t.isEmpty) = true := by
    cases ho : o with
    | nil => rfl
    | cons x r =>
      rw [← ho]
      refine Bool.or_eq_true_iff.mpr (.inr (List.all_eq_true.mpr fun t ht => ?_))
      have := (w.tab t ht).1
      rw [ho, List.length_cons] at this
      cases t with
      | nil => cases this
      | cons => rfl
  rw [if_pos ne, sort_up up]
  rfl
end Law

set_option synthInstance.maxHeartbeats 0
set_option synthInstance.maxSize 100000
namespace Law
open PySem PySem.Spec PyProof.Rows L2 DK DL DN
/-! contents -/
def contP (N : Nat) (t : List (List Int)) : List Int := (iota 0 (N : Int)).map fun l => ((t.flatten.count l : Nat) : Int)
theorem isum_ints {α : Type} (f : α → Nat) : ∀ l : List α, isum (l.map fun x => PyData.int (f x : Nat)) = (((l.map f).sum : Nat) : Int)
  | [] => rfl
  | x :: l => by
    show ((f x : Nat) : Int) + isum (l.map fun x => PyData.int (f x : Nat)) = _
    rw [isum_ints f l, List.map_cons, List.sum_cons]
    omega
theorem count_it {mo mi : DL.M} {ρ : RE} {S : Sto} {ns : List Int} {k : Int} (ho : mo ρ S = some (.d (itp ns), S)) (hi : mi ρ S = some (.d (.int k), S)) : mCount mo mi ρ S = some (.d (.int (ns.count k : Nat)), S) := by
  unfold mCount
  rw [ho]
  show ((mi ρ S).bind _) = _
  rw [hi]
  show ((intsOf (ns.map PyData.int)).bind _) = _
  rw [intsOf_map]
  rfl
theorem content_ok {N : Nat} (hN : N ≤ 100) (t : List (List Int)) (S : Sto) : F_content_of [.d (.int (N : Nat)), .d (tabD t)] S = some (.d (itp (contP N t)), S) := by
  refine runF_of (ρ := [some (.d (.int (N : Nat))), some (.d (tabD t)), none, none]) rfl ?_ (Nat.le_refl _)
  unfold g_content_of
  refine sRet_of ?_
  have q := tupG_map (mi := mRng1 (mVar 0)) (vs := [2]) (tgt := gN 2) (te := mSumG (mSeq (mVar 1)) [3] (gN 3) bYes (mCount (mVar 3) (mVar 2))) (ρ := [some (.d (.int (N : Nat))), some (.d (tabD t)), none, none]) (S := S) (xs := (iota 0 (N : Int)).map .int) (f := fun d => match d with | .int l => .int ((t.flatten.count l : Nat) : Int) | d => d) (rng1_of (j := (N : Nat)) rfl (by omega) (by omega)) (by rw [List.length_map, iota_len]; omega) fun y hy => by
    obtain ⟨l, _, rfl⟩ := List.mem_map.mp hy
    refine ⟨[some (.d (.int (N : Nat))), some (.d (tabD t)), some (.d (.int l)), none], rfl, ?_⟩
    refine (sumG_of (xs := t.map itp) (p := fun _ => true) (f := fun d => (((rowD d).count l : Nat) : Int)) rfl fun y hy => ?_).trans ?_
    · obtain ⟨v, _, rfl⟩ := List.mem_map.mp hy
      refine ⟨[some (.d (.int (N : Nat))), some (.d (tabD t)), some (.d (.int l)), some (.d (itp v))], rfl, rfl, ?_⟩
      rw [rowD_itp]
      exact count_it rfl rfl
    · rw [List.filter_eq_self.mpr (fun _ _ => rfl), List.map_map]
      show some (PV.d (.int (isum (t.map fun x => PyData.int ((((rowD (itp x)).count l : Nat)) : Int)))), S) = _
      simp only [rowD_itp]
      rw [isum_ints, List.count_flatten]
  rw [q, List.map_map]
  unfold contP
  show _ = some (PV.d (.tuple (((iota 0 (N : Int)).map _).map .int)), S)
  rw [List.map_map]
  rfl
abbrev crR (N : Nat) (t : List (List Int)) (n : Nat) (x3 : Option PV) : RE := [some (.d (.int (N : Nat))), some (.d (tabD t)), some (.c n), x3, none]
theorem cr_go {N : Nat} {t0 : List (List Int)} {A : Sto} : ∀ (t : List (List Int)) (acc : List Int) (x3 : Option PV), acc.length + 9 * t.length ≤ 900 → (∀ x ∈ t, x.length ≤ 9) → ∃ y3,
    forGo (gN 3) (sDrop (mExtT (mVar 2) (mVar 3))) (t.map itp) (crR N t0 A.length x3) (A ++ [.l (acc.map .int)]) = some (.nx (crR N t0 A.length y3) (A ++ [.l ((acc ++ t.flatten).map .int)]))
  | [], acc, x3, _, _ => ⟨x3, by rw [List.flatten_nil, List.append_nil]; rfl⟩
  | x :: t, acc, x3, hl, hx => by
    rw [List.length_cons] at hl
    have xl := hx x List.mem_cons_self
    obtain ⟨y3, e⟩ := cr_go (N := N) (t0 := t0) (A := A) t (acc ++ x) (some (.d (itp x))) (by rw [List.length_append]; omega) fun y hy => hx y (List.mem_cons_of_mem _ hy)
    refine ⟨y3, ?_⟩
    have st : sDrop (mExtT (mVar 2) (mVar 3)) (crR N t0 A.length (some (.d (itp x)))) (A ++ [.l (acc.map .int)]) = some (.nx (crR N t0 A.length (some (.d (itp x)))) (A ++ [.l ((acc ++ x).map .int)])) := by
      refine sDrop_of (v := .d .none) ?_
      show (if (lAt (A ++ [Cell.l (acc.map .int)]) A.length).isSome = true then (lAt (A ++ [Cell.l (acc.map .int)]) A.length).bind _ else none) = _
      rw [last_l]
      show (if (acc.map PyData.int).length + (x.map PyData.int).length ≤ 1000000 then some (PV.d .none, (A ++ [Cell.l (acc.map .int)]).set A.length (.l (acc.map .int ++ x.map .int))) else none) = _
      rw [if_pos (by rw [List.length_map, List.length_map]; omega), last_set, List.map_append]
    rw [List.map_cons, List.flatten_cons, ← List.append_assoc]
    exact (for_nx (ρ1 := crR N t0 A.length (some (.d (itp x)))) rfl st).trans e
theorem okk_ints {s : List Int} {b : Nat} (h : ∀ x ∈ s, 0 ≤ x ∧ x ≤ 1000000) (hl : s.length ≤ b) : Okk 1 (67 * b + 3) (itp s) := by
  have q := okk_tuple (n := 0) (L := 65) (xs := s.map .int) fun x hx => by
    obtain ⟨y, hy, rfl⟩ := List.mem_map.mp hx
    have := h y hy
    refine okk_int64 ?_
    have : (1000001 : Nat) < 2 ^ 64 := by decide
    omega
  rw [List.length_map] at q
  exact q.mono (Nat.le_refl _) (by omega)
theorem contP_okk {N : Nat} (hN : N ≤ 100) {t : List (List Int)} (hl : t.length ≤ 9) (hx : ∀ x ∈ t, x.length ≤ 9) : Okk 1 6703 (itp (contP N t)) := by
  have fl : t.flatten.length ≤ 81 := by
    rw [List.length_flatten]
    have : ∀ l : List (List Int), (∀ x ∈ l, x.length ≤ 9) → (l.map List.length).sum ≤ 9 * l.length := fun l => by
      induction l with
      | nil => exact fun _ => Nat.le_refl _
      | cons a l ih =>
        intro h
        have := ih fun x hx => h x (List.mem_cons_of_mem _ hx)
        have := h a List.mem_cons_self
        rw [List.map_cons, List.sum_cons, List.length_cons]
        omega
    have := this t hx
    omega
  refine okk_ints (b := 100) (fun x hx => ?_) (by unfold contP; rw [List.length_map, iota_len]; omega)
  obtain ⟨l, _, rfl⟩ := List.mem_map.mp hx
  have := List.count_le_length (a := l) (l := t.flatten)
  omega
theorem right_ok {N : Nat} (hN : N ≤ 100) {t : List (List Int)} (hl : t.length ≤ 9) (hx : ∀ x ∈ t, x.length ≤ 9) (S : Sto) : F__law_content_right [.d (.int (N : Nat)), .d (tabD t)] S = some (.d (.bool true), S) := by
  obtain ⟨y3, e⟩ := cr_go (N := N) (t0 := t) (A := S) t [] none (by rw [List.length_nil]; omega) hx
  rw [List.nil_append] at e
  refine runF_cut (S' := S) (ρ := [some (.d (.int (N : Nat))), some (.d (tabD t)), none, none, none]) (E := [.l (t.flatten.map .int)]) rfl ?_ rfl
  unfold g__law_content_right
  refine (sSeq_nx (show sOwn 2 (mLst mNil) _ S = some (.nx (crR N t S.length none) (S ++ [.l []])) from rfl)).trans ?_
  refine (sSeq_nx ((sFor_of (xs := t.map itp) rfl).trans e)).trans ?_
  have ok := contP_okk hN hl hx
  have r1 : mCall cRepr (mCons (mFn 2 F_content_of (mCons (mVar 0) (mCons (mVar 1) mNil))) mNil) (crR N t S.length y3) (S ++ [.l (t.flatten.map .int)]) = some (.d (.str (itp (contP N t)).shown), S ++ [.l (t.flatten.map .int)]) :=
    mCall_of (mCons_of (mFn_of (n := 2) (vs := [.d (.int (N : Nat)), .d (tabD t)]) rfl rfl (content_ok hN t _)) rfl) (ok.repr (by decide) (by decide) _)
  have lc : mLc (mRng1 (mVar 0)) [4] (gN 4) bYes (mCountC (mVar 2) (mVar 4)) (crR N t S.length y3) (S ++ [.l (t.flatten.map .int)]) = some ((contP N t).map .int, S ++ [.l (t.flatten.map .int)]) := by
    have q := mLc_fm (mi := mRng1 (mVar 0)) (vs := [4]) (tgt := gN 4) (tt := bYes) (te := mCountC (mVar 2) (mVar 4)) (ρ := crR N t S.length y3) (S := S ++ [.l (t.flatten.map .int)]) (S1 := S ++ [.l (t.flatten.map .int)]) (xs := (iota 0 (N : Int)).map .int) (p := fun _ => true) (f := fun d => match d with | .int l => .int ((t.flatten.count l : Nat) : Int) | d => d) (rng1_of (j := (N : Nat)) rfl (by omega) (by omega)) (by rw [List.length_map, iota_len]; omega) fun y hy => by
      obtain ⟨l, _, rfl⟩ := List.mem_map.mp hy
      refine ⟨[some (.d (.int (N : Nat))), some (.d (tabD t)), some (.c S.length), y3, some (.d (.int l))], rfl, fun E => ⟨rfl, ?_⟩⟩
      have la : lAt (S ++ [Cell.l (t.flatten.map .int)] ++ [Cell.l E]) S.length = some (t.flatten.map .int) := lAt_some.mpr (by
        rw [List.append_assoc, List.getElem?_append_right (Nat.le_refl _), Nat.sub_self]
        rfl)
      unfold mCountC
      rw [var_of (x := .c S.length) rfl]
      show (if (lAt (S ++ [Cell.l (t.flatten.map .int)] ++ [Cell.l E]) S.length).isSome = true then (lAt (S ++ [Cell.l (t.flatten.map .int)] ++ [Cell.l E]) S.length).bind fun ds => (intsOf ds).bind fun ns => some (PV.d (.int (ns.count l : Nat)), S ++ [Cell.l (t.flatten.map .int)] ++ [Cell.l E]) else none) = _
      rw [la]
      show ((intsOf (t.flatten.map .int)).bind _) = _
      rw [intsOf_map]
      rfl
    rw [q, List.filter_eq_self.mpr (fun _ _ => rfl), List.map_map]
    unfold contP
    rw [List.map_map]
    rfl
  have r2 : mCall cRepr (mCons (mCall cTuple (mCons (mFz (mLc (mRng1 (mVar 0)) [4] (gN 4) bYes (mCountC (mVar 2) (mVar 4)))) mNil)) mNil) (crR N t S.length y3) (S ++ [.l (t.flatten.map .int)]) = some (.d (.str (itp (contP N t)).shown), S ++ [.l (t.flatten.map .int)]) :=
    mCall_of (mCons_of (mCall_of (vs := [.d (.list ((contP N t).map .int))]) (z := .d (itp (contP N t))) (mCons_of (mFz_of lc) rfl) rfl) rfl) (ok.repr (by decide) (by decide) _)
  refine sRet_of (mOp_of r1 r2 ?_)
  rw [fEq_str ok.ok ok.ok, beq_self_eq_true]
/-! lists of tables are shown -/
theorem tab_okk {t : List (List Int)} (hl : t.length ≤ 9) (hx : ∀ x ∈ t, x.length ≤ 9 ∧ ∀ v ∈ x, 0 ≤ v ∧ v ≤ 100) : Okk 2 5475 (tabD t) := by
  have q := okk_tuple (n := 1) (L := 606) (xs := t.map itp) fun x hx' => by
    obtain ⟨y, hy, rfl⟩ := List.mem_map.mp hx'
    have := hx y hy
    exact (okk_ints (b := 9) (fun v hv => by have := this.2 v hv; omega) this.1).mono (Nat.le_refl _) (by decide)
  rw [List.length_map] at q
  exact q.mono (Nat.le_refl _) (by omega)
theorem tabs_okk {ts : List (List (List Int))} (hl : ts.length ≤ 1000) (h : ∀ t ∈ ts, t.length ≤ 9 ∧ ∀ x ∈ t, x.length ≤ 9 ∧ ∀ v ∈ x, 0 ≤ v ∧ v ≤ 100) : Okk 3 5477003 (.list (ts.map tabD)) := by
  have q := okk_list (n := 2) (L := 5475) (xs := ts.map tabD) fun x hx => by
    obtain ⟨y, hy, rfl⟩ := List.mem_map.mp hx
    have := h y hy
    exact tab_okk this.1 this.2
  rw [List.length_map] at q
  exact q.mono (Nat.le_refl _) (by omega)
theorem sk_okk {o i : List Int} (h : Sk9 o i) : Okk 2 1300 (skD o i) := by
  have q := okk_tuple (n := 1) (L := 606) (xs := [itp o, itp i]) fun x hx => by
    rcases List.mem_cons.mp hx with rfl | hx
    · exact (okk_ints (b := 9) (fun v hv => by have := h.ob v hv; omega) h.hi).mono (Nat.le_refl _) (by decide)
    · rw [List.mem_singleton.mp hx]
      exact (okk_ints (b := 9) (fun v hv => by have := h.ib v hv; omega) (Nat.le_trans h.le h.hi)).mono (Nat.le_refl _) (by decide)
  exact q.mono (Nat.le_refl _) (by show 606 * 2 + 2 * 2 + 3 ≤ 1300; decide)
end Law

set_option synthInstance.maxHeartbeats 0
set_option synthInstance.maxSize 100000
namespace Law
open PySem PySem.Spec PyProof.Rows L2 DK DL DN
theorem fDraw : F__law_draw = FDrawD := rfl
theorem drawN {m : Int} (h : 0 < m) (hm : m ≤ 1000000) : FedS F__law_draw [.d (.int m)] (fun d => ∃ r, d = .int r ∧ 0 ≤ r ∧ r < m) 1 := by rw [fDraw]; exact drawDS h hm
theorem perm_sum {a b : List Int} (h : a.Perm b) : a.sum = b.sum := by
  induction h with
  | nil => rfl
  | cons x _ ih => rw [List.sum_cons, List.sum_cons, ih]
  | swap x y l =>
    simp only [List.sum_cons]
    omega
  | trans _ _ h1 h2 => exact h1.trans h2
abbrev condS : MB := asB (mOp fGt (mVar 1) (mC (.int (0))))
abbrev bodyS : MS := (sSeq (sSet 3 (mOp fAdd (mC (.int (1))) (mFn 2 F__law_draw (mCons (mVar 0) (mCons (mVar 1) mNil)))))
    (sSeq (sDrop (mAppend (mVar 2) (mVar 3)))
    (sSet 1 (mOp fSub (mVar 1) (mVar 3)))))
abbrev sρ (j : Nat) (n : Int) (a : Nat) (x3 : Option PV) : RE := [some (.c j), some (iv n), some (.c a), x3]
theorem shape_go {T : Sto} {j : Nat} : ∀ (f m k : Nat) (S : Sto) (ps : List Int) (x3 : Option PV), FeS T j k S → k + m ≤ 99999 → m ≤ 1000 → m < f → ps.length + m ≤ 5000 → (∀ x ∈ ps, 1 ≤ x) →
    ∃ (S' : Sto) (ps' : List Int) (x3' : Option PV), whileGo condS bodyS f (sρ j (m : Nat) T.length x3) (S ++ [Cell.l (ps.map .int)]) = some (.nx (sρ j 0 T.length x3') (S' ++ [Cell.l (ps'.map .int)])) ∧ FeS T j (k + m) S' ∧ (∀ x ∈ ps', 1 ≤ x) ∧ ps'.sum = ps.sum + (m : Nat)
  | 0, m, k, S, ps, x3, _, _, _, hf, _, _ => by omega
  | f + 1, 0, k, S, ps, x3, h, _, _, _, _, hp => by
    refine ⟨S, ps, x3, while_f (c := condS) rfl, h, hp, by simp⟩
  | f + 1, m + 1, k, S, ps, x3, h, h1, h2, hf, hl, hp => by
    have c : condS (sρ j ((m + 1 : Nat) : Int) T.length x3) (S ++ [Cell.l (ps.map .int)]) = some (true, S ++ [Cell.l (ps.map .int)]) := asB_of (mOp_of rfl rfl ((fGt_int _ _ _).trans (by rw [decide_eq_true (by omega)])))
    obtain ⟨r, S1, e, r0, r1, h'⟩ := h.drawD [Cell.l (ps.map .int)] (many := ((m + 1 : Nat) : Int)) (by omega) (by omega) (by omega)
    have e : F__law_draw [.c j, .d (.int ((m + 1 : Nat) : Int))] (S ++ [Cell.l (ps.map .int)]) = some (.d (.int r), S1 ++ [Cell.l (ps.map .int)]) := e
    have b : bodyS (sρ j ((m + 1 : Nat) : Int) T.length x3) (S ++ [Cell.l (ps.map .int)]) = some (.nx (sρ j (((m + 1 - (1 + r).toNat : Nat)) : Int) T.length (some (iv (1 + r)))) (S1 ++ [Cell.l ((ps ++ [1 + r]).map .int)])) := by
      show sSeq _ _ _ _ = _
      rw [sSeq_nx (sSet_of (mOp_of rfl (mFn_of (n := 2) (mCons_of rfl (mCons_of rfl rfl)) rfl e) (z := iv (1 + r)) rfl))]
      show sSeq _ _ (sρ j ((m + 1 : Nat) : Int) T.length (some (iv (1 + r)))) _ = _
      have q := append_mv (a := mVar 2) (b := mVar 3) (ρ := sρ j ((m + 1 : Nat) : Int) T.length (some (iv (1 + r)))) (S := S1) (S' := S1) (n := T.length) (ds := ps.map .int) (y := .int (1 + r)) h'.len h'.len rfl rfl (by rw [List.length_map]; omega)
      rw [sSeq_nx (sDrop_of q)]
      rw [show ((((m + 1 - (1 + r).toNat : Nat)) : Int)) = ((m + 1 : Nat) : Int) - (1 + r) by omega, List.map_append]
      rfl
    obtain ⟨S', ps', x3', e2, f2, p2, s2⟩ := shape_go f (m + 1 - (1 + r).toNat) (k + 1) S1 (ps ++ [1 + r]) (some (iv (1 + r))) h' (by omega) (by omega) (by omega) (by rw [List.length_append, List.length_singleton]; omega) (fun x hx => by
      rcases List.mem_append.mp hx with h | h
      · exact hp x h
      · rw [List.mem_singleton.mp h]
        omega)
    refine ⟨S', ps', x3', ?_, f2.mono (by omega), p2, ?_⟩
    · rw [while_t c b]
      exact e2
    · rw [s2, List.sum_append]
      simp only [List.sum_cons, List.sum_nil]
      omega
theorem shape_fed {n : Nat} (hn : n ≤ 40) : FedS F__law_shape [.d (.int (n : Nat))] (fun d => ∃ sh, d = itp sh ∧ sh.Pairwise (· ≥ ·) ∧ (∀ x ∈ sh, 1 ≤ x) ∧ sh.sum = (n : Nat)) n := fun {T j k S} E f hk => by
  have len : ∀ {k : Nat} {S : Sto}, FeS T j k S → FeS (T ++ E) j k (S ++ E) := fun {k S} f => by
    obtain ⟨a, b, ms, i, q, t, c, d, e⟩ := f
    have hj : j < S.length := (List.getElem?_eq_some_iff.mp c).1
    refine ⟨by rw [List.length_append, List.length_append, a], fun i hi => ?_, ms, i, q, t, by rw [List.getElem?_append_left hj]; exact c, d, e⟩
    by_cases hl : i < S.length
    · rw [List.getElem?_append_left hl, List.getElem?_append_left (by omega), b i hi]
    · rw [List.getElem?_append_right (by omega), List.getElem?_append_right (by omega), a]
  have back : ∀ {k : Nat} {X : Sto}, FeS (T ++ E) j k X → j < T.length → ∃ S', X = S' ++ E ∧ FeS T j k S' := fun {k X} f hj => by
    obtain ⟨a, b, ms, i, q, t, c, d, e⟩ := f
    rw [List.length_append] at a
    have hd : X.drop T.length = E := by
      apply List.ext_getElem?
      intro i
      rw [List.getElem?_drop, b _ (by omega), List.getElem?_append_right (by omega), Nat.add_sub_cancel_left]
    have hx : X = X.take T.length ++ E := by
      have := List.take_append_drop T.length X
      rw [hd] at this
      exact this.symm
    refine ⟨X.take T.length, hx, by rw [List.length_take]; omega, fun i hi => ?_, ms, i, q, t, by rw [List.getElem?_take, if_pos hj]; exact c, d, e⟩
    rw [List.getElem?_take]
    split
    · rename_i hl
      rw [b i hi, List.getElem?_append_left hl]
    · rw [List.getElem?_eq_none (by omega)]
  have hj : j < T.length := by
    obtain ⟨a, b, ms, i, q, t, c, d, e⟩ := f
    rw [← a]
    exact (List.getElem?_eq_some_iff.mp c).1
  obtain ⟨S', ps, x3, e, f2, p2, s2⟩ := shape_go 50 n k (S ++ E) [] none (len f) (by omega) (by omega) (by omega) (by show 0 + n ≤ 5000; omega) (fun x hx => nomatch hx)
  obtain ⟨S2, rfl, f3⟩ := back f2 hj
  refine ⟨itp (sortDn ps), S2, ?_, ⟨_, rfl, sortDn_dn ps, fun x hx => p2 x ((sortDn_perm ps).subset hx), ?_⟩, f3⟩
  · have hT : (T ++ E).length = (S ++ E).length := (len f).len.symm
    have hU : (S2 ++ E).length = (T ++ E).length := f2.len
    refine runF_cut (ρ := [some (.c j), some (iv (n : Nat)), none, none]) (E := [Cell.l (ps.map .int)]) rfl ?_ (by rw [hU, hT])
    unfold g__law_shape
    rw [sSeq_nx (sOwn_of (ds := []) (S1 := S ++ E) rfl)]
    show sSeq (sWhile (fun _ _ => 50) condS bodyS) _ (sρ j (n : Nat) (S ++ E).length none) (S ++ E ++ [Cell.l []]) = _
    rw [← hT]
    have w : sWhile (fun _ _ => 50) condS bodyS (sρ j (n : Nat) (T ++ E).length none) (S ++ E ++ [Cell.l []]) = _ := e
    rw [sSeq_nx w]
    have so : mSortRv (mVar 2) (sρ j 0 (T ++ E).length x3) (S2 ++ E ++ [Cell.l (ps.map .int)]) = some ((sortDn ps).map .int, S2 ++ E ++ [Cell.l (ps.map .int)]) := by
      unfold mSortRv
      rw [var_of (x := .c (T ++ E).length) rfl, Option.bind_some]
      show (match (lAt (S2 ++ E ++ [Cell.l (ps.map PyData.int)]) (T ++ E).length).map PyData.list with
        | some (.list xs) => _
        | some (.tuple xs) => _
        | _ => none) = _
      rw [← hU, last_l]
      show (intsOf (ps.map .int)).bind _ = _
      rw [intsOf_map]
      rfl
    exact sRet_of (mCall_of (mCons_of (mFz_of so) rfl) rfl)
  · rw [perm_sum (sortDn_perm ps), s2]
    simp

theorem parts_bd : ∀ {sh : List Int}, (∀ x ∈ sh, 1 ≤ x) → (sh.length : Int) ≤ sh.sum ∧ ∀ x ∈ sh, x ≤ sh.sum
  | [], _ => ⟨Int.le_refl 0, fun x hx => nomatch hx⟩
  | y :: r, h => by
    obtain ⟨h1, h2⟩ := parts_bd (sh := r) fun x hx => h x (List.mem_cons_of_mem _ hx)
    have h3 := h y List.mem_cons_self
    rw [List.sum_cons, List.length_cons]
    refine ⟨by omega, fun x hx => ?_⟩
    rcases List.mem_cons.mp hx with rfl | hx
    · omega
    · have := h2 x hx
      omega
theorem lcC_filt {m : DL.M} {vs : List Nat} {tgt : TgD} {tt : MB} {te : DL.M} {ρ : RE} {S : Sto} {j : Nat} {l : List PyData} {p : PyData → Bool} (hm : m ρ S = some (.c j, S)) (hj : lAt S j = some l) (hl : l.length ≤ 1000000) (h : ∀ x ∈ l, ∃ ρ1, tgt x (wipeR ρ vs) = some ρ1 ∧ ∀ S, tt ρ1 S = some (p x, S) ∧ te ρ1 S = some (.d x, S)) :
    mLcC m vs tgt tt te ρ S = some (l.filter p, S) := by
  have hj' : ∀ ds, lAt (S ++ [Cell.l ds]) j = some l := fun ds => by
    have hjl : j < S.length := (List.getElem?_eq_some_iff.mp (lAt_some.mp hj)).1
    exact lAt_some.mpr (by rw [List.getElem?_append_left hjl]; exact lAt_some.mp hj)
  have go : ∀ (f' i : Nat), l.length < f' + i → i ≤ l.length → lcGoC S.length j tgt tt te (wipeR ρ vs) f' i (S ++ [Cell.l ((l.take i).filter p)]) = some (S ++ [Cell.l (l.filter p)]) := by
    intro f'
    induction f' with
    | zero =>
      intro i h1 h2
      omega
    | succ f' ih =>
      intro i h1 h2
      unfold lcGoC
      rw [hj']
      show (match l[i]? with | none => _ | some x => _) = _
      cases e : l[i]? with
      | none =>
        have : l.length ≤ i := List.getElem?_eq_none_iff.mp e
        rw [List.take_of_length_le this]
      | some x =>
        obtain ⟨ρ1, e1, e2⟩ := h x (List.mem_of_getElem? e)
        have il := (List.getElem?_eq_some_iff.mp e).1
        show (tgt x (wipeR ρ vs)).bind _ = _
        rw [e1]
        show (tt ρ1 _).bind _ = _
        rw [(e2 _).1]
        have st : (l.take (i + 1)).filter p = (l.take i).filter p ++ [x].filter p := by rw [List.take_add_one, e, List.filter_append]; rfl
        cases hp : p x with
        | false =>
          show lcGoC S.length j tgt tt te (wipeR ρ vs) f' (i + 1) (S ++ [Cell.l ((l.take i).filter p)]) = _
          rw [List.filter_cons_of_neg (by rw [hp]; decide), List.filter_nil, List.append_nil] at st
          rw [← st]
          exact ih (i + 1) (by omega) (by omega)
        | true =>
          show (te ρ1 (S ++ [Cell.l ((l.take i).filter p)])).bind _ = _
          rw [(e2 _).2]
          show (pushAt S.length x (S ++ [Cell.l ((l.take i).filter p)])).bind _ = _
          have hq : pushAt S.length x (S ++ [Cell.l ((l.take i).filter p)]) = some (S ++ [Cell.l ((l.take (i + 1)).filter p)]) := by
            unfold pushAt
            rw [last_l]
            show (if ((l.take i).filter p).length < 1000000 then _ else none) = _
            have := List.length_filter_le p (l.take i)
            rw [if_pos (by rw [List.length_take] at this; omega)]
            show some ((S ++ [Cell.l ((l.take i).filter p)]).set S.length (Cell.l ((l.take i).filter p ++ [x]))) = _
            rw [last_set, st, List.filter_cons_of_pos hp]
            rfl
          rw [hq]
          exact ih (i + 1) (by omega) (by omega)
  unfold mLcC
  rw [hm]
  show (lAt S j).bind _ = _
  rw [hj]
  show (lcGoC S.length j tgt tt te (wipeR ρ vs) (l.length + 1) 0 (S ++ [Cell.l []])).bind _ = _
  have := go (l.length + 1) 0 (by omega) (Nat.zero_le _)
  rw [List.take_zero] at this
  rw [show ([] : List PyData) = List.filter p [] from rfl, this]
  show (lAt (S ++ [Cell.l (l.filter p)]) S.length).bind _ = _
  rw [last_l]
  show some (_, (S ++ [Cell.l (l.filter p)]).take S.length) = _
  rw [List.take_left]
def partsF : Nat → Nat → Nat → List (List Int)
  | _, 0, _ => [[]]
  | 0, _, _ => []
  | f + 1, n, m => (List.range (min n m)).flatMap fun i => (partsF f (n - (i + 1)) (i + 1)).map fun r => (((i + 1 : Nat) : Int)) :: r
/-! ### every falling row of positive numbers is among the parts -/
theorem parts_mem : ∀ (sh : List Int) (f n m : Nat), sh.Pairwise (· ≥ ·) → (∀ x ∈ sh, 1 ≤ x) → sh.sum = (n : Nat) → (∀ x ∈ sh, x ≤ (m : Nat)) → n ≤ f → sh ∈ partsF f n m
  | [], f, n, m, _, _, hs, _, _ => by
    have : n = 0 := by
      have : (0 : Int) = (n : Nat) := hs
      omega
    subst this
    cases f <;> exact List.mem_singleton.mpr rfl
  | p :: r, f, n, m, hw, h1, hs, hm, hf => by
    obtain ⟨w1, w2⟩ := List.pairwise_cons.mp hw
    have p1 := h1 p List.mem_cons_self
    have pm := hm p List.mem_cons_self
    have r0 : 0 ≤ r.sum := by
      have : ∀ l : List Int, (∀ x ∈ l, 1 ≤ x) → 0 ≤ l.sum := fun l => by
        induction l with
        | nil => exact fun _ => Int.le_refl 0
        | cons a l ih =>
          intro h
          rw [List.sum_cons]
          have := h a List.mem_cons_self
          have := ih fun x hx => h x (List.mem_cons_of_mem _ hx)
          omega
      exact this r fun x hx => h1 x (List.mem_cons_of_mem _ hx)
    rw [List.sum_cons] at hs
    obtain ⟨n', rfl⟩ : ∃ n', n = n' + 1 := ⟨n - 1, by omega⟩
    obtain ⟨f', rfl⟩ : ∃ f', f = f' + 1 := ⟨f - 1, by omega⟩
    have ih := parts_mem r f' (n' + 1 - ((p - 1).toNat + 1)) ((p - 1).toNat + 1) w2 (fun x hx => h1 x (List.mem_cons_of_mem _ hx)) (by omega) (fun x hx => by have := w1 x hx; omega) (by omega)
    refine List.mem_flatMap.mpr ⟨(p - 1).toNat, List.mem_range.mpr (by omega), List.mem_map.mpr ⟨r, ih, ?_⟩⟩
    rw [show ((((p - 1).toNat + 1 : Nat)) : Int) = p by omega]

theorem parts9 : (List.range 10).all (fun n => (partsF 9 n n).all fun s => S9.contains s) = true := by decide +kernel
theorem sum0 : ∀ l : List Int, (∀ x ∈ l, 0 ≤ x) → 0 ≤ l.sum
  | [], _ => Int.le_refl 0
  | a :: l, h => by
    have := sum0 l fun x hx => h x (List.mem_cons_of_mem _ hx)
    have := h a List.mem_cons_self
    rw [List.sum_cons]
    omega
theorem mem9 {sh : List Int} (h1 : sh.Pairwise (· ≥ ·)) (h2 : ∀ x ∈ sh, 1 ≤ x) (h3 : sh.sum ≤ 9) : sh ∈ S9 := by
  have s0 := sum0 sh fun x hx => by have := h2 x hx; omega
  have le := (parts_bd h2).2
  have m := parts_mem sh 9 sh.sum.toNat sh.sum.toNat h1 h2 (by omega) (fun x hx => by have := le x hx; omega) (by omega)
  have q := List.all_eq_true.mp parts9 sh.sum.toNat (List.mem_range.mpr (by omega))
  have r := List.all_eq_true.mp q sh m
  simpa using r
abbrev lastM (a b : Nat) : DL.M := mFz (mOpL fCatL (mFz (mLst (mCons (mVar b) mNil))) (mFz (mSlL (mVar a) (oSome (mUn fNeg (mC (.int (1))))) oNone)))
theorem min1 {a b n : Nat} {ρ : RE} {S : Sto} {v : Int} {ns : List Int} (hb : ρ[b]? = some (some (iv v))) (ha : ρ[a]? = some (some (.c n))) (hn : lAt S n = some (ns.map .int)) : mCall cMinL (mCons (lastM a b) mNil) ρ S = some (iv (mostOf v ns), S) := by
  have as : asD S (.c n) = some (.list (ns.map .int)) := by
    show (lAt S n).map PyData.list = _
    rw [hn]
    rfl
  have sl : mFz (mSlL (mVar a) (oSome (mUn fNeg (mC (.int (1))))) oNone) ρ S = some (.d (.list ((lastL ns).map .int)), S) := by
    refine mFz_of ?_
    unfold mSlL
    rw [var_of ha, Option.bind_some]
    show (match asD S (.c n) with
      | some (.list xs) => some (cut xs (some (-1)) none, S)
      | _ => none) = _
    rw [as, ← cut_last]
  have ct : lastM a b ρ S = some (.d (.list ((v :: lastL ns).map .int)), S) := by
    refine mFz_of (mOpL_of (x := .d (.list [.int v])) (mFz_of (mLst_of (vs := [iv v]) (mCons_of (var_of hb) rfl) rfl (by show 1 ≤ 1000; decide))) sl ?_)
    show (if [PyData.int v].length + ((lastL ns).map PyData.int).length ≤ 1000000 then some ([PyData.int v] ++ (lastL ns).map .int) else none) = _
    have : (lastL ns).length ≤ 1 := by
      unfold lastL
      split <;> simp
    rw [if_pos (by rw [List.length_map, List.length_singleton]; omega)]
    rfl
  refine mCall_of (mCons_of ct rfl) ?_
  show ((intsOf ((v :: lastL ns).map .int)).bind fun ns => match ns with
    | [] => none
    | n :: r => some (PV.d (.int (minL n r)))) = _
  rw [intsOf_map]
  rfl
/-- the inner row so far -/
structure InOk (os ns : List Int) : Prop where
  dn : ns.Pairwise (· ≥ ·)
  nn : ∀ x ∈ ns, 0 ≤ x
  le : ∀ k : Nat, ns.getD k 0 ≤ os.getD k 0
theorem InOk.most {os ns : List Int} (h : InOk os ns) {v : Int} (v1 : 1 ≤ v) : 0 ≤ mostOf v ns ∧ mostOf v ns ≤ v ∧ ∀ x ∈ ns, mostOf v ns ≤ x := by
  rcases List.eq_nil_or_concat ns with rfl | ⟨L, d, rfl⟩
  · exact ⟨by show 0 ≤ v; omega, by show v ≤ v; omega, fun x hx => nomatch hx⟩
  · rw [List.concat_eq_append] at *
    rw [mostOf_snoc]
    have d0 := h.nn d (by simp)
    have p := (List.pairwise_append.mp h.dn).2.2
    refine ⟨by split <;> omega, by split <;> omega, fun x hx => ?_⟩
    have : d ≤ x := by
      rcases List.mem_append.mp hx with hx | hx
      · exact p x hx d (by simp)
      · rw [List.mem_singleton.mp hx]
        exact Int.le_refl _
    split <;> omega
theorem InOk.snoc {os ps xs ns : List Int} {x r : Int} (h : InOk os ns) (ho : os = ps ++ x :: xs) (hl : ns.length = ps.length) (x1 : 1 ≤ x) (r0 : 0 ≤ r) (r1 : r ≤ mostOf x ns) : InOk os (ns ++ [r]) := by
  obtain ⟨m0, m1, m2⟩ := h.most x1
  refine ⟨List.pairwise_append.mpr ⟨h.dn, List.pairwise_singleton _ _, fun a ha b hb => ?_⟩, fun y hy => ?_, fun k => ?_⟩
  · rw [List.mem_singleton.mp hb]
    have := m2 a ha
    show r ≤ a
    omega
  · rcases List.mem_append.mp hy with hy | hy
    · exact h.nn y hy
    · rw [List.mem_singleton.mp hy]
      exact r0
  · have hk := h.le k
    by_cases hlt : k < ns.length
    · rw [List.getD_eq_getElem?_getD] at hk ⊢
      rw [List.getElem?_append_left hlt]
      exact hk
    · by_cases he : k = ns.length
      · subst he
        rw [List.getD_eq_getElem?_getD, List.getElem?_append_right (Nat.le_refl _), Nat.sub_self, hl, ho, List.getD_eq_getElem?_getD, List.getElem?_append_right (Nat.le_refl _), Nat.sub_self]
        show r ≤ x
        omega
      · rw [List.getD_eq_getElem?_getD, List.getElem?_eq_none (by rw [List.length_append, List.length_singleton]; omega)]
        rw [List.getD_eq_getElem?_getD, List.getElem?_eq_none (by omega)] at hk
        exact hk
theorem filt_le : ∀ {ns : List Int} (k : Nat), ns.Pairwise (· ≥ ·) → (∀ x ∈ ns, 0 ≤ x) → (ns.filter fun x => decide (x > 0)).getD k 0 ≤ ns.getD k 0
  | [], k, _, _ => Int.le_refl _
  | a :: l, k, h, h0 => by
    obtain ⟨h1, h2⟩ := List.pairwise_cons.mp h
    have a0 := h0 a List.mem_cons_self
    have n0 := fun x hx => h0 x (List.mem_cons_of_mem _ hx)
    by_cases q : a > 0
    · rw [List.filter_cons_of_pos (by simpa using q)]
      cases k with
      | zero => exact Int.le_refl _
      | succ k => exact filt_le (ns := l) k h2 n0
    · have e : l.filter (fun x => decide (x > 0)) = [] := List.filter_eq_nil_iff.mpr fun x hx => by
        have : x ≤ a := h1 x hx
        simp only [decide_eq_true_eq]
        omega
      rw [List.filter_cons_of_neg (by simpa using q), e]
      show (0 : Int) ≤ _
      exact (at_bd (w := a :: l) (b := a) a0 (fun x hx => ⟨h0 x hx, by
        rcases List.mem_cons.mp hx with rfl | hx
        · exact Int.le_refl _
        · exact h1 x hx⟩) k).1
theorem sum_le : ∀ {i o : List Int}, i.length ≤ o.length → (∀ x ∈ o, 0 ≤ x) → (∀ k : Nat, i.getD k 0 ≤ o.getD k 0) → i.sum ≤ o.sum
  | [], o, _, h, _ => sum0 o h
  | a :: i, [], h, _, _ => by
    rw [List.length_cons] at h
    cases h
  | a :: i, b :: o, h, h0, hk => by
    have ih := sum_le (i := i) (o := o) (by simpa using h) (fun x hx => h0 x (List.mem_cons_of_mem _ hx)) fun k => hk (k + 1)
    have : a ≤ b := hk 0
    rw [List.sum_cons, List.sum_cons]
    omega
def wIn (os is : List Int) : Prop := os ∈ S9 ∧ is ∈ within9 os
abbrev skR (j : Nat) (os : List Int) (J : Nat) (x4 : Option PV) : RE := [some (.c j), some (iv 9), some (.d (itp os)), some (.c J), x4]
abbrev skB : MS := sDrop (mAppend (mVar 3) (mFn 2 F__law_draw (mCons (mVar 0) (mCons (mOp fAdd (mCall cMinL (mCons (lastM 3 4) mNil)) (mC (.int (1)))) mNil))))
theorem sk_go {T E : Sto} {j : Nat} {os : List Int} (ob : ∀ x ∈ os, 1 ≤ x ∧ x ≤ 9) : ∀ (xs ps : List Int) (k : Nat) (ns : List Int) (S : Sto) (x4 : Option PV), os = ps ++ xs → ns.length = ps.length → FeS T j k S → k + xs.length ≤ 99999 → ns.length + xs.length ≤ 100 → InOk os ns →
    ∃ (ns' : List Int) (S' : Sto) (y4 : Option PV), forGo (gN 4) skB (xs.map .int) (skR j os (T.length + E.length) x4) (S ++ E ++ [.l (ns.map .int)]) = some (.nx (skR j os (T.length + E.length) y4) (S' ++ E ++ [.l (ns'.map .int)])) ∧ ns'.length = ns.length + xs.length ∧ InOk os ns' ∧ FeS T j (k + xs.length) S'
  | [], ps, k, ns, S, x4, _, _, f, _, _, hn => ⟨ns, S, x4, rfl, rfl, hn, f⟩
  | x :: xs, ps, k, ns, S, x4, ho, hps, f, hk, hl, hn => by
    rw [List.length_cons] at hk hl
    have x1 := ob x (by rw [ho]; simp)
    have hN : (S ++ E).length = T.length + E.length := by rw [List.length_append, f.len]
    have la : lAt (S ++ E ++ [.l (ns.map .int)]) (T.length + E.length) = some (ns.map .int) := by rw [← hN, last_l]
    have ez := min1 (a := 3) (b := 4) (ρ := skR j os (T.length + E.length) (some (iv x))) (v := x) (ns := ns) rfl rfl la
    obtain ⟨m0, m1, m2⟩ := hn.most x1.1
    obtain ⟨_, S1, e1, ⟨r, rfl, r0, r1⟩, f1⟩ := drawN (m := mostOf x ns + 1) (by omega) (by omega) (E ++ [.l (ns.map .int)]) f (by omega)
    rw [← List.append_assoc, ← List.append_assoc] at e1
    obtain ⟨ns', S2, y4, e2, l2, n2, f2⟩ := sk_go (T := T) (E := E) (j := j) ob xs (ps ++ [x]) (k + 1) (ns ++ [r]) S1 (some (iv x)) (by rw [ho]; simp) (by rw [List.length_append, List.length_append, hps]; rfl) f1 (by omega) (by rw [List.length_append, List.length_singleton]; omega) (hn.snoc ho hps x1.1 r0 (by omega))
    refine ⟨ns', S2, y4, ?_, by rw [l2, List.length_append, List.length_singleton, List.length_cons]; omega, n2, f2.mono (by rw [List.length_cons]; omega)⟩
    have hN1 : (S1 ++ E).length = T.length + E.length := by rw [List.length_append, f1.len]
    have ap := append_mv (a := mVar 3) (b := mFn 2 F__law_draw (mCons (mVar 0) (mCons (mOp fAdd (mCall cMinL (mCons (lastM 3 4) mNil)) (mC (.int (1)))) mNil))) (ρ := skR j os (T.length + E.length) (some (iv x))) (ds := ns.map .int) hN hN1 rfl (mFn_of (n := 2) (vs := [.c j, iv (mostOf x ns + 1)]) (mCons_of rfl (mCons_of (mOp_of ez rfl rfl) rfl)) rfl e1) (by rw [List.length_map]; omega)
    have bd : skB (skR j os (T.length + E.length) (some (iv x))) (S ++ E ++ [.l (ns.map .int)]) = some (.nx (skR j os (T.length + E.length) (some (iv x))) (S1 ++ E ++ [.l ((ns ++ [r]).map .int)])) := by
      rw [List.map_append]
      exact sDrop_of ap
    rw [List.map_cons, for_nx (ρ1 := skR j os (T.length + E.length) (some (iv x))) rfl bd]
    exact e2
theorem skew_fed : FedS F__law_skew [.d (.int 9)] (fun d => ∃ os is, d = skD os is ∧ wIn os is) 40 := fun {T j k S} E f hk => by
  obtain ⟨_, S1, e1, ⟨r, rfl, r0, r1⟩, f1⟩ := drawN (m := 9) (by decide) (by decide) E f (by omega)
  obtain ⟨_, S2, e2, ⟨os, rfl, dn, o1, sm⟩, f2⟩ := shape_fed (n := (1 + r).toNat) (by omega) E f1 (by omega)
  have en : (((1 + r).toNat : Nat) : Int) = 1 + r := by omega
  rw [en] at e2 sm
  obtain ⟨b1, b2⟩ := parts_bd o1
  have ob : ∀ x ∈ os, 1 ≤ x ∧ x ≤ 9 := fun x hx => by
    have := o1 x hx
    have := b2 x hx
    omega
  have hN2 : (S2 ++ E).length = T.length + E.length := by rw [List.length_append, f2.len]
  have s2 : sSet 2 (mFn 2 F__law_shape (mCons (mVar 0) (mCons (mOp fAdd (mC (.int (1))) (mFn 2 F__law_draw (mCons (mVar 0) (mCons (mVar 1) mNil)))) mNil))) [some (.c j), some (iv 9), none, none, none] (S ++ E) = some (.nx [some (.c j), some (iv 9), some (.d (itp os)), none, none] (S2 ++ E)) :=
    sSet_of (mFn_of (n := 2) (vs := [.c j, iv (1 + r)]) (mCons_of rfl (mCons_of (mOp_of rfl (mFn_of (n := 2) (vs := [.c j, iv 9]) rfl rfl e1) rfl) rfl)) rfl e2)
  have s3 : sOwn 3 (mLst mNil) [some (.c j), some (iv 9), some (.d (itp os)), none, none] (S2 ++ E) = some (.nx (skR j os (T.length + E.length) none) (S2 ++ E ++ [.l []])) := by
    rw [← hN2]
    exact sOwn_of (ds := []) rfl
  obtain ⟨_, S3, e3, ⟨q, rfl, q0, q1⟩, f3⟩ := drawN (m := 3) (by decide) (by decide) (E ++ [.l []]) f2 (by omega)
  rw [← List.append_assoc, ← List.append_assoc] at e3
  have hN3 : (S3 ++ E).length = T.length + E.length := by rw [List.length_append, f3.len]
  have c4 : asB (mOp fGt (mFn 2 F__law_draw (mCons (mVar 0) (mCons (mC (.int (3))) mNil))) (mC (.int (0)))) (skR j os (T.length + E.length) none) (S2 ++ E ++ [.l []]) = some (decide (q > 0), S3 ++ E ++ [.l []]) := asB_of (mOp_of (mFn_of (n := 2) (vs := [.c j, iv 3]) rfl rfl e3) rfl (fGt_int _ _ _))
  have i0 : InOk os [] := ⟨List.Pairwise.nil, (fun x hx => nomatch hx), fun k => (at_bd (b := 9) (by decide) (fun x hx => by have := ob x hx; omega) k).1⟩
  obtain ⟨ns, S4, y4, s4, l4, n4, f4⟩ : ∃ (ns : List Int) (S4 : Sto) (y4 : Option PV), sIf (asB (mOp fGt (mFn 2 F__law_draw (mCons (mVar 0) (mCons (mC (.int (3))) mNil))) (mC (.int (0))))) (sFor (mSeq (mVar 2)) (gN 4) skB) sNil (skR j os (T.length + E.length) none) (S2 ++ E ++ [.l []]) = some (.nx (skR j os (T.length + E.length) y4) (S4 ++ E ++ [.l (ns.map .int)])) ∧ ns.length ≤ os.length ∧ InOk os ns ∧ FeS T j (k + 30) S4 := by
    by_cases hq : q > 0
    · rw [decide_eq_true hq] at c4
      obtain ⟨ns, S4, y4, e4, l4, n4, f4⟩ := sk_go (T := T) (E := E) (j := j) ob os [] _ [] S3 none rfl rfl f3 (by omega) (by show 0 + os.length ≤ 100; omega) i0
      refine ⟨ns, S4, y4, (sIf_t c4).trans ((sFor_of (mSeq_tup (xs := os.map .int) rfl)).trans e4), by rw [l4]; show 0 + os.length ≤ os.length; omega, n4, f4.mono (by omega)⟩
    · rw [decide_eq_false hq] at c4
      exact ⟨[], S3, none, if_nx c4, Nat.zero_le _, i0, f3.mono (by omega)⟩
  have hN4 : (S4 ++ E).length = T.length + E.length := by rw [List.length_append, f4.len]
  let is := ns.filter fun x => decide (x > 0)
  have fl : (ns.map PyData.int).filter (fun x => match x with | .int i => decide (i > 0) | _ => false) = is.map .int := by
    rw [List.filter_map]
    rfl
  have lc : mLcC (mVar 3) [4] (gN 4) (asB (mOp fGt (mVar 4) (mC (.int (0))))) (mVar 4) (skR j os (T.length + E.length) y4) (S4 ++ E ++ [.l (ns.map .int)]) = some (is.map .int, S4 ++ E ++ [.l (ns.map .int)]) := by
    rw [← fl]
    refine lcC_filt (j := T.length + E.length) rfl (by rw [← hN4, last_l]) (by rw [List.length_map]; omega) fun x hx => ?_
    obtain ⟨i, _, rfl⟩ := List.mem_map.mp hx
    exact ⟨skR j os (T.length + E.length) (some (iv i)), rfl, fun S => ⟨asB_of (mOp_of rfl rfl (fGt_int _ _ _)), rfl⟩⟩
  have il : is.length ≤ os.length := Nat.le_trans (List.length_filter_le _ _) l4
  have ik : ∀ k : Nat, is.getD k 0 ≤ os.getD k 0 := fun k => Int.le_trans (filt_le k n4.dn n4.nn) (n4.le k)
  have i1 : ∀ x ∈ is, 1 ≤ x := fun x hx => by
    have := of_decide_eq_true (List.mem_filter.mp hx).2
    omega
  have ss := sum_le il (fun x hx => by have := ob x hx; omega) ik
  have hw : wIn os is := by
    refine ⟨mem9 dn o1 (by omega), List.mem_filter.mpr ⟨mem9 (List.Pairwise.filter _ n4.dn) i1 (by omega), ?_⟩⟩
    unfold holdsP
    rw [Bool.and_eq_true]
    exact ⟨decide_eq_true il, List.all_eq_true.mpr fun k _ => decide_eq_true (ik k)⟩
  refine ⟨skD os is, S4, ?_, ⟨os, is, rfl, hw⟩, f4.mono (by omega)⟩
  refine DN.runF_cut (ρ := [some (.c j), some (iv 9), none, none, none]) (E := [.l (ns.map .int)]) rfl ?_ (by rw [List.length_append, List.length_append, f4.len, f.len])
  unfold g__law_skew
  rw [sSeq_nx s2, sSeq_nx s3]
  refine (sSeq_nx s4).trans ?_
  exact sRet_of (mTup_of (vs := [.d (itp os), .d (itp is)]) (mCons_of rfl (mCons_of (mCall_of (mCons_of (mFz_of lc) rfl) rfl) rfl)) rfl (by show 2 ≤ 1000; decide))
end Law

namespace Law
theorem ck0 : ((S9.drop 0).take 2).all chkO = true := by decide +kernel
theorem ck16 : ((S9.drop 16).take 2).all chkO = true := by decide +kernel
theorem ck32 : ((S9.drop 32).take 2).all chkO = true := by decide +kernel
theorem ck48 : ((S9.drop 48).take 2).all chkO = true := by decide +kernel
theorem ck64 : ((S9.drop 64).take 2).all chkO = true := by decide +kernel
theorem ck80 : ((S9.drop 80).take 2).all chkO = true := by decide +kernel
theorem ck96 : ((S9.drop 96).take 2).all chkO = true := by decide +kernel
end Law

namespace Law
theorem ck2 : ((S9.drop 2).take 2).all chkO = true := by decide +kernel
theorem ck18 : ((S9.drop 18).take 2).all chkO = true := by decide +kernel
theorem ck34 : ((S9.drop 34).take 2).all chkO = true := by decide +kernel
theorem ck50 : ((S9.drop 50).take 2).all chkO = true := by decide +kernel
theorem ck66 : ((S9.drop 66).take 2).all chkO = true := by decide +kernel
theorem ck82 : ((S9.drop 82).take 2).all chkO = true := by decide +kernel
end Law

namespace Law
theorem ck4 : ((S9.drop 4).take 2).all chkO = true := by decide +kernel
theorem ck20 : ((S9.drop 20).take 2).all chkO = true := by decide +kernel
theorem ck36 : ((S9.drop 36).take 2).all chkO = true := by decide +kernel
theorem ck52 : ((S9.drop 52).take 2).all chkO = true := by decide +kernel
theorem ck68 : ((S9.drop 68).take 2).all chkO = true := by decide +kernel
theorem ck84 : ((S9.drop 84).take 2).all chkO = true := by decide +kernel
end Law

namespace Law
theorem ck6 : ((S9.drop 6).take 2).all chkO = true := by decide +kernel
theorem ck22 : ((S9.drop 22).take 2).all chkO = true := by decide +kernel
theorem ck38 : ((S9.drop 38).take 2).all chkO = true := by decide +kernel
theorem ck54 : ((S9.drop 54).take 2).all chkO = true := by decide +kernel
theorem ck70 : ((S9.drop 70).take 2).all chkO = true := by decide +kernel
theorem ck86 : ((S9.drop 86).take 2).all chkO = true := by decide +kernel
end Law

namespace Law
theorem ck8 : ((S9.drop 8).take 2).all chkO = true := by decide +kernel
theorem ck24 : ((S9.drop 24).take 2).all chkO = true := by decide +kernel
theorem ck40 : ((S9.drop 40).take 2).all chkO = true := by decide +kernel
theorem ck56 : ((S9.drop 56).take 2).all chkO = true := by decide +kernel
theorem ck72 : ((S9.drop 72).take 2).all chkO = true := by decide +kernel
theorem ck88 : ((S9.drop 88).take 2).all chkO = true := by decide +kernel
end Law

namespace Law
theorem ck10 : ((S9.drop 10).take 2).all chkO = true := by decide +kernel
theorem ck26 : ((S9.drop 26).take 2).all chkO = true := by decide +kernel
theorem ck42 : ((S9.drop 42).take 2).all chkO = true := by decide +kernel
theorem ck58 : ((S9.drop 58).take 2).all chkO = true := by decide +kernel
theorem ck74 : ((S9.drop 74).take 2).all chkO = true := by decide +kernel
theorem ck90 : ((S9.drop 90).take 2).all chkO = true := by decide +kernel
end Law

namespace Law
theorem ck12 : ((S9.drop 12).take 2).all chkO = true := by decide +kernel
theorem ck28 : ((S9.drop 28).take 2).all chkO = true := by decide +kernel
theorem ck44 : ((S9.drop 44).take 2).all chkO = true := by decide +kernel
theorem ck60 : ((S9.drop 60).take 2).all chkO = true := by decide +kernel
theorem ck76 : ((S9.drop 76).take 2).all chkO = true := by decide +kernel
theorem ck92 : ((S9.drop 92).take 2).all chkO = true := by decide +kernel
end Law

namespace Law
theorem ck14 : ((S9.drop 14).take 2).all chkO = true := by decide +kernel
theorem ck30 : ((S9.drop 30).take 2).all chkO = true := by decide +kernel
theorem ck46 : ((S9.drop 46).take 2).all chkO = true := by decide +kernel
theorem ck62 : ((S9.drop 62).take 2).all chkO = true := by decide +kernel
theorem ck78 : ((S9.drop 78).take 2).all chkO = true := by decide +kernel
theorem ck94 : ((S9.drop 94).take 2).all chkO = true := by decide +kernel
end Law

namespace Law
theorem stepA {k : Nat} (h1 : ((S9.drop k).take 2).all chkO = true) (h2 : (S9.drop (k + 2)).all chkO = true) : (S9.drop k).all chkO = true := by
  rw [← List.take_append_drop 2 (S9.drop k), List.all_append, h1, List.drop_drop]
  exact h2
theorem chk_end : (S9.drop 98).all chkO = true := rfl
theorem cs96 : (S9.drop 96).all chkO = true := stepA ck96 chk_end
theorem cs94 : (S9.drop 94).all chkO = true := stepA ck94 cs96
theorem cs92 : (S9.drop 92).all chkO = true := stepA ck92 cs94
theorem cs90 : (S9.drop 90).all chkO = true := stepA ck90 cs92
theorem cs88 : (S9.drop 88).all chkO = true := stepA ck88 cs90
theorem cs86 : (S9.drop 86).all chkO = true := stepA ck86 cs88
theorem cs84 : (S9.drop 84).all chkO = true := stepA ck84 cs86
theorem cs82 : (S9.drop 82).all chkO = true := stepA ck82 cs84
theorem cs80 : (S9.drop 80).all chkO = true := stepA ck80 cs82
theorem cs78 : (S9.drop 78).all chkO = true := stepA ck78 cs80
theorem cs76 : (S9.drop 76).all chkO = true := stepA ck76 cs78
theorem cs74 : (S9.drop 74).all chkO = true := stepA ck74 cs76
theorem cs72 : (S9.drop 72).all chkO = true := stepA ck72 cs74
theorem cs70 : (S9.drop 70).all chkO = true := stepA ck70 cs72
theorem cs68 : (S9.drop 68).all chkO = true := stepA ck68 cs70
theorem cs66 : (S9.drop 66).all chkO = true := stepA ck66 cs68
theorem cs64 : (S9.drop 64).all chkO = true := stepA ck64 cs66
theorem cs62 : (S9.drop 62).all chkO = true := stepA ck62 cs64
theorem cs60 : (S9.drop 60).all chkO = true := stepA ck60 cs62
theorem cs58 : (S9.drop 58).all chkO = true := stepA ck58 cs60
theorem cs56 : (S9.drop 56).all chkO = true := stepA ck56 cs58
theorem cs54 : (S9.drop 54).all chkO = true := stepA ck54 cs56
theorem cs52 : (S9.drop 52).all chkO = true := stepA ck52 cs54
theorem cs50 : (S9.drop 50).all chkO = true := stepA ck50 cs52
theorem cs48 : (S9.drop 48).all chkO = true := stepA ck48 cs50
theorem cs46 : (S9.drop 46).all chkO = true := stepA ck46 cs48
theorem cs44 : (S9.drop 44).all chkO = true := stepA ck44 cs46
theorem cs42 : (S9.drop 42).all chkO = true := stepA ck42 cs44
theorem cs40 : (S9.drop 40).all chkO = true := stepA ck40 cs42
theorem cs38 : (S9.drop 38).all chkO = true := stepA ck38 cs40
theorem cs36 : (S9.drop 36).all chkO = true := stepA ck36 cs38
theorem cs34 : (S9.drop 34).all chkO = true := stepA ck34 cs36
theorem cs32 : (S9.drop 32).all chkO = true := stepA ck32 cs34
theorem cs30 : (S9.drop 30).all chkO = true := stepA ck30 cs32
theorem cs28 : (S9.drop 28).all chkO = true := stepA ck28 cs30
theorem cs26 : (S9.drop 26).all chkO = true := stepA ck26 cs28
theorem cs24 : (S9.drop 24).all chkO = true := stepA ck24 cs26
theorem cs22 : (S9.drop 22).all chkO = true := stepA ck22 cs24
theorem cs20 : (S9.drop 20).all chkO = true := stepA ck20 cs22
theorem cs18 : (S9.drop 18).all chkO = true := stepA ck18 cs20
theorem cs16 : (S9.drop 16).all chkO = true := stepA ck16 cs18
theorem cs14 : (S9.drop 14).all chkO = true := stepA ck14 cs16
theorem cs12 : (S9.drop 12).all chkO = true := stepA ck12 cs14
theorem cs10 : (S9.drop 10).all chkO = true := stepA ck10 cs12
theorem cs8 : (S9.drop 8).all chkO = true := stepA ck8 cs10
theorem cs6 : (S9.drop 6).all chkO = true := stepA ck6 cs8
theorem cs4 : (S9.drop 4).all chkO = true := stepA ck4 cs6
theorem cs2 : (S9.drop 2).all chkO = true := stepA ck2 cs4
theorem cs0 : (S9.drop 0).all chkO = true := stepA ck0 cs2
theorem chk_all : ∀ o ∈ S9, chkO o = true := List.all_eq_true.mp cs0
end Law

set_option synthInstance.maxHeartbeats 0
set_option synthInstance.maxSize 100000
namespace Law
open PySem PySem.Spec PyProof.Rows L2 DK DL DN
def sk9B (o : List Int) : Bool := decide (o.Pairwise (· ≥ ·)) && (o.all fun x => decide (1 ≤ x) && decide (x ≤ 9)) && decide (o.length ≤ 9)
theorem sk9_all : S9.all sk9B = true := by decide +kernel
theorem sk9_of {o i : List Int} (h : wIn o i) : Sk9 o i := by
  obtain ⟨ho, hi⟩ := h
  obtain ⟨hi9, hh⟩ := List.mem_filter.mp hi
  have a := List.all_eq_true.mp sk9_all o ho
  have b := List.all_eq_true.mp sk9_all i hi9
  unfold sk9B at a b
  simp only [Bool.and_eq_true, decide_eq_true_eq, List.all_eq_true] at a b
  unfold holdsP at hh
  rw [Bool.and_eq_true] at hh
  exact ⟨a.1.1, fun x hx => a.1.2 x hx, a.2, of_decide_eq_true hh.1, fun x hx => by have := b.1.2 x hx; omega⟩
structure Fine (o i : List Int) (N : Nat) : Prop where
  sk : Sk9 o i
  ties : tiesOk 0 (tiesP o i) = true
  sum : sumL o i 0 o.length = (tiesP o i).length
  pow : (max N 1) ^ (tiesP o i).length ≤ 1000
  eq : tabP o i (N : Int) = lawTab o i (N : Int)
  up : upT (lawTab o i (N : Int)) = true
  few : N ≤ 100
theorem fine_of {o i : List Int} (h : wIn o i) : (0 ≤ o.sum - i.sum ∧ o.sum - i.sum ≤ 9) ∧ ∀ n ∈ nsP o i, ∃ N : Nat, n = (N : Int) ∧ Fine o i N := by
  have c := chk_all o h.1
  have c := List.all_eq_true.mp c i h.2
  unfold chkI at c
  simp only [Bool.and_eq_true, decide_eq_true_eq] at c
  obtain ⟨⟨⟨⟨c1, c2⟩, c3⟩, c4⟩, c5⟩ := c
  refine ⟨⟨c2, c3⟩, fun n hn => ?_⟩
  have d := List.all_eq_true.mp c5 n hn
  unfold chkN at d
  simp only [Bool.and_eq_true, decide_eq_true_eq] at d
  obtain ⟨⟨d1, d2⟩, d3⟩ := d
  have n0 : 0 ≤ n ∧ n ≤ 6 := by
    unfold nsP at hn
    obtain ⟨k, hk, rfl⟩ := List.mem_map.mp hn
    have hk : k ∈ ([0, 1, 2, 3, 6] : List Int) := hk
    have k0 : 0 ≤ k := by
      have : ∀ k ∈ ([0, 1, 2, 3, 6] : List Int), 0 ≤ k := by decide
      exact this k hk
    have mb : 0 ≤ mostP (o.sum - i.sum) ∧ mostP (o.sum - i.sum) ≤ 6 := by
      unfold mostP
      exact at_bd (b := 6) (by decide) (by decide) _
    rw [Int.max_def]
    split <;> omega
  refine ⟨n.toNat, by omega, sk9_of h, c1, c4, d3, ?_, ?_, by omega⟩
  · rw [show ((n.toNat : Nat) : Int) = n by omega]
    exact d1
  · rw [show ((n.toNat : Nat) : Int) = n by omega]
    exact d2
theorem Fine.told {o i : List Int} {N : Nat} (h : Fine o i N) (S : Sto) : F_tables_of [.d (skD o i), .d (.int (N : Nat))] S = some ((lawTab o i (N : Int)).map tabD, S) := by
  rw [← h.eq]
  exact tables_ok h.sk h.few h.ties h.pow S
theorem Fine.due {o i : List Int} {N : Nat} (h : Fine o i N) (S : Sto) : F__law_tables [.d (skD o i), .d (.int (N : Nat))] S = some (.d (.list ((lawTab o i (N : Int)).map tabD)), S) := (lawTab_ok h.sk h.few (by rw [h.sum]; exact h.pow) h.up S).1
theorem Fine.tb {o i : List Int} {N : Nat} (h : Fine o i N) : TbOk o i o.length 1000 (lawTab o i (N : Int)) := (lawTab_ok h.sk h.few (by rw [h.sum]; exact h.pow) h.up []).2
theorem Fine.okk {o i : List Int} {N : Nat} (h : Fine o i N) : Okk 3 5477003 (.list ((lawTab o i (N : Int)).map tabD)) := tabs_okk h.tb.few fun t ht => ⟨by rw [(h.tb.tab t ht).1]; exact h.sk.hi, fun x hx => ⟨h.tb.wid t ht x hx, (h.tb.tab t ht).2.1 x hx⟩⟩
/-! the law -/
def Main (k : Nat) (X : Sto) : Prop := ∃ (ms : List Int) (i q t : Int), X[0]? = some (Cell.l (feedC ms i q t)) ∧ 0 ≤ t ∧ t ≤ (k : Int)
theorem Main.fe {k : Nat} {X : Sto} (h : Main k X) : FeS X 0 k X := by
  obtain ⟨ms, i, q, t, a, b, c⟩ := h
  exact .self a b c
theorem Main.of {k : Nat} {T X : Sto} (h : FeS T 0 k X) : Main k X := h.2.2
theorem Main.push {k : Nat} {X : Sto} (h : Main k X) (c : Cell) : Main k (X ++ [c]) := by
  obtain ⟨ms, i, q, t, a, b, d⟩ := h
  refine ⟨ms, i, q, t, ?_, b, d⟩
  rw [List.getElem?_append_left (List.getElem?_eq_some_iff.mp a).1]
  exact a
theorem Main.mono {k l : Nat} {X : Sto} (h : Main k X) (hk : k ≤ l) : Main l X := by
  obtain ⟨ms, i, q, t, a, b, c⟩ := h
  exact ⟨ms, i, q, t, a, b, by omega⟩
abbrev LR (sc : PV) (x2 x3 x4 x5 x6 x7 x8 x9 x10 : Option PV) : RE := [some sc, some (.c 0), x2, x3, x4, x5, x6, x7, x8, x9, x10]
theorem sum_itp {m : DL.M} {ρ : RE} {S : Sto} {a : List Int} (h : m ρ S = some (.d (itp a), S)) : mCall cSum (mCons m mNil) ρ S = some (iv a.sum, S) := by
  refine mCall_of (vs := [.d (itp a)]) (mCons_of h rfl) ?_
  show (intsOf (a.map PyData.int)).map _ = _
  rw [intsOf_map]
  rfl
theorem boxes_law (o i : List Int) (S : Sto) : F__law_boxes [.d (skD o i)] S = some (iv (o.sum - i.sum), S) := by
  refine runF_of (ρ := [some (.d (skD o i))]) rfl ?_ (Nat.le_refl _)
  unfold g__law_boxes
  exact sRet_of (mOp_of (x := iv o.sum) (y := iv i.sum) (sum_itp (a := o) rfl) (sum_itp (a := i) rfl) rfl)
abbrev tb10 : DL.M := (mFz (mLst (mCons (mC (.int (6))) (mCons (mC (.int (6))) (mCons (mC (.int (6))) (mCons (mC (.int (6))) (mCons (mC (.int (5))) (mCons (mC (.int (3))) (mCons (mC (.int (3))) (mCons (mC (.int (2))) (mCons (mC (.int (2))) (mCons (mC (.int (2))) mNil))))))))))))
abbrev tb8 : DL.M := (mFz (mLst (mCons (mC (.int (0))) (mCons (mC (.int (0))) (mCons (mC (.int (0))) (mCons (mC (.int (1))) (mCons (mC (.int (1))) (mCons (mC (.int (2))) (mCons (mC (.int (3))) (mCons (mC (.int (6))) mNil))))))))))
theorem most_at {b : Int} (h : 0 ≤ b ∧ b ≤ 9) {m : DL.M} {ρ : RE} {S S1 : Sto} (hm : m ρ S = some (iv b, S1)) : mOp fIx tb10 m ρ S = some (iv (mostP b), S1) := by
  refine mOp_of (x := .d (.list [.int 6, .int 6, .int 6, .int 6, .int 5, .int 3, .int 3, .int 2, .int 2, .int 2])) rfl hm ?_
  have : b = 0 ∨ b = 1 ∨ b = 2 ∨ b = 3 ∨ b = 4 ∨ b = 5 ∨ b = 6 ∨ b = 7 ∨ b = 8 ∨ b = 9 := by omega
  rcases this with rfl | rfl | rfl | rfl | rfl | rfl | rfl | rfl | rfl | rfl <;> rfl
theorem less_at {r : Int} (h : 0 ≤ r ∧ r < 8) {m : DL.M} {ρ : RE} {S S1 : Sto} (hm : m ρ S = some (iv r, S1)) : ∃ d ∈ ([0, 1, 2, 3, 6] : List Int), mOp fIx tb8 m ρ S = some (iv d, S1) := by
  have go : ∀ d : Int, fIx (.d (.list [.int 0, .int 0, .int 0, .int 1, .int 1, .int 2, .int 3, .int 6])) (iv r) S1 = some (iv d) → mOp fIx tb8 m ρ S = some (iv d, S1) := fun d e => mOp_of (x := .d (.list [.int 0, .int 0, .int 0, .int 1, .int 1, .int 2, .int 3, .int 6])) rfl hm e
  have : r = 0 ∨ r = 1 ∨ r = 2 ∨ r = 3 ∨ r = 4 ∨ r = 5 ∨ r = 6 ∨ r = 7 := by omega
  rcases this with rfl | rfl | rfl | rfl | rfl | rfl | rfl | rfl
  · exact ⟨0, by decide, go 0 rfl⟩
  · exact ⟨0, by decide, go 0 rfl⟩
  · exact ⟨0, by decide, go 0 rfl⟩
  · exact ⟨1, by decide, go 1 rfl⟩
  · exact ⟨1, by decide, go 1 rfl⟩
  · exact ⟨2, by decide, go 2 rfl⟩
  · exact ⟨3, by decide, go 3 rfl⟩
  · exact ⟨6, by decide, go 6 rfl⟩
theorem cut_mem {α : Type} {xs : List α} {lo hi : Option Int} {x : α} (h : x ∈ cut xs lo hi) : x ∈ xs := by
  unfold cut at h
  exact List.mem_of_mem_drop (List.mem_of_mem_take h)
theorem cut_len {α : Type} (xs : List α) (lo hi : Option Int) : (cut xs lo hi).length ≤ xs.length := by
  unfold cut
  rw [List.length_take, List.length_drop]
  omega
theorem same_str {m1 m2 : DL.M} {ρ : RE} {S : Sto} {x : Str} (hx : PyData.strOk x = true) (h1 : m1 ρ S = some (.d (.str x), S)) (h2 : m2 ρ S = some (.d (.str x), S)) : asB (mOp fNe m1 m2) ρ S = some (false, S) := asB_of (mOp_of h1 h2 (by rw [fNe_str hx hx, beq_self_eq_true]; rfl))
abbrev t6 : MS := (sFor (mSeq (mFz (mOpL fCatL (mFz (mSlL (mVar 8) oNone (oSome (mC (.int (6)))))) (mFz (mSlL (mVar 8) (oSome (mUn fNeg (mC (.int (6))))) oNone))))) (gN 10) (sIf (bNot (asB (mFn 2 F__law_content_right (mCons (mVar 6) (mCons (mVar 10) mNil))))) (sRet (mC (.bool false))) sNil))
theorem rights {sc : PV} {x2 x3 x4 x5 x7 x8 x9 : Option PV} {N : Nat} (hN : N ≤ 100) : ∀ (ds : List PyData) (x10 : Option PV) (S : Sto), (∀ d ∈ ds, ∃ t : List (List Int), d = tabD t ∧ t.length ≤ 9 ∧ ∀ x ∈ t, x.length ≤ 9) → ∃ y10, forGo (gN 10) (sIf (bNot (asB (mFn 2 F__law_content_right (mCons (mVar 6) (mCons (mVar 10) mNil))))) (sRet (mC (.bool false))) sNil) ds (LR sc x2 x3 x4 x5 (some (iv (N : Nat))) x7 x8 x9 x10) S = some (.nx (LR sc x2 x3 x4 x5 (some (iv (N : Nat))) x7 x8 x9 y10) S)
  | [], x10, S, _ => ⟨x10, rfl⟩
  | d :: ds, x10, S, h => by
    obtain ⟨t, rfl, t1, t2⟩ := h d List.mem_cons_self
    obtain ⟨y10, e⟩ := rights hN ds (some (.d (tabD t))) S fun d hd => h d (List.mem_cons_of_mem _ hd)
    refine ⟨y10, (for_nx (ρ1 := LR sc x2 x3 x4 x5 (some (iv (N : Nat))) x7 x8 x9 (some (.d (tabD t)))) rfl ?_).trans e⟩
    exact if_nx (bNot_of (asB_of (mFn_of (n := 2) (vs := [iv (N : Nat), .d (tabD t)]) rfl rfl (right_ok hN t1 t2 S))))
abbrev t1 : MS := (sOwn 9 (mFnL 2 F_tables_of (mCons (mVar 3) (mCons (mVar 6) mNil))))
abbrev t2 : MS := (sIf (bOr (asB (mOp fNe (mCall cRepr (mCons (mVar 9) mNil)) (mCall cRepr (mCons (mVar 8) mNil)))) (asB (mOp fNe (mCall cRepr (mCons (mVar 3) mNil)) (mVar 7)))) (sRet (mC (.bool false))) sNil)
abbrev t3 : MS := (sDrop (mReverse (mVar 9)))
abbrev t4 : MS := (sDrop (mAppend (mVar 9) (mTup mNil)))
abbrev t5 : MS := (sIf (asB (mOp fNe (mCall cRepr (mCons (mFz (mFnL 2 F_tables_of (mCons (mVar 3) (mCons (mVar 6) mNil)))) mNil)) (mCall cRepr (mCons (mVar 8) mNil)))) (sRet (mC (.bool false))) sNil)
abbrev s3 : MS := (sSet 3 (mFn 2 F__law_skew (mCons (mVar 1) (mCons (mC (.int (9))) mNil))))
abbrev s4 : MS := (sSet 4 (mFn 1 F__law_boxes (mCons (mVar 3) mNil)))
abbrev s5 : MS := (sSet 5 (mOp fIx tb10 (mVar 4)))
abbrev s6 : MS := (sSet 6 (mCall cMax (mCons (mC (.int (0))) (mCons (mOp fSub (mVar 5) (mOp fIx tb8 (mFn 2 F__law_draw (mCons (mVar 1) (mCons (mC (.int (8))) mNil))))) mNil))))
abbrev s7 : MS := (sSet 7 (mCall cRepr (mCons (mVar 3) mNil)))
abbrev s8 : MS := (sSet 8 (mFn 2 F__law_tables (mCons (mVar 3) (mCons (mVar 6) mNil))))
abbrev s9 : MS := (sIf (asB (mOp fLt (mCall cLen (mCons (mVar 8) mNil)) (mC (.int (1001))))) (sSeq t1 (sSeq t2 (sSeq t3 (sSeq t4 (sSeq t5 t6))))) sNil)
abbrev tu : MS := sSeq s3 (sSeq s4 (sSeq s5 (sSeq s6 (sSeq s7 (sSeq s8 s9)))))
/-- what is asked of one skew and one n -/
theorem asked {sc : PV} {x2 x4 x5 x9 x10 : Option PV} {o i : List Int} {N : Nat} (h : Fine o i N) (X : Sto) : ∃ y9 y10 c, s9 (LR sc x2 (some (.d (skD o i))) x4 x5 (some (iv (N : Nat))) (some (.d (.str (skD o i).shown))) (some (.d (.list ((lawTab o i (N : Int)).map tabD)))) x9 x10) X = some (.nx (LR sc x2 (some (.d (skD o i))) x4 x5 (some (iv (N : Nat))) (some (.d (.str (skD o i).shown))) (some (.d (.list ((lawTab o i (N : Int)).map tabD)))) y9 y10) (X ++ [c])) := by
  let D := (lawTab o i (N : Int)).map tabD
  have okD : Okk 3 5477003 (.list D) := h.okk
  have okS := sk_okk h.sk
  have few : D.length ≤ 1000 := by
    show ((lawTab o i (N : Int)).map tabD).length ≤ 1000
    rw [List.length_map]
    exact h.tb.few
  have g : asB (mOp fLt (mCall cLen (mCons (mVar 8) mNil)) (mC (.int (1001)))) (LR sc x2 (some (.d (skD o i))) x4 x5 (some (iv (N : Nat))) (some (.d (.str (skD o i).shown))) (some (.d (.list D))) x9 x10) X = some (true, X) := by
    refine asB_of (mOp_of (x := iv (D.length : Nat)) (mCall_of (vs := [.d (.list D)]) rfl rfl) rfl ((fLt_int _ _ _).trans ?_))
    rw [decide_eq_true (by omega)]
  obtain ⟨y10, e6⟩ := rights (sc := sc) (x2 := x2) (x3 := some (.d (skD o i))) (x4 := x4) (x5 := x5) (x7 := some (.d (.str (skD o i).shown))) (x8 := some (.d (.list D))) (x9 := some (.c X.length)) h.few (cut D none (some 6) ++ cut D (some (-6)) none) x10 (X ++ [.l (D.reverse ++ [.tuple []])]) fun d hd => by
    have hd : d ∈ D := by
      rcases List.mem_append.mp hd with hd | hd
      · exact cut_mem hd
      · exact cut_mem hd
    obtain ⟨t, ht, rfl⟩ := List.mem_map.mp hd
    exact ⟨t, rfl, by rw [(h.tb.tab t ht).1]; exact h.sk.hi, fun x hx => h.tb.wid t ht x hx⟩
  refine ⟨some (.c X.length), y10, .l (D.reverse ++ [.tuple []]), (sIf_t g).trans ?_⟩
  refine (sSeq_nx (sOwn_of (mFnL_of (n := 2) (vs := [.d (skD o i), iv (N : Nat)]) rfl rfl (h.told X)))).trans ?_
  have rD : ∀ S : Sto, cRepr [.d (.list D)] S = some (.d (.str (PyData.list D).shown)) := fun S => okD.repr (by decide) (by decide) S
  have rC : cRepr [.c X.length] (X ++ [.l D]) = some (.d (.str (PyData.list D).shown)) := by
    show ((lAt (X ++ [Cell.l D]) X.length).map PyData.list).bind _ = _
    rw [last_l]
    exact rD []
  have c2 : bOr (asB (mOp fNe (mCall cRepr (mCons (mVar 9) mNil)) (mCall cRepr (mCons (mVar 8) mNil)))) (asB (mOp fNe (mCall cRepr (mCons (mVar 3) mNil)) (mVar 7))) (LR sc x2 (some (.d (skD o i))) x4 x5 (some (iv (N : Nat))) (some (.d (.str (skD o i).shown))) (some (.d (.list D))) (some (.c X.length)) x10) (X ++ [.l D]) = some (false, X ++ [.l D]) := by
    refine (bOr_f (same_str okD.ok (mCall_of (vs := [.c X.length]) rfl rC) (mCall_of (vs := [.d (.list D)]) rfl (rD _)))).trans ?_
    exact same_str okS.ok (mCall_of (vs := [.d (skD o i)]) rfl (okS.repr (by decide) (by decide) _)) rfl
  refine (sSeq_nx (if_nx c2)).trans ?_
  have e3 : t3 (LR sc x2 (some (.d (skD o i))) x4 x5 (some (iv (N : Nat))) (some (.d (.str (skD o i).shown))) (some (.d (.list D))) (some (.c X.length)) x10) (X ++ [.l D]) = some (.nx (LR sc x2 (some (.d (skD o i))) x4 x5 (some (iv (N : Nat))) (some (.d (.str (skD o i).shown))) (some (.d (.list D))) (some (.c X.length)) x10) (X ++ [.l D.reverse])) := by
    refine sDrop_of (v := .d .none) ?_
    show (lAt (X ++ [Cell.l D]) X.length).bind _ = _
    rw [last_l]
    show some (PV.d .none, (X ++ [Cell.l D]).set X.length (.l D.reverse)) = _
    rw [last_set]
  refine (sSeq_nx e3).trans ?_
  have e4 : t4 (LR sc x2 (some (.d (skD o i))) x4 x5 (some (iv (N : Nat))) (some (.d (.str (skD o i).shown))) (some (.d (.list D))) (some (.c X.length)) x10) (X ++ [.l D.reverse]) = some (.nx (LR sc x2 (some (.d (skD o i))) x4 x5 (some (iv (N : Nat))) (some (.d (.str (skD o i).shown))) (some (.d (.list D))) (some (.c X.length)) x10) (X ++ [.l (D.reverse ++ [.tuple []])])) :=
    sDrop_of (append_mv (S := X) (S' := X) (n := X.length) (ds := D.reverse) (y := .tuple []) rfl rfl rfl rfl (by rw [List.length_reverse]; omega))
  refine (sSeq_nx e4).trans ?_
  refine (sSeq_nx (if_nx (same_str okD.ok (mCall_of (vs := [.d (.list D)]) (mCons_of (mFz_of (mFnL_of (n := 2) (vs := [.d (skD o i), iv (N : Nat)]) rfl rfl (h.told _))) rfl) (rD _)) (mCall_of (vs := [.d (.list D)]) rfl (rD _))))).trans ?_
  refine (sFor_of (mSeq_list (mFz_of ?_))).trans e6
  have hl : (cut D none (some 6)).length + (cut D (some (-6)) none).length ≤ 1000000 := by
    have := cut_len D none (some 6)
    have := cut_len D (some (-6)) none
    omega
  refine mOpL_of (x := .d (.list (cut D none (some 6)))) (y := .d (.list (cut D (some (-6)) none))) rfl rfl ?_
  show (if (cut D none (some 6)).length + (cut D (some (-6)) none).length ≤ 1000000 then some (cut D none (some 6) ++ cut D (some (-6)) none) else none) = _
  rw [if_pos hl]
theorem turn {sc : PV} {k : Nat} {X : Sto} {x2 x3 x4 x5 x6 x7 x8 x9 x10 : Option PV} (hm : Main k X) (hk : k ≤ 9000) :
    ∃ y3 y4 y5 y6 y7 y8 y9 y10 X', tu (LR sc x2 x3 x4 x5 x6 x7 x8 x9 x10) X = some (.nx (LR sc x2 y3 y4 y5 y6 y7 y8 y9 y10) X') ∧ Main (k + 41) X' := by
  obtain ⟨_, X1, e1, ⟨o, i, rfl, w⟩, f1⟩ := skew_fed [] hm.fe (by omega)
  rw [List.append_nil, List.append_nil] at e1
  have m1 := Main.of f1
  obtain ⟨_, X2, e2, ⟨r, rfl, r0, r1⟩, f2⟩ := drawN (m := 8) (by decide) (by decide) [] m1.fe (by omega)
  rw [List.append_nil, List.append_nil] at e2
  have m2 := Main.of f2
  obtain ⟨b, fine⟩ := fine_of w
  obtain ⟨d, hd, ed⟩ := less_at (r := r) ⟨r0, r1⟩ (m := mFn 2 F__law_draw (mCons (mVar 1) (mCons (mC (.int (8))) mNil))) (ρ := LR sc x2 (some (.d (skD o i))) (some (iv (o.sum - i.sum))) (some (iv (mostP (o.sum - i.sum)))) x6 x7 x8 x9 x10) (S := X1) (S1 := X2) (mFn_of (n := 2) (vs := [.c 0, iv 8]) rfl rfl e2)
  obtain ⟨N, hN, F⟩ := fine (max 0 (mostP (o.sum - i.sum) - d)) (List.mem_map.mpr ⟨d, hd, rfl⟩)
  obtain ⟨y9, y10, c, e9⟩ := asked (sc := sc) (x2 := x2) (x4 := some (iv (o.sum - i.sum))) (x5 := some (iv (mostP (o.sum - i.sum)))) (x9 := x9) (x10 := x10) F X2
  refine ⟨some (.d (skD o i)), some (iv (o.sum - i.sum)), some (iv (mostP (o.sum - i.sum))), some (iv (N : Nat)), some (.d (.str (skD o i).shown)), some (.d (.list ((lawTab o i (N : Int)).map tabD))), y9, y10, X2 ++ [c], ?_, (m2.push c).mono (by omega)⟩
  refine (sSeq_nx (show s3 _ X = some (.nx (LR sc x2 (some (.d (skD o i))) x4 x5 x6 x7 x8 x9 x10) X1) from sSet_of (mFn_of (n := 2) (vs := [.c 0, iv 9]) rfl rfl e1))).trans ?_
  refine (sSeq_nx (show s4 _ X1 = some (.nx (LR sc x2 (some (.d (skD o i))) (some (iv (o.sum - i.sum))) x5 x6 x7 x8 x9 x10) X1) from sSet_of (mFn_of (n := 1) (vs := [.d (skD o i)]) rfl rfl (boxes_law o i X1)))).trans ?_
  refine (sSeq_nx (show s5 _ X1 = some (.nx (LR sc x2 (some (.d (skD o i))) (some (iv (o.sum - i.sum))) (some (iv (mostP (o.sum - i.sum)))) x6 x7 x8 x9 x10) X1) from sSet_of (most_at b rfl))).trans ?_
  refine (sSeq_nx (show s6 _ X1 = some (.nx (LR sc x2 (some (.d (skD o i))) (some (iv (o.sum - i.sum))) (some (iv (mostP (o.sum - i.sum)))) (some (iv (N : Nat))) x7 x8 x9 x10) X2) from sSet_of (by
    rw [← hN]
    exact mCall_of (vs := [iv 0, iv (mostP (o.sum - i.sum) - d)]) (mCons_of rfl (mCons_of (mOp_of (x := iv (mostP (o.sum - i.sum))) rfl ed rfl) rfl)) (fMax_int _ _ _)))).trans ?_
  refine (sSeq_nx (show s7 _ X2 = some (.nx (LR sc x2 (some (.d (skD o i))) (some (iv (o.sum - i.sum))) (some (iv (mostP (o.sum - i.sum)))) (some (iv (N : Nat))) (some (.d (.str (skD o i).shown))) x8 x9 x10) X2) from sSet_of (mCall_of (vs := [.d (skD o i)]) rfl ((sk_okk F.sk).repr (by decide) (by decide) _)))).trans ?_
  refine (sSeq_nx (show s8 _ X2 = some (.nx (LR sc x2 (some (.d (skD o i))) (some (iv (o.sum - i.sum))) (some (iv (mostP (o.sum - i.sum)))) (some (iv (N : Nat))) (some (.d (.str (skD o i).shown))) (some (.d (.list ((lawTab o i (N : Int)).map tabD)))) x9 x10) X2) from sSet_of (mFn_of (n := 2) (vs := [.d (skD o i), iv (N : Nat)]) rfl rfl (F.due X2)))).trans ?_
  exact e9
theorem law_true : ∀ ns : List Int, ns.length ≤ 63 → ∃ S', F_law [.d (.list (ns.map .int))] [] = some (.d (.bool true), S') := fun ns hns => by
  have ef : F__law_feed [.d (.list (ns.map .int))] [] = some (feedC ns 0 0 0, []) := feed_specD ns hns
  generalize PyData.list (ns.map .int) = sc at ef
  have m0 : Main 0 [Cell.l (feedC ns 0 0 0)] := ⟨ns, 0, 0, 0, rfl, Int.le_refl _, Int.le_refl _⟩
  generalize feedC ns 0 0 0 = fc at ef m0
  obtain ⟨a3, a4, a5, a6, a7, a8, a9, a10, X1, e1, m1⟩ := turn (sc := .d sc) m0 (by omega) (x2 := some (iv 0)) (x3 := none) (x4 := none) (x5 := none) (x6 := none) (x7 := none) (x8 := none) (x9 := none) (x10 := none)
  obtain ⟨b3, b4, b5, b6, b7, b8, b9, b10, X2, e2, m2⟩ := turn (sc := .d sc) m1 (by omega) (x2 := some (iv 1)) (x3 := a3) (x4 := a4) (x5 := a5) (x6 := a6) (x7 := a7) (x8 := a8) (x9 := a9) (x10 := a10)
  obtain ⟨c3, c4, c5, c6, c7, c8, c9, c10, X3, e3, m3⟩ := turn (sc := .d sc) m2 (by omega) (x2 := some (iv 2)) (x3 := b3) (x4 := b4) (x5 := b5) (x6 := b6) (x7 := b7) (x8 := b8) (x9 := b9) (x10 := b10)
  obtain ⟨d3, d4, d5, d6, d7, d8, d9, d10, X4, e4, m4⟩ := turn (sc := .d sc) m3 (by omega) (x2 := some (iv 3)) (x3 := c3) (x4 := c4) (x5 := c5) (x6 := c6) (x7 := c7) (x8 := c8) (x9 := c9) (x10 := c10)
  refine ⟨[], DN.runF_cut (S' := []) (ρ := some (.d sc) :: List.replicate 10 none) (E := X4) rfl ?_ rfl⟩
  unfold g_law
  rw [sSeq_nx (sOwn_of (mFnL_of (n := 1) rfl rfl (show F__law_feed [.d sc] [] = some (fc, []) from ef)))]
  have lp : sFor (mRng1 (mC (.int (4)))) (gN 2) tu (LR (.d sc) none none none none none none none none none) [Cell.l fc] = some (.nx (LR (.d sc) (some (iv 3)) d3 d4 d5 d6 d7 d8 d9 d10) X4) := by
    refine (sFor_of (mRng1_of (j := 4) rfl (by decide) (by decide))).trans ?_
    rw [show rangeD 0 (4 : Int).toNat = [.int 0, .int 1, .int 2, .int 3] from rfl]
    refine (for_nx (ρ1 := LR (.d sc) (some (iv 0)) none none none none none none none none) rfl e1).trans ?_
    refine (for_nx (ρ1 := LR (.d sc) (some (iv 1)) a3 a4 a5 a6 a7 a8 a9 a10) rfl e2).trans ?_
    refine (for_nx (ρ1 := LR (.d sc) (some (iv 2)) b3 b4 b5 b6 b7 b8 b9 b10) rfl e3).trans ?_
    refine (for_nx (ρ1 := LR (.d sc) (some (iv 3)) c3 c4 c5 c6 c7 c8 c9 c10) rfl e4).trans ?_
    rfl
  refine (sSeq_nx lp).trans ?_
  have k0 : Sk9 [] [] := sk9_of ⟨by decide +kernel, by decide +kernel⟩
  have k1 : Sk9 [2, 1] [2, 1] := sk9_of ⟨by decide +kernel, by decide +kernel⟩
  have f1 : F_tables_of [.d (skD [] []), iv 3] X4 = some ([.tuple []], X4) := by
    have q := tables_ok (N := 3) k0 (by decide) (by decide +kernel) (by decide +kernel) X4
    exact q.trans (by rw [show tabP [] [] ((3 : Nat) : Int) = [[]] by decide +kernel]; rfl)
  have f2 : F_tables_of [.d (skD [2, 1] [2, 1]), iv 0] X4 = some ([.tuple [.tuple [], .tuple []]], X4) := by
    have q := tables_ok (N := 0) k1 (by decide) (by decide +kernel) (by decide +kernel) X4
    exact q.trans (by rw [show tabP [2, 1] [2, 1] ((0 : Nat) : Int) = [[[], []]] by decide +kernel]; rfl)
  have q1 : mOp fEq (mCall cRepr (mCons (mFz (mFnL 2 F_tables_of (mCons (mTup (mCons (mTup mNil) (mCons (mTup mNil) mNil))) (mCons (mC (.int (3))) mNil)))) mNil)) (mC (.str "[()]")) (LR (.d sc) (some (iv 3)) d3 d4 d5 d6 d7 d8 d9 d10) X4 = some (.d (.bool true), X4) := by
    refine mOp_of (mCall_of (vs := [.d (.list [.tuple []])]) (mCons_of (mFz_of (mFnL_of (n := 2) (vs := [.d (skD [] []), iv 3]) rfl rfl f1)) rfl) rfl) rfl ?_
    rw [show (PyData.list [PyData.tuple []]).shown = Str.ofString "[()]" by decide +kernel]
    exact (fEq_str (by decide +kernel) (by decide +kernel) _).trans (by rw [beq_self_eq_true])
  have q2 : mOp fEq (mCall cRepr (mCons (mFz (mFnL 2 F_tables_of (mCons (mTup (mCons (mTup (mCons (mC (.int (2))) (mCons (mC (.int (1))) mNil))) (mCons (mTup (mCons (mC (.int (2))) (mCons (mC (.int (1))) mNil))) mNil))) (mCons (mC (.int (0))) mNil)))) mNil)) (mC (.str "[((), ())]")) (LR (.d sc) (some (iv 3)) d3 d4 d5 d6 d7 d8 d9 d10) X4 = some (.d (.bool true), X4) := by
    refine mOp_of (mCall_of (vs := [.d (.list [.tuple [.tuple [], .tuple []]])]) (mCons_of (mFz_of (mFnL_of (n := 2) (vs := [.d (skD [2, 1] [2, 1]), iv 0]) rfl rfl f2)) rfl) rfl) rfl ?_
    rw [show (PyData.list [PyData.tuple [PyData.tuple [], PyData.tuple []]]).shown = Str.ofString "[((), ())]" by decide +kernel]
    exact (fEq_str (by decide +kernel) (by decide +kernel) _).trans (by rw [beq_self_eq_true])
  exact sRet_of ((mAnd_t q1).trans q2)
end Law

namespace Law
open PySem PySem.Spec PyProof.Rows L2 DK DL
def topS (i : Nat) : Stmt := PySem.Challenge.pw_swapsums_k27_all_tables_told.main.body.getD i (.Pass ⟨0, 0, 0, 0⟩)
abbrev s__law_feed : Stmt := topS 15
theorem sc__law_feed : FnScope ["_law_script"] ["_law_script"] (defScope s__law_feed) := ⟨rfl, rfl, rfl, by decide +kernel, rfl, by decide +kernel, by decide +kernel⟩
abbrev s__law_draw : Stmt := topS 16
theorem sc__law_draw : FnScope ["_law_feed_here", "_law_many", "_law_turn", "_law_found", "_law_cell", "_law_mixed"] ["_law_feed_here", "_law_many"] (defScope s__law_draw) := ⟨rfl, rfl, rfl, by decide +kernel, rfl, by decide +kernel, by decide +kernel⟩
abbrev s__law_shape : Stmt := topS 17
theorem sc__law_shape : FnScope ["_law_feed_here", "_law_size", "_law_found", "_law_part"] ["_law_feed_here", "_law_size"] (defScope s__law_shape) := ⟨rfl, rfl, rfl, by decide +kernel, rfl, by decide +kernel, by decide +kernel⟩
abbrev s__law_skew : Stmt := topS 18
theorem sc__law_skew : FnScope ["_law_feed_here", "_law_most", "_law_outer", "_law_inner", "_law_part"] ["_law_feed_here", "_law_most"] (defScope s__law_skew) := ⟨rfl, rfl, rfl, by decide +kernel, rfl, by decide +kernel, by decide +kernel⟩
abbrev s__law_boxes : Stmt := topS 20
theorem sc__law_boxes : FnScope ["_law_skew_here"] ["_law_skew_here"] (defScope s__law_boxes) := ⟨rfl, rfl, rfl, by decide +kernel, rfl, by decide +kernel, by decide +kernel⟩
abbrev s__law_first : Stmt := topS 19
theorem sc__law_first : FnScope ["_law_skew_here", "_law_row"] ["_law_skew_here", "_law_row"] (defScope s__law_first) := ⟨rfl, rfl, rfl, by decide +kernel, rfl, by decide +kernel, by decide +kernel⟩
abbrev s__law_skew_rows : Stmt := topS 21
theorem sc__law_skew_rows : FnScope ["_law_skew_here", "_law_row", "_law_above", "_law_n", "_law_first_here", "_law_higher", "_law_found", "_law_column", "_law_longer", "_law_ahead", "_law_least", "_law_letter"] ["_law_skew_here", "_law_row", "_law_above", "_law_n"] (defScope s__law_skew_rows) := ⟨rfl, rfl, rfl, by decide +kernel, rfl, by decide +kernel, by decide +kernel⟩
abbrev s__law_tables : Stmt := topS 22
theorem sc__law_tables : FnScope ["_law_skew_here", "_law_n", "_law_found", "_law_row", "_law_longer", "_law_rows", "_law_above", "_law_one"] ["_law_skew_here", "_law_n"] (defScope s__law_tables) := ⟨rfl, rfl, rfl, by decide +kernel, rfl, by decide +kernel, by decide +kernel⟩
abbrev s_columns : Stmt := topS 4
theorem sc_columns : FnScope ["shape", "k", "part"] ["shape"] (defScope s_columns) := ⟨rfl, rfl, rfl, by decide +kernel, rfl, by decide +kernel, by decide +kernel⟩
abbrev s_row_starts : Stmt := topS 7
theorem sc_row_starts : FnScope ["skew", "outer", "inner"] ["skew"] (defScope s_row_starts) := ⟨rfl, rfl, rfl, by decide +kernel, rfl, by decide +kernel, by decide +kernel⟩
abbrev s_ties_of : Stmt := topS 10
theorem sc_ties_of : FnScope ["skew", "heights", "boxes", "numbers", "row", "start", "column", "number", "box"] ["skew"] (defScope s_ties_of) := ⟨rfl, rfl, rfl, by decide +kernel, rfl, by decide +kernel, by decide +kernel⟩
abbrev s_in_rows : Stmt := topS 12
theorem sc_in_rows : FnScope ["skew", "letters", "rows", "used", "start", "end"] ["skew", "letters"] (defScope s_in_rows) := ⟨rfl, rfl, rfl, by decide +kernel, rfl, by decide +kernel, by decide +kernel⟩
abbrev s_fitting : Stmt := topS 11
theorem sc_fitting : FnScope ["letters", "left", "above", "end", "least"] ["letters", "left", "above", "end"] (defScope s_fitting) := ⟨rfl, rfl, rfl, by decide +kernel, rfl, by decide +kernel, by decide +kernel⟩
abbrev s_filled : Stmt := topS 9
theorem sc_filled : FnScope ["skew", "n", "most", "grown", "left", "above", "lower", "letters", "letter"] ["skew", "n", "most"] (defScope s_filled) := ⟨rfl, rfl, rfl, by decide +kernel, rfl, by decide +kernel, by decide +kernel⟩
abbrev s_tables_of : Stmt := topS 8
theorem sc_tables_of : FnScope ["skew", "n"] ["skew", "n"] (defScope s_tables_of) := ⟨rfl, rfl, rfl, by decide +kernel, rfl, by decide +kernel, by decide +kernel⟩
abbrev s_content_of : Stmt := topS 13
theorem sc_content_of : FnScope ["n", "table", "letter", "row"] ["n", "table"] (defScope s_content_of) := ⟨rfl, rfl, rfl, by decide +kernel, rfl, by decide +kernel, by decide +kernel⟩
abbrev s__law_content_right : Stmt := topS 23
theorem sc__law_content_right : FnScope ["_law_n", "_law_table", "_law_letters", "_law_row", "_law_letter"] ["_law_n", "_law_table"] (defScope s__law_content_right) := ⟨rfl, rfl, rfl, by decide +kernel, rfl, by decide +kernel, by decide +kernel⟩
abbrev s_law : Stmt := topS 24
theorem sc_law : FnScope ["_law_script", "_law_feed_here", "_law_k", "_law_skew_here", "_law_boxes_here", "_law_most", "_law_n", "_law_stood", "_law_due", "_law_told", "_law_table"] ["_law_script"] (defScope s_law) := ⟨rfl, rfl, rfl, by decide +kernel, rfl, by decide +kernel, by decide +kernel⟩
structure Tx [Tabs] (K : Fg) (mg : Str → Option Value) (base : Heap) where
  f__law_feed : Addr
  fd__law_feed : FuncData
  F__law_feed : Fun K "_law_feed" "_law_feed" s__law_feed f__law_feed fd__law_feed
  b__law_feed : Binds K fd__law_feed ["_law_script"] []
  g__law_feed : mg "_law_feed" = some (.ref f__law_feed)
  f__law_draw : Addr
  fd__law_draw : FuncData
  F__law_draw : Fun K "_law_draw" "_law_draw" s__law_draw f__law_draw fd__law_draw
  b__law_draw : Binds K fd__law_draw ["_law_feed_here", "_law_many"] []
  g__law_draw : mg "_law_draw" = some (.ref f__law_draw)
  f__law_shape : Addr
  fd__law_shape : FuncData
  F__law_shape : Fun K "_law_shape" "_law_shape" s__law_shape f__law_shape fd__law_shape
  b__law_shape : Binds K fd__law_shape ["_law_feed_here", "_law_size"] []
  g__law_shape : mg "_law_shape" = some (.ref f__law_shape)
  f__law_skew : Addr
  fd__law_skew : FuncData
  F__law_skew : Fun K "_law_skew" "_law_skew" s__law_skew f__law_skew fd__law_skew
  b__law_skew : Binds K fd__law_skew ["_law_feed_here", "_law_most"] []
  g__law_skew : mg "_law_skew" = some (.ref f__law_skew)
  f__law_boxes : Addr
  fd__law_boxes : FuncData
  F__law_boxes : Fun K "_law_boxes" "_law_boxes" s__law_boxes f__law_boxes fd__law_boxes
  b__law_boxes : Binds K fd__law_boxes ["_law_skew_here"] []
  g__law_boxes : mg "_law_boxes" = some (.ref f__law_boxes)
  f__law_first : Addr
  fd__law_first : FuncData
  F__law_first : Fun K "_law_first" "_law_first" s__law_first f__law_first fd__law_first
  b__law_first : Binds K fd__law_first ["_law_skew_here", "_law_row"] []
  g__law_first : mg "_law_first" = some (.ref f__law_first)
  f__law_skew_rows : Addr
  fd__law_skew_rows : FuncData
  F__law_skew_rows : Fun K "_law_skew_rows" "_law_skew_rows" s__law_skew_rows f__law_skew_rows fd__law_skew_rows
  b__law_skew_rows : Binds K fd__law_skew_rows ["_law_skew_here", "_law_row", "_law_above", "_law_n"] []
  g__law_skew_rows : mg "_law_skew_rows" = some (.ref f__law_skew_rows)
  f__law_tables : Addr
  fd__law_tables : FuncData
  F__law_tables : Fun K "_law_tables" "_law_tables" s__law_tables f__law_tables fd__law_tables
  b__law_tables : Binds K fd__law_tables ["_law_skew_here", "_law_n"] []
  g__law_tables : mg "_law_tables" = some (.ref f__law_tables)
  f_columns : Addr
  fd_columns : FuncData
  F_columns : Fun K "columns" "columns" s_columns f_columns fd_columns
  b_columns : Binds K fd_columns ["shape"] []
  g_columns : mg "columns" = some (.ref f_columns)
  f_row_starts : Addr
  fd_row_starts : FuncData
  F_row_starts : Fun K "row_starts" "row_starts" s_row_starts f_row_starts fd_row_starts
  b_row_starts : Binds K fd_row_starts ["skew"] []
  g_row_starts : mg "row_starts" = some (.ref f_row_starts)
  f_ties_of : Addr
  fd_ties_of : FuncData
  F_ties_of : Fun K "ties_of" "ties_of" s_ties_of f_ties_of fd_ties_of
  b_ties_of : Binds K fd_ties_of ["skew"] []
  g_ties_of : mg "ties_of" = some (.ref f_ties_of)
  f_in_rows : Addr
  fd_in_rows : FuncData
  F_in_rows : Fun K "in_rows" "in_rows" s_in_rows f_in_rows fd_in_rows
  b_in_rows : Binds K fd_in_rows ["skew", "letters"] []
  g_in_rows : mg "in_rows" = some (.ref f_in_rows)
  f_fitting : Addr
  fd_fitting : FuncData
  F_fitting : Fun K "fitting" "fitting" s_fitting f_fitting fd_fitting
  b_fitting : Binds K fd_fitting ["letters", "left", "above", "end"] []
  g_fitting : mg "fitting" = some (.ref f_fitting)
  f_filled : Addr
  fd_filled : FuncData
  F_filled : Fun K "filled" "filled" s_filled f_filled fd_filled
  b_filled : Binds K fd_filled ["skew", "n", "most"] []
  g_filled : mg "filled" = some (.ref f_filled)
  f_tables_of : Addr
  fd_tables_of : FuncData
  F_tables_of : Fun K "tables_of" "tables_of" s_tables_of f_tables_of fd_tables_of
  b_tables_of : Binds K fd_tables_of ["skew", "n"] []
  g_tables_of : mg "tables_of" = some (.ref f_tables_of)
  f_content_of : Addr
  fd_content_of : FuncData
  F_content_of : Fun K "content_of" "content_of" s_content_of f_content_of fd_content_of
  b_content_of : Binds K fd_content_of ["n", "table"] []
  g_content_of : mg "content_of" = some (.ref f_content_of)
  f__law_content_right : Addr
  fd__law_content_right : FuncData
  F__law_content_right : Fun K "_law_content_right" "_law_content_right" s__law_content_right f__law_content_right fd__law_content_right
  b__law_content_right : Binds K fd__law_content_right ["_law_n", "_law_table"] []
  g__law_content_right : mg "_law_content_right" = some (.ref f__law_content_right)
  f_law : Addr
  fd_law : FuncData
  F_law : Fun K "law" "law" s_law f_law fd_law
  b_law : Binds K fd_law ["_law_script"] []
  g_law : mg "law" = some (.ref f_law)
  z_enumerate : mg "enumerate" = none
  z_len : mg "len" = none
  z_list : mg "list" = none
  z_max : mg "max" = none
  z_min : mg "min" = none
  z_range : mg "range" = none
  z_repr : mg "repr" = none
  z_sorted : mg "sorted" = none
  z_sum : mg "sum" = none
  z_tuple : mg "tuple" = none
  z_zip : mg "zip" = none
  a_MOST_TABLES : Value
  c_MOST_TABLES : mg "MOST_TABLES" = some a_MOST_TABLES ∧ RelV (.int (1000)) a_MOST_TABLES ∧ Dp K (fun _ => none) (.int (1000)) (.int (1000))
  bi : BI mg base
  knd : noTD K = true
  tc_columns : Addr
  tp_columns : Addr
  tk_columns : fd_columns.code = .ref tc_columns
  th_columns : PySem.W.CodeHd base tc_columns tp_columns
  tm_columns : ((none, tp_columns) : Tb) ∈ Tabs.l
  tc_content_of : Addr
  tp_content_of : Addr
  tk_content_of : fd_content_of.code = .ref tc_content_of
  th_content_of : PySem.W.CodeHd base tc_content_of tp_content_of
  tm_content_of : ((none, tp_content_of) : Tb) ∈ Tabs.l
section
variable [Tabs] {P : Program} {w : World} {K : Fg} {mg : Str → Option Value} {base : Heap}
set_option maxHeartbeats 0 in
theorem ok__law_feed (T : Tx K mg base) : FnG P w K mg base CX0 1 T.f__law_feed T.fd__law_feed ["_law_script"] (spL K 1 F__law_feed) := by
  have body : FnG P w K mg base CX0 1 T.f__law_feed T.fd__law_feed ["_law_script"] (spL K 1 (runL 1 g__law_feed)) := fn_listC rfl rfl T.F__law_feed sc__law_feed fun cdv A out s H E hc hr hg =>
    (ds_one (ds_retL (dl_lst (da_cons (fz (dl_ct call_list_of cl_list rfl T.z_list PyProof.Rows.boot_list (da_cons (fz (dl_slice (dv 0) do_none (do_some de_int))) da_nil))) (da_cons de_int (da_cons de_int (da_cons de_int da_nil)))))))
  exact body
set_option maxHeartbeats 0 in
theorem ok__law_draw (T : Tx K mg base) : FnG P w K mg base CX0 1 T.f__law_draw T.fd__law_draw ["_law_feed_here", "_law_many"] (spF K 2 F__law_draw) := by
  have body : FnG P w K mg base CX0 1 T.f__law_draw T.fd__law_draw ["_law_feed_here", "_law_many"] (spF K 2 (runF 6 g__law_draw)) := fn_dataC rfl rfl T.F__law_draw sc__law_draw fun cdv A out s H E hc hr hg =>
    (ds_cons (ds_set (i := 2) sc__law_draw.nd rfl (by first | exact .inl rfl | exact .inr rfl) (de_add (de_at (dv 0) de_int) de_int))
    (ds_cons (ds_put (dv 2) (dv 0) de_int)
    (ds_cons (ds_if (db_gt (de_at (dv 0) de_int) de_int)
      (ds_cons (ds_set (i := 3) sc__law_draw.nd rfl (by first | exact .inl rfl | exact .inr rfl) (de_mod (de_at (dv 0) de_int) (dv 1)))
    (ds_cons (ds_put (de_div (de_at (dv 0) de_int) (dv 1)) (dv 0) de_int)
    (ds_one (ds_ret (dv 3)))))
      ds_nil)
    (ds_cons (ds_set (i := 4) sc__law_draw.nd rfl (by first | exact .inl rfl | exact .inr rfl) de_int)
    (ds_cons (ds_if (db_ne hr (de_at (dv 0) de_int) (fz (dl_lst da_nil)))
      (ds_one (ds_set (i := 4) sc__law_draw.nd rfl (by first | exact .inl rfl | exact .inr rfl) (de_at (de_at (dv 0) de_int) (de_mod (de_at (dv 0) de_int) (de_cb call_len cd_len rfl T.z_len PySem.boot_len (da_cons (de_at (dv 0) de_int) da_nil))))))
      ds_nil)
    (ds_cons (ds_put (de_add (de_at (dv 0) de_int) de_int) (dv 0) de_int)
    (ds_cons (ds_if (PW.pt (dw_and (db_ge (dv 4) (de_pow de_int de_int)) (dw_and1 (db_le (de_at (dv 0) de_int) (de_cb call_len cd_len rfl T.z_len PySem.boot_len (da_cons (de_at (dv 0) de_int) da_nil))))))
      (ds_cons (ds_put (de_div (dv 4) (dv 1)) (dv 0) de_int)
    (ds_one (ds_ret (de_mod (dv 4) (dv 1)))))
      ds_nil)
    (ds_cons (ds_set (i := 5) sc__law_draw.nd rfl (by first | exact .inl rfl | exact .inr rfl) (de_mod (de_pow (de_add (de_mod (dv 4) de_int) (de_mul de_int (dv 2))) de_int) de_int))
    (ds_cons (ds_set (i := 5) sc__law_draw.nd rfl (by first | exact .inl rfl | exact .inr rfl) (de_mod (de_mul (de_add (de_div (dv 5) de_int) de_int) (de_pow (de_add (de_mod (de_mul de_int (dv 2)) de_int) de_int) de_int)) de_int))
    (ds_one (ds_ret (de_mod (de_div (dv 5) de_int) (dv 1)))))))))))))
  exact body
set_option maxHeartbeats 0 in
theorem ok__law_shape (T : Tx K mg base) : FnG P w K mg base CX0 2 T.f__law_shape T.fd__law_shape ["_law_feed_here", "_law_size"] (spF K 2 F__law_shape) := by
  have body : FnG P w K mg base CX0 2 T.f__law_shape T.fd__law_shape ["_law_feed_here", "_law_size"] (spF K 2 (runF 4 g__law_shape)) := fn_dataC rfl rfl T.F__law_shape sc__law_shape fun cdv A out s H E hc hr hg =>
    (ds_cons (ds_own (i := 2) sc__law_shape.nd rfl (by first | exact .inl rfl | exact .inr rfl) (dl_lst da_nil))
    (ds_cons (ds_while (fun _ _ => 50) PassesOwn.never (db_gt (dv 1) de_int)
      (ds_cons (ds_set (i := 3) sc__law_shape.nd rfl (by first | exact .inl rfl | exact .inr rfl) (de_add de_int (de_call (ok__law_draw T) (hr.mono (by first | decide | omega)) hg rfl T.g__law_draw T.F__law_draw.kp T.b__law_draw (da_cons (dv 0) (da_cons (dv 1) da_nil)))))
    (ds_cons (ds_expr (de_append (dv 2) (dv 3)))
    (ds_one (ds_set (i := 1) sc__law_shape.nd rfl (by first | exact .inl rfl | exact .inr rfl) (de_sub (dv 1) (dv 3)))))))
    (ds_one (ds_ret (de_ct call_tupleF cd_tuple rfl T.z_tuple PyProof.Rows.boot_tuple (da_cons (fz (dl_sortRv (dv 2) rfl T.z_sorted PyProof.Rows.boot_sorted)) da_nil))))))
  exact body
set_option maxHeartbeats 0 in
theorem ok__law_skew (T : Tx K mg base) : FnG P w K mg base CX0 3 T.f__law_skew T.fd__law_skew ["_law_feed_here", "_law_most"] (spF K 2 F__law_skew) := by
  have body : FnG P w K mg base CX0 3 T.f__law_skew T.fd__law_skew ["_law_feed_here", "_law_most"] (spF K 2 (runF 5 g__law_skew)) := fn_dataC rfl rfl T.F__law_skew sc__law_skew fun cdv A out s H E hc hr hg =>
    (ds_cons (ds_set (i := 2) sc__law_skew.nd rfl (by first | exact .inl rfl | exact .inr rfl) (de_call (ok__law_shape T) (hr.mono (by first | decide | omega)) hg rfl T.g__law_shape T.F__law_shape.kp T.b__law_shape (da_cons (dv 0) (da_cons (de_add de_int (de_call (ok__law_draw T) (hr.mono (by first | decide | omega)) hg rfl T.g__law_draw T.F__law_draw.kp T.b__law_draw (da_cons (dv 0) (da_cons (dv 1) da_nil)))) da_nil))))
    (ds_cons (ds_own (i := 3) sc__law_skew.nd rfl (by first | exact .inl rfl | exact .inr rfl) (dl_lst da_nil))
    (ds_cons (ds_if (db_gt (de_call (ok__law_draw T) (hr.mono (by first | decide | omega)) hg rfl T.g__law_draw T.F__law_draw.kp T.b__law_draw (da_cons (dv 0) (da_cons de_int da_nil))) de_int)
      (ds_one (ds_for PassesOwn.never rfl (di_seq (dv 2)) (dg_name (i := 4) sc__law_skew.nd rfl (by first | exact .inl rfl | exact .inr rfl))
      (ds_one (ds_expr (de_append (dv 3) (de_call (ok__law_draw T) (hr.mono (by first | decide | omega)) hg rfl T.g__law_draw T.F__law_draw.kp T.b__law_draw (da_cons (dv 0) (da_cons (de_add (de_cb (cr_min rfl) cd_minL rfl T.z_min boot_min (da_cons (fz (dl_cat (fz (dl_lst (da_cons (dv 4) da_nil))) (fz (dl_slice (dv 3) (do_some (de_neg de_int)) do_none)))) da_nil)) de_int) da_nil))))))))
      ds_nil)
    (ds_one (ds_ret (de_tup (da_cons (dv 2) (da_cons (de_ct call_tupleF cd_tuple rfl T.z_tuple PyProof.Rows.boot_tuple (da_cons (fz (dl_lcC rfl sc__law_skew.nd (dv 3) (blkOk_by (own := [("_law_part", 4)]) (N := ["_law_feed_here", "_law_most", "_law_outer", "_law_inner", "_law_part"]) (sc := defScope s__law_skew) (by decide +kernel)) (fun _ _ _ _ _ => (dg_name (i := 4) sc__law_skew.nd rfl (by first | exact .inl rfl | exact .inr rfl))) (fun _ _ _ _ _ => (dts_one (db_gt (dv 4) de_int))) (fun _ _ _ _ _ => (dv 4)) rfl)) da_nil)) da_nil))))))))
  exact body
set_option maxHeartbeats 0 in
theorem ok__law_boxes (T : Tx K mg base) : FnG P w K mg base CX0 1 T.f__law_boxes T.fd__law_boxes ["_law_skew_here"] (spF K 1 F__law_boxes) := by
  have body : FnG P w K mg base CX0 1 T.f__law_boxes T.fd__law_boxes ["_law_skew_here"] (spF K 1 (runF 1 g__law_boxes)) := fn_dataC rfl rfl T.F__law_boxes sc__law_boxes fun cdv A out s H E hc hr hg =>
    (ds_one (ds_ret (de_sub (de_cb ((cr_sum rfl).or (cr_sumT rfl)) cd_sum rfl T.z_sum boot_sum (da_cons (de_at (dv 0) de_int) da_nil)) (de_cb ((cr_sum rfl).or (cr_sumT rfl)) cd_sum rfl T.z_sum boot_sum (da_cons (de_at (dv 0) de_int) da_nil)))))
  exact body
set_option maxHeartbeats 0 in
theorem ok__law_first (T : Tx K mg base) : FnG P w K mg base CX0 1 T.f__law_first T.fd__law_first ["_law_skew_here", "_law_row"] (spF K 2 F__law_first) := by
  have body : FnG P w K mg base CX0 1 T.f__law_first T.fd__law_first ["_law_skew_here", "_law_row"] (spF K 2 (runF 2 g__law_first)) := fn_dataC rfl rfl T.F__law_first sc__law_first fun cdv A out s H E hc hr hg =>
    (ds_one (ds_ret (de_if (db_lt (dv 1) (de_cb call_len cd_len rfl T.z_len PySem.boot_len (da_cons (de_at (dv 0) de_int) da_nil))) (de_at (de_at (dv 0) de_int) (dv 1)) de_int)))
  exact body
set_option maxHeartbeats 0 in
theorem ok__law_skew_rows (T : Tx K mg base) : FnG P w K mg base CX0 2 T.f__law_skew_rows T.fd__law_skew_rows ["_law_skew_here", "_law_row", "_law_above", "_law_n"] (spF K 4 F__law_skew_rows) := by
  have body : FnG P w K mg base CX0 2 T.f__law_skew_rows T.fd__law_skew_rows ["_law_skew_here", "_law_row", "_law_above", "_law_n"] (spF K 4 (runF 12 g__law_skew_rows)) := fn_dataC rfl rfl T.F__law_skew_rows sc__law_skew_rows fun cdv A out s H E hc hr hg =>
    (ds_cons (ds_par (i := 4) (j := 5) rfl sc__law_skew_rows.nd rfl rfl (by decide) rfl rfl (da_cons (de_call (ok__law_first T) (hr.mono (by first | decide | omega)) hg rfl T.g__law_first T.F__law_first.kp T.b__law_first (da_cons (dv 0) (da_cons (dv 1) da_nil))) (da_cons (de_if (db_gt (dv 1) de_int) (de_call (ok__law_first T) (hr.mono (by first | decide | omega)) hg rfl T.g__law_first T.F__law_first.kp T.b__law_first (da_cons (dv 0) (da_cons (de_sub (dv 1) de_int) da_nil))) de_int) da_nil)) (by rfl))
    (ds_cons (ds_own (i := 6) sc__law_skew_rows.nd rfl (by first | exact .inl rfl | exact .inr rfl) (dl_lst (da_cons (de_tup da_nil) da_nil)))
    (ds_cons (ds_for PassesOwn.never rfl (di_rng2 rfl T.z_range (dv 4) (de_at (de_at (dv 0) de_int) (dv 1))) (dg_name (i := 7) sc__law_skew_rows.nd rfl (by first | exact .inl rfl | exact .inr rfl))
      (ds_cons (ds_own (i := 8) sc__law_skew_rows.nd rfl (by first | exact .inl rfl | exact .inr rfl) (dl_lst da_nil))
    (ds_cons (ds_forC PassesOwn.never rfl (dv 6) (dg_name (i := 9) sc__law_skew_rows.nd rfl (by first | exact .inl rfl | exact .inr rfl))
      (ds_cons (ds_set (i := 10) sc__law_skew_rows.nd rfl (by first | exact .inl rfl | exact .inr rfl) (de_if (db_ge (dv 7) (dv 5)) (de_add (de_at (dv 2) (de_sub (dv 7) (dv 5))) de_int) de_int))
    (ds_cons (ds_if (db_ne hr (dv 9) (de_tup da_nil))
      (ds_one (ds_set (i := 10) sc__law_skew_rows.nd rfl (by first | exact .inl rfl | exact .inr rfl) (de_cb (call_max2 rfl) cd_max rfl T.z_max boot_max (da_cons (dv 10) (da_cons (de_at (dv 9) (de_neg de_int)) da_nil)))))
      ds_nil)
    (ds_one (ds_expr (de_extend (dv 8) (dl_lc rfl sc__law_skew_rows.nd (di_rng2 rfl T.z_range (dv 10) (dv 3)) (blkOk_by (own := [("_law_letter", 11)]) (N := ["_law_skew_here", "_law_row", "_law_above", "_law_n", "_law_first_here", "_law_higher", "_law_found", "_law_column", "_law_longer", "_law_ahead", "_law_least", "_law_letter"]) (sc := defScope s__law_skew_rows) (by decide +kernel)) (fun _ _ _ _ _ => (dg_name (i := 11) sc__law_skew_rows.nd rfl (by first | exact .inl rfl | exact .inr rfl))) (fun _ _ _ _ _ => dts_nil) (fun _ _ _ _ _ => (de_add (dv 9) (de_tup (da_cons (dv 11) da_nil)))) rfl)))))))
    (ds_one (ds_set (i := 6) sc__law_skew_rows.nd rfl (by first | exact .inl rfl | exact .inr rfl) (dv 8))))))
    (ds_one (ds_ret (dv 6))))))
  exact body
set_option maxHeartbeats 0 in
theorem ok__law_tables (T : Tx K mg base) : FnG P w K mg base CX0 3 T.f__law_tables T.fd__law_tables ["_law_skew_here", "_law_n"] (spF K 2 F__law_tables) := by
  have body : FnG P w K mg base CX0 3 T.f__law_tables T.fd__law_tables ["_law_skew_here", "_law_n"] (spF K 2 (runF 8 g__law_tables)) := fn_dataC rfl rfl T.F__law_tables sc__law_tables fun cdv A out s H E hc hr hg =>
    (ds_cons (ds_own (i := 2) sc__law_tables.nd rfl (by first | exact .inl rfl | exact .inr rfl) (dl_lst (da_cons (de_tup da_nil) da_nil)))
    (ds_cons (ds_for PassesOwn.never rfl (di_rng1 rfl T.z_range (de_cb call_len cd_len rfl T.z_len PySem.boot_len (da_cons (de_at (dv 0) de_int) da_nil))) (dg_name (i := 3) sc__law_tables.nd rfl (by first | exact .inl rfl | exact .inr rfl))
      (ds_cons (ds_own (i := 4) sc__law_tables.nd rfl (by first | exact .inl rfl | exact .inr rfl) (dl_lst da_nil))
    (ds_cons (ds_forC PassesOwn.never rfl (dv 2) (dg_name (i := 5) sc__law_tables.nd rfl (by first | exact .inl rfl | exact .inr rfl))
      (ds_cons (ds_set (i := 6) sc__law_tables.nd rfl (by first | exact .inl rfl | exact .inr rfl) (de_if (db_gt (dv 3) de_int) (de_at (dv 5) (de_neg de_int)) (de_tup da_nil)))
    (ds_one (ds_expr (de_extend (dv 4) (dl_lc rfl sc__law_tables.nd (di_seq (de_call (ok__law_skew_rows T) (hr.mono (by first | decide | omega)) hg rfl T.g__law_skew_rows T.F__law_skew_rows.kp T.b__law_skew_rows (da_cons (dv 0) (da_cons (dv 3) (da_cons (dv 6) (da_cons (dv 1) da_nil)))))) (blkOk_by (own := [("_law_one", 7)]) (N := ["_law_skew_here", "_law_n", "_law_found", "_law_row", "_law_longer", "_law_rows", "_law_above", "_law_one"]) (sc := defScope s__law_tables) (by decide +kernel)) (fun _ _ _ _ _ => (dg_name (i := 7) sc__law_tables.nd rfl (by first | exact .inl rfl | exact .inr rfl))) (fun _ _ _ _ _ => dts_nil) (fun _ _ _ _ _ => (de_add (dv 5) (de_tup (da_cons (dv 7) da_nil)))) rfl))))))
    (ds_one (ds_set (i := 2) sc__law_tables.nd rfl (by first | exact .inl rfl | exact .inr rfl) (dv 4))))))
    (ds_one (ds_ret (fz (dl_sortT hr (dv 2) rfl T.z_sorted PyProof.Rows.boot_sorted))))))
  exact body
set_option maxHeartbeats 0 in
theorem ok_columns (T : Tx K mg base) : FnG P w K mg base CX0 3 T.f_columns T.fd_columns ["shape"] (spF K 1 F_columns) := by
  have T_bi := T.bi
  have T_z_range := T.z_range
  have T_z_sum := T.z_sum
  have T_z_tuple := T.z_tuple
  have body : FnG P w K mg base CX0 3 T.f_columns T.fd_columns ["shape"] (spF K 1 (runF 3 g_columns)) := fn_dataC rfl rfl T.F_columns sc_columns fun cdv A out s H E hc hr hg =>
    (ds_cons (ds_if (db_not (db_tru (dv 0)))
      (ds_one (ds_ret (de_tup da_nil)))
      ds_nil)
    (ds_one (ds_ret (de_tupG (gx_mk (vs := [1]) hr hg sc_columns.nd (di_rng1 rfl T_z_range (de_at (dv 0) de_int)) (codeAt_own T_bi (hc.symm.trans T.tk_columns) T.th_columns) T.tm_columns (fun _ z => nomatch z) (blkOk_by (own := [("k", 1)]) (by kernel_rfl)) (fun c1 P1 A1 s1 H1 fp1 a1 go1 => (letI : Tabs := tabsIn c1 P1; (dg_name (i := 1) sc_columns.nd rfl (by first | exact .inl rfl | exact .inr rfl)))) (fun c1 P1 A1 s1 H1 fp1 a1 go1 hr hg => (letI : Tabs := tabsIn c1 P1; dts_nil)) (fun c1 P1 A1 s1 H1 fp1 a1 go1 hr hg => (letI : Tabs := tabsIn c1 P1; (de_sumG (gx_mk (vs := [2]) hr hg sc_columns.nd (di_seq (dv 0)) (codeAt_in T_bi) (List.mem_cons_self) (fun _ z => nomatch z) (blkOk_by (own := [("part", 2)]) (by kernel_rfl)) (fun c1 P1 A1 s1 H1 fp1 a1 go1 => (DG.up (dg_name (i := 2) sc_columns.nd rfl (by first | exact .inl rfl | exact .inr rfl)))) (fun c1 P1 A1 s1 H1 fp1 a1 go1 hr hg => (DTs.up (dts_one (db_gt (dv 2) (dv 1))))) (fun c1 P1 A1 s1 H1 fp1 a1 go1 hr hg => (DE.up de_int)) rfl) rfl T_z_sum))) rfl) rfl T_z_tuple))))
  exact body
set_option maxHeartbeats 0 in
theorem ok_row_starts (T : Tx K mg base) : FnG P w K mg base CX0 1 T.f_row_starts T.fd_row_starts ["skew"] (spF K 1 F_row_starts) := by
  have body : FnG P w K mg base CX0 1 T.f_row_starts T.fd_row_starts ["skew"] (spF K 1 (runF 3 g_row_starts)) := fn_dataC rfl rfl T.F_row_starts sc_row_starts fun cdv A out s H E hc hr hg =>
    (ds_cons (ds_asg (dv 0) (dg_tup rfl (dgs_cons (dg_name (i := 1) sc_row_starts.nd rfl (by first | exact .inl rfl | exact .inr rfl)) (dgs_cons (dg_name (i := 2) sc_row_starts.nd rfl (by first | exact .inl rfl | exact .inr rfl)) dgs_nil))))
    (ds_one (ds_ret (de_add (dv 2) (de_rept (de_tup (da_cons de_int da_nil)) (de_sub (de_cb call_len cd_len rfl T.z_len PySem.boot_len (da_cons (dv 1) da_nil)) (de_cb call_len cd_len rfl T.z_len PySem.boot_len (da_cons (dv 2) da_nil))))))))
  exact body
set_option maxHeartbeats 0 in
theorem ok_ties_of (T : Tx K mg base) : FnG P w K mg base CX0 4 T.f_ties_of T.fd_ties_of ["skew"] (spF K 1 F_ties_of) := by
  have body : FnG P w K mg base CX0 4 T.f_ties_of T.fd_ties_of ["skew"] (spF K 1 (runF 9 g_ties_of)) := fn_dataC rfl rfl T.F_ties_of sc_ties_of fun cdv A out s H E hc hr hg =>
    (ds_cons (ds_set (i := 1) sc_ties_of.nd rfl (by first | exact .inl rfl | exact .inr rfl) (de_call (ok_columns T) (hr.mono (by first | decide | omega)) hg rfl T.g_columns T.F_columns.kp T.b_columns (da_cons (de_at (dv 0) de_int) da_nil)))
    (ds_cons (ds_setLc2 (i := 2) rfl sc_ties_of.nd rfl rfl (sw_true rfl rfl rfl (by decide +kernel)) (di_enum rfl T.z_enumerate (da_cons (de_call (ok_row_starts T) (hr.mono (by first | decide | omega)) hg rfl T.g_row_starts T.F_row_starts.kp T.b_row_starts (da_cons (dv 0) da_nil)) da_nil)) (blkOk_by (own := [("row", 4), ("start", 5), ("column", 6)]) (N := ["skew", "heights", "boxes", "numbers", "row", "start", "column", "number", "box"]) (sc := defScope s_ties_of) (by decide +kernel)) (fun _ _ _ _ _ => (dg_tup rfl (dgs_cons (dg_name (i := 4) sc_ties_of.nd rfl (by first | exact .inl rfl | exact .inr rfl)) (dgs_cons (dg_name (i := 5) sc_ties_of.nd rfl (by first | exact .inl rfl | exact .inr rfl)) dgs_nil)))) (fun _ _ _ _ _ => dts_nil) (fun _ _ _ _ _ => (di_rng2 rfl T.z_range (dv 5) (de_at (de_at (dv 0) de_int) (dv 4)))) (fun _ _ _ _ _ => (dg_name (i := 6) sc_ties_of.nd rfl (by first | exact .inl rfl | exact .inr rfl))) (fun _ _ _ _ _ => dts_nil) (fun _ _ _ _ _ => (de_tup (da_cons (dv 4) (da_cons (dv 6) da_nil)))) rfl rfl rfl)
    (ds_cons (ds_setDcV (i := 3) hr rfl sc_ties_of.nd rfl (by first | exact .inl rfl | exact .inr rfl) rfl (di_enum rfl T.z_enumerate (da_cons (dv 2) da_nil)) (blkOk_by (own := [("number", 7), ("box", 8)]) (N := ["skew", "heights", "boxes", "numbers", "row", "start", "column", "number", "box"]) (sc := defScope s_ties_of) (by decide +kernel)) (fun _ _ _ _ _ => (dg_tup rfl (dgs_cons (dg_name (i := 7) sc_ties_of.nd rfl (by first | exact .inl rfl | exact .inr rfl)) (dgs_cons (dg_name (i := 8) sc_ties_of.nd rfl (by first | exact .inl rfl | exact .inr rfl)) dgs_nil)))) (fun _ _ _ _ _ => dts_nil) (fun _ _ _ _ _ => (dv 8)) (fun _ _ _ _ _ => (dv 7)) rfl)
    (ds_one (ds_ret (fz (dl_lc rfl sc_ties_of.nd (di_seq (dv 2)) (blkOk_by (own := [("row", 4), ("column", 6)]) (N := ["skew", "heights", "boxes", "numbers", "row", "start", "column", "number", "box"]) (sc := defScope s_ties_of) (by decide +kernel)) (fun _ _ _ _ _ => (dg_tup rfl (dgs_cons (dg_name (i := 4) sc_ties_of.nd rfl (by first | exact .inl rfl | exact .inr rfl)) (dgs_cons (dg_name (i := 6) sc_ties_of.nd rfl (by first | exact .inl rfl | exact .inr rfl)) dgs_nil)))) (fun _ _ _ _ _ => dts_nil) (fun _ _ _ _ _ => (de_tup (da_cons (de_dget1 hr (dv 3) (de_tup (da_cons (dv 4) (da_cons (de_sub (dv 6) de_int) da_nil))) ⟨rfl, rfl, rfl, rfl⟩) (da_cons (de_dget1 hr (dv 3) (de_tup (da_cons (de_sub (dv 4) de_int) (da_cons (dv 6) da_nil))) ⟨rfl, rfl, rfl, rfl⟩) (da_cons (de_sub (de_sub (de_at (dv 1) (dv 6)) de_int) (dv 4)) da_nil))))) rfl)))))))
  exact body
set_option maxHeartbeats 0 in
theorem ok_in_rows (T : Tx K mg base) : FnG P w K mg base CX0 2 T.f_in_rows T.fd_in_rows ["skew", "letters"] (spF K 2 F_in_rows) := by
  have body : FnG P w K mg base CX0 2 T.f_in_rows T.fd_in_rows ["skew", "letters"] (spF K 2 (runF 6 g_in_rows)) := fn_dataC rfl rfl T.F_in_rows sc_in_rows fun cdv A out s H E hc hr hg =>
    (ds_cons (ds_own (i := 2) sc_in_rows.nd rfl (by first | exact .inl rfl | exact .inr rfl) (dl_lst da_nil))
    (ds_cons (ds_set (i := 3) sc_in_rows.nd rfl (by first | exact .inl rfl | exact .inr rfl) de_int)
    (ds_cons (ds_for PassesOwn.never rfl (di_zip rfl T.z_zip (da_cons (de_call (ok_row_starts T) (hr.mono (by first | decide | omega)) hg rfl T.g_row_starts T.F_row_starts.kp T.b_row_starts (da_cons (dv 0) da_nil)) (da_cons (de_at (dv 0) de_int) da_nil))) (dg_tup rfl (dgs_cons (dg_name (i := 4) sc_in_rows.nd rfl (by first | exact .inl rfl | exact .inr rfl)) (dgs_cons (dg_name (i := 5) sc_in_rows.nd rfl (by first | exact .inl rfl | exact .inr rfl)) dgs_nil)))
      (ds_cons (ds_expr (de_append (dv 2) (de_slice (dv 1) (do_some (dv 3)) (do_some (de_sub (de_add (dv 3) (dv 5)) (dv 4))))))
    (ds_one (ds_aug (i := 3) sc_in_rows.nd rfl (by first | exact .inl rfl | exact .inr rfl) (de_sub (dv 5) (dv 4)) iop_add (opD_I0 fun _ _ _ => .int _)))))
    (ds_one (ds_ret (de_ct call_tupleF cd_tuple rfl T.z_tuple PyProof.Rows.boot_tuple (da_cons (dv 2) da_nil)))))))
  exact body
set_option maxHeartbeats 0 in
theorem ok_fitting (T : Tx K mg base) : FnG P w K mg base CX0 1 T.f_fitting T.fd_fitting ["letters", "left", "above", "end"] (spF K 4 F_fitting) := by
  have body : FnG P w K mg base CX0 1 T.f_fitting T.fd_fitting ["letters", "left", "above", "end"] (spF K 4 (runF 5 g_fitting)) := fn_dataC rfl rfl T.F_fitting sc_fitting fun cdv A out s H E hc hr hg =>
    (ds_cons (ds_set (i := 4) sc_fitting.nd rfl (by first | exact .inl rfl | exact .inr rfl) (de_if (db_is (dv 1) de_non) de_int (de_at (dv 0) (dv 1))))
    (ds_cons (ds_if (db_isnot (dv 2) de_non)
      (ds_one (ds_set (i := 4) sc_fitting.nd rfl (by first | exact .inl rfl | exact .inr rfl) (de_cb (call_max2 rfl) cd_max rfl T.z_max boot_max (da_cons (dv 4) (da_cons (de_add (de_at (dv 0) (dv 2)) de_int) da_nil)))))
      ds_nil)
    (ds_one (ds_ret (fz (dl_lrg2 rfl rfl T.z_list rfl T.z_range (dv 4) (dv 3)))))))
  exact body
set_option maxHeartbeats 0 in
theorem ok_filled (T : Tx K mg base) : FnG P w K mg base CX0 5 T.f_filled T.fd_filled ["skew", "n", "most"] (spL K 3 F_filled) := by
  have body : FnG P w K mg base CX0 5 T.f_filled T.fd_filled ["skew", "n", "most"] (spL K 3 (runL 9 g_filled)) := fn_listC rfl rfl T.F_filled sc_filled fun cdv A out s H E hc hr hg =>
    (ds_cons (ds_set (i := 3) sc_filled.nd rfl (by first | exact .inl rfl | exact .inr rfl) (fz (dl_lst (da_cons (de_tup da_nil) da_nil))))
    (ds_cons (ds_for PassesOwn.never rfl (di_seq (de_call (ok_ties_of T) (hr.mono (by first | decide | omega)) hg rfl T.g_ties_of T.F_ties_of.kp T.b_ties_of (da_cons (dv 0) da_nil))) (dg_tup rfl (dgs_cons (dg_name (i := 4) sc_filled.nd rfl (by first | exact .inl rfl | exact .inr rfl)) (dgs_cons (dg_name (i := 5) sc_filled.nd rfl (by first | exact .inl rfl | exact .inr rfl)) (dgs_cons (dg_name (i := 6) sc_filled.nd rfl (by first | exact .inl rfl | exact .inr rfl)) dgs_nil))))
      (ds_cons (ds_setLc2 (i := 3) rfl sc_filled.nd rfl rfl (sw_true rfl rfl rfl (by decide +kernel)) (di_seq (dv 3)) (blkOk_by (own := [("letters", 7), ("letter", 8)]) (N := ["skew", "n", "most", "grown", "left", "above", "lower", "letters", "letter"]) (sc := defScope s_filled) (by decide +kernel)) (fun _ _ _ _ _ => (dg_name (i := 7) sc_filled.nd rfl (by first | exact .inl rfl | exact .inr rfl))) (fun _ _ _ _ _ => dts_nil) (fun _ _ _ _ _ => (di_seq (de_call (ok_fitting T) (hr.mono (by first | decide | omega)) hg rfl T.g_fitting T.F_fitting.kp T.b_fitting (da_cons (dv 7) (da_cons (dv 4) (da_cons (dv 5) (da_cons (de_sub (dv 1) (dv 6)) da_nil))))))) (fun _ _ _ _ _ => (dg_name (i := 8) sc_filled.nd rfl (by first | exact .inl rfl | exact .inr rfl))) (fun _ _ _ _ _ => dts_nil) (fun _ _ _ _ _ => (de_add (dv 7) (de_tup (da_cons (dv 8) da_nil)))) rfl rfl rfl)
    (ds_one (ds_if (PW.pt (dw_and (db_isnot (dv 2) de_non) (dw_and1 (db_gt (de_cb call_len cd_len rfl T.z_len PySem.boot_len (da_cons (dv 3) da_nil)) (dv 2)))))
      (ds_one ds_never)
      ds_nil))))
    (ds_one (ds_retL (dl_lc rfl sc_filled.nd (di_seq (dv 3)) (blkOk_by (own := [("letters", 7)]) (N := ["skew", "n", "most", "grown", "left", "above", "lower", "letters", "letter"]) (sc := defScope s_filled) (by decide +kernel)) (fun _ _ _ _ _ => (dg_name (i := 7) sc_filled.nd rfl (by first | exact .inl rfl | exact .inr rfl))) (fun _ _ _ _ _ => dts_nil) (fun _ _ _ _ _ => (de_call (ok_in_rows T) (hr.mono (by first | decide | omega)) hg rfl T.g_in_rows T.F_in_rows.kp T.b_in_rows (da_cons (dv 0) (da_cons (dv 7) da_nil)))) rfl)))))
  exact body
set_option maxHeartbeats 0 in
theorem ok_tables_of (T : Tx K mg base) : FnG P w K mg base CX0 6 T.f_tables_of T.fd_tables_of ["skew", "n"] (spL K 2 F_tables_of) := by
  have body : FnG P w K mg base CX0 6 T.f_tables_of T.fd_tables_of ["skew", "n"] (spL K 2 (runL 2 g_tables_of)) := fn_listC rfl rfl T.F_tables_of sc_tables_of fun cdv A out s H E hc hr hg =>
    (ds_one (ds_retL (dl_call (ok_filled T) (hr.mono (by first | decide | omega)) hg rfl T.g_filled T.F_filled.kp T.b_filled (da_cons (dv 0) (da_cons (dv 1) (da_cons (de_glob rfl T.c_MOST_TABLES.1 T.c_MOST_TABLES.2.1 T.c_MOST_TABLES.2.2) da_nil))))))
  exact body
set_option maxHeartbeats 0 in
theorem ok_content_of (T : Tx K mg base) : FnG P w K mg base CX0 3 T.f_content_of T.fd_content_of ["n", "table"] (spF K 2 F_content_of) := by
  have T_bi := T.bi
  have T_knd := T.knd
  have T_z_range := T.z_range
  have T_z_sum := T.z_sum
  have T_z_tuple := T.z_tuple
  have body : FnG P w K mg base CX0 3 T.f_content_of T.fd_content_of ["n", "table"] (spF K 2 (runF 4 g_content_of)) := fn_dataC rfl rfl T.F_content_of sc_content_of fun cdv A out s H E hc hr hg =>
    (ds_one (ds_ret (de_tupG (gx_mk (vs := [2]) hr hg sc_content_of.nd (di_rng1 rfl T_z_range (dv 0)) (codeAt_own T_bi (hc.symm.trans T.tk_content_of) T.th_content_of) T.tm_content_of (fun _ z => nomatch z) (blkOk_by (own := [("letter", 2)]) (by kernel_rfl)) (fun c1 P1 A1 s1 H1 fp1 a1 go1 => (letI : Tabs := tabsIn c1 P1; (dg_name (i := 2) sc_content_of.nd rfl (by first | exact .inl rfl | exact .inr rfl)))) (fun c1 P1 A1 s1 H1 fp1 a1 go1 hr hg => (letI : Tabs := tabsIn c1 P1; dts_nil)) (fun c1 P1 A1 s1 H1 fp1 a1 go1 hr hg => (letI : Tabs := tabsIn c1 P1; (de_sumG (gx_mk (vs := [3]) hr hg sc_content_of.nd (di_seq (dv 1)) (codeAt_in T_bi) (List.mem_cons_self) (fun _ z => nomatch z) (blkOk_by (own := [("row", 3)]) (by kernel_rfl)) (fun c1 P1 A1 s1 H1 fp1 a1 go1 => (DG.up (dg_name (i := 3) sc_content_of.nd rfl (by first | exact .inl rfl | exact .inr rfl)))) (fun c1 P1 A1 s1 H1 fp1 a1 go1 hr hg => (DTs.up dts_nil)) (fun c1 P1 A1 s1 H1 fp1 a1 go1 hr hg => (DE.up (de_count T_knd (dv 3) (dv 2)))) rfl) rfl T_z_sum))) rfl) rfl T_z_tuple)))
  exact body
set_option maxHeartbeats 0 in
theorem ok__law_content_right (T : Tx K mg base) : FnG P w K mg base CX0 4 T.f__law_content_right T.fd__law_content_right ["_law_n", "_law_table"] (spF K 2 F__law_content_right) := by
  have body : FnG P w K mg base CX0 4 T.f__law_content_right T.fd__law_content_right ["_law_n", "_law_table"] (spF K 2 (runF 5 g__law_content_right)) := fn_dataC rfl rfl T.F__law_content_right sc__law_content_right fun cdv A out s H E hc hr hg =>
    (ds_cons (ds_own (i := 2) sc__law_content_right.nd rfl (by first | exact .inl rfl | exact .inr rfl) (dl_lst da_nil))
    (ds_cons (ds_for PassesOwn.never rfl (di_seq (dv 1)) (dg_name (i := 3) sc__law_content_right.nd rfl (by first | exact .inl rfl | exact .inr rfl))
      (ds_one (ds_expr (de_extT (dv 2) (dv 3)))))
    (ds_one (ds_ret (de_eq hr (de_cb (call_reprA hr hg) cd_repr rfl T.z_repr boot_repr (da_cons (de_call (ok_content_of T) (hr.mono (by first | decide | omega)) hg rfl T.g_content_of T.F_content_of.kp T.b_content_of (da_cons (dv 0) (da_cons (dv 1) da_nil))) da_nil)) (de_cb (call_reprA hr hg) cd_repr rfl T.z_repr boot_repr (da_cons (de_ct call_tupleF cd_tuple rfl T.z_tuple PyProof.Rows.boot_tuple (da_cons (fz (dl_lc rfl sc__law_content_right.nd (di_rng1 rfl T.z_range (dv 0)) (blkOk_by (own := [("_law_letter", 4)]) (N := ["_law_n", "_law_table", "_law_letters", "_law_row", "_law_letter"]) (sc := defScope s__law_content_right) (by decide +kernel)) (fun _ _ _ _ _ => (dg_name (i := 4) sc__law_content_right.nd rfl (by first | exact .inl rfl | exact .inr rfl))) (fun _ _ _ _ _ => dts_nil) (fun _ _ _ _ _ => (de_countC (dv 2) (dv 4))) rfl)) da_nil)) da_nil)))))))
  exact body
set_option maxHeartbeats 0 in
theorem ok_law (T : Tx K mg base) : FnG P w K mg base CX0 7 T.f_law T.fd_law ["_law_script"] (spF K 1 F_law) := by
  have body : FnG P w K mg base CX0 7 T.f_law T.fd_law ["_law_script"] (spF K 1 (runF 11 g_law)) := fn_dataC rfl rfl T.F_law sc_law fun cdv A out s H E hc hr hg =>
    (ds_cons (ds_own (i := 1) sc_law.nd rfl (by first | exact .inl rfl | exact .inr rfl) (dl_call (ok__law_feed T) (hr.mono (by first | decide | omega)) hg rfl T.g__law_feed T.F__law_feed.kp T.b__law_feed (da_cons (dv 0) da_nil)))
    (ds_cons (ds_for PassesOwn.never rfl (di_rng1 rfl T.z_range de_int) (dg_name (i := 2) sc_law.nd rfl (by first | exact .inl rfl | exact .inr rfl))
      (ds_cons (ds_set (i := 3) sc_law.nd rfl (by first | exact .inl rfl | exact .inr rfl) (de_call (ok__law_skew T) (hr.mono (by first | decide | omega)) hg rfl T.g__law_skew T.F__law_skew.kp T.b__law_skew (da_cons (dv 1) (da_cons de_int da_nil))))
    (ds_cons (ds_set (i := 4) sc_law.nd rfl (by first | exact .inl rfl | exact .inr rfl) (de_call (ok__law_boxes T) (hr.mono (by first | decide | omega)) hg rfl T.g__law_boxes T.F__law_boxes.kp T.b__law_boxes (da_cons (dv 3) da_nil)))
    (ds_cons (ds_set (i := 5) sc_law.nd rfl (by first | exact .inl rfl | exact .inr rfl) (de_at (fz (dl_lst (da_cons de_int (da_cons de_int (da_cons de_int (da_cons de_int (da_cons de_int (da_cons de_int (da_cons de_int (da_cons de_int (da_cons de_int (da_cons de_int da_nil)))))))))))) (dv 4)))
    (ds_cons (ds_set (i := 6) sc_law.nd rfl (by first | exact .inl rfl | exact .inr rfl) (de_cb (call_max2 rfl) cd_max rfl T.z_max boot_max (da_cons de_int (da_cons (de_sub (dv 5) (de_at (fz (dl_lst (da_cons de_int (da_cons de_int (da_cons de_int (da_cons de_int (da_cons de_int (da_cons de_int (da_cons de_int (da_cons de_int da_nil)))))))))) (de_call (ok__law_draw T) (hr.mono (by first | decide | omega)) hg rfl T.g__law_draw T.F__law_draw.kp T.b__law_draw (da_cons (dv 1) (da_cons de_int da_nil))))) da_nil))))
    (ds_cons (ds_set (i := 7) sc_law.nd rfl (by first | exact .inl rfl | exact .inr rfl) (de_cb (call_reprA hr hg) cd_repr rfl T.z_repr boot_repr (da_cons (dv 3) da_nil)))
    (ds_cons (ds_set (i := 8) sc_law.nd rfl (by first | exact .inl rfl | exact .inr rfl) (de_call (ok__law_tables T) (hr.mono (by first | decide | omega)) hg rfl T.g__law_tables T.F__law_tables.kp T.b__law_tables (da_cons (dv 3) (da_cons (dv 6) da_nil))))
    (ds_one (ds_if (db_lt (de_cb call_len cd_len rfl T.z_len PySem.boot_len (da_cons (dv 8) da_nil)) de_int)
      (ds_cons (ds_own (i := 9) sc_law.nd rfl (by first | exact .inl rfl | exact .inr rfl) (dl_call (ok_tables_of T) (hr.mono (by first | decide | omega)) hg rfl T.g_tables_of T.F_tables_of.kp T.b_tables_of (da_cons (dv 3) (da_cons (dv 6) da_nil))))
    (ds_cons (ds_if (PW.pt (dw_or (db_ne hr (de_cb (call_reprA hr hg) cd_repr rfl T.z_repr boot_repr (da_cons (dv 9) da_nil)) (de_cb (call_reprA hr hg) cd_repr rfl T.z_repr boot_repr (da_cons (dv 8) da_nil))) (dw_or1 (db_ne hr (de_cb (call_reprA hr hg) cd_repr rfl T.z_repr boot_repr (da_cons (dv 3) da_nil)) (dv 7)))))
      (ds_one (ds_ret de_bl))
      ds_nil)
    (ds_cons (ds_expr (de_reverse (dv 9)))
    (ds_cons (ds_expr (de_append (dv 9) (de_tup da_nil)))
    (ds_cons (ds_if (db_ne hr (de_cb (call_reprA hr hg) cd_repr rfl T.z_repr boot_repr (da_cons (fz (dl_call (ok_tables_of T) (hr.mono (by first | decide | omega)) hg rfl T.g_tables_of T.F_tables_of.kp T.b_tables_of (da_cons (dv 3) (da_cons (dv 6) da_nil)))) da_nil)) (de_cb (call_reprA hr hg) cd_repr rfl T.z_repr boot_repr (da_cons (dv 8) da_nil)))
      (ds_one (ds_ret de_bl))
      ds_nil)
    (ds_one (ds_for PassesOwn.never rfl (di_seq (fz (dl_cat (fz (dl_slice (dv 8) do_none (do_some de_int))) (fz (dl_slice (dv 8) (do_some (de_neg de_int)) do_none))))) (dg_name (i := 10) sc_law.nd rfl (by first | exact .inl rfl | exact .inr rfl))
      (ds_one (ds_if (db_not (db_val (de_call (ok__law_content_right T) (hr.mono (by first | decide | omega)) hg rfl T.g__law_content_right T.F__law_content_right.kp T.b__law_content_right (da_cons (dv 6) (da_cons (dv 10) da_nil)))))
      (ds_one (ds_ret de_bl))
      ds_nil)))))))))
      ds_nil)))))))))
    (ds_one (ds_ret (de_and (de_eq hr (de_cb (call_reprA hr hg) cd_repr rfl T.z_repr boot_repr (da_cons (fz (dl_call (ok_tables_of T) (hr.mono (by first | decide | omega)) hg rfl T.g_tables_of T.F_tables_of.kp T.b_tables_of (da_cons (de_tup (da_cons (de_tup da_nil) (da_cons (de_tup da_nil) da_nil))) (da_cons de_int da_nil)))) da_nil)) de_str) (de_one (de_eq hr (de_cb (call_reprA hr hg) cd_repr rfl T.z_repr boot_repr (da_cons (fz (dl_call (ok_tables_of T) (hr.mono (by first | decide | omega)) hg rfl T.g_tables_of T.F_tables_of.kp T.b_tables_of (da_cons (de_tup (da_cons (de_tup (da_cons de_int (da_cons de_int da_nil))) (da_cons (de_tup (da_cons de_int (da_cons de_int da_nil))) da_nil))) (da_cons de_int da_nil)))) da_nil)) de_str)))))))
  exact body
end
set_option maxHeartbeats 0 in
theorem all_mk {l : PySem.W.OpenLaw} {w : World} {K : Fg} {h : Heap} {mg : Str → Option Value} {fa : Addr} (X : K.In h) (G : h.Ns mainGlobals mg) (hfa : mg "law" = some (.ref fa)) (tb : ∀ m ∈ (["columns", "content_of"] : List Str), TabOf mg h m)
    {f0 : Addr} {od0 an0 : Option Addr} {sl0 : Array (Option Value)} {oc0 kV0 dc0 pm0 cd0 ct0 : Value}
    (a0 : PySem.W.nsIn K mainGlobals "_law_feed" = some (some (.ref f0))) (l0 : K.lookup f0 = some ⟨oc0, od0, .func (PySem.W.fnOf "_law_feed" "_law_feed" (defArgs s__law_feed) (defBody s__law_feed) (defScope s__law_feed) .none kV0 dc0 pm0 an0 cd0 ct0), sl0⟩) (c0 : PySem.W.codeIn K cd0 "_law_feed" = true) (k0 : PySem.W.keepIn K (.ref f0) = true)
    {f1 : Addr} {od1 an1 : Option Addr} {sl1 : Array (Option Value)} {oc1 kV1 dc1 pm1 cd1 ct1 : Value}
    (a1 : PySem.W.nsIn K mainGlobals "_law_draw" = some (some (.ref f1))) (l1 : K.lookup f1 = some ⟨oc1, od1, .func (PySem.W.fnOf "_law_draw" "_law_draw" (defArgs s__law_draw) (defBody s__law_draw) (defScope s__law_draw) .none kV1 dc1 pm1 an1 cd1 ct1), sl1⟩) (c1 : PySem.W.codeIn K cd1 "_law_draw" = true) (k1 : PySem.W.keepIn K (.ref f1) = true)
    {f2 : Addr} {od2 an2 : Option Addr} {sl2 : Array (Option Value)} {oc2 kV2 dc2 pm2 cd2 ct2 : Value}
    (a2 : PySem.W.nsIn K mainGlobals "_law_shape" = some (some (.ref f2))) (l2 : K.lookup f2 = some ⟨oc2, od2, .func (PySem.W.fnOf "_law_shape" "_law_shape" (defArgs s__law_shape) (defBody s__law_shape) (defScope s__law_shape) .none kV2 dc2 pm2 an2 cd2 ct2), sl2⟩) (c2 : PySem.W.codeIn K cd2 "_law_shape" = true) (k2 : PySem.W.keepIn K (.ref f2) = true)
    {f3 : Addr} {od3 an3 : Option Addr} {sl3 : Array (Option Value)} {oc3 kV3 dc3 pm3 cd3 ct3 : Value}
    (a3 : PySem.W.nsIn K mainGlobals "_law_skew" = some (some (.ref f3))) (l3 : K.lookup f3 = some ⟨oc3, od3, .func (PySem.W.fnOf "_law_skew" "_law_skew" (defArgs s__law_skew) (defBody s__law_skew) (defScope s__law_skew) .none kV3 dc3 pm3 an3 cd3 ct3), sl3⟩) (c3 : PySem.W.codeIn K cd3 "_law_skew" = true) (k3 : PySem.W.keepIn K (.ref f3) = true)
    {f4 : Addr} {od4 an4 : Option Addr} {sl4 : Array (Option Value)} {oc4 kV4 dc4 pm4 cd4 ct4 : Value}
    (a4 : PySem.W.nsIn K mainGlobals "_law_boxes" = some (some (.ref f4))) (l4 : K.lookup f4 = some ⟨oc4, od4, .func (PySem.W.fnOf "_law_boxes" "_law_boxes" (defArgs s__law_boxes) (defBody s__law_boxes) (defScope s__law_boxes) .none kV4 dc4 pm4 an4 cd4 ct4), sl4⟩) (c4 : PySem.W.codeIn K cd4 "_law_boxes" = true) (k4 : PySem.W.keepIn K (.ref f4) = true)
    {f5 : Addr} {od5 an5 : Option Addr} {sl5 : Array (Option Value)} {oc5 kV5 dc5 pm5 cd5 ct5 : Value}
    (a5 : PySem.W.nsIn K mainGlobals "_law_first" = some (some (.ref f5))) (l5 : K.lookup f5 = some ⟨oc5, od5, .func (PySem.W.fnOf "_law_first" "_law_first" (defArgs s__law_first) (defBody s__law_first) (defScope s__law_first) .none kV5 dc5 pm5 an5 cd5 ct5), sl5⟩) (c5 : PySem.W.codeIn K cd5 "_law_first" = true) (k5 : PySem.W.keepIn K (.ref f5) = true)
    {f6 : Addr} {od6 an6 : Option Addr} {sl6 : Array (Option Value)} {oc6 kV6 dc6 pm6 cd6 ct6 : Value}
    (a6 : PySem.W.nsIn K mainGlobals "_law_skew_rows" = some (some (.ref f6))) (l6 : K.lookup f6 = some ⟨oc6, od6, .func (PySem.W.fnOf "_law_skew_rows" "_law_skew_rows" (defArgs s__law_skew_rows) (defBody s__law_skew_rows) (defScope s__law_skew_rows) .none kV6 dc6 pm6 an6 cd6 ct6), sl6⟩) (c6 : PySem.W.codeIn K cd6 "_law_skew_rows" = true) (k6 : PySem.W.keepIn K (.ref f6) = true)
    {f7 : Addr} {od7 an7 : Option Addr} {sl7 : Array (Option Value)} {oc7 kV7 dc7 pm7 cd7 ct7 : Value}
    (a7 : PySem.W.nsIn K mainGlobals "_law_tables" = some (some (.ref f7))) (l7 : K.lookup f7 = some ⟨oc7, od7, .func (PySem.W.fnOf "_law_tables" "_law_tables" (defArgs s__law_tables) (defBody s__law_tables) (defScope s__law_tables) .none kV7 dc7 pm7 an7 cd7 ct7), sl7⟩) (c7 : PySem.W.codeIn K cd7 "_law_tables" = true) (k7 : PySem.W.keepIn K (.ref f7) = true)
    {f8 : Addr} {od8 an8 : Option Addr} {sl8 : Array (Option Value)} {oc8 kV8 dc8 pm8 cd8 ct8 : Value}
    (a8 : PySem.W.nsIn K mainGlobals "columns" = some (some (.ref f8))) (l8 : K.lookup f8 = some ⟨oc8, od8, .func (PySem.W.fnOf "columns" "columns" (defArgs s_columns) (defBody s_columns) (defScope s_columns) .none kV8 dc8 pm8 an8 cd8 ct8), sl8⟩) (c8 : PySem.W.codeIn K cd8 "columns" = true) (k8 : PySem.W.keepIn K (.ref f8) = true)
    {f9 : Addr} {od9 an9 : Option Addr} {sl9 : Array (Option Value)} {oc9 kV9 dc9 pm9 cd9 ct9 : Value}
    (a9 : PySem.W.nsIn K mainGlobals "row_starts" = some (some (.ref f9))) (l9 : K.lookup f9 = some ⟨oc9, od9, .func (PySem.W.fnOf "row_starts" "row_starts" (defArgs s_row_starts) (defBody s_row_starts) (defScope s_row_starts) .none kV9 dc9 pm9 an9 cd9 ct9), sl9⟩) (c9 : PySem.W.codeIn K cd9 "row_starts" = true) (k9 : PySem.W.keepIn K (.ref f9) = true)
    {f10 : Addr} {od10 an10 : Option Addr} {sl10 : Array (Option Value)} {oc10 kV10 dc10 pm10 cd10 ct10 : Value}
    (a10 : PySem.W.nsIn K mainGlobals "ties_of" = some (some (.ref f10))) (l10 : K.lookup f10 = some ⟨oc10, od10, .func (PySem.W.fnOf "ties_of" "ties_of" (defArgs s_ties_of) (defBody s_ties_of) (defScope s_ties_of) .none kV10 dc10 pm10 an10 cd10 ct10), sl10⟩) (c10 : PySem.W.codeIn K cd10 "ties_of" = true) (k10 : PySem.W.keepIn K (.ref f10) = true)
    {f11 : Addr} {od11 an11 : Option Addr} {sl11 : Array (Option Value)} {oc11 kV11 dc11 pm11 cd11 ct11 : Value}
    (a11 : PySem.W.nsIn K mainGlobals "in_rows" = some (some (.ref f11))) (l11 : K.lookup f11 = some ⟨oc11, od11, .func (PySem.W.fnOf "in_rows" "in_rows" (defArgs s_in_rows) (defBody s_in_rows) (defScope s_in_rows) .none kV11 dc11 pm11 an11 cd11 ct11), sl11⟩) (c11 : PySem.W.codeIn K cd11 "in_rows" = true) (k11 : PySem.W.keepIn K (.ref f11) = true)
    {f12 : Addr} {od12 an12 : Option Addr} {sl12 : Array (Option Value)} {oc12 kV12 dc12 pm12 cd12 ct12 : Value}
    (a12 : PySem.W.nsIn K mainGlobals "fitting" = some (some (.ref f12))) (l12 : K.lookup f12 = some ⟨oc12, od12, .func (PySem.W.fnOf "fitting" "fitting" (defArgs s_fitting) (defBody s_fitting) (defScope s_fitting) .none kV12 dc12 pm12 an12 cd12 ct12), sl12⟩) (c12 : PySem.W.codeIn K cd12 "fitting" = true) (k12 : PySem.W.keepIn K (.ref f12) = true)
    {f13 : Addr} {od13 an13 : Option Addr} {sl13 : Array (Option Value)} {oc13 kV13 dc13 pm13 cd13 ct13 : Value}
    (a13 : PySem.W.nsIn K mainGlobals "filled" = some (some (.ref f13))) (l13 : K.lookup f13 = some ⟨oc13, od13, .func (PySem.W.fnOf "filled" "filled" (defArgs s_filled) (defBody s_filled) (defScope s_filled) .none kV13 dc13 pm13 an13 cd13 ct13), sl13⟩) (c13 : PySem.W.codeIn K cd13 "filled" = true) (k13 : PySem.W.keepIn K (.ref f13) = true)
    {f14 : Addr} {od14 an14 : Option Addr} {sl14 : Array (Option Value)} {oc14 kV14 dc14 pm14 cd14 ct14 : Value}
    (a14 : PySem.W.nsIn K mainGlobals "tables_of" = some (some (.ref f14))) (l14 : K.lookup f14 = some ⟨oc14, od14, .func (PySem.W.fnOf "tables_of" "tables_of" (defArgs s_tables_of) (defBody s_tables_of) (defScope s_tables_of) .none kV14 dc14 pm14 an14 cd14 ct14), sl14⟩) (c14 : PySem.W.codeIn K cd14 "tables_of" = true) (k14 : PySem.W.keepIn K (.ref f14) = true)
    {f15 : Addr} {od15 an15 : Option Addr} {sl15 : Array (Option Value)} {oc15 kV15 dc15 pm15 cd15 ct15 : Value}
    (a15 : PySem.W.nsIn K mainGlobals "content_of" = some (some (.ref f15))) (l15 : K.lookup f15 = some ⟨oc15, od15, .func (PySem.W.fnOf "content_of" "content_of" (defArgs s_content_of) (defBody s_content_of) (defScope s_content_of) .none kV15 dc15 pm15 an15 cd15 ct15), sl15⟩) (c15 : PySem.W.codeIn K cd15 "content_of" = true) (k15 : PySem.W.keepIn K (.ref f15) = true)
    {f16 : Addr} {od16 an16 : Option Addr} {sl16 : Array (Option Value)} {oc16 kV16 dc16 pm16 cd16 ct16 : Value}
    (a16 : PySem.W.nsIn K mainGlobals "_law_content_right" = some (some (.ref f16))) (l16 : K.lookup f16 = some ⟨oc16, od16, .func (PySem.W.fnOf "_law_content_right" "_law_content_right" (defArgs s__law_content_right) (defBody s__law_content_right) (defScope s__law_content_right) .none kV16 dc16 pm16 an16 cd16 ct16), sl16⟩) (c16 : PySem.W.codeIn K cd16 "_law_content_right" = true) (k16 : PySem.W.keepIn K (.ref f16) = true)
    {f17 : Addr} {od17 an17 : Option Addr} {sl17 : Array (Option Value)} {oc17 kV17 dc17 pm17 cd17 ct17 : Value}
    (a17 : PySem.W.nsIn K mainGlobals "law" = some (some (.ref f17))) (l17 : K.lookup f17 = some ⟨oc17, od17, .func (PySem.W.fnOf "law" "law" (defArgs s_law) (defBody s_law) (defScope s_law) .none kV17 dc17 pm17 an17 cd17 ct17), sl17⟩) (c17 : PySem.W.codeIn K cd17 "law" = true) (k17 : PySem.W.keepIn K (.ref f17) = true)
    (z0 : PySem.W.nsIn K mainGlobals "enumerate" = some none)
    (z1 : PySem.W.nsIn K mainGlobals "len" = some none)
    (z2 : PySem.W.nsIn K mainGlobals "list" = some none)
    (z3 : PySem.W.nsIn K mainGlobals "max" = some none)
    (z4 : PySem.W.nsIn K mainGlobals "min" = some none)
    (z5 : PySem.W.nsIn K mainGlobals "range" = some none)
    (z6 : PySem.W.nsIn K mainGlobals "repr" = some none)
    (z7 : PySem.W.nsIn K mainGlobals "sorted" = some none)
    (z8 : PySem.W.nsIn K mainGlobals "sum" = some none)
    (z9 : PySem.W.nsIn K mainGlobals "tuple" = some none)
    (z10 : PySem.W.nsIn K mainGlobals "zip" = some none)
    {nt0 : Tok} (na0 : PySem.W.nsIn K mainGlobals "MOST_TABLES" = some (some (.int (1000) nt0)))
    (knd : noTD K = true) :
    ∃ (fd : FuncData) (cs : List (Addr × Addr)), (∀ p ∈ cs, h.get? p.2 = some tab0 ∧ PySem.W.CodeHd h p.1 p.2) ∧ (∀ (s : Shared) (v : Value), BindsTo s fd ⟨[v], []⟩ [("_law_script", v)]) ∧ ∀ base : Heap, K.In base → base.Ns mainGlobals mg → BI mg base → (∀ p ∈ cs, PySem.W.CodeHd base p.1 p.2) → FnG l.prog w K mg base CX0 7 fa fd ["_law_script"] (@spF ⟨fun _ _ => none, fun _ => none⟩ ⟨cs.map fun p => (none, p.2)⟩ K 1 F_law) := by
  have e := hfa.symm.trans (PySem.W.mg_of X G a17)
  cases e
  have F0 := fun_mk (st := s__law_feed) l0 c0 k0
  have F1 := fun_mk (st := s__law_draw) l1 c1 k1
  have F2 := fun_mk (st := s__law_shape) l2 c2 k2
  have F3 := fun_mk (st := s__law_skew) l3 c3 k3
  have F4 := fun_mk (st := s__law_boxes) l4 c4 k4
  have F5 := fun_mk (st := s__law_first) l5 c5 k5
  have F6 := fun_mk (st := s__law_skew_rows) l6 c6 k6
  have F7 := fun_mk (st := s__law_tables) l7 c7 k7
  have F8 := fun_mk (st := s_columns) l8 c8 k8
  have F9 := fun_mk (st := s_row_starts) l9 c9 k9
  have F10 := fun_mk (st := s_ties_of) l10 c10 k10
  have F11 := fun_mk (st := s_in_rows) l11 c11 k11
  have F12 := fun_mk (st := s_fitting) l12 c12 k12
  have F13 := fun_mk (st := s_filled) l13 c13 k13
  have F14 := fun_mk (st := s_tables_of) l14 c14 k14
  have F15 := fun_mk (st := s_content_of) l15 c15 k15
  have F16 := fun_mk (st := s__law_content_right) l16 c16 k16
  have F17 := fun_mk (st := s_law) l17 c17 k17
  obtain ⟨c8t, P8t, e8t, h8t, t8t⟩ := (tb "columns" (by decide)).at X (PySem.W.mg_of X G a8) l8
  obtain ⟨c15t, P15t, e15t, h15t, t15t⟩ := (tb "content_of" (by decide)).at X (PySem.W.mg_of X G a15) l15
  refine ⟨PySem.W.fnOf "law" "law" (defArgs s_law) (defBody s_law) (defScope s_law) .none kV17 dc17 pm17 an17 cd17 ct17, [(c8t, P8t), (c15t, P15t)], List.forall_mem_cons.mpr ⟨⟨t8t, h8t⟩, List.forall_mem_cons.mpr ⟨⟨t15t, h15t⟩, (fun p hp => nomatch hp)⟩⟩, ?b1, fun base _ _ bi hcs => ?b2⟩
  case b2 =>
    letI : Nms := ⟨fun _ _ => none, fun _ => none⟩
    letI : Tabs := ⟨[(none, P8t), (none, P15t)]⟩
    let T : Tx K mg base := ⟨_, _, F0, (F0.binds fun _ _ _ _ _ _ us hl => match us, hl with | [_], _ => rfl), (PySem.W.mg_of X G a0), _, _, F1, (F1.binds fun _ _ _ _ _ _ us hl => match us, hl with | [_, _], _ => rfl), (PySem.W.mg_of X G a1), _, _, F2, (F2.binds fun _ _ _ _ _ _ us hl => match us, hl with | [_, _], _ => rfl), (PySem.W.mg_of X G a2), _, _, F3, (F3.binds fun _ _ _ _ _ _ us hl => match us, hl with | [_, _], _ => rfl), (PySem.W.mg_of X G a3), _, _, F4, (F4.binds fun _ _ _ _ _ _ us hl => match us, hl with | [_], _ => rfl), (PySem.W.mg_of X G a4), _, _, F5, (F5.binds fun _ _ _ _ _ _ us hl => match us, hl with | [_, _], _ => rfl), (PySem.W.mg_of X G a5), _, _, F6, (F6.binds fun _ _ _ _ _ _ us hl => match us, hl with | [_, _, _, _], _ => rfl), (PySem.W.mg_of X G a6), _, _, F7, (F7.binds fun _ _ _ _ _ _ us hl => match us, hl with | [_, _], _ => rfl), (PySem.W.mg_of X G a7), _, _, F8, (F8.binds fun _ _ _ _ _ _ us hl => match us, hl with | [_], _ => rfl), (PySem.W.mg_of X G a8), _, _, F9, (F9.binds fun _ _ _ _ _ _ us hl => match us, hl with | [_], _ => rfl), (PySem.W.mg_of X G a9), _, _, F10, (F10.binds fun _ _ _ _ _ _ us hl => match us, hl with | [_], _ => rfl), (PySem.W.mg_of X G a10), _, _, F11, (F11.binds fun _ _ _ _ _ _ us hl => match us, hl with | [_, _], _ => rfl), (PySem.W.mg_of X G a11), _, _, F12, (F12.binds fun _ _ _ _ _ _ us hl => match us, hl with | [_, _, _, _], _ => rfl), (PySem.W.mg_of X G a12), _, _, F13, (F13.binds fun _ _ _ _ _ _ us hl => match us, hl with | [_, _, _], _ => rfl), (PySem.W.mg_of X G a13), _, _, F14, (F14.binds fun _ _ _ _ _ _ us hl => match us, hl with | [_, _], _ => rfl), (PySem.W.mg_of X G a14), _, _, F15, (F15.binds fun _ _ _ _ _ _ us hl => match us, hl with | [_, _], _ => rfl), (PySem.W.mg_of X G a15), _, _, F16, (F16.binds fun _ _ _ _ _ _ us hl => match us, hl with | [_, _], _ => rfl), (PySem.W.mg_of X G a16), _, _, F17, (F17.binds fun _ _ _ _ _ _ us hl => match us, hl with | [_], _ => rfl), (PySem.W.mg_of X G a17), (PySem.W.mg_none_of X G z0), (PySem.W.mg_none_of X G z1), (PySem.W.mg_none_of X G z2), (PySem.W.mg_none_of X G z3), (PySem.W.mg_none_of X G z4), (PySem.W.mg_none_of X G z5), (PySem.W.mg_none_of X G z6), (PySem.W.mg_none_of X G z7), (PySem.W.mg_none_of X G z8), (PySem.W.mg_none_of X G z9), (PySem.W.mg_none_of X G z10), _, ⟨PySem.W.mg_of X G na0, ⟨_, rfl⟩, .int _⟩, bi, knd, _, _, e8t, (hcs _ List.mem_cons_self), List.mem_cons_self, _, _, e15t, (hcs _ (List.mem_cons_of_mem _ List.mem_cons_self)), (List.mem_cons_of_mem _ List.mem_cons_self)⟩
    exact ok_law T
  case b1 => exact fun s v => .of_eq rfl
end Law
open PySem PySem.W PyProof.Rows
set_option maxHeartbeats 0 in
theorem PySem.Challenge.cw_swapsums_k27_all_tables_told_holds : PySem.Challenge.rw_swapsums_k27_all_tables_told.Holds := by
  w_on; o_law; k_head; (case hw => w_witness2)
  k_fill
  refine DL.walkT (l := PySem.Challenge.rw_swapsums_k27_all_tables_told) (n := 63) (k := 7) (x := "_law_script") (G := Law.F_law) (NM := fun _ _ => none) (FN := fun _ _ => none) ["columns", "content_of"] rfl (by decide) rfl ⟨rfl, by decide, by decide⟩ (by decide +kernel) (fun w h Y => PySem.W.kIn_of Y) ?hnt ?F Law.law_true
  case hnt => exact fun w => by kernel_rfl
  case F =>
    intro w mg fa h KX G hmg tb
    refine' Law.all_mk KX G hmg tb ?a0 ?l0 ?c0 ?k0 ?a1 ?l1 ?c1 ?k1 ?a2 ?l2 ?c2 ?k2 ?a3 ?l3 ?c3 ?k3 ?a4 ?l4 ?c4 ?k4 ?a5 ?l5 ?c5 ?k5 ?a6 ?l6 ?c6 ?k6 ?a7 ?l7 ?c7 ?k7 ?a8 ?l8 ?c8 ?k8 ?a9 ?l9 ?c9 ?k9 ?a10 ?l10 ?c10 ?k10 ?a11 ?l11 ?c11 ?k11 ?a12 ?l12 ?c12 ?k12 ?a13 ?l13 ?c13 ?k13 ?a14 ?l14 ?c14 ?k14 ?a15 ?l15 ?c15 ?k15 ?a16 ?l16 ?c16 ?k16 ?a17 ?l17 ?c17 ?k17 ?z0 ?z1 ?z2 ?z3 ?z4 ?z5 ?z6 ?z7 ?z8 ?z9 ?z10 ?na0 ?knd
    (case a0 => k_is); (case l0 => k_is); (case c0 => k_is); (case k0 => k_is); (case a1 => k_is); (case l1 => k_is); (case c1 => k_is); (case k1 => k_is); (case a2 => k_is); (case l2 => k_is); (case c2 => k_is); (case k2 => k_is); (case a3 => k_is); (case l3 => k_is); (case c3 => k_is); (case k3 => k_is); (case a4 => k_is); (case l4 => k_is); (case c4 => k_is); (case k4 => k_is); (case a5 => k_is); (case l5 => k_is); (case c5 => k_is); (case k5 => k_is); (case a6 => k_is); (case l6 => k_is); (case c6 => k_is); (case k6 => k_is); (case a7 => k_is); (case l7 => k_is); (case c7 => k_is); (case k7 => k_is); (case a8 => k_is); (case l8 => k_is); (case c8 => k_is); (case k8 => k_is); (case a9 => k_is); (case l9 => k_is); (case c9 => k_is); (case k9 => k_is); (case a10 => k_is); (case l10 => k_is); (case c10 => k_is); (case k10 => k_is); (case a11 => k_is); (case l11 => k_is); (case c11 => k_is); (case k11 => k_is); (case a12 => k_is); (case l12 => k_is); (case c12 => k_is); (case k12 => k_is); (case a13 => k_is); (case l13 => k_is); (case c13 => k_is); (case k13 => k_is); (case a14 => k_is); (case l14 => k_is); (case c14 => k_is); (case k14 => k_is); (case a15 => k_is); (case l15 => k_is); (case c15 => k_is); (case k15 => k_is); (case a16 => k_is); (case l16 => k_is); (case c16 => k_is); (case k16 => k_is); (case a17 => k_is); (case l17 => k_is); (case c17 => k_is); (case k17 => k_is); (case z0 => k_is); (case z1 => k_is); (case z2 => k_is); (case z3 => k_is); (case z4 => k_is); (case z5 => k_is); (case z6 => k_is); (case z7 => k_is); (case z8 => k_is); (case z9 => k_is); (case z10 => k_is); (case na0 => k_is); (case knd => kernel_rfl)
