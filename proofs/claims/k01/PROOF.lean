import PyProof.Rows.All
import Wide.All
import OpenK.AllK
import Wide.FinOn
import HandS.ForMost
import HandS.Wide
import HandS.IsInst
import HandS.TupAny
import HandS.TupMul
import HandS.Zip
import HandS.Conv
import HandS.Flow
import HandS.Style
import HandS.Rev
import HandS.EndBits
import PySem.Challenge.RW_swapsums_k01_what_is_a_ratio
set_option Elab.async false
set_option linter.all false
set_option maxRecDepth 100000
namespace DL
open PySem PySem.Spec PyProof.Rows L2

/-! ### values: data, or a list of the law's own that may change -/
inductive PV where
  | d (x : PyData)
  | c (i : Nat)
abbrev Sto := List (List PyData)
abbrev RE := List (Option PV)
abbrev Fg := PySem.W.Frag

def hide (as : List Addr) (H : Hp) : Hp := fun a => if a ∈ as then none else H a
theorem hide_of {as : List Addr} {H : Hp} {a : Addr} {o : HO} (h : hide as H a = some o) : a ∉ as ∧ H a = some o := by
  unfold hide at h
  split at h
  · cases h
  · rename_i n
    exact ⟨n, h⟩
theorem hide_some {as : List Addr} {H : Hp} {a : Addr} {o : HO} (n : a ∉ as) (h : H a = some o) : hide as H a = some o := by
  unfold hide
  rw [if_neg n]
  exact h
theorem hide_same {as : List Addr} {H : Hp} : Same (hide as H) H := fun a o h => (hide_of h).2

theorem sqT_mono {K : Fg} {H H' : Hp} {a : Addr} {xs : List V} (e : Same H H') (h : SqT K H a xs) : SqT K H' a xs := by
  rcases h with (h | ⟨o, h⟩) | h
  · exact .inl (.inl (e _ _ h))
  · exact .inl (.inr ⟨o, e _ _ h⟩)
  · exact .inr h
mutual
theorem dp_mono {K : Fg} {H H' : Hp} (e : Same H H') : ∀ (d : PyData) (v : V), Dp K H v d → Dp K H' v d
  | .none, _, h => by cases h; exact .non
  | .bool b, _, h => by cases h; exact .bl b
  | .int i, _, h => by cases h; exact .int i
  | .str x, _, h => by cases h; exact .str x
  | .list ds, _, h => by
    cases h with
    | lst s a => exact .lst (e.seq s) (dpAll_mono e ds _ a)
  | .tuple ds, _, h => by
    cases h with
    | tup s a => exact .tup (sqT_mono e s) (dpAll_mono e ds _ a)
  | .dict _, _, h => by cases h
theorem dpAll_mono {K : Fg} {H H' : Hp} (e : Same H H') : ∀ (ds : List PyData) (vs : List V), DpAll K H vs ds → DpAll K H' vs ds
  | [], _, h => by cases h; exact .nil
  | d :: ds, _, h => by
    cases h with
    | cons a b => exact .cons (dp_mono e d _ a) (dpAll_mono e ds _ b)
end
theorem dpAll_len {K : Fg} {H : Hp} : ∀ {vs : List V} {ds : List PyData}, DpAll K H vs ds → vs.length = ds.length
  | _, _, .nil => rfl
  | _, _, .cons _ b => by
    rw [List.length_cons, List.length_cons, dpAll_len b]
theorem dpAll_get {K : Fg} {H : Hp} : ∀ {vs : List V} {ds : List PyData} {i : Nat} {d : PyData}, DpAll K H vs ds → ds[i]? = some d → ∃ v, vs[i]? = some v ∧ Dp K H v d
  | _, _, i, d, .nil, h => by simp at h
  | _, _, 0, d, .cons a _, h => by
    simp at h
    subst h
    exact ⟨_, rfl, a⟩
  | _, _, i + 1, d, .cons _ b, h => by
    obtain ⟨v, e, q⟩ := dpAll_get (i := i) (d := d) b (by simpa using h)
    exact ⟨v, by simpa using e, q⟩
theorem dpAll_append {K : Fg} {H : Hp} : ∀ {vs ws : List V} {ds es : List PyData}, DpAll K H vs ds → DpAll K H ws es → DpAll K H (vs ++ ws) (ds ++ es)
  | _, _, _, _, .nil, h => h
  | _, _, _, _, .cons a b, h => .cons a (dpAll_append b h)
theorem dpAll_take {K : Fg} {H : Hp} : ∀ {vs : List V} {ds : List PyData} (n : Nat), DpAll K H vs ds → DpAll K H (vs.take n) (ds.take n)
  | _, _, 0, _ => .nil
  | _, _, _ + 1, .nil => .nil
  | _, _, n + 1, .cons a b => .cons a (dpAll_take n b)
theorem dpAll_drop {K : Fg} {H : Hp} : ∀ {vs : List V} {ds : List PyData} (n : Nat), DpAll K H vs ds → DpAll K H (vs.drop n) (ds.drop n)
  | _, _, 0, h => h
  | _, _, _ + 1, .nil => .nil
  | _, _, n + 1, .cons _ b => dpAll_drop n b
theorem dpAll_set {K : Fg} {H : Hp} {v : V} {d : PyData} (h : Dp K H v d) : ∀ {vs : List V} {ds : List PyData} (n : Nat), DpAll K H vs ds → DpAll K H (vs.set n v) (ds.set n d)
  | _, _, _, .nil => .nil
  | _, _, 0, .cons _ b => .cons h b
  | _, _, n + 1, .cons a b => .cons a (dpAll_set h n b)
theorem dpAll_rep {K : Fg} {H : Hp} {vs : List V} {ds : List PyData} (h : DpAll K H vs ds) : ∀ n : Nat, DpAll K H (List.replicate n vs).flatten (List.replicate n ds).flatten
  | 0 => .nil
  | n + 1 => by
    rw [List.replicate_succ, List.replicate_succ, List.flatten_cons, List.flatten_cons]
    exact dpAll_append h (dpAll_rep h n)
theorem dpAll_reverse {K : Fg} {H : Hp} : ∀ {vs : List V} {ds : List PyData}, DpAll K H vs ds → DpAll K H vs.reverse ds.reverse
  | _, _, .nil => .nil
  | _, _, .cons a b => by
    rw [List.reverse_cons, List.reverse_cons]
    exact dpAll_append (dpAll_reverse b) (.cons a .nil)
theorem dpAll_ints {K : Fg} {H : Hp} : ∀ (ns : List Int), DpAll K H (ns.map V.int) (ns.map PyData.int)
  | [] => .nil
  | n :: ns => .cons (.int n) (dpAll_ints ns)
theorem dpAll_ints_inv {K : Fg} {H : Hp} : ∀ {vs : List V} {ns : List Int}, DpAll K H vs (ns.map PyData.int) → vs = ns.map V.int
  | _, [], h => by cases h; rfl
  | _, n :: ns, h => by
    cases h with
    | cons a b =>
      cases a
      rw [dpAll_ints_inv b]
      rfl

/-! ### the relation -/
structure Rel (K : Fg) (as : List Addr) (S : Sto) (H : Hp) : Prop where
  nd : as.Nodup
  len : as.length = S.length
  at_ : ∀ (i : Nat) (a : Addr) (ds : List PyData), as[i]? = some a → S[i]? = some ds → ∃ vs, H a = some (.lst vs) ∧ DpAll K (hide as H) vs ds
def VR (K : Fg) (as : List Addr) (H : Hp) (v : V) : PV → Prop
  | .d x => Dp K (hide as H) v x
  | .c i => ∃ a, as[i]? = some a ∧ v = .ref a
structure ER (K : Fg) (as : List Addr) (H : Hp) (σ : L2.St) (ρ : RE) : Prop where
  len : σ.length = ρ.length
  at_ : ∀ (i : Nat) (p : PV), ρ[i]? = some (some p) → ∃ v, σ[i]? = some (some v) ∧ VR K as H v p
structure Ext (as : List Addr) (H : Hp) (as' : List Addr) (H' : Hp) : Prop where
  pre : ∃ bs, as' = as ++ bs
  new : ∀ b ∈ as', b ∉ as → H b = none
  keep : ∀ a o, a ∉ as → H a = some o → H' a = some o
section
variable {K : Fg} {as as1 as2 : List Addr} {S S1 : Sto} {H H1 H2 : Hp} {v : V} {p : PV} {σ : L2.St} {ρ : RE}
theorem Ext.refl : Ext as H as H := ⟨⟨[], by simp⟩, fun b h n => absurd h n, fun _ _ _ h => h⟩
theorem Ext.sub (e : Ext as H as1 H1) {a : Addr} (h : a ∈ as) : a ∈ as1 := by
  obtain ⟨bs, rfl⟩ := e.pre
  exact List.mem_append_left _ h
theorem Ext.trans (e : Ext as H as1 H1) (f : Ext as1 H1 as2 H2) : Ext as H as2 H2 := by
  obtain ⟨b1, e1⟩ := e.pre
  obtain ⟨b2, e2⟩ := f.pre
  refine ⟨⟨b1 ++ b2, by rw [e2, e1, List.append_assoc]⟩, fun b hb nb => ?_, fun a o na h => ?_⟩
  · by_cases h1 : b ∈ as1
    · exact e.new b h1 nb
    · have z := f.new b hb h1
      cases q : H b with
      | none => rfl
      | some o =>
        rw [e.keep b o nb q] at z
        cases z
  · have na1 : a ∉ as1 := fun z => by
      rw [e.new a z na] at h
      cases h
    exact f.keep a o na1 (e.keep a o na h)
theorem Ext.same (e : Ext as H as1 H1) : Same (hide as H) (hide as1 H1) := fun a o h => by
  obtain ⟨na, h⟩ := hide_of h
  have na1 : a ∉ as1 := fun z => by
    rw [e.new a z na] at h
    cases h
  exact hide_some na1 (e.keep a o na h)
theorem VR.ext (h : VR K as H v p) (e : Ext as H as1 H1) : VR K as1 H1 v p := by
  cases p with
  | d x => exact dp_mono e.same _ _ h
  | c i =>
    obtain ⟨a, q, r⟩ := h
    obtain ⟨bs, rfl⟩ := e.pre
    refine ⟨a, ?_, r⟩
    rw [List.getElem?_append_left (List.getElem?_eq_some_iff.mp q).1]
    exact q
theorem ER.ext (h : ER K as H σ ρ) (e : Ext as H as1 H1) : ER K as1 H1 σ ρ := ⟨h.len, fun i p q => by
  obtain ⟨v, a, b⟩ := h.at_ i p q
  exact ⟨v, a, b.ext e⟩⟩
theorem vrs_ext {vs : List V} {ps : List PV} (h : Paired (VR K as H) vs ps) (e : Ext as H as1 H1) : Paired (VR K as1 H1) vs ps := Paired.mapP h fun _ _ q => q.ext e
theorem Rel.mem (R : Rel K as S H) {a : Addr} (h : a ∈ as) : ∃ vs, H a = some (.lst vs) := by
  obtain ⟨i, hi, e⟩ := List.getElem_of_mem h
  have hs : i < S.length := by rw [← R.len]; exact hi
  obtain ⟨vs, q, _⟩ := R.at_ i a S[i] (by rw [List.getElem?_eq_getElem hi, e]) (List.getElem?_eq_getElem hs)
  exact ⟨vs, q⟩
theorem Rel.free (R : Rel K as S H) {a : Addr} (h : H a = none) : a ∉ as := fun z => by
  obtain ⟨vs, q⟩ := R.mem z
  rw [h] at q
  cases q
theorem Rel.laid (R : Rel K as S H) {a : Addr} {o : HO} (h : H a = none) : Rel K as S (upd H a o) ∧ Ext as H as (upd H a o) := by
  have E : Ext as H as (upd H a o) := ⟨⟨[], by simp⟩, fun b x n => absurd x n, fun b u nb q => by
    rw [upd_ne (ne_of_none q h)]
    exact q⟩
  refine ⟨⟨R.nd, R.len, fun i b ds x y => ?_⟩, E⟩
  obtain ⟨vs, q, r⟩ := R.at_ i b ds x y
  refine ⟨vs, ?_, dpAll_mono E.same _ _ r⟩
  rw [upd_ne (ne_of_none q h)]
  exact q
theorem Rel.nilR (H : Hp) : Rel K [] [] H := ⟨List.nodup_nil, rfl, fun i a ds x => by simp at x⟩
/-- a cell's content is changed -/
theorem Rel.put (R : Rel K as S H) {i : Nat} {a : Addr} {vs : List V} {ds : List PyData} (ha : as[i]? = some a) (hv : DpAll K (hide as H) vs ds) :
    Rel K as (S.set i ds) (upd H a (.lst vs)) ∧ Ext as H as (upd H a (.lst vs)) := by
  have ma : a ∈ as := List.mem_of_getElem? ha
  have hs : Same (hide as H) (hide as (upd H a (.lst vs))) := fun b o h => by
    obtain ⟨nb, h⟩ := hide_of h
    refine hide_some nb ?_
    rw [upd_ne (show b ≠ a from fun z => nb (by rw [z]; exact ma))]
    exact h
  refine ⟨⟨R.nd, by rw [List.length_set]; exact R.len, fun j b es x y => ?_⟩, ⟨⟨[], by simp⟩, fun b x n => absurd x n, fun b u nb q => ?_⟩⟩
  · by_cases e : j = i
    · subst e
      rw [ha] at x
      cases x
      have hl : j < S.length := by rw [← R.len]; exact (List.getElem?_eq_some_iff.mp ha).1
      rw [List.getElem?_set_self hl] at y
      cases y
      exact ⟨vs, upd_same, dpAll_mono hs _ _ hv⟩
    · rw [List.getElem?_set_ne (Ne.symm e)] at y
      obtain ⟨ws, q, r⟩ := R.at_ j b es x y
      refine ⟨ws, ?_, dpAll_mono hs _ _ r⟩
      rw [upd_ne (fun z => e ?_)]
      · exact q
      · subst z
        exact nodup_ix' R.nd x ha
  · rw [upd_ne (show b ≠ a from fun z => nb (by rw [z]; exact ma))]
    exact q
where
  nodup_ix' {l : List Addr} (hN : l.Nodup) {i j : Nat} {x : Addr} (a : l[i]? = some x) (b : l[j]? = some x) : i = j := by
    obtain ⟨h1, e1⟩ := List.getElem?_eq_some_iff.mp a
    obtain ⟨h2, e2⟩ := List.getElem?_eq_some_iff.mp b
    exact (List.getElem_inj hN).mp (e1.trans e2.symm)
/-- a new list becomes a cell -/
theorem Rel.grow (R : Rel K as S H) {a : Addr} {vs : List V} {ds : List PyData} (ha : H a = none) (hv : DpAll K (hide as H) vs ds) :
    Rel K (as ++ [a]) (S ++ [ds]) (upd H a (.lst vs)) ∧ Ext as H (as ++ [a]) (upd H a (.lst vs)) := by
  have na : a ∉ as := R.free ha
  have E : Ext as H (as ++ [a]) (upd H a (.lst vs)) := ⟨⟨[a], rfl⟩, fun b hb nb => by
      rcases List.mem_append.mp hb with z | z
      · exact absurd z nb
      · rw [List.mem_singleton.mp z]; exact ha, fun b u nb q => by
      rw [upd_ne (ne_of_none q ha)]
      exact q⟩
  refine ⟨⟨?_, by simp [R.len], fun j b es x y => ?_⟩, E⟩
  · rw [List.nodup_append]
    refine ⟨R.nd, by simp, fun x hx y hy => ?_⟩
    rw [List.mem_singleton.mp hy]
    exact fun z => na (z ▸ hx)
  · by_cases hj : j < as.length
    · rw [List.getElem?_append_left hj] at x
      rw [List.getElem?_append_left (by rw [← R.len]; exact hj)] at y
      obtain ⟨ws, q, r⟩ := R.at_ j b es x y
      refine ⟨ws, ?_, dpAll_mono E.same _ _ r⟩
      rw [upd_ne (ne_of_none q ha)]
      exact q
    · have hj' : as.length ≤ j := Nat.le_of_not_lt hj
      rw [List.getElem?_append_right hj'] at x
      rw [List.getElem?_append_right (by rw [← R.len]; exact hj'), ← R.len] at y
      have e0 : j - as.length = 0 := by
        have := (List.getElem?_eq_some_iff.mp x).1
        simp at this
        omega
      rw [e0] at x y
      simp at x y
      subst x
      subst y
      exact ⟨vs, upd_same, dpAll_mono E.same _ _ hv⟩
/-- the last cells are forgotten -/
theorem Rel.take (R : Rel K as1 S1 H1) (e : as1 = as ++ as2) : Rel K as (S1.take as.length) H1 := by
  subst e
  have sm : Same (hide (as ++ as2) H1) (hide as H1) := fun a o h => by
    obtain ⟨na, h⟩ := hide_of h
    exact hide_some (fun z => na (List.mem_append_left _ z)) h
  refine ⟨(List.nodup_append.mp R.nd).1, ?_, fun i a ds x y => ?_⟩
  · rw [List.length_take, ← R.len, List.length_append]
    omega
  · have hi : i < as.length := (List.getElem?_eq_some_iff.mp x).1
    rw [List.getElem?_take_of_lt hi] at y
    obtain ⟨vs, q, r⟩ := R.at_ i a ds (by rw [List.getElem?_append_left hi]; exact x) y
    exact ⟨vs, q, dpAll_mono sm _ _ r⟩
end
end DL

namespace DL
open PySem PySem.Spec PyProof.Rows L2

abbrev M := RE → Sto → Option (PV × Sto)
abbrev MB := RE → Sto → Option (Bool × Sto)
abbrev MA := RE → Sto → Option (List PV × Sto)
abbrev ML := RE → Sto → Option (List PyData × Sto)

def tM (K : Fg) (m : M) : TE := fun σ H Q => ∃ as ρ S v S', Rel K as S H ∧ ER K as H σ ρ ∧ m ρ S = some (v, S') ∧ ∀ u H', Rel K as S' H' → Ext as H as H' → VR K as H' u v → Q u H'
def tMB (K : Fg) (m : MB) : TT := fun σ H Q => ∃ as ρ S b S', Rel K as S H ∧ ER K as H σ ρ ∧ m ρ S = some (b, S') ∧ ∀ H', Rel K as S' H' → Ext as H as H' → Q b H'
def tMA (K : Fg) (m : MA) : TA := fun σ H Q => ∃ as ρ S vs S', Rel K as S H ∧ ER K as H σ ρ ∧ m ρ S = some (vs, S') ∧ ∀ us H', Rel K as S' H' → Ext as H as H' → Paired (VR K as H') us vs → Q us H'
def tL (K : Fg) (m : ML) : TE := fun σ H Q => ∃ as ρ S ds S', Rel K as S H ∧ ER K as H σ ρ ∧ m ρ S = some (ds, S') ∧ ∀ p H' vs, Rel K as S' H' → Ext as H as H' → H' p = none → DpAll K (hide as H') vs ds → Q (.ref p) (upd H' p (.lst vs))
abbrev DE (X : Cx) (e : Expr) (m : M) : Prop := PE X e (tM X.K m)
abbrev DB (X : Cx) (e : Expr) (m : MB) : Prop := PT X e (tMB X.K m)
abbrev DW (X : Cx) (e : Expr) (m : MB) : Prop := PW X e (tMB X.K m)
abbrev DA (X : Cx) (es : List Expr) (m : MA) : Prop := PA X es (tMA X.K m)
abbrev DLs (X : Cx) (e : Expr) (m : ML) : Prop := PE X e (tL X.K m)

theorem pe_imp {X : Cx} {e : Expr} {t t' : TE} (h : PE X e t) (w : ∀ σ H Q, t' σ H Q → t σ H Q) : PE X e t' := ⟨fun pins s σ H Q I q => h.run pins s σ H Q I (w _ _ _ q)⟩
theorem pt_imp {X : Cx} {e : Expr} {t t' : TT} (h : PT X e t) (w : ∀ σ H Q, t' σ H Q → t σ H Q) : PT X e t' := ⟨fun pins s σ H Q I q => h.run pins s σ H Q I (w _ _ _ q)⟩
theorem pw_imp {X : Cx} {e : Expr} {t t' : TT} (h : PW X e t) (w : ∀ σ H Q, t' σ H Q → t σ H Q) : PW X e t' := ⟨fun wh pins s σ H Q I q => h.run wh pins s σ H Q I (w _ _ _ q)⟩
theorem pa_imp {X : Cx} {es : List Expr} {t t' : TA} (h : PA X es t) (w : ∀ σ H Q, t' σ H Q → t σ H Q) : PA X es t' := ⟨fun pos pins s σ H Q I q => h.run pos pins s σ H Q I (w _ _ _ q)⟩

/-! ### names, constants -/
section
variable {X : Cx}
def mVar (i : Nat) : M := fun ρ S => match ρ[i]? with
  | some (some p) => some (p, S)
  | _ => none
def mC (x : PyData) : M := fun _ S => some (.d x, S)
theorem mVar_some {i : Nat} {ρ : RE} {S S' : Sto} {v : PV} (h : mVar i ρ S = some (v, S')) : ρ[i]? = some (some v) ∧ S' = S := by
  unfold mVar at h
  split at h
  · rename_i p e
    cases h
    exact ⟨e, rfl⟩
  · cases h
theorem dv (i : Nat) {x : Str} {pos : Pos} (hN : X.N[i]? = some x := by rfl) (hv : Vis X.env.scope x := by first | exact Or.inl rfl | exact Or.inr (Or.inl rfl) | exact Or.inr (Or.inr rfl)) (hd : (x == ("__debug__" : Str)) = false := by decide)
    (hcd : (x == ("__classdict__" : Str)) = false := by decide) : DE X (.Name x pos) (mVar i) :=
  pe_imp (pe_var hN hv hd hcd) fun σ H Q ⟨as, ρ, S, v, S', R, E, e, k⟩ => by
    obtain ⟨e1, rfl⟩ := mVar_some e
    obtain ⟨u, a, b⟩ := E.at_ i v e1
    exact ⟨u, a, k u H R .refl b⟩
theorem tC_tM {K : Fg} {v : V} {d : PyData} (hd : Dp K (fun _ => none) v d) : ∀ σ H Q, tM K (mC d) σ H Q → tC v σ H Q := fun σ H Q ⟨as, ρ, S, p, S', R, E, e, k⟩ => by
  cases e
  exact k v H R .refl (dp_mono (fun _ _ z => absurd z (by simp)) _ _ hd)
theorem de_int {i j pos} : DE X (.Constant (.int i) j pos) (mC (.int i)) := pe_imp pe_int (tC_tM (.int i))
theorem de_bl {b j pos} : DE X (.Constant (.bool b) j pos) (mC (.bool b)) := pe_imp pe_bl (tC_tM (.bl b))
theorem de_non {j pos} : DE X (.Constant .none j pos) (mC .none) := pe_imp pe_non (tC_tM .non)
theorem de_str {x j pos} : DE X (.Constant (.str x) j pos) (mC (.str x)) := pe_imp pe_str (tC_tM (.str x))
theorem de_glob {x : Str} {v : V} {u : Value} {d : PyData} {pos : Pos} (hg : Gl X x) (hm : X.mg x = some u) (r : RelV v u) (hd : Dp X.K (fun _ => none) v d) (hb : (x == ("__debug__" : Str)) = false := by decide) : DE X (.Name x pos) (mC d) :=
  pe_imp (pe_glob hg hm r hb) (tC_tM hd)

/-! ### argument lists, displays -/
def mNil : MA := fun _ S => some ([], S)
def mCons (m : M) (ms : MA) : MA := fun ρ S => (m ρ S).bind fun p => (ms ρ p.2).bind fun q => some (p.1 :: q.1, q.2)
theorem da_nil : DA X [] mNil := pa_imp pa_nil fun σ H Q ⟨as, ρ, S, p, S', R, E, e, k⟩ => by
  cases e
  exact k [] H R .refl .nil
theorem da_cons {e : Expr} {es : List Expr} {m : M} {ms : MA} (ha : DE X e m) (hr : DA X es ms) (hs : starEach (e :: es) X.env = (false, eval e X.env) :: starEach es X.env := by rfl) : DA X (e :: es) (mCons m ms) :=
  pa_imp (pa_cons ha hr hs) fun σ H Q ⟨as, ρ, S, p, S', R, E, e, k⟩ => by
    obtain ⟨⟨x, S1⟩, e1, e⟩ := Option.bind_eq_some_iff.mp e
    obtain ⟨⟨xs, S2⟩, e2, e⟩ := Option.bind_eq_some_iff.mp e
    cases e
    refine ⟨as, ρ, S, x, S1, R, E, e1, fun u H1 R1 E1 V1 => ?_⟩
    refine ⟨as, ρ, S1, xs, S2, R1, E.ext E1, e2, fun us H2 R2 E2 V2 => ?_⟩
    exact k _ _ R2 (E1.trans E2) (.cons (V1.ext E2) V2)

def datas : List PV → Option (List PyData)
  | [] => some []
  | .d x :: r => (datas r).bind fun y => some (x :: y)
  | .c _ :: _ => none
theorem datas_dp {K : Fg} {as : List Addr} {H : Hp} : ∀ {us : List V} {vs : List PV} {ds : List PyData}, Paired (VR K as H) us vs → datas vs = some ds → DpAll K (hide as H) us ds
  | _, _, ds, .nil, h => by
    cases h
    exact .nil
  | _, .d x :: r, ds, .cons a b, h => by
    obtain ⟨y, e, h⟩ := Option.bind_eq_some_iff.mp h
    cases h
    exact .cons a (datas_dp b e)
  | _, .c i :: r, ds, .cons a b, h => by cases h
def mTup (ma : MA) : M := fun ρ S => (ma ρ S).bind fun p => (datas p.1).bind fun ds => if ds.length ≤ 1000 then some (.d (.tuple ds), p.2) else none
def mLst (ma : MA) : ML := fun ρ S => (ma ρ S).bind fun p => (datas p.1).bind fun ds => if ds.length ≤ 1000 then some (ds, p.2) else none
theorem le_line {n : Nat} (h : n ≤ 1000) : n ≤ sizeLine := Nat.le_of_lt (small1000 h)
theorem de_tup {es : List Expr} {x1 pos} {ma : MA} (h : DA X es ma) : DE X (.Tuple es x1 pos) (mTup ma) :=
  pe_imp (pe_tup h) fun σ H Q ⟨as, ρ, S, p, S', R, E, e, k⟩ => by
    obtain ⟨⟨xs, S1⟩, e1, e⟩ := Option.bind_eq_some_iff.mp e
    obtain ⟨ds, e2, e⟩ := Option.bind_eq_some_iff.mp e
    split at e
    · rename_i hz
      cases e
      refine ⟨as, ρ, S, xs, S1, R, E, e1, fun us H1 R1 E1 V1 => ?_⟩
      have hd := datas_dp V1 e2
      have hl := dpAll_len hd
      refine ⟨by rw [hl]; exact le_line hz, fun q hq => ?_⟩
      obtain ⟨R2, E2⟩ := R1.laid (o := .tup us) hq
      exact k _ _ R2 (E1.trans E2) (.tup (SqT.of (hide_some (R1.free hq) upd_same)) (dpAll_mono E2.same _ _ hd))
    · cases e
theorem dl_lst {es : List Expr} {pos} {ma : MA} (h : DA X es ma) : DLs X (.List es pos) (mLst ma) :=
  pe_imp (pe_lst h) fun σ H Q ⟨as, ρ, S, p, S', R, E, e, k⟩ => by
    obtain ⟨⟨xs, S1⟩, e1, e⟩ := Option.bind_eq_some_iff.mp e
    obtain ⟨ds, e2, e⟩ := Option.bind_eq_some_iff.mp e
    split at e
    · rename_i hz
      cases e
      refine ⟨as, ρ, S, xs, S1, R, E, e1, fun us H1 R1 E1 V1 => ?_⟩
      have hd := datas_dp V1 e2
      have hl := dpAll_len hd
      exact ⟨by rw [hl]; exact le_line hz, fun q hq => k _ _ _ R1 E1 hq hd⟩
    · cases e
def mFz (m : ML) : M := fun ρ S => (m ρ S).bind fun p => some (.d (.list p.1), p.2)
theorem fz {e : Expr} {m : ML} (h : DLs X e m) : DE X e (mFz m) := pe_imp h fun σ H Q ⟨as, ρ, S, p, S', R, E, e, k⟩ => by
  obtain ⟨⟨ds, S1⟩, e1, e⟩ := Option.bind_eq_some_iff.mp e
  cases e
  refine ⟨as, ρ, S, ds, S1, R, E, e1, fun q H1 vs R1 E1 hq hd => ?_⟩
  obtain ⟨R2, E2⟩ := R1.laid (o := .lst vs) hq
  exact k _ _ R2 (E1.trans E2) (.lst (SqL.of (hide_some (R1.free hq) upd_same)) (dpAll_mono E2.same _ _ hd))

/-! ### operators -/
def OpD (K : Fg) (r : R2) (f : PV → PV → Sto → Option PV) : Prop := ∀ (as : List Addr) (S : Sto) (H : Hp) (u w : V) (x y z : PV) (Q : VK), Rel K as S H → VR K as H u x → VR K as H w y → f x y S = some z →
  (∀ v H', Rel K as S H' → Ext as H as H' → VR K as H' v z → Q v H') → r u w H Q
def OpL (K : Fg) (r : R2) (f : PV → PV → Sto → Option (List PyData)) : Prop := ∀ (as : List Addr) (S : Sto) (H : Hp) (u w : V) (x y : PV) (z : List PyData) (Q : VK), Rel K as S H → VR K as H u x → VR K as H w y → f x y S = some z →
  (∀ p H' vs, Rel K as S H' → Ext as H as H' → H' p = none → DpAll K (hide as H') vs z → Q (.ref p) (upd H' p (.lst vs))) → r u w H Q
def mOp (f : PV → PV → Sto → Option PV) (a b : M) : M := fun ρ S => (a ρ S).bind fun p => (b ρ p.2).bind fun q => (f p.1 q.1 q.2).bind fun z => some (z, q.2)
def mOpL (f : PV → PV → Sto → Option (List PyData)) (a b : M) : ML := fun ρ S => (a ρ S).bind fun p => (b ρ p.2).bind fun q => (f p.1 q.1 q.2).bind fun z => some (z, q.2)
theorem tOp_D {K : Fg} {r : R2} {f : PV → PV → Sto → Option PV} {a b : M} (ho : OpD K r f) : ∀ σ H Q, tM K (mOp f a b) σ H Q → tOp r (tM K a) (tM K b) σ H Q := fun σ H Q ⟨as, ρ, S, p, S', R, E, e, k⟩ => by
  obtain ⟨⟨x, S1⟩, e1, e⟩ := Option.bind_eq_some_iff.mp e
  obtain ⟨⟨y, S2⟩, e2, e⟩ := Option.bind_eq_some_iff.mp e
  obtain ⟨z, e3, e⟩ := Option.bind_eq_some_iff.mp e
  cases e
  refine ⟨as, ρ, S, x, S1, R, E, e1, fun u H1 R1 E1 V1 => ?_⟩
  refine ⟨as, ρ, S1, y, S2, R1, E.ext E1, e2, fun w H2 R2 E2 V2 => ?_⟩
  exact ho as S2 H2 u w x y _ Q R2 (V1.ext E2) V2 e3 fun v H3 R3 E3 V3 => k v H3 R3 ((E1.trans E2).trans E3) V3
theorem tOp_L {K : Fg} {r : R2} {f : PV → PV → Sto → Option (List PyData)} {a b : M} (ho : OpL K r f) : ∀ σ H Q, tL K (mOpL f a b) σ H Q → tOp r (tM K a) (tM K b) σ H Q := fun σ H Q ⟨as, ρ, S, p, S', R, E, e, k⟩ => by
  obtain ⟨⟨x, S1⟩, e1, e⟩ := Option.bind_eq_some_iff.mp e
  obtain ⟨⟨y, S2⟩, e2, e⟩ := Option.bind_eq_some_iff.mp e
  obtain ⟨z, e3, e⟩ := Option.bind_eq_some_iff.mp e
  cases e
  refine ⟨as, ρ, S, x, S1, R, E, e1, fun u H1 R1 E1 V1 => ?_⟩
  refine ⟨as, ρ, S1, y, S2, R1, E.ext E1, e2, fun w H2 R2 E2 V2 => ?_⟩
  exact ho as S2 H2 u w x y _ Q R2 (V1.ext E2) V2 e3 fun v H3 vs R3 E3 V3 => k v H3 vs R3 ((E1.trans E2).trans E3) V3
theorem de_op {op : Operator} {r : R2} {f} {a b : Expr} {ma mb : M} {pos : Pos} (ho : OpR X (binaryOp op) r) (hd : OpD X.K r f) (ha : DE X a ma) (hb : DE X b mb) : DE X (.BinOp a op b pos) (mOp f ma mb) := pe_imp (pe_op ho ha hb) (tOp_D hd)
theorem dl_op {op : Operator} {r : R2} {f} {a b : Expr} {ma mb : M} {pos : Pos} (ho : OpR X (binaryOp op) r) (hd : OpL X.K r f) (ha : DE X a ma) (hb : DE X b mb) : DLs X (.BinOp a op b pos) (mOpL f ma mb) := pe_imp (pe_op ho ha hb) (tOp_L hd)
theorem de_cmp {op : CmpOp} {r : R2} {f} {a b : Expr} {ma mb : M} {pos : Pos} (ho : OpR X (compareOp op) r) (hd : OpD X.K r f) (ha : DE X a ma) (hb : DE X b mb) (hm : behindInMarks op b = false) : DE X (.Compare a [op] [b] pos) (mOp f ma mb) := pe_imp (pe_cmpR ho ha hb hm) (tOp_D hd)
theorem de_ix {r : R2} {f} {a b : Expr} {ma mb : M} {pos : Pos} (ho : IxR X r) (hd : OpD X.K r f) (ha : DE X a ma) (hb : DE X b mb) (hs : PlainIx b) : DE X (.Subscript a b pos) (mOp f ma mb) := pe_imp (pe_ix ho ha hb hs) (tOp_D hd)
/-- a value that is a truth, as a test -/
def asB (m : M) : MB := fun ρ S => (m ρ S).bind fun p => match p.1 with
  | .d (.bool b) => some (b, p.2)
  | _ => none
theorem asB_some {m : M} {ρ : RE} {S S' : Sto} {b : Bool} (h : asB m ρ S = some (b, S')) : m ρ S = some (.d (.bool b), S') := by
  obtain ⟨⟨v, S1⟩, e1, e⟩ := Option.bind_eq_some_iff.mp h
  dsimp only at e
  split at e
  · cases e
    exact e1
  · cases e
theorem tTest_D {K : Fg} {t : TE} {m : M} (h : ∀ σ H Q, tM K m σ H Q → t σ H Q) : ∀ σ H Q, tMB K (asB m) σ H Q → tTest t σ H Q := fun σ H Q ⟨as, ρ, S, b, S', R, E, e, k⟩ =>
  h σ H _ ⟨as, ρ, S, .d (.bool b), S', R, E, asB_some e, fun u H1 R1 E1 V1 => by
    cases V1
    exact ⟨b, rfl, k H1 R1 E1⟩⟩
theorem db_cmp {op : CmpOp} {r : R2} {f} {a b : Expr} {ma mb : M} {pos : Pos} (ho : OpR X (compareOp op) r) (hd : OpD X.K r f) (ha : DE X a ma) (hb : DE X b mb) (hm : behindInMarks op b = false) : DB X (.Compare a [op] [b] pos) (asB (mOp f ma mb)) :=
  pt_imp (pt_cmpR ho ha hb hm) (tTest_D (tOp_D hd))
theorem db_val {e : Expr} {m : M} (h : DE X e m) (he : ∀ whole, isTrue e X.env whole = (do let v ← whole; standAt e.pos; holding [v] (truthy v)) := by intro _; rfl) : DB X e (asB m) :=
  pt_imp (pt_val h he) (tTest_D (t := tM X.K m) fun _ _ _ q => q)
def bNot (m : MB) : MB := fun ρ S => (m ρ S).bind fun p => some (!p.1, p.2)
def bAnd (a b : MB) : MB := fun ρ S => (a ρ S).bind fun p => if p.1 = true then b ρ p.2 else some (false, p.2)
def bOr (a b : MB) : MB := fun ρ S => (a ρ S).bind fun p => if p.1 = true then some (true, p.2) else b ρ p.2
theorem db_not {e : Expr} {m : MB} {pos : Pos} (h : DB X e m) : DB X (.UnaryOp .Not e pos) (bNot m) := pt_imp (pt_not h) fun σ H Q ⟨as, ρ, S, b, S', R, E, e, k⟩ => by
  obtain ⟨⟨x, S1⟩, e1, e⟩ := Option.bind_eq_some_iff.mp e
  cases e
  exact ⟨as, ρ, S, x, S1, R, E, e1, fun H1 R1 E1 => k H1 R1 E1⟩
theorem dw_and1 {a : Expr} {m : MB} {pos : Pos} (h : DB X a m) : DW X (.BoolOp .And [a] pos) m := pw_and1 h
theorem dw_or1 {a : Expr} {m : MB} {pos : Pos} (h : DB X a m) : DW X (.BoolOp .Or [a] pos) m := pw_or1 h
theorem dw_and {a b : Expr} {rest : List Expr} {m n : MB} {pos : Pos} (h : DB X a m) (h2 : DW X (.BoolOp .And (b :: rest) pos) n) : DW X (.BoolOp .And (a :: b :: rest) pos) (bAnd m n) := pw_imp (pw_and h h2) fun σ H Q ⟨as, ρ, S, b, S', R, E, e, k⟩ => by
  obtain ⟨⟨x, S1⟩, e1, e⟩ := Option.bind_eq_some_iff.mp e
  refine ⟨as, ρ, S, x, S1, R, E, e1, fun H1 R1 E1 => ?_⟩
  dsimp only at e ⊢
  split
  · rename_i hx
    rw [if_pos hx] at e
    exact ⟨as, ρ, S1, b, S', R1, E.ext E1, e, fun H2 R2 E2 => k H2 R2 (E1.trans E2)⟩
  · rename_i hx
    rw [if_neg hx] at e
    cases e
    exact k H1 R1 E1
theorem dw_or {a b : Expr} {rest : List Expr} {m n : MB} {pos : Pos} (h : DB X a m) (h2 : DW X (.BoolOp .Or (b :: rest) pos) n) : DW X (.BoolOp .Or (a :: b :: rest) pos) (bOr m n) := pw_imp (pw_or h h2) fun σ H Q ⟨as, ρ, S, b, S', R, E, e, k⟩ => by
  obtain ⟨⟨x, S1⟩, e1, e⟩ := Option.bind_eq_some_iff.mp e
  refine ⟨as, ρ, S, x, S1, R, E, e1, fun H1 R1 E1 => ?_⟩
  dsimp only at e ⊢
  split
  · rename_i hx
    rw [if_pos hx] at e
    cases e
    exact k H1 R1 E1
  · rename_i hx
    rw [if_neg hx] at e
    exact ⟨as, ρ, S1, b, S', R1, E.ext E1, e, fun H2 R2 E2 => k H2 R2 (E1.trans E2)⟩
/-- .. as values -/
def toV (m : MB) : M := fun ρ S => (m ρ S).bind fun p => some (.d (.bool p.1), p.2)
def mAnd (a b : M) : M := fun ρ S => (a ρ S).bind fun p => match p.1 with
  | .d (.bool true) => b ρ p.2
  | .d (.bool false) => some (.d (.bool false), p.2)
  | _ => none
def mOr (a b : M) : M := fun ρ S => (a ρ S).bind fun p => match p.1 with
  | .d (.bool true) => some (.d (.bool true), p.2)
  | .d (.bool false) => b ρ p.2
  | _ => none
def mNot (a : M) : M := fun ρ S => (a ρ S).bind fun p => match p.1 with
  | .d (.bool b) => some (.d (.bool (!b)), p.2)
  | _ => none
theorem de_one {op} {a : Expr} {m : M} {pos : Pos} (h : DE X a m) : DE X (.BoolOp op [a] pos) m := pe_one h
theorem de_and {a b : Expr} {rest : List Expr} {m n : M} {pos : Pos} (ha : DE X a m) (hb : DE X (.BoolOp .And (b :: rest) pos) n) : DE X (.BoolOp .And (a :: b :: rest) pos) (mAnd m n) := pe_imp (pe_and ha hb) fun σ H Q ⟨as, ρ, S, v, S', R, E, e, k⟩ => by
  obtain ⟨⟨x, S1⟩, e1, e⟩ := Option.bind_eq_some_iff.mp e
  refine ⟨as, ρ, S, x, S1, R, E, e1, fun u H1 R1 E1 V1 => ?_⟩
  dsimp only at e
  split at e
  · cases V1
    refine ⟨true, rfl, ?_⟩
    rw [if_pos rfl]
    exact ⟨as, ρ, S1, v, S', R1, E.ext E1, e, fun u2 H2 R2 E2 => k u2 H2 R2 (E1.trans E2)⟩
  · cases V1
    cases e
    refine ⟨false, rfl, ?_⟩
    rw [if_neg Bool.false_ne_true]
    exact k _ H1 R1 E1 (.bl false)
  · cases e
theorem de_or {a b : Expr} {rest : List Expr} {m n : M} {pos : Pos} (ha : DE X a m) (hb : DE X (.BoolOp .Or (b :: rest) pos) n) : DE X (.BoolOp .Or (a :: b :: rest) pos) (mOr m n) := pe_imp (pe_or ha hb) fun σ H Q ⟨as, ρ, S, v, S', R, E, e, k⟩ => by
  obtain ⟨⟨x, S1⟩, e1, e⟩ := Option.bind_eq_some_iff.mp e
  refine ⟨as, ρ, S, x, S1, R, E, e1, fun u H1 R1 E1 V1 => ?_⟩
  dsimp only at e
  split at e
  · cases V1
    cases e
    refine ⟨true, rfl, ?_⟩
    rw [if_pos rfl]
    exact k _ H1 R1 E1 (.bl true)
  · cases V1
    refine ⟨false, rfl, ?_⟩
    rw [if_neg Bool.false_ne_true]
    exact ⟨as, ρ, S1, v, S', R1, E.ext E1, e, fun u2 H2 R2 E2 => k u2 H2 R2 (E1.trans E2)⟩
  · cases e
theorem de_not {a : Expr} {m : M} {pos : Pos} (ha : DE X a m) : DE X (.UnaryOp .Not a pos) (mNot m) := pe_imp (pe_not ha) fun σ H Q ⟨as, ρ, S, v, S', R, E, e, k⟩ => by
  obtain ⟨⟨x, S1⟩, e1, e⟩ := Option.bind_eq_some_iff.mp e
  refine ⟨as, ρ, S, x, S1, R, E, e1, fun u H1 R1 E1 V1 => ?_⟩
  dsimp only at e
  split at e
  · rename_i b
    cases V1
    cases e
    exact ⟨b, rfl, k _ H1 R1 E1 (.bl _)⟩
  · cases e
def mIf (c : MB) (a b : M) : M := fun ρ S => (c ρ S).bind fun p => if p.1 = true then a ρ p.2 else b ρ p.2
theorem de_if {c a b : Expr} {mc : MB} {ma mb : M} {pos : Pos} (hc : DB X c mc) (ha : DE X a ma) (hb : DE X b mb) : DE X (.IfExp c a b pos) (mIf mc ma mb) := pe_imp (pe_ifExp hc ha hb) fun σ H Q ⟨as, ρ, S, v, S', R, E, e, k⟩ => by
  obtain ⟨⟨x, S1⟩, e1, e⟩ := Option.bind_eq_some_iff.mp e
  refine ⟨as, ρ, S, x, S1, R, E, e1, fun H1 R1 E1 => ?_⟩
  dsimp only at e ⊢
  split
  · rename_i hx
    rw [if_pos hx] at e
    exact ⟨as, ρ, S1, v, S', R1, E.ext E1, e, fun u2 H2 R2 E2 => k u2 H2 R2 (E1.trans E2)⟩
  · rename_i hx
    rw [if_neg hx] at e
    exact ⟨as, ρ, S1, v, S', R1, E.ext E1, e, fun u2 H2 R2 E2 => k u2 H2 R2 (E1.trans E2)⟩
end
end DL

namespace DL
open PySem PySem.Spec PyProof.Rows L2

/-! ### ints -/
def fI0 (g : Int → Int → PyData) : PV → PV → Sto → Option PV := fun x y _ => match x, y with
  | .d (.int i), .d (.int j) => some (.d (g i j))
  | _, _ => none
def fIc (c : Int → Int → Bool) (g : Int → Int → PyData) : PV → PV → Sto → Option PV := fun x y _ => match x, y with
  | .d (.int i), .d (.int j) => if c i j = true then some (.d (g i j)) else none
  | _, _ => none
theorem opD_I0 {K : Fg} {g : Int → Int → V} {g' : Int → Int → PyData} (hg : ∀ i j H, Dp K H (g i j) (g' i j)) : OpD K (rI0 g) (fI0 g') := by
  intro as S H u w x y z Q R V1 V2 e k
  unfold fI0 at e
  split at e
  · rename_i i j
    cases V1
    cases V2
    cases e
    exact ⟨i, j, rfl, rfl, k _ H R .refl (hg i j _)⟩
  · cases e
theorem opD_I {K : Fg} {C : Int → Int → Prop} {g : Int → Int → V} {c : Int → Int → Bool} {g' : Int → Int → PyData} (hc : ∀ i j, c i j = true → C i j) (hg : ∀ i j H, Dp K H (g i j) (g' i j)) : OpD K (rI C g) (fIc c g') := by
  intro as S H u w x y z Q R V1 V2 e k
  unfold fIc at e
  split at e
  · rename_i i j
    split at e
    · rename_i h
      cases V1
      cases V2
      cases e
      exact ⟨i, j, rfl, rfl, hc i j h, k _ H R .refl (hg i j _)⟩
    · cases e
  · cases e
def CMulA (i j : Int) : Prop := CMul i j ∨ CMulW i j
theorem CMulA.ok {i j : Int} (h : CMulA i j) : IntMulOk i j := by
  rcases h with h | h
  · exact h.ok
  · exact h.ok
def CDivA (_ j : Int) : Prop := j ≠ 0 ∧ j.natAbs.log2 < 9000
section
variable {X : Cx}
theorem op_mulA : OpR X (binaryOp .Mult) (rI CMulA fun i j => .int (i * j)) := opI fun _ _ _ _ _ _ _ hc q => mul_int q hc.ok
theorem iop_mulA : OpR X (inplaceOp .Mult) (rI CMulA fun i j => .int (i * j)) := opI fun _ _ _ _ _ _ _ hc q => imul_int q hc.ok
theorem op_fdivA : OpR X (binaryOp .FloorDiv) (rI CDivA fun i j => .int (i.fdiv j)) := opI fun _ _ _ _ _ _ _ hc q => floordiv_int hc.1 q (.inl (PyProof.noPylong_of_log2 hc.2))
end
def mulOk (i j : Int) : Bool := (decide (-(2 ^ 64) < i) && decide (i < 2 ^ 64)) || (decide (-(2 ^ 64) < j) && decide (j < 2 ^ 64)) || decide (i.natAbs.log2 + j.natAbs.log2 < 1000000)
def divOk (_ j : Int) : Bool := !decide (j = 0) && decide (j.natAbs.log2 < 9000)
def modOk (_ j : Int) : Bool := !decide (j = 0)
def powOk (i j : Int) : Bool := decide (0 ≤ j) && decide (j ≤ 1000000) && decide (i.natAbs < 2 ^ 64)
theorem mulOk_ok {i j : Int} (h : mulOk i j = true) : CMulA i j := by
  unfold mulOk at h
  simp only [Bool.or_eq_true, Bool.and_eq_true, decide_eq_true_eq] at h
  rcases h with (h | h) | h
  · exact .inl (.inl h)
  · exact .inl (.inr h)
  · exact .inr h
theorem divOk_ok {i j : Int} (h : divOk i j = true) : CDivA i j := by
  unfold divOk at h
  simp only [Bool.and_eq_true, Bool.not_eq_true', decide_eq_true_eq, decide_eq_false_iff_not] at h
  exact h
theorem modOk_ok {i j : Int} (h : modOk i j = true) : j ≠ 0 := by
  unfold modOk at h
  simpa using h
theorem powOk_ok {i j : Int} (h : powOk i j = true) : CPow i j := by
  unfold powOk at h
  simp only [Bool.and_eq_true, decide_eq_true_eq] at h
  exact ⟨h.1.1, h.1.2, h.2⟩
abbrev fSub := fI0 fun i j => .int (i - j)
abbrev fDiv := fIc divOk fun i j => .int (i.fdiv j)
abbrev fMod := fIc modOk fun i j => .int (i.fmod j)
abbrev fPow := fIc powOk fun i j => .int (i ^ j.toNat)
abbrev fLt := fI0 fun i j => .bool (decide (i < j))
abbrev fLe := fI0 fun i j => .bool (decide (i ≤ j))
abbrev fGt := fI0 fun i j => .bool (decide (j < i))
abbrev fGe := fI0 fun i j => .bool (decide (j ≤ i))
section
variable {X : Cx} {a b : Expr} {ma mb : M} {pos : Pos}
theorem de_sub (ha : DE X a ma) (hb : DE X b mb) : DE X (.BinOp a .Sub b pos) (mOp fSub ma mb) := de_op op_sub (opD_I0 fun _ _ _ => .int _) ha hb
theorem de_div (ha : DE X a ma) (hb : DE X b mb) : DE X (.BinOp a .FloorDiv b pos) (mOp fDiv ma mb) := de_op op_fdivA (opD_I (fun _ _ h => divOk_ok h) fun _ _ _ => .int _) ha hb
theorem de_mod (ha : DE X a ma) (hb : DE X b mb) : DE X (.BinOp a .Mod b pos) (mOp fMod ma mb) := de_op op_modN (opD_I (fun _ _ h => modOk_ok h) fun _ _ _ => .int _) ha hb
theorem de_pow (ha : DE X a ma) (hb : DE X b mb) : DE X (.BinOp a .Pow b pos) (mOp fPow ma mb) := de_op op_pow (opD_I (fun _ _ h => powOk_ok h) fun _ _ _ => .int _) ha hb
theorem de_lt (ha : DE X a ma) (hb : DE X b mb) : DE X (.Compare a [.Lt] [b] pos) (mOp fLt ma mb) := de_cmp op_lt (opD_I0 fun _ _ _ => .bl _) ha hb (nomark _)
theorem de_le (ha : DE X a ma) (hb : DE X b mb) : DE X (.Compare a [.LtE] [b] pos) (mOp fLe ma mb) := de_cmp op_le (opD_I0 fun _ _ _ => .bl _) ha hb (nomark _)
theorem de_gt (ha : DE X a ma) (hb : DE X b mb) : DE X (.Compare a [.Gt] [b] pos) (mOp fGt ma mb) := de_cmp op_gt (opD_I0 fun _ _ _ => .bl _) ha hb (nomark _)
theorem de_ge (ha : DE X a ma) (hb : DE X b mb) : DE X (.Compare a [.GtE] [b] pos) (mOp fGe ma mb) := de_cmp op_ge (opD_I0 fun _ _ _ => .bl _) ha hb (nomark _)
theorem db_lt (ha : DE X a ma) (hb : DE X b mb) : DB X (.Compare a [.Lt] [b] pos) (asB (mOp fLt ma mb)) := db_cmp op_lt (opD_I0 fun _ _ _ => .bl _) ha hb (nomark _)
theorem db_le (ha : DE X a ma) (hb : DE X b mb) : DB X (.Compare a [.LtE] [b] pos) (asB (mOp fLe ma mb)) := db_cmp op_le (opD_I0 fun _ _ _ => .bl _) ha hb (nomark _)
theorem db_gt (ha : DE X a ma) (hb : DE X b mb) : DB X (.Compare a [.Gt] [b] pos) (asB (mOp fGt ma mb)) := db_cmp op_gt (opD_I0 fun _ _ _ => .bl _) ha hb (nomark _)
theorem db_ge (ha : DE X a ma) (hb : DE X b mb) : DB X (.Compare a [.GtE] [b] pos) (asB (mOp fGe ma mb)) := db_cmp op_ge (opD_I0 fun _ _ _ => .bl _) ha hb (nomark _)
def fNeg : PV → Option PV := fun x => match x with
  | .d (.int i) => some (.d (.int (-i)))
  | _ => none
def mUn (f : PV → Option PV) (a : M) : M := fun ρ S => (a ρ S).bind fun p => (f p.1).bind fun z => some (z, p.2)
theorem de_neg (ha : DE X a ma) : DE X (.UnaryOp .USub a pos) (mUn fNeg ma) := pe_imp (pe_un un_neg ha) fun σ H Q ⟨as, ρ, S, p, S', R, E, e, k⟩ => by
  obtain ⟨⟨x, S1⟩, e1, e⟩ := Option.bind_eq_some_iff.mp e
  obtain ⟨z, e2, e⟩ := Option.bind_eq_some_iff.mp e
  cases e
  refine ⟨as, ρ, S, x, S1, R, E, e1, fun u H1 R1 E1 V1 => ?_⟩
  unfold fNeg at e2
  split at e2
  · rename_i i q
    cases e2
    dsimp only at q
    subst q
    cases V1
    exact ⟨i, rfl, k _ H1 R1 E1 (.int _)⟩
  · cases e2
end

/-! ### what a value is to be read as -/
def asD (S : Sto) : PV → Option PyData
  | .d x => some x
  | .c i => (S[i]?).map .list
theorem asD_dp {K : Fg} {as : List Addr} {S : Sto} {H : Hp} {u : V} {x : PV} {d : PyData} (R : Rel K as S H) (h : VR K as H u x) (e : asD S x = some d) : Dp K H u d := by
  cases x with
  | d y =>
    cases e
    exact dp_mono hide_same _ _ h
  | c i =>
    obtain ⟨a, q, rfl⟩ := h
    unfold asD at e; dsimp only at e
    cases hs : S[i]? with
    | none => rw [hs] at e; cases e
    | some ds =>
      rw [hs] at e
      cases e
      obtain ⟨vs, h1, h2⟩ := R.at_ i a ds q hs
      exact .lst (SqL.of h1) (dpAll_mono hide_same _ _ h2)
/-- the items of a list, a tuple -/
def itemsOf (S : Sto) : PV → Option (List PyData)
  | .d (.list xs) => some xs
  | .d (.tuple xs) => some xs
  | .c i => S[i]?
  | _ => none
theorem items_at {K : Fg} {as : List Addr} {S : Sto} {H : Hp} {u : V} {x : PV} {ds : List PyData} (R : Rel K as S H) (h : VR K as H u x) (e : itemsOf S x = some ds) :
    ∃ a vs, u = .ref a ∧ (SqL K H a vs ∨ SqT K H a vs) ∧ DpAll K (hide as H) vs ds := by
  cases x with
  | d y =>
    cases y with
    | list xs =>
      cases e
      cases h with
      | lst s a => exact ⟨_, _, rfl, .inl (hide_same.seq s), a⟩
    | tuple xs =>
      cases e
      cases h with
      | tup s a => exact ⟨_, _, rfl, .inr (sqT_mono hide_same s), a⟩
    | _ => cases e
  | c i =>
    obtain ⟨a, q, rfl⟩ := h
    obtain ⟨vs, h1, h2⟩ := R.at_ i a ds q e
    exact ⟨a, vs, rfl, .inl (SqL.of h1), h2⟩

/-! ### == and != -/
def fEq : PV → PV → Sto → Option PV := fun x y S => (asD S x).bind fun a => (asD S y).bind fun b => if (SeqAt.shaped a && SeqAt.shaped b) = true then some (.d (.bool (PyData.eqv a b))) else none
def fNe : PV → PV → Sto → Option PV := fun x y S => (asD S x).bind fun a => (asD S y).bind fun b => if (SeqAt.shaped a && SeqAt.shaped b) = true then some (.d (.bool (!PyData.eqv a b))) else none
theorem opD_eq {K : Fg} : OpD K (rEqD K) fEq := by
  intro as S H u w x y z Q R V1 V2 e k
  obtain ⟨a, e1, e⟩ := Option.bind_eq_some_iff.mp e
  obtain ⟨b, e2, e⟩ := Option.bind_eq_some_iff.mp e
  split at e
  · rename_i h
    cases e
    rw [Bool.and_eq_true] at h
    exact ⟨a, b, asD_dp R V1 e1, asD_dp R V2 e2, h.1, h.2, k _ H R .refl (.bl _)⟩
  · cases e
theorem opD_ne {K : Fg} : OpD K (rNeD K) fNe := by
  intro as S H u w x y z Q R V1 V2 e k
  obtain ⟨a, e1, e⟩ := Option.bind_eq_some_iff.mp e
  obtain ⟨b, e2, e⟩ := Option.bind_eq_some_iff.mp e
  split at e
  · rename_i h
    cases e
    rw [Bool.and_eq_true] at h
    exact ⟨a, b, asD_dp R V1 e1, asD_dp R V2 e2, h.1, h.2, k _ H R .refl (.bl _)⟩
  · cases e
section
variable {X : Cx} {a b : Expr} {ma mb : M} {pos : Pos} {k : Nat}
theorem de_eq (hr : Room k X.A) (ha : DE X a ma) (hb : DE X b mb) : DE X (.Compare a [.Eq] [b] pos) (mOp fEq ma mb) := de_cmp (op_eqD hr.units) opD_eq ha hb (nomark _)
theorem de_ne (hr : Room k X.A) (ha : DE X a ma) (hb : DE X b mb) : DE X (.Compare a [.NotEq] [b] pos) (mOp fNe ma mb) := de_cmp (op_neD hr.units) opD_ne ha hb (nomark _)
theorem db_eq (hr : Room k X.A) (ha : DE X a ma) (hb : DE X b mb) : DB X (.Compare a [.Eq] [b] pos) (asB (mOp fEq ma mb)) := db_cmp (op_eqD hr.units) opD_eq ha hb (nomark _)
theorem db_ne (hr : Room k X.A) (ha : DE X a ma) (hb : DE X b mb) : DB X (.Compare a [.NotEq] [b] pos) (asB (mOp fNe ma mb)) := db_cmp (op_neD hr.units) opD_ne ha hb (nomark _)
end

/-! ### +, * of all kinds -/
/-- list + list, whatever stands there -/
def rCatS (K : Fg) : R2 := fun x y H Q => ∃ l b xs zs, x = .ref l ∧ y = .ref b ∧ SqL K H l xs ∧ SqL K H b zs ∧ xs.length + zs.length ≤ sizeLine ∧ ∀ p, H p = none → Q (.ref p) (upd H p (.lst (xs ++ zs)))
theorem op_catS {X : Cx} : OpR X (binaryOp .Add) (rCatS X.K) := by
  intro pins s σ H x y v u Q I rx ry h
  obtain ⟨l, b, xs, zs, rfl, rfl, hH, hB, hz, q⟩ := h
  cases rx
  cases ry
  obtain ⟨its, r, ⟨⟨cls, dd, data, sl⟩, n, ho, hc, hdd, hd⟩, _⟩ := I.list hH
  obtain ⟨its2, r2, ⟨⟨cls2, dd2, data2, sl2⟩, n2, ho2, hc2, hdd2, hd2⟩, _⟩ := I.list hB
  simp only at hc hd hc2 hd2
  subst hc hd hc2 hd2
  have e : its.toArray ++ its2.toArray = (its ++ its2).toArray := by simp
  have l1 := r.length
  have l2 := r2.length
  refine concat_meets ⟨_, ho, rfl⟩ ⟨_, ho2, rfl⟩ noFill_list_add seq_list_add PySem.F.slot_list_add PySem.F.entry_list_add (PySem.F.args_list_add_2 _ _) (list_addW l b its.toArray its2.toArray n n2 dd dd2 sl sl2 (by rw [List.size_toArray, List.size_toArray]; omega)) ⟨ho, ho2, ?_⟩
  rw [e]
  exact ⟨.ref _, _, I.lnew (t' := s.toks) (r.append r2) (by rw [List.length_append]; omega), rfl, q _ I.fresh⟩
def rAddA (K : Fg) : R2 := fun x y H Q => rI0 (fun i j => .int (i + j)) x y H Q ∨ rCatA K x y H Q ∨ rCatS K x y H Q ∨ ∃ i j, x = .str i ∧ y = .str j ∧ i.length + j.length ≤ sizeLine ∧ Q (.str (i ++ j)) H
theorem op_addA {X : Cx} : OpR X (binaryOp .Add) (rAddA X.K) := op_add.or (op_catA.or (op_catS.or op_add_str))
def fCatL : PV → PV → Sto → Option (List PyData) := fun x y S => match asD S x, asD S y with
  | some (.list xs), some (.list ys) => if xs.length + ys.length ≤ 1000000 then some (xs ++ ys) else none
  | _, _ => none
def fAdd : PV → PV → Sto → Option PV := fun x y S => match x, y with
  | .d (.int i), .d (.int j) => some (.d (.int (i + j)))
  | .d (.tuple xs), .d (.tuple ys) => if xs.length + ys.length ≤ 1000000 then some (.d (.tuple (xs ++ ys))) else none
  | .d (.str i), .d (.str j) => if i.length + j.length ≤ 1000000 then some (.d (.str (i ++ j))) else none
  | x, y => (fCatL x y S).map fun l => .d (.list l)
theorem million {n : Nat} (h : n ≤ 1000000) : n ≤ sizeLine := by rw [sizeLine_eq]; omega
theorem list_at {K : Fg} {as : List Addr} {S : Sto} {H : Hp} {u : V} {x : PV} {ds : List PyData} (R : Rel K as S H) (h : VR K as H u x) (e : asD S x = some (.list ds)) :
    ∃ a vs, u = .ref a ∧ SqL K H a vs ∧ DpAll K (hide as H) vs ds := by
  cases x with
  | d y =>
    cases e
    cases h with
    | lst s a => exact ⟨_, _, rfl, hide_same.seq s, a⟩
  | c i =>
    obtain ⟨a, q, rfl⟩ := h
    unfold asD at e; dsimp only at e
    cases hs : S[i]? with
    | none => rw [hs] at e; cases e
    | some es =>
      rw [hs] at e
      cases e
      obtain ⟨vs, h1, h2⟩ := R.at_ i a ds q hs
      exact ⟨a, vs, rfl, SqL.of h1, h2⟩
theorem opL_cat {K : Fg} : OpL K (rCatS K) fCatL := by
  intro as S H u w x y z Q R V1 V2 e k
  unfold fCatL at e
  split at e
  · rename_i xs ys e1 e2
    split at e
    · rename_i hz
      cases e
      obtain ⟨a, vs, rfl, h1, d1⟩ := list_at R V1 e1
      obtain ⟨b, ws, rfl, h2, d2⟩ := list_at R V2 e2
      exact ⟨a, b, vs, ws, rfl, rfl, h1, h2, by rw [dpAll_len d1, dpAll_len d2]; exact million hz, fun p hp => k p H _ R .refl hp (dpAll_append d1 d2)⟩
    · cases e
  · cases e
/-- what is new and frozen at once -/
theorem frozen_new {K : Fg} {as : List Addr} {S : Sto} {H : Hp} {z : List PyData} {Q : VK} (k : ∀ v H', Rel K as S H' → Ext as H as H' → VR K as H' v (.d (.list z)) → Q v H') :
    ∀ p H' vs, Rel K as S H' → Ext as H as H' → H' p = none → DpAll K (hide as H') vs z → Q (.ref p) (upd H' p (.lst vs)) := fun p H' vs R1 E1 hq hd => by
  obtain ⟨R2, E2⟩ := R1.laid (o := .lst vs) hq
  exact k _ _ R2 (E1.trans E2) (.lst (SqL.of (hide_some (R1.free hq) upd_same)) (dpAll_mono E2.same _ _ hd))
theorem tuple_new {K : Fg} {as : List Addr} {S : Sto} {H : Hp} {z : List PyData} {vs : List V} {Q : VK} (R : Rel K as S H) (hd : DpAll K (hide as H) vs z) (k : ∀ v H', Rel K as S H' → Ext as H as H' → VR K as H' v (.d (.tuple z)) → Q v H') :
    ∀ p, H p = none → Q (.ref p) (upd H p (.tup vs)) := fun p hq => by
  obtain ⟨R2, E2⟩ := R.laid (o := .tup vs) hq
  exact k _ _ R2 E2 (.tup (SqT.of (hide_some (R.free hq) upd_same)) (dpAll_mono E2.same _ _ hd))
theorem opD_add {K : Fg} : OpD K (rAddA K) fAdd := by
  intro as S H u w x y z Q R V1 V2 e k
  unfold fAdd at e
  split at e
  · rename_i i j
    cases V1
    cases V2
    cases e
    exact .inl ⟨i, j, rfl, rfl, k _ H R .refl (.int _)⟩
  · rename_i xs ys
    split at e
    · rename_i hz
      cases e
      cases V1 with
      | tup s1 a1 =>
        cases V2 with
        | tup s2 a2 =>
          rename_i p1 vs1 p2 vs2
          refine .inr (.inl ⟨_, _, _, _, rfl, rfl, sqT_mono hide_same s1, sqT_mono hide_same s2, by rw [dpAll_len a1, dpAll_len a2]; exact million hz, fun h0 => ?_, fun h0 h1 => ?_, fun h0 h1 => tuple_new R (dpAll_append a1 a2) k⟩)
          · subst h0
            cases a1
            exact k _ H R .refl (.tup s2 a2)
          · subst h1
            cases a2
            refine k _ H R .refl ?_
            show Dp _ _ _ _
            rw [List.append_nil]
            exact .tup s1 a1
    · cases e
  · rename_i i j
    split at e
    · rename_i hz
      cases V1
      cases V2
      cases e
      exact .inr (.inr (.inr ⟨i, j, rfl, rfl, million hz, k _ H R .refl (.str _)⟩))
    · cases e
  · obtain ⟨l, e1, e⟩ := Option.map_eq_some_iff.mp e
    subst e
    exact .inr (.inr (.inl (opL_cat as S H u w _ _ l Q R V1 V2 e1 (frozen_new k))))
section
variable {X : Cx} {a b : Expr} {ma mb : M} {pos : Pos}
theorem de_add (ha : DE X a ma) (hb : DE X b mb) : DE X (.BinOp a .Add b pos) (mOp fAdd ma mb) := de_op op_addA opD_add ha hb
theorem dl_cat (ha : DE X a ma) (hb : DE X b mb) : DLs X (.BinOp a .Add b pos) (mOpL fCatL ma mb) := dl_op op_catS opL_cat ha hb
end
end DL

namespace DL
open PySem PySem.Spec PyProof.Rows L2

/-! ### a def's promise where nothing is being shown (no repr under way) -/
structure FnG (P : Program) (w : World) (K : Fg) (mg : Str → Option Value) (base : Heap) (CX : CXT) (k : Nat) (f : Addr) (fd : FuncData) (ps : List Str) (sp : Sp) : Prop where
  cnt : ∀ vs H Q E, sp vs H Q E → vs.length = ps.length
  go : ∀ (A : Around) (out : List Env) (s : Shared) (H : Hp) (ar : Args) (us : List Value) (vs : List V) (Q : VK) (E : XK), Room k A → A.guards = some [] → Env0 P w K mg base A out s H →
    BindsTo s fd ar (ps.zip us) → Vals vs us → sp vs H Q E → codeAny (model P w) A (.call (.ref f) ar) (CR CX out P w H s Q E) s
section
variable {P : Program} {w : World} {K : Fg} {mg : Str → Option Value} {base : Heap} {CX : CXT}
theorem FnG.up {j k : Nat} {f : Addr} {fd : FuncData} {ps : List Str} {sp : Sp} (F : FnG P w K mg base CX j f fd ps sp) (h : j ≤ k) : FnG P w K mg base CX k f fd ps sp :=
  ⟨F.cnt, fun A out s H ar us vs Q E hr => F.go A out s H ar us vs Q E (hr.mono h)⟩
theorem FnG.weak {k : Nat} {f : Addr} {fd : FuncData} {ps : List Str} {sp sp' : Sp} (F : FnG P w K mg base CX k f fd ps sp) (h : ∀ vs H Q E, sp' vs H Q E → sp vs H Q E) : FnG P w K mg base CX k f fd ps sp' :=
  ⟨fun vs H Q E q => F.cnt vs H Q E (h _ _ _ _ q), fun A out s H ar us vs Q E hr hg he hb hv hs => F.go A out s H ar us vs Q E hr hg he hb hv (h _ _ _ _ hs)⟩
theorem fng_none {k : Nat} {f : Addr} {fd : FuncData} {ps : List Str} : FnG P w K mg base CX k f fd ps (fun _ _ _ _ => False) :=
  ⟨fun _ _ _ _ h => h.elim, fun _ _ _ _ _ _ _ _ _ _ _ _ _ _ h => h.elim⟩
/-- a def of the text, by its body -/
theorem fng_of {k : Nat} {f : Addr} {name qual : Str} {params : Arguments} {body : List Stmt} {scope : Scope} {dV kV doc pm cdv ct oc : Value} {an od : Option Addr} {osl : Array (Option Value)} {N ps : List Str} {sp : Sp}
    (lk : K.lookup f = some ⟨oc, od, .func (PySem.W.fnOf name qual params body scope dV kV doc pm an cdv ct), osl⟩) (hcd : PySem.W.codeIn K cdv qual = true) (sc : FnScope N ps scope) (cnt : ∀ vs H Q E, sp vs H Q E → vs.length = ps.length)
    (hbody : ∀ (A : Around) (out : List Env) (s : Shared) (H : Hp) (vs : List V) (Q : VK) (E : XK), Room k (A.deeper (envOfC qual scope s.heap.objs.size f cdv)) → (A.deeper (envOfC qual scope s.heap.objs.size f cdv)).guards = some [] → sp vs H Q E →
      ∃ t, PSs (cxOf CX P w K mg base N qual scope f cdv A out s H E) body t ∧ t { nx := fun _ H' => Q .non H', rt := Q } (start N vs) H) :
    FnG P w K mg base CX (k + 1) f (PySem.W.fnOf name qual params body scope dV kV doc pm an cdv ct) ps sp := by
  refine ⟨cnt, fun A out s H ar us vs Q E room gd en bd rel want => ?_⟩
  have old : ∀ b o, base.get? b = some o → s.heap.get? b = some o := fun b o e => (en.bs b o e).1
  have kin : K.In s.heap := en.mod.kin.keeps old
  have kinds : ∀ y ∈ ps.zip us, scope.names.lookup y.1 = some .local ∨ (scope.names.lookup y.1 = some .cell ∧ ((cellsFrom (s.heap.objs.size + 1) scope.names []).lookup y.1).isSome = true) := fun y hy =>
    (sc.par y.1 (List.of_mem_zip (show (y.1, y.2) ∈ ps.zip us from hy)).1).imp id fun q => ⟨q, PySem.W.cellsFrom_some _ _ _ (.inl q)⟩
  refine codeAny_call_function room.depth (kin _ _ lk) rfl sc.co sc.gen rfl (PySem.W.codeRec_of kin hcd) (bd _ _ _ _ (wpAny_newFunctionEnv_cells sc.kind kinds fun env ee s1 x => ?_))
  subst ee
  refine ⟨(en.mod.nolimit.keeps old).keeps x.toInCall.keep, codeAny_func ?_⟩
  obtain ⟨t, ht, hq⟩ := hbody A out s H vs Q E (room.deeper _) gd want
  refine wpAny_mono (ht.run [] s1 (start N vs) H _ (inv_start sc room.hd en (cnt _ _ _ _ want) rel x) hq) (fun fl s' z => ?_) fun e s' z => z
  cases fl with
  | ret u => obtain ⟨v, σ', H', J, rv, q⟩ := z; exact ⟨v, H', J.os, J.bare, J.base, J.hok, rv, q⟩
  | next => obtain ⟨σ', H', J, q⟩ := z; exact ⟨V.non, H', J.os, J.bare, J.base, J.hok, rfl, q⟩
  | brk => obtain ⟨_, _, _, q⟩ := z; exact q.elim
  | cont => obtain ⟨_, _, _, q⟩ := z; exact q.elim
theorem fng_ok {x qual : Str} {st : Stmt} {f : Addr} {fd : FuncData} {N ps : List Str} {k : Nat} {sp : Sp} (F : Fun K x qual st f fd) (sc : FnScope N ps (defScope st)) (cnt : ∀ vs H Q E, sp vs H Q E → vs.length = ps.length)
    (hbody : ∀ (cdv : Value) (A : Around) (out : List Env) (s : Shared) (H : Hp) (vs : List V) (Q : VK) (E : XK), Room k (A.deeper (envOfC qual (defScope st) s.heap.objs.size f cdv)) → (A.deeper (envOfC qual (defScope st) s.heap.objs.size f cdv)).guards = some [] → sp vs H Q E →
      ∃ t, PSs (cxOf CX0 P w K mg base N qual (defScope st) f cdv A out s H E).nox (defBody st) t ∧ t { nx := fun _ H' => Q .non H', rt := Q } (start N vs) H) : FnG P w K mg base CX0 (k + 1) f fd ps sp := by
  obtain ⟨oc, od, kV, doc, pm, an, cdv, ct, osl, rfl, lk, hcd⟩ := F.ex
  refine fng_of lk hcd sc cnt fun A out s H vs Q E hr hg want => ?_
  obtain ⟨t, h, q⟩ := hbody cdv A out s H vs Q E hr hg want
  exact ⟨t, h.nox, q⟩
end
section
variable {X : Cx} {CX : CXT} {k : Nat} {f : Addr} {fd : FuncData} {ps : List Str} {sp : Sp} {E : XK} {x : Str} {p pos : Pos} {e : Expr} {es : List Expr} {t : TA}
theorem pe_callG (F : FnG X.prog X.w X.K X.mg X.base CX k f fd ps sp) (hr : Room k X.A) (hgd : X.A.guards = some []) (hg : Gl X x) (hm : X.mg x = some (.ref f)) (hk : PySem.W.keepIn X.K (.ref f) = true) (hb : Binds X.K fd ps []) (hx : Passes CX X E)
    (ha : PA X (e :: es) t) (hdb : (x == ("__debug__" : Str)) = false := by decide) (he : starEach (e :: es) X.env = (false, eval e X.env) :: starEach es X.env := by rfl) (hpl : (backTo pos (starEach es X.env)).any (·.1) = false := by rfl) :
    PE X (.Call (.Name x p) (e :: es) [] pos) (fun σ H Q => t σ H fun vs H1 => sp vs H1 Q E) := by
  refine ⟨fun pins s σ H Q I want => wpAny_Call_Name_kw (ld_glob I hg hm (PySem.W.callWith_K (h₀ := X.base) I.ok.mod.kin hk (thn (ha.run pos pins s σ H _ I want) fun us s1 z => ?_) he hpl) hdb)⟩
  obtain ⟨vs, H1, I1, rel, q⟩ := z
  have hl : us.length = ps.length := by rw [← rel.length]; exact F.cnt _ _ _ _ q
  have bt := hb s1 us I1.kIn (by rw [List.append_nil]; exact hl)
  rw [List.append_nil] at bt
  refine ⟨I1.kIn, wpAny_call (codeAny_mono (F.go X.A X.stack s1 H1 ⟨us, []⟩ us vs Q E hr hgd I1.env0 bt rel q) fun r s' z => ?_)⟩
  cases r with
  | error ev => exact hx pins σ H1 s1 ev s' I1 z
  | ok fl =>
    cases fl with
    | ret u => exact I1.after z
    | next => exact z.elim
    | brk => exact z.elim
    | cont => exact z.elim
end

/-! ### promises over data -/
abbrev FV := List PV → Sto → Option (PV × Sto)
abbrev FL := List PV → Sto → Option (List PyData × Sto)
def spF (K : Fg) (n : Nat) (F : FV) : Sp := fun vs H Q _ => vs.length = n ∧ ∃ as S ps v S', Rel K as S H ∧ Paired (VR K as H) vs ps ∧ F ps S = some (v, S') ∧ ∀ u H', Rel K as S' H' → Ext as H as H' → VR K as H' u v → Q u H'
def spL (K : Fg) (n : Nat) (F : FL) : Sp := fun vs H Q _ => vs.length = n ∧ ∃ as S ps ds S', Rel K as S H ∧ Paired (VR K as H) vs ps ∧ F ps S = some (ds, S') ∧ ∀ p H' ws, Rel K as S' H' → Ext as H as H' → H' p = none → DpAll K (hide as H') ws ds → Q (.ref p) (upd H' p (.lst ws))
theorem paired_len {α β : Type} {R : α → β → Prop} : ∀ {l : List α} {m : List β}, Paired R l m → l.length = m.length
  | _, _, .nil => rfl
  | _, _, .cons _ r => by rw [List.length_cons, List.length_cons, paired_len r]
def mFn (n : Nat) (F : FV) (ma : MA) : M := fun ρ S => (ma ρ S).bind fun p => if p.1.length = n then F p.1 p.2 else none
def mFnL (n : Nat) (F : FL) (ma : MA) : ML := fun ρ S => (ma ρ S).bind fun p => if p.1.length = n then F p.1 p.2 else none
section
variable {X : Cx} {k n : Nat} {f : Addr} {fd : FuncData} {ps : List Str} {x : Str} {p pos : Pos} {e : Expr} {es : List Expr} {ma : MA}
theorem de_call {F : FV} (G : FnG X.prog X.w X.K X.mg X.base CX0 k f fd ps (spF X.K n F)) (hr : Room k X.A) (hgd : X.A.guards = some []) (hg : Gl X x) (hm : X.mg x = some (.ref f)) (hk : PySem.W.keepIn X.K (.ref f) = true) (hb : Binds X.K fd ps [])
    (ha : DA X (e :: es) ma) (hdb : (x == ("__debug__" : Str)) = false := by decide) (he : starEach (e :: es) X.env = (false, eval e X.env) :: starEach es X.env := by rfl) (hpl : (backTo pos (starEach es X.env)).any (·.1) = false := by rfl) :
    DE X (.Call (.Name x p) (e :: es) [] pos) (mFn n F ma) := pe_imp (pe_callG (E := E0) G hr hgd hg hm hk hb pass0 ha hdb he hpl) fun σ H Q ⟨as, ρ, S, v, S', R, E, e, k⟩ => by
  obtain ⟨⟨xs, S1⟩, e1, e⟩ := Option.bind_eq_some_iff.mp e
  dsimp only at e
  split at e
  · rename_i hn
    refine ⟨as, ρ, S, xs, S1, R, E, e1, fun us H1 R1 E1 V1 => ?_⟩
    exact ⟨by rw [paired_len V1]; exact hn, as, S1, xs, v, S', R1, V1, e, fun u H2 R2 E2 V2 => k u H2 R2 (E1.trans E2) V2⟩
  · cases e
theorem dl_call {F : FL} (G : FnG X.prog X.w X.K X.mg X.base CX0 k f fd ps (spL X.K n F)) (hr : Room k X.A) (hgd : X.A.guards = some []) (hg : Gl X x) (hm : X.mg x = some (.ref f)) (hk : PySem.W.keepIn X.K (.ref f) = true) (hb : Binds X.K fd ps [])
    (ha : DA X (e :: es) ma) (hdb : (x == ("__debug__" : Str)) = false := by decide) (he : starEach (e :: es) X.env = (false, eval e X.env) :: starEach es X.env := by rfl) (hpl : (backTo pos (starEach es X.env)).any (·.1) = false := by rfl) :
    DLs X (.Call (.Name x p) (e :: es) [] pos) (mFnL n F ma) := pe_imp (pe_callG (E := E0) G hr hgd hg hm hk hb pass0 ha hdb he hpl) fun σ H Q ⟨as, ρ, S, v, S', R, E, e, k⟩ => by
  obtain ⟨⟨xs, S1⟩, e1, e⟩ := Option.bind_eq_some_iff.mp e
  dsimp only at e
  split at e
  · rename_i hn
    refine ⟨as, ρ, S, xs, S1, R, E, e1, fun us H1 R1 E1 V1 => ?_⟩
    exact ⟨by rw [paired_len V1]; exact hn, as, S1, xs, v, S', R1, V1, e, fun p H2 ws R2 E2 h2 h3 => k p H2 ws R2 (E1.trans E2) h2 h3⟩
  · cases e
/-- a list of ours is lent to a def that changes nothing; its answer holds no list -/
def flatD : PyData → Bool
  | .none | .bool _ | .int _ | .str _ => true
  | _ => false
def lend (S : Sto) : List PV → Option (List PV)
  | [] => some []
  | x :: r => (asD S x).bind fun d => (lend S r).bind fun q => some (.d d :: q)
theorem lend_vr {K : Fg} {as : List Addr} {S : Sto} {H : Hp} (R : Rel K as S H) : ∀ {us : List V} {xs ys : List PV}, Paired (VR K as H) us xs → lend S xs = some ys → Paired (VR K [] H) us ys
  | _, [], _, .nil, e => by cases e; exact .nil
  | _, x :: r, _, .cons a b, e => by
    obtain ⟨d, e1, e⟩ := Option.bind_eq_some_iff.mp e
    obtain ⟨q, e2, e⟩ := Option.bind_eq_some_iff.mp e
    cases e
    refine .cons ?_ (lend_vr R b e2)
    exact dp_mono (fun a o z => hide_some (by simp) z) _ _ (asD_dp R a e1)
def mLend (n : Nat) (F : FV) (ma : MA) : M := fun ρ S => (ma ρ S).bind fun p => (lend p.2 p.1).bind fun ys => if ys.length = n then (F ys []).bind fun q => match q.1 with
    | .d y => if flatD y = true then some (.d y, p.2) else none
    | .c _ => none
  else none
theorem dp_flat {K : Fg} {H H' : Hp} {u : V} {d : PyData} (h : Dp K H u d) (f : flatD d = true) : Dp K H' u d := by
  cases h with
  | non => exact .non
  | bl b => exact .bl b
  | int i => exact .int i
  | str x => exact .str x
  | lst _ _ => cases f
  | tup _ _ => cases f
theorem de_lend {F : FV} (G : FnG X.prog X.w X.K X.mg X.base CX0 k f fd ps (spF X.K n F)) (hr : Room k X.A) (hgd : X.A.guards = some []) (hg : Gl X x) (hm : X.mg x = some (.ref f)) (hk : PySem.W.keepIn X.K (.ref f) = true) (hb : Binds X.K fd ps [])
    (ha : DA X (e :: es) ma) (hdb : (x == ("__debug__" : Str)) = false := by decide) (he : starEach (e :: es) X.env = (false, eval e X.env) :: starEach es X.env := by rfl) (hpl : (backTo pos (starEach es X.env)).any (·.1) = false := by rfl) :
    DE X (.Call (.Name x p) (e :: es) [] pos) (mLend n F ma) := pe_imp (pe_callG (E := E0) G hr hgd hg hm hk hb pass0 ha hdb he hpl) fun σ H Q ⟨as, ρ, S, v, S', R, E, e, k⟩ => by
  obtain ⟨⟨xs, S1⟩, e1, e⟩ := Option.bind_eq_some_iff.mp e
  obtain ⟨ys, e2, e⟩ := Option.bind_eq_some_iff.mp e
  dsimp only at e
  split at e
  · rename_i hn
    obtain ⟨⟨q, S3⟩, e3, e⟩ := Option.bind_eq_some_iff.mp e
    dsimp only at e
    split at e
    · rename_i y
      split at e
      · rename_i hf
        cases e
        refine ⟨as, ρ, S, xs, S', R, E, e1, fun us H1 R1 E1 V1 => ?_⟩
        have V2 := lend_vr R1 V1 e2
        refine ⟨by rw [paired_len V2]; exact hn, [], [], ys, .d y, S3, .nilR H1, V2, e3, fun u H2 R2 E2 V3 => ?_⟩
        have sm : ∀ a o, H1 a = some o → H2 a = some o := fun a o z => E2.keep a o (by simp) z
        have E3 : Ext as H1 as H2 := ⟨⟨[], by simp⟩, fun b z nz => absurd z nz, fun a o _ z => sm a o z⟩
        refine k u H2 ⟨R1.nd, R1.len, fun i a ds z1 z2 => ?_⟩ (E1.trans E3) (dp_flat V3 hf)
        obtain ⟨ws, z3, z4⟩ := R1.at_ i a ds z1 z2
        exact ⟨ws, sm _ _ z3, dpAll_mono E3.same _ _ z4⟩
      · cases e
    · cases e
  · cases e
end

/-! ### built-in calls -/
def CallD (K : Fg) (r : List V → Hp → VK → Prop) (f : List PV → Sto → Option PV) : Prop := ∀ (as : List Addr) (S : Sto) (H : Hp) (us : List V) (vs : List PV) (z : PV) (Q : VK), Rel K as S H → Paired (VR K as H) us vs → f vs S = some z →
  (∀ v H', Rel K as S H' → Ext as H as H' → VR K as H' v z → Q v H') → r us H Q
def CallL (K : Fg) (r : List V → Hp → VK → Prop) (f : List PV → Sto → Option (List PyData)) : Prop := ∀ (as : List Addr) (S : Sto) (H : Hp) (us : List V) (vs : List PV) (z : List PyData) (Q : VK), Rel K as S H → Paired (VR K as H) us vs → f vs S = some z →
  (∀ p H' ws, Rel K as S H' → Ext as H as H' → H' p = none → DpAll K (hide as H') ws z → Q (.ref p) (upd H' p (.lst ws))) → r us H Q
def mCall (f : List PV → Sto → Option PV) (ma : MA) : M := fun ρ S => (ma ρ S).bind fun p => (f p.1 p.2).bind fun z => some (z, p.2)
def mCallL (f : List PV → Sto → Option (List PyData)) (ma : MA) : ML := fun ρ S => (ma ρ S).bind fun p => (f p.1 p.2).bind fun z => some (z, p.2)
section
variable {X : Cx} {x : Str} {p pos : Pos} {e : Expr} {es : List Expr} {ma : MA} {id T : String} {r : List V → Hp → VK → Prop}
theorem tCB_D {f} (hd : CallD X.K r f) : ∀ σ H Q, tM X.K (mCall f ma) σ H Q → tCB r (tMA X.K ma) σ H Q := fun σ H Q ⟨as, ρ, S, v, S', R, E, e, k⟩ => by
  obtain ⟨⟨xs, S1⟩, e1, e⟩ := Option.bind_eq_some_iff.mp e
  obtain ⟨z, e2, e⟩ := Option.bind_eq_some_iff.mp e
  cases e
  exact ⟨as, ρ, S, xs, S1, R, E, e1, fun us H1 R1 E1 V1 => hd as S1 H1 us xs _ Q R1 V1 e2 fun v H2 R2 E2 V2 => k v H2 R2 (E1.trans E2) V2⟩
theorem tCB_L {f} (hd : CallL X.K r f) : ∀ σ H Q, tL X.K (mCallL f ma) σ H Q → tCB r (tMA X.K ma) σ H Q := fun σ H Q ⟨as, ρ, S, v, S', R, E, e, k⟩ => by
  obtain ⟨⟨xs, S1⟩, e1, e⟩ := Option.bind_eq_some_iff.mp e
  obtain ⟨z, e2, e⟩ := Option.bind_eq_some_iff.mp e
  cases e
  exact ⟨as, ρ, S, xs, S1, R, E, e1, fun us H1 R1 E1 V1 => hd as S1 H1 us xs _ Q R1 V1 e2 fun v H2 ws R2 E2 V2 => k v H2 ws R2 (E1.trans E2) V2⟩
theorem de_cb {f} (hc : CallR X (.builtin id) r) (hd : CallD X.K r f) (hg : Gl X x) (hm : X.mg x = none) (hv : bootBuiltins x = some (.builtin id)) (ha : DA X (e :: es) ma) (hn : x ≠ "__name__" := by decide) (hdb : (x == ("__debug__" : Str)) = false := by decide)
    (he : starEach (e :: es) X.env = (false, eval e X.env) :: starEach es X.env := by rfl) (hpl : (backTo pos (starEach es X.env)).any (·.1) = false := by rfl) : DE X (.Call (.Name x p) (e :: es) [] pos) (mCall f ma) := pe_imp (pe_callB hc hg hm hv ha hn hdb he hpl) (tCB_D hd)
theorem de_ct {f} (hc : CallR X (.type T) r) (hd : CallD X.K r f) (hg : Gl X x) (hm : X.mg x = none) (hv : bootBuiltins x = some (.type T)) (ha : DA X (e :: es) ma) (hn : x ≠ "__name__" := by decide) (hdb : (x == ("__debug__" : Str)) = false := by decide)
    (he : starEach (e :: es) X.env = (false, eval e X.env) :: starEach es X.env := by rfl) (hpl : (backTo pos (starEach es X.env)).any (·.1) = false := by rfl) : DE X (.Call (.Name x p) (e :: es) [] pos) (mCall f ma) := pe_imp (pe_callTy hc hg hm hv ha hn hdb he hpl) (tCB_D hd)
theorem dl_ct {f} (hc : CallR X (.type T) r) (hd : CallL X.K r f) (hg : Gl X x) (hm : X.mg x = none) (hv : bootBuiltins x = some (.type T)) (ha : DA X (e :: es) ma) (hn : x ≠ "__name__" := by decide) (hdb : (x == ("__debug__" : Str)) = false := by decide)
    (he : starEach (e :: es) X.env = (false, eval e X.env) :: starEach es X.env := by rfl) (hpl : (backTo pos (starEach es X.env)).any (·.1) = false := by rfl) : DLs X (.Call (.Name x p) (e :: es) [] pos) (mCallL f ma) := pe_imp (pe_callTy hc hg hm hv ha hn hdb he hpl) (tCB_L hd)
end
end DL

namespace DL
open PySem PySem.Spec PyProof.Rows L2

/-! ### len, abs, min, max, sum -/
def cLen : List PV → Sto → Option PV := fun vs S => match vs with
  | [x] => match asD S x with
    | some (.list xs) => some (.d (.int xs.length))
    | some (.tuple xs) => some (.d (.int xs.length))
    | some (.str z) => if z.length ≤ 1000000 then some (.d (.int z.length)) else none
    | _ => none
  | _ => none
theorem paired1 {K : Fg} {as : List Addr} {H : Hp} {us : List V} {x : PV} (h : Paired (VR K as H) us [x]) : ∃ u, us = [u] ∧ VR K as H u x := by
  cases h with
  | cons a b =>
    cases b
    exact ⟨_, rfl, a⟩
theorem paired2 {K : Fg} {as : List Addr} {H : Hp} {us : List V} {x y : PV} (h : Paired (VR K as H) us [x, y]) : ∃ u v, us = [u, v] ∧ VR K as H u x ∧ VR K as H v y := by
  cases h with
  | cons a b =>
    cases b with
    | cons c d =>
      cases d
      exact ⟨_, _, rfl, a, c⟩
theorem cd_len {K : Fg} : CallD K (fun xs H Q => ∃ x n, xs = [x] ∧ LenV K x H n ∧ Q (.int n) H) cLen := by
  intro as S H us vs z Q R V1 e k
  unfold cLen at e
  split at e
  · rename_i x
    obtain ⟨u, rfl, V⟩ := paired1 V1
    split at e
    · rename_i ds q
      cases e
      have h := asD_dp R V q
      cases h with
      | lst s a => exact ⟨_, ds.length, rfl, .inl ⟨_, s, (dpAll_len a).symm⟩, k _ H R .refl (.int _)⟩
    · rename_i ds q
      cases e
      have h := asD_dp R V q
      cases h with
      | tup s a => exact ⟨_, ds.length, rfl, .inr ⟨_, s, (dpAll_len a).symm⟩, k _ H R .refl (.int _)⟩
    · rename_i z q
      split at e
      · rename_i hz
        cases e
        have h := asD_dp R V q
        cases h
        exact ⟨_, z.length, rfl, ⟨million hz, rfl⟩, k _ H R .refl (.int _)⟩
      · cases e
    · cases e
  · cases e
def cAbs : List PV → Sto → Option PV := fun vs _ => match vs with
  | [.d (.int i)] => some (.d (.int (if i < 0 then -i else i)))
  | _ => none
theorem cd_abs {K : Fg} : CallD K (fun xs H Q => ∃ i, xs = [.int i] ∧ Q (.int (if i < 0 then -i else i)) H) cAbs := by
  intro as S H us vs z Q R V1 e k
  unfold cAbs at e
  split at e
  · rename_i i
    obtain ⟨u, rfl, V⟩ := paired1 V1
    cases V
    cases e
    exact ⟨i, rfl, k _ H R .refl (.int _)⟩
  · cases e
def cMax : List PV → Sto → Option PV := fun vs _ => match vs with
  | [.d (.int i), .d (.int j)] => some (.d (.int (if j > i then j else i)))
  | _ => none
def cMin : List PV → Sto → Option PV := fun vs _ => match vs with
  | [.d (.int i), .d (.int j)] => some (.d (.int (if j < i then j else i)))
  | _ => none
theorem cd_max {K : Fg} : CallD K (fun xs H Q => ∃ i j, xs = [.int i, .int j] ∧ Q (.int (if j > i then j else i)) H) cMax := by
  intro as S H us vs z Q R V1 e k
  unfold cMax at e
  split at e
  · rename_i i j
    obtain ⟨u, v, rfl, V, V'⟩ := paired2 V1
    cases V
    cases V'
    cases e
    exact ⟨i, j, rfl, k _ H R .refl (.int _)⟩
  · cases e
theorem cd_min {K : Fg} : CallD K (fun xs H Q => ∃ i j, xs = [.int i, .int j] ∧ Q (.int (if j < i then j else i)) H) cMin := by
  intro as S H us vs z Q R V1 e k
  unfold cMin at e
  split at e
  · rename_i i j
    obtain ⟨u, v, rfl, V, V'⟩ := paired2 V1
    cases V
    cases V'
    cases e
    exact ⟨i, j, rfl, k _ H R .refl (.int _)⟩
  · cases e
def intsOf : List PyData → Option (List Int)
  | [] => some []
  | .int i :: r => (intsOf r).map (i :: ·)
  | _ :: _ => none
theorem intsOf_some : ∀ {ds : List PyData} {ns : List Int}, intsOf ds = some ns → ds = ns.map .int
  | [], ns, h => by cases h; rfl
  | d :: r, ns, h => by
    cases d with
    | int i =>
      obtain ⟨l, e1, e2⟩ := Option.map_eq_some_iff.mp h
      subst e2
      rw [intsOf_some e1]
      rfl
    | _ => cases h
theorem intsOf_map : ∀ ns : List Int, intsOf (ns.map .int) = some ns
  | [] => rfl
  | n :: r => by
    show (intsOf (r.map .int)).map (n :: ·) = _
    rw [intsOf_map r]
    rfl
section
variable {X : Cx}
/-- sum of a tuple of ints -/
def rSumT (K : Fg) : List V → Hp → VK → Prop := fun vs H Q => ∃ (a : Addr) (ns : List Int), vs = [V.ref a] ∧ SqT K H a (ns.map V.int) ∧ Q (.int ns.sum) H
theorem sum_tup_raw {prog : Program} {w : World} {A : Around} {E : Value → Shared → Prop} {s : Shared} {l : Addr} {its : List Value} {ns : List Int} {Q : Value → Shared → Prop} (hh : A.handled = none) (hl : s.heap.IsTuple l its.toArray) (hi : IntsAre its ns)
    (h : ∀ h' tk t', (∀ b o, s.heap.get? b = some o → h'.get? b = some o) → Q (.int ns.sum t') { s with heap := h', toks := tk }) : wpAny (model prog w) A (call (.builtin "sum") [.ref l]) Q E s := by
  obtain ⟨xs, e⟩ := hi.allInts.items
  have hn : numsOf (intItems xs).toList = ns := by rw [← e]; exact hi.numsOf
  rw [nums_intItems] at hn
  rw [e] at hl
  have hlt : l < s.heap.objs.size := by obtain ⟨_, q, _⟩ := hl; exact Heap.lt_size q
  refine call_sum_walkG (wpAny_pyIter_tuple hl ⟨_, _, _, _, _, _, numAt xs, rfl, Walks.tuple (A := A.in1) hh _ l (Nat.ne_of_lt hlt) (intItems xs), ⟨⟨_, Heap.get?_push_size _ rfl, rfl, rfl⟩, ?_⟩, ?_, (fun _ _ => intItems_at), fun h' tk t' hk => ?_⟩)
  · exact hl.push _
  · intro b hb
    show b < (s.heap.push _).objs.size
    rw [Heap.size_push]
    rcases List.mem_cons.mp hb with rfl | hb
    · exact Nat.lt_succ_self _
    · rcases List.mem_cons.mp hb with rfl | hb
      · exact Nat.lt_succ_of_lt hlt
      · cases hb
  · have z := h h' tk t' fun b o q => hk b o (fun z => absurd (Heap.lt_size q) (by rw [List.mem_singleton.mp z]; exact Nat.lt_irrefl _)) (Heap.get?_push_of_some _ q)
    have zs : (intItems xs).size = xs.size := by simp [intItems]
    rw [zs, preSum_eq, List.take_of_length_le (by simp), hn]
    exact z
theorem cr_sumT (hc : X.calm = true) : CallR X (.builtin "sum") (rSumT X.K) := by
  intro pins s σ H vs us Q I r h
  obtain ⟨a, ns, rfl, hs, q⟩ := h
  obtain ⟨its, rv, hl, _⟩ := I.tuple hs
  rw [Vals.ref1 r]
  exact sum_tup_raw (I.ok.hd hc) hl rv.ints fun h' tk t' hk => ⟨.int _, H, I.kept hk, ⟨_, rfl⟩, q⟩
end
def rSumA (K : Fg) : List V → Hp → VK → Prop := fun vs H Q => rSum K vs H Q ∨ rSumT K vs H Q
def cSum : List PV → Sto → Option PV := fun vs S => match vs with
  | [x] => (itemsOf S x).bind fun ds => (intsOf ds).map fun ns => .d (.int ns.sum)
  | _ => none
theorem cd_sum {K : Fg} : CallD K (rSumA K) cSum := by
  intro as S H us vs z Q R V1 e k
  unfold cSum at e
  split at e
  · rename_i x
    obtain ⟨u, rfl, V⟩ := paired1 V1
    obtain ⟨ds, e1, e⟩ := Option.bind_eq_some_iff.mp e
    obtain ⟨ns, e2, e⟩ := Option.map_eq_some_iff.mp e
    subst e
    obtain ⟨a, ws, rfl, hs, hd⟩ := items_at R V e1
    rw [intsOf_some e2] at hd
    have := dpAll_ints_inv hd
    subst this
    rcases hs with hs | hs
    · exact .inl ⟨a, ns, rfl, hs, k _ H R .refl (.int _)⟩
    · exact .inr ⟨a, ns, rfl, hs, k _ H R .refl (.int _)⟩
  · cases e

/-! ### list(..), tuple(..), int(..), str(..) -/
def cList : List PV → Sto → Option (List PyData) := fun vs S => match vs with
  | [x] => itemsOf S x
  | _ => none
theorem cl_list {K : Fg} : CallL K (fun xs H Q => ∃ p ys, xs = [.ref p] ∧ (SqL K H p ys ∨ SqT K H p ys) ∧ ∀ l, H l = none → Q (.ref l) (upd H l (.lst ys))) cList := by
  intro as S H us vs z Q R V1 e k
  unfold cList at e
  split at e
  · obtain ⟨u, rfl, V⟩ := paired1 V1
    obtain ⟨a, ws, rfl, hs, hd⟩ := items_at R V e
    exact ⟨a, ws, rfl, hs, fun l hl => k l H ws R .refl hl hd⟩
  · cases e
def cTuple : List PV → Sto → Option PV := fun vs S => match vs with
  | [x] => (itemsOf S x).map fun ds => .d (.tuple ds)
  | _ => none
theorem cd_tuple {K : Fg} : CallD K (fun xs H Q => ∃ p ys, xs = [.ref p] ∧ ((SqL K H p ys ∧ ∀ l, H l = none → Q (.ref l) (upd H l (.tup ys))) ∨ (SqT K H p ys ∧ Q (.ref p) H))) cTuple := by
  intro as S H us vs z Q R V1 e k
  unfold cTuple at e
  split at e
  · rename_i x
    obtain ⟨u, rfl, V⟩ := paired1 V1
    obtain ⟨ds, e1, e⟩ := Option.map_eq_some_iff.mp e
    subst e
    cases x with
    | d y =>
      cases y with
      | list xs =>
        cases e1
        cases V with
        | lst s a => exact ⟨_, _, rfl, .inl ⟨hide_same.seq s, tuple_new R a k⟩⟩
      | tuple xs =>
        cases e1
        cases V with
        | tup s a => exact ⟨_, _, rfl, .inr ⟨sqT_mono hide_same s, k _ H R .refl (.tup s a)⟩⟩
      | _ => cases e1
    | c i =>
      obtain ⟨a, q, rfl⟩ := V
      obtain ⟨ws, h1, h2⟩ := R.at_ i a ds q e1
      exact ⟨_, _, rfl, .inl ⟨SqL.of h1, tuple_new R h2 k⟩⟩
  · cases e
def cInt : List PV → Sto → Option PV := fun vs _ => match vs with
  | [.d (.int i)] => some (.d (.int i))
  | [.d (.bool b)] => some (.d (.int (if b then 1 else 0)))
  | _ => none
theorem cd_int {K : Fg} : CallD K (fun xs H Q => (∃ i, xs = [.int i] ∧ Q (.int i) H) ∨ ∃ k, xs = [.bl k] ∧ Q (.int (if k then 1 else 0)) H) cInt := by
  intro as S H us vs z Q R V1 e k
  unfold cInt at e
  split at e
  · obtain ⟨u, rfl, V⟩ := paired1 V1
    cases V
    cases e
    exact .inl ⟨_, rfl, k _ H R .refl (.int _)⟩
  · obtain ⟨u, rfl, V⟩ := paired1 V1
    cases V
    cases e
    exact .inr ⟨_, rfl, k _ H R .refl (.int _)⟩
  · cases e
def cStr : List PV → Sto → Option PV := fun vs _ => match vs with
  | [.d (.int i)] => if i.natAbs.log2 < 1920 then some (.d (.str (toString i))) else none
  | _ => none
theorem cd_str {K : Fg} : CallD K (fun xs H Q => ∃ i, xs = [.int i] ∧ i.natAbs.log2 < 1920 ∧ Q (.str (toString i)) H) cStr := by
  intro as S H us vs z Q R V1 e k
  unfold cStr at e
  split at e
  · obtain ⟨u, rfl, V⟩ := paired1 V1
    split at e
    · rename_i hz
      cases V
      cases e
      exact ⟨_, rfl, hz, k _ H R .refl (.str _)⟩
    · cases e
  · cases e

/-! ### repr -/
def rRepr (K : Fg) : List V → Hp → VK → Prop := fun xs H Q => ∃ x d, xs = [x] ∧ Dp K H x d ∧ d.showable = true ∧ d.hasDict = false ∧ d.depth ≤ 40 ∧ d.shown.length ≤ sizeLine ∧ Q (.str d.shown) H
theorem call_reprA {X : Cx} {k : Nat} (hr : Room k X.A) (hgd : X.A.guards = some []) : CallR X (.builtin "repr") (rRepr X.K) := by
  intro pins s σ H vs us Q I r h
  obtain ⟨x, d, rfl, hd, h1, h2, h3, h4, q⟩ := h
  have hu := hr.units
  cases hd with
  | non =>
    obtain ⟨u, rfl, rx⟩ := vals1 r
    cases (show u = Value.none from rx)
    exact PySem.P.repr_of_none ⟨.str _, H, I.tok _, ⟨_, rfl⟩, q⟩
  | bl b =>
    obtain ⟨u, rfl, rx⟩ := vals1 r
    cases (show u = Value.bool b from rx)
    exact PySem.P.repr_of_bool ⟨.str _, H, I.tok _, ⟨_, rfl⟩, q⟩
  | int i =>
    obtain ⟨u, rfl, rx⟩ := vals1 r
    obtain ⟨t, rfl⟩ := (show ∃ t, u = Value.int i t from rx)
    exact PySem.P.repr_of_int (by simpa [PyData.showable] using h1) ⟨.str _, H, I.tok _, ⟨_, rfl⟩, q⟩
  | str z =>
    obtain ⟨u, rfl, rx⟩ := vals1 r
    obtain ⟨t, rfl⟩ := (show ∃ t, u = Value.str z t from rx)
    exact PySem.P.repr_of_str ⟨.str _, H, I.tok _, ⟨_, rfl⟩, q⟩ h4
  | lst sq al =>
    rename_i a xs ds
    obtain ⟨u, rfl, rx⟩ := vals1 r
    cases (show u = Value.ref a from rx)
    obtain ⟨as, rd⟩ := Dp.reads I _ _ _ (.lst sq al) rx
    refine repr_of_reads' rd h1 (fun z => ?_) hgd (by omega) (fun _ _ z => z) (fun h' u tk hk => ⟨.str _, H, I.kept hk, ⟨_, rfl⟩, q⟩) h4
    rw [h2] at z
    cases z
  | tup sq al =>
    rename_i a xs ds
    obtain ⟨u, rfl, rx⟩ := vals1 r
    cases (show u = Value.ref a from rx)
    obtain ⟨as, rd⟩ := Dp.reads I _ _ _ (.tup sq al) rx
    refine repr_of_reads' rd h1 (fun z => ?_) hgd (by omega) (fun _ _ z => z) (fun h' u tk hk => ⟨.str _, H, I.kept hk, ⟨_, rfl⟩, q⟩) h4
    rw [h2] at z
    cases z
def reprOk (d : PyData) : Bool := d.showable && !d.hasDict && decide (d.depth ≤ 40) && decide (d.shown.length ≤ 16777216)
def cRepr : List PV → Sto → Option PV := fun vs S => match vs with
  | [x] => (asD S x).bind fun d => if reprOk d = true then some (.d (.str d.shown)) else none
  | _ => none
theorem cd_repr {K : Fg} : CallD K (rRepr K) cRepr := by
  intro as S H us vs z Q R V1 e k
  unfold cRepr at e
  split at e
  · obtain ⟨u, rfl, V⟩ := paired1 V1
    obtain ⟨d, e1, e⟩ := Option.bind_eq_some_iff.mp e
    split at e
    · rename_i hz
      cases e
      unfold reprOk at hz
      simp only [Bool.and_eq_true, Bool.not_eq_true', decide_eq_true_eq] at hz
      exact ⟨u, d, rfl, asD_dp R V e1, hz.1.1.1, hz.1.1.2, hz.1.2, by rw [sizeLine_eq]; exact hz.2, k _ H R .refl (.str _)⟩
    · cases e
  · cases e
end DL

namespace DL
open PySem PySem.Spec PyProof.Rows L2

/-! ### isinstance of built-in classes -/
inductive Kd where
  | int | bool | str | tuple | list
def Kd.nm : Kd → String
  | .int => "int"
  | .bool => "bool"
  | .str => "str"
  | .tuple => "tuple"
  | .list => "list"
def tyNm : PyData → String
  | .none => "NoneType"
  | .bool _ => "bool"
  | .int _ => "int"
  | .str _ => "str"
  | .list _ => "list"
  | .tuple _ => "tuple"
  | .dict _ => "dict"
def isK : PyData → Kd → Bool
  | .int _, .int => true
  | .bool _, .int => true
  | .bool _, .bool => true
  | .str _, .str => true
  | .tuple _, .tuple => true
  | .list _, .list => true
  | _, _ => false
def allKd : List Kd := [.int, .bool, .str, .tuple, .list]
theorem kitTab : (["NoneType", "bool", "int", "str", "list", "tuple"].all fun a => ["int", "bool", "str", "tuple", "list"].all fun b =>
    kitB a b == some (a == b || (a == "bool" && b == "int"))) = true := by decide +kernel
theorem kit_isK {d : PyData} (h : ∀ kvs, d ≠ .dict kvs) (k : Kd) : kitB (tyNm d) k.nm = some (isK d k) := by
  have t := kitTab
  simp only [List.all_cons, List.all_nil, Bool.and_true, Bool.and_eq_true, beq_iff_eq] at t
  cases d with
  | dict kvs => exact absurd rfl (h kvs)
  | none => cases k <;> simp only [tyNm, Kd.nm, isK] <;> simp_all
  | bool b => cases k <;> simp only [tyNm, Kd.nm, isK] <;> simp_all
  | int b => cases k <;> simp only [tyNm, Kd.nm, isK] <;> simp_all
  | str b => cases k <;> simp only [tyNm, Kd.nm, isK] <;> simp_all
  | list b => cases k <;> simp only [tyNm, Kd.nm, isK] <;> simp_all
  | tuple b => cases k <;> simp only [tyNm, Kd.nm, isK] <;> simp_all
theorem dp_ty {K : Fg} {H : Hp} {u : V} {d : PyData} (h : Dp K H u d) : TyX K H u (.type (tyNm d)) := by
  cases h with
  | non => exact .base .non
  | bl b => exact .base (.bl b)
  | int i => exact .base (.int i)
  | str x => exact .base (.str x)
  | lst s a =>
    rcases s with (s | ⟨o, s⟩) | ⟨o, its, n, s, c, _⟩
    · exact .base (.lst s)
    · exact .base (.frz s)
    · exact .kList s c
  | tup s a =>
    rcases s with (s | ⟨o, s⟩) | ⟨o, its, n, s, c, _⟩
    · exact .base (.tup s)
    · exact .fTuple s
    · exact .kTuple s c
theorem dp_nodict {K : Fg} {H : Hp} {u : V} {d : PyData} (h : Dp K H u d) : ∀ kvs, d ≠ .dict kvs := fun kvs e => by
  subst e
  cases h
def mIsi (k : Kd) (ma : M) : M := fun ρ S => (ma ρ S).bind fun p => (asD p.2 p.1).bind fun d => some (.d (.bool (isK d k)), p.2)
section
variable {X : Cx} {p pos q : Pos} {e : Expr} {T : Str} {m : M}
theorem de_isi (k : Kd) (he : DE X e m) (hg : Gl X "isinstance") (hm : X.mg "isinstance" = none) (hg2 : Gl X T) (hm2 : X.mg T = none) (hb : bootBuiltins T = some (.type k.nm))
    (n2 : T ≠ "__name__" := by decide) (d2 : (T == ("__debug__" : Str)) = false := by decide)
    (s1 : starEach [e, .Name T q] X.env = (false, eval e X.env) :: starEach [.Name T q] X.env := by rfl) (s2 : starEach [.Name T q] X.env = (false, eval (.Name T q) X.env) :: starEach [] X.env := by rfl)
    (hpl : (backTo pos (starEach [.Name T q] X.env)).any (·.1) = false := by rfl) : DE X (.Call (.Name "isinstance" p) [e, .Name T q] [] pos) (mIsi k m) :=
  pe_imp (pe_callB call_isi hg hm boot_isinstance (pa_cons he (pa_cons (pe_bltn (v := .ty k.nm) hg2 hm2 hb rfl n2 d2) pa_nil s2) s1) (by decide) (by decide) s1 hpl) fun σ H Q ⟨as, ρ, S, v, S', R, E, e, kk⟩ => by
    obtain ⟨⟨x, S1⟩, e1, e⟩ := Option.bind_eq_some_iff.mp e
    obtain ⟨d, e2, e⟩ := Option.bind_eq_some_iff.mp e
    cases e
    refine ⟨as, ρ, S, x, S1, R, E, e1, fun u H1 R1 E1 V1 => ?_⟩
    have hd := asD_dp R1 V1 e2
    exact ⟨u, .ty k.nm, _, _, isK d k, rfl, .ty _, dp_ty hd, kit_ty (kit_isK (dp_nodict hd) k), kk _ H1 R1 E1 (.bl _)⟩
end

/-! ### subscripts -/
def fIx : PV → PV → Sto → Option PV := fun x y S => match y with
  | .d (.int i) => match x with
    | .d (.str z) => if z.length ≤ 1000000 then (atI z.cps.toList i).map fun c => .d (.str ⟨#[c]⟩) else none
    | x => (itemsOf S x).bind fun ds => (atI ds i).map .d
  | _ => none
theorem ixN_lt {n : Nat} {i : Int} {j : Nat} (h : ixN n i = some j) : j < n := (ixN_seq h).2.1
theorem atI_dp {K : Fg} {H : Hp} {vs : List V} {ds : List PyData} {i : Int} {d : PyData} (h : DpAll K H vs ds) (e : atI ds i = some d) : ∃ v, atI vs i = some v ∧ Dp K H v d := by
  unfold atI at e ⊢
  obtain ⟨j, e1, e2⟩ := Option.bind_eq_some_iff.mp e
  obtain ⟨v, a, b⟩ := dpAll_get h e2
  exact ⟨v, by rw [dpAll_len h, e1]; exact a, b⟩
theorem opD_ix {K : Fg} : OpD K (rIx K) fIx := by
  intro as S H u w x y z Q R V1 V2 e k
  unfold fIx at e
  split at e
  · rename_i i
    cases V2
    split at e
    · rename_i zz
      split at e
      · rename_i hz
        obtain ⟨c, e1, e⟩ := Option.map_eq_some_iff.mp e
        subst e
        cases V1
        exact .inr (.inr ⟨zz, i, c, rfl, rfl, million hz, e1, k _ H R .refl (.str _)⟩)
      · cases e
    · obtain ⟨ds, e1, e⟩ := Option.bind_eq_some_iff.mp e
      obtain ⟨d, e2, e⟩ := Option.map_eq_some_iff.mp e
      subst e
      obtain ⟨a, ws, rfl, hs, hd⟩ := items_at R V1 e1
      obtain ⟨v, e3, hv⟩ := atI_dp hd e2
      rcases hs with hs | hs
      · exact .inl ⟨a, ws, i, v, rfl, rfl, hs, e3, k _ H R .refl hv⟩
      · exact .inr (.inl ⟨a, ws, i, v, rfl, rfl, hs, e3, k _ H R .refl hv⟩)
  · cases e
section
variable {X : Cx} {a b : Expr} {ma mb : M} {pos : Pos}
theorem de_at (ha : DE X a ma) (hb : DE X b mb) (hs : PlainIx b := by intro _ _; rfl) : DE X (.Subscript a b pos) (mOp fIx ma mb) := de_ix ix_seq opD_ix ha hb hs
end

/-! ### slices -/
abbrev MO := RE → Sto → Option (Option Int × Sto)
def tMO (K : Fg) (m : MO) : TO := fun σ H Q => ∃ as ρ S o S', Rel K as S H ∧ ER K as H σ ρ ∧ m ρ S = some (o, S') ∧ ∀ H', Rel K as S' H' → Ext as H as H' → Q o H'
def oNone : MO := fun _ S => some (none, S)
def oSome (m : M) : MO := fun ρ S => (m ρ S).bind fun p => match p.1 with
  | .d (.int i) => some (some i, p.2)
  | _ => none
theorem po_imp {X : Cx} {e : Option Expr} {t t' : TO} (h : PO X e t) (w : ∀ σ H Q, t' σ H Q → t σ H Q) : PO X e t' := ⟨fun pins s σ H Q I q => h.run pins s σ H Q I (w _ _ _ q)⟩
section
variable {X : Cx} {e : Expr} {lo hi : Option Expr} {m : M} {ml mh : MO} {pos p2 : Pos}
theorem do_none : PO X none (tMO X.K oNone) := po_imp po_none fun σ H Q ⟨as, ρ, S, v, S', R, E, e, k⟩ => by
  cases e
  exact k H R .refl
theorem do_some (h : DE X e m) : PO X (some e) (tMO X.K (oSome m)) := po_imp (po_some h) fun σ H Q ⟨as, ρ, S, v, S', R, E, e, k⟩ => by
  obtain ⟨⟨x, S1⟩, e1, e⟩ := Option.bind_eq_some_iff.mp e
  refine ⟨as, ρ, S, x, S1, R, E, e1, fun u H1 R1 E1 V1 => ?_⟩
  dsimp only at e
  split at e
  · rename_i i
    cases e
    cases V1
    exact ⟨i, rfl, k H1 R1 E1⟩
  · cases e
/-- what a slice takes -/
def cut {α : Type} (xs : List α) (lo hi : Option Int) : List α := (xs.drop (HT.sIx xs.length 0 lo)).take (HT.sIx xs.length xs.length hi - HT.sIx xs.length 0 lo)
theorem cut_whole {α : Type} {xs : List α} {lo hi : Option Int} (hw : HT.sIx xs.length 0 lo = 0 ∧ HT.sIx xs.length xs.length hi = xs.length) : cut xs lo hi = xs := by
  unfold cut
  rw [hw.1, hw.2]
  simp
theorem cut_dp {K : Fg} {H : Hp} {vs : List V} {ds : List PyData} (lo hi : Option Int) (h : DpAll K H vs ds) : DpAll K H (cutV vs lo hi) (cut ds lo hi) := by
  unfold cutV cut
  rw [dpAll_len h]
  exact dpAll_take _ (dpAll_drop _ h)
def mSl (m : M) (ml mh : MO) : M := fun ρ S => (m ρ S).bind fun p => (ml ρ p.2).bind fun l => (mh ρ l.2).bind fun h => match p.1 with
  | .d (.tuple xs) => some (.d (.tuple (cut xs l.1 h.1)), h.2)
  | .d (.str z) => if z.length ≤ 1000000 then some (.d (.str (cutS z l.1 h.1)), h.2) else none
  | _ => none
def mSlL (m : M) (ml mh : MO) : ML := fun ρ S => (m ρ S).bind fun p => (ml ρ p.2).bind fun l => (mh ρ l.2).bind fun h => match asD h.2 p.1 with
  | some (.list xs) => some (cut xs l.1 h.1, h.2)
  | _ => none
theorem dl_slice (he : DE X e m) (hl : PO X lo (tMO X.K ml)) (hh : PO X hi (tMO X.K mh)) : DLs X (.Subscript e (.Slice lo hi none p2) pos) (mSlL m ml mh) := pe_imp (pe_slice sl_list he hl hh) fun σ H Q ⟨as, ρ, S, v, S', R, E, e, k⟩ => by
  obtain ⟨⟨x, S1⟩, e1, e⟩ := Option.bind_eq_some_iff.mp e
  obtain ⟨⟨l, S2⟩, e2, e⟩ := Option.bind_eq_some_iff.mp e
  obtain ⟨⟨h, S3⟩, e3, e⟩ := Option.bind_eq_some_iff.mp e
  refine ⟨as, ρ, S, x, S1, R, E, e1, fun u H1 R1 E1 V1 => ⟨as, ρ, S1, l, S2, R1, E.ext E1, e2, fun H2 R2 E2 => ⟨as, ρ, S2, h, S3, R2, E.ext (E1.trans E2), e3, fun H3 R3 E3 => ?_⟩⟩⟩
  dsimp only at e
  split at e
  · rename_i xs q
    cases e
    obtain ⟨a, ws, rfl, hs, hd⟩ := list_at R3 (V1.ext (E2.trans E3)) q
    exact ⟨a, ws, rfl, hs, fun p hp => k p H3 _ R3 (E1.trans (E2.trans E3)) hp (cut_dp l h hd)⟩
  · cases e
def rSlX (K : Fg) : V → Option Int → Option Int → Hp → VK → Prop := fun x lo hi H Q => rSlA K x lo hi H Q ∨ ∃ z, x = .str z ∧ z.length ≤ sizeLine ∧ Q (.str (cutS z lo hi)) H
theorem sl_X : SlR X (rSlX X.K) := sl_tupA.or sl_str
theorem de_slice (he : DE X e m) (hl : PO X lo (tMO X.K ml)) (hh : PO X hi (tMO X.K mh)) : DE X (.Subscript e (.Slice lo hi none p2) pos) (mSl m ml mh) := pe_imp (pe_slice sl_X he hl hh) fun σ H Q ⟨as, ρ, S, v, S', R, E, e, k⟩ => by
  obtain ⟨⟨x, S1⟩, e1, e⟩ := Option.bind_eq_some_iff.mp e
  obtain ⟨⟨l, S2⟩, e2, e⟩ := Option.bind_eq_some_iff.mp e
  obtain ⟨⟨h, S3⟩, e3, e⟩ := Option.bind_eq_some_iff.mp e
  refine ⟨as, ρ, S, x, S1, R, E, e1, fun u H1 R1 E1 V1 => ⟨as, ρ, S1, l, S2, R1, E.ext E1, e2, fun H2 R2 E2 => ⟨as, ρ, S2, h, S3, R2, E.ext (E1.trans E2), e3, fun H3 R3 E3 => ?_⟩⟩⟩
  have EE := E1.trans (E2.trans E3)
  have V3 := V1.ext (E2.trans E3)
  dsimp only at e
  split at e
  · cases e
    cases V3 with
    | tup s a =>
      refine .inl ⟨_, _, rfl, sqT_mono hide_same s, fun hw => ?_, fun _ => tuple_new R3 (cut_dp l h a) fun v H4 R4 E4 V4 => k v H4 R4 (EE.trans E4) V4⟩
      refine k _ H3 R3 EE ?_
      show Dp _ _ _ _
      rw [cut_whole (by rw [← dpAll_len a]; exact hw)]
      exact .tup s a
  · split at e
    · rename_i hz
      cases e
      cases V3
      exact .inr ⟨_, rfl, million hz, k _ H3 R3 EE (.str _)⟩
    · cases e
  · cases e
end

/-! ### products: ints, a list so often -/
def rRepS (K : Fg) : R2 := fun x y H Q => ∃ l k xs, x = .ref l ∧ y = .int k ∧ H l = some (.lst xs) ∧ -(2 ^ 63) ≤ k ∧ k < 2 ^ 63 ∧ xs.length * k.toNat ≤ sizeLine ∧ ∀ p, H p = none → Q (.ref p) (upd H p (.lst (List.replicate k.toNat xs).flatten))
def fMul : PV → PV → Sto → Option PV := fIc mulOk fun i j => .int (i * j)
section
variable {X : Cx} {a b : Expr} {ma mb : M} {pos : Pos}
theorem de_mul (ha : DE X a ma) (hb : DE X b mb) : DE X (.BinOp a .Mult b pos) (mOp fMul ma mb) := de_op op_mulA (opD_I (fun _ _ h => mulOk_ok h) fun _ _ _ => .int _) ha hb
/-- a fresh list times an int -/
def mRep (m : ML) (mb : M) : ML := fun ρ S => (m ρ S).bind fun p => (mb ρ p.2).bind fun q => match q.1 with
  | .d (.int k) => if k ≤ 1000000 ∧ -1000000 ≤ k ∧ p.1.length * k.toNat ≤ 1000000 then some ((List.replicate k.toNat p.1).flatten, q.2) else none
  | _ => none
theorem dl_rep {m : ML} (ha : DLs X a m) (hb : DE X b mb) : DLs X (.BinOp a .Mult b pos) (mRep m mb) := pe_imp (pe_op op_rep ha hb) fun σ H Q ⟨as, ρ, S, v, S', R, E, e, k⟩ => by
  obtain ⟨⟨xs, S1⟩, e1, e⟩ := Option.bind_eq_some_iff.mp e
  obtain ⟨⟨y, S2⟩, e2, e⟩ := Option.bind_eq_some_iff.mp e
  refine ⟨as, ρ, S, xs, S1, R, E, e1, fun p H1 vs R1 E1 hp hd => ?_⟩
  obtain ⟨R2, E2⟩ := R1.laid (o := .lst vs) hp
  refine ⟨as, ρ, S1, y, S2, R2, E.ext (E1.trans E2), e2, fun w H3 R3 E3 V3 => ?_⟩
  dsimp only at e
  split at e
  · rename_i i
    split at e
    · rename_i hz
      cases e
      cases V3
      have hl := dpAll_len hd
      have np : p ∉ as := R1.free hp
      have hk : H3 p = some (.lst vs) := E3.keep p _ np upd_same
      have z1 : (1000000 : Int) < 2 ^ 63 := by decide
      have z2 : -(2 ^ 63) ≤ (-1000000 : Int) := by decide
      refine ⟨p, i, vs, rfl, rfl, hk, by omega, by omega, by rw [hl]; exact million hz.2.2, fun q hq => ?_⟩
      exact k q H3 _ R3 ((E1.trans E2).trans E3) hq (dpAll_rep (dpAll_mono (E2.trans E3).same _ _ hd) _)
    · cases e
  · cases e
end
end DL

namespace DL
open PySem PySem.Spec PyProof.Rows L2

/-! ### statements -/
inductive Out where
  | nx (ρ : RE) (S : Sto)
  | bk (ρ : RE) (S : Sto)
  | ct (ρ : RE) (S : Sto)
  | rt (v : PV) (S : Sto)
  | rl (ds : List PyData) (S : Sto)
abbrev MS := RE → Sto → Option Out
def Post (K : Fg) (as : List Addr) (H : Hp) (D : Ends) : Out → Prop
  | .nx ρ S => ∀ as' σ' H', Ext as H as' H' → Rel K as' S H' → ER K as' H' σ' ρ → D.nx σ' H'
  | .bk ρ S => ∀ as' σ' H', Ext as H as' H' → Rel K as' S H' → ER K as' H' σ' ρ → D.bk σ' H'
  | .ct ρ S => ∀ as' σ' H', Ext as H as' H' → Rel K as' S H' → ER K as' H' σ' ρ → D.ct σ' H'
  | .rt v S => ∀ as' u H', Ext as H as' H' → Rel K as' S H' → VR K as' H' u v → D.rt u H'
  | .rl ds S => ∀ as' p H' vs, Ext as H as' H' → Rel K as' S H' → H' p = none → DpAll K (hide as' H') vs ds → D.rt (.ref p) (upd H' p (.lst vs))
theorem Post.ext {K : Fg} {as as1 : List Addr} {H H1 : Hp} {D : Ends} {o : Out} (h : Post K as H D o) (e : Ext as H as1 H1) : Post K as1 H1 D o := by
  cases o with
  | nx ρ S => exact fun as' σ' H' e' => h as' σ' H' (e.trans e')
  | bk ρ S => exact fun as' σ' H' e' => h as' σ' H' (e.trans e')
  | ct ρ S => exact fun as' σ' H' e' => h as' σ' H' (e.trans e')
  | rt ρ S => exact fun as' σ' H' e' => h as' σ' H' (e.trans e')
  | rl ρ S => exact fun as' p H' vs e' => h as' p H' vs (e.trans e')
def tS (K : Fg) (g : MS) : TS := fun D σ H => ∃ as ρ S o, Rel K as S H ∧ ER K as H σ ρ ∧ g ρ S = some o ∧ Post K as H D o
abbrev DS (X : Cx) (st : Stmt) (g : MS) : Prop := PS X st (tS X.K g)
abbrev DSs (X : Cx) (st : List Stmt) (g : MS) : Prop := PSs X st (tS X.K g)
theorem ps_imp {X : Cx} {st : Stmt} {t t' : TS} (h : PS X st t) (w : ∀ D σ H, t' D σ H → t D σ H) : PS X st t' := ⟨fun pins s σ H D I q => h.run pins s σ H D I (w _ _ _ q)⟩
theorem pss_imp {X : Cx} {st : List Stmt} {t t' : TS} (h : PSs X st t) (w : ∀ D σ H, t' D σ H → t D σ H) : PSs X st t' := ⟨fun pins s σ H D I q => h.run pins s σ H D I (w _ _ _ q)⟩
theorem ER.set {K : Fg} {as : List Addr} {H : Hp} {σ : L2.St} {ρ : RE} {v : V} {p : PV} (E : ER K as H σ ρ) (i : Nat) (h : VR K as H v p) : ER K as H (σ.set i (some v)) (ρ.set i (some p)) := by
  refine ⟨by rw [List.length_set, List.length_set]; exact E.len, fun j q e => ?_⟩
  by_cases hj : j = i
  · subst hj
    have hl : j < ρ.length := by
      have := (List.getElem?_eq_some_iff.mp e).1
      rwa [List.length_set] at this
    rw [List.getElem?_set_self hl] at e
    cases e
    exact ⟨v, List.getElem?_set_self (by rw [E.len]; exact hl), h⟩
  · rw [List.getElem?_set_ne (Ne.symm hj)] at e
    obtain ⟨u, a, b⟩ := E.at_ j q e
    exact ⟨u, by rw [List.getElem?_set_ne (Ne.symm hj)]; exact a, b⟩
section
variable {X : Cx} {pos : Pos}
def sNil : MS := fun ρ S => some (.nx ρ S)
def sSeq (a b : MS) : MS := fun ρ S => (a ρ S).bind fun o => match o with
  | .nx ρ' S' => b ρ' S'
  | o => some o
theorem ds_nil : DSs X [] sNil := pss_imp pss_nil fun D σ H ⟨as, ρ, S, o, R, E, e, k⟩ => by
  cases e
  exact k as σ H .refl R E
theorem ds_cons {st : Stmt} {rest : List Stmt} {a b : MS} (h1 : DS X st a) (h2 : DSs X rest b) : DSs X (st :: rest) (sSeq a b) := pss_imp (pss_cons h1 h2) fun D σ H ⟨as, ρ, S, o, R, E, e, k⟩ => by
  obtain ⟨o1, e1, e⟩ := Option.bind_eq_some_iff.mp e
  refine ⟨as, ρ, S, o1, R, E, e1, ?_⟩
  cases o1 with
  | nx ρ' S' => exact fun as' σ' H' e' R' E' => ⟨as', ρ', S', o, R', E', e, k.ext e'⟩
  | bk ρ' S' => cases e; exact k
  | ct ρ' S' => cases e; exact k
  | rt ρ' S' => cases e; exact k
  | rl ρ' S' => cases e; exact k
theorem ds_one {st : Stmt} {a : MS} (h1 : DS X st a) : DSs X [st] a := pss_one h1
theorem ds_pass : DS X (.Pass pos) sNil := ps_imp ps_pass fun D σ H ⟨as, ρ, S, o, R, E, e, k⟩ => by
  cases e
  exact k as σ H .refl R E
def sBk : MS := fun ρ S => some (.bk ρ S)
def sCt : MS := fun ρ S => some (.ct ρ S)
theorem ds_break : DS X (.Break pos) sBk := ps_imp ps_break fun D σ H ⟨as, ρ, S, o, R, E, e, k⟩ => by
  cases e
  exact k as σ H .refl R E
theorem ds_continue : DS X (.Continue pos) sCt := ps_imp ps_continue fun D σ H ⟨as, ρ, S, o, R, E, e, k⟩ => by
  cases e
  exact k as σ H .refl R E
def sNever : MS := fun _ _ => none
theorem ds_never {st : Stmt} : DS X st sNever := ps_imp ps_never fun D σ H ⟨as, ρ, S, o, R, E, e, k⟩ => by cases e
theorem dss_never {st : List Stmt} : DSs X st sNever := pss_imp pss_never fun D σ H ⟨as, ρ, S, o, R, E, e, k⟩ => by cases e
/-- x = e -/
def sSet (i : Nat) (m : M) : MS := fun ρ S => (m ρ S).bind fun p => some (.nx (ρ.set i (some p.1)) p.2)
theorem ds_set {i : Nat} {x : Str} {e : Expr} {m : M} {pos' : Pos} (hN : X.N.Nodup) (hi : X.N[i]? = some x) (hx : Loc X.env.scope x) (he : DE X e m) (hs : swapsWith e (some (.Name x pos')) pos.line X.env = pure false := by rfl)
    (hf : X.fn x = true ∨ X.env.scope.names.lookup x = some .local := by first | exact .inl rfl | exact .inr rfl | assumption) : DS X (.Assign [.Name x pos'] e pos) (sSet i m) :=
  ps_imp (ps_set hN hi hx he hs hf) fun D σ H ⟨as, ρ, S, o, R, E, e, k⟩ => by
    obtain ⟨⟨v, S1⟩, e1, e⟩ := Option.bind_eq_some_iff.mp e
    cases e
    exact ⟨as, ρ, S, v, S1, R, E, e1, fun u H1 R1 E1 V1 => k as _ H1 E1 R1 ((E.ext E1).set i V1)⟩
/-- x = a new list that x may change from here on -/
def sOwn (i : Nat) (m : ML) : MS := fun ρ S => (m ρ S).bind fun p => some (.nx (ρ.set i (some (.c p.2.length))) (p.2 ++ [p.1]))
theorem own_post {K : Fg} {as : List Addr} {H H1 : Hp} {σ : L2.St} {ρ : RE} {S1 : Sto} {ds : List PyData} {i : Nat} {D : Ends} {p : Addr} {vs : List V} (E : ER K as H σ ρ) (k : Post K as H D (.nx (ρ.set i (some (.c S1.length))) (S1 ++ [ds])))
    (R1 : Rel K as S1 H1) (E1 : Ext as H as H1) (hp : H1 p = none) (hd : DpAll K (hide as H1) vs ds) : D.nx (σ.set i (some (.ref p))) (upd H1 p (.lst vs)) := by
  obtain ⟨R2, E2⟩ := R1.grow hp hd
  refine k (as ++ [p]) _ _ (E1.trans E2) R2 (((E.ext E1).ext E2).set i ⟨p, ?_, rfl⟩)
  rw [← R1.len]
  simp
theorem ds_own {i : Nat} {x : Str} {e : Expr} {m : ML} {pos' : Pos} (hN : X.N.Nodup) (hi : X.N[i]? = some x) (hx : Loc X.env.scope x) (he : DLs X e m) (hs : swapsWith e (some (.Name x pos')) pos.line X.env = pure false := by rfl)
    (hf : X.fn x = true ∨ X.env.scope.names.lookup x = some .local := by first | exact .inl rfl | exact .inr rfl | assumption) : DS X (.Assign [.Name x pos'] e pos) (sOwn i m) :=
  ps_imp (ps_set hN hi hx he hs hf) fun D σ H ⟨as, ρ, S, o, R, E, e, k⟩ => by
    obtain ⟨⟨ds, S1⟩, e1, e⟩ := Option.bind_eq_some_iff.mp e
    cases e
    exact ⟨as, ρ, S, ds, S1, R, E, e1, fun p H1 vs R1 E1 hp hd => own_post E k R1 E1 hp hd⟩
/-- return e -/
def sRet (m : M) : MS := fun ρ S => (m ρ S).bind fun p => some (.rt p.1 p.2)
def sRetL (m : ML) : MS := fun ρ S => (m ρ S).bind fun p => some (.rl p.1 p.2)
theorem ds_ret {e : Expr} {m : M} (he : DE X e m) : DS X (.Return (some e) pos) (sRet m) := ps_imp (ps_ret he) fun D σ H ⟨as, ρ, S, o, R, E, e, k⟩ => by
  obtain ⟨⟨v, S1⟩, e1, e⟩ := Option.bind_eq_some_iff.mp e
  cases e
  exact ⟨as, ρ, S, v, S1, R, E, e1, fun u H1 R1 E1 V1 => k as u H1 E1 R1 V1⟩
theorem ds_retL {e : Expr} {m : ML} (he : DLs X e m) : DS X (.Return (some e) pos) (sRetL m) := ps_imp (ps_ret he) fun D σ H ⟨as, ρ, S, o, R, E, e, k⟩ => by
  obtain ⟨⟨v, S1⟩, e1, e⟩ := Option.bind_eq_some_iff.mp e
  cases e
  exact ⟨as, ρ, S, v, S1, R, E, e1, fun p H1 vs R1 E1 hp hd => k as p H1 vs E1 R1 hp hd⟩
/-- if -/
def sIf (c : MB) (a b : MS) : MS := fun ρ S => (c ρ S).bind fun p => if p.1 = true then a ρ p.2 else b ρ p.2
theorem ds_if {c : Expr} {a b : List Stmt} {mc : MB} {ga gb : MS} (hc : DB X c mc) (ha : DSs X a ga) (hb : DSs X b gb) : DS X (.If c a b pos) (sIf mc ga gb) := ps_imp (ps_if hc ha hb) fun D σ H ⟨as, ρ, S, o, R, E, e, k⟩ => by
  obtain ⟨⟨v, S1⟩, e1, e⟩ := Option.bind_eq_some_iff.mp e
  refine ⟨as, ρ, S, v, S1, R, E, e1, fun H1 R1 E1 => ?_⟩
  dsimp only at e ⊢
  split
  · rename_i hx
    rw [if_pos hx] at e
    exact ⟨as, ρ, S1, o, R1, E.ext E1, e, k.ext E1⟩
  · rename_i hx
    rw [if_neg hx] at e
    exact ⟨as, ρ, S1, o, R1, E.ext E1, e, k.ext E1⟩
/-- an expression alone -/
def sDrop (m : M) : MS := fun ρ S => (m ρ S).bind fun p => some (.nx ρ p.2)
theorem ds_expr {e : Expr} {m : M} (he : DE X e m) (hs : swapsWith e none pos.line X.env = pure false := by rfl) : DS X (.Expr e pos) (sDrop m) := ps_imp (ps_expr he hs) fun D σ H ⟨as, ρ, S, o, R, E, e, k⟩ => by
  obtain ⟨⟨v, S1⟩, e1, e⟩ := Option.bind_eq_some_iff.mp e
  cases e
  exact ⟨as, ρ, S, v, S1, R, E, e1, fun u H1 R1 E1 V1 => k as σ H1 E1 R1 (E.ext E1)⟩
/-- a, b = e1, e2 -/
def sPar (i j : Nat) (ma : MA) : MS := fun ρ S => (ma ρ S).bind fun p => match p.1 with
  | [v, w] => some (.nx ((ρ.set i (some v)).set j (some w)) p.2)
  | _ => none
theorem ds_par {i j : Nat} {x y : Str} {a b : Expr} {ma : MA} {px py pt : Pos} {kt k2 pt2} (hc : X.calm = true) (hN : X.N.Nodup) (hi : X.N[i]? = some x) (hj : X.N[j]? = some y) (hij : i ≠ j)
    (hx : X.env.scope.names.lookup x = some .local) (hy : X.env.scope.names.lookup y = some .local) (ha : DA X [a, b] ma) (hw : swappedStores [.Tuple [.Name x px, .Name y py] kt pt] (.Tuple [a, b] k2 pt2) X.env = pure (some [x, y]))
    (hs : swapsWithSole [.Tuple [.Name x px, .Name y py] kt pt] (.Tuple [a, b] k2 pt2) pos.line X.env = pure false := by rfl) : DS X (.Assign [.Tuple [.Name x px, .Name y py] kt pt] (.Tuple [a, b] k2 pt2) pos) (sPar i j ma) :=
  ps_imp (ps_par hc hN hi hj hij hx hy ha hw hs) fun D σ H ⟨as, ρ, S, o, R, E, e, k⟩ => by
    obtain ⟨⟨vs, S1⟩, e1, e⟩ := Option.bind_eq_some_iff.mp e
    dsimp only at e
    split at e
    · cases e
      refine ⟨as, ρ, S, _, S1, R, E, e1, fun us H1 R1 E1 V1 => ?_⟩
      obtain ⟨u, w, rfl, a, b⟩ := paired2 V1
      exact ⟨u, w, rfl, k as _ H1 E1 R1 (((E.ext E1).set i a).set j b)⟩
    · cases e
/-- x op= e of ints -/
def sAug (i : Nat) (f : PV → PV → Sto → Option PV) (m : M) : MS := fun ρ S => (mVar i ρ S).bind fun p => (m ρ S).bind fun q => (f p.1 q.1 q.2).bind fun z => some (.nx (ρ.set i (some z)) q.2)
theorem ds_aug {i : Nat} {x : Str} {e : Expr} {m : M} {op : Operator} {r : R2} {f} {pos' : Pos} (hN : X.N.Nodup) (hi : X.N[i]? = some x) (hx : Loc X.env.scope x) (he : DE X e m) (ho : OpR X (inplaceOp op) r) (hd : OpD X.K r f)
    (hf : X.fn x = true ∨ X.env.scope.names.lookup x = some .local := by first | exact .inl rfl | exact .inr rfl | assumption) : DS X (.AugAssign (.Name x pos') op e pos) (sAug i f m) :=
  ps_imp (ps_aug (ti := r) hN hi hx he ho hf) fun D σ H ⟨as, ρ, S, o, R, E, e, k⟩ => by
    obtain ⟨⟨v, S0⟩, e0, e⟩ := Option.bind_eq_some_iff.mp e
    obtain ⟨⟨w, S1⟩, e1, e⟩ := Option.bind_eq_some_iff.mp e
    obtain ⟨z, e2, e⟩ := Option.bind_eq_some_iff.mp e
    cases e
    obtain ⟨e0, _⟩ := mVar_some e0
    obtain ⟨u, a, b⟩ := E.at_ i v e0
    refine ⟨u, a, as, ρ, S, w, S1, R, E, e1, fun u2 H1 R1 E1 V1 => ?_⟩
    exact hd as S1 H1 u u2 v w z _ R1 (b.ext E1) V1 e2 fun v3 H3 R3 E3 V3 => k as _ H3 (E1.trans E3) R3 ((E.ext (E1.trans E3)).set i V3)
/-- xs[i] = e, xs a list of ours -/
def sPut (mo mi mv : M) : MS := fun ρ S => (mv ρ S).bind fun v => (mo ρ v.2).bind fun o => (mi ρ o.2).bind fun i => match v.1, o.1, i.1 with
  | .d y, .c j, .d (.int z) => (i.2[j]?).bind fun ds => (ixN ds.length z).bind fun n => some (.nx ρ (i.2.set j (ds.set n y)))
  | _, _, _ => none
theorem ds_put {o i e : Expr} {mo mi mv : M} {p2 : Pos} (hv : DE X e mv) (ho : DE X o mo) (hi : DE X i mi) (hs : swapsWithSole [.Subscript o i p2] e pos.line X.env = pure false := by rfl) (hw : swappedStores [.Subscript o i p2] e X.env = pure none := by rfl)
    (h1 : (assignEach [.Subscript o i p2] X.env).map (·.2) = [assign (.Subscript o i p2) X.env] := by rfl)
    (ha : ∀ v, assign (.Subscript o i p2) X.env v = (do
      let ov ← holding [v] (eval o X.env)
      let iv ← holding [v, ov] (eval i X.env)
      standAt p2
      holding [v, ov, iv] (setItem ov iv v)
      release [v, ov, iv] []) := by intro _; rfl) : DS X (.Assign [.Subscript o i p2] e pos) (sPut mo mi mv) :=
  ps_imp (ps_asg hv (pg_sub ho hi set_list ha) hs hw h1) fun D σ H ⟨as, ρ, S, out, R, E, e, k⟩ => by
    obtain ⟨⟨v, S1⟩, e1, e⟩ := Option.bind_eq_some_iff.mp e
    obtain ⟨⟨o, S2⟩, e2, e⟩ := Option.bind_eq_some_iff.mp e
    obtain ⟨⟨i, S3⟩, e3, e⟩ := Option.bind_eq_some_iff.mp e
    refine ⟨as, ρ, S, v, S1, R, E, e1, fun u H1 R1 E1 V1 => ⟨as, ρ, S1, o, S2, R1, E.ext E1, e2, fun w H2 R2 E2 V2 => ⟨as, ρ, S2, i, S3, R2, E.ext (E1.trans E2), e3, fun z H3 R3 E3 V3 => ?_⟩⟩⟩
    dsimp only at e
    split at e
    · obtain ⟨ds, e4, e⟩ := Option.bind_eq_some_iff.mp e
      obtain ⟨n, e5, e⟩ := Option.bind_eq_some_iff.mp e
      cases e
      cases V3
      obtain ⟨a, q, rfl⟩ := V2.ext E3
      obtain ⟨vs, h1, h2⟩ := R3.at_ _ a ds q e4
      obtain ⟨R4, E4⟩ := R3.put q (dpAll_set (V1.ext (E2.trans E3)) n h2)
      refine ⟨a, vs, _, n, rfl, rfl, h1, by rw [dpAll_len h2]; exact e5, ?_⟩
      exact k as σ _ ((E1.trans (E2.trans E3)).trans E4) R4 (E.ext ((E1.trans (E2.trans E3)).trans E4))
    · cases e
/-- xs.append(e), xs a list of ours -/
def mAppend (mo mv : M) : M := fun ρ S => (mo ρ S).bind fun o => (mv ρ o.2).bind fun v => match o.1, v.1 with
  | .c j, .d y => (v.2[j]?).bind fun ds => if ds.length < 1000000 then some (.d .none, v.2.set j (ds ++ [y])) else none
  | _, _ => none
theorem cell_ty {K : Fg} {as : List Addr} {S : Sto} {H : Hp} {u : V} {j : Nat} {ds : List PyData} (R : Rel K as S H) (h : VR K as H u (.c j)) (e : S[j]? = some ds) : tyV K "list" u H := by
  obtain ⟨a, q, rfl⟩ := h
  obtain ⟨vs, h1, h2⟩ := R.at_ j a ds q e
  exact .inl ⟨rfl, _, SqL.of h1⟩
theorem de_append {o e : Expr} {mo mv : M} {apos cpos : Pos} (ho : DE X o mo) (he : DE X e mv) (hbase : attributeBase o "append" X.env (eval o X.env) = eval o X.env := by rfl)
    (hfew : ((backTo cpos (starEach [e] X.env)).all (fun x => !x.1) && (backToKw cpos (keywordEach [] X.env)).all (fun x => x.1.isSome) && decide ([e].length + ([] : List Keyword).length + (if ([] : List Keyword).isEmpty then 0 else 1) < 30)) = true := by rfl)
    (hline : (apos.endLine == cpos.line) = true := by rfl) (hs : starEach [e] X.env = (false, eval e X.env) :: starEach [] X.env := by rfl) (hplain : (backTo cpos (starEach [] X.env)).any (·.1) = false := by rfl) :
    DE X (.Call (.Attribute o "append" apos) [e] [] cpos) (mAppend mo mv) :=
  pe_imp (pe_bm PySem.F.plainAttrs_list PySem.F.slot_list_append PySem.F.type_list_append mt_append ho (pa_cons he pa_nil hs) hbase hfew hline hs hplain) fun σ H Q ⟨as, ρ, S, r, S', R, E, e, k⟩ => by
    obtain ⟨⟨o, S1⟩, e1, e⟩ := Option.bind_eq_some_iff.mp e
    obtain ⟨⟨v, S2⟩, e2, e⟩ := Option.bind_eq_some_iff.mp e
    refine ⟨as, ρ, S, o, S1, R, E, e1, fun u H1 R1 E1 V1 => ?_⟩
    dsimp only at e
    split at e
    · rename_i j y _
      obtain ⟨ds, e3, e⟩ := Option.bind_eq_some_iff.mp e
      obtain ⟨a, q, rfl⟩ := id V1
      have hj : j < S1.length := by rw [← R1.len]; exact (List.getElem?_eq_some_iff.mp q).1
      refine ⟨cell_ty R1 V1 (List.getElem?_eq_getElem hj), as, ρ, S1, .d y, S2, R1, E.ext E1, e2, fun w H2 R2 E2 V2 => ?_⟩
      split at e
      · rename_i hz
        cases e
        obtain ⟨vs, h1, h2⟩ := R2.at_ j a ds q e3
        obtain ⟨R3, E3⟩ := R2.put q (dpAll_append h2 (.cons V2 .nil))
        refine ⟨a, vs, w, rfl, rfl, h1, by rw [dpAll_len h2, sizeLine_eq]; omega, ?_⟩
        exact k _ _ R3 (E1.trans (E2.trans E3)) .non
      · cases e
    · cases e
/-- xs.reverse(), xs a list of ours -/
def mReverse (mo : M) : M := fun ρ S => (mo ρ S).bind fun o => match o.1 with
  | .c j => (o.2[j]?).bind fun ds => some (.d .none, o.2.set j ds.reverse)
  | _ => none
theorem de_reverse {o : Expr} {mo : M} {apos cpos : Pos} (ho : DE X o mo) (hbase : attributeBase o "reverse" X.env (eval o X.env) = eval o X.env := by rfl) (hline : (apos.endLine == cpos.line) = true := by rfl) :
    DE X (.Call (.Attribute o "reverse" apos) [] [] cpos) (mReverse mo) :=
  pe_imp (pe_bm0 PySem.F.plainAttrs_list PySem.F.slot_list_reverse PySem.F.type_list_reverse mt_reverse ho hbase hline) fun σ H Q ⟨as, ρ, S, r, S', R, E, e, k⟩ => by
    obtain ⟨⟨o, S1⟩, e1, e⟩ := Option.bind_eq_some_iff.mp e
    refine ⟨as, ρ, S, o, S1, R, E, e1, fun u H1 R1 E1 V1 => ?_⟩
    dsimp only at e
    split at e
    · rename_i j
      obtain ⟨ds, e3, e⟩ := Option.bind_eq_some_iff.mp e
      cases e
      refine ⟨cell_ty R1 V1 e3, ?_⟩
      obtain ⟨a, q, rfl⟩ := V1
      obtain ⟨vs, h1, h2⟩ := R1.at_ j a ds q e3
      obtain ⟨R3, E3⟩ := R1.put q (dpAll_reverse h2)
      exact ⟨a, vs, rfl, rfl, h1, k _ _ R3 (E1.trans E3) .non⟩
    · cases e
end
end DL

namespace DL
open PySem PySem.Spec PyProof.Rows L2

/-! ### targets -/
def Agr (is : List Nat) (σ σ' : L2.St) : Prop := σ'.length = σ.length ∧ ∀ j, j ∉ is → σ'[j]? = σ[j]?
theorem wipe_in {σ : L2.St} {i : Nat} : ∀ {vs : List Nat}, i ∈ vs → i < σ.length → (wipe σ vs)[i]? = some none
  | [], h, _ => by cases h
  | v :: vs, h, hl => by
    show ((wipe σ vs).set v none)[i]? = _
    by_cases e : v = i
    · subst e
      exact List.getElem?_set_self (by rw [wipe_length]; exact hl)
    · rw [List.getElem?_set_ne e]
      rcases List.mem_cons.mp h with z | z
      · exact absurd z.symm e
      · exact wipe_in z hl
theorem agr_wipe {is vs : List Nat} {σ σ' : L2.St} (a : Agr is σ σ') (h : ∀ i ∈ is, i ∈ vs) : wipe σ' vs = wipe σ vs := by
  refine List.ext_getElem? fun i => ?_
  by_cases hi : i ∈ vs
  · by_cases hl : i < σ.length
    · rw [wipe_in hi hl, wipe_in hi (by rw [a.1]; exact hl)]
    · rw [List.getElem?_eq_none (by rw [wipe_length, a.1]; omega), List.getElem?_eq_none (by rw [wipe_length]; omega)]
  · rw [wipe_out hi, wipe_out hi]
    exact a.2 i fun z => hi (h i z)
theorem agr_wiped (vs : List Nat) (σ : L2.St) : Agr vs σ (wipe σ vs) := ⟨wipe_length _ _, fun j hj => wipe_out hj⟩
theorem Agr.trans {is js : List Nat} {σ1 σ2 σ3 : L2.St} (a : Agr is σ1 σ2) (b : Agr js σ2 σ3) : Agr (is ++ js) σ1 σ3 :=
  ⟨b.1.trans a.1, fun j hj => (b.2 j fun z => hj (List.mem_append_right _ z)).trans (a.2 j fun z => hj (List.mem_append_left _ z))⟩
theorem agr_set (i : Nat) (σ : L2.St) (x : Option V) : Agr [i] σ (σ.set i x) := ⟨List.length_set, fun j hj => List.getElem?_set_ne fun z => hj (by simp [z])⟩
theorem wipe_ww {vs : List Nat} {σ σ' : L2.St} {is : List Nat} (a : Agr is (wipe σ vs) σ') (h : ∀ i ∈ is, i ∈ vs) : wipe σ' vs = wipe σ vs := by
  rw [agr_wipe a h]
  exact agr_wipe (agr_wiped vs σ) fun _ z => z
def wipeR (ρ : RE) : List Nat → RE
  | [] => ρ
  | v :: vs => (wipeR ρ vs).set v none
theorem ER.none {K : Fg} {as : List Addr} {H : Hp} {σ : L2.St} {ρ : RE} (E : ER K as H σ ρ) (i : Nat) : ER K as H (σ.set i none) (ρ.set i none) := by
  refine ⟨by rw [List.length_set, List.length_set]; exact E.len, fun j q e => ?_⟩
  by_cases hj : j = i
  · subst hj
    have hl : j < ρ.length := by
      have := (List.getElem?_eq_some_iff.mp e).1
      rwa [List.length_set] at this
    rw [List.getElem?_set_self hl] at e
    cases e
  · rw [List.getElem?_set_ne (Ne.symm hj)] at e
    obtain ⟨u, a, b⟩ := E.at_ j q e
    exact ⟨u, by rw [List.getElem?_set_ne (Ne.symm hj)]; exact a, b⟩
theorem ER.wiped {K : Fg} {as : List Addr} {H : Hp} {σ : L2.St} {ρ : RE} (E : ER K as H σ ρ) : ∀ vs : List Nat, ER K as H (wipe σ vs) (wipeR ρ vs)
  | [] => E
  | v :: vs => (ER.wiped E vs).none v
abbrev TgD := PyData → RE → Option RE
abbrev TgDs := List PyData → RE → Option RE
def tG (K : Fg) (is : List Nat) (f : TgD) : TG := fun v σ H Q => ∃ as ρ d ρ', ER K as H σ ρ ∧ Dp K (hide as H) v d ∧ f d ρ = some ρ' ∧ ∀ σ', ER K as H σ' ρ' → Agr is σ σ' → Q σ' H
def tGs (K : Fg) (is : List Nat) (f : TgDs) : TGs := fun vs σ H Q => ∃ as ρ ds ρ', ER K as H σ ρ ∧ DpAll K (hide as H) vs ds ∧ f ds ρ = some ρ' ∧ ∀ σ', ER K as H σ' ρ' → Agr is σ σ' → Q σ' H
abbrev DG (X : Cx) (tg : Expr) (is : List Nat) (f : TgD) : Prop := PG X tg (tG X.K is f)
abbrev DGs (X : Cx) (tgs : List Expr) (is : List Nat) (f : TgDs) : Prop := PGs X tgs (tGs X.K is f)
theorem pg_imp {X : Cx} {tg : Expr} {t t' : TG} (h : PG X tg t) (w : ∀ v σ H Q, t' v σ H Q → t v σ H Q) : PG X tg t' := ⟨fun pins s σ H v u Q I r q => h.run pins s σ H v u Q I r (w _ _ _ _ q)⟩
theorem pgs_imp {X : Cx} {tg : List Expr} {t t' : TGs} (h : PGs X tg t) (w : ∀ v σ H Q, t' v σ H Q → t v σ H Q) : PGs X tg t' := ⟨fun pins s σ H v u Q I r q => h.run pins s σ H v u Q I r (w _ _ _ _ q)⟩
def gN (i : Nat) : TgD := fun d ρ => some (ρ.set i (some (.d d)))
def gNs : TgDs := fun ds ρ => match ds with
  | [] => some ρ
  | _ => none
def gCs (f : TgD) (g : TgDs) : TgDs := fun ds ρ => match ds with
  | d :: r => (f d ρ).bind fun ρ' => g r ρ'
  | [] => none
def gT (n : Nat) (g : TgDs) : TgD := fun d ρ => match d with
  | .tuple ds => if ds.length = n then g ds ρ else none
  | _ => none
section
variable {X : Cx} {pos : Pos}
theorem dg_name {i : Nat} {x : Str} (hN : X.N.Nodup) (hi : X.N[i]? = some x) (hx : Loc X.env.scope x) (hf : X.fn x = true ∨ X.env.scope.names.lookup x = some .local := by first | exact .inl rfl | exact .inr rfl | assumption) : DG X (.Name x pos) [i] (gN i) :=
  pg_imp (pg_name hN hi hx hf) fun v σ H Q ⟨as, ρ, d, ρ', E, hd, e, k⟩ => by
    cases e
    exact k _ (E.set i hd) (agr_set i σ _)
theorem dgs_nil : DGs X [] [] gNs := pgs_imp pgs_nil fun v σ H Q ⟨as, ρ, d, ρ', E, hd, e, k⟩ => by
  unfold gNs at e
  split at e
  · cases e
    cases hd
    exact ⟨rfl, k σ E ⟨rfl, fun _ _ => rfl⟩⟩
  · cases e
theorem dgs_cons {e : Expr} {es : List Expr} {is js : List Nat} {f : TgD} {g : TgDs} (h1 : DG X e is f) (h2 : DGs X es js g)
    (hs : (assignEach (e :: es) X.env).map (·.2) = assign e X.env :: (assignEach es X.env).map (·.2) := by rfl) : DGs X (e :: es) (is ++ js) (gCs f g) :=
  pgs_imp (pgs_cons h1 h2 hs) fun v σ H Q ⟨as, ρ, ds, ρ', E, hd, e, k⟩ => by
    unfold gCs at e
    split at e
    · obtain ⟨ρ1, e1, e⟩ := Option.bind_eq_some_iff.mp e
      cases hd with
      | cons a b => exact ⟨_, _, rfl, as, ρ, _, ρ1, E, a, e1, fun σ1 E1 A1 => ⟨as, ρ1, _, ρ', E1, b, e, fun σ2 E2 A2 => k σ2 E2 (A1.trans A2)⟩⟩
    · cases e
theorem dg_tup {es : List Expr} {q n : Nat} {is : List Nat} {g : TgDs} (hc : X.calm = true) (h : DGs X es is g) (hn : (assignEach es X.env).length = n := by rfl) (hst : (assignEach es X.env).findIdx? (·.1) = none := by rfl) : DG X (.Tuple es q pos) is (gT n g) :=
  pg_imp (pg_tup hc h hn hst) fun v σ H Q ⟨as, ρ, d, ρ', E, hd, e, k⟩ => by
    unfold gT at e
    split at e
    · split at e
      · rename_i hl
        cases hd with
        | tup s a => exact ⟨_, _, rfl, sqT_mono hide_same s, by rw [dpAll_len a]; exact hl, as, ρ, _, ρ', E, a, e, k⟩
      · cases e
    · cases e
/-- a, b = e (a tuple) -/
def sAsg (g : TgD) (m : M) : MS := fun ρ S => (m ρ S).bind fun p => match p.1 with
  | .d d => (g d ρ).bind fun ρ' => some (.nx ρ' p.2)
  | .c _ => none
theorem ds_asg {tg e : Expr} {m : M} {is : List Nat} {g : TgD} (he : DE X e m) (hg : DG X tg is g) (hs : swapsWithSole [tg] e pos.line X.env = pure false := by rfl) (hw : swappedStores [tg] e X.env = pure none := by rfl)
    (h1 : (assignEach [tg] X.env).map (·.2) = [assign tg X.env] := by rfl) : DS X (.Assign [tg] e pos) (sAsg g m) :=
  ps_imp (ps_asg he hg hs hw h1) fun D σ H ⟨as, ρ, S, o, R, E, e, k⟩ => by
    obtain ⟨⟨v, S1⟩, e1, e⟩ := Option.bind_eq_some_iff.mp e
    refine ⟨as, ρ, S, v, S1, R, E, e1, fun u H1 R1 E1 V1 => ?_⟩
    dsimp only at e
    split at e
    · obtain ⟨ρ', e2, e⟩ := Option.bind_eq_some_iff.mp e
      cases e
      exact ⟨as, ρ, _, ρ', E.ext E1, V1, e2, fun σ' E' _ => k as σ' H1 E1 R1 E'⟩
    · cases e
end

/-! ### what is walked -/
def Grw (H H' : Hp) : Prop := H' = H ∨ ∃ T o, H T = none ∧ H' = upd H T o
structure Iters (K : Fg) (as : List Addr) (H1 : Hp) (J : It) (xs : List PyData) : Prop where
  go : ∀ as' H2, Ext as H1 as' H2 → ∀ (i : Nat) (d : PyData), xs[i]? = some d → J.go i H2
  yld : ∀ as' S H2, Ext as H1 as' H2 → Rel K as' S H2 → ∀ (i : Nat) (d : PyData), xs[i]? = some d → ∀ x H3, J.yld i H2 x H3 → Grw H2 H3 ∧ Dp K (hide as' H3) x d
  stop : ∀ as' H2, Ext as H1 as' H2 → J.stop xs.length H2
theorem Rel.grw {K : Fg} {as : List Addr} {S : Sto} {H H' : Hp} (R : Rel K as S H) (g : Grw H H') : Rel K as S H' ∧ Ext as H as H' := by
  rcases g with rfl | ⟨T, o, h, rfl⟩
  · exact ⟨R, .refl⟩
  · exact R.laid h
def tI (K : Fg) (mi : ML) : TI := fun σ H R => ∃ as ρ S xs S1, Rel K as S H ∧ ER K as H σ ρ ∧ mi ρ S = some (xs, S1) ∧ ∀ J H1, Rel K as S1 H1 → Ext as H as H1 → Iters K as H1 J xs → R J H1
abbrev DI (X : Cx) (tg iter : Expr) (mi : ML) : Prop := PI X tg iter (tI X.K mi)
theorem pi_imp {X : Cx} {tg iter : Expr} {t t' : TI} (h : PI X tg iter t) (w : ∀ σ H R, t' σ H R → t σ H R) : PI X tg iter t' := ⟨fun pins s σ H R I q => h.run pins s σ H R I (w _ _ _ q)⟩
theorem iters_list {K : Fg} {as : List Addr} {H1 : Hp} {a : Addr} {vs : List V} {xs : List PyData} (hs : SqL K (hide as H1) a vs) (hd : DpAll K (hide as H1) vs xs) : Iters K as H1 (Itl K a) xs := by
  have st : ∀ {as' H2}, Ext as H1 as' H2 → SqL K H2 a vs := fun {as' H2} E => hide_same.seq (E.same.seq hs)
  refine ⟨fun as' H2 E i d e => ?_, fun as' S H2 E R i d e x H3 y => ?_, fun as' H2 E => ?_⟩
  · obtain ⟨v, e1, _⟩ := dpAll_get hd e
    exact ⟨vs, v, st E, e1⟩
  · obtain ⟨v, e1, h1⟩ := dpAll_get hd e
    obtain ⟨rfl, y⟩ := y
    have : x = v := Option.some.inj ((y vs (st E)).symm.trans e1)
    subst this
    exact ⟨.inl rfl, dp_mono E.same _ _ h1⟩
  · exact ⟨vs, st E, by rw [dpAll_len hd]; exact Nat.le_refl _⟩
theorem iters_tup {K : Fg} {as : List Addr} {H1 : Hp} {a : Addr} {vs : List V} {xs : List PyData} (hs : SqT K (hide as H1) a vs) (hd : DpAll K (hide as H1) vs xs) : Iters K as H1 (Itt K a) xs := by
  have st : ∀ {as' H2}, Ext as H1 as' H2 → SqT K H2 a vs := fun {as' H2} E => sqT_mono hide_same (sqT_mono E.same hs)
  refine ⟨fun as' H2 E i d e => ?_, fun as' S H2 E R i d e x H3 y => ?_, fun as' H2 E => ?_⟩
  · obtain ⟨v, e1, _⟩ := dpAll_get hd e
    exact ⟨vs, v, st E, e1⟩
  · obtain ⟨v, e1, h1⟩ := dpAll_get hd e
    obtain ⟨rfl, y⟩ := y
    have : x = v := Option.some.inj ((y vs (st E)).symm.trans e1)
    subst this
    exact ⟨.inl rfl, dp_mono E.same _ _ h1⟩
  · exact ⟨vs, st E, by rw [dpAll_len hd]; exact Nat.le_refl _⟩
def rangeD (lo : Int) (n : Nat) : List PyData := (List.range n).map fun i => .int (lo + (i : Nat))
theorem rangeD_get {lo : Int} {n i : Nat} {d : PyData} (h : (rangeD lo n)[i]? = some d) : i < n ∧ d = .int (lo + (i : Nat)) := by
  unfold rangeD at h
  rw [List.getElem?_map] at h
  obtain ⟨j, e, q⟩ := Option.map_eq_some_iff.mp h
  have hi := (List.getElem?_eq_some_iff.mp e)
  obtain ⟨hl, e2⟩ := hi
  rw [List.length_range] at hl
  rw [List.getElem_range] at e2
  subst e2
  exact ⟨hl, q.symm⟩
theorem iters_rng {K : Fg} {as : List Addr} {H1 : Hp} {lo : Int} {n : Nat} : Iters K as H1 (Itr lo n) (rangeD lo n) := by
  refine ⟨fun as' H2 E i d e => (rangeD_get e).1, fun as' S H2 E R i d e x H3 y => ?_, fun as' H2 E => ?_⟩
  · obtain ⟨rfl, rfl⟩ := y
    obtain ⟨_, rfl⟩ := rangeD_get e
    exact ⟨.inl rfl, .int _⟩
  · show n ≤ (rangeD lo n).length
    unfold rangeD
    rw [List.length_map, List.length_range]
    exact Nat.le_refl _
def mSeq (m : M) : ML := fun ρ S => (m ρ S).bind fun p => match p.1 with
  | .d (.list xs) => some (xs, p.2)
  | .d (.tuple xs) => some (xs, p.2)
  | _ => none
def mRng1 (m : M) : ML := fun ρ S => (m ρ S).bind fun p => match p.1 with
  | .d (.int j) => if -1000000 ≤ j ∧ j ≤ 1000000 then some (rangeD 0 j.toNat, p.2) else none
  | _ => none
def mRng2 (m n : M) : ML := fun ρ S => (m ρ S).bind fun p => (n ρ p.2).bind fun q => match p.1, q.1 with
  | .d (.int i), .d (.int j) => if -1000000 ≤ i ∧ i ≤ 1000000 ∧ -1000000 ≤ j ∧ j ≤ 1000000 then some (rangeD i (j - i).toNat, q.2) else none
  | _, _ => none
section
variable {X : Cx} {tg : Expr} {pos p : Pos}
/-- a list or a tuple that stands still -/
theorem pi_seq {l : Expr} {tl : TE} (hl : PE X l tl) : PI X tg l (fun σ H R => tl σ H fun x H1 => (∃ a, x = .ref a ∧ (∃ xs, SqL X.K H1 a xs) ∧ R (Itl X.K a) H1) ∨ ∃ a, x = .ref a ∧ (∃ xs, SqT X.K H1 a xs) ∧ R (Itt X.K a) H1) := by
  refine ⟨fun pins s σ H R I h => thn (hl.run pins s σ H _ I h) fun v s1 z => ?_⟩
  obtain ⟨x, H1, I1, r1, z | z⟩ := z
  · have pe : wpAny (model X.prog X.w) X.A (pure v : Sem Value) (EP X pins σ fun y H2 => y = x ∧ H2 = H1) X.xe s1 := wpAny_pure ⟨x, H1, I1, r1, rfl, rfl⟩
    obtain ⟨a, rfl, ⟨xs, hq⟩, q⟩ := z
    cases r1
    obtain ⟨its, rv, pl, hz⟩ := I1.list hq
    exact wpAny_pyIter_list pl.isList ⟨s1.heap.objs.size, [s1.heap.objs.size], _, _, H1, rfl, I1.kept (t' := s1.toks) fun b o e => Heap.get?_push_of_some _ e, turn_list a _, ⟨_, Heap.get?_push_size _ rfl, rfl, rfl⟩, fun b hb => by
      rw [List.mem_singleton.mp hb]; exact I1.fpOk (Nat.le_refl _) (I1.hok.fresh (Nat.le_refl _)), q⟩
  · obtain ⟨a, rfl, ⟨xs, hq⟩, q⟩ := z
    cases r1
    obtain ⟨its, rv, pl, hz⟩ := I1.tuple hq
    exact wpAny_pyIter_tuple (show s1.heap.IsTuple a its.toArray from pl) ⟨s1.heap.objs.size, [s1.heap.objs.size], _, _, H1, rfl, I1.kept (t' := s1.toks) fun b o e => Heap.get?_push_of_some _ e, turn_tuple a _, ⟨_, Heap.get?_push_size _ rfl, rfl, rfl⟩, fun b hb => by
      rw [List.mem_singleton.mp hb]; exact I1.fpOk (Nat.le_refl _) (I1.hok.fresh (Nat.le_refl _)), q⟩
theorem di_seq {l : Expr} {m : M} (hl : DE X l m) : DI X tg l (mSeq m) := pi_imp (pi_seq hl) fun σ H Rr ⟨as, ρ, S, xs, S1, R, E, e, k⟩ => by
  obtain ⟨⟨v, S2⟩, e1, e⟩ := Option.bind_eq_some_iff.mp e
  refine ⟨as, ρ, S, v, S2, R, E, e1, fun u H1 R1 E1 V1 => ?_⟩
  dsimp only at e
  split at e
  · cases e
    cases V1 with
    | lst s a => exact .inl ⟨_, rfl, ⟨_, hide_same.seq s⟩, k _ H1 R1 E1 (iters_list s a)⟩
  · cases e
    cases V1 with
    | tup s a => exact .inr ⟨_, rfl, ⟨_, sqT_mono hide_same s⟩, k _ H1 R1 E1 (iters_tup s a)⟩
  · cases e
theorem di_rng1 {a : Expr} {m : M} (hg : Gl X "range") (hm : X.mg "range" = none) (ha : DE X a m) (hs : starEach [a] X.env = (false, eval a X.env) :: starEach [] X.env := by rfl) : DI X tg (.Call (.Name "range" p) [a] [] pos) (mRng1 m) :=
  pi_imp (pi_range1 hg hm (pa_cons ha pa_nil hs) hs) fun σ H Rr ⟨as, ρ, S, xs, S1, R, E, e, k⟩ => by
    obtain ⟨⟨v, S2⟩, e1, e⟩ := Option.bind_eq_some_iff.mp e
    refine ⟨as, ρ, S, v, S2, R, E, e1, fun u H1 R1 E1 V1 => ?_⟩
    dsimp only at e
    split at e
    · split at e
      · rename_i hz
        cases e
        cases V1
        have z1 : (1000000 : Int) < 2 ^ 62 := by decide
        have z2 : -(2 ^ 62) ≤ (-1000000 : Int) := by decide
        exact ⟨_, rfl, by omega, by omega, k _ H1 R1 E1 iters_rng⟩
      · cases e
    · cases e
theorem di_rng2 {a b : Expr} {m n : M} (hg : Gl X "range") (hm : X.mg "range" = none) (ha : DE X a m) (hb : DE X b n) (hs : starEach [a, b] X.env = (false, eval a X.env) :: starEach [b] X.env := by rfl) (hs2 : starEach [b] X.env = (false, eval b X.env) :: starEach [] X.env := by rfl) :
    DI X tg (.Call (.Name "range" p) [a, b] [] pos) (mRng2 m n) :=
  pi_imp (pi_range2 hg hm (pa_cons ha (pa_cons hb pa_nil hs2) hs) (by rw [hs, hs2]; rfl) hs2) fun σ H Rr ⟨as, ρ, S, xs, S1, R, E, e, k⟩ => by
    obtain ⟨⟨v, S2⟩, e1, e⟩ := Option.bind_eq_some_iff.mp e
    obtain ⟨⟨w, S3⟩, e2, e⟩ := Option.bind_eq_some_iff.mp e
    refine ⟨as, ρ, S, v, S2, R, E, e1, fun u H1 R1 E1 V1 => ⟨as, ρ, S2, w, S3, R1, E.ext E1, e2, fun u2 H2 R2 E2 V2 => ?_⟩⟩
    dsimp only at e
    split at e
    · split at e
      · rename_i hz
        cases e
        cases V1
        cases V2
        have z1 : (1000000 : Int) < 2 ^ 62 := by decide
        have z2 : -(2 ^ 62) ≤ (-1000000 : Int) := by decide
        exact ⟨_, _, rfl, ⟨by omega, by omega, by omega, by omega⟩, k _ H2 R2 (E1.trans E2) iters_rng⟩
      · cases e
    · cases e
end

/-! ### for, while -/
def forGo (tgt : TgD) (body : MS) : List PyData → RE → Sto → Option Out
  | [], ρ, S => some (.nx ρ S)
  | x :: xs, ρ, S => (tgt x ρ).bind fun ρ1 => (body ρ1 S).bind fun o => match o with
    | .nx ρ' S' => forGo tgt body xs ρ' S'
    | .ct ρ' S' => forGo tgt body xs ρ' S'
    | .bk ρ' S' => some (.nx ρ' S')
    | .rt v S' => some (.rt v S')
    | .rl v S' => some (.rl v S')
def sFor (mi : ML) (tgt : TgD) (body : MS) : MS := fun ρ S => (mi ρ S).bind fun p => forGo tgt body p.1 ρ p.2
theorem drop_cons {α : Type} {xs : List α} {i : Nat} (h : i < xs.length) : xs.drop i = xs[i] :: xs.drop (i + 1) := by simp
theorem ds_for {X : Cx} {tg iter : Expr} {body : List Stmt} {mi : ML} {is : List Nat} {g : TgD} {gb : MS} {pos : Pos} (hp : PassesOwn (model X.prog X.w) X.A X.env X.xe) (hc : X.calm = true) (hi : DI X tg iter mi) (hg : DG X tg is g) (hb : DSs X body gb)
    (hs : ∀ x, foldedSetIterable iter X.env x = pure x := by intro _; rfl) : DS X (.For tg iter body [] pos) (sFor mi g gb) := ps_imp (ps_for hp hc hi hg hb hs) fun D σ H ⟨as, ρ, S, o, R, E, e, k⟩ => by
  obtain ⟨⟨xs, S1⟩, e1, e⟩ := Option.bind_eq_some_iff.mp e
  refine ⟨as, ρ, S, xs, S1, R, E, e1, fun J H1 R1 E1 it => ?_⟩
  dsimp only at e
  refine ⟨fun i m σ' H' => m = xs.length - i ∧ i ≤ xs.length ∧ ∃ as' ρ' S', Ext as H1 as' H' ∧ Rel X.K as' S' H' ∧ ER X.K as' H' σ' ρ' ∧ forGo g gb (xs.drop i) ρ' S' = some o,
    ⟨xs.length, by omega, Nat.zero_le _, as, ρ, S1, .refl, R1, E.ext E1, e⟩, ?_⟩
  rintro i m σ' H' ⟨hm, hi, as', ρ', S', X1, R2, E2, e2⟩
  have K2 : Post X.K as' H' D o := k.ext (E1.trans X1)
  by_cases hlt : i < xs.length
  · refine .inr ⟨it.go as' H' X1 i xs[i] (List.getElem?_eq_getElem hlt), ?_⟩
    refine ⟨fun σ2 H2 => ∃ as2 ρ2 S2, Ext as H1 as2 H2 ∧ Rel X.K as2 S2 H2 ∧ ER X.K as2 H2 σ2 ρ2 ∧ forGo g gb (xs.drop (i + 1)) ρ2 S2 = some o, fun σ2 H2 z => ⟨xs.length - (i + 1), by omega, rfl, hlt, z⟩, fun x H2 y => ?_⟩
    obtain ⟨gr, hx⟩ := it.yld as' S' H' X1 R2 i xs[i] (List.getElem?_eq_getElem hlt) x H2 y
    obtain ⟨R3, X2⟩ := R2.grw gr
    rw [drop_cons hlt] at e2
    obtain ⟨ρ3, e3, e2⟩ := Option.bind_eq_some_iff.mp e2
    obtain ⟨o2, e4, e2⟩ := Option.bind_eq_some_iff.mp e2
    refine ⟨as', ρ', xs[i], ρ3, E2.ext X2, hx, e3, fun σ3 E3 _ => ⟨as', ρ3, S', o2, R3, E3, e4, ?_⟩⟩
    cases o2 with
    | nx ρ4 S4 => exact fun as4 σ4 H4 X4 R4 E4 => ⟨as4, ρ4, S4, (X1.trans X2).trans X4, R4, E4, e2⟩
    | ct ρ4 S4 => exact fun as4 σ4 H4 X4 R4 E4 => ⟨as4, ρ4, S4, (X1.trans X2).trans X4, R4, E4, e2⟩
    | bk ρ4 S4 =>
      cases e2
      exact fun as4 σ4 H4 X4 R4 E4 => K2 as4 σ4 H4 (X2.trans X4) R4 E4
    | rt v S4 =>
      cases e2
      exact fun as4 u H4 X4 R4 V4 => K2 as4 u H4 (X2.trans X4) R4 V4
    | rl v S4 =>
      cases e2
      exact fun as4 u H4 vs X4 R4 => K2 as4 u H4 vs (X2.trans X4) R4
  · have he : i = xs.length := by omega
    subst he
    rw [List.drop_length] at e2
    cases e2
    exact .inl ⟨it.stop as' H' X1, K2 as' σ' H' .refl R2 E2⟩
def whileGo (c : MB) (body : MS) : Nat → RE → Sto → Option Out
  | 0, _, _ => none
  | n + 1, ρ, S => (c ρ S).bind fun p => if p.1 = true then (body ρ p.2).bind fun o => match o with
      | .nx ρ' S' => whileGo c body n ρ' S'
      | .ct ρ' S' => whileGo c body n ρ' S'
      | .bk ρ' S' => some (.nx ρ' S')
      | .rt v S' => some (.rt v S')
      | .rl v S' => some (.rl v S')
    else some (.nx ρ p.2)
def sWhile (fuel : RE → Sto → Nat) (c : MB) (body : MS) : MS := fun ρ S => whileGo c body (fuel ρ S) ρ S
theorem ds_while {X : Cx} {c : Expr} {body : List Stmt} {mc : MB} {gb : MS} {pos : Pos} (fuel : RE → Sto → Nat) (hp : PassesOwn (model X.prog X.w) X.A X.env X.xe) (hc : DB X c mc) (hb : DSs X body gb) : DS X (.While c body [] pos) (sWhile fuel mc gb) :=
  ps_imp (ps_while hp hc hb) fun D σ H ⟨as, ρ, S, o, R, E, e, k⟩ => by
    refine ⟨fun n σ' H' => ∃ as' ρ' S', Ext as H as' H' ∧ Rel X.K as' S' H' ∧ ER X.K as' H' σ' ρ' ∧ whileGo mc gb n ρ' S' = some o, ⟨fuel ρ S, as, ρ, S, .refl, R, E, e⟩, ?_⟩
    rintro n σ' H' ⟨as', ρ', S', X1, R2, E2, e2⟩
    cases n with
    | zero => cases e2
    | succ n =>
      obtain ⟨⟨b, S3⟩, e3, e2⟩ := Option.bind_eq_some_iff.mp e2
      refine ⟨as', ρ', S', b, S3, R2, E2, e3, fun H3 R3 X3 => ?_⟩
      have K2 : Post X.K as' H3 D o := k.ext (X1.trans X3)
      dsimp only at e2 ⊢
      split
      · rename_i hb
        rw [if_pos hb] at e2
        obtain ⟨o2, e4, e2⟩ := Option.bind_eq_some_iff.mp e2
        refine ⟨fun σ4 H4 => ∃ as4 ρ4 S4, Ext as H as4 H4 ∧ Rel X.K as4 S4 H4 ∧ ER X.K as4 H4 σ4 ρ4 ∧ whileGo mc gb n ρ4 S4 = some o, fun σ4 H4 z => ⟨n, Nat.lt_succ_self n, z⟩, as', ρ', S3, o2, R3, E2.ext X3, e4, ?_⟩
        cases o2 with
        | nx ρ4 S4 => exact fun as4 σ4 H4 X4 R4 E4 => ⟨as4, ρ4, S4, (X1.trans X3).trans X4, R4, E4, e2⟩
        | ct ρ4 S4 => exact fun as4 σ4 H4 X4 R4 E4 => ⟨as4, ρ4, S4, (X1.trans X3).trans X4, R4, E4, e2⟩
        | bk ρ4 S4 => cases e2; exact fun as4 σ4 H4 X4 R4 E4 => K2 as4 σ4 H4 X4 R4 E4
        | rt v S4 => cases e2; exact fun as4 u H4 X4 R4 V4 => K2 as4 u H4 X4 R4 V4
        | rl v S4 => cases e2; exact fun as4 u H4 vs X4 R4 => K2 as4 u H4 vs X4 R4
      · rename_i hb
        rw [if_neg hb] at e2
        cases e2
        exact K2 as' σ' H3 .refl R3 (E2.ext X3)
end DL

namespace DL
open PySem PySem.Spec PyProof.Rows L2

/-! ### a cell of ours is let go -/
theorem hide_app (as bs : List Addr) (H : Hp) : hide (as ++ bs) H = hide as (hide bs H) := by
  funext a
  unfold hide
  by_cases h1 : a ∈ as
  · rw [if_pos (List.mem_append_left _ h1), if_pos h1]
  · rw [if_neg h1]
    by_cases h2 : a ∈ bs
    · rw [if_pos (List.mem_append_right _ h2), if_pos h2]
    · rw [if_neg h2, if_neg (fun z => (List.mem_append.mp z).elim h1 h2)]
theorem unown {K : Fg} {as : List Addr} {D : Addr} {S : Sto} {H0 H : Hp} (R : Rel K (as ++ [D]) S H) (E : Ext as H0 (as ++ [D]) H) :
    ∃ vs ds, S[as.length]? = some ds ∧ H D = some (.lst vs) ∧ Rel K as (S.take as.length) (hide [D] H) ∧ Ext as H0 as (hide [D] H) ∧ (hide [D] H) D = none ∧ DpAll K (hide as (hide [D] H)) vs ds ∧ upd (hide [D] H) D (.lst vs) = H := by
  have hl := R.len
  rw [List.length_append, List.length_singleton] at hl
  have hs : as.length < S.length := by omega
  obtain ⟨vs, h1, h2⟩ := R.at_ as.length D S[as.length] (by simp) (List.getElem?_eq_getElem hs)
  rw [hide_app] at h2
  have nD : D ∉ as := fun z => by
    have nd := List.nodup_append.mp R.nd
    exact nd.2.2 D z D (by simp) rfl
  have hn : (hide [D] H) D = none := by unfold hide; rw [if_pos (by simp)]
  have ne : ∀ a, a ≠ D → (hide [D] H) a = H a := fun a z => by unfold hide; rw [if_neg (by simpa using z)]
  refine ⟨vs, S[as.length], List.getElem?_eq_getElem hs, h1, ⟨(List.nodup_append.mp R.nd).1, by rw [List.length_take]; omega, fun i a ds x y => ?_⟩, ⟨⟨[], by simp⟩, fun b z nz => absurd z nz, fun a o na z => ?_⟩, hn, h2, ?_⟩
  · have hi : i < as.length := (List.getElem?_eq_some_iff.mp x).1
    rw [List.getElem?_take_of_lt hi] at y
    obtain ⟨ws, q, r⟩ := R.at_ i a ds (by rw [List.getElem?_append_left hi]; exact x) y
    rw [hide_app] at r
    refine ⟨ws, ?_, r⟩
    rw [ne a (fun z => nD (by rw [← z]; exact List.mem_of_getElem? x))]
    exact q
  · have z2 := E.keep a o na z
    rw [ne a (fun w => ?_)]
    · exact z2
    · have := E.new D (by simp) nD
      rw [← w, z] at this
      cases this
  · funext b
    by_cases hb : b = D
    · subst hb
      rw [upd_same, h1]
    · rw [upd_ne hb, ne b hb]

/-! ### list comprehensions -/
def pushAt (n : Nat) (y : PyData) (S : Sto) : Option Sto := (S[n]?).bind fun l => if l.length < 1000000 then some (S.set n (l ++ [y])) else none
def lcGo (n : Nat) (tgt : TgD) (tt : MB) (te : M) (ρ : RE) : List PyData → Sto → Option Sto
  | [], S => some S
  | x :: xs, S => (tgt x ρ).bind fun ρ1 => (tt ρ1 S).bind fun b => if b.1 = true then (te ρ1 b.2).bind fun v => match v.1 with
      | .d y => (pushAt n y v.2).bind fun S' => lcGo n tgt tt te ρ xs S'
      | .c _ => none
    else lcGo n tgt tt te ρ xs b.2
def mLc (mi : ML) (vs : List Nat) (tgt : TgD) (tt : MB) (te : M) : ML := fun ρ S => (mi ρ S).bind fun p => (lcGo p.2.length tgt tt te (wipeR ρ vs) p.1 (p.2 ++ [[]])).bind fun S' => (S'[p.2.length]?).bind fun ds => some (ds, S'.take p.2.length)
def bYes : MB := fun _ S => some (true, S)
abbrev DTs (X : Cx) (ifs : List Expr) (m : MB) : Prop := PTs X ifs (tMB X.K m)
theorem dts_nil {X : Cx} : DTs X [] bYes := ⟨fun pins s σ H Q I ⟨as, ρ, S, b, S', R, E, e, k⟩ => by
  cases e
  exact pts_nil.run pins s σ H Q I (k H R .refl)⟩
theorem dts_one {X : Cx} {c : Expr} {m : MB} (h : DB X c m) : DTs X [c] m := pts_one h
theorem push_ok {K : Fg} {as : List Addr} {S S' : Sto} {H : Hp} {n : Nat} {D : Addr} {y : PyData} {u : V} (R : Rel K as S H) (hD : as[n]? = some D) (e : pushAt n y S = some S') (hv : Dp K (hide as H) u y) :
    ∃ acc, H D = some (.lst acc) ∧ acc.length < sizeLine ∧ Rel K as S' (upd H D (.lst (acc ++ [u]))) ∧ Ext as H as (upd H D (.lst (acc ++ [u]))) := by
  obtain ⟨l, e1, e⟩ := Option.bind_eq_some_iff.mp e
  split at e
  · rename_i hz
    cases e
    obtain ⟨vs, h1, h2⟩ := R.at_ n D l hD e1
    obtain ⟨R2, E2⟩ := R.put hD (dpAll_append h2 (.cons hv .nil))
    exact ⟨vs, h1, by rw [dpAll_len h2, sizeLine_eq]; omega, R2, E2⟩
  · cases e
theorem Iters.ext {K : Fg} {as as1 : List Addr} {H1 H2 : Hp} {J : It} {xs : List PyData} (it : Iters K as H1 J xs) (e : Ext as H1 as1 H2) : Iters K as1 H2 J xs :=
  ⟨fun as' H3 E => it.go as' H3 (e.trans E), fun as' S H3 E => it.yld as' S H3 (e.trans E), fun as' H3 E => it.stop as' H3 (e.trans E)⟩
theorem lc_loop {K : Fg} {bs : List Addr} {H4 : Hp} {J : It} {xs : List PyData} {S S2 : Sto} {σ : L2.St} {ρ : RE} {n : Nat} {D : Addr} {vs is : List Nat} {tgt : TgD} {tt : MB} {te : M} {Nx : Hp → Prop} (it : Iters K bs H4 J xs) (R : Rel K bs S H4) (E : ER K bs H4 σ ρ) (hn : bs[n]? = some D)
    (e : lcGo n tgt tt te (wipeR ρ vs) xs S = some S2) (hv : ∀ i ∈ is, i ∈ vs) (k : ∀ H', Rel K bs S2 H' → Ext bs H4 bs H' → Nx H') :
    ∃ W1 : Nat → Nat → Hp → Prop, (∃ m, W1 0 m H4) ∧ ∀ j q H, W1 j q H → (J.stop j H ∧ Nx H) ∨ (J.go j H ∧ ∃ Nx1 : Hp → Prop, (∀ H', Nx1 H' → ∃ k', k' < q ∧ W1 (j + 1) k' H') ∧ ∀ x H', J.yld j H x H' → tG K is tgt x (wipe σ vs) H' fun σ3 H5 => wipe σ3 vs = wipe σ vs ∧ tMB K tt σ3 H5 fun b H6 =>
      if b = true then tM K te σ3 H6 fun y H7 => ∃ acc, H7 D = some (.lst acc) ∧ acc.length < sizeLine ∧ Nx1 (upd H7 D (.lst (acc ++ [y]))) else Nx1 H6) := by
  refine ⟨fun i m H' => m = xs.length - i ∧ i ≤ xs.length ∧ ∃ S3, Ext bs H4 bs H' ∧ Rel K bs S3 H' ∧ lcGo n tgt tt te (wipeR ρ vs) (xs.drop i) S3 = some S2, ⟨xs.length, by omega, Nat.zero_le _, S, .refl, R, e⟩, ?_⟩
  rintro i m H' ⟨hm, hi, S3, X1, R3, e4⟩
  by_cases hlt : i < xs.length
  · refine .inr ⟨it.go _ H' X1 i xs[i] (List.getElem?_eq_getElem hlt), fun H2 => ∃ S4, Ext bs H4 bs H2 ∧ Rel K bs S4 H2 ∧ lcGo n tgt tt te (wipeR ρ vs) (xs.drop (i + 1)) S4 = some S2, fun H2 z => ⟨xs.length - (i + 1), by omega, rfl, hlt, z⟩, fun x H2 y => ?_⟩
    obtain ⟨gr, hx⟩ := it.yld _ S3 H' X1 R3 i xs[i] (List.getElem?_eq_getElem hlt) x H2 y
    obtain ⟨R4, X2⟩ := R3.grw gr
    rw [drop_cons hlt] at e4
    obtain ⟨ρ3, e5, e4⟩ := Option.bind_eq_some_iff.mp e4
    obtain ⟨⟨b, S5⟩, e6, e4⟩ := Option.bind_eq_some_iff.mp e4
    refine ⟨bs, wipeR ρ vs, xs[i], ρ3, (E.ext (X1.trans X2)).wiped vs, hx, e5, fun σ3 E3 A3 => ⟨wipe_ww A3 hv, bs, ρ3, S3, b, S5, R4, E3, e6, fun H5 R5 X5 => ?_⟩⟩
    dsimp only at e4 ⊢
    split
    · rename_i hb
      rw [if_pos hb] at e4
      obtain ⟨⟨v, S6⟩, e7, e4⟩ := Option.bind_eq_some_iff.mp e4
      refine ⟨bs, ρ3, S5, v, S6, R5, E3.ext X5, e7, fun u H6 R6 X6 V6 => ?_⟩
      cases v with
      | c j => cases e4
      | d y =>
        obtain ⟨S7, e8, e4⟩ := Option.bind_eq_some_iff.mp e4
        obtain ⟨acc, h1, h2, R7, X7⟩ := push_ok R6 hn e8 V6
        exact ⟨acc, h1, h2, S7, (X1.trans X2).trans (X5.trans (X6.trans X7)), R7, e4⟩
    · rename_i hb
      rw [if_neg hb] at e4
      exact ⟨S5, (X1.trans X2).trans X5, R5, e4⟩
  · have he : i = xs.length := by omega
    subst he
    rw [List.drop_length] at e4
    cases e4
    exact .inl ⟨it.stop _ H' X1, k H' R3 X1⟩
/-- the new list at its end -/
theorem lc_end {K : Fg} {as : List Addr} {D : Addr} {S1 S2 : Sto} {H0 H1 H' : Hp} {ds : List PyData} {Q : VK} (R1 : Rel K as S1 H1) (E1 : Ext as H0 as H1) (e3 : S2[S1.length]? = some ds) (R3 : Rel K (as ++ [D]) S2 H') (X1 : Ext as H1 (as ++ [D]) H')
    (k : ∀ p H2 ws, Rel K as (S2.take S1.length) H2 → Ext as H0 as H2 → H2 p = none → DpAll K (hide as H2) ws ds → Q (.ref p) (upd H2 p (.lst ws))) : Q (.ref D) H' := by
  obtain ⟨ws, ds3, g1, g2, g3, g4, g5, g6, g7⟩ := unown R3 X1
  rw [R1.len, e3] at g1
  cases g1
  have z := k D (hide [D] H') ws (by rw [← R1.len]; exact g3) (E1.trans g4) g5 g6
  rw [g7] at z
  exact z
theorem lc_D {K : Fg} {mi : ML} {vs is : List Nat} {tgt : TgD} {tt : MB} {te : M} (hv : ∀ i ∈ is, i ∈ vs) : ∀ σ H Q, tL K (mLc mi vs tgt tt te) σ H Q → tLc (tI K mi) (tG K is tgt) (tMB K tt) (tM K te) vs σ H Q := fun σ H Q ⟨as, ρ, S, ds, S', R, E, e, k⟩ => by
  obtain ⟨⟨xs, S1⟩, e1, e⟩ := Option.bind_eq_some_iff.mp e
  obtain ⟨S2, e2, e⟩ := Option.bind_eq_some_iff.mp e
  obtain ⟨ds2, e3, e⟩ := Option.bind_eq_some_iff.mp e
  cases e
  dsimp only at e2 e3 k
  refine ⟨as, ρ, S, xs, S1, R, E, e1, fun J H1 R1 E1 it D hD => ?_⟩
  obtain ⟨R0, X0⟩ := R1.grow (vs := []) (ds := []) hD .nil
  exact lc_loop (it.ext X0) R0 ((E.ext E1).ext X0) (by rw [← R1.len]; simp) e2 hv fun H' R3 X1 => lc_end R1 E1 e3 R3 (X0.trans X1) k
/-- two clauses -/
def lc2Go (n : Nat) (tgt : TgD) (tt : MB) (mi1 : ML) (vs1 : List Nat) (tgt1 : TgD) (tt1 : MB) (te : M) (ρ : RE) : List PyData → Sto → Option Sto
  | [], S => some S
  | x :: xs, S => (tgt x ρ).bind fun ρ1 => (tt ρ1 S).bind fun b => if b.1 = true then (mi1 ρ1 b.2).bind fun p => (lcGo n tgt1 tt1 te (wipeR ρ1 vs1) p.1 p.2).bind fun S' => lc2Go n tgt tt mi1 vs1 tgt1 tt1 te ρ xs S'
    else lc2Go n tgt tt mi1 vs1 tgt1 tt1 te ρ xs b.2
def mLc2 (mi : ML) (vs : List Nat) (tgt : TgD) (tt : MB) (mi1 : ML) (vs1 : List Nat) (tgt1 : TgD) (tt1 : MB) (te : M) : ML := fun ρ S => (mi ρ S).bind fun p => (lc2Go p.2.length tgt tt mi1 vs1 tgt1 tt1 te (wipeR ρ vs) p.1 (p.2 ++ [[]])).bind fun S' =>
  (S'[p.2.length]?).bind fun ds => some (ds, S'.take p.2.length)
theorem lc2_D {K : Fg} {mi mi1 : ML} {vs is vs1 is1 : List Nat} {tgt tgt1 : TgD} {tt tt1 : MB} {te : M} (hv : ∀ i ∈ is, i ∈ vs) (hv1 : ∀ i ∈ is1, i ∈ vs1) :
    ∀ σ H Q, tL K (mLc2 mi vs tgt tt mi1 vs1 tgt1 tt1 te) σ H Q → tLc2 (tI K mi) (tG K is tgt) (tMB K tt) (tI K mi1) (tG K is1 tgt1) (tMB K tt1) (tM K te) vs vs1 σ H Q := fun σ H Q ⟨as, ρ, S, ds, S', R, E, e, k⟩ => by
  obtain ⟨⟨xs, S1⟩, e1, e⟩ := Option.bind_eq_some_iff.mp e
  obtain ⟨S2, e2, e⟩ := Option.bind_eq_some_iff.mp e
  obtain ⟨ds2, e3, e⟩ := Option.bind_eq_some_iff.mp e
  cases e
  dsimp only at e2 e3 k
  refine ⟨as, ρ, S, xs, S1, R, E, e1, fun J H1 R1 E1 it D hD => ?_⟩
  obtain ⟨R0, X0⟩ := R1.grow (vs := []) (ds := []) hD .nil
  have EE := (E.ext E1).ext X0
  have it0 := it.ext X0
  have hn : (as ++ [D])[S1.length]? = some D := by rw [← R1.len]; simp
  refine ⟨fun i m H' => m = xs.length - i ∧ i ≤ xs.length ∧ ∃ S3, Ext (as ++ [D]) (upd H1 D (.lst [])) (as ++ [D]) H' ∧ Rel K (as ++ [D]) S3 H' ∧ lc2Go S1.length tgt tt mi1 vs1 tgt1 tt1 te (wipeR ρ vs) (xs.drop i) S3 = some S2, ⟨xs.length, by omega, Nat.zero_le _, S1 ++ [[]], .refl, R0, e2⟩, ?_⟩
  rintro i m H' ⟨hm, hi, S3, X1, R3, e4⟩
  by_cases hlt : i < xs.length
  · refine .inr ⟨it0.go _ H' X1 i xs[i] (List.getElem?_eq_getElem hlt), fun H2 => ∃ S4, Ext (as ++ [D]) (upd H1 D (.lst [])) (as ++ [D]) H2 ∧ Rel K (as ++ [D]) S4 H2 ∧ lc2Go S1.length tgt tt mi1 vs1 tgt1 tt1 te (wipeR ρ vs) (xs.drop (i + 1)) S4 = some S2,
      fun H2 z => ⟨xs.length - (i + 1), by omega, rfl, hlt, z⟩, fun x H2 y => ?_⟩
    obtain ⟨gr, hx⟩ := it0.yld _ S3 H' X1 R3 i xs[i] (List.getElem?_eq_getElem hlt) x H2 y
    obtain ⟨R4, X2⟩ := R3.grw gr
    rw [drop_cons hlt] at e4
    obtain ⟨ρ3, e5, e4⟩ := Option.bind_eq_some_iff.mp e4
    obtain ⟨⟨b, S5⟩, e6, e4⟩ := Option.bind_eq_some_iff.mp e4
    refine ⟨as ++ [D], wipeR ρ vs, xs[i], ρ3, (EE.ext (X1.trans X2)).wiped vs, hx, e5, fun σ3 E3 A3 => ⟨wipe_ww A3 hv, as ++ [D], ρ3, S3, b, S5, R4, E3, e6, fun H5 R5 X5 => ?_⟩⟩
    dsimp only at e4 ⊢
    split
    · rename_i hb
      rw [if_pos hb] at e4
      obtain ⟨⟨ys, S6⟩, e7, e4⟩ := Option.bind_eq_some_iff.mp e4
      obtain ⟨S7, e8, e4⟩ := Option.bind_eq_some_iff.mp e4
      refine ⟨as ++ [D], ρ3, S5, ys, S6, R5, E3.ext X5, e7, fun J1 H6 R6 X6 it1 => ?_⟩
      exact lc_loop it1 R6 (E3.ext (X5.trans X6)) hn e8 hv1 fun H7 R7 X7 => ⟨S7, (X1.trans X2).trans (X5.trans (X6.trans X7)), R7, e4⟩
    · rename_i hb
      rw [if_neg hb] at e4
      exact ⟨S5, (X1.trans X2).trans X5, R5, e4⟩
  · have he : i = xs.length := by omega
    subst he
    rw [List.drop_length] at e4
    cases e4
    exact .inl ⟨it0.stop _ H' X1, lc_end R1 E1 e3 R3 (X0.trans X1) k⟩
section
variable {X : Cx} {elt tg iter : Expr} {ifs : List Expr} {scope : Scope} {own : List (Str × Nat)} {pos : Pos} {mi : ML} {is vs : List Nat} {tgt : TgD} {tt : MB} {te : M}
/-- [elt for tg in iter if ..] -/
theorem dl_lc (hc : X.calm = true) (hN : X.N.Nodup) (hi : DI X tg iter mi) (ok : BlkOk X.N X.env.scope scope own)
    (hg : ∀ (s : Shared) (H : Hp) (C : Addr) (cl : List (Str × Addr)) (fp : List Addr), DG (X.blk s H scope (compEnvC scope cl C X.env) fp) tg is tgt) (ht : ∀ (s : Shared) (H : Hp) (C : Addr) (cl : List (Str × Addr)) (fp : List Addr), DTs (X.blk s H scope (compEnvC scope cl C X.env) fp) ifs tt)
    (he : ∀ (s : Shared) (H : Hp) (C : Addr) (cl : List (Str × Addr)) (fp : List Addr), DE (X.blk s H scope (compEnvC scope cl C X.env) fp) elt te) (hv : (is.all fun i => vs.contains i) = true) (hs : ∀ x, foldedSetIterable iter X.env x = pure x := by intro _; rfl) (hvs : own.map (·.2) = vs := by rfl) :
    DLs X (.ListComp elt [⟨tg, iter, ifs, 0⟩] scope pos) (mLc mi vs tgt tt te) := by
  subst hvs
  exact pe_imp (pe_lc hc hN hi ok hg ht he hs) (lc_D fun i h => by simpa using List.all_eq_true.mp hv i h)
theorem set_L {K : Fg} {i : Nat} {m : ML} {t : TE} (h : ∀ σ H Q, tL K m σ H Q → t σ H Q) : ∀ D σ H, tS K (sSet i (mFz m)) D σ H → tAsg t (gName i) D σ H := fun D σ H ⟨as, ρ, S, o, R, E, e, k⟩ => by
  obtain ⟨⟨v, S1⟩, e1, e⟩ := Option.bind_eq_some_iff.mp e
  obtain ⟨⟨ds, S2⟩, e2, e1⟩ := Option.bind_eq_some_iff.mp e1
  cases e1
  cases e
  refine h σ H _ ⟨as, ρ, S, ds, S2, R, E, e2, fun p H1 vs R1 E1 hp hd => ?_⟩
  obtain ⟨R2, E2⟩ := R1.laid (o := .lst vs) hp
  exact k as _ _ (E1.trans E2) R2 ((E.ext (E1.trans E2)).set i (.lst (SqL.of (hide_some (R1.free hp) upd_same)) (dpAll_mono E2.same _ _ hd)))
theorem own_L {K : Fg} {i : Nat} {m : ML} {t : TE} (h : ∀ σ H Q, tL K m σ H Q → t σ H Q) : ∀ D σ H, tS K (sOwn i m) D σ H → tAsg t (gName i) D σ H := fun D σ H ⟨as, ρ, S, o, R, E, e, k⟩ => by
  obtain ⟨⟨ds, S1⟩, e1, e⟩ := Option.bind_eq_some_iff.mp e
  cases e
  exact h σ H _ ⟨as, ρ, S, ds, S1, R, E, e1, fun p H1 vs R1 E1 hp hd => own_post E k R1 E1 hp hd⟩
/-- y = [..], y a list that is not changed; one that is -/
theorem ds_setLc {i : Nat} {y : Str} {py spos : Pos} (hc : X.calm = true) (hN : X.N.Nodup) (hy : X.N[i]? = some y) (hyl : X.env.scope.names.lookup y = some .local) (hsw : swapsWith (.ListComp elt [⟨tg, iter, ifs, 0⟩] scope pos) (some (.Name y py)) spos.line X.env = pure true)
    (hi : DI X tg iter mi) (ok : BlkOk X.N X.env.scope scope own)
    (hg : ∀ (s : Shared) (H : Hp) (C : Addr) (cl : List (Str × Addr)) (fp : List Addr), DG (X.blk s H scope (compEnvC scope cl C X.env) fp) tg is tgt) (ht : ∀ (s : Shared) (H : Hp) (C : Addr) (cl : List (Str × Addr)) (fp : List Addr), DTs (X.blk s H scope (compEnvC scope cl C X.env) fp) ifs tt)
    (he : ∀ (s : Shared) (H : Hp) (C : Addr) (cl : List (Str × Addr)) (fp : List Addr), DE (X.blk s H scope (compEnvC scope cl C X.env) fp) elt te) (hv : (is.all fun i => vs.contains i) = true) (hs : ∀ x, foldedSetIterable iter X.env x = pure x := by intro _; rfl) (hvs : own.map (·.2) = vs := by rfl) :
    DS X (.Assign [.Name y py] (.ListComp elt [⟨tg, iter, ifs, 0⟩] scope pos) spos) (sSet i (mFz (mLc mi vs tgt tt te))) := by
  subst hvs
  exact ps_imp (ps_setLc hc hN hy hyl hsw hi ok hg ht he hs) (set_L (lc_D fun i h => by simpa using List.all_eq_true.mp hv i h))
theorem ds_ownLc {i : Nat} {y : Str} {py spos : Pos} (hc : X.calm = true) (hN : X.N.Nodup) (hy : X.N[i]? = some y) (hyl : X.env.scope.names.lookup y = some .local) (hsw : swapsWith (.ListComp elt [⟨tg, iter, ifs, 0⟩] scope pos) (some (.Name y py)) spos.line X.env = pure true)
    (hi : DI X tg iter mi) (ok : BlkOk X.N X.env.scope scope own)
    (hg : ∀ (s : Shared) (H : Hp) (C : Addr) (cl : List (Str × Addr)) (fp : List Addr), DG (X.blk s H scope (compEnvC scope cl C X.env) fp) tg is tgt) (ht : ∀ (s : Shared) (H : Hp) (C : Addr) (cl : List (Str × Addr)) (fp : List Addr), DTs (X.blk s H scope (compEnvC scope cl C X.env) fp) ifs tt)
    (he : ∀ (s : Shared) (H : Hp) (C : Addr) (cl : List (Str × Addr)) (fp : List Addr), DE (X.blk s H scope (compEnvC scope cl C X.env) fp) elt te) (hv : (is.all fun i => vs.contains i) = true) (hs : ∀ x, foldedSetIterable iter X.env x = pure x := by intro _; rfl) (hvs : own.map (·.2) = vs := by rfl) :
    DS X (.Assign [.Name y py] (.ListComp elt [⟨tg, iter, ifs, 0⟩] scope pos) spos) (sOwn i (mLc mi vs tgt tt te)) := by
  subst hvs
  exact ps_imp (ps_setLc hc hN hy hyl hsw hi ok hg ht he hs) (own_L (lc_D fun i h => by simpa using List.all_eq_true.mp hv i h))
end
section
variable {X : Cx} {elt tg iter tg1 iter1 : Expr} {ifs ifs1 : List Expr} {scope : Scope} {own : List (Str × Nat)} {pos : Pos} {mi mi1 : ML} {is is1 vs vs1 : List Nat} {tgt tgt1 : TgD} {tt tt1 : MB} {te : M}
theorem dl_lc2 (hc : X.calm = true) (hN : X.N.Nodup) (hi : DI X tg iter mi) (ok : BlkOk X.N X.env.scope scope own)
    (hg : ∀ (s : Shared) (H : Hp) (C : Addr) (cl : List (Str × Addr)) (fp : List Addr), DG (X.blk s H scope (compEnvC scope cl C X.env) fp) tg is tgt) (ht : ∀ (s : Shared) (H : Hp) (C : Addr) (cl : List (Str × Addr)) (fp : List Addr), DTs (X.blk s H scope (compEnvC scope cl C X.env) fp) ifs tt)
    (hi1 : ∀ (s : Shared) (H : Hp) (C : Addr) (cl : List (Str × Addr)) (fp : List Addr), DI (X.blk s H scope (compEnvC scope cl C X.env) fp) tg1 iter1 mi1)
    (hg1 : ∀ (s : Shared) (H : Hp) (C : Addr) (cl : List (Str × Addr)) (fp : List Addr), DG (X.blk s H scope (compEnvC scope cl C X.env) fp) tg1 is1 tgt1) (ht1 : ∀ (s : Shared) (H : Hp) (C : Addr) (cl : List (Str × Addr)) (fp : List Addr), DTs (X.blk s H scope (compEnvC scope cl C X.env) fp) ifs1 tt1)
    (he : ∀ (s : Shared) (H : Hp) (C : Addr) (cl : List (Str × Addr)) (fp : List Addr), DE (X.blk s H scope (compEnvC scope cl C X.env) fp) elt te)
    (hv : (is.all fun i => vs.contains i) = true) (hv1 : (is1.all fun i => vs1.contains i) = true) (hv2 : (vs1.all fun i => vs.contains i) = true) (hs : ∀ x, foldedSetIterable iter X.env x = pure x := by intro _; rfl) (hs1 : ∀ env x, foldedSetIterable iter1 env x = pure x := by intro _ _; rfl) (hvs : own.map (·.2) = vs := by rfl) :
    DLs X (.ListComp elt [⟨tg, iter, ifs, 0⟩, ⟨tg1, iter1, ifs1, 0⟩] scope pos) (mLc2 mi vs tgt tt mi1 vs1 tgt1 tt1 te) := by
  subst hvs
  exact pe_imp (pe_lc2 hc hN hi ok (fun i h => by simpa using List.all_eq_true.mp hv2 i h) hg ht hi1 hg1 ht1 he hs hs1) (lc2_D (fun i h => by simpa using List.all_eq_true.mp hv i h) fun i h => by simpa using List.all_eq_true.mp hv1 i h)
end

/-! ### a def from its body -/
def finV (n : Nat) (v : PV) (S : Sto) : Option (PV × Sto) := match v with
  | .d x => some (.d x, S.take n)
  | .c i => if i < n then some (.c i, S.take n) else (S[i]?).map fun ds => (.d (.list ds), S.take n)
def runF (N : Nat) (g : MS) : FV := fun ps S => (g (ps.map some ++ List.replicate (N - ps.length) none) S).bind fun o => match o with
  | .rt v S' => finV S.length v S'
  | .rl ds S' => some (.d (.list ds), S'.take S.length)
  | .nx _ S' => some (.d .none, S'.take S.length)
  | _ => none
def runL (N : Nat) (g : MS) : FL := fun ps S => (g (ps.map some ++ List.replicate (N - ps.length) none) S).bind fun o => match o with
  | .rl ds S' => some (ds, S'.take S.length)
  | _ => none
theorem start_er {K : Fg} {as : List Addr} {H : Hp} {N : List Str} {vs : List V} {ps : List PV} (h : Paired (VR K as H) vs ps) : ER K as H (L2.start N vs) (ps.map some ++ List.replicate (N.length - ps.length) none) := by
  have hl := paired_len h
  refine ⟨by unfold L2.start; simp [hl], fun i p e => ?_⟩
  by_cases hi : i < ps.length
  · rw [List.getElem?_append_left (by simpa using hi), List.getElem?_map, List.getElem?_eq_getElem hi] at e
    have e2 : ps[i] = p := by simpa using e
    have hv : i < vs.length := by omega
    refine ⟨vs[i], ?_, ?_⟩
    · unfold L2.start
      rw [List.getElem?_append_left (by simpa using hv), List.getElem?_map, List.getElem?_eq_getElem hv]
      rfl
    · rw [← e2]
      exact paired_at h hv hi
  · rw [List.getElem?_append_right (by simpa using hi), List.getElem?_replicate] at e
    split at e <;> cases e
where
  paired_at {K : Fg} {as : List Addr} {H : Hp} : ∀ {vs : List V} {ps : List PV} {i : Nat}, Paired (VR K as H) vs ps → (h1 : i < vs.length) → (h2 : i < ps.length) → VR K as H vs[i] ps[i]
    | _, _, _, .nil, h1, _ => absurd h1 (by simp)
    | _, _, 0, .cons a _, _, _ => a
    | _, _, i + 1, .cons _ b, h1, h2 => paired_at b (by simpa using h1) (by simpa using h2)
theorem Ext.back {as as1 : List Addr} {H H1 : Hp} (e : Ext as H as1 H1) : Ext as H as H1 := ⟨⟨[], by simp⟩, fun b z nz => absurd z nz, e.keep⟩
theorem same_hide_sub {as as2 : List Addr} {H : Hp} : Same (hide (as ++ as2) H) (hide as H) := fun a o h => by
  obtain ⟨na, h⟩ := hide_of h
  exact hide_some (fun z => na (List.mem_append_left _ z)) h
theorem body_F {K : Fg} {N : List Str} {g : MS} {vs : List V} {H : Hp} {Q : VK} {E : XK} {n : Nat} (h : spF K n (runF N.length g) vs H Q E) : tS K g { nx := fun _ H' => Q .non H', rt := Q } (L2.start N vs) H := by
  obtain ⟨_, as, S, ps, v, S', R, V, e, k⟩ := h
  obtain ⟨o, e1, e⟩ := Option.bind_eq_some_iff.mp e
  refine ⟨as, _, S, o, R, start_er V, e1, ?_⟩
  cases o with
  | nx ρ' S1 =>
    cases e
    rintro as' σ' H' X1 R1 E1
    obtain ⟨bs, rfl⟩ := X1.pre
    have z := R1.take rfl
    rw [R.len] at z
    exact k _ _ z X1.back .non
  | bk ρ' S1 => cases e
  | ct ρ' S1 => cases e
  | rl ds S1 =>
    cases e
    rintro as' p H' ws X1 R1 hp hd
    obtain ⟨bs, rfl⟩ := X1.pre
    obtain ⟨R2, X2⟩ := R1.laid (o := .lst ws) hp
    have z := R2.take rfl
    rw [R.len] at z
    have np : p ∉ as := fun w => R1.free hp (List.mem_append_left _ w)
    refine k _ _ z (X1.trans X2).back (.lst (SqL.of (hide_some np upd_same)) (dpAll_mono (fun a o q => ?_) _ _ hd))
    exact same_hide_sub _ _ (X2.same _ _ q)
  | rt w S1 =>
    rintro as' u H' X1 R1 V1
    obtain ⟨bs, rfl⟩ := X1.pre
    have z := R1.take rfl
    rw [R.len] at z
    cases w with
    | d x =>
      cases e
      exact k _ _ z X1.back (dp_mono same_hide_sub _ _ V1)
    | c i =>
      obtain ⟨a, q, rfl⟩ := V1
      unfold finV at e
      dsimp only at e
      split at e
      · rename_i hi
        cases e
        rw [← R.len] at hi
        rw [List.getElem?_append_left hi] at q
        exact k _ _ z X1.back ⟨a, q, rfl⟩
      · rename_i hi
        obtain ⟨ds, e2, e⟩ := Option.map_eq_some_iff.mp e
        cases e
        obtain ⟨ws, h1, h2⟩ := R1.at_ i a ds q e2
        have na : a ∉ as := fun w => by
          obtain ⟨j, hj, e3⟩ := List.getElem_of_mem w
          have q2 : (as ++ bs)[j]? = some a := by rw [List.getElem?_append_left hj, List.getElem?_eq_getElem hj, e3]
          have := nd_ix R1.nd q2 q
          rw [R.len] at hj
          omega
        exact k _ _ z X1.back (.lst (SqL.of (hide_some na h1)) (dpAll_mono same_hide_sub _ _ h2))
theorem body_L {K : Fg} {N : List Str} {g : MS} {vs : List V} {H : Hp} {Q : VK} {E : XK} {n : Nat} (h : spL K n (runL N.length g) vs H Q E) : tS K g { nx := fun _ H' => Q .non H', rt := Q } (L2.start N vs) H := by
  obtain ⟨_, as, S, ps, v, S', R, V, e, k⟩ := h
  obtain ⟨o, e1, e⟩ := Option.bind_eq_some_iff.mp e
  refine ⟨as, _, S, o, R, start_er V, e1, ?_⟩
  cases o with
  | nx ρ' S1 => cases e
  | bk ρ' S1 => cases e
  | ct ρ' S1 => cases e
  | rt ρ' S1 => cases e
  | rl ds S1 =>
    cases e
    rintro as' p H' ws X1 R1 hp hd
    obtain ⟨bs, rfl⟩ := X1.pre
    have z := R1.take rfl
    rw [R.len] at z
    exact k p H' ws z X1.back hp (dpAll_mono same_hide_sub _ _ hd)
section
variable {P : Program} {w : World} {K : Fg} {mg : Str → Option Value} {base : Heap}
/-- a def's data promise from its body's derivation -/
theorem fn_data {x qual : Str} {st : Stmt} {f : Addr} {fd : FuncData} {N ps : List Str} {k n m : Nat} {g : MS} (hn : N.length = n) (hm : ps.length = m) (F : Fun K x qual st f fd) (sc : FnScope N ps (defScope st))
    (hb : ∀ (cdv : Value) (A : Around) (out : List Env) (s : Shared) (H : Hp) (E : XK), Room k (A.deeper (envOfC qual (defScope st) s.heap.objs.size f cdv)) → (A.deeper (envOfC qual (defScope st) s.heap.objs.size f cdv)).guards = some [] →
      DSs (cxOf CX0 P w K mg base N qual (defScope st) f cdv A out s H E).nox (defBody st) g) : FnG P w K mg base CX0 (k + 1) f fd ps (spF K m (runF n g)) :=
  fng_ok F sc (fun _ _ _ _ h => h.1.trans hm.symm) fun cdv A out s H vs Q E hr hg h => ⟨_, hb cdv A out s H E hr hg, body_F (by rw [hn]; exact h)⟩
theorem fn_list {x qual : Str} {st : Stmt} {f : Addr} {fd : FuncData} {N ps : List Str} {k n m : Nat} {g : MS} (hn : N.length = n) (hm : ps.length = m) (F : Fun K x qual st f fd) (sc : FnScope N ps (defScope st))
    (hb : ∀ (cdv : Value) (A : Around) (out : List Env) (s : Shared) (H : Hp) (E : XK), Room k (A.deeper (envOfC qual (defScope st) s.heap.objs.size f cdv)) → (A.deeper (envOfC qual (defScope st) s.heap.objs.size f cdv)).guards = some [] →
      DSs (cxOf CX0 P w K mg base N qual (defScope st) f cdv A out s H E).nox (defBody st) g) : FnG P w K mg base CX0 (k + 1) f fd ps (spL K m (runL n g)) :=
  fng_ok F sc (fun _ _ _ _ h => h.1.trans hm.symm) fun cdv A out s H vs Q E hr hg h => ⟨_, hb cdv A out s H E hr hg, body_L (by rw [hn]; exact h)⟩
/-- a better function in the place of the body's own -/
theorem fn_as {k n : Nat} {f : Addr} {fd : FuncData} {ps : List Str} {F G : FV} (h : FnG P w K mg base CX0 k f fd ps (spF K n F)) (e : ∀ ps S r, ps.length = n → G ps S = some r → F ps S = some r) : FnG P w K mg base CX0 k f fd ps (spF K n G) :=
  h.weak fun vs H Q E ⟨hn, as, S, qs, v, S', R, V, e1, k⟩ => ⟨hn, as, S, qs, v, S', R, V, e qs S _ (by rw [← paired_len V]; exact hn) e1, k⟩
theorem fn_asL {k n : Nat} {f : Addr} {fd : FuncData} {ps : List Str} {F G : FL} (h : FnG P w K mg base CX0 k f fd ps (spL K n F)) (e : ∀ ps S r, ps.length = n → G ps S = some r → F ps S = some r) : FnG P w K mg base CX0 k f fd ps (spL K n G) :=
  h.weak fun vs H Q E ⟨hn, as, S, qs, v, S', R, V, e1, k⟩ => ⟨hn, as, S, qs, v, S', R, V, e qs S _ (by rw [← paired_len V]; exact hn) e1, k⟩
end
end DL

namespace DL
open PySem PySem.Spec PyProof.Rows L2

/-! ### the law's own call, from its data promise -/
/-- a heap in which the script alone is tracked (or nothing, where the script is one of the module's own lists) -/
theorem script_heap {P : Program} {w : World} {K : Fg} {s1 : Shared} {a : Addr} {vs : List Value} {ns : List Int} (kin : K.In s1.heap) (ha : s1.heap.get? a = some { cls := .type "list", data := .seq vs.toArray }) (hi : IntsAre vs ns) (hl : ns.length ≤ sizeLine) :
    ∃ H : Hp, Only H ∧ SqL K H a (ns.map V.int) ∧ HOk P w H s1.heap ∧ (∀ b, H b ≠ none → b = a) ∧ (H a ≠ none → K.lookup a = none) := by
  have rel := vals_ints hi
  have len := hi.length
  cases hk : K.lookup a with
  | some o =>
    have same := kin a o hk
    rw [ha] at same
    cases same
    exact ⟨fun _ => none, fun _ => .inl rfl, .inr ⟨_, vs.toArray, _, hk, rfl, rfl, rfl, by rw [List.size_toArray, len]; exact hl, by simpa using rel⟩, fun b u z => (absurd z (by simp)), fun b z => absurd rfl z, fun z => absurd rfl z⟩
  | none =>
    let ob : Obj := { cls := .type "list", data := .seq vs.toArray }
    refine ⟨fun b => if b = a then some (.frz ob (.lst (ns.map V.int))) else none, fun b => ?_, .inl (.inr ⟨ob, if_pos rfl⟩), fun b u z => ?_, fun b z => ?_, fun _ => rfl⟩
    · by_cases e : b = a
      · exact .inr ⟨ob, _, if_pos e⟩
      · exact .inl (if_neg e)
    · by_cases e : b = a
      · subst e
        dsimp only at z
        rw [if_pos rfl] at z
        cases z
        exact ⟨ha, by rw [List.length_map]; exact hl, vs, _, rel, ha⟩
      · dsimp only at z
        rw [if_neg e] at z
        cases z
    · by_cases e : b = a
      · exact e
      · exact absurd (if_neg e) z
theorem law_run {P : Program} {w : World} {K : Fg} {mg mb : Str → Option Value} {k : Nat} {fa a : Addr} {fd : FuncData} {x : Str} {sp : Sp} {s1 : Shared} {vs : List Value} {ns : List Int}
    (kin : K.In s1.heap) (glo : s1.heap.Ns mainGlobals mg) (blt : s1.heap.Ns builtinsNs mb) (bb : ∀ x : Str, x ≠ "__name__" → mb x = bootBuiltins x) (lim : s1.heap.NoLimit) (gens : s1.gens = #[])
    (ha : s1.heap.get? a = some { cls := .type "list", data := .seq vs.toArray }) (hi : IntsAre vs ns) (hl : ns.length ≤ sizeLine) (room : Room k callerA)
    (F : ∀ base : Heap, K.In base → base.Ns mainGlobals mg → FnG P w K mg base CX0 k fa fd [x] sp) (bind : ∀ (s : Shared) (u : Value), BindsTo s fd ⟨[u], []⟩ [(x, u)])
    (want : ∀ H : Hp, SqL K H a (ns.map V.int) → sp [.ref a] H (fun v _ => v = .bl true) fun _ _ _ => False) :
    codeAny (model P w) callerA (.call (.ref fa) ⟨[.ref a], []⟩) (fun r s' => r = .ok (.ret (.bool true)) ∧ OldK s1.heap s'.heap ∧ s'.os = s1.os ∧ AllBare s'.gens) s1 := by
  obtain ⟨H, only, sq, hok, hA, hK⟩ := script_heap (P := P) (w := w) kin ha hi hl
  have free : ∀ {b : Addr} {o : Obj}, s1.heap.get? b = some o → (∀ its n, o.data ≠ .seq its n) → H b = none := fun {b o} e d => by
    cases q : H b with
    | none => rfl
    | some u =>
      have eb : b = a := hA b (by rw [q]; simp)
      rw [eb, ha] at e
      cases e
      exact absurd rfl (d _ _)
  have nsOf : ∀ {b : Addr} {m : Str → Option Value}, s1.heap.Ns b m → (hidT s1.heap H).Ns b m := fun {b m} z => by
    obtain ⟨o, es, ep, e, d, r⟩ := z
    exact ⟨o, es, ep, hidT_get e (free e fun its n q => by rw [d] at q; cases q), d, r⟩
  have kb : K.In (hidT s1.heap H) := fun b o e => hidT_get (kin b o e) (by
    cases q : H b with
    | none => rfl
    | some u =>
      have eb : b = a := hA b (by rw [q]; simp)
      subst eb
      rw [hK (by rw [q]; simp)] at e
      cases e)
  obtain ⟨mc, c1, c2⟩ := lim
  have en : Env0 P w K mg (hidT s1.heap H) callerA [] s1 H :=
    ⟨rfl, ⟨kb, nsOf glo, ⟨mb, nsOf blt, bb⟩, ⟨mc, nsOf c1, c2⟩⟩, fun b o e => of_hidT e, Nat.le_of_eq (hidT_size _ _), trivial, fun b z => absurd (show b ∈ ([] : List Addr) from z) (by simp), hok, .of_eq gens⟩
  refine codeAny_mono ((F _ kb (nsOf glo)).go callerA [] s1 H ⟨[.ref a], []⟩ [.ref a] [.ref a] _ _ room rfl en (bind s1 (.ref a)) (.cons rfl .nil) (want H sq)) fun r s' z => ?_
  cases r with
  | error e => exact z.elim
  | ok fl =>
    cases fl with
    | next => exact z.elim
    | brk => exact z.elim
    | cont => exact z.elim
    | ret u =>
      obtain ⟨v, H', os, bare, un, hok', rv, q⟩ := z
      have q' : v = .bl true := q
      subst q'
      have eu : u = Value.bool true := rv
      subst eu
      refine ⟨rfl, OldK.of_keep fun b o e => ?_, os, bare⟩
      rcases only b with n | ⟨ob, xs, n⟩
      · exact un.keep b o e n (fun z => absurd (show b ∈ ([] : List Addr) from z) (by simp)) (by simp)
      · obtain ⟨e1, _⟩ := hok b _ n
        obtain ⟨e2, _⟩ := hok' b _ (un.frzs b ob _ n)
        rw [e] at e1
        cases e1
        exact e2
/-- the goal that k_head leaves -/
theorem walkD {l : PySem.W.OpenLaw} {n k : Nat} {q : Program} {loose : List Str} {XP : (Str → Option Value) → Heap → Prop} {YP : World → Heap → Prop} {d : DefRec} {K : Params → Fg} {G : FV} {x : Str} (hn : l.most = some n) (hn2 : n ≤ sizeLine) (hdf : d.params.defaults = []) (room : Room k callerA)
    (hY : ∀ (w : World) (h : Heap), YP w h → (K w.params).In h)
    (F : ∀ (w : World) (mg : Str → Option Value) (fa : Addr) (h : Heap), (K w.params).In h → h.Ns mainGlobals mg → mg d.name = some (.ref fa) →
      ∃ fd : FuncData, (∀ (s : Shared) (u : Value), BindsTo s fd ⟨[u], []⟩ [(x, u)]) ∧ ∀ base : Heap, (K w.params).In base → base.Ns mainGlobals mg → FnG l.prog w (K w.params) mg base CX0 k fa fd [x] (spF (K w.params) 1 G))
    (hG : ∀ ns : List Int, ns.length ≤ n → ∃ S', G [.d (.list (ns.map .int))] [] = some (.d (.bool true), S')) :
    PySem.W.WalkO q loose XP YP l.row.toRowW d [] (fun f vs => PySem.call f vs) := by
  refine Att.attach_call hn hdf fun w s0 s1 mg mb fa o pm cd doc a vs ns gr Y ho hd hcd hmg hobj hints hlen hg => ?_
  have kin := hY w _ Y
  obtain ⟨fd, hb, hF⟩ := F w mg fa _ kin gr.T.g hmg
  refine law_run kin gr.T.g gr.T.b gr.T.builtins gr.T.nolimit hg hobj hints (Nat.le_trans hlen hn2) room hF hb fun H sq => ?_
  obtain ⟨S', e⟩ := hG ns hlen
  have sm : Same H (hide [] H) := fun b o z => hide_some (by simp) z
  have v1 : VR (K w.params) [] H (.ref a) (.d (.list (ns.map .int))) := Dp.lst (sm.seq sq) (dpAll_ints ns)
  refine ⟨rfl, [], [], _, _, S', .nilR H, .cons v1 .nil, e, fun u H' _ _ V => ?_⟩
  cases V
  rfl
end DL

namespace DL
open PySem PySem.Spec PyProof.Rows L2

/-! ### tuples of ints by their order -/
def fLtT : PV → PV → Sto → Option PV := fun x y _ => match x, y with
  | .d (.tuple xs), .d (.tuple ys) => (intsOf xs).bind fun a => (intsOf ys).bind fun b => some (.d (.bool (HT.lexLt a b)))
  | _, _ => none
theorem opD_ltT {K : Fg} : OpD K (rLtT K) fLtT := by
  intro as S H u w x y z Q R V1 V2 e k
  unfold fLtT at e
  split at e
  · obtain ⟨a, e1, e⟩ := Option.bind_eq_some_iff.mp e
    obtain ⟨b, e2, e⟩ := Option.bind_eq_some_iff.mp e
    cases e
    cases V1 with
    | tup s1 a1 =>
      cases V2 with
      | tup s2 a2 =>
        rw [intsOf_some e1] at a1
        rw [intsOf_some e2] at a2
        rw [dpAll_ints_inv a1] at s1
        rw [dpAll_ints_inv a2] at s2
        exact ⟨_, _, a, b, rfl, rfl, sqT_mono hide_same s1, sqT_mono hide_same s2, k _ H R .refl (.bl _)⟩
  · cases e
section
variable {X : Cx} {a b : Expr} {ma mb : M} {pos : Pos} {k : Nat}
theorem de_ltT (hr : Room k X.A) (ha : DE X a ma) (hb : DE X b mb) : DE X (.Compare a [.Lt] [b] pos) (mOp fLtT ma mb) := de_cmp (op_ltT hr.units0) opD_ltT ha hb (nomark _)
theorem db_ltT (hr : Room k X.A) (ha : DE X a ma) (hb : DE X b mb) : DB X (.Compare a [.Lt] [b] pos) (asB (mOp fLtT ma mb)) := db_cmp (op_ltT hr.units0) opD_ltT ha hb (nomark _)
end

/-! ### truth -/
def truD : PyData → Option Bool
  | .none => some false
  | .bool b => some b
  | .int i => some (i != 0)
  | .str z => if z.length ≤ 1000000 then some ((z.length : Int) != 0) else none
  | .list xs => some (!xs.isEmpty)
  | .tuple xs => some (!xs.isEmpty)
  | .dict _ => none
def bTru (m : M) : MB := fun ρ S => (m ρ S).bind fun p => (asD p.2 p.1).bind fun d => (truD d).bind fun b => some (b, p.2)
theorem isEmpty_dp {K : Fg} {H : Hp} {vs : List V} {ds : List PyData} (h : DpAll K H vs ds) : (!ds.isEmpty) = !vs.isEmpty := by
  cases h <;> rfl
theorem tru_dp {K : Fg} {H : Hp} {u : V} {d : PyData} {b : Bool} (h : Dp K H u d) (e : truD d = some b) : TruV K u H b := by
  cases h with
  | non => cases e; rfl
  | bl x => cases e; rfl
  | int i => cases e; rfl
  | str z =>
    unfold truD at e
    dsimp only at e
    split at e
    · rename_i hz
      cases e
      exact ⟨million hz, rfl⟩
    · cases e
  | lst s a =>
    cases e
    exact .inl ⟨_, s, isEmpty_dp a⟩
  | tup s a =>
    cases e
    exact .inr (.inl ⟨_, s, isEmpty_dp a⟩)
theorem db_tru {X : Cx} {a : Expr} {m : M} (ha : DE X a m) (he : ∀ whole, isTrue a X.env whole = (do let v ← whole; standAt a.pos; holding [v] (truthy v)) := by intro _; rfl) : DB X a (bTru m) :=
  pt_imp (pt_truth ha he) fun σ H Q ⟨as, ρ, S, b, S', R, E, e, k⟩ => by
    obtain ⟨⟨x, S1⟩, e1, e⟩ := Option.bind_eq_some_iff.mp e
    obtain ⟨d, e2, e⟩ := Option.bind_eq_some_iff.mp e
    obtain ⟨b2, e3, e⟩ := Option.bind_eq_some_iff.mp e
    cases e
    exact ⟨as, ρ, S, x, S1, R, E, e1, fun u H1 R1 E1 V1 => ⟨_, tru_dp (asD_dp R1 V1 e2) e3, k H1 R1 E1⟩⟩

/-! ### list(range(..)) -/
theorem rgV_dp {K : Fg} {H : Hp} (a b : Int) : DpAll K H (rgV a b) (rangeD a (b - a).toNat) := by
  unfold rgV rangeD
  induction (List.range (b - a).toNat) with
  | nil => exact .nil
  | cons x r ih => exact .cons (.int _) ih
section
variable {X : Cx} {pos p p2 q2 : Pos} {a b : Expr} {m n : M}
theorem dl_lrg1 (hc : X.calm = true) (hg : Gl X "list") (hm : X.mg "list" = none) (hg2 : Gl X "range") (hm2 : X.mg "range" = none) (ha : DE X a m) (na : starEach [a] X.env = (false, eval a X.env) :: starEach [] X.env := by rfl)
    (nb : starEach [.Call (.Name "range" p2) [a] [] q2] X.env = (false, eval (.Call (.Name "range" p2) [a] [] q2) X.env) :: starEach [] X.env := by rfl) : DLs X (.Call (.Name "list" p) [.Call (.Name "range" p2) [a] [] q2] [] pos) (mRng1 m) :=
  pe_imp (pe_listRg hc hg hm (prg_1 hg2 hm2 ha na) nb) fun σ H Q ⟨as, ρ, S, ds, S', R, E, e, k⟩ => by
    obtain ⟨⟨v, S2⟩, e1, e⟩ := Option.bind_eq_some_iff.mp e
    refine ⟨as, ρ, S, v, S2, R, E, e1, fun u H1 R1 E1 V1 => ?_⟩
    dsimp only at e
    split at e
    · split at e
      · rename_i hz
        cases e
        cases V1
        refine ⟨_, rfl, ⟨by decide, by decide, by omega, by omega, by omega⟩, fun q hq => k q H1 _ R1 E1 hq ?_⟩
        have z := rgV_dp (K := X.K) (H := hide as H1) 0
        exact (by simpa using z _)
      · cases e
    · cases e
end
end DL

namespace DL
open PySem PySem.Spec PyProof.Rows L2
/-- as many turns as the number in a slot tells, and two -/
def fuelAt (i : Nat) : RE → Sto → Nat := fun ρ _ => match ρ[i]? with
  | some (some (.d (.int x))) => x.natAbs + 2
  | _ => 0
end DL

namespace DL
open PySem PySem.Spec PyProof.Rows L2

/-! ### what stands ahead in the store changes nothing -/
def shV (n : Nat) : PV → PV
  | .d x => .d x
  | .c j => .c (n + j)
def shR (n : Nat) (ρ : RE) : RE := ρ.map (Option.map (shV n))
def shO (S : Sto) : Out → Out
  | .nx ρ T => .nx (shR S.length ρ) (S ++ T)
  | .bk ρ T => .bk (shR S.length ρ) (S ++ T)
  | .ct ρ T => .ct (shR S.length ρ) (S ++ T)
  | .rt v T => .rt (shV S.length v) (S ++ T)
  | .rl v T => .rl v (S ++ T)
class FrM (m : M) : Prop where
  fr : ∀ ρ S T, m (shR S.length ρ) (S ++ T) = (m ρ T).map fun r => (shV S.length r.1, S ++ r.2)
class FrB (m : MB) : Prop where
  fr : ∀ ρ S T, m (shR S.length ρ) (S ++ T) = (m ρ T).map fun r => (r.1, S ++ r.2)
class FrA (m : MA) : Prop where
  fr : ∀ ρ S T, m (shR S.length ρ) (S ++ T) = (m ρ T).map fun r => (r.1.map (shV S.length), S ++ r.2)
class FrL (m : ML) : Prop where
  fr : ∀ ρ S T, m (shR S.length ρ) (S ++ T) = (m ρ T).map fun r => (r.1, S ++ r.2)
class FrO (m : MO) : Prop where
  fr : ∀ ρ S T, m (shR S.length ρ) (S ++ T) = (m ρ T).map fun r => (r.1, S ++ r.2)
class FrS (m : MS) : Prop where
  fr : ∀ ρ S T, m (shR S.length ρ) (S ++ T) = (m ρ T).map (shO S)
class FrT (t : TgD) : Prop where
  fr : ∀ d ρ n, t d (shR n ρ) = (t d ρ).map (shR n)
class FrTs (t : TgDs) : Prop where
  fr : ∀ d ρ n, t d (shR n ρ) = (t d ρ).map (shR n)
class FrOp (f : PV → PV → Sto → Option PV) : Prop where
  fr : ∀ x y S T, f (shV S.length x) (shV S.length y) (S ++ T) = (f x y T).map (shV S.length)
class FrOpL (f : PV → PV → Sto → Option (List PyData)) : Prop where
  fr : ∀ x y S T, f (shV S.length x) (shV S.length y) (S ++ T) = f x y T
class FrC (f : List PV → Sto → Option PV) : Prop where
  fr : ∀ xs S T, f (xs.map (shV S.length)) (S ++ T) = (f xs T).map (shV S.length)
class FrCL (f : List PV → Sto → Option (List PyData)) : Prop where
  fr : ∀ xs S T, f (xs.map (shV S.length)) (S ++ T) = f xs T
class FrF (F : FV) : Prop where
  fr : ∀ xs S T, F (xs.map (shV S.length)) (S ++ T) = (F xs T).map fun r => (shV S.length r.1, S ++ r.2)
class FrFL (F : FL) : Prop where
  fr : ∀ xs S T, F (xs.map (shV S.length)) (S ++ T) = (F xs T).map fun r => (r.1, S ++ r.2)

theorem sh_get (ρ : RE) (n i : Nat) : (shR n ρ)[i]? = (ρ[i]?).map (Option.map (shV n)) := by unfold shR; rw [List.getElem?_map]
theorem sh_set (ρ : RE) (n i : Nat) (p : PV) : (shR n ρ).set i (some (shV n p)) = shR n (ρ.set i (some p)) := by unfold shR; rw [List.map_set]; rfl
theorem sh_setd (ρ : RE) (n i : Nat) (d : PyData) : (shR n ρ).set i (some (.d d)) = shR n (ρ.set i (some (.d d))) := sh_set ρ n i (.d d)
theorem sto_get (S T : Sto) (j : Nat) : (S ++ T)[S.length + j]? = T[j]? := by rw [List.getElem?_append_right (Nat.le_add_right _ _), Nat.add_sub_cancel_left]
theorem sto_set (S T : Sto) (j : Nat) (x : List PyData) : (S ++ T).set (S.length + j) x = S ++ T.set j x := by rw [List.set_append_right _ _ (Nat.le_add_right _ _), Nat.add_sub_cancel_left]
theorem sh_asD (S T : Sto) (x : PV) : asD (S ++ T) (shV S.length x) = asD T x := by
  cases x with
  | d y => rfl
  | c j => show ((S ++ T)[S.length + j]?).map _ = _; rw [sto_get]; rfl
theorem sh_items (S T : Sto) (x : PV) : itemsOf (S ++ T) (shV S.length x) = itemsOf T x := by
  cases x with
  | d y => cases y <;> rfl
  | c j => show (S ++ T)[S.length + j]? = _; rw [sto_get]; rfl

instance (i : Nat) : FrM (mVar i) := ⟨fun ρ S T => by
  unfold mVar
  rw [sh_get]
  cases h : ρ[i]? with
  | none => rfl
  | some o => cases o <;> rfl⟩
instance (x : PyData) : FrM (mC x) := ⟨fun ρ S T => rfl⟩
instance : FrA mNil := ⟨fun ρ S T => rfl⟩
instance (m : M) (ms : MA) [FrM m] [FrA ms] : FrA (mCons m ms) := ⟨fun ρ S T => by
  unfold mCons
  rw [FrM.fr (m := m)]
  cases h : m ρ T with
  | none => rfl
  | some r =>
    show (ms (shR S.length ρ) (S ++ r.2)).bind _ = _
    rw [FrA.fr (m := ms)]
    cases h2 : ms ρ r.2 with
    | none => simp [h2]
    | some q => simp [h2]⟩
theorem datas_sh (n : Nat) : ∀ vs : List PV, datas (vs.map (shV n)) = datas vs
  | [] => rfl
  | .d x :: r => by show (datas (r.map (shV n))).bind _ = _; rw [datas_sh n r]; rfl
  | .c _ :: _ => rfl
instance (m : MA) [FrA m] : FrM (mTup m) := ⟨fun ρ S T => by
  unfold mTup
  rw [FrA.fr (m := m)]
  cases h : m ρ T with
  | none => rfl
  | some r =>
    show (datas (r.1.map _)).bind _ = Option.map _ ((datas r.1).bind _)
    rw [datas_sh]
    cases datas r.1 with
    | none => rfl
    | some ds => dsimp; split <;> rfl⟩
instance (m : MA) [FrA m] : FrL (mLst m) := ⟨fun ρ S T => by
  unfold mLst
  rw [FrA.fr (m := m)]
  cases h : m ρ T with
  | none => rfl
  | some r =>
    show (datas (r.1.map _)).bind _ = Option.map _ ((datas r.1).bind _)
    rw [datas_sh]
    cases datas r.1 with
    | none => rfl
    | some ds => dsimp; split <;> rfl⟩
instance (m : ML) [FrL m] : FrM (mFz m) := ⟨fun ρ S T => by
  unfold mFz
  rw [FrL.fr (m := m)]
  cases h : m ρ T <;> rfl⟩
instance (f : PV → PV → Sto → Option PV) (a b : M) [FrOp f] [FrM a] [FrM b] : FrM (mOp f a b) := ⟨fun ρ S T => by
  unfold mOp
  rw [FrM.fr (m := a)]
  cases h : a ρ T with
  | none => rfl
  | some r =>
    show (b (shR S.length ρ) (S ++ r.2)).bind _ = _
    rw [FrM.fr (m := b)]
    cases h2 : b ρ r.2 with
    | none => simp [h2]
    | some q =>
      show ((f (shV S.length r.1) (shV S.length q.1) (S ++ q.2)).bind _) = _
      rw [FrOp.fr (f := f)]
      simp only [Option.bind_some, h2]
      cases f r.1 q.1 q.2 <;> rfl⟩
instance (f : PV → PV → Sto → Option (List PyData)) (a b : M) [FrOpL f] [FrM a] [FrM b] : FrL (mOpL f a b) := ⟨fun ρ S T => by
  unfold mOpL
  rw [FrM.fr (m := a)]
  cases h : a ρ T with
  | none => rfl
  | some r =>
    show (b (shR S.length ρ) (S ++ r.2)).bind _ = _
    rw [FrM.fr (m := b)]
    cases h2 : b ρ r.2 with
    | none => simp [h2]
    | some q =>
      show ((f (shV S.length r.1) (shV S.length q.1) (S ++ q.2)).bind _) = _
      rw [FrOpL.fr (f := f)]
      simp only [Option.bind_some, h2]
      cases f r.1 q.1 q.2 <;> rfl⟩
instance (g : Int → Int → PyData) : FrOp (fI0 g) := ⟨fun x y S T => by
  cases x with
  | c j => cases y <;> rfl
  | d x =>
    cases y with
    | c j => cases x <;> rfl
    | d y => cases x <;> first | rfl | (cases y <;> rfl)⟩
instance (c : Int → Int → Bool) (g : Int → Int → PyData) : FrOp (fIc c g) := ⟨fun x y S T => by
  cases x with
  | c j => cases y <;> rfl
  | d x =>
    cases y with
    | c j => cases x <;> rfl
    | d y =>
      cases x <;> first | rfl | (cases y <;> first | rfl | (unfold fIc; dsimp only [shV]; split <;> rfl))⟩
instance : FrOp fMul := inferInstanceAs (FrOp (fIc mulOk fun i j => .int (i * j)))
instance : FrOp fEq := ⟨fun x y S T => by
  unfold fEq
  rw [sh_asD, sh_asD]
  cases asD T x with
  | none => rfl
  | some a =>
    cases asD T y with
    | none => rfl
    | some b => dsimp; split <;> rfl⟩
instance : FrOp fNe := ⟨fun x y S T => by
  unfold fNe
  rw [sh_asD, sh_asD]
  cases asD T x with
  | none => rfl
  | some a =>
    cases asD T y with
    | none => rfl
    | some b => dsimp; split <;> rfl⟩
instance : FrOpL fCatL := ⟨fun x y S T => by
  unfold fCatL
  rw [sh_asD, sh_asD]⟩
theorem map_shV_list (n : Nat) (o : Option (List PyData)) : (o.map fun l => PV.d (.list l)).map (shV n) = o.map fun l => PV.d (.list l) := by cases o <;> rfl
instance : FrOp fAdd := ⟨fun x y S T => by
  have L : ∀ x y : PV, ((fCatL (shV S.length x) (shV S.length y) (S ++ T)).map fun l => PV.d (.list l)) = ((fCatL x y T).map fun l => PV.d (.list l)).map (shV S.length) := fun x y => by
    rw [FrOpL.fr (f := fCatL), map_shV_list]
  cases x with
  | c j => cases y with
    | c i => exact L (.c j) (.c i)
    | d y => exact L (.c j) (.d y)
  | d x =>
    cases y with
    | c j =>
      cases x with
      | none => exact L (.d .none) (.c j)
      | bool b => exact L (.d (.bool b)) (.c j)
      | int b => exact L (.d (.int b)) (.c j)
      | str b => exact L (.d (.str b)) (.c j)
      | list b => exact L (.d (.list b)) (.c j)
      | tuple b => exact L (.d (.tuple b)) (.c j)
      | dict b => exact L (.d (.dict b)) (.c j)
    | d y =>
      cases x <;> cases y <;> first
        | rfl
        | exact L (.d _) (.d _)
        | (unfold fAdd; dsimp only [shV]; split <;> rfl)⟩
instance : FrOp fLtT := ⟨fun x y S T => by
  cases x with
  | c j => cases y <;> rfl
  | d x =>
    cases y with
    | c j => cases x <;> rfl
    | d y =>
      cases x <;> first
        | rfl
        | (cases y <;> first
          | rfl
          | (unfold fLtT
             dsimp only [shV]
             generalize intsOf _ = o1
             generalize intsOf _ = o2
             cases o1 <;> cases o2 <;> rfl))⟩
instance : FrOp fIx := ⟨fun x y S T => by
  cases y with
  | c j => rfl
  | d y =>
    cases y with
    | int i =>
      have L : ∀ x : PV, ((itemsOf (S ++ T) (shV S.length x)).bind fun ds => (atI ds i).map PV.d) = ((itemsOf T x).bind fun ds => (atI ds i).map PV.d).map (shV S.length) := fun x => by
        rw [sh_items]
        cases itemsOf T x with
        | none => rfl
        | some ds =>
          show (atI ds i).map PV.d = ((atI ds i).map PV.d).map _
          cases atI ds i <;> rfl
      cases x with
      | c j => exact L (.c j)
      | d x =>
        cases x with
        | none => exact L (.d .none)
        | bool b => exact L (.d (.bool b))
        | int b => exact L (.d (.int b))
        | list b => exact L (.d (.list b))
        | tuple b => exact L (.d (.tuple b))
        | dict b => exact L (.d (.dict b))
        | str z =>
          unfold fIx
          dsimp only [shV]
          split
          · generalize atI _ i = o
            cases o <;> rfl
          · rfl
    | _ => rfl⟩
class FrU (f : PV → Option PV) : Prop where
  fr : ∀ n x, f (shV n x) = (f x).map (shV n)
instance : FrU fNeg := ⟨fun n x => by
  cases x with
  | c j => rfl
  | d x => cases x <;> rfl⟩
instance (f : PV → Option PV) (a : M) [FrM a] [FrU f] : FrM (mUn f a) := ⟨fun ρ S T => by
  unfold mUn
  rw [FrM.fr (m := a)]
  cases a ρ T with
  | none => rfl
  | some r =>
    show (f (shV S.length r.1)).bind _ = _
    rw [FrU.fr (f := f)]
    simp only [Option.bind_some]
    cases f r.1 <;> rfl⟩
/-! tests -/
instance (m : M) [FrM m] : FrB (asB m) := ⟨fun ρ S T => by
  unfold asB
  rw [FrM.fr (m := m)]
  cases m ρ T with
  | none => rfl
  | some r =>
    obtain ⟨v, T'⟩ := r
    cases v with
    | c j => rfl
    | d x => cases x <;> rfl⟩
instance (m : MB) [FrB m] : FrB (bNot m) := ⟨fun ρ S T => by
  unfold bNot
  rw [FrB.fr (m := m)]
  cases m ρ T <;> rfl⟩
instance : FrB bYes := ⟨fun ρ S T => rfl⟩
instance (a b : MB) [FrB a] [FrB b] : FrB (bAnd a b) := ⟨fun ρ S T => by
  unfold bAnd
  rw [FrB.fr (m := a)]
  cases a ρ T with
  | none => rfl
  | some r =>
    obtain ⟨v, T'⟩ := r
    cases v with
    | false => rfl
    | true => exact FrB.fr (m := b) ρ S T'⟩
instance (a b : MB) [FrB a] [FrB b] : FrB (bOr a b) := ⟨fun ρ S T => by
  unfold bOr
  rw [FrB.fr (m := a)]
  cases a ρ T with
  | none => rfl
  | some r =>
    obtain ⟨v, T'⟩ := r
    cases v with
    | true => rfl
    | false => exact FrB.fr (m := b) ρ S T'⟩
instance (m : M) [FrM m] : FrB (bTru m) := ⟨fun ρ S T => by
  unfold bTru
  rw [FrM.fr (m := m)]
  cases m ρ T with
  | none => rfl
  | some r =>
    show (asD (S ++ r.2) (shV S.length r.1)).bind _ = Option.map _ ((asD r.2 r.1).bind _)
    rw [sh_asD]
    cases asD r.2 r.1 with
    | none => rfl
    | some d =>
      show (truD d).bind _ = Option.map _ ((truD d).bind _)
      cases truD d <;> rfl⟩
instance (a b : M) [FrM a] [FrM b] : FrM (mAnd a b) := ⟨fun ρ S T => by
  unfold mAnd
  rw [FrM.fr (m := a)]
  cases a ρ T with
  | none => rfl
  | some r =>
    obtain ⟨v, T'⟩ := r
    cases v with
    | c j => rfl
    | d x =>
      cases x with
      | bool q => cases q with
        | true => exact FrM.fr (m := b) ρ S T'
        | false => rfl
      | _ => rfl⟩
instance (a b : M) [FrM a] [FrM b] : FrM (mOr a b) := ⟨fun ρ S T => by
  unfold mOr
  rw [FrM.fr (m := a)]
  cases a ρ T with
  | none => rfl
  | some r =>
    obtain ⟨v, T'⟩ := r
    cases v with
    | c j => rfl
    | d x =>
      cases x with
      | bool q => cases q with
        | false => exact FrM.fr (m := b) ρ S T'
        | true => rfl
      | _ => rfl⟩
instance (a : M) [FrM a] : FrM (mNot a) := ⟨fun ρ S T => by
  unfold mNot
  rw [FrM.fr (m := a)]
  cases a ρ T with
  | none => rfl
  | some r =>
    obtain ⟨v, T'⟩ := r
    cases v with
    | c j => rfl
    | d x => cases x <;> rfl⟩
instance (c : MB) (a b : M) [FrB c] [FrM a] [FrM b] : FrM (mIf c a b) := ⟨fun ρ S T => by
  unfold mIf
  rw [FrB.fr (m := c)]
  cases c ρ T with
  | none => rfl
  | some r =>
    obtain ⟨v, T'⟩ := r
    cases v with
    | true => exact FrM.fr (m := a) ρ S T'
    | false => exact FrM.fr (m := b) ρ S T'⟩
/-! calls -/
instance (n : Nat) (F : FV) (m : MA) [FrF F] [FrA m] : FrM (mFn n F m) := ⟨fun ρ S T => by
  unfold mFn
  rw [FrA.fr (m := m)]
  cases m ρ T with
  | none => rfl
  | some r =>
    show (if (r.1.map (shV S.length)).length = n then F (r.1.map (shV S.length)) (S ++ r.2) else none) = Option.map _ (if r.1.length = n then F r.1 r.2 else none)
    rw [List.length_map]
    split
    · exact FrF.fr (F := F) r.1 S r.2
    · rfl⟩
instance (n : Nat) (F : FL) (m : MA) [FrFL F] [FrA m] : FrL (mFnL n F m) := ⟨fun ρ S T => by
  unfold mFnL
  rw [FrA.fr (m := m)]
  cases m ρ T with
  | none => rfl
  | some r =>
    show (if (r.1.map (shV S.length)).length = n then F (r.1.map (shV S.length)) (S ++ r.2) else none) = Option.map _ (if r.1.length = n then F r.1 r.2 else none)
    rw [List.length_map]
    split
    · exact FrFL.fr (F := F) r.1 S r.2
    · rfl⟩
instance (f : List PV → Sto → Option PV) (m : MA) [FrC f] [FrA m] : FrM (mCall f m) := ⟨fun ρ S T => by
  unfold mCall
  rw [FrA.fr (m := m)]
  cases m ρ T with
  | none => rfl
  | some r =>
    show (f (r.1.map (shV S.length)) (S ++ r.2)).bind _ = Option.map _ ((f r.1 r.2).bind _)
    rw [FrC.fr (f := f)]
    cases f r.1 r.2 <;> rfl⟩
instance (f : List PV → Sto → Option (List PyData)) (m : MA) [FrCL f] [FrA m] : FrL (mCallL f m) := ⟨fun ρ S T => by
  unfold mCallL
  rw [FrA.fr (m := m)]
  cases m ρ T with
  | none => rfl
  | some r =>
    show (f (r.1.map (shV S.length)) (S ++ r.2)).bind _ = Option.map _ ((f r.1 r.2).bind _)
    rw [FrCL.fr (f := f)]
    cases f r.1 r.2 <;> rfl⟩
instance : FrC cLen := ⟨fun xs S T => by
  cases xs with
  | nil => rfl
  | cons x r => cases r with
    | cons y r => rfl
    | nil =>
      show (match asD (S ++ T) (shV S.length x) with | some (.list xs) => some (PV.d (.int xs.length)) | some (.tuple xs) => some (.d (.int xs.length)) | some (.str z) => if z.length ≤ 1000000 then some (.d (.int z.length)) else none | _ => none) = Option.map _ (match asD T x with | some (.list xs) => some (PV.d (.int xs.length)) | some (.tuple xs) => some (.d (.int xs.length)) | some (.str z) => if z.length ≤ 1000000 then some (.d (.int z.length)) else none | _ => none)
      rw [sh_asD]
      cases asD T x with
      | none => rfl
      | some d => cases d <;> first | rfl | (dsimp only; split <;> rfl)⟩
/-- calls that look at data alone -/
theorem frC_data {f : List PV → Sto → Option PV} (h : ∀ xs S T, f xs S = f xs T) (hn : ∀ xs S v, f xs S = some v → ∃ d, v = .d d) (hc : ∀ xs S, (∃ j, .c j ∈ xs) → f xs S = none) : FrC f := ⟨fun xs S T => by
  by_cases e : ∃ j, PV.c j ∈ xs
  · rw [hc xs T e, hc _ _ (by obtain ⟨j, e⟩ := e; exact ⟨S.length + j, List.mem_map.mpr ⟨_, e, rfl⟩⟩)]
    rfl
  · have ex : xs.map (shV S.length) = xs := by
      conv => rhs; rw [← List.map_id xs]
      refine List.map_congr_left fun a ha => ?_
      cases a with
      | d x => rfl
      | c j => exact absurd ⟨j, ha⟩ e
    rw [ex, h xs (S ++ T) T]
    cases q : f xs T with
    | none => rfl
    | some v =>
      obtain ⟨d, rfl⟩ := hn _ _ _ q
      rfl⟩
instance : FrC cSum := ⟨fun xs S T => by
  cases xs with
  | nil => rfl
  | cons x r => cases r with
    | cons y r => rfl
    | nil =>
      show (itemsOf (S ++ T) (shV S.length x)).bind _ = Option.map _ ((itemsOf T x).bind _)
      rw [sh_items]
      cases itemsOf T x with
      | none => rfl
      | some ds =>
        show (intsOf ds).map _ = Option.map _ ((intsOf ds).map _)
        cases intsOf ds <;> rfl⟩
instance : FrC cTuple := ⟨fun xs S T => by
  cases xs with
  | nil => rfl
  | cons x r => cases r with
    | cons y r => rfl
    | nil =>
      show (itemsOf (S ++ T) (shV S.length x)).map _ = Option.map _ ((itemsOf T x).map _)
      rw [sh_items]
      cases itemsOf T x <;> rfl⟩
instance : FrCL cList := ⟨fun xs S T => by
  cases xs with
  | nil => rfl
  | cons x r => cases r with
    | cons y r => rfl
    | nil => exact sh_items S T x⟩
instance : FrC cRepr := ⟨fun xs S T => by
  cases xs with
  | nil => rfl
  | cons x r => cases r with
    | cons y r => rfl
    | nil =>
      show (asD (S ++ T) (shV S.length x)).bind _ = Option.map _ ((asD T x).bind _)
      rw [sh_asD]
      cases asD T x with
      | none => rfl
      | some d => dsimp; split <;> rfl⟩
end DL

namespace DL
open PySem PySem.Spec PyProof.Rows L2
theorem pv1 (f : PV → Option PV) (hf : ∀ n x, f (shV n x) = (f x).map (shV n)) {g : List PV → Sto → Option PV} (h0 : ∀ S, g [] S = none) (h1 : ∀ x S, g [x] S = f x) (h2 : ∀ x y r S, g (x :: y :: r) S = none) : FrC g := ⟨fun xs S T => by
  cases xs with
  | nil => rw [List.map_nil, h0, h0]; rfl
  | cons x r => cases r with
    | cons y r => rw [List.map_cons, List.map_cons, h2, h2]; rfl
    | nil => rw [List.map_cons, List.map_nil, h1, h1]; exact hf _ _⟩
instance : FrC cAbs := ⟨fun xs S T => by
  cases xs with
  | nil => rfl
  | cons x r => cases r with
    | cons y r => cases x with
      | c j => rfl
      | d x => cases x <;> rfl
    | nil => cases x with
      | c j => rfl
      | d x => cases x <;> rfl⟩
instance : FrC cInt := ⟨fun xs S T => by
  cases xs with
  | nil => rfl
  | cons x r => cases r with
    | cons y r => cases x with
      | c j => rfl
      | d x => cases x <;> rfl
    | nil => cases x with
      | c j => rfl
      | d x => cases x <;> rfl⟩
instance : FrC cStr := ⟨fun xs S T => by
  cases xs with
  | nil => rfl
  | cons x r => cases r with
    | cons y r => cases x with
      | c j => rfl
      | d x => cases x <;> rfl
    | nil => cases x with
      | c j => rfl
      | d x => cases x with
        | int i =>
          show (if i.natAbs.log2 < 1920 then some (PV.d (.str (toString i))) else none) = Option.map _ (if i.natAbs.log2 < 1920 then some (PV.d (.str (toString i))) else none)
          split <;> rfl
        | _ => rfl⟩
theorem frC2 {f : Int → Int → PyData} {g : List PV → Sto → Option PV} (h2 : ∀ i j S, g [.d (.int i), .d (.int j)] S = some (.d (f i j))) (hn : ∀ xs S, (∀ i j, xs ≠ [.d (.int i), .d (.int j)]) → g xs S = none) : FrC g := ⟨fun xs S T => by
  by_cases e : ∃ i j, xs = [.d (.int i), .d (.int j)]
  · obtain ⟨i, j, rfl⟩ := e
    rw [h2]
    show g [.d (.int i), .d (.int j)] _ = _
    rw [h2]
    rfl
  · rw [hn xs T fun i j z => e ⟨i, j, z⟩, hn _ _ fun i j z => ?_]
    · rfl
    · cases xs with
      | nil => exact absurd (congrArg List.length z) (by simp)
      | cons x r =>
        cases r with
        | nil => exact absurd (congrArg List.length z) (by simp)
        | cons y r =>
          cases r with
          | cons _ _ => exact absurd (congrArg List.length z) (by simp)
          | nil =>
            rw [List.map_cons, List.map_cons, List.map_nil] at z
            injection z with z1 z
            injection z with z2 z
            cases x with
            | c a => cases z1
            | d a =>
              cases y with
              | c b => cases z2
              | d b =>
                cases z1
                cases z2
                exact e ⟨i, j, rfl⟩⟩
instance : FrC cMax := frC2 (f := fun i j => .int (if j > i then j else i)) (fun _ _ _ => rfl) fun xs S h => by
  unfold cMax
  split
  · exact absurd rfl (h _ _)
  · rfl
instance : FrC cMin := frC2 (f := fun i j => .int (if j < i then j else i)) (fun _ _ _ => rfl) fun xs S h => by
  unfold cMin
  split
  · exact absurd rfl (h _ _)
  · rfl
instance (k : Kd) (m : M) [FrM m] : FrM (mIsi k m) := ⟨fun ρ S T => by
  unfold mIsi
  rw [FrM.fr (m := m)]
  cases m ρ T with
  | none => rfl
  | some r =>
    show (asD (S ++ r.2) (shV S.length r.1)).bind _ = Option.map _ ((asD r.2 r.1).bind _)
    rw [sh_asD]
    cases asD r.2 r.1 <;> rfl⟩
/-! slices -/
instance : FrO oNone := ⟨fun ρ S T => rfl⟩
instance (m : M) [FrM m] : FrO (oSome m) := ⟨fun ρ S T => by
  unfold oSome
  rw [FrM.fr (m := m)]
  cases m ρ T with
  | none => rfl
  | some r =>
    obtain ⟨v, T'⟩ := r
    cases v with
    | c j => rfl
    | d x => cases x <;> rfl⟩
instance (m : M) (ml mh : MO) [FrM m] [FrO ml] [FrO mh] : FrM (mSl m ml mh) := ⟨fun ρ S T => by
  unfold mSl
  rw [FrM.fr (m := m)]
  cases m ρ T with
  | none => rfl
  | some r =>
    show (ml (shR S.length ρ) (S ++ r.2)).bind _ = Option.map _ ((ml ρ r.2).bind _)
    rw [FrO.fr (m := ml)]
    cases ml ρ r.2 with
    | none => rfl
    | some l =>
      show (mh (shR S.length ρ) (S ++ l.2)).bind _ = Option.map _ ((mh ρ l.2).bind _)
      rw [FrO.fr (m := mh)]
      cases mh ρ l.2 with
      | none => rfl
      | some h =>
        obtain ⟨v, T'⟩ := r
        cases v with
        | c j => rfl
        | d x => cases x <;> first | rfl | (dsimp [shV]; split <;> rfl)⟩
instance (m : M) (ml mh : MO) [FrM m] [FrO ml] [FrO mh] : FrL (mSlL m ml mh) := ⟨fun ρ S T => by
  unfold mSlL
  rw [FrM.fr (m := m)]
  cases m ρ T with
  | none => rfl
  | some r =>
    show (ml (shR S.length ρ) (S ++ r.2)).bind _ = Option.map _ ((ml ρ r.2).bind _)
    rw [FrO.fr (m := ml)]
    cases ml ρ r.2 with
    | none => rfl
    | some l =>
      show (mh (shR S.length ρ) (S ++ l.2)).bind _ = Option.map _ ((mh ρ l.2).bind _)
      rw [FrO.fr (m := mh)]
      cases mh ρ l.2 with
      | none => rfl
      | some h =>
        dsimp
        rw [sh_asD]
        cases asD h.2 r.1 with
        | none => rfl
        | some d => cases d <;> rfl⟩
instance (m : ML) (mb : M) [FrL m] [FrM mb] : FrL (mRep m mb) := ⟨fun ρ S T => by
  unfold mRep
  rw [FrL.fr (m := m)]
  cases m ρ T with
  | none => rfl
  | some r =>
    show (mb (shR S.length ρ) (S ++ r.2)).bind _ = Option.map _ ((mb ρ r.2).bind _)
    rw [FrM.fr (m := mb)]
    cases mb ρ r.2 with
    | none => rfl
    | some q =>
      obtain ⟨v, T'⟩ := q
      cases v with
      | c j => rfl
      | d x => cases x <;> first | rfl | (dsimp [shV]; split <;> rfl)⟩
/-! what is walked -/
instance (m : M) [FrM m] : FrL (mSeq m) := ⟨fun ρ S T => by
  unfold mSeq
  rw [FrM.fr (m := m)]
  cases m ρ T with
  | none => rfl
  | some r =>
    obtain ⟨v, T'⟩ := r
    cases v with
    | c j => rfl
    | d x => cases x <;> rfl⟩
instance (m : M) [FrM m] : FrL (mRng1 m) := ⟨fun ρ S T => by
  unfold mRng1
  rw [FrM.fr (m := m)]
  cases m ρ T with
  | none => rfl
  | some r =>
    obtain ⟨v, T'⟩ := r
    cases v with
    | c j => rfl
    | d x => cases x <;> first | rfl | (dsimp [shV]; split <;> rfl)⟩
instance (m n : M) [FrM m] [FrM n] : FrL (mRng2 m n) := ⟨fun ρ S T => by
  unfold mRng2
  rw [FrM.fr (m := m)]
  cases m ρ T with
  | none => rfl
  | some r =>
    show (n (shR S.length ρ) (S ++ r.2)).bind _ = Option.map _ ((n ρ r.2).bind _)
    rw [FrM.fr (m := n)]
    cases n ρ r.2 with
    | none => rfl
    | some q =>
      obtain ⟨v, T'⟩ := r
      obtain ⟨w, T2⟩ := q
      cases v with
      | c j => cases w with
        | c i => rfl
        | d y => rfl
      | d x =>
        cases w with
        | c i => cases x <;> rfl
        | d y => cases x <;> first | rfl | (cases y <;> first | rfl | (dsimp [shV]; split <;> rfl))⟩
/-! targets -/
instance (i : Nat) : FrT (gN i) := ⟨fun d ρ n => by
  unfold gN
  rw [sh_setd]
  rfl⟩
instance : FrTs gNs := ⟨fun d ρ n => by cases d <;> rfl⟩
instance (f : TgD) (g : TgDs) [FrT f] [FrTs g] : FrTs (gCs f g) := ⟨fun d ρ n => by
  cases d with
  | nil => rfl
  | cons x r =>
    show (f x (shR n ρ)).bind _ = Option.map _ ((f x ρ).bind _)
    rw [FrT.fr (t := f)]
    cases f x ρ with
    | none => rfl
    | some ρ' => exact FrTs.fr (t := g) r ρ' n⟩
instance (k : Nat) (g : TgDs) [FrTs g] : FrT (gT k g) := ⟨fun d ρ n => by
  cases d <;> first
    | rfl
    | (unfold gT
       dsimp only
       split
       · exact FrTs.fr (t := g) _ ρ n
       · rfl)⟩
theorem sh_wipe (n : Nat) (ρ : RE) : ∀ vs : List Nat, wipeR (shR n ρ) vs = shR n (wipeR ρ vs)
  | [] => rfl
  | v :: vs => by
    show (wipeR (shR n ρ) vs).set v none = shR n ((wipeR ρ vs).set v none)
    rw [sh_wipe n ρ vs]
    unfold shR
    rw [List.map_set]
    rfl
/-! comprehensions -/
theorem push_sh (S T : Sto) (j : Nat) (y : PyData) : pushAt (S.length + j) y (S ++ T) = (pushAt j y T).map (S ++ ·) := by
  unfold pushAt
  rw [sto_get]
  cases T[j]? with
  | none => rfl
  | some l =>
    dsimp
    split
    · rw [sto_set]; rfl
    · rfl
theorem lcGo_sh {tgt : TgD} {tt : MB} {te : M} [FrT tgt] [FrB tt] [FrM te] (S : Sto) (j : Nat) (ρ : RE) : ∀ (xs : List PyData) (T : Sto), lcGo (S.length + j) tgt tt te (shR S.length ρ) xs (S ++ T) = (lcGo j tgt tt te ρ xs T).map (S ++ ·)
  | [], T => rfl
  | x :: xs, T => by
    show (tgt x (shR S.length ρ)).bind _ = Option.map _ ((tgt x ρ).bind _)
    rw [FrT.fr (t := tgt)]
    cases tgt x ρ with
    | none => rfl
    | some ρ1 =>
      show (tt (shR S.length ρ1) (S ++ T)).bind _ = Option.map _ ((tt ρ1 T).bind _)
      rw [FrB.fr (m := tt)]
      cases tt ρ1 T with
      | none => rfl
      | some b =>
        obtain ⟨b, T1⟩ := b
        cases b with
        | false => exact lcGo_sh S j ρ xs T1
        | true =>
          show (te (shR S.length ρ1) (S ++ T1)).bind _ = Option.map _ ((te ρ1 T1).bind _)
          rw [FrM.fr (m := te)]
          cases te ρ1 T1 with
          | none => rfl
          | some v =>
            obtain ⟨v, T2⟩ := v
            cases v with
            | c i => rfl
            | d y =>
              show (pushAt (S.length + j) y (S ++ T2)).bind _ = Option.map _ ((pushAt j y T2).bind _)
              rw [push_sh]
              cases pushAt j y T2 with
              | none => rfl
              | some T3 => exact lcGo_sh S j ρ xs T3
theorem app_sh (S T : Sto) (x : List PyData) : (S ++ T) ++ [x] = S ++ (T ++ [x]) := List.append_assoc ..
theorem len_sh (S T : Sto) : (S ++ T).length = S.length + T.length := List.length_append
theorem take_sh (S T : Sto) (n : Nat) : (S ++ T).take (S.length + n) = S ++ T.take n := by
  rw [List.take_append, List.take_of_length_le (Nat.le_add_right _ _), Nat.add_sub_cancel_left]
instance (mi : ML) (vs : List Nat) (tgt : TgD) (tt : MB) (te : M) [FrL mi] [FrT tgt] [FrB tt] [FrM te] : FrL (mLc mi vs tgt tt te) := ⟨fun ρ S T => by
  unfold mLc
  rw [FrL.fr (m := mi)]
  cases mi ρ T with
  | none => rfl
  | some p =>
    show (lcGo (S ++ p.2).length tgt tt te (wipeR (shR S.length ρ) vs) p.1 ((S ++ p.2) ++ [[]])).bind _ = Option.map _ ((lcGo p.2.length tgt tt te (wipeR ρ vs) p.1 (p.2 ++ [[]])).bind _)
    rw [len_sh, app_sh, sh_wipe, lcGo_sh]
    cases lcGo p.2.length tgt tt te (wipeR ρ vs) p.1 (p.2 ++ [[]]) with
    | none => rfl
    | some T2 =>
      show ((S ++ T2)[S.length + p.2.length]?).bind _ = Option.map _ ((T2[p.2.length]?).bind _)
      rw [sto_get]
      cases T2[p.2.length]? with
      | none => rfl
      | some ds =>
        show some (ds, (S ++ T2).take (S.length + p.2.length)) = _
        rw [take_sh]
        rfl⟩
theorem lc2Go_sh {tgt tgt1 : TgD} {tt tt1 : MB} {mi1 : ML} {vs1 : List Nat} {te : M} [FrT tgt] [FrB tt] [FrL mi1] [FrT tgt1] [FrB tt1] [FrM te] (S : Sto) (j : Nat) (ρ : RE) : ∀ (xs : List PyData) (T : Sto),
    lc2Go (S.length + j) tgt tt mi1 vs1 tgt1 tt1 te (shR S.length ρ) xs (S ++ T) = (lc2Go j tgt tt mi1 vs1 tgt1 tt1 te ρ xs T).map (S ++ ·)
  | [], T => rfl
  | x :: xs, T => by
    show (tgt x (shR S.length ρ)).bind _ = Option.map _ ((tgt x ρ).bind _)
    rw [FrT.fr (t := tgt)]
    cases tgt x ρ with
    | none => rfl
    | some ρ1 =>
      show (tt (shR S.length ρ1) (S ++ T)).bind _ = Option.map _ ((tt ρ1 T).bind _)
      rw [FrB.fr (m := tt)]
      cases tt ρ1 T with
      | none => rfl
      | some b =>
        obtain ⟨b, T1⟩ := b
        cases b with
        | false => exact lc2Go_sh S j ρ xs T1
        | true =>
          show (mi1 (shR S.length ρ1) (S ++ T1)).bind _ = Option.map _ ((mi1 ρ1 T1).bind _)
          rw [FrL.fr (m := mi1)]
          cases mi1 ρ1 T1 with
          | none => rfl
          | some p =>
            show (lcGo (S.length + j) tgt1 tt1 te (wipeR (shR S.length ρ1) vs1) p.1 (S ++ p.2)).bind _ = Option.map _ ((lcGo j tgt1 tt1 te (wipeR ρ1 vs1) p.1 p.2).bind _)
            rw [sh_wipe, lcGo_sh]
            cases lcGo j tgt1 tt1 te (wipeR ρ1 vs1) p.1 p.2 with
            | none => rfl
            | some T3 => exact lc2Go_sh S j ρ xs T3
instance (mi : ML) (vs : List Nat) (tgt : TgD) (tt : MB) (mi1 : ML) (vs1 : List Nat) (tgt1 : TgD) (tt1 : MB) (te : M) [FrL mi] [FrT tgt] [FrB tt] [FrL mi1] [FrT tgt1] [FrB tt1] [FrM te] : FrL (mLc2 mi vs tgt tt mi1 vs1 tgt1 tt1 te) := ⟨fun ρ S T => by
  unfold mLc2
  rw [FrL.fr (m := mi)]
  cases mi ρ T with
  | none => rfl
  | some p =>
    show (lc2Go (S ++ p.2).length tgt tt mi1 vs1 tgt1 tt1 te (wipeR (shR S.length ρ) vs) p.1 ((S ++ p.2) ++ [[]])).bind _ = Option.map _ ((lc2Go p.2.length tgt tt mi1 vs1 tgt1 tt1 te (wipeR ρ vs) p.1 (p.2 ++ [[]])).bind _)
    rw [len_sh, app_sh, sh_wipe, lc2Go_sh]
    cases lc2Go p.2.length tgt tt mi1 vs1 tgt1 tt1 te (wipeR ρ vs) p.1 (p.2 ++ [[]]) with
    | none => rfl
    | some T2 =>
      show ((S ++ T2)[S.length + p.2.length]?).bind _ = Option.map _ ((T2[p.2.length]?).bind _)
      rw [sto_get]
      cases T2[p.2.length]? with
      | none => rfl
      | some ds =>
        show some (ds, (S ++ T2).take (S.length + p.2.length)) = _
        rw [take_sh]
        rfl⟩
/-! statements -/
instance : FrS sNil := ⟨fun ρ S T => rfl⟩
instance : FrS sBk := ⟨fun ρ S T => rfl⟩
instance : FrS sCt := ⟨fun ρ S T => rfl⟩
instance : FrS sNever := ⟨fun ρ S T => rfl⟩
instance (a b : MS) [FrS a] [FrS b] : FrS (sSeq a b) := ⟨fun ρ S T => by
  unfold sSeq
  rw [FrS.fr (m := a)]
  cases a ρ T with
  | none => rfl
  | some o => cases o with
    | nx ρ' T' => exact FrS.fr (m := b) ρ' S T'
    | _ => rfl⟩
instance (i : Nat) (m : M) [FrM m] : FrS (sSet i m) := ⟨fun ρ S T => by
  unfold sSet
  rw [FrM.fr (m := m)]
  cases m ρ T with
  | none => rfl
  | some p =>
    show some (Out.nx ((shR S.length ρ).set i (some (shV S.length p.1))) (S ++ p.2)) = _
    rw [sh_set]
    rfl⟩
instance (i : Nat) (m : ML) [FrL m] : FrS (sOwn i m) := ⟨fun ρ S T => by
  unfold sOwn
  rw [FrL.fr (m := m)]
  cases m ρ T with
  | none => rfl
  | some p =>
    show some (Out.nx ((shR S.length ρ).set i (some (.c (S ++ p.2).length))) ((S ++ p.2) ++ [p.1])) = _
    rw [len_sh, app_sh, show PV.c (S.length + p.2.length) = shV S.length (.c p.2.length) from rfl, sh_set]
    rfl⟩
instance (m : M) [FrM m] : FrS (sRet m) := ⟨fun ρ S T => by
  unfold sRet
  rw [FrM.fr (m := m)]
  cases m ρ T <;> rfl⟩
instance (m : ML) [FrL m] : FrS (sRetL m) := ⟨fun ρ S T => by
  unfold sRetL
  rw [FrL.fr (m := m)]
  cases m ρ T <;> rfl⟩
instance (m : M) [FrM m] : FrS (sDrop m) := ⟨fun ρ S T => by
  unfold sDrop
  rw [FrM.fr (m := m)]
  cases m ρ T <;> rfl⟩
instance (c : MB) (a b : MS) [FrB c] [FrS a] [FrS b] : FrS (sIf c a b) := ⟨fun ρ S T => by
  unfold sIf
  rw [FrB.fr (m := c)]
  cases c ρ T with
  | none => rfl
  | some r =>
    obtain ⟨v, T'⟩ := r
    cases v with
    | true => exact FrS.fr (m := a) ρ S T'
    | false => exact FrS.fr (m := b) ρ S T'⟩
instance (i j : Nat) (m : MA) [FrA m] : FrS (sPar i j m) := ⟨fun ρ S T => by
  unfold sPar
  rw [FrA.fr (m := m)]
  cases m ρ T with
  | none => rfl
  | some r =>
    obtain ⟨vs, T'⟩ := r
    cases vs with
    | nil => rfl
    | cons v r => cases r with
      | nil => rfl
      | cons w r => cases r with
        | cons _ _ => rfl
        | nil =>
          show some (Out.nx (((shR S.length ρ).set i (some (shV S.length v))).set j (some (shV S.length w))) (S ++ T')) = _
          rw [sh_set, sh_set]
          rfl⟩
instance (i : Nat) (f : PV → PV → Sto → Option PV) (m : M) [FrOp f] [FrM m] : FrS (sAug i f m) := ⟨fun ρ S T => by
  unfold sAug
  rw [FrM.fr (m := mVar i)]
  cases mVar i ρ T with
  | none => rfl
  | some p =>
    show (m (shR S.length ρ) (S ++ T)).bind _ = Option.map _ ((m ρ T).bind _)
    rw [FrM.fr (m := m)]
    cases m ρ T with
    | none => rfl
    | some q =>
      show (f (shV S.length p.1) (shV S.length q.1) (S ++ q.2)).bind _ = Option.map _ ((f p.1 q.1 q.2).bind _)
      rw [FrOp.fr (f := f)]
      cases f p.1 q.1 q.2 with
      | none => rfl
      | some z =>
        show some (Out.nx ((shR S.length ρ).set i (some (shV S.length z))) (S ++ q.2)) = _
        rw [sh_set]
        rfl⟩
instance (g : TgD) (m : M) [FrT g] [FrM m] : FrS (sAsg g m) := ⟨fun ρ S T => by
  unfold sAsg
  rw [FrM.fr (m := m)]
  cases m ρ T with
  | none => rfl
  | some p =>
    obtain ⟨v, T'⟩ := p
    cases v with
    | c j => rfl
    | d x =>
      show (g x (shR S.length ρ)).bind _ = Option.map _ ((g x ρ).bind _)
      rw [FrT.fr (t := g)]
      cases g x ρ <;> rfl⟩
instance (mo mi mv : M) [FrM mo] [FrM mi] [FrM mv] : FrS (sPut mo mi mv) := ⟨fun ρ S T => by
  unfold sPut
  rw [FrM.fr (m := mv)]
  cases mv ρ T with
  | none => rfl
  | some v =>
    show (mo (shR S.length ρ) (S ++ v.2)).bind _ = Option.map _ ((mo ρ v.2).bind _)
    rw [FrM.fr (m := mo)]
    cases mo ρ v.2 with
    | none => rfl
    | some o =>
      show (mi (shR S.length ρ) (S ++ o.2)).bind _ = Option.map _ ((mi ρ o.2).bind _)
      rw [FrM.fr (m := mi)]
      cases mi ρ o.2 with
      | none => rfl
      | some i =>
        obtain ⟨v, T1⟩ := v
        obtain ⟨o, T2⟩ := o
        obtain ⟨i, T3⟩ := i
        cases v with
        | c _ => rfl
        | d y =>
          cases o with
          | d _ => rfl
          | c j =>
            cases i with
            | c _ => rfl
            | d x =>
              cases x with
              | int z =>
                show ((S ++ T3)[S.length + j]?).bind _ = Option.map _ ((T3[j]?).bind _)
                rw [sto_get]
                cases T3[j]? with
                | none => rfl
                | some ds =>
                  show (ixN ds.length z).bind _ = Option.map _ ((ixN ds.length z).bind _)
                  cases ixN ds.length z with
                  | none => rfl
                  | some n =>
                    show some (Out.nx (shR S.length ρ) ((S ++ T3).set (S.length + j) (ds.set n y))) = _
                    rw [sto_set]
                    rfl
              | _ => rfl⟩
instance (mo mv : M) [FrM mo] [FrM mv] : FrM (mAppend mo mv) := ⟨fun ρ S T => by
  unfold mAppend
  rw [FrM.fr (m := mo)]
  cases mo ρ T with
  | none => rfl
  | some o =>
    show (mv (shR S.length ρ) (S ++ o.2)).bind _ = Option.map _ ((mv ρ o.2).bind _)
    rw [FrM.fr (m := mv)]
    cases mv ρ o.2 with
    | none => rfl
    | some v =>
      obtain ⟨o, T1⟩ := o
      obtain ⟨v, T2⟩ := v
      cases o with
      | d _ => rfl
      | c j =>
        cases v with
        | c _ => rfl
        | d y =>
          show ((S ++ T2)[S.length + j]?).bind _ = Option.map _ ((T2[j]?).bind _)
          rw [sto_get]
          cases T2[j]? with
          | none => rfl
          | some ds =>
            dsimp
            split
            · rw [sto_set]; rfl
            · rfl⟩
instance (mo : M) [FrM mo] : FrM (mReverse mo) := ⟨fun ρ S T => by
  unfold mReverse
  rw [FrM.fr (m := mo)]
  cases mo ρ T with
  | none => rfl
  | some o =>
    obtain ⟨o, T1⟩ := o
    cases o with
    | d _ => rfl
    | c j =>
      show ((S ++ T1)[S.length + j]?).bind _ = Option.map _ ((T1[j]?).bind _)
      rw [sto_get]
      cases T1[j]? with
      | none => rfl
      | some ds =>
        show some (PV.d .none, (S ++ T1).set (S.length + j) ds.reverse) = _
        rw [sto_set]
        rfl⟩
theorem forGo_sh {tgt : TgD} {body : MS} [FrT tgt] [FrS body] (S : Sto) : ∀ (xs : List PyData) (ρ : RE) (T : Sto), forGo tgt body xs (shR S.length ρ) (S ++ T) = (forGo tgt body xs ρ T).map (shO S)
  | [], ρ, T => rfl
  | x :: xs, ρ, T => by
    show (tgt x (shR S.length ρ)).bind _ = Option.map _ ((tgt x ρ).bind _)
    rw [FrT.fr (t := tgt)]
    cases tgt x ρ with
    | none => rfl
    | some ρ1 =>
      show (body (shR S.length ρ1) (S ++ T)).bind _ = Option.map _ ((body ρ1 T).bind _)
      rw [FrS.fr (m := body)]
      cases body ρ1 T with
      | none => rfl
      | some o => cases o with
        | nx ρ' T' => exact forGo_sh S xs ρ' T'
        | ct ρ' T' => exact forGo_sh S xs ρ' T'
        | _ => rfl
instance (mi : ML) (tgt : TgD) (body : MS) [FrL mi] [FrT tgt] [FrS body] : FrS (sFor mi tgt body) := ⟨fun ρ S T => by
  unfold sFor
  rw [FrL.fr (m := mi)]
  cases mi ρ T with
  | none => rfl
  | some p => exact forGo_sh S p.1 ρ p.2⟩
theorem whileGo_sh {c : MB} {body : MS} [FrB c] [FrS body] (S : Sto) : ∀ (n : Nat) (ρ : RE) (T : Sto), whileGo c body n (shR S.length ρ) (S ++ T) = (whileGo c body n ρ T).map (shO S)
  | 0, ρ, T => rfl
  | n + 1, ρ, T => by
    show (c (shR S.length ρ) (S ++ T)).bind _ = Option.map _ ((c ρ T).bind _)
    rw [FrB.fr (m := c)]
    cases c ρ T with
    | none => rfl
    | some r =>
      obtain ⟨v, T'⟩ := r
      cases v with
      | false => rfl
      | true =>
        show (body (shR S.length ρ) (S ++ T')).bind _ = Option.map _ ((body ρ T').bind _)
        rw [FrS.fr (m := body)]
        cases body ρ T' with
        | none => rfl
        | some o => cases o with
          | nx ρ' T' => exact whileGo_sh S n ρ' T'
          | ct ρ' T' => exact whileGo_sh S n ρ' T'
          | _ => rfl
class FrN (f : RE → Sto → Nat) : Prop where
  fr : ∀ ρ S T, f (shR S.length ρ) (S ++ T) = f ρ T
instance (n : Nat) : FrN (fun _ _ => n) := ⟨fun _ _ _ => rfl⟩
instance (f : RE → Sto → Nat) (c : MB) (body : MS) [FrN f] [FrB c] [FrS body] : FrS (sWhile f c body) := ⟨fun ρ S T => by
  unfold sWhile
  rw [FrN.fr (f := f)]
  exact whileGo_sh S _ ρ T⟩
/-! defs -/
theorem sh_start (n N : Nat) (xs : List PV) : (xs.map (shV n)).map some ++ List.replicate (N - (xs.map (shV n)).length) none = shR n (xs.map some ++ List.replicate (N - xs.length) none) := by
  unfold shR
  rw [List.map_append, List.length_map, List.map_map, List.map_map, List.map_replicate]
  rfl
instance (N : Nat) (g : MS) [FrS g] : FrF (runF N g) := ⟨fun xs S T => by
  unfold runF
  rw [sh_start, FrS.fr (m := g)]
  cases g (xs.map some ++ List.replicate (N - xs.length) none) T with
  | none => rfl
  | some o =>
    cases o with
    | bk _ _ => rfl
    | ct _ _ => rfl
    | nx ρ' T' =>
      show some (PV.d .none, (S ++ T').take (S ++ T).length) = _
      rw [len_sh, take_sh]
      rfl
    | rl ds T' =>
      show some (PV.d (.list ds), (S ++ T').take (S ++ T).length) = _
      rw [len_sh, take_sh]
      rfl
    | rt v T' =>
      cases v with
      | d x =>
        show some (PV.d x, (S ++ T').take (S ++ T).length) = _
        rw [len_sh, take_sh]
        rfl
      | c j =>
        show (if S.length + j < (S ++ T).length then some (PV.c (S.length + j), (S ++ T').take (S ++ T).length) else ((S ++ T')[S.length + j]?).map fun ds => (PV.d (.list ds), (S ++ T').take (S ++ T).length)) = Option.map _ (if j < T.length then some (PV.c j, T'.take T.length) else (T'[j]?).map fun ds => (PV.d (.list ds), T'.take T.length))
        rw [len_sh, take_sh, sto_get]
        by_cases h : j < T.length
        · rw [if_pos h, if_pos (by omega)]
          rfl
        · rw [if_neg h, if_neg (by omega)]
          cases T'[j]? <;> rfl⟩
instance (N : Nat) (g : MS) [FrS g] : FrFL (runL N g) := ⟨fun xs S T => by
  unfold runL
  rw [sh_start, FrS.fr (m := g)]
  cases g (xs.map some ++ List.replicate (N - xs.length) none) T with
  | none => rfl
  | some o =>
    cases o with
    | bk _ _ => rfl
    | ct _ _ => rfl
    | nx _ _ => rfl
    | rt _ _ => rfl
    | rl ds T' =>
      show some (ds, (S ++ T').take (S ++ T).length) = _
      rw [len_sh, take_sh]
      rfl⟩
instance : FrFL (fun _ _ => none) := ⟨fun _ _ _ => rfl⟩
instance : FrF (fun _ _ => none) := ⟨fun _ _ _ => rfl⟩
/-- a def asked with data alone, whatever stands in the store -/
theorem map_data (n : Nat) (ds : List PyData) : (ds.map PV.d).map (shV n) = ds.map .d := by
  rw [List.map_map]
  rfl
theorem frame {F : FV} [FrF F] {ds : List PyData} {x : PyData} {T : Sto} (h : F (ds.map .d) [] = some (.d x, T)) (S : Sto) : F (ds.map .d) S = some (.d x, S ++ T) := by
  have z := FrF.fr (F := F) (ds.map .d) S []
  rw [map_data, List.append_nil, h] at z
  exact z
theorem frameL {F : FL} [FrFL F] {ds : List PyData} {x : List PyData} {T : Sto} (h : F (ds.map .d) [] = some (x, T)) (S : Sto) : F (ds.map .d) S = some (x, S ++ T) := by
  have z := FrFL.fr (F := F) (ds.map .d) S []
  rw [map_data, List.append_nil, h] at z
  exact z
end DL

namespace DL
open PySem PySem.Spec PyProof.Rows L2

/-! ### a law's draws -/
def gDraw : MS :=
    (sSeq (sPut (mVar 0) (mC (.int (3))) (mOp fAdd (mOp fIx (mVar 0) (mC (.int (3)))) (mC (.int (1)))))
    (sSeq (sIf (asB (mOp fEq (mOp fIx (mVar 0) (mC (.int (2)))) (mC (.int (0))))) (sSeq (sSet 2 (mOp fIx (mOp fIx (mVar 0) (mC (.int (0)))) (mOp fMod (mOp fIx (mVar 0) (mC (.int (1)))) (mCall cLen (mCons (mOp fIx (mVar 0) (mC (.int (0)))) mNil)))))
    (sSeq (sPut (mVar 0) (mC (.int (1))) (mOp fAdd (mOp fIx (mVar 0) (mC (.int (1)))) (mC (.int (1)))))
    (sSeq (sIf (asB (mOp fLt (mVar 2) (mOp fPow (mC (.int (10))) (mC (.int (18)))))) (sSeq (sSet 3 (mOp fMod (mOp fPow (mOp fAdd (mOp fAdd (mOp fMod (mVar 2) (mC (.int (2147483629)))) (mOp fMul (mC (.int (40763))) (mOp fIx (mVar 0) (mC (.int (3)))))) (mC (.int (1013)))) (mC (.int (5)))) (mC (.int (2147483647)))))
    (sSeq (sSet 3 (mOp fAdd (mOp fMod (mVar 3) (mC (.int (1000003)))) (mC (.int (7)))))
    (sSeq (sSet 3 (mOp fMod (mOp fMul (mVar 3) (mOp fAdd (mOp fMod (mOp fMul (mOp fIx (mVar 0) (mC (.int (3)))) (mOp fIx (mVar 0) (mC (.int (3))))) (mC (.int (99991)))) (mC (.int (104729))))) (mC (.int (2147483587)))))
    (sRet (mOp fMod (mOp fDiv (mVar 3) (mC (.int (11)))) (mVar 1)))))) sNil)
    (sPut (mVar 0) (mC (.int (2))) (mVar 2))))) sNil)
    (sSeq (sSet 4 (mOp fMod (mOp fIx (mVar 0) (mC (.int (2)))) (mVar 1)))
    (sSeq (sPut (mVar 0) (mC (.int (2))) (mOp fDiv (mOp fIx (mVar 0) (mC (.int (2)))) (mVar 1)))
    (sRet (mVar 4))))))
def FDraw : FV := runF 5 gDraw
def feedC (ms : List Int) (i c k : Int) : List PyData := [.list (ms.map .int), .int i, .int c, .int k]

/-! how the pieces come out -/
theorem fEq_int (a b : Int) (S : Sto) : fEq (.d (.int a)) (.d (.int b)) S = some (.d (.bool (a == b))) := by
  unfold fEq
  rfl
theorem fNe_int (a b : Int) (S : Sto) : fNe (.d (.int a)) (.d (.int b)) S = some (.d (.bool (!(a == b)))) := by
  unfold fNe
  rfl
theorem fmod_pos {a b : Int} (h : 0 < b) : a.fmod b = a % b := Int.fmod_eq_emod_of_nonneg a (by omega)
theorem fdiv_pos {a b : Int} (h : 0 < b) : a.fdiv b = a / b := Int.fdiv_eq_ediv_of_nonneg a (by omega)
theorem fMod_int {a b : Int} (h : 0 < b) (S : Sto) : fMod (.d (.int a)) (.d (.int b)) S = some (.d (.int (a % b))) := by
  show (if modOk a b = true then some (PV.d (.int (a.fmod b))) else none) = _
  rw [if_pos (by unfold modOk; simp; omega), fmod_pos h]
theorem fDiv_int {a b : Int} (h : 0 < b) (hl : b.natAbs.log2 < 9000) (S : Sto) : fDiv (.d (.int a)) (.d (.int b)) S = some (.d (.int (a / b))) := by
  show (if divOk a b = true then some (PV.d (.int (a.fdiv b))) else none) = _
  rw [if_pos (by unfold divOk; simp; exact ⟨by omega, hl⟩), fdiv_pos h]
theorem fMul_l {a b : Int} (h1 : -(2 ^ 64) < a) (h2 : a < 2 ^ 64) (S : Sto) : fMul (.d (.int a)) (.d (.int b)) S = some (.d (.int (a * b))) := by
  show (if mulOk a b = true then some (PV.d (.int (a * b))) else none) = _
  rw [if_pos (by unfold mulOk; simp only [Bool.or_eq_true, Bool.and_eq_true, decide_eq_true_eq]; exact .inl (.inl ⟨h1, h2⟩))]
theorem fPow_int {a b : Int} (h0 : 0 ≤ b) (h1 : b ≤ 1000000) (h2 : a.natAbs < 2 ^ 64) (S : Sto) : fPow (.d (.int a)) (.d (.int b)) S = some (.d (.int (a ^ b.toNat))) := by
  show (if powOk a b = true then some (PV.d (.int (a ^ b.toNat))) else none) = _
  rw [if_pos (by unfold powOk; simp only [Bool.and_eq_true, decide_eq_true_eq]; exact ⟨⟨h0, h1⟩, h2⟩)]
theorem set_get (S : Sto) {j : Nat} (h : j < S.length) (x : List PyData) : (S.set j x)[j]? = some x := List.getElem?_set_self h
theorem len_set (S : Sto) (j : Nat) (x : List PyData) : (S.set j x).length = S.length := List.length_set
theorem set_set (S : Sto) (j : Nat) (x y : List PyData) : (S.set j x).set j y = S.set j y := List.set_set ..
/-- an item of the feed -/
theorem fIx_cell {S : Sto} {j : Nat} {ds : List PyData} {z : Int} {y : PyData} (h : S[j]? = some ds) (e : atI ds z = some y) : fIx (.c j) (.d (.int z)) S = some (.d y) := by
  show ((itemsOf S (.c j)).bind fun ds => (atI ds z).map PV.d) = _
  rw [show itemsOf S (.c j) = some ds from h]
  show (atI ds z).map PV.d = _
  rw [e]
  rfl
theorem atI_f0 (a b c d : PyData) : atI [a, b, c, d] 0 = some a := rfl
theorem atI_f1 (a b c d : PyData) : atI [a, b, c, d] 1 = some b := rfl
theorem atI_f2 (a b c d : PyData) : atI [a, b, c, d] 2 = some c := rfl
theorem atI_f3 (a b c d : PyData) : atI [a, b, c, d] 3 = some d := rfl
/-- a cell's item put -/
theorem sPut_cell {mo mi mv : M} {ρ : RE} {S : Sto} {j : Nat} {z : Int} {y : PyData} {ds : List PyData} {n : Nat} (h1 : mv ρ S = some (.d y, S)) (h2 : mo ρ S = some (.c j, S)) (h3 : mi ρ S = some (.d (.int z), S)) (h4 : S[j]? = some ds) (h5 : ixN ds.length z = some n) :
    sPut mo mi mv ρ S = some (.nx ρ (S.set j (ds.set n y))) := by
  unfold sPut
  rw [h1]
  show (mo ρ S).bind _ = _
  rw [h2]
  show (mi ρ S).bind _ = _
  rw [h3]
  show (S[j]?).bind _ = _
  rw [h4]
  show (ixN ds.length z).bind _ = _
  rw [h5]
  rfl
theorem mOp_of {f : PV → PV → Sto → Option PV} {a b : M} {ρ : RE} {S S1 S2 : Sto} {x y z : PV} (h1 : a ρ S = some (x, S1)) (h2 : b ρ S1 = some (y, S2)) (h3 : f x y S2 = some z) : mOp f a b ρ S = some (z, S2) := by
  unfold mOp
  rw [h1]
  show (b ρ S1).bind _ = _
  rw [h2]
  show (f x y S2).bind _ = _
  rw [h3]
  rfl
theorem sSeq_nx {a b : MS} {ρ ρ' : RE} {S S' : Sto} (h : a ρ S = some (.nx ρ' S')) : sSeq a b ρ S = b ρ' S' := by
  unfold sSeq
  rw [h]
  rfl
theorem sSeq_rt {a b : MS} {ρ : RE} {S S' : Sto} {v : PV} (h : a ρ S = some (.rt v S')) : sSeq a b ρ S = some (.rt v S') := by
  unfold sSeq
  rw [h]
  rfl
theorem sIf_t {c : MB} {a b : MS} {ρ : RE} {S S' : Sto} (h : c ρ S = some (true, S')) : sIf c a b ρ S = a ρ S' := by
  unfold sIf
  rw [h]
  rfl
theorem sIf_f {c : MB} {a b : MS} {ρ : RE} {S S' : Sto} (h : c ρ S = some (false, S')) : sIf c a b ρ S = b ρ S' := by
  unfold sIf
  rw [h]
  rfl
theorem asB_of {m : M} {ρ : RE} {S S' : Sto} {b : Bool} (h : m ρ S = some (.d (.bool b), S')) : asB m ρ S = some (b, S') := by
  unfold asB
  rw [h]
  rfl
theorem sSet_of {i : Nat} {m : M} {ρ : RE} {S S' : Sto} {v : PV} (h : m ρ S = some (v, S')) : sSet i m ρ S = some (.nx (ρ.set i (some v)) S') := by
  unfold sSet
  rw [h]
  rfl
theorem sRet_of {m : M} {ρ : RE} {S S' : Sto} {v : PV} (h : m ρ S = some (v, S')) : sRet m ρ S = some (.rt v S') := by
  unfold sRet
  rw [h]
  rfl
theorem small_pow {u k : Int} (h0 : 0 ≤ u) (h1 : u < 2147483629) (h2 : 0 ≤ k) (h3 : k ≤ 1000000000) : (u + 40763 * k + 1013).natAbs < 2 ^ 64 := by
  have : (2 : Nat) ^ 64 = 18446744073709551616 := by decide
  omega
theorem draw_spec {S : Sto} {j : Nat} {ms : List Int} {i c k many : Int} (hS : S[j]? = some (feedC ms i c k)) (hm : ms ≠ []) (hi : 0 ≤ i) (hk : 0 ≤ k) (hk2 : k ≤ 999999999) (hp : 0 < many) (hl : many.natAbs.log2 < 9000) :
    ∃ r i' c', FDraw [.c j, .d (.int many)] S = some (.d (.int r), S.set j (feedC ms i' c' (k + 1))) ∧ 0 ≤ r ∧ r < many ∧ 0 ≤ i' := by
  have hj : j < S.length := (List.getElem?_eq_some_iff.mp hS).1
  have hml : 0 < ms.length := List.length_pos_iff.mpr hm
  -- the first statement
  have e1 : ∀ ρ : RE, ρ[0]? = some (some (.c j)) → sPut (mVar 0) (mC (.int 3)) (mOp fAdd (mOp fIx (mVar 0) (mC (.int 3))) (mC (.int 1))) ρ S = some (.nx ρ (S.set j (feedC ms i c (k + 1)))) := fun ρ h => by
    have v0 : mVar 0 ρ S = some (.c j, S) := by unfold mVar; rw [h]
    exact sPut_cell (n := 3) (mOp_of (mOp_of v0 rfl (fIx_cell hS (atI_f3 ..))) rfl rfl) v0 rfl hS rfl
  have rd : ∀ {T : Sto} {i c k : Int} {ρ : RE} (q : PyData) (z : Int), T[j]? = some (feedC ms i c k) → ρ[0]? = some (some (.c j)) → atI (feedC ms i c k) z = some q → mOp fIx (mVar 0) (mC (.int z)) ρ T = some (.d q, T) := fun {T i c k ρ} q z h1 h2 h3 => by
    have v0 : mVar 0 ρ T = some (.c j, T) := by unfold mVar; rw [h2]
    exact mOp_of v0 rfl (fIx_cell h1 h3)
  have pt : ∀ {T : Sto} {i c k : Int} {ρ : RE} {mv : M} (z : Int) (n : Nat) (y : PyData), T[j]? = some (feedC ms i c k) → ρ[0]? = some (some (.c j)) → mv ρ T = some (.d y, T) → ixN 4 z = some n → sPut (mVar 0) (mC (.int z)) mv ρ T = some (.nx ρ (T.set j ((feedC ms i c k).set n y))) := fun {T i c k ρ mv} z n y h1 h2 h3 h4 => by
    have v0 : mVar 0 ρ T = some (.c j, T) := by unfold mVar; rw [h2]
    exact sPut_cell h3 v0 rfl h1 h4
  generalize hT : S.set j (feedC ms i c (k + 1)) = T at e1
  have tj : T[j]? = some (feedC ms i c (k + 1)) := by rw [← hT]; exact set_get S hj _
  have tl : j < T.length := by rw [← hT, len_set]; exact hj
  -- the figures of a great cell
  have tail : ∀ {U : Sto} {i2 c2 : Int} {ρ : RE}, U[j]? = some (feedC ms i2 c2 (k + 1)) → ρ[0]? = some (some (.c j)) → ρ[1]? = some (some (.d (.int many))) → 4 < ρ.length → (sSeq (sSet 4 (mOp fMod (mOp fIx (mVar 0) (mC (.int (2)))) (mVar 1)))
    (sSeq (sPut (mVar 0) (mC (.int (2))) (mOp fDiv (mOp fIx (mVar 0) (mC (.int (2)))) (mVar 1)))
    (sRet (mVar 4)))) ρ U = some (.rt (.d (.int (c2 % many))) (U.set j (feedC ms i2 (c2 / many) (k + 1)))) := fun {U i2 c2 ρ} h1 h2 h3 h4 => by
    have v1 : ∀ {ρ : RE}, ρ[1]? = some (some (.d (.int many))) → mVar 1 ρ U = some (.d (.int many), U) := fun {ρ} h => by unfold mVar; rw [h]
    rw [sSeq_nx (sSet_of (mOp_of (rd _ 2 h1 h2 (atI_f2 ..)) (v1 h3) (fMod_int hp U)))]
    have h2' : (ρ.set 4 (some (.d (.int (c2 % many)))))[0]? = some (some (.c j)) := by rw [List.getElem?_set_ne (by decide)]; exact h2
    have h3' : (ρ.set 4 (some (.d (.int (c2 % many)))))[1]? = some (some (.d (.int many))) := by rw [List.getElem?_set_ne (by decide)]; exact h3
    rw [sSeq_nx (pt 2 2 _ h1 h2' (mOp_of (rd _ 2 h1 h2' (atI_f2 ..)) (v1 h3') (fDiv_int hp hl U)) rfl)]
    refine sRet_of ?_
    unfold mVar
    rw [List.getElem?_set_self h4]
    rfl
  unfold FDraw runF
  show ∃ r i' c', (gDraw [some (.c j), some (.d (.int many)), none, none, none] S).bind _ = _ ∧ _
  unfold gDraw
  rw [sSeq_nx (e1 _ rfl)]
  by_cases hc : c = 0
  · -- a cell of the script
    subst hc
    have hx : ∃ x, ms[(i % (ms.length : Int)).toNat]? = some x := by
      have b1 := Int.emod_nonneg i (show (ms.length : Int) ≠ 0 by omega)
      have b2 := Int.emod_lt_of_pos i (show (0 : Int) < ms.length by omega)
      exact ⟨_, List.getElem?_eq_getElem (by omega)⟩
    obtain ⟨x, hx⟩ := hx
    have hxa : atI (ms.map PyData.int) (i % (ms.length : Int)) = some (.int x) := by
      have b1 := Int.emod_nonneg i (show (ms.length : Int) ≠ 0 by omega)
      have b2 := Int.emod_lt_of_pos i (show (0 : Int) < ms.length by omega)
      unfold atI ixN
      rw [List.length_map, if_pos b1, if_pos b2]
      show (ms.map PyData.int)[(i % (ms.length : Int)).toNat]? = _
      rw [List.getElem?_map, hx]
      rfl
    have cond : asB (mOp fEq (mOp fIx (mVar 0) (mC (.int 2))) (mC (.int 0))) [some (.c j), some (.d (.int many)), none, none, none] T = some (true, T) := asB_of (mOp_of (rd _ 2 tj rfl (atI_f2 ..)) rfl (fEq_int 0 0 T))
    have cell : mOp fIx (mOp fIx (mVar 0) (mC (.int 0))) (mOp fMod (mOp fIx (mVar 0) (mC (.int 1))) (mCall cLen (mCons (mOp fIx (mVar 0) (mC (.int 0))) mNil))) [some (.c j), some (.d (.int many)), none, none, none] T = some (.d (.int x), T) := by
      have a0 := rd (ρ := [some (.c j), some (.d (.int many)), none, none, none]) _ 0 tj rfl (atI_f0 ..)
      have ln : mCall cLen (mCons (mOp fIx (mVar 0) (mC (.int 0))) mNil) [some (.c j), some (.d (.int many)), none, none, none] T = some (.d (.int (ms.length : Int)), T) := by
        unfold mCall mCons
        rw [a0]
        show some (PV.d (.int ((ms.map PyData.int).length : Int)), T) = _
        rw [List.length_map]
      refine mOp_of a0 (mOp_of (rd _ 1 tj rfl (atI_f1 ..)) ln (fMod_int (by omega) T)) ?_
      show (atI (ms.map PyData.int) (i % (ms.length : Int))).map PV.d = _
      rw [hxa]
      rfl
    generalize hU : T.set j (feedC ms (i + 1) 0 (k + 1)) = U
    have uj : U[j]? = some (feedC ms (i + 1) 0 (k + 1)) := by rw [← hU]; exact set_get T tl _
    have put1 : ∀ ρ : RE, ρ[0]? = some (some (.c j)) → sPut (mVar 0) (mC (.int 1)) (mOp fAdd (mOp fIx (mVar 0) (mC (.int 1))) (mC (.int 1))) ρ T = some (.nx ρ U) := fun ρ h => by
      rw [pt 1 1 (.int (i + 1)) tj h (mOp_of (rd _ 1 tj h (atI_f1 ..)) rfl rfl) rfl, ← hU]
      rfl
    by_cases hx18 : x < 10 ^ 18
    · -- mixed
      have inner : ∃ r, (sSeq (sSet 2 (mOp fIx (mOp fIx (mVar 0) (mC (.int (0)))) (mOp fMod (mOp fIx (mVar 0) (mC (.int (1)))) (mCall cLen (mCons (mOp fIx (mVar 0) (mC (.int (0)))) mNil)))))
    (sSeq (sPut (mVar 0) (mC (.int (1))) (mOp fAdd (mOp fIx (mVar 0) (mC (.int (1)))) (mC (.int (1)))))
    (sSeq (sIf (asB (mOp fLt (mVar 2) (mOp fPow (mC (.int (10))) (mC (.int (18)))))) (sSeq (sSet 3 (mOp fMod (mOp fPow (mOp fAdd (mOp fAdd (mOp fMod (mVar 2) (mC (.int (2147483629)))) (mOp fMul (mC (.int (40763))) (mOp fIx (mVar 0) (mC (.int (3)))))) (mC (.int (1013)))) (mC (.int (5)))) (mC (.int (2147483647)))))
    (sSeq (sSet 3 (mOp fAdd (mOp fMod (mVar 3) (mC (.int (1000003)))) (mC (.int (7)))))
    (sSeq (sSet 3 (mOp fMod (mOp fMul (mVar 3) (mOp fAdd (mOp fMod (mOp fMul (mOp fIx (mVar 0) (mC (.int (3)))) (mOp fIx (mVar 0) (mC (.int (3))))) (mC (.int (99991)))) (mC (.int (104729))))) (mC (.int (2147483587)))))
    (sRet (mOp fMod (mOp fDiv (mVar 3) (mC (.int (11)))) (mVar 1)))))) sNil)
    (sPut (mVar 0) (mC (.int (2))) (mVar 2))))) [some (.c j), some (.d (.int many)), none, none, none] T = some (.rt (.d (.int r)) U) ∧ 0 ≤ r ∧ r < many := by
        rw [sSeq_nx (sSet_of cell)]
        show ∃ r, (sSeq _ _) [some (.c j), some (.d (.int many)), some (.d (.int x)), none, none] T = _ ∧ _
        rw [sSeq_nx (put1 _ rfl)]
        have c18 : asB (mOp fLt (mVar 2) (mOp fPow (mC (.int (10))) (mC (.int (18))))) [some (.c j), some (.d (.int many)), some (.d (.int x)), none, none] U = some (true, U) := by
          refine asB_of (mOp_of (z := .d (.bool true)) rfl (mOp_of rfl rfl (fPow_int (by decide) (by decide) (by decide) U)) ?_)
          show some (PV.d (.bool (decide (x < 10 ^ 18)))) = _
          rw [decide_eq_true hx18]
        have k3 : ∀ ρ : RE, ρ[0]? = some (some (.c j)) → mOp fIx (mVar 0) (mC (.int (3))) ρ U = some (.d (.int (k + 1)), U) := fun ρ h => rd _ 3 uj h (atI_f3 ..)
        have u0 := Int.emod_nonneg x (show (2147483629 : Int) ≠ 0 by decide)
        have u1 := Int.emod_lt_of_pos x (show (0 : Int) < 2147483629 by decide)
        let w1 : Int := (x % 2147483629 + 40763 * (k + 1) + 1013) ^ 5 % 2147483647
        let w2 : Int := w1 % 1000003 + 7
        have w20 := Int.emod_nonneg w1 (show (1000003 : Int) ≠ 0 by decide)
        have w21 := Int.emod_lt_of_pos w1 (show (0 : Int) < 1000003 by decide)
        let w3 : Int := w2 * ((k + 1) * (k + 1) % 99991 + 104729) % 2147483587
        have m1 : mOp fMod (mOp fPow (mOp fAdd (mOp fAdd (mOp fMod (mVar 2) (mC (.int (2147483629)))) (mOp fMul (mC (.int (40763))) (mOp fIx (mVar 0) (mC (.int (3)))))) (mC (.int (1013)))) (mC (.int (5)))) (mC (.int (2147483647))) [some (.c j), some (.d (.int many)), some (.d (.int x)), none, none] U = some (.d (.int w1), U) :=
          mOp_of (mOp_of (mOp_of (mOp_of (mOp_of rfl rfl (fMod_int (by decide) U)) (mOp_of rfl (k3 _ rfl) (fMul_l (by decide) (by decide) U)) rfl) rfl rfl) rfl (fPow_int (by decide) (by decide) (small_pow u0 u1 (by omega) (by omega)) U)) rfl (fMod_int (by decide) U)
        have m2 : mOp fAdd (mOp fMod (mVar 3) (mC (.int (1000003)))) (mC (.int (7))) [some (.c j), some (.d (.int many)), some (.d (.int x)), some (.d (.int w1)), none] U = some (.d (.int w2), U) := mOp_of (mOp_of rfl rfl (fMod_int (by decide) U)) rfl rfl
        have m3 : mOp fMod (mOp fMul (mVar 3) (mOp fAdd (mOp fMod (mOp fMul (mOp fIx (mVar 0) (mC (.int (3)))) (mOp fIx (mVar 0) (mC (.int (3))))) (mC (.int (99991)))) (mC (.int (104729))))) (mC (.int (2147483587))) [some (.c j), some (.d (.int many)), some (.d (.int x)), some (.d (.int w2)), none] U = some (.d (.int w3), U) := by
          have z64 : (18446744073709551616 : Int) = 2 ^ 64 := by decide
          refine mOp_of (mOp_of rfl (mOp_of (mOp_of (mOp_of (k3 _ rfl) (k3 _ rfl) (fMul_l (by omega) (by omega) U)) rfl (fMod_int (by decide) U)) rfl rfl) (fMul_l (b := (k + 1) * (k + 1) % 99991 + 104729) ?_ ?_ U)) rfl (fMod_int (by decide) U)
          · show -(2 ^ 64) < w1 % 1000003 + 7
            omega
          · show w1 % 1000003 + 7 < 2 ^ 64
            omega
        have m4 : mOp fMod (mOp fDiv (mVar 3) (mC (.int (11)))) (mVar 1) [some (.c j), some (.d (.int many)), some (.d (.int x)), some (.d (.int w3)), none] U = some (.d (.int (w3 / 11 % many)), U) := mOp_of (mOp_of rfl rfl (fDiv_int (by decide) (by decide) U)) rfl (fMod_int hp U)
        refine ⟨w3 / 11 % many, sSeq_rt ?_, Int.emod_nonneg _ (by omega), Int.emod_lt_of_pos _ hp⟩
        rw [sIf_t c18, sSeq_nx (sSet_of m1)]
        show (sSeq _ _) [some (.c j), some (.d (.int many)), some (.d (.int x)), some (.d (.int w1)), none] U = _
        rw [sSeq_nx (sSet_of m2)]
        show (sSeq _ _) [some (.c j), some (.d (.int many)), some (.d (.int x)), some (.d (.int w2)), none] U = _
        rw [sSeq_nx (sSet_of m3)]
        exact sRet_of m4
      obtain ⟨r, e, r0, r1⟩ := inner
      refine ⟨r, i + 1, 0, ?_, r0, r1, by omega⟩
      rw [sSeq_rt (by rw [sIf_t cond]; exact e)]
      show some (PV.d (.int r), U.take S.length) = _
      rw [List.take_of_length_le (by rw [← hU, len_set, ← hT, len_set]; exact Nat.le_refl _), ← hU, ← hT, set_set]
    · -- a great one
      have c18 : asB (mOp fLt (mVar 2) (mOp fPow (mC (.int (10))) (mC (.int (18))))) [some (.c j), some (.d (.int many)), some (.d (.int x)), none, none] U = some (false, U) := by
        refine asB_of (mOp_of (z := .d (.bool false)) rfl (mOp_of rfl rfl (fPow_int (by decide) (by decide) (by decide) U)) ?_)
        show some (PV.d (.bool (decide (x < 10 ^ 18)))) = _
        rw [decide_eq_false hx18]
      generalize hW : U.set j (feedC ms (i + 1) x (k + 1)) = W
      have ul : j < U.length := by rw [← hU, len_set]; exact tl
      have wj : W[j]? = some (feedC ms (i + 1) x (k + 1)) := by rw [← hW]; exact set_get U ul _
      have put2 : sPut (mVar 0) (mC (.int (2))) (mVar 2) [some (.c j), some (.d (.int many)), some (.d (.int x)), none, none] U = some (.nx [some (.c j), some (.d (.int many)), some (.d (.int x)), none, none] W) := by
        rw [pt 2 2 (.int x) uj rfl rfl rfl, ← hW]
        rfl
      refine ⟨x % many, i + 1, x / many, ?_, Int.emod_nonneg _ (by omega), Int.emod_lt_of_pos _ hp, by omega⟩
      rw [sSeq_nx (ρ' := [some (.c j), some (.d (.int many)), some (.d (.int x)), none, none]) (S' := W) (by
        rw [sIf_t cond, sSeq_nx (sSet_of cell)]
        show (sSeq _ _) [some (.c j), some (.d (.int many)), some (.d (.int x)), none, none] T = _
        rw [sSeq_nx (put1 _ rfl), sSeq_nx (ρ' := [some (.c j), some (.d (.int many)), some (.d (.int x)), none, none]) (S' := U) (by rw [sIf_f c18]; rfl)]
        exact put2)]
      rw [tail wj rfl rfl (by simp)]
      show some (PV.d (.int (x % many)), (W.set j _).take S.length) = _
      rw [List.take_of_length_le (by rw [len_set, ← hW, len_set, ← hU, len_set, ← hT, len_set]; exact Nat.le_refl _), ← hW, ← hU, ← hT, set_set, set_set, set_set]
  · have cond : asB (mOp fEq (mOp fIx (mVar 0) (mC (.int 2))) (mC (.int 0))) [some (.c j), some (.d (.int many)), none, none, none] T = some (false, T) := by
      refine asB_of (mOp_of (z := .d (.bool false)) (rd _ 2 tj rfl (atI_f2 ..)) rfl ?_)
      rw [fEq_int, beq_eq_false_iff_ne.mpr hc]
    refine ⟨c % many, i, c / many, ?_, Int.emod_nonneg _ (by omega), Int.emod_lt_of_pos _ hp, hi⟩
    rw [sSeq_nx (ρ' := [some (.c j), some (.d (.int many)), none, none, none]) (S' := T) (by rw [sIf_f cond]; rfl), tail tj rfl rfl (by simp)]
    show some (PV.d (.int (c % many)), (T.set j _).take S.length) = _
    rw [List.take_of_length_le (by rw [len_set, ← hT, len_set]; exact Nat.le_refl _), ← hT, set_set]
end DL

namespace DL
open PySem PySem.Spec PyProof.Rows L2
def gFeed : MS :=
    (sRetL (mLst (mCons (mFz (mOpL fCatL (mFz (mCallL cList (mCons (mFz (mSlL (mVar 0) oNone (oSome (mC (.int (63)))))) mNil))) (mFz (mRep (mLst (mCons (mC (.int (0))) mNil)) (mCall cInt (mCons (mOp fEq (mCall cLen (mCons (mVar 0) mNil)) (mC (.int (0)))) mNil)))))) (mCons (mC (.int (0))) (mCons (mC (.int (0))) (mCons (mC (.int (0))) mNil))))))
def FFeed : FL := runL 1 gFeed
/-- a list's items, drawn one by one, and the like -/
theorem mCons_of {m : M} {ms : MA} {ρ : RE} {S S1 S2 : Sto} {v : PV} {vs : List PV} (h1 : m ρ S = some (v, S1)) (h2 : ms ρ S1 = some (vs, S2)) : mCons m ms ρ S = some (v :: vs, S2) := by
  unfold mCons
  rw [h1]
  show (ms ρ S1).bind _ = _
  rw [h2]
  rfl
theorem mFn_of {n : Nat} {F : FV} {m : MA} {ρ : RE} {S S1 S2 : Sto} {vs : List PV} {v : PV} (h1 : m ρ S = some (vs, S1)) (hn : vs.length = n) (h2 : F vs S1 = some (v, S2)) : mFn n F m ρ S = some (v, S2) := by
  unfold mFn
  rw [h1]
  show (if vs.length = n then F vs S1 else none) = _
  rw [if_pos hn, h2]
theorem mFnL_of {n : Nat} {F : FL} {m : MA} {ρ : RE} {S S1 S2 : Sto} {vs : List PV} {v : List PyData} (h1 : m ρ S = some (vs, S1)) (hn : vs.length = n) (h2 : F vs S1 = some (v, S2)) : mFnL n F m ρ S = some (v, S2) := by
  unfold mFnL
  rw [h1]
  show (if vs.length = n then F vs S1 else none) = _
  rw [if_pos hn, h2]
theorem mFz_of {m : ML} {ρ : RE} {S S1 : Sto} {ds : List PyData} (h : m ρ S = some (ds, S1)) : mFz m ρ S = some (.d (.list ds), S1) := by
  unfold mFz
  rw [h]
  rfl
theorem sOwn_of {i : Nat} {m : ML} {ρ : RE} {S S1 : Sto} {ds : List PyData} (h : m ρ S = some (ds, S1)) : sOwn i m ρ S = some (.nx (ρ.set i (some (.c S1.length))) (S1 ++ [ds])) := by
  unfold sOwn
  rw [h]
  rfl
theorem sDrop_of {m : M} {ρ : RE} {S S1 : Sto} {v : PV} (h : m ρ S = some (v, S1)) : sDrop m ρ S = some (.nx ρ S1) := by
  unfold sDrop
  rw [h]
  rfl
theorem bNot_of {m : MB} {ρ : RE} {S S1 : Sto} {b : Bool} (h : m ρ S = some (b, S1)) : bNot m ρ S = some (!b, S1) := by
  unfold bNot
  rw [h]
  rfl
theorem mLend_true {n : Nat} {F : FV} {m : MA} {ρ : RE} {S S1 T : Sto} {vs ys : List PV} {b : Bool} (h1 : m ρ S = some (vs, S1)) (h2 : lend S1 vs = some ys) (hn : ys.length = n) (h3 : F ys [] = some (.d (.bool b), T)) : mLend n F m ρ S = some (.d (.bool b), S1) := by
  unfold mLend
  rw [h1]
  show (lend S1 vs).bind _ = _
  rw [h2]
  show (if ys.length = n then _ else none) = _
  rw [if_pos hn, h3]
  rfl
theorem sFor_of {mi : ML} {tgt : TgD} {body : MS} {ρ : RE} {S S1 : Sto} {xs : List PyData} (h : mi ρ S = some (xs, S1)) : sFor mi tgt body ρ S = forGo tgt body xs ρ S1 := by
  unfold sFor
  rw [h]
  rfl
theorem for_nil {tgt : TgD} {body : MS} {ρ : RE} {S : Sto} : forGo tgt body [] ρ S = some (.nx ρ S) := rfl
theorem for_nx {tgt : TgD} {body : MS} {ρ ρ1 ρ' : RE} {S S' : Sto} {x : PyData} {xs : List PyData} (h1 : tgt x ρ = some ρ1) (h2 : body ρ1 S = some (.nx ρ' S')) : forGo tgt body (x :: xs) ρ S = forGo tgt body xs ρ' S' := by
  show (tgt x ρ).bind _ = _
  rw [h1]
  show (body ρ1 S).bind _ = _
  rw [h2]
  rfl
/-- a truth that a run comes to -/
def isT : Option (PV × Sto) → Bool
  | some (.d (.bool true), _) => true
  | _ => false
theorem isT_of {r : Option (PV × Sto)} (h : isT r = true) : ∃ T, r = some (.d (.bool true), T) := by
  unfold isT at h
  split at h
  · exact ⟨_, rfl⟩
  · cases h
theorem last_get (S : Sto) (x : List PyData) : (S ++ [x])[S.length]? = some x := by simp
theorem last_set (S : Sto) (x y : List PyData) : (S ++ [x]).set S.length y = S ++ [y] := by simp
theorem mCallL_of {f : List PV → Sto → Option (List PyData)} {m : MA} {ρ : RE} {S S1 : Sto} {vs : List PV} {z : List PyData} (h1 : m ρ S = some (vs, S1)) (h2 : f vs S1 = some z) : mCallL f m ρ S = some (z, S1) := by
  unfold mCallL
  rw [h1]
  show (f vs S1).bind _ = _
  rw [h2]
  rfl
theorem mCall_of {f : List PV → Sto → Option PV} {m : MA} {ρ : RE} {S S1 : Sto} {vs : List PV} {z : PV} (h1 : m ρ S = some (vs, S1)) (h2 : f vs S1 = some z) : mCall f m ρ S = some (z, S1) := by
  unfold mCall
  rw [h1]
  show (f vs S1).bind _ = _
  rw [h2]
  rfl
theorem mOpL_of {f : PV → PV → Sto → Option (List PyData)} {a b : M} {ρ : RE} {S S1 S2 : Sto} {x y : PV} {z : List PyData} (h1 : a ρ S = some (x, S1)) (h2 : b ρ S1 = some (y, S2)) (h3 : f x y S2 = some z) : mOpL f a b ρ S = some (z, S2) := by
  unfold mOpL
  rw [h1]
  show (b ρ S1).bind _ = _
  rw [h2]
  show (f x y S2).bind _ = _
  rw [h3]
  rfl
theorem mLst_of {m : MA} {ρ : RE} {S S1 : Sto} {vs : List PV} {ds : List PyData} (h1 : m ρ S = some (vs, S1)) (h2 : datas vs = some ds) (h3 : ds.length ≤ 1000) : mLst m ρ S = some (ds, S1) := by
  unfold mLst
  rw [h1]
  show (datas vs).bind _ = _
  rw [h2]
  show (if ds.length ≤ 1000 then some (ds, S1) else none) = _
  rw [if_pos h3]
theorem mTup_of {m : MA} {ρ : RE} {S S1 : Sto} {vs : List PV} {ds : List PyData} (h1 : m ρ S = some (vs, S1)) (h2 : datas vs = some ds) (h3 : ds.length ≤ 1000) : mTup m ρ S = some (.d (.tuple ds), S1) := by
  unfold mTup
  rw [h1]
  show (datas vs).bind _ = _
  rw [h2]
  show (if ds.length ≤ 1000 then some (PV.d (.tuple ds), S1) else none) = _
  rw [if_pos h3]
theorem mRep_of {m : ML} {mb : M} {ρ : RE} {S S1 S2 : Sto} {ds : List PyData} {k : Int} (h1 : m ρ S = some (ds, S1)) (h2 : mb ρ S1 = some (.d (.int k), S2)) (h3 : k ≤ 1000000) (h4 : -1000000 ≤ k) (h5 : ds.length * k.toNat ≤ 1000000) : mRep m mb ρ S = some ((List.replicate k.toNat ds).flatten, S2) := by
  unfold mRep
  rw [h1]
  show (mb ρ S1).bind _ = _
  rw [h2]
  show (if k ≤ 1000000 ∧ -1000000 ≤ k ∧ ds.length * k.toNat ≤ 1000000 then _ else none) = _
  rw [if_pos ⟨h3, h4, h5⟩]
theorem mSeq_list {m : M} {ρ : RE} {S S1 : Sto} {xs : List PyData} (h : m ρ S = some (.d (.list xs), S1)) : mSeq m ρ S = some (xs, S1) := by
  unfold mSeq
  rw [h]
  rfl
theorem mSeq_tup {m : M} {ρ : RE} {S S1 : Sto} {xs : List PyData} (h : m ρ S = some (.d (.tuple xs), S1)) : mSeq m ρ S = some (xs, S1) := by
  unfold mSeq
  rw [h]
  rfl
theorem cut63 (xs : List PyData) (h : xs.length ≤ 63) : cut xs none (some 63) = xs := by
  refine cut_whole ⟨rfl, ?_⟩
  rw [show (63 : Int) = ((63 : Nat) : Int) from rfl, HT.sIx_nat]
  omega
theorem feed_spec (ns : List Int) (h : ns.length ≤ 63) : ∃ ms : List Int, ms ≠ [] ∧ FFeed [.d (.list (ns.map .int))] [] = some (feedC ms 0 0 0, []) := by
  have hl : (ns.map PyData.int).length ≤ 63 := by rw [List.length_map]; exact h
  have sl : mSlL (mVar 0) oNone (oSome (mC (.int (63)))) [some (.d (.list (ns.map .int)))] [] = some (ns.map .int, []) := by
    show some (cut (ns.map PyData.int) none (some 63), []) = _
    rw [cut63 _ hl]
  have li : mCallL cList (mCons (mFz (mSlL (mVar 0) oNone (oSome (mC (.int (63)))))) mNil) [some (.d (.list (ns.map .int)))] [] = some (ns.map .int, []) := mCallL_of (mCons_of (mFz_of sl) rfl) rfl
  have eqn : mCall cInt (mCons (mOp fEq (mCall cLen (mCons (mVar 0) mNil)) (mC (.int (0)))) mNil) [some (.d (.list (ns.map .int)))] [] = some (.d (.int (if ((ns.length : Int) == 0) = true then 1 else 0)), []) := by
    have z : mOp fEq (mCall cLen (mCons (mVar 0) mNil)) (mC (.int (0))) [some (.d (.list (ns.map .int)))] [] = some (.d (.bool ((ns.length : Int) == 0)), []) := by
      refine mOp_of (x := .d (.int ns.length)) (S1 := []) ?_ rfl (fEq_int _ _ _)
      show some (PV.d (.int ((ns.map PyData.int).length : Int)), ([] : Sto)) = _
      rw [List.length_map]
    exact mCall_of (mCons_of z rfl) rfl
  have hi1 : (if ((ns.length : Int) == 0) = true then (1 : Int) else 0) ≤ 1 := by split <;> decide
  have hi0 : 0 ≤ (if ((ns.length : Int) == 0) = true then (1 : Int) else 0) := by split <;> decide
  have rp := mRep_of (m := mLst (mCons (mC (.int (0))) mNil)) (ρ := [some (.d (.list (ns.map .int)))]) (S := []) rfl eqn (by omega) (by omega) (by show 1 * _ ≤ 1000000; omega)
  have e2 : ∃ ms : List Int, ms ≠ [] ∧ ns.map PyData.int ++ (List.replicate (if ((ns.length : Int) == 0) = true then (1 : Int) else 0).toNat [PyData.int 0]).flatten = ms.map .int ∧ (ns.map PyData.int).length + ((List.replicate (if ((ns.length : Int) == 0) = true then (1 : Int) else 0).toNat [PyData.int 0]).flatten).length ≤ 1000000 := by
    cases ns with
    | nil => exact ⟨[0], by simp, rfl, by decide⟩
    | cons n r =>
      have ez : (((n :: r).length : Int) == 0) = false := by
        rw [beq_eq_false_iff_ne, List.length_cons]
        omega
      rw [ez]
      refine ⟨n :: r, by simp, ?_, ?_⟩
      · show (n :: r).map PyData.int ++ [] = _
        rw [List.append_nil]
      · show ((n :: r).map PyData.int).length + 0 ≤ 1000000
        omega
  obtain ⟨ms, hm, e3, e4⟩ := e2
  refine ⟨ms, hm, ?_⟩
  have ct := mOpL_of (f := fCatL) (mFz_of li) (mFz_of rp) (z := ms.map .int) (by
    show (if _ ≤ 1000000 then some _ else none) = _
    rw [if_pos e4, e3])
  unfold FFeed runL
  show (gFeed [some (.d (.list (ns.map .int)))] []).bind _ = _
  unfold gFeed sRetL
  rw [mLst_of (mCons_of (mFz_of ct) rfl) rfl (by simp)]
  rfl
end DL

namespace DL
open PySem PySem.Spec PyProof.Rows L2
instance (i : Nat) : FrN (fuelAt i) := ⟨fun ρ S T => by
  unfold fuelAt
  have : (shR S.length ρ)[i]? = (ρ[i]?).map (Option.map (shV S.length)) := by
    unfold shR
    rw [List.getElem?_map]
  rw [this]
  cases ρ[i]? with
  | none => rfl
  | some o => cases o with
    | none => rfl
    | some v => cases v with
      | c j => rfl
      | d x => rfl⟩
theorem log2_of {n k : Nat} (hk : 0 < k) (h : n < 2 ^ k) : n.log2 < k := by
  by_cases h0 : n = 0
  · subst h0
    exact hk
  · exact (Nat.log2_lt h0).mpr h
theorem shownInt_le {i : Int} (h : i.natAbs.log2 < 1920) : (PyData.shown (.int i)).length ≤ 1921 := by
  have e := int_text_length_le (k := 1920) (by decide) h
  show (Str.ofString (toString i)).length ≤ 1921
  rw [PySem.ofString_length]
  exact e
theorem reprOk_pair {x y : Int} (hx : x.natAbs.log2 < 1920) (hy : y.natAbs.log2 < 1920) : reprOk (.tuple [.int x, .int y]) = true := by
  have h1 : (PyData.tuple [.int x, .int y]).showable = true := by
    show (decide (x.natAbs.log2 < 1920) && (decide (y.natAbs.log2 < 1920) && true)) = true
    simp [hx, hy]
  have h2 : (PyData.tuple [.int x, .int y]).leavesShort 1921 = true := by
    show (decide ((PyData.shown (.int x)).length ≤ 1921) && (decide ((PyData.shown (.int y)).length ≤ 1921) && true)) = true
    simp [shownInt_le hx, shownInt_le hy]
  have h3 := PyData.shown_le 1921 (by decide) _ h2
  have w : ∀ {i : Int}, i.natAbs.log2 < 1920 → (PyData.int i).weight ≤ 1920 := fun {i} h => by
    show (if i == 0 then 0 else i.natAbs.log2 + 1) ≤ 1920
    split <;> omega
  have w1 := w hx
  have w2 := w hy
  have h4 : (PyData.tuple [.int x, .int y]).weight ≤ 4000 := by
    simp only [PyData.weight, PyData.weightAll] at w1 w2 ⊢
    omega
  unfold reprOk
  rw [h1]
  have h5 : (PyData.tuple [.int x, .int y]).hasDict = false := rfl
  have h6 : (PyData.tuple [.int x, .int y]).depth ≤ 40 := by simp [PyData.depth, PyData.depthAll]
  rw [h5, decide_eq_true h6, decide_eq_true (by omega)]
  rfl
theorem cRepr_pair {x y : Int} (hx : x.natAbs.log2 < 1920) (hy : y.natAbs.log2 < 1920) (S : Sto) : cRepr [.d (.tuple [.int x, .int y])] S = some (.d (.str (PyData.tuple [.int x, .int y]).shown)) := by
  show (if reprOk (.tuple [.int x, .int y]) = true then _ else none) = _
  rw [if_pos (reprOk_pair hx hy)]
theorem ok_app {a b : Str} (ha : PyData.strOk a = true) (hb : PyData.strOk b = true) : PyData.strOk (a ++ b) = true := by
  show (a.cps ++ b.cps).all _ = true
  rw [Array.all_append, Bool.and_eq_true]
  exact ⟨ha, hb⟩
theorem ok_str (s : String) : PyData.strOk (Str.ofString s) = true := by
  unfold PyData.strOk
  rw [Array.all_eq_true']
  intro c hc
  have h : c ∈ (Str.ofString s).cps.toList := by simpa using hc
  have e : (Str.ofString s).cps.toList = s.toList.map Char.toNat := by rw [Str.ofString_eq_toList]
  rw [e] at h
  obtain ⟨ch, _, rfl⟩ := List.mem_map.mp h
  have := ch.valid
  apply decide_eq_true
  unfold Char.toNat
  rcases this with h | h
  · have : ch.val.toNat < 0xd800 := h
    omega
  · exact h.2
theorem ok_join {sep : Str} (hs : PyData.strOk sep = true) : ∀ ts : List Str, (∀ t ∈ ts, PyData.strOk t = true) → PyData.strOk (Str.join sep ts) = true
  | [], _ => by
    show (#[] : Array Nat).all _ = true
    simp
  | [x], h => h x (by simp)
  | x :: y :: r, h => ok_app (ok_app (h x (by simp)) hs) (ok_join hs (y :: r) fun t ht => h t (List.mem_cons_of_mem _ ht))
theorem ok_tuple {ts : List Str} (h : ∀ t ∈ ts, PyData.strOk t = true) : PyData.strOk (tupleText ts) = true := ok_app (ok_app (ok_str _) (ok_join (ok_str _) ts h)) (ok_str _)
theorem ok_textFrom : ∀ (ts : List Str) (k : Nat) (acc : Str), PyData.strOk acc = true → (∀ t ∈ ts, PyData.strOk t = true) → PyData.strOk (textFrom k acc ts) = true
  | [], _, _, h, _ => h
  | t :: ts, k, acc, h, g => ok_textFrom ts (k + 1) _ (ok_app (ok_app h (ok_str _)) (g t (by simp))) fun t ht => g t (List.mem_cons_of_mem _ ht)
theorem ok_list {ts : List Str} (h : ∀ t ∈ ts, PyData.strOk t = true) : PyData.strOk (listText ts) = true := ok_app (ok_textFrom ts 0 _ (ok_str _) h) (ok_str _)
theorem ok_int (i : Int) : PyData.strOk (PyData.shown (.int i)) = true := ok_str _
theorem ok_pair (x y : Int) : PyData.strOk (PyData.shown (.tuple [.int x, .int y])) = true := ok_tuple fun t ht => by
  rcases List.mem_cons.mp ht with rfl | ht
  · exact ok_int x
  · rcases List.mem_cons.mp ht with rfl | ht
    · exact ok_int y
    · cases ht
theorem shaped_str {a : Str} (h : PyData.strOk a = true) : SeqAt.shaped (.str a) = true := by
  show (PyData.strOk a && _) = true
  rw [h]
  rfl
theorem fEq_str {a b : Str} (ha : PyData.strOk a = true) (hb : PyData.strOk b = true) (S : Sto) : fEq (.d (.str a)) (.d (.str b)) S = some (.d (.bool (a == b))) := by
  show (if (SeqAt.shaped (.str a) && SeqAt.shaped (.str b)) = true then some (PV.d (.bool (PyData.eqv (.str a) (.str b)))) else none) = _
  rw [shaped_str ha, shaped_str hb]
  rfl
theorem fNe_str {a b : Str} (ha : PyData.strOk a = true) (hb : PyData.strOk b = true) (S : Sto) : fNe (.d (.str a)) (.d (.str b)) S = some (.d (.bool (!(a == b)))) := by
  show (if (SeqAt.shaped (.str a) && SeqAt.shaped (.str b)) = true then some (PV.d (.bool (!PyData.eqv (.str a) (.str b)))) else none) = _
  rw [shaped_str ha, shaped_str hb]
  rfl
theorem fMul_bd {a b : Int} (ha : a.natAbs < 2 ^ 4000) (hb : b.natAbs < 2 ^ 4000) (S : Sto) : fMul (.d (.int a)) (.d (.int b)) S = some (.d (.int (a * b))) := by
  have h1 := log2_of (by decide) ha
  have h2 := log2_of (by decide) hb
  have : mulOk a b = true := by
    unfold mulOk
    rw [Bool.or_eq_true]
    right
    exact decide_eq_true (by omega)
  show (if mulOk a b = true then _ else none) = _
  rw [if_pos this]
theorem fMul_r {a b : Int} (hb : b.natAbs < 2 ^ 64) (S : Sto) : fMul (.d (.int a)) (.d (.int b)) S = some (.d (.int (a * b))) := by
  have : mulOk a b = true := by
    unfold mulOk
    rw [Bool.or_eq_true, Bool.or_eq_true]
    left; right
    rw [Bool.and_eq_true, decide_eq_true_eq, decide_eq_true_eq]
    have e : (2 : Int) ^ 64 = ((2 ^ 64 : Nat) : Int) := by decide
    rw [e]
    generalize 2 ^ 64 = z at hb
    omega
  show (if mulOk a b = true then _ else none) = _
  rw [if_pos this]
/-- a ratio in lowest terms -/
def lowD (t b : Int) : PyData := .tuple [.int (t / (Int.gcd t b : Nat)), .int (b / (Int.gcd t b : Nat))]
theorem gcd_pos {t b : Int} (h : 0 < b) : 0 < Int.gcd t b := by
  have := Int.gcd_pos_of_ne_zero_right (a := t) (b := b) (by omega)
  exact this
theorem gcd_le {t b : Int} (h : 0 < b) : Int.gcd t b ≤ b.natAbs := Nat.gcd_le_right _ (by omega)
theorem fDiv_gcd {t b x : Int} (h : 0 < b) (hl : b.natAbs < 2 ^ 9000) (S : Sto) : fDiv (.d (.int x)) (.d (.int (Int.gcd t b : Nat))) S = some (.d (.int (x / (Int.gcd t b : Nat)))) := by
  have h1 := gcd_pos (t := t) h
  have h2 := gcd_le (t := t) h
  refine fDiv_int (by omega) (log2_of (by decide) ?_) S
  rw [Int.natAbs_natCast]
  exact Nat.lt_of_le_of_lt h2 hl
end DL

namespace DL
open PySem PySem.Spec PyProof.Rows L2
/-! the program's ratios -/
def gGcd : MS :=
    (sSeq (sPar 0 1 (mCons (mCall cAbs (mCons (mVar 0) mNil)) (mCons (mCall cAbs (mCons (mVar 1) mNil)) mNil)))
    (sSeq (sWhile (fuelAt 1) (bTru (mVar 1)) (sPar 0 1 (mCons (mVar 1) (mCons (mOp fMod (mVar 0) (mVar 1)) mNil))))
    (sRet (mVar 0))))
def FGcd : FV := runF 2 gGcd
def gRatio : MS :=
    (sSeq (sIf (asB (mOp fEq (mVar 1) (mC (.int (0))))) sNever sNil)
    (sSeq (sSet 2 (mFn 2 FGcd (mCons (mVar 0) (mCons (mVar 1) mNil))))
    (sSeq (sIf (asB (mOp fLt (mVar 1) (mC (.int (0))))) (sSet 2 (mUn fNeg (mVar 2))) sNil)
    (sRet (mTup (mCons (mOp fDiv (mVar 0) (mVar 2)) (mCons (mOp fDiv (mVar 1) (mVar 2)) mNil)))))))
def FRatio : FV := runF 3 gRatio
def gTimes : MS :=
    (sRet (mFn 2 FRatio (mCons (mOp fMul (mOp fIx (mVar 0) (mC (.int (0)))) (mOp fIx (mVar 1) (mC (.int (0))))) (mCons (mOp fMul (mOp fIx (mVar 0) (mC (.int (1)))) (mOp fIx (mVar 1) (mC (.int (1))))) mNil))))
def FTimes : FV := runF 2 gTimes
theorem abs_eq (t : Int) : (if t < 0 then -t else t) = ((t.natAbs : Nat) : Int) := by
  split <;> omega
theorem fMod_nat {m n : Nat} (h : 0 < n) (S : Sto) : fMod (.d (.int (m : Nat))) (.d (.int (n : Nat))) S = some (.d (.int ((m % n : Nat) : Int))) := by
  rw [fMod_int (by omega)]
  rfl
theorem while_t {c : MB} {body : MS} {k : Nat} {ρ ρ' : RE} {S S1 S' : Sto} (h : c ρ S = some (true, S1)) (b : body ρ S1 = some (.nx ρ' S')) : whileGo c body (k + 1) ρ S = whileGo c body k ρ' S' := by
  show (c ρ S).bind _ = _
  rw [h]
  show (body ρ S1).bind _ = _
  rw [b]
  rfl
theorem while_f {c : MB} {body : MS} {k : Nat} {ρ : RE} {S S1 : Sto} (h : c ρ S = some (false, S1)) : whileGo c body (k + 1) ρ S = some (.nx ρ S1) := by
  show (c ρ S).bind _ = _
  rw [h]
  rfl
theorem gcd_go {S : Sto} : ∀ (k m n : Nat), n < k → whileGo (bTru (mVar 1)) (sPar 0 1 (mCons (mVar 1) (mCons (mOp fMod (mVar 0) (mVar 1)) mNil))) k [some (.d (.int (m : Nat))), some (.d (.int (n : Nat)))] S = some (.nx [some (.d (.int (Nat.gcd m n : Nat))), some (.d (.int 0))] S)
  | 0, _, _, h => by omega
  | k + 1, m, 0, h => by
    rw [Nat.gcd_zero_right]
    rfl
  | k + 1, m, n + 1, h => by
    have hd : m % (n + 1) < n + 1 := Nat.mod_lt _ (by omega)
    have ih := gcd_go (S := S) k (n + 1) (m % (n + 1)) (by omega)
    have eg : Nat.gcd (n + 1) (m % (n + 1)) = Nat.gcd m (n + 1) := by
      rw [Nat.gcd_comm m, Nat.gcd_rec (n + 1) m, Nat.gcd_comm]
    rw [eg] at ih
    have t : bTru (mVar 1) [some (.d (.int (m : Nat))), some (.d (.int ((n + 1 : Nat) : Int)))] S = some (true, S) := by
      show some (!(((n + 1 : Nat) : Int) == 0), S) = _
      rw [show (((n + 1 : Nat) : Int) == 0) = false from by simp; omega]
      rfl
    have b : sPar 0 1 (mCons (mVar 1) (mCons (mOp fMod (mVar 0) (mVar 1)) mNil)) [some (.d (.int (m : Nat))), some (.d (.int ((n + 1 : Nat) : Int)))] S = some (.nx [some (.d (.int ((n + 1 : Nat) : Int))), some (.d (.int ((m % (n + 1) : Nat) : Int)))] S) := by
      unfold sPar
      rw [mCons_of rfl (mCons_of (mOp_of rfl rfl (fMod_nat (by omega) S)) rfl)]
      rfl
    rw [while_t t b]
    exact ih
theorem FGcd_spec (t b : Int) (S : Sto) : FGcd [.d (.int t), .d (.int b)] S = some (.d (.int (Int.gcd t b : Nat)), S) := by
  unfold FGcd runF
  show (gGcd [some (.d (.int t)), some (.d (.int b))] S).bind _ = _
  unfold gGcd
  have e1 : sPar 0 1 (mCons (mCall cAbs (mCons (mVar 0) mNil)) (mCons (mCall cAbs (mCons (mVar 1) mNil)) mNil)) [some (.d (.int t)), some (.d (.int b))] S = some (.nx [some (.d (.int ((t.natAbs : Nat) : Int))), some (.d (.int ((b.natAbs : Nat) : Int)))] S) := by
    show some (Out.nx [some (.d (.int (if t < 0 then -t else t))), some (.d (.int (if b < 0 then -b else b)))] S) = _
    rw [abs_eq, abs_eq]
  rw [sSeq_nx e1]
  have e2 : sWhile (fuelAt 1) (bTru (mVar 1)) (sPar 0 1 (mCons (mVar 1) (mCons (mOp fMod (mVar 0) (mVar 1)) mNil))) [some (.d (.int ((t.natAbs : Nat) : Int))), some (.d (.int ((b.natAbs : Nat) : Int)))] S = some (.nx [some (.d (.int (Nat.gcd t.natAbs b.natAbs : Nat))), some (.d (.int 0))] S) := by
    unfold sWhile
    refine gcd_go _ _ _ ?_
    show b.natAbs < ((b.natAbs : Nat) : Int).natAbs + 2
    omega
  rw [sSeq_nx e2]
  show finV S.length (.d (.int (Nat.gcd t.natAbs b.natAbs : Nat))) S = _
  show some (_, S.take S.length) = _
  rw [List.take_length]
  rfl
theorem FRatio_spec {t b : Int} (hb : 0 < b) (hl : b.natAbs < 2 ^ 9000) (S : Sto) : FRatio [.d (.int t), .d (.int b)] S = some (.d (lowD t b), S) := by
  unfold FRatio runF
  show (gRatio [some (.d (.int t)), some (.d (.int b)), none] S).bind _ = _
  unfold gRatio
  have c1 : asB (mOp fEq (mVar 1) (mC (.int (0)))) [some (.d (.int t)), some (.d (.int b)), none] S = some (false, S) :=
    asB_of (mOp_of rfl rfl ((fEq_int _ _ _).trans (by rw [show (b == 0) = false from by simp; omega])))
  rw [sSeq_nx (ρ' := [some (.d (.int t)), some (.d (.int b)), none]) (S' := S) (by rw [sIf_f c1]; rfl)]
  rw [sSeq_nx (sSet_of (mFn_of (n := 2) rfl rfl (FGcd_spec t b S)))]
  show ((sSeq _ _) [some (.d (.int t)), some (.d (.int b)), some (.d (.int (Int.gcd t b : Nat)))] S).bind _ = _
  have c2 : asB (mOp fLt (mVar 1) (mC (.int (0)))) [some (.d (.int t)), some (.d (.int b)), some (.d (.int (Int.gcd t b : Nat)))] S = some (false, S) :=
    asB_of (mOp_of rfl rfl (by show some (PV.d (.bool (decide (b < 0)))) = _; rw [decide_eq_false (by omega)]))
  rw [sSeq_nx (ρ' := [some (.d (.int t)), some (.d (.int b)), some (.d (.int (Int.gcd t b : Nat)))]) (S' := S) (by rw [sIf_f c2]; rfl)]
  rw [sRet_of (mTup_of (ds := [.int (t / (Int.gcd t b : Nat)), .int (b / (Int.gcd t b : Nat))]) (mCons_of (mOp_of rfl rfl (fDiv_gcd hb hl S)) (mCons_of (mOp_of rfl rfl (fDiv_gcd hb hl S)) rfl)) rfl (by show 2 ≤ 1000; decide))]
  show some (_, S.take S.length) = _
  rw [List.take_length]
  rfl
theorem fIx_0 (a b : Int) (S : Sto) : fIx (.d (.tuple [.int a, .int b])) (.d (.int 0)) S = some (.d (.int a)) := rfl
theorem fIx_1 (a b : Int) (S : Sto) : fIx (.d (.tuple [.int a, .int b])) (.d (.int 1)) S = some (.d (.int b)) := rfl
theorem mul_lt_bd {a b : Int} (ha : a.natAbs < 2 ^ 4000) (hb : b.natAbs < 2 ^ 4000) : (a * b).natAbs < 2 ^ 9000 := by
  rw [Int.natAbs_mul]
  calc a.natAbs * b.natAbs ≤ 2 ^ 4000 * 2 ^ 4000 := Nat.mul_le_mul (Nat.le_of_lt ha) (Nat.le_of_lt hb)
    _ = 2 ^ (4000 + 4000) := (Nat.pow_add 2 4000 4000).symm
    _ < 2 ^ 9000 := Nat.pow_lt_pow_right (by decide) (by decide)
theorem FTimes_spec {a b c d : Int} (ha : a.natAbs < 2 ^ 4000) (hb : b.natAbs < 2 ^ 4000) (hc : c.natAbs < 2 ^ 4000) (hd : d.natAbs < 2 ^ 4000) (h : 0 < b * d) (S : Sto) : FTimes [.d (.tuple [.int a, .int b]), .d (.tuple [.int c, .int d])] S = some (.d (lowD (a * c) (b * d)), S) := by
  unfold FTimes runF
  show (gTimes [some (.d (.tuple [.int a, .int b])), some (.d (.tuple [.int c, .int d]))] S).bind _ = _
  unfold gTimes
  rw [sRet_of (mFn_of (n := 2) (mCons_of (mOp_of (mOp_of rfl rfl (fIx_0 ..)) (mOp_of rfl rfl (fIx_0 ..)) (fMul_bd ha hc S)) (mCons_of (mOp_of (mOp_of rfl rfl (fIx_1 ..)) (mOp_of rfl rfl (fIx_1 ..)) (fMul_bd hb hd S)) rfl)) rfl (FRatio_spec h (mul_lt_bd hb hd) S))]
  show some (_, S.take S.length) = _
  rw [List.take_length]
end DL

namespace DL
open PySem PySem.Spec PyProof.Rows L2
/-! a feed alone in the store; functions, loops, comprehensions as they come out -/
def Fed (ms : List Int) (k : Int) (S : Sto) : Prop := ∃ i c j, S = [feedC ms i c j] ∧ 0 ≤ i ∧ 0 ≤ j ∧ j ≤ k
theorem Fed.len {ms : List Int} {k : Int} {S : Sto} (h : Fed ms k S) : S.length = 1 := by
  obtain ⟨i, c, j, rfl, _⟩ := h
  rfl
theorem Fed.mono {ms : List Int} {k l : Int} {S : Sto} (h : Fed ms k S) (hk : k ≤ l) : Fed ms l S := by
  obtain ⟨i, c, j, rfl, a, b, d⟩ := h
  exact ⟨i, c, j, rfl, a, b, by omega⟩
theorem draw_fed {ms : List Int} {k many : Int} {S : Sto} (hm : ms ≠ []) (h : Fed ms k S) (hk : k ≤ 999999) (hp : 0 < many) (hl : many.natAbs.log2 < 9000) :
    ∃ r S', FDraw [.c 0, .d (.int many)] S = some (.d (.int r), S') ∧ 0 ≤ r ∧ r < many ∧ Fed ms (k + 1) S' := by
  obtain ⟨i, c, j, rfl, a, b, d⟩ := h
  obtain ⟨r, i', c', x, y, z, w⟩ := draw_spec (S := [feedC ms i c j]) (j := 0) (many := many) rfl hm a b (by omega) hp hl
  exact ⟨r, _, x, y, z, i', c', j + 1, rfl, w, by omega, by omega⟩
theorem log2_small {n : Int} (h0 : 0 ≤ n) (h : n ≤ 1000000000) : n.natAbs.log2 < 9000 := by
  refine log2_of (by decide) (Nat.lt_of_lt_of_le (m := 2 ^ 40) ?_ (Nat.pow_le_pow_right (by decide) (by decide)))
  have : (2 : Nat) ^ 40 = 1099511627776 := by decide
  omega
theorem runF_of {N : Nat} {g : MS} {ps : List PV} {ρ : RE} {S S' : Sto} {x : PyData} (he : ps.map some ++ List.replicate (N - ps.length) none = ρ) (h : g ρ S = some (.rt (.d x) S')) (hl : S'.length ≤ S.length) : runF N g ps S = some (.d x, S') := by
  unfold runF
  rw [he, h]
  show some (_, S'.take S.length) = _
  rw [List.take_of_length_le hl]
theorem lcGo_none {n : Nat} {tgt : TgD} {tt : MB} {te : M} {ρ : RE} {S : Sto} : ∀ xs : List PyData, (∀ x ∈ xs, ∃ ρ1, tgt x ρ = some ρ1 ∧ tt ρ1 S = some (false, S)) → lcGo n tgt tt te ρ xs S = some S
  | [], _ => rfl
  | x :: xs, h => by
    obtain ⟨ρ1, e1, e2⟩ := h x (by simp)
    have ih := lcGo_none (n := n) (te := te) xs fun y hy => h y (List.mem_cons_of_mem _ hy)
    unfold lcGo
    rw [e1]
    show (tt ρ1 S).bind _ = _
    rw [e2]
    exact ih
theorem mLc_none {mi : ML} {vs : List Nat} {tgt : TgD} {tt : MB} {te : M} {ρ : RE} {S S1 : Sto} {xs : List PyData} (h1 : mi ρ S = some (xs, S1)) (h2 : ∀ x ∈ xs, ∃ ρ1, tgt x (wipeR ρ vs) = some ρ1 ∧ tt ρ1 (S1 ++ [[]]) = some (false, S1 ++ [[]])) : mLc mi vs tgt tt te ρ S = some ([], S1) := by
  unfold mLc
  rw [h1]
  show (lcGo S1.length tgt tt te (wipeR ρ vs) xs (S1 ++ [[]])).bind _ = _
  rw [lcGo_none xs h2]
  show ((S1 ++ [[]])[S1.length]?).bind _ = _
  rw [last_get]
  show some ([], (S1 ++ [[]]).take S1.length) = _
  simp
theorem mIf_t {c : MB} {a b : M} {ρ : RE} {S S' : Sto} (h : c ρ S = some (true, S')) : mIf c a b ρ S = a ρ S' := by
  unfold mIf
  rw [h]
  rfl
theorem mIf_f {c : MB} {a b : M} {ρ : RE} {S S' : Sto} (h : c ρ S = some (false, S')) : mIf c a b ρ S = b ρ S' := by
  unfold mIf
  rw [h]
  rfl
theorem if_nx {c : MB} {a : MS} {ρ : RE} {S S' : Sto} (h : c ρ S = some (false, S')) : sIf c a sNil ρ S = some (.nx ρ S') := by
  rw [sIf_f h]
  rfl
theorem fLt_int (a b : Int) (S : Sto) : fLt (.d (.int a)) (.d (.int b)) S = some (.d (.bool (decide (a < b)))) := rfl
theorem fGt_int (a b : Int) (S : Sto) : fGt (.d (.int a)) (.d (.int b)) S = some (.d (.bool (decide (a > b)))) := rfl
theorem rangeD_succ (n : Nat) : rangeD 0 (n + 1) = rangeD 0 n ++ [.int (n : Nat)] := by
  unfold rangeD
  rw [List.range_succ, List.map_append, List.map_singleton, Int.zero_add]
theorem mRng1_of {m : M} {ρ : RE} {S S1 : Sto} {j : Int} (h : m ρ S = some (.d (.int j), S1)) (h0 : 0 ≤ j) (h1 : j ≤ 1000000) : mRng1 m ρ S = some (rangeD 0 j.toNat, S1) := by
  unfold mRng1
  rw [h]
  show (if -1000000 ≤ j ∧ j ≤ 1000000 then _ else none) = _
  rw [if_pos ⟨by omega, h1⟩]
end DL

namespace DL
open PySem PySem.Spec PyProof.Rows L2
/-! a feed at the head of the store, whatever lies behind it -/
def FedT (ms : List Int) (k : Int) (T S : Sto) : Prop := ∃ i c j, S = feedC ms i c j :: T ∧ 0 ≤ i ∧ 0 ≤ j ∧ j ≤ k
section
variable {ms : List Int} {k : Int} {T S : Sto}
theorem FedT.len (h : FedT ms k T S) : S.length = T.length + 1 := by
  obtain ⟨i, c, j, rfl, _⟩ := h
  rfl
theorem FedT.mono {l : Int} (h : FedT ms k T S) (hk : k ≤ l) : FedT ms l T S := by
  obtain ⟨i, c, j, rfl, a, b, d⟩ := h
  exact ⟨i, c, j, rfl, a, b, by omega⟩
theorem FedT.same {l : Int} {S' : Sto} (h : FedT ms k T S) (h' : FedT ms l T S') : S'.length ≤ S.length := by
  rw [h.len, h'.len]
  exact Nat.le_refl _
theorem FedT.draw {many : Int} (hm : ms ≠ []) (h : FedT ms k T S) (hk : k ≤ 999999) (hp : 0 < many) (hl : many.natAbs < 2 ^ 8999) :
    ∃ r S', FDraw [.c 0, .d (.int many)] S = some (.d (.int r), S') ∧ 0 ≤ r ∧ r < many ∧ FedT ms (k + 1) T S' := by
  obtain ⟨i, c, j, rfl, a, b, d⟩ := h
  obtain ⟨r, i', c', x, y, z, w⟩ := draw_spec (S := feedC ms i c j :: T) (j := 0) (many := many) rfl hm a b (by omega) hp (Nat.lt_succ_of_lt (log2_of (by decide) hl))
  exact ⟨r, _, x, y, z, i', c', j + 1, rfl, w, by omega, by omega⟩
end
/-! a law's number -/
def gNumber : MS :=
    (sSeq (sSet 2 (mFn 2 FDraw (mCons (mVar 0) (mCons (mC (.int (4))) mNil))))
    (sSeq (sIf (asB (mOp fEq (mVar 2) (mC (.int (0))))) (sRet (mFn 2 FDraw (mCons (mVar 0) (mCons (mCall cMin (mCons (mVar 1) (mCons (mC (.int (4))) mNil))) mNil)))) sNil)
    (sSeq (sIf (asB (mOp fEq (mVar 2) (mC (.int (1))))) (sRet (mFn 2 FDraw (mCons (mVar 0) (mCons (mCall cMin (mCons (mVar 1) (mCons (mC (.int (100))) mNil))) mNil)))) sNil)
    (sSeq (sIf (asB (mOp fEq (mVar 2) (mC (.int (2))))) (sRet (mFn 2 FDraw (mCons (mVar 0) (mCons (mVar 1) mNil)))) sNil)
    (sRet (mOp fSub (mOp fSub (mVar 1) (mC (.int (1)))) (mFn 2 FDraw (mCons (mVar 0) (mCons (mCall cMin (mCons (mVar 1) (mCons (mC (.int (9))) mNil))) mNil)))))))))
def FNumber : FV := runF 3 gNumber
theorem up2 {x c d : Nat} (h : x < 2 ^ c) (hc : c ≤ d) : x < 2 ^ d := Nat.lt_of_lt_of_le h (Nat.pow_le_pow_right (by decide) hc)
theorem lt_up {x : Int} {c d : Nat} (h0 : 0 ≤ x) (h : x < 2 ^ c) (hc : c ≤ d) : x.natAbs < 2 ^ d := by
  refine up2 ?_ hc
  have : ((x.natAbs : Nat) : Int) < ((2 ^ c : Nat) : Int) := by
    rw [Int.natCast_pow]
    show ((x.natAbs : Nat) : Int) < 2 ^ c
    omega
  exact Int.ofNat_lt.mp this
theorem FedT.number {ms : List Int} {k most : Int} {T S : Sto} (hm : ms ≠ []) (h : FedT ms k T S) (hk : k ≤ 99999) (h0 : 9 < most) (h1 : most.natAbs < 2 ^ 8000) :
    ∃ r S', FNumber [.c 0, .d (.int most)] S = some (.d (.int r), S') ∧ 0 ≤ r ∧ r < most ∧ FedT ms (k + 2) T S' := by
  obtain ⟨w, S1, e1, w0, w1, f1⟩ := h.draw hm (by omega) (many := 4) (by decide) (up2 (c := 3) (by decide) (by decide))
  have st : ∀ {x : PyData} {S' : Sto}, gNumber [some (.c 0), some (.d (.int most)), none] S = some (.rt (.d x) S') → FedT ms (k + 2) T S' → FNumber [.c 0, .d (.int most)] S = some (.d x, S') := fun e f =>
    runF_of (ρ := [some (.c 0), some (.d (.int most)), none]) rfl e (h.same f)
  have go : ∀ {o}, (sSeq (sIf (asB (mOp fEq (mVar 2) (mC (.int (0))))) (sRet (mFn 2 FDraw (mCons (mVar 0) (mCons (mCall cMin (mCons (mVar 1) (mCons (mC (.int (4))) mNil))) mNil)))) sNil)
    (sSeq (sIf (asB (mOp fEq (mVar 2) (mC (.int (1))))) (sRet (mFn 2 FDraw (mCons (mVar 0) (mCons (mCall cMin (mCons (mVar 1) (mCons (mC (.int (100))) mNil))) mNil)))) sNil)
    (sSeq (sIf (asB (mOp fEq (mVar 2) (mC (.int (2))))) (sRet (mFn 2 FDraw (mCons (mVar 0) (mCons (mVar 1) mNil)))) sNil)
    (sRet (mOp fSub (mOp fSub (mVar 1) (mC (.int (1)))) (mFn 2 FDraw (mCons (mVar 0) (mCons (mCall cMin (mCons (mVar 1) (mCons (mC (.int (9))) mNil))) mNil)))))))) [some (.c 0), some (.d (.int most)), some (.d (.int w))] S1 = o → gNumber [some (.c 0), some (.d (.int most)), none] S = o := fun e => by
    unfold gNumber
    rw [sSeq_nx (sSet_of (mFn_of (n := 2) rfl rfl e1))]
    exact e
  have eqn : ∀ (z : Int), asB (mOp fEq (mVar 2) (mC (.int z))) [some (.c 0), some (.d (.int most)), some (.d (.int w))] S1 = some (w == z, S1) := fun z => asB_of (mOp_of rfl rfl (fEq_int _ _ _))
  have mn : ∀ (z : Int), cMin [.d (.int most), .d (.int z)] S1 = some (.d (.int (if z < most then z else most))) := fun z => rfl
  have cases4 : w = 0 ∨ w = 1 ∨ w = 2 ∨ w = 3 := by omega
  have hz : ∀ z : Int, 0 < z → 0 < (if z < most then z else most) ∧ (if z < most then z else most) ≤ most ∧ (if z < most then z else most) ≤ z := fun z hz => by split <;> omega
  have sm : ∀ z : Int, 0 < z → z ≤ most → z.natAbs < 2 ^ 8999 := fun z p q => up2 (c := 8000) (Nat.lt_of_le_of_lt (show z.natAbs ≤ most.natAbs by omega) h1) (by decide)
  rcases cases4 with rfl | rfl | rfl | rfl
  · obtain ⟨p0, p1, p2⟩ := hz 4 (by decide)
    obtain ⟨r, S2, e2, r0, r1, f2⟩ := f1.draw hm (by omega) p0 (sm _ p0 p1)
    have f2' : FedT ms (k + 2) T S2 := f2.mono (by omega)
    refine ⟨r, S2, st (go ?_) f2', r0, by omega, f2'⟩
    exact sSeq_rt ((sIf_t (eqn 0)).trans (sRet_of (mFn_of (n := 2) (mCons_of rfl (mCons_of (mCall_of rfl (mn 4)) rfl)) rfl e2)))
  · obtain ⟨p0, p1, p2⟩ := hz 100 (by decide)
    obtain ⟨r, S2, e2, r0, r1, f2⟩ := f1.draw hm (by omega) p0 (sm _ p0 p1)
    have f2' : FedT ms (k + 2) T S2 := f2.mono (by omega)
    refine ⟨r, S2, st (go ?_) f2', r0, by omega, f2'⟩
    rw [sSeq_nx (if_nx (eqn 0))]
    exact sSeq_rt ((sIf_t (eqn 1)).trans (sRet_of (mFn_of (n := 2) (mCons_of rfl (mCons_of (mCall_of rfl (mn 100)) rfl)) rfl e2)))
  · obtain ⟨r, S2, e2, r0, r1, f2⟩ := f1.draw hm (by omega) (many := most) (by omega) (sm _ (by omega) (by omega))
    have f2' : FedT ms (k + 2) T S2 := f2.mono (by omega)
    refine ⟨r, S2, st (go ?_) f2', r0, by omega, f2'⟩
    rw [sSeq_nx (if_nx (eqn 0)), sSeq_nx (if_nx (eqn 1))]
    exact sSeq_rt ((sIf_t (eqn 2)).trans (sRet_of (mFn_of (n := 2) rfl rfl e2)))
  · obtain ⟨p0, p1, p2⟩ := hz 9 (by decide)
    obtain ⟨r, S2, e2, r0, r1, f2⟩ := f1.draw hm (by omega) p0 (sm _ p0 p1)
    have f2' : FedT ms (k + 2) T S2 := f2.mono (by omega)
    refine ⟨most - 1 - r, S2, st (go ?_) f2', by omega, by omega, f2'⟩
    rw [sSeq_nx (if_nx (eqn 0)), sSeq_nx (if_nx (eqn 1)), sSeq_nx (if_nx (eqn 2))]
    exact sRet_of (mOp_of rfl (mFn_of (n := 2) (mCons_of rfl (mCons_of (mCall_of rfl (mn 9)) rfl)) rfl e2) rfl)
/-! a law's lowest terms -/
def gLow : MS :=
    (sSeq (sPar 2 3 (mCons (mCall cAbs (mCons (mVar 0) mNil)) (mCons (mVar 1) mNil)))
    (sSeq (sWhile (fuelAt 1) (asB (mOp fGt (mVar 3) (mC (.int (0))))) (sPar 2 3 (mCons (mVar 3) (mCons (mOp fMod (mVar 2) (mVar 3)) mNil))))
    (sRet (mTup (mCons (mOp fDiv (mVar 0) (mVar 2)) (mCons (mOp fDiv (mVar 1) (mVar 2)) mNil))))))
def FLow : FV := runF 4 gLow
theorem low_go {S : Sto} {x y : Option PV} : ∀ (k m n : Nat), n < k → whileGo (asB (mOp fGt (mVar 3) (mC (.int (0))))) (sPar 2 3 (mCons (mVar 3) (mCons (mOp fMod (mVar 2) (mVar 3)) mNil))) k [x, y, some (.d (.int (m : Nat))), some (.d (.int (n : Nat)))] S = some (.nx [x, y, some (.d (.int (Nat.gcd m n : Nat))), some (.d (.int 0))] S)
  | 0, _, _, h => by omega
  | k + 1, m, 0, h => by
    rw [Nat.gcd_zero_right]
    exact while_f (asB_of (mOp_of rfl rfl (fGt_int _ _ _)))
  | k + 1, m, n + 1, h => by
    have hd : m % (n + 1) < n + 1 := Nat.mod_lt _ (by omega)
    have ih := low_go (S := S) (x := x) (y := y) k (n + 1) (m % (n + 1)) (by omega)
    have eg : Nat.gcd (n + 1) (m % (n + 1)) = Nat.gcd m (n + 1) := by
      rw [Nat.gcd_comm m, Nat.gcd_rec (n + 1) m, Nat.gcd_comm]
    rw [eg] at ih
    have t : asB (mOp fGt (mVar 3) (mC (.int (0)))) [x, y, some (.d (.int (m : Nat))), some (.d (.int ((n + 1 : Nat) : Int)))] S = some (true, S) :=
      asB_of (mOp_of rfl rfl ((fGt_int _ _ _).trans (by rw [decide_eq_true (by omega)])))
    have b : sPar 2 3 (mCons (mVar 3) (mCons (mOp fMod (mVar 2) (mVar 3)) mNil)) [x, y, some (.d (.int (m : Nat))), some (.d (.int ((n + 1 : Nat) : Int)))] S = some (.nx [x, y, some (.d (.int ((n + 1 : Nat) : Int))), some (.d (.int ((m % (n + 1) : Nat) : Int)))] S) := by
      unfold sPar
      rw [mCons_of rfl (mCons_of (mOp_of rfl rfl (fMod_nat (by omega) S)) rfl)]
      rfl
    rw [while_t t b]
    exact ih
theorem FLow_spec {t b : Int} (hb : 0 < b) (hl : b.natAbs < 2 ^ 9000) (S : Sto) : FLow [.d (.int t), .d (.int b)] S = some (.d (lowD t b), S) := by
  refine runF_of (ρ := [some (.d (.int t)), some (.d (.int b)), none, none]) rfl ?_ (Nat.le_refl _)
  unfold gLow
  have e1 : sPar 2 3 (mCons (mCall cAbs (mCons (mVar 0) mNil)) (mCons (mVar 1) mNil)) [some (.d (.int t)), some (.d (.int b)), none, none] S = some (.nx [some (.d (.int t)), some (.d (.int b)), some (.d (.int ((t.natAbs : Nat) : Int))), some (.d (.int ((b.natAbs : Nat) : Int)))] S) := by
    show some (Out.nx [some (.d (.int t)), some (.d (.int b)), some (.d (.int (if t < 0 then -t else t))), some (.d (.int b))] S) = _
    rw [abs_eq, show ((b.natAbs : Nat) : Int) = b by omega]
  rw [sSeq_nx e1]
  have e2 : sWhile (fuelAt 1) (asB (mOp fGt (mVar 3) (mC (.int (0))))) (sPar 2 3 (mCons (mVar 3) (mCons (mOp fMod (mVar 2) (mVar 3)) mNil))) [some (.d (.int t)), some (.d (.int b)), some (.d (.int ((t.natAbs : Nat) : Int))), some (.d (.int ((b.natAbs : Nat) : Int)))] S = some (.nx [some (.d (.int t)), some (.d (.int b)), some (.d (.int (Int.gcd t b : Nat))), some (.d (.int 0))] S) := by
    unfold sWhile
    refine low_go _ _ _ ?_
    show b.natAbs < b.natAbs + 2
    omega
  rw [sSeq_nx e2]
  exact sRet_of (mTup_of (ds := [.int (t / (Int.gcd t b : Nat)), .int (b / (Int.gcd t b : Nat))]) (mCons_of (mOp_of rfl rfl (fDiv_gcd hb hl S)) (mCons_of (mOp_of rfl rfl (fDiv_gcd hb hl S)) rfl)) rfl (by show 2 ≤ 1000; decide))
theorem low_facts {t b : Int} (hb : 0 < b) : ∃ p q, lowD t b = .tuple [.int p, .int q] ∧ t = (Int.gcd t b : Nat) * p ∧ b = (Int.gcd t b : Nat) * q ∧ Int.gcd p q = 1 ∧ 0 < q ∧ q ≤ b ∧ p.natAbs ≤ t.natAbs := by
  have hg := gcd_pos (t := t) hb
  refine ⟨t / (Int.gcd t b : Nat), b / (Int.gcd t b : Nat), rfl, (Int.mul_ediv_cancel' (Int.gcd_dvd_left ..)).symm, (Int.mul_ediv_cancel' (Int.gcd_dvd_right ..)).symm, Int.gcd_ediv_gcd_ediv_gcd hg, ?_, ?_, Int.natAbs_ediv_le_natAbs ..⟩
  · exact Int.ediv_pos_of_pos_of_dvd hb (by omega) (Int.gcd_dvd_right ..)
  · exact Int.ediv_le_self _ (by omega)
/-! things that can be shown -/
structure Okk (n L : Nat) (d : PyData) : Prop where
  sh : d.showable = true
  nd : d.hasDict = false
  dp : d.depth ≤ n
  ln : d.shown.length ≤ L
  ok : PyData.strOk d.shown = true
theorem Okk.mono {n L m M : Nat} {d : PyData} (h : Okk n L d) (hn : n ≤ m) (hL : L ≤ M) : Okk m M d := ⟨h.sh, h.nd, Nat.le_trans h.dp hn, Nat.le_trans h.ln hL, h.ok⟩
theorem Okk.repr {n L : Nat} {d : PyData} (h : Okk n L d) (hn : n ≤ 40) (hL : L ≤ 16777216) (S : Sto) : cRepr [.d d] S = some (.d (.str d.shown)) := by
  have : reprOk d = true := by
    unfold reprOk
    have h1 := h.dp
    have h2 := h.ln
    rw [h.sh, h.nd, decide_eq_true (by omega), decide_eq_true (by omega)]
    rfl
  show (if reprOk d = true then _ else none) = _
  rw [if_pos this]
theorem okk_int {i : Int} (h : i.natAbs < 2 ^ 1920) : Okk 0 1921 (.int i) := ⟨decide_eq_true (log2_of (by decide) h), rfl, Nat.le_refl _, shownInt_le (log2_of (by decide) h), ok_int i⟩
theorem okk_all {n L : Nat} : ∀ {xs : List PyData}, (∀ x ∈ xs, Okk n L x) → PyData.showableAll xs = true ∧ PyData.hasDictAll xs = false ∧ PyData.depthAll xs ≤ n ∧ ((PyData.shownAll xs).map (·.length)).sum ≤ L * xs.length ∧ (PyData.shownAll xs).length = xs.length ∧ ∀ t ∈ PyData.shownAll xs, PyData.strOk t = true
  | [], _ => ⟨rfl, rfl, Nat.zero_le _, Nat.zero_le _, rfl, fun _ h => nomatch h⟩
  | x :: xs, h => by
    obtain ⟨a, b, c, d, e, f⟩ := okk_all (xs := xs) fun y hy => h y (List.mem_cons_of_mem _ hy)
    have hx := h x (by simp)
    refine ⟨?_, ?_, ?_, ?_, ?_, ?_⟩
    · show (x.showable && PyData.showableAll xs) = true
      rw [hx.sh, a]; rfl
    · show (x.hasDict || PyData.hasDictAll xs) = false
      rw [hx.nd, b]; rfl
    · show max x.depth (PyData.depthAll xs) ≤ n
      have := hx.dp
      omega
    · show x.shown.length + ((PyData.shownAll xs).map (·.length)).sum ≤ L * (xs.length + 1)
      have := hx.ln
      rw [Nat.mul_succ]
      omega
    · show (PyData.shownAll xs).length + 1 = xs.length + 1
      rw [e]
    · intro t ht
      rcases List.mem_cons.mp ht with rfl | ht
      · exact hx.ok
      · exact f t ht
theorem okk_tuple {n L : Nat} {xs : List PyData} (h : ∀ x ∈ xs, Okk n L x) : Okk (n + 1) (L * xs.length + 2 * xs.length + 3) (.tuple xs) := by
  obtain ⟨a, b, c, d, e, f⟩ := okk_all h
  refine ⟨a, b, ?_, ?_, ok_tuple f⟩
  · show PyData.depthAll xs + 1 ≤ n + 1
    omega
  · have := tupleText_len_le (PyData.shownAll xs)
    show (tupleText (PyData.shownAll xs)).length ≤ _
    omega
theorem okk_list {n L : Nat} {xs : List PyData} (h : ∀ x ∈ xs, Okk n L x) : Okk (n + 1) (L * xs.length + 2 * xs.length + 3) (.list xs) := by
  obtain ⟨a, b, c, d, e, f⟩ := okk_all h
  refine ⟨a, b, ?_, ?_, ok_list f⟩
  · show PyData.depthAll xs + 1 ≤ n + 1
    omega
  · have := listText_len_le (PyData.shownAll xs)
    show (listText (PyData.shownAll xs)).length ≤ _
    omega
theorem atI_mem {xs : List PyData} {r : Int} (h0 : 0 ≤ r) (h1 : r < xs.length) : ∃ d, d ∈ xs ∧ atI xs r = some d := by
  have hl : r.toNat < xs.length := by omega
  refine ⟨xs[r.toNat], List.getElem_mem hl, ?_⟩
  unfold atI ixN
  rw [if_pos h0, if_pos h1]
  show xs[r.toNat]? = _
  exact List.getElem?_eq_getElem hl
theorem lcGo_yes {n : Nat} {tgt : TgD} {te : M} {ρ ρ1 : RE} {x y : PyData} {xs : List PyData} {S S1 S2 : Sto} (h1 : tgt x ρ = some ρ1) (h2 : te ρ1 S = some (.d y, S1)) (h3 : pushAt n y S1 = some S2) : lcGo n tgt bYes te ρ (x :: xs) S = lcGo n tgt bYes te ρ xs S2 := by
  show (tgt x ρ).bind _ = _
  rw [h1]
  show (te ρ1 S).bind _ = _
  rw [h2]
  show (pushAt n y S1).bind _ = _
  rw [h3]
  rfl
theorem ok_bool (b : Bool) : PyData.strOk (PyData.shown (.bool b)) = true := by cases b <;> exact ok_str _
theorem okk_bool (b : Bool) : Okk 0 5 (.bool b) := by
  refine ⟨rfl, rfl, Nat.le_refl _, ?_, ok_bool b⟩
  cases b <;> decide
end DL

namespace Law
open PySem PySem.Spec PyProof.Rows L2 DL
/-- _law_feed(_law_script); slots: 0 _law_script -/
def g__law_feed : MS :=
    (sRetL (mLst (mCons (mFz (mOpL fCatL (mFz (mCallL cList (mCons (mFz (mSlL (mVar 0) oNone (oSome (mC (.int (63)))))) mNil))) (mFz (mRep (mLst (mCons (mC (.int (0))) mNil)) (mCall cInt (mCons (mOp fEq (mCall cLen (mCons (mVar 0) mNil)) (mC (.int (0)))) mNil)))))) (mCons (mC (.int (0))) (mCons (mC (.int (0))) (mCons (mC (.int (0))) mNil))))))
def F__law_feed : FL := runL 1 g__law_feed
/-- _law_low(_law_top, _law_bottom); slots: 0 _law_top 1 _law_bottom 2 _law_one 3 _law_other -/
def g__law_low : MS :=
    (sSeq (sPar 2 3 (mCons (mCall cAbs (mCons (mVar 0) mNil)) (mCons (mVar 1) mNil)))
    (sSeq (sWhile (fuelAt 1) (asB (mOp fGt (mVar 3) (mC (.int (0))))) (sPar 2 3 (mCons (mVar 3) (mCons (mOp fMod (mVar 2) (mVar 3)) mNil))))
    (sRet (mTup (mCons (mOp fDiv (mVar 0) (mVar 2)) (mCons (mOp fDiv (mVar 1) (mVar 2)) mNil))))))
def F__law_low : FV := runF 4 g__law_low
/-- _law_draw(_law_feed_here, _law_many); slots: 0 _law_feed_here 1 _law_many 2 _law_cell 3 _law_mixed 4 _law_found -/
def g__law_draw : MS :=
    (sSeq (sPut (mVar 0) (mC (.int (3))) (mOp fAdd (mOp fIx (mVar 0) (mC (.int (3)))) (mC (.int (1)))))
    (sSeq (sIf (asB (mOp fEq (mOp fIx (mVar 0) (mC (.int (2)))) (mC (.int (0))))) (sSeq (sSet 2 (mOp fIx (mOp fIx (mVar 0) (mC (.int (0)))) (mOp fMod (mOp fIx (mVar 0) (mC (.int (1)))) (mCall cLen (mCons (mOp fIx (mVar 0) (mC (.int (0)))) mNil)))))
    (sSeq (sPut (mVar 0) (mC (.int (1))) (mOp fAdd (mOp fIx (mVar 0) (mC (.int (1)))) (mC (.int (1)))))
    (sSeq (sIf (asB (mOp fLt (mVar 2) (mOp fPow (mC (.int (10))) (mC (.int (18)))))) (sSeq (sSet 3 (mOp fMod (mOp fPow (mOp fAdd (mOp fAdd (mOp fMod (mVar 2) (mC (.int (2147483629)))) (mOp fMul (mC (.int (40763))) (mOp fIx (mVar 0) (mC (.int (3)))))) (mC (.int (1013)))) (mC (.int (5)))) (mC (.int (2147483647)))))
    (sSeq (sSet 3 (mOp fAdd (mOp fMod (mVar 3) (mC (.int (1000003)))) (mC (.int (7)))))
    (sSeq (sSet 3 (mOp fMod (mOp fMul (mVar 3) (mOp fAdd (mOp fMod (mOp fMul (mOp fIx (mVar 0) (mC (.int (3)))) (mOp fIx (mVar 0) (mC (.int (3))))) (mC (.int (99991)))) (mC (.int (104729))))) (mC (.int (2147483587)))))
    (sRet (mOp fMod (mOp fDiv (mVar 3) (mC (.int (11)))) (mVar 1)))))) sNil)
    (sPut (mVar 0) (mC (.int (2))) (mVar 2))))) sNil)
    (sSeq (sSet 4 (mOp fMod (mOp fIx (mVar 0) (mC (.int (2)))) (mVar 1)))
    (sSeq (sPut (mVar 0) (mC (.int (2))) (mOp fDiv (mOp fIx (mVar 0) (mC (.int (2)))) (mVar 1)))
    (sRet (mVar 4))))))
def F__law_draw : FV := runF 5 g__law_draw
/-- _law_number(_law_feed_here, _law_most); slots: 0 _law_feed_here 1 _law_most 2 _law_way -/
def g__law_number : MS :=
    (sSeq (sSet 2 (mFn 2 F__law_draw (mCons (mVar 0) (mCons (mC (.int (4))) mNil))))
    (sSeq (sIf (asB (mOp fEq (mVar 2) (mC (.int (0))))) (sRet (mFn 2 F__law_draw (mCons (mVar 0) (mCons (mCall cMin (mCons (mVar 1) (mCons (mC (.int (4))) mNil))) mNil)))) sNil)
    (sSeq (sIf (asB (mOp fEq (mVar 2) (mC (.int (1))))) (sRet (mFn 2 F__law_draw (mCons (mVar 0) (mCons (mCall cMin (mCons (mVar 1) (mCons (mC (.int (100))) mNil))) mNil)))) sNil)
    (sSeq (sIf (asB (mOp fEq (mVar 2) (mC (.int (2))))) (sRet (mFn 2 F__law_draw (mCons (mVar 0) (mCons (mVar 1) mNil)))) sNil)
    (sRet (mOp fSub (mOp fSub (mVar 1) (mC (.int (1)))) (mFn 2 F__law_draw (mCons (mVar 0) (mCons (mCall cMin (mCons (mVar 1) (mCons (mC (.int (9))) mNil))) mNil)))))))))
def F__law_number : FV := runF 3 g__law_number
/-- _law_ratio(_law_feed_here); slots: 0 _law_feed_here 1 _law_most 2 _law_top -/
def g__law_ratio : MS :=
    (sSeq (sSet 1 (mOp fIx (mFz (mLst (mCons (mOp fPow (mC (.int (10))) (mC (.int (58)))) (mCons (mOp fPow (mC (.int (10))) (mC (.int (30)))) mNil)))) (mFn 2 F__law_draw (mCons (mVar 0) (mCons (mC (.int (2))) mNil)))))
    (sSeq (sSet 2 (mOp fMul (mFn 2 F__law_number (mCons (mVar 0) (mCons (mVar 1) mNil))) (mOp fIx (mFz (mLst (mCons (mC (.int (1))) (mCons (mUn fNeg (mC (.int (1)))) mNil)))) (mFn 2 F__law_draw (mCons (mVar 0) (mCons (mC (.int (2))) mNil))))))
    (sRet (mFn 2 F__law_low (mCons (mVar 2) (mCons (mOp fAdd (mC (.int (1))) (mFn 2 F__law_number (mCons (mVar 0) (mCons (mOp fSub (mVar 1) (mC (.int (1)))) mNil)))) mNil))))))
def F__law_ratio : FV := runF 3 g__law_ratio
/-- _law_times(_law_feed_here, _law_one, _law_way); slots: 0 _law_feed_here 1 _law_one 2 _law_way 3 _law_by -/
def g__law_times : MS :=
    (sSeq (sSet 3 (mOp fAdd (mC (.int (2))) (mFn 2 F__law_draw (mCons (mVar 0) (mCons (mC (.int (40))) mNil)))))
    (sSeq (sIf (bAnd (asB (mOp fEq (mVar 2) (mC (.int (1))))) (asB (mOp fLt (mCall cMax (mCons (mCall cAbs (mCons (mOp fIx (mVar 1) (mC (.int (0)))) mNil)) (mCons (mOp fIx (mVar 1) (mC (.int (1)))) mNil))) (mOp fPow (mC (.int (10))) (mC (.int (30))))))) (sSet 3 (mOp fAdd (mC (.int (2))) (mFn 2 F__law_number (mCons (mVar 0) (mCons (mOp fPow (mC (.int (10))) (mC (.int (28)))) mNil))))) sNil)
    (sRet (mTup (mCons (mOp fMul (mOp fIx (mVar 1) (mC (.int (0)))) (mVar 3)) (mCons (mOp fMul (mOp fIx (mVar 1) (mC (.int (1)))) (mVar 3)) mNil))))))
def F__law_times : FV := runF 4 g__law_times
/-- _law_odd(_law_feed_here); slots: 0 _law_feed_here 1 _law_some -/
def g__law_odd : MS :=
    (sSeq (sSet 1 (mFz (mLst (mCons (mC .none) (mCons (mC (.bool true)) (mCons (mC (.bool false)) (mCons (mC (.str "")) (mCons (mC (.str "1")) (mCons (mTup mNil) (mCons (mFz (mLst mNil)) (mCons (mTup (mCons (mC (.int (1))) mNil)) (mCons (mFz (mLst (mCons (mC (.int (1))) (mCons (mC (.int (2))) mNil)))) (mCons (mC (.int (1))) (mCons (mC (.int (0))) (mCons (mUn fNeg (mC (.int (1)))) (mCons (mTup (mCons (mC (.int (0))) (mCons (mC (.int (1))) mNil))) (mCons (mC (.str "0/1")) (mCons (mTup (mCons (mC (.int (1))) (mCons (mC (.int (1))) mNil))) (mCons (mTup (mCons (mC (.bool true)) (mCons (mC (.int (1))) mNil))) mNil)))))))))))))))))))
    (sRet (mOp fIx (mVar 1) (mFn 2 F__law_draw (mCons (mVar 0) (mCons (mC (.int (16))) mNil))))))
def F__law_odd : FV := runF 2 g__law_odd
/-- _law_bent(_law_feed_here, _law_one); slots: 0 _law_feed_here 1 _law_one 2 _law_way 3 _law_top 4 _law_bottom 5 _law_at -/
def g__law_bent : MS :=
    (sSeq (sSet 2 (mFn 2 F__law_draw (mCons (mVar 0) (mCons (mC (.int (12))) mNil))))
    (sSeq (sAsg (gT 2 (gCs (gN 3) (gCs (gN 4) gNs))) (mVar 1))
    (sSeq (sIf (asB (mOp fLt (mVar 2) (mC (.int (2))))) (sRet (mFn 3 F__law_times (mCons (mVar 0) (mCons (mVar 1) (mCons (mVar 2) mNil))))) sNil)
    (sSeq (sIf (asB (mOp fEq (mVar 2) (mC (.int (2))))) (sRet (mTup (mCons (mVar 3) (mCons (mOp fIx (mFz (mLst (mCons (mC (.int (0))) (mCons (mOp fSub (mC (.int (0))) (mVar 4)) mNil)))) (mFn 2 F__law_draw (mCons (mVar 0) (mCons (mC (.int (2))) mNil)))) mNil)))) sNil)
    (sSeq (sIf (asB (mOp fEq (mVar 2) (mC (.int (3))))) (sRet (mOp fIx (mFz (mLst (mCons (mTup (mCons (mOp fAdd (mVar 3) (mC (.int (1)))) (mCons (mVar 4) mNil))) (mCons (mTup (mCons (mOp fSub (mVar 3) (mC (.int (1)))) (mCons (mVar 4) mNil))) (mCons (mTup (mCons (mVar 3) (mCons (mOp fAdd (mVar 4) (mC (.int (1)))) mNil))) (mCons (mTup (mCons (mVar 3) (mCons (mOp fSub (mVar 4) (mC (.int (1)))) mNil))) mNil)))))) (mFn 2 F__law_draw (mCons (mVar 0) (mCons (mC (.int (4))) mNil))))) sNil)
    (sSeq (sIf (asB (mOp fEq (mVar 2) (mC (.int (4))))) (sRet (mOp fIx (mFz (mLst (mCons (mFz (mCallL cList (mCons (mVar 1) mNil))) (mCons (mTup (mCons (mVar 4) (mCons (mVar 3) mNil))) (mCons (mSl (mVar 1) oNone (oSome (mC (.int (1))))) (mCons (mSl (mVar 1) (oSome (mC (.int (1)))) oNone) (mCons (mOp fAdd (mVar 1) (mSl (mVar 1) (oSome (mC (.int (1)))) oNone)) (mCons (mTup (mCons (mVar 1) mNil)) (mCons (mTup (mCons (mVar 1) (mCons (mVar 1) mNil))) mNil))))))))) (mFn 2 F__law_draw (mCons (mVar 0) (mCons (mC (.int (7))) mNil))))) sNil)
    (sSeq (sIf (asB (mOp fLt (mVar 2) (mC (.int (9))))) (sSeq (sSet 5 (mFn 2 F__law_draw (mCons (mVar 0) (mCons (mC (.int (2))) mNil))))
    (sRet (mOp fAdd (mOp fAdd (mSl (mVar 1) oNone (oSome (mVar 5))) (mTup (mCons (mFn 1 F__law_odd (mCons (mVar 0) mNil)) mNil))) (mSl (mVar 1) (oSome (mOp fAdd (mVar 5) (mC (.int (1))))) oNone)))) sNil)
    (sRet (mIf (asB (mOp fLt (mVar 2) (mC (.int (11))))) (mFn 1 F__law_odd (mCons (mVar 0) mNil)) (mOp fAdd (mVar 1) (mTup (mCons (mFn 1 F__law_odd (mCons (mVar 0) mNil)) mNil))))))))))))
def F__law_bent : FV := runF 6 g__law_bent
/-- is_pair(thing); slots: 0 thing -/
def g_is_pair : MS :=
    (sRet (mAnd (mIsi .tuple (mVar 0)) (mOp fEq (mCall cLen (mCons (mVar 0) mNil)) (mC (.int (2))))))
def F_is_pair : FV := runF 1 g_is_pair
/-- is_whole(thing); slots: 0 thing -/
def g_is_whole : MS :=
    (sRet (mAnd (mIsi .int (mVar 0)) (mNot (mIsi .bool (mVar 0)))))
def F_is_whole : FV := runF 1 g_is_whole
/-- common_divisor(one, other); slots: 0 one 1 other -/
def g_common_divisor : MS :=
    (sSeq (sPar 0 1 (mCons (mCall cAbs (mCons (mVar 0) mNil)) (mCons (mCall cAbs (mCons (mVar 1) mNil)) mNil)))
    (sSeq (sWhile (fuelAt 1) (bTru (mVar 1)) (sPar 0 1 (mCons (mVar 1) (mCons (mOp fMod (mVar 0) (mVar 1)) mNil))))
    (sRet (mVar 0))))
def F_common_divisor : FV := runF 2 g_common_divisor
/-- is_ratio(thing); slots: 0 thing -/
def g_is_ratio : MS :=
    (sSeq (sIf (bOr (bNot (asB (mFn 1 F_is_pair (mCons (mVar 0) mNil)))) (bOr (bNot (asB (mFn 1 F_is_whole (mCons (mOp fIx (mVar 0) (mC (.int (0)))) mNil)))) (bNot (asB (mFn 1 F_is_whole (mCons (mOp fIx (mVar 0) (mC (.int (1)))) mNil)))))) (sRet (mC (.bool false))) sNil)
    (sRet (mAnd (mOp fGe (mOp fIx (mVar 0) (mC (.int (1)))) (mC (.int (1)))) (mOp fEq (mFn 2 F_common_divisor (mCons (mOp fIx (mVar 0) (mC (.int (0)))) (mCons (mOp fIx (mVar 0) (mC (.int (1)))) mNil))) (mC (.int (1)))))))
def F_is_ratio : FV := runF 1 g_is_ratio
/-- _law_is_whole(_law_thing); slots: 0 _law_thing -/
def g__law_is_whole : MS :=
    (sRet (mAnd (mIsi .int (mVar 0)) (mNot (mIsi .bool (mVar 0)))))
def F__law_is_whole : FV := runF 1 g__law_is_whole
/-- _law_is_ratio(_law_thing); slots: 0 _law_thing -/
def g__law_is_ratio : MS :=
    (sSeq (sIf (bOr (bNot (asB (mIsi .tuple (mVar 0)))) (asB (mOp fNe (mCall cLen (mCons (mVar 0) mNil)) (mC (.int (2)))))) (sRet (mC (.bool false))) sNil)
    (sSeq (sIf (bOr (bNot (asB (mFn 1 F__law_is_whole (mCons (mOp fIx (mVar 0) (mC (.int (0)))) mNil)))) (bOr (bNot (asB (mFn 1 F__law_is_whole (mCons (mOp fIx (mVar 0) (mC (.int (1)))) mNil)))) (asB (mOp fLt (mOp fIx (mVar 0) (mC (.int (1)))) (mC (.int (1))))))) (sRet (mC (.bool false))) sNil)
    (sRet (mOp fEq (mFn 2 F__law_low (mCons (mOp fIx (mVar 0) (mC (.int (0)))) (mCons (mOp fIx (mVar 0) (mC (.int (1)))) mNil))) (mVar 0)))))
def F__law_is_ratio : FV := runF 1 g__law_is_ratio
/-- law(_law_script); slots: 0 _law_script 1 _law_feed_here 2 _law_things 3 _law_k 4 _law_one 5 _law_thing 6 _law_kept 7 _law_turn -/
def g_law : MS :=
    (sSeq (sOwn 1 (mFnL 1 F__law_feed (mCons (mVar 0) mNil)))
    (sSeq (sSet 2 (mFz (mLst (mCons (mTup (mCons (mC (.int (0))) (mCons (mC (.int (1))) mNil))) (mCons (mTup (mCons (mC (.int (0))) (mCons (mC (.int (2))) mNil))) (mCons (mTup (mCons (mC (.int (0))) (mCons (mUn fNeg (mC (.int (1)))) mNil))) (mCons (mTup (mCons (mC (.int (1))) (mCons (mC (.int (0))) mNil))) (mCons (mTup (mCons (mC (.int (0))) (mCons (mC (.int (0))) mNil))) (mCons (mTup (mCons (mUn fNeg (mC (.int (1)))) (mCons (mC (.int (1))) mNil))) (mCons (mTup (mCons (mC (.int (2))) (mCons (mC (.int (4))) mNil))) (mCons (mTup (mCons (mUn fNeg (mC (.int (3)))) (mCons (mC (.int (6))) mNil))) (mCons (mTup (mCons (mC (.bool true)) (mCons (mC (.int (1))) mNil))) (mCons (mTup (mCons (mC (.int (1))) (mCons (mC (.bool true)) mNil))) (mCons (mTup (mCons (mC (.bool false)) (mCons (mC (.int (1))) mNil))) mNil))))))))))))))
    (sSeq (sSet 2 (mFz (mOpL fCatL (mVar 2) (mFz (mLst (mCons (mC .none) (mCons (mC (.int (1))) (mCons (mC (.str "1/2")) (mCons (mFz (mLst mNil)) (mCons (mFz (mLst (mCons (mC (.int (1))) (mCons (mC (.int (2))) mNil)))) (mCons (mTup mNil) (mCons (mTup (mCons (mC (.int (1))) mNil)) (mCons (mTup (mCons (mC (.int (1))) (mCons (mC (.int (2))) (mCons (mC (.int (3))) mNil)))) (mCons (mTup (mCons (mC (.str "1")) (mCons (mC (.int (2))) mNil))) mNil))))))))))))))
    (sSeq (sSet 2 (mFz (mOpL fCatL (mVar 2) (mFz (mLst (mCons (mTup (mCons (mC (.int (1))) (mCons (mC (.str "2")) mNil))) (mCons (mTup (mCons (mTup (mCons (mC (.int (1))) (mCons (mC (.int (1))) mNil))) (mCons (mC (.int (1))) mNil))) (mCons (mTup (mCons (mC .none) (mCons (mC .none) mNil))) mNil))))))))
    (sSeq (sFor (mRng1 (mC (.int (2)))) (gN 3) (sSeq (sSet 4 (mFn 1 F__law_ratio (mCons (mVar 1) mNil)))
    (sSet 2 (mFz (mOpL fCatL (mFz (mOpL fCatL (mVar 2) (mFz (mLst (mCons (mVar 4) mNil))))) (mFz (mLc (mRng1 (mC (.int (4)))) [7] (gN 7) bYes (mFn 2 F__law_bent (mCons (mVar 1) (mCons (mVar 4) mNil))))))))))
    (sSeq (sFor (mSeq (mVar 2)) (gN 5) (sSeq (sSet 6 (mCall cRepr (mCons (mVar 5) mNil)))
    (sIf (bOr (asB (mOp fNe (mCall cRepr (mCons (mFn 1 F_is_ratio (mCons (mVar 5) mNil)) mNil)) (mCall cRepr (mCons (mFn 1 F__law_is_ratio (mCons (mVar 5) mNil)) mNil)))) (asB (mOp fNe (mCall cRepr (mCons (mVar 5) mNil)) (mVar 6)))) (sRet (mC (.bool false))) sNil)))
    (sRet (mC (.bool true)))))))))
def F_law : FV := runF 8 g_law
end Law

namespace Law
open PySem PySem.Spec PyProof.Rows L2 DL
theorem fFeed : F__law_feed = FFeed := rfl
theorem fDraw : F__law_draw = FDraw := rfl
theorem fNumber : F__law_number = FNumber := rfl
theorem fLow : F__law_low = FLow := rfl
theorem fGcd : F_common_divisor = FGcd := rfl
theorem fWhole : F__law_is_whole = F_is_whole := rfl
abbrev pr (a b : Int) : PV := .d (.tuple [.int a, .int b])
abbrev iv (a : Int) : PV := .d (.int a)
theorem bOr_t {a b : MB} {ρ : RE} {S S1 : Sto} (h : a ρ S = some (true, S1)) : bOr a b ρ S = some (true, S1) := by
  unfold bOr
  rw [h]
  rfl
theorem bOr_f {a b : MB} {ρ : RE} {S S1 : Sto} (h : a ρ S = some (false, S1)) : bOr a b ρ S = b ρ S1 := by
  unfold bOr
  rw [h]
  rfl
theorem mAnd_t {a b : M} {ρ : RE} {S S1 : Sto} (h : a ρ S = some (.d (.bool true), S1)) : mAnd a b ρ S = b ρ S1 := by
  unfold mAnd
  rw [h]
  rfl
theorem mAnd_f {a b : M} {ρ : RE} {S S1 : Sto} (h : a ρ S = some (.d (.bool false), S1)) : mAnd a b ρ S = some (.d (.bool false), S1) := by
  unfold mAnd
  rw [h]
  rfl
def isW : PyData → Bool
  | .int _ => true
  | _ => false
def isP : PyData → Bool
  | .tuple [_, _] => true
  | _ => false
theorem whole_spec (d : PyData) (S : Sto) : F_is_whole [.d d] S = some (.d (.bool (isW d)), S) := by
  refine runF_of (ρ := [some (.d d)]) rfl ?_ (Nat.le_refl _)
  cases d <;> rfl
theorem len2 (xs : List PyData) : ((xs.length : Int) == 2) = isP (.tuple xs) := by
  match xs with
  | [] => rfl
  | [_] => rfl
  | [_, _] => rfl
  | _ :: _ :: _ :: r =>
    show (((r.length + 1 + 1 + 1 : Nat) : Int) == 2) = false
    simp
    omega
theorem pair_spec (d : PyData) (S : Sto) : F_is_pair [.d d] S = some (.d (.bool (isP d)), S) := by
  refine runF_of (ρ := [some (.d d)]) rfl ?_ (Nat.le_refl _)
  unfold g_is_pair
  cases d with
  | tuple xs =>
    refine sRet_of ((mAnd_t rfl).trans (mOp_of (mCall_of (mCons_of rfl rfl) (z := iv xs.length) rfl) rfl ?_))
    rw [fEq_int, len2]
  | none => rfl
  | bool b => rfl
  | int i => rfl
  | str s => rfl
  | list xs => rfl
  | dict kvs => rfl
theorem div_same {i j : Int} (hj : 1 ≤ j) : (PyData.eqv (lowD i j) (.tuple [.int i, .int j])) = (((Int.gcd i j : Nat) : Int) == 1) := by
  have hg := gcd_pos (t := i) (b := j) (by omega)
  show ((i / (Int.gcd i j : Nat) == i) && ((j / (Int.gcd i j : Nat) == j) && true)) = _
  by_cases h : Int.gcd i j = 1
  · rw [h]; simp
  · have h2 : j / (Int.gcd i j : Nat) < j := Int.ediv_lt_self_of_pos_of_ne_one (by omega) (by omega)
    have h3 : (j / (Int.gcd i j : Nat) == j) = false := by simp; omega
    rw [h3]
    have h4 : (((Int.gcd i j : Nat) : Int) == 1) = false := by simp; omega
    rw [h4]
    simp
theorem agree {n L : Nat} {d : PyData} (h : Okk n L d) (S : Sto) : ∃ r, F_is_ratio [.d d] S = some (.d (.bool r), S) ∧ F__law_is_ratio [.d d] S = some (.d (.bool r), S) := by
  have v0 : mCons (mVar 0) mNil [some (.d d)] S = some ([.d d], S) := rfl
  have P1 : asB (mFn 1 F_is_pair (mCons (mVar 0) mNil)) [some (.d d)] S = some (isP d, S) := asB_of (mFn_of (n := 1) v0 rfl (pair_spec d S))
  have one : ∀ {r : Bool}, g_is_ratio [some (.d d)] S = some (.rt (.d (.bool r)) S) → F_is_ratio [.d d] S = some (.d (.bool r), S) := fun e => runF_of (ρ := [some (.d d)]) rfl e (Nat.le_refl _)
  have two : ∀ {r : Bool}, g__law_is_ratio [some (.d d)] S = some (.rt (.d (.bool r)) S) → F__law_is_ratio [.d d] S = some (.d (.bool r), S) := fun e => runF_of (ρ := [some (.d d)]) rfl e (Nat.le_refl _)
  by_cases hp : isP d = true
  · -- a pair
    have : ∃ x y, d = .tuple [x, y] := by
      unfold isP at hp
      split at hp
      · exact ⟨_, _, rfl⟩
      · cases hp
    obtain ⟨x, y, rfl⟩ := this
    have ix0 : mOp fIx (mVar 0) (mC (.int 0)) [some (.d (.tuple [x, y]))] S = some (.d x, S) := rfl
    have ix1 : mOp fIx (mVar 0) (mC (.int 1)) [some (.d (.tuple [x, y]))] S = some (.d y, S) := rfl
    have W0 : asB (mFn 1 F_is_whole (mCons (mOp fIx (mVar 0) (mC (.int 0))) mNil)) [some (.d (.tuple [x, y]))] S = some (isW x, S) := asB_of (mFn_of (n := 1) (mCons_of ix0 rfl) rfl (whole_spec x S))
    have W1 : asB (mFn 1 F_is_whole (mCons (mOp fIx (mVar 0) (mC (.int 1))) mNil)) [some (.d (.tuple [x, y]))] S = some (isW y, S) := asB_of (mFn_of (n := 1) (mCons_of ix1 rfl) rfl (whole_spec y S))
    rw [hp] at P1
    have C0 : bOr (bNot (asB (mIsi .tuple (mVar 0)))) (asB (mOp fNe (mCall cLen (mCons (mVar 0) mNil)) (mC (.int (2))))) [some (.d (.tuple [x, y]))] S = some (false, S) :=
      (bOr_f (S1 := S) rfl).trans (asB_of (mOp_of (x := iv 2) rfl rfl (fNe_int 2 2 S)))
    by_cases hx : isW x = true
    · by_cases hy : isW y = true
      · have : ∃ i, x = .int i := by
          cases x <;> first | exact ⟨_, rfl⟩ | cases hx
        obtain ⟨i, rfl⟩ := this
        have : ∃ j, y = .int j := by
          cases y <;> first | exact ⟨_, rfl⟩ | cases hy
        obtain ⟨j, rfl⟩ := this
        rw [hx] at W0
        rw [hy] at W1
        have c1 : bOr (bNot (asB (mFn 1 F_is_pair (mCons (mVar 0) mNil)))) (bOr (bNot (asB (mFn 1 F_is_whole (mCons (mOp fIx (mVar 0) (mC (.int (0)))) mNil)))) (bNot (asB (mFn 1 F_is_whole (mCons (mOp fIx (mVar 0) (mC (.int (1)))) mNil))))) [some (pr i j)] S = some (false, S) :=
          (bOr_f (bNot_of P1)).trans ((bOr_f (bNot_of W0)).trans (bNot_of W1))
        have ge : mOp fGe (mOp fIx (mVar 0) (mC (.int (1)))) (mC (.int (1))) [some (pr i j)] S = some (.d (.bool (decide (j ≥ 1))), S) := mOp_of ix1 rfl rfl
        have lt : asB (mOp fLt (mOp fIx (mVar 0) (mC (.int (1)))) (mC (.int (1)))) [some (pr i j)] S = some (decide (j < 1), S) := asB_of (mOp_of ix1 rfl (fLt_int _ _ _))
        by_cases hj : j ≥ 1
        · refine ⟨((Int.gcd i j : Nat) : Int) == 1, one ?_, two ?_⟩
          · unfold g_is_ratio
            rw [sSeq_nx (if_nx c1)]
            rw [decide_eq_true hj] at ge
            refine sRet_of ((mAnd_t ge).trans (mOp_of (mFn_of (n := 2) (mCons_of ix0 (mCons_of ix1 rfl)) rfl (by rw [fGcd]; exact FGcd_spec i j S)) rfl (fEq_int _ _ _)))
          · unfold g__law_is_ratio
            rw [fWhole]
            rw [sSeq_nx (if_nx C0)]
            rw [decide_eq_false (by omega)] at lt
            rw [sSeq_nx (if_nx ((bOr_f (bNot_of W0)).trans ((bOr_f (bNot_of W1)).trans lt)))]
            have sj : j.natAbs < 2 ^ 9000 := by
              have z := h.sh
              have z2 : (decide (i.natAbs.log2 < 1920) && (decide (j.natAbs.log2 < 1920) && true)) = true := z
              simp only [Bool.and_true, Bool.and_eq_true, decide_eq_true_eq] at z2
              exact up2 (c := 1920) ((Nat.log2_lt (by omega)).mp z2.2) (by decide)
            have lo := FLow_spec (t := i) (b := j) (by omega) sj S
            refine sRet_of (mOp_of (mFn_of (n := 2) (mCons_of ix0 (mCons_of ix1 rfl)) rfl (by rw [fLow]; exact lo)) rfl ?_)
            show (if (SeqAt.shaped (lowD i j) && SeqAt.shaped (.tuple [.int i, .int j])) = true then some (PV.d (.bool (PyData.eqv (lowD i j) (.tuple [.int i, .int j])))) else none) = _
            rw [div_same hj, show SeqAt.shaped (lowD i j) = true from rfl, show SeqAt.shaped (PyData.tuple [.int i, .int j]) = true from rfl]
            rfl
        · refine ⟨false, one ?_, two ?_⟩
          · unfold g_is_ratio
            rw [sSeq_nx (if_nx c1)]
            rw [decide_eq_false hj] at ge
            exact sRet_of (mAnd_f ge)
          · unfold g__law_is_ratio
            rw [fWhole]
            rw [sSeq_nx (if_nx C0)]
            rw [decide_eq_true (by omega)] at lt
            exact sSeq_rt ((sIf_t ((bOr_f (bNot_of W0)).trans ((bOr_f (bNot_of W1)).trans lt))).trans rfl)
      · rw [Bool.not_eq_true] at hy
        rw [hx] at W0
        rw [hy] at W1
        refine ⟨false, one ?_, two ?_⟩
        · unfold g_is_ratio
          exact sSeq_rt ((sIf_t ((bOr_f (bNot_of P1)).trans ((bOr_f (bNot_of W0)).trans (bNot_of W1)))).trans rfl)
        · unfold g__law_is_ratio
          rw [fWhole]
          rw [sSeq_nx (if_nx C0)]
          exact sSeq_rt ((sIf_t ((bOr_f (bNot_of W0)).trans (bOr_t (bNot_of W1)))).trans rfl)
    · rw [Bool.not_eq_true] at hx
      rw [hx] at W0
      refine ⟨false, one ?_, two ?_⟩
      · unfold g_is_ratio
        exact sSeq_rt ((sIf_t ((bOr_f (bNot_of P1)).trans (bOr_t (bNot_of W0)))).trans rfl)
      · unfold g__law_is_ratio
        rw [fWhole]
        rw [sSeq_nx (if_nx C0)]
        exact sSeq_rt ((sIf_t (bOr_t (bNot_of W0))).trans rfl)
  · -- none
    rw [Bool.not_eq_true] at hp
    rw [hp] at P1
    refine ⟨false, one ?_, two ?_⟩
    · unfold g_is_ratio
      exact sSeq_rt ((sIf_t (bOr_t (bNot_of P1))).trans rfl)
    · unfold g__law_is_ratio
      rw [fWhole]
      refine sSeq_rt ((sIf_t (S' := S) ?_).trans rfl)
      cases d with
      | tuple xs =>
        refine (bOr_f (S1 := S) rfl).trans (asB_of (mOp_of (mCall_of (mCons_of rfl rfl) (z := iv xs.length) rfl) rfl ?_))
        rw [fNe_int, len2, hp]
        rfl
      | none => rfl
      | bool b => rfl
      | int i => rfl
      | str s => rfl
      | list xs => rfl
      | dict kvs => rfl
/-! odd things -/
def okB (d : PyData) : Bool := d.showable && !d.hasDict && decide (d.depth ≤ 2) && decide (d.shown.length ≤ 5000) && PyData.strOk d.shown
theorem okB_okk {d : PyData} (h : okB d = true) : Okk 2 5000 d := by
  unfold okB at h
  simp only [Bool.and_eq_true, decide_eq_true_eq, Bool.not_eq_true'] at h
  exact ⟨h.1.1.1.1, h.1.1.1.2, h.1.1.2, h.1.2, h.2⟩
def oddL : List PyData := [.none, .bool true, .bool false, .str "", .str "1", .tuple [], .list [], .tuple [.int 1], .list [.int 1, .int 2], .int 1, .int 0, .int (-1), .tuple [.int 0, .int 1], .str "0/1", .tuple [.int 1, .int 1], .tuple [.bool true, .int 1]]
theorem oddL_ok : oddL.all okB = true := by decide +kernel
section
variable {ms : List Int} {k : Int} {T S : Sto}
theorem odd_fed (hm : ms ≠ []) (h : FedT ms k T S) (hk : k ≤ 9999) : ∃ d S', F__law_odd [.c 0] S = some (.d d, S') ∧ Okk 2 5000 d ∧ FedT ms (k + 1) T S' := by
  obtain ⟨r, S1, e1, r0, r1, f1⟩ := h.draw hm (by omega) (many := 16) (by decide) (up2 (c := 5) (by decide) (by decide))
  obtain ⟨d, dm, de⟩ := atI_mem (xs := oddL) r0 r1
  refine ⟨d, S1, runF_of (ρ := [some (.c 0), none]) rfl ?_ (h.same f1), okB_okk (List.all_eq_true.mp oddL_ok d dm), f1⟩
  unfold g__law_odd
  rw [sSeq_nx (ρ' := [some (.c 0), some (.d (.list oddL))]) (S' := S) rfl]
  refine sRet_of (mOp_of rfl (mFn_of (n := 2) rfl rfl (by rw [fDraw]; exact e1)) ?_)
  show (atI oddL r).map _ = _
  rw [de]
  rfl
theorem ratio_fed (hm : ms ≠ []) (h : FedT ms k T S) (hk : k ≤ 9999) :
    ∃ a b S', F__law_ratio [.c 0] S = some (pr a b, S') ∧ a.natAbs < 2 ^ 200 ∧ b.natAbs < 2 ^ 200 ∧ FedT ms (k + 6) T S' := by
  obtain ⟨u, S0, e0, u0, u1, f0⟩ := h.draw hm (by omega) (many := 2) (by decide) (up2 (c := 2) (by decide) (by decide))
  have mo : ∃ M : Int, atI [PyData.int (10 ^ 58), PyData.int (10 ^ 30)] u = some (.int M) ∧ 100 < M ∧ M < 2 ^ 200 := by
    have : u = 0 ∨ u = 1 := by omega
    rcases this with rfl | rfl
    · exact ⟨10 ^ 58, rfl, by decide, by decide⟩
    · exact ⟨10 ^ 30, rfl, by decide, by decide⟩
  obtain ⟨M, eM, M0, M1⟩ := mo
  have hM : ∀ z : Int, 0 ≤ z → z ≤ M → z.natAbs < 2 ^ 200 := fun z p q => lt_up (c := 200) p (Int.lt_of_le_of_lt q M1) (by decide)
  obtain ⟨t, S1, e1, t0, t1, f1⟩ := f0.number hm (by omega) (most := M) (by omega) (up2 (c := 200) (hM M (by omega) (by omega)) (by decide))
  obtain ⟨s, S2, e2, s0, s1, f2⟩ := f1.draw hm (by omega) (many := 2) (by decide) (up2 (c := 2) (by decide) (by decide))
  obtain ⟨v, S3, e3, v0, v1, f3⟩ := f2.number hm (by omega) (most := M - 1) (by omega) (up2 (c := 200) (hM (M - 1) (by omega) (by omega)) (by decide))
  have sg : ∃ g : Int, atI [PyData.int 1, PyData.int (-1)] s = some (PyData.int g) ∧ (g = 1 ∨ g = -1) := by
    have : s = 0 ∨ s = 1 := by omega
    rcases this with rfl | rfl
    · exact ⟨1, rfl, .inl rfl⟩
    · exact ⟨-1, rfl, .inr rfl⟩
  obtain ⟨g, eg, hg⟩ := sg
  have hb : 0 < 1 + v := by omega
  obtain ⟨p, q, el, _, _, l1, l2, l3, l4⟩ := low_facts (t := t * g) hb
  have ht : (t * g).natAbs = t.natAbs := by
    rcases hg with rfl | rfl <;> omega
  have hv := hM (1 + v) (by omega) (by omega)
  have htt := hM t (by omega) (by omega)
  have l := FLow_spec (t := t * g) hb (up2 hv (by decide)) S3
  rw [el] at l
  refine ⟨p, q, S3, runF_of (ρ := [some (.c 0), none, none]) rfl ?_ (h.same f3), by omega, hM q (by omega) (by omega), f3.mono (by omega)⟩
  unfold g__law_ratio
  have ixM : mOp fIx (mFz (mLst (mCons (mOp fPow (mC (.int (10))) (mC (.int (58)))) (mCons (mOp fPow (mC (.int (10))) (mC (.int (30)))) mNil)))) (mFn 2 F__law_draw (mCons (mVar 0) (mCons (mC (.int (2))) mNil))) [some (.c 0), none, none] S = some (iv M, S0) :=
    mOp_of (mFz_of (mLst_of (vs := [iv (10 ^ 58), iv (10 ^ 30)]) (mCons_of (mOp_of rfl rfl (fPow_int (by decide) (by decide) (by decide) S)) (mCons_of (mOp_of rfl rfl (fPow_int (by decide) (by decide) (by decide) S)) rfl)) rfl (by show 2 ≤ 1000; decide))) (mFn_of (n := 2) rfl rfl (by rw [fDraw]; exact e0)) (by show (atI [PyData.int (10 ^ 58), PyData.int (10 ^ 30)] u).map _ = _; rw [eM]; rfl)
  rw [sSeq_nx (sSet_of ixM)]
  show sSeq _ _ [some (.c 0), some (iv M), none] S0 = _
  have ix : mOp fIx (mFz (mLst (mCons (mC (.int (1))) (mCons (mUn fNeg (mC (.int (1)))) mNil)))) (mFn 2 F__law_draw (mCons (mVar 0) (mCons (mC (.int (2))) mNil))) [some (.c 0), some (iv M), none] S1 = some (iv g, S2) :=
    mOp_of (mFz_of (mLst_of (vs := [iv 1, iv (-1)]) rfl rfl (by show 2 ≤ 1000; decide))) (mFn_of (n := 2) rfl rfl (by rw [fDraw]; exact e2)) (by show (atI [PyData.int 1, PyData.int (-1)] s).map _ = _; rw [eg]; rfl)
  have hg64 : g.natAbs < 2 ^ 64 := by rcases hg with rfl | rfl <;> decide
  rw [sSeq_nx (sSet_of (mOp_of (mFn_of (n := 2) rfl rfl (by rw [fNumber]; exact e1)) ix (fMul_r hg64 S2)))]
  show sRet _ [some (.c 0), some (iv M), some (iv (t * g))] S2 = _
  exact sRet_of (mFn_of (n := 2) (mCons_of rfl (mCons_of (mOp_of rfl (mFn_of (n := 2) (mCons_of rfl (mCons_of (mOp_of rfl rfl rfl) rfl)) rfl (by rw [fNumber]; exact e3)) rfl) rfl)) rfl (by rw [fLow]; exact l))
theorem bAnd_t {a b : MB} {ρ : RE} {S S1 : Sto} (h : a ρ S = some (true, S1)) : bAnd a b ρ S = b ρ S1 := by
  unfold bAnd
  rw [h]
  rfl
theorem bAnd_f {a b : MB} {ρ : RE} {S S1 : Sto} (h : a ρ S = some (false, S1)) : bAnd a b ρ S = some (false, S1) := by
  unfold bAnd
  rw [h]
  rfl
theorem times_fed (hm : ms ≠ []) (h : FedT ms k T S) (hk : k ≤ 9999) {a b w : Int} (ha : a.natAbs < 2 ^ 200) (hb : b.natAbs < 2 ^ 200) :
    ∃ y S', F__law_times [.c 0, pr a b, iv w] S = some (pr (a * y) (b * y), S') ∧ y.natAbs < 2 ^ 200 ∧ FedT ms (k + 3) T S' := by
  obtain ⟨r, S1, e1, r0, r1, f1⟩ := h.draw hm (by omega) (many := 40) (by decide) (up2 (c := 6) (by decide) (by decide))
  have r200 : (2 + r).natAbs < 2 ^ 200 := lt_up (c := 100) (by omega) (by have : (2 : Int) ^ 100 = 1267650600228229401496703205376 := by decide
                                                                          omega) (by decide)
  have fin : ∀ {y : Int} {S' : Sto}, y.natAbs < 2 ^ 200 → sRet (mTup (mCons (mOp fMul (mOp fIx (mVar 1) (mC (.int (0)))) (mVar 3)) (mCons (mOp fMul (mOp fIx (mVar 1) (mC (.int (1)))) (mVar 3)) mNil))) [some (.c 0), some (pr a b), some (iv w), some (iv y)] S' = some (.rt (pr (a * y) (b * y)) S') := fun hy =>
    sRet_of (mTup_of (mCons_of (mOp_of (mOp_of rfl rfl (fIx_0 ..)) rfl (fMul_bd (up2 ha (by decide)) (up2 hy (by decide)) _)) (mCons_of (mOp_of (mOp_of rfl rfl (fIx_1 ..)) rfl (fMul_bd (up2 hb (by decide)) (up2 hy (by decide)) _)) rfl)) rfl (by show 2 ≤ 1000; decide))
  have cnd : ∃ t : Bool, bAnd (asB (mOp fEq (mVar 2) (mC (.int (1))))) (asB (mOp fLt (mCall cMax (mCons (mCall cAbs (mCons (mOp fIx (mVar 1) (mC (.int (0)))) mNil)) (mCons (mOp fIx (mVar 1) (mC (.int (1)))) mNil))) (mOp fPow (mC (.int (10))) (mC (.int (30)))))) [some (.c 0), some (pr a b), some (iv w), some (iv (2 + r))] S1 = some (t, S1) := by
    have c1 : asB (mOp fEq (mVar 2) (mC (.int (1)))) [some (.c 0), some (pr a b), some (iv w), some (iv (2 + r))] S1 = some (w == 1, S1) := asB_of (mOp_of rfl rfl (fEq_int _ _ _))
    cases hw : (w == 1) with
    | false =>
      rw [hw] at c1
      exact ⟨false, bAnd_f c1⟩
    | true =>
      rw [hw] at c1
      exact ⟨_, (bAnd_t c1).trans (asB_of (mOp_of (mCall_of (mCons_of (mCall_of (mCons_of (mOp_of rfl rfl (fIx_0 ..)) rfl) rfl) (mCons_of (mOp_of rfl rfl (fIx_1 ..)) rfl)) rfl) (mOp_of rfl rfl (fPow_int (by decide) (by decide) (by decide) S1)) (fLt_int _ _ _)))⟩
  obtain ⟨t, ct⟩ := cnd
  have hd : ∀ {o}, (sSeq (sIf (bAnd (asB (mOp fEq (mVar 2) (mC (.int (1))))) (asB (mOp fLt (mCall cMax (mCons (mCall cAbs (mCons (mOp fIx (mVar 1) (mC (.int (0)))) mNil)) (mCons (mOp fIx (mVar 1) (mC (.int (1)))) mNil))) (mOp fPow (mC (.int (10))) (mC (.int (30))))))) (sSet 3 (mOp fAdd (mC (.int (2))) (mFn 2 F__law_number (mCons (mVar 0) (mCons (mOp fPow (mC (.int (10))) (mC (.int (28)))) mNil))))) sNil)
    (sRet (mTup (mCons (mOp fMul (mOp fIx (mVar 1) (mC (.int (0)))) (mVar 3)) (mCons (mOp fMul (mOp fIx (mVar 1) (mC (.int (1)))) (mVar 3)) mNil))))) [some (.c 0), some (pr a b), some (iv w), some (iv (2 + r))] S1 = o → g__law_times [some (.c 0), some (pr a b), some (iv w), none] S = o := fun e => by
    unfold g__law_times
    rw [sSeq_nx (sSet_of (mOp_of rfl (mFn_of (n := 2) rfl rfl (by rw [fDraw]; exact e1)) rfl))]
    exact e
  cases t with
  | false =>
    refine ⟨2 + r, S1, runF_of (ρ := [some (.c 0), some (pr a b), some (iv w), none]) rfl (hd ?_) (h.same f1), r200, f1.mono (by omega)⟩
    rw [sSeq_nx (if_nx ct)]
    exact fin r200
  | true =>
    obtain ⟨v, S2, e2, v0, v1, f2⟩ := f1.number hm (by omega) (most := 10 ^ 28) (by decide) (up2 (c := 100) (by decide) (by decide))
    have v200 : (2 + v).natAbs < 2 ^ 200 := lt_up (c := 100) (by omega) (by have : (2 : Int) ^ 100 = 1267650600228229401496703205376 := by decide
                                                                            omega) (by decide)
    refine ⟨2 + v, S2, runF_of (ρ := [some (.c 0), some (pr a b), some (iv w), none]) rfl (hd ?_) (h.same f2), v200, f2.mono (by omega)⟩
    rw [sSeq_nx (ρ' := [some (.c 0), some (pr a b), some (iv w), some (iv (2 + v))]) (S' := S2) ((sIf_t ct).trans (sSet_of (mOp_of rfl (mFn_of (n := 2) (mCons_of rfl (mCons_of (mOp_of rfl rfl (fPow_int (by decide) (by decide) (by decide) S1)) rfl)) rfl (by rw [fNumber]; exact e2)) rfl)))]
    exact fin v200
theorem okk_pair {x y : PyData} (hx : Okk 2 5000 x) (hy : Okk 2 5000 y) : Okk 4 60000 (.tuple [x, y]) :=
  (okk_tuple (n := 2) (L := 5000) (xs := [x, y]) (fun z hz => by
    rcases List.mem_cons.mp hz with rfl | hz
    · exact hx
    · rcases List.mem_cons.mp hz with rfl | hz
      · exact hy
      · cases hz)).mono (by decide) (by show 5000 * 2 + 2 * 2 + 3 ≤ 60000; decide)
theorem oki {x : Int} (h : x.natAbs < 2 ^ 1000) : Okk 2 5000 (.int x) := (okk_int (up2 h (by decide))).mono (by decide) (by decide)
theorem okp {x y : Int} (hx : x.natAbs < 2 ^ 1000) (hy : y.natAbs < 2 ^ 1000) : Okk 2 5000 (.tuple [.int x, .int y]) :=
  (okk_tuple (n := 0) (L := 1921) (xs := [.int x, .int y]) (fun z hz => by
    rcases List.mem_cons.mp hz with rfl | hz
    · exact okk_int (up2 hx (by decide))
    · rcases List.mem_cons.mp hz with rfl | hz
      · exact okk_int (up2 hy (by decide))
      · cases hz)).mono (by decide) (by show 1921 * 2 + 2 * 2 + 3 ≤ 5000; decide)
abbrev bentTail : MS := (sSeq (sIf (asB (mOp fLt (mVar 2) (mC (.int (2))))) (sRet (mFn 3 F__law_times (mCons (mVar 0) (mCons (mVar 1) (mCons (mVar 2) mNil))))) sNil)
    (sSeq (sIf (asB (mOp fEq (mVar 2) (mC (.int (2))))) (sRet (mTup (mCons (mVar 3) (mCons (mOp fIx (mFz (mLst (mCons (mC (.int (0))) (mCons (mOp fSub (mC (.int (0))) (mVar 4)) mNil)))) (mFn 2 F__law_draw (mCons (mVar 0) (mCons (mC (.int (2))) mNil)))) mNil)))) sNil)
    (sSeq (sIf (asB (mOp fEq (mVar 2) (mC (.int (3))))) (sRet (mOp fIx (mFz (mLst (mCons (mTup (mCons (mOp fAdd (mVar 3) (mC (.int (1)))) (mCons (mVar 4) mNil))) (mCons (mTup (mCons (mOp fSub (mVar 3) (mC (.int (1)))) (mCons (mVar 4) mNil))) (mCons (mTup (mCons (mVar 3) (mCons (mOp fAdd (mVar 4) (mC (.int (1)))) mNil))) (mCons (mTup (mCons (mVar 3) (mCons (mOp fSub (mVar 4) (mC (.int (1)))) mNil))) mNil)))))) (mFn 2 F__law_draw (mCons (mVar 0) (mCons (mC (.int (4))) mNil))))) sNil)
    (sSeq (sIf (asB (mOp fEq (mVar 2) (mC (.int (4))))) (sRet (mOp fIx (mFz (mLst (mCons (mFz (mCallL cList (mCons (mVar 1) mNil))) (mCons (mTup (mCons (mVar 4) (mCons (mVar 3) mNil))) (mCons (mSl (mVar 1) oNone (oSome (mC (.int (1))))) (mCons (mSl (mVar 1) (oSome (mC (.int (1)))) oNone) (mCons (mOp fAdd (mVar 1) (mSl (mVar 1) (oSome (mC (.int (1)))) oNone)) (mCons (mTup (mCons (mVar 1) mNil)) (mCons (mTup (mCons (mVar 1) (mCons (mVar 1) mNil))) mNil))))))))) (mFn 2 F__law_draw (mCons (mVar 0) (mCons (mC (.int (7))) mNil))))) sNil)
    (sSeq (sIf (asB (mOp fLt (mVar 2) (mC (.int (9))))) (sSeq (sSet 5 (mFn 2 F__law_draw (mCons (mVar 0) (mCons (mC (.int (2))) mNil))))
    (sRet (mOp fAdd (mOp fAdd (mSl (mVar 1) oNone (oSome (mVar 5))) (mTup (mCons (mFn 1 F__law_odd (mCons (mVar 0) mNil)) mNil))) (mSl (mVar 1) (oSome (mOp fAdd (mVar 5) (mC (.int (1))))) oNone)))) sNil)
    (sRet (mIf (asB (mOp fLt (mVar 2) (mC (.int (11))))) (mFn 1 F__law_odd (mCons (mVar 0) mNil)) (mOp fAdd (mVar 1) (mTup (mCons (mFn 1 F__law_odd (mCons (mVar 0) mNil)) mNil))))))))))
theorem mul_1000 {x y : Int} (hx : x.natAbs < 2 ^ 200) (hy : y.natAbs < 2 ^ 200) : (x * y).natAbs < 2 ^ 1000 := by
  rw [Int.natAbs_mul]
  calc x.natAbs * y.natAbs ≤ 2 ^ 200 * 2 ^ 200 := Nat.mul_le_mul (Nat.le_of_lt hx) (Nat.le_of_lt hy)
    _ < 2 ^ 1000 := by decide
theorem cut01 (a b : Int) : cut [PyData.int a, PyData.int b] none (some 1) = [.int a] := rfl
theorem cut1 (a b : Int) : cut [PyData.int a, PyData.int b] (some 1) none = [.int b] := rfl
theorem seven (a b w : Int) (S : Sto) : mFz (mLst (mCons (mFz (mCallL cList (mCons (mVar 1) mNil))) (mCons (mTup (mCons (mVar 4) (mCons (mVar 3) mNil))) (mCons (mSl (mVar 1) oNone (oSome (mC (.int (1))))) (mCons (mSl (mVar 1) (oSome (mC (.int (1)))) oNone) (mCons (mOp fAdd (mVar 1) (mSl (mVar 1) (oSome (mC (.int (1)))) oNone)) (mCons (mTup (mCons (mVar 1) mNil)) (mCons (mTup (mCons (mVar 1) (mCons (mVar 1) mNil))) mNil)))))))) [some (.c 0), some (pr a b), some (iv w), some (iv a), some (iv b), none] S = some (.d (.list [.list [.int a, .int b], .tuple [.int b, .int a], .tuple [.int a], .tuple [.int b], .tuple [.int a, .int b, .int b], .tuple [.tuple [.int a, .int b]], .tuple [.tuple [.int a, .int b], .tuple [.int a, .int b]]]), S) := by
  have h3 : mSl (mVar 1) oNone (oSome (mC (.int (1)))) [some (.c 0), some (pr a b), some (iv w), some (iv a), some (iv b), none] S = some (.d (.tuple [.int a]), S) := by
    show some (PV.d (.tuple (cut [PyData.int a, PyData.int b] none (some 1))), S) = _
    rw [cut01]
  have h4 : mSl (mVar 1) (oSome (mC (.int (1)))) oNone [some (.c 0), some (pr a b), some (iv w), some (iv a), some (iv b), none] S = some (.d (.tuple [.int b]), S) := by
    show some (PV.d (.tuple (cut [PyData.int a, PyData.int b] (some 1) none)), S) = _
    rw [cut1]
  have t2 : ∀ {ρ : RE} {m1 m2 : M} {d1 d2 : PyData}, m1 ρ S = some (.d d1, S) → m2 ρ S = some (.d d2, S) → mTup (mCons m1 (mCons m2 mNil)) ρ S = some (.d (.tuple [d1, d2]), S) := fun h1 h2 => mTup_of (mCons_of h1 (mCons_of h2 rfl)) rfl (by show 2 ≤ 1000; decide)
  have t1 : ∀ {ρ : RE} {m1 : M} {d1 : PyData}, m1 ρ S = some (.d d1, S) → mTup (mCons m1 mNil) ρ S = some (.d (.tuple [d1]), S) := fun h1 => mTup_of (mCons_of h1 rfl) rfl (by show 1 ≤ 1000; decide)
  exact mFz_of (mLst_of (mCons_of (mFz_of (mCallL_of (mCons_of rfl rfl) rfl)) (mCons_of (t2 rfl rfl) (mCons_of h3 (mCons_of h4 (mCons_of (mOp_of rfl h4 (z := .d (.tuple [.int a, .int b, .int b])) rfl) (mCons_of (t1 rfl) (mCons_of (t2 rfl rfl) rfl))))))) rfl (by show 7 ≤ 1000; decide))
theorem bent_fed (hm : ms ≠ []) (h : FedT ms k T S) (hk : k ≤ 999) {a b : Int} (ha : a.natAbs < 2 ^ 200) (hb : b.natAbs < 2 ^ 200) :
    ∃ d S', F__law_bent [.c 0, pr a b] S = some (.d d, S') ∧ Okk 4 60000 d ∧ FedT ms (k + 9) T S' := by
  obtain ⟨w, S1, e1, w0, w1, f1⟩ := h.draw hm (by omega) (many := 12) (by decide) (up2 (c := 4) (by decide) (by decide))
  have a1 : a.natAbs < 2 ^ 1000 := up2 ha (by decide)
  have b1 : b.natAbs < 2 ^ 1000 := up2 hb (by decide)
  have pm : ∀ {x y : Int}, x.natAbs < 2 ^ 200 → y.natAbs ≤ x.natAbs + 1 → y.natAbs < 2 ^ 1000 := fun h1 h2 => by
    refine Nat.lt_of_le_of_lt h2 ?_
    refine Nat.lt_of_le_of_lt (Nat.succ_le_of_lt h1) ?_
    exact Nat.pow_lt_pow_right (by decide) (by decide)
  have wk : ∀ {d : PyData}, Okk 2 5000 d → Okk 4 60000 d := fun h => h.mono (by decide) (by decide)
  let ρ : RE := [some (.c 0), some (pr a b), some (iv w), some (iv a), some (iv b), none]
  have go : ∀ {d : PyData} {S' : Sto} {l : Int}, bentTail ρ S1 = some (.rt (.d d) S') → FedT ms l T S' → l ≤ k + 9 → Okk 4 60000 d → ∃ d S', F__law_bent [.c 0, pr a b] S = some (.d d, S') ∧ Okk 4 60000 d ∧ FedT ms (k + 9) T S' := fun {d S' l} e f hl ok => by
    refine ⟨d, S', runF_of (ρ := [some (.c 0), some (pr a b), none, none, none, none]) rfl ?_ (h.same f), ok, f.mono hl⟩
    unfold g__law_bent
    rw [sSeq_nx (sSet_of (mFn_of (n := 2) rfl rfl (by rw [fDraw]; exact e1)))]
    rw [sSeq_nx (ρ' := ρ) (S' := S1) rfl]
    exact e
  have lt : ∀ z : Int, asB (mOp fLt (mVar 2) (mC (.int z))) ρ S1 = some (decide (w < z), S1) := fun z => asB_of (mOp_of rfl rfl (fLt_int _ _ _))
  have eq : ∀ z : Int, asB (mOp fEq (mVar 2) (mC (.int z))) ρ S1 = some (w == z, S1) := fun z => asB_of (mOp_of rfl rfl (fEq_int _ _ _))
  have ltT : ∀ {z : Int}, w < z → asB (mOp fLt (mVar 2) (mC (.int z))) ρ S1 = some (true, S1) := fun {z} hz => by rw [lt, decide_eq_true hz]
  have ltF : ∀ {z : Int}, ¬ w < z → asB (mOp fLt (mVar 2) (mC (.int z))) ρ S1 = some (false, S1) := fun {z} hz => by rw [lt, decide_eq_false hz]
  have eqT : ∀ {z : Int}, w = z → asB (mOp fEq (mVar 2) (mC (.int z))) ρ S1 = some (true, S1) := fun {z} hz => by rw [eq, hz, beq_self_eq_true]
  have eqF : ∀ {z : Int}, w ≠ z → asB (mOp fEq (mVar 2) (mC (.int z))) ρ S1 = some (false, S1) := fun {z} hz => by rw [eq, show (w == z) = false from by simpa using hz]
  -- times
  by_cases c2 : w < 2
  · obtain ⟨y, S2, e2, y1, f2⟩ := times_fed hm f1 (by omega) (w := w) ha hb
    refine go ?_ f2 (by omega) (wk (okp (mul_1000 ha y1) (mul_1000 hb y1)))
    exact sSeq_rt ((sIf_t (ltT c2)).trans (sRet_of (mFn_of (n := 3) rfl rfl e2)))
  by_cases c3 : w = 2
  · obtain ⟨r, S2, e2, r0, r1, f2⟩ := f1.draw hm (by omega) (many := 2) (by decide) (up2 (c := 2) (by decide) (by decide))
    obtain ⟨d, dm, de⟩ := atI_mem (xs := [PyData.int 0, .int (0 - b)]) r0 r1
    have dk : Okk 2 5000 d := by
      rcases List.mem_cons.mp dm with rfl | dm
      · exact oki (by decide)
      · rcases List.mem_cons.mp dm with rfl | dm
        · exact oki (pm hb (by omega))
        · cases dm
    refine go ?_ f2 (by omega) (okk_pair (oki a1) dk)
    unfold bentTail; rw [sSeq_nx (if_nx (ltF c2))]
    exact sSeq_rt ((sIf_t (eqT c3)).trans (sRet_of (mTup_of (mCons_of rfl (mCons_of (mOp_of (mFz_of (mLst_of (vs := [iv 0, iv (0 - b)]) rfl rfl (by show 2 ≤ 1000; decide))) (mFn_of (n := 2) rfl rfl (by rw [fDraw]; exact e2)) (by show (atI [PyData.int 0, PyData.int (0 - b)] r).map _ = _; rw [de]; rfl)) rfl)) rfl (by show 2 ≤ 1000; decide))))
  by_cases c4 : w = 3
  · obtain ⟨r, S2, e2, r0, r1, f2⟩ := f1.draw hm (by omega) (many := 4) (by decide) (up2 (c := 3) (by decide) (by decide))
    obtain ⟨d, dm, de⟩ := atI_mem (xs := [PyData.tuple [.int (a + 1), .int b], .tuple [.int (a - 1), .int b], .tuple [.int a, .int (b + 1)], .tuple [.int a, .int (b - 1)]]) r0 r1
    have dk : Okk 2 5000 d := by
      rcases List.mem_cons.mp dm with rfl | dm
      · exact okp (pm ha (by omega)) b1
      rcases List.mem_cons.mp dm with rfl | dm
      · exact okp (pm ha (by omega)) b1
      rcases List.mem_cons.mp dm with rfl | dm
      · exact okp a1 (pm hb (by omega))
      rcases List.mem_cons.mp dm with rfl | dm
      · exact okp a1 (pm hb (by omega))
      cases dm
    refine go ?_ f2 (by omega) (wk dk)
    unfold bentTail; rw [sSeq_nx (if_nx (ltF c2)), sSeq_nx (if_nx (eqF c3))]
    exact sSeq_rt ((sIf_t (eqT c4)).trans (sRet_of (mOp_of (mFz_of (mLst_of (vs := [pr (a + 1) b, pr (a - 1) b, pr a (b + 1), pr a (b - 1)]) rfl rfl (by show 4 ≤ 1000; decide))) (mFn_of (n := 2) rfl rfl (by rw [fDraw]; exact e2)) (by show (atI [PyData.tuple [.int (a + 1), .int b], .tuple [.int (a - 1), .int b], .tuple [.int a, .int (b + 1)], .tuple [.int a, .int (b - 1)]] r).map _ = _; rw [de]; rfl))))
  by_cases c5 : w = 4
  · obtain ⟨r, S2, e2, r0, r1, f2⟩ := f1.draw hm (by omega) (many := 7) (by decide) (up2 (c := 3) (by decide) (by decide))
    obtain ⟨d, dm, de⟩ := atI_mem (xs := [PyData.list [.int a, .int b], .tuple [.int b, .int a], .tuple [.int a], .tuple [.int b], .tuple [.int a, .int b, .int b], .tuple [.tuple [.int a, .int b]], .tuple [.tuple [.int a, .int b], .tuple [.int a, .int b]]]) r0 r1
    have sing : ∀ {L : List PyData}, (∀ z ∈ L, Okk 2 5000 z) → L.length ≤ 3 → Okk 4 60000 (.tuple L) := fun {L} hL hl => (okk_tuple hL).mono (by decide) (by have := Nat.mul_le_mul_left 5000 hl; omega)
    have mi : ∀ {L : List PyData}, (∀ z ∈ L, z = .int a ∨ z = .int b) → ∀ z ∈ L, Okk 2 5000 z := fun hL z hz => by
      rcases hL z hz with rfl | rfl
      · exact oki a1
      · exact oki b1
    have dk : Okk 4 60000 d := by
      rcases List.mem_cons.mp dm with rfl | dm
      · exact (okk_list (n := 2) (L := 5000) (xs := [.int a, .int b]) (mi (by simp))).mono (by decide) (by show 5000 * 2 + 2 * 2 + 3 ≤ 60000; decide)
      rcases List.mem_cons.mp dm with rfl | dm
      · exact wk (okp b1 a1)
      rcases List.mem_cons.mp dm with rfl | dm
      · exact sing (mi (by simp)) (by show 1 ≤ 3; decide)
      rcases List.mem_cons.mp dm with rfl | dm
      · exact sing (mi (by simp)) (by show 1 ≤ 3; decide)
      rcases List.mem_cons.mp dm with rfl | dm
      · exact sing (mi (by simp)) (by show 3 ≤ 3; decide)
      rcases List.mem_cons.mp dm with rfl | dm
      · exact sing (fun z hz => by
          rcases List.mem_cons.mp hz with rfl | hz
          · exact okp a1 b1
          · cases hz) (by show 1 ≤ 3; decide)
      rcases List.mem_cons.mp dm with rfl | dm
      · exact okk_pair (okp a1 b1) (okp a1 b1)
      cases dm
    refine go ?_ f2 (by omega) dk
    unfold bentTail; rw [sSeq_nx (if_nx (ltF c2)), sSeq_nx (if_nx (eqF c3)), sSeq_nx (if_nx (eqF c4))]
    exact sSeq_rt ((sIf_t (eqT c5)).trans (sRet_of (mOp_of (seven a b w S1) (mFn_of (n := 2) rfl rfl (by rw [fDraw]; exact e2)) (by show (atI [PyData.list [.int a, .int b], .tuple [.int b, .int a], .tuple [.int a], .tuple [.int b], .tuple [.int a, .int b, .int b], .tuple [.tuple [.int a, .int b]], .tuple [.tuple [.int a, .int b], .tuple [.int a, .int b]]] r).map _ = _; rw [de]; rfl))))
  by_cases c6 : w < 9
  · obtain ⟨r, S2, e2, r0, r1, f2⟩ := f1.draw hm (by omega) (many := 2) (by decide) (up2 (c := 2) (by decide) (by decide))
    obtain ⟨d, S3, e3, dk, f3⟩ := odd_fed hm f2 (by omega)
    have : r = 0 ∨ r = 1 := by omega
    rcases this with rfl | rfl
    · refine go (d := .tuple [d, .int b]) ?_ f3 (by omega) (okk_pair dk (oki b1))
      unfold bentTail; rw [sSeq_nx (if_nx (ltF c2)), sSeq_nx (if_nx (eqF c3)), sSeq_nx (if_nx (eqF c4)), sSeq_nx (if_nx (eqF c5))]
      refine sSeq_rt ((sIf_t (ltT c6)).trans ?_)
      rw [sSeq_nx (sSet_of (mFn_of (n := 2) rfl rfl (by rw [fDraw]; exact e2)))]
      exact sRet_of (mOp_of (mOp_of (x := .d (.tuple [])) rfl (mTup_of (mCons_of (mFn_of (n := 1) rfl rfl e3) rfl) rfl (by show 1 ≤ 1000; decide)) (z := .d (.tuple [d])) rfl) (y := .d (.tuple [.int b])) rfl rfl)
    · refine go (d := .tuple [.int a, d]) ?_ f3 (by omega) (okk_pair (oki a1) dk)
      unfold bentTail; rw [sSeq_nx (if_nx (ltF c2)), sSeq_nx (if_nx (eqF c3)), sSeq_nx (if_nx (eqF c4)), sSeq_nx (if_nx (eqF c5))]
      refine sSeq_rt ((sIf_t (ltT c6)).trans ?_)
      rw [sSeq_nx (sSet_of (mFn_of (n := 2) rfl rfl (by rw [fDraw]; exact e2)))]
      exact sRet_of (mOp_of (mOp_of (x := .d (.tuple [.int a])) rfl (mTup_of (mCons_of (mFn_of (n := 1) rfl rfl e3) rfl) rfl (by show 1 ≤ 1000; decide)) (z := .d (.tuple [.int a, d])) rfl) (y := .d (.tuple [])) rfl rfl)
  obtain ⟨d, S3, e3, dk, f3⟩ := odd_fed hm f1 (by omega)
  by_cases c7 : w < 11
  · refine go (d := d) ?_ f3 (by omega) (wk dk)
    unfold bentTail; rw [sSeq_nx (if_nx (ltF c2)), sSeq_nx (if_nx (eqF c3)), sSeq_nx (if_nx (eqF c4)), sSeq_nx (if_nx (eqF c5)), sSeq_nx (if_nx (ltF c6))]
    exact sRet_of ((mIf_t (ltT c7)).trans (mFn_of (n := 1) rfl rfl e3))
  · refine go (d := .tuple [.int a, .int b, d]) ?_ f3 (by omega) ((okk_tuple (n := 2) (L := 5000) (xs := [.int a, .int b, d]) (fun z hz => by
      rcases List.mem_cons.mp hz with rfl | hz
      · exact oki a1
      rcases List.mem_cons.mp hz with rfl | hz
      · exact oki b1
      rcases List.mem_cons.mp hz with rfl | hz
      · exact dk
      cases hz)).mono (by decide) (by show 5000 * 3 + 2 * 3 + 3 ≤ 60000; decide))
    unfold bentTail; rw [sSeq_nx (if_nx (ltF c2)), sSeq_nx (if_nx (eqF c3)), sSeq_nx (if_nx (eqF c4)), sSeq_nx (if_nx (eqF c5)), sSeq_nx (if_nx (ltF c6))]
    exact sRet_of ((mIf_f (ltF c7)).trans (mOp_of rfl (mTup_of (mCons_of (mFn_of (n := 1) rfl rfl e3) rfl) rfl (by show 1 ≤ 1000; decide)) rfl))
end
abbrev bLook : MS := (sSeq (sSet 6 (mCall cRepr (mCons (mVar 5) mNil)))
    (sIf (bOr (asB (mOp fNe (mCall cRepr (mCons (mFn 1 F_is_ratio (mCons (mVar 5) mNil)) mNil)) (mCall cRepr (mCons (mFn 1 F__law_is_ratio (mCons (mVar 5) mNil)) mNil)))) (asB (mOp fNe (mCall cRepr (mCons (mVar 5) mNil)) (mVar 6)))) (sRet (mC (.bool false))) sNil))
abbrev bMore : MS := (sSeq (sSet 4 (mFn 1 F__law_ratio (mCons (mVar 1) mNil)))
    (sSet 2 (mFz (mOpL fCatL (mFz (mOpL fCatL (mVar 2) (mFz (mLst (mCons (mVar 4) mNil))))) (mFz (mLc (mRng1 (mC (.int (4)))) [7] (gN 7) bYes (mFn 2 F__law_bent (mCons (mVar 1) (mCons (mVar 4) mNil)))))))))
theorem look {x0 x1 x2 x3 x4 x7 : Option PV} {S : Sto} : ∀ (xs : List PyData), (∀ x ∈ xs, Okk 4 60000 x) → ∀ x5 x6 : Option PV, ∃ y5 y6, forGo (gN 5) bLook xs [x0, x1, x2, x3, x4, x5, x6, x7] S = some (.nx [x0, x1, x2, x3, x4, y5, y6, x7] S)
  | [], _, x5, x6 => ⟨x5, x6, for_nil⟩
  | x :: xs, h, x5, x6 => by
    have hx := h x (by simp)
    obtain ⟨y5, y6, ih⟩ := look xs (fun y hy => h y (List.mem_cons_of_mem _ hy)) (some (.d x)) (some (.d (.str x.shown))) (x0 := x0) (x1 := x1) (x2 := x2) (x3 := x3) (x4 := x4) (x7 := x7) (S := S)
    refine ⟨y5, y6, ?_⟩
    have rp : ∀ {T : Sto}, cRepr [.d x] T = some (.d (.str x.shown)) := hx.repr (by decide) (by decide) _
    obtain ⟨r, g1, g2⟩ := agree hx S
    have rb := (okk_bool r).repr (by decide) (by decide) S
    have ne : ∀ {z : Str}, PyData.strOk z = true → fNe (.d (.str z)) (.d (.str z)) S = some (.d (.bool false)) := fun hz => by
      rw [fNe_str hz hz, beq_self_eq_true]
      rfl
    have b1 : bLook [x0, x1, x2, x3, x4, some (.d x), x6, x7] S = some (.nx [x0, x1, x2, x3, x4, some (.d x), some (.d (.str x.shown)), x7] S) := by
      unfold bLook
      rw [sSeq_nx (sSet_of (mCall_of (mCons_of rfl rfl) rp))]
      show sIf _ _ _ [x0, x1, x2, x3, x4, some (.d x), some (.d (.str x.shown)), x7] S = _
      refine if_nx ((bOr_f (asB_of (mOp_of (mCall_of (mCons_of (mFn_of (n := 1) rfl rfl g1) rfl) rb) (mCall_of (mCons_of (mFn_of (n := 1) rfl rfl g2) rfl) rb) (ne (ok_bool r))))).trans ?_)
      exact asB_of (mOp_of (mCall_of (mCons_of rfl rfl) rp) rfl (ne hx.ok))
    rw [for_nx rfl b1]
    exact ih
theorem bents {ms : List Int} {a b : Int} (hm : ms ≠ []) (ha : a.natAbs < 2 ^ 200) (hb : b.natAbs < 2 ^ 200) {x0 x2 x3 x5 x6 x7 : Option PV} : ∀ (xs : List PyData) (k : Int) (ds : List PyData) (S : Sto), FedT ms k [ds] S → k + 9 * xs.length ≤ 900 → ds.length + xs.length ≤ 100 → (∀ d ∈ ds, Okk 4 60000 d) →
    ∃ es S', lcGo 1 (gN 7) bYes (mFn 2 F__law_bent (mCons (mVar 1) (mCons (mVar 4) mNil))) [x0, some (.c 0), x2, x3, some (pr a b), x5, x6, x7] xs S = some S' ∧ FedT ms (k + 9 * xs.length) [es] S' ∧ (∀ d ∈ es, Okk 4 60000 d) ∧ es.length ≤ ds.length + xs.length
  | [], k, ds, S, f, _, _, o => ⟨ds, S, rfl, f.mono (by simp), o, by simp⟩
  | x :: xs, k, ds, S, f, hk, hl, o => by
    rw [List.length_cons] at hk hl
    obtain ⟨d, S1, e1, dk, f1⟩ := bent_fed hm f (by omega) ha hb
    have ps : ∃ S2, pushAt 1 d S1 = some S2 ∧ FedT ms (k + 9) [ds ++ [d]] S2 := by
      obtain ⟨i, c, j, rfl, q⟩ := f1
      refine ⟨[feedC ms i c j, ds ++ [d]], ?_, i, c, j, rfl, q⟩
      show (if ds.length < 1000000 then some _ else none) = _
      rw [if_pos (by omega)]
      rfl
    obtain ⟨S2, e2, f2⟩ := ps
    obtain ⟨es, S3, e3, f3, o3, l3⟩ := bents hm ha hb xs (k + 9) (ds ++ [d]) S2 f2 (by omega) (by rw [List.length_append, List.length_singleton]; omega) (fun z hz => by
      rcases List.mem_append.mp hz with hz | hz
      · exact o z hz
      · rw [List.mem_singleton.mp hz]
        exact dk) (x0 := x0) (x2 := x2) (x3 := x3) (x5 := x5) (x6 := x6) (x7 := x7)
    refine ⟨es, S3, ?_, f3.mono (by rw [List.length_cons]; omega), o3, by rw [List.length_append, List.length_singleton] at l3; rw [List.length_cons]; omega⟩
    rw [lcGo_yes (ρ1 := [x0, some (.c 0), x2, x3, some (pr a b), x5, x6, some (.d x)]) rfl (mFn_of (n := 2) rfl rfl e1) e2]
    exact e3
theorem more {ms : List Int} {k : Int} {S : Sto} {L : List PyData} (hm : ms ≠ []) (h : FedT ms k [] S) (hk : k ≤ 200) (hL : ∀ d ∈ L, Okk 4 60000 d) (hl : L.length ≤ 1000) {x0 x3 x4 x5 x6 x7 : Option PV} :
    ∃ y4 L' S', bMore [x0, some (.c 0), some (.d (.list L)), x3, x4, x5, x6, x7] S = some (.nx [x0, some (.c 0), some (.d (.list L')), x3, y4, x5, x6, x7] S') ∧ FedT ms (k + 42) [] S' ∧ (∀ d ∈ L', Okk 4 60000 d) ∧ L'.length ≤ L.length + 200 := by
  obtain ⟨a, b, S1, e1, ha, hb, f1⟩ := ratio_fed hm h (by omega)
  have f1' : FedT ms (k + 6) [[]] (S1 ++ [[]]) := by
    obtain ⟨i, c, j, rfl, q⟩ := f1
    exact ⟨i, c, j, rfl, q⟩
  obtain ⟨es, S2, e2, f2, o2, l2⟩ := bents hm ha hb (rangeD 0 4) (k + 6) [] (S1 ++ [[]]) f1' (by show k + 6 + 9 * 4 ≤ 900; omega) (by show 0 + 4 ≤ 100; decide) (fun _ h => nomatch h) (x0 := x0) (x2 := some (.d (.list L))) (x3 := x3) (x5 := x5) (x6 := x6) (x7 := none)
  have hS1 : S1.length = 1 := f1.len
  have cp : (mLc (mRng1 (mC (.int (4)))) [7] (gN 7) bYes (mFn 2 F__law_bent (mCons (mVar 1) (mCons (mVar 4) mNil)))) [x0, some (.c 0), some (.d (.list L)), x3, some (pr a b), x5, x6, x7] S1 = some (es, S2.take 1) := by
    unfold mLc
    rw [mRng1_of rfl (by decide) (by decide)]
    show (lcGo S1.length (gN 7) bYes _ [x0, some (.c 0), some (.d (.list L)), x3, some (pr a b), x5, x6, none] (rangeD 0 4) (S1 ++ [[]])).bind _ = _
    rw [hS1, e2]
    obtain ⟨i, c, j, rfl, q⟩ := f2
    rfl
  have f3 : FedT ms (k + 42) [] (S2.take 1) := by
    obtain ⟨i, c, j, rfl, q⟩ := f2
    exact ⟨i, c, j, rfl, q.1, q.2.1, by have : ((rangeD 0 4).length : Int) = 4 := rfl
                                        omega⟩
  have l2' : es.length ≤ 4 := by simpa [rangeD] using l2
  refine ⟨some (pr a b), (L ++ [.tuple [.int a, .int b]]) ++ es, S2.take 1, ?_, f3, ?_, ?_⟩
  · unfold bMore
    rw [sSeq_nx (sSet_of (mFn_of (n := 1) rfl rfl e1))]
    show sSet _ _ [x0, some (.c 0), some (.d (.list L)), x3, some (pr a b), x5, x6, x7] S1 = _
    have k1 : ∀ (xs ys : List PyData) (T : Sto), xs.length + ys.length ≤ 1000000 → fCatL (.d (.list xs)) (.d (.list ys)) T = some (xs ++ ys) := fun xs ys T hh => by
      show (if xs.length + ys.length ≤ 1000000 then some (xs ++ ys) else none) = _
      rw [if_pos hh]
    refine sSet_of (mFz_of (mOpL_of (mFz_of (mOpL_of rfl (mFz_of (mLst_of (vs := [pr a b]) rfl rfl (by show 1 ≤ 1000; decide))) (k1 _ _ _ ?_))) (mFz_of cp) (k1 _ _ _ ?_)))
    · show L.length + 1 ≤ 1000000
      omega
    · rw [List.length_append]
      show L.length + 1 + es.length ≤ 1000000
      omega
  · intro d hd
    rcases List.mem_append.mp hd with hd | hd
    · rcases List.mem_append.mp hd with hd | hd
      · exact hL d hd
      · rw [List.mem_singleton.mp hd]
        exact (okp (up2 ha (by decide)) (up2 hb (by decide))).mono (by decide) (by decide)
    · exact o2 d hd
  · rw [List.length_append, List.length_append, List.length_singleton]
    omega
def told1 : List PyData := [.tuple [.int 0, .int 1], .tuple [.int 0, .int 2], .tuple [.int 0, .int (-1)], .tuple [.int 1, .int 0], .tuple [.int 0, .int 0], .tuple [.int (-1), .int 1], .tuple [.int 2, .int 4], .tuple [.int (-3), .int 6], .tuple [.bool true, .int 1], .tuple [.int 1, .bool true], .tuple [.bool false, .int 1]]
def told2 : List PyData := [.none, .int 1, .str "1/2", .list [], .list [.int 1, .int 2], .tuple [], .tuple [.int 1], .tuple [.int 1, .int 2, .int 3], .tuple [.str "1", .int 2]]
def told3 : List PyData := [.tuple [.int 1, .str "2"], .tuple [.tuple [.int 1, .int 1], .int 1], .tuple [.none, .none]]
theorem told_ok : ((told1 ++ told2) ++ told3).all okB = true := by decide +kernel
theorem law_true : ∀ ns : List Int, ns.length ≤ 63 → ∃ S', F_law [.d (.list (ns.map .int))] [] = some (.d (.bool true), S') := by
  intro ns hns
  obtain ⟨ms, hm, ef⟩ := feed_spec ns hns
  generalize PyData.list (ns.map .int) = sc at ef
  have F0 : FedT ms 0 [] [feedC ms 0 0 0] := ⟨0, 0, 0, rfl, by decide, by decide, by decide⟩
  generalize hS : ([feedC ms 0 0 0] : Sto) = S0 at F0
  have o0 : ∀ d ∈ (told1 ++ told2) ++ told3, Okk 4 60000 d := fun d hd => (okB_okk (List.all_eq_true.mp told_ok d hd)).mono (by decide) (by decide)
  obtain ⟨y4, L1, S1, t1, F1, o1, l1⟩ := more hm F0 (by decide) o0 (by decide) (x0 := some (.d sc)) (x3 := some (iv 0)) (x4 := none) (x5 := none) (x6 := none) (x7 := none)
  have l1' : L1.length ≤ 223 := l1
  obtain ⟨z4, L2, S2, t2, F2, o2, l2⟩ := more hm F1 (by decide) o1 (by omega) (x0 := some (.d sc)) (x3 := some (iv 1)) (x4 := y4) (x5 := none) (x6 := none) (x7 := none)
  obtain ⟨z5, z6, t3⟩ := look (x0 := some (.d sc)) (x1 := some (.c 0)) (x2 := some (.d (.list L2))) (x3 := some (iv 1)) (x4 := z4) (x7 := none) (S := S2) L2 o2 none none
  refine ⟨S2.take 0, ?_⟩
  have body : g_law [some (.d sc), none, none, none, none, none, none, none] [] = some (.rt (.d (.bool true)) S2) := by
    unfold g_law
    rw [sSeq_nx (sOwn_of (mFnL_of (n := 1) rfl rfl (by rw [fFeed]; exact ef)))]
    show sSeq _ _ [some (.d sc), some (.c 0), none, none, none, none, none, none] [feedC ms 0 0 0] = _
    rw [hS]
    rw [sSeq_nx (ρ' := [some (.d sc), some (.c 0), some (.d (.list told1)), none, none, none, none, none]) (S' := S0) rfl]
    rw [sSeq_nx (ρ' := [some (.d sc), some (.c 0), some (.d (.list (told1 ++ told2))), none, none, none, none, none]) (S' := S0) rfl]
    rw [sSeq_nx (ρ' := [some (.d sc), some (.c 0), some (.d (.list ((told1 ++ told2) ++ told3))), none, none, none, none, none]) (S' := S0) rfl]
    have lp : sFor (mRng1 (mC (.int (2)))) (gN 3) bMore [some (.d sc), some (.c 0), some (.d (.list ((told1 ++ told2) ++ told3))), none, none, none, none, none] S0 = some (.nx [some (.d sc), some (.c 0), some (.d (.list L2)), some (iv 1), z4, none, none, none] S2) := by
      rw [sFor_of (mRng1_of rfl (by decide) (by decide))]
      show forGo _ _ [.int 0, .int 1] _ _ = _
      rw [for_nx rfl t1, for_nx rfl t2, for_nil]
    rw [sSeq_nx lp]
    have lk : sFor (mSeq (mVar 2)) (gN 5) bLook [some (.d sc), some (.c 0), some (.d (.list L2)), some (iv 1), z4, none, none, none] S2 = some (.nx [some (.d sc), some (.c 0), some (.d (.list L2)), some (iv 1), z4, z5, z6, none] S2) := by
      rw [sFor_of (mSeq_list rfl)]
      exact t3
    rw [sSeq_nx lk]
    rfl
  unfold F_law runF
  show (g_law [some (.d sc), none, none, none, none, none, none, none] []).bind _ = _
  rw [body]
  rfl
end Law

namespace Law
open PySem PySem.Spec PyProof.Rows L2 DL
def topS (i : Nat) : Stmt := PySem.Challenge.pw_swapsums_k01_what_is_a_ratio.main.body.getD i (.Pass ⟨0, 0, 0, 0⟩)
abbrev s__law_feed : Stmt := topS 7
theorem sc__law_feed : FnScope ["_law_script"] ["_law_script"] (defScope s__law_feed) := ⟨rfl, rfl, rfl, by decide +kernel, rfl, by decide +kernel, by decide +kernel⟩
abbrev s__law_low : Stmt := topS 10
theorem sc__law_low : FnScope ["_law_top", "_law_bottom", "_law_one", "_law_other"] ["_law_top", "_law_bottom"] (defScope s__law_low) := ⟨rfl, rfl, rfl, by decide +kernel, rfl, by decide +kernel, by decide +kernel⟩
abbrev s__law_draw : Stmt := topS 8
theorem sc__law_draw : FnScope ["_law_feed_here", "_law_many", "_law_cell", "_law_mixed", "_law_found"] ["_law_feed_here", "_law_many"] (defScope s__law_draw) := ⟨rfl, rfl, rfl, by decide +kernel, rfl, by decide +kernel, by decide +kernel⟩
abbrev s__law_number : Stmt := topS 9
theorem sc__law_number : FnScope ["_law_feed_here", "_law_most", "_law_way"] ["_law_feed_here", "_law_most"] (defScope s__law_number) := ⟨rfl, rfl, rfl, by decide +kernel, rfl, by decide +kernel, by decide +kernel⟩
abbrev s__law_ratio : Stmt := topS 13
theorem sc__law_ratio : FnScope ["_law_feed_here", "_law_most", "_law_top"] ["_law_feed_here"] (defScope s__law_ratio) := ⟨rfl, rfl, rfl, by decide +kernel, rfl, by decide +kernel, by decide +kernel⟩
abbrev s__law_times : Stmt := topS 15
theorem sc__law_times : FnScope ["_law_feed_here", "_law_one", "_law_way", "_law_by"] ["_law_feed_here", "_law_one", "_law_way"] (defScope s__law_times) := ⟨rfl, rfl, rfl, by decide +kernel, rfl, by decide +kernel, by decide +kernel⟩
abbrev s__law_odd : Stmt := topS 14
theorem sc__law_odd : FnScope ["_law_feed_here", "_law_some"] ["_law_feed_here"] (defScope s__law_odd) := ⟨rfl, rfl, rfl, by decide +kernel, rfl, by decide +kernel, by decide +kernel⟩
abbrev s__law_bent : Stmt := topS 16
theorem sc__law_bent : FnScope ["_law_feed_here", "_law_one", "_law_way", "_law_top", "_law_bottom", "_law_at"] ["_law_feed_here", "_law_one"] (defScope s__law_bent) := ⟨rfl, rfl, rfl, by decide +kernel, rfl, by decide +kernel, by decide +kernel⟩
abbrev s_is_pair : Stmt := topS 2
theorem sc_is_pair : FnScope ["thing"] ["thing"] (defScope s_is_pair) := ⟨rfl, rfl, rfl, by decide +kernel, rfl, by decide +kernel, by decide +kernel⟩
abbrev s_is_whole : Stmt := topS 1
theorem sc_is_whole : FnScope ["thing"] ["thing"] (defScope s_is_whole) := ⟨rfl, rfl, rfl, by decide +kernel, rfl, by decide +kernel, by decide +kernel⟩
abbrev s_common_divisor : Stmt := topS 4
theorem sc_common_divisor : FnScope ["one", "other"] ["one", "other"] (defScope s_common_divisor) := ⟨rfl, rfl, rfl, by decide +kernel, rfl, by decide +kernel, by decide +kernel⟩
abbrev s_is_ratio : Stmt := topS 5
theorem sc_is_ratio : FnScope ["thing"] ["thing"] (defScope s_is_ratio) := ⟨rfl, rfl, rfl, by decide +kernel, rfl, by decide +kernel, by decide +kernel⟩
abbrev s__law_is_whole : Stmt := topS 11
theorem sc__law_is_whole : FnScope ["_law_thing"] ["_law_thing"] (defScope s__law_is_whole) := ⟨rfl, rfl, rfl, by decide +kernel, rfl, by decide +kernel, by decide +kernel⟩
abbrev s__law_is_ratio : Stmt := topS 12
theorem sc__law_is_ratio : FnScope ["_law_thing"] ["_law_thing"] (defScope s__law_is_ratio) := ⟨rfl, rfl, rfl, by decide +kernel, rfl, by decide +kernel, by decide +kernel⟩
abbrev s_law : Stmt := topS 17
theorem sc_law : FnScope ["_law_script", "_law_feed_here", "_law_things", "_law_k", "_law_one", "_law_thing", "_law_kept", "_law_turn"] ["_law_script"] (defScope s_law) := ⟨rfl, rfl, rfl, by decide +kernel, rfl, by decide +kernel, by decide +kernel⟩
structure Tx (K : Fg) (mg : Str → Option Value) where
  f__law_feed : Addr
  fd__law_feed : FuncData
  F__law_feed : Fun K "_law_feed" "_law_feed" s__law_feed f__law_feed fd__law_feed
  b__law_feed : Binds K fd__law_feed ["_law_script"] []
  g__law_feed : mg "_law_feed" = some (.ref f__law_feed)
  f__law_low : Addr
  fd__law_low : FuncData
  F__law_low : Fun K "_law_low" "_law_low" s__law_low f__law_low fd__law_low
  b__law_low : Binds K fd__law_low ["_law_top", "_law_bottom"] []
  g__law_low : mg "_law_low" = some (.ref f__law_low)
  f__law_draw : Addr
  fd__law_draw : FuncData
  F__law_draw : Fun K "_law_draw" "_law_draw" s__law_draw f__law_draw fd__law_draw
  b__law_draw : Binds K fd__law_draw ["_law_feed_here", "_law_many"] []
  g__law_draw : mg "_law_draw" = some (.ref f__law_draw)
  f__law_number : Addr
  fd__law_number : FuncData
  F__law_number : Fun K "_law_number" "_law_number" s__law_number f__law_number fd__law_number
  b__law_number : Binds K fd__law_number ["_law_feed_here", "_law_most"] []
  g__law_number : mg "_law_number" = some (.ref f__law_number)
  f__law_ratio : Addr
  fd__law_ratio : FuncData
  F__law_ratio : Fun K "_law_ratio" "_law_ratio" s__law_ratio f__law_ratio fd__law_ratio
  b__law_ratio : Binds K fd__law_ratio ["_law_feed_here"] []
  g__law_ratio : mg "_law_ratio" = some (.ref f__law_ratio)
  f__law_times : Addr
  fd__law_times : FuncData
  F__law_times : Fun K "_law_times" "_law_times" s__law_times f__law_times fd__law_times
  b__law_times : Binds K fd__law_times ["_law_feed_here", "_law_one", "_law_way"] []
  g__law_times : mg "_law_times" = some (.ref f__law_times)
  f__law_odd : Addr
  fd__law_odd : FuncData
  F__law_odd : Fun K "_law_odd" "_law_odd" s__law_odd f__law_odd fd__law_odd
  b__law_odd : Binds K fd__law_odd ["_law_feed_here"] []
  g__law_odd : mg "_law_odd" = some (.ref f__law_odd)
  f__law_bent : Addr
  fd__law_bent : FuncData
  F__law_bent : Fun K "_law_bent" "_law_bent" s__law_bent f__law_bent fd__law_bent
  b__law_bent : Binds K fd__law_bent ["_law_feed_here", "_law_one"] []
  g__law_bent : mg "_law_bent" = some (.ref f__law_bent)
  f_is_pair : Addr
  fd_is_pair : FuncData
  F_is_pair : Fun K "is_pair" "is_pair" s_is_pair f_is_pair fd_is_pair
  b_is_pair : Binds K fd_is_pair ["thing"] []
  g_is_pair : mg "is_pair" = some (.ref f_is_pair)
  f_is_whole : Addr
  fd_is_whole : FuncData
  F_is_whole : Fun K "is_whole" "is_whole" s_is_whole f_is_whole fd_is_whole
  b_is_whole : Binds K fd_is_whole ["thing"] []
  g_is_whole : mg "is_whole" = some (.ref f_is_whole)
  f_common_divisor : Addr
  fd_common_divisor : FuncData
  F_common_divisor : Fun K "common_divisor" "common_divisor" s_common_divisor f_common_divisor fd_common_divisor
  b_common_divisor : Binds K fd_common_divisor ["one", "other"] []
  g_common_divisor : mg "common_divisor" = some (.ref f_common_divisor)
  f_is_ratio : Addr
  fd_is_ratio : FuncData
  F_is_ratio : Fun K "is_ratio" "is_ratio" s_is_ratio f_is_ratio fd_is_ratio
  b_is_ratio : Binds K fd_is_ratio ["thing"] []
  g_is_ratio : mg "is_ratio" = some (.ref f_is_ratio)
  f__law_is_whole : Addr
  fd__law_is_whole : FuncData
  F__law_is_whole : Fun K "_law_is_whole" "_law_is_whole" s__law_is_whole f__law_is_whole fd__law_is_whole
  b__law_is_whole : Binds K fd__law_is_whole ["_law_thing"] []
  g__law_is_whole : mg "_law_is_whole" = some (.ref f__law_is_whole)
  f__law_is_ratio : Addr
  fd__law_is_ratio : FuncData
  F__law_is_ratio : Fun K "_law_is_ratio" "_law_is_ratio" s__law_is_ratio f__law_is_ratio fd__law_is_ratio
  b__law_is_ratio : Binds K fd__law_is_ratio ["_law_thing"] []
  g__law_is_ratio : mg "_law_is_ratio" = some (.ref f__law_is_ratio)
  f_law : Addr
  fd_law : FuncData
  F_law : Fun K "law" "law" s_law f_law fd_law
  b_law : Binds K fd_law ["_law_script"] []
  g_law : mg "law" = some (.ref f_law)
  z_abs : mg "abs" = none
  z_bool : mg "bool" = none
  z_int : mg "int" = none
  z_isinstance : mg "isinstance" = none
  z_len : mg "len" = none
  z_list : mg "list" = none
  z_max : mg "max" = none
  z_min : mg "min" = none
  z_range : mg "range" = none
  z_repr : mg "repr" = none
  z_tuple : mg "tuple" = none
section
variable {P : Program} {w : World} {K : Fg} {mg : Str → Option Value} {base : Heap}
set_option maxHeartbeats 0 in
theorem ok__law_feed (T : Tx K mg) : FnG P w K mg base CX0 1 T.f__law_feed T.fd__law_feed ["_law_script"] (spL K 1 F__law_feed) := by
  have body : FnG P w K mg base CX0 1 T.f__law_feed T.fd__law_feed ["_law_script"] (spL K 1 (runL 1 g__law_feed)) := fn_list rfl rfl T.F__law_feed sc__law_feed fun cdv A out s H E hr hg =>
    (ds_one (ds_retL (dl_lst (da_cons (fz (dl_cat (fz (dl_ct call_list_of cl_list rfl T.z_list PyProof.Rows.boot_list (da_cons (fz (dl_slice (dv 0) do_none (do_some de_int))) da_nil))) (fz (dl_rep (dl_lst (da_cons de_int da_nil)) (de_ct call_int1 cd_int rfl T.z_int PyProof.Rows.boot_int (da_cons (de_eq hr (de_cb call_len cd_len rfl T.z_len PySem.boot_len (da_cons (dv 0) da_nil)) de_int) da_nil)))))) (da_cons de_int (da_cons de_int (da_cons de_int da_nil)))))))
  exact body
set_option maxHeartbeats 0 in
theorem ok__law_low (T : Tx K mg) : FnG P w K mg base CX0 1 T.f__law_low T.fd__law_low ["_law_top", "_law_bottom"] (spF K 2 F__law_low) := by
  have body : FnG P w K mg base CX0 1 T.f__law_low T.fd__law_low ["_law_top", "_law_bottom"] (spF K 2 (runF 4 g__law_low)) := fn_data rfl rfl T.F__law_low sc__law_low fun cdv A out s H E hr hg =>
    (ds_cons (ds_par (i := 2) (j := 3) rfl sc__law_low.nd rfl rfl (by decide) rfl rfl (da_cons (de_cb call_abs cd_abs rfl T.z_abs boot_abs (da_cons (dv 0) da_nil)) (da_cons (dv 1) da_nil)) (by rfl))
    (ds_cons (ds_while (fuelAt 1) PassesOwn.never (db_gt (dv 3) de_int)
      (ds_one (ds_par (i := 2) (j := 3) rfl sc__law_low.nd rfl rfl (by decide) rfl rfl (da_cons (dv 3) (da_cons (de_mod (dv 2) (dv 3)) da_nil)) (by rfl))))
    (ds_one (ds_ret (de_tup (da_cons (de_div (dv 0) (dv 2)) (da_cons (de_div (dv 1) (dv 2)) da_nil)))))))
  exact body
set_option maxHeartbeats 0 in
theorem ok__law_draw (T : Tx K mg) : FnG P w K mg base CX0 1 T.f__law_draw T.fd__law_draw ["_law_feed_here", "_law_many"] (spF K 2 F__law_draw) := by
  have body : FnG P w K mg base CX0 1 T.f__law_draw T.fd__law_draw ["_law_feed_here", "_law_many"] (spF K 2 (runF 5 g__law_draw)) := fn_data rfl rfl T.F__law_draw sc__law_draw fun cdv A out s H E hr hg =>
    (ds_cons (ds_put (de_add (de_at (dv 0) de_int) de_int) (dv 0) de_int)
    (ds_cons (ds_if (db_eq hr (de_at (dv 0) de_int) de_int)
      (ds_cons (ds_set (i := 2) sc__law_draw.nd rfl (by first | exact .inl rfl | exact .inr rfl) (de_at (de_at (dv 0) de_int) (de_mod (de_at (dv 0) de_int) (de_cb call_len cd_len rfl T.z_len PySem.boot_len (da_cons (de_at (dv 0) de_int) da_nil)))))
    (ds_cons (ds_put (de_add (de_at (dv 0) de_int) de_int) (dv 0) de_int)
    (ds_cons (ds_if (db_lt (dv 2) (de_pow de_int de_int))
      (ds_cons (ds_set (i := 3) sc__law_draw.nd rfl (by first | exact .inl rfl | exact .inr rfl) (de_mod (de_pow (de_add (de_add (de_mod (dv 2) de_int) (de_mul de_int (de_at (dv 0) de_int))) de_int) de_int) de_int))
    (ds_cons (ds_set (i := 3) sc__law_draw.nd rfl (by first | exact .inl rfl | exact .inr rfl) (de_add (de_mod (dv 3) de_int) de_int))
    (ds_cons (ds_set (i := 3) sc__law_draw.nd rfl (by first | exact .inl rfl | exact .inr rfl) (de_mod (de_mul (dv 3) (de_add (de_mod (de_mul (de_at (dv 0) de_int) (de_at (dv 0) de_int)) de_int) de_int)) de_int))
    (ds_one (ds_ret (de_mod (de_div (dv 3) de_int) (dv 1)))))))
      ds_nil)
    (ds_one (ds_put (dv 2) (dv 0) de_int)))))
      ds_nil)
    (ds_cons (ds_set (i := 4) sc__law_draw.nd rfl (by first | exact .inl rfl | exact .inr rfl) (de_mod (de_at (dv 0) de_int) (dv 1)))
    (ds_cons (ds_put (de_div (de_at (dv 0) de_int) (dv 1)) (dv 0) de_int)
    (ds_one (ds_ret (dv 4)))))))
  exact body
set_option maxHeartbeats 0 in
theorem ok__law_number (T : Tx K mg) : FnG P w K mg base CX0 2 T.f__law_number T.fd__law_number ["_law_feed_here", "_law_most"] (spF K 2 F__law_number) := by
  have body : FnG P w K mg base CX0 2 T.f__law_number T.fd__law_number ["_law_feed_here", "_law_most"] (spF K 2 (runF 3 g__law_number)) := fn_data rfl rfl T.F__law_number sc__law_number fun cdv A out s H E hr hg =>
    (ds_cons (ds_set (i := 2) sc__law_number.nd rfl (by first | exact .inl rfl | exact .inr rfl) (de_call (ok__law_draw T) (hr.mono (by decide)) hg rfl T.g__law_draw T.F__law_draw.kp T.b__law_draw (da_cons (dv 0) (da_cons de_int da_nil))))
    (ds_cons (ds_if (db_eq hr (dv 2) de_int)
      (ds_one (ds_ret (de_call (ok__law_draw T) (hr.mono (by decide)) hg rfl T.g__law_draw T.F__law_draw.kp T.b__law_draw (da_cons (dv 0) (da_cons (de_cb (call_min2 rfl) cd_min rfl T.z_min boot_min (da_cons (dv 1) (da_cons de_int da_nil))) da_nil)))))
      ds_nil)
    (ds_cons (ds_if (db_eq hr (dv 2) de_int)
      (ds_one (ds_ret (de_call (ok__law_draw T) (hr.mono (by decide)) hg rfl T.g__law_draw T.F__law_draw.kp T.b__law_draw (da_cons (dv 0) (da_cons (de_cb (call_min2 rfl) cd_min rfl T.z_min boot_min (da_cons (dv 1) (da_cons de_int da_nil))) da_nil)))))
      ds_nil)
    (ds_cons (ds_if (db_eq hr (dv 2) de_int)
      (ds_one (ds_ret (de_call (ok__law_draw T) (hr.mono (by decide)) hg rfl T.g__law_draw T.F__law_draw.kp T.b__law_draw (da_cons (dv 0) (da_cons (dv 1) da_nil)))))
      ds_nil)
    (ds_one (ds_ret (de_sub (de_sub (dv 1) de_int) (de_call (ok__law_draw T) (hr.mono (by decide)) hg rfl T.g__law_draw T.F__law_draw.kp T.b__law_draw (da_cons (dv 0) (da_cons (de_cb (call_min2 rfl) cd_min rfl T.z_min boot_min (da_cons (dv 1) (da_cons de_int da_nil))) da_nil))))))))))
  exact body
set_option maxHeartbeats 0 in
theorem ok__law_ratio (T : Tx K mg) : FnG P w K mg base CX0 3 T.f__law_ratio T.fd__law_ratio ["_law_feed_here"] (spF K 1 F__law_ratio) := by
  have body : FnG P w K mg base CX0 3 T.f__law_ratio T.fd__law_ratio ["_law_feed_here"] (spF K 1 (runF 3 g__law_ratio)) := fn_data rfl rfl T.F__law_ratio sc__law_ratio fun cdv A out s H E hr hg =>
    (ds_cons (ds_set (i := 1) sc__law_ratio.nd rfl (by first | exact .inl rfl | exact .inr rfl) (de_at (fz (dl_lst (da_cons (de_pow de_int de_int) (da_cons (de_pow de_int de_int) da_nil)))) (de_call (ok__law_draw T) (hr.mono (by decide)) hg rfl T.g__law_draw T.F__law_draw.kp T.b__law_draw (da_cons (dv 0) (da_cons de_int da_nil)))))
    (ds_cons (ds_set (i := 2) sc__law_ratio.nd rfl (by first | exact .inl rfl | exact .inr rfl) (de_mul (de_call (ok__law_number T) (hr.mono (by decide)) hg rfl T.g__law_number T.F__law_number.kp T.b__law_number (da_cons (dv 0) (da_cons (dv 1) da_nil))) (de_at (fz (dl_lst (da_cons de_int (da_cons (de_neg de_int) da_nil)))) (de_call (ok__law_draw T) (hr.mono (by decide)) hg rfl T.g__law_draw T.F__law_draw.kp T.b__law_draw (da_cons (dv 0) (da_cons de_int da_nil))))))
    (ds_one (ds_ret (de_call (ok__law_low T) (hr.mono (by decide)) hg rfl T.g__law_low T.F__law_low.kp T.b__law_low (da_cons (dv 2) (da_cons (de_add de_int (de_call (ok__law_number T) (hr.mono (by decide)) hg rfl T.g__law_number T.F__law_number.kp T.b__law_number (da_cons (dv 0) (da_cons (de_sub (dv 1) de_int) da_nil)))) da_nil)))))))
  exact body
set_option maxHeartbeats 0 in
theorem ok__law_times (T : Tx K mg) : FnG P w K mg base CX0 3 T.f__law_times T.fd__law_times ["_law_feed_here", "_law_one", "_law_way"] (spF K 3 F__law_times) := by
  have body : FnG P w K mg base CX0 3 T.f__law_times T.fd__law_times ["_law_feed_here", "_law_one", "_law_way"] (spF K 3 (runF 4 g__law_times)) := fn_data rfl rfl T.F__law_times sc__law_times fun cdv A out s H E hr hg =>
    (ds_cons (ds_set (i := 3) sc__law_times.nd rfl (by first | exact .inl rfl | exact .inr rfl) (de_add de_int (de_call (ok__law_draw T) (hr.mono (by decide)) hg rfl T.g__law_draw T.F__law_draw.kp T.b__law_draw (da_cons (dv 0) (da_cons de_int da_nil)))))
    (ds_cons (ds_if (PW.pt (dw_and (db_eq hr (dv 2) de_int) (dw_and1 (db_lt (de_cb (call_max2 rfl) cd_max rfl T.z_max boot_max (da_cons (de_cb call_abs cd_abs rfl T.z_abs boot_abs (da_cons (de_at (dv 1) de_int) da_nil)) (da_cons (de_at (dv 1) de_int) da_nil))) (de_pow de_int de_int)))))
      (ds_one (ds_set (i := 3) sc__law_times.nd rfl (by first | exact .inl rfl | exact .inr rfl) (de_add de_int (de_call (ok__law_number T) (hr.mono (by decide)) hg rfl T.g__law_number T.F__law_number.kp T.b__law_number (da_cons (dv 0) (da_cons (de_pow de_int de_int) da_nil))))))
      ds_nil)
    (ds_one (ds_ret (de_tup (da_cons (de_mul (de_at (dv 1) de_int) (dv 3)) (da_cons (de_mul (de_at (dv 1) de_int) (dv 3)) da_nil)))))))
  exact body
set_option maxHeartbeats 0 in
theorem ok__law_odd (T : Tx K mg) : FnG P w K mg base CX0 2 T.f__law_odd T.fd__law_odd ["_law_feed_here"] (spF K 1 F__law_odd) := by
  have body : FnG P w K mg base CX0 2 T.f__law_odd T.fd__law_odd ["_law_feed_here"] (spF K 1 (runF 2 g__law_odd)) := fn_data rfl rfl T.F__law_odd sc__law_odd fun cdv A out s H E hr hg =>
    (ds_cons (ds_set (i := 1) sc__law_odd.nd rfl (by first | exact .inl rfl | exact .inr rfl) (fz (dl_lst (da_cons de_non (da_cons de_bl (da_cons de_bl (da_cons de_str (da_cons de_str (da_cons (de_tup da_nil) (da_cons (fz (dl_lst da_nil)) (da_cons (de_tup (da_cons de_int da_nil)) (da_cons (fz (dl_lst (da_cons de_int (da_cons de_int da_nil)))) (da_cons de_int (da_cons de_int (da_cons (de_neg de_int) (da_cons (de_tup (da_cons de_int (da_cons de_int da_nil))) (da_cons de_str (da_cons (de_tup (da_cons de_int (da_cons de_int da_nil))) (da_cons (de_tup (da_cons de_bl (da_cons de_int da_nil))) da_nil)))))))))))))))))))
    (ds_one (ds_ret (de_at (dv 1) (de_call (ok__law_draw T) (hr.mono (by decide)) hg rfl T.g__law_draw T.F__law_draw.kp T.b__law_draw (da_cons (dv 0) (da_cons de_int da_nil)))))))
  exact body
set_option maxHeartbeats 0 in
theorem ok__law_bent (T : Tx K mg) : FnG P w K mg base CX0 4 T.f__law_bent T.fd__law_bent ["_law_feed_here", "_law_one"] (spF K 2 F__law_bent) := by
  have body : FnG P w K mg base CX0 4 T.f__law_bent T.fd__law_bent ["_law_feed_here", "_law_one"] (spF K 2 (runF 6 g__law_bent)) := fn_data rfl rfl T.F__law_bent sc__law_bent fun cdv A out s H E hr hg =>
    (ds_cons (ds_set (i := 2) sc__law_bent.nd rfl (by first | exact .inl rfl | exact .inr rfl) (de_call (ok__law_draw T) (hr.mono (by decide)) hg rfl T.g__law_draw T.F__law_draw.kp T.b__law_draw (da_cons (dv 0) (da_cons de_int da_nil))))
    (ds_cons (ds_asg (dv 1) (dg_tup rfl (dgs_cons (dg_name (i := 3) sc__law_bent.nd rfl (by first | exact .inl rfl | exact .inr rfl)) (dgs_cons (dg_name (i := 4) sc__law_bent.nd rfl (by first | exact .inl rfl | exact .inr rfl)) dgs_nil))))
    (ds_cons (ds_if (db_lt (dv 2) de_int)
      (ds_one (ds_ret (de_call (ok__law_times T) (hr.mono (by decide)) hg rfl T.g__law_times T.F__law_times.kp T.b__law_times (da_cons (dv 0) (da_cons (dv 1) (da_cons (dv 2) da_nil))))))
      ds_nil)
    (ds_cons (ds_if (db_eq hr (dv 2) de_int)
      (ds_one (ds_ret (de_tup (da_cons (dv 3) (da_cons (de_at (fz (dl_lst (da_cons de_int (da_cons (de_sub de_int (dv 4)) da_nil)))) (de_call (ok__law_draw T) (hr.mono (by decide)) hg rfl T.g__law_draw T.F__law_draw.kp T.b__law_draw (da_cons (dv 0) (da_cons de_int da_nil)))) da_nil)))))
      ds_nil)
    (ds_cons (ds_if (db_eq hr (dv 2) de_int)
      (ds_one (ds_ret (de_at (fz (dl_lst (da_cons (de_tup (da_cons (de_add (dv 3) de_int) (da_cons (dv 4) da_nil))) (da_cons (de_tup (da_cons (de_sub (dv 3) de_int) (da_cons (dv 4) da_nil))) (da_cons (de_tup (da_cons (dv 3) (da_cons (de_add (dv 4) de_int) da_nil))) (da_cons (de_tup (da_cons (dv 3) (da_cons (de_sub (dv 4) de_int) da_nil))) da_nil)))))) (de_call (ok__law_draw T) (hr.mono (by decide)) hg rfl T.g__law_draw T.F__law_draw.kp T.b__law_draw (da_cons (dv 0) (da_cons de_int da_nil))))))
      ds_nil)
    (ds_cons (ds_if (db_eq hr (dv 2) de_int)
      (ds_one (ds_ret (de_at (fz (dl_lst (da_cons (fz (dl_ct call_list_of cl_list rfl T.z_list PyProof.Rows.boot_list (da_cons (dv 1) da_nil))) (da_cons (de_tup (da_cons (dv 4) (da_cons (dv 3) da_nil))) (da_cons (de_slice (dv 1) do_none (do_some de_int)) (da_cons (de_slice (dv 1) (do_some de_int) do_none) (da_cons (de_add (dv 1) (de_slice (dv 1) (do_some de_int) do_none)) (da_cons (de_tup (da_cons (dv 1) da_nil)) (da_cons (de_tup (da_cons (dv 1) (da_cons (dv 1) da_nil))) da_nil))))))))) (de_call (ok__law_draw T) (hr.mono (by decide)) hg rfl T.g__law_draw T.F__law_draw.kp T.b__law_draw (da_cons (dv 0) (da_cons de_int da_nil))))))
      ds_nil)
    (ds_cons (ds_if (db_lt (dv 2) de_int)
      (ds_cons (ds_set (i := 5) sc__law_bent.nd rfl (by first | exact .inl rfl | exact .inr rfl) (de_call (ok__law_draw T) (hr.mono (by decide)) hg rfl T.g__law_draw T.F__law_draw.kp T.b__law_draw (da_cons (dv 0) (da_cons de_int da_nil))))
    (ds_one (ds_ret (de_add (de_add (de_slice (dv 1) do_none (do_some (dv 5))) (de_tup (da_cons (de_call (ok__law_odd T) (hr.mono (by decide)) hg rfl T.g__law_odd T.F__law_odd.kp T.b__law_odd (da_cons (dv 0) da_nil)) da_nil))) (de_slice (dv 1) (do_some (de_add (dv 5) de_int)) do_none)))))
      ds_nil)
    (ds_one (ds_ret (de_if (db_lt (dv 2) de_int) (de_call (ok__law_odd T) (hr.mono (by decide)) hg rfl T.g__law_odd T.F__law_odd.kp T.b__law_odd (da_cons (dv 0) da_nil)) (de_add (dv 1) (de_tup (da_cons (de_call (ok__law_odd T) (hr.mono (by decide)) hg rfl T.g__law_odd T.F__law_odd.kp T.b__law_odd (da_cons (dv 0) da_nil)) da_nil)))))))))))))
  exact body
set_option maxHeartbeats 0 in
theorem ok_is_pair (T : Tx K mg) : FnG P w K mg base CX0 1 T.f_is_pair T.fd_is_pair ["thing"] (spF K 1 F_is_pair) := by
  have body : FnG P w K mg base CX0 1 T.f_is_pair T.fd_is_pair ["thing"] (spF K 1 (runF 1 g_is_pair)) := fn_data rfl rfl T.F_is_pair sc_is_pair fun cdv A out s H E hr hg =>
    (ds_one (ds_ret (de_and (de_isi .tuple (dv 0) rfl T.z_isinstance rfl T.z_tuple PyProof.Rows.boot_tuple) (de_one (de_eq hr (de_cb call_len cd_len rfl T.z_len PySem.boot_len (da_cons (dv 0) da_nil)) de_int)))))
  exact body
set_option maxHeartbeats 0 in
theorem ok_is_whole (T : Tx K mg) : FnG P w K mg base CX0 1 T.f_is_whole T.fd_is_whole ["thing"] (spF K 1 F_is_whole) := by
  have body : FnG P w K mg base CX0 1 T.f_is_whole T.fd_is_whole ["thing"] (spF K 1 (runF 1 g_is_whole)) := fn_data rfl rfl T.F_is_whole sc_is_whole fun cdv A out s H E hr hg =>
    (ds_one (ds_ret (de_and (de_isi .int (dv 0) rfl T.z_isinstance rfl T.z_int PyProof.Rows.boot_int) (de_one (de_not (de_isi .bool (dv 0) rfl T.z_isinstance rfl T.z_bool PyProof.Rows.boot_bool))))))
  exact body
set_option maxHeartbeats 0 in
theorem ok_common_divisor (T : Tx K mg) : FnG P w K mg base CX0 1 T.f_common_divisor T.fd_common_divisor ["one", "other"] (spF K 2 F_common_divisor) := by
  have body : FnG P w K mg base CX0 1 T.f_common_divisor T.fd_common_divisor ["one", "other"] (spF K 2 (runF 2 g_common_divisor)) := fn_data rfl rfl T.F_common_divisor sc_common_divisor fun cdv A out s H E hr hg =>
    (ds_cons (ds_par (i := 0) (j := 1) rfl sc_common_divisor.nd rfl rfl (by decide) rfl rfl (da_cons (de_cb call_abs cd_abs rfl T.z_abs boot_abs (da_cons (dv 0) da_nil)) (da_cons (de_cb call_abs cd_abs rfl T.z_abs boot_abs (da_cons (dv 1) da_nil)) da_nil)) (by rfl))
    (ds_cons (ds_while (fuelAt 1) PassesOwn.never (db_tru (dv 1))
      (ds_one (ds_par (i := 0) (j := 1) rfl sc_common_divisor.nd rfl rfl (by decide) rfl rfl (da_cons (dv 1) (da_cons (de_mod (dv 0) (dv 1)) da_nil)) (by rfl))))
    (ds_one (ds_ret (dv 0)))))
  exact body
set_option maxHeartbeats 0 in
theorem ok_is_ratio (T : Tx K mg) : FnG P w K mg base CX0 2 T.f_is_ratio T.fd_is_ratio ["thing"] (spF K 1 F_is_ratio) := by
  have body : FnG P w K mg base CX0 2 T.f_is_ratio T.fd_is_ratio ["thing"] (spF K 1 (runF 1 g_is_ratio)) := fn_data rfl rfl T.F_is_ratio sc_is_ratio fun cdv A out s H E hr hg =>
    (ds_cons (ds_if (PW.pt (dw_or (db_not (db_val (de_call (ok_is_pair T) (hr.mono (by decide)) hg rfl T.g_is_pair T.F_is_pair.kp T.b_is_pair (da_cons (dv 0) da_nil)))) (dw_or (db_not (db_val (de_call (ok_is_whole T) (hr.mono (by decide)) hg rfl T.g_is_whole T.F_is_whole.kp T.b_is_whole (da_cons (de_at (dv 0) de_int) da_nil)))) (dw_or1 (db_not (db_val (de_call (ok_is_whole T) (hr.mono (by decide)) hg rfl T.g_is_whole T.F_is_whole.kp T.b_is_whole (da_cons (de_at (dv 0) de_int) da_nil))))))))
      (ds_one (ds_ret de_bl))
      ds_nil)
    (ds_one (ds_ret (de_and (de_ge (de_at (dv 0) de_int) de_int) (de_one (de_eq hr (de_call (ok_common_divisor T) (hr.mono (by decide)) hg rfl T.g_common_divisor T.F_common_divisor.kp T.b_common_divisor (da_cons (de_at (dv 0) de_int) (da_cons (de_at (dv 0) de_int) da_nil))) de_int))))))
  exact body
set_option maxHeartbeats 0 in
theorem ok__law_is_whole (T : Tx K mg) : FnG P w K mg base CX0 1 T.f__law_is_whole T.fd__law_is_whole ["_law_thing"] (spF K 1 F__law_is_whole) := by
  have body : FnG P w K mg base CX0 1 T.f__law_is_whole T.fd__law_is_whole ["_law_thing"] (spF K 1 (runF 1 g__law_is_whole)) := fn_data rfl rfl T.F__law_is_whole sc__law_is_whole fun cdv A out s H E hr hg =>
    (ds_one (ds_ret (de_and (de_isi .int (dv 0) rfl T.z_isinstance rfl T.z_int PyProof.Rows.boot_int) (de_one (de_not (de_isi .bool (dv 0) rfl T.z_isinstance rfl T.z_bool PyProof.Rows.boot_bool))))))
  exact body
set_option maxHeartbeats 0 in
theorem ok__law_is_ratio (T : Tx K mg) : FnG P w K mg base CX0 2 T.f__law_is_ratio T.fd__law_is_ratio ["_law_thing"] (spF K 1 F__law_is_ratio) := by
  have body : FnG P w K mg base CX0 2 T.f__law_is_ratio T.fd__law_is_ratio ["_law_thing"] (spF K 1 (runF 1 g__law_is_ratio)) := fn_data rfl rfl T.F__law_is_ratio sc__law_is_ratio fun cdv A out s H E hr hg =>
    (ds_cons (ds_if (PW.pt (dw_or (db_not (db_val (de_isi .tuple (dv 0) rfl T.z_isinstance rfl T.z_tuple PyProof.Rows.boot_tuple))) (dw_or1 (db_ne hr (de_cb call_len cd_len rfl T.z_len PySem.boot_len (da_cons (dv 0) da_nil)) de_int))))
      (ds_one (ds_ret de_bl))
      ds_nil)
    (ds_cons (ds_if (PW.pt (dw_or (db_not (db_val (de_call (ok__law_is_whole T) (hr.mono (by decide)) hg rfl T.g__law_is_whole T.F__law_is_whole.kp T.b__law_is_whole (da_cons (de_at (dv 0) de_int) da_nil)))) (dw_or (db_not (db_val (de_call (ok__law_is_whole T) (hr.mono (by decide)) hg rfl T.g__law_is_whole T.F__law_is_whole.kp T.b__law_is_whole (da_cons (de_at (dv 0) de_int) da_nil)))) (dw_or1 (db_lt (de_at (dv 0) de_int) de_int)))))
      (ds_one (ds_ret de_bl))
      ds_nil)
    (ds_one (ds_ret (de_eq hr (de_call (ok__law_low T) (hr.mono (by decide)) hg rfl T.g__law_low T.F__law_low.kp T.b__law_low (da_cons (de_at (dv 0) de_int) (da_cons (de_at (dv 0) de_int) da_nil))) (dv 0))))))
  exact body
set_option maxHeartbeats 0 in
theorem ok_law (T : Tx K mg) : FnG P w K mg base CX0 5 T.f_law T.fd_law ["_law_script"] (spF K 1 F_law) := by
  have body : FnG P w K mg base CX0 5 T.f_law T.fd_law ["_law_script"] (spF K 1 (runF 8 g_law)) := fn_data rfl rfl T.F_law sc_law fun cdv A out s H E hr hg =>
    (ds_cons (ds_own (i := 1) sc_law.nd rfl (by first | exact .inl rfl | exact .inr rfl) (dl_call (ok__law_feed T) (hr.mono (by decide)) hg rfl T.g__law_feed T.F__law_feed.kp T.b__law_feed (da_cons (dv 0) da_nil)))
    (ds_cons (ds_set (i := 2) sc_law.nd rfl (by first | exact .inl rfl | exact .inr rfl) (fz (dl_lst (da_cons (de_tup (da_cons de_int (da_cons de_int da_nil))) (da_cons (de_tup (da_cons de_int (da_cons de_int da_nil))) (da_cons (de_tup (da_cons de_int (da_cons (de_neg de_int) da_nil))) (da_cons (de_tup (da_cons de_int (da_cons de_int da_nil))) (da_cons (de_tup (da_cons de_int (da_cons de_int da_nil))) (da_cons (de_tup (da_cons (de_neg de_int) (da_cons de_int da_nil))) (da_cons (de_tup (da_cons de_int (da_cons de_int da_nil))) (da_cons (de_tup (da_cons (de_neg de_int) (da_cons de_int da_nil))) (da_cons (de_tup (da_cons de_bl (da_cons de_int da_nil))) (da_cons (de_tup (da_cons de_int (da_cons de_bl da_nil))) (da_cons (de_tup (da_cons de_bl (da_cons de_int da_nil))) da_nil))))))))))))))
    (ds_cons (ds_set (i := 2) sc_law.nd rfl (by first | exact .inl rfl | exact .inr rfl) (fz (dl_cat (dv 2) (fz (dl_lst (da_cons de_non (da_cons de_int (da_cons de_str (da_cons (fz (dl_lst da_nil)) (da_cons (fz (dl_lst (da_cons de_int (da_cons de_int da_nil)))) (da_cons (de_tup da_nil) (da_cons (de_tup (da_cons de_int da_nil)) (da_cons (de_tup (da_cons de_int (da_cons de_int (da_cons de_int da_nil)))) (da_cons (de_tup (da_cons de_str (da_cons de_int da_nil))) da_nil))))))))))))))
    (ds_cons (ds_set (i := 2) sc_law.nd rfl (by first | exact .inl rfl | exact .inr rfl) (fz (dl_cat (dv 2) (fz (dl_lst (da_cons (de_tup (da_cons de_int (da_cons de_str da_nil))) (da_cons (de_tup (da_cons (de_tup (da_cons de_int (da_cons de_int da_nil))) (da_cons de_int da_nil))) (da_cons (de_tup (da_cons de_non (da_cons de_non da_nil))) da_nil))))))))
    (ds_cons (ds_for PassesOwn.never rfl (di_rng1 rfl T.z_range de_int) (dg_name (i := 3) sc_law.nd rfl (by first | exact .inl rfl | exact .inr rfl))
      (ds_cons (ds_set (i := 4) sc_law.nd rfl (by first | exact .inl rfl | exact .inr rfl) (de_call (ok__law_ratio T) (hr.mono (by decide)) hg rfl T.g__law_ratio T.F__law_ratio.kp T.b__law_ratio (da_cons (dv 1) da_nil)))
    (ds_one (ds_set (i := 2) sc_law.nd rfl (by first | exact .inl rfl | exact .inr rfl) (fz (dl_cat (fz (dl_cat (dv 2) (fz (dl_lst (da_cons (dv 4) da_nil))))) (fz (dl_lc rfl sc_law.nd (di_rng1 rfl T.z_range de_int) (blkOk_by (own := [("_law_turn", 7)]) (N := ["_law_script", "_law_feed_here", "_law_things", "_law_k", "_law_one", "_law_thing", "_law_kept", "_law_turn"]) (sc := defScope s_law) (by decide +kernel)) (fun _ _ _ _ _ => (dg_name (i := 7) sc_law.nd rfl (by first | exact .inl rfl | exact .inr rfl))) (fun _ _ _ _ _ => dts_nil) (fun _ _ _ _ _ => (de_call (ok__law_bent T) (hr.mono (by decide)) hg rfl T.g__law_bent T.F__law_bent.kp T.b__law_bent (da_cons (dv 1) (da_cons (dv 4) da_nil)))) rfl))))))))
    (ds_cons (ds_for PassesOwn.never rfl (di_seq (dv 2)) (dg_name (i := 5) sc_law.nd rfl (by first | exact .inl rfl | exact .inr rfl))
      (ds_cons (ds_set (i := 6) sc_law.nd rfl (by first | exact .inl rfl | exact .inr rfl) (de_cb (call_reprA hr hg) cd_repr rfl T.z_repr boot_repr (da_cons (dv 5) da_nil)))
    (ds_one (ds_if (PW.pt (dw_or (db_ne hr (de_cb (call_reprA hr hg) cd_repr rfl T.z_repr boot_repr (da_cons (de_call (ok_is_ratio T) (hr.mono (by decide)) hg rfl T.g_is_ratio T.F_is_ratio.kp T.b_is_ratio (da_cons (dv 5) da_nil)) da_nil)) (de_cb (call_reprA hr hg) cd_repr rfl T.z_repr boot_repr (da_cons (de_call (ok__law_is_ratio T) (hr.mono (by decide)) hg rfl T.g__law_is_ratio T.F__law_is_ratio.kp T.b__law_is_ratio (da_cons (dv 5) da_nil)) da_nil))) (dw_or1 (db_ne hr (de_cb (call_reprA hr hg) cd_repr rfl T.z_repr boot_repr (da_cons (dv 5) da_nil)) (dv 6)))))
      (ds_one (ds_ret de_bl))
      ds_nil))))
    (ds_one (ds_ret de_bl))))))))
  exact body
end
set_option maxHeartbeats 0 in
theorem all_mk {l : PySem.W.OpenLaw} {w : World} {K : Fg} {h : Heap} {mg : Str → Option Value} {fa : Addr} (X : K.In h) (G : h.Ns mainGlobals mg) (hfa : mg "law" = some (.ref fa))
    {f0 : Addr} {od0 an0 : Option Addr} {sl0 : Array (Option Value)} {oc0 kV0 dc0 pm0 cd0 ct0 : Value}
    (a0 : PySem.W.nsIn K mainGlobals "_law_feed" = some (some (.ref f0))) (l0 : K.lookup f0 = some ⟨oc0, od0, .func (PySem.W.fnOf "_law_feed" "_law_feed" (defArgs s__law_feed) (defBody s__law_feed) (defScope s__law_feed) .none kV0 dc0 pm0 an0 cd0 ct0), sl0⟩) (c0 : PySem.W.codeIn K cd0 "_law_feed" = true) (k0 : PySem.W.keepIn K (.ref f0) = true)
    {f1 : Addr} {od1 an1 : Option Addr} {sl1 : Array (Option Value)} {oc1 kV1 dc1 pm1 cd1 ct1 : Value}
    (a1 : PySem.W.nsIn K mainGlobals "_law_low" = some (some (.ref f1))) (l1 : K.lookup f1 = some ⟨oc1, od1, .func (PySem.W.fnOf "_law_low" "_law_low" (defArgs s__law_low) (defBody s__law_low) (defScope s__law_low) .none kV1 dc1 pm1 an1 cd1 ct1), sl1⟩) (c1 : PySem.W.codeIn K cd1 "_law_low" = true) (k1 : PySem.W.keepIn K (.ref f1) = true)
    {f2 : Addr} {od2 an2 : Option Addr} {sl2 : Array (Option Value)} {oc2 kV2 dc2 pm2 cd2 ct2 : Value}
    (a2 : PySem.W.nsIn K mainGlobals "_law_draw" = some (some (.ref f2))) (l2 : K.lookup f2 = some ⟨oc2, od2, .func (PySem.W.fnOf "_law_draw" "_law_draw" (defArgs s__law_draw) (defBody s__law_draw) (defScope s__law_draw) .none kV2 dc2 pm2 an2 cd2 ct2), sl2⟩) (c2 : PySem.W.codeIn K cd2 "_law_draw" = true) (k2 : PySem.W.keepIn K (.ref f2) = true)
    {f3 : Addr} {od3 an3 : Option Addr} {sl3 : Array (Option Value)} {oc3 kV3 dc3 pm3 cd3 ct3 : Value}
    (a3 : PySem.W.nsIn K mainGlobals "_law_number" = some (some (.ref f3))) (l3 : K.lookup f3 = some ⟨oc3, od3, .func (PySem.W.fnOf "_law_number" "_law_number" (defArgs s__law_number) (defBody s__law_number) (defScope s__law_number) .none kV3 dc3 pm3 an3 cd3 ct3), sl3⟩) (c3 : PySem.W.codeIn K cd3 "_law_number" = true) (k3 : PySem.W.keepIn K (.ref f3) = true)
    {f4 : Addr} {od4 an4 : Option Addr} {sl4 : Array (Option Value)} {oc4 kV4 dc4 pm4 cd4 ct4 : Value}
    (a4 : PySem.W.nsIn K mainGlobals "_law_ratio" = some (some (.ref f4))) (l4 : K.lookup f4 = some ⟨oc4, od4, .func (PySem.W.fnOf "_law_ratio" "_law_ratio" (defArgs s__law_ratio) (defBody s__law_ratio) (defScope s__law_ratio) .none kV4 dc4 pm4 an4 cd4 ct4), sl4⟩) (c4 : PySem.W.codeIn K cd4 "_law_ratio" = true) (k4 : PySem.W.keepIn K (.ref f4) = true)
    {f5 : Addr} {od5 an5 : Option Addr} {sl5 : Array (Option Value)} {oc5 kV5 dc5 pm5 cd5 ct5 : Value}
    (a5 : PySem.W.nsIn K mainGlobals "_law_times" = some (some (.ref f5))) (l5 : K.lookup f5 = some ⟨oc5, od5, .func (PySem.W.fnOf "_law_times" "_law_times" (defArgs s__law_times) (defBody s__law_times) (defScope s__law_times) .none kV5 dc5 pm5 an5 cd5 ct5), sl5⟩) (c5 : PySem.W.codeIn K cd5 "_law_times" = true) (k5 : PySem.W.keepIn K (.ref f5) = true)
    {f6 : Addr} {od6 an6 : Option Addr} {sl6 : Array (Option Value)} {oc6 kV6 dc6 pm6 cd6 ct6 : Value}
    (a6 : PySem.W.nsIn K mainGlobals "_law_odd" = some (some (.ref f6))) (l6 : K.lookup f6 = some ⟨oc6, od6, .func (PySem.W.fnOf "_law_odd" "_law_odd" (defArgs s__law_odd) (defBody s__law_odd) (defScope s__law_odd) .none kV6 dc6 pm6 an6 cd6 ct6), sl6⟩) (c6 : PySem.W.codeIn K cd6 "_law_odd" = true) (k6 : PySem.W.keepIn K (.ref f6) = true)
    {f7 : Addr} {od7 an7 : Option Addr} {sl7 : Array (Option Value)} {oc7 kV7 dc7 pm7 cd7 ct7 : Value}
    (a7 : PySem.W.nsIn K mainGlobals "_law_bent" = some (some (.ref f7))) (l7 : K.lookup f7 = some ⟨oc7, od7, .func (PySem.W.fnOf "_law_bent" "_law_bent" (defArgs s__law_bent) (defBody s__law_bent) (defScope s__law_bent) .none kV7 dc7 pm7 an7 cd7 ct7), sl7⟩) (c7 : PySem.W.codeIn K cd7 "_law_bent" = true) (k7 : PySem.W.keepIn K (.ref f7) = true)
    {f8 : Addr} {od8 an8 : Option Addr} {sl8 : Array (Option Value)} {oc8 kV8 dc8 pm8 cd8 ct8 : Value}
    (a8 : PySem.W.nsIn K mainGlobals "is_pair" = some (some (.ref f8))) (l8 : K.lookup f8 = some ⟨oc8, od8, .func (PySem.W.fnOf "is_pair" "is_pair" (defArgs s_is_pair) (defBody s_is_pair) (defScope s_is_pair) .none kV8 dc8 pm8 an8 cd8 ct8), sl8⟩) (c8 : PySem.W.codeIn K cd8 "is_pair" = true) (k8 : PySem.W.keepIn K (.ref f8) = true)
    {f9 : Addr} {od9 an9 : Option Addr} {sl9 : Array (Option Value)} {oc9 kV9 dc9 pm9 cd9 ct9 : Value}
    (a9 : PySem.W.nsIn K mainGlobals "is_whole" = some (some (.ref f9))) (l9 : K.lookup f9 = some ⟨oc9, od9, .func (PySem.W.fnOf "is_whole" "is_whole" (defArgs s_is_whole) (defBody s_is_whole) (defScope s_is_whole) .none kV9 dc9 pm9 an9 cd9 ct9), sl9⟩) (c9 : PySem.W.codeIn K cd9 "is_whole" = true) (k9 : PySem.W.keepIn K (.ref f9) = true)
    {f10 : Addr} {od10 an10 : Option Addr} {sl10 : Array (Option Value)} {oc10 kV10 dc10 pm10 cd10 ct10 : Value}
    (a10 : PySem.W.nsIn K mainGlobals "common_divisor" = some (some (.ref f10))) (l10 : K.lookup f10 = some ⟨oc10, od10, .func (PySem.W.fnOf "common_divisor" "common_divisor" (defArgs s_common_divisor) (defBody s_common_divisor) (defScope s_common_divisor) .none kV10 dc10 pm10 an10 cd10 ct10), sl10⟩) (c10 : PySem.W.codeIn K cd10 "common_divisor" = true) (k10 : PySem.W.keepIn K (.ref f10) = true)
    {f11 : Addr} {od11 an11 : Option Addr} {sl11 : Array (Option Value)} {oc11 kV11 dc11 pm11 cd11 ct11 : Value}
    (a11 : PySem.W.nsIn K mainGlobals "is_ratio" = some (some (.ref f11))) (l11 : K.lookup f11 = some ⟨oc11, od11, .func (PySem.W.fnOf "is_ratio" "is_ratio" (defArgs s_is_ratio) (defBody s_is_ratio) (defScope s_is_ratio) .none kV11 dc11 pm11 an11 cd11 ct11), sl11⟩) (c11 : PySem.W.codeIn K cd11 "is_ratio" = true) (k11 : PySem.W.keepIn K (.ref f11) = true)
    {f12 : Addr} {od12 an12 : Option Addr} {sl12 : Array (Option Value)} {oc12 kV12 dc12 pm12 cd12 ct12 : Value}
    (a12 : PySem.W.nsIn K mainGlobals "_law_is_whole" = some (some (.ref f12))) (l12 : K.lookup f12 = some ⟨oc12, od12, .func (PySem.W.fnOf "_law_is_whole" "_law_is_whole" (defArgs s__law_is_whole) (defBody s__law_is_whole) (defScope s__law_is_whole) .none kV12 dc12 pm12 an12 cd12 ct12), sl12⟩) (c12 : PySem.W.codeIn K cd12 "_law_is_whole" = true) (k12 : PySem.W.keepIn K (.ref f12) = true)
    {f13 : Addr} {od13 an13 : Option Addr} {sl13 : Array (Option Value)} {oc13 kV13 dc13 pm13 cd13 ct13 : Value}
    (a13 : PySem.W.nsIn K mainGlobals "_law_is_ratio" = some (some (.ref f13))) (l13 : K.lookup f13 = some ⟨oc13, od13, .func (PySem.W.fnOf "_law_is_ratio" "_law_is_ratio" (defArgs s__law_is_ratio) (defBody s__law_is_ratio) (defScope s__law_is_ratio) .none kV13 dc13 pm13 an13 cd13 ct13), sl13⟩) (c13 : PySem.W.codeIn K cd13 "_law_is_ratio" = true) (k13 : PySem.W.keepIn K (.ref f13) = true)
    {f14 : Addr} {od14 an14 : Option Addr} {sl14 : Array (Option Value)} {oc14 kV14 dc14 pm14 cd14 ct14 : Value}
    (a14 : PySem.W.nsIn K mainGlobals "law" = some (some (.ref f14))) (l14 : K.lookup f14 = some ⟨oc14, od14, .func (PySem.W.fnOf "law" "law" (defArgs s_law) (defBody s_law) (defScope s_law) .none kV14 dc14 pm14 an14 cd14 ct14), sl14⟩) (c14 : PySem.W.codeIn K cd14 "law" = true) (k14 : PySem.W.keepIn K (.ref f14) = true)
    (z0 : PySem.W.nsIn K mainGlobals "abs" = some none)
    (z1 : PySem.W.nsIn K mainGlobals "bool" = some none)
    (z2 : PySem.W.nsIn K mainGlobals "int" = some none)
    (z3 : PySem.W.nsIn K mainGlobals "isinstance" = some none)
    (z4 : PySem.W.nsIn K mainGlobals "len" = some none)
    (z5 : PySem.W.nsIn K mainGlobals "list" = some none)
    (z6 : PySem.W.nsIn K mainGlobals "max" = some none)
    (z7 : PySem.W.nsIn K mainGlobals "min" = some none)
    (z8 : PySem.W.nsIn K mainGlobals "range" = some none)
    (z9 : PySem.W.nsIn K mainGlobals "repr" = some none)
    (z10 : PySem.W.nsIn K mainGlobals "tuple" = some none) :
    ∃ fd : FuncData, (∀ (s : Shared) (v : Value), BindsTo s fd ⟨[v], []⟩ [("_law_script", v)]) ∧ ∀ base : Heap, K.In base → base.Ns mainGlobals mg → FnG l.prog w K mg base CX0 5 fa fd ["_law_script"] (spF K 1 F_law) := by
  have e := hfa.symm.trans (PySem.W.mg_of X G a14)
  cases e
  have F0 := fun_mk (st := s__law_feed) l0 c0 k0
  have F1 := fun_mk (st := s__law_low) l1 c1 k1
  have F2 := fun_mk (st := s__law_draw) l2 c2 k2
  have F3 := fun_mk (st := s__law_number) l3 c3 k3
  have F4 := fun_mk (st := s__law_ratio) l4 c4 k4
  have F5 := fun_mk (st := s__law_times) l5 c5 k5
  have F6 := fun_mk (st := s__law_odd) l6 c6 k6
  have F7 := fun_mk (st := s__law_bent) l7 c7 k7
  have F8 := fun_mk (st := s_is_pair) l8 c8 k8
  have F9 := fun_mk (st := s_is_whole) l9 c9 k9
  have F10 := fun_mk (st := s_common_divisor) l10 c10 k10
  have F11 := fun_mk (st := s_is_ratio) l11 c11 k11
  have F12 := fun_mk (st := s__law_is_whole) l12 c12 k12
  have F13 := fun_mk (st := s__law_is_ratio) l13 c13 k13
  have F14 := fun_mk (st := s_law) l14 c14 k14
  let T : Tx K mg := ⟨_, _, F0, (F0.binds fun _ _ _ _ _ _ us hl => match us, hl with | [_], _ => rfl), (PySem.W.mg_of X G a0), _, _, F1, (F1.binds fun _ _ _ _ _ _ us hl => match us, hl with | [_, _], _ => rfl), (PySem.W.mg_of X G a1), _, _, F2, (F2.binds fun _ _ _ _ _ _ us hl => match us, hl with | [_, _], _ => rfl), (PySem.W.mg_of X G a2), _, _, F3, (F3.binds fun _ _ _ _ _ _ us hl => match us, hl with | [_, _], _ => rfl), (PySem.W.mg_of X G a3), _, _, F4, (F4.binds fun _ _ _ _ _ _ us hl => match us, hl with | [_], _ => rfl), (PySem.W.mg_of X G a4), _, _, F5, (F5.binds fun _ _ _ _ _ _ us hl => match us, hl with | [_, _, _], _ => rfl), (PySem.W.mg_of X G a5), _, _, F6, (F6.binds fun _ _ _ _ _ _ us hl => match us, hl with | [_], _ => rfl), (PySem.W.mg_of X G a6), _, _, F7, (F7.binds fun _ _ _ _ _ _ us hl => match us, hl with | [_, _], _ => rfl), (PySem.W.mg_of X G a7), _, _, F8, (F8.binds fun _ _ _ _ _ _ us hl => match us, hl with | [_], _ => rfl), (PySem.W.mg_of X G a8), _, _, F9, (F9.binds fun _ _ _ _ _ _ us hl => match us, hl with | [_], _ => rfl), (PySem.W.mg_of X G a9), _, _, F10, (F10.binds fun _ _ _ _ _ _ us hl => match us, hl with | [_, _], _ => rfl), (PySem.W.mg_of X G a10), _, _, F11, (F11.binds fun _ _ _ _ _ _ us hl => match us, hl with | [_], _ => rfl), (PySem.W.mg_of X G a11), _, _, F12, (F12.binds fun _ _ _ _ _ _ us hl => match us, hl with | [_], _ => rfl), (PySem.W.mg_of X G a12), _, _, F13, (F13.binds fun _ _ _ _ _ _ us hl => match us, hl with | [_], _ => rfl), (PySem.W.mg_of X G a13), _, _, F14, (F14.binds fun _ _ _ _ _ _ us hl => match us, hl with | [_], _ => rfl), (PySem.W.mg_of X G a14), (PySem.W.mg_none_of X G z0), (PySem.W.mg_none_of X G z1), (PySem.W.mg_none_of X G z2), (PySem.W.mg_none_of X G z3), (PySem.W.mg_none_of X G z4), (PySem.W.mg_none_of X G z5), (PySem.W.mg_none_of X G z6), (PySem.W.mg_none_of X G z7), (PySem.W.mg_none_of X G z8), (PySem.W.mg_none_of X G z9), (PySem.W.mg_none_of X G z10)⟩
  exact ⟨_, fun s v => .of_eq rfl, fun base _ _ => ok_law T⟩
end Law
open PySem PySem.W PyProof.Rows
set_option maxHeartbeats 0 in
theorem PySem.Challenge.cw_swapsums_k01_what_is_a_ratio_holds : PySem.Challenge.rw_swapsums_k01_what_is_a_ratio.Holds := by
  w_on; o_law; k_head; (case hw => w_witness2)
  k_fill
  refine DL.walkD (l := PySem.Challenge.rw_swapsums_k01_what_is_a_ratio) (n := 63) (k := 5) (x := "_law_script") (G := Law.F_law) rfl (by decide) rfl ⟨rfl, by decide, by decide⟩ (fun w h Y => PySem.W.kIn_of Y) ?F Law.law_true
  case F =>
    intro w mg fa h KX G hmg
    refine' Law.all_mk KX G hmg ?a0 ?l0 ?c0 ?k0 ?a1 ?l1 ?c1 ?k1 ?a2 ?l2 ?c2 ?k2 ?a3 ?l3 ?c3 ?k3 ?a4 ?l4 ?c4 ?k4 ?a5 ?l5 ?c5 ?k5 ?a6 ?l6 ?c6 ?k6 ?a7 ?l7 ?c7 ?k7 ?a8 ?l8 ?c8 ?k8 ?a9 ?l9 ?c9 ?k9 ?a10 ?l10 ?c10 ?k10 ?a11 ?l11 ?c11 ?k11 ?a12 ?l12 ?c12 ?k12 ?a13 ?l13 ?c13 ?k13 ?a14 ?l14 ?c14 ?k14 ?z0 ?z1 ?z2 ?z3 ?z4 ?z5 ?z6 ?z7 ?z8 ?z9 ?z10
    (case a0 => k_is); (case l0 => k_is); (case c0 => k_is); (case k0 => k_is); (case a1 => k_is); (case l1 => k_is); (case c1 => k_is); (case k1 => k_is); (case a2 => k_is); (case l2 => k_is); (case c2 => k_is); (case k2 => k_is); (case a3 => k_is); (case l3 => k_is); (case c3 => k_is); (case k3 => k_is); (case a4 => k_is); (case l4 => k_is); (case c4 => k_is); (case k4 => k_is); (case a5 => k_is); (case l5 => k_is); (case c5 => k_is); (case k5 => k_is); (case a6 => k_is); (case l6 => k_is); (case c6 => k_is); (case k6 => k_is); (case a7 => k_is); (case l7 => k_is); (case c7 => k_is); (case k7 => k_is); (case a8 => k_is); (case l8 => k_is); (case c8 => k_is); (case k8 => k_is); (case a9 => k_is); (case l9 => k_is); (case c9 => k_is); (case k9 => k_is); (case a10 => k_is); (case l10 => k_is); (case c10 => k_is); (case k10 => k_is); (case a11 => k_is); (case l11 => k_is); (case c11 => k_is); (case k11 => k_is); (case a12 => k_is); (case l12 => k_is); (case c12 => k_is); (case k12 => k_is); (case a13 => k_is); (case l13 => k_is); (case c13 => k_is); (case k13 => k_is); (case a14 => k_is); (case l14 => k_is); (case c14 => k_is); (case k14 => k_is); (case z0 => k_is); (case z1 => k_is); (case z2 => k_is); (case z3 => k_is); (case z4 => k_is); (case z5 => k_is); (case z6 => k_is); (case z7 => k_is); (case z8 => k_is); (case z9 => k_is); (case z10 => k_is)
