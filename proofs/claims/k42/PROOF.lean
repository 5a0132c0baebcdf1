import PyProof.Rows.All
import Wide.All
import OpenK.AllK
import Wide.FinOn
import HandS.ForMost
import HandS.Codes
import PySem.Challenge.RW_mapwebs_k42_whole_pictures_of_towers
import HandS.IsInst
import HandS.OwnEq
import KE.GoesMore
import HandS.Iter
import HandS.ForExc
import HandS.ExcInit
import HandS.ExcField
import HandS.ExcValue
import KE.KExcIs
import HandS.TupAny
import HandS.Zip
import HandS.Style
import HandS.TryMany
import PyProof.P3In
import HandS.Deep
import HandS.Walk
import HandS.DictComp
import HandS.More
import HandS.Strs
import HandS.TupMul
import PyProof.EnumMake
import PyProof.StrOps2
import HandS.Conv
set_option linter.all false
/-! Rows over a prime: what others make of them; rows with places of their own. -/
namespace M40
abbrev Vc := Nat → Int
theorem dml {p b : Int} (c : Int) (h : p ∣ b) : p ∣ c * b := Int.dvd_trans h (Int.dvd_mul_left c b)
theorem dmr {p b : Int} (c : Int) (h : p ∣ c) : p ∣ c * b := Int.dvd_trans h (Int.dvd_mul_right c b)
/-- alike mod p below N -/
def Al (p : Int) (N : Nat) (v w : Vc) : Prop := ∀ i, i < N → p ∣ v i - w i
theorem Al.refl {p : Int} {N : Nat} (v : Vc) : Al p N v v := fun i _ => by rw [Int.sub_self]; exact Int.dvd_zero p
theorem Al.symm {p : Int} {N : Nat} {v w : Vc} (h : Al p N v w) : Al p N w v := fun i hi => by
  have := Int.dvd_neg.mpr (h i hi)
  rwa [Int.neg_sub] at this
theorem Al.trans {p : Int} {N : Nat} {u v w : Vc} (h : Al p N u v) (g : Al p N v w) : Al p N u w := fun i hi => by
  have := Int.dvd_add (h i hi) (g i hi)
  rwa [show u i - v i + (v i - w i) = u i - w i by omega] at this
def zeroV : Vc := fun _ => 0
/-- what L makes, mod p -/
inductive Sp (p : Int) (N : Nat) (L : List Vc) : Vc → Prop
  | zero (v : Vc) : Al p N v zeroV → Sp p N L v
  | add (k : Int) (u w v : Vc) : u ∈ L → Sp p N L w → Al p N v (fun i => w i + k * u i) → Sp p N L v
section
variable {p : Int} {N : Nat} {L : List Vc}
theorem Sp.al {v w : Vc} (h : Sp p N L v) (a : Al p N w v) : Sp p N L w := by
  cases h with
  | zero _ z => exact .zero _ (a.trans z)
  | add k u x _ hu hx z => exact .add k u x _ hu hx (a.trans z)
theorem Sp.mem {u : Vc} (h : u ∈ L) : Sp p N L u := .add 1 u zeroV u h (.zero _ (Al.refl _)) fun i _ => by
  show p ∣ u i - (0 + 1 * u i)
  rw [show u i - (0 + 1 * u i) = 0 by omega]
  exact Int.dvd_zero p
theorem Sp.plus {v w : Vc} (h : Sp p N L v) (g : Sp p N L w) : Sp p N L (fun i => v i + w i) := by
  induction h with
  | zero v z =>
    exact g.al fun i hi => by
      have := z i hi
      rwa [show v i + w i - w i = v i - zeroV i by show _ = v i - 0; omega]
  | add k u x v hu hx z ih =>
    exact .add k u _ _ hu ih fun i hi => by
      have := z i hi
      rwa [show v i + w i - (x i + w i + k * u i) = v i - (x i + k * u i) by omega]
theorem Sp.times {v : Vc} (c : Int) (h : Sp p N L v) : Sp p N L (fun i => c * v i) := by
  induction h with
  | zero v z =>
    exact .zero _ fun i hi => by
      have := dml c (z i hi)
      rwa [show c * v i - zeroV i = c * (v i - zeroV i) by show c * v i - 0 = c * (v i - 0); rw [Int.sub_zero, Int.sub_zero]]
  | add k u x v hu hx z ih =>
    exact .add (c * k) u _ _ hu ih fun i hi => by
      have := dml c (z i hi)
      rwa [show c * v i - (c * x i + c * k * u i) = c * (v i - (x i + k * u i)) by grind]
theorem Sp.minus {v w : Vc} (h : Sp p N L v) (g : Sp p N L w) : Sp p N L (fun i => v i - w i) := by
  have := h.plus (g.times (-1))
  exact this.al fun i _ => by
    rw [show v i - w i - (v i + -1 * w i) = 0 by omega]
    exact Int.dvd_zero p
theorem Sp.of {L' : List Vc} {v : Vc} (h : Sp p N L v) (g : ∀ u ∈ L, Sp p N L' u) : Sp p N L' v := by
  induction h with
  | zero v z => exact .zero _ z
  | add k u x v hu hx z ih => exact (ih.plus ((g u hu).times k)).al z
theorem Sp.mono {L' : List Vc} {v : Vc} (h : Sp p N L v) (g : ∀ u ∈ L, u ∈ L') : Sp p N L' v := h.of fun u hu => .mem (g u hu)
/-- numbers that go along with sums, mod p -/
structure Lin (p : Int) (N : Nat) (f : Vc → Int) : Prop where
  zero : ∀ v, Al p N v zeroV → p ∣ f v
  add : ∀ k u w v, Al p N v (fun i => w i + k * u i) → p ∣ f v - (f w + k * f u)
theorem Lin.at {i : Nat} (hi : i < N) : Lin p N (fun v => v i) := ⟨fun v z => by have := z i hi; rwa [show v i - zeroV i = v i by show v i - 0 = _; omega] at this, fun k u w v z => z i hi⟩
theorem Sp.none {f : Vc → Int} (l : Lin p N f) {v : Vc} (h : Sp p N L v) (g : ∀ u ∈ L, p ∣ f u) : p ∣ f v := by
  induction h with
  | zero v z => exact l.zero v z
  | add k u x v hu hx z ih =>
    have h1 := l.add k u x v z
    have h2 := Int.dvd_add ih (dml k (g u hu))
    have := Int.dvd_add h1 h2
    rwa [show f v - (f x + k * f u) + (f x + k * f u) = f v by omega] at this
/-- rows changed all alike, mod p -/
structure LinV (p : Int) (N N' : Nat) (T : Vc → Vc) : Prop where
  zero : ∀ v, Al p N v zeroV → Al p N' (T v) zeroV
  add : ∀ k u w v, Al p N v (fun i => w i + k * u i) → Al p N' (T v) (fun i => T w i + k * T u i)
theorem Sp.map {N' : Nat} {T : Vc → Vc} (l : LinV p N N' T) {L' : List Vc} {v : Vc} (h : Sp p N L v) (g : ∀ u ∈ L, Sp p N' L' (T u)) : Sp p N' L' (T v) := by
  induction h with
  | zero v z => exact .zero _ (l.zero v z)
  | add k u x v hu hx z ih => exact (ih.plus ((g u hu).times k)).al (l.add k u x v z)
theorem Sp.cons {u v : Vc} (h : Sp p N (u :: L) v) : ∃ (c : Int) (w : Vc), Sp p N L w ∧ Al p N v (fun i => w i + c * u i) := by
  induction h with
  | zero v z =>
    exact ⟨0, zeroV, .zero _ (Al.refl _), fun i hi => by
      have := z i hi
      rwa [show v i - (zeroV i + 0 * u i) = v i - zeroV i by omega]⟩
  | add k x y v hx hy z ih =>
    obtain ⟨c, w, hw, a⟩ := ih
    rcases List.mem_cons.mp hx with rfl | hx
    · refine ⟨c + k, w, hw, fun i hi => ?_⟩
      have := Int.dvd_add (z i hi) (a i hi)
      rwa [show v i - (y i + k * x i) + (y i - (w i + c * x i)) = v i - (w i + (c + k) * x i) by grind] at this
    · refine ⟨c, fun i => w i + k * x i, .add k x w _ hx hw (Al.refl _), fun i hi => ?_⟩
      have := Int.dvd_add (z i hi) (a i hi)
      rwa [show v i - (y i + k * x i) + (y i - (w i + c * u i)) = v i - (w i + k * x i + c * u i) by omega] at this
/-- rows with places of their own: a later one is 0 at an earlier one's place -/
inductive Tri (p : Int) (N : Nat) : List (Nat × Vc) → Prop
  | nil : Tri p N []
  | cons (k : Nat × Vc) (ks : List (Nat × Vc)) : k.1 < N → p ∣ k.2 k.1 - 1 → (∀ l ∈ ks, p ∣ l.2 k.1) → Tri p N ks → Tri p N (k :: ks)
theorem Tri.lt {ks : List (Nat × Vc)} (t : Tri p N ks) : ∀ k ∈ ks, k.1 < N ∧ p ∣ k.2 k.1 - 1 := by
  induction t with
  | nil => intro k h; cases h
  | cons k ks h1 h2 _ _ ih =>
    intro l hl
    rcases List.mem_cons.mp hl with rfl | hl
    · exact ⟨h1, h2⟩
    · exact ih l hl
theorem Tri.snoc {ks : List (Nat × Vc)} (t : Tri p N ks) {k : Nat × Vc} (h1 : k.1 < N) (h2 : p ∣ k.2 k.1 - 1) (h3 : ∀ l ∈ ks, p ∣ k.2 l.1) : Tri p N (ks ++ [k]) := by
  induction t with
  | nil => exact .cons k [] h1 h2 (fun l h => by cases h) .nil
  | cons l ks a b c _ ih =>
    refine .cons l _ a b (fun x hx => ?_) (ih fun y hy => h3 y (List.mem_cons_of_mem _ hy))
    rcases List.mem_append.mp hx with z | z
    · exact c x z
    · rw [List.mem_singleton.mp z]
      exact h3 l List.mem_cons_self
/-- at all places 0: nothing -/
theorem Tri.nought {ks : List (Nat × Vc)} (t : Tri p N ks) : ∀ {z : Vc}, Sp p N (ks.map Prod.snd) z → (∀ k ∈ ks, p ∣ z k.1) → Al p N z zeroV := by
  induction t with
  | nil =>
    intro z h _
    cases h with
    | zero _ a => exact a
    | add k u x _ hu _ _ => cases hu
  | cons k ks h1 h2 h3 t ih =>
    intro z h hz
    obtain ⟨c, w, hw, a⟩ := h.cons
    have wk : p ∣ w k.1 := hw.none (Lin.at h1) fun u hu => by
      obtain ⟨l, hl, rfl⟩ := List.mem_map.mp hu
      exact h3 l hl
    have ck : p ∣ c := by
      have e1 := a k.1 h1
      have e2 := hz k List.mem_cons_self
      have e3 := dml c h2
      have := Int.dvd_sub (Int.dvd_sub (Int.dvd_sub e2 e1) wk) e3
      rwa [show z k.1 - (z k.1 - (w k.1 + c * k.2 k.1)) - w k.1 - c * (k.2 k.1 - 1) = c by grind] at this
    have az : Al p N z w := fun i hi => by
      have := Int.dvd_add (a i hi) (dmr (b := k.2 i) c ck)
      rwa [show z i - (w i + c * k.2 i) + c * k.2 i = z i - w i by omega] at this
    refine az.trans (ih hw fun l hl => ?_)
    have h1' := (t.lt l hl).1
    have e := az.symm l.1 h1'
    have := Int.dvd_add e (hz l (List.mem_cons_of_mem _ hl))
    rwa [show w l.1 - z l.1 + z l.1 = w l.1 by omega] at this
/-- rows with places of their own: each is 0 ahead of its place, and at all others' -/
structure Red (p : Int) (N : Nat) (ks : List (Nat × Vc)) : Prop where
  nd : (ks.map Prod.fst).Nodup
  lt : ∀ k ∈ ks, k.1 < N
  one : ∀ k ∈ ks, p ∣ k.2 k.1 - 1
  off : ∀ k ∈ ks, ∀ l ∈ ks, k.1 ≠ l.1 → p ∣ k.2 l.1
  pre : ∀ k ∈ ks, ∀ i, i < k.1 → p ∣ k.2 i
theorem Red.tail {k : Nat × Vc} {ks : List (Nat × Vc)} (r : Red p N (k :: ks)) : Red p N ks :=
  ⟨(List.nodup_cons.mp r.nd).2, fun l h => r.lt l (List.mem_cons_of_mem _ h), fun l h => r.one l (List.mem_cons_of_mem _ h), fun l h m g => r.off l (List.mem_cons_of_mem _ h) m (List.mem_cons_of_mem _ g), fun l h => r.pre l (List.mem_cons_of_mem _ h)⟩
theorem Red.tri {ks : List (Nat × Vc)} (r : Red p N ks) : Tri p N ks := by
  induction ks with
  | nil => exact .nil
  | cons k ks ih => exact .cons k ks (r.lt k List.mem_cons_self) (r.one k List.mem_cons_self) (fun l hl => r.off l (List.mem_cons_of_mem _ hl) k List.mem_cons_self fun e => (List.nodup_cons.mp r.nd).1 (by rw [← e]; exact List.mem_map_of_mem hl)) (ih r.tail)
/-- what is not 0 begins at one of the places -/
theorem Red.first {ks : List (Nat × Vc)} (r : Red p N ks) : ∀ {z : Vc}, Sp p N (ks.map Prod.snd) z → ∀ {a : Nat}, a < N → (∀ i, i < a → p ∣ z i) → ¬ p ∣ z a → ∃ k ∈ ks, k.1 = a := by
  induction ks with
  | nil =>
    intro z h a ha _ na
    cases h with
    | zero _ e =>
      have := e a ha
      rw [show z a - zeroV a = z a by show z a - 0 = _; omega] at this
      exact absurd this na
    | add k u x _ hu _ _ => cases hu
  | cons k ks ih =>
    intro z h a ha pre na
    obtain ⟨c, w, hw, e⟩ := h.cons
    have kN := r.lt k List.mem_cons_self
    by_cases q : k.1 = a
    · exact ⟨k, List.mem_cons_self, q⟩
    have wk : p ∣ w k.1 := hw.none (Lin.at kN) fun u hu => by
      obtain ⟨l, hl, rfl⟩ := List.mem_map.mp hu
      exact r.off l (List.mem_cons_of_mem _ hl) k List.mem_cons_self fun e => (List.nodup_cons.mp r.nd).1 (by rw [← e]; exact List.mem_map_of_mem hl)
    -- z and w are alike up to a
    have al : ∀ i, i ≤ a → p ∣ z i - w i := fun i hi => by
      have iN : i < N := Nat.lt_of_le_of_lt hi ha
      have e1 := e i iN
      have e2 : p ∣ c * k.2 i := by
        by_cases lt : k.1 < a
        · have hz := pre k.1 lt
          have e3 := e k.1 kN
          have e4 := dml c (r.one k List.mem_cons_self)
          have := Int.dvd_sub (Int.dvd_sub (Int.dvd_sub hz e3) wk) e4
          rw [show z k.1 - (z k.1 - (w k.1 + c * k.2 k.1)) - w k.1 - c * (k.2 k.1 - 1) = c by grind] at this
          exact dmr c this
        · exact dml c (r.pre k List.mem_cons_self i (by omega))
      have := Int.dvd_add e1 e2
      rwa [show z i - (w i + c * k.2 i) + c * k.2 i = z i - w i by omega] at this
    obtain ⟨l, hl, el⟩ := ih r.tail hw ha (fun i hi => by
      have := Int.dvd_sub (pre i hi) (al i (by omega))
      rwa [show z i - (z i - w i) = w i by omega] at this) (fun h => na (by
      have := Int.dvd_add (al a (Nat.le_refl _)) h
      rwa [show z a - w a + w a = z a by omega] at this))
    exact ⟨l, List.mem_cons_of_mem _ hl, el⟩
end
end M40

set_option linter.all false
/-! A tower's rims over a prime: which cells close a ring, which one each takes away. -/
namespace M40
def sumN (N : Nat) (f : Nat → Int) : Int := ((List.range N).map f).sum
theorem sumN_succ (N : Nat) (f : Nat → Int) : sumN (N + 1) f = sumN N f + f N := by
  unfold sumN
  rw [List.range_succ, List.map_append, List.sum_append]
  simp
theorem sumN_dvd {p : Int} {f : Nat → Int} : ∀ N, (∀ i, i < N → p ∣ f i) → p ∣ sumN N f
  | 0, _ => Int.dvd_zero p
  | N + 1, h => by
    rw [sumN_succ]
    exact Int.dvd_add (sumN_dvd N fun i hi => h i (by omega)) (h N (by omega))
theorem sumN_al {p : Int} {f g : Nat → Int} : ∀ N, (∀ i, i < N → p ∣ f i - g i) → p ∣ sumN N f - sumN N g
  | 0, _ => Int.dvd_zero p
  | N + 1, h => by
    rw [sumN_succ, sumN_succ]
    have := Int.dvd_add (sumN_al N fun i hi => h i (by omega)) (h N (by omega))
    rwa [show sumN N f - sumN N g + (f N - g N) = sumN N f + f N - (sumN N g + g N) by omega] at this
theorem sumN_lin (c : Int) (f g : Nat → Int) : ∀ N, sumN N (fun i => f i + c * g i) = sumN N f + c * sumN N g
  | 0 => by simp [sumN]
  | N + 1 => by
    rw [sumN_succ, sumN_succ, sumN_succ, sumN_lin c f g N]
    grind
/-- what the cells' rims are, below N: sizes, faces ahead, the rim of a rim is nothing -/
structure Rims (p : Int) (N : Nat) (size : Nat → Nat) (D : Nat → Vc) : Prop where
  inv : ∀ x : Int, ¬ p ∣ x → ∃ k, p ∣ x * k - 1
  face : ∀ j i, j < N → ¬ p ∣ D j i → i < j ∧ size j = size i + 1
  two : ∀ j, j < N → ∀ t, p ∣ sumN N fun i => D j i * D i t
def cols (D : Nat → Vc) (j : Nat) : List Vc := (List.range j).map D
def Born (p : Int) (N : Nat) (D : Nat → Vc) (j : Nat) : Prop := Sp p N (cols D j) (D j)
/-- the cell at j takes away what is born at b -/
def Low (p : Int) (N : Nat) (D : Nat → Vc) (j b : Nat) : Prop := b < N ∧ (∃ s, Sp p N (cols D j) s ∧ ¬ p ∣ D j b - s b ∧ ∀ i, b < i → i < N → p ∣ D j i - s i) ∧ ∀ s, Sp p N (cols D j) s → ∃ i, b ≤ i ∧ i < N ∧ ¬ p ∣ D j i - s i
section
variable {p : Int} {N : Nat} {size : Nat → Nat} {D : Nat → Vc}
theorem mem_cols {j i : Nat} (h : i < j) : D i ∈ cols D j := List.mem_map_of_mem (List.mem_range.mpr h)
theorem cols_mono {i j : Nat} (h : i ≤ j) : ∀ u ∈ cols D i, u ∈ cols D j := fun u hu => by
  obtain ⟨a, ha, rfl⟩ := List.mem_map.mp hu
  exact mem_cols (Nat.lt_of_lt_of_le (List.mem_range.mp ha) h)
theorem Low.uniq {j b b' : Nat} (h : Low p N D j b) (h' : Low p N D j b') : b = b' := by
  obtain ⟨n1, ⟨s, h1, h2, h3⟩, h4⟩ := h
  obtain ⟨n1', ⟨s', h1', h2', h3'⟩, h4'⟩ := h'
  obtain ⟨i, i1, i2, i3⟩ := h4' s h1
  obtain ⟨i', i1', i2', i3'⟩ := h4 s' h1'
  have a : ¬ b < i := fun z => i3 (h3 i z i2)
  have a' : ¬ b' < i' := fun z => i3' (h3' i' z i2')
  omega
theorem Low.neg {j b : Nat} (h : Low p N D j b) : ¬ Born p N D j := fun z => by
  obtain ⟨i, _, hi, n⟩ := h.2.2 _ z
  exact n (by rw [Int.sub_self]; exact Int.dvd_zero p)
/-- sums along the rims, mod p -/
theorem lin_two (t : Nat) : Lin p N fun v => sumN N fun i => v i * D i t := ⟨fun v z => sumN_dvd N fun i hi => by
  have := z i hi
  rw [show v i - zeroV i = v i by show v i - 0 = _; omega] at this
  exact dmr (v i) this, fun k u w v z => by
  have e : sumN N (fun i => w i * D i t) + k * sumN N (fun i => u i * D i t) = sumN N fun i => (w i + k * u i) * D i t := by
    rw [← sumN_lin]
    congr 1
    funext i
    grind
  rw [e]
  refine sumN_al N fun i hi => ?_
  have := dmr (b := D i t) _ (z i hi)
  rwa [show (v i - (w i + k * u i)) * D i t = v i * D i t - (w i + k * u i) * D i t by grind] at this⟩
variable (R : Rims p N size D)
include R
theorem Rims.two_sp {j : Nat} (hj : j ≤ N) {s : Vc} (h : Sp p N (cols D j) s) (t : Nat) : p ∣ sumN N fun i => s i * D i t :=
  h.none (lin_two t) fun u hu => by
    obtain ⟨a, ha, rfl⟩ := List.mem_map.mp hu
    exact R.two a (by have := List.mem_range.mp ha; omega) t
omit R in
/-- keeping the places of one size alone -/
def at_ (size : Nat → Nat) (d : Nat) (v : Vc) : Vc := fun i => if size i = d then v i else 0
omit R in
theorem lin_at (d : Nat) : LinV p N N (at_ size d) := ⟨fun v z i hi => by
  unfold at_
  split
  · exact z i hi
  · exact Int.dvd_zero p, fun k u w v z i hi => by
  unfold at_
  dsimp only
  split
  · exact z i hi
  · rw [show (0 : Int) - (0 + k * 0) = 0 by omega]
    exact Int.dvd_zero p⟩
omit R in
def colsS (size : Nat → Nat) (D : Nat → Vc) (d j : Nat) : List Vc := ((List.range j).filter fun i => decide (size i = d)).map D
omit R in
theorem colsS_sub (d j : Nat) : ∀ u ∈ colsS size D d j, u ∈ cols D j := fun u hu => by
  obtain ⟨a, ha, rfl⟩ := List.mem_map.mp hu
  exact List.mem_map_of_mem (List.mem_filter.mp ha).1
theorem Rims.at_rim {j d : Nat} (hj : j < N) : Al p N (at_ size d (D j)) (if size j = d + 1 then D j else zeroV) := fun i hi => by
  unfold at_
  by_cases z : p ∣ D j i
  · have e : p ∣ (if size j = d + 1 then D j else zeroV) i := by
      split
      · exact z
      · exact Int.dvd_zero p
    refine Int.dvd_sub ?_ e
    split
    · exact z
    · exact Int.dvd_zero p
  · have := (R.face j i hj z).2
    by_cases e : size i = d
    · rw [if_pos e, if_pos (by omega), Int.sub_self]
      exact Int.dvd_zero p
    · rw [if_neg e, if_neg (by omega)]
      exact Int.dvd_zero p
/-- rims of one size are made of rims of that size -/
theorem Rims.split {j d : Nat} (hj : j ≤ N) {v : Vc} (h : Sp p N (cols D j) v) : Sp p N (colsS size D (d + 1) j) (at_ size d v) :=
  h.map (lin_at d) fun u hu => by
    obtain ⟨a, ha, rfl⟩ := List.mem_map.mp hu
    have ha := List.mem_range.mp ha
    refine Sp.al ?_ (R.at_rim (d := d) (by omega))
    split
    · rename_i e
      exact .mem (List.mem_map_of_mem (List.mem_filter.mpr ⟨List.mem_range.mpr ha, decide_eq_true e⟩))
    · exact .zero _ (Al.refl _)
theorem Rims.born_size {j d : Nat} (hj : j < N) (e : size j = d + 1) : Born p N D j ↔ Sp p N (colsS size D (d + 1) j) (D j) := by
  constructor
  · intro h
    refine (R.split (d := d) (by omega) h).al ?_
    have := R.at_rim (d := d) hj
    rw [if_pos e] at this
    exact this.symm
  · exact fun h => h.mono (colsS_sub _ _)
/-- what is taken away: behind none, one size less, born -/
theorem Rims.low {j b : Nat} (hj : j < N) (h : Low p N D j b) : b < j ∧ size j = size b + 1 ∧ Born p N D b := by
  obtain ⟨hb, ⟨s, h1, h2, h3⟩, h4⟩ := h
  -- the parts of one size alone
  have hsz : size j = size b + 1 := Classical.byContradiction fun no => by
    have h5 : Sp p N (cols D j) fun i => s i - at_ size (size b) s i := h1.minus ((R.split (d := size b) (by omega) h1).mono (colsS_sub _ _))
    obtain ⟨i, i1, i2, i3⟩ := h4 _ h5
    by_cases q : size i = size b
    · have a : p ∣ D j i := Classical.byContradiction fun z => no (by rw [(R.face j i hj z).2, q])
      refine i3 ?_
      unfold at_
      rw [if_pos q, Int.sub_self, Int.sub_zero]
      exact a
    · refine i3 ?_
      unfold at_
      rw [if_neg q, Int.sub_zero]
      have : b ≠ i := fun e => q (by rw [e])
      exact h3 i (by omega) i2
  have hbj : b < j := Classical.byContradiction fun no => h2 (by
    have a : p ∣ D j b := Classical.byContradiction fun z => no (R.face j b hj z).1
    have c : p ∣ s b := h1.none (Lin.at hb) fun u hu => by
      obtain ⟨a, ha, rfl⟩ := List.mem_map.mp hu
      have ha := List.mem_range.mp ha
      exact Classical.byContradiction fun z => no (Nat.lt_trans (R.face a b (by omega) z).1 ha)
    exact Int.dvd_sub a c)
  refine ⟨hbj, hsz, ?_⟩
  obtain ⟨k, hk⟩ := R.inv _ h2
  -- the sum along the rims of the ring
  have two : ∀ t, p ∣ sumN N fun i => (D j i - s i) * D i t := fun t => by
    have := Int.dvd_sub (R.two j hj t) (R.two_sp (by omega) h1 t)
    have e : (sumN N fun i => D j i * D i t) - (sumN N fun i => s i * D i t) = sumN N fun i => (D j i - s i) * D i t := by
      have := sumN_lin (-1) (fun i => D j i * D i t) (fun i => s i * D i t) N
      rw [show (sumN N fun i => D j i * D i t) - (sumN N fun i => s i * D i t) = (sumN N fun i => D j i * D i t) + -1 * (sumN N fun i => s i * D i t) by omega, ← this]
      congr 1
      funext i
      grind
    rwa [e] at this
  -- what the cells ahead of b make
  have part : ∀ n, n ≤ b → Sp p N (cols D b) fun t => sumN n fun i => (D j i - s i) * D i t := fun n => by
    induction n with
    | zero => exact fun _ => .zero _ (Al.refl _)
    | succ n ih =>
      intro hn
      refine .add (D j n - s n) (D n) _ _ (mem_cols (by omega)) (ih (by omega)) fun i hi => ?_
      rw [sumN_succ, Int.sub_self]
      exact Int.dvd_zero p
  have rest : ∀ n, b < n → n ≤ N → ∀ t, p ∣ (sumN n fun i => (D j i - s i) * D i t) - ((sumN b fun i => (D j i - s i) * D i t) + (D j b - s b) * D b t) := fun n => by
    induction n with
    | zero => intro h; omega
    | succ n ih =>
      intro hn hN t
      rw [sumN_succ]
      by_cases e : b = n
      · subst e
        rw [Int.sub_self]
        exact Int.dvd_zero p
      · have := Int.dvd_add (ih (by omega) (by omega) t) (dmr (b := D n t) _ (h3 n (by omega) (by omega)))
        rwa [show ∀ a c e : Int, a - c + e = a + e - c by intros; omega] at this
  refine ((part b (Nat.le_refl _)).times (-k)).al fun t ht => ?_
  have a1 := two t
  have a2 := rest N hb (Nat.le_refl _) t
  have a3 := Int.dvd_sub a1 a2
  have a4 := dml k a3
  have a5 := dmr (b := D b t) _ hk
  have := Int.dvd_sub a4 a5
  show p ∣ D b t - -k * (sumN b fun i => (D j i - s i) * D i t)
  generalize (sumN N fun i => (D j i - s i) * D i t) = X at this
  generalize (sumN b fun i => (D j i - s i) * D i t) = Y at this ⊢
  rwa [show k * (X - (X - (Y + (D j b - s b) * D b t))) - ((D j b - s b) * k - 1) * D b t = D b t - -k * Y by grind] at this
/-- each is taken away once -/
theorem Rims.once {j j' b : Nat} (hj' : j' < N) (lt : j < j') (h : Low p N D j b) (h' : Low p N D j' b) : False := by
  obtain ⟨hb, ⟨s, h1, h2, h3⟩, _⟩ := h
  obtain ⟨_, ⟨s', h1', h2', h3'⟩, h4'⟩ := h'
  obtain ⟨k, hk⟩ := R.inv _ h2
  have g : Sp p N (cols D j') fun i => s' i + (D j' b - s' b) * k * (D j i - s i) := h1'.plus (Sp.times _ ((Sp.mem (mem_cols lt)).minus (h1.mono (cols_mono (Nat.le_of_lt lt)))))
  obtain ⟨i, i1, i2, i3⟩ := h4' _ g
  refine i3 ?_
  by_cases e : b = i
  · subst e
    have := dml (-(D j' b - s' b)) hk
    rwa [show -(D j' b - s' b) * ((D j b - s b) * k - 1) = D j' b - (s' b + (D j' b - s' b) * k * (D j b - s b)) by grind] at this
  · have := Int.dvd_sub (h3' i (by omega) i2) (dml ((D j' b - s' b) * k) (h3 i (by omega) i2))
    rwa [show D j' i - s' i - (D j' b - s' b) * k * (D j i - s i) = D j' i - (s' i + (D j' b - s' b) * k * (D j i - s i)) by grind] at this
omit R in
/-- what stands at m and behind -/
def beh (m : Nat) (v : Vc) : Vc := fun i => if m ≤ i then v i else 0
omit R in
theorem lin_beh (m : Nat) : LinV p N N (beh m) := ⟨fun v z i hi => by
  unfold beh
  split
  · exact z i hi
  · exact Int.dvd_zero p, fun k u w v z i hi => by
  unfold beh
  dsimp only
  split
  · exact z i hi
  · rw [show (0 : Int) - (0 + k * 0) = 0 by omega]
    exact Int.dvd_zero p⟩
/-- a rim behind m is made of those ahead: if it is itself, or if it takes away what was born ahead of m -/
theorem Rims.late {j d m : Nat} (hj : j < N) (e : size j = d + 1) (cas : Born p N D j ∨ ∃ b, Low p N D j b) : Sp p N ((colsS size D (d + 1) j).map (beh m)) (beh m (D j)) ↔ Born p N D j ∨ ∃ b, b < m ∧ Low p N D j b := by
  have push : ∀ {v : Vc}, Sp p N (colsS size D (d + 1) j) v → Sp p N ((colsS size D (d + 1) j).map (beh m)) (beh m v) := fun h => h.map (lin_beh m) fun u hu => .mem (List.mem_map_of_mem hu)
  have own : Al p N (D j) (at_ size d (D j)) := by
    have := R.at_rim (d := d) hj
    rw [if_pos e] at this
    exact this.symm
  constructor
  · intro h
    rcases cas with c | ⟨b, lo⟩
    · exact .inl c
    refine .inr ⟨b, Nat.lt_of_not_le fun mb => ?_, lo⟩
    -- a combination that is alike behind m
    have lift : ∀ {v : Vc}, Sp p N ((colsS size D (d + 1) j).map (beh m)) v → ∃ w, Sp p N (cols D j) w ∧ Al p N v (beh m w) := by
      intro v hv
      induction hv with
      | zero v z => exact ⟨zeroV, .zero _ (Al.refl _), z.trans fun i hi => by
          unfold beh zeroV
          split <;> exact Int.dvd_zero p⟩
      | add k u x v hu hx z ih =>
        obtain ⟨w, hw, a⟩ := ih
        obtain ⟨u', hu', rfl⟩ := List.mem_map.mp hu
        refine ⟨fun i => w i + k * u' i, .add k u' w _ (colsS_sub _ _ _ hu') hw (Al.refl _), fun i hi => ?_⟩
        have := Int.dvd_add (z i hi) (a i hi)
        have e : v i - (x i + k * beh m u' i) + (x i - beh m w i) = v i - beh m (fun i => w i + k * u' i) i := by
          unfold beh
          dsimp only
          split <;> omega
        rwa [e] at this
    obtain ⟨w, hw, a⟩ := lift h
    obtain ⟨i, i1, i2, i3⟩ := lo.2.2 w hw
    have := a i i2
    unfold beh at this
    rw [if_pos (by omega), if_pos (by omega)] at this
    exact i3 this
  · rintro (h | ⟨b, hb, hB, ⟨s, h1, h2, h3⟩, _⟩)
    · exact push ((R.born_size hj e).mp h)
    · refine (push (R.split (d := d) (by omega) h1)).al fun i hi => ?_
      unfold beh
      split
      · have a1 := h3 i (by omega) hi
        have a2 := own i hi
        have a3 := lin_at (p := p) (N := N) (size := size) d
        unfold at_ at a2 ⊢
        split
        · exact a1
        · rename_i q
          rw [if_neg q] at a2
          exact a2
      · rw [Int.sub_self]
        exact Int.dvd_zero p
end
end M40

set_option linter.all false
/-! Rows kept by their first places, cell by cell. -/
namespace M40
section
variable {p : Int} {N : Nat}
/-- what is kept of the first j rims -/
structure Keeps (p : Int) (N : Nat) (D : Nat → Vc) (j : Nat) (ks : List (Nat × Vc)) : Prop where
  red : Red p N ks
  fro : ∀ k ∈ ks, Sp p N (cols D j) k.2
  to : ∀ u ∈ cols D j, Sp p N (ks.map Prod.snd) u
theorem Keeps.nil {D : Nat → Vc} : Keeps p N D 0 [] := ⟨⟨List.nodup_nil, (fun k h => nomatch h), (fun k h => nomatch h), (fun k h => nomatch h), (fun k h => nomatch h)⟩, (fun k h => nomatch h), (fun u h => nomatch h)⟩
theorem Keeps.up {D : Nat → Vc} {j : Nat} {ks : List (Nat × Vc)} (k : Keeps p N D j ks) {v : Vc} (h : Sp p N (cols D j) v) : Sp p N (ks.map Prod.snd) v := h.of k.to
theorem Keeps.down {D : Nat → Vc} {j : Nat} {ks : List (Nat × Vc)} (k : Keeps p N D j ks) {v : Vc} (h : Sp p N (ks.map Prod.snd) v) : Sp p N (cols D j) v := h.of fun u hu => by
  obtain ⟨l, hl, rfl⟩ := List.mem_map.mp hu
  exact k.fro l hl
theorem cols_succ (D : Nat → Vc) (j : Nat) : cols D (j + 1) = cols D j ++ [D j] := by
  unfold cols
  rw [List.range_succ, List.map_append]
  rfl
/-- what is left of a rim, cleared -/
structure Rest (p : Int) (N : Nat) (ks : List (Nat × Vc)) (v z : Vc) : Prop where
  made : ∃ s, Sp p N (ks.map Prod.snd) s ∧ Al p N z (fun i => v i - s i)
  off : ∀ k ∈ ks, p ∣ z k.1
theorem Keeps.same {D : Nat → Vc} {j : Nat} {ks : List (Nat × Vc)} (k : Keeps p N D j ks) {z : Vc} (r : Rest p N ks (D j) z) (nil : Al p N z zeroV) : Born p N D j ∧ Keeps p N D (j + 1) ks := by
  obtain ⟨s, h1, h2⟩ := r.made
  have b : Sp p N (ks.map Prod.snd) (D j) := h1.al fun i hi => by
    have := Int.dvd_sub (nil i hi) (h2 i hi)
    rwa [show z i - zeroV i - (z i - (D j i - s i)) = D j i - s i by show z i - 0 - _ = _; omega] at this
  refine ⟨k.down b, k.red, fun l hl => (k.fro l hl).mono (cols_mono (Nat.le_succ j)), fun u hu => ?_⟩
  rw [cols_succ] at hu
  rcases List.mem_append.mp hu with h | h
  · exact k.to u h
  · rw [List.mem_singleton.mp h]
    exact b
/-- the kept ones, the new one taken off -/
def taken (ks : List (Nat × Vc)) (a : Nat) (y : Vc) : List (Nat × Vc) := (ks.map fun k => (k.1, fun i => k.2 i - k.2 a * y i)) ++ [(a, y)]
theorem Keeps.more {D : Nat → Vc} {j : Nat} {ks : List (Nat × Vc)} (k : Keeps p N D j ks) {z y : Vc} (r : Rest p N ks (D j) z) {a : Nat} (ha : a < N) (pre : ∀ i, i < a → p ∣ z i) (na : ¬ p ∣ z a) {c : Int} (cz : p ∣ z a * c - 1) (ey : Al p N y fun i => z i * c)
    {ks' : List (Nat × Vc)} (e' : ks'.map Prod.fst = ks.map Prod.fst ++ [a]) (al : ∀ l ∈ ks', l = (a, y) ∨ ∃ k ∈ ks, l.1 = k.1 ∧ Al p N l.2 fun i => k.2 i - k.2 a * y i) (mem : ∀ k ∈ ks, ∃ l ∈ ks', l.1 = k.1 ∧ Al p N l.2 fun i => k.2 i - k.2 a * y i) (my : (a, y) ∈ ks') : Keeps p N D (j + 1) ks' := by
  obtain ⟨s, h1, h2⟩ := r.made
  have anew : ∀ l ∈ ks, l.1 ≠ a := fun l hl e => na (by rw [← e]; exact r.off l hl)
  have yv : ∀ i, i < N → p ∣ z i → p ∣ y i := fun i hi h => by
    have := Int.dvd_add (ey i hi) (dmr (b := c) _ h)
    rwa [show y i - z i * c + z i * c = y i by omega] at this
  have ya : p ∣ y a - 1 := by
    have := Int.dvd_add (ey a ha) cz
    rwa [show y a - z a * c + (z a * c - 1) = y a - 1 by omega] at this
  have ysp : Sp p N (cols D (j + 1)) y := by
    have a1 : Sp p N (cols D (j + 1)) fun i => c * (D j i - s i) := Sp.times c (Sp.minus (.mem (mem_cols (Nat.lt_succ_self j))) ((k.down h1).mono (cols_mono (Nat.le_succ j))))
    refine a1.al fun i hi => ?_
    have := Int.dvd_add (ey i hi) (dml c (h2 i hi))
    rwa [show y i - z i * c + c * (z i - (D j i - s i)) = y i - c * (D j i - s i) by grind] at this
  have lt : ∀ l ∈ ks', l.1 < N := fun l hl => by
    rcases al l hl with rfl | ⟨m, hm, e, _⟩
    · exact ha
    · rw [e]
      exact k.red.lt m hm
  refine ⟨⟨?_, lt, fun l hl => ?_, fun l hl m hm ne => ?_, fun l hl i hi => ?_⟩, fun l hl => ?_, fun u hu => ?_⟩
  · rw [e', List.nodup_append]
    refine ⟨k.red.nd, List.nodup_cons.mpr ⟨(fun h => nomatch h), List.nodup_nil⟩, fun x hx y hy e => ?_⟩
    obtain ⟨l, hl, rfl⟩ := List.mem_map.mp hx
    rw [List.mem_singleton.mp hy] at e
    exact anew l hl e
  · rcases al l hl with rfl | ⟨m, hm, e, w⟩
    · exact ya
    · have h3 := w l.1 (lt l hl)
      rw [e] at h3 ⊢
      have h4 := k.red.one m hm
      have h5 := dml (m.2 a) (yv m.1 (k.red.lt m hm) (r.off m hm))
      have := Int.dvd_sub (Int.dvd_add h3 h4) h5
      rwa [show l.2 m.1 - (m.2 m.1 - m.2 a * y m.1) + (m.2 m.1 - 1) - m.2 a * y m.1 = l.2 m.1 - 1 by omega] at this
  · have mN := lt m hm
    rcases al l hl with rfl | ⟨l', hl', e, w⟩
    · rcases al m hm with rfl | ⟨m', hm', e2, _⟩
      · exact absurd rfl ne
      · rw [e2] at mN ⊢
        exact yv _ mN (r.off m' hm')
    · have h3 := w m.1 mN
      rcases al m hm with rfl | ⟨m', hm', e2, _⟩
      · have := Int.dvd_sub h3 (dml (l'.2 a) ya)
        rwa [show l.2 a - (l'.2 a - l'.2 a * y a) - l'.2 a * (y a - 1) = l.2 a by grind] at this
      · have h4 := k.red.off l' hl' m' hm' (by rw [← e, ← e2]; exact ne)
        rw [e2] at h3 mN ⊢
        have h5 := dml (l'.2 a) (yv m'.1 mN (r.off m' hm'))
        have := Int.dvd_sub (Int.dvd_add h3 h4) h5
        rwa [show l.2 m'.1 - (l'.2 m'.1 - l'.2 a * y m'.1) + l'.2 m'.1 - l'.2 a * y m'.1 = l.2 m'.1 by omega] at this
  · have iN : i < N := Nat.lt_trans hi (lt l hl)
    rcases al l hl with rfl | ⟨l', hl', e, w⟩
    · exact yv i iN (pre i hi)
    · rw [e] at hi
      have h3 := w i iN
      have h4 := k.red.pre l' hl' i hi
      have h5 : p ∣ l'.2 a * y i := by
        by_cases q : i < a
        · exact dml _ (yv i iN (pre i q))
        · exact dmr _ (k.red.pre l' hl' a (by omega))
      have := Int.dvd_sub (Int.dvd_add h3 h4) h5
      rwa [show l.2 i - (l'.2 i - l'.2 a * y i) + l'.2 i - l'.2 a * y i = l.2 i by omega] at this
  · rcases al l hl with rfl | ⟨l', hl', e, w⟩
    · exact ysp
    · exact (((k.fro l' hl').mono (cols_mono (Nat.le_succ j))).minus (ysp.times (l'.2 a))).al w
  · -- back: the old ones are made of the new ones
    have yk : Sp p N (ks'.map Prod.snd) y := .mem (List.mem_map.mpr ⟨_, my, rfl⟩)
    have old : ∀ m ∈ ks, Sp p N (ks'.map Prod.snd) m.2 := fun m hm => by
      obtain ⟨l, hl, e, w⟩ := mem m hm
      refine ((Sp.mem (L := ks'.map Prod.snd) (List.mem_map_of_mem (f := Prod.snd) hl)).plus (yk.times (m.2 a))).al fun i hi => ?_
      have := Int.dvd_neg.mpr (w i hi)
      rwa [show -(l.2 i - (m.2 i - m.2 a * y i)) = m.2 i - (l.2 i + m.2 a * y i) by omega] at this
    have via : ∀ {v : Vc}, Sp p N (ks.map Prod.snd) v → Sp p N (ks'.map Prod.snd) v := fun h => h.of fun u hu => by
      obtain ⟨m, hm, rfl⟩ := List.mem_map.mp hu
      exact old m hm
    rw [cols_succ] at hu
    rcases List.mem_append.mp hu with h | h
    · exact via (k.to u h)
    · rw [List.mem_singleton.mp h]
      refine ((via h1).plus (yk.times (z a))).al fun i hi => ?_
      have e1 := h2 i hi
      have e2 := dml (z a) (ey i hi)
      have e3 := dml (z i) cz
      have := Int.dvd_sub (Int.dvd_neg.mpr (Int.dvd_add e1 e2)) e3
      rwa [show -(z i - (D j i - s i) + z a * (y i - z i * c)) - z i * (z a * c - 1) = D j i - (s i + z a * y i) by grind] at this
/-- the first place of what is left: none begins behind it -/
theorem Keeps.least {D : Nat → Vc} {j : Nat} {ks : List (Nat × Vc)} (k : Keeps p N D j ks) {z : Vc} (r : Rest p N ks (D j) z) {a : Nat} (ha : a < N) (pre : ∀ i, i < a → p ∣ z i) (na : ¬ p ∣ z a) : (∃ s, Sp p N (cols D j) s ∧ ¬ p ∣ D j a - s a ∧ ∀ i, i < a → p ∣ D j i - s i) ∧ ∀ s, Sp p N (cols D j) s → ∃ i, i ≤ a ∧ ¬ p ∣ D j i - s i := by
  obtain ⟨s, h1, h2⟩ := r.made
  refine ⟨⟨s, k.down h1, fun h => na ?_, fun i hi => ?_⟩, fun s' h => Classical.byContradiction fun no => ?_⟩
  · have := Int.dvd_add (h2 a ha) h
    rwa [show z a - (D j a - s a) + (D j a - s a) = z a by omega] at this
  · have := Int.dvd_sub (pre i hi) (h2 i (by omega))
    rwa [show z i - (z i - (D j i - s i)) = D j i - s i by omega] at this
  · have all : ∀ i, i ≤ a → p ∣ D j i - s' i := fun i hi => Classical.byContradiction fun z => no ⟨i, hi, z⟩
    have w : ∀ i, i ≤ a → p ∣ (s' i - s i) - z i := fun i hi => by
      have := Int.dvd_sub (Int.dvd_neg.mpr (all i hi)) (h2 i (by omega))
      rwa [show -(D j i - s' i) - (z i - (D j i - s i)) = s' i - s i - z i by omega] at this
    obtain ⟨l, hl, e⟩ := k.red.first ((k.up h).minus h1) ha (fun i hi => by
      have := Int.dvd_add (w i (Nat.le_of_lt hi)) (pre i hi)
      rwa [show s' i - s i - z i + z i = s' i - s i by omega] at this) (fun h => na (by
      have := Int.dvd_sub h (w a (Nat.le_refl _))
      rwa [show s' a - s a - (s' a - s a - z a) = z a by omega] at this))
    rw [← e] at na
    exact na (r.off l hl)
/-- read from the other end -/
def rev (N : Nat) (v : Vc) : Vc := fun a => v (N - 1 - a)
theorem lin_rev : LinV p N N (rev N) := ⟨fun v z i hi => z (N - 1 - i) (by omega), fun k u w v z i hi => z (N - 1 - i) (by omega)⟩
theorem rev_rev (v : Vc) : Al p N (rev N (rev N v)) v := fun i hi => by
  unfold rev
  rw [show N - 1 - (N - 1 - i) = i by omega, Int.sub_self]
  exact Int.dvd_zero p
theorem sp_rev {D : Nat → Vc} {j : Nat} {v : Vc} (h : Sp p N (cols D j) v) : Sp p N (cols (fun i => rev N (D i)) j) (rev N v) := h.map lin_rev fun u hu => by
  obtain ⟨a, ha, rfl⟩ := List.mem_map.mp hu
  exact .mem (mem_cols (D := fun i => rev N (D i)) (List.mem_range.mp ha))
theorem sp_unrev {D : Nat → Vc} {j : Nat} {v : Vc} (h : Sp p N (cols (fun i => rev N (D i)) j) v) : Sp p N (cols D j) (rev N v) := h.map lin_rev fun u hu => by
  obtain ⟨a, ha, rfl⟩ := List.mem_map.mp hu
  exact (Sp.mem (mem_cols (D := D) (List.mem_range.mp ha))).al (rev_rev _)
theorem born_rev {D : Nat → Vc} {j : Nat} : Born p N (fun i => rev N (D i)) j ↔ Born p N D j := ⟨fun h => (sp_unrev h).al (rev_rev _).symm, fun h => sp_rev h⟩
theorem low_rev {D : Nat → Vc} {j a : Nat} (ha : a < N) (h : (∃ s, Sp p N (cols (fun i => rev N (D i)) j) s ∧ ¬ p ∣ rev N (D j) a - s a ∧ ∀ i, i < a → p ∣ rev N (D j) i - s i) ∧ ∀ s, Sp p N (cols (fun i => rev N (D i)) j) s → ∃ i, i ≤ a ∧ ¬ p ∣ rev N (D j) i - s i) : Low p N D j (N - 1 - a) := by
  obtain ⟨⟨s, h1, h2, h3⟩, h4⟩ := h
  refine ⟨by omega, ⟨rev N s, sp_unrev h1, ?_, fun i i1 i2 => ?_⟩, fun s' h' => ?_⟩
  · show ¬ p ∣ D j (N - 1 - a) - s (N - 1 - (N - 1 - a))
    rw [show N - 1 - (N - 1 - a) = a by omega]
    exact h2
  · have := h3 (N - 1 - i) (by omega)
    unfold rev at this
    rw [show N - 1 - (N - 1 - i) = i by omega] at this
    exact this
  · obtain ⟨i, i1, i2⟩ := h4 _ (sp_rev h')
    exact ⟨N - 1 - i, by omega, by omega, i2⟩
end
/-! ### counting -/
theorem nd_le {l k : List Nat} (nd : l.Nodup) (h : ∀ x ∈ l, x ∈ k) : l.length ≤ k.length := by
  induction l generalizing k with
  | nil => exact Nat.zero_le _
  | cons x l ih =>
    obtain ⟨h1, h2⟩ := List.nodup_cons.mp nd
    have hx := h x List.mem_cons_self
    have := ih (k := k.erase x) h2 fun y hy => (List.mem_erase_of_ne (fun e : y = x => h1 (by rw [← e]; exact hy))).mpr (h y (List.mem_cons_of_mem _ hy))
    rw [List.length_erase_of_mem hx] at this
    have : 0 < k.length := List.length_pos_of_mem hx
    simp only [List.length_cons]
    omega
open Classical in
theorem inj_le {R : Nat → Nat → Prop} {l k : List Nat} (nd : l.Nodup) (tot : ∀ x ∈ l, ∃ y ∈ k, R x y) (inj : ∀ x ∈ l, ∀ x' ∈ l, ∀ y, R x y → R x' y → x = x') : l.length ≤ k.length := by
  have : ∃ f : Nat → Nat, ∀ x ∈ l, f x ∈ k ∧ R x (f x) := by
    refine ⟨fun x => if h : ∃ y ∈ k, R x y then h.choose else 0, fun x hx => ?_⟩
    have h := tot x hx
    simp only [dif_pos h]
    exact h.choose_spec
  obtain ⟨f, hf⟩ := this
  rw [← List.length_map (f := f)]
  refine nd_le ?_ fun y hy => ?_
  · unfold List.Nodup
    rw [List.pairwise_map]
    refine List.Pairwise.imp_of_mem (fun {a b} ha hb ne e => ne ?_) nd
    exact inj a ha b hb (f a) (hf a ha).2 (by rw [e]; exact (hf b hb).2)
  · obtain ⟨x, hx, rfl⟩ := List.mem_map.mp hy
    exact (hf x hx).1
open Classical in
theorem rel_count {R : Nat → Nat → Prop} (f1 : ∀ a b b', R a b → R a b' → b = b') (f2 : ∀ a a' b, R a b → R a' b → a = a') (n m : Nat) :
    ((List.range n).filter fun a => decide (∃ b, b < m ∧ R a b)).length = ((List.range m).filter fun b => decide (∃ a, a < n ∧ R a b)).length := by
  apply Nat.le_antisymm
  · refine inj_le (R := R) (List.nodup_range.filter _) (fun x hx => ?_) fun x _ x' _ y h h' => f2 x x' y h h'
    obtain ⟨h1, h2⟩ := List.mem_filter.mp hx
    obtain ⟨b, hb, r⟩ := of_decide_eq_true h2
    exact ⟨b, List.mem_filter.mpr ⟨List.mem_range.mpr hb, decide_eq_true ⟨x, List.mem_range.mp h1, r⟩⟩, r⟩
  · refine inj_le (R := fun b a => R a b) (List.nodup_range.filter _) (fun x hx => ?_) fun x _ x' _ y h h' => f1 y x x' h h'
    obtain ⟨h1, h2⟩ := List.mem_filter.mp hx
    obtain ⟨a, ha, r⟩ := of_decide_eq_true h2
    exact ⟨a, List.mem_filter.mpr ⟨List.mem_range.mpr ha, decide_eq_true ⟨x, List.mem_range.mp h1, r⟩⟩, r⟩
end M40

set_option linter.all false
/-! How many last. -/
namespace M40
section
open Classical
/-- how many of the first n are so -/
noncomputable def cnt (n : Nat) (P : Nat → Prop) : Nat := ((List.range n).filter fun x => decide (P x)).length
theorem cnt_succ (n : Nat) (P : Nat → Prop) : cnt (n + 1) P = cnt n P + if P n then 1 else 0 := by
  unfold cnt
  rw [List.range_succ, List.filter_append, List.length_append]
  congr 1
  by_cases h : P n <;> simp [h]
theorem cnt_eq (n : Nat) (P : Nat → Prop) [i : DecidablePred P] : cnt n P = ((List.range n).filter fun x => decide (P x)).length := by
  unfold cnt
  congr 2
  funext x
  congr
theorem cnt_split (P Q : Nat → Prop) : ∀ n, cnt n P = cnt n (fun x => P x ∧ Q x) + cnt n (fun x => P x ∧ ¬ Q x)
  | 0 => rfl
  | n + 1 => by
    rw [cnt_succ, cnt_succ, cnt_succ, cnt_split P Q n]
    by_cases h : P n <;> by_cases g : Q n <;> simp [h, g] <;> omega
theorem cnt_congr {P Q : Nat → Prop} : ∀ {n}, (∀ x, x < n → (P x ↔ Q x)) → cnt n P = cnt n Q
  | 0, _ => rfl
  | n + 1, h => by
    rw [cnt_succ, cnt_succ, cnt_congr (n := n) fun x hx => h x (by omega)]
    have := h n (by omega)
    by_cases g : Q n
    · rw [if_pos g, if_pos (this.mpr g)]
    · rw [if_neg g, if_neg fun z => g (this.mp z)]
theorem cnt_rel {R : Nat → Nat → Prop} (f1 : ∀ a b b', R a b → R a b' → b = b') (f2 : ∀ a a' b, R a b → R a' b → a = a') (n m : Nat) : (cnt n fun a => ∃ b, b < m ∧ R a b) = cnt m fun b => ∃ a, a < n ∧ R a b := by
  have := rel_count f1 f2 n m
  rw [cnt_eq, cnt_eq]
  exact this
theorem cnt_zero (P : Nat → Prop) : cnt 0 P = 0 := rfl
theorem cnt_le (n : Nat) (P : Nat → Prop) : cnt n P ≤ n := by
  unfold cnt
  have := List.length_filter_le (fun x => decide (P x)) (List.range n)
  rwa [List.length_range] at this
section
variable {p : Int} {N : Nat} {size : Nat → Nat} {D : Nat → Vc}
/-- behind m: made of those ahead -/
def LateIn (p : Int) (N : Nat) (size : Nat → Nat) (D : Nat → Vc) (d m j : Nat) : Prop := Sp p N ((colsS size D d j).map (beh m)) (beh m (D j))
/-- rings there at m that are not yet gone at n -/
theorem Rims.lasting (R : Rims p N size D) (cas : ∀ j, j < N → Born p N D j ∨ ∃ b, Low p N D j b) {d m n : Nat} (hm : m ≤ N) (hn : n ≤ N) :
    (cnt m fun b => (size b = d + 1 ∧ Born p N D b) ∧ ∀ j, j < N → Low p N D j b → n ≤ j : Int) = cnt m (fun b => size b = d + 1 ∧ Born p N D b) - (cnt n (fun j => size j = d + 2 ∧ ¬ Born p N D j) - cnt n (fun j => size j = d + 2 ∧ ¬ LateIn p N size D (d + 2) m j)) := by
  have e1 : cnt n (fun j => size j = d + 2 ∧ ¬ Born p N D j) = cnt n (fun j => (size j = d + 2 ∧ ¬ Born p N D j) ∧ ∃ b, b < m ∧ Low p N D j b) + cnt n (fun j => (size j = d + 2 ∧ ¬ Born p N D j) ∧ ¬ ∃ b, b < m ∧ Low p N D j b) := cnt_split _ _ _
  have e2 : cnt n (fun j => size j = d + 2 ∧ ¬ LateIn p N size D (d + 2) m j) = cnt n (fun j => (size j = d + 2 ∧ ¬ Born p N D j) ∧ ¬ ∃ b, b < m ∧ Low p N D j b) := cnt_congr fun j hj => by
    have jN : j < N := by omega
    constructor
    · rintro ⟨s, h⟩
      have := R.late (m := m) (d := d + 1) jN s (cas j jN)
      exact ⟨⟨s, fun z => h (this.mpr (.inl z))⟩, fun z => h (this.mpr (.inr z))⟩
    · rintro ⟨⟨s, h1⟩, h2⟩
      have := R.late (m := m) (d := d + 1) jN s (cas j jN)
      exact ⟨s, fun z => (this.mp z).elim h1 h2⟩
  have e3 : cnt n (fun j => (size j = d + 2 ∧ ¬ Born p N D j) ∧ ∃ b, b < m ∧ Low p N D j b) = cnt n fun j => ∃ b, b < m ∧ (Low p N D j b ∧ size j = d + 2 ∧ j < N) := cnt_congr fun j hj => by
    have jN : j < N := by omega
    constructor
    · rintro ⟨⟨s, _⟩, b, hb, lo⟩
      exact ⟨b, hb, lo, s, jN⟩
    · rintro ⟨b, hb, lo, s, _⟩
      exact ⟨⟨s, lo.neg⟩, b, hb, lo⟩
  have e4 : (cnt n fun j => ∃ b, b < m ∧ (Low p N D j b ∧ size j = d + 2 ∧ j < N)) = cnt m fun b => ∃ j, j < n ∧ (Low p N D j b ∧ size j = d + 2 ∧ j < N) := cnt_rel (R := fun j b => Low p N D j b ∧ size j = d + 2 ∧ j < N) (fun a b b' h h' => h.1.uniq h'.1) (fun a a' b h h' => by
    rcases Nat.lt_trichotomy a a' with lt | e | gt
    · exact (R.once h'.2.2 lt h.1 h'.1).elim
    · exact e
    · exact (R.once h.2.2 gt h'.1 h.1).elim) n m
  have e5 : cnt m (fun b => size b = d + 1 ∧ Born p N D b) = (cnt m fun b => (size b = d + 1 ∧ Born p N D b) ∧ ∀ j, j < N → Low p N D j b → n ≤ j) + cnt m (fun b => (size b = d + 1 ∧ Born p N D b) ∧ ¬ ∀ j, j < N → Low p N D j b → n ≤ j) := cnt_split _ _ _
  have e6 : cnt m (fun b => (size b = d + 1 ∧ Born p N D b) ∧ ¬ ∀ j, j < N → Low p N D j b → n ≤ j) = cnt m fun b => ∃ j, j < n ∧ (Low p N D j b ∧ size j = d + 2 ∧ j < N) := cnt_congr fun b hb => by
    constructor
    · rintro ⟨⟨s, _⟩, no⟩
      refine Classical.byContradiction fun z => no fun j hj lo => Nat.le_of_not_lt fun lt => z ⟨j, lt, lo, ?_, hj⟩
      rw [(R.low hj lo).2.1, s]
    · rintro ⟨j, lt, lo, s, hj⟩
      obtain ⟨_, h2, h3⟩ := R.low hj lo
      exact ⟨⟨by omega, h3⟩, fun all => by have := all j hj lo; omega⟩
  omega
end
end
end M40

set_option linter.all false
/-! The rims of cells, and that the rim of a rim is nothing. -/
namespace M40
/-- the faces of a cell -/
def fcs (c : List Int) : List (List Int) := if c.length = 1 then [] else (List.range c.length).map fun i => c.eraseIdx i
/-- 1 or p - 1, by turns -/
def sg (p : Int) (k : Nat) : Int := if k % 2 = 0 then 1 else p - 1
/-- what stands for the cell c in the row of faces -/
def sgF (p : Int) : Nat → List (List Int) → List Int → Int
  | _, [], _ => 0
  | k, f :: fs, c => if f = c then sg p k else sgF p (k + 1) fs c
theorem sgF_not {p : Int} {c : List Int} : ∀ {fs : List (List Int)} {k : Nat}, c ∉ fs → sgF p k fs c = 0
  | [], _, _ => rfl
  | f :: fs, k, h => by
    show (if f = c then sg p k else sgF p (k + 1) fs c) = 0
    rw [if_neg fun e => h (by rw [e]; exact List.mem_cons_self), sgF_not fun z => h (List.mem_cons_of_mem _ z)]
theorem sgF_mem {p : Int} {c : List Int} {fs : List (List Int)} {k : Nat} (h : sgF p k fs c ≠ 0) : c ∈ fs := Classical.byContradiction fun n => h (sgF_not n)
theorem sgF_snoc {p : Int} {c f : List Int} : ∀ {fs : List (List Int)} {k : Nat}, f ∉ fs → sgF p k (fs ++ [f]) c = if f = c then sg p (k + fs.length) else sgF p k fs c
  | [], k, _ => by
    show (if f = c then sg p k else 0) = if f = c then sg p (k + 0) else 0
    rfl
  | g :: fs, k, h => by
    show (if g = c then sg p k else sgF p (k + 1) (fs ++ [f]) c) = if f = c then sg p (k + (fs.length + 1)) else if g = c then sg p k else sgF p (k + 1) fs c
    rw [sgF_snoc fun z => h (List.mem_cons_of_mem _ z)]
    by_cases e : g = c
    · have : f ≠ c := fun z => h (by rw [z, ← e]; exact List.mem_cons_self)
      rw [if_pos e, if_neg this, if_pos e]
    · rw [if_neg e, if_neg e, show k + 1 + fs.length = k + (fs.length + 1) by omega]
theorem sgF_bd {p : Int} (hp : 2 ≤ p) {c : List Int} : ∀ {fs : List (List Int)} {k : Nat}, 0 ≤ sgF p k fs c ∧ sgF p k fs c < p
  | [], k => ⟨Int.le_refl _, by show (0 : Int) < p; omega⟩
  | f :: fs, k => by
    show 0 ≤ (if f = c then sg p k else sgF p (k + 1) fs c) ∧ (if f = c then sg p k else sgF p (k + 1) fs c) < p
    by_cases e : f = c
    · rw [if_pos e]
      unfold sg
      split <;> omega
    · rw [if_neg e]
      exact sgF_bd hp
/-- right towers -/
structure Tw (ll : List (List Int)) : Prop where
  nd : ll.Nodup
  len : ∀ c ∈ ll, 1 ≤ c.length ∧ c.length ≤ 4
  dis : ∀ c ∈ ll, c.Nodup
  fac : ∀ j c, ll[j]? = some c → ∀ f ∈ fcs c, f ∈ ll.take j
def rimD (p : Int) (ll : List (List Int)) (j : Nat) : Vc := fun i => sgF p 0 (fcs (ll.getD j [])) (ll.getD i [])
def szD (ll : List (List Int)) (j : Nat) : Nat := (ll.getD j []).length
theorem getD_of {ll : List (List Int)} {j : Nat} {c : List Int} (h : ll[j]? = some c) : ll.getD j [] = c := by
  rw [List.getD_eq_getElem?_getD, h]
  rfl
theorem getD_lt {ll : List (List Int)} {j : Nat} (h : j < ll.length) : ll[j]? = some (ll.getD j []) := by
  rw [List.getD_eq_getElem?_getD, List.getElem?_eq_getElem h]
  rfl
theorem fcs_len {c f : List Int} (h : f ∈ fcs c) : f.length + 1 = c.length := by
  unfold fcs at h
  split at h
  · cases h
  · obtain ⟨i, hi, rfl⟩ := List.mem_map.mp h
    have := List.mem_range.mp hi
    rw [List.length_eraseIdx_of_lt this]
    omega
theorem nd_at {ll : List (List Int)} (nd : ll.Nodup) {i j : Nat} {c : List Int} (hi : ll[i]? = some c) (hj : ll[j]? = some c) : i = j := by
  obtain ⟨h1, e1⟩ := List.getElem?_eq_some_iff.mp hi
  obtain ⟨h2, e2⟩ := List.getElem?_eq_some_iff.mp hj
  have pw := List.pairwise_iff_getElem.mp nd
  rcases Nat.lt_trichotomy i j with l | e | l
  · exact absurd (e1.trans e2.symm) (pw i j h1 h2 l)
  · exact e
  · exact absurd (e2.trans e1.symm) (pw j i h2 h1 l)
theorem fcs_nd {c : List Int} (nd : c.Nodup) (h : 1 ≤ c.length) (h4 : c.length ≤ 4) : (fcs c).Nodup := by
  match c, nd, h, h4 with
  | [x], _, _, _ => exact List.nodup_nil
  | [x, y], nd, _, _ =>
    simp only [List.nodup_cons, List.mem_cons, List.not_mem_nil, or_false, not_or] at nd
    show [[y], [x]].Nodup
    simp [nd]
    grind
  | [x, y, z], nd, _, _ =>
    simp only [List.nodup_cons, List.mem_cons, List.not_mem_nil, or_false, not_or] at nd
    show [[y, z], [x, z], [x, y]].Nodup
    simp
    grind
  | [x, y, z, w], nd, _, _ =>
    simp only [List.nodup_cons, List.mem_cons, List.not_mem_nil, or_false, not_or] at nd
    show [[y, z, w], [x, z, w], [x, y, w], [x, y, z]].Nodup
    simp
    grind
  | _ :: _ :: _ :: _ :: _ :: _, _, _, h => simp at h
/-- the faces' sum -/
def sumF (p : Int) (X : List Int → Int) : Nat → List (List Int) → Int
  | _, [] => 0
  | k, f :: fs => sg p k * X f + sumF p X (k + 1) fs
theorem sumN_zero {f : Nat → Int} : ∀ N, (∀ i, i < N → f i = 0) → sumN N f = 0
  | 0, _ => rfl
  | N + 1, h => by rw [sumN_succ, sumN_zero N fun i hi => h i (by omega), h N (by omega)]; rfl
theorem sumN_one {f : Nat → Int} {a : Nat} : ∀ N, a < N → (∀ i, i < N → i ≠ a → f i = 0) → sumN N f = f a
  | 0, h, _ => absurd h (Nat.not_lt_zero _)
  | N + 1, h, z => by
    rw [sumN_succ]
    by_cases e : a = N
    · subst e
      rw [sumN_zero a fun i hi => z i (by omega) (by omega), Int.zero_add]
    · rw [sumN_one N (by omega) fun i hi ne => z i (by omega) ne, z N (by omega) (fun q => e q.symm), Int.add_zero]
theorem sumN_add (f g : Nat → Int) : ∀ N, sumN N (fun i => f i + g i) = sumN N f + sumN N g
  | 0 => rfl
  | N + 1 => by
    rw [sumN_succ, sumN_succ, sumN_succ, sumN_add f g N]
    omega
theorem sum_faces {p : Int} {ll : List (List Int)} (nd : ll.Nodup) (X : List Int → Int) : ∀ {fs : List (List Int)} {k : Nat}, fs.Nodup → (∀ f ∈ fs, f ∈ ll) → sumN ll.length (fun i => sgF p k fs (ll.getD i []) * X (ll.getD i [])) = sumF p X k fs
  | [], k, _, _ => sumN_zero _ fun i _ => by
    show 0 * X (ll.getD i []) = 0
    exact Int.zero_mul _
  | f :: fs, k, nf, all => by
    obtain ⟨n1, n2⟩ := List.nodup_cons.mp nf
    obtain ⟨a, ha, ea⟩ := List.mem_iff_getElem.mp (all f List.mem_cons_self)
    have eg : ll.getD a [] = f := getD_of (by rw [List.getElem?_eq_getElem ha, ea])
    have step : (fun i => sgF p k (f :: fs) (ll.getD i []) * X (ll.getD i [])) = fun i => (if f = ll.getD i [] then sg p k * X (ll.getD i []) else 0) + sgF p (k + 1) fs (ll.getD i []) * X (ll.getD i []) := by
      funext i
      show (if f = ll.getD i [] then sg p k else sgF p (k + 1) fs (ll.getD i [])) * X (ll.getD i []) = _
      by_cases e : f = ll.getD i []
      · rw [if_pos e, if_pos e, ← e, sgF_not n1]
        omega
      · rw [if_neg e, if_neg e, Int.zero_add]
    rw [step, sumN_add, sum_faces nd X n2 fun g hg => all g (List.mem_cons_of_mem _ hg)]
    show _ = sg p k * X f + sumF p X (k + 1) fs
    congr 1
    rw [sumN_one _ ha fun i hi ne => ?_, eg, if_pos rfl]
    refine if_neg fun e => ne (nd_at nd (c := f) ?_ ?_)
    · rw [getD_lt hi, ← e]
    · rw [List.getElem?_eq_getElem ha, ea]
/-- the rim of a rim -/
theorem two_cell (p : Int) {c : List Int} (nd : c.Nodup) (h1 : 1 ≤ c.length) (h4 : c.length ≤ 4) (t : List Int) : p ∣ sumF p (fun f => sgF p 0 (fcs f) t) 0 (fcs c) := by
  match c, nd, h1, h4 with
  | [x], _, _, _ => exact Int.dvd_zero p
  | [x, y], nd, _, _ =>
    show p ∣ sg p 0 * 0 + (sg p 1 * 0 + 0)
    rw [Int.mul_zero, Int.mul_zero]
    exact Int.dvd_zero p
  | [x, y, z], nd, _, _ =>
    simp only [List.nodup_cons, List.mem_cons, List.not_mem_nil, or_false, not_or] at nd
    show p ∣ 1 * (if [z] = t then 1 else if [y] = t then p - 1 else 0) + ((p - 1) * (if [z] = t then 1 else if [x] = t then p - 1 else 0) + (1 * (if [y] = t then 1 else if [x] = t then p - 1 else 0) + 0))
    by_cases a : [z] = t
    · have b : ¬ [y] = t := fun e => by rw [← e] at a; injection a with a; exact nd.2.1 a.symm
      have c : ¬ [x] = t := fun e => by rw [← e] at a; injection a with a; exact nd.1.2 a.symm
      rw [if_pos a, if_pos a, if_neg b, if_neg c]
      exact ⟨1, by omega⟩
    · by_cases b : [y] = t
      · have c : ¬ [x] = t := fun e => by rw [← e] at b; injection b with b; exact nd.1.1 b.symm
        rw [if_neg a, if_pos b, if_neg a, if_neg c, if_pos b]
        exact ⟨1, by omega⟩
      · rw [if_neg a, if_neg b, if_neg a, if_neg b]
        by_cases c : [x] = t
        · rw [if_pos c]
          exact ⟨p - 1, by grind⟩
        · rw [if_neg c]
          exact ⟨0, by omega⟩
  | [x, y, z, w], nd, _, _ =>
    simp only [List.nodup_cons, List.mem_cons, List.not_mem_nil, or_false, not_or] at nd
    show p ∣ 1 * (if [z, w] = t then 1 else if [y, w] = t then p - 1 else if [y, z] = t then 1 else 0) + ((p - 1) * (if [z, w] = t then 1 else if [x, w] = t then p - 1 else if [x, z] = t then 1 else 0) + (1 * (if [y, w] = t then 1 else if [x, w] = t then p - 1 else if [x, y] = t then 1 else 0) + ((p - 1) * (if [y, z] = t then 1 else if [x, z] = t then p - 1 else if [x, y] = t then 1 else 0) + 0)))
    obtain ⟨⟨n1, n2, n3⟩, ⟨n4, n5⟩, n6, _⟩ := nd
    by_cases a1 : [z, w] = t
    · subst a1
      have b1 : ¬ [y, w] = [z, w] := by simp; omega
      have b2 : ¬ [y, z] = [z, w] := by simp; omega
      have b3 : ¬ [x, w] = [z, w] := by simp; omega
      have b4 : ¬ [x, z] = [z, w] := by simp; omega
      have b5 : ¬ [x, y] = [z, w] := by simp; omega
      rw [if_pos rfl, if_pos rfl, if_neg b1, if_neg b2, if_neg b3, if_neg b4, if_neg b5]
      exact ⟨1, by omega⟩
    by_cases a2 : [y, w] = t
    · subst a2
      have b2 : ¬ [y, z] = [y, w] := by simp; omega
      have b3 : ¬ [x, w] = [y, w] := by simp; omega
      have b4 : ¬ [x, z] = [y, w] := by simp; omega
      have b5 : ¬ [x, y] = [y, w] := by simp; omega
      rw [if_neg a1, if_pos rfl, if_neg a1, if_neg b3, if_neg b4, if_pos rfl, if_neg b2, if_neg b4, if_neg b5]
      exact ⟨1, by omega⟩
    by_cases a3 : [y, z] = t
    · subst a3
      have b3 : ¬ [x, w] = [y, z] := by simp; omega
      have b4 : ¬ [x, z] = [y, z] := by simp; omega
      have b5 : ¬ [x, y] = [y, z] := by simp; omega
      rw [if_neg a1, if_neg a2, if_pos rfl, if_neg a1, if_neg b3, if_neg b4, if_neg a2, if_neg b3, if_neg b5, if_pos rfl]
      exact ⟨1, by omega⟩
    by_cases a4 : [x, w] = t
    · subst a4
      have b4 : ¬ [x, z] = [x, w] := by simp; omega
      have b5 : ¬ [x, y] = [x, w] := by simp; omega
      rw [if_neg a1, if_neg a2, if_neg a3, if_neg a1, if_pos rfl, if_neg a2, if_pos rfl, if_neg a3, if_neg b4, if_neg b5]
      exact ⟨p - 1, by grind⟩
    by_cases a5 : [x, z] = t
    · subst a5
      have b5 : ¬ [x, y] = [x, z] := by simp; omega
      rw [if_neg a1, if_neg a2, if_neg a3, if_neg a1, if_neg a4, if_pos rfl, if_neg a2, if_neg a4, if_neg b5, if_neg a3, if_pos rfl]
      exact ⟨p - 1, by grind⟩
    by_cases a6 : [x, y] = t
    · subst a6
      rw [if_neg a1, if_neg a2, if_neg a3, if_neg a1, if_neg a4, if_neg a5, if_neg a2, if_neg a4, if_pos rfl, if_neg a3, if_neg a5]
      exact ⟨1, by omega⟩
    rw [if_neg a1, if_neg a2, if_neg a3, if_neg a1, if_neg a4, if_neg a5, if_neg a2, if_neg a4, if_neg a6, if_neg a3, if_neg a5]
    exact ⟨0, by omega⟩
  | _ :: _ :: _ :: _ :: _ :: _, _, _, h => simp at h
/-- the primes that are let: all but 0 can be undone -/
def Prm (p : Int) : Prop := p = 2 ∨ p = 3 ∨ p = 5 ∨ p = 7 ∨ p = 11 ∨ p = 13
theorem Prm.le {p : Int} (h : Prm p) : 2 ≤ p ∧ p ≤ 13 := by unfold Prm at h; omega
theorem inv_fin : ∀ p ∈ [2, 3, 5, 7, 11, 13], ∀ r ∈ List.range p, r ≠ 0 → ∃ k ∈ List.range p, (r * k) % p = 1 := by decide +kernel
theorem Prm.inv {p : Int} (h : Prm p) (x : Int) (n : ¬ p ∣ x) : ∃ k, p ∣ x * k - 1 := by
  obtain ⟨q, hq, eq⟩ : ∃ q ∈ [2, 3, 5, 7, 11, 13], p = ((q : Nat) : Int) := by
    unfold Prm at h
    rcases h with h | h | h | h | h | h <;> rw [h]
    · exact ⟨2, by decide, rfl⟩
    · exact ⟨3, by decide, rfl⟩
    · exact ⟨5, by decide, rfl⟩
    · exact ⟨7, by decide, rfl⟩
    · exact ⟨11, by decide, rfl⟩
    · exact ⟨13, by decide, rfl⟩
  have p0 : 2 ≤ p := h.le.1
  have r0 := Int.emod_nonneg x (show p ≠ 0 by omega)
  have r1 := Int.emod_lt_of_pos x (show 0 < p by omega)
  obtain ⟨k, _, hk⟩ := inv_fin q hq (x % p).toNat (List.mem_range.mpr (by omega)) fun z => n (Int.dvd_of_emod_eq_zero (by omega))
  refine ⟨(k : Int), Int.dvd_of_emod_eq_zero ?_⟩
  have e : (((x % p).toNat * k % q : Nat) : Int) = 1 := by rw [hk]; rfl
  rw [Int.natCast_emod, Int.natCast_mul, ← eq] at e
  rw [Int.toNat_of_nonneg r0] at e
  have a : p ∣ x * k - (x % p) * k := by
    rw [← Int.sub_mul]
    exact dmr _ ⟨x / p, by have := Int.emod_add_mul_ediv x p; omega⟩
  have b : p ∣ (x % p) * k - 1 := ⟨(x % p) * k / p, by have := Int.emod_add_mul_ediv ((x % p) * k) p; omega⟩
  have := Int.dvd_add a b
  rw [show x * k - x % p * k + (x % p * k - 1) = x * k - 1 by omega] at this
  exact Int.emod_eq_zero_of_dvd this
theorem Tw.rims {p : Int} (hp : Prm p) {ll : List (List Int)} (t : Tw ll) : Rims p ll.length (szD ll) (rimD p ll) := by
  refine ⟨hp.inv, fun j i hj n => ?_, fun j hj x => ?_⟩
  · have nz : sgF p 0 (fcs (ll.getD j [])) (ll.getD i []) ≠ 0 := fun z => n (by unfold rimD; rw [z]; exact Int.dvd_zero p)
    have m := sgF_mem nz
    have l := fcs_len m
    have cj := getD_lt hj
    have mt := t.fac j _ cj _ m
    obtain ⟨a, ha, ea⟩ := List.mem_iff_getElem.mp mt
    rw [List.length_take] at ha
    rw [List.getElem_take] at ea
    have h1 : ll[a]? = some (ll.getD i []) := by rw [List.getElem?_eq_getElem (by omega), ea]
    by_cases iN : i < ll.length
    · have := nd_at t.nd h1 (getD_lt iN)
      exact ⟨by omega, by unfold szD; omega⟩
    · have e0 : ll.getD i [] = [] := by rw [List.getD_eq_getElem?_getD, List.getElem?_eq_none (by omega)]; rfl
      rw [e0] at h1
      have := (t.len _ (List.mem_of_getElem? h1)).1
      simp at this
  · have cj := getD_lt hj
    have mj := List.mem_of_getElem? cj
    obtain ⟨l1, l4⟩ := t.len _ mj
    have := sum_faces (p := p) t.nd (fun f => sgF p 0 (fcs f) (ll.getD x [])) (k := 0) (fcs_nd (t.dis _ mj) l1 l4) fun f hf => List.mem_of_mem_take (t.fac j _ cj f hf)
    show p ∣ sumN ll.length fun i => sgF p 0 (fcs (ll.getD j [])) (ll.getD i []) * sgF p 0 (fcs (ll.getD i [])) (ll.getD x [])
    rw [this]
    exact two_cell p (t.dis _ mj) l1 l4 _
end M40

set_option linter.all false
/-! A basis that grows. -/
namespace M40
section
variable {p : Int} {N : Nat}
structure BasOf (p : Int) (N : Nat) (U : List Vc) (ks : List (Nat × Vc)) : Prop where
  tri : Tri p N ks
  fro : ∀ k ∈ ks, Sp p N U k.2
  to : ∀ u ∈ U, Sp p N (ks.map Prod.snd) u
theorem BasOf.nil : BasOf p N [] [] := ⟨.nil, (fun k h => nomatch h), (fun u h => nomatch h)⟩
theorem BasOf.up {U : List Vc} {ks : List (Nat × Vc)} (b : BasOf p N U ks) {v : Vc} (h : Sp p N U v) : Sp p N (ks.map Prod.snd) v := h.of b.to
theorem BasOf.down {U : List Vc} {ks : List (Nat × Vc)} (b : BasOf p N U ks) {v : Vc} (h : Sp p N (ks.map Prod.snd) v) : Sp p N U v := h.of fun u hu => by
  obtain ⟨l, hl, rfl⟩ := List.mem_map.mp hu
  exact b.fro l hl
theorem Tri.later {ks : List (Nat × Vc)} (t : Tri p N ks) : ∀ {a b : Nat} {k l : Nat × Vc}, ks[a]? = some k → ks[b]? = some l → a < b → p ∣ l.2 k.1 := by
  induction t with
  | nil => intro a b k l h; cases h
  | cons k ks _ _ h3 _ ih =>
    intro a b x l hx hl lt
    cases b with
    | zero => exact absurd lt (Nat.not_lt_zero a)
    | succ b =>
      cases a with
      | zero =>
        cases hx
        exact h3 l (List.mem_of_getElem? (i := b) hl)
      | succ a => exact ih (a := a) (b := b) hx hl (by omega)
theorem BasOf.same {U : List Vc} {ks : List (Nat × Vc)} (b : BasOf p N U ks) {v z : Vc} (r : Rest p N ks v z) (nil : Al p N z zeroV) : Sp p N U v ∧ BasOf p N (U ++ [v]) ks := by
  obtain ⟨s, h1, h2⟩ := r.made
  have sv : Sp p N (ks.map Prod.snd) v := h1.al fun i hi => by
    have := Int.dvd_sub (nil i hi) (h2 i hi)
    rwa [show z i - zeroV i - (z i - (v i - s i)) = v i - s i by show z i - 0 - _ = _; omega] at this
  refine ⟨b.down sv, b.tri, fun k hk => (b.fro k hk).mono fun u hu => List.mem_append_left _ hu, fun u hu => ?_⟩
  rcases List.mem_append.mp hu with h | h
  · exact b.to u h
  · rw [List.mem_singleton.mp h]
    exact sv
theorem BasOf.more {U : List Vc} {ks : List (Nat × Vc)} (b : BasOf p N U ks) {v z y : Vc} (r : Rest p N ks v z) {a : Nat} (ha : a < N) (na : ¬ p ∣ z a) {c : Int} (cz : p ∣ z a * c - 1) (ey : Al p N y fun i => z i * c) : ¬ Sp p N U v ∧ BasOf p N (U ++ [v]) (ks ++ [(a, y)]) := by
  obtain ⟨s, h1, h2⟩ := r.made
  have yv : ∀ i, i < N → p ∣ z i → p ∣ y i := fun i hi h => by
    have := Int.dvd_add (ey i hi) (dmr (b := c) _ h)
    rwa [show y i - z i * c + z i * c = y i by omega] at this
  have ya : p ∣ y a - 1 := by
    have := Int.dvd_add (ey a ha) cz
    rwa [show y a - z a * c + (z a * c - 1) = y a - 1 by omega] at this
  refine ⟨fun h => na ?_, b.tri.snoc ha ya fun l hl => yv _ (b.tri.lt l hl).1 (r.off l hl), fun k hk => ?_, fun u hu => ?_⟩
  · have sz : Sp p N (ks.map Prod.snd) z := ((b.up h).minus h1).al h2
    have := b.tri.nought sz r.off a ha
    rwa [show z a - zeroV a = z a by show z a - 0 = _; omega] at this
  · rcases List.mem_append.mp hk with h | h
    · exact (b.fro k h).mono fun u hu => List.mem_append_left _ hu
    · rw [List.mem_singleton.mp h]
      have a1 : Sp p N (U ++ [v]) fun i => c * (v i - s i) := Sp.times c (Sp.minus (.mem (List.mem_append_right _ List.mem_cons_self)) ((b.down h1).mono fun u hu => List.mem_append_left _ hu))
      refine a1.al fun i hi => ?_
      have := Int.dvd_add (ey i hi) (dml c (h2 i hi))
      rwa [show y i - z i * c + c * (z i - (v i - s i)) = y i - c * (v i - s i) by grind] at this
  · have via : ∀ {w : Vc}, Sp p N (ks.map Prod.snd) w → Sp p N ((ks ++ [(a, y)]).map Prod.snd) w := fun h => h.mono fun u hu => by
      rw [List.map_append]
      exact List.mem_append_left _ hu
    rcases List.mem_append.mp hu with h | h
    · exact via (b.to u h)
    · rw [List.mem_singleton.mp h]
      have yk : Sp p N ((ks ++ [(a, y)]).map Prod.snd) y := .mem (by rw [List.map_append]; exact List.mem_append_right _ List.mem_cons_self)
      refine ((via h1).plus (yk.times (z a))).al fun i hi => ?_
      have e1 := h2 i hi
      have e2 := dml (z a) (ey i hi)
      have e3 := dml (z i) cz
      have := Int.dvd_sub (Int.dvd_neg.mpr (Int.dvd_add e1 e2)) e3
      rwa [show -(z i - (v i - s i) + z a * (y i - z i * c)) - z i * (z a * c - 1) = v i - (s i + z a * y i) by grind] at this
end
end M40

set_option Elab.async false
set_option linter.all false
set_option maxRecDepth 100000
set_option maxHeartbeats 4000000
set_option pp.maxSteps 60
namespace O42
open PySem L2
def top (i : Nat) : Stmt := PySem.Challenge.pw_mapwebs_k42_whole_pictures_of_towers.main.body.getD i (.Pass ⟨0, 0, 0, 0⟩)
abbrev sBag : Stmt := top 60
abbrev sPick : Stmt := top 61
abbrev sSome : Stmt := top 62
theorem upd_upd {H : Hp} {a : Addr} {o u : HO} : upd (upd H a o) a u = upd H a u := by
  funext b
  by_cases h : b = a
  · rw [h, upd_same, upd_same]
  · rw [upd_ne h, upd_ne h, upd_ne h]
/-- the bag stands at a, its great numbers at c -/
def BagAt (H : Hp) (a c : Addr) : Prop := ∃ (ns : List Int) (z m n : Int), H a = some (.lst [.ref c, .int z, .int m, .int n]) ∧ H c = some (.lst (ns.map V.int))
theorem BagAt.neq {H : Hp} {a c : Addr} (x : BagAt H a c) : c ≠ a := by
  obtain ⟨ns, z, m, n, h1, h2⟩ := x
  exact ne_of h2 h1 (by intro q; cases ns <;> cases q)
/-- a step that changes nothing but the bag, and makes new things -/
structure Go (a c : Addr) (H H' : Hp) : Prop where
  bag : BagAt H' a c
  keep : ∀ b o, b ≠ a → b ≠ c → H b = some o → H' b = some o
theorem Go.trans {a c : Addr} {H H1 H2 : Hp} (x : Go a c H H1) (y : Go a c H1 H2) : Go a c H H2 := ⟨y.1, fun b o n m e => y.2 b o n m (x.2 b o n m e)⟩
theorem Go.refl {a c : Addr} {H : Hp} (x : BagAt H a c) : Go a c H H := ⟨x, fun _ _ _ _ e => e⟩
theorem BagAt.ne {H : Hp} {a c : Addr} (x : BagAt H a c) {b : Addr} (h : H b = none) : b ≠ a ∧ b ≠ c := by
  obtain ⟨ns, z, m, n, h1, h2⟩ := x
  exact ⟨(ne_of_none h1 h).symm, (ne_of_none h2 h).symm⟩
theorem Go.of_ext {a c : Addr} {H H' : Hp} (x : BagAt H a c) (e : ∀ b o, H b = some o → H' b = some o) : Go a c H H' := by
  obtain ⟨ns, z, m, n, h1, h2⟩ := x
  exact ⟨⟨ns, z, m, n, e _ _ h1, e _ _ h2⟩, fun b o _ _ h => e b o h⟩
theorem Go.new {a c : Addr} {H : Hp} (x : BagAt H a c) {b : Addr} {o : HO} (h : H b = none) : Go a c H (upd H b o) := Go.of_ext x fun d u e => by rw [upd_ne (ne_of_none e h)]; exact e
/-- a store at a thing that is new since -/
theorem Go.put {a c d : Addr} {H H' : Hp} {o : HO} (p : BagAt H a c) (g : Go a c H H') (nd : H d = none) : Go a c H (upd H' d o) := by
  obtain ⟨h1, h2⟩ := p.ne nd
  obtain ⟨ns, z, m, n, h3, h4⟩ := g.1
  exact ⟨⟨ns, z, m, n, by rw [upd_ne h1.symm]; exact h3, by rw [upd_ne h2.symm]; exact h4⟩, fun b o' nb nc hb => by rw [upd_ne (ne_of_none hb nd)]; exact g.2 b o' nb nc hb⟩
theorem bag_no {H : Hp} {a c b : Addr} {o : HO} (p : BagAt H a c) (h : H b = some o) (no : ∀ xs, o ≠ .lst xs) : b ≠ a ∧ b ≠ c := by
  obtain ⟨ns, z, m, n, h1, h2⟩ := p
  refine ⟨fun e => ?_, fun e => ?_⟩
  · rw [e, h1] at h
    cases h
    exact no _ rfl
  · rw [e, h2] at h
    cases h
    exact no _ rfl
theorem Go.tup {a c b : Addr} {H H' : Hp} {xs : List V} (p : BagAt H a c) (g : Go a c H H') (h : H b = some (.tup xs)) : H' b = some (.tup xs) := g.2 _ _ (bag_no p h fun _ z => nomatch z).1 (bag_no p h fun _ z => nomatch z).2 h
def spBag (K : PySem.W.Frag) : Sp := fun vs H Q _ => ∃ (s : Addr) (ns : List Int), vs = [.ref s] ∧ SqL K H s (ns.map V.int) ∧ ns.length ≤ 63 ∧ ∀ (r c : Addr) (H' : Hp), (∀ b o, H b = some o → H' b = some o) → BagAt H' r c → Q (.ref r) H'
def spPick : Sp := fun vs H Q _ => ∃ (a c : Addr) (m : Int), vs = [.ref a, .int m] ∧ BagAt H a c ∧ 0 < m ∧ m < 1000000 ∧ ∀ (r : Int) (H' : Hp), 0 ≤ r → r < m → Go a c H H' → Q (.int r) H'
def spSome : Sp := fun vs H Q _ => ∃ (a c l : Addr) (xs : List V), vs = [.ref a, .ref l] ∧ BagAt H a c ∧ l ≠ a ∧ l ≠ c ∧ H l = some (.lst xs) ∧ xs ≠ [] ∧ xs.length ≤ 1000 ∧ ∀ (x : V) (H' : Hp), x ∈ xs → Go a c H H' → Q x H'
structure Bl (mg : Str → Option Value) : Prop where
  len : mg "len" = none
  int : mg "int" = none
theorem tyes_in {σ : L2.St} {H : Hp} {te : TE} {R : V → Hp → Prop} {N : Hp → Prop} (h : te σ H R) : tYes σ H (fun b H3 => if b = true then te σ H3 R else N H3) := by
  show (if true = true then te σ H R else N H)
  rw [if_pos rfl]
  exact h
section
variable {P : Program} {w : World} {K : PySem.W.Frag} {mg : Str → Option Value} {base : Heap}
theorem scPick : FnScope ["_law_bag_here", "_law_many", "_law_number"] ["_law_bag_here", "_law_many"] (defScope sPick) := ⟨rfl, rfl, rfl, by decide +kernel, rfl, by decide +kernel, by decide +kernel⟩
theorem seq0 {n : Nat} (h : 0 < n) : seqIndex? 0 n = some 0 := by
  unfold seqIndex?
  simp only [show ¬ ((0 : Int) < 0) by decide, if_false]
  rw [if_pos (by simp; omega)]
  rfl
theorem ix0 {n : Nat} (h : 0 < n) : ixN n 0 = some 0 := by
  unfold ixN
  rw [if_pos (by decide), if_pos (by omega)]
  rfl
theorem ok_pick {f : Addr} {fd : FuncData} (F : Fun K "_law_pick" "_law_pick" sPick f fd) (T : Bl mg) : FnOk P w K mg base CX0 1 f fd ["_law_bag_here", "_law_many"] spPick := by
  refine F.ok scPick (fun vs H Q E h => ?_) (fun cdv A outer s H vs Q E hr h => ?_)
  · obtain ⟨a, c, m, rfl, _⟩ := h
    rfl
  · obtain ⟨a, c, m, rfl, bag, hm, hm2, k⟩ := h
    obtain ⟨ns, z, ln, n, h1, h2⟩ := id bag
    have hca := bag.neq
    refine ⟨_, pss_cons (ps_if (pt_cmpR op_eq (pe_ix ix_list (pv 0) pe_int (fun _ _ => rfl)) pe_int (nomark _)) (pss_one (ps_ret pe_int)) pss_nil)
      (pss_cons (ps_if (pt_cmpR op_gt (pe_callB call_len_seq (by rfl) T.len PySem.boot_len (pa_cons (pe_ix ix_list (pv 0) pe_int (fun _ _ => rfl)) pa_nil)) pe_int (nomark _))
        (pss_cons (ps_set (i := 2) scPick.nd rfl (Or.inl rfl) (pe_ix ix_list (pe_ix ix_list (pv 0) pe_int (fun _ _ => rfl)) pe_int (fun _ _ => rfl)))
        (pss_cons (ps_asg (pe_op op_fdiv (pv 2) (pv 1)) (pg_sub (pe_ix ix_list (pv 0) pe_int (fun _ _ => rfl)) pe_int set_list))
        (pss_cons (ps_if (pt_cmpR op_lt (pv 2) (pv 1) (nomark _)) (pss_one (ps_expr (pe_bm PySem.F.plainAttrs_list PySem.F.slot_list_pop PySem.F.type_list_pop mt_popAt (pe_ix ix_list (pv 0) pe_int (fun _ _ => rfl)) (pa_cons pe_int pa_nil)))) pss_nil)
        (pss_one (ps_ret (pe_op op_mod (pe_callTy call_int1 (by rfl) T.int (by decide +kernel) (pa_cons (pv 2) pa_nil)) (pv 1))))))) pss_nil)
      (pss_cons (ps_asg (pe_op op_add (pe_ix ix_list (pv 0) pe_int (fun _ _ => rfl)) pe_int) (pg_sub (pv 0) pe_int set_list))
      (pss_cons (ps_set (i := 2) scPick.nd rfl (Or.inl rfl) (pe_op op_mod (pe_callTy call_int1 (by rfl) T.int (by decide +kernel) (pa_cons (pe_op op_add (pe_op op_mul (pe_op op_add (pe_ix ix_list (pv 0) pe_int (fun _ _ => rfl)) (pe_op op_mul pe_int (pe_ix ix_list (pv 0) pe_int (fun _ _ => rfl)))) pe_int) pe_int) pa_nil)) pe_int))
      (pss_cons (ps_set (i := 2) scPick.nd rfl (Or.inl rfl) (pe_op op_mod (pe_callTy call_int1 (by rfl) T.int (by decide +kernel) (pa_cons (pe_op op_add (pe_op op_mul (pv 2) (pe_op op_add (pe_op op_fdiv (pv 2) pe_int) pe_int)) (pe_ix ix_list (pv 0) pe_int (fun _ _ => rfl))) pa_nil)) pe_int))
      (pss_cons (ps_asg (pe_op op_mod (pe_callTy call_int1 (by rfl) T.int (by decide +kernel) (pa_cons (pe_op op_add (pe_ix ix_list (pv 0) pe_int (fun _ _ => rfl)) (pv 2)) pa_nil)) pe_int) (pg_sub (pv 0) pe_int set_list))
      (pss_one (ps_ret (pe_op op_mod (pe_callTy call_int1 (by rfl) T.int (by decide +kernel) (pa_cons (pe_op op_fdiv (pv 2) pe_int) pa_nil)) (pv 1))))))))), ?_⟩
    refine ⟨_, rfl, _, _, _, _, rfl, rfl, SqL.of h1, rfl, rfl, _, rfl, ?_⟩
    refine ite2 (fun _ => k 0 H (by decide) hm (Go.refl bag)) (fun _ => ?_)
    refine ⟨_, rfl, _, _, _, _, rfl, rfl, SqL.of h1, rfl, c, _, rfl, .inl (SqL.of h2), _, _, rfl, rfl, _, rfl, ?_⟩
    refine ite2 (fun e => ?_) (fun _ => ?_)
    · have pos : 0 < ns.length := by
        have e' := of_decide_eq_true e
        rw [List.length_map] at e'
        omega
      match ns, pos with
      | x :: ns, _ =>
        refine ⟨_, rfl, _, _, _, _, rfl, rfl, SqL.of h1, rfl, c, _, 0, .int x, rfl, rfl, SqL.of h2, at_of (j := 0) rfl rfl, ?_⟩
        refine ⟨_, rfl, _, rfl, _, _, rfl, rfl, ⟨hm, by omega⟩, _, rfl, _, _, _, _, rfl, rfl, SqL.of h1, rfl, c, _, 0, 0, rfl, rfl, h2, ix0 (Nat.succ_pos _), ?_⟩
        have e1 : (List.map V.int (x :: ns)).set 0 (V.int (x / m)) = (x / m :: ns).map V.int := rfl
        have ha1 : (upd H c (.lst ((x / m :: ns).map V.int))) a = some (.lst [.ref c, .int z, .int ln, .int n]) := by rw [upd_ne hca.symm]; exact h1
        refine ⟨_, rfl, _, rfl, _, _, rfl, rfl, _, rfl, ?_⟩
        have fin : ∀ ys : List Int, Go a c H (upd H c (.lst (ys.map V.int))) := fun ys => ⟨⟨ys, z, ln, n, by rw [upd_ne hca.symm]; exact h1, upd_same⟩, fun b o _ nc hb => by rw [upd_ne nc]; exact hb⟩
        refine ite2 (fun _ => ?_) (fun _ => ?_)
        · refine ⟨_, rfl, _, _, _, _, rfl, rfl, SqL.of ha1, rfl, .inl ⟨rfl, _, SqL.of upd_same⟩, c, _, 0, 0, .int (x / m), rfl, rfl, upd_same, by decide, by decide, seq0 (Nat.succ_pos _), rfl, ?_⟩
          refine ⟨_, rfl, .inl ⟨_, rfl, _, rfl, _, _, rfl, rfl, hm, ?_⟩⟩
          rw [upd_upd]
          exact k _ _ (Int.emod_nonneg _ (by omega)) (Int.emod_lt_of_pos _ hm) (fin ns)
        · refine ⟨_, rfl, .inl ⟨_, rfl, _, rfl, _, _, rfl, rfl, hm, ?_⟩⟩
          exact k _ _ (Int.emod_nonneg _ (by omega)) (Int.emod_lt_of_pos _ hm) (fin (x / m :: ns))
    · have fin : ∀ z' n' : Int, Go a c H (upd H a (.lst [.ref c, .int z', .int ln, .int n'])) := fun z' n' => ⟨⟨ns, z', ln, n', upd_same, by rw [upd_ne hca]; exact h2⟩, fun b o na _ hb => by rw [upd_ne na]; exact hb⟩
      refine ⟨_, rfl, _, _, _, _, rfl, rfl, SqL.of h1, rfl, _, _, rfl, rfl, _, rfl, _, _, _, _, rfl, rfl, h1, rfl, ?_⟩
      refine ⟨_, rfl, _, _, _, _, rfl, rfl, SqL.of upd_same, rfl, _, rfl, _, _, _, _, rfl, rfl, SqL.of upd_same, rfl, _, _, rfl, rfl, .inl (by decide), _, _, rfl, rfl, _, _, rfl, rfl, .inr (by decide), _, _, rfl, rfl, .inl ⟨_, rfl, _, _, rfl, rfl, (by show (0 : Int) < 2147483647; decide), ?_⟩⟩
      have b1 := Int.emod_nonneg ((z + 7919 * (n + 1)) * 48271 + 11) (show (2147483647 : Int) ≠ 0 by decide)
      have b2 := Int.emod_lt_of_pos ((z + 7919 * (n + 1)) * 48271 + 11) (show (0 : Int) < 2147483647 by decide)
      refine ⟨_, rfl, _, rfl, _, _, rfl, rfl, ⟨by decide, by decide⟩, _, _, rfl, rfl, _, _, rfl, rfl, .inl ⟨by omega, by omega⟩, _, rfl, _, _, _, _, rfl, rfl, SqL.of upd_same, rfl, _, _, rfl, rfl, .inl ⟨_, rfl, _, _, rfl, rfl, (by show (0 : Int) < 2147483399; decide), ?_⟩⟩
      generalize ((z + 7919 * (n + 1)) * 48271 + 11) % 2147483647 = y1 at *
      refine ⟨_, rfl, _, _, _, _, rfl, rfl, SqL.of upd_same, rfl, _, rfl, _, _, rfl, rfl, .inl ⟨_, rfl, _, _, rfl, rfl, (by show (0 : Int) < 2147483629; decide), _, rfl, _, _, _, _, rfl, rfl, upd_same, rfl, ?_⟩⟩
      refine ⟨_, rfl, _, _, rfl, rfl, ⟨by decide, by decide⟩, .inl ⟨_, rfl, _, rfl, _, _, rfl, rfl, hm, ?_⟩⟩
      rw [upd_upd]
      exact k _ _ (Int.emod_nonneg _ (by omega)) (Int.emod_lt_of_pos _ hm) (fin _ _)
theorem scSome : FnScope ["_law_bag_here", "_law_things"] ["_law_bag_here", "_law_things"] (defScope sSome) := ⟨rfl, rfl, rfl, by decide +kernel, rfl, by decide +kernel, by decide +kernel⟩
theorem ok_some {f : Addr} {fd : FuncData} (F : Fun K "_law_some" "_law_some" sSome f fd) (T : Bl mg) (cD : C8.Cal P w K mg base 1 "_law_pick" spPick []) : FnOk P w K mg base CX0 2 f fd ["_law_bag_here", "_law_things"] spSome := by
  refine F.ok scSome (fun vs H Q E h => ?_) (fun cdv A outer s H vs Q E hr h => ?_)
  · obtain ⟨a, c, l, xs, rfl, _⟩ := h
    rfl
  · obtain ⟨a, c, l, xs, rfl, bag, na, nc, hl, ne, len, k⟩ := h
    refine ⟨_, pss_one (ps_ret (pe_ix ix_list (pv 1) (C8.pe_c cD hr (by decide) (by rfl) (pa_cons (pv 0) (pa_cons (pe_callB call_len_seq (by rfl) T.len PySem.boot_len (pa_cons (pv 1) pa_nil)) pa_nil))) (fun _ _ => rfl))), ?_⟩
    have pos : 0 < xs.length := List.length_pos_iff.mpr ne
    refine ⟨_, rfl, _, rfl, _, rfl, l, xs, rfl, .inl (SqL.of hl), a, c, _, rfl, bag, by omega, by omega, fun r H' h0 hlt go => ?_⟩
    have lt : r.toNat < xs.length := by omega
    refine ⟨l, xs, r, xs[r.toNat], rfl, rfl, SqL.of (go.2 _ _ na nc hl), at_of (j := r.toNat) (by omega) (List.getElem?_eq_getElem lt), ?_⟩
    exact k _ _ (List.getElem_mem lt) go
end
end O42

set_option Elab.async false
set_option linter.all false
set_option maxRecDepth 100000
set_option maxHeartbeats 4000000
set_option pp.maxSteps 60
namespace O42
open PySem L2
abbrev sInteger : Stmt := top 2
abbrev sNumber : Stmt := top 3
/-- built-ins that the text leaves as they are -/
structure Gb (mg : Str → Option Value) : Prop where
  len : mg "len" = none
  int : mg "int" = none
  bool : mg "bool" = none
  isi : mg "isinstance" = none
  tup : mg "tuple" = none
  all : mg "all" = none
  enum : mg "enumerate" = none
  list : mg "list" = none
  rng : mg "range" = none
  min : mg "min" = none
  max : mg "max" = none
  sorted : mg "sorted" = none
  set : mg "set" = none
  str : mg "str" = none
  abs : mg "abs" = none
  ve : mg "ValueError" = none
/-- what is expected of a caller of a plain def -/
abbrev Cal := @C8.Cal
def isI : V → Bool | .int _ => true | _ => false
def isB : V → Bool | .bl _ => true | _ => false
/-- a thing, as isinstance sees it; of a tuple also its items, n deep -/
def Th (K : PySem.W.Frag) (H : Hp) : Nat → V → Prop
  | n, x => ∃ t, TyX K H x t ∧ PySem.W.kitOne K t (.type "int") = some (isI x || isB x) ∧ PySem.W.kitOne K t (.type "bool") = some (isB x) ∧
    ((PySem.W.kitOne K t (.type "tuple") = some false ∧ ∀ a, x = .ref a → ∃ o, H a = some o ∧ ∀ xs, o ≠ .tup xs) ∨ (PySem.W.kitOne K t (.type "tuple") = some true ∧ ∃ a xs, x = .ref a ∧ H a = some (.tup xs) ∧
      match n with | 0 => True | m + 1 => ∀ y ∈ xs, Th K H m y))
theorem Th.zero {K : PySem.W.Frag} {H : Hp} {n : Nat} {x : V} (h : Th K H n x) : Th K H 0 x := by
  unfold Th at h ⊢
  obtain ⟨t, a, b, c, d⟩ := h
  refine ⟨t, a, b, c, ?_⟩
  rcases d with d | ⟨d, a, xs, e, f, _⟩
  · exact .inl d
  · exact .inr ⟨d, a, xs, e, f, True.intro⟩
def numV (m : Int) : V → Bool
  | .int i => decide (0 ≤ i) && decide (i ≤ m)
  | _ => false
theorem numV_true {m : Int} {x : V} : numV m x = true ↔ ∃ i, x = .int i ∧ 0 ≤ i ∧ i ≤ m := by
  cases x <;> simp [numV]
theorem TyOf.ext {K : PySem.W.Frag} {H H' : Hp} {x : V} {t : Value} (h : TyOf K H x t) (e : Ext H H') : TyOf K H' x t := by
  cases h with
  | non => exact .non
  | bl x => exact .bl x
  | int i => exact .int i
  | str x => exact .str x
  | flt x => exact .flt x
  | lst h => exact .lst (e _ _ h)
  | frz h => exact .frz (e _ _ h)
  | tup h => exact .tup (e _ _ h)
  | dK h => exact .dK (e _ _ h)
  | dT h => exact .dT (e _ _ h)
  | ins h c a b d f => exact .ins (e _ _ h) c a b d f
theorem TyX.ext {K : PySem.W.Frag} {H H' : Hp} {x : V} {t : Value} (h : TyX K H x t) (e : Ext H H') : TyX K H' x t := by
  cases h with
  | base h => exact .base (TyOf.ext h e)
  | byt b => exact .byt b
  | set h => exact .set (e _ _ h)
  | kList h c => exact .kList h c
  | kTuple h c => exact .kTuple h c
  | kDict h c => exact .kDict h c
  | fTuple h => exact .fTuple (e _ _ h)
  | fDict h => exact .fDict (e _ _ h)
theorem Th.ext {K : PySem.W.Frag} {H H' : Hp} (e : Ext H H') : ∀ {n : Nat} {x : V}, Th K H n x → Th K H' n x
  | 0, x, h => by
    unfold Th at h ⊢
    obtain ⟨t, a, b, c, d⟩ := h
    refine ⟨t, TyX.ext a e, b, c, ?_⟩
    rcases d with ⟨d, f⟩ | ⟨d, a, xs, g, f, _⟩
    · exact .inl ⟨d, fun a q => let ⟨o, h1, h2⟩ := f a q; ⟨o, e _ _ h1, h2⟩⟩
    · exact .inr ⟨d, a, xs, g, e _ _ f, True.intro⟩
  | n + 1, x, h => by
    unfold Th at h ⊢
    obtain ⟨t, a, b, c, d⟩ := h
    refine ⟨t, TyX.ext a e, b, c, ?_⟩
    rcases d with ⟨d, f⟩ | ⟨d, a, xs, g, f, i⟩
    · exact .inl ⟨d, fun a q => let ⟨o, h1, h2⟩ := f a q; ⟨o, e _ _ h1, h2⟩⟩
    · exact .inr ⟨d, a, xs, g, e _ _ f, fun y hy => Th.ext e (i y hy)⟩
def spInteger (K : PySem.W.Frag) : Sp := fun vs H Q _ => ∃ x : V, vs = [x] ∧ Th K H 0 x ∧ Q (.bl (isI x)) H
def spNumber (K : PySem.W.Frag) : Sp := fun vs H Q _ => ∃ (m : Int) (x : V), vs = [.int m, x] ∧ Th K H 0 x ∧ Q (.bl (numV m x)) H
section
variable {P : Program} {w : World} {K : PySem.W.Frag} {mg : Str → Option Value} {base : Heap}
theorem scInt : FnScope ["thing"] ["thing"] (defScope sInteger) := ⟨rfl, rfl, rfl, by decide +kernel, rfl, by decide +kernel, by decide +kernel⟩
theorem ok_integer {f : Addr} {fd : FuncData} (F : L2.Fun K "is_integer" "is_integer" sInteger f fd) (T : Gb mg) : FnOk P w K mg base CX0 1 f fd ["thing"] (spInteger K) := by
  refine F.ok scInt (fun vs H Q E h => ?_) (fun cdv A outer s H vs Q E hr h => ?_)
  · obtain ⟨x, rfl, _⟩ := h
    rfl
  · obtain ⟨x, rfl, th, k⟩ := h
    unfold Th at th
    obtain ⟨t, ty, ki, kb, _⟩ := th
    refine ⟨_, pss_one (ps_ret (pe_and (pe_callB call_isi (by rfl) T.isi (by decide +kernel) (pa_cons (pv 0) (pa_cons (pe_bltn (v := .ty "int") (by rfl) T.int (by decide +kernel) rfl) pa_nil)))
      (pe_one (pe_not (pe_callB call_isi (by rfl) T.isi (by decide +kernel) (pa_cons (pv 0) (pa_cons (pe_bltn (v := .ty "bool") (by rfl) T.bool (by decide +kernel) rfl) pa_nil))))))), ?_⟩
    refine ⟨_, rfl, x, .ty "int", t, .type "int", _, rfl, .ty _, ty, ki, _, rfl, ?_⟩
    cases x <;> first
      | exact iteF k
      | (refine iteT ⟨_, rfl, _, .ty "bool", t, .type "bool", _, rfl, .ty _, ty, kb, _, rfl, ?_⟩; exact k)
theorem scNum : FnScope ["most", "thing"] ["most", "thing"] (defScope sNumber) := ⟨rfl, rfl, rfl, by decide +kernel, rfl, by decide +kernel, by decide +kernel⟩
theorem ok_number {f : Addr} {fd : FuncData} (F : L2.Fun K "is_number" "is_number" sNumber f fd) (cI : Cal P w K mg base 1 "is_integer" (spInteger K) []) : FnOk P w K mg base CX0 2 f fd ["most", "thing"] (spNumber K) := by
  refine F.ok scNum (fun vs H Q E h => ?_) (fun cdv A outer s H vs Q E hr h => ?_)
  · obtain ⟨m, x, rfl, _⟩ := h
    rfl
  · obtain ⟨m, x, rfl, th, k⟩ := h
    refine ⟨_, pss_one (ps_ret (pe_and (C8.pe_c cI hr (by decide) (by rfl) (pa_cons (pv 1) pa_nil)) (pe_one (pe_chain op_le op_le pe_int (pv 1) (pv 0))))), ?_⟩
    refine ⟨_, rfl, x, rfl, th, _, rfl, ?_⟩
    cases x with
    | int i =>
      refine iteT ⟨_, rfl, _, _, rfl, rfl, _, rfl, ?_⟩
      by_cases h0 : (0 : Int) ≤ i
      · rw [decide_eq_true h0]
        refine iteT ⟨_, rfl, _, _, rfl, rfl, ?_⟩
        have e : numV m (.int i) = decide (i ≤ m) := by simp [numV, h0]
        rw [e] at k
        exact k
      · rw [decide_eq_false h0]
        have e : numV m (.int i) = false := by simp [numV, h0]
        rw [e] at k
        exact iteF k
    | _ => exact iteF k
end
end O42

set_option Elab.async false
set_option linter.all false
set_option maxRecDepth 100000
set_option maxHeartbeats 4000000
/-! enumerate over a tuple that is tracked: the iterator (by the library's WalksT.enumerateD over Draws.tuple), the rule of the layer, the loop. -/
namespace O42
open PySem L2 PyProof.Rows
open PySem.Sem (wp)
theorem en_new (l : Addr) (us : Array Value) (n : Nat) (dd : Option Addr) (sl : Array (Option Value)) :
    Meets (Builtin.«enumerate.__new__» ⟨[.type "enumerate", .ref l], []⟩) fun _ R s => s.heap.get? l = some { cls := .type "tuple", dict := dd, data := .seq us n, slots := sl } ∧
      R (.ok (.ret (.ref (s.heap.objs.size + 1)))) { s with heap := (s.heap.push { cls := .type "tuple_iterator", data := .fields #[.ref l, .int 0 0] }).push { cls := .type "enumerate", data := .fields #[.none, .bool false, .ref s.heap.objs.size, rawInt 0, .none, .none] } } := by
  refine .of_wp fun prog w A R s hh => ?_
  rcases s with ⟨hp, gs, dr, tk, os⟩
  rcases hh with ⟨there, hR⟩
  have isT : Heap.IsTuple (Shared.heap ⟨hp, gs, dr, tk, os⟩) l us := ⟨_, there, rfl, n, rfl⟩
  have same := sub_enumerate
  have big : (hp.push { cls := .type "tuple_iterator", data := .fields #[.ref l, .int 0 0] }).objs.size = hp.objs.size + 1 := Heap.size_push ..
  have hR' : R (.ok (.ret (.ref (hp.push { cls := .type "tuple_iterator", data := .fields #[.ref l, .int 0 0] }).objs.size))) ⟨(hp.push { cls := .type "tuple_iterator", data := .fields #[.ref l, .int 0 0] }).push { cls := .type "enumerate", data := .fields #[.none, .bool false, .ref hp.objs.size, rawInt 0, .none, .none] }, gs, dr, tk, os⟩ := by
    rw [big]; exact hR
  wp_walk using AutoSeq1.wpAny_loadPart' there
  refine wpAny_stack_any fun st => wpAny_pure ?_
  split
  · rename_i c _ _ _ _ _
    cases (c == Value.type "enumerate") <;>
    · wp_walk using AutoSeq1.wpAny_loadPart' there, wpAny_pyIter_tuple isT
      exact ⟨_, rfl, hR'⟩
  · wp_walk using AutoSeq1.wpAny_loadPart' there, wpAny_pyIter_tuple isT
    exact ⟨_, rfl, hR'⟩
theorem call_en {prog : Program} {w : World} {A : Around} {E : Value → Shared → Prop} {s : Shared} {l : Addr} {us : Array Value} {Q : Value → Shared → Prop} (isT : s.heap.IsTuple l us)
    (h : ∀ h' : Heap, IsEnum h' (s.heap.objs.size + 1) s.heap.objs.size 0 .none → h'.IsTupleIter s.heap.objs.size l 0 → (∀ b o, s.heap.get? b = some o → h'.get? b = some o) → Q (.ref (s.heap.objs.size + 1)) { s with heap := h' }) :
    wpAny (model prog w) A (call (.type "enumerate") [.ref l]) Q E s := by
  rcases isT with ⟨⟨c, dd, dt, sl⟩, there, hc, n, hd⟩
  obtain rfl : c = .type "tuple" := hc
  obtain rfl : dt = .seq us n := hd
  refine callType_new F.called_enumerate (by decide) (F.typeCall_enumerate_1 _) (F.newCall_enumerate_1 _) (fun obj => F.args_object_init_2 obj _) F.entry_enumerate_new (en_new l us n dd sl) ⟨there, ?_⟩
  have big : (s.heap.push { cls := .type "tuple_iterator", data := .fields #[.ref l, .int 0 0] }).objs.size = s.heap.objs.size + 1 := Heap.size_push ..
  have en : IsEnum ((s.heap.push { cls := .type "tuple_iterator", data := .fields #[.ref l, .int 0 0] }).push { cls := .type "enumerate", data := .fields #[.none, .bool false, .ref s.heap.objs.size, rawInt 0, .none, .none] }) (s.heap.objs.size + 1) s.heap.objs.size 0 .none := by
    rw [← big]
    exact Heap.get?_push_size _ rfl
  exact ⟨⟨_, en, rfl⟩, h _ en ⟨_, Heap.get?_push_of_some _ (Heap.get?_push_size _ rfl), rfl, rfl⟩ fun b o z => Heap.get?_push_of_some _ (Heap.get?_push_of_some _ z)⟩
/-- the items of the tracked tuple at a, each in a new pair with its number -/
def ItEn (a : Addr) : It where
  go := fun i H => ∃ (xs : List V) (x : V), Rd H a (.tup xs) ∧ xs[i]? = some x
  yld := fun i H v H' => ∃ (p : Addr) (x : V), v = .ref p ∧ H p = none ∧ H' = upd H p (.tup [.int (i : Nat), x]) ∧ ∀ xs, Rd H a (.tup xs) → xs[i]? = some x
  stop := fun i H => ∃ xs : List V, Rd H a (.tup xs) ∧ xs.length = i
def enAt (a e it : Addr) (i : Nat) (h : Heap) : Prop := (∃ old, IsEnum h e it (i : Int) old) ∧ h.IsTupleIter it a i ∧ e ≠ it
section
variable {X : Cx} {pins : List (Addr × Obj)} {σ : L2.St} {H : Hp} {s : Shared} {a e it : Addr} {xs : List V}
/-- the library's walk, at a state that the layer knows -/
theorem en_walk (hc : X.calm = true) (I : Inv X pins σ H s) (hf : ∀ b ∈ [e, it], FpOk X pins H b) (hne : e ≠ it) (hq : Rd H a (.tup xs)) :
    ∃ its : List Value, Vals xs its ∧ s.heap.IsTuple a its.toArray ∧ WalksT X.prog X.w X.A e (e :: [it, a]) [e, it] its.toArray.size (fun i vals => ∃ t x, its.toArray[i]? = some x ∧ vals = #[.int i t, x])
      (fun i h => (∃ old, IsEnum h e it i old) ∧ (h.IsTupleIter it a i ∧ h.IsTuple a its.toArray)) (fun i T h => (∃ x, IsEnumOut h e it ((i : Int) + 1) x T) ∧ (h.IsTupleIter it a (i + 1) ∧ h.IsTuple a its.toArray) ∧ T ≠ e ∧ T ≠ it) := by
  obtain ⟨its, rv, p, _⟩ := I.tuple (show SqT X.K H a xs from .inl hq)
  have un : ∀ b ∈ [e, it], b ≠ a := fun b hb z => by
    have n := (hf b hb).1
    rcases hq with hq | ⟨o, hq⟩ <;> (rw [z, hq] at n; cases n)
  refine ⟨its, rv, p, WalksT.enumerateD (Draws.tuple (A := X.A.in1) (I.ok.hd hc) it a (Ne.symm (un it (by simp))) its.toArray) e hne ?_ (by simp)⟩
  intro z
  rcases List.mem_cons.mp z with z | z
  · exact hne z
  · exact un e (by simp) (List.mem_singleton.mp z)
end
theorem en_turn {P : Program} {w : World} {K : PySem.W.Frag} {elts : List Expr} {kk : Nat} {tpos : Pos} (a e it : Addr) : Turn P w K (.Tuple elts kk tpos) (ItEn a) [e, it] e (enAt a e it) := by
  refine ⟨by simp, fun i h st b hb => ?_, fun i h h' st k => ⟨?_, ?_, st.2.2⟩, ?_, ?_, fun A i s Q E st q => ?_⟩
  · rcases st with ⟨⟨old, en⟩, ⟨ob, there, _, dt⟩, _⟩
    rcases List.mem_cons.mp hb with z | z
    · subst z
      exact ⟨_, en, fun v q => by cases q⟩
    · rw [List.mem_singleton.mp z]
      exact ⟨ob, there, fun v q => by rw [dt] at q; cases q⟩
  · exact st.1.imp fun old en => k e (by simp) _ en
  · exact st.2.1.at fun ob z => k it (by simp) ob z
  · intro X eP eW eK hc i pins s σ H E I hf st go
    subst eP eW eK
    obtain ⟨xs, x, hq, hx⟩ := go
    obtain ⟨its, rv, isT, W⟩ := en_walk hc I hf st.2.2 hq
    obtain ⟨u, hu, ru⟩ := rv.get hx
    have lt : i < its.toArray.size := by simpa using (List.getElem?_eq_some_iff.mp hu).1
    refine W.item i s _ E lt ⟨st.1, st.2.1, isT⟩ fun T vals h1 tk pt big hT mid keep1 => ⟨_, rfl, ?_⟩
    obtain ⟨t, y, hy, rfl⟩ := pt
    obtain rfl : y = u := by
      have hu' : its.toArray[i]? = some u := by simpa using hu
      exact Option.some.inj (hy.symm.trans hu')
    refine W.go elts kk tpos i T { s with heap := h1, toks := tk } _ E mid fun h2 st2 keep2 => ?_
    have nT : T ∉ [e, it] := W.apart i T h1 mid
    have hT2 : h2.IsTuple T #[.int (i : Nat) t, y] := hT.at fun ob z => keep2 T ob nT z
    have J : Inv X pins σ (upd H T (.tup [.int (i : Nat), x])) { s with heap := h2, toks := tk } :=
      I.turnedNew (ch := [e, it]) (fun b ob hb z => keep2 b ob hb (keep1 b ob hb z)) hf big ⟨by show 2 ≤ sizeLine; decide, [.int i t, y], .cons ⟨_, rfl⟩ (.cons ru .nil), hT2⟩
    refine ⟨.ref T, _, J, rfl, ⟨T, x, rfl, I.hok.fresh big, rfl, fun ys hy => by rw [I.tuple_inj (show SqT _ H a ys from .inl hy) (show SqT _ H a xs from .inl hq)]; exact hx⟩, ⟨st2.1, st2.2.1, st.2.2⟩, fun b hb => ?_⟩
    have nb : b ≠ T := fun z => nT (by rw [← z]; exact hb)
    rw [upd_ne nb]
    exact (hf b hb).1
  · intro X eP eW eK hc i pins s σ H E I hf st stop
    subst eP eW eK
    obtain ⟨xs, hq, hl⟩ := stop
    obtain ⟨its, rv, isT, W⟩ := en_walk hc I hf st.2.2 hq
    have ei : its.toArray.size = i := by
      rw [← hl, rv.length]
      simp
    refine W.done s _ E ?_ fun h1 tk keep => ⟨rfl, ?_⟩
    · rw [ei]
      exact ⟨st.1, st.2.1, isT⟩
    · exact I.turnedL (ch := [e, it]) keep hf
  · exact wpAny_pyIter_enum st.1.choose_spec q
def iEn (ta : TA) : TI := fun σ H R => ta σ H fun vs H1 => ∃ (a : Addr) (xs : List V), vs = [.ref a] ∧ Rd H1 a (.tup xs) ∧ R (ItEn a) H1
/-- for .., .. in enumerate(a tuple) -/
theorem pi_en {X : Cx} {e : Expr} {ta : TA} {p pos tpos : Pos} {elts : List Expr} {kk : Nat} (hg : Gl X "enumerate") (hm : X.mg "enumerate" = none) (ha : PA X [e] ta) (hs : starEach [e] X.env = [(false, eval e X.env)] := by rfl) :
    PI X (.Tuple elts kk tpos) (.Call (.Name "enumerate" p) [e] [] pos) (iEn ta) := by
  constructor
  intro pins s σ H R I h
  refine Call_ (ld_blt I hg hm boot_enumerate (PyProof.Rows.callWith_type1 (thn (ha.run pos pins s σ H _ I h) ?_) hs rfl))
  rintro us s1 ⟨vs, H1, I1, r, a, xs, rfl, hq, q⟩
  match us, r with
  | [u], .cons ru .nil =>
    obtain rfl : u = Value.ref a := ru
    obtain ⟨its, rv, isT, _⟩ := I1.tuple (show SqT X.K H1 a xs from .inl hq)
    refine call_en isT fun h1 en ti keep => wpAny_pyIter_enum en ?_
    refine ⟨_, [s1.heap.objs.size + 1, s1.heap.objs.size], _, _, H1, rfl, I1.kept (t' := s1.toks) keep, en_turn a _ _, ⟨⟨.none, en⟩, ti, Nat.succ_ne_self _⟩, fun b hb => ?_, q⟩
    have big : s1.heap.objs.size ≤ b := by
      rcases List.mem_cons.mp hb with z | z
      · rw [z]; exact Nat.le_succ _
      · rw [List.mem_singleton.mp z]; exact Nat.le_refl _
    exact I1.fpOk big (I1.hok.fresh big)
/-- the loop by an invariant of its own -/
theorem for_en {a : Addr} {xs : List V} {g : TG} {tb : TS} {D : Ends} {σ : L2.St} {H : Hp} (Pv : Nat → L2.St → Hp → Prop) (h0 : Pv 0 σ H) (hl : ∀ i σ H, Pv i σ H → Rd H a (.tup xs))
    (hs : ∀ (i : Nat) x σ H p, xs[i]? = some x → Pv i σ H → H p = Option.none → g (.ref p) σ (upd H p (.tup [.int (i : Nat), x])) fun σ2 H2 => tb { D with nx := Pv (i + 1), ct := Pv (i + 1), bk := D.nx } σ2 H2) (hd : ∀ σ H, Pv xs.length σ H → D.nx σ H) :
    ∃ W : Nat → Nat → L2.St → Hp → Prop, (∃ m, W 0 m σ H) ∧ ∀ i m σ H, W i m σ H → ((ItEn a).stop i H ∧ D.nx σ H) ∨ ((ItEn a).go i H ∧ ∃ N : L2.St → Hp → Prop, (∀ σ' H', N σ' H' → ∃ m', m' < m ∧ W (i + 1) m' σ' H') ∧ ∀ x H', (ItEn a).yld i H x H' → g x σ H' fun σ2 H2 => tb { D with nx := N, ct := N, bk := D.nx } σ2 H2) := by
  refine ⟨fun i m σ H => i + m = xs.length ∧ Pv i σ H, ⟨_, Nat.zero_add _, h0⟩, ?_⟩
  intro i m σ H ⟨em, p⟩
  have q := hl i σ H p
  cases m with
  | zero =>
    have ei : i = xs.length := em
    rw [ei] at p ⊢
    exact .inl ⟨⟨xs, q, rfl⟩, hd σ H p⟩
  | succ m =>
    have lt : i < xs.length := by omega
    have hx : xs[i]? = some xs[i] := List.getElem?_eq_getElem lt
    refine .inr ⟨⟨xs, _, q, hx⟩, Pv (i + 1), fun σ' H' p' => ⟨m, Nat.lt_succ_self m, by omega, p'⟩, ?_⟩
    rintro y H' ⟨t, x, rfl, nt, rfl, hy⟩
    obtain rfl : x = xs[i] := Option.some.inj ((hy xs q).symm.trans hx)
    exact hs i _ σ H t hx p nt
end O42

set_option Elab.async false
set_option linter.all false
set_option maxRecDepth 100000
set_option maxHeartbeats 4000000
set_option pp.maxSteps 60
namespace O42
open PySem L2
/-- what is tracked but for the bag -/
def Off (a c : Addr) (H : Hp) : Hp := fun b => if b = a ∨ b = c then none else H b
theorem off_at {a c b : Addr} {H : Hp} {o : HO} (h : b ≠ a ∧ b ≠ c) (e : H b = some o) : Off a c H b = some o := by
  unfold Off
  rw [if_neg (fun z => z.elim h.1 h.2)]
  exact e
theorem off_some {a c b : Addr} {H : Hp} {o : HO} (h : Off a c H b = some o) : b ≠ a ∧ b ≠ c ∧ H b = some o := by
  unfold Off at h
  by_cases e : b = a ∨ b = c
  · rw [if_pos e] at h; cases h
  · rw [if_neg e] at h; exact ⟨fun z => e (.inl z), fun z => e (.inr z), h⟩
theorem Go.off {a c : Addr} {H H' : Hp} (g : Go a c H H') : Ext (Off a c H) (Off a c H') := fun b o h => by
  obtain ⟨n, m, e⟩ := off_some h
  exact off_at ⟨n, m⟩ (g.2 b o n m e)
theorem off_le {a c : Addr} {H : Hp} : Ext (Off a c H) H := fun b o h => (off_some h).2.2
theorem off_tup {a c q : Addr} {H : Hp} {xs : List V} (p : BagAt H a c) (h : H q = some (.tup xs)) : (Off a c H) q = some (.tup xs) := off_at (bag_no p h fun _ z => nomatch z) h
/-! ### kinds of things -/
section
variable {K : PySem.W.Frag} {S : Hp} {n : Nat}
theorem Th.plain {x : V} {t : Value} (ty : TyX K S x t) (h1 : PySem.W.kitOne K t (.type "int") = some (isI x || isB x)) (h2 : PySem.W.kitOne K t (.type "bool") = some (isB x)) (h3 : PySem.W.kitOne K t (.type "tuple") = some false)
    (h : ∀ a, x = .ref a → ∃ o, S a = some o ∧ ∀ xs, o ≠ .tup xs) : Th K S n x := by
  unfold Th
  exact ⟨t, ty, h1, h2, .inl ⟨h3, h⟩⟩
theorem Th.non : Th K S n .non := Th.plain (.base .non) (kit_ty (by decide +kernel)) (kit_ty (by decide +kernel)) (kit_ty (by decide +kernel)) fun _ h => nomatch h
theorem Th.bl (b : Bool) : Th K S n (.bl b) := Th.plain (.base (.bl b)) (kit_ty (show kitB "bool" "int" = some true by decide +kernel)) (kit_ty (show kitB "bool" "bool" = some true by decide +kernel)) (kit_ty (by decide +kernel)) fun _ h => nomatch h
theorem Th.int (i : Int) : Th K S n (.int i) := Th.plain (.base (.int i)) (kit_ty (show kitB "int" "int" = some true by decide +kernel)) (kit_ty (show kitB "int" "bool" = some false by decide +kernel)) (kit_ty (by decide +kernel)) fun _ h => nomatch h
theorem Th.str (z : Str) : Th K S n (.str z) := Th.plain (.base (.str z)) (kit_ty (show kitB "str" "int" = some false by decide +kernel)) (kit_ty (show kitB "str" "bool" = some false by decide +kernel)) (kit_ty (by decide +kernel)) fun _ h => nomatch h
theorem Th.lst {p : Addr} {xs : List V} (h : S p = some (.lst xs)) : Th K S n (.ref p) :=
  Th.plain (.base (.lst h)) (kit_ty (show kitB "list" "int" = some false by decide +kernel)) (kit_ty (show kitB "list" "bool" = some false by decide +kernel)) (kit_ty (by decide +kernel)) fun a e => by cases e; exact ⟨_, h, fun _ z => nomatch z⟩
theorem Th.dct {p : Addr} {kvs : List (Key × V)} (h : S p = some (.dK kvs)) : Th K S n (.ref p) :=
  Th.plain (.base (.dK h)) (kit_ty (show kitB "dict" "int" = some false by decide +kernel)) (kit_ty (show kitB "dict" "bool" = some false by decide +kernel)) (kit_ty (by decide +kernel)) fun a e => by cases e; exact ⟨_, h, fun _ z => nomatch z⟩
theorem Th.tup {p : Addr} {xs : List V} (h : S p = some (.tup xs)) (it : ∀ y ∈ xs, Th K S n y) : Th K S (n + 1) (.ref p) := by
  unfold Th
  exact ⟨_, .base (.tup h), kit_ty (show kitB "tuple" "int" = some false by decide +kernel), kit_ty (show kitB "tuple" "bool" = some false by decide +kernel), .inr ⟨kit_ty (by decide +kernel), p, xs, rfl, h, it⟩⟩
end
theorem Th.tup0 {K : PySem.W.Frag} {S : Hp} {p : Addr} {xs : List V} (h : S p = some (.tup xs)) : Th K S 0 (.ref p) := by
  unfold Th
  exact ⟨_, .base (.tup h), kit_ty (show kitB "tuple" "int" = some false by decide +kernel), kit_ty (show kitB "tuple" "bool" = some false by decide +kernel), .inr ⟨kit_ty (by decide +kernel), p, xs, rfl, h, True.intro⟩⟩
theorem eqv_ints : ∀ l k : List Int, PyData.eqvAll (l.map .int) (k.map .int) = decide (l = k)
  | [], [] => by simp [PyData.eqvAll]
  | [], y :: k => by simp [PyData.eqvAll]
  | x :: l, [] => by simp [PyData.eqvAll]
  | x :: l, y :: k => by
    have ih := eqv_ints l k
    simp only [List.map_cons, PyData.eqvAll, PyData.eqv, ih]
    by_cases h : x = y <;> by_cases g : l = k <;> simp [h, g]
def dT (ll : List (List Int)) : PyData := .tuple (ll.map fun l => .tuple (l.map .int))
theorem eqv_lists : ∀ l k : List (List Int), PyData.eqvAll (l.map fun l => .tuple (l.map .int)) (k.map fun l => .tuple (l.map .int)) = decide (l = k)
  | [], [] => by simp [PyData.eqvAll]
  | [], y :: k => by simp [PyData.eqvAll]
  | x :: l, [] => by simp [PyData.eqvAll]
  | x :: l, y :: k => by
    have ih := eqv_lists l k
    simp only [List.map_cons, PyData.eqvAll, PyData.eqv, ih, eqv_ints]
    by_cases h : x = y <;> by_cases g : l = k <;> simp [h, g]
theorem eqv_dT (l k : List (List Int)) : PyData.eqv (dT l) (dT k) = decide (l = k) := by
  show PyData.eqvAll _ _ = _
  exact eqv_lists l k
theorem lay_ints : ∀ l : List Int, PyData.canLayAll0 (l.map .int) = true ∧ PyData.depthAll (l.map .int) = 0
  | [] => ⟨by simp [PyData.canLayAll0], by simp [PyData.depthAll]⟩
  | x :: l => by
    obtain ⟨h, g⟩ := lay_ints l
    exact ⟨by simp [PyData.canLayAll0, PyData.canLay0, h], by simp [PyData.depthAll, PyData.depth, g]⟩
theorem lay_lists : ∀ l : List (List Int), PyData.canLayAll0 (l.map fun l => .tuple (l.map .int)) = true ∧ PyData.depthAll (l.map fun l => .tuple (l.map .int)) ≤ 1
  | [] => ⟨by simp [PyData.canLayAll0], by simp [PyData.depthAll]⟩
  | x :: l => by
    obtain ⟨h, g⟩ := lay_lists l
    obtain ⟨h1, g1⟩ := lay_ints x
    refine ⟨by simp [PyData.canLayAll0, PyData.canLay0, h, h1], ?_⟩
    simp only [List.map_cons, PyData.depthAll, PyData.depth, g1]
    omega
theorem shaped_dT (l : List (List Int)) : SeqAt.shaped (dT l) = true := by
  obtain ⟨h, g⟩ := lay_lists l
  refine Bool.and_eq_true_iff.mpr ⟨by unfold dT; rw [PyData.canLay0]; exact h, decide_eq_true ?_⟩
  unfold dT
  rw [PyData.depth]
  exact Nat.le_trans (Nat.succ_le_succ g) (by decide)
/-- a tuple of tuples of ints stands at b -/
def TT (H : Hp) (b : Addr) (ll : List (List Int)) : Prop := ∃ as : List Addr, H b = some (.tup (as.map V.ref)) ∧ Paired (fun a l => H a = some (.tup (l.map V.int))) as ll
theorem Paired.imp' {α β : Type} {F G : α → β → Prop} (h : ∀ a b, F a b → G a b) : ∀ {l : List α} {k : List β}, Paired F l k → Paired G l k
  | _, _, .nil => .nil
  | _, _, .cons a r => .cons (h _ _ a) (Paired.imp' h r)
theorem TT.ext {H H' : Hp} {b : Addr} {ll : List (List Int)} (e : Ext H H') (h : TT H b ll) : TT H' b ll := by
  obtain ⟨as, h1, h2⟩ := h
  exact ⟨as, e _ _ h1, Paired.imp' (fun a l h => e _ _ h) h2⟩
theorem dp_ints {K : PySem.W.Frag} {H : Hp} : ∀ l : List Int, DpAll K H (l.map V.int) (l.map .int)
  | [] => .nil
  | x :: l => .cons (.int x) (dp_ints l)
theorem dp_lists {K : PySem.W.Frag} {H : Hp} : ∀ {as : List Addr} {ll : List (List Int)}, Paired (fun a l => H a = some (.tup (l.map V.int))) as ll → DpAll K H (as.map V.ref) (ll.map fun l => .tuple (l.map .int))
  | _, _, .nil => .nil
  | _, _, .cons h r => .cons (.tup (SqT.of h) (dp_ints _)) (dp_lists r)
theorem TT.dp {K : PySem.W.Frag} {H : Hp} {b : Addr} {ll : List (List Int)} (h : TT H b ll) : Dp K H (.ref b) (dT ll) := by
  obtain ⟨as, h1, h2⟩ := h
  exact .tup (SqT.of h1) (dp_lists h2)
/-- the tuples at these places are these -/
abbrev PT2 (S : Hp) (as : List Addr) (ll : List (List Int)) : Prop := Paired (fun a l => S a = some (.tup (l.map V.int))) as ll
theorem PT2.len {S : Hp} : ∀ {as : List Addr} {ll : List (List Int)}, PT2 S as ll → as.length = ll.length
  | _, _, .nil => rfl
  | _, _, .cons _ r => congrArg (· + 1) (PT2.len r)
theorem PT2.get {S : Hp} : ∀ {as : List Addr} {ll : List (List Int)} {i : Nat} {a : Addr}, PT2 S as ll → as[i]? = some a → ∃ l, ll[i]? = some l ∧ S a = some (.tup (l.map V.int))
  | _, _, i, _, .nil, h => by simp at h
  | _, _, 0, _, .cons x _, h => by cases h; exact ⟨_, rfl, x⟩
  | _, _, i + 1, _, .cons _ r, h => PT2.get (i := i) r (by simpa using h)
theorem PT2.put {S : Hp} {b : Addr} {l : List Int} (h : S b = some (.tup (l.map V.int))) : ∀ {as : List Addr} {ll : List (List Int)} {i : Nat}, PT2 S as ll → PT2 S (as.set i b) (ll.set i l)
  | _, _, i, .nil => by simpa using (Paired.nil)
  | _, _, 0, .cons _ r => .cons h r
  | _, _, i + 1, .cons x r => .cons x (PT2.put h r)
theorem PT2.snoc {S : Hp} {b : Addr} {l : List Int} {as : List Addr} {ll : List (List Int)} (r : PT2 S as ll) (h : S b = some (.tup (l.map V.int))) : PT2 S (as ++ [b]) (ll ++ [l]) := Paired.snoc r h
theorem PT2.mono {S S' : Hp} {as : List Addr} {ll : List (List Int)} (e : ∀ b xs, S b = some (.tup xs) → S' b = some (.tup xs)) (r : PT2 S as ll) : PT2 S' as ll := Paired.imp' (fun a l h => e _ _ h) r
theorem PT2.th {K : PySem.W.Frag} {S : Hp} {n : Nat} {as : List Addr} {ll : List (List Int)} (r : PT2 S as ll) : ∀ y ∈ as.map V.ref, Th K S (n + 1) y := by
  intro y hy
  obtain ⟨a, ha, rfl⟩ := List.mem_map.mp hy
  obtain ⟨i, hi⟩ := List.mem_iff_getElem?.mp ha
  obtain ⟨l, _, h⟩ := r.get hi
  refine Th.tup h fun z hz => ?_
  obtain ⟨k, _, rfl⟩ := List.mem_map.mp hz
  exact Th.int k
/-- two tuples put together, whichever object that is -/
theorem cat_any {K : PySem.W.Frag} {H : Hp} {Q : VK} {a b : Addr} {xs ys : List V} (ha : H a = some (.tup xs)) (hb : H b = some (.tup ys)) (len : xs.length + ys.length ≤ 1000) (k : ∀ (p : Addr) (H' : Hp), Ext H H' → H' p = some (.tup (xs ++ ys)) → Q (.ref p) H') : rCatA K (.ref a) (.ref b) H Q :=
  ⟨a, b, xs, ys, rfl, rfl, SqT.of ha, SqT.of hb, Nat.le_trans len (by decide), fun e => by subst e; exact k b H Ext.rfl' hb, fun _ e => by subst e; exact k a H Ext.rfl' (by rw [List.append_nil]; exact ha), fun _ _ p np => k p _ (Ext.upd np) upd_same⟩
theorem sl_any {K : PySem.W.Frag} {H : Hp} {Q : VK} {a : Addr} {xs : List V} {lo hi : Option Int} (ha : H a = some (.tup xs)) (k : ∀ (p : Addr) (H' : Hp), Ext H H' → H' p = some (.tup (cutV xs lo hi)) → Q (.ref p) H') : rSlA K (.ref a) lo hi H Q := by
  refine ⟨a, xs, rfl, SqT.of ha, fun z => k a H Ext.rfl' ?_, fun _ p np => k p _ (Ext.upd np) upd_same⟩
  unfold cutV
  rw [z.1, z.2, List.drop_zero, Nat.sub_zero, List.take_of_length_le (Nat.le_refl _)]
  exact ha
theorem cut_mem {xs : List V} {lo hi : Option Int} {y : V} (h : y ∈ cutV xs lo hi) : y ∈ xs := List.mem_of_mem_drop (List.mem_of_mem_take h)
theorem Th.tup_back {K : PySem.W.Frag} {H H1 : Hp} {n : Nat} {b : Addr} {xs : List V} (e : Ext H H1) (h : Th K H n (.ref b)) (h1 : H1 b = some (.tup xs)) : H b = some (.tup xs) := by
  unfold Th at h
  obtain ⟨t, _, _, _, h⟩ := h
  rcases h with ⟨_, h⟩ | ⟨_, b', ys, e', hb, _⟩
  · obtain ⟨o, ho, no⟩ := h b rfl
    rw [e _ _ ho] at h1
    cases h1
    exact absurd rfl (no xs)
  · cases e'
    have := (e _ _ hb).symm.trans h1
    cases this
    exact hb
theorem lst_ne {H : Hp} {f b : Addr} {xs ys : List V} (hf : H f = some (.lst xs)) (hb : H b = some (.tup ys)) : b ≠ f := fun e => by
  rw [e, hf] at hb
  cases hb
theorem int_inj : ∀ {ns ks : List Int}, ns.map V.int = ks.map V.int → ns = ks
  | [], [], _ => rfl
  | n :: ns, k :: ks, h => by
    injection h with h1 h2
    injection h1 with h1
    rw [h1, int_inj h2]
  | [], k :: ks, h => by cases h
  | n :: ns, [], h => by cases h
end O42

set_option Elab.async false
set_option linter.all false
set_option maxRecDepth 100000
set_option maxHeartbeats 4000000
set_option pp.maxSteps 60
/-! Cells and their faces. -/
namespace O42
open PySem L2
abbrev sAsc : Stmt := top 6
abbrev sCell : Stmt := top 53
abbrev sFaces : Stmt := top 54
abbrev sLFaces : Stmt := top 63
/-! ### in, of a tuple through and through -/
def rInT (K : PySem.W.Frag) : R2 := fun x y H Q => ∃ d ds, Dp K H x d ∧ Dp K H y (.tuple ds) ∧ SeqAt.shaped d = true ∧ SeqAt.shaped (.tuple ds) = true ∧ Q (.bl (ds.any fun z => PyData.eqv z d)) H
theorem op_inT {X : Cx} (hu : X.A.units + 65 < cLine) : OpR X (compareOp .In) (rInT X.K) := by
  rintro pins s σ H x y v u Q I rx ry ⟨d, ds, hd, he, sd, se, q⟩
  obtain ⟨as, r1⟩ := Dp.reads I d x v hd rx
  obtain ⟨bs, r2⟩ := Dp.reads I (.tuple ds) y u he ry
  exact SeqAt.in_tuple_reads r2 r1 (SeqAt.canLay_of_shaped se) (SeqAt.canLay_of_shaped sd) (PyProof.Rows.room_in_shaped sd hu) ⟨.bl _, H, I, rfl, q⟩
def tI (l : List Int) : PyData := .tuple (l.map .int)
theorem shaped_tI (l : List Int) : SeqAt.shaped (tI l) = true := by
  obtain ⟨h, g⟩ := lay_ints l
  unfold tI
  refine Bool.and_eq_true_iff.mpr ⟨by rw [PyData.canLay0]; exact h, decide_eq_true ?_⟩
  rw [PyData.depth, g]
  decide
theorem shaped_dL (l : List (List Int)) : SeqAt.shaped (.list (l.map tI)) = true := by
  obtain ⟨h, g⟩ := lay_lists l
  refine Bool.and_eq_true_iff.mpr ⟨by rw [PyData.canLay0]; exact h, decide_eq_true ?_⟩
  rw [PyData.depth]
  exact Nat.le_trans (Nat.succ_le_succ g) (by decide)
theorem eqv_tI (l k : List Int) : PyData.eqv (tI l) (tI k) = decide (l = k) := by
  unfold tI
  rw [PyData.eqv]
  exact eqv_ints l k
theorem any_tI (ll : List (List Int)) (l : List Int) : ((ll.map tI).any fun z => PyData.eqv z (tI l)) = decide (l ∈ ll) := by
  induction ll with
  | nil => simp
  | cons k ll ih =>
    rw [List.map_cons, List.any_cons, ih, eqv_tI]
    by_cases h : k = l
    · simp [h]
    · have h' : ¬ l = k := fun e => h e.symm
      simp [h, h']
theorem dp_tI {K : PySem.W.Frag} {H : Hp} {c : Addr} {l : List Int} (h : H c = some (.tup (l.map V.int))) : Dp K H (.ref c) (tI l) := .tup (SqT.of h) (dp_ints l)
theorem dp_lst {K : PySem.W.Frag} {H : Hp} {c : Addr} {as : List Addr} {ll : List (List Int)} (h : H c = some (.lst (as.map V.ref))) (pt : PT2 H as ll) : Dp K H (.ref c) (.list (ll.map tI)) := .lst (SqL.of h) (dp_lists pt)
/-- a cell in a tuple of cells, in a list of cells -/
theorem in_T {K : PySem.W.Frag} {H : Hp} {c q : Addr} {l : List Int} {ll : List (List Int)} {Q : VK} (h : H c = some (.tup (l.map V.int))) (tt : TT H q ll) (k : Q (.bl (decide (l ∈ ll))) H) : rInT K (.ref c) (.ref q) H Q :=
  ⟨tI l, ll.map tI, dp_tI h, tt.dp, shaped_tI l, shaped_dT ll, by rw [any_tI]; exact k⟩
theorem in_L {K : PySem.W.Frag} {H : Hp} {c q : Addr} {l : List Int} {as : List Addr} {ll : List (List Int)} {Q : VK} (h : H c = some (.tup (l.map V.int))) (hq : H q = some (.lst (as.map V.ref))) (pt : PT2 H as ll) (k : Q (.bl (decide (l ∈ ll))) H) : rInD K (.ref c) (.ref q) H Q :=
  ⟨tI l, ll.map tI, dp_tI h, dp_lst hq pt, shaped_tI l, shaped_dL ll, by rw [any_tI]; exact k⟩
theorem notin_L {K : PySem.W.Frag} {H : Hp} {c q : Addr} {l : List Int} {as : List Addr} {ll : List (List Int)} {Q : VK} (h : H c = some (.tup (l.map V.int))) (hq : H q = some (.lst (as.map V.ref))) (pt : PT2 H as ll) (k : Q (.bl (!decide (l ∈ ll))) H) : rNotInD K (.ref c) (.ref q) H Q :=
  ⟨tI l, ll.map tI, dp_tI h, dp_lst hq pt, shaped_tI l, shaped_dL ll, by rw [any_tI]; exact k⟩
/-! ### what a cell is -/
def CellL (ns : List Int) : Prop := 1 ≤ ns.length ∧ ns.length ≤ 4 ∧ (∀ n ∈ ns, 0 ≤ n ∧ n ≤ 29) ∧ ns.Pairwise (· < ·)
def Low (ns : List Int) : Prop := (∀ n ∈ ns, 0 ≤ n ∧ n ≤ 29) ∧ ns.Pairwise (· < ·)
def isCell (H : Hp) (x : V) : Prop := ∃ (c : Addr) (ns : List Int), x = .ref c ∧ H c = some (.tup (ns.map V.int)) ∧ CellL ns
def isLow (H : Hp) (x : V) : Prop := ∃ (c : Addr) (ns : List Int), x = .ref c ∧ H c = some (.tup (ns.map V.int)) ∧ Low ns
theorem isCell.ext {H H' : Hp} {x : V} (e : Ext H H') (h : isCell H x) : isCell H' x := by
  obtain ⟨c, ns, ex, hc, r⟩ := h
  exact ⟨c, ns, ex, e _ _ hc, r⟩
theorem isCell.back {K : PySem.W.Frag} {H H1 : Hp} {n : Nat} {x : V} (e : Ext H H1) (h : Th K H n x) (h1 : isCell H1 x) : isCell H x := by
  obtain ⟨c, ns, rfl, hc, r⟩ := h1
  exact ⟨c, ns, rfl, h.tup_back e hc, r⟩
/-- tuples are not too long -/
def Sm (H : Hp) (x : V) : Prop := ∀ (c : Addr) (xs : List V), x = .ref c → H c = some (.tup xs) → xs.length ≤ 1000
theorem Sm.ext {K : PySem.W.Frag} {H H' : Hp} {n : Nat} {x : V} (e : Ext H H') (h : Th K H n x) (s : Sm H x) : Sm H' x := fun c xs ex hc => by
  subst ex
  exact s c xs rfl (h.tup_back e hc)
theorem adj_pairwise : ∀ (ns : List Int), (∀ p ∈ ns.zip ns.tail, p.1 < p.2) ↔ ns.Pairwise (· < ·)
  | [] => by simp
  | [n] => by simp
  | n :: m :: r => by
    have ih := adj_pairwise (m :: r)
    constructor
    · intro h
      have hm : n < m := h (n, m) (by simp)
      have hr := ih.mp fun p hp => h p (by
        show p ∈ (n, m) :: (m :: r).zip r
        exact List.mem_cons_of_mem _ hp)
      refine List.pairwise_cons.mpr ⟨fun a ha => ?_, hr⟩
      rcases List.mem_cons.mp ha with rfl | ha
      · exact hm
      · exact Int.lt_trans hm ((List.pairwise_cons.mp hr).1 a ha)
    · intro h p hp
      obtain ⟨h1, h2⟩ := List.pairwise_cons.mp h
      have hp' : p ∈ (n, m) :: (m :: r).zip r := hp
      rcases List.mem_cons.mp hp' with rfl | hp'
      · exact h1 m List.mem_cons_self
      · exact ih.mpr h2 p hp'
def facesL (ns : List Int) : List (List Int) := if ns.length = 1 then [] else (List.range ns.length).map fun i => ns.eraseIdx i
def allF (ns : List Int) : List (List Int) := (List.range ns.length).map fun i => ns.eraseIdx i
theorem allF_get {ns : List Int} {i : Nat} (h : i < ns.length) : (allF ns)[i]? = some (ns.eraseIdx i) := by
  unfold allF
  rw [List.getElem?_map, List.getElem?_range h]
  rfl
theorem cut_erase {ns : List Int} {i : Nat} (h : i < ns.length) : cutV (ns.map V.int) none (some (i : Int)) ++ cutV (ns.map V.int) (some ((i : Int) + 1)) none = (ns.eraseIdx i).map V.int := by
  have e1 : HT.sIx (ns.map V.int).length (ns.map V.int).length (some (i : Int)) = i := by
    rw [HT.sIx_nat, List.length_map]
    omega
  have e2 : HT.sIx (ns.map V.int).length 0 (some ((i : Int) + 1)) = i + 1 := by
    rw [show ((i : Int) + 1) = ((i + 1 : Nat) : Int) by omega, HT.sIx_nat, List.length_map]
    omega
  unfold cutV
  rw [e1, e2, HT.sIx_none, HT.sIx_none, List.drop_zero, Nat.sub_zero, List.eraseIdx_eq_take_drop_succ, List.map_append, List.map_take, List.map_drop, List.take_of_length_le (l := (ns.map V.int).drop (i + 1))]
  rw [List.length_drop]
  exact Nat.le_refl _
/-- zip of a tuple and a shorter one -/
theorem lc_zipM {K : PySem.W.Frag} {a b : Addr} {xs ys : List V} {g : TG} {tt : L2.TT} {te : TE} {vs : List Nat} {τ : L2.St} {H1 : Hp} {D : Addr} {Qd : Hp → Prop} (len : ys.length ≤ xs.length) (Pv : Nat → Hp → Prop) (h0 : Pv 0 (upd H1 D (.lst [])))
    (hq : ∀ i H, Pv i H → SqT K H a xs ∧ SqT K H b ys)
    (hs : ∀ i x y t H, xs[i]? = some x → ys[i]? = some y → Pv i H → H t = none → g (.ref t) (wipe τ vs) (upd H t (.tup [x, y])) fun σ2 H2 => wipe σ2 vs = wipe τ vs ∧ tt σ2 H2 fun c H3 =>
      if c = true then te σ2 H3 fun z H4 => ∃ acc, H4 D = some (.lst acc) ∧ acc.length < sizeLine ∧ Pv (i + 1) (upd H4 D (.lst (acc ++ [z]))) else Pv (i + 1) H3) (hd : ∀ H, Pv ys.length H → Qd H) :
    ∃ W : Nat → Nat → Hp → Prop, (∃ m, W 0 m (upd H1 D (.lst []))) ∧ ∀ i m H, W i m H →
      ((RZ.ItzT K a b).stop i H ∧ Qd H) ∨ ((RZ.ItzT K a b).go i H ∧ ∃ Nx : Hp → Prop, (∀ H', Nx H' → ∃ m', m' < m ∧ W (i + 1) m' H') ∧ ∀ x H', (RZ.ItzT K a b).yld i H x H' → g x (wipe τ vs) H' fun σ2 H2 => wipe σ2 vs = wipe τ vs ∧ tt σ2 H2 fun c H3 =>
        if c = true then te σ2 H3 fun z H4 => ∃ acc, H4 D = some (.lst acc) ∧ acc.length < sizeLine ∧ Nx (upd H4 D (.lst (acc ++ [z]))) else Nx H3) := by
  refine ⟨fun i m H => m + i = ys.length ∧ Pv i H, ⟨ys.length, rfl, h0⟩, ?_⟩
  rintro i m H ⟨em, p⟩
  obtain ⟨qa, qb⟩ := hq i H p
  cases m with
  | zero =>
    have e : i = ys.length := by omega
    subst e
    exact .inl ⟨⟨xs, ys, qa, qb, .inr (Nat.le_refl _)⟩, hd H p⟩
  | succ k =>
    have lb : i < ys.length := by omega
    have la : i < xs.length := by omega
    have ea : xs[i]? = some xs[i] := List.getElem?_eq_getElem la
    have eb : ys[i]? = some ys[i] := List.getElem?_eq_getElem lb
    refine .inr ⟨⟨xs, ys, _, _, qa, qb, ea, eb⟩, Pv (i + 1), fun H' p' => ⟨k, Nat.lt_succ_self k, by omega, p'⟩, fun v H' y => ?_⟩
    obtain ⟨t, x', y', rfl, nt, rfl, f1, f2⟩ := y
    exact hs i x' y' t H (f1 xs qa) (f2 ys qb) p nt
theorem low_ints : ∀ {xs : List V}, (∀ y ∈ xs, numV 29 y = true) → ∃ ns : List Int, xs = ns.map V.int ∧ ∀ n ∈ ns, 0 ≤ n ∧ n ≤ 29
  | [], _ => ⟨[], rfl, fun n h => by cases h⟩
  | y :: ys, h => by
    obtain ⟨i, rfl, h1, h2⟩ := numV_true.mp (h y List.mem_cons_self)
    obtain ⟨ns, rfl, h3⟩ := low_ints (xs := ys) fun z hz => h z (List.mem_cons_of_mem _ hz)
    refine ⟨i :: ns, rfl, fun n hn => ?_⟩
    rcases List.mem_cons.mp hn with rfl | hn
    · exact ⟨h1, h2⟩
    · exact h3 n hn
theorem map_int_get {ns : List Int} {i : Nat} {x : V} (h : (ns.map V.int)[i]? = some x) : ∃ n, ns[i]? = some n ∧ x = .int n := by
  rw [List.getElem?_map] at h
  cases e : ns[i]? with
  | none => rw [e] at h; cases h
  | some n => rw [e] at h; cases h; exact ⟨n, rfl, rfl⟩
def spAsc (K : PySem.W.Frag) : Sp := fun vs H Q _ => ∃ x : V, vs = [.int 29, x] ∧ Th K H 1 x ∧ Sm H x ∧ ∀ (bb : Bool) (H' : Hp), (bb = true ↔ isLow H x) → Ext H H' → Q (.bl bb) H'
def spCell (K : PySem.W.Frag) : Sp := fun vs H Q _ => ∃ x : V, vs = [x] ∧ Th K H 1 x ∧ Sm H x ∧ ∀ (bb : Bool) (H' : Hp), (bb = true ↔ isCell H x) → Ext H H' → Q (.bl bb) H'
def spFaces : Sp := fun vs H Q _ => ∃ (c : Addr) (ns : List Int), vs = [.ref c] ∧ H c = some (.tup (ns.map V.int)) ∧ 1 ≤ ns.length ∧ ns.length ≤ 4 ∧ ∀ (f : Addr) (as : List Addr) (H' : Hp), Ext H H' → H' f = some (.lst (as.map V.ref)) → PT2 H' as (facesL ns) → Q (.ref f) H'
structure TowC (mg : Str → Option Value) : Prop where
  mc : ∃ t, mg "MOST_CELLS" = some (.int 40 t)
  mi : ∃ t, mg "MOST_IN_CELL" = some (.int 4 t)
  mn : ∃ t, mg "MOST_NAME" = some (.int 29 t)
  zip : mg "zip" = none
section
variable {P : Program} {w : World} {K : PySem.W.Frag} {mg : Str → Option Value} {base : Heap}
theorem scAsc : FnScope ["most", "thing", "item", "after"] ["most", "thing"] (defScope sAsc) := ⟨rfl, rfl, rfl, by decide +kernel, rfl, by decide +kernel, by decide +kernel⟩
theorem ok_asc {f : Addr} {fd : FuncData} (F : L2.Fun K "is_ascending" "is_ascending" sAsc f fd) (T : Gb mg) (M : TowC mg) (cN : Cal P w K mg base 2 "is_number" (spNumber K) []) : FnOk P w K mg base CX0 3 f fd ["most", "thing"] (spAsc K) := by
  refine F.ok scAsc (fun vs H Q E h => ?_) (fun cdv A outer s H vs Q E hr h => ?_)
  · obtain ⟨x, rfl, _⟩ := h
    rfl
  · obtain ⟨x, rfl, th, sm, k⟩ := h
    unfold Th at th
    obtain ⟨t, ty, ki, kb, kt⟩ := th
    refine ⟨_, pss_cons (ps_if (PW.pt (pw_or (pt_not (pt_val (pe_callB call_isi (by rfl) T.isi (by decide +kernel) (pa_cons (pv 1) (pa_cons (pe_bltn (v := .ty "tuple") (by rfl) T.tup (by decide +kernel) rfl) pa_nil)))))
        (pw_or1 (pt_not (pt_val (pe_callB (cr_all rfl) (by rfl) T.all (by decide +kernel) (pa_cons (pe_lc (own := [("item", 2)]) (g := gName 2) (tt := tYes) rfl scAsc.nd (pi_tup (pv 1)) (blkOk_by (N := ["most", "thing", "item", "after"]) (sc := defScope sAsc) (by decide +kernel)) (fun _ _ _ _ _ => pg_name (i := 2) scAsc.nd rfl (Or.inl rfl)) (fun _ _ _ _ _ => pts_nil)
            (fun _ _ _ _ _ => C8.pe_c cN hr (by decide) (by rfl) (pa_cons (pv 0) (pa_cons (pv 2) pa_nil)))) pa_nil))))))) (pss_one (ps_ret pe_bl)) pss_nil)
      (pss_one (ps_ret (pe_callB (cr_all rfl) (by rfl) T.all (by decide +kernel) (pa_cons (pe_lc (own := [("item", 2), ("after", 3)]) (g := gTup K 2 (gCons (gName 2) (gCons (gName 3) gNil))) (tt := tYes) rfl scAsc.nd (RZ.pi_zipA (by rfl) M.zip (pa_cons (pv 1) (pa_cons (pe_slice sl_tupA (pv 1) (po_some pe_int) po_none) pa_nil))) (blkOk_by (N := ["most", "thing", "item", "after"]) (sc := defScope sAsc) (by decide +kernel))
          (fun _ _ _ _ _ => pg_tup rfl (pgs_cons (pg_name (i := 2) scAsc.nd rfl (Or.inl rfl)) (pgs_cons (pg_name (i := 3) scAsc.nd rfl (Or.inl rfl)) pgs_nil))) (fun _ _ _ _ _ => pts_nil) (fun _ _ _ _ _ => pe_cmpR op_lt (pv 2) (pv 3) (nomark _))) pa_nil)))), ?_⟩
    rcases kt with ⟨kt, nt⟩ | ⟨kt, a, xs, rfl, ha, it⟩
    · refine ⟨_, rfl, x, .ty "tuple", t, .type "tuple", _, rfl, .ty _, ty, kt, _, rfl, ?_⟩
      refine iteT (iteT ?_)
      refine k false H ⟨fun z => Bool.noConfusion z, fun ⟨c, ns, e, hc, _⟩ => by obtain ⟨o, h1, h2⟩ := nt c e; rw [hc] at h1; cases h1; exact absurd rfl (h2 _)⟩ Ext.rfl'
    · refine ⟨_, rfl, _, .ty "tuple", t, .type "tuple", _, rfl, .ty _, ty, kt, _, rfl, ?_⟩
      have len := sm a xs rfl ha
      refine iteF ?_
      refine ⟨_, rfl, a, rfl, ⟨_, SqT.of ha⟩, fun D hD => ?_⟩
      have hda : a ≠ D := ne_of_none ha hD
      refine lc_tup (K := K) (a := a) (xs := xs) (fun i H' => H' = upd H D (.lst (((xs.take i).map (numV 29)).map V.bl))) (by simp) (fun i H' _ e => by subst e; exact SqT.of (by rw [upd_ne hda]; exact ha)) ?_ ?_
      · rintro i y H' hi rfl
        refine ⟨rfl, tyes_in ?_⟩
        have hy : y ∈ xs := List.mem_of_getElem? hi
        have it' : ∀ y ∈ xs, Th K H 0 y := it
        have ty0 : Th K (upd H D (.lst (((xs.take i).map (numV 29)).map V.bl))) 0 y := (it' y hy).ext (Ext.upd hD)
        refine ⟨_, rfl, _, rfl, 29, y, rfl, ty0, _, upd_same, small1000 (by simp; omega), ?_⟩
        rw [upd_upd, List.take_succ, hi]
        simp
      · rintro H' rfl
        rw [List.take_of_length_le (Nat.le_refl _)]
        have e1 : Ext H (upd H D (.lst ((xs.map (numV 29)).map V.bl))) := Ext.upd hD
        have hD1 : (upd H D (.lst ((xs.map (numV 29)).map V.bl))) D = some (.lst ((xs.map (numV 29)).map V.bl)) := upd_same
        generalize upd H D (.lst ((xs.map (numV 29)).map V.bl)) = H1 at *
        cases ball : (xs.map (numV 29)).all id with
        | false =>
          refine ⟨D, _, rfl, SqL.of hD1, false, congrArg V.bl ball, ?_⟩
          refine iteT ?_
          refine k false H1 ⟨fun z => Bool.noConfusion z, fun ⟨c, ns, e, hc, lo⟩ => ?_⟩ e1
          cases e
          rw [ha] at hc
          cases hc
          have : (List.map (numV 29) (List.map V.int ns)).all id = true := List.all_eq_true.mpr fun b hb => by
            obtain ⟨y, hy, rfl⟩ := List.mem_map.mp hb
            obtain ⟨n, hn, rfl⟩ := List.mem_map.mp hy
            exact numV_true.mpr ⟨n, rfl, (lo.1 n hn).1, (lo.1 n hn).2⟩
          rw [this] at ball
          cases ball
        | true =>
          refine ⟨D, _, rfl, SqL.of hD1, true, congrArg V.bl ball, ?_⟩
          refine iteF ?_
          obtain ⟨ns, rfl, low⟩ := low_ints fun y hy => List.all_eq_true.mp ball (numV 29 y) (List.mem_map_of_mem hy)
          refine ⟨_, rfl, _, rfl, 1, rfl, ?_⟩
          dsimp only [tNoPart]
          refine sl_any (K := K) (lo := some 1) (hi := none) (e1 _ _ ha) fun q H2 e3 hq => ?_
          have ct : cutV (ns.map V.int) (some 1) none = ns.tail.map V.int := by
            unfold cutV
            rw [show (1 : Int) = ((1 : Nat) : Int) from rfl, HT.sIx_nat, HT.sIx_none, List.take_of_length_le (by rw [List.length_drop]; exact Nat.le_refl _)]
            cases ns with
            | nil => rfl
            | cons n r =>
              rw [show min 1 (List.map V.int (n :: r)).length = 1 by simp]
              rfl
          rw [ct] at hq
          have ha2 := e3 _ _ (e1 _ _ ha)
          refine ⟨a, q, _, _, rfl, .inr ⟨SqT.of ha2, SqT.of hq, fun D2 nD2 => ?_⟩⟩
          refine lc_zipM (K := K) (a := a) (b := q) (xs := ns.map V.int) (ys := ns.tail.map V.int) (by rw [List.length_map, List.length_map, List.length_tail]; omega) (fun i H' => Ext H2 H' ∧ H' D2 = some (.lst ((((ns.zip ns.tail).take i).map fun p => decide (p.1 < p.2)).map V.bl))) ⟨Ext.upd nD2, upd_same⟩ (fun i H' z => ⟨SqT.of (z.1 _ _ ha2), SqT.of (z.1 _ _ hq)⟩) ?_ ?_
          · rintro i u v t' H' hu hv ⟨ex, hD2⟩ nt'
            obtain ⟨n, hn, rfl⟩ := map_int_get hu
            obtain ⟨m, hm, rfl⟩ := map_int_get hv
            refine ⟨t', _, rfl, SqT.of upd_same, rfl, _, _, rfl, _, _, rfl, rfl, rfl, tyes_in ?_⟩
            have hz : (ns.zip ns.tail)[i]? = some (n, m) := List.getElem?_zip_eq_some.mpr ⟨hn, hm⟩
            have li := (List.getElem?_eq_some_iff.mp hn).1
            rw [List.length_map] at len
            refine ⟨_, rfl, _, rfl, _, _, rfl, rfl, _, Ext.upd nt' _ _ hD2, small1000 (by rw [List.length_map, List.length_map, List.length_take]; omega), fun b' o eo => ?_, ?_⟩
            · rw [upd_ne (ne_of_none eo nD2)]
              exact Ext.upd nt' _ _ (ex _ _ eo)
            · rw [upd_same, List.take_succ, hz, List.map_append, List.map_append]
              rfl
          · rintro H' ⟨ex, hD2⟩
            have lz : (ns.zip ns.tail).length ≤ (ns.tail.map V.int).length := by rw [List.length_zip, List.length_map]; omega
            rw [List.take_of_length_le lz] at hD2
            refine ⟨D2, _, rfl, SqL.of hD2, ?_⟩
            refine k _ H' ?_ (e1.trans (e3.trans ex))
            constructor
            · intro z
              refine ⟨a, ns, rfl, ha, low, (adj_pairwise ns).mp fun p hp => ?_⟩
              have := List.all_eq_true.mp z (decide (p.1 < p.2)) (List.mem_map_of_mem hp)
              exact of_decide_eq_true this
            · rintro ⟨c, ms, e, hc, _, pw⟩
              cases e
              rw [ha] at hc
              injection hc with hc
              injection hc with hc
              rw [← int_inj hc] at pw
              refine List.all_eq_true.mpr fun bb hb => ?_
              obtain ⟨p, hp, rfl⟩ := List.mem_map.mp hb
              exact decide_eq_true ((adj_pairwise ns).mpr pw p hp)
end
end O42

set_option Elab.async false
set_option linter.all false
set_option maxRecDepth 100000
set_option maxHeartbeats 4000000
set_option pp.maxSteps 60
/-! Exceptions and equality of own classes. -/
namespace O42
open PySem L2
section
open PySem.Spec PyProof.Rows
structure ExIs (K : PySem.W.Frag) (C : Addr) : Prop where
  cls : (PySem.W.clsIn K C).isSome = true
  ga : PySem.W.findIn K (.ref C) "__getattribute__" = some (some (.builtin "BaseException.__getattribute__"))
  gt : PySem.W.findIn K (.ref C) "__getattr__" = some none
  sb : PySem.W.subIn K (.ref C) (.type "BaseException") = some true
  ha : PySem.W.findIn K (.ref C) "__class__" = some (some (.builtin "object.__class__"))
  hn : PySem.W.specialIn K (.builtin "object.__class__") "__get__" = some (some (.builtin "getset_descriptor.__get__"))
  ht : PySem.W.takesIn K (.builtin "object.__class__") = some true
  hm : PySem.W.mroIn K C (.type "object") = some true
variable {X : Cx} {pins : List (Addr × Obj)} {σ : L2.St} {H : Hp} {s : Shared} {a C : Addr} {fs : List (Str × V)}
/-- an exception made and kept -/
def tExv (C : Addr) (sp : Sp) (t : TA) : TE := fun σ H Q => t σ H fun vs H1 => vs.length ≤ 1000 ∧ ∀ a, H1 a = none → sp (.ref a :: vs) (upd H1 a (exo a C none)) (fun v H2 => v = .non ∧ Q (.ref a) H2) E0
variable {CX : CXT} {x : Str} {fI : Addr} {k : Nat} {fd : FuncData} {ps : List Str} {sp : Sp} {e : Expr} {es : List Expr} {ta : TA} {p pos : Pos}
theorem run_exv (T : OexC X.K C) (hi : PySem.W.findIn X.K (.ref C) "__init__" = some (some (.ref fI))) (ht : PySem.W.typeIn X.K (.ref fI) = some (.type "function"))
    (G : FnOk X.prog X.w X.K X.mg X.base CX k fI fd ps sp) (hr : Room (k + 1) X.A) (hb : Binds X.K fd ps []) (hx : Passes CX X E0) {vs : List V} {us : List Value} {H1 : Hp} {s1 : Shared} {Q : VK} (I1 : Inv X pins σ H1 s1) (r1 : Vals vs us) (hz : vs.length ≤ 1000)
    (q1 : ∀ a, H1 a = none → sp (.ref a :: vs) (upd H1 a (exo a C none)) (fun v H2 => v = .non ∧ Q (.ref a) H2) E0) : wpAny (model X.prog X.w) X.A (call (.ref C) us) (EP X pins σ Q) X.xe s1 := by
  obtain ⟨_, _, _, _, bm, _, _, _, _, _, _, _, _, _, _, inCls, mroOk⟩ := T.cls
  obtain ⟨h0, gs, dr, tk, os⟩ := s1
  let o := h0.objs.size + 1
  let h1 := (h0.push (PySem.W.kdv_tup us)).push (PySem.HandSPX.excO C h0.objs.size)
  have new : H1 o = none := I1.hok.fresh (Nat.le_succ _)
  have old : ∀ b u, h0.get? b = some u → h1.get? b = some u := fun b u q => Heap.get?_push_of_some _ (Heap.get?_push_of_some _ q)
  have there : h1.get? o = some (PySem.HandSPX.excO C h0.objs.size) := by
    show ((h0.push (PySem.W.kdv_tup us)).push (PySem.HandSPX.excO C h0.objs.size)).get? (h0.objs.size + 1) = _
    heap_get
  have J : Inv X pins σ (upd H1 o (exo o C none)) ⟨h1, gs, dr, tk, os⟩ := I1.laid (t' := tk) old (Nat.le_succ _) (exo_ok there)
  have asked := q1 o new
  have rr : Vals (V.ref o :: vs) (Value.ref o :: us) := .cons rfl r1
  have len : (Value.ref o :: us).length = ps.length := rr.length ▸ G.len _ _ _ _ asked
  have bound := hb _ (Value.ref o :: us) J.kIn (by rw [List.append_nil]; exact len)
  rw [List.append_nil] at bound
  have few : us.length ≤ sizeLine := by
    have q : us.length = vs.length := (Paired.length r1).symm
    rw [q, sizeLine_eq]
    omega
  have body := G.run _ X.stack _ _ ⟨Value.ref o :: us, []⟩ _ _ _ E0 (hr.make C us []) (J.env0.make C us []) bound rr asked
  refine wpAny_call (PySem.HandSPX.call_own F.excBase_ValueError (fun Y => PySem.HandSPX.refsVE_contains Y bm mroOk) (I1.kIn _ _ inCls) (PySem.W.looks_findIn I1.kIn hi) (fun self => PySem.W.bind_fn I1.kIn self ht) few (codeAny_mono body ?_))
  intro out s2 z
  match out, z with
  | .error er, z => exact hx pins σ _ _ er s2 J z
  | .ok (.ret u), z =>
    obtain ⟨v, H2, J2, rv, ev, qq⟩ := J.after z
    subst ev
    exact ⟨rv, .ref o, H2, J2, rfl, qq⟩
  | .ok .next, z => exact z.elim
  | .ok .brk, z => exact z.elim
  | .ok .cont, z => exact z.elim
theorem pe_exv0 (T : OexC X.K C) (iC : PySem.W.findIn X.K (.ref C) "__init__" = some (some (.ref fI))) (tI : PySem.W.typeIn X.K (.ref fI) = some (.type "function"))
    (F1 : FnOk X.prog X.w X.K X.mg X.base CX k fI fd ps sp) (hr : Room (k + 1) X.A) (hb : Binds X.K fd ps []) (hx : Passes CX X E0) (hg : Gl X x) (hm : X.mg x = some (.ref C))
    (hdb : (x == ("__debug__" : Str)) = false := by decide) :
    PE X (.Call (.Name x p) [] [] pos) (tExv C sp tNil) := by
  refine ⟨fun pins s σ H Q I h => ?_⟩
  refine wpAny_Call_Name_kw (ld_glob I hg hm ?_ hdb)
  obtain ⟨hz, q1⟩ := h
  exact PySem.W.callWith_K0 I.kIn T.kC (run_exv (us := []) T iC tI F1 hr hb hx I .nil hz q1)
end
section
open PySem.Spec PyProof.Rows
/-- raising an exception without fields that has just been made -/
theorem pmk_v {X : Cx} {e : Expr} {te : TE} (none' : X.ex = []) (he : PE X e te) :
    PMk X e (fun τ H Q => te τ H fun x J => ∃ a C, x = .ref a ∧ J a = some (exo a C none) ∧ X.H_0 a = none ∧ OexC X.K C ∧ Q (.ref C) none (delH J a)) := by
  intro pins s τ H Q I want
  refine thn (he.run pins s τ H _ I want) fun u s1 ⟨v, J, I1, r, a, C, ex, ha, h0, T, z⟩ => ?_
  subst ex
  obtain rfl : u = Value.ref a := r
  obtain ⟨t1, there⟩ := exo_at I1.hok ha
  obtain ⟨G, le, gone, I2⟩ := I1.untrack ha (fr0_none h0) none'
  exact ⟨a, _, _, { s1 with heap := G }, delH J a, .ref C, none, rfl, I2, le, gone, there, ⟨rfl, rfl⟩, rfl, rfl, delH_same, rfl, I1.bare, raises_own T.exC T.tyC, z⟩
theorem ps_raise_v {X : Cx} {pos : Pos} (H0 : Hp) (K0 : PySem.W.Frag) {W : WX} {e : Expr} {te : TE} (tk : Takes X W) (e0 : X.H_0 = H0) (eK : X.K = K0) (he : PE X e te) (calm : X.calm = true := by rfl) (none' : X.ex = [] := by rfl) :
    PS X (.Raise (some e) none pos) (fun _ τ H => te τ H fun x J => ∃ a C, x = .ref a ∧ J a = some (exo a C none) ∧ H0 a = none ∧ OexC K0 C ∧ W (.ref C) none τ (delH J a)) := by
  subst e0 eK
  exact ps_raise calm tk (pmk_v none' he)
end
section
open PySem.Spec PyProof.Rows
abbrev Clause := Value × (Addr → Value → Option Addr → TS)
/-- the ends of a suite whose name stands in slot i: the slot is empty behind it -/
def offSlot (i : Nat) (D : Ends) : Ends := { nx := fun τ J => D.nx (τ.set i none) J, rt := D.rt, bk := fun τ J => D.bk (τ.set i none) J, ct := fun τ J => D.ct (τ.set i none) J }
/-- what clauses 'except .. as name' wish of an exception, from the first on -/
def wEach (K : PySem.W.Frag) (i : Nat) (D : Ends) : List Clause → WX
  | [] => fun _ _ _ _ => False
  | q :: r => fun cls d τ J => ∃ b, PySem.W.exmOne K cls q.1 = some b ∧ if b = true then ∀ a, J a = none → q.2 a cls d (offSlot i D) (τ.set i (some (.ref a))) J else wEach K i D r cls d τ J
inductive EachOk (X : Cx) (n : Str) : List ExceptHandler → List Clause → Prop
  | nil {hs : List ExceptHandler} : EachOk X n hs []
  | cons {x : Str} {k : Value} {ts : Addr → Value → Option Addr → TS} {st : Stmt} {rest : List Stmt} {p p' : Pos} {hs : List ExceptHandler} {qs : List Clause} (names : Names X x k)
      (suite : ∀ (a : Addr) (oe : Obj) (cls : Value) (d : Option Addr) (pn : List (Addr × Obj)), Zc cls d oe → (∃ vs, oe.data = .fields vs) → PSs (X.suite a ((a, oe) :: pn)) (st :: rest) (ts a cls d)) (more : EachOk X n hs qs) :
      EachOk X n (.ExceptHandler (some (.Name x p)) (some n) (st :: rest) p' :: hs) ((k, ts) :: qs)
variable {X : Cx} {body : List Stmt} {hs : List ExceptHandler} {h0 : ExceptHandler} {qs : List Clause} {n : Str} {i : Nat} {pos : Pos} {tb : WX → TS}
theorem ps_try_each (stk : X.stack = X.env :: X.outer) (frm : X.env.frame = some X.env.locals) (nd : X.N.Nodup) (hi : X.N[i]? = some n) (loc : X.env.kindOf n = some .local)
    (hb : ∀ (W : WX) (pn : List (Addr × Obj)) (xe : Value → Shared → Prop), Takes (X.tr pn xe) W → PassesOwn (model X.prog X.w) X.A X.env xe → PSs (X.tr pn xe) body (tb W)) (hk : EachOk X n (h0 :: hs) qs) :
    PS X (.Try body (h0 :: hs) [] [] pos) (fun D τ J => tb (wEach X.K i D qs) D τ J) := by
  constructor
  intro pins s τ H D I want
  have ok := I.ok
  have top : X.A.frames = some (X.env :: X.outer) := by rw [ok.frames, stk]
  refine wpAny_Try_except (wpAny_mono ((hb (wEach X.K i D qs) (X.pn ++ pins) _ (fun u s' caught => ?_) PassesOwn.looking).run [] s τ H D (I.toTry _) want) ?_ fun _ _ z => z)
  · obtain ⟨a, B, sI, pins', τ', H', cls, d, rfl, J0, nb, up, sky, na, os, bare, wish⟩ := caught
    have J := J0.ofTry ok
    rw [stk] at sky
    show wpAny _ _ (noteFrame (.ref a) X.env) _ _ _
    refine Sky.land Zc.steady top frm sky fun h3 fl3 up3 => ?_
    have J3 : Inv X pins τ' H' { s' with heap := h3 } := J.landed nb fl3.1 (up.trans up3) os bare
    obtain ⟨oe3, vs3, at3, z3, f3⟩ := fl3.there
    have off : a ∉ frs (X.env :: X.outer) := fun hm => by
      obtain ⟨_, o', q', nf⟩ := fl3.2.2.1.mem hm
      rw [at3] at q'
      cases q'
      exact nf _ f3
    have aL : a ≠ X.env.locals := fun q => off (List.mem_filterMap.mpr ⟨X.env, List.mem_cons_self, by rw [frm, q]⟩)
    have aF : a ∉ X.fs := fun hm => by
      obtain ⟨e, he, q⟩ := List.mem_filterMap.mp hm
      exact off (List.mem_filterMap.mpr ⟨e, List.mem_cons_of_mem _ he, q⟩)
    have S3 := J3.suite at3 f3 na aL aF
    suffices each : ∀ {ks : List ExceptHandler} {ls : List Clause}, EachOk X n ks ls → wEach X.K i D ls cls d τ' H' → wpAny (model X.prog X.w) X.A (handleBy (.ref a) X.env ks) (SP X pins D) X.xe { s' with heap := h3 } from each hk wish
    intro ks ls hk
    induction hk with
    | nil => exact fun z => z.elim
    | @cons x kk ts st rest p p' ks2 ls2 names suite more ih =>
      rintro ⟨b, isOne, next⟩
      have ty : PySem.W.Looks (model X.prog X.w) h3 (typeOf (.ref a)) cls := fun A Q E s k q => wpAny_typeOf_ref (k _ _ at3) (by rw [z3.1]; exact q)
      have exm := PySem.W.exm_one (M := model X.prog X.w) J3.kIn ty isOne
      have reads : ∀ {Q : Value → Shared → Prop} {E : Value → Shared → Prop}, Q kk { s' with heap := h3 } → wpAny (model X.prog X.w) (X.A.mark (some (.ref a))) (eval (.Name x p) X.env) Q E { s' with heap := h3 } := fun {Q E} z => by
        obtain ⟨gl, nodbg, m | ⟨m, v, nn⟩⟩ := names
        · exact ld_glob (X := X.suite a ((a, oe3) :: (X.pn ++ pins))) S3 gl m z nodbg
        · exact ld_blt (X := X.suite a ((a, oe3) :: (X.pn ++ pins))) S3 gl m v z nn nodbg
      refine wpAny_handleBy_cons (codeAny_handlers_test (reads (exm.here ?_))) (by intro z; cases z)
      cases b with
      | false => exact ih next
      | true =>
        refine codeAny_handlers_suite_as (HandSPX.lands_againZ fl3 fun h4 fl4 up4 => ?_)
        have J4 : Inv X pins τ' H' { s' with heap := h4 } := J.landed nb fl4.1 ((up.trans up3).trans up4) os bare
        obtain ⟨oe4, vs4, at4, z4, f4⟩ := fl4.there
        have S4 := J4.suite at4 f4 na aL aF
        refine store_ok (X := X.suite a ((a, oe4) :: (X.pn ++ pins))) (v := .ref a) S4 nd hi (.inl loc) rfl (fun s5 S5 => ?_) (.inr loc)
        refine wpAny_mono ((suite a oe4 cls d (X.pn ++ pins) z4 ⟨_, f4⟩).run [] s5 _ H' _ S5 (next a na)) (fun f s6 fin => ?_) fun _ _ z => z.elim
        have gone : ∀ {τ6 : L2.St} {H6 : Hp} {Q : Shared → Prop}, Inv (X.suite a ((a, oe4) :: (X.pn ++ pins))) [] τ6 H6 s6 → (∀ s7, Inv X pins (τ6.set i none) H6 s7 → Q s7) →
            wpAny (model X.prog X.w) X.A (do bindName X.env n .none; unbindBehindTheSuite X.env n p') (fun _ s7 => Q s7) X.xe s6 := fun S6 k => gone_ok (S6.unsuite ok) nd hi loc k
        match f, fin with
        | .next, ⟨τ6, H6, S6, z⟩ => exact gone S6 fun s7 J7 => ⟨_, _, J7, z⟩
        | .brk, ⟨τ6, H6, S6, z⟩ => exact gone S6 fun s7 J7 => ⟨_, _, J7, z⟩
        | .cont, ⟨τ6, H6, S6, z⟩ => exact gone S6 fun s7 J7 => ⟨_, _, J7, z⟩
        | .ret u, ⟨v6, τ6, H6, S6, r6, z⟩ => exact gone S6 fun s7 J7 => ⟨_, _, _, J7, r6, z⟩
  · intro f s1 fin
    match f, fin with
    | .next, ⟨τ', H', J', z⟩ => exact wpAny_execs_nil ⟨τ', H', J'.ofTry ok, z⟩
    | .brk, ⟨τ', H', J', z⟩ => exact ⟨τ', H', J'.ofTry ok, z⟩
    | .cont, ⟨τ', H', J', z⟩ => exact ⟨τ', H', J'.ofTry ok, z⟩
    | .ret u, ⟨v, τ', H', J', r, z⟩ => exact ⟨v, τ', H', J'.ofTry ok, r, z⟩
end
section
open PySem.Spec PyProof.Rows
variable {X : Cx} {CX : CXT} {k : Nat} {f C : Addr} {fd : FuncData} {ps : List Str} {sp : Sp} {E : L2.St → XK} {x : Str} {p pos : Pos} {e : Expr} {es : List Expr} {t : TA}
def tMakeS (C : Addr) (sp : Sp) (E : L2.St → XK) (t : TA) : TE := fun σ H Q => t σ H fun vs H1 => ∀ (o d : Addr), H1 o = none → H1 d = none → d ≠ o → sp (.ref o :: vs) (upd (upd H1 d (.own o)) o (.ins C d [])) (fun v H2 => v = .non ∧ Q (.ref o) H2) (E σ)
theorem pe_makeS (M : Mk X.K C f) (F : FnOk X.prog X.w X.K X.mg X.base CX k f fd ps sp) (hr : Room (k + 1) X.A) (hg : Gl X x) (hm : X.mg x = some (.ref C)) (hb : Binds X.K fd ps []) (hx : ∀ σ, PassesAt CX X σ (E σ))
    (ha : PA X (e :: es) t) (hdb : (x == ("__debug__" : Str)) = false := by decide) (he : starEach (e :: es) X.env = (false, eval e X.env) :: starEach es X.env := by rfl) (hpl : (backTo pos (starEach es X.env)).any (·.1) = false := by rfl) :
    PE X (.Call (.Name x p) (e :: es) [] pos) (tMakeS C sp E t) := by
  constructor
  intro pins s σ H Q I h
  refine wpAny_Call_Name_kw (ld_glob I hg hm ?_ hdb)
  refine PySem.W.callWith_K (h₀ := X.base) I.ok.mod.kin M.kp (thn (ha.run pos pins s σ H _ I h) ?_) he hpl
  rintro us s1 ⟨vs, H1, I1, r, q⟩
  refine ⟨I1.kIn, ?_⟩
  let o := s1.heap.objs.size + 1
  have q' := q o s1.heap.objs.size (I1.hok.fresh (Nat.le_succ _)) (I1.hok.fresh (Nat.le_refl _)) (Nat.ne_of_lt (Nat.lt_succ_self _))
  have J := Inv.made (C := C) I1
  have rr : Vals (V.ref o :: vs) (Value.ref o :: us) := .cons rfl r
  have len : (Value.ref o :: us).length = ps.length := rr.length ▸ F.len _ _ _ _ q'
  have bind := hb _ (Value.ref o :: us) J.kIn (by rw [List.append_nil]; exact len)
  rw [List.append_nil] at bind
  refine wpAny_call (make_map (f := f) I1.kIn M.makes M.init (beq_iff_eq.mp M.fn) (codeAny_mono (F.run _ X.stack _ _ ⟨Value.ref o :: us, []⟩ _ _ _ (E σ) (hr.make C us []) (J.env0.make C us []) bind rr q') ?_))
  intro out s2 z
  match out, z with
  | .error er, z => exact hx σ pins _ _ er s2 J z
  | .ok (.ret u), z =>
    obtain ⟨v, H2, J2, rv, ev, qq⟩ := J.after z
    subst ev
    exact ⟨rv, .ref o, H2, J2, rfl, qq⟩
  | .ok .next, z => exact z.elim
  | .ok .brk, z => exact z.elim
  | .ok .cont, z => exact z.elim
end
structure BadC (K : PySem.W.Frag) (mg : Str → Option Value) (C fI : Addr) : Prop where
  ex : OexC K C
  iC : PySem.W.findIn K (.ref C) "__init__" = some (some (.ref fI))
  tI : PySem.W.typeIn K (.ref fI) = some (.type "function")
  gC : mg "BadTower" = some (.ref C)
  noI : PySem.W.findIn K (.ref C) "index" = some none
def spBad (C : Addr) : Sp := fun vs H Q _ => ∃ (a : Addr) (v : V), vs = [.ref a, v] ∧ H a = some (exo a C none) ∧ ∀ d, H d = none → d ≠ a → Q .non (upd (upd H d (exd d [("index", v)])) a (exo a C (some d)))
/-- what is left behind a raise BadTower(v) -/
theorem bad_end {H : Hp} {C a d : Addr} {v : V} (na : H a = none) (nd : (upd H a (exo a C none)) d = none) (ne : d ≠ a) :
    let H2 := upd (upd (upd H a (exo a C none)) d (exd d [("index", v)])) a (exo a C (some d))
    H2 a = some (exo a C (some d)) ∧ H2 d = some (exd d [("index", v)]) ∧ H d = none ∧ Ext H (upd (del H2 a) d (.xd [("index", v)])) := by
  have nd0 : H d = none := by rw [upd_ne ne] at nd; exact nd
  refine ⟨upd_same, by rw [upd_ne ne, upd_same], nd0, fun b o e => ?_⟩
  have h1 := ne_of_none e na
  have h2 := ne_of_none e nd0
  rw [upd_ne h2, del_ne h1, upd_ne h1, upd_ne h2, upd_ne h1]
  exact e
/-! ### == by an own __eq__ -/
section
open PySem.Spec PyProof.Rows
variable {X : Cx} {CX : CXT} {k : Nat} {f C : Addr} {fd : FuncData} {ps : List Str} {sp : Sp}
def rOwn (K : PySem.W.Frag) (C : Addr) (sp : Sp) : R2 := fun x y H Q => ∃ (a dx : Addr) (fs : List (Str × V)) (t : Value), x = .ref a ∧ H a = some (.ins C dx fs) ∧ TyX K H y t ∧ PySem.W.notFirst K C t = true ∧ sp [x, y] H (fun v H' => (∃ b, v = .bl b) ∧ Q v H') E0
theorem op_own (F : FnOk X.prog X.w X.K X.mg X.base CX0 k f fd ps sp) (hs : PySem.W.findIn X.K (.ref C) "__eq__" = some (some (.ref f))) (hf : PySem.W.isFn X.K (.ref f) = true) (hb : Binds X.K fd ps []) (hr : Room k X.A) : OpR X (compareOp .Eq) (rOwn X.K C sp) := by
  rintro pins s σ H x y v u Q I rx ry ⟨a, dx, fs, t, rfl, ha, ty, nf, q⟩
  obtain rfl : v = Value.ref a := rx
  obtain ⟨mA, J, _⟩ := ins_get I.hok ha
  obtain ⟨od, J, _⟩ := J.look
  obtain ⟨G, Z, g, _⟩ := kit_of I ry ty
  obtain ⟨m, fr⟩ := I.fr
  show wpAny (model X.prog X.w) X.A (richCompare .Eq (.ref a) u) (EP X pins σ Q) X.xe s
  refine PySem.W.cmp_K (op := .Eq) (tb := t) hr.units0 fr I.ok.mod.kin J (Z.ty _ _ I.kIn g) nf hs hf ?_
  refine wpAny_mono (run_fn (vs := [V.ref a, y]) F hr hb .nil pass0 I (.cons rfl (.cons ry .nil)) (show sp ([V.ref a, y] ++ []) H _ E0 from q)) ?_ fun _ _ x => x
  rintro w s' ⟨z, H', I', rz, ⟨b, rfl⟩, qz⟩
  cases rz
  exact ⟨.bl b, H', I', rfl, qz⟩
end
/-- what isinstance asks of a class for its instances -/
structure IsC (K : PySem.W.Frag) (C : Addr) : Prop where
  cl : Cls K C
  ha : PySem.W.findIn K (.ref C) "__class__" = some (some (.builtin "object.__class__"))
  hn : PySem.W.specialIn K (.builtin "object.__class__") "__get__" = some (some (.builtin "getset_descriptor.__get__"))
  ht : PySem.W.takesIn K (.builtin "object.__class__") = some true
  hm : PySem.W.mroIn K C (.type "object") = some true
theorem IsC.ty {K : PySem.W.Frag} {C : Addr} (I : IsC K C) {H : Hp} {p dx : Addr} {fs : List (Str × V)} (h : H p = some (.ins C dx fs)) : TyX K H (.ref p) (.ref C) := .base (.ins h I.cl I.ha I.hn I.ht I.hm)
theorem kit_same {K : PySem.W.Frag} {C : Addr} : PySem.W.kitOne K (.ref C) (.ref C) = some true := by
  unfold PySem.W.kitOne
  rw [if_pos (beq_self_eq_true _)]
def spF0 : Sp := fun vs H Q _ => ∃ a : Addr, vs = [.ref a] ∧ Q .non H
/-- an error class without fields: what the top has written of it -/
structure ErrC (K : PySem.W.Frag) (mg : Str → Option Value) (x : Str) (C fI : Addr) : Prop where
  ex : OexC K C
  iC : PySem.W.findIn K (.ref C) "__init__" = some (some (.ref fI))
  tI : PySem.W.typeIn K (.ref fI) = some (.type "function")
  gC : mg x = some (.ref C)
  is : ExIs K C
theorem ext_delH {H H1 : Hp} {a : Addr} {o : HO} (e : Ext H H1) (na : H1 a = none) : Ext H (delH (upd H1 a o) a) := fun b u h => by
  have h1 := e _ _ h
  have ne := ne_of_none h1 na
  unfold delH
  rw [if_neg ne, upd_ne ne]
  exact h1
theorem none_back {H H1 : Hp} {a : Addr} (e : Ext H H1) (na : H1 a = none) : H a = none := by
  cases q : H a with
  | none => rfl
  | some u => rw [e _ _ q] at na; cases na
/-- a raise of a class without fields -/
theorem raise0 {K : PySem.W.Frag} {mg : Str → Option Value} {C : Addr} {x : Str} {fI : Addr} (N : ErrC K mg x C fI) {H H1 : Hp} {E : XK} {τ : L2.St} (e : Ext H H1) (k : ∀ H', Ext H H' → E (.ref C) none H') :
    tExv C spF0 tNil τ H1 (fun x J => ∃ a C', x = .ref a ∧ J a = some (exo a C' none) ∧ H a = none ∧ OexC K C' ∧ E (.ref C') none (delH J a)) :=
  ⟨Nat.zero_le _, fun a na => ⟨a, rfl, rfl, a, C, rfl, upd_same, none_back e na, N.ex, k _ (ext_delH e na)⟩⟩
theorem u65 {k : Nat} {A : Around} (r : Room k A) : A.units + 65 < cLine := by
  have := r.un
  omega
end O42

set_option Elab.async false
set_option linter.all false
set_option maxRecDepth 100000
set_option maxHeartbeats 4000000
set_option pp.maxSteps 60
namespace O42
open PySem L2
section
variable {P : Program} {w : World} {K : PySem.W.Frag} {mg : Str → Option Value} {base : Heap}
theorem scCell : FnScope ["thing"] ["thing"] (defScope sCell) := ⟨rfl, rfl, rfl, by decide +kernel, rfl, by decide +kernel, by decide +kernel⟩
theorem ok_cell {f : Addr} {fd : FuncData} (F : L2.Fun K "is_cell" "is_cell" sCell f fd) (T : Gb mg) (M : TowC mg) (cA : Cal P w K mg base 3 "is_ascending" (spAsc K) []) : FnOk P w K mg base CX0 4 f fd ["thing"] (spCell K) := by
  obtain ⟨t29, h29⟩ := M.mn
  obtain ⟨t4, h4⟩ := M.mi
  refine F.ok scCell (fun vs H Q E h => ?_) (fun cdv A outer s H vs Q E hr h => ?_)
  · obtain ⟨x, rfl, _⟩ := h
    rfl
  · obtain ⟨x, rfl, th, sm, k⟩ := h
    refine ⟨_, pss_one (ps_ret (pe_and (C8.pe_c cA hr (by decide) (by rfl) (pa_cons (pe_glob (v := .int 29) rfl h29 ⟨_, rfl⟩) (pa_cons (pv 0) pa_nil))) (pe_one (pe_chain op_le op_le pe_int (pe_callB call_len_seq (by rfl) T.len PySem.boot_len (pa_cons (pv 0) pa_nil)) (pe_glob (v := .int 4) rfl h4 ⟨_, rfl⟩))))), ?_⟩
    refine ⟨_, rfl, x, rfl, th, sm, fun bb H1 hb e1 => ⟨_, rfl, ?_⟩⟩
    cases bb with
    | false => exact iteF (k false H1 ⟨fun z => Bool.noConfusion z, fun ⟨c, ns, e, hc, z⟩ => by have := hb.mpr ⟨c, ns, e, hc, z.2.2⟩; cases this⟩ e1)
    | true =>
      obtain ⟨c, ns, rfl, hc, low⟩ := hb.mp rfl
      refine iteT ⟨_, rfl, c, _, rfl, .inr (SqT.of (e1 _ _ hc)), _, _, rfl, rfl, _, rfl, ?_⟩
      rw [List.length_map]
      by_cases h1 : (1 : Int) ≤ (ns.length : Int)
      · rw [decide_eq_true h1]
        refine iteT ⟨_, _, rfl, rfl, ?_⟩
        refine k _ H1 ?_ e1
        constructor
        · intro z
          exact ⟨c, ns, rfl, hc, by omega, by have := of_decide_eq_true z; omega, low⟩
        · rintro ⟨c', ns', e, hc', z⟩
          cases e
          rw [hc] at hc'
          injection hc' with hc'
          injection hc' with hc'
          rw [← int_inj hc'] at z
          exact decide_eq_true (by have := z.2.1; omega)
      · rw [decide_eq_false h1]
        refine iteF (k false H1 ⟨fun z => Bool.noConfusion z, fun ⟨c', ns', e, hc', z⟩ => ?_⟩ e1)
        cases e
        rw [hc] at hc'
        injection hc' with hc'
        injection hc' with hc'
        rw [← int_inj hc'] at z
        exact absurd (by have := z.1; omega) h1
theorem scFaces : FnScope ["cell", "at"] ["cell"] (defScope sFaces) := ⟨rfl, rfl, rfl, by decide +kernel, rfl, by decide +kernel, by decide +kernel⟩
theorem ok_faces {f : Addr} {fd : FuncData} (F : L2.Fun K "faces" "faces" sFaces f fd) (T : Gb mg) : FnOk P w K mg base CX0 1 f fd ["cell"] spFaces := by
  refine F.ok scFaces (fun vs H Q E h => ?_) (fun cdv A outer s H vs Q E hr h => ?_)
  · obtain ⟨c, ns, rfl, _⟩ := h
    rfl
  · obtain ⟨c, ns, rfl, hc, n1, n4, k⟩ := h
    refine ⟨_, pss_cons (ps_if (pt_cmpR op_eq (pe_callB call_len_seq (by rfl) T.len PySem.boot_len (pa_cons (pv 0) pa_nil)) pe_int (nomark _)) (pss_one (ps_ret (pe_lst pa_nil))) pss_nil)
      (pss_one (ps_ret (pe_lc (own := [("at", 1)]) (g := gName 1) (tt := tYes) (te := tOp (rCatA K) (tSl (rSlA K) (tVar 0) tNoPart (tPart (tVar 1))) (tSl (rSlA K) (tVar 0) (tPart (tOp (rI0 fun i j => V.int (i + j)) (tVar 1) (tC (V.int 1)))) tNoPart)) rfl scFaces.nd (pi_range1 (by rfl) T.rng (pa_cons (pe_callB call_len_seq (by rfl) T.len PySem.boot_len (pa_cons (pv 0) pa_nil)) pa_nil)) (blkOk_by (N := ["cell", "at"]) (sc := defScope sFaces) (by decide +kernel))
          (fun _ _ _ _ _ => pg_name (i := 1) scFaces.nd rfl (Or.inl rfl)) (fun _ _ _ _ _ => pts_nil) (fun _ _ _ _ _ => pe_op op_catA (pe_slice sl_tupA (pv 0) po_none (po_some (pv 1))) (pe_slice sl_tupA (pv 0) (po_some (pe_op op_add (pv 1) pe_int)) po_none))))), ?_⟩
    refine ⟨_, rfl, c, _, rfl, .inr (SqT.of hc), rfl, _, rfl, ?_⟩
    refine ite2 (fun z => ?_) (fun z => ?_)
    · have e : ns.length = 1 := by have q := of_decide_eq_true z; rw [List.length_map] at q; injection q with q; omega
      refine ⟨Nat.zero_le _, fun l nl => ?_⟩
      refine k l [] _ (Ext.upd nl) upd_same ?_
      unfold facesL
      rw [if_pos e]
      exact .nil
    · have hne : ¬ ns.length = 1 := fun q => z (decide_eq_true (by rw [List.length_map, q]; rfl))
      refine ⟨_, rfl, c, _, rfl, .inr (SqT.of hc), (ns.length : Int), by rw [List.length_map], by omega, by omega, fun D nD => ?_⟩
      refine lc_range (lo := 0) (n := (ns.length : Int).toNat) (fun i H' => Ext H H' ∧ ∃ as : List Addr, H' D = some (.lst (as.map V.ref)) ∧ PT2 H' as ((allF ns).take i) ∧ as.length = i) ⟨Ext.upd nD, [], upd_same, .nil, rfl⟩ ?_ ?_
      · rintro i H' hi ⟨ex, as, hD, pt, le⟩
        have hi' : i < ns.length := by rw [Int.toNat_natCast] at hi; exact hi
        refine ⟨rfl, tyes_in ?_⟩
        have hc' := ex _ _ hc
        refine ⟨_, rfl, _, rfl, 0 + (i : Int), rfl, ?_⟩
        refine sl_any (K := K) (lo := none) (hi := some (0 + (i : Int))) hc' fun q1 H1 e1 h1 => ?_
        refine ⟨_, rfl, _, rfl, _, _, rfl, rfl, 0 + (i : Int) + 1, rfl, ?_⟩
        dsimp only [tNoPart]
        refine sl_any (K := K) (lo := some (0 + (i : Int) + 1)) (hi := none) (e1 _ _ hc') fun q2 H2 e2 h2 => ?_
        have l1 := cutV_length (ns.map V.int) none (some (0 + (i : Int)))
        have l2 := cutV_length (ns.map V.int) (some (0 + (i : Int) + 1)) none
        rw [List.length_map] at l1 l2
        refine cat_any (e2 _ _ h1) h2 (by omega) fun q3 H3 e3 h3 => ?_
        have e13 := e1.trans (e2.trans e3)
        rw [Int.zero_add, cut_erase hi'] at h3
        refine ⟨_, e13 _ _ hD, small1000 (by rw [List.length_map]; omega), fun b' o eo => ?_, as ++ [q3], ?_, ?_, by rw [List.length_append, le]; rfl⟩
        · rw [upd_ne (ne_of_none eo nD)]
          exact e13 _ _ (ex _ _ eo)
        · rw [upd_same, List.map_append]
          rfl
        · have hD3 := e13 _ _ hD
          rw [List.take_succ, allF_get hi']
          refine PT2.snoc (PT2.mono (fun b xs z => ?_) pt) ?_
          · rw [upd_ne (lst_ne hD z)]
            exact e13 _ _ z
          · rw [upd_ne (lst_ne hD3 h3)]
            exact h3
      · rintro H' ⟨ex, as, hD, pt, le⟩
        have la : (allF ns).length = (ns.length : Int).toNat := by unfold allF; rw [List.length_map, List.length_range, Int.toNat_natCast]
        rw [← la, List.take_of_length_le (Nat.le_refl _)] at pt
        have e : facesL ns = allF ns := by unfold facesL allF; rw [if_neg hne]
        rw [← e] at pt
        exact k D as H' ex hD pt
theorem scLFaces : FnScope ["_law_cell", "_law_at"] ["_law_cell"] (defScope sLFaces) := ⟨rfl, rfl, rfl, by decide +kernel, rfl, by decide +kernel, by decide +kernel⟩
theorem ok_lfaces {f : Addr} {fd : FuncData} (F : L2.Fun K "_law_faces" "_law_faces" sLFaces f fd) (T : Gb mg) : FnOk P w K mg base CX0 1 f fd ["_law_cell"] spFaces := by
  refine F.ok scLFaces (fun vs H Q E h => ?_) (fun cdv A outer s H vs Q E hr h => ?_)
  · obtain ⟨c, ns, rfl, _⟩ := h
    rfl
  · obtain ⟨c, ns, rfl, hc, n1, n4, k⟩ := h
    refine ⟨_, pss_one (ps_ret (pe_ifExp (pt_cmpR op_gt (pe_callB call_len_seq (by rfl) T.len PySem.boot_len (pa_cons (pv 0) pa_nil)) pe_int (nomark _))
      (pe_lc (own := [("_law_at", 1)]) (g := gName 1) (tt := tYes) (te := tOp (rCatA K) (tSl (rSlA K) (tVar 0) tNoPart (tPart (tVar 1))) (tSl (rSlA K) (tVar 0) (tPart (tOp (rI0 fun i j => V.int (i + j)) (tVar 1) (tC (V.int 1)))) tNoPart)) rfl scLFaces.nd (pi_range1 (by rfl) T.rng (pa_cons (pe_callB call_len_seq (by rfl) T.len PySem.boot_len (pa_cons (pv 0) pa_nil)) pa_nil)) (blkOk_by (N := ["_law_cell", "_law_at"]) (sc := defScope sLFaces) (by decide +kernel))
          (fun _ _ _ _ _ => pg_name (i := 1) scLFaces.nd rfl (Or.inl rfl)) (fun _ _ _ _ _ => pts_nil) (fun _ _ _ _ _ => pe_op op_catA (pe_slice sl_tupA (pv 0) po_none (po_some (pv 1))) (pe_slice sl_tupA (pv 0) (po_some (pe_op op_add (pv 1) pe_int)) po_none)))
      (pe_lst pa_nil))), ?_⟩
    refine ⟨_, rfl, c, _, rfl, .inr (SqT.of hc), _, _, rfl, rfl, _, rfl, ?_⟩
    refine ite2 (fun z => ?_) (fun z => ?_)
    · have hne : ¬ ns.length = 1 := by have q := of_decide_eq_true z; rw [List.length_map] at q; omega
      refine ⟨_, rfl, c, _, rfl, .inr (SqT.of hc), (ns.length : Int), by rw [List.length_map], by omega, by omega, fun D nD => ?_⟩
      refine lc_range (lo := 0) (n := (ns.length : Int).toNat) (fun i H' => Ext H H' ∧ ∃ as : List Addr, H' D = some (.lst (as.map V.ref)) ∧ PT2 H' as ((allF ns).take i) ∧ as.length = i) ⟨Ext.upd nD, [], upd_same, .nil, rfl⟩ ?_ ?_
      · rintro i H' hi ⟨ex, as, hD, pt, le⟩
        have hi' : i < ns.length := by rw [Int.toNat_natCast] at hi; exact hi
        refine ⟨rfl, tyes_in ?_⟩
        have hc' := ex _ _ hc
        refine ⟨_, rfl, _, rfl, 0 + (i : Int), rfl, ?_⟩
        refine sl_any (K := K) (lo := none) (hi := some (0 + (i : Int))) hc' fun q1 H1 e1 h1 => ?_
        refine ⟨_, rfl, _, rfl, _, _, rfl, rfl, 0 + (i : Int) + 1, rfl, ?_⟩
        dsimp only [tNoPart]
        refine sl_any (K := K) (lo := some (0 + (i : Int) + 1)) (hi := none) (e1 _ _ hc') fun q2 H2 e2 h2 => ?_
        have l1 := cutV_length (ns.map V.int) none (some (0 + (i : Int)))
        have l2 := cutV_length (ns.map V.int) (some (0 + (i : Int) + 1)) none
        rw [List.length_map] at l1 l2
        refine cat_any (e2 _ _ h1) h2 (by omega) fun q3 H3 e3 h3 => ?_
        have e13 := e1.trans (e2.trans e3)
        rw [Int.zero_add, cut_erase hi'] at h3
        refine ⟨_, e13 _ _ hD, small1000 (by rw [List.length_map]; omega), fun b' o eo => ?_, as ++ [q3], ?_, ?_, by rw [List.length_append, le]; rfl⟩
        · rw [upd_ne (ne_of_none eo nD)]
          exact e13 _ _ (ex _ _ eo)
        · rw [upd_same, List.map_append]
          rfl
        · have hD3 := e13 _ _ hD
          rw [List.take_succ, allF_get hi']
          refine PT2.snoc (PT2.mono (fun b xs z => ?_) pt) ?_
          · rw [upd_ne (lst_ne hD z)]
            exact e13 _ _ z
          · rw [upd_ne (lst_ne hD3 h3)]
            exact h3
      · rintro H' ⟨ex, as, hD, pt, le⟩
        have la : (allF ns).length = (ns.length : Int).toNat := by unfold allF; rw [List.length_map, List.length_range, Int.toNat_natCast]
        rw [← la, List.take_of_length_le (Nat.le_refl _)] at pt
        have e : facesL ns = allF ns := by unfold facesL allF; rw [if_neg hne]
        rw [← e] at pt
        exact k D as H' ex hD pt
    · have e : ns.length = 1 := by
        have q : ¬ (1 : Int) < ((ns.map V.int).length : Int) := fun q => z (decide_eq_true q)
        rw [List.length_map] at q
        omega
      refine ⟨Nat.zero_le _, fun l nl => ?_⟩
      refine k l [] _ (Ext.upd nl) upd_same ?_
      unfold facesL
      rw [if_pos e]
      exact .nil
theorem isCell_len {H : Hp} {a : Addr} {xs : List V} (ha : H a = some (.tup xs)) (h : isCell H (.ref a)) : 1 ≤ xs.length ∧ xs.length ≤ 4 := by
  obtain ⟨c, ns, e, hc, z⟩ := h
  cases e
  rw [ha] at hc
  cases hc
  rw [List.length_map]
  exact ⟨z.1, z.2.1⟩
end
end O42

set_option Elab.async false
set_option linter.all false
set_option maxRecDepth 100000
set_option maxHeartbeats 4000000
set_option pp.maxSteps 60
/-! Towers made, or what BadTower tells. -/
namespace O42
open PySem L2
abbrev sWE : Stmt := inClass (top 8) 0
abbrev sBad : Stmt := inClass (top 12) 0
abbrev sTowI : Stmt := inClass (top 52) 0
abbrev sTowE : Stmt := inClass (top 52) 1
/-! ### right towers -/
def Ok (pre : List (List Int)) (l : List Int) : Prop := CellL l ∧ l ∉ pre ∧ ∀ f ∈ facesL l, f ∈ pre
def Gd : List (List Int) → List (List Int) → Prop
  | _, [] => True
  | pre, l :: r => Ok pre l ∧ Gd (pre ++ [l]) r
def GoodT (ll : List (List Int)) : Prop := Gd [] ll
theorem gd_snoc : ∀ (pre r : List (List Int)) (l : List Int), Gd pre (r ++ [l]) ↔ Gd pre r ∧ Ok (pre ++ r) l
  | pre, [], l => by simp [Gd]
  | pre, a :: r, l => by
    have ih := gd_snoc (pre ++ [a]) r l
    show Ok pre a ∧ Gd (pre ++ [a]) (r ++ [l]) ↔ (Ok pre a ∧ Gd (pre ++ [a]) r) ∧ Ok (pre ++ a :: r) l
    rw [ih, List.append_assoc]
    exact ⟨fun ⟨x, y, z⟩ => ⟨⟨x, y⟩, z⟩, fun ⟨⟨x, y⟩, z⟩ => ⟨x, y, z⟩⟩
theorem good_snoc {r : List (List Int)} {l : List Int} : GoodT (r ++ [l]) ↔ GoodT r ∧ Ok r l := gd_snoc [] r l
def OkV (H : Hp) (ll : List (List Int)) (z : V) : Prop := ∃ (c : Addr) (ns : List Int), z = .ref c ∧ H c = some (.tup (ns.map V.int)) ∧ Ok ll ns
def GoodV (H : Hp) (y : V) : Prop := ∃ (b : Addr) (as : List Addr) (ll : List (List Int)), y = .ref b ∧ H b = some (.tup (as.map V.ref)) ∧ as.length ≤ 40 ∧ PT2 H as ll ∧ GoodT ll
def DueV (H : Hp) (y v : V) : Prop := (v = .int (-1) ∧ ¬ ∃ b xs, y = .ref b ∧ H b = some (.tup xs) ∧ xs.length ≤ 40) ∨
  ∃ (b : Addr) (xs : List V) (k : Nat) (z : V) (as : List Addr) (ll : List (List Int)), y = .ref b ∧ H b = some (.tup xs) ∧ xs.length ≤ 40 ∧ v = .int (k : Int) ∧ xs[k]? = some z ∧ xs.take k = as.map V.ref ∧ PT2 H as ll ∧ GoodT ll ∧ ¬ OkV H ll z
def Thing (K : PySem.W.Frag) (H : Hp) (y : V) : Prop := Th K H 2 y ∧ ∀ (b : Addr) (xs : List V), y = .ref b → H b = some (.tup xs) → xs.length ≤ 1000 ∧ ∀ z ∈ xs, Sm H z
theorem Th.items {K : PySem.W.Frag} {H : Hp} {n : Nat} {b : Addr} {xs : List V} (h : Th K H (n + 1) (.ref b)) (hb : H b = some (.tup xs)) : ∀ z ∈ xs, Th K H n z := by
  unfold Th at h
  obtain ⟨t, _, _, _, h⟩ := h
  rcases h with ⟨_, h⟩ | ⟨_, b', ys, e', hb', it⟩
  · obtain ⟨o, ho, no⟩ := h b rfl
    rw [ho] at hb
    cases hb
    exact absurd rfl (no xs)
  · cases e'
    rw [hb] at hb'
    cases hb'
    exact it
theorem Thing.ext {K : PySem.W.Frag} {H H' : Hp} {y : V} (e : Ext H H') (h : Thing K H y) : Thing K H' y := by
  refine ⟨h.1.ext e, fun b xs ey hb => ?_⟩
  subst ey
  have hb0 := h.1.tup_back e hb
  obtain ⟨h1, h2⟩ := h.2 b xs rfl hb0
  exact ⟨h1, fun z hz => (h2 z hz).ext e (h.1.items hb0 z hz)⟩
theorem PT2.inj {H : Hp} : ∀ {as : List Addr} {ll kk : List (List Int)}, PT2 H as ll → PT2 H as kk → ll = kk
  | _, _, _, .nil, .nil => rfl
  | _, _, _, .cons h r, .cons h' r' => by
    rw [h] at h'
    injection h' with h'
    injection h' with h'
    rw [int_inj h', PT2.inj r r']
theorem ref_inj : ∀ {as bs : List Addr}, as.map V.ref = bs.map V.ref → as = bs
  | [], [], _ => rfl
  | a :: as, b :: bs, h => by
    injection h with h1 h2
    injection h1 with h1
    rw [h1, ref_inj h2]
  | [], b :: bs, h => by cases h
  | a :: as, [], h => by cases h
/-- in a right tower each cell goes with those ahead -/
theorem gd_at : ∀ (pre r : List (List Int)) (k : Nat) (l : List Int), Gd pre r → r[k]? = some l → Ok (pre ++ r.take k) l
  | pre, [], k, l, _, h => by simp at h
  | pre, a :: r, 0, l, g, h => by
    have e : a = l := by simpa using h
    subst e
    simpa using g.1
  | pre, a :: r, k + 1, l, g, h => by
    have := gd_at (pre ++ [a]) r k l g.2 (by simpa using h)
    simpa using this
theorem p_take {α β : Type} {F : α → β → Prop} : ∀ {l : List α} {k : List β} (n : Nat), Paired F l k → Paired F (l.take n) (k.take n)
  | _, _, 0, r => .nil
  | _, _, n + 1, .nil => .nil
  | _, _, n + 1, .cons a r => .cons a (p_take n r)
theorem DueV.not_good {H : Hp} {y v : V} (d : DueV H y v) (g : GoodV H y) : False := by
  obtain ⟨b, as, ll, rfl, hb, hl, pt, gd⟩ := g
  rcases d with ⟨_, no⟩ | ⟨b', xs, k, z, as', ll', e, hb', _, _, hz, tk, pt', _, no⟩
  · exact no ⟨b, _, rfl, hb, by rw [List.length_map]; exact hl⟩
  · cases e
    rw [hb] at hb'
    cases hb'
    rw [← List.map_take] at tk
    have ea := ref_inj tk
    rw [← ea] at pt'
    have el := PT2.inj pt' (p_take k pt)
    rw [List.getElem?_map] at hz
    cases hk : as[k]? with
    | none => rw [hk] at hz; cases hz
    | some c =>
      rw [hk] at hz
      cases hz
      obtain ⟨l, hl', hc⟩ := pt.get hk
      refine no ⟨c, l, rfl, hc, ?_⟩
      rw [el]
      have := gd_at [] ll k l gd hl'
      simpa using this
theorem DueV.uniq {H : Hp} {y v v' : V} (d : DueV H y v) (d' : DueV H y v') : v = v' := by
  rcases d with ⟨rfl, no⟩ | ⟨b, xs, k, z, as, ll, rfl, hb, hl, rfl, hz, tk, pt, gd, nok⟩
  · rcases d' with ⟨rfl, _⟩ | ⟨b', xs', _, _, _, _, e, hb', hl', _⟩
    · rfl
    · exact absurd ⟨b', xs', e, hb', hl'⟩ no
  · rcases d' with ⟨rfl, no⟩ | ⟨b', xs', k', z', as', ll', e, hb', hl', rfl, hz', tk', pt', gd', nok'⟩
    · exact absurd ⟨b, xs, rfl, hb, hl⟩ no
    · cases e
      rw [hb] at hb'
      cases hb'
      -- the lesser one is in the prefix of the other
      have lemma1 : ∀ {i j : Nat} {x : V} {cs ds : List Addr} {mm nn : List (List Int)}, i < j → xs[i]? = some x → xs.take i = cs.map V.ref → PT2 H cs mm → xs.take j = ds.map V.ref → PT2 H ds nn → GoodT nn → OkV H mm x := by
        intro i j x cs ds mm nn lt hx tc pc td pd g
        have e1 : (ds.take i).map V.ref = cs.map V.ref := by rw [List.map_take, ← td, List.take_take, Nat.min_eq_left (Nat.le_of_lt lt), tc]
        have e2 := ref_inj e1
        have hx' : (ds.map V.ref)[i]? = some x := by rw [← td, List.getElem?_take_of_lt lt]; exact hx
        rw [List.getElem?_map] at hx'
        cases hk : ds[i]? with
        | none => rw [hk] at hx'; cases hx'
        | some c =>
          rw [hk] at hx'
          cases hx'
          obtain ⟨l, hl', hc⟩ := pd.get hk
          refine ⟨c, l, rfl, hc, ?_⟩
          have p1 := p_take i pd
          rw [e2] at p1
          rw [PT2.inj pc p1]
          have := gd_at [] nn i l g hl'
          simpa using this
      rcases Nat.lt_trichotomy k k' with l | l | l
      · exact (nok (lemma1 l hz tk pt tk' pt' gd')).elim
      · rw [l]
      · exact (nok' (lemma1 l hz' tk' pt' tk pt gd)).elim
theorem OkV.ext {H H' : Hp} {ll : List (List Int)} {z : V} (e : Ext H H') (h : OkV H ll z) : OkV H' ll z := by
  obtain ⟨c, ns, ez, hc, o⟩ := h
  exact ⟨c, ns, ez, e _ _ hc, o⟩
theorem OkV.back {K : PySem.W.Frag} {H H' : Hp} {n : Nat} {ll : List (List Int)} {z : V} (e : Ext H H') (t : Th K H n z) (h : OkV H' ll z) : OkV H ll z := by
  obtain ⟨c, ns, rfl, hc, o⟩ := h
  exact ⟨c, ns, rfl, t.tup_back e hc, o⟩
theorem pt_back {K : PySem.W.Frag} {H H' : Hp} {n : Nat} (e : Ext H H') : ∀ {as : List Addr} {ll : List (List Int)}, (∀ y ∈ as.map V.ref, Th K H n y) → PT2 H' as ll → PT2 H as ll
  | _, _, _, .nil => .nil
  | a :: as, _, t, .cons h r => .cons ((t (.ref a) List.mem_cons_self).tup_back e h) (pt_back e (fun y hy => t y (List.mem_cons_of_mem _ hy)) r)
theorem DueV.back {K : PySem.W.Frag} {H H' : Hp} {y v : V} (e : Ext H H') (t : Thing K H y) (d : DueV H' y v) : DueV H y v := by
  rcases d with ⟨ev, no⟩ | ⟨b, xs, k, z, as, ll, rfl, hb, hl, ev, hz, tk, pt, gd, nok⟩
  · exact .inl ⟨ev, fun ⟨b, xs, ey, hb, hl⟩ => no ⟨b, xs, ey, e _ _ hb, hl⟩⟩
  · have hb0 := t.1.tup_back e hb
    have it := t.1.items hb0
    refine .inr ⟨b, xs, k, z, as, ll, rfl, hb0, hl, ev, hz, tk, pt_back e (fun y hy => it y ?_) pt, gd, fun o => nok (o.ext e)⟩
    rw [← tk] at hy
    exact List.mem_of_mem_take hy
theorem GoodV.back {K : PySem.W.Frag} {H H' : Hp} {y : V} (e : Ext H H') (t : Thing K H y) (g : GoodV H' y) : GoodV H y := by
  obtain ⟨b, as, ll, rfl, hb, hl, pt, gd⟩ := g
  have hb0 := t.1.tup_back e hb
  exact ⟨b, as, ll, rfl, hb0, hl, pt_back e (t.1.items hb0) pt, gd⟩
def cf (y : V) : List (Str × V) := [("cells", y)]
theorem cf_cells (y : V) : (cf y).lookup ("cells" : Str) = some y := by rfl
def TowAt (CT : Addr) (H : Hp) (p b : Addr) : Prop := ∃ dx, H p = some (.ins CT dx (cf (.ref b)))
theorem TowAt.ext {CT p b : Addr} {H H' : Hp} (e : Ext H H') (h : TowAt CT H p b) : TowAt CT H' p b := h.imp fun _ z => e _ _ z
def spTow (K : PySem.W.Frag) (CT CB : Addr) : Sp := fun vs H Q E => ∃ (p dx : Addr) (y : V), vs = [.ref p, y] ∧ H p = some (.ins CT dx []) ∧ Thing K H y ∧
  (∀ (b : Addr) (H' : Hp), y = .ref b → GoodV H y → H' p = some (.ins CT dx (cf y)) → (∀ c o, c ≠ p → H c = some o → H' c = some o) → Q .non H') ∧
  (∀ (v : V) (d : Addr) (H' : Hp), DueV H y v → H d = none → H' d = some (.xd [("index", v)]) → Ext H H' → E (.ref CB) (some d) H')
structure TowK (K : PySem.W.Frag) (mg : Str → Option Value) (CT : Addr) : Prop where
  cl : Cls K CT
  nC : NoAttr K CT "cells"
  mgC : mg "Tower" = some (.ref CT)
section
variable {P : Program} {w : World} {K : PySem.W.Frag} {mg : Str → Option Value} {base : Heap}
theorem scWE : FnScope ["self"] ["self"] (defScope sWE) := ⟨rfl, rfl, rfl, by decide +kernel, rfl, by decide +kernel, by decide +kernel⟩
theorem ok_we {f : Addr} {fd : FuncData} (F : L2.Fun K "__init__" "WebError.__init__" sWE f fd) : FnOk P w K mg base CX0 1 f fd ["self"] spF0 := by
  refine F.ok scWE (fun vs H Q E h => ?_) (fun cdv A outer s H vs Q E hr h => ?_)
  · obtain ⟨a, rfl, _⟩ := h
    rfl
  · obtain ⟨a, rfl, k⟩ := h
    exact ⟨_, pss_one ps_pass, k⟩
theorem scBad : FnScope ["self", "index"] ["self", "index"] (defScope sBad) := ⟨rfl, rfl, rfl, by decide +kernel, rfl, by decide +kernel, by decide +kernel⟩
theorem ok_bad {f C : Addr} {fd : FuncData} (F : L2.Fun K "__init__" "BadTower.__init__" sBad f fd) (B : BadC K mg C f) : FnOk P w K mg base CX0 1 f fd ["self", "index"] (spBad C) := by
  refine F.ok scBad (fun vs H Q E h => ?_) (fun cdv A outer s H vs Q E hr h => ?_)
  · obtain ⟨a, v, rfl, _⟩ := h
    rfl
  · obtain ⟨a, v, rfl, ha, k⟩ := h
    exact ⟨_, pss_one (ps_ost (pv 0) (pv 1)), _, rfl, _, rfl, a, C, rfl, B.ex, B.noI, .inl ⟨ha, fun d nd ne => k d nd ne⟩⟩
abbrev towN : List Str := ["self", "cells", "at", "cell", "face"]
theorem scTowI : FnScope towN ["self", "cells"] (defScope sTowI) := ⟨rfl, rfl, rfl, by decide +kernel, rfl, by decide +kernel, by decide +kernel⟩
end
end O42

set_option Elab.async false
set_option linter.all false
set_option maxRecDepth 100000
set_option maxHeartbeats 4000000
set_option pp.maxSteps 60
/-! Towers compared, exchanged, and the law's own judge. -/
namespace O42
open PySem L2
/-! ### two cells exchanged -/
def swapAt (ll : List (List Int)) (k : Nat) (l1 l2 : List Int) : List (List Int) := ll.take k ++ ([l2, l1] ++ ll.drop (k + 2))
theorem gd_mem : ∀ {r p q : List (List Int)}, (∀ x, x ∈ p ↔ x ∈ q) → Gd p r → Gd q r
  | [], _, _, _, _ => True.intro
  | l :: r, p, q, h, ⟨⟨c, n, f⟩, g⟩ => ⟨⟨c, fun z => n ((h l).mpr z), fun x hx => (h x).mp (f x hx)⟩, gd_mem (fun x => by simp only [List.mem_append, h x]) g⟩
theorem gd_app : ∀ {p r s : List (List Int)}, Gd p (r ++ s) ↔ Gd p r ∧ Gd (p ++ r) s
  | p, [], s => by simp [Gd]
  | p, a :: r, s => by
    have ih := gd_app (p := p ++ [a]) (r := r) (s := s)
    show Ok p a ∧ Gd (p ++ [a]) (r ++ s) ↔ (Ok p a ∧ Gd (p ++ [a]) r) ∧ Gd (p ++ a :: r) s
    rw [ih, List.append_assoc]
    exact ⟨fun ⟨x, y, z⟩ => ⟨⟨x, y⟩, z⟩, fun ⟨⟨x, y⟩, z⟩ => ⟨x, y, z⟩⟩
theorem gd_swap {p r : List (List Int)} {l1 l2 : List Int} (h : Gd p (l1 :: l2 :: r)) (no : l1 ∉ facesL l2) : Gd p (l2 :: l1 :: r) ∧ l2 ∉ facesL l1 := by
  obtain ⟨⟨c1, n1, f1⟩, ⟨c2, n2, f2⟩, g⟩ := h
  have n12 : l2 ≠ l1 := fun e => n2 (by rw [e]; simp)
  refine ⟨⟨⟨c2, fun z => n2 (List.mem_append_left _ z), fun x hx => ?_⟩, ⟨c1, fun z => ?_, fun x hx => List.mem_append_left _ (f1 x hx)⟩, gd_mem (fun x => ?_) g⟩, fun z => n2 (List.mem_append_left _ (f1 _ z))⟩
  · rcases List.mem_append.mp (f2 x hx) with z | z
    · exact z
    · rw [List.mem_singleton.mp z] at hx
      exact (no hx).elim
  · rcases List.mem_append.mp z with z | z
    · exact n1 z
    · exact n12 (List.mem_singleton.mp z).symm
  · simp only [List.mem_append, List.mem_singleton]
    constructor
    · rintro ((x | x) | x)
      · exact .inl (.inl x)
      · exact .inr x
      · exact .inl (.inr x)
    · rintro ((x | x) | x)
      · exact .inl (.inl x)
      · exact .inr x
      · exact .inl (.inr x)
theorem split_at {ll : List (List Int)} {k : Nat} {l1 l2 : List Int} (h1 : ll[k]? = some l1) (h2 : ll[k + 1]? = some l2) : ll = ll.take k ++ (l1 :: l2 :: ll.drop (k + 2)) := by
  obtain ⟨a1, b1⟩ := List.getElem?_eq_some_iff.mp h1
  obtain ⟨a2, b2⟩ := List.getElem?_eq_some_iff.mp h2
  have e : ll.drop k = l1 :: l2 :: ll.drop (k + 2) := by
    rw [List.drop_eq_getElem_cons a1, List.drop_eq_getElem_cons a2, b1, b2]
  rw [← e, List.take_append_drop]
theorem good_swap {ll : List (List Int)} {k : Nat} {l1 l2 : List Int} (g : GoodT ll) (h1 : ll[k]? = some l1) (h2 : ll[k + 1]? = some l2) (no : l1 ∉ facesL l2) : GoodT (swapAt ll k l1 l2) ∧ l2 ∉ facesL l1 := by
  have e := split_at h1 h2
  unfold GoodT at g ⊢
  rw [e] at g
  obtain ⟨g1, g2⟩ := gd_app.mp g
  obtain ⟨g3, n⟩ := gd_swap g2 no
  exact ⟨gd_app.mpr ⟨g1, g3⟩, n⟩
theorem swap_get {ll : List (List Int)} {k : Nat} {l1 l2 : List Int} (h1 : ll[k]? = some l1) (h2 : ll[k + 1]? = some l2) : (swapAt ll k l1 l2)[k]? = some l2 ∧ (swapAt ll k l1 l2)[k + 1]? = some l1 ∧ swapAt (swapAt ll k l1 l2) k l2 l1 = ll := by
  have a1 := (List.getElem?_eq_some_iff.mp h1).1
  have lt : (ll.take k).length = k := by rw [List.length_take]; omega
  have e := split_at h1 h2
  refine ⟨?_, ?_, ?_⟩
  · unfold swapAt
    rw [List.getElem?_append_right (by omega), lt]
    simp
  · unfold swapAt
    rw [List.getElem?_append_right (by omega), lt]
    simp
  · unfold swapAt
    rw [List.take_append_of_le_length (by omega), List.take_of_length_le (by omega), List.drop_append, lt, List.drop_of_length_le (by omega)]
    have e2 : k + 2 - k = 2 := by omega
    rw [e2]
    show ll.take k ++ ([l1, l2] ++ ll.drop (k + 2)) = ll
    exact e.symm
theorem thing_of {K : PySem.W.Frag} {H : Hp} {b : Addr} {as : List Addr} {ll : List (List Int)} (hb : H b = some (.tup (as.map V.ref))) (pt : PT2 H as ll) (la : as.length ≤ 1000) (hl : ∀ l ∈ ll, l.length ≤ 1000) : Thing K H (.ref b) := by
  refine ⟨Th.tup hb (PT2.th (n := 0) pt), fun b' xs e hb' => ?_⟩
  cases e
  rw [hb] at hb'
  cases hb'
  refine ⟨by rw [List.length_map]; exact la, fun z hz c ys e hc => ?_⟩
  subst e
  obtain ⟨a, ha, e⟩ := List.mem_map.mp hz
  cases e
  obtain ⟨i, hi⟩ := List.mem_iff_getElem?.mp ha
  obtain ⟨l, hl', h⟩ := pt.get hi
  rw [h] at hc
  cases hc
  rw [List.length_map]
  exact hl l (List.mem_of_getElem? hl')
theorem good_cells {ll : List (List Int)} (g : GoodT ll) : ∀ l ∈ ll, CellL l := fun l hl => by
  obtain ⟨i, hi⟩ := List.mem_iff_getElem?.mp hl
  have := gd_at [] ll i l g hi
  exact this.1
theorem good_short {ll : List (List Int)} (g : GoodT ll) : ∀ l ∈ ll, l.length ≤ 1000 := fun l hl => Nat.le_trans (good_cells g l hl).2.1 (by decide)
theorem p_drop {α β : Type} {F : α → β → Prop} : ∀ {l : List α} {k : List β} (n : Nat), Paired F l k → Paired F (l.drop n) (k.drop n)
  | _, _, 0, r => r
  | _, _, n + 1, .nil => .nil
  | _, _, n + 1, .cons _ r => p_drop n r
theorem p_app {α β : Type} {F : α → β → Prop} : ∀ {l l' : List α} {k k' : List β}, Paired F l k → Paired F l' k' → Paired F (l ++ l') (k ++ k')
  | _, _, _, _, .nil, r' => r'
  | _, _, _, _, .cons a r, r' => .cons a (p_app r r')
section
variable {P : Program} {w : World} {K : PySem.W.Frag} {mg : Str → Option Value} {base : Heap}
end
end O42

set_option Elab.async false
set_option linter.all false
set_option maxRecDepth 100000
set_option maxHeartbeats 4000000
set_option pp.maxSteps 60
/-! The bag. -/
namespace O42
open PySem L2
section
variable {P : Program} {w : World} {K : PySem.W.Frag} {mg : Str → Option Value} {base : Heap}
abbrev bagN : List Str := ["_law_script", "_law_great", "_law_seed", "_law_cell"]
theorem scBag : FnScope bagN ["_law_script"] (defScope sBag) := ⟨rfl, rfl, rfl, by decide +kernel, rfl, by decide +kernel, by decide +kernel⟩
theorem ok_bag {f : Addr} {fd : FuncData} (F : L2.Fun K "_law_bag" "_law_bag" sBag f fd) (T : Gb mg) : FnOk P w K mg base CX0 1 f fd ["_law_script"] (spBag K) := by
  refine F.ok scBag (fun vs H Q E h => ?_) (fun cdv A outer s H vs Q E hr h => ?_)
  · obtain ⟨a, ns, rfl, _⟩ := h
    rfl
  · obtain ⟨a, ns, rfl, hS, hlen, k⟩ := h
    refine ⟨_, pss_cons (ps_setLc (i := 1) (own := [("_law_cell", 3)]) (g := gName 3) rfl scBag.nd rfl rfl (sw_true rfl rfl rfl (by decide +kernel)) (pi_list (pe_slice sl_list (pv 0) po_none (po_some pe_int))) (blkOk_by (N := bagN) (sc := defScope sBag) (by decide +kernel))
        (fun _ _ _ _ _ => pg_name (i := 3) scBag.nd rfl (Or.inl rfl))
        (fun _ _ _ _ _ => pts_one (pt_cmpR op_ge (pe_callB call_abs (by rfl) T.abs (by decide +kernel) (pa_cons (pe_callTy call_int1 (by rfl) T.int (by decide +kernel) (pa_cons (pv 3) pa_nil)) pa_nil)) (pe_op op_pow pe_int pe_int) (nomark _)))
        (fun _ _ _ _ _ => pe_callB call_abs (by rfl) T.abs (by decide +kernel) (pa_cons (pe_callTy call_int1 (by rfl) T.int (by decide +kernel) (pa_cons (pv 3) pa_nil)) pa_nil)))
      (pss_cons (ps_set (i := 2) scBag.nd rfl (Or.inl rfl) pe_int)
      (pss_cons (ps_for PassesOwn.never rfl (pi_list (pe_slice sl_list (pv 0) po_none (po_some pe_int))) (pg_name (i := 3) scBag.nd rfl (Or.inl rfl))
        (pss_one (ps_set (i := 2) scBag.nd rfl (Or.inl rfl) (pe_op op_mod (pe_callTy call_int1 (by rfl) T.int (by decide +kernel) (pa_cons
          (pe_op op_add (pe_op op_add (pe_op op_add (pe_op op_mul (pv 2) pe_int) (pe_op op_mul (pe_callB call_abs (by rfl) T.abs (by decide +kernel) (pa_cons (pe_callTy call_int1 (by rfl) T.int (by decide +kernel) (pa_cons (pv 3) pa_nil)) pa_nil)) pe_int))
            (pe_callTy call_int1 (by rfl) T.int (by decide +kernel) (pa_cons (pe_cmpR op_lt (pe_callTy call_int1 (by rfl) T.int (by decide +kernel) (pa_cons (pv 3) pa_nil)) pe_int (nomark _)) pa_nil))) pe_int) pa_nil)) pe_int))))
      (pss_one (ps_ret (pe_lst (pa_cons (pv 1) (pa_cons (pv 2) (pa_cons (pe_callB call_len_seq (by rfl) T.len PySem.boot_len (pa_cons (pv 0) pa_nil)) (pa_cons pe_int pa_nil))))))))), ?_⟩
    have all : ∀ y ∈ cutV (ns.map V.int) Option.none (some 63), ∃ i, y = V.int i := fun y hy => by
      have hy := List.mem_of_mem_drop (List.mem_of_mem_take hy)
      obtain ⟨i, _, rfl⟩ := List.mem_map.mp hy
      exact ⟨i, rfl⟩
    have cl : (cutV (ns.map V.int) Option.none (some 63)).length ≤ 63 := Nat.le_trans (cutV_length _ _ _) (by rw [List.length_map]; exact hlen)
    refine ⟨_, rfl, 63, rfl, a, _, rfl, hS, fun l nl => ?_⟩
    generalize cutV (ns.map V.int) Option.none (some 63) = xs at *
    refine ⟨l, rfl, ⟨_, SqL.of upd_same⟩, fun D nD => lc_list (K := K) (a := l) (xs := xs) (fun i H' => ∃ cs : List Int, H' = upd (upd H l (.lst xs)) D (.lst (cs.map V.int)) ∧ cs.length ≤ i) ⟨[], rfl, Nat.le_refl _⟩ (fun i H' _ ⟨cs, e, _⟩ => by rw [e]; exact SqL.of (Ext.upd nD _ _ upd_same)) ?_ ?_⟩
    · rintro i y H' hy ⟨cs, rfl, hc⟩
      obtain ⟨z, rfl⟩ := all y (List.mem_of_getElem? hy)
      have hi := (List.getElem?_eq_some_iff.mp hy).1
      refine ⟨rfl, _, rfl, .inl ⟨_, rfl, _, rfl, _, _, rfl, rfl, ⟨by decide, by decide, by decide⟩, _, _, rfl, rfl, _, rfl, ?_⟩⟩
      refine ite2 (fun _ => ?_) (fun _ => ⟨cs, rfl, by omega⟩)
      refine ⟨_, rfl, .inl ⟨_, rfl, _, rfl, ?_⟩⟩
      refine ⟨_, upd_same, by rw [List.length_map]; exact small1000 (by omega), cs ++ [if z < 0 then -z else z], ?_, by rw [List.length_append]; exact Nat.succ_le_succ hc⟩
      rw [upd_upd, List.map_append]
      rfl
    · rintro H' ⟨cs, rfl, hc⟩
      have e1 : Ext H (upd (upd H l (.lst xs)) D (.lst (cs.map V.int))) := (Ext.upd nl).trans (Ext.upd nD)
      have gD : (upd (upd H l (.lst xs)) D (.lst (cs.map V.int))) D = some (.lst (cs.map V.int)) := upd_same
      generalize upd (upd H l (.lst xs)) D (.lst (cs.map V.int)) = H1 at *
      refine ⟨_, rfl, 63, rfl, a, _, rfl, hS.ext e1, fun l2 nl2 => ?_⟩
      have e2 := Ext.upd (o := .lst (cutV (ns.map V.int) Option.none (some 63))) nl2
      refine ⟨l2, rfl, ⟨_, SqL.of upd_same⟩, for_list (K := K) (a := l2) (xs := cutV (ns.map V.int) Option.none (some 63)) (fun i σ' H' => (∃ (z : Int) (v : Option V), σ' = [some (.ref a), some (.ref D), some (.int z), v]) ∧ H' = upd H1 l2 (.lst (cutV (ns.map V.int) Option.none (some 63)))) ⟨⟨142, _, rfl⟩, rfl⟩ (fun i σ' H' _ h => by rw [h.2]; exact SqL.of upd_same) ?_ ?_⟩
      · rintro i y σ' H' hy ⟨⟨z, v, rfl⟩, rfl⟩
        obtain ⟨c, hc'⟩ : ∃ c, y = V.int c := by
          have hy := List.mem_of_mem_drop (List.mem_of_mem_take (List.mem_of_getElem? hy))
          obtain ⟨i, _, rfl⟩ := List.mem_map.mp hy
          exact ⟨i, rfl⟩
        subst hc'
        refine ⟨_, rfl, _, _, rfl, rfl, .inr ⟨by decide, by decide⟩, ?_⟩
        refine ⟨_, rfl, .inl ⟨_, rfl, _, rfl, _, _, rfl, rfl, .inr ⟨by decide, by decide⟩, _, _, rfl, rfl, _, rfl, .inl ⟨_, rfl, _, _, rfl, rfl, .inr ⟨_, rfl, _, _, rfl, rfl, _, _, rfl, rfl, .inl ⟨_, rfl, _, _, rfl, rfl, (by show (0 : Int) < 2147483629; decide), ?_⟩⟩⟩⟩⟩
        exact ⟨⟨_, _, rfl⟩, rfl⟩
      · rintro σ' H' ⟨⟨z, v, rfl⟩, rfl⟩
        refine ⟨_, rfl, _, rfl, _, rfl, a, _, rfl, .inl ((hS.ext e1).ext e2), (by show 4 ≤ sizeLine; decide), fun r nr => ?_⟩
        exact k r D _ (fun b o hb => Ext.upd nr _ _ (e2 _ _ (e1 _ _ hb))) ⟨cs, z, _, 0, upd_same, Ext.upd nr _ _ (e2 _ _ gD)⟩
end
end O42

set_option Elab.async false
set_option linter.all false
set_option maxRecDepth 100000
set_option maxHeartbeats 4000000
set_option pp.maxSteps 60
/-! A drawn tower grown. -/
namespace O42
open PySem L2
abbrev sGrown : Stmt := top 64
/-- a test whose answers go on with what they leave alone -/
def tCutT (t : L2.TT) : L2.TT := fun σ H Q => ∃ M : Bool → Hp → Prop, t σ H M ∧ ∀ c H1, M c H1 → Q c H1
theorem pt_cutT {X : Cx} {e : Expr} {t : L2.TT} (h : PT X e t) : PT X e (tCutT t) := ⟨fun pins s σ H Q I hw => by
  obtain ⟨M, hm, k⟩ := hw
  refine wpAny_mono (h.run pins s σ H M I hm) (fun c s1 ⟨H1, I1, m⟩ => ⟨H1, I1, k _ _ m⟩) fun _ _ z => z⟩
/-! ### what is free -/
def fr (i : Nat) (ps : List Int) : List Int := ((List.range i).map fun k : Nat => (0 + (k : Int))).filter fun p => !decide (p ∈ ps)
theorem fr_succ (i : Nat) (ps : List Int) : fr (i + 1) ps = fr i ps ++ (if (0 + (i : Int)) ∈ ps then [] else [0 + (i : Int)]) := by
  unfold fr
  rw [List.range_succ, List.map_append, List.filter_append]
  congr 1
  simp only [List.map_cons, List.map_nil]
  by_cases h : (0 + (i : Int)) ∈ ps
  · rw [if_pos h, List.filter_cons, decide_eq_true h]
    rfl
  · rw [if_neg h, List.filter_cons, decide_eq_false h]
    rfl
theorem fr_mem {i : Nat} {ps : List Int} {p : Int} (h : p ∈ fr i ps) : 0 ≤ p ∧ p < i ∧ p ∉ ps := by
  unfold fr at h
  obtain ⟨h1, h2⟩ := List.mem_filter.mp h
  obtain ⟨k, hk, rfl⟩ := List.mem_map.mp h1
  have := List.mem_range.mp hk
  have h3 : ¬ (0 + (k : Int)) ∈ ps := fun z => by
    rw [decide_eq_true z] at h2
    cases h2
  exact ⟨by omega, by omega, h3⟩
theorem fr_le {i : Nat} {ps : List Int} : (fr i ps).length ≤ i := by
  unfold fr
  refine Nat.le_trans (List.length_filter_le _ _) ?_
  rw [List.length_map, List.length_range]
  exact Nat.le_refl _
theorem many_left : ∀ (ps R : List Int), R.Nodup → R.length ≤ (R.filter fun p => !decide (p ∈ ps)).length + ps.length
  | [], R, _ => by
    rw [List.filter_eq_self.mpr fun x _ => by simp]
    exact Nat.le_add_right _ _
  | p :: ps, R, nd => by
    have e : (R.filter fun x => !decide (x ∈ p :: ps)) = (R.filter (fun x => x != p)).filter fun x => !decide (x ∈ ps) := by
      rw [List.filter_filter]
      refine List.filter_congr fun x _ => ?_
      by_cases h : x = p <;> by_cases g : x ∈ ps <;> simp [h, g]
    have e2 := nd.erase_eq_filter p
    have ih := many_left ps (R.filter (fun x => x != p)) (by rw [← e2]; exact nd.erase p)
    have l1 : R.length ≤ (R.filter (fun x => x != p)).length + 1 := by
      rw [← e2, List.length_erase]
      split <;> omega
    rw [e, List.length_cons]
    omega
theorem fr_many {ps : List Int} : 30 ≤ (fr 30 ps).length + ps.length := by
  have nd : ((List.range 30).map fun k : Nat => (0 + (k : Int))).Nodup := by decide +kernel
  have := many_left ps _ nd
  rw [List.length_map, List.length_range] at this
  exact this
theorem inV_ints (p : Int) : ∀ ps : List Int, inV (.int p) (ps.map V.int) = decide (p ∈ ps)
  | [] => by simp [inV]
  | q :: ps => by
    have ih := inV_ints p ps
    unfold inV at ih ⊢
    rw [List.map_cons, List.any_cons, ih]
    show ((q == p) || _) = _
    by_cases h : q = p
    · simp [h]
    · have h' : ¬ p = q := fun e => h e.symm
      simp [h, h']
theorem flat_ints (ps : List Int) : (ps.map V.int).all flatV = true := List.all_eq_true.mpr fun y hy => by
  obtain ⟨i, _, rfl⟩ := List.mem_map.mp hy
  rfl
theorem erase_map : ∀ (l : List Int) (k : Nat), (l.map V.int).eraseIdx k = (l.eraseIdx k).map V.int
  | [], k => rfl
  | x :: l, 0 => rfl
  | x :: l, k + 1 => by
    rw [List.map_cons, List.eraseIdx_cons_succ, List.eraseIdx_cons_succ, erase_map l k]
    rfl
theorem rise_of {ns : List Int} (h : ns.Pairwise (· ≤ ·)) (nd : ns.Nodup) : ns.Pairwise (· < ·) := by
  have := List.Pairwise.and h nd
  exact this.imp fun ⟨x, y⟩ => by omega
/-- what stands in the list of cells and in the list of points -/
structure GrH (L G : Addr) (as : List Addr) (ll : List (List Int)) (ps : List Int) (H : Hp) : Prop where
  l : H L = some (.lst (as.map V.ref))
  g : H G = some (.lst (ps.map V.int))
  pt : PT2 H as ll
theorem GrH.go {a c L G : Addr} {as : List Addr} {ll : List (List Int)} {ps : List Int} {H H' : Hp} (nL : L ≠ a ∧ L ≠ c) (nG : G ≠ a ∧ G ≠ c) (bag : BagAt H a c) (go : Go a c H H') (h : GrH L G as ll ps H) : GrH L G as ll ps H' :=
  ⟨go.2 _ _ nL.1 nL.2 h.1, go.2 _ _ nG.1 nG.2 h.2, PT2.mono (fun _ _ z => Go.tup bag go z) h.3⟩
theorem GrH.ext {L G : Addr} {as : List Addr} {ll : List (List Int)} {ps : List Int} {H H' : Hp} (e : Ext H H') (h : GrH L G as ll ps H) : GrH L G as ll ps H' := ⟨e _ _ h.1, e _ _ h.2, PT2.mono (fun _ _ z => e _ _ z) h.3⟩
theorem GrH.put {L G D : Addr} {as : List Addr} {ll : List (List Int)} {ps : List Int} {H : Hp} {o : HO} {xs : List V} (hD : H D = some (.lst xs)) (nL : L ≠ D) (nG : G ≠ D) (h : GrH L G as ll ps H) : GrH L G as ll ps (upd H D o) :=
  ⟨by rw [upd_ne nL]; exact h.1, by rw [upd_ne nG]; exact h.2, PT2.mono (fun b ys z => by rw [upd_ne (lst_ne hD z)]; exact z) h.3⟩
theorem Go.none_back {a c b : Addr} {H H' : Hp} (g : Go a c H H') (nb : H' b = none) : H b = none := by
  cases q : H b with
  | none => rfl
  | some o =>
    obtain ⟨n1, n2⟩ := g.1.ne nb
    rw [g.2 _ _ n1 n2 q] at nb
    cases nb
theorem seqI {n : Nat} {r : Int} (h0 : 0 ≤ r) (h : r < n) : seqIndex? r n = some r.toNat := by
  unfold seqIndex?
  have c1 : ¬ r < 0 := by omega
  simp only [c1, if_false]
  rw [if_pos (by simp; omega)]
def spGrown : Sp := fun vs H Q _ => ∃ (a c : Addr) (m : Nat), vs = [.ref a, .int (m : Int)] ∧ BagAt H a c ∧ m ≤ 40 ∧
  ∀ (l : Addr) (as : List Addr) (ll : List (List Int)) (H' : Hp), Go a c H H' → l ≠ a → l ≠ c → H' l = some (.lst (as.map V.ref)) → PT2 H' as ll → GoodT ll → as.length ≤ m → Q (.ref l) H'
section
variable {P : Program} {w : World} {K : PySem.W.Frag} {mg : Str → Option Value} {base : Heap}
abbrev grownN : List Str := ["_law_bag_here", "_law_many", "_law_cells", "_law_points", "_law_width", "_law_turn", "_law_pool", "_law_size", "_law_cell", "_law_free", "_law_point", "_law_face"]
theorem scGrown : FnScope grownN ["_law_bag_here", "_law_many"] (defScope sGrown) := ⟨rfl, rfl, rfl, by decide +kernel, rfl, by decide +kernel, by decide +kernel⟩
theorem ok_grown {f : Addr} {fd : FuncData} (F : L2.Fun K "_law_grown" "_law_grown" sGrown f fd) (T : Gb mg) (cP : Cal P w K mg base 1 "_law_pick" spPick []) (cS : Cal P w K mg base 2 "_law_some" spSome []) (cF : Cal P w K mg base 1 "_law_faces" spFaces []) : FnOk P w K mg base CX0 3 f fd ["_law_bag_here", "_law_many"] spGrown := by
  refine F.ok scGrown (fun vs H Q E h => ?_) (fun cdv A outer s H vs Q E hr h => ?_)
  · obtain ⟨a, c, m, rfl, _⟩ := h
    rfl
  · obtain ⟨a, c, m, rfl, bag, m40, k⟩ := h
    refine ⟨_, pss_cons (ps_asg (pe_tup (pa_cons (pe_lst pa_nil) (pa_cons (pe_lst pa_nil) pa_nil))) (pg_tup rfl (pgs_cons (pg_name (i := 2) scGrown.nd rfl (Or.inr rfl)) (pgs_cons (pg_name (i := 3) scGrown.nd rfl (Or.inr rfl)) pgs_nil))))
      (pss_cons (ps_set (i := 4) scGrown.nd rfl (Or.inl rfl) (pe_op op_add pe_int (C8.pe_c cP hr (by decide) (by rfl) (pa_cons (pv 0) (pa_cons pe_int pa_nil)))))
      (pss_cons (ps_for PassesOwn.never rfl (pi_range1 (by rfl) T.rng (pa_cons (pe_op op_mul pe_int (pv 1)) pa_nil)) (pg_name (i := 5) scGrown.nd rfl (Or.inl rfl))
        (pss_one (ps_if (pt_cmpR op_lt (pe_callB call_len_seq (by rfl) T.len PySem.boot_len (pa_cons (pv 2) pa_nil)) (pv 1) (nomark _))
          (pss_cons (ps_par (i := 6) (j := 7) rfl scGrown.nd rfl rfl (by decide) rfl rfl (pa_cons (pe_callTy call_list_of (by rfl) T.list (by decide +kernel) (pa_cons (pv 3) pa_nil)) (pa_cons (pe_op op_add pe_int (C8.pe_c cP hr (by decide) (by rfl) (pa_cons (pv 0) (pa_cons pe_int pa_nil)))) pa_nil)) (by rfl))
          (C8.pss_cut (ps_while PassesOwn.never (pt_cmpR op_gt (pe_callB call_len_seq (by rfl) T.len PySem.boot_len (pa_cons (pv 6) pa_nil)) (pv 7) (nomark _))
            (pss_one (ps_expr (pe_bm PySem.F.plainAttrs_list PySem.F.slot_list_pop PySem.F.type_list_pop mt_popAt (pv 6) (pa_cons (C8.pe_c cP hr (by decide) (by rfl) (pa_cons (pv 0) (pa_cons (pe_callB call_len_seq (by rfl) T.len PySem.boot_len (pa_cons (pv 6) pa_nil)) pa_nil))) pa_nil)))))
          (pss_cons (ps_set (i := 8) scGrown.nd rfl (Or.inl rfl) (pe_callTy call_tuple_of (by rfl) T.tup (by decide +kernel) (pa_cons (pe_callB cr_sorted (by rfl) T.sorted (by decide +kernel) (pa_cons (pv 6) pa_nil)) pa_nil)))
          (C8.pss_cut (ps_if (pt_cutT (PW.pt (pw_or (PW.pt (pw_and (pt_cmpR op_lt (pe_callB call_len_seq (by rfl) T.len PySem.boot_len (pa_cons (pv 3) pa_nil)) (pv 4) (nomark _)) (pw_and1 (pt_cmpR op_eq (C8.pe_c cP hr (by decide) (by rfl) (pa_cons (pv 0) (pa_cons pe_int pa_nil))) pe_int (nomark _)))))
              (pw_or1 (pt_cmpR op_eq (pe_callB call_len_seq (by rfl) T.len PySem.boot_len (pa_cons (pv 3) pa_nil)) pe_int (nomark _))))))
            (pss_cons (ps_setLc (i := 9) (own := [("_law_point", 10)]) (g := gName 10) (tt := tTest (tOp (rIn K true) (tVar 10) (tVar 3))) (te := tVar 10) rfl scGrown.nd rfl rfl (sw_true rfl rfl rfl (by decide +kernel)) (pi_range1 (by rfl) T.rng (pa_cons pe_int pa_nil)) (blkOk_by (N := grownN) (sc := defScope sGrown) (by decide +kernel))
                (fun _ _ _ _ _ => pg_name (i := 10) scGrown.nd rfl (Or.inl rfl)) (fun _ _ _ _ _ => pts_one (pt_cmpR op_notIn_seq (pv 10) (pv 3) (by rfl))) (fun _ _ _ _ _ => pv 10))
            (pss_cons (ps_set (i := 8) scGrown.nd rfl (Or.inl rfl) (pe_tup (pa_cons (pe_ix ix_list (pv 9) (C8.pe_c cP hr (by decide) (by rfl) (pa_cons (pv 0) (pa_cons (C8.pe_c cS hr (by decide) (by rfl) (pa_cons (pv 0) (pa_cons (pe_lst (pa_cons pe_int (pa_cons pe_int (pa_cons (pe_callB call_len_seq (by rfl) T.len PySem.boot_len (pa_cons (pv 9) pa_nil)) pa_nil)))) pa_nil))) pa_nil))) (fun _ _ => rfl)) pa_nil)))
            (pss_one (ps_expr (pe_bm PySem.F.plainAttrs_list PySem.F.slot_list_append PySem.F.type_list_append mt_append (pv 3) (pa_cons (pe_ix ix_tup (pv 8) pe_int (fun _ _ => rfl)) pa_nil)))))) pss_nil)
          (pss_one (ps_if (PW.pt (pw_and (pt_cmpR (op_notInD (u65 hr)) (pv 8) (pv 2) (by rfl)) (pw_and1 (pt_val (pe_callB (cr_all rfl) (by rfl) T.all (by decide +kernel) (pa_cons (pe_lc (own := [("_law_face", 11)]) (g := gName 11) (tt := tYes) (te := tOp (rInD K) (tVar 11) (tVar 2)) rfl scGrown.nd (pi_list (C8.pe_c cF hr (by decide) (by rfl) (pa_cons (pv 8) pa_nil))) (blkOk_by (N := grownN) (sc := defScope sGrown) (by decide +kernel))
                (fun _ _ _ _ _ => pg_name (i := 11) scGrown.nd rfl (Or.inl rfl)) (fun _ _ _ _ _ => pts_nil) (fun _ _ _ _ _ => pe_cmpR (op_inD (u65 hr)) (pv 11) (pv 2) (by rfl))) pa_nil))))))
            (pss_one (ps_expr (pe_bm PySem.F.plainAttrs_list PySem.F.slot_list_append PySem.F.type_list_append mt_append (pv 2) (pa_cons (pv 8) pa_nil)))) pss_nil)))))) pss_nil)))
      (pss_one (ps_ret (pv 2))))), ?_⟩
    refine ⟨Nat.zero_le _, fun L nL0 => ⟨Nat.zero_le _, fun G nG0 => ⟨by show 2 ≤ sizeLine; decide, fun t0 nt0 => ⟨t0, _, rfl, SqT.of upd_same, rfl, _, _, rfl, _, _, rfl, rfl, ?_⟩⟩⟩⟩
    have nL1 : H L = Option.none := nL0
    have nG1 : H G = Option.none := none_back (Ext.upd nL0) nG0
    have neLG : L ≠ G := ne_of_none upd_same nG0
    have nL := bag.ne nL1
    have nG := bag.ne nG1
    have go0 : Go a c H (upd (upd (upd H L (.lst [])) G (.lst [])) t0 (.tup [.ref L, .ref G])) := Go.of_ext bag (((Ext.upd nL0).trans (Ext.upd nG0)).trans (Ext.upd nt0))
    have gr0 : GrH L G [] [] [] (upd (upd (upd H L (.lst [])) G (.lst [])) t0 (.tup [.ref L, .ref G])) := ⟨Ext.upd nt0 _ _ (Ext.upd nG0 _ _ upd_same), Ext.upd nt0 _ _ upd_same, .nil⟩
    generalize upd (upd (upd H L (.lst [])) G (.lst [])) t0 (.tup [.ref L, .ref G]) = H0 at *
    refine ⟨_, rfl, a, c, 6, rfl, go0.1, by decide, by decide, fun r1 H1 a1 b1 g1 => ⟨_, _, rfl, rfl, ?_⟩⟩
    have go1 := go0.trans g1
    have gr1 := gr0.go nL nG go0.1 g1
    obtain ⟨wd, ewd⟩ : ∃ wd, wd = 2 + r1 := ⟨_, rfl⟩
    show gName 4 (V.int (2 + r1)) _ _ _
    rw [← ewd]
    have w7 : wd ≤ 7 := by omega
    refine ⟨_, rfl, _, _, rfl, rfl, .inl ⟨by decide, by decide⟩, _, rfl, by omega, by omega, for_range (lo := 0) (n := (5 * (m : Int)).toNat) (fun i σ' H' => (∃ v5 v6 v7 v8 v9 : Option V, σ' = [some (.ref a), some (.int (m : Int)), some (.ref L), some (.ref G), some (.int wd), v5, v6, v7, v8, v9, Option.none, Option.none]) ∧ Go a c H H' ∧ ∃ as ll ps, GrH L G as ll ps H' ∧ GoodT ll ∧ as.length ≤ m ∧ ps.Nodup ∧ (∀ p ∈ ps, 0 ≤ p ∧ p ≤ 29) ∧ ps.length ≤ 7 ∧ ((i = 0 ∧ ps = [] ∧ as = []) ∨ (1 ≤ as.length ∧ 1 ≤ ps.length))) ?_ ?_ ?_⟩
    · exact ⟨⟨_, _, _, _, _, rfl⟩, go1, [], [], [], gr1, True.intro, Nat.zero_le _, List.nodup_nil, (fun p h => by cases h), Nat.zero_le _, .inl ⟨rfl, rfl, rfl⟩⟩
    · rintro i σ' H2 hi ⟨⟨v5, v6, v7, v8, v9, rfl⟩, go2, as, ll, ps, gr2, gd, lm, nd, bd, l7, ini⟩
      refine ⟨_, rfl, L, _, rfl, .inl (SqL.of gr2.l), _, rfl, _, _, rfl, rfl, _, rfl, ?_⟩
      refine ite2 (fun q => ?_) (fun q => ?_)
      · have lm' : as.length < m := by
          have := of_decide_eq_true q
          rw [List.length_map] at this
          omega
        refine ⟨_, rfl, G, _, rfl, .inl (SqL.of gr2.g), fun D nD => ?_⟩
        have nD1 := go2.none_back nD
        have nDac := bag.ne nD1
        have go3 := Go.put (o := .lst (ps.map V.int)) bag go2 nD1
        have neLD : L ≠ D := ne_of_none gr2.l nD
        have neGD : G ≠ D := ne_of_none gr2.g nD
        refine ⟨_, rfl, a, c, 3, rfl, go3.1, by decide, by decide, fun r2 H4 a2 b2 g4 => ⟨_, _, rfl, rfl, _, _, rfl, ?_⟩⟩
        have go4 := go3.trans g4
        have gr4 := (gr2.ext (Ext.upd nD)).go nL nG go3.1 g4
        have hD4 := g4.2 _ _ nDac.1 nDac.2 (upd_same (H := H2) (a := D) (o := .lst (ps.map V.int)))
        refine ⟨fun σ' H' => σ' = [some (.ref a), some (.int (m : Int)), some (.ref L), some (.ref G), some (.int wd), some (.int (0 + (i : Int))), some (.ref D), some (.int (2 + r2)), v8, v9, Option.none, Option.none] ∧ Go a c H H' ∧ GrH L G as ll ps H' ∧ ∃ ds : List Int, H' D = some (.lst (ds.map V.int)) ∧ ds.Sublist ps ∧ ds.length ≤ 4 ∧ (1 ≤ ps.length → 1 ≤ ds.length), ?_, ?_⟩
        · refine ⟨fun n σ' H' => σ' = [some (.ref a), some (.int (m : Int)), some (.ref L), some (.ref G), some (.int wd), some (.int (0 + (i : Int))), some (.ref D), some (.int (2 + r2)), v8, v9, Option.none, Option.none] ∧ Go a c H H' ∧ GrH L G as ll ps H' ∧ ∃ ds : List Int, H' D = some (.lst (ds.map V.int)) ∧ ds.Sublist ps ∧ (1 ≤ ps.length → 1 ≤ ds.length) ∧ ds.length = n, ⟨ps.length, rfl, go4, gr4, ps, hD4, List.Sublist.refl _, id, rfl⟩, ?_⟩
          rintro n σ' H5 ⟨rfl, go5, gr5, ds, hD5, sub, one, rfl⟩
          refine ⟨_, rfl, D, _, rfl, .inl (SqL.of hD5), _, rfl, _, _, rfl, rfl, _, rfl, ?_⟩
          have ld := sub.length_le
          refine ite2 (fun q => ?_) (fun q => ?_)
          · have big : 2 < ds.length := by
              have := of_decide_eq_true q
              rw [List.length_map] at this
              omega
            refine ⟨fun σ' H' => ∃ m', m' < ds.length ∧ σ' = [some (.ref a), some (.int (m : Int)), some (.ref L), some (.ref G), some (.int wd), some (.int (0 + (i : Int))), some (.ref D), some (.int (2 + r2)), v8, v9, Option.none, Option.none] ∧ Go a c H H' ∧ GrH L G as ll ps H' ∧ ∃ ds : List Int, H' D = some (.lst (ds.map V.int)) ∧ ds.Sublist ps ∧ (1 ≤ ps.length → 1 ≤ ds.length) ∧ ds.length = m', fun σ' H' q => q, ?_⟩
            refine ⟨_, rfl, .inl ⟨rfl, _, SqL.of hD5⟩, _, rfl, _, rfl, D, _, rfl, .inl (SqL.of hD5), a, c, _, rfl, go5.1, by rw [List.length_map]; omega, by rw [List.length_map]; omega, fun r H6 h0 hlt g6 => ?_⟩
            rw [List.length_map] at hlt
            have lt : r.toNat < ds.length := by omega
            have hy : (ds.map V.int)[r.toNat]? = some (V.int ds[r.toNat]) := by rw [List.getElem?_map, List.getElem?_eq_getElem lt]; rfl
            have hD6 := g6.2 _ _ nDac.1 nDac.2 hD5
            refine ⟨D, _, r, r.toNat, _, rfl, rfl, hD6, by omega, by omega, seqI h0 (by rw [List.length_map]; exact hlt), hy, ?_⟩
            have el : (ds.eraseIdx r.toNat).length = ds.length - 1 := by rw [List.length_eraseIdx, if_pos lt]
            refine ⟨_, by omega, rfl, Go.put bag (go5.trans g6) nD1, (gr5.go nL nG go5.1 g6).put hD6 neLD neGD, ds.eraseIdx r.toNat, ?_, (List.eraseIdx_sublist _ _).trans sub, fun _ => by omega, el⟩
            rw [upd_same, erase_map]
          · have small : ds.length ≤ 4 := by
              have : ¬ (2 + r2) < ((ds.map V.int).length : Int) := fun z => q (decide_eq_true z)
              rw [List.length_map] at this
              omega
            exact ⟨rfl, go5, gr5, ds, hD5, sub, small, one⟩
        · rintro σ' H5 ⟨rfl, go5, gr5, ds, hD5, sub, small, one⟩
          refine ⟨_, rfl, D, ds, rfl, SqL.of hD5, by omega, fun ns p pm le np => ⟨p, _, rfl, .inl ⟨SqL.of upd_same, fun t nt => ?_⟩⟩⟩
          have e6 := (Ext.upd (o := .lst (ns.map V.int)) np).trans (Ext.upd (o := .tup (ns.map V.int)) nt)
          have ht6 : (upd (upd H5 p (.lst (ns.map V.int))) t (.tup (ns.map V.int))) t = some (.tup (ns.map V.int)) := upd_same
          generalize upd (upd H5 p (.lst (ns.map V.int))) t (.tup (ns.map V.int)) = H6 at *
          have go6 := go5.trans (Go.of_ext go5.1 e6)
          have gr6 := gr5.ext e6
          have ln := pm.length_eq
          have low : ∀ n ∈ ns, 0 ≤ n ∧ n ≤ 29 := fun n hn => bd n (sub.subset (pm.subset hn))
          have ris : ns.Pairwise (· < ·) := rise_of le (pm.nodup_iff.mpr (nd.sublist sub))
          refine ⟨fun σ' H' => ∃ (v6 v7 v9 : Option V) (t : Addr) (ns ps : List Int), σ' = [some (.ref a), some (.int (m : Int)), some (.ref L), some (.ref G), some (.int wd), some (.int (0 + (i : Int))), v6, v7, some (.ref t), v9, Option.none, Option.none] ∧ Go a c H H' ∧ GrH L G as ll ps H' ∧ ps.Nodup ∧ (∀ p ∈ ps, 0 ≤ p ∧ p ≤ 29) ∧ ps.length ≤ 7 ∧ 1 ≤ ps.length ∧ H' t = some (.tup (ns.map V.int)) ∧ CellL ns ∧ (as = [] → ns.length = 1), ?_, ?_⟩
          · refine ⟨fun b H' => Go a c H H' ∧ GrH L G as ll ps H' ∧ H' t = some (.tup (ns.map V.int)) ∧ (b = true → ps.length < 7) ∧ (b = false → 1 ≤ ps.length), ?_, ?_⟩
            · have last : ∀ H8, Go a c H H8 → GrH L G as ll ps H8 → H8 t = some (.tup (ns.map V.int)) → ∀ b : Bool, b = decide (V.int ((ps.map V.int).length : Int) = V.int 0) → Go a c H H8 ∧ GrH L G as ll ps H8 ∧ H8 t = some (.tup (ns.map V.int)) ∧ (b = true → ps.length < 7) ∧ (b = false → 1 ≤ ps.length) := by
                rintro H8 go8 gr8 ht8 b rfl
                refine ⟨go8, gr8, ht8, fun z => ?_, fun z => ?_⟩
                · have := of_decide_eq_true z
                  injection this with this
                  rw [List.length_map] at this
                  omega
                · have := of_decide_eq_false z
                  rw [List.length_map] at this
                  cases e : ps.length with
                  | zero => exact absurd (by rw [e]; rfl) this
                  | succ n => omega
              refine ⟨_, rfl, G, _, rfl, .inl (SqL.of gr6.g), _, rfl, _, _, rfl, rfl, _, rfl, ?_⟩
              refine ite2 (fun q => ?_) (fun q => ?_)
              · refine ⟨_, rfl, a, c, 3, rfl, go6.1, by decide, by decide, fun r3 H7 a3 b3 g7 => ⟨rfl, _, rfl, ?_⟩⟩
                have go7 := go6.trans g7
                have gr7 := gr6.go nL nG go6.1 g7
                have ht7 := Go.tup go6.1 g7 ht6
                refine ite2 (fun q2 => ?_) (fun q2 => ?_)
                · refine ⟨go7, gr7, ht7, fun _ => ?_, fun z => Bool.noConfusion z⟩
                  have := of_decide_eq_true q
                  rw [List.length_map] at this
                  omega
                · exact ⟨_, rfl, G, _, rfl, .inl (SqL.of gr7.g), rfl, _, rfl, last H7 go7 gr7 ht7 _ rfl⟩
              · exact iteF ⟨_, rfl, G, _, rfl, .inl (SqL.of gr6.g), rfl, _, rfl, last H6 go6 gr6 ht6 _ rfl⟩
            · rintro b H7 ⟨go7, gr7, ht7, hT, hF⟩
              cases b with
              | false =>
                have p1 := hF rfl
                refine iteF ⟨_, _, _, t, ns, ps, rfl, go7, gr7, nd, bd, l7, p1, ht7, ⟨by have := one p1; omega, by omega, low, ris⟩, fun e => ?_⟩
                rcases ini with ⟨_, e2, _⟩ | ⟨e2, _⟩
                · rw [e2] at p1
                  exact absurd p1 (by decide)
                · rw [e] at e2
                  exact absurd e2 (by decide)
              | true =>
                have p7 := hT rfl
                refine iteT ⟨30, rfl, by decide, by decide, fun D2 nD2 => lc_range (lo := 0) (n := 30) (fun j H'' => H'' = upd H7 D2 (.lst ((fr j ps).map V.int))) rfl ?_ ?_⟩
                · rintro j _ hj rfl
                  refine ⟨rfl, ?_⟩
                  refine ⟨_, rfl, _, rfl, G, _, rfl, .inl (SqL.of (Ext.upd nD2 _ _ gr7.g)), rfl, flat_ints _, _, rfl, ?_⟩
                  have fl := fr_le (i := j) (ps := ps)
                  refine ite2 (fun q => ?_) (fun q => ?_)
                  · have q : (!inV (V.int (0 + (j : Int))) (ps.map V.int)) = true := q
                    rw [inV_ints] at q
                    have h : ¬ (0 + (j : Int)) ∈ ps := fun z => by rw [decide_eq_true z] at q; cases q
                    refine ⟨_, rfl, _, upd_same, small1000 (by rw [List.length_map]; omega), ?_⟩
                    rw [upd_upd, fr_succ, if_neg h, List.map_append]
                    rfl
                  · have q : ¬ (!inV (V.int (0 + (j : Int))) (ps.map V.int)) = true := q
                    rw [inV_ints] at q
                    have h : (0 + (j : Int)) ∈ ps := Classical.byContradiction fun z => q (by rw [decide_eq_false z]; rfl)
                    rw [fr_succ, if_pos h, List.append_nil]
                · rintro _ rfl
                  have e8 : Ext H7 (upd H7 D2 (.lst ((fr 30 ps).map V.int))) := Ext.upd nD2
                  have hD2 : (upd H7 D2 (.lst ((fr 30 ps).map V.int))) D2 = some (.lst ((fr 30 ps).map V.int)) := upd_same
                  generalize upd H7 D2 (.lst ((fr 30 ps).map V.int)) = H8 at *
                  have go8 := go7.trans (Go.of_ext go7.1 e8)
                  have gr8 := gr7.ext e8
                  have nD2ac := go7.1.ne nD2
                  have lf := fr_many (ps := ps)
                  have lf2 := fr_le (i := 30) (ps := ps)
                  refine ⟨_, rfl, _, rfl, _, rfl, _, rfl, D2, _, rfl, .inl (SqL.of hD2), by show 3 ≤ sizeLine; decide, fun u nu => ?_⟩
                  have nuac := go8.1.ne nu
                  have e9 := Ext.upd (o := .lst [.int 1, .int 3, .int (((fr 30 ps).map V.int).length : Int)]) nu
                  have go9 := go8.trans (Go.of_ext go8.1 e9)
                  refine ⟨a, c, u, _, rfl, go9.1, nuac.1, nuac.2, upd_same, (fun z => nomatch z), (by show 3 ≤ 1000; decide), fun x H10 hx g10 => ?_⟩
                  have go10 := go9.trans g10
                  obtain ⟨z, rfl, z1, z2⟩ : ∃ z : Int, x = .int z ∧ 1 ≤ z ∧ z ≤ (fr 30 ps).length := by
                    rw [List.length_map] at hx
                    rcases List.mem_cons.mp hx with rfl | hx
                    · exact ⟨1, rfl, by decide, by omega⟩
                    rcases List.mem_cons.mp hx with rfl | hx
                    · exact ⟨3, rfl, by decide, by omega⟩
                    · exact ⟨_, List.mem_singleton.mp hx, by omega, Int.le_refl _⟩
                  refine ⟨a, c, z, rfl, go10.1, by omega, by omega, fun r H11 h0 hlt g11 => ?_⟩
                  have go11 := go10.trans g11
                  have gr11 := ((gr8.ext e9).go nL nG go9.1 g10).go nL nG go10.1 g11
                  have hD11 := g11.2 _ _ nD2ac.1 nD2ac.2 (g10.2 _ _ nD2ac.1 nD2ac.2 (e9 _ _ hD2))
                  have lt : r.toNat < (fr 30 ps).length := by omega
                  have hy : ((fr 30 ps).map V.int)[r.toNat]? = some (V.int (fr 30 ps)[r.toNat]) := by rw [List.getElem?_map, List.getElem?_eq_getElem lt]; rfl
                  obtain ⟨f0, f29, fno⟩ := fr_mem (List.getElem_mem lt)
                  generalize (fr 30 ps)[r.toNat] = y at *
                  refine ⟨D2, _, r, _, rfl, rfl, SqL.of hD11, at_of (j := r.toNat) (by omega) hy, by show 1 ≤ sizeLine; decide, fun t2 nt2 => ?_⟩
                  have e12 := Ext.upd (o := .tup [V.int y]) nt2
                  have ht12 : (upd H11 t2 (.tup [V.int y])) t2 = some (.tup [V.int y]) := upd_same
                  generalize upd H11 t2 (.tup [V.int y]) = H12 at *
                  have go12 := go11.trans (Go.of_ext go11.1 e12)
                  have gr12 := gr11.ext e12
                  refine ⟨_, rfl, .inl ⟨rfl, _, SqL.of gr12.g⟩, _, rfl, _, _, _, _, rfl, rfl, SqT.of ht12, rfl, G, _, _, rfl, rfl, gr12.g, small1000 (by rw [List.length_map]; omega), ?_⟩
                  have e1 : ps.map V.int ++ [V.int y] = (ps ++ [y]).map V.int := by rw [List.map_append]; rfl
                  rw [e1]
                  refine ⟨_, _, _, t2, [y], ps ++ [y], rfl, Go.put bag go12 nG1, ⟨by rw [upd_ne neLG]; exact gr12.l, upd_same, PT2.mono (fun b ys z => by rw [upd_ne (lst_ne gr12.g z)]; exact z) gr12.pt⟩, ?_, ?_, ?_, ?_, ?_, ⟨(by show 1 ≤ 1; decide), (by show 1 ≤ 4; decide), ?_, ?_⟩, fun _ => rfl⟩
                  · refine List.nodup_append.mpr ⟨nd, by simp, fun x hx z hz => ?_⟩
                    rw [List.mem_singleton.mp hz]
                    exact fun e => fno (e ▸ hx)
                  · intro p hp
                    rcases List.mem_append.mp hp with hp | hp
                    · exact bd p hp
                    · rw [List.mem_singleton.mp hp]
                      omega
                  · rw [List.length_append]
                    exact p7
                  · rw [List.length_append]
                    exact Nat.le_add_left _ _
                  · rw [upd_ne (lst_ne gr12.g ht12)]
                    exact ht12
                  · intro n hn
                    rw [List.mem_singleton.mp hn]
                    omega
                  · simp
          · rintro σ' H8 ⟨v6, v7, v9, t, ns, ps, rfl, go8, gr8, nd, bd, l7, one, ht8, cl, fst⟩
            refine ⟨_, rfl, _, rfl, notin_L ht8 gr8.l gr8.pt ⟨_, rfl, ?_⟩⟩
            have ln := PT2.len gr8.pt
            refine ite2 (fun q => ?_) (fun q => ?_)
            · have nin : ns ∉ ll := fun z => by rw [decide_eq_true z] at q; cases q
              refine ⟨_, rfl, t, ns, rfl, ht8, cl.1, cl.2.1, fun fl fs H9 e9 hf pf => ⟨fl, rfl, ⟨_, SqL.of hf⟩, fun D3 nD3 => ?_⟩⟩
              have hL9 := e9 _ _ gr8.l
              have lf : (facesL ns).length ≤ 4 := by
                unfold facesL
                split
                · decide
                · rw [List.length_map, List.length_range]; exact cl.2.1
              refine lc_list (K := K) (a := fl) (xs := fs.map V.ref) (fun j H' => Ext H9 H' ∧ H' D3 = some (.lst ((((facesL ns).take j).map fun f => decide (f ∈ ll)).map V.bl))) ⟨Ext.upd nD3, upd_same⟩ (fun j H' _ z => SqL.of (z.1 _ _ hf)) ?_ ?_
              · rintro j u H' hu ⟨ex, hD⟩
                rw [List.getElem?_map] at hu
                cases hj : fs[j]? with
                | none => rw [hj] at hu; cases hu
                | some g =>
                  rw [hj] at hu
                  cases hu
                  obtain ⟨fl', hfl, hg⟩ := pf.get hj
                  have ex0 := e9.trans ex
                  refine ⟨rfl, tyes_in ⟨_, rfl, _, rfl, in_L (ex _ _ hg) (ex _ _ hL9) (PT2.mono (fun _ _ z => ex0 _ _ z) gr8.pt) ⟨_, hD, small1000 (by rw [List.length_map, List.length_map, List.length_take]; omega), fun b' o eo => ?_, ?_⟩⟩⟩
                  · rw [upd_ne (ne_of_none eo nD3)]
                    exact ex _ _ eo
                  · rw [upd_same, List.take_succ, hfl, List.map_append, List.map_append]
                    rfl
              · rintro H' ⟨ex, hD⟩
                have lfs : (fs.map V.ref).length = (facesL ns).length := by rw [List.length_map, PT2.len pf]
                rw [lfs, List.take_of_length_le (Nat.le_refl _)] at hD
                have e10 := e9.trans ex
                have go10 := go8.trans (Go.of_ext go8.1 e10)
                have gr10 := gr8.ext e10
                cases ball : ((facesL ns).map fun f => decide (f ∈ ll)).all id with
                | false =>
                  refine ⟨D3, _, rfl, SqL.of hD, false, congrArg V.bl ball, ?_⟩
                  refine iteF ⟨⟨_, _, _, _, _, rfl⟩, go10, as, ll, ps, gr10, gd, lm, nd, bd, l7, .inr ⟨?_, one⟩⟩
                  cases e : as with
                  | nil =>
                    have h1 := fst e
                    unfold facesL at ball
                    rw [if_pos h1] at ball
                    cases ball
                  | cons x r => exact Nat.succ_le_succ (Nat.zero_le _)
                | true =>
                  refine ⟨D3, _, rfl, SqL.of hD, true, congrArg V.bl ball, ?_⟩
                  refine iteT ⟨_, rfl, .inl ⟨rfl, _, SqL.of gr10.l⟩, _, rfl, L, _, _, rfl, rfl, gr10.l, small1000 (by rw [List.length_map]; omega), ?_⟩
                  have e1 : as.map V.ref ++ [V.ref t] = (as ++ [t]).map V.ref := by rw [List.map_append]; rfl
                  rw [e1]
                  have ht10 := e10 _ _ ht8
                  refine ⟨⟨_, _, _, _, _, rfl⟩, Go.put bag go10 nL1, as ++ [t], ll ++ [ns], ps, ⟨upd_same, by rw [upd_ne neLG.symm]; exact gr10.g, PT2.mono (fun b ys z => by rw [upd_ne (lst_ne gr10.l z)]; exact z) (gr10.pt.snoc ht10)⟩, good_snoc.mpr ⟨gd, cl, nin, fun g hg => ?_⟩, by rw [List.length_append]; exact lm', nd, bd, l7, .inr ⟨by rw [List.length_append]; exact Nat.le_add_left _ _, one⟩⟩
                  exact of_decide_eq_true (List.all_eq_true.mp ball _ (List.mem_map_of_mem hg))
            · have isin : ns ∈ ll := Classical.byContradiction fun z => q (by rw [decide_eq_false z]; rfl)
              refine iteF ⟨⟨_, _, _, _, _, rfl⟩, go8, as, ll, ps, gr8, gd, lm, nd, bd, l7, .inr ⟨?_, one⟩⟩
              have := List.length_pos_of_mem isin
              omega
      · exact ⟨⟨_, _, _, _, _, rfl⟩, go2, as, ll, ps, gr2, gd, lm, nd, bd, l7, by
          rcases ini with ⟨_, _, e⟩ | ini
          · exfalso
            subst e
            exact q (decide_eq_true (by show (0 : Int) < m; omega))
          · exact .inr ini⟩
    · rintro σ' H' ⟨⟨v5, v6, v7, v8, v9, rfl⟩, go2, as, ll, ps, gr2, gd, lm, nd, bd, l7, ini⟩
      refine ⟨_, rfl, ?_⟩
      exact k L as ll H' go2 nL.1 nL.2 gr2.l gr2.pt gd (by omega)
end
end O42

set_option Elab.async false
set_option linter.all false
set_option maxRecDepth 100000
set_option maxHeartbeats 4000000
set_option pp.maxSteps 60
/-! A comprehension over anything, its test told beforehand: what is made of each turn. -/
namespace O42
open PySem L2
/-- tuples stay -/
def TExt (H H' : Hp) : Prop := ∀ b xs, H b = some (.tup xs) → H' b = some (.tup xs)
theorem TExt.of {H H' : Hp} (e : Ext H H') : TExt H H' := fun b xs h => e b _ h
theorem TExt.trans {H H1 H2 : Hp} (x : TExt H H1) (y : TExt H1 H2) : TExt H H2 := fun b xs h => y b xs (x b xs h)
theorem TExt.put {H : Hp} {l : Addr} {xs ys : List V} (h : H l = some (.lst xs)) : TExt H (upd H l (.lst ys)) := fun b zs hb => by
  rw [upd_ne (lst_ne h hb)]
  exact hb
theorem lc_gen {J : It} {n : Nat} {G : Hp → Prop} {Y : Nat → Hp → V → Hp → Prop} (w : Walk J n G Y) {g : TG} {tt : L2.TT} {te : TE} {vs : List Nat} {σ : L2.St} {H : Hp} {D : Addr} {Qd : Hp → Prop} (nD : H D = none) (n1000 : n ≤ 1000) (p : Nat → Bool) (Pr : Nat → V → Hp → Prop)
    (mono : ∀ i y H1 H2, TExt H1 H2 → Pr i y H1 → Pr i y H2) (hG : ∀ H', Ext H H' → G H')
    (hs : ∀ i x H1 H' (R : VK) (N : Hp → Prop), i < n → Ext H H1 → Y i H1 x H' → (p i = true → ∀ y H4, Ext H1 H4 → Pr i y H4 → R y H4) → (p i = false → ∀ H4, Ext H1 H4 → N H4) →
      g x (wipe σ vs) H' fun σ2 H2 => wipe σ2 vs = wipe σ vs ∧ tt σ2 H2 fun b H3 => if b = true then te σ2 H3 R else N H3)
    (hd : ∀ ys H', Ext H H' → H' D = some (.lst ys) → Paired (fun i y => Pr i y H') ((List.range n).filter p) ys → Qd H') :
    ∃ W : Nat → Nat → Hp → Prop, (∃ m, W 0 m (upd H D (.lst []))) ∧ ∀ i m H, W i m H →
      (J.stop i H ∧ Qd H) ∨ (J.go i H ∧ ∃ Nx : Hp → Prop, (∀ H', Nx H' → ∃ m', m' < m ∧ W (i + 1) m' H') ∧ ∀ x H', J.yld i H x H' → g x (wipe σ vs) H' fun σ2 H2 => wipe σ2 vs = wipe σ vs ∧ tt σ2 H2 fun b H3 =>
        if b = true then te σ2 H3 fun y H4 => ∃ acc, H4 D = some (.lst acc) ∧ acc.length < sizeLine ∧ Nx (upd H4 D (.lst (acc ++ [y]))) else Nx H3) := by
  refine lc_it w (fun i H' => Ext H H' ∧ ∃ ys, H' D = some (.lst ys) ∧ Paired (fun i y => Pr i y H') ((List.range i).filter p) ys) ⟨Ext.upd nD, [], upd_same, .nil⟩ (fun i H' _ z => hG H' z.1) ?_ ?_
  · rintro i x H1 H' hi ⟨e1, ys, hD, pr⟩ y
    have ly : ys.length ≤ i := by
      rw [← Paired.length pr]
      exact Nat.le_trans (List.length_filter_le _ _) (by rw [List.length_range]; exact Nat.le_refl _)
    refine hs i x H1 H' _ _ hi e1 y (fun hp z H4 e4 hz => ?_) (fun hp H4 e4 => ?_)
    · have hD4 := e4 _ _ hD
      have t4 : TExt H4 (upd H4 D (.lst (ys ++ [z]))) := TExt.put hD4
      refine ⟨ys, hD4, small1000 (by omega), fun b o hb => ?_, ys ++ [z], upd_same, ?_⟩
      · rw [upd_ne (ne_of_none hb nD)]
        exact e4 _ _ (e1 _ _ hb)
      · rw [List.range_succ, List.filter_append]
        have ef : [i].filter p = [i] := by rw [List.filter_cons, if_pos hp]; rfl
        rw [ef]
        exact Paired.snoc (Paired.imp' (fun j u q => mono _ _ _ _ ((TExt.of e4).trans t4) q) pr) (mono _ _ _ _ t4 hz)
    · refine ⟨e1.trans e4, ys, e4 _ _ hD, ?_⟩
      rw [List.range_succ, List.filter_append]
      have ef : [i].filter p = [] := by rw [List.filter_cons, if_neg (by rw [hp]; exact Bool.false_ne_true)]; rfl
      rw [ef, List.append_nil]
      exact Paired.imp' (fun j u q => mono _ _ _ _ (TExt.of e4) q) pr
  · rintro H' ⟨e, ys, hD, pr⟩
    exact hd ys H' e hD pr
/-- .. of flags -/
theorem flags_of {t : Nat → Bool} {n : Nat} {ys : List V} (h : Paired (fun i y => y = V.bl (t i)) ((List.range n).filter fun _ => true) ys) : ys = ((List.range n).map t).map V.bl := by
  rw [List.filter_eq_self.mpr fun _ _ => rfl] at h
  generalize List.range n = r at h
  induction h with
  | nil => rfl
  | cons a _ ih => rw [List.map_cons, List.map_cons, ← ih, a]
theorem vals_of {f : Nat → V} {n : Nat} {p : Nat → Bool} {ys : List V} (h : Paired (fun i y => y = f i) ((List.range n).filter p) ys) : ys = ((List.range n).filter p).map f := by
  generalize (List.range n).filter p = r at h
  induction h with
  | nil => rfl
  | cons a _ ih => rw [List.map_cons, ← ih, a]
theorem range_map {α β : Type} {ds : List α} {n : Nat} (f : α → β) (z : α) (h : n = ds.length) : (List.range n).map (fun i => f (ds.getD i z)) = ds.map f := by
  subst h
  refine List.ext_getElem (by simp) fun i h1 h2 => ?_
  simp at h1
  simp [List.getElem?_eq_getElem h1]
def rLenS (K : PySem.W.Frag) : List V → Hp → VK → Prop := fun xs H Q => ∃ p ys, xs = [.ref p] ∧ (SqL K H p ys ∨ SqT K H p ys) ∧ Q (.int ys.length) H
theorem call_lenS {X : Cx} : CallR X (.builtin "len") (rLenS X.K) := call_len_seq
end O42

set_option Elab.async false
set_option linter.all false
set_option maxRecDepth 100000
set_option maxHeartbeats 4000000
set_option pp.maxSteps 60
/-! Rows over a prime: inverse, pivot, scaled, less. -/
namespace O42
open PySem L2 M40
abbrev sInv : Stmt := top 19
abbrev sPiv : Stmt := top 20
abbrev sScaled : Stmt := top 21
abbrev sLess : Stmt := top 22
abbrev Pr := Prm
theorem inv_nat : ∀ p ∈ [2, 3, 5, 7, 11, 13], ∀ x ∈ List.range p, 0 < x → ∃ i ∈ List.range (p - 1), x * (i + 1) % p = 1 := by decide +kernel
theorem inv_ex {p x : Int} (hp : Pr p) (h0 : 0 < x) (h1 : x < p) : ∃ i : Nat, i < (p - 1).toNat ∧ x * (1 + (i : Int)) % p = 1 := by
  have e1 : x = ((x.toNat : Nat) : Int) := by omega
  have hm : p.toNat ∈ [2, 3, 5, 7, 11, 13] := by
    rcases hp with rfl | rfl | rfl | rfl | rfl | rfl <;> decide
  obtain ⟨i, hi, e⟩ := inv_nat p.toNat hm x.toNat (List.mem_range.mpr (by omega)) (by omega)
  have := List.mem_range.mp hi
  refine ⟨i, by omega, ?_⟩
  have e2 : p = ((p.toNat : Nat) : Int) := by have := hp.le; omega
  rw [e1, e2]
  have : ((x.toNat * (i + 1) % p.toNat : Nat) : Int) = ((1 : Nat) : Int) := by rw [e]
  rw [Int.natCast_emod, Int.natCast_mul, Int.natCast_add] at this
  rw [Int.add_comm 1 (i : Int)]
  exact this
theorem cmul {i j : Int} (h1 : -1000 ≤ i) (h2 : i ≤ 1000) : CMul i j := .inl ⟨by omega, by omega⟩
/-- a row of n numbers below p -/
def RowG (p : Int) (n : Nat) (ns : List Int) : Prop := ns.length = n ∧ ∀ x ∈ ns, 0 ≤ x ∧ x < p
def RowL (p : Int) (n : Nat) (H : Hp) (l : Addr) : Prop := ∃ ns, H l = some (.lst (ns.map V.int)) ∧ RowG p n ns
/-- the row v stands at l -/
def RowV (p : Int) (n : Nat) (H : Hp) (l : Addr) (v : Vc) : Prop := ∃ ns, H l = some (.lst (ns.map V.int)) ∧ RowG p n ns ∧ ∀ i, i < n → ns.getD i 0 = v i
theorem RowV.ext {p : Int} {n : Nat} {H H' : Hp} {l : Addr} {v : Vc} (e : Ext H H') (h : RowV p n H l v) : RowV p n H' l v := let ⟨ns, h1, h2⟩ := h; ⟨ns, e _ _ h1, h2⟩
theorem RowV.bd {p : Int} {n : Nat} {H : Hp} {l : Addr} {v : Vc} (h : RowV p n H l v) {i : Nat} (hi : i < n) : 0 ≤ v i ∧ v i < p := by
  obtain ⟨ns, _, g, e⟩ := h
  rw [← e i hi, List.getD_eq_getElem?_getD, List.getElem?_eq_getElem (by rw [g.1]; exact hi)]
  exact g.2 _ (List.getElem_mem _)
theorem RowV.zero {p : Int} {n : Nat} {H : Hp} {l : Addr} {v : Vc} (h : RowV p n H l v) {i : Nat} (hi : i < n) : p ∣ v i ↔ v i = 0 := by
  obtain ⟨h1, h2⟩ := h.bd hi
  constructor
  · intro d
    exact Int.eq_zero_of_dvd_of_natAbs_lt_natAbs d (by omega)
  · intro e
    rw [e]
    exact Int.dvd_zero p
theorem RowL.ext {p : Int} {n : Nat} {H H' : Hp} {l : Addr} (e : Ext H H') (h : RowL p n H l) : RowL p n H' l := let ⟨ns, h1, h2⟩ := h; ⟨ns, e _ _ h1, h2⟩
def spInv : Sp := fun vs H Q _ => ∃ p x : Int, vs = [.int p, .int x] ∧ Pr p ∧ 0 < x ∧ x < p ∧ ∀ i : Int, 0 < i → i < p → x * i % p = 1 → Q (.int i) H
def spPiv : Sp := fun vs H Q _ => ∃ (l : Addr) (ns : List Int), vs = [.ref l] ∧ H l = some (.lst (ns.map V.int)) ∧ (∀ H', Ext H H' → (∀ j, ns.getD j 0 = 0) → Q .non H') ∧ ∀ (i : Nat) (x : Int) (H' : Hp), Ext H H' → ns[i]? = some x → x ≠ 0 → (∀ j, j < i → ns.getD j 0 = 0) → Q (.int (i : Int)) H'
def spScaled : Sp := fun vs H Q _ => ∃ (p k : Int) (l : Addr) (ns : List Int), vs = [.int p, .ref l, .int k] ∧ H l = some (.lst (ns.map V.int)) ∧ RowG p ns.length ns ∧ 0 ≤ k ∧ k < p ∧ p ≤ 13 ∧ ns.length ≤ 1000 ∧ ∀ (q : Addr) (H' : Hp), Ext H H' → H q = none → RowV p ns.length H' q (fun i => ns.getD i 0 * k % p) → Q (.ref q) H'
def spLess : Sp := fun vs H Q _ => ∃ (p k : Int) (l o : Addr) (ns ms : List Int), vs = [.int p, .ref l, .int k, .ref o] ∧ H l = some (.lst (ns.map V.int)) ∧ H o = some (.lst (ms.map V.int)) ∧ RowG p ns.length ns ∧ RowG p ns.length ms ∧ 0 ≤ k ∧ k < p ∧ p ≤ 13 ∧ ns.length ≤ 1000 ∧ ∀ (q : Addr) (H' : Hp), Ext H H' → H q = none → RowV p ns.length H' q (fun i => (ns.getD i 0 - k * ms.getD i 0) % p) → Q (.ref q) H'
theorem row_of {p : Int} {ys : List V} {f : Nat → Int} {n : Nat} (hf : ∀ i, 0 ≤ f i ∧ f i < p) (h : Paired (fun i y => y = V.int (f i)) ((List.range n).filter fun _ => true) ys) : ∃ ns, ys = ns.map V.int ∧ RowG p n ns ∧ ∀ i, i < n → ns.getD i 0 = f i := by
  have e := vals_of (f := fun i => V.int (f i)) h
  rw [List.filter_eq_self.mpr fun _ _ => rfl] at e
  refine ⟨(List.range n).map f, by rw [e, List.map_map]; rfl, ⟨by rw [List.length_map, List.length_range], fun x hx => ?_⟩, fun i hi => ?_⟩
  · obtain ⟨i, _, rfl⟩ := List.mem_map.mp hx
    exact hf i
  · rw [List.getD_eq_getElem?_getD, List.getElem?_map, List.getElem?_range hi]
    rfl
section
variable {P : Program} {w : World} {K : PySem.W.Frag} {mg : Str → Option Value} {base : Heap}
abbrev invN : List Str := ["prime", "worth", "other"]
theorem scInv : FnScope invN ["prime", "worth"] (defScope sInv) := ⟨rfl, rfl, rfl, by decide +kernel, rfl, by decide +kernel, by decide +kernel⟩
theorem ok_inv {f : Addr} {fd : FuncData} (F : L2.Fun K "inverse" "inverse" sInv f fd) (T : Gb mg) : FnOk P w K mg base CX0 1 f fd ["prime", "worth"] spInv := by
  refine F.ok scInv (fun vs H Q E h => ?_) (fun cdv A outer s H vs Q E hr h => ?_)
  · obtain ⟨p, x, rfl, _⟩ := h
    rfl
  · obtain ⟨p, x, rfl, hp, x0, xp, k⟩ := h
    have ple := hp.le
    refine ⟨_, pss_cons (ps_for PassesOwn.never rfl (pi_range2 (by rfl) T.rng (pa_cons pe_int (pa_cons (pv 0) pa_nil))) (pg_name (i := 2) scInv.nd rfl (Or.inl rfl))
      (pss_one (ps_if (pt_cmpR op_eq (pe_op op_mod (pe_op op_mul (pv 1) (pv 2)) (pv 0)) pe_int (nomark _)) (pss_one (ps_ret (pv 2))) pss_nil)))
      (pss_one (ps_ret pe_non)), ?_⟩
    refine ⟨_, rfl, 1, p, rfl, ⟨by decide, by decide, by omega, by omega⟩, for_range (lo := 1) (n := (p - 1).toNat) (fun i σ' H' => ∃ v, σ' = [some (.int p), some (.int x), v] ∧ H' = H ∧ ∀ j : Nat, j < i → ¬ x * (1 + (j : Int)) % p = 1) ⟨_, rfl, rfl, fun j hj => absurd hj (Nat.not_lt_zero j)⟩ ?_ ?_⟩
    · rintro i σ' H' hi ⟨v, rfl, rfl, no⟩
      refine ⟨_, rfl, _, rfl, _, _, rfl, rfl, cmul (by omega) (by omega), _, rfl, _, _, rfl, rfl, by omega, rfl, _, rfl, ?_⟩
      refine ite2 (fun z => ?_) (fun z => ?_)
      ·
        exact ⟨_, rfl, k _ (by omega) (by omega) (by have := of_decide_eq_true z; injection this)⟩
      · refine ⟨_, rfl, rfl, fun j hj => ?_⟩
        by_cases e : j = i
        · rw [e]
          intro q
          exact z (decide_eq_true (show V.int (x * (1 + (i : Int)) % p) = V.int 1 by rw [q]))
        · exact no j (by omega)
    · rintro σ' H' ⟨v, rfl, rfl, no⟩
      obtain ⟨i, hi, e⟩ := inv_ex hp x0 xp
      exact absurd e (no i hi)
abbrev pivN : List Str := ["row", "at", "worth"]
theorem scPiv : FnScope pivN ["row"] (defScope sPiv) := ⟨rfl, rfl, rfl, by decide +kernel, rfl, by decide +kernel, by decide +kernel⟩
theorem ok_piv {f : Addr} {fd : FuncData} (F : L2.Fun K "pivot" "pivot" sPiv f fd) (T : Gb mg) : FnOk P w K mg base CX0 1 f fd ["row"] spPiv := by
  refine F.ok scPiv (fun vs H Q E h => ?_) (fun cdv A outer s H vs Q E hr h => ?_)
  · obtain ⟨l, ns, rfl, _⟩ := h
    rfl
  · obtain ⟨l, ns, rfl, hl, k0, k⟩ := h
    refine ⟨_, pss_cons (ps_for PassesOwn.never rfl (pi_enum (by rfl) T.enum (pa_cons (pv 0) pa_nil)) (pg_tup rfl (pgs_cons (pg_name (i := 1) scPiv.nd rfl (Or.inl rfl)) (pgs_cons (pg_name (i := 2) scPiv.nd rfl (Or.inl rfl)) pgs_nil)))
      (pss_one (ps_if (pt_cmpR op_ne (pv 2) pe_int (nomark _)) (pss_one (ps_ret (pv 1))) pss_nil)))
      (pss_one (ps_ret pe_non)), ?_⟩
    refine ⟨_, rfl, l, _, rfl, SqL.of hl, ?_⟩
    refine for_it walk_enum (fun i σ' H' => ∃ v1 v2 : Option V, σ' = [some (.ref l), v1, v2] ∧ Ext H H' ∧ ∀ j, j < i → ns.getD j 0 = 0) ⟨_, _, rfl, Ext.rfl', fun j hj => absurd hj (Nat.not_lt_zero j)⟩ (fun i σ' H' _ ⟨_, _, _, e, _⟩ => SqL.of (e _ _ hl)) ?_ ?_
    · rintro i z σ' H2 H2' hi ⟨v1, v2, rfl, e2, no⟩ ⟨t, x, y, rfl, nt, rfl, hx, hy⟩
      cases hx
      obtain ⟨m, hm, rfl⟩ := map_int_get hy
      have et := e2.trans (Ext.upd (o := .tup [V.int (i : Int), .int m]) nt)
      refine ⟨t, _, rfl, SqT.of upd_same, rfl, _, _, rfl, _, _, rfl, rfl, ?_⟩
      refine ⟨_, rfl, rfl, _, rfl, ?_⟩
      refine ite2 (fun z => ?_) (fun z => ⟨_, _, rfl, et, fun j hj => ?_⟩)
      · refine ⟨_, rfl, k i m _ et hm (fun q => ?_) no⟩
        rw [q] at z
        exact absurd z (by decide)
      · by_cases e : j = i
        · subst e
          rw [List.getD_eq_getElem?_getD, hm]
          show m = 0
          refine Classical.byContradiction fun ne => z ?_
          have : decide (V.int m = V.int 0) = false := decide_eq_false fun q => ne (by injection q)
          rw [this]
          rfl
        · exact no j (by omega)
    · rintro σ' H2 ⟨v1, v2, rfl, e2, no⟩
      refine k0 _ e2 fun j => ?_
      by_cases h : j < ns.length
      · exact no j (by rw [List.length_map]; exact h)
      · rw [List.getD_eq_getElem?_getD, List.getElem?_eq_none (by omega)]
        rfl
abbrev scaledN : List Str := ["prime", "row", "number", "worth"]
theorem scScaled : FnScope scaledN ["prime", "row", "number"] (defScope sScaled) := ⟨rfl, rfl, rfl, by decide +kernel, rfl, by decide +kernel, by decide +kernel⟩
theorem ok_scaled {f : Addr} {fd : FuncData} (F : L2.Fun K "scaled_row" "scaled_row" sScaled f fd) (T : Gb mg) : FnOk P w K mg base CX0 1 f fd ["prime", "row", "number"] spScaled := by
  refine F.ok scScaled (fun vs H Q E h => ?_) (fun cdv A outer s H vs Q E hr h => ?_)
  · obtain ⟨p, q, l, ns, rfl, _⟩ := h
    rfl
  · obtain ⟨p, q, l, ns, rfl, hl, g1, q0, qp, p13, ln, k⟩ := h
    have p0 : 0 < p := by omega
    refine ⟨_, pss_one (ps_ret (pe_lc (own := [("worth", 3)]) (g := gName 3) (tt := tYes) rfl scScaled.nd (pi_list (pv 1)) (blkOk_by (N := scaledN) (sc := defScope sScaled) (by decide +kernel)) (fun _ _ _ _ _ => (pg_name (i := 3) scScaled.nd rfl (Or.inl rfl))) (fun _ _ _ _ _ => pts_nil) (fun _ _ _ _ _ => (pe_op op_mod (pe_op op_mul (pv 3) (pv 2)) (pv 0))))), ?_⟩
    refine ⟨_, rfl, l, rfl, ⟨_, SqL.of hl⟩, fun D nD => ?_⟩
    refine lc_gen (n := (ns.map V.int).length) (p := fun _ => true) walk_list nD (by rw [List.length_map]; exact ln) (fun i y _ => y = V.int (ns.getD i 0 * q % p)) (fun _ _ _ _ _ z => z) (fun H' e => SqL.of (e _ _ hl)) ?_ ?_
    · rintro j y J J' R N hj e7 ⟨rfl, hy⟩ hR hN
      obtain ⟨m, hm, rfl⟩ := map_int_get hy
      have gm := g1.2 m (List.mem_of_getElem? hm)
      refine ⟨rfl, tyes_in ⟨_, rfl, _, rfl, _, _, rfl, rfl, cmul (by omega) (by omega), _, rfl, _, _, rfl, rfl, p0, ?_⟩⟩
      exact hR rfl _ _ Ext.rfl' (by rw [List.getD_eq_getElem?_getD, hm]; rfl)
    intro ys H' e hD pp
    obtain ⟨ms, rfl, g, ge⟩ := row_of (f := fun i => ns.getD i 0 * q % p) (fun i => ⟨Int.emod_nonneg _ (by omega), Int.emod_lt_of_pos _ p0⟩) pp
    exact k D H' e nD ⟨ms, hD, by rw [List.length_map] at g; exact g, fun i hi => ge i (by rw [List.length_map]; exact hi)⟩
abbrev lessN : List Str := ["prime", "row", "number", "other", "worth", "taken"]
theorem scLess : FnScope lessN ["prime", "row", "number", "other"] (defScope sLess) := ⟨rfl, rfl, rfl, by decide +kernel, rfl, by decide +kernel, by decide +kernel⟩
theorem ok_less {f : Addr} {fd : FuncData} (F : L2.Fun K "less" "less" sLess f fd) (T : Gb mg) (M : TowC mg) : FnOk P w K mg base CX0 1 f fd ["prime", "row", "number", "other"] spLess := by
  refine F.ok scLess (fun vs H Q E h => ?_) (fun cdv A outer s H vs Q E hr h => ?_)
  · obtain ⟨p, q, l, o, ns, ms, rfl, _⟩ := h
    rfl
  · obtain ⟨p, q, l, o, ns, ms, rfl, hl, ho, g1, g2, q0, qp, p13, ln, k⟩ := h
    have p0 : 0 < p := by omega
    have len := g2.1.symm
    refine ⟨_, pss_one (ps_ret (pe_lc (own := [("worth", 4), ("taken", 5)]) (g := gTup K 2 (gCons (gName 4) (gCons (gName 5) gNil))) (tt := tYes) rfl scLess.nd (pi_zip (by rfl) M.zip (pa_cons (pv 1) (pa_cons (pv 3) pa_nil))) (blkOk_by (N := lessN) (sc := defScope sLess) (by decide +kernel)) (fun _ _ _ _ _ => (pg_tup rfl (pgs_cons (pg_name (i := 4) scLess.nd rfl (Or.inl rfl)) (pgs_cons (pg_name (i := 5) scLess.nd rfl (Or.inl rfl)) pgs_nil)))) (fun _ _ _ _ _ => pts_nil) (fun _ _ _ _ _ => (pe_op op_mod (pe_op op_sub (pv 4) (pe_op op_mul (pv 2) (pv 5))) (pv 0))))), ?_⟩
    refine ⟨_, rfl, _, rfl, l, o, _, _, rfl, SqL.of hl, SqL.of ho, fun D nD => ?_⟩
    refine lc_gen (n := ns.length) (p := fun _ => true) (walk_zip (xs := ns.map V.int) (ys := ms.map V.int) (by rw [List.length_map, List.length_map]; omega)) nD ln (fun i y _ => y = V.int ((ns.getD i 0 - q * ms.getD i 0) % p)) (fun _ _ _ _ _ z => z) (fun H' e => ⟨SqL.of (e _ _ hl), SqL.of (e _ _ ho)⟩) ?_ ?_
    · rintro j y J J' R N hj e7 ⟨t, x, z, rfl, nt, rfl, hx, hz⟩ hR hN
      obtain ⟨m, hm, rfl⟩ := map_int_get hx
      obtain ⟨m2, hm2, rfl⟩ := map_int_get hz
      have gm := g2.2 m2 (List.mem_of_getElem? hm2)
      refine ⟨t, _, rfl, SqT.of upd_same, rfl, _, _, rfl, _, _, rfl, rfl, rfl, tyes_in ⟨_, rfl, _, rfl, _, rfl, _, _, rfl, rfl, cmul (by omega) (by omega), _, _, rfl, rfl, _, rfl, _, _, rfl, rfl, p0, ?_⟩⟩
      exact hR rfl _ _ (Ext.upd nt) (by rw [List.getD_eq_getElem?_getD, List.getD_eq_getElem?_getD, hm, hm2]; rfl)
    intro ys H' e hD pp
    obtain ⟨rs, rfl, g, ge⟩ := row_of (f := fun i => (ns.getD i 0 - q * ms.getD i 0) % p) (fun i => ⟨Int.emod_nonneg _ (by omega), Int.emod_lt_of_pos _ p0⟩) pp
    exact k D H' e nD ⟨rs, hD, g, ge⟩
end
end O42

set_option Elab.async false
set_option linter.all false
set_option maxRecDepth 100000
set_option maxHeartbeats 4000000
set_option pp.maxSteps 60
/-! Rows kept by their leading places, told exactly. -/
namespace O42
open PySem L2 M40
abbrev sCleared : Stmt := top 23
abbrev sKeep : Stmt := top 24
inductive Two {α β : Type} (R : α → β → Prop) : List α → List β → Prop
  | nil : Two R [] []
  | cons {a : α} {b : β} {l : List α} {k : List β} : R a b → Two R l k → Two R (a :: l) (b :: k)
theorem Two.len {α β : Type} {R : α → β → Prop} {l : List α} {k : List β} (h : Two R l k) : l.length = k.length := by
  induction h with
  | nil => rfl
  | cons _ _ ih => rw [List.length_cons, List.length_cons, ih]
theorem Two.get {α β : Type} {R : α → β → Prop} {l : List α} {k : List β} (h : Two R l k) : ∀ {i : Nat} {a : α}, l[i]? = some a → ∃ b, k[i]? = some b ∧ R a b := by
  induction h with
  | nil => intro i a e; cases e
  | cons r t ih =>
    intro i a e
    cases i with
    | zero =>
      cases e
      exact ⟨_, rfl, r⟩
    | succ i => exact ih e
theorem Two.got {α β : Type} {R : α → β → Prop} {l : List α} {k : List β} (h : Two R l k) : ∀ {i : Nat} {b : β}, k[i]? = some b → ∃ a, l[i]? = some a ∧ R a b := by
  induction h with
  | nil => intro i a e; cases e
  | cons r t ih =>
    intro i a e
    cases i with
    | zero =>
      cases e
      exact ⟨_, rfl, r⟩
    | succ i => exact ih e
theorem Two.imp {α β : Type} {R S : α → β → Prop} (f : ∀ a b, R a b → S a b) {l : List α} {k : List β} (h : Two R l k) : Two S l k := by
  induction h with
  | nil => exact .nil
  | cons r _ ih => exact .cons (f _ _ r) ih
theorem Two.snoc {α β : Type} {R : α → β → Prop} {l : List α} {k : List β} {a : α} {b : β} (h : Two R l k) (r : R a b) : Two R (l ++ [a]) (k ++ [b]) := by
  induction h with
  | nil => exact .cons r .nil
  | cons s _ ih => exact .cons s ih
theorem Two.set {α β : Type} {R : α → β → Prop} {l : List α} {k : List β} {a : α} {b : β} (h : Two R l k) (r : R a b) : ∀ i : Nat, Two R (l.set i a) (k.set i b) := by
  induction h with
  | nil => intro i; exact .nil
  | cons s t ih =>
    intro i
    cases i with
    | zero => exact .cons r t
    | succ i => exact .cons s (ih i)
/-- an entry of what is kept; its list is not the one at z -/
def KE (p : Int) (n : Nat) (z : Addr) (H : Hp) (kv : Key × V) (k : Nat × Vc) : Prop := ∃ o : Addr, kv = (.inl (k.1 : Int), .ref o) ∧ k.1 < n ∧ RowV p n H o k.2 ∧ o ≠ z
def KeptV (p : Int) (n : Nat) (z : Addr) (H : Hp) (kd : Addr) (ks : List (Nat × Vc)) : Prop := ∃ kvs, H kd = some (.dK kvs) ∧ Two (KE p n z H) kvs ks
theorem KE.mono {p : Int} {n : Nat} {z : Addr} {H H' : Hp} {kv : Key × V} {k : Nat × Vc} (e : ∀ l v, RowV p n H l v → RowV p n H' l v) (h : KE p n z H kv k) : KE p n z H' kv k := let ⟨o, h1, h2, h3, h4⟩ := h; ⟨o, h1, h2, e _ _ h3, h4⟩
theorem keys_of {p : Int} {n : Nat} {z : Addr} {H : Hp} : ∀ {kvs : List (Key × V)} {ks : List (Nat × Vc)}, Two (KE p n z H) kvs ks → kvs.map Prod.fst = ks.map fun k => Sum.inl (k.1 : Int)
  | _, _, .nil => rfl
  | _, _, .cons h t => by
    obtain ⟨o, e, _⟩ := h
    rw [List.map_cons, List.map_cons, keys_of t, e]
theorem keys_nd {ks : List (Nat × Vc)} (nd : (ks.map Prod.fst).Nodup) : (ks.map fun k => (Sum.inl (k.1 : Int) : Key)).Nodup := by
  unfold List.Nodup at nd ⊢
  rw [List.pairwise_map] at nd ⊢
  exact nd.imp fun h e => h (by injection e with e; omega)
theorem valV_at : ∀ {kvs : List (Key × V)} {u : Nat} {k : Key} {v : V}, (kvs.map Prod.fst).Nodup → kvs[u]? = some (k, v) → valV kvs k = some v
  | [], _, _, _, _, h => by cases h
  | q :: kvs, 0, k, v, _, h => by
    cases h
    exact valV_pos rfl
  | q :: kvs, u + 1, k, v, nd, h => by
    rw [List.map_cons] at nd
    obtain ⟨n1, n2⟩ := List.nodup_cons.mp nd
    have h : kvs[u]? = some (k, v) := h
    rw [valV_neg fun e => n1 (by rw [e]; exact List.mem_map_of_mem (f := Prod.fst) (List.mem_of_getElem? h))]
    exact valV_at n2 h
theorem putK_at {kvs : List (Key × V)} {u : Nat} {k : Key} {v0 v : V} (nd : (kvs.map Prod.fst).Nodup) (h : kvs[u]? = some (k, v0)) : putK kvs k v = kvs.set u (k, v) := by
  have any : (kvs.any fun kv => decide (kv.1 = k)) = true := List.any_eq_true.mpr ⟨_, List.mem_of_getElem? h, decide_eq_true rfl⟩
  unfold putK
  rw [if_pos any]
  clear any
  induction kvs generalizing u with
  | nil => cases h
  | cons q kvs ih =>
    rw [List.map_cons] at nd
    obtain ⟨n1, n2⟩ := List.nodup_cons.mp nd
    cases u with
    | zero =>
      cases h
      rw [List.map_cons, if_pos rfl]
      show _ = (k, v) :: kvs
      congr 1
      have : ∀ kv ∈ kvs, (if kv.1 = k then (kv.1, v) else kv) = kv := fun kv hkv => if_neg fun e => n1 (by
        show k ∈ _
        rw [← e]
        exact List.mem_map_of_mem hkv)
      rw [List.map_congr_left this, List.map_id']
    | succ u =>
      have h : kvs[u]? = some (k, v0) := h
      rw [List.map_cons, if_neg fun e => n1 (by rw [e]; exact List.mem_map_of_mem (f := Prod.fst) (List.mem_of_getElem? h)), ih n2 h]
      rfl
theorem items_get {kvs : List (Key × V)} {i : Nat} {x y : V} (hx : kvs[i]?.map (fun kv => kV kv.1) = some x) (hy : kvs[i]?.map Prod.snd = some y) : ∃ kv, kvs[i]? = some kv ∧ x = kV kv.1 ∧ y = kv.2 := by
  cases e : kvs[i]? with
  | none => rw [e] at hx; cases hx
  | some kv =>
    rw [e] at hx hy
    cases hx
    cases hy
    exact ⟨kv, rfl, rfl, rfl⟩
/-- all but the dict stays -/
def GoD (kd : Addr) (H H' : Hp) : Prop := ∀ b o, b ≠ kd → H b = some o → H' b = some o
theorem GoD.of {kd : Addr} {H H' : Hp} (e : Ext H H') : GoD kd H H' := fun b o _ h => e b o h
theorem GoD.trans {kd : Addr} {H H1 H2 : Hp} (x : GoD kd H H1) (y : GoD kd H1 H2) : GoD kd H H2 := fun b o n h => y b o n (x b o n h)
theorem GoD.put {kd : Addr} {H : Hp} {o : HO} : GoD kd H (upd H kd o) := fun b u n h => by rw [upd_ne n]; exact h
theorem lst_dk {H : Hp} {l kd : Addr} {xs : List V} {kvs : List (Key × V)} (h : H l = some (.lst xs)) (g : H kd = some (.dK kvs)) : l ≠ kd := fun e => by rw [e, g] at h; cases h
theorem RowV.go {p : Int} {n : Nat} {H H' : Hp} {l kd : Addr} {v : Vc} {kvs : List (Key × V)} (hk : H kd = some (.dK kvs)) (g : GoD kd H H') (h : RowV p n H l v) : RowV p n H' l v := let ⟨ns, h1, h2⟩ := h; ⟨ns, g _ _ (lst_dk h1 hk) h1, h2⟩
theorem RowV.at {p : Int} {n : Nat} {v : Vc} {ns : List Int} {i : Nat} (g : RowG p n ns) (e : ∀ i, i < n → ns.getD i 0 = v i) (hi : i < n) : atI (ns.map V.int) (i : Int) = some (.int (v i)) := by
  have h1 : i < ns.length := by rw [g.1]; exact hi
  refine at_of (j := i) (by omega) ?_
  rw [List.getElem?_map, List.getElem?_eq_getElem h1, ← e i hi, List.getD_eq_getElem?_getD, List.getElem?_eq_getElem h1]
  rfl
/-- a reckoned row, mod p -/
theorem al_mod {p : Int} {n : Nat} {v f : Vc} (h : ∀ i, i < n → v i = f i % p) : Al p n v f := fun i hi => by
  rw [h i hi]
  exact ⟨-(f i / p), by have := Int.emod_add_mul_ediv (f i) p; rw [Int.mul_neg]; omega⟩
def spCleared : Sp := fun vs H Q _ => ∃ (p : Int) (n : Nat) (l kd z : Addr) (v : Vc) (ks : List (Nat × Vc)), vs = [.int p, .ref l, .ref kd] ∧ Pr p ∧ n ≤ 1000 ∧ RowV p n H l v ∧ KeptV p n z H kd ks ∧ Red p n ks ∧ ∀ (q : Addr) (w : Vc) (H' : Hp), Ext H H' → RowV p n H' q w → Rest p n ks v w → Q (.ref q) H'
/-- the first place of a rim, cleared -/
def First (p : Int) (N : Nat) (D : Nat → Vc) (j a : Nat) : Prop := (∃ s, M40.Sp p N (cols D j) s ∧ ¬ p ∣ D j a - s a ∧ ∀ i, i < a → p ∣ D j i - s i) ∧ ∀ s, M40.Sp p N (cols D j) s → ∃ i, i ≤ a ∧ ¬ p ∣ D j i - s i
def spKeep : Sp := fun vs H Q _ => ∃ (p : Int) (n j : Nat) (l kd z : Addr) (D : Nat → Vc) (ks : List (Nat × Vc)), vs = [.int p, .ref l, .ref kd] ∧ Pr p ∧ n ≤ 1000 ∧ ks.length ≤ 900 ∧ RowV p n H l (D j) ∧ z ≠ kd ∧ (∃ oz, H z = some oz) ∧ KeptV p n z H kd ks ∧ Keeps p n D j ks ∧
  (∀ H', GoD kd H H' → KeptV p n z H' kd ks → Born p n D j → Keeps p n D (j + 1) ks → Q .non H') ∧ ∀ (a : Nat) (ks' : List (Nat × Vc)) (H' : Hp), a < n → GoD kd H H' → KeptV p n z H' kd ks' → ks'.length = ks.length + 1 → Keeps p n D (j + 1) ks' → First p n D j a → Q (.int (a : Int)) H'
section
variable {P : Program} {w : World} {K : PySem.W.Frag} {mg : Str → Option Value} {base : Heap}
abbrev clearedN : List Str := ["prime", "row", "kept", "at", "other"]
theorem scCleared : FnScope clearedN ["prime", "row", "kept"] (defScope sCleared) := ⟨rfl, rfl, rfl, by decide +kernel, rfl, by decide +kernel, by decide +kernel⟩
theorem ok_cleared {f : Addr} {fd : FuncData} (F : L2.Fun K "cleared" "cleared" sCleared f fd) (cL : Cal P w K mg base 1 "less" spLess []) : FnOk P w K mg base CX0 2 f fd ["prime", "row", "kept"] spCleared := by
  refine F.ok scCleared (fun vs H Q E h => ?_) (fun cdv A outer s H vs Q E hr h => ?_)
  · obtain ⟨p, n, l, kd, z, v, ks, rfl, _⟩ := h
    rfl
  · obtain ⟨p, n, l, kd, zz, v, ks, rfl, hp, n1000, hl, ⟨kvs, hk, gk⟩, red, k⟩ := h
    have hp' := hp.le
    refine ⟨_, pss_cons (ps_lock (ps_for PassesOwn.never rfl (pi_items (pv 2)) (pg_tup rfl (pgs_cons (pg_name (i := 3) scCleared.nd rfl (Or.inl rfl)) (pgs_cons (pg_name (i := 4) scCleared.nd rfl (Or.inl rfl)) pgs_nil)))
      (pss_one (ps_if (pt_cmpR op_ne (pe_ix ix_list (pv 1) (pv 3) (fun _ _ => rfl)) pe_int (nomark _)) (pss_one (ps_set (i := 1) scCleared.nd rfl (Or.inl rfl) (C8.pe_c cL hr (by decide) (by rfl) (pa_cons (pv 0) (pa_cons (pv 1) (pa_cons (pe_ix ix_list (pv 1) (pv 3) (fun _ _ => rfl)) (pa_cons (pv 4) pa_nil))))))) pss_nil))))
      (pss_one (ps_ret (pv 1))), ?_⟩
    refine ⟨kd, .dK kvs, hk, True.intro, fun od => ?_⟩
    have gl0 : ∀ q v, RowV p n H q v → RowV p n (upd H kd (.frz od (.dK kvs))) q v := fun q v h => h.go hk GoD.put
    have hk1 : (upd H kd (.frz od (.dK kvs))) kd = some (.frz od (.dK kvs)) := upd_same
    have back : ∀ J, Ext (upd H kd (.frz od (.dK kvs))) J → Ext H (upd J kd (.dK kvs)) := fun J e b o h => by
      by_cases c : b = kd
      · rw [c] at h ⊢
        rw [upd_same, ← h, hk]
      · rw [upd_ne c]
        exact e _ _ (by rw [upd_ne c]; exact h)
    have gk1 := gk.imp fun _ _ h => h.mono gl0
    have hl1 := gl0 _ _ hl
    generalize upd H kd (.frz od (.dK kvs)) = H1 at *
    refine ⟨_, rfl, kd, od, kvs, rfl, hk1, ?_⟩
    refine for_it walk_items (fun i σ' J => ∃ (q : Addr) (u : Vc) (v3 v4 : Option V), σ' = [some (.int p), some (.ref q), some (.ref kd), v3, v4] ∧ Ext H1 J ∧ RowV p n J q u ∧ (∃ s, M40.Sp p n (ks.map Prod.snd) s ∧ Al p n u fun i => v i - s i) ∧ ∀ t k, t < i → ks[t]? = some k → p ∣ u k.1) ⟨l, v, _, _, rfl, Ext.rfl', hl1, ⟨zeroV, .zero _ (Al.refl _), fun i hi => by
      show p ∣ v i - (v i - 0)
      rw [Int.sub_zero, Int.sub_self]
      exact Int.dvd_zero p⟩, fun t k h => absurd h (Nat.not_lt_zero t)⟩ (fun i σ' J _ ⟨_, _, _, _, _, e, _⟩ => e _ _ hk1) ?_ ?_
    · rintro i z σ' J J' hi ⟨q, u, v3, v4, rfl, e, hq, ⟨s0, sp0, al0⟩, off⟩ ⟨t, x, y, rfl, nt, rfl, hx, hy⟩
      obtain ⟨kv, hg, rfl, rfl⟩ := items_get hx hy
      obtain ⟨kk, hkk, o, rfl, an, ho, _⟩ := gk1.get hg
      have et := Ext.upd (o := .tup [kV (.inl (kk.1 : Int)), V.ref o]) nt
      refine ⟨t, _, rfl, SqT.of upd_same, rfl, _, _, rfl, _, _, rfl, rfl, ?_⟩
      have hq' := hq.ext et
      have ho' := (ho.ext e).ext et
      have e' := e.trans et
      show tIfS _ _ _ _ _ (upd J t (.tup [kV (.inl (kk.1 : Int)), V.ref o]))
      generalize upd J t (.tup [kV (.inl (kk.1 : Int)), V.ref o]) = J2 at *
      obtain ⟨ns, hns, g, eu⟩ := id hq'
      obtain ⟨ms, hms, g2, ek⟩ := id ho'
      have hc := RowV.at g eu an
      obtain ⟨c0, cp⟩ := hq'.bd an
      have km := List.mem_of_getElem? hkk
      refine ⟨_, rfl, _, rfl, q, _, (kk.1 : Int), .int (u kk.1), rfl, rfl, SqL.of hns, hc, rfl, _, rfl, ?_⟩
      refine ite2 (fun _ => ?_) (fun z => ⟨q, u, _, _, rfl, e', hq', ⟨s0, sp0, al0⟩, fun t' k' h1 h2 => ?_⟩)
      · refine ⟨_, rfl, _, rfl, _, rfl, _, rfl, q, _, (kk.1 : Int), .int (u kk.1), rfl, rfl, SqL.of hns, hc, _, rfl, p, u kk.1, q, o, ns, ms, rfl, hns, hms, by rw [g.1]; exact g, by rw [g.1]; exact g2, c0, cp, hp'.2, by rw [g.1]; exact n1000, fun q2 J3 e3 _ r3 => ?_⟩
        rw [g.1] at r3
        refine ⟨q2, _, _, _, rfl, e'.trans e3, r3, ⟨fun i => s0 i + u kk.1 * kk.2 i, .add (u kk.1) kk.2 s0 _ (List.mem_map_of_mem (f := Prod.snd) km) sp0 (Al.refl _), fun i hi => ?_⟩, fun t' k' h1 h2 => ?_⟩
        · have a1 := al_mod (p := p) (n := n) (v := fun i => (ns.getD i 0 - u kk.1 * ms.getD i 0) % p) (f := fun i => ns.getD i 0 - u kk.1 * ms.getD i 0) (fun _ _ => rfl) i hi
          have a2 := al0 i hi
          dsimp only at a1 ⊢
          rw [eu i hi, ek i hi] at a1 ⊢
          have := Int.dvd_add a1 a2
          rwa [show ∀ X : Int, X - (u i - u kk.1 * kk.2 i) + (u i - (v i - s0 i)) = X - (v i - (s0 i + u kk.1 * kk.2 i)) by intro X; omega] at this
        · have kN := red.lt k' (List.mem_of_getElem? h2)
          have a1 := al_mod (p := p) (n := n) (v := fun i => (ns.getD i 0 - u kk.1 * ms.getD i 0) % p) (f := fun i => ns.getD i 0 - u kk.1 * ms.getD i 0) (fun _ _ => rfl) k'.1 kN
          dsimp only at a1 ⊢
          rw [eu _ kN, ek _ kN] at a1 ⊢
          by_cases same : k'.1 = kk.1
          · rw [same] at a1 ⊢
            have := Int.dvd_sub a1 (dml (u kk.1) (red.one kk km))
            rwa [show ∀ X : Int, X - (u kk.1 - u kk.1 * kk.2 kk.1) - u kk.1 * (kk.2 kk.1 - 1) = X by intro X; grind] at this
          · have lt : t' < i := by
              refine Nat.lt_of_le_of_ne (by omega) fun e => same ?_
              rw [e, hkk] at h2
              cases h2
              rfl
            have a2 := off t' k' lt h2
            have a3 := dml (u kk.1) (red.off kk km k' (List.mem_of_getElem? h2) (fun e => same e.symm))
            have := Int.dvd_sub (Int.dvd_add a1 a2) a3
            rwa [show ∀ X : Int, X - (u k'.1 - u kk.1 * kk.2 k'.1) + u k'.1 - u kk.1 * kk.2 k'.1 = X by intro X; omega] at this
      · by_cases lt : t' < i
        · exact off t' k' lt h2
        · have : t' = i := by omega
          subst this
          rw [hkk] at h2
          cases h2
          have z : u kk.1 = 0 := Classical.byContradiction fun ne => z (by
            have : decide (V.int (u kk.1) = V.int 0) = false := decide_eq_false fun q => ne (by injection q)
            rw [this]
            rfl)
          rw [z]
          exact Int.dvd_zero p
    · rintro σ' J ⟨q, u, v3, v4, rfl, e, hq, made, off⟩
      refine ⟨e _ _ hk1, _, rfl, k q u _ (back J e) ?_ ⟨made, fun k' hk' => ?_⟩⟩
      · obtain ⟨ns, h1, h2⟩ := hq
        exact ⟨ns, by rw [upd_ne fun z => by rw [z, e _ _ hk1] at h1; cases h1]; exact h1, h2⟩
      · obtain ⟨t, ht⟩ := List.getElem?_of_mem hk'
        exact off t k' (by rw [gk1.len]; exact (List.getElem?_eq_some_iff.mp ht).1) ht
abbrev keepN : List Str := ["prime", "row", "kept", "rest", "at", "elder"]
theorem scKeep : FnScope keepN ["prime", "row", "kept"] (defScope sKeep) := ⟨rfl, rfl, rfl, by decide +kernel, rfl, by decide +kernel, by decide +kernel⟩
theorem ok_keep {f : Addr} {fd : FuncData} (F : L2.Fun K "keep" "keep" sKeep f fd) (T : Gb mg) (cC : Cal P w K mg base 2 "cleared" spCleared []) (cP : Cal P w K mg base 1 "pivot" spPiv []) (cS : Cal P w K mg base 1 "scaled_row" spScaled []) (cI : Cal P w K mg base 1 "inverse" spInv []) (cL : Cal P w K mg base 1 "less" spLess []) : FnOk P w K mg base CX0 3 f fd ["prime", "row", "kept"] spKeep := by
  refine F.ok scKeep (fun vs H Q E h => ?_) (fun cdv A outer s H vs Q E hr h => ?_)
  · obtain ⟨p, n, j, l, kd, z, D, ks, rfl, _⟩ := h
    rfl
  · obtain ⟨p, n, j0, l, kd, zz, D, ks, rfl, hp, n1000, l900, hl, zk, ⟨oz, hz⟩, kept, keeps, k0, k⟩ := h
    have hp' := hp.le
    have hu1 := hu_of hr
    have red := keeps.red
    refine ⟨_, pss_cons (ps_set (i := 3) scKeep.nd rfl (Or.inl rfl) (C8.pe_c cC hr (by decide) (by rfl) (pa_cons (pv 0) (pa_cons (pv 1) (pa_cons (pv 2) pa_nil)))))
      (pss_cons (ps_set (i := 4) scKeep.nd rfl (Or.inl rfl) (C8.pe_c cP hr (by decide) (by rfl) (pa_cons (pv 3) pa_nil)))
      (pss_cons (ps_if (pt_cmpR op_notN (pv 4) pe_non (nomark _)) (pss_cons (ps_set (i := 3) scKeep.nd rfl (Or.inl rfl) (C8.pe_c cS hr (by decide) (by rfl) (pa_cons (pv 0) (pa_cons (pv 3) (pa_cons (C8.pe_c cI hr (by decide) (by rfl) (pa_cons (pv 0) (pa_cons (pe_ix ix_list (pv 3) (pv 4) (fun _ _ => rfl)) pa_nil))) pa_nil)))))
      (pss_cons (ps_for PassesOwn.never rfl (pi_list (pe_callTy (call_listD rfl) (by rfl) T.list (by decide +kernel) (pa_cons (pv 2) pa_nil))) (pg_name (i := 5) scKeep.nd rfl (Or.inl rfl))
      (pss_one (ps_if (pt_cmpR op_ne (pe_ix ix_list (pe_dget hu1 (pv 2) (pv 5) (fun _ _ => rfl)) (pv 4) (fun _ _ => rfl)) pe_int (nomark _)) (pss_one (ps_dput hu1 (pv 2) (pv 5) (C8.pe_c cL hr (by decide) (by rfl) (pa_cons (pv 0) (pa_cons (pe_dget hu1 (pv 2) (pv 5) (fun _ _ => rfl)) (pa_cons (pe_ix ix_list (pe_dget hu1 (pv 2) (pv 5) (fun _ _ => rfl)) (pv 4) (fun _ _ => rfl)) (pa_cons (pv 3) pa_nil))))) rfl)) pss_nil)))
      (pss_one (ps_dput hu1 (pv 2) (pv 4) (pv 3) rfl)))) pss_nil)
      (pss_one (ps_ret (pv 4))))), ?_⟩
    refine ⟨_, rfl, _, rfl, _, rfl, p, n, l, kd, zz, D j0, ks, rfl, hp, n1000, hl, kept, red, fun q u H1 e1 hq rest => ?_⟩
    obtain ⟨kvs, hk, gk⟩ := kept
    have hk1 := e1 _ _ hk
    have gk1 := gk.imp fun _ _ h => h.mono fun l v h => h.ext e1
    obtain ⟨ns, hns, g, eu⟩ := id hq
    refine ⟨_, rfl, q, ns, rfl, hns, fun H2 e2 nil => ?_, fun i x H2 e2 hx x0 pre => ?_⟩
    · refine ⟨_, rfl, rfl, _, rfl, ?_⟩
      refine ite2 (fun z => absurd z (by decide)) (fun _ => ?_)
      have go := GoD.of (kd := kd) (e1.trans e2)
      obtain ⟨b, ke⟩ := keeps.same rest fun i hi => by
        show p ∣ u i - 0
        rw [Int.sub_zero, ← eu i hi, nil i]
        exact Int.dvd_zero p
      exact ⟨_, rfl, k0 _ go ⟨kvs, e2 _ _ hk1, gk1.imp fun _ _ h => h.mono fun l v h => h.ext e2⟩ b ke⟩
    · have iln : i < n := by
        have := (List.getElem?_eq_some_iff.mp hx).1
        rw [g.1] at this
        exact this
      have ex : u i = x := by
        rw [← eu i iln, List.getD_eq_getElem?_getD, hx]
        rfl
      subst ex
      obtain ⟨c0, cp⟩ := hq.bd iln
      have gl : RowG p ns.length ns := by rw [g.1]; exact g
      have ln : ns.length ≤ 1000 := by rw [g.1]; exact n1000
      have hx' := RowV.at g eu iln
      have na : ¬ p ∣ u i := fun d => x0 ((hq.zero iln).mp d)
      have pre' : ∀ t, t < i → p ∣ u t := fun t ht => by
        rw [← eu t (by omega), pre t ht]
        exact Int.dvd_zero p
      refine ⟨_, rfl, rfl, _, rfl, ?_⟩
      refine ite2 (fun _ => ?_) (fun z => absurd rfl z)
      refine ⟨_, rfl, _, rfl, _, rfl, _, rfl, _, rfl, q, _, (i : Int), .int (u i), rfl, rfl, SqL.of (e2 _ _ hns), hx', p, u i, rfl, hp, by omega, cp, fun iv iv0 ivp inv => ?_⟩
      refine ⟨p, iv, q, ns, rfl, e2 _ _ hns, gl, by omega, ivp, hp'.2, ln, fun q2 H3 e3 nq2 hq2 => ?_⟩
      have q2z : q2 ≠ zz := fun e => by rw [e, e2 _ _ (e1 _ _ hz)] at nq2; cases nq2
      rw [g.1] at hq2
      -- the new row
      generalize ey : (fun i => ns.getD i 0 * iv % p) = y at hq2
      have yal : Al p n y fun i => u i * iv := by
        rw [← ey]
        exact al_mod fun i hi => by rw [eu i hi]
      have cz : p ∣ u i * iv - 1 := ⟨u i * iv / p, by have := Int.emod_add_mul_ediv (u i * iv) p; omega⟩
      have hk3 := e3 _ _ (e2 _ _ hk1)
      have gk3 := gk1.imp fun _ _ h => h.mono fun l v h => (h.ext e2).ext e3
      have go3 := GoD.of (kd := kd) ((e1.trans e2).trans e3)
      refine ⟨_, rfl, kd, kvs, rfl, Rd.of hk3, fun ql nql => ?_⟩
      have el := Ext.upd (o := .lst (kvs.map fun kv => kV kv.1)) nql
      have hk4 := el _ _ hk3
      have gk4 := gk3.imp fun _ _ h => h.mono fun l v h => h.ext el
      have hq4 := hq2.ext el
      have go4 := go3.trans (GoD.of el)
      have hz4 := el _ _ (e3 _ _ (e2 _ _ (e1 _ _ hz)))
      have hql : (upd H3 ql (.lst (kvs.map fun kv => kV kv.1))) ql = some (.lst (kvs.map fun kv => kV kv.1)) := upd_same
      have qlk : ql ≠ kd := lst_dk hql hk4
      generalize upd H3 ql (.lst (kvs.map fun kv => kV kv.1)) = H4 at *
      have lkv : kvs.length = ks.length := gk4.len
      refine ⟨ql, rfl, ⟨_, SqL.of hql⟩, ?_⟩
      refine for_it walk_list (fun t σ' J => ∃ (kvs' : List (Key × V)) (ws : List (Nat × Vc)) (v5 : Option V), σ' = [some (.int p), some (.ref l), some (.ref kd), some (.ref q2), some (.int (i : Int)), v5] ∧ GoD kd H4 J ∧ J kd = some (.dK kvs') ∧ Two (KE p n zz J) kvs' ws ∧ ws.length = ks.length ∧ ∀ s k, ks[s]? = some k → ∃ l, ws[s]? = some l ∧ l.1 = k.1 ∧ (s < t → Al p n l.2 fun i' => k.2 i' - k.2 i * y i') ∧ (t ≤ s → l.2 = k.2))
        ⟨kvs, ks, _, rfl, fun _ _ _ h => h, hk4, gk4, rfl, fun s k h => ⟨k, h, rfl, fun z => absurd z (Nat.not_lt_zero s), fun _ => rfl⟩⟩ (fun t σ' J _ ⟨_, _, _, _, g', _⟩ => SqL.of (g' _ _ qlk hql)) ?_ ?_
      · rintro t y' σ' J J' hj ⟨kvs', ws, v5, rfl, go5, hk5, gk5, lws, inv5⟩ ⟨rfl, hy⟩
        rw [List.getElem?_map] at hy
        cases hg : kvs[t]? with
        | none => rw [hg] at hy; cases hy
        | some kv =>
          rw [hg] at hy
          cases hy
          obtain ⟨kk, hkk, o0, rfl, an, _, _⟩ := gk4.get hg
          have km := List.mem_of_getElem? hkk
          obtain ⟨lw, hlw, e1w, _, e2w⟩ := inv5 t kk hkk
          have e2w := e2w (Nat.le_refl _)
          obtain ⟨kv', hkv', o, rfl, _, ho, oz'⟩ := gk5.got hlw
          have fsts : ws.map Prod.fst = ks.map Prod.fst := by
            refine List.ext_getElem? fun s => ?_
            rw [List.getElem?_map, List.getElem?_map]
            cases hs : ks[s]? with
            | none => rw [List.getElem?_eq_none (by rw [lws]; exact List.getElem?_eq_none_iff.mp hs)]
            | some k =>
              obtain ⟨l, h1, h2, _⟩ := inv5 s k hs
              rw [h1]
              show some l.1 = some k.1
              rw [h2]
          have nd : (kvs'.map Prod.fst).Nodup := by
            rw [keys_of gk5]
            exact keys_nd (by rw [fsts]; exact red.nd)
          rw [e1w] at hkv'
          rw [e2w] at ho
          have hv := valV_at nd hkv'
          have dg : DGet J' kd (kV (.inl (kk.1 : Int))) (some (.ref o)) := by
            have := DGet.k (k := .inl (kk.1 : Int)) hk5
            rw [hv] at this
            exact this
          obtain ⟨ms, hms, g2, ek⟩ := id ho
          have hc := RowV.at g2 ek iln
          obtain ⟨d0, dp⟩ := ho.bd iln
          obtain ⟨rs, hrs, g3, er⟩ := hq4.go hk4 go5
          refine ⟨_, rfl, _, rfl, kd, _, rfl, dg, _, rfl, o, _, (i : Int), .int (kk.2 i), rfl, rfl, SqL.of hms, hc, rfl, _, rfl, ?_⟩
          refine ite2 (fun _ => ?_) (fun z => ⟨kvs', ws, _, rfl, go5, hk5, gk5, lws, fun s k hs => ?_⟩)
          · refine ⟨_, rfl, _, rfl, _, rfl, kd, _, rfl, dg, _, rfl, _, rfl, kd, _, rfl, dg, _, rfl, o, _, (i : Int), .int (kk.2 i), rfl, rfl, SqL.of hms, hc, _, rfl, p, kk.2 i, o, q2, ms, rs, rfl, hms, hrs, by rw [g2.1]; exact g2, by rw [g2.1]; exact g3, d0, dp, hp'.2, by rw [g2.1]; exact n1000, fun q3 J3 e3 nq3 r3 => ?_⟩
            have q3z : q3 ≠ zz := fun e => by rw [e, go5 _ _ zk hz4] at nq3; cases nq3
            rw [g2.1] at r3
            generalize ef : (fun i' => (ms.getD i' 0 - kk.2 i * rs.getD i' 0) % p) = f at r3
            have fal : Al p n f fun i' => kk.2 i' - kk.2 i * y i' := by
              rw [← ef]
              exact al_mod fun i' hi' => by rw [ek i' hi', er i' hi']
            have hk6 := e3 _ _ hk5
            refine ⟨_, rfl, _, rfl, kd, _, rfl, DPut.k (k := .inl (kk.1 : Int)) hk6 (small1000 (by have := gk5.len; omega)), ?_⟩
            rw [putK_at nd hkv']
            have goJ : GoD kd J3 (upd J3 kd (.dK (kvs'.set t (.inl (kk.1 : Int), .ref q3)))) := GoD.put
            refine ⟨kvs'.set t (.inl (kk.1 : Int), .ref q3), ws.set t (kk.1, f), _, rfl, (go5.trans (GoD.of e3)).trans goJ, upd_same, ?_, by rw [List.length_set]; exact lws, fun s k hs => ?_⟩
            · exact (gk5.imp fun _ _ h => h.mono fun l v h => (h.ext e3).go hk6 goJ).set ⟨q3, rfl, an, r3.go hk6 goJ, q3z⟩ t
            · by_cases est : s = t
              · subst est
                rw [hkk] at hs
                cases hs
                refine ⟨(kk.1, f), ?_, rfl, fun _ => fal, fun h => by omega⟩
                rw [List.getElem?_set_self (by rw [lws]; exact (List.getElem?_eq_some_iff.mp hkk).1)]
              · obtain ⟨l, h1, h2, h3, h4⟩ := inv5 s k hs
                refine ⟨l, ?_, h2, fun h => h3 (by omega), fun h => h4 (by omega)⟩
                rw [List.getElem?_set_ne (fun e => est e.symm)]
                exact h1
          · obtain ⟨l, h1, h2, h3, h4⟩ := inv5 s k hs
            refine ⟨l, h1, h2, fun h => ?_, fun h => h4 (by omega)⟩
            by_cases est : s = t
            · subst est
              rw [hkk] at hs
              cases hs
              have z : kk.2 i = 0 := Classical.byContradiction fun ne => z (by
                have : decide (V.int (kk.2 i) = V.int 0) = false := decide_eq_false fun q => ne (by injection q)
                rw [this]
                rfl)
              rw [h4 (Nat.le_refl _)]
              intro i' hi'
              rw [z]
              rw [show kk.2 i' - (kk.2 i' - 0 * y i') = 0 by omega]
              exact Int.dvd_zero p
            · exact h3 (by omega)
      · rintro σ' J ⟨kvs', ws, v5, rfl, go5, hk5, gk5, lws, inv5⟩
        have lkvs : (kvs.map fun kv => kV kv.1).length = ks.length := by rw [List.length_map, lkv]
        rw [lkvs] at inv5
        have anew : ∀ l ∈ ks, l.1 ≠ i := fun l hl e => na (by rw [← e]; exact rest.off l hl)
        have fsts : ws.map Prod.fst = ks.map Prod.fst := by
          refine List.ext_getElem? fun s => ?_
          rw [List.getElem?_map, List.getElem?_map]
          cases hs : ks[s]? with
          | none => rw [List.getElem?_eq_none (by rw [lws]; exact List.getElem?_eq_none_iff.mp hs)]
          | some k =>
            obtain ⟨l, h1, h2, _⟩ := inv5 s k hs
            rw [h1]
            show some l.1 = some k.1
            rw [h2]
        have no : valV kvs' (.inl (i : Int)) = none := by
          cases e : valV kvs' (.inl (i : Int)) with
          | none => rfl
          | some v =>
            have any : (kvs'.any fun kv => decide (kv.1 = .inl (i : Int))) = true := by rw [valV_any, e]; rfl
            obtain ⟨kv, hkv, ekv⟩ := List.any_eq_true.mp any
            have m : kv.1 ∈ kvs'.map Prod.fst := List.mem_map_of_mem hkv
            rw [keys_of gk5, of_decide_eq_true ekv] at m
            obtain ⟨w, hw, ew⟩ := List.mem_map.mp m
            have wi : w.1 = i := by injection ew with ew; omega
            have m2 : w.1 ∈ ws.map Prod.fst := List.mem_map_of_mem hw
            rw [fsts] at m2
            obtain ⟨x, hx, exx⟩ := List.mem_map.mp m2
            exact absurd (exx.trans wi) (anew x hx)
        refine ⟨_, rfl, _, rfl, _, rfl, kd, _, rfl, DPut.k (k := .inl (i : Int)) hk5 (small1000 (by have := gk5.len; omega)), ?_⟩
        rw [putK_new _ no]
        have goJ : GoD kd J (upd J kd (.dK (kvs' ++ [(.inl (i : Int), .ref q2)]))) := GoD.put
        refine ⟨_, rfl, k i (ws ++ [(i, y)]) _ iln ((go4.trans go5).trans goJ) ⟨_, upd_same, (gk5.imp fun _ _ h => h.mono fun l v h => h.go hk5 goJ).snoc ⟨q2, rfl, iln, (hq4.go hk4 go5).go hk5 goJ, q2z⟩⟩ (by rw [List.length_append, lws]; rfl) ?_ (keeps.least rest iln pre' na)⟩
        refine keeps.more rest iln pre' na cz yal (by rw [List.map_append, fsts]; rfl) (fun l hl => ?_) (fun k' hk' => ?_) (List.mem_append_right _ List.mem_cons_self)
        · rcases List.mem_append.mp hl with z | z
          · obtain ⟨s, hs⟩ := List.getElem?_of_mem z
            have sl : s < ks.length := by rw [← lws]; exact (List.getElem?_eq_some_iff.mp hs).1
            obtain ⟨l', h1, h2, h3, _⟩ := inv5 s ks[s] (List.getElem?_eq_getElem sl)
            rw [hs] at h1
            cases h1
            exact .inr ⟨ks[s], List.getElem_mem sl, h2, h3 sl⟩
          · exact .inl (List.mem_singleton.mp z)
        · obtain ⟨s, hs⟩ := List.getElem?_of_mem hk'
          obtain ⟨l', h1, h2, h3, _⟩ := inv5 s k' hs
          exact ⟨l', List.mem_append_left _ (List.mem_of_getElem? h1), h2, h3 (List.getElem?_eq_some_iff.mp hs).1⟩
end
end O42

set_option Elab.async false
set_option linter.all false
set_option maxRecDepth 100000
set_option maxHeartbeats 4000000
set_option pp.maxSteps 100
/-! The place of a cell in a tuple of cells; the row of a cell's rim. -/
namespace O42
open PySem L2 M40
abbrev sRim : Stmt := top 55
/-- a tuple of cells, locked or not -/
def TR (H : Hp) (b : Addr) (ll : List (List Int)) : Prop := ∃ as : List Addr, Rd H b (.tup (as.map V.ref)) ∧ PT2 H as ll
theorem rd_ext {H H' : Hp} {b : Addr} {u : HO} (e : Ext H H') (h : Rd H b u) : Rd H' b u := by
  rcases h with h | ⟨o, h⟩
  · exact .inl (e _ _ h)
  · exact .inr ⟨o, e _ _ h⟩
theorem TR.ext {H H' : Hp} {b : Addr} {ll : List (List Int)} (e : Ext H H') (h : TR H b ll) : TR H' b ll := let ⟨as, h1, h2⟩ := h; ⟨as, rd_ext e h1, PT2.mono (fun _ _ z => e _ _ z) h2⟩
theorem TR.dp {K : PySem.W.Frag} {H : Hp} {b : Addr} {ll : List (List Int)} (h : TR H b ll) : Dp K H (.ref b) (.tuple (ll.map tI)) := by
  obtain ⟨as, hb, pt⟩ := h
  exact .tup (.inl hb) (dp_lists pt)
theorem TT.tr {H : Hp} {b : Addr} {ll : List (List Int)} (h : TT H b ll) : TR H b ll := let ⟨as, h1, h2⟩ := h; ⟨as, .inl h1, h2⟩
/-- its object is known, and has no dict of its own -/
def Bare (H : Hp) (b : Addr) : Prop := ∃ (o : Obj) (u : HO), H b = some (.frz o u) ∧ o.dict = Option.none
theorem Bare.ext {H H' : Hp} {b : Addr} (e : Ext H H') (h : Bare H b) : Bare H' b := let ⟨o, u, h1, h2⟩ := h; ⟨o, u, e _ _ h1, h2⟩
/-- tuple(list), the new object known -/
theorem call_tuple_frz {X : Cx} : CallR X (.type "tuple") (fun xs H Q => ∃ p ys, xs = [.ref p] ∧ SqL X.K H p ys ∧ ∀ (l : Addr) (o : Obj), H l = Option.none → o.dict = Option.none → Q (.ref l) (upd H l (.frz o (.tup ys)))) := by
  intro pins s σ H xs us Q I r h
  obtain ⟨p, ys, rfl, hq, q⟩ := h
  obtain ⟨u, rfl, rx⟩ := Vals.one r
  cases rx
  obtain ⟨its, r', pl, hz⟩ := I.list hq
  have hlen := r'.length
  refine call_tuple_list pl.isList (fun h' kp => ?_) (by simp only [List.size_toArray] <;> omega)
  have I1 : Inv X pins σ H { s with heap := h' } := I.kept (t' := s.toks) kp
  have I2 : Inv X pins σ (upd H h'.objs.size (.frz { cls := .type "tuple", data := .seq its.toArray } (.tup ys))) { s with heap := h'.push { cls := .type "tuple", data := .seq its.toArray } } :=
    I1.laid (t' := s.toks) (fun b o e => Heap.get?_push_of_some _ e) (Nat.le_refl _) (show ObjOk X.prog X.w _ _ _ (.frz _ (.tup ys)) from ⟨Heap.get?_push_size _ rfl, hz, its, r', ⟨_, Heap.get?_push_size _ rfl, rfl, _, rfl⟩⟩)
  exact ⟨.ref h'.objs.size, _, I2, rfl, q _ _ (I1.hok.fresh (Nat.le_refl _)) rfl⟩
/-- t.index(cell), the first place -/
def rTupIdx : V → List V → Hp → VK → Prop := fun x xs H Q => ∃ (b c : Addr) (l : List Int) (ll : List (List Int)) (j : Nat), x = .ref b ∧ xs = [.ref c] ∧ TR H b ll ∧ H c = some (.tup (l.map V.int)) ∧ ll[j]? = some l ∧ (∀ m, m < j → ll[m]? ≠ some l) ∧ Q (.int (j : Nat)) H
theorem mt_tupIdx {X : Cx} (hu : X.A.units + 65 < cLine) : MtR X "tuple.index" rTupIdx := by
  intro pins s σ H x xs v us Q I rx rs h
  obtain ⟨b, c, l, ll, j, rfl, rfl, tt, hc, hj, hno, q⟩ := h
  cases rx
  cases rs with
  | cons ry rt =>
    rename_i uy ut
    cases rt
    obtain ⟨bs, r1⟩ := Dp.reads I (tI l) (.ref c) uy (dp_tI hc) ry
    have sd := shaped_tI l
    have sl : SeqAt.shaped (.tuple (ll.map tI)) = true := shaped_dT ll
    have hxs : PyData.canLayAll0 (ll.map tI) = true := by
      have := SeqAt.canLay_of_shaped sl
      rw [PyData.canLay0] at this
      exact this
    have hroom : X.A.units + 1 + min (PyData.depthAll (ll.map tI)) (tI l).depth < cLine := PyProof.Rows.room_in_shaped sd hu
    obtain ⟨as, hb, pt⟩ := tt
    obtain ⟨its, rv, ⟨⟨cls, dd, data, sls⟩, ho, hcl, n, hdt⟩, hlen⟩ := I.tuple (show SqT X.K H b _ from .inl hb)
    simp only at hcl hdt
    subst hcl hdt
    obtain ⟨as2, h4⟩ := Dp.readsAll I (ll.map tI) _ its (dp_lists pt) rv
    have hn : its.length = (ll.map tI).length := SeqAt.ReadsAll.length (ll.map tI) its as2 h4
    have hmap : its.map (SeqAt.readOf s.heap) = ll.map tI := SeqAt.readsAll_map (ll.map tI) its as2 hxs h4
    have lj := (List.getElem?_eq_some_iff.mp hj).1
    have hjl : j < its.length := by rw [hn, List.length_map]; exact lj
    have hj' : j < its.toArray.size := by simpa using hjl
    have at_ : ∀ (m : Nat) (hm : m < its.toArray.size) (k : List Int), ll[m]? = some k → SeqAt.readOf s.heap its.toArray[m] = tI k := by
      intro m hm k hk
      have hml : m < its.length := by simpa using hm
      have e1 : (its.map (SeqAt.readOf s.heap))[m]? = some (tI k) := by rw [hmap, List.getElem?_map, hk]; rfl
      rw [List.getElem?_map, List.getElem?_eq_getElem hml] at e1
      have e2 : SeqAt.readOf s.heap its[m] = tI k := Option.some.inj e1
      simpa using e2
    refine call_meets PySem.F.slot_tuple_index ⟨_, ho, rfl⟩ PySem.F.entry_tuple_index (PySem.F.args_tuple_index_2 _ _)
      (TI.tuple_indexAt b its.toArray n dd sls uy (fun u => PyData.eqv (SeqAt.readOf s.heap u) (tI l)) j hj' ?_ ?_) ⟨ho, SeqAt.items_eqAt (vs := its.toArray) (show ReadsAll s.heap its.toArray.toList (ll.map tI) as2 from h4) r1 hxs (SeqAt.canLay_of_shaped sd) hroom, ?_⟩
    · show PyData.eqv (SeqAt.readOf s.heap its.toArray[j]) (tI l) = true
      rw [at_ j hj' l hj, eqv_tI]
      exact decide_eq_true rfl
    · intro m hm hmj
      have hmd : m < ll.length := by omega
      show PyData.eqv (SeqAt.readOf s.heap its.toArray[m]) (tI l) = false
      rw [at_ m hm _ (List.getElem?_eq_getElem hmd), eqv_tI]
      exact decide_eq_false fun e => hno m hmj (by rw [List.getElem?_eq_getElem hmd, e])
    · exact ⟨.int (j : Nat), H, I.tok _, ⟨_, rfl⟩, q⟩
def tTupIdx (to : TE) (t : TA) : TE := fun σ H Q => to σ H fun x H1 => (∃ b ll, x = .ref b ∧ TR H1 b ll ∧ Bare H1 b) ∧ t σ H1 fun xs H2 => rTupIdx x xs H2 Q
theorem pe_tupIdx {X : Cx} {o e : Expr} {to : TE} {t : TA} {apos cpos : Pos} (hu : X.A.units + 65 < cLine) (ho : PE X o to) (ha : PA X [e] t)
    (hbase : attributeBase o "index" X.env (eval o X.env) = eval o X.env := by rfl)
    (hfew : ((backTo cpos (starEach [e] X.env)).all (fun x => !x.1) && (backToKw cpos (keywordEach [] X.env)).all (fun x => x.1.isSome)
      && decide (([e] : List Expr).length + ([] : List Keyword).length + (if ([] : List Keyword).isEmpty then 0 else 1) < 30)) = true := by rfl)
    (hline : (apos.endLine == cpos.line) = true := by rfl) (hs : starEach [e] X.env = (false, eval e X.env) :: starEach [] X.env := by rfl) (hplain : (backTo cpos (starEach [] X.env)).any (·.1) = false := by rfl) :
    PE X (.Call (.Attribute o "index" apos) [e] [] cpos) (tTupIdx to t) := by
  refine ⟨fun pins s σ H Q I h => ?_⟩
  refine wpAny_Call_method_late hbase hfew hline rfl (thn (ho.run pins s σ H _ I h) fun v s1 ⟨x, H1, I1, r1, ⟨b, ll, ex, tr, oo, u, hf, hd⟩, q1⟩ => ?_)
  subst ex
  cases r1
  have ty : s1.TypeIs (.ref b) "tuple" := by
    obtain ⟨as, hb, _⟩ := tr
    obtain ⟨its, _, ⟨o', ho', hc', _⟩, _⟩ := I1.tuple (show SqT X.K H1 b _ from .inl hb)
    exact ⟨o', ho', hc'⟩
  refine ⟨"tuple", "tuple.index", PySem.F.plainAttrs_tuple, PySem.F.slot_tuple_index, PySem.F.type_tuple_index, ty, fun a e => ?_, ?_⟩
  · cases e
    exact ⟨oo, (I1.hok b _ hf).1, hd⟩
  · have hA := ha.run cpos pins s1 σ H1 _ I1 q1
    rw [hs] at hA ⊢
    refine Calls.callWith_builtin (by show (false || (backTo cpos (starEach [] X.env)).any (·.1)) = false; rw [hplain] <;> rfl) (Calls.evalArgs_plain ?_)
    exact thn hA fun us s2 ⟨vs, H2, I2, r2, q2⟩ => mt_tupIdx hu pins s2 σ H2 (.ref b) vs (.ref b) us Q I2 rfl r2 q2
theorem first_at : ∀ {ll : List (List Int)} {l : List Int}, l ∈ ll → ∃ j : Nat, ll[j]? = some l ∧ ∀ m : Nat, m < j → ll[m]? ≠ some l
  | [], _, h => nomatch h
  | a :: r, l, h => by
    by_cases e : a = l
    · exact ⟨0, by rw [e]; rfl, fun m hm => absurd hm (Nat.not_lt_zero m)⟩
    · obtain ⟨j, h1, h2⟩ := first_at (ll := r) (l := l) (by
        rcases List.mem_cons.mp h with z | z
        · exact absurd z.symm e
        · exact z)
      refine ⟨j + 1, h1, fun m hm => ?_⟩
      cases m with
      | zero => exact fun z => e (Option.some.inj z)
      | succ m => exact h2 m (by omega)
def rimV (p : Int) (ll : List (List Int)) (fs : List (List Int)) : Vc := rev ll.length fun i => sgF p 0 fs (ll.getD i [])
def spRim : Sp := fun vs H Q _ => ∃ (b c : Addr) (l : List Int) (ll : List (List Int)) (p : Int), vs = [.ref b, .int p, .ref c] ∧ TR H b ll ∧ Bare H b ∧ H c = some (.tup (l.map V.int)) ∧ 1 ≤ l.length ∧ l.length ≤ 4 ∧ (∀ f ∈ facesL l, f ∈ ll) ∧ ll.Nodup ∧ (facesL l).Nodup ∧ Pr p ∧ ll.length ≤ 1000 ∧ ∀ (q : Addr) (H' : Hp), Ext H H' → RowV p ll.length H' q (rimV p ll (facesL l)) → Q (.ref q) H'
theorem take_snoc {α : Type} {l : List α} {i : Nat} {a : α} (h : l[i]? = some a) : l.take (i + 1) = l.take i ++ [a] := by
  rw [List.take_succ, h]
  rfl
/-- one face more -/
theorem rim_step {p : Int} {ll fs : List (List Int)} {ns : List Int} {u j : Nat} {f : List Int} {v : Int} (nd : ll.Nodup) (nf : fs.Nodup) (hf : fs[u]? = some f) (hj : ll[j]? = some f) (ln : ns.length = ll.length) (ev : v = sg p u)
    (h : ∀ i, i < ll.length → ns.getD i 0 = rimV p ll (fs.take u) i) : ∀ i, i < ll.length → (ns.set (ll.length - 1 - j) v).getD i 0 = rimV p ll (fs.take (u + 1)) i := fun i hi => by
  have jl := (List.getElem?_eq_some_iff.mp hj).1
  have ul := (List.getElem?_eq_some_iff.mp hf).1
  have nin : f ∉ fs.take u := fun m => by
    obtain ⟨a, ha, ea⟩ := List.mem_iff_getElem.mp m
    rw [List.length_take] at ha
    rw [List.getElem_take] at ea
    have := nd_at nf (i := a) (j := u) (c := f) (by rw [List.getElem?_eq_getElem (by omega), ea]) hf
    omega
  have hi' := h i hi
  unfold rimV rev at hi' ⊢
  dsimp only at hi' ⊢
  rw [take_snoc hf, sgF_snoc nin, List.length_take, Nat.min_eq_left (by omega), Nat.zero_add]
  rw [List.getD_eq_getElem?_getD]
  by_cases e : i = ll.length - 1 - j
  · subst e
    rw [List.getElem?_set_self (by omega), show ll.length - 1 - (ll.length - 1 - j) = j by omega, getD_of hj, if_pos rfl, ev]
    rfl
  · rw [List.getElem?_set_ne (fun z => e z.symm), ← List.getD_eq_getElem?_getD, hi', if_neg]
    intro z
    have := nd_at nd (i := j) (j := ll.length - 1 - i) (c := f) hj (by rw [getD_lt (by omega), ← z])
    omega
theorem rowg_set {p : Int} {n : Nat} {ns : List Int} {j : Nat} {v : Int} (g : RowG p n ns) (v0 : 0 ≤ v) (vp : v < p) : RowG p n (ns.set j v) := ⟨by rw [List.length_set]; exact g.1, fun x hx => by
  rcases List.mem_or_eq_of_mem_set hx with z | z
  · exact g.2 x z
  · rw [z]; exact ⟨v0, vp⟩⟩
theorem none_of_ext {H H1 : Hp} {b : Addr} (e : Ext H H1) (h : H1 b = none) : H b = none := by
  cases q : H b with
  | none => rfl
  | some o => rw [e _ _ q] at h; cases h
theorem ref_get {as : List Addr} {j : Nat} {y : V} (h : (as.map V.ref)[j]? = some y) : ∃ b, as[j]? = some b ∧ y = .ref b := by
  rw [List.getElem?_map] at h
  cases e : as[j]? with
  | none => rw [e] at h; cases h
  | some b => rw [e] at h; cases h; exact ⟨b, rfl, rfl⟩
theorem ref_int {J : Hp} {fl row : Addr} {as : List Addr} {ns : List Int} {i : Nat} {a : Addr} (h : J fl = some (.lst (as.map V.ref))) (g : J row = some (.lst (ns.map V.int))) (ha : as[i]? = some a) : fl ≠ row := fun e => by
  rw [e, g] at h
  injection h with h
  injection h with h
  have : (ns.map V.int)[i]? = some (.ref a) := by rw [h, List.getElem?_map, ha]; rfl
  obtain ⟨n, _, z⟩ := map_int_get this
  cases z
section
variable {P : Program} {w : World} {K : PySem.W.Frag} {mg : Str → Option Value} {base : Heap}
abbrev rimN : List Str := ["cells", "prime", "cell", "row", "at", "face"]
theorem scRim : FnScope rimN ["cells", "prime", "cell"] (defScope sRim) := ⟨rfl, rfl, rfl, by decide +kernel, rfl, by decide +kernel, by decide +kernel⟩
theorem ok_rim {f : Addr} {fd : FuncData} (F : L2.Fun K "rim_row" "rim_row" sRim f fd) (T : Gb mg) (cF : Cal P w K mg base 1 "faces" spFaces []) : FnOk P w K mg base CX0 2 f fd ["cells", "prime", "cell"] spRim := by
  refine F.ok scRim (fun vs H Q E h => ?_) (fun cdv A outer s H vs Q E hr h => ?_)
  · obtain ⟨b, c, l, ll, p, rfl, _⟩ := h
    rfl
  · obtain ⟨b, c, l, ll, p, rfl, tt, bare, hc, l1, l4, fs, nd, nf, hp, ln, k⟩ := h
    have hp' := hp.le
    have hu65 : A.units + 3 + 65 < cLine := by
      have := hr.un
      show A.units + 3 + 65 < cLine
      have e : (A.deeper (PyProof.Rows.envOfC "rim_row" (defScope sRim) s.heap.objs.size f cdv)).units = A.units + 3 := rfl
      omega
    refine ⟨_, pss_cons (ps_set (i := 3) scRim.nd rfl (Or.inl rfl) (pe_op op_rep (pe_lst (pa_cons pe_int pa_nil)) (pe_callB call_len_seq (by rfl) T.len PySem.boot_len (pa_cons (pv 0) pa_nil))))
      (pss_cons (ps_for PassesOwn.never rfl (pi_enum (by rfl) T.enum (pa_cons (C8.pe_c cF hr (by decide) (by rfl) (pa_cons (pv 2) pa_nil)) pa_nil)) (pg_tup rfl (pgs_cons (pg_name (i := 4) scRim.nd rfl (Or.inl rfl)) (pgs_cons (pg_name (i := 5) scRim.nd rfl (Or.inl rfl)) pgs_nil)))
      (pss_one (ps_asg (pe_ifExp (pt_cmpR op_eq (pe_op op_mod (pv 4) pe_int) pe_int (nomark _)) pe_int (pe_op op_sub (pv 1) pe_int)) (pg_sub (pv 3) (pe_op op_sub (pe_op op_sub (pe_callB call_len_seq (by rfl) T.len PySem.boot_len (pa_cons (pv 0) pa_nil)) pe_int) (pe_tupIdx hu65 (pv 0) (pa_cons (pv 5) pa_nil))) set_list))))
      (pss_one (ps_ret (pv 3)))), ?_⟩
    obtain ⟨as, hb, pt⟩ := id tt
    have la : as.length = ll.length := Paired.length pt
    refine ⟨by show 1 ≤ sizeLine; decide, fun p1 n1 => ?_⟩
    have x1 := Ext.upd (o := .lst [V.int 0]) n1
    refine ⟨_, rfl, b, _, rfl, .inr (.inl (rd_ext x1 hb)), p1, _, [V.int 0], rfl, rfl, upd_same, by omega, by rw [List.length_map]; omega, by rw [List.length_map]; show 1 * _ ≤ sizeLine; rw [sizeLine_eq]; omega, fun row nrow => ?_⟩
    rw [List.flatten_replicate_singleton]
    have e0 : List.replicate (((as.map V.ref).length : Nat) : Int).toNat (V.int 0) = (List.replicate ll.length (0 : Int)).map V.int := by
      rw [List.map_replicate, List.length_map, la]
      rfl
    rw [e0]
    have x2 := Ext.upd (o := .lst ((List.replicate ll.length (0 : Int)).map V.int)) nrow
    have x12 := x1.trans x2
    have hr0 : RowV p ll.length (upd (upd H p1 (.lst [V.int 0])) row (.lst ((List.replicate ll.length (0 : Int)).map V.int))) row (rimV p ll []) := ⟨_, upd_same, ⟨by rw [List.length_replicate], fun x hx => by
      rw [List.eq_of_mem_replicate hx]
      exact ⟨by decide, by omega⟩⟩, fun i hi => by
      rw [List.getD_eq_getElem?_getD, List.getElem?_replicate, if_pos hi]
      rfl⟩
    have nrowH : H row = none := none_of_ext x1 nrow
    generalize upd (upd H p1 (.lst [V.int 0])) row (.lst ((List.replicate ll.length (0 : Int)).map V.int)) = H1 at *
    refine ⟨_, rfl, c, l, rfl, x12 _ _ hc, l1, l4, fun fl fas H2 e2 hfl fpt => ?_⟩
    have hr2 := hr0.ext e2
    have x3 := x12.trans e2
    refine ⟨fl, _, rfl, SqL.of hfl, ?_⟩
    refine for_it walk_enum (fun i σ' J => ∃ v4 v5 : Option V, σ' = [some (.ref b), some (.int p), some (.ref c), some (.ref row), v4, v5] ∧ GoD row H2 J ∧ RowV p ll.length J row (rimV p ll ((facesL l).take i)) ∧ J fl = some (.lst (fas.map V.ref))) ⟨_, _, rfl, fun _ _ _ h => h, hr2, hfl⟩ (fun i σ' J _ ⟨_, _, _, _, _, g⟩ => SqL.of g) ?_ ?_
    · rintro i z σ' J J' hi ⟨v4, v5, rfl, g, hrow, hfl'⟩ ⟨t, x, y, rfl, nt, rfl, hx, hy⟩
      cases hx
      obtain ⟨a, ha, rfl⟩ := ref_get hy
      obtain ⟨f1, hf1, haf⟩ := fpt.get ha
      obtain ⟨ns, hns, gn, en⟩ := hrow
      have nfl := ref_int hfl' hns ha
      have et := Ext.upd (o := .tup [V.int (i : Int), .ref a]) nt
      have brow : b ≠ row := fun z => by
        rcases (rd_ext x3 hb) with q | ⟨o, q⟩ <;> (rw [z] at q; obtain ⟨ms, h1, _⟩ := hr2; rw [h1] at q; cases q)
      have keep : ∀ {q : Addr} {xs : List V}, H2 q = some (.tup xs) → J q = some (.tup xs) := fun {q xs} h => g _ _ (fun z => by rw [z] at h; obtain ⟨ms, h1, _⟩ := hr2; rw [h1] at h; cases h) h
      have ttJ : TR (upd J t (.tup [V.int (i : Int), .ref a])) b ll := ⟨as, by
        rcases (rd_ext x3 hb) with q | ⟨o, q⟩
        · exact .inl (et _ _ (g _ _ brow q))
        · exact .inr ⟨o, et _ _ (g _ _ brow q)⟩, Paired.imp' (fun _ _ h => et _ _ (keep (x3 _ _ h))) pt⟩
      have bareJ : Bare (upd J t (.tup [V.int (i : Int), .ref a])) b := let ⟨o, u, h1, h2⟩ := bare.ext x3; ⟨o, u, et _ _ (g _ _ brow h1), h2⟩
      have haJ := et _ _ (keep haf)
      have hnsJ := et _ _ hns
      have hflJ := et _ _ hfl'
      have gJ := g.trans (GoD.of et)
      obtain ⟨j, hj, hno⟩ := first_at (fs f1 (List.mem_of_getElem? hf1))
      have jl := (List.getElem?_eq_some_iff.mp hj).1
      refine ⟨t, _, rfl, SqT.of upd_same, rfl, _, _, rfl, _, _, rfl, rfl, ?_⟩
      generalize upd J t (.tup [V.int (i : Int), .ref a]) = J2 at *
      obtain ⟨as', hb', pt'⟩ := id ttJ
      have la' : (as'.map V.ref).length = ll.length := by
        rw [List.length_map]
        exact Paired.length pt'
      have ix : ixN (ns.map V.int).length ((((as'.map V.ref).length : Nat) : Int) - 1 - ((j : Nat) : Int)) = some (ll.length - 1 - j) := by
        have e : (((as'.map V.ref).length : Nat) : Int) - 1 - ((j : Nat) : Int) = ((ll.length - 1 - j : Nat) : Int) := by rw [la']; omega
        rw [e]
        have q : ll.length - 1 - j < (ns.map V.int).length := by rw [List.length_map, gn.1]; omega
        unfold ixN
        rw [if_pos (by omega), if_pos (by omega)]
        rfl
      have fin : ∀ v : Int, 0 ≤ v → v < p → v = sg p i → ∃ v4 v5 : Option V, [some (V.ref b), some (.int p), some (.ref c), some (.ref row), some (.int (i : Int)), some (.ref a)] = [some (.ref b), some (.int p), some (.ref c), some (.ref row), v4, v5] ∧ GoD row H2 (upd J2 row (.lst ((ns.map V.int).set (ll.length - 1 - j) (.int v)))) ∧ RowV p ll.length (upd J2 row (.lst ((ns.map V.int).set (ll.length - 1 - j) (.int v)))) row (rimV p ll ((facesL l).take (i + 1))) ∧ (upd J2 row (.lst ((ns.map V.int).set (ll.length - 1 - j) (.int v)))) fl = some (.lst (fas.map V.ref)) := fun v v0 vp ev =>
        ⟨_, _, rfl, gJ.trans GoD.put, ⟨ns.set (ll.length - 1 - j) v, by rw [upd_same, List.map_set], rowg_set gn v0 vp, rim_step nd nf hf1 hj gn.1 ev en⟩, by rw [upd_ne nfl]; exact hflJ⟩
      refine ⟨_, rfl, _, _, rfl, rfl, by show (0 : Int) < 2; decide, rfl, _, rfl, ?_⟩
      refine ite2 (fun z => ?_) (fun z => ?_)
      · refine ⟨_, rfl, _, rfl, b, _, rfl, .inr (.inl hb'), _, _, rfl, rfl, _, rfl, ⟨b, ll, rfl, ttJ, bareJ⟩, _, rfl, b, a, f1, ll, j, rfl, rfl, ttJ, haJ, hj, hno, _, _, rfl, rfl, row, _, _, _, rfl, rfl, hnsJ, ix, ?_⟩
        refine fin 1 (by decide) (by omega) ?_
        have z := of_decide_eq_true z
        injection z with z
        unfold sg
        rw [if_pos (by omega)]
      · refine ⟨_, rfl, _, _, rfl, rfl, _, rfl, _, rfl, b, _, rfl, .inr (.inl hb'), _, _, rfl, rfl, _, rfl, ⟨b, ll, rfl, ttJ, bareJ⟩, _, rfl, b, a, f1, ll, j, rfl, rfl, ttJ, haJ, hj, hno, _, _, rfl, rfl, row, _, _, _, rfl, rfl, hnsJ, ix, ?_⟩
        refine fin (p - 1) (by omega) (by omega) ?_
        unfold sg
        rw [if_neg fun q => z (decide_eq_true ?_)]
        show V.int ((i : Int) % 2) = V.int 0
        rw [show (i : Int) % 2 = 0 by omega]
    · rintro σ' J ⟨v4, v5, rfl, g, hrow, _⟩
      exact ⟨_, rfl, k row J (fun q o h => g _ _ (fun z => by rw [z, nrowH] at h; cases h) (x3 _ _ h)) (by
        have e : (fas.map V.ref).length = (facesL l).length := by rw [List.length_map]; exact Paired.length fpt
        rw [e, List.take_of_length_le (Nat.le_refl _)] at hrow
        exact hrow)⟩
end
end O42

set_option Elab.async false
set_option linter.all false
set_option maxRecDepth 100000
set_option maxHeartbeats 4000000
set_option pp.maxSteps 100
/-! Right towers made. -/
namespace O42
open PySem L2
/-- a tower over cells that may be locked -/
def spTowG (CT : Addr) : Sp := fun vs H Q _ => ∃ (p dx b : Addr) (ll : List (List Int)), vs = [.ref p, .ref b] ∧ H p = some (.ins CT dx []) ∧ TR H b ll ∧ ll.length ≤ 40 ∧ GoodT ll ∧
  ∀ H' : Hp, H' p = some (.ins CT dx (cf (.ref b))) → (∀ c o, c ≠ p → H c = some o → H' c = some o) → Q .non H'
theorem good_prefix {ll : List (List Int)} (g : GoodT ll) {i : Nat} {l : List Int} (h : ll[i]? = some l) : Ok (ll.take i) l := by
  have lt := (List.getElem?_eq_some_iff.mp h).1
  have e : ll = ll.take i ++ (l :: ll.drop (i + 1)) := by
    have e1 : ll.drop i = l :: ll.drop (i + 1) := by
      rw [List.drop_eq_getElem_cons lt]
      congr 1
      exact (List.getElem?_eq_some_iff.mp h).2
    rw [← e1, List.take_append_drop]
  have g' : Gd [] (ll.take i ++ (l :: ll.drop (i + 1))) := e ▸ g
  have := (gd_app.mp g').2
  rw [List.nil_append] at this
  exact this.1
theorem cut_to {xs : List V} {i : Nat} (h : i ≤ xs.length) : cutV xs none (some (i : Int)) = xs.take i := by
  unfold cutV
  rw [HT.sIx_none, HT.sIx_nat, List.drop_zero, Nat.sub_zero, Nat.min_eq_left h]
theorem sl_rd {K : PySem.W.Frag} {H : Hp} {Q : VK} {a : Addr} {xs : List V} {lo hi : Option Int} (ha : Rd H a (.tup xs)) (k : ∀ (p : Addr) (H' : Hp), Ext H H' → Rd H' p (.tup (cutV xs lo hi)) → Q (.ref p) H') : rSlA K (.ref a) lo hi H Q := by
  refine ⟨a, xs, rfl, .inl ha, fun z => k a H Ext.rfl' ?_, fun _ p np => k p _ (Ext.upd np) (.inl upd_same)⟩
  unfold cutV
  rw [z.1, z.2, List.drop_zero, Nat.sub_zero, List.take_of_length_le (Nat.le_refl _)]
  exact ha
theorem in_TR {K : PySem.W.Frag} {H : Hp} {c q : Addr} {l : List Int} {ll : List (List Int)} {Q : VK} (h : H c = some (.tup (l.map V.int))) (tt : TR H q ll) (k : Q (.bl (decide (l ∈ ll))) H) : rInT K (.ref c) (.ref q) H Q :=
  ⟨tI l, ll.map tI, dp_tI h, tt.dp, shaped_tI l, shaped_dT ll, by rw [any_tI]; exact k⟩
theorem th_ints {K : PySem.W.Frag} {H : Hp} {n : Nat} {c : Addr} {l : List Int} (h : H c = some (.tup (l.map V.int))) : Th K H n (.ref c) := by
  cases n with
  | zero => exact Th.tup0 h
  | succ n =>
    refine Th.tup h fun y hy => ?_
    obtain ⟨i, _, rfl⟩ := List.mem_map.mp hy
    exact Th.int i
theorem TR.take {H : Hp} {q : Addr} {as : List Addr} {ll : List (List Int)} {i : Nat} (h : Rd H q (.tup ((as.map V.ref).take i))) (pt : PT2 H as ll) : TR H q (ll.take i) := ⟨as.take i, by rw [List.map_take]; exact h, p_take i pt⟩
theorem all_true {n : Nat} : ((List.range n).map fun _ => true).all id = true := List.all_eq_true.mpr fun b hb => by
  obtain ⟨_, _, rfl⟩ := List.mem_map.mp hb
  rfl
section
variable {P : Program} {w : World} {K : PySem.W.Frag} {mg : Str → Option Value} {base : Heap}
theorem ok_towG {f CT : Addr} {fd : FuncData} (F : L2.Fun K "__init__" "Tower.__init__" sTowI f fd) (T : Gb mg) (M : TowC mg) (W : TowK K mg CT)
    (cC : Cal P w K mg base 4 "is_cell" (spCell K) []) (cF : Cal P w K mg base 1 "faces" spFaces []) : FnOk P w K mg base CX0 5 f fd ["self", "cells"] (spTowG CT) := by
  obtain ⟨t40, h40⟩ := M.mc
  refine F.ok scTowI (fun vs H Q E h => ?_) (fun cdv A outer s H vs Q E hr h => ?_)
  · obtain ⟨p, dx, b, ll, rfl, _⟩ := h
    rfl
  · obtain ⟨p, dx, b, ll, rfl, hp, ⟨as, hb, pt⟩, l40, gd, kQ⟩ := h
    have la : as.length = ll.length := Paired.length pt
    have kt := kit_ty (K := K) (show kitB "tuple" "tuple" = some true by decide +kernel)
    have ty : TyX K H (.ref b) (.type "tuple") := by
      rcases hb with h | ⟨o, h⟩
      · exact .base (.tup h)
      · exact .fTuple h
    refine ⟨_, pss_cons (ps_if (PW.pt (pw_or (pt_not (pt_val (pe_callB call_isi (by rfl) T.isi (by decide +kernel) (pa_cons (pv 1) (pa_cons (pe_bltn (v := .ty "tuple") (by rfl) T.tup (by decide +kernel) rfl) pa_nil))))) (pw_or1 (pt_cmpR op_gt (pe_callB call_len_seq (by rfl) T.len PySem.boot_len (pa_cons (pv 1) pa_nil)) (pe_glob (v := .int 40) rfl h40 ⟨_, rfl⟩) (nomark _))))) (pss_one ps_never) pss_nil)
      (pss_cons (ps_for PassesOwn.never rfl (pi_en (by rfl) T.enum (pa_cons (pv 1) pa_nil)) (pg_tup rfl (pgs_cons (pg_name (i := 2) scTowI.nd rfl (Or.inr rfl)) (pgs_cons (pg_name (i := 3) scTowI.nd rfl (Or.inl rfl)) pgs_nil)))
      (pss_cons (ps_if (PW.pt (pw_or (pt_not (pt_val (C8.pe_c cC hr (by decide) (by rfl) (pa_cons (pv 3) pa_nil)))) (pw_or1 (pt_cmpR (op_inT (u65 hr)) (pv 3) (pe_slice sl_tupA (pv 1) po_none (po_some (pv 2))) (by rfl))))) (pss_one ps_never) pss_nil)
      (pss_one (ps_if (pt_not (pt_val (pe_callB (cr_all rfl) (by rfl) T.all (by decide +kernel) (pa_cons (pe_lc (own := [("face", 4)]) (g := gName 4) (tt := tYes) rfl scTowI.nd (pi_list (C8.pe_c cF hr (by decide) (by rfl) (pa_cons (pv 3) pa_nil))) (blkOk_by (N := towN) (sc := defScope sTowI) (by decide +kernel)) (fun _ _ _ _ _ => (pg_name (i := 4) scTowI.nd rfl (Or.inl rfl))) (fun _ _ _ _ _ => pts_nil) (fun _ _ _ _ _ => (pe_cmpR (r := rInT K) (op_inT (u65 hr)) (pv 4) (pe_slice (r := rSlA K) sl_tupA (pv 1) po_none (po_some (pv 2))) (by rfl)))) pa_nil)))) (pss_one ps_never) pss_nil))))
      (pss_one (ps_fld (pv 0) (pv 1) rfl))), ?_⟩
    refine ⟨_, rfl, .ref b, .ty "tuple", _, .type "tuple", _, rfl, .ty _, ty, kt, _, rfl, ?_⟩
    refine iteF ⟨_, rfl, b, _, rfl, .inr (.inl hb), _, _, rfl, rfl, _, rfl, ?_⟩
    refine ite2 (fun z => ?_) (fun _ => ?_)
    · have := of_decide_eq_true z
      rw [List.length_map] at this
      omega
    refine ⟨_, rfl, b, _, rfl, hb, for_en (a := b) (xs := as.map V.ref) (fun i σ' J => (∃ u v, σ' = [some (.ref p), some (.ref b), u, v, Option.none]) ∧ Ext H J) ⟨⟨_, _, rfl⟩, Ext.rfl'⟩ (fun i σ' J h => rd_ext h.2 hb) ?_ ?_⟩
    · rintro i z σ' J q hz ⟨⟨u, v, rfl⟩, e2⟩ nq
      obtain ⟨c, hc, rfl⟩ := ref_get hz
      obtain ⟨l, hl, hcl⟩ := pt.get hc
      have e3 : Ext H (upd J q (.tup [.int (i : Nat), .ref c])) := e2.trans (Ext.upd nq)
      have okl := good_prefix gd hl
      have hi := (List.getElem?_eq_some_iff.mp hz).1
      refine ⟨q, _, rfl, SqT.of upd_same, rfl, _, _, rfl, _, _, rfl, rfl, ?_⟩
      generalize upd J q (.tup [.int (i : Nat), .ref c]) = J1 at *
      have hcl1 := e3 _ _ hcl
      refine ⟨_, rfl, .ref c, rfl, th_ints hcl1, (fun c' xs e h => by cases e; rw [hcl1] at h; cases h; rw [List.length_map]; exact Nat.le_trans okl.1.2.1 (by decide)), fun bb J2 hbb e4 => ⟨_, rfl, ?_⟩⟩
      have bt : bb = true := hbb.mpr ⟨c, l, rfl, hcl1, okl.1⟩
      subst bt
      refine iteF ⟨_, rfl, _, rfl, _, rfl, (i : Int), rfl, ?_⟩
      have e34 := e3.trans e4
      refine sl_rd (K := K) (lo := Option.none) (hi := some (i : Int)) (rd_ext e34 hb) fun q1 J3 e5 hq1 => ?_
      rw [cut_to (Nat.le_of_lt hi)] at hq1
      have e35 := e34.trans e5
      have pt3 : PT2 J3 as ll := PT2.mono (fun _ _ z => e35 _ _ z) pt
      refine in_TR (e35 _ _ hcl) (TR.take hq1 pt3) ⟨_, rfl, ?_⟩
      refine ite2 (fun y => absurd (of_decide_eq_true y) okl.2.1) (fun _ => ?_)
      refine ⟨_, rfl, c, l, rfl, e35 _ _ hcl, okl.1.1, okl.1.2.1, fun fl fs J4 e6 hf pf => ⟨fl, rfl, ⟨_, SqL.of hf⟩, fun D nD => ?_⟩⟩
      have lf : (fs.map V.ref).length ≤ 1000 := by
        rw [List.length_map, show fs.length = _ from Paired.length pf]
        unfold facesL
        split
        · decide
        · rw [List.length_map, List.length_range]; exact Nat.le_trans okl.1.2.1 (by decide)
      refine lc_gen (n := (fs.map V.ref).length) (p := fun _ => true) walk_list nD lf (fun _ y _ => y = V.bl true) (fun _ _ _ _ _ z => z) (fun H' e => SqL.of (e _ _ hf)) ?_ ?_
      · rintro j u J5 J5' R N hj e7 ⟨rfl, hu⟩ hR hN
        obtain ⟨g, hg, rfl⟩ := ref_get hu
        obtain ⟨f1, hf1, hgf⟩ := pf.get hg
        have e47 := (e35.trans e6).trans e7
        refine ⟨rfl, tyes_in ⟨_, rfl, _, rfl, _, rfl, (i : Int), rfl, ?_⟩⟩
        refine sl_rd (K := K) (lo := Option.none) (hi := some (i : Int)) (rd_ext e47 hb) fun q2 J6 e8 hq2 => ?_
        rw [cut_to (Nat.le_of_lt hi)] at hq2
        refine in_TR (e8 _ _ (e7 _ _ hgf)) (TR.take hq2 (PT2.mono (fun _ _ z => (e47.trans e8) _ _ z) pt)) ?_
        rw [decide_eq_true (okl.2.2 f1 (List.mem_of_getElem? hf1))]
        exact hR rfl _ _ e8 rfl
      intro ys J5 e7 hD pp
      have ey := flags_of (t := fun _ => true) pp
      subst ey
      refine ⟨D, _, rfl, SqL.of hD, true, congrArg V.bl all_true, ?_⟩
      exact iteF ⟨⟨_, _, rfl⟩, (e35.trans e6).trans e7⟩
    · rintro σ' J ⟨⟨u, v, rfl⟩, e2⟩
      refine ⟨_, rfl, _, rfl, p, CT, dx, [], rfl, e2 _ _ hp, W.cl, W.nC, (by show 0 < 1000; decide), ?_⟩
      refine kQ _ ?_ (fun c o nc eo => ?_)
      · rw [upd_same]
        rfl
      · rw [upd_ne nc]
        exact e2 _ _ eo
end
end O42

set_option Elab.async false
set_option linter.all false
set_option maxRecDepth 100000
set_option maxHeartbeats 4000000
set_option pp.maxSteps 100
/-! Primes judged; the bars of a tower. -/
namespace O42
open PySem L2 M40
abbrev sPrime : Stmt := top 4
abbrev sBars : Stmt := top 56
def primeV : V → Bool
  | .int i => decide (i ∈ [2, 3, 5, 7, 11, 13])
  | _ => false
theorem primeV_true {x : V} : primeV x = true ↔ ∃ p, x = .int p ∧ Pr p := by
  cases x <;> simp [primeV, Pr, Prm]
theorem primeV_int {x : V} (h : isI x = false) : primeV x = false := by
  cases x <;> first | rfl | cases h
theorem in_primes (i : Int) : inV (.int i) [.int 2, .int 3, .int 5, .int 7, .int 11, .int 13] = decide (i ∈ [2, 3, 5, 7, 11, 13]) := by
  unfold inV
  by_cases h : i ∈ [2, 3, 5, 7, 11, 13]
  · rw [decide_eq_true h]
    simp only [List.mem_cons, List.not_mem_nil, or_false] at h
    rcases h with rfl | rfl | rfl | rfl | rfl | rfl <;> rfl
  · rw [decide_eq_false h]
    simp only [List.mem_cons, List.not_mem_nil, or_false, not_or] at h
    obtain ⟨h1, h2, h3, h4, h5, h6⟩ := h
    have e : ∀ n : Int, i ≠ n → eqV (.int n) (.int i) = false := fun n hn => beq_eq_false_iff_ne.mpr fun z => hn z.symm
    simp only [List.any_cons, List.any_nil, e _ h1, e _ h2, e _ h3, e _ h4, e _ h5, e _ h6, Bool.or_false]
def spPrime (K : PySem.W.Frag) : Sp := fun vs H Q _ => ∃ x : V, vs = [x] ∧ Th K H 0 x ∧ Q (.bl (primeV x)) H
structure PrimC (K : PySem.W.Frag) (mg : Str → Option Value) : Prop where
  pr : ∃ aP, mg "PRIMES" = some (.ref aP) ∧ ∀ H, SqT K H aP [.int 2, .int 3, .int 5, .int 7, .int 11, .int 13]
/-- all but these stays -/
def GoS (ks : List Addr) (H H' : Hp) : Prop := ∀ b o, b ∉ ks → H b = some o → H' b = some o
theorem GoS.of {ks : List Addr} {H H' : Hp} (e : Ext H H') : GoS ks H H' := fun b o _ h => e b o h
theorem GoS.trans {ks : List Addr} {H H1 H2 : Hp} (x : GoS ks H H1) (y : GoS ks H1 H2) : GoS ks H H2 := fun b o n h => y b o n (x b o n h)
theorem GoS.put {ks : List Addr} {k : Addr} {H : Hp} {o : HO} (h : k ∈ ks) : GoS ks H (upd H k o) := fun b u n hb => by rw [upd_ne fun z => n (by rw [z]; exact h)]; exact hb
theorem GoS.ofD {ks : List Addr} {k : Addr} {H H' : Hp} (h : k ∈ ks) (g : GoD k H H') : GoS ks H H' := fun b u n hb => g b u (fun z => n (by rw [z]; exact h)) hb
abbrev nv (n : Nat) : V := .int (n : Int)
def gV : Option Nat → V
  | none => .non
  | some j => .int (j : Int)
/-- a bar stands there -/
def BarIs (H : Hp) (x : V) (g : Nat × Option Nat) : Prop := ∃ q : Addr, x = .ref q ∧ H q = some (.tup [.int (g.1 : Int), gV g.2])
theorem BarIs.mono {H H' : Hp} {x : V} {g : Nat × Option Nat} (e : TExt H H') (h : BarIs H x g) : BarIs H' x g := let ⟨q, h1, h2⟩ := h; ⟨q, h1, e _ _ h2⟩
noncomputable def bornB (p : Int) (ll : List (List Int)) (d b : Nat) : Bool := @decide (szD ll b = d + 1 ∧ Born p ll.length (rimD p ll) b) (Classical.propDecidable _)
theorem bornB_iff {p : Int} {ll : List (List Int)} {d b : Nat} : bornB p ll d b = true ↔ szD ll b = d + 1 ∧ Born p ll.length (rimD p ll) b := by
  unfold bornB
  exact @decide_eq_true_iff _ (Classical.propDecidable _)
/-- those of the first n cells that are born, of one size -/
noncomputable def bornL (p : Int) (ll : List (List Int)) (d n : Nat) : List Nat := (List.range n).filter (bornB p ll d)
theorem bornL_yes {p : Int} {ll : List (List Int)} {d n : Nat} (h : szD ll n = d + 1 ∧ Born p ll.length (rimD p ll) n) : bornL p ll d (n + 1) = bornL p ll d n ++ [n] := by
  unfold bornL
  rw [List.range_succ, List.filter_append, List.filter_cons, if_pos (bornB_iff.mpr h)]
  rfl
theorem bornL_no {p : Int} {ll : List (List Int)} {d n : Nat} (h : ¬ (szD ll n = d + 1 ∧ Born p ll.length (rimD p ll) n)) : bornL p ll d (n + 1) = bornL p ll d n := by
  unfold bornL
  rw [List.range_succ, List.filter_append, List.filter_cons, if_neg fun z => h (bornB_iff.mp z)]
  exact List.append_nil _
theorem bornL_len (p : Int) (ll : List (List Int)) (d n : Nat) : (bornL p ll d n).length ≤ n := by
  have := List.length_filter_le (bornB p ll d) (List.range n)
  rw [List.length_range] at this
  exact this
/-- what the bars of a tower are -/
structure BarsOf (p : Int) (ll : List (List Int)) (d : Nat) (L : List (Nat × Option Nat)) : Prop where
  fst : L.map Prod.fst = bornL p ll d ll.length
  yes : ∀ x ∈ L, ∀ j, x.2 = some j → j < ll.length ∧ M40.Low p ll.length (rimD p ll) j x.1
  no : ∀ x ∈ L, x.2 = none → ∀ j, j < ll.length → ¬ M40.Low p ll.length (rimD p ll) j x.1
  cas : ∀ j, j < ll.length → Born p ll.length (rimD p ll) j ∨ ∃ b, M40.Low p ll.length (rimD p ll) j b
theorem bars_uniq {p : Int} {ll : List (List Int)} (R : Rims p ll.length (szD ll) (rimD p ll)) {L L' : List (Nat × Option Nat)} : L.map Prod.fst = L'.map Prod.fst → (∀ x ∈ L, ∀ j, x.2 = some j → j < ll.length ∧ M40.Low p ll.length (rimD p ll) j x.1) → (∀ x ∈ L, x.2 = none → ∀ j, j < ll.length → ¬ M40.Low p ll.length (rimD p ll) j x.1) →
    (∀ x ∈ L', ∀ j, x.2 = some j → j < ll.length ∧ M40.Low p ll.length (rimD p ll) j x.1) → (∀ x ∈ L', x.2 = none → ∀ j, j < ll.length → ¬ M40.Low p ll.length (rimD p ll) j x.1) → L = L' := by
  induction L generalizing L' with
  | nil =>
    intro h _ _ _ _
    cases L' with
    | nil => rfl
    | cons y L' => cases h
  | cons x L ih =>
    intro h y1 n1 y2 n2
    cases L' with
    | nil => cases h
    | cons y L' =>
      rw [List.map_cons, List.map_cons] at h
      injection h with h1 h2
      rw [ih h2 (fun z hz => y1 z (List.mem_cons_of_mem _ hz)) (fun z hz => n1 z (List.mem_cons_of_mem _ hz)) (fun z hz => y2 z (List.mem_cons_of_mem _ hz)) (fun z hz => n2 z (List.mem_cons_of_mem _ hz))]
      congr 1
      obtain ⟨b, g⟩ := x
      obtain ⟨b', g'⟩ := y
      cases h1
      congr 1
      have a1 := y1 _ List.mem_cons_self
      have a2 := n1 _ List.mem_cons_self
      have a3 := y2 _ List.mem_cons_self
      have a4 := n2 _ List.mem_cons_self
      dsimp only at a1 a2 a3 a4
      cases g with
      | none =>
        cases g' with
        | none => rfl
        | some j =>
          obtain ⟨hj, lo⟩ := a3 j rfl
          exact absurd lo (a2 rfl j hj)
      | some i =>
        obtain ⟨hi, li⟩ := a1 i rfl
        cases g' with
        | none => exact absurd li (a4 rfl i hi)
        | some j =>
          obtain ⟨hj, lo⟩ := a3 j rfl
          rcases Nat.lt_trichotomy i j with l | e | l
          · exact (R.once hj l li lo).elim
          · rw [e]
          · exact (R.once hi l lo li).elim
theorem BarsOf.uniq {p : Int} {ll : List (List Int)} (R : Rims p ll.length (szD ll) (rimD p ll)) {d : Nat} {L L' : List (Nat × Option Nat)} (h : BarsOf p ll d L) (h' : BarsOf p ll d L') : L = L' := bars_uniq R (h.fst.trans h'.fst.symm) h.yes h.no h'.yes h'.no
/-- a dict that tells who takes away what is born -/
def GoneD (p : Int) (ll : List (List Int)) (H : Hp) (g : Addr) (i : Nat) : Prop := ∃ kvs : List (Key × V), H g = some (.dK kvs) ∧ kvs.length ≤ i ∧ ∀ b : Nat, (∀ v, valV kvs (.inl (b : Int)) = some v → ∃ j, j < i ∧ v = .int ((j : Nat) : Int) ∧ M40.Low p ll.length (rimD p ll) j b) ∧ (valV kvs (.inl (b : Int)) = none → ∀ j, j < i → ¬ M40.Low p ll.length (rimD p ll) j b)
def goneOf (kvs : List (Key × V)) (b : Nat) : Option Nat := match valV kvs (.inl (b : Int)) with
  | some (.int j) => some j.toNat
  | _ => none
theorem paired_got {α β : Type} {R : α → β → Prop} {l : List α} {k : List β} (h : Paired R l k) : ∀ {i : Nat} {b : β}, k[i]? = some b → ∃ a, l[i]? = some a ∧ R a b := by
  induction h with
  | nil => intro i a e; cases e
  | cons r t ih =>
    intro i a e
    cases i with
    | zero =>
      cases e
      exact ⟨_, rfl, r⟩
    | succ i => exact ih e
theorem two_of_got {α β : Type} {R : α → β → Prop} : ∀ {l : List α} {k : List β}, l.length = k.length → (∀ (i : Nat) (a : α), l[i]? = some a → ∃ b : β, k[i]? = some b ∧ R a b) → Two R l k
  | [], [], _, _ => .nil
  | [], _ :: _, e, _ => by cases e
  | _ :: _, [], e, _ => by cases e
  | a :: l, b :: k, e, h => by
    obtain ⟨b', e1, r⟩ := h 0 a rfl
    cases e1
    exact .cons r (two_of_got (by simpa using e) fun i a' ha => h (i + 1) a' ha)
theorem tw_of {ll : List (List Int)} (g : GoodT ll) : Tw ll := by
  have at' : ∀ {i : Nat} {l : List Int}, ll[i]? = some l → Ok (ll.take i) l := fun h => good_prefix g h
  refine ⟨?_, fun c hc => ?_, fun c hc => ?_, fun j c h f hf => (at' h).2.2 f hf⟩
  · refine List.pairwise_iff_getElem.mpr fun i j hi hj lt e => ?_
    refine (at' (List.getElem?_eq_getElem hj)).2.1 (List.mem_iff_getElem.mpr ⟨i, by rw [List.length_take]; omega, ?_⟩)
    rw [List.getElem_take]
    exact e
  · obtain ⟨i, hi⟩ := List.getElem?_of_mem hc
    exact ⟨(at' hi).1.1, (at' hi).1.2.1⟩
  · obtain ⟨i, hi⟩ := List.getElem?_of_mem hc
    exact (at' hi).1.2.2.2.imp fun h => Int.ne_of_lt h
def spBars (CT : Addr) : Sp := fun vs H Q _ => ∃ (p b : Addr) (ll : List (List Int)) (pr : Int) (d : Nat), vs = [.ref p, .int pr, .int (d : Int)] ∧ TowAt CT H p b ∧ TR H b ll ∧ Bare H b ∧ GoodT ll ∧ ll.length ≤ 40 ∧ Pr pr ∧ d ≤ 3 ∧
  ∀ (t : Addr) (xs : List V) (L : List (Nat × Option Nat)) (H' : Hp), Ext H H' → H' t = some (.tup xs) → Two (BarIs H') xs L → BarsOf pr ll d L → Q (.ref t) H'
section
variable {P : Program} {w : World} {K : PySem.W.Frag} {mg : Str → Option Value} {base : Heap}
theorem scPrime : FnScope ["thing"] ["thing"] (defScope sPrime) := ⟨rfl, rfl, rfl, by decide +kernel, rfl, by decide +kernel, by decide +kernel⟩
theorem ok_prime {f : Addr} {fd : FuncData} (F : L2.Fun K "is_prime" "is_prime" sPrime f fd) (D : PrimC K mg) (cI : Cal P w K mg base 1 "is_integer" (spInteger K) []) : FnOk P w K mg base CX0 2 f fd ["thing"] (spPrime K) := by
  obtain ⟨aP, hP, sq⟩ := D.pr
  refine F.ok scPrime (fun vs H Q E h => ?_) (fun cdv A outer s H vs Q E hr h => ?_)
  · obtain ⟨x, rfl, _⟩ := h
    rfl
  · obtain ⟨x, rfl, th, k⟩ := h
    refine ⟨_, pss_one (ps_ret (pe_and (C8.pe_c cI hr (by decide) (by rfl) (pa_cons (pv 0) pa_nil)) (pe_one (pe_cmpR op_in_seq (pv 0) (pe_glob (v := .ref aP) rfl hP rfl) (by rfl))))), ?_⟩
    refine ⟨_, rfl, _, rfl, th, _, rfl, ?_⟩
    cases hx : isI x with
    | false =>
      rw [primeV_int hx] at k
      exact iteF k
    | true =>
      cases x with
      | int i => exact iteT ⟨_, rfl, aP, _, rfl, .inr (sq H), rfl, rfl, by rw [in_primes]; exact k⟩
      | _ => cases hx
abbrev barsN : List Str := ["tower", "prime", "deep", "born", "gone", "kept", "at", "cell", "place"]
theorem scBars : FnScope barsN ["tower", "prime", "deep"] (defScope sBars) := ⟨rfl, rfl, rfl, by decide +kernel, rfl, by decide +kernel, by decide +kernel⟩
theorem ok_bars {f CT : Addr} {fd : FuncData} (F : L2.Fun K "tower_bars" "tower_bars" sBars f fd) (T : Gb mg) (W : TowK K mg CT) (M3 : ∃ t, mg "MOST_DEEP" = some (.int 3 t))
    (cP : Cal P w K mg base 2 "is_prime" (spPrime K) []) (cN : Cal P w K mg base 2 "is_number" (spNumber K) []) (cK : Cal P w K mg base 3 "keep" spKeep []) (cR : Cal P w K mg base 2 "rim_row" spRim []) : FnOk P w K mg base CX0 4 f fd ["tower", "prime", "deep"] (spBars CT) := by
  obtain ⟨t3, h3⟩ := M3
  refine F.ok scBars (fun vs H Q E h => ?_) (fun cdv A outer s H vs Q E hr h => ?_)
  · obtain ⟨p, b, ll, x, y, rfl, _⟩ := h
    rfl
  · obtain ⟨p, b, ll, pr, d, rfl, ⟨dx, hp⟩, ⟨as, hb, pt⟩, bare, gd, l40, hpr, d3, k⟩ := h
    have hu1 := hu_of hr
    have la : as.length = ll.length := Paired.length pt
    have tw := tw_of gd
    have RM := tw.rims hpr
    refine ⟨_, pss_cons (ps_if (pt_not (pt_val (C8.pe_c cP hr (by decide) (by rfl) (pa_cons (pv 1) pa_nil)))) (pss_one ps_never) pss_nil)
      (pss_cons (ps_if (pt_not (pt_val (C8.pe_c cN hr (by decide) (by rfl) (pa_cons (pe_glob (v := .int 3) rfl h3 ⟨_, rfl⟩) (pa_cons (pv 2) pa_nil))))) (pss_one ps_never) pss_nil)
      (pss_cons (ps_set (i := 3) scBars.nd rfl (Or.inl rfl) (pe_lst pa_nil))
      (pss_cons (ps_set (i := 4) scBars.nd rfl (Or.inr rfl) pe_dnewK)
      (pss_cons (ps_set (i := 5) scBars.nd rfl (Or.inl rfl) pe_dnewK)
      (pss_cons (ps_for PassesOwn.never rfl (pi_en (by rfl) T.enum (pa_cons (pe_fld (pv 0) rfl) pa_nil)) (pg_tup rfl (pgs_cons (pg_name (i := 6) scBars.nd rfl (Or.inl rfl)) (pgs_cons (pg_name (i := 7) scBars.nd rfl (Or.inl rfl)) pgs_nil)))
      (pss_cons (ps_set (i := 8) scBars.nd rfl (Or.inl rfl) (C8.pe_c cK hr (by decide) (by rfl) (pa_cons (pv 1) (pa_cons (C8.pe_c cR hr (by decide) (by rfl) (pa_cons (pe_fld (pv 0) rfl) (pa_cons (pv 1) (pa_cons (pv 7) pa_nil)))) (pa_cons (pv 5) pa_nil)))))
      (pss_one (ps_if (pt_cmpR op_notN (pv 8) pe_non (nomark _)) (pss_one (ps_dput hu1 (pv 4) (pe_op op_sub (pe_op op_sub (pe_callB call_len_seq (by rfl) T.len PySem.boot_len (pa_cons (pe_fld (pv 0) rfl) pa_nil)) pe_int) (pv 8)) (pv 6) rfl)) (pss_one (ps_if (pt_cmpR op_eq (pe_callB call_len_seq (by rfl) T.len PySem.boot_len (pa_cons (pv 7) pa_nil)) (pe_op op_add (pv 2) pe_int) (nomark _)) (pss_one (ps_expr (pe_bm PySem.F.plainAttrs_list PySem.F.slot_list_append PySem.F.type_list_append mt_append (pv 3) (pa_cons (pv 6) pa_nil)))) pss_nil))))))
      (pss_one (ps_ret (pe_callTy call_tuple_of (by rfl) T.tup (by decide +kernel) (pa_cons (pe_lc (own := [("at", 6)]) (g := gName 6) (tt := tYes) rfl scBars.nd (pi_list (pv 3)) (blkOk_by (N := barsN) (sc := defScope sBars) (by decide +kernel)) (fun _ _ _ _ _ => (pg_name (i := 6) scBars.nd rfl (Or.inl rfl))) (fun _ _ _ _ _ => pts_nil) (fun _ _ _ _ _ => (pe_tup (pa_cons (pv 6) (pa_cons (pe_dget1 hu1 (pv 4) (pv 6) ⟨rfl, rfl, rfl, rfl⟩) pa_nil))))) pa_nil))))))))), ?_⟩
    have e1 : primeV (.int pr) = true := primeV_true.mpr ⟨pr, rfl, hpr⟩
    have e2 : numV 3 (.int (d : Int)) = true := numV_true.mpr ⟨(d : Int), rfl, by omega, by omega⟩
    refine ⟨_, rfl, .int pr, rfl, Th.int pr, _, rfl, ?_⟩
    rw [e1]
    refine iteF ⟨_, rfl, 3, .int (d : Int), rfl, Th.int _, _, rfl, ?_⟩
    rw [e2]
    refine iteF ⟨Nat.zero_le _, fun bo nbo go ngo kd nkd => ?_⟩
    have x1 := Ext.upd (o := .lst []) nbo
    have x2 := Ext.upd (o := .dK []) ngo
    have x3 := Ext.upd (o := .dK []) nkd
    have x13 := x1.trans (x2.trans x3)
    have hbo : (upd (upd (upd H bo (.lst [])) go (.dK [])) kd (.dK [])) bo = some (.lst ((bornL pr ll d 0).map nv)) := x3 _ _ (x2 _ _ upd_same)
    have hgo : (upd (upd (upd H bo (.lst [])) go (.dK [])) kd (.dK [])) go = some (.dK []) := x3 _ _ upd_same
    have hkd : (upd (upd (upd H bo (.lst [])) go (.dK [])) kd (.dK [])) kd = some (.dK []) := upd_same
    have nbg : bo ≠ go := ne_of_none (show (upd H bo (.lst [])) bo = some (.lst []) from upd_same) ngo
    have nbk : bo ≠ kd := ne_of_none (x2 _ _ (show (upd H bo (.lst [])) bo = some (.lst []) from upd_same)) nkd
    have ngk : go ≠ kd := ne_of_none (show (upd (upd H bo (.lst [])) go (.dK [])) go = some (.dK []) from upd_same) nkd
    have fb : ∀ q o, H q = some o → q ∉ [bo, go, kd] := fun q o h => by
      have h1 := ne_of_none h nbo
      have h2 := ne_of_none (x1 _ _ h) ngo
      have h3 := ne_of_none (x2 _ _ (x1 _ _ h)) nkd
      simp only [List.mem_cons, List.not_mem_nil, or_false, not_or]
      exact ⟨h1, h2, h3⟩
    generalize upd (upd (upd H bo (.lst [])) go (.dK [])) kd (.dK []) = H1 at *
    have keep : ∀ {J : Hp}, GoS [bo, go, kd] H1 J → ∀ q o, H q = some o → J q = some o := fun {J} g q o h => g q o (fb q o h) (x13 _ _ h)
    have rdJ : ∀ {J : Hp}, GoS [bo, go, kd] H1 J → Rd J b (.tup (as.map V.ref)) := fun {J} g => by
      rcases hb with h | ⟨o, h⟩
      · exact .inl (keep g _ _ h)
      · exact .inr ⟨o, keep g _ _ h⟩
    have extJ : ∀ {J : Hp}, GoS [bo, go, kd] H1 J → Ext H J := fun {J} g q o h => keep g q o h
    have mk : kd ∈ [bo, go, kd] := by simp
    have mg' : go ∈ [bo, go, kd] := by simp
    have mb : bo ∈ [bo, go, kd] := by simp
    refine ⟨_, rfl, p, CT, dx, _, _, rfl, x13 _ _ hp, W.cl, W.nC, cf_cells _, b, _, rfl, rd_ext x13 hb, for_en (a := b) (xs := as.map V.ref) (fun i σ' J => ∃ (v6 v7 v8 : Option V) (ks : List (Nat × Vc)), σ' = [some (.ref p), some (.int pr), some (.int (d : Int)), some (.ref bo), some (.ref go), some (.ref kd), v6, v7, v8] ∧ GoS [bo, go, kd] H1 J ∧ J bo = some (.lst ((bornL pr ll d i).map nv)) ∧ GoneD pr ll J go i ∧ KeptV pr ll.length bo J kd ks ∧ ks.length ≤ i ∧ Keeps pr ll.length (fun j => rev ll.length (rimD pr ll j)) i ks ∧ ∀ j, j < i → Born pr ll.length (rimD pr ll) j ∨ ∃ b, M40.Low pr ll.length (rimD pr ll) j b)
      ⟨_, _, _, [], rfl, (fun _ _ _ h => h), hbo, ⟨[], hgo, Nat.le_refl _, fun b => ⟨fun v h => (nomatch h), fun _ j h => absurd h (Nat.not_lt_zero j)⟩⟩, ⟨[], hkd, .nil⟩, Nat.le_refl _, Keeps.nil, fun j h => absurd h (Nat.not_lt_zero j)⟩ (fun i σ' J ⟨_, _, _, _, _, h, _⟩ => rdJ h) ?_ ?_⟩
    · rintro i z σ' J q hz ⟨v6, v7, v8, ks, rfl, g, hbs, gd', kt, lk, kps, cas⟩ nq
      obtain ⟨c, hc, rfl⟩ := ref_get hz
      obtain ⟨l, hl, hcl⟩ := pt.get hc
      have okl := good_prefix gd hl
      have fl : ∀ f ∈ facesL l, f ∈ ll := fun f hf => List.mem_of_mem_take (okl.2.2 f hf)
      have et := Ext.upd (o := .tup [V.int (i : Nat), .ref c]) nq
      have il : i < ll.length := (List.getElem?_eq_some_iff.mp hl).1
      have eD : rev ll.length (rimD pr ll i) = rimV pr ll (facesL l) := by
        unfold rimV rimD
        rw [getD_of hl]
        rfl
      have esz : szD ll i = l.length := by
        unfold szD
        rw [getD_of hl]
      refine ⟨q, _, rfl, SqT.of upd_same, rfl, _, _, rfl, _, _, rfl, rfl, ?_⟩
      have g1 := g.trans (GoS.of et)
      have hbs1 := et _ _ hbs
      have gd1 : GoneD pr ll (upd J q (.tup [V.int (i : Nat), .ref c])) go i := let ⟨kvs, h1, h2, h3⟩ := gd'; ⟨kvs, et _ _ h1, h2, h3⟩
      have kt1 : KeptV pr ll.length bo (upd J q (.tup [V.int (i : Nat), .ref c])) kd ks := let ⟨kvs, h1, h2⟩ := kt; ⟨kvs, et _ _ h1, h2.imp fun _ _ h => h.mono fun l v h => h.ext et⟩
      generalize upd J q (.tup [V.int (i : Nat), .ref c]) = J1 at *
      have tr1 : TR J1 b ll := ⟨as, rdJ g1, PT2.mono (fun _ _ z => extJ g1 _ _ z) pt⟩
      refine ⟨_, rfl, _, rfl, p, CT, dx, _, _, rfl, extJ g1 _ _ hp, W.cl, W.nC, cf_cells _, _, rfl, _, rfl, b, c, l, ll, pr, rfl, tr1, bare.ext (extJ g1), extJ g1 _ _ hcl, okl.1.1, okl.1.2.1, fl, tw.nd, fcs_nd (tw.dis l (List.mem_of_getElem? hl)) okl.1.1 okl.1.2.1, hpr, by omega, fun row J2 e2 hrow => ?_⟩
      have g2 := g1.trans (GoS.of e2)
      have kt2 : KeptV pr ll.length bo J2 kd ks := let ⟨kvs, h1, h2⟩ := kt1; ⟨kvs, e2 _ _ h1, h2.imp fun _ _ h => h.mono fun l v h => h.ext e2⟩
      have gd2 : GoneD pr ll J2 go i := let ⟨kvs, h1, h2, h3⟩ := gd1; ⟨kvs, e2 _ _ h1, h2, h3⟩
      have hbs2 := e2 _ _ hbs1
      rw [← eD] at hrow
      refine ⟨_, rfl, pr, ll.length, i, row, kd, bo, fun j => rev ll.length (rimD pr ll j), ks, rfl, hpr, by omega, by omega, hrow, nbk, ⟨_, hbs2⟩, kt2, kps, fun J3 g3 k3 bn kp3 => ?_, fun m ks' J3 mlt g3 k3 lk3 kp3 fst => ?_⟩
      · have bn := born_rev.mp bn
        have g13 := g2.trans (GoS.ofD mk g3)
        have hbs3 := g3 _ _ nbk hbs2
        have gd3 : GoneD pr ll J3 go (i + 1) := by
          obtain ⟨kvs, h1, h2, h3⟩ := gd2
          refine ⟨kvs, g3 _ _ ngk h1, by omega, fun b => ⟨fun v hv => ?_, fun hv j hj lo => ?_⟩⟩
          · obtain ⟨j, a1, a2, a3⟩ := (h3 b).1 v hv
            exact ⟨j, by omega, a2, a3⟩
          · by_cases e : j = i
            · subst e
              exact lo.neg bn
            · exact (h3 b).2 hv j (by omega) lo
        have cas3 : ∀ j, j < i + 1 → Born pr ll.length (rimD pr ll) j ∨ ∃ b, M40.Low pr ll.length (rimD pr ll) j b := fun j hj => by
          by_cases e : j = i
          · subst e
            exact .inl bn
          · exact cas j (by omega)
        refine ⟨_, rfl, rfl, _, rfl, ?_⟩
        refine ite2 (fun z => absurd z (by decide)) (fun _ => ?_)
        refine ⟨_, rfl, c, _, rfl, .inr (SqT.of (extJ g13 _ _ hcl)), _, rfl, _, _, rfl, rfl, rfl, _, rfl, ?_⟩
        have lb := bornL_len pr ll d i
        refine ite2 (fun z => ?_) (fun z => ⟨_, _, _, ks, rfl, g13, ?_, gd3, k3, by omega, kp3, cas3⟩)
        · have z : ((l.length : Nat) : Int) = (d : Int) + 1 := by
            have := of_decide_eq_true z
            injection this with this
            rw [List.length_map] at this
            exact this
          refine ⟨_, rfl, .inl ⟨rfl, _, SqL.of hbs3⟩, _, rfl, bo, _, _, rfl, rfl, hbs3, small1000 (by rw [List.length_map]; omega), ?_⟩
          have put : GoS [bo, go, kd] J3 (upd J3 bo (.lst ((bornL pr ll d i).map nv ++ [.int (i : Nat)]))) := GoS.put mb
          refine ⟨_, _, _, ks, rfl, g13.trans put, ?_, ?_, ?_, by omega, kp3, cas3⟩
          · rw [upd_same, bornL_yes ⟨by omega, bn⟩, List.map_append]
            rfl
          · obtain ⟨kvs, h1, h2, h3⟩ := gd3
            exact ⟨kvs, by rw [upd_ne nbg.symm]; exact h1, h2, h3⟩
          · obtain ⟨kvs, h1, h2⟩ := k3
            refine ⟨kvs, by rw [upd_ne nbk.symm]; exact h1, h2.imp fun kv k' ⟨o, h5, h6, ⟨ns, h7, h8⟩, h9⟩ => ⟨o, h5, h6, ⟨ns, by rw [upd_ne h9]; exact h7, h8⟩, h9⟩⟩
        · rw [bornL_no fun y => z (decide_eq_true ?_)]
          · exact hbs3
          · rw [List.length_map]
            show V.int ((l.length : Nat) : Int) = V.int ((d : Int) + 1)
            rw [show ((l.length : Nat) : Int) = (d : Int) + 1 by have := y.1; omega]
      · have lo := low_rev mlt fst
        have g13 := g2.trans (GoS.ofD mk g3)
        have hbs3 := g3 _ _ nbk hbs2
        obtain ⟨gvs, hg3, lg3, vg3⟩ : GoneD pr ll J3 go i := let ⟨kvs, h1, h2, h3⟩ := gd2; ⟨kvs, g3 _ _ ngk h1, h2, h3⟩
        refine ⟨_, rfl, rfl, _, rfl, ?_⟩
        refine ite2 (fun _ => ?_) (fun z => absurd rfl z)
        refine ⟨_, rfl, _, rfl, _, rfl, p, CT, dx, _, _, rfl, extJ g13 _ _ hp, W.cl, W.nC, cf_cells _, b, _, rfl, .inr (.inl (rdJ g13)), _, _, rfl, rfl, _, rfl, _, _, rfl, rfl, go, _, rfl, DPut.k (k := .inl ((((as.map V.ref).length : Nat) : Int) - 1 - (m : Int))) hg3 (small1000 (by omega)), ?_⟩
        have ek : ((((as.map V.ref).length : Nat) : Int) - 1 - (m : Int)) = ((ll.length - 1 - m : Nat) : Int) := by rw [List.length_map, la]; omega
        rw [ek]
        have put : GoS [bo, go, kd] J3 (upd J3 go (.dK (putK gvs (.inl ((ll.length - 1 - m : Nat) : Int)) (.int (i : Nat))))) := GoS.put mg'
        refine ⟨_, _, _, ks', rfl, g13.trans put, ?_, ⟨_, upd_same, ?_, fun b' => ?_⟩, ?_, by omega, kp3, fun j hj => ?_⟩
        · rw [upd_ne nbg, bornL_no fun y => lo.neg y.2]
          exact hbs3
        · have := length_putK gvs (.inl ((ll.length - 1 - m : Nat) : Int)) (V.int (i : Nat))
          omega
        · rw [valV_put]
          by_cases e : b' = ll.length - 1 - m
          · subst e
            rw [if_pos rfl]
            refine ⟨fun v hv => ?_, fun hv => by cases hv⟩
            cases hv
            exact ⟨i, Nat.lt_succ_self i, rfl, lo⟩
          · rw [if_neg fun z => e (by injection z with z; omega)]
            refine ⟨fun v hv => ?_, fun hv j hj lo' => ?_⟩
            · obtain ⟨j, a1, a2, a3⟩ := (vg3 b').1 v hv
              exact ⟨j, by omega, a2, a3⟩
            · by_cases ej : j = i
              · subst ej
                exact e (lo'.uniq lo)
              · exact (vg3 b').2 hv j (by omega) lo'
        · obtain ⟨kvs, h1, h2⟩ := k3
          exact ⟨kvs, by rw [upd_ne ngk.symm]; exact h1, h2.imp fun _ _ h => h.mono fun r v ⟨ns, h4, h5⟩ => ⟨ns, by rw [upd_ne (lst_dk h4 hg3)]; exact h4, h5⟩⟩
        · by_cases e : j = i
          · subst e
            exact .inr ⟨_, lo⟩
          · exact cas j (by omega)
    · rintro σ' J ⟨v6, v7, v8, ks, rfl, g, hbs, ⟨gvs, hgv, lg, vg⟩, kt, lk, kps, cas⟩
      rw [List.length_map, la] at hbs lg vg cas
      have lb := bornL_len pr ll d ll.length
      refine ⟨_, rfl, bo, rfl, ⟨_, SqL.of hbs⟩, fun D nD => ?_⟩
      refine lc_gen (n := ((bornL pr ll d ll.length).map nv).length) (p := fun _ => true) walk_list nD (by rw [List.length_map]; omega) (fun i y S => ∃ b', (bornL pr ll d ll.length)[i]? = some b' ∧ BarIs S y (b', goneOf gvs b')) (fun _ _ _ _ t z => let ⟨b', h1, h2⟩ := z; ⟨b', h1, h2.mono t⟩) (fun H' e => SqL.of (e _ _ hbs)) ?_ ?_
      · rintro j y J2 J2' R N hj e2 ⟨rfl, hy⟩ hR hN
        rw [List.getElem?_map] at hy
        cases hv : (bornL pr ll d ll.length)[j]? with
        | none => rw [hv] at hy; cases hy
        | some v =>
          rw [hv] at hy
          cases hy
          refine ⟨rfl, tyes_in ⟨_, rfl, _, rfl, go, rfl, .inl ⟨gvs, .inl (e2 _ _ hgv)⟩, _, rfl, valV gvs (.inl (v : Int)), DGet.k (k := .inl (v : Int)) (e2 _ _ hgv), by show 2 ≤ sizeLine; decide, fun t nt => ?_⟩⟩
          refine hR rfl _ _ (Ext.upd nt) ⟨v, hv, t, rfl, ?_⟩
          rw [upd_same]
          have eg : (valV gvs (.inl (v : Int))).getD V.non = gV (goneOf gvs v) := by
            unfold goneOf
            cases hvv : valV gvs (.inl (v : Int)) with
            | none => rfl
            | some u =>
              obtain ⟨j', _, e, _⟩ := (vg v).1 u hvv
              subst e
              rfl
          rw [eg]
      intro ys J2 e2 hD pp
      rw [List.length_map, List.filter_eq_self.mpr fun _ _ => rfl] at pp
      have lys : ys.length = (bornL pr ll d ll.length).length := by
        have := Paired.length pp
        rw [List.length_range] at this
        exact this.symm
      have tws : Two (BarIs J2) ys ((bornL pr ll d ll.length).map fun b' => (b', goneOf gvs b')) := two_of_got (by rw [lys, List.length_map]) fun i y hy => by
        obtain ⟨i', hi', b', hb', q⟩ := paired_got pp hy
        have : i' = i := by
          have := (List.getElem?_eq_some_iff.mp hi').2
          rw [List.getElem_range] at this
          exact this.symm
        subst this
        exact ⟨_, by rw [List.getElem?_map, hb']; rfl, q⟩
      refine ⟨D, ys, rfl, .inl ⟨SqL.of hD, fun t nt => ?_⟩⟩
      have et := Ext.upd (o := .tup ys) nt
      refine k t ys _ _ (((extJ g).trans e2).trans et) upd_same (tws.imp fun _ _ z => z.mono (TExt.of et)) ⟨?_, fun x hx j hj => ?_, fun x hx hn j hj => ?_, cas⟩
      · rw [List.map_map]
        exact List.map_id' _
      · obtain ⟨b', _, rfl⟩ := List.mem_map.mp hx
        have hj : goneOf gvs b' = some j := hj
        unfold goneOf at hj
        cases hvv : valV gvs (.inl (b' : Int)) with
        | none => rw [hvv] at hj; cases hj
        | some u =>
          obtain ⟨j', a1, a2, a3⟩ := (vg b').1 u hvv
          rw [hvv, a2] at hj
          have : j' = j := by
            have hj : some ((j' : Int).toNat) = some j := hj
            injection hj
          subst this
          exact ⟨a1, a3⟩
      · obtain ⟨b', _, rfl⟩ := List.mem_map.mp hx
        have hn : goneOf gvs b' = none := hn
        unfold goneOf at hn
        cases hvv : valV gvs (.inl (b' : Int)) with
        | none => exact (vg b').2 hvv j hj
        | some u =>
          obtain ⟨j', a1, a2, a3⟩ := (vg b').1 u hvv
          rw [hvv, a2] at hn
          cases hn
end
end O42

set_option Elab.async false
set_option linter.all false
set_option maxRecDepth 100000
set_option maxHeartbeats 4000000
set_option pp.maxSteps 100
/-! tuple * 0, tuple * 1. -/
namespace O42
open PySem PySem.Spec PyProof.Rows L2
open AutoSeq1 (wpAny_loadPart')
theorem tuple_mul1 (l : Addr) (items : Array Value) (n : Nat) (dd : Option Addr) (sl : Array (Option Value)) (u : Tok) :
    Meets (Builtin.«tuple.__mul__» ⟨[.ref l, .int 1 u], []⟩) (fun _ R s => s.heap.get? l = some { cls := .type "tuple", dict := dd, data := .seq items n, slots := sl } ∧ R (.ok (.ret (Value.ref l))) s) :=
  .of_wp fun prog w A R s h => by
    obtain ⟨hp, g, d, tk, os⟩ := s
    obtain ⟨hl, h⟩ := h
    have f1 := AutoSeq1.idx_int
    have c1 : (items.isEmpty || (1 : Int) == 1) = true := by rw [beq_self_eq_true, Bool.or_true]
    wp_walk using wpAny_loadPart' hl
    repeat (first
      | (refine wpAny_ite_false (by decide) ?_; wp_walk using wpAny_loadPart' hl)
      | (refine wpAny_ite_true (decide_eq_true c1) ?_; wp_walk using wpAny_loadPart' hl))
    exact ⟨_, rfl, h⟩
theorem tuple_mul0 (l : Addr) (items : Array Value) (n : Nat) (dd : Option Addr) (sl : Array (Option Value)) (u : Tok) (hne : items.isEmpty = false) :
    Meets (Builtin.«tuple.__mul__» ⟨[.ref l, .int 0 u], []⟩) (fun _ R s => s.heap.get? l = some { cls := .type "tuple", dict := dd, data := .seq items n, slots := sl } ∧
      R (.ok (.ret (Value.ref s.heap.objs.size))) { s with heap := s.heap.push { cls := Value.type "tuple", data := Data.seq #[] }, toks := s.toks }) :=
  .of_wp fun prog w A R s h => by
    obtain ⟨hp, g, d, tk, os⟩ := s
    obtain ⟨hl, h⟩ := h
    have f1 := AutoSeq1.idx_int
    have c1 : (items.isEmpty || (0 : Int) == 1) = false := by rw [hne]; rfl
    have c2 : (decide ((0 : Int) ≤ 0) || items.isEmpty) = true := by rw [decide_eq_true (by decide)]; rfl
    wp_walk using wpAny_loadPart' hl
    repeat (first
      | (refine wpAny_ite_false (decide_eq_false (by rw [c1]; exact Bool.false_ne_true)) ?_; wp_walk using wpAny_loadPart' hl)
      | (refine wpAny_ite_true (decide_eq_true c2) ?_; wp_walk using wpAny_loadPart' hl)
      | (refine wpAny_ite_false (decide_eq_false (Nat.not_lt.mpr (Nat.zero_le _))) ?_; wp_walk using wpAny_loadPart' hl)
      | (refine wpAny_ite_false (by decide) ?_; wp_walk using wpAny_loadPart' hl))
    exact ⟨_, rfl, h⟩
/-- t * k, k not negative -/
def rRepA (K : PySem.W.Frag) : R2 := fun x y H Q => ∃ (l : Addr) (k : Int) (xs : List V), x = .ref l ∧ y = .int k ∧ H l = some (.tup xs) ∧ xs ≠ [] ∧ 0 ≤ k ∧ k ≤ 1000 ∧ xs.length ≤ 1000 ∧ ∀ (p : Addr) (H' : Hp), Ext H H' → H' p = some (.tup (List.replicate k.toNat xs).flatten) → Q (.ref p) H'
theorem op_repA {X : Cx} : OpR X (binaryOp .Mult) (rRepA X.K) := by
  intro pins s σ H x y v u Q I rx ry h
  obtain ⟨l, k, xs, rfl, rfl, hT, hne, k0, k1, hz, q⟩ := h
  by_cases two : 2 ≤ k
  · exact op_repT pins s σ H _ _ v u Q I rx ry ⟨l, k, xs, rfl, rfl, SqT.of hT, hne, two, k1, hz, fun p np => q p _ (Ext.upd np) upd_same⟩
  cases rx
  obtain ⟨t, rfl⟩ := ry
  obtain ⟨its, r, ⟨⟨cls, dd, data, sl⟩, ho, hc, n, hd⟩, hs⟩ := I.tuple (SqT.of hT)
  simp only at hc hd
  subst hc hd
  have hle : its.length = xs.length := r.length.symm
  have hi : its.toArray.isEmpty = false := by
    cases its with
    | nil => exact absurd (List.eq_nil_of_length_eq_zero hle.symm) hne
    | cons a b => rfl
  have k01 : k = 0 ∨ k = 1 := by omega
  rcases k01 with rfl | rfl
  · refine wpAny_binaryOp_repeat_ref (T := "tuple") (U := "int") (by decide) ⟨_, ho, rfl⟩ (fun s' => typeIs_int s' 0 t) noFill_tuple_mul F.fills_int_mul F.slot_int_rmul repeat_tuple F.slot_int_index.lookup
      (call_meets F.slot_int_rmul (typeIs_int s 0 t) F.entry_int_rmul (F.args_int_rmul_2 _ _) (int_rmul_tuple 0 t l its.toArray n dd sl)
        ⟨ho, rfl, ⟨_, ho, rfl⟩, call_meets F.slot_tuple_mul ⟨_, ho, rfl⟩ F.entry_tuple_mul (F.args_tuple_mul_2 _ _) (tuple_mul0 l its.toArray n dd sl t hi) ⟨ho, ?_⟩⟩)
    exact ⟨.ref s.heap.objs.size, _, I.laid (t' := s.toks) (o := .tup []) (fun b ob q => Heap.get?_push_of_some _ q) (Nat.le_refl _) ⟨Nat.zero_le _, [], .nil, ⟨_, Heap.get?_push_size _ rfl, rfl, _, rfl⟩⟩, rfl, q _ _ (Ext.upd (I.hok.fresh (Nat.le_refl _))) upd_same⟩
  · refine wpAny_binaryOp_repeat_ref (T := "tuple") (U := "int") (by decide) ⟨_, ho, rfl⟩ (fun s' => typeIs_int s' 1 t) noFill_tuple_mul F.fills_int_mul F.slot_int_rmul repeat_tuple F.slot_int_index.lookup
      (call_meets F.slot_int_rmul (typeIs_int s 1 t) F.entry_int_rmul (F.args_int_rmul_2 _ _) (int_rmul_tuple 1 t l its.toArray n dd sl)
        ⟨ho, rfl, ⟨_, ho, rfl⟩, call_meets F.slot_tuple_mul ⟨_, ho, rfl⟩ F.entry_tuple_mul (F.args_tuple_mul_2 _ _) (tuple_mul1 l its.toArray n dd sl t) ⟨ho, ?_⟩⟩)
    exact ⟨.ref l, H, I, rfl, q l H Ext.rfl' (by
      have e : (List.replicate (1 : Int).toNat xs).flatten = xs := by
        show (List.replicate 1 xs).flatten = xs
        rw [List.replicate_one, List.flatten_cons, List.flatten_nil, List.append_nil]
      rw [e]
      exact hT)⟩
end O42

set_option Elab.async false
set_option linter.all false
set_option maxRecDepth 100000
set_option maxHeartbeats 4000000
set_option pp.maxSteps 100
/-! Tables made, and put together. -/
namespace O42
open PySem L2 M40
abbrev sTabI : Stmt := inClass (top 27) 0
abbrev sTabOf : Stmt := top 29
abbrev sCorner : Stmt := top 30
structure TabD (K : PySem.W.Frag) (mg : Str → Option Value) (CT : Addr) : Prop where
  cl : Cls K CT
  n1 : NoAttr K CT "prime"
  n2 : NoAttr K CT "wide"
  n3 : NoAttr K CT "rows"
  n4 : NoAttr K CT "high"
  mgC : mg "Table" = some (.ref CT)
  mo : ∃ t, mg "MOST" = some (.int 12 t)
def tf (pr w : Int) (b : Addr) (h : Int) : List (Str × V) := [("prime", .int pr), ("wide", .int w), ("rows", .ref b), ("high", .int h)]
def TabAt (CT : Addr) (H : Hp) (p : Addr) (pr w : Int) (b : Addr) (h : Int) : Prop := ∃ dx, H p = some (.ins CT dx (tf pr w b h))
theorem TabAt.ext {CT p b : Addr} {pr w h : Int} {H H' : Hp} (e : Ext H H') (x : TabAt CT H p pr w b h) : TabAt CT H' p pr w b h := x.imp fun _ z => e _ _ z
def spTab (CT : Addr) : Sp := fun vs H Q _ => ∃ (p b dx : Addr) (pr : Int), vs = [.ref p, .int pr, .int 0, .ref b] ∧ Pr pr ∧ H p = some (.ins CT dx []) ∧ Rd H b (.tup []) ∧ ∀ H' : Hp, H' p = some (.ins CT dx (tf pr 0 b 0)) → (∀ c o, c ≠ p → H c = some o → H' c = some o) → Q .non H'
def spTabOf (CT : Addr) : Sp := fun vs H Q _ => ∃ (b : Addr) (pr w : Int) (xs : List V), vs = [.int pr, .int w, .ref b] ∧ Pr pr ∧ Rd H b (.tup xs) ∧ ∀ (p : Addr) (H' : Hp), Ext H H' → TabAt CT H' p pr w b (xs.length : Int) → Q (.ref p) H'
/-- a table with these rows -/
def TabX (CT : Addr) (H : Hp) (p : Addr) (pr : Int) (w : Nat) (m : List (List Int)) : Prop := ∃ (b : Addr) (rs : List Addr), TabAt CT H p pr (w : Int) b (m.length : Int) ∧ H b = some (.tup (rs.map V.ref)) ∧ Two (fun r l => H r = some (.tup (l.map V.int))) rs m
theorem TabX.ext {CT p : Addr} {pr : Int} {w : Nat} {m : List (List Int)} {H H' : Hp} (e : Ext H H') (x : TabX CT H p pr w m) : TabX CT H' p pr w m := let ⟨b, rs, h1, h2, h3⟩ := x; ⟨b, rs, h1.ext e, e _ _ h2, h3.imp fun _ _ z => e _ _ z⟩
/-- two tables at a corner -/
def cornM (w1 : Nat) (m1 : List (List Int)) (w2 : Nat) (m2 : List (List Int)) : List (List Int) := (m1.map fun l => l ++ List.replicate w2 0) ++ m2.map fun l => List.replicate w1 0 ++ l
def spCorner (CT : Addr) : Sp := fun vs H Q _ => ∃ (p q : Addr) (pr : Int) (w1 w2 : Nat) (m1 m2 : List (List Int)), vs = [.ref p, .ref q] ∧ Pr pr ∧ TabX CT H p pr w1 m1 ∧ TabX CT H q pr w2 m2 ∧ w1 ≤ 400 ∧ w2 ≤ 400 ∧ m1.length + m2.length ≤ 500 ∧ (∀ l ∈ m1, l.length ≤ 400) ∧ (∀ l ∈ m2, l.length ≤ 400) ∧ ∀ (r : Addr) (H' : Hp), Ext H H' → TabX CT H' r pr (w1 + w2) (cornM w1 m1 w2 m2) → Q (.ref r) H'
theorem two_refs {R : Addr → List Int → Prop} : ∀ {ys : List V} {ls : List (List Int)}, Two (fun y l => ∃ r, y = V.ref r ∧ R r l) ys ls → ∃ rs : List Addr, ys = rs.map V.ref ∧ Two R rs ls
  | _, _, .nil => ⟨[], rfl, .nil⟩
  | _, _, .cons ⟨r, e, h⟩ t => by
    obtain ⟨rs, e2, h2⟩ := two_refs t
    exact ⟨r :: rs, by rw [e, e2]; rfl, .cons h h2⟩
/-- rows made -/
theorem rows_x {S : Hp} {f : List Int → List Int} {m : List (List Int)} {ys : List V} (pp : Paired (fun i y => ∃ (r : Addr) (l : List Int), y = V.ref r ∧ m[i]? = some l ∧ S r = some (.tup ((f l).map V.int))) ((List.range m.length).filter fun _ => true) ys) : ∃ rs : List Addr, ys = rs.map V.ref ∧ Two (fun r l => S r = some (.tup (l.map V.int))) rs (m.map f) := by
  rw [List.filter_eq_self.mpr fun _ _ => rfl] at pp
  have ly : ys.length = m.length := by
    have := Paired.length pp
    rw [List.length_range] at this
    exact this.symm
  refine two_refs (two_of_got (by rw [ly, List.length_map]) fun i y hy => ?_)
  obtain ⟨i', hi', r, l, e, hl, h⟩ := paired_got pp hy
  have : i' = i := by
    have := (List.getElem?_eq_some_iff.mp hi').2
    rw [List.getElem_range] at this
    exact this.symm
  subst this
  exact ⟨f l, by rw [List.getElem?_map, hl]; rfl, r, e, h⟩
theorem two_app {α β : Type} {R : α → β → Prop} : ∀ {l m : List α} {k n : List β}, Two R l k → Two R m n → Two R (l ++ m) (k ++ n)
  | _, _, _, _, .nil, h => h
  | _, _, _, _, .cons r t, h => .cons r (two_app t h)
theorem ty_rd {K : PySem.W.Frag} {H : Hp} {b : Addr} {xs : List V} (hb : Rd H b (.tup xs)) : TyX K H (.ref b) (.type "tuple") := by
  rcases hb with h | ⟨o, h⟩
  · exact .base (.tup h)
  · exact .fTuple h
section
variable {P : Program} {w : World} {K : PySem.W.Frag} {mg : Str → Option Value} {base : Heap}
theorem scTabI : FnScope ["self", "prime", "wide", "rows", "at", "row"] ["self", "prime", "wide", "rows"] (defScope sTabI) := ⟨rfl, rfl, rfl, by decide +kernel, rfl, by decide +kernel, by decide +kernel⟩
theorem ok_tab {f CT : Addr} {fd : FuncData} (F : L2.Fun K "__init__" "Table.__init__" sTabI f fd) (T : Gb mg) (D : TabD K mg CT) (cP : Cal P w K mg base 2 "is_prime" (spPrime K) []) (cN : Cal P w K mg base 2 "is_number" (spNumber K) []) :
    FnOk P w K mg base CX0 3 f fd ["self", "prime", "wide", "rows"] (spTab CT) := by
  obtain ⟨t12, h12⟩ := D.mo
  refine F.ok scTabI (fun vs H Q E h => ?_) (fun cdv A outer s H vs Q E hr h => ?_)
  · obtain ⟨p, b, dx, pr, rfl, _⟩ := h
    rfl
  · obtain ⟨p, b, dx, pr, rfl, hpr, hp, hb, k⟩ := h
    refine ⟨_, pss_cons (ps_if (pt_not (pt_val (C8.pe_c cP hr (by decide) (by rfl) (pa_cons (pv 1) pa_nil)))) (pss_one ps_never) pss_nil)
      (pss_cons (ps_if (pt_not (pt_val (C8.pe_c cN hr (by decide) (by rfl) (pa_cons (pe_glob (v := .int 12) rfl h12 ⟨_, rfl⟩) (pa_cons (pv 2) pa_nil))))) (pss_one ps_never) pss_nil)
      (pss_cons (ps_if (PW.pt (pw_or (pt_not (pt_val (pe_callB call_isi (by rfl) T.isi (by decide +kernel) (pa_cons (pv 3) (pa_cons (pe_bltn (v := .ty "tuple") (by rfl) T.tup (by decide +kernel) rfl) pa_nil))))) (pw_or1 (pt_cmpR op_gt (pe_callB call_len_seq (by rfl) T.len PySem.boot_len (pa_cons (pv 3) pa_nil)) (pe_glob (v := .int 12) rfl h12 ⟨_, rfl⟩) (nomark _))))) (pss_one ps_never) pss_nil)
      (pss_cons (ps_for PassesOwn.never rfl (pi_en (by rfl) T.enum (pa_cons (pv 3) pa_nil)) (pg_tup rfl (pgs_cons (pg_name (i := 4) scTabI.nd rfl (Or.inl rfl)) (pgs_cons (pg_name (i := 5) scTabI.nd rfl (Or.inl rfl)) pgs_nil)))
      (pss_one ps_never))
      (pss_cons (ps_fld (pv 0) (pv 1) rfl)
      (pss_cons (ps_fld (pv 0) (pv 2) rfl)
      (pss_cons (ps_fld (pv 0) (pv 3) rfl)
      (pss_one (ps_fld (pv 0) (pe_callB call_len_seq (by rfl) T.len PySem.boot_len (pa_cons (pv 3) pa_nil)) rfl)))))))), ?_⟩
    refine ⟨_, rfl, .int pr, rfl, Th.int pr, _, rfl, ?_⟩
    rw [primeV_true.mpr ⟨pr, rfl, hpr⟩]
    refine iteF ⟨_, rfl, 12, .int 0, rfl, Th.int 0, _, rfl, iteF ?_⟩
    refine ⟨_, rfl, _, .ty "tuple", .type "tuple", .type "tuple", true, rfl, .ty _, ty_rd hb, kit_ty (by decide +kernel), _, rfl, ?_⟩
    refine iteF ⟨_, rfl, b, [], rfl, .inr (.inl hb), _, _, rfl, rfl, _, rfl, iteF ?_⟩
    refine ⟨_, rfl, b, [], rfl, hb, for_en (a := b) (xs := []) (fun i σ' H' => σ' = [some (.ref p), some (.int pr), some (.int 0), some (.ref b), Option.none, Option.none] ∧ H' = H) ⟨rfl, rfl⟩ (fun i σ' H' h => by rw [h.2]; exact hb) (fun i x σ' H' q hx => by cases hx) ?_⟩
    rintro σ' H' ⟨rfl, rfl⟩
    have npb : b ≠ p := fun e => by rcases hb with hb | ⟨o, hb⟩ <;> (rw [e, hp] at hb; cases hb)
    have up : ∀ {J : Hp} {o : HO}, Rd J b (.tup []) → Rd (upd J p o) b (.tup []) := fun {J o} h => by
      rcases h with h | ⟨o', h⟩
      · exact .inl (by rw [upd_ne npb]; exact h)
      · exact .inr ⟨o', by rw [upd_ne npb]; exact h⟩
    refine ⟨_, rfl, _, rfl, p, CT, dx, [], rfl, hp, D.cl, D.n1, (by show 0 < 1000; decide), ?_⟩
    refine ⟨_, rfl, _, rfl, p, CT, dx, _, rfl, upd_same, D.cl, D.n2, (by show 1 < 1000; decide), ?_⟩
    refine ⟨_, rfl, _, rfl, p, CT, dx, _, rfl, upd_same, D.cl, D.n3, (by show 2 < 1000; decide), ?_⟩
    refine ⟨_, rfl, b, [], rfl, .inr (.inl (up (up (up hb)))), _, rfl, p, CT, dx, _, rfl, upd_same, D.cl, D.n4, (by show 3 < 1000; decide), ?_⟩
    exact k _ upd_same fun c o n e => by rw [upd_ne n, upd_ne n, upd_ne n, upd_ne n]; exact e
theorem scTabOf : FnScope ["prime", "wide", "rows", "table"] ["prime", "wide", "rows"] (defScope sTabOf) := ⟨rfl, rfl, rfl, by decide +kernel, rfl, by decide +kernel, by decide +kernel⟩
theorem ok_tabOf {f fT CT : Addr} {fd fdT : FuncData} (F : L2.Fun K "table_of" "table_of" sTabOf f fd) (T : Gb mg) (D : TabD K mg CT) (MT : Mk K CT fT) (FT : FnOk P w K mg base CX0 3 fT fdT ["self", "prime", "wide", "rows"] (spTab CT)) (bT : Binds K fdT ["self", "prime", "wide", "rows"] []) :
    FnOk P w K mg base CX0 5 f fd ["prime", "wide", "rows"] (spTabOf CT) := by
  refine F.ok scTabOf (fun vs H Q E h => ?_) (fun cdv A outer s H vs Q E hr h => ?_)
  · obtain ⟨b, pr, w, xs, rfl, _⟩ := h
    rfl
  · obtain ⟨b, pr, wd, xs, rfl, hpr, hb, k⟩ := h
    refine ⟨_, pss_cons (ps_set (i := 3) scTabOf.nd rfl (Or.inl rfl) (pe_make MT FT hr (by rfl) D.mgC bT .nil pass0 (pa_cons (pv 0) (pa_cons pe_int (pa_cons (pe_tup pa_nil) pa_nil)))))
      (pss_cons (ps_fld (pv 3) (pv 1) rfl)
      (pss_cons (ps_fld (pv 3) (pv 2) rfl)
      (pss_cons (ps_fld (pv 3) (pe_callB call_len_seq (by rfl) T.len PySem.boot_len (pa_cons (pv 2) pa_nil)) rfl)
      (pss_one (ps_ret (pv 3)))))), ?_⟩
    refine ⟨_, rfl, Nat.zero_le _, fun e ne p dx np ndx nd => ?_⟩
    have x0 := Ext.upd (o := .tup []) ne
    have x1 := Ext.upd (o := .own p) ndx
    have np1 : (upd (upd H e (.tup [])) dx (.own p)) p = Option.none := by rw [upd_ne nd.symm]; exact np
    have x2 := Ext.upd (o := .ins CT dx []) np1
    have x02 := x0.trans (x1.trans x2)
    have nep : e ≠ p := ne_of_none (show (upd H e (.tup [])) e = some (.tup []) from upd_same) np
    refine ⟨p, e, dx, pr, rfl, hpr, upd_same, .inl (x2 _ _ (x1 _ _ upd_same)), fun H' hp kp => ⟨rfl, ?_⟩⟩
    have npH : H p = Option.none := none_of_ext x0 np
    have e' : Ext H H' := fun c o h => kp c o (ne_of_none h npH) (x02 _ _ h)
    have bp : b ≠ p := fun z => by rcases hb with hb | ⟨o, hb⟩ <;> (rw [z, npH] at hb; cases hb)
    have up : ∀ {J : Hp} {o : HO}, Rd J b (.tup xs) → Rd (upd J p o) b (.tup xs) := fun {J o} h => by
      rcases h with h | ⟨o', h⟩
      · exact .inl (by rw [upd_ne bp]; exact h)
      · exact .inr ⟨o', by rw [upd_ne bp]; exact h⟩
    refine ⟨_, rfl, _, rfl, p, CT, dx, _, rfl, hp, D.cl, D.n2, (by show 4 < 1000; decide), ?_⟩
    refine ⟨_, rfl, _, rfl, p, CT, dx, _, rfl, upd_same, D.cl, D.n3, (by show 4 < 1000; decide), ?_⟩
    refine ⟨_, rfl, b, xs, rfl, .inr (.inl (up (up (rd_ext e' hb)))), _, rfl, p, CT, dx, _, rfl, upd_same, D.cl, D.n4, (by show 4 < 1000; decide), ?_⟩
    refine ⟨_, rfl, k p _ (fun c o h => ?_) ⟨dx, upd_same⟩⟩
    have n := ne_of_none h npH
    rw [upd_ne n, upd_ne n, upd_ne n]
    exact e' _ _ h
theorem tf_prime (pr w : Int) (b : Addr) (h : Int) : (tf pr w b h).lookup ("prime" : Str) = some (.int pr) := by rfl
theorem tf_wide (pr w : Int) (b : Addr) (h : Int) : (tf pr w b h).lookup ("wide" : Str) = some (.int w) := by rfl
theorem tf_rows (pr w : Int) (b : Addr) (h : Int) : (tf pr w b h).lookup ("rows" : Str) = some (.ref b) := by rfl
theorem tf_high (pr w : Int) (b : Addr) (h : Int) : (tf pr w b h).lookup ("high" : Str) = some (.int h) := by rfl
theorem rep1 {x : V} {k : Int} : (List.replicate k.toNat [x]).flatten = List.replicate k.toNat x := List.flatten_replicate_singleton
theorem pe_fldK {X : Cx} {K : PySem.W.Frag} {e : Expr} {f : Str} {pos : Pos} {ta : TE} (hK : X.K = K) (he : PE X e ta) (hb : attributeBase e f X.env (eval e X.env) = eval e X.env) : PE X (.Attribute e f pos) (tFld K ta f) := by
  subst hK
  exact pe_fld he hb
abbrev cornerN : List Str := ["one", "other", "ahead", "beneath", "row"]
theorem scCorner : FnScope cornerN ["one", "other"] (defScope sCorner) := ⟨rfl, rfl, rfl, by decide +kernel, rfl, by decide +kernel, by decide +kernel⟩
theorem ok_corner {f CT : Addr} {fd : FuncData} (F : L2.Fun K "corner" "corner" sCorner f fd) (T : Gb mg) (D : TabD K mg CT) (cT : Cal P w K mg base 5 "table_of" (spTabOf CT) []) : FnOk P w K mg base CX0 6 f fd ["one", "other"] (spCorner CT) := by
  refine F.ok scCorner (fun vs H Q E h => ?_) (fun cdv A outer s H vs Q E hr h => ?_)
  · obtain ⟨p, q, pr, w1, w2, m1, m2, rfl, _⟩ := h
    rfl
  · obtain ⟨p, q, pr, w1, w2, m1, m2, rfl, hpr, ⟨b1, rs1, ⟨dx1, t1⟩, hb1, r1⟩, ⟨b2, rs2, ⟨dx2, t2⟩, hb2, r2⟩, v1, v2, hh, u1, u2, k⟩ := h
    have l1 := r1.len
    have l2 := r2.len
    refine ⟨_, pss_cons (ps_if (pt_cmpR op_ne (pe_fld (pv 0) rfl) (pe_fld (pv 1) rfl) (nomark _)) (pss_one ps_never) pss_nil)
      (pss_cons (ps_setLc (i := 2) (own := [("row", 4)]) (g := gName 4) (tt := tYes) rfl scCorner.nd rfl rfl (sw_true rfl rfl rfl (by decide +kernel)) (pi_tup (pe_fld (pv 0) rfl)) (blkOk_by (N := cornerN) (sc := defScope sCorner) (by decide +kernel)) (fun _ _ _ _ _ => (pg_name (i := 4) scCorner.nd rfl (Or.inl rfl))) (fun _ _ _ _ _ => pts_nil) (fun _ _ _ _ _ => (pe_op (r := rCatA K) op_catA (pv 4) (pe_op (r := rRepA K) op_repA (pe_tup (pa_cons pe_int pa_nil)) (pe_fldK (K := K) rfl (pv 1) rfl)))))
      (pss_cons (ps_setLc (i := 3) (own := [("row", 4)]) (g := gName 4) (tt := tYes) rfl scCorner.nd rfl rfl (sw_true rfl rfl rfl (by decide +kernel)) (pi_tup (pe_fld (pv 1) rfl)) (blkOk_by (N := cornerN) (sc := defScope sCorner) (by decide +kernel)) (fun _ _ _ _ _ => (pg_name (i := 4) scCorner.nd rfl (Or.inl rfl))) (fun _ _ _ _ _ => pts_nil) (fun _ _ _ _ _ => (pe_op (r := rCatA K) op_catA (pe_op (r := rRepA K) op_repA (pe_tup (pa_cons pe_int pa_nil)) (pe_fldK (K := K) rfl (pv 0) rfl)) (pv 4))))
      (pss_one (ps_ret (C8.pe_c cT hr (by decide) (by rfl) (pa_cons (pe_fld (pv 0) rfl) (pa_cons (pe_op op_add (pe_fld (pv 0) rfl) (pe_fld (pv 1) rfl)) (pa_cons (pe_callTy call_tuple_of (by rfl) T.tup (by decide +kernel) (pa_cons (pe_op op_cat (pv 2) (pv 3)) pa_nil)) pa_nil)))))))), ?_⟩
    refine ⟨_, rfl, p, CT, dx1, _, _, rfl, t1, D.cl, D.n1, tf_prime .., _, rfl, q, CT, dx2, _, _, rfl, t2, D.cl, D.n1, tf_prime .., rfl, _, rfl, ?_⟩
    refine ite2 (fun z => ?_) (fun _ => ?_)
    · rw [decide_eq_true rfl] at z
      cases z
    refine ⟨_, rfl, p, CT, dx1, _, _, rfl, t1, D.cl, D.n3, tf_rows .., b1, rfl, ⟨_, SqT.of hb1⟩, fun D1 nD1 => ?_⟩
    refine lc_gen (n := (rs1.map V.ref).length) (p := fun _ => true) walk_tup nD1 (by rw [List.length_map]; omega) (fun i y S => ∃ (r : Addr) (l : List Int), y = V.ref r ∧ m1[i]? = some l ∧ S r = some (.tup ((l ++ List.replicate w2 0).map V.int))) (fun _ _ _ _ t z => let ⟨r, l, h1, h2, h3⟩ := z; ⟨r, l, h1, h2, t _ _ h3⟩) (fun H' e => SqT.of (e _ _ hb1)) ?_ ?_
    · rintro j y J J' R N hj e7 ⟨rfl, hy⟩ hR hN
      obtain ⟨r, hr', rfl⟩ := ref_get hy
      obtain ⟨xs, hxs, hx⟩ := r1.get hr'
      have lx := u1 xs (List.mem_of_getElem? hxs)
      refine ⟨rfl, tyes_in ⟨_, rfl, by show 1 ≤ sizeLine; decide, fun e ne => ?_⟩⟩
      have x1 := Ext.upd (o := .tup [V.int 0]) ne
      refine ⟨_, rfl, q, CT, dx2, _, _, rfl, x1 _ _ (e7 _ _ t2), D.cl, D.n2, tf_wide .., e, (w2 : Int), [V.int 0], rfl, rfl, upd_same, (fun z => nomatch z), by omega, by omega, by show 1 ≤ 1000; decide, fun p' J2 x2 hp' => ?_⟩
      rw [rep1] at hp'
      have x12 := x1.trans x2
      refine cat_any (x12 _ _ (e7 _ _ hx)) hp' (by rw [List.length_replicate, List.length_map]; omega) fun p2 J3 x3 h3 => ?_
      exact hR rfl _ _ (x12.trans x3) ⟨p2, xs, rfl, hxs, by rw [h3, List.map_append, List.map_replicate]; rfl⟩
    intro ys1 J1 e1 hD1 pp1
    rw [List.length_map, l1] at pp1
    obtain ⟨as1, rfl, ra1⟩ := rows_x (f := fun l => l ++ List.replicate w2 0) pp1
    have la1 : as1.length = m1.length := by rw [ra1.len, List.length_map]
    refine ⟨_, rfl, q, CT, dx2, _, _, rfl, e1 _ _ t2, D.cl, D.n3, tf_rows .., b2, rfl, ⟨_, SqT.of (e1 _ _ hb2)⟩, fun D2 nD2 => ?_⟩
    refine lc_gen (n := (rs2.map V.ref).length) (p := fun _ => true) walk_tup nD2 (by rw [List.length_map]; omega) (fun i y S => ∃ (r : Addr) (l : List Int), y = V.ref r ∧ m2[i]? = some l ∧ S r = some (.tup ((List.replicate w1 0 ++ l).map V.int))) (fun _ _ _ _ t z => let ⟨r, l, h1, h2, h3⟩ := z; ⟨r, l, h1, h2, t _ _ h3⟩) (fun H' e => SqT.of (e _ _ (e1 _ _ hb2))) ?_ ?_
    · rintro j y J J' R N hj e7 ⟨rfl, hy⟩ hR hN
      obtain ⟨r, hr', rfl⟩ := ref_get hy
      obtain ⟨xs, hxs, hx⟩ := r2.get hr'
      have lx := u2 xs (List.mem_of_getElem? hxs)
      have e17 := e1.trans e7
      refine ⟨rfl, tyes_in ⟨by show 1 ≤ sizeLine; decide, fun e ne => ?_⟩⟩
      have x1 := Ext.upd (o := .tup [V.int 0]) ne
      refine ⟨_, rfl, p, CT, dx1, _, _, rfl, x1 _ _ (e17 _ _ t1), D.cl, D.n2, tf_wide .., e, (w1 : Int), [V.int 0], rfl, rfl, upd_same, (fun z => nomatch z), by omega, by omega, by show 1 ≤ 1000; decide, fun p' J2 x2 hp' => ?_⟩
      rw [rep1] at hp'
      have x12 := x1.trans x2
      refine ⟨_, rfl, cat_any hp' (x12 _ _ (e17 _ _ hx)) (by rw [List.length_replicate, List.length_map]; omega) fun p2 J3 x3 h3 => ?_⟩
      exact hR rfl _ _ (x12.trans x3) ⟨p2, xs, rfl, hxs, by rw [h3, List.map_append, List.map_replicate]; rfl⟩
    intro ys2 J2 e2 hD2 pp2
    rw [List.length_map, l2] at pp2
    obtain ⟨as2, rfl, ra2⟩ := rows_x (f := fun l => List.replicate w1 0 ++ l) pp2
    have la2 : as2.length = m2.length := by rw [ra2.len, List.length_map]
    have e12 := e1.trans e2
    refine ⟨_, rfl, p, CT, dx1, _, _, rfl, e12 _ _ t1, D.cl, D.n1, tf_prime .., _, rfl, p, CT, dx1, _, _, rfl, e12 _ _ t1, D.cl, D.n2, tf_wide .., _, rfl, q, CT, dx2, _, _, rfl, e12 _ _ t2, D.cl, D.n2, tf_wide .., _, _, rfl, rfl, ?_⟩
    refine ⟨_, rfl, _, rfl, D1, D2, _, _, rfl, rfl, e2 _ _ hD1, hD2, Nat.le_trans (show _ ≤ 1000 by rw [List.length_map, List.length_map]; omega) (by decide), fun l nl => ?_⟩
    refine ⟨l, _, rfl, .inl ⟨SqL.of upd_same, fun t nt => ?_⟩⟩
    have x3 := Ext.upd (o := .lst (as1.map V.ref ++ as2.map V.ref)) nl
    have x4 := Ext.upd (o := .tup (as1.map V.ref ++ as2.map V.ref)) nt
    have x34 := x3.trans x4
    refine ⟨t, pr, (w1 : Int) + (w2 : Int), _, rfl, hpr, .inl upd_same, fun r J5 e5 ta => ?_⟩
    have ee := x34.trans e5
    have lc : (cornM w1 m1 w2 m2).length = m1.length + m2.length := by
      unfold cornM
      rw [List.length_append, List.length_map, List.length_map]
    refine k r J5 (e12.trans ee) ⟨t, as1 ++ as2, ?_, ?_, two_app (ra1.imp fun _ _ z => ee _ _ (e2 _ _ z)) (ra2.imp fun _ _ z => ee _ _ z)⟩
    · rw [List.length_append, List.length_map, List.length_map, la1, la2] at ta
      rw [lc]
      exact ta
    · rw [List.map_append]
      exact e5 _ _ upd_same
end
end O42

set_option Elab.async false
set_option linter.all false
set_option maxRecDepth 100000
set_option maxHeartbeats 4000000
set_option pp.maxSteps 100
/-! enumerate over a text; text * int. -/
namespace O42
open PySem L2 PyProof.Rows
/-- the signs of a text, each in a new pair with its number -/
def ItEs (z : Str) : It where
  go := fun i _ => i < z.cps.size
  yld := fun i H v H' => ∃ (p : Addr) (c : Nat), v = .ref p ∧ H p = none ∧ H' = upd H p (.tup [.int (i : Nat), .str ⟨#[c]⟩]) ∧ z.cps[i]? = some c
  stop := fun i _ => z.cps.size = i
def esAt (z : Str) (t : Tok) (e it : Addr) (i : Nat) (h : Heap) : Prop := (∃ old, IsEnum h e it (i : Int) old) ∧ h.IsStrIter it (strIterType z) z t i ∧ e ≠ it
section
variable {X : Cx} {pins : List (Addr × Obj)} {σ : L2.St} {H : Hp} {s : Shared} {e it : Addr}
theorem es_walk (z : Str) (t : Tok) (hc : X.calm = true) (I : Inv X pins σ H s) (hne : e ≠ it) :
    WalksT X.prog X.w X.A e (e :: [it]) [e, it] z.cps.size (fun i vals => ∃ u x, (∃ c v, z.cps[i]? = some c ∧ x = .str ⟨#[c]⟩ v) ∧ vals = #[.int i u, x])
      (fun i h => (∃ old, IsEnum h e it i old) ∧ h.IsStrIter it (strIterType z) z t i) (fun i T h => (∃ x, IsEnumOut h e it ((i : Int) + 1) x T) ∧ h.IsStrIter it (strIterType z) z t (i + 1) ∧ T ≠ e ∧ T ≠ it) :=
  WalksT.enumerateD (Draws.text (A := X.A.in1) (I.ok.hd hc) it z t) e hne (fun q => hne (List.mem_singleton.mp q)) (by simp)
end
theorem es_turn {P : Program} {w : World} {K : PySem.W.Frag} {elts : List Expr} {kk : Nat} {tpos : Pos} (z : Str) (t : Tok) (e it : Addr) : Turn P w K (.Tuple elts kk tpos) (ItEs z) [e, it] e (esAt z t e it) := by
  refine ⟨by simp, fun i h st b hb => ?_, fun i h h' st k => ⟨?_, ?_, st.2.2⟩, ?_, ?_, fun A i s Q E st q => ?_⟩
  · rcases st with ⟨⟨old, en⟩, ⟨ob, there, _, dt⟩, _⟩
    rcases List.mem_cons.mp hb with z | z
    · subst z
      exact ⟨_, en, fun v q => by cases q⟩
    · rw [List.mem_singleton.mp z]
      exact ⟨ob, there, fun v q => by rw [dt] at q; cases q⟩
  · exact st.1.imp fun old en => k e (by simp) _ en
  · obtain ⟨o, ho, r⟩ := st.2.1
    exact ⟨o, k it (by simp) o ho, r⟩
  · intro X eP eW eK hc i pins s σ H E I hf st go
    subst eP eW eK
    have W := es_walk z t hc I st.2.2
    refine W.item i s _ E go ⟨st.1, st.2.1⟩ fun T vals h1 tk pt big hT mid keep1 => ⟨_, rfl, ?_⟩
    obtain ⟨u, y, ⟨c, v, hcx, rfl⟩, rfl⟩ := pt
    refine W.go elts kk tpos i T { s with heap := h1, toks := tk } _ E mid fun h2 st2 keep2 => ?_
    have nT : T ∉ [e, it] := W.apart i T h1 mid
    have hT2 : h2.IsTuple T #[.int (i : Nat) u, .str ⟨#[c]⟩ v] := hT.at fun ob z => keep2 T ob nT z
    have J : Inv X pins σ (upd H T (.tup [.int (i : Nat), .str ⟨#[c]⟩])) { s with heap := h2, toks := tk } :=
      I.turnedNew (ch := [e, it]) (fun b ob hb z => keep2 b ob hb (keep1 b ob hb z)) hf big ⟨by show 2 ≤ sizeLine; decide, [.int i u, .str ⟨#[c]⟩ v], .cons ⟨_, rfl⟩ (.cons ⟨_, rfl⟩ .nil), hT2⟩
    refine ⟨.ref T, _, J, rfl, ⟨T, c, rfl, I.hok.fresh big, rfl, hcx⟩, ⟨st2.1, st2.2, st.2.2⟩, fun b hb => ?_⟩
    have nb : b ≠ T := fun z => nT (by rw [← z]; exact hb)
    rw [upd_ne nb]
    exact (hf b hb).1
  · intro X eP eW eK hc i pins s σ H E I hf st stop
    subst eP eW eK
    have W := es_walk z t hc I st.2.2
    have stop' : z.cps.size = i := stop
    subst stop'
    refine W.done s _ E ⟨st.1, st.2.1⟩ fun h1 tk keep => ⟨rfl, ?_⟩
    exact I.turnedL (ch := [e, it]) keep hf
  · exact wpAny_pyIter_enum st.1.choose_spec q
def iEs (ta : TA) : TI := fun σ H R => ta σ H fun vs H1 => ∃ z : Str, vs = [.str z] ∧ R (ItEs z) H1
/-- for .., .. in enumerate(a text) -/
theorem pi_es {X : Cx} {e : Expr} {ta : TA} {p pos tpos : Pos} {elts : List Expr} {kk : Nat} (hg : Gl X "enumerate") (hm : X.mg "enumerate" = none) (ha : PA X [e] ta) (hs : starEach [e] X.env = [(false, eval e X.env)] := by rfl) :
    PI X (.Tuple elts kk tpos) (.Call (.Name "enumerate" p) [e] [] pos) (iEs ta) := by
  constructor
  intro pins s σ H R I h
  refine Call_ (ld_blt I hg hm boot_enumerate (PyProof.Rows.callWith_type1 (thn (ha.run pos pins s σ H _ I h) ?_) hs rfl))
  rintro us s1 ⟨vs, H1, I1, r, z, rfl, q⟩
  match us, r with
  | [u], .cons ru .nil =>
    obtain ⟨t, rfl⟩ : ∃ t, u = Value.str z t := ru
    refine call_enumerate_str fun h1 en ti big keep => wpAny_pyIter_enum en ?_
    refine ⟨_, [s1.heap.objs.size + 1, s1.heap.objs.size], _, _, H1, rfl, I1.kept (t' := s1.toks) keep, es_turn z t _ _, ⟨⟨.none, en⟩, ti, Nat.succ_ne_self _⟩, fun b hb => ?_, q⟩
    have big : s1.heap.objs.size ≤ b := by
      rcases List.mem_cons.mp hb with z | z
      · rw [z]; exact Nat.le_succ _
      · rw [List.mem_singleton.mp z]; exact Nat.le_refl _
    exact I1.fpOk big (I1.hok.fresh big)
theorem walk_es {z : Str} : Walk (ItEs z) z.cps.size (fun _ => True) (fun i H v H' => ∃ (p : Addr) (c : Nat), v = .ref p ∧ H p = none ∧ H' = upd H p (.tup [.int (i : Nat), .str ⟨#[c]⟩]) ∧ z.cps[i]? = some c) :=
  ⟨fun _ _ hi _ => hi, fun _ _ => rfl, fun _ _ _ _ _ _ y => y⟩
/-- a text of one sign times an int -/
def signs (c : Nat) (k : Nat) : Str := ⟨(List.replicate k c).toArray⟩
def rRepS : R2 := fun x y H Q => ∃ (c : Nat) (k : Int), x = .str ⟨#[c]⟩ ∧ y = .int k ∧ 0 ≤ k ∧ k ≤ 1000 ∧ Q (.str (signs c k.toNat)) H
theorem signs_fold (c : Nat) : ∀ (k : Nat) (acc : Array Nat), (List.replicate k #[c]).foldl (· ++ ·) acc = acc ++ (List.replicate k c).toArray
  | 0, acc => by simp
  | k + 1, acc => by
    rw [List.replicate_succ, List.foldl_cons, signs_fold c k, List.replicate_succ]
    apply Array.ext'
    simp
theorem op_repS {X : Cx} : OpR X (binaryOp .Mult) rRepS := by
  intro pins s σ H x y v u Q I rx ry h
  obtain ⟨c, k, rfl, rfl, k0, k1, q⟩ := h
  obtain ⟨t, rfl⟩ := rx
  obtain ⟨t2, rfl⟩ := ry
  have l1 : Str.length ⟨#[c]⟩ = 1 := rfl
  refine PySem.P.mul_str (by rw [decide_eq_false (by omega), decide_eq_false (by omega)] <;> rfl) (fun _ _ => ?_) (fun _ _ => ?_) ?_
  · rw [l1]
    have : (1 : Int) ≤ (2 ^ 63 - 1) / k := Int.le_ediv_of_mul_le (by omega) (by omega)
    omega
  · rw [l1]
    unfold Builtin.Str.tooLong
    exact decide_eq_false (by rw [sizeLine_eq]; omega)
  · have fin : ∀ (st : Shared) (u : Tok) (z : Str), Inv X pins σ H st → z = signs c k.toNat → EP X pins σ Q (.str z u) st := fun st u z J e => ⟨.str z, H, J, ⟨u, rfl⟩, by rw [e]; exact q⟩
    split
    · rename_i h1
      have e0 : k.toNat = 0 := by omega
      refine ⟨Nat.zero_le _, ?_⟩
      show EP X pins σ Q (.str Str.empty s.toks) { s with toks := s.toks + 1 }
      exact fin _ _ _ (I.tok _) (by rw [e0]; rfl)
    · split
      · rename_i h1 h2
        have k1 : k = 1 := by
          rw [l1] at h2
          simpa using h2
        subst k1
        exact fin _ _ _ I rfl
      · have e1 : (⟨(List.replicate k.toNat #[c]).foldl (· ++ ·) #[]⟩ : Str) = signs c k.toNat := by
          rw [signs_fold]
          simp [signs]
        show ((⟨(List.replicate k.toNat #[c]).foldl (· ++ ·) #[]⟩ : Str).length ≤ sizeLine) ∧ EP X pins σ Q (.str ⟨(List.replicate k.toNat #[c]).foldl (· ++ ·) #[]⟩ s.toks) { s with toks := s.toks + 1 }
        rw [e1]
        refine ⟨?_, fin _ _ _ (I.tok _) rfl⟩
        have : (signs c k.toNat).length = k.toNat := by simp [signs, Str.length]
        rw [this, sizeLine_eq]
        omega
end O42

set_option Elab.async false
set_option linter.all false
set_option maxRecDepth 100000
set_option maxHeartbeats 4000000
set_option pp.maxSteps 100
/-! Webs that are lines. -/
namespace O42
open PySem L2
abbrev sWebI : Stmt := inClass (top 35) 0
abbrev sArrow : Stmt := top 36
abbrev sLine : Stmt := top 37
structure WebD (K : PySem.W.Frag) (mg : Str → Option Value) (CW : Addr) : Prop where
  cl : Cls K CW
  n1 : NoAttr K CW "many"
  n2 : NoAttr K CW "arrows"
  mgC : mg "Web" = some (.ref CW)
  mp : ∃ t, mg "MOST_PLACES" = some (.int 8 t)
  ma : ∃ t, mg "MOST_ARROWS" = some (.int 12 t)
  ms : ∃ t, mg "MOST_SIGNS" = some (.int 7 t)
def wf (n : Int) (b : Addr) : List (Str × V) := [("many", .int n), ("arrows", .ref b)]
theorem wf_many (n : Int) (b : Addr) : (wf n b).lookup ("many" : Str) = some (.int n) := by rfl
theorem wf_arrows (n : Int) (b : Addr) : (wf n b).lookup ("arrows" : Str) = some (.ref b) := by rfl
/-- arrows of a line of n places -/
def LineA (H : Hp) (b : Addr) (n : Nat) : Prop := ∃ as : List Addr, H b = some (.tup (as.map V.ref)) ∧ as.length = n - 1 ∧ ∀ (i : Nat) (a : Addr), as[i]? = some a → H a = some (.tup [.int (i : Int), .int ((i : Int) + 1)])
def LineW (CW : Addr) (H : Hp) (p : Addr) (n : Nat) : Prop := ∃ dx b, H p = some (.ins CW dx (wf (n : Int) b)) ∧ LineA H b n
theorem LineA.ext {H H' : Hp} {b : Addr} {n : Nat} (e : Ext H H') (h : LineA H b n) : LineA H' b n := let ⟨as, h1, h2, h3⟩ := h; ⟨as, e _ _ h1, h2, fun i a z => e _ _ (h3 i a z)⟩
theorem LineW.ext {CW : Addr} {H H' : Hp} {p : Addr} {n : Nat} (e : Ext H H') (h : LineW CW H p n) : LineW CW H' p n := let ⟨dx, b, h1, h2⟩ := h; ⟨dx, b, e _ _ h1, h2.ext e⟩
def spArrow : Sp := fun vs H Q _ => ∃ (m i j : Int) (a : Addr), vs = [.int m, .ref a] ∧ H a = some (.tup [.int i, .int j]) ∧ 0 ≤ i ∧ i < m ∧ 0 ≤ j ∧ j < m ∧ ∀ H', Ext H H' → Q (.bl true) H'
def spWeb (CW : Addr) : Sp := fun vs H Q _ => ∃ (p dx b : Addr) (n : Nat), vs = [.ref p, .int (n : Int), .ref b] ∧ 1 ≤ n ∧ n ≤ 8 ∧ H p = some (.ins CW dx []) ∧ LineA H b n ∧ ∀ H' : Hp, H' p = some (.ins CW dx (wf (n : Int) b)) → (∀ c o, c ≠ p → H c = some o → H' c = some o) → Q .non H'
def spLine (CW : Addr) : Sp := fun vs H Q _ => ∃ n : Nat, vs = [.str (signs 62 n)] ∧ n ≤ 7 ∧ ∀ (p : Addr) (H' : Hp), Ext H H' → LineW CW H' p (n + 1) → Q (.ref p) H'
theorem signs_get {c k i d : Nat} (h : (signs c k).cps[i]? = some d) : d = c := by
  unfold signs at h
  simp only [List.getElem?_toArray] at h
  exact List.eq_of_mem_replicate (List.mem_of_getElem? h)
theorem signs_size (c k : Nat) : (signs c k).cps.size = k := by simp [signs]
section
variable {P : Program} {w : World} {K : PySem.W.Frag} {mg : Str → Option Value} {base : Heap}
abbrev arrowN : List Str := ["many", "thing", "place"]
theorem scArrow : FnScope arrowN ["many", "thing"] (defScope sArrow) := ⟨rfl, rfl, rfl, by decide +kernel, rfl, by decide +kernel, by decide +kernel⟩
theorem ok_arrow {f : Addr} {fd : FuncData} (F : L2.Fun K "is_arrow" "is_arrow" sArrow f fd) (T : Gb mg) (cN : Cal P w K mg base 2 "is_number" (spNumber K) []) : FnOk P w K mg base CX0 3 f fd ["many", "thing"] spArrow := by
  refine F.ok scArrow (fun vs H Q E h => ?_) (fun cdv A outer s H vs Q E hr h => ?_)
  · obtain ⟨m, i, j, a, rfl, _⟩ := h
    rfl
  · obtain ⟨m, i, j, a, rfl, ha, i0, im, j0, jm, k⟩ := h
    refine ⟨_, pss_cons (ps_if (PW.pt (pw_or (pt_not (pt_val (pe_callB call_isi (by rfl) T.isi (by decide +kernel) (pa_cons (pv 1) (pa_cons (pe_bltn (v := .ty "tuple") (by rfl) T.tup (by decide +kernel) rfl) pa_nil))))) (pw_or1 (pt_cmpR op_ne (pe_callB call_len_seq (by rfl) T.len PySem.boot_len (pa_cons (pv 1) pa_nil)) pe_int (nomark _))))) (pss_one (ps_ret pe_bl)) pss_nil)
      (pss_one (ps_ret (pe_callB (cr_all rfl) (by rfl) T.all (by decide +kernel) (pa_cons (pe_lc (own := [("place", 2)]) (g := gName 2) (tt := tYes) rfl scArrow.nd (pi_tup (pv 1)) (blkOk_by (N := arrowN) (sc := defScope sArrow) (by decide +kernel)) (fun _ _ _ _ _ => (pg_name (i := 2) scArrow.nd rfl (Or.inl rfl))) (fun _ _ _ _ _ => pts_nil) (fun _ _ _ _ _ => (C8.pe_c cN hr (by decide) (by rfl) (pa_cons (pe_op op_sub (pv 0) pe_int) (pa_cons (pv 2) pa_nil))))) pa_nil)))), ?_⟩
    refine ⟨_, rfl, _, .ty "tuple", .type "tuple", .type "tuple", true, rfl, .ty _, ty_rd (.inl ha), kit_ty (by decide +kernel), _, rfl, ?_⟩
    refine iteF ⟨_, rfl, a, _, rfl, .inr (SqT.of ha), rfl, _, rfl, iteF ?_⟩
    refine ⟨_, rfl, a, rfl, ⟨_, SqT.of ha⟩, fun D nD => ?_⟩
    refine lc_gen (n := ([V.int i, .int j]).length) (p := fun _ => true) walk_tup nD (by show 2 ≤ 1000; decide) (fun _ y _ => y = V.bl true) (fun _ _ _ _ _ z => z) (fun H' e => SqT.of (e _ _ ha)) ?_ ?_
    · rintro t y J J' R N ht e7 ⟨rfl, hy⟩ hR hN
      have mem := List.mem_of_getElem? hy
      simp only [List.mem_cons, List.not_mem_nil, or_false] at mem
      have hv : ∃ v : Int, y = .int v ∧ 0 ≤ v ∧ v < m := by
        rcases mem with rfl | rfl
        · exact ⟨i, rfl, i0, im⟩
        · exact ⟨j, rfl, j0, jm⟩
      obtain ⟨v, rfl, v0, vm⟩ := hv
      refine ⟨rfl, tyes_in ⟨_, rfl, _, _, rfl, rfl, _, rfl, m - 1, .int v, rfl, Th.int v, ?_⟩⟩
      rw [numV_true.mpr ⟨v, rfl, v0, by omega⟩]
      exact hR rfl _ _ Ext.rfl' rfl
    intro ys J e7 hD pp
    have ey := flags_of (t := fun _ => true) pp
    subst ey
    refine ⟨D, _, rfl, SqL.of hD, ?_⟩
    rw [all_true]
    exact k _ e7
abbrev webN : List Str := ["self", "many", "arrows", "at", "arrow"]
theorem scWebI : FnScope webN ["self", "many", "arrows"] (defScope sWebI) := ⟨rfl, rfl, rfl, by decide +kernel, rfl, by decide +kernel, by decide +kernel⟩
theorem ok_web {f CW : Addr} {fd : FuncData} (F : L2.Fun K "__init__" "Web.__init__" sWebI f fd) (T : Gb mg) (D : WebD K mg CW) (cN : Cal P w K mg base 2 "is_number" (spNumber K) []) (cA : Cal P w K mg base 3 "is_arrow" spArrow []) : FnOk P w K mg base CX0 4 f fd ["self", "many", "arrows"] (spWeb CW) := by
  obtain ⟨t8, h8⟩ := D.mp
  obtain ⟨t12, h12⟩ := D.ma
  refine F.ok scWebI (fun vs H Q E h => ?_) (fun cdv A outer s H vs Q E hr h => ?_)
  · obtain ⟨p, dx, b, n, rfl, _⟩ := h
    rfl
  · obtain ⟨p, dx, b, n, rfl, n1, n8, hp, ⟨as, hb, la, ga⟩, k⟩ := h
    refine ⟨_, pss_cons (ps_if (PW.pt (pw_or (pt_not (pt_val (C8.pe_c cN hr (by decide) (by rfl) (pa_cons (pe_glob (v := .int 8) rfl h8 ⟨_, rfl⟩) (pa_cons (pv 1) pa_nil))))) (pw_or1 (pt_cmpR op_eq (pv 1) pe_int (nomark _))))) (pss_one ps_never) pss_nil)
      (pss_cons (ps_if (PW.pt (pw_or (pt_not (pt_val (pe_callB call_isi (by rfl) T.isi (by decide +kernel) (pa_cons (pv 2) (pa_cons (pe_bltn (v := .ty "tuple") (by rfl) T.tup (by decide +kernel) rfl) pa_nil))))) (pw_or1 (pt_cmpR op_gt (pe_callB call_len_seq (by rfl) T.len PySem.boot_len (pa_cons (pv 2) pa_nil)) (pe_glob (v := .int 12) rfl h12 ⟨_, rfl⟩) (nomark _))))) (pss_one ps_never) pss_nil)
      (pss_cons (ps_for PassesOwn.never rfl (pi_en (by rfl) T.enum (pa_cons (pv 2) pa_nil)) (pg_tup rfl (pgs_cons (pg_name (i := 3) scWebI.nd rfl (Or.inl rfl)) (pgs_cons (pg_name (i := 4) scWebI.nd rfl (Or.inl rfl)) pgs_nil)))
      (pss_one (ps_if (pt_not (pt_val (C8.pe_c cA hr (by decide) (by rfl) (pa_cons (pv 1) (pa_cons (pv 4) pa_nil))))) (pss_one ps_never) pss_nil)))
      (pss_cons (ps_fld (pv 0) (pv 1) rfl)
      (pss_one (ps_fld (pv 0) (pv 2) rfl))))), ?_⟩
    refine ⟨_, rfl, 8, .int (n : Int), rfl, Th.int _, _, rfl, ?_⟩
    rw [numV_true.mpr ⟨(n : Int), rfl, by omega, by omega⟩]
    refine iteF ⟨_, rfl, rfl, _, rfl, ?_⟩
    refine ite2 (fun z => ?_) (fun _ => ?_)
    · have := of_decide_eq_true z
      injection this with this
      omega
    refine ⟨_, rfl, _, .ty "tuple", .type "tuple", .type "tuple", true, rfl, .ty _, ty_rd (.inl hb), kit_ty (by decide +kernel), _, rfl, ?_⟩
    refine iteF ⟨_, rfl, b, _, rfl, .inr (SqT.of hb), _, _, rfl, rfl, _, rfl, ?_⟩
    refine ite2 (fun z => ?_) (fun _ => ?_)
    · have := of_decide_eq_true z
      rw [List.length_map] at this
      omega
    refine ⟨_, rfl, b, _, rfl, .inl hb, for_en (a := b) (xs := as.map V.ref) (fun i σ' J => (∃ u v, σ' = [some (.ref p), some (.int (n : Int)), some (.ref b), u, v]) ∧ Ext H J) ⟨⟨_, _, rfl⟩, Ext.rfl'⟩ (fun i σ' J h => .inl (h.2 _ _ hb)) ?_ ?_⟩
    · rintro i z σ' J q hz ⟨⟨u, v, rfl⟩, e2⟩ nq
      obtain ⟨a, ha, rfl⟩ := ref_get hz
      have li := (List.getElem?_eq_some_iff.mp ha).1
      have e3 : Ext H (upd J q (.tup [.int (i : Nat), .ref a])) := e2.trans (Ext.upd nq)
      refine ⟨q, _, rfl, SqT.of upd_same, rfl, _, _, rfl, _, _, rfl, rfl, ?_⟩
      refine ⟨_, rfl, _, rfl, (n : Int), (i : Int), (i : Int) + 1, a, rfl, e3 _ _ (ga i a ha), by omega, by omega, by omega, by omega, fun J2 x2 => ⟨_, rfl, iteF ⟨⟨_, _, rfl⟩, e3.trans x2⟩⟩⟩
    · rintro σ' J ⟨⟨u, v, rfl⟩, e2⟩
      refine ⟨_, rfl, _, rfl, p, CW, dx, [], rfl, e2 _ _ hp, D.cl, D.n1, (by show 0 < 1000; decide), ?_⟩
      refine ⟨_, rfl, _, rfl, p, CW, dx, _, rfl, upd_same, D.cl, D.n2, (by show 1 < 1000; decide), ?_⟩
      exact k _ upd_same fun c o nc h => by rw [upd_ne nc, upd_ne nc]; exact e2 _ _ h
abbrev lineN : List Str := ["word", "arrows", "at", "sign"]
theorem scLine : FnScope lineN ["word"] (defScope sLine) := ⟨rfl, rfl, rfl, by decide +kernel, rfl, by decide +kernel, by decide +kernel⟩
theorem ok_line {f fW CW : Addr} {fd fdW : FuncData} (F : L2.Fun K "line" "line" sLine f fd) (T : Gb mg) (D : WebD K mg CW) (MW : Mk K CW fW) (FW : FnOk P w K mg base CX0 4 fW fdW ["self", "many", "arrows"] (spWeb CW)) (bW : Binds K fdW ["self", "many", "arrows"] []) : FnOk P w K mg base CX0 6 f fd ["word"] (spLine CW) := by
  obtain ⟨t7, h7⟩ := D.ms
  refine F.ok scLine (fun vs H Q E h => ?_) (fun cdv A outer s H vs Q E hr h => ?_)
  · obtain ⟨n, rfl, _⟩ := h
    rfl
  · obtain ⟨n, rfl, n7, k⟩ := h
    have ls : (signs 62 n).length = n := signs_size 62 n
    refine ⟨_, pss_cons (ps_if (PW.pt (pw_or (pt_not (pt_val (pe_callB call_isi (by rfl) T.isi (by decide +kernel) (pa_cons (pv 0) (pa_cons (pe_bltn (v := .ty "str") (by rfl) T.str (by decide +kernel) rfl) pa_nil))))) (pw_or1 (pt_cmpR op_gt (pe_callB call_len_str (by rfl) T.len PySem.boot_len (pa_cons (pv 0) pa_nil)) (pe_glob (v := .int 7) rfl h7 ⟨_, rfl⟩) (nomark _))))) (pss_one ps_never) pss_nil)
      (pss_cons (ps_set (i := 1) scLine.nd rfl (Or.inl rfl) (pe_lst pa_nil))
      (pss_cons (ps_for PassesOwn.never rfl (pi_es (by rfl) T.enum (pa_cons (pv 0) pa_nil)) (pg_tup rfl (pgs_cons (pg_name (i := 2) scLine.nd rfl (Or.inl rfl)) (pgs_cons (pg_name (i := 3) scLine.nd rfl (Or.inl rfl)) pgs_nil)))
      (pss_one (ps_if (pt_cmpR op_eq (pv 3) pe_str (nomark _)) (pss_one (ps_expr (pe_bm PySem.F.plainAttrs_list PySem.F.slot_list_append PySem.F.type_list_append mt_append (pv 1) (pa_cons (pe_tup (pa_cons (pv 2) (pa_cons (pe_op op_add (pv 2) pe_int) pa_nil))) pa_nil)))) (pss_one (ps_if (pt_cmpR op_eq (pv 3) pe_str (nomark _)) (pss_one (ps_expr (pe_bm PySem.F.plainAttrs_list PySem.F.slot_list_append PySem.F.type_list_append mt_append (pv 1) (pa_cons (pe_tup (pa_cons (pe_op op_add (pv 2) pe_int) (pa_cons (pv 2) pa_nil))) pa_nil)))) (pss_one ps_never))))))
      (pss_one (ps_ret (pe_make MW FW hr (by rfl) D.mgC bW .nil pass0 (pa_cons (pe_op op_add (pe_callB call_len_str (by rfl) T.len PySem.boot_len (pa_cons (pv 0) pa_nil)) pe_int) (pa_cons (pe_callTy call_tuple_of (by rfl) T.tup (by decide +kernel) (pa_cons (pv 1) pa_nil)) pa_nil))))))), ?_⟩
    refine ⟨_, rfl, _, .ty "str", .type "str", .type "str", true, rfl, .ty _, .base (.str _), kit_ty (by decide +kernel), _, rfl, ?_⟩
    refine iteF ⟨_, rfl, _, rfl, by rw [ls, sizeLine_eq]; omega, _, _, rfl, rfl, _, rfl, ?_⟩
    refine ite2 (fun z => ?_) (fun _ => ?_)
    · have := of_decide_eq_true z
      rw [ls] at this
      omega
    refine ⟨Nat.zero_le _, fun l nl => ?_⟩
    have x1 := Ext.upd (o := .lst []) nl
    refine ⟨_, rfl, _, rfl, ?_⟩
    refine for_it walk_es (fun i σ' J => ∃ (v2 v3 : Option V) (as : List Addr), σ' = [some (.str (signs 62 n)), some (.ref l), v2, v3] ∧ Ext H J ∧ J l = some (.lst (as.map V.ref)) ∧ as.length = i ∧ ∀ (j : Nat) (a : Addr), as[j]? = some a → J a = some (.tup [.int (j : Int), .int ((j : Int) + 1)]))
      ⟨_, _, [], rfl, x1, upd_same, rfl, fun j a h => by simp at h⟩ (fun _ _ _ _ _ => True.intro) ?_ ?_
    · rintro i z σ' J J' hi ⟨v2, v3, as, rfl, e, hl, la, ga⟩ ⟨q, c, rfl, nq, rfl, hc⟩
      have ec := signs_get hc
      subst ec
      refine ⟨q, _, rfl, SqT.of upd_same, rfl, _, _, rfl, _, _, rfl, rfl, ?_⟩
      have xq := Ext.upd (o := .tup [V.int (i : Nat), .str ⟨#[62]⟩]) nq
      refine ⟨_, rfl, rfl, _, rfl, ?_⟩
      refine ite2 (fun _ => ?_) (fun z => absurd (by decide) z)
      refine ⟨_, rfl, .inl ⟨rfl, _, SqL.of (xq _ _ hl)⟩, _, rfl, _, rfl, _, _, rfl, rfl, by show 2 ≤ sizeLine; decide, fun t nt => ?_⟩
      have xt := Ext.upd (o := .tup [V.int (i : Nat), .int ((i : Nat) + 1)]) nt
      have hl2 := xt _ _ (xq _ _ hl)
      refine ⟨l, _, _, rfl, rfl, hl2, small1000 (by rw [List.length_map]; rw [signs_size] at hi; omega), ?_⟩
      have nHl : H l = Option.none := nl
      have keep : ∀ {b : Addr} {xs : List V} {J2 : Hp} {o : HO}, J2 l = some (.lst (as.map V.ref)) → J2 b = some (.tup xs) → (upd J2 l o) b = some (.tup xs) := fun {b xs J2 o} h g => by rw [upd_ne fun z => by rw [z, h] at g; cases g]; exact g
      refine ⟨_, _, as ++ [t], rfl, fun b o hb => ?_, by rw [upd_same, List.map_append]; rfl, by rw [List.length_append, la]; rfl, fun j a hj => ?_⟩
      · rw [upd_ne (ne_of_none hb nHl)]
        exact xt _ _ (xq _ _ (e _ _ hb))
      · by_cases lt : j < as.length
        · rw [List.getElem?_append_left lt] at hj
          exact keep hl2 (xt _ _ (xq _ _ (ga j a hj)))
        · have : j = as.length := by
            have := (List.getElem?_eq_some_iff.mp hj).1
            rw [List.length_append] at this
            simp at this
            omega
          subst this
          rw [List.getElem?_append_right (Nat.le_refl _), Nat.sub_self] at hj
          cases hj
          rw [la]
          exact keep hl2 upd_same
    · rintro σ' J ⟨v2, v3, as, rfl, e, hl, la, ga⟩
      rw [signs_size] at la
      refine ⟨_, rfl, _, rfl, by rw [ls, sizeLine_eq]; omega, _, _, rfl, rfl, _, rfl, l, _, rfl, .inl ⟨SqL.of hl, fun t nt => ?_⟩⟩
      have xt := Ext.upd (o := .tup (as.map V.ref)) nt
      intro p dx np ndx nd
      have x2 := Ext.upd (o := .own p) ndx
      have np1 : (upd (upd J t (.tup (as.map V.ref))) dx (.own p)) p = Option.none := by rw [upd_ne nd.symm]; exact np
      have x3 := Ext.upd (o := .ins CW dx []) np1
      have x23 := x2.trans x3
      refine ⟨p, dx, t, n + 1, by rw [ls]; rfl, by omega, by omega, upd_same, ⟨as, x23 _ _ upd_same, by omega, fun i a h => x23 _ _ (xt _ _ (ga i a h))⟩, fun H' hp kp => ⟨rfl, ?_⟩⟩
      have npt : (upd J t (.tup (as.map V.ref))) p = Option.none := np
      have e' : Ext (upd J t (.tup (as.map V.ref))) H' := fun c o h => kp c o (ne_of_none h npt) (x23 _ _ h)
      exact k p H' ((e.trans xt).trans e') ⟨dx, t, hp, as, e' _ _ upd_same, by omega, fun i a h => e' _ _ (xt _ _ (ga i a h))⟩
end
end O42

set_option Elab.async false
set_option linter.all false
set_option maxRecDepth 100000
set_option maxHeartbeats 4000000
set_option pp.maxSteps 100
/-! Pictures made. -/
namespace O42
open PySem L2
abbrev sIsTab : Stmt := top 28
abbrev sPicI : Stmt := inClass (top 40) 0
abbrev sSizes : Stmt := top 41
abbrev sPicOf : Stmt := top 42
structure PicD (K : PySem.W.Frag) (mg : Str → Option Value) (CP : Addr) : Prop where
  cl : Cls K CP
  n1 : NoAttr K CP "web"
  n2 : NoAttr K CP "prime"
  n3 : NoAttr K CP "sizes"
  n4 : NoAttr K CP "tables"
  mgC : mg "Picture" = some (.ref CP)
  mo : ∃ t, mg "MOST_SIZE" = some (.int 6 t)
def pf (wb : Addr) (pr : Int) (sz tb : Addr) : List (Str × V) := [("web", .ref wb), ("prime", .int pr), ("sizes", .ref sz), ("tables", .ref tb)]
theorem pf_sizes (wb : Addr) (pr : Int) (sz tb : Addr) : (pf wb pr sz tb).lookup ("sizes" : Str) = some (.ref sz) := by rfl
theorem pf_tables (wb : Addr) (pr : Int) (sz tb : Addr) : (pf wb pr sz tb).lookup ("tables" : Str) = some (.ref tb) := by rfl
def PicAt (CP : Addr) (H : Hp) (p wb : Addr) (pr : Int) (sz tb : Addr) : Prop := ∃ dx, H p = some (.ins CP dx (pf wb pr sz tb))
def spIsTab (CT : Addr) : Sp := fun vs H Q _ => ∃ (p b : Addr) (pr h wd : Int), vs = [.int pr, .int h, .int wd, .ref p] ∧ TabAt CT H p pr wd b h ∧ Q (.bl true) H
def spSizes (CW : Addr) : Sp := fun vs H Q _ => ∃ (wb sz : Addr) (n : Nat), vs = [.ref wb, .ref sz] ∧ LineW CW H wb n ∧ n ≤ 1000 ∧ H sz = some (.tup (List.replicate n (.int 0))) ∧ ∀ H', Ext H H' → Q (.bl true) H'
def spPic (CP CW CT : Addr) : Sp := fun vs H Q _ => ∃ (p dx wb sz tb e b : Addr) (pr : Int) (n : Nat), vs = [.ref p, .ref wb, .int pr, .ref sz, .ref tb] ∧ H p = some (.ins CP dx []) ∧ LineW CW H wb n ∧ 1 ≤ n ∧ n ≤ 8 ∧ Pr pr ∧ H sz = some (.tup (List.replicate n (.int 0))) ∧ H tb = some (.tup (List.replicate (n - 1) (.ref e))) ∧ TabAt CT H e pr 0 b 0 ∧
  ∀ H' : Hp, H' p = some (.ins CP dx (pf wb pr sz tb)) → (∀ c o, c ≠ p → H c = some o → H' c = some o) → Q .non H'
def spPicOf (CP CW : Addr) : Sp := fun vs H Q _ => ∃ (wb sz tb : Addr) (pr : Int) (n : Nat), vs = [.ref wb, .int pr, .ref sz, .ref tb] ∧ LineW CW H wb n ∧ 1 ≤ n ∧ n ≤ 8 ∧ Pr pr ∧ ∀ (p : Addr) (H' : Hp), Ext H H' → PicAt CP H' p wb pr sz tb → Q (.ref p) H'
section
variable {P : Program} {w : World} {K : PySem.W.Frag} {mg : Str → Option Value} {base : Heap}
theorem scIsTab : FnScope ["prime", "high", "wide", "thing"] ["prime", "high", "wide", "thing"] (defScope sIsTab) := ⟨rfl, rfl, rfl, by decide +kernel, rfl, by decide +kernel, by decide +kernel⟩
theorem ok_isTab {f CT : Addr} {fd : FuncData} (F : L2.Fun K "is_table" "is_table" sIsTab f fd) (T : Gb mg) (D : TabD K mg CT) (I : IsC K CT) : FnOk P w K mg base CX0 1 f fd ["prime", "high", "wide", "thing"] (spIsTab CT) := by
  refine F.ok scIsTab (fun vs H Q E h => ?_) (fun cdv A outer s H vs Q E hr h => ?_)
  · obtain ⟨p, b, pr, h, wd, rfl, _⟩ := h
    rfl
  · obtain ⟨p, b, pr, h, wd, rfl, ⟨dx, hp⟩, k⟩ := h
    refine ⟨_, pss_cons (ps_if (PW.pt (pw_or (pt_not (pt_val (pe_callB call_isi (by rfl) T.isi (by decide +kernel) (pa_cons (pv 3) (pa_cons (pe_glob (v := .ref CT) rfl D.mgC rfl) pa_nil))))) (pw_or1 (pt_cmpR op_ne (pe_fld (pv 3) rfl) (pv 0) (nomark _))))) (pss_one (ps_ret pe_bl)) pss_nil)
      (pss_one (ps_ret (pe_and (pe_cmpR op_eq (pe_fld (pv 3) rfl) (pv 1) (nomark _)) (pe_one (pe_cmpR op_eq (pe_fld (pv 3) rfl) (pv 2) (nomark _)))))), ?_⟩
    refine ⟨_, rfl, _, .ref CT, .ref CT, .ref CT, _, rfl, .own CT, I.ty hp, kit_same, _, rfl, ?_⟩
    refine iteF ⟨_, rfl, p, CT, dx, _, _, rfl, hp, D.cl, D.n1, tf_prime .., _, rfl, rfl, _, rfl, ?_⟩
    refine ite2 (fun z => ?_) (fun _ => ?_)
    · rw [decide_eq_true rfl] at z
      cases z
    refine ⟨_, rfl, p, CT, dx, _, _, rfl, hp, D.cl, D.n4, tf_high .., _, rfl, rfl, _, rfl, ?_⟩
    rw [decide_eq_true rfl]
    refine iteT ⟨_, rfl, p, CT, dx, _, _, rfl, hp, D.cl, D.n2, tf_wide .., _, rfl, rfl, ?_⟩
    rw [decide_eq_true rfl]
    exact k
abbrev sizesN : List Str := ["web", "thing", "size"]
theorem scSizes : FnScope sizesN ["web", "thing"] (defScope sSizes) := ⟨rfl, rfl, rfl, by decide +kernel, rfl, by decide +kernel, by decide +kernel⟩
theorem ok_sizes {f CW : Addr} {fd : FuncData} (F : L2.Fun K "is_sizes" "is_sizes" sSizes f fd) (T : Gb mg) (D : WebD K mg CW) (M6 : ∃ t, mg "MOST_SIZE" = some (.int 6 t)) (cN : Cal P w K mg base 2 "is_number" (spNumber K) []) : FnOk P w K mg base CX0 3 f fd ["web", "thing"] (spSizes CW) := by
  obtain ⟨t6, h6⟩ := M6
  refine F.ok scSizes (fun vs H Q E h => ?_) (fun cdv A outer s H vs Q E hr h => ?_)
  · obtain ⟨wb, sz, n, rfl, _⟩ := h
    rfl
  · obtain ⟨wb, sz, n, rfl, ⟨dx, b, hw, la⟩, n1000, hs, k⟩ := h
    refine ⟨_, pss_cons (ps_if (PW.pt (pw_or (pt_not (pt_val (pe_callB call_isi (by rfl) T.isi (by decide +kernel) (pa_cons (pv 1) (pa_cons (pe_bltn (v := .ty "tuple") (by rfl) T.tup (by decide +kernel) rfl) pa_nil))))) (pw_or1 (pt_cmpR op_ne (pe_callB call_len_seq (by rfl) T.len PySem.boot_len (pa_cons (pv 1) pa_nil)) (pe_fld (pv 0) rfl) (nomark _))))) (pss_one (ps_ret pe_bl)) pss_nil)
      (pss_one (ps_ret (pe_callB (cr_all rfl) (by rfl) T.all (by decide +kernel) (pa_cons (pe_lc (own := [("size", 2)]) (g := gName 2) (tt := tYes) rfl scSizes.nd (pi_tup (pv 1)) (blkOk_by (N := sizesN) (sc := defScope sSizes) (by decide +kernel)) (fun _ _ _ _ _ => (pg_name (i := 2) scSizes.nd rfl (Or.inl rfl))) (fun _ _ _ _ _ => pts_nil) (fun _ _ _ _ _ => (C8.pe_c cN hr (by decide) (by rfl) (pa_cons (pe_glob (v := .int 6) rfl h6 ⟨_, rfl⟩) (pa_cons (pv 2) pa_nil))))) pa_nil)))), ?_⟩
    refine ⟨_, rfl, _, .ty "tuple", .type "tuple", .type "tuple", true, rfl, .ty _, ty_rd (.inl hs), kit_ty (by decide +kernel), _, rfl, ?_⟩
    refine iteF ⟨_, rfl, sz, _, rfl, .inr (SqT.of hs), _, rfl, wb, CW, dx, _, _, rfl, hw, D.cl, D.n1, wf_many .., rfl, _, rfl, ?_⟩
    refine ite2 (fun z => ?_) (fun _ => ?_)
    · rw [List.length_replicate, decide_eq_true rfl] at z
      cases z
    refine ⟨_, rfl, sz, rfl, ⟨_, SqT.of hs⟩, fun D0 nD => ?_⟩
    refine lc_gen (n := (List.replicate n (V.int 0)).length) (p := fun _ => true) walk_tup nD (by rw [List.length_replicate]; exact n1000) (fun _ y _ => y = V.bl true) (fun _ _ _ _ _ z => z) (fun H' e => SqT.of (e _ _ hs)) ?_ ?_
    · rintro t y J J' R N ht e7 ⟨rfl, hy⟩ hR hN
      have ey := List.eq_of_mem_replicate (List.mem_of_getElem? hy)
      subst ey
      refine ⟨rfl, tyes_in ⟨_, rfl, 6, .int 0, rfl, Th.int 0, ?_⟩⟩
      exact hR rfl _ _ Ext.rfl' rfl
    intro ys J e7 hD pp
    have ey := flags_of (t := fun _ => true) pp
    subst ey
    refine ⟨D0, _, rfl, SqL.of hD, ?_⟩
    rw [all_true]
    exact k _ e7
abbrev picN : List Str := ["self", "web", "prime", "sizes", "tables", "at", "table", "begin", "end"]
theorem scPicI : FnScope picN ["self", "web", "prime", "sizes", "tables"] (defScope sPicI) := ⟨rfl, rfl, rfl, by decide +kernel, rfl, by decide +kernel, by decide +kernel⟩
theorem ok_pic {f CP CW CT : Addr} {fd : FuncData} (F : L2.Fun K "__init__" "Picture.__init__" sPicI f fd) (T : Gb mg) (D : PicD K mg CP) (DW : WebD K mg CW) (IW : IsC K CW) (cP : Cal P w K mg base 2 "is_prime" (spPrime K) []) (cS : Cal P w K mg base 3 "is_sizes" (spSizes CW) []) (cT : Cal P w K mg base 1 "is_table" (spIsTab CT) []) :
    FnOk P w K mg base CX0 4 f fd ["self", "web", "prime", "sizes", "tables"] (spPic CP CW CT) := by
  refine F.ok scPicI (fun vs H Q E h => ?_) (fun cdv A outer s H vs Q E hr h => ?_)
  · obtain ⟨p, dx, wb, sz, tb, e, b, pr, n, rfl, _⟩ := h
    rfl
  · obtain ⟨p, dx, wb, sz, tb, e, b, pr, n, rfl, hp, lw, n1, n8, hpr, hs, ht, te, k⟩ := h
    obtain ⟨dw, ab, hw, as, hab, la, ga⟩ := id lw
    refine ⟨_, pss_cons (ps_if (pt_not (pt_val (pe_callB call_isi (by rfl) T.isi (by decide +kernel) (pa_cons (pv 1) (pa_cons (pe_glob (v := .ref CW) rfl DW.mgC rfl) pa_nil))))) (pss_one ps_never) pss_nil)
      (pss_cons (ps_if (pt_not (pt_val (C8.pe_c cP hr (by decide) (by rfl) (pa_cons (pv 2) pa_nil)))) (pss_one ps_never) pss_nil)
      (pss_cons (ps_if (pt_not (pt_val (C8.pe_c cS hr (by decide) (by rfl) (pa_cons (pv 1) (pa_cons (pv 3) pa_nil))))) (pss_one ps_never) pss_nil)
      (pss_cons (ps_if (PW.pt (pw_or (pt_not (pt_val (pe_callB call_isi (by rfl) T.isi (by decide +kernel) (pa_cons (pv 4) (pa_cons (pe_bltn (v := .ty "tuple") (by rfl) T.tup (by decide +kernel) rfl) pa_nil))))) (pw_or1 (pt_cmpR op_ne (pe_callB call_len_seq (by rfl) T.len PySem.boot_len (pa_cons (pv 4) pa_nil)) (pe_callB call_len_seq (by rfl) T.len PySem.boot_len (pa_cons (pe_fld (pv 1) rfl) pa_nil)) (nomark _))))) (pss_one ps_never) pss_nil)
      (pss_cons (ps_for PassesOwn.never rfl (pi_en (by rfl) T.enum (pa_cons (pv 4) pa_nil)) (pg_tup rfl (pgs_cons (pg_name (i := 5) scPicI.nd rfl (Or.inl rfl)) (pgs_cons (pg_name (i := 6) scPicI.nd rfl (Or.inl rfl)) pgs_nil)))
      (pss_cons (ps_asg (pe_ix ix_tup (pe_fld (pv 1) rfl) (pv 5) (fun _ _ => rfl)) (pg_tup rfl (pgs_cons (pg_name (i := 7) scPicI.nd rfl (Or.inl rfl)) (pgs_cons (pg_name (i := 8) scPicI.nd rfl (Or.inl rfl)) pgs_nil))))
      (pss_one (ps_if (pt_not (pt_val (C8.pe_c cT hr (by decide) (by rfl) (pa_cons (pv 2) (pa_cons (pe_ix ix_tup (pv 3) (pv 8) (fun _ _ => rfl)) (pa_cons (pe_ix ix_tup (pv 3) (pv 7) (fun _ _ => rfl)) (pa_cons (pv 6) pa_nil))))))) (pss_one ps_never) pss_nil))))
      (pss_cons (ps_fld (pv 0) (pv 1) rfl)
      (pss_cons (ps_fld (pv 0) (pv 2) rfl)
      (pss_cons (ps_fld (pv 0) (pv 3) rfl)
      (pss_one (ps_fld (pv 0) (pv 4) rfl))))))))), ?_⟩
    refine ⟨_, rfl, _, .ref CW, .ref CW, .ref CW, _, rfl, .own CW, IW.ty hw, kit_same, _, rfl, ?_⟩
    refine iteF ⟨_, rfl, .int pr, rfl, Th.int pr, _, rfl, ?_⟩
    rw [primeV_true.mpr ⟨pr, rfl, hpr⟩]
    refine iteF ⟨_, rfl, _, rfl, wb, sz, n, rfl, lw, by omega, hs, fun H1 e1 => ⟨_, rfl, iteF ?_⟩⟩
    refine ⟨_, rfl, _, .ty "tuple", .type "tuple", .type "tuple", true, rfl, .ty _, ty_rd (.inl (e1 _ _ ht)), kit_ty (by decide +kernel), _, rfl, ?_⟩
    refine iteF ⟨_, rfl, tb, _, rfl, .inr (SqT.of (e1 _ _ ht)), _, rfl, wb, CW, dw, _, _, rfl, e1 _ _ hw, DW.cl, DW.n2, wf_arrows .., ab, _, rfl, .inr (SqT.of (e1 _ _ hab)), rfl, _, rfl, ?_⟩
    refine ite2 (fun z => ?_) (fun _ => ?_)
    · rw [List.length_replicate, List.length_map, la, decide_eq_true rfl] at z
      cases z
    refine ⟨_, rfl, tb, _, rfl, .inl (e1 _ _ ht), for_en (a := tb) (xs := List.replicate (n - 1) (V.ref e)) (fun i σ' J => (∃ v5 v6 v7 v8, σ' = [some (.ref p), some (.ref wb), some (.int pr), some (.ref sz), some (.ref tb), v5, v6, v7, v8]) ∧ Ext H J) ⟨⟨_, _, _, _, rfl⟩, e1⟩ (fun i σ' J h => .inl (h.2 _ _ ht)) ?_ ?_⟩
    · rintro i z σ' J q hz ⟨⟨v5, v6, v7, v8, rfl⟩, e2⟩ nq
      have li : i < n - 1 := by
        have := (List.getElem?_eq_some_iff.mp hz).1
        rw [List.length_replicate] at this
        exact this
      have ez := List.eq_of_mem_replicate (List.mem_of_getElem? hz)
      subst ez
      have e3 : Ext H (upd J q (.tup [.int (i : Nat), .ref e])) := e2.trans (Ext.upd nq)
      refine ⟨q, _, rfl, SqT.of upd_same, rfl, _, _, rfl, _, _, rfl, rfl, ?_⟩
      generalize upd J q (.tup [.int (i : Nat), .ref e]) = J1 at *
      have ha : as[i]? = some (as[i]'(by omega)) := List.getElem?_eq_getElem _
      generalize as[i]'(by omega) = ar at *
      have hv : (as.map V.ref)[i]? = some (.ref ar) := by rw [List.getElem?_map, ha]; rfl
      have z0 : ∀ j : Nat, j < n → (List.replicate n (V.int 0))[j]? = some (.int 0) := fun j hj => by rw [List.getElem?_replicate, if_pos hj]
      refine ⟨_, rfl, wb, CW, dw, _, _, rfl, e3 _ _ hw, DW.cl, DW.n2, wf_arrows .., _, rfl, ab, _, (i : Int), _, rfl, rfl, SqT.of (e3 _ _ hab), at_of (j := i) (by omega) hv, ?_⟩
      refine ⟨ar, _, rfl, SqT.of (e3 _ _ (ga i ar ha)), rfl, _, _, rfl, _, _, rfl, rfl, ?_⟩
      refine ⟨_, rfl, _, rfl, _, rfl, sz, _, (i : Int) + 1, .int 0, rfl, rfl, SqT.of (e3 _ _ hs), at_of (j := i + 1) (by omega) (z0 _ (by omega)), _, rfl, _, rfl, sz, _, (i : Int), .int 0, rfl, rfl, SqT.of (e3 _ _ hs), at_of (j := i) (by omega) (z0 _ (by omega)), _, rfl, e, b, pr, 0, 0, rfl, te.ext e3, _, rfl, iteF ⟨⟨_, _, _, _, rfl⟩, e3⟩⟩
    · rintro σ' J ⟨⟨v5, v6, v7, v8, rfl⟩, e2⟩
      refine ⟨_, rfl, _, rfl, p, CP, dx, [], rfl, e2 _ _ hp, D.cl, D.n1, (by show 0 < 1000; decide), ?_⟩
      refine ⟨_, rfl, _, rfl, p, CP, dx, _, rfl, upd_same, D.cl, D.n2, (by show 1 < 1000; decide), ?_⟩
      refine ⟨_, rfl, _, rfl, p, CP, dx, _, rfl, upd_same, D.cl, D.n3, (by show 2 < 1000; decide), ?_⟩
      refine ⟨_, rfl, _, rfl, p, CP, dx, _, rfl, upd_same, D.cl, D.n4, (by show 3 < 1000; decide), ?_⟩
      exact k _ upd_same fun c o nc h => by rw [upd_ne nc, upd_ne nc, upd_ne nc, upd_ne nc]; exact e2 _ _ h
theorem scPicOf : FnScope ["web", "prime", "sizes", "tables", "empty", "picture"] ["web", "prime", "sizes", "tables"] (defScope sPicOf) := ⟨rfl, rfl, rfl, by decide +kernel, rfl, by decide +kernel, by decide +kernel⟩
theorem ok_picOf {f fT fP CP CW CT : Addr} {fd fdT fdP : FuncData} (F : L2.Fun K "picture_of" "picture_of" sPicOf f fd) (T : Gb mg) (D : PicD K mg CP) (DW : WebD K mg CW) (DT : TabD K mg CT) (MT : Mk K CT fT) (FT : FnOk P w K mg base CX0 3 fT fdT ["self", "prime", "wide", "rows"] (spTab CT)) (bT : Binds K fdT ["self", "prime", "wide", "rows"] [])
    (MP : Mk K CP fP) (FP : FnOk P w K mg base CX0 4 fP fdP ["self", "web", "prime", "sizes", "tables"] (spPic CP CW CT)) (bP : Binds K fdP ["self", "web", "prime", "sizes", "tables"] []) : FnOk P w K mg base CX0 6 f fd ["web", "prime", "sizes", "tables"] (spPicOf CP CW) := by
  refine F.ok scPicOf (fun vs H Q E h => ?_) (fun cdv A outer s H vs Q E hr h => ?_)
  · obtain ⟨wb, sz, tb, pr, n, rfl, _⟩ := h
    rfl
  · obtain ⟨wb, sz, tb, pr, n, rfl, lw, n1, n8, hpr, k⟩ := h
    have hr4 : Room 4 _ := hr.mono (by decide)
    refine ⟨_, pss_cons (ps_set (i := 4) scPicOf.nd rfl (Or.inl rfl) (pe_make MT FT hr4 (by rfl) DT.mgC bT .nil pass0 (pa_cons (pv 1) (pa_cons pe_int (pa_cons (pe_tup pa_nil) pa_nil)))))
      (pss_cons (ps_set (i := 5) scPicOf.nd rfl (Or.inl rfl) (pe_make MP FP hr (by rfl) D.mgC bP .nil pass0 (pa_cons (pv 0) (pa_cons (pv 1) (pa_cons (pe_op (r := rRepA K) op_repA (pe_tup (pa_cons pe_int pa_nil)) (pe_fld (pv 0) rfl)) (pa_cons (pe_op (r := rRepA K) op_repA (pe_tup (pa_cons (pv 4) pa_nil)) (pe_callB call_len_seq (by rfl) T.len PySem.boot_len (pa_cons (pe_fld (pv 0) rfl) pa_nil))) pa_nil))))))
      (pss_cons (ps_fld (pv 5) (pv 2) rfl)
      (pss_cons (ps_fld (pv 5) (pv 3) rfl)
      (pss_one (ps_ret (pv 5)))))), ?_⟩
    refine ⟨_, rfl, Nat.zero_le _, fun e0 ne0 e dx0 ne ndx0 nd0 => ?_⟩
    have x0 := Ext.upd (o := .tup []) ne0
    have x1 := Ext.upd (o := .own e) ndx0
    have ne1 : (upd (upd H e0 (.tup [])) dx0 (.own e)) e = Option.none := by rw [upd_ne nd0.symm]; exact ne
    have x2 := Ext.upd (o := .ins CT dx0 []) ne1
    have x02 := x0.trans (x1.trans x2)
    have neH : H e = Option.none := none_of_ext x0 ne
    refine ⟨e, e0, dx0, pr, rfl, hpr, upd_same, .inl (x2 _ _ (x1 _ _ upd_same)), fun H1 he ke => ⟨rfl, ?_⟩⟩
    have e1 : Ext H H1 := fun c o h => ke c o (ne_of_none h neH) (x02 _ _ h)
    obtain ⟨dw, ab, hw, as, hab, la, ga⟩ := id (lw.ext e1)
    refine ⟨_, rfl, _, rfl, by show 1 ≤ sizeLine; decide, fun z0 nz0 => ?_⟩
    have x3 := Ext.upd (o := .tup [V.int 0]) nz0
    refine ⟨_, rfl, wb, CW, dw, _, _, rfl, x3 _ _ hw, DW.cl, DW.n1, wf_many .., z0, (n : Int), [V.int 0], rfl, rfl, upd_same, (fun z => nomatch z), by omega, by omega, by show 1 ≤ 1000; decide, fun s1 J1 y1 hs1 => ?_⟩
    rw [rep1] at hs1
    have x31 := x3.trans y1
    refine ⟨_, rfl, by show 1 ≤ sizeLine; decide, fun t0 nt0 => ?_⟩
    have x4 := Ext.upd (o := .tup [V.ref e]) nt0
    have x314 := x31.trans x4
    refine ⟨_, rfl, wb, CW, dw, _, _, rfl, x314 _ _ hw, DW.cl, DW.n2, wf_arrows .., ab, _, rfl, .inr (SqT.of (x314 _ _ hab)), t0, (((as.map V.ref).length : Nat) : Int), [V.ref e], rfl, rfl, upd_same, (fun z => nomatch z), by omega, by rw [List.length_map]; omega, by show 1 ≤ 1000; decide, fun t1 J2 y2 ht1 => ?_⟩
    rw [rep1] at ht1
    have xx := x314.trans y2
    intro p dx np ndx nd
    have z2 := Ext.upd (o := .own p) ndx
    have np1 : (upd J2 dx (.own p)) p = Option.none := by rw [upd_ne nd.symm]; exact np
    have z3 := Ext.upd (o := .ins CP dx []) np1
    have z23 := z2.trans z3
    have la' : (((as.map V.ref).length : Nat) : Int).toNat = n - 1 := by rw [List.length_map, la]; rfl
    rw [la'] at ht1
    have hs2 : J2 s1 = some (.tup (List.replicate n (V.int 0))) := y2 _ _ (x4 _ _ (by rw [show n = ((n : Int)).toNat from rfl]; exact hs1))
    refine ⟨p, dx, wb, s1, t1, e, e0, pr, n, rfl, upd_same, (lw.ext e1).ext (xx.trans z23), n1, n8, hpr, z23 _ _ hs2, z23 _ _ ht1, TabAt.ext (xx.trans z23) ⟨dx0, he⟩, fun H2 hp kp => ⟨rfl, ?_⟩⟩
    have e2 : Ext J2 H2 := fun c o h => kp c o (ne_of_none h np) (z23 _ _ h)
    have eH : Ext H H2 := e1.trans (xx.trans e2)
    have npH : H p = Option.none := none_of_ext (e1.trans xx) np
    refine ⟨_, rfl, _, rfl, p, CP, dx, _, rfl, hp, D.cl, D.n3, (by show 4 < 1000; decide), ?_⟩
    refine ⟨_, rfl, _, rfl, p, CP, dx, _, rfl, upd_same, D.cl, D.n4, (by show 4 < 1000; decide), ?_⟩
    refine ⟨_, rfl, k p _ (fun c o h => ?_) ⟨dx, upd_same⟩⟩
    have nn := ne_of_none h npH
    rw [upd_ne nn, upd_ne nn]
    exact eH _ _ h
end
end O42

set_option Elab.async false
set_option linter.all false
set_option maxRecDepth 100000
set_option maxHeartbeats 4000000
set_option pp.maxSteps 100
/-! Pictures of bars; pictures laid beside. -/
namespace O42
open PySem L2 M40
abbrev sLaid : Stmt := top 43
abbrev sBarPic : Stmt := top 45
/-- a picture of a line, its sizes, its tables -/
def PicX (CP CT : Addr) (H : Hp) (p wb : Addr) (pr : Int) (ss : List Nat) (ts : List (Nat × List (List Int))) : Prop := ∃ (sz tb : Addr) (as : List Addr), PicAt CP H p wb pr sz tb ∧ H sz = some (.tup (ss.map nv)) ∧ H tb = some (.tup (as.map V.ref)) ∧ Two (fun t wm => TabX CT H t pr wm.1 wm.2) as ts
theorem PicX.ext {CP CT : Addr} {H H' : Hp} {p wb : Addr} {pr : Int} {ss : List Nat} {ts : List (Nat × List (List Int))} (e : Ext H H') (x : PicX CP CT H p wb pr ss ts) : PicX CP CT H' p wb pr ss ts := let ⟨sz, tb, as, ⟨dx, h1⟩, h2, h3, h4⟩ := x; ⟨sz, tb, as, ⟨dx, e _ _ h1⟩, e _ _ h2, e _ _ h3, h4.imp fun _ _ z => z.ext e⟩
/-- the size of a bar from b to e at a place -/
def szB (b e t : Nat) : Nat := if b ≤ t ∧ t ≤ e then 1 else 0
theorem szB_le (b e t : Nat) : szB b e t ≤ 1 := by
  unfold szB
  split <;> decide
def barTab (a b : Nat) : List (List Int) := List.replicate b (List.replicate a 1)
def barSs (b e n : Nat) : List Nat := (List.range n).map (szB b e)
def barTs (b e n : Nat) : List (Nat × List (List Int)) := (List.range n).map fun i => (szB b e i, barTab (szB b e i) (szB b e (i + 1)))
theorem barTs_succ (b e n : Nat) : barTs b e (n + 1) = barTs b e n ++ [(szB b e n, barTab (szB b e n) (szB b e (n + 1)))] := by
  unfold barTs
  rw [List.range_succ, List.map_append]
  rfl
def spBarPic (CP CW CT : Addr) : Sp := fun vs H Q _ => ∃ (wb : Addr) (pr : Int) (b e n : Nat), vs = [.ref wb, .int pr, .int (b : Int), .int (e : Int)] ∧ LineW CW H wb n ∧ 1 ≤ n ∧ n ≤ 8 ∧ Pr pr ∧ ∀ (p : Addr) (H' : Hp), Ext H H' → PicX CP CT H' p wb pr (barSs b e n) (barTs b e (n - 1)) → Q (.ref p) H'
theorem two_rep {R : Addr → List Int → Prop} {r : Addr} {l : List Int} (h : R r l) : ∀ n : Nat, Two R (List.replicate n r) (List.replicate n l)
  | 0 => .nil
  | n + 1 => .cons h (two_rep h n)
theorem nat_at {ss : List Nat} {i v : Nat} (h : ss[i]? = some v) : atI (ss.map nv) (i : Int) = some (nv v) := at_of (j := i) (by omega) (by rw [List.getElem?_map, h]; rfl)
theorem barSs_at {b e n i : Nat} (h : i < n) : (barSs b e n)[i]? = some (szB b e i) := by
  unfold barSs
  rw [List.getElem?_map, List.getElem?_range h]
  rfl
section
variable {P : Program} {w : World} {K : PySem.W.Frag} {mg : Str → Option Value} {base : Heap}
abbrev barPicN : List Str := ["web", "prime", "begin", "end", "sizes", "tables", "start", "stop", "place"]
theorem scBarPic : FnScope barPicN ["web", "prime", "begin", "end"] (defScope sBarPic) := ⟨rfl, rfl, rfl, by decide +kernel, rfl, by decide +kernel, by decide +kernel⟩
theorem ok_barPic {f CP CW CT : Addr} {fd : FuncData} (F : L2.Fun K "bar_picture" "bar_picture" sBarPic f fd) (T : Gb mg) (DW : WebD K mg CW) (cT : Cal P w K mg base 5 "table_of" (spTabOf CT) []) (cP : Cal P w K mg base 6 "picture_of" (spPicOf CP CW) []) : FnOk P w K mg base CX0 7 f fd ["web", "prime", "begin", "end"] (spBarPic CP CW CT) := by
  refine F.ok scBarPic (fun vs H Q E h => ?_) (fun cdv A outer s H vs Q E hr h => ?_)
  · obtain ⟨wb, pr, b, e, n, rfl, _⟩ := h
    rfl
  · obtain ⟨wb, pr, b, e, n, rfl, lw, n1, n8, hpr, k⟩ := h
    obtain ⟨dw, ab, hw, as, hab, la, ga⟩ := id lw
    refine ⟨_, pss_cons (ps_set (i := 4) scBarPic.nd rfl (Or.inl rfl) (pe_callTy call_tuple_of (by rfl) T.tup (by decide +kernel) (pa_cons (pe_lc (own := [("place", 8)]) (g := gName 8) (tt := tYes) rfl scBarPic.nd (pi_range1 (by rfl) T.rng (pa_cons (pe_fld (pv 0) rfl) pa_nil)) (blkOk_by (N := barPicN) (sc := defScope sBarPic) (by decide +kernel)) (fun _ _ _ _ _ => (pg_name (i := 8) scBarPic.nd rfl (Or.inl rfl))) (fun _ _ _ _ _ => pts_nil) (fun _ _ _ _ _ => (pe_ifExp (pt_chain op_le op_le (pv 2) (pv 8) (pv 3)) pe_int pe_int))) pa_nil)))
      (pss_cons (ps_set (i := 5) scBarPic.nd rfl (Or.inl rfl) (pe_lst pa_nil))
      (pss_cons (ps_for PassesOwn.never rfl (pi_tup (pe_fld (pv 0) rfl)) (pg_tup rfl (pgs_cons (pg_name (i := 6) scBarPic.nd rfl (Or.inl rfl)) (pgs_cons (pg_name (i := 7) scBarPic.nd rfl (Or.inl rfl)) pgs_nil)))
      (pss_one (ps_expr (pe_bm PySem.F.plainAttrs_list PySem.F.slot_list_append PySem.F.type_list_append mt_append (pv 5) (pa_cons (C8.pe_c cT hr (by decide) (by rfl) (pa_cons (pv 1) (pa_cons (pe_ix ix_tup (pv 4) (pv 6) (fun _ _ => rfl)) (pa_cons (pe_op (r := rRepA K) op_repA (pe_tup (pa_cons (pe_op (r := rRepA K) op_repA (pe_tup (pa_cons pe_int pa_nil)) (pe_ix ix_tup (pv 4) (pv 6) (fun _ _ => rfl))) pa_nil)) (pe_ix ix_tup (pv 4) (pv 7) (fun _ _ => rfl))) pa_nil)))) pa_nil)))))
      (pss_one (ps_ret (C8.pe_c cP hr (by decide) (by rfl) (pa_cons (pv 0) (pa_cons (pv 1) (pa_cons (pv 4) (pa_cons (pe_callTy call_tuple_of (by rfl) T.tup (by decide +kernel) (pa_cons (pv 5) pa_nil)) pa_nil))))))))), ?_⟩
    refine ⟨_, rfl, wb, CW, dw, _, _, rfl, hw, DW.cl, DW.n1, wf_many .., (n : Int), rfl, by omega, by omega, fun D nD => ?_⟩
    refine lc_gen (n := (n : Int).toNat) (p := fun _ => true) (walk_range (lo := 0)) nD (by omega) (fun t y _ => y = nv (szB b e t)) (fun _ _ _ _ _ z => z) (fun H' e => True.intro) ?_ ?_
    · rintro t y J J' R N ht e7 ⟨rfl, rfl⟩ hR hN
      refine ⟨rfl, tyes_in ?_⟩
      have one : b ≤ t ∧ t ≤ e → R (.int 1) J' := fun h => hR rfl _ _ Ext.rfl' (by unfold szB; rw [if_pos h]; rfl)
      have zero : ¬ (b ≤ t ∧ t ≤ e) → R (.int 0) J' := fun h => hR rfl _ _ Ext.rfl' (by unfold szB; rw [if_neg h]; rfl)
      refine ⟨_, rfl, _, rfl, _, _, rfl, rfl, _, rfl, ?_⟩
      exact ite2 (fun z1 => ⟨_, rfl, _, _, rfl, rfl, _, rfl, ite2 (fun z2 => one (by have := of_decide_eq_true z1; have := of_decide_eq_true z2; omega)) (fun z2 => zero fun h => z2 (decide_eq_true (by omega)))⟩) (fun z1 => ⟨_, rfl, iteF (zero fun h => z1 (decide_eq_true (by omega)))⟩)
    intro ys H1 e1 hD pp
    have ey := vals_of (f := fun t => nv (szB b e t)) pp
    rw [List.filter_eq_self.mpr fun _ _ => rfl, Int.toNat_natCast] at ey
    have ey : ys = (barSs b e n).map nv := by
      rw [ey]
      unfold barSs
      rw [List.map_map]
      rfl
    subst ey
    have sz_ : ∀ {i : Nat}, i < n → atI ((barSs b e n).map nv) (i : Int) = some (nv (szB b e i)) := fun h => nat_at (barSs_at h)
    generalize barSs b e n = ss at *
    refine ⟨D, _, rfl, .inl ⟨SqL.of hD, fun sz nsz => ?_⟩⟩
    have xs := Ext.upd (o := .tup (ss.map nv)) nsz
    refine ⟨Nat.zero_le _, fun l nl => ?_⟩
    have xl := Ext.upd (o := .lst []) nl
    have x0 := e1.trans (xs.trans xl)
    have hsz : (upd (upd H1 sz (.tup (ss.map nv))) l (.lst [])) sz = some (.tup (ss.map nv)) := xl _ _ upd_same
    have hl : (upd (upd H1 sz (.tup (ss.map nv))) l (.lst [])) l = some (.lst []) := upd_same
    have nlH : H l = Option.none := none_of_ext (e1.trans xs) nl
    generalize upd (upd H1 sz (.tup (ss.map nv))) l (.lst []) = H2 at *
    refine ⟨_, rfl, wb, CW, dw, _, _, rfl, x0 _ _ hw, DW.cl, DW.n2, wf_arrows .., ab, rfl, ⟨_, SqT.of (x0 _ _ hab)⟩, ?_⟩
    refine for_it walk_tup (fun i σ' J => ∃ (v6 v7 : Option V) (ts : List Addr), σ' = [some (.ref wb), some (.int pr), some (.int b), some (.int e), some (.ref sz), some (.ref l), v6, v7, Option.none] ∧ GoD l H2 J ∧ J l = some (.lst (ts.map V.ref)) ∧ Two (fun t wm => TabX CT J t pr wm.1 wm.2) ts (barTs b e i))
      ⟨_, _, [], rfl, (fun _ _ _ h => h), hl, .nil⟩ (fun i σ' J _ ⟨_, _, _, _, g, _⟩ => SqT.of (g _ _ (fun z => by rw [z, nlH] at hab; cases hab) (x0 _ _ hab))) ?_ ?_
    · rintro i z σ' J J' hi ⟨v6, v7, ts, rfl, g, hlJ, gt⟩ ⟨rfl, hy⟩
      rw [List.length_map, la] at hi
      obtain ⟨a, ha, rfl⟩ := ref_get hy
      have keepT : ∀ {q : Addr} {xs : List V}, H2 q = some (.tup xs) → J' q = some (.tup xs) := fun {q xs} h => g _ _ (fun z => by rw [z, hl] at h; cases h) h
      have haJ := keepT (x0 _ _ (ga i a ha))
      have hszJ := keepT hsz
      have hu1 := sz_ (i := i) (by omega)
      have hu2 := sz_ (i := i + 1) (by omega)
      have g1 := szB_le b e i
      have g2 := szB_le b e (i + 1)
      have lt : ts.length = i := by
        rw [gt.len]
        unfold barTs
        rw [List.length_map, List.length_range]
      generalize eu1 : szB b e i = u1 at *
      generalize eu2 : szB b e (i + 1) = u2 at *
      refine ⟨a, _, rfl, SqT.of haJ, rfl, _, _, rfl, _, _, rfl, rfl, ?_⟩
      refine ⟨_, rfl, .inl ⟨rfl, _, SqL.of hlJ⟩, _, rfl, _, rfl, _, rfl, sz, _, (i : Int), nv u1, rfl, rfl, SqT.of hszJ, hu1, by show 1 ≤ sizeLine; decide, fun o1 no1 => ?_⟩
      have y1 := Ext.upd (o := .tup [V.int 1]) no1
      refine ⟨_, rfl, _, rfl, sz, _, (i : Int), nv u1, rfl, rfl, SqT.of (y1 _ _ hszJ), hu1, o1, (u1 : Int), [V.int 1], rfl, rfl, upd_same, (fun z => nomatch z), by omega, by omega, by show 1 ≤ 1000; decide, fun r1 J1 y2 hr1 => ?_⟩
      rw [rep1] at hr1
      refine ⟨by show 1 ≤ sizeLine; decide, fun o2 no2 => ?_⟩
      have y3 := Ext.upd (o := .tup [V.ref r1]) no2
      have y13 := y1.trans (y2.trans y3)
      refine ⟨_, rfl, _, rfl, sz, _, (i : Int) + 1, nv u2, rfl, rfl, SqT.of (y13 _ _ hszJ), (by rw [show (i : Int) + 1 = ((i + 1 : Nat) : Int) by omega]; exact hu2), o2, (u2 : Int), [V.ref r1], rfl, rfl, upd_same, (fun z => nomatch z), by omega, by omega, by show 1 ≤ 1000; decide, fun r2 J2 y4 hr2 => ?_⟩
      rw [rep1] at hr2
      have y14 := y13.trans y4
      refine ⟨r2, pr, (u1 : Int), _, rfl, hpr, .inl hr2, fun tb J3 y5 htb => ?_⟩
      have yy := y14.trans y5
      have hlJ3 := yy _ _ hlJ
      refine ⟨l, _, _, rfl, rfl, hlJ3, small1000 (by rw [List.length_map]; omega), ?_⟩
      have put : GoD l J3 (upd J3 l (.lst (ts.map V.ref ++ [.ref tb]))) := GoD.put
      have keep3 : ∀ {t : Addr} {wd : Nat} {m : List (List Int)}, TabX CT J3 t pr wd m → TabX CT (upd J3 l (.lst (ts.map V.ref ++ [.ref tb]))) t pr wd m := fun {t wd m} ⟨b', rs, ⟨dx, q1⟩, q2, q3⟩ =>
        ⟨b', rs, ⟨dx, put _ _ (fun z => by rw [z, hlJ3] at q1; cases q1) q1⟩, put _ _ (fun z => by rw [z, hlJ3] at q2; cases q2) q2, q3.imp fun r xs q6 => put _ _ (fun z => by rw [z, hlJ3] at q6; cases q6) q6⟩
      refine ⟨_, _, ts ++ [tb], rfl, (g.trans (GoD.of yy)).trans put, by rw [upd_same, List.map_append]; rfl, ?_⟩
      rw [barTs_succ, eu1, eu2]
      refine (gt.imp fun _ _ z => keep3 (z.ext yy)).snoc (keep3 ⟨r2, List.replicate u2 r1, ?_, ?_, ?_⟩)
      · rw [List.length_replicate, Int.toNat_natCast] at htb
        show TabAt CT J3 tb pr (u1 : Int) r2 ((barTab u1 u2).length : Int)
        unfold barTab
        rw [List.length_replicate]
        exact htb
      · rw [List.map_replicate]
        have := y5 _ _ hr2
        rw [Int.toNat_natCast] at this
        exact this
      · have h1 : J3 r1 = some (.tup ((List.replicate u1 (1 : Int)).map V.int)) := by
          have := y5 _ _ (y4 _ _ (y3 _ _ hr1))
          rw [Int.toNat_natCast] at this
          rw [this, List.map_replicate]
        show Two _ (List.replicate u2 r1) (barTab u1 u2)
        unfold barTab
        exact two_rep h1 u2
    · rintro σ' J ⟨v6, v7, ts, rfl, g, hlJ, gt⟩
      rw [List.length_map, la] at gt
      have eJ : Ext H J := fun c o h => g _ _ (fun z => by rw [z, nlH] at h; cases h) (x0 _ _ h)
      have hszJ : J sz = some (.tup (ss.map nv)) := g _ _ (fun z => by rw [z, hl] at hsz; cases hsz) hsz
      refine ⟨_, rfl, _, rfl, _, rfl, _, rfl, l, _, rfl, .inl ⟨SqL.of hlJ, fun tb ntb => ?_⟩⟩
      have xt := Ext.upd (o := .tup (ts.map V.ref)) ntb
      refine ⟨wb, sz, tb, pr, n, rfl, lw.ext (eJ.trans xt), n1, n8, hpr, fun p H' e' hp => ?_⟩
      have xe := xt.trans e'
      exact k p H' (eJ.trans xe) ⟨sz, tb, ts, hp, xe _ _ hszJ, e' _ _ upd_same, gt.imp fun _ _ z => z.ext xe⟩
end
end O42

set_option Elab.async false
set_option linter.all false
set_option maxRecDepth 100000
set_option maxHeartbeats 4000000
set_option pp.maxSteps 100
/-! Pictures laid beside. -/
namespace O42
open PySem L2 M40
/-- bars laid beside: sizes, tables -/
def laidSs (bes : List (Nat × Nat)) (n : Nat) : List Nat := (List.range n).map fun i => (bes.map fun x => szB x.1 x.2 i).sum
def laidStep (i : Nat) (acc : Nat × List (List Int)) (x : Nat × Nat) : Nat × List (List Int) := (acc.1 + szB x.1 x.2 i, cornM acc.1 acc.2 (szB x.1 x.2 i) (barTab (szB x.1 x.2 i) (szB x.1 x.2 (i + 1))))
def laidT (bes : List (Nat × Nat)) (i : Nat) : Nat × List (List Int) := bes.foldl (laidStep i) (0, [])
def laidTs (bes : List (Nat × Nat)) (n : Nat) : List (Nat × List (List Int)) := (List.range n).map (laidT bes)
theorem laidT_snoc (bes : List (Nat × Nat)) (i : Nat) (x : Nat × Nat) : laidT (bes ++ [x]) i = laidStep i (laidT bes i) x := by
  unfold laidT
  rw [List.foldl_append]
  rfl
theorem laidTs_succ (bes : List (Nat × Nat)) (n : Nat) : laidTs bes (n + 1) = laidTs bes n ++ [laidT bes n] := by
  unfold laidTs
  rw [List.range_succ, List.map_append]
  rfl
theorem snoc_ind {α : Type} {C : List α → Prop} (nil : C []) (snoc : ∀ l a, C l → C (l ++ [a])) : ∀ l, C l := fun l => by
  have : ∀ r : List α, C r.reverse := fun r => by
    induction r with
    | nil => exact nil
    | cons a r ih =>
      rw [List.reverse_cons]
      exact snoc _ _ ih
  have h := this l.reverse
  rwa [List.reverse_reverse] at h
theorem laid_bd (i : Nat) : ∀ bes : List (Nat × Nat), (laidT bes i).1 ≤ bes.length ∧ (laidT bes i).2.length ≤ bes.length ∧ ∀ l ∈ (laidT bes i).2, l.length = (laidT bes i).1 := snoc_ind ⟨Nat.le_refl _, Nat.le_refl _, fun l h => nomatch h⟩ fun bes x ⟨h1, h2, h3⟩ => by
  rw [laidT_snoc, List.length_append]
  have s1 := szB_le x.1 x.2 i
  have s2 := szB_le x.1 x.2 (i + 1)
  unfold laidStep cornM barTab
  refine ⟨by show _ + _ ≤ bes.length + 1; omega, ?_, fun l hl => ?_⟩
  · show List.length (_ ++ _) ≤ bes.length + 1
    rw [List.length_append, List.length_map, List.length_map, List.length_replicate]
    omega
  · rcases List.mem_append.mp hl with h | h
    · obtain ⟨m, hm, rfl⟩ := List.mem_map.mp h
      rw [List.length_append, List.length_replicate, h3 m hm]
    · obtain ⟨m, hm, rfl⟩ := List.mem_map.mp h
      rw [List.eq_of_mem_replicate hm, List.length_append, List.length_replicate, List.length_replicate]
def spLaid (CP CW CT : Addr) : Sp := fun vs H Q _ => ∃ (wb ps : Addr) (pr : Int) (n : Nat) (as : List Addr) (bes : List (Nat × Nat)), vs = [.ref wb, .int pr, .ref ps] ∧ LineW CW H wb n ∧ 1 ≤ n ∧ n ≤ 8 ∧ Pr pr ∧ H ps = some (.lst (as.map V.ref)) ∧ bes.length ≤ 40 ∧ Two (fun a x => ∃ wb', PicX CP CT H a wb' pr (barSs x.1 x.2 n) (barTs x.1 x.2 (n - 1))) as bes ∧ ∀ (p : Addr) (H' : Hp), Ext H H' → PicX CP CT H' p wb pr (laidSs bes n) (laidTs bes (n - 1)) → Q (.ref p) H'
theorem barTs_at {b e n i : Nat} (h : i < n) : (barTs b e n)[i]? = some (szB b e i, barTab (szB b e i) (szB b e (i + 1))) := by
  unfold barTs
  rw [List.getElem?_map, List.getElem?_range h]
  rfl
theorem vals_nat {f : Nat → Nat} : ∀ l : List Nat, (l.map fun i => nv (f i)) = (l.map fun i => ((f i : Nat) : Int)).map V.int := fun l => by
  rw [List.map_map]
  rfl
theorem nat_sum {α : Type} (f : α → Nat) : ∀ l : List α, ((l.map fun a => ((f a : Nat) : Int)).sum) = (((l.map f).sum : Nat) : Int)
  | [] => rfl
  | a :: l => by
    simp only [List.map_cons, List.sum_cons]
    rw [nat_sum f l]
    omega
section
variable {P : Program} {w : World} {K : PySem.W.Frag} {mg : Str → Option Value} {base : Heap}
abbrev laidN : List Str := ["web", "prime", "pictures", "picture", "sizes", "tables", "at", "whole", "place"]
theorem scLaid : FnScope laidN ["web", "prime", "pictures"] (defScope sLaid) := ⟨rfl, rfl, rfl, by decide +kernel, rfl, by decide +kernel, by decide +kernel⟩
theorem ok_laid {f fT CP CW CT : Addr} {fd fdT : FuncData} (F : L2.Fun K "laid_beside" "laid_beside" sLaid f fd) (T : Gb mg) (zS : mg "sum" = none) (D : PicD K mg CP) (DW : WebD K mg CW) (DT : TabD K mg CT) (MT : Mk K CT fT) (FT : FnOk P w K mg base CX0 3 fT fdT ["self", "prime", "wide", "rows"] (spTab CT)) (bT : Binds K fdT ["self", "prime", "wide", "rows"] [])
    (cC : Cal P w K mg base 6 "corner" (spCorner CT) []) (cP : Cal P w K mg base 6 "picture_of" (spPicOf CP CW) []) : FnOk P w K mg base CX0 7 f fd ["web", "prime", "pictures"] (spLaid CP CW CT) := by
  refine F.ok scLaid (fun vs H Q E h => ?_) (fun cdv A outer s H vs Q E hr h => ?_)
  · obtain ⟨wb, ps, pr, n, as, bes, rfl, _⟩ := h
    rfl
  · obtain ⟨wb, ps, pr, n, as, bes, rfl, lw, n1, n8, hpr, hps, l40', gp, k⟩ := h
    have las : as.length = bes.length := gp.len
    have l40 : as.length ≤ 40 := by omega
    obtain ⟨dw, ab, hw, arr, hab, la, ga⟩ := id lw
    have hr4 : Room 4 _ := hr.mono (by decide)
    refine ⟨_, pss_cons (ps_setLc (i := 4) (own := [("place", 8)]) (g := gName 8) (tt := tYes) rfl scLaid.nd rfl rfl (sw_true rfl rfl rfl (by decide +kernel)) (pi_range1 (by rfl) T.rng (pa_cons (pe_fld (pv 0) rfl) pa_nil)) (blkOk_by (N := laidN) (sc := defScope sLaid) (by decide +kernel)) (fun _ _ _ _ _ => (pg_name (i := 8) scLaid.nd rfl (Or.inr rfl))) (fun _ _ _ _ _ => pts_nil) (fun _ _ _ _ _ => (pe_callB (r := rSum K) (cr_sum rfl) (by rfl) zS (by decide +kernel) (pa_cons (pe_lc (own := [("picture", 3)]) (g := gName 3) (tt := tYes) (wi := iList K (tVar 2)) rfl scLaid.nd (pi_list (pv 2)) (blkOk_by (by first | kernel_rfl | rfl)) (fun _ _ _ _ _ => (pg_name (i := 3) scLaid.nd rfl (Or.inl rfl))) (fun _ _ _ _ _ => pts_nil) (fun _ _ _ _ _ => (pe_ix (r := rIxT K) ix_tup (pe_fldK (K := K) rfl (pv 3) rfl) (pv 8) (fun _ _ => rfl)))) pa_nil))))
      (pss_cons (ps_set (i := 5) scLaid.nd rfl (Or.inl rfl) (pe_lst pa_nil))
      (pss_cons (ps_for PassesOwn.never rfl (pi_range1 (by rfl) T.rng (pa_cons (pe_callB call_len_seq (by rfl) T.len PySem.boot_len (pa_cons (pe_fld (pv 0) rfl) pa_nil)) pa_nil)) (pg_name (i := 6) scLaid.nd rfl (Or.inl rfl))
      (pss_cons (ps_set (i := 7) scLaid.nd rfl (Or.inl rfl) (pe_make MT FT hr4 (by rfl) DT.mgC bT .nil pass0 (pa_cons (pv 1) (pa_cons pe_int (pa_cons (pe_tup pa_nil) pa_nil)))))
      (pss_cons (ps_for PassesOwn.never rfl (pi_list (pv 2)) (pg_name (i := 3) scLaid.nd rfl (Or.inl rfl))
      (pss_one (ps_set (i := 7) scLaid.nd rfl (Or.inl rfl) (C8.pe_c cC hr (by decide) (by rfl) (pa_cons (pv 7) (pa_cons (pe_ix ix_tup (pe_fld (pv 3) rfl) (pv 6) (fun _ _ => rfl)) pa_nil))))))
      (pss_one (ps_expr (pe_bm PySem.F.plainAttrs_list PySem.F.slot_list_append PySem.F.type_list_append mt_append (pv 5) (pa_cons (pv 7) pa_nil)))))))
      (pss_one (ps_ret (C8.pe_c cP hr (by decide) (by rfl) (pa_cons (pv 0) (pa_cons (pv 1) (pa_cons (pe_callTy call_tuple_of (by rfl) T.tup (by decide +kernel) (pa_cons (pv 4) pa_nil)) (pa_cons (pe_callTy call_tuple_of (by rfl) T.tup (by decide +kernel) (pa_cons (pv 5) pa_nil)) pa_nil))))))))), ?_⟩
    -- the sizes
    refine ⟨_, rfl, wb, CW, dw, _, _, rfl, hw, DW.cl, DW.n1, wf_many .., (n : Int), rfl, by omega, by omega, fun D1 nD1 => ?_⟩
    refine lc_gen (n := (n : Int).toNat) (p := fun _ => true) (walk_range (lo := 0)) nD1 (by omega) (fun t y _ => y = nv ((bes.map fun x => szB x.1 x.2 t).sum)) (fun _ _ _ _ _ z => z) (fun H' e => True.intro) ?_ ?_
    · rintro t y J J' R N ht e7 ⟨rfl, rfl⟩ hR hN
      refine ⟨rfl, tyes_in ⟨_, rfl, ps, rfl, ⟨_, SqL.of (e7 _ _ hps)⟩, fun D2 nD2 => ?_⟩⟩
      refine lc_gen (n := (as.map V.ref).length) (p := fun _ => true) walk_list nD2 (by rw [List.length_map]; omega) (fun j y _ => y = nv (szB (bes.getD j (0, 0)).1 (bes.getD j (0, 0)).2 t)) (fun _ _ _ _ _ z => z) (fun H' e => SqL.of (e _ _ (e7 _ _ hps))) ?_ ?_
      · rintro t2 y2 J2 J2' R2 N2 ht2 e8 ⟨rfl, hy2⟩ hR2 hN2
        obtain ⟨a, ha, rfl⟩ := ref_get hy2
        obtain ⟨be, hbe, wb', px⟩ := gp.get ha
        obtain ⟨sz, tb, ts, ⟨dx, q1⟩, q2, q4, q5⟩ := (px.ext e7).ext e8
        have hv := nat_at (barSs_at (b := be.1) (e := be.2) (n := n) (i := t) (by omega))
        refine ⟨rfl, tyes_in ⟨_, rfl, a, CP, dx, _, _, rfl, q1, D.cl, D.n3, pf_sizes .., _, rfl, sz, _, (0 : Int) + (t : Int), nv (szB be.1 be.2 t), rfl, rfl, SqT.of q2, (by rw [show (0 : Int) + (t : Int) = (t : Int) by omega]; exact hv), ?_⟩⟩
        exact hR2 rfl _ _ Ext.rfl' (by rw [List.getD_eq_getElem?_getD, hbe]; rfl)
      intro ys2 J3 e9 hD2 pp2
      have ey2 := vals_of (f := fun j => nv (szB (bes.getD j (0, 0)).1 (bes.getD j (0, 0)).2 t)) pp2
      rw [List.filter_eq_self.mpr fun _ _ => rfl, List.length_map, las] at ey2
      have ey2 : ys2 = (bes.map fun x => ((szB x.1 x.2 t : Nat) : Int)).map V.int := by
        rw [ey2, List.map_map]
        refine List.ext_getElem? fun j => ?_
        rw [List.getElem?_map, List.getElem?_map]
        by_cases hj : j < bes.length
        · rw [List.getElem?_range hj, List.getElem?_eq_getElem hj]
          show some (nv _) = some (V.int _)
          rw [List.getD_eq_getElem?_getD, List.getElem?_eq_getElem hj]
          rfl
        · rw [List.getElem?_eq_none (by rw [List.length_range]; omega), List.getElem?_eq_none (by omega)]
          rfl
      subst ey2
      refine ⟨D2, _, rfl, SqL.of hD2, ?_⟩
      rw [nat_sum (fun x : Nat × Nat => szB x.1 x.2 t)]
      exact hR rfl _ _ e9 rfl
    intro ys H1 e1 hD1 pp
    have ey := vals_of (f := fun t => nv ((bes.map fun x => szB x.1 x.2 t).sum)) pp
    rw [List.filter_eq_self.mpr fun _ _ => rfl, Int.toNat_natCast] at ey
    have ey : ys = (laidSs bes n).map nv := by
      rw [ey]
      unfold laidSs
      rw [List.map_map]
      rfl
    subst ey
    refine ⟨Nat.zero_le _, fun l nl => ?_⟩
    have xl := Ext.upd (o := .lst []) nl
    have x0 := e1.trans xl
    have hD := xl _ _ hD1
    have hl : (upd H1 l (.lst [])) l = some (.lst []) := upd_same
    have nlH : H l = Option.none := none_of_ext e1 nl
    have nDl : D1 ≠ l := ne_of_none hD1 nl
    generalize upd H1 l (.lst []) = H2 at *
    have npl : ps ≠ l := fun z => by rw [z, nlH] at hps; cases hps
    have eX : ∀ {J : Hp}, GoD l H2 J → Ext H J := fun {J} g c o h => g _ _ (fun z => by rw [z, nlH] at h; cases h) (x0 _ _ h)
    refine ⟨_, rfl, wb, CW, dw, _, _, rfl, x0 _ _ hw, DW.cl, DW.n2, wf_arrows .., ab, _, rfl, .inr (SqT.of (x0 _ _ hab)), ((arr.map V.ref).length : Int), rfl, by rw [List.length_map]; omega, by rw [List.length_map]; omega, ?_⟩
    refine for_range (lo := 0) (n := ((arr.map V.ref).length : Int).toNat) (fun i σ' J => ∃ (v3 v6 v7 : Option V) (ts : List Addr), σ' = [some (.ref wb), some (.int pr), some (.ref ps), v3, some (.ref D1), some (.ref l), v6, v7, Option.none] ∧ GoD l H2 J ∧ J l = some (.lst (ts.map V.ref)) ∧ Two (fun t wm => TabX CT J t pr wm.1 wm.2) ts (laidTs bes i)) ⟨_, _, _, [], rfl, (fun _ _ _ h => h), hl, .nil⟩ ?_ ?_
    · rintro i σ' J hi ⟨v3, v6, v7, ts, rfl, g, hlJ, gt⟩
      rw [List.length_map, la] at hi
      have lt : ts.length = i := by
        rw [gt.len]
        unfold laidTs
        rw [List.length_map, List.length_range]
      refine ⟨_, rfl, Nat.zero_le _, fun e0 ne0 e dx0 ne ndx0 nd0 => ?_⟩
      have y0 := Ext.upd (o := .tup []) ne0
      have y1 := Ext.upd (o := .own e) ndx0
      have ne1 : (upd (upd J e0 (.tup [])) dx0 (.own e)) e = Option.none := by rw [upd_ne nd0.symm]; exact ne
      have y2 := Ext.upd (o := .ins CT dx0 []) ne1
      have y02 := y0.trans (y1.trans y2)
      have neJ : J e = Option.none := none_of_ext y0 ne
      have he0 := y2 _ _ (y1 _ _ (show (upd J e0 (.tup [])) e0 = some (.tup []) from upd_same))
      refine ⟨e, e0, dx0, pr, rfl, hpr, upd_same, .inl he0, fun J1 he ke => ⟨rfl, ?_⟩⟩
      have z1 : Ext J J1 := fun c o h => ke c o (ne_of_none h neJ) (y02 _ _ h)
      have e0e : e0 ≠ e := ne_of_none (show (upd J e0 (.tup [])) e0 = some (.tup []) from upd_same) ne
      have t0 : TabX CT J1 e pr 0 [] := ⟨e0, [], ⟨dx0, he⟩, ke _ _ e0e he0, .nil⟩
      have hlJ1 := z1 _ _ hlJ
      have gJ1 := g.trans (GoD.of z1)
      refine ⟨_, rfl, ps, rfl, ⟨_, SqL.of (eX gJ1 _ _ hps)⟩, ?_⟩
      refine for_it walk_list (fun m σ' J2 => ∃ (v3 : Option V) (wh : Addr), σ' = [some (.ref wb), some (.int pr), some (.ref ps), v3, some (.ref D1), some (.ref l), some (.int (0 + (i : Int))), some (.ref wh), Option.none] ∧ Ext J1 J2 ∧ TabX CT J2 wh pr (laidT (bes.take m) i).1 (laidT (bes.take m) i).2) ⟨_, e, rfl, Ext.rfl', t0⟩ (fun m σ' J2 _ ⟨_, _, _, x, _⟩ => SqL.of (x _ _ (eX gJ1 _ _ hps))) ?_ ?_
      · rintro m z σ' J2 J2' hm ⟨v3', wh, rfl, x, tw⟩ ⟨rfl, hy⟩
        rw [List.length_map] at hm
        obtain ⟨a, ha, rfl⟩ := ref_get hy
        obtain ⟨be, hbe, wb', px⟩ := gp.get ha
        obtain ⟨sz, tb, ts', ⟨dx, q1⟩, q2, q4, q5⟩ := (px.ext (eX gJ1)).ext x
        obtain ⟨t, hat, tt⟩ := q5.got (barTs_at (b := be.1) (e := be.2) (n := n - 1) (i := i) (by omega))
        have hat : atI (ts'.map V.ref) (i : Int) = some (.ref t) := at_of (j := i) (by omega) (by rw [List.getElem?_map, hat]; rfl)
        obtain ⟨bd1, bd2, bd3⟩ := laid_bd i (bes.take m)
        rw [List.length_take] at bd1 bd2
        have s1 := szB_le be.1 be.2 i
        have s2 := szB_le be.1 be.2 (i + 1)
        refine ⟨_, rfl, _, rfl, a, CP, dx, _, _, rfl, q1, D.cl, D.n4, pf_tables .., _, rfl, tb, _, 0 + (i : Int), .ref t, rfl, rfl, SqT.of q4, (by rw [show (0 : Int) + (i : Int) = (i : Int) by omega]; exact hat), ?_⟩
        refine ⟨wh, t, pr, _, _, _, _, rfl, hpr, tw, tt, by omega, by omega, by unfold barTab; rw [List.length_replicate]; omega, fun l hl => by rw [bd3 l hl]; omega, fun l hl => by unfold barTab at hl; rw [List.eq_of_mem_replicate hl, List.length_replicate]; omega, fun r J3 x3 tr => ?_⟩
        refine ⟨_, r, rfl, x.trans x3, ?_⟩
        rw [List.take_succ, hbe]
        show TabX CT J3 r pr (laidT (bes.take m ++ [be]) i).1 (laidT (bes.take m ++ [be]) i).2
        rw [laidT_snoc]
        exact tr
      · rintro σ' J2 ⟨v3', wh, rfl, x, tw⟩
        rw [List.length_map, las, List.take_of_length_le (Nat.le_refl _)] at tw
        have hlJ2 := x _ _ hlJ1
        refine ⟨_, rfl, .inl ⟨rfl, _, SqL.of hlJ2⟩, _, rfl, l, _, _, rfl, rfl, hlJ2, small1000 (by rw [List.length_map]; omega), ?_⟩
        have keep3 : ∀ {t : Addr} {wd : Nat} {m : List (List Int)}, TabX CT J2 t pr wd m → TabX CT (upd J2 l (.lst (ts.map V.ref ++ [.ref wh]))) t pr wd m := fun {t wd m} ⟨b', rs, ⟨dx, q1⟩, q2, q3⟩ =>
          ⟨b', rs, ⟨dx, by rw [upd_ne (fun z => by rw [z, hlJ2] at q1; cases q1)]; exact q1⟩, by rw [upd_ne (fun z => by rw [z, hlJ2] at q2; cases q2)]; exact q2, q3.imp fun r xs q6 => by rw [upd_ne (fun z => by rw [z, hlJ2] at q6; cases q6)]; exact q6⟩
        refine ⟨_, _, _, ts ++ [wh], rfl, (gJ1.trans (GoD.of x)).trans GoD.put, by rw [upd_same, List.map_append]; rfl, ?_⟩
        rw [laidTs_succ]
        exact (gt.imp fun _ _ z => keep3 ((z.ext z1).ext x)).snoc (keep3 tw)
    · rintro σ' J ⟨v3, v6, v7, ts, rfl, g, hlJ, gt⟩
      rw [List.length_map, la, Int.toNat_natCast] at gt
      have hDJ : J D1 = some (.lst ((laidSs bes n).map nv)) := g _ _ nDl hD
      refine ⟨_, rfl, _, rfl, _, rfl, D1, _, rfl, .inl ⟨SqL.of hDJ, fun s1 ns1 => ?_⟩⟩
      have z1 := Ext.upd (o := .tup ((laidSs bes n).map nv)) ns1
      refine ⟨_, rfl, l, _, rfl, .inl ⟨SqL.of (z1 _ _ hlJ), fun t1 nt1 => ?_⟩⟩
      have z2 := Ext.upd (o := .tup (ts.map V.ref)) nt1
      have zz := (eX g).trans (z1.trans z2)
      exact ⟨wb, s1, t1, pr, n, rfl, lw.ext zz, n1, n8, hpr, fun p H' e' hp => k p H' (zz.trans e') ⟨s1, t1, ts, hp, e' _ _ (z2 _ _ upd_same), e' _ _ upd_same, gt.imp fun _ _ z => z.ext (z1.trans (z2.trans e'))⟩⟩
end
end O42

set_option Elab.async false
set_option linter.all false
set_option maxRecDepth 100000
set_option maxHeartbeats 4000000
set_option pp.maxSteps 100
/-! A bar over its stops, exactly. -/
namespace O42
open PySem L2 M40
abbrev sOver : Stmt := top 57
def lastB (n : Nat) : Option Nat → Bool
  | none => true
  | some j => decide (n ≤ j)
/-- a bar is there at a moment -/
def aliveB (x : Nat × Option Nat) (m : Nat) : Bool := decide (x.1 < m) && lastB m x.2
theorem aliveB_iff {x : Nat × Option Nat} {m : Nat} : aliveB x m = true ↔ x.1 < m ∧ lastB m x.2 = true := by
  unfold aliveB
  rw [Bool.and_eq_true, decide_eq_true_iff]
theorem lastB_le {g : Option Nat} {m n : Nat} (h : m ≤ n) (a : lastB n g = true) : lastB m g = true := by
  cases g with
  | none => rfl
  | some j => exact decide_eq_true (Nat.le_trans h (of_decide_eq_true a))
/-- what is told of a bar over the stops -/
def OverX (ms : List Nat) (x : Nat × Option Nat) (bes : List (Nat × Nat)) : Prop := (bes = [] ∧ ∀ t m : Nat, ms[t]? = some m → aliveB x m = false) ∨ ∃ b e, bes = [(b, e)] ∧ ∀ t m : Nat, ms[t]? = some m → (aliveB x m = true ↔ b ≤ t ∧ t ≤ e)
theorem up_le {ms : List Nat} (up : ms.Pairwise (· < ·)) {i j a b : Nat} (ha : ms[i]? = some a) (hb : ms[j]? = some b) (h : i ≤ j) : a ≤ b := by
  obtain ⟨h1, rfl⟩ := List.getElem?_eq_some_iff.mp ha
  obtain ⟨h2, rfl⟩ := List.getElem?_eq_some_iff.mp hb
  rcases Nat.lt_or_eq_of_le h with h | rfl
  · exact Nat.le_of_lt (List.pairwise_iff_getElem.mp up i j h1 h2 h)
  · exact Nat.le_refl _
theorem over_bounds {ms : List Nat} (up : ms.Pairwise (· < ·)) {x : Nat × Option Nat} {ths : List Nat} (h : ths = (List.range ms.length).filter fun i => aliveB x (ms.getD i 0)) {b e : Nat} (hb : ths[0]? = some b) (he : ths[ths.length - 1]? = some e) : ∀ t m : Nat, ms[t]? = some m → (aliveB x m = true ↔ b ≤ t ∧ t ≤ e) := by
  intro t m hm
  have srt : ths.Pairwise (· < ·) := by rw [h]; exact List.Pairwise.filter _ List.pairwise_lt_range
  have mem : ∀ i, i ∈ ths ↔ i < ms.length ∧ aliveB x (ms.getD i 0) = true := fun i => by rw [h, List.mem_filter, List.mem_range]
  have gm : ∀ {i v : Nat}, ms[i]? = some v → ms.getD i 0 = v := fun {i v} h => by rw [List.getD_eq_getElem?_getD, h]; rfl
  have tl : t < ms.length := (List.getElem?_eq_some_iff.mp hm).1
  constructor
  · intro al
    obtain ⟨i, hi⟩ := List.getElem?_of_mem ((mem t).mpr ⟨tl, by rw [gm hm]; exact al⟩)
    have il := (List.getElem?_eq_some_iff.mp hi).1
    exact ⟨up_le srt hb hi (Nat.zero_le _), up_le srt hi he (by omega)⟩
  · rintro ⟨h1, h2⟩
    obtain ⟨b1, b2⟩ := (mem b).mp (List.mem_of_getElem? hb)
    obtain ⟨e1, e2⟩ := (mem e).mp (List.mem_of_getElem? he)
    have hb' := List.getElem?_eq_getElem b1
    have he' := List.getElem?_eq_getElem e1
    rw [gm hb'] at b2
    rw [gm he'] at e2
    exact aliveB_iff.mpr ⟨Nat.lt_of_lt_of_le (aliveB_iff.mp b2).1 (up_le up hb' hm h1), lastB_le (up_le up hm he' h2) (aliveB_iff.mp e2).2⟩
theorem walk_en {a : Addr} {xs : List V} : Walk (ItEn a) xs.length (fun H => Rd H a (.tup xs)) (YPair (fun i => some (.int (i : Nat))) (fun i => xs[i]?)) := by
  refine ⟨fun i _ hi q => ⟨xs, xs[i], q, by simp [hi]⟩, fun _ q => ⟨xs, q, rfl⟩, fun i H v H' _ q y => ?_⟩
  obtain ⟨p, x, h1, h2, h3, h4⟩ := y
  exact ⟨p, .int (i : Nat), x, h1, h2, h3, rfl, h4 xs q⟩
theorem nat_last {ss : List Nat} {v : Nat} (h : ss[ss.length - 1]? = some v) : atI (ss.map nv) (-1) = some (nv v) := by
  have pos := (List.getElem?_eq_some_iff.mp h).1
  unfold atI ixN
  rw [if_neg (by decide), if_pos (by rw [List.length_map]; omega)]
  have e : (-1 + (ss.length : Int)).toNat = ss.length - 1 := by omega
  show (ss.map nv)[(-1 + ((ss.map nv).length : Int)).toNat]? = _
  rw [List.length_map, e, List.getElem?_map, h]
  rfl
theorem nat_get {ss : List Nat} {i : Nat} {v : V} (h : (ss.map nv)[i]? = some v) : ∃ m, ss[i]? = some m ∧ v = nv m := by
  rw [List.getElem?_map] at h
  cases hs : ss[i]? with
  | none => rw [hs] at h; cases h
  | some m => rw [hs] at h; injection h with h; exact ⟨m, rfl, h.symm⟩
def spOver (CP CW CT : Addr) : Sp := fun vs H Q _ => ∃ (wb sp : Addr) (pr : Int) (x : Nat × Option Nat) (ms : List Nat), vs = [.ref wb, .int pr, .ref sp, nv x.1, gV x.2] ∧ LineW CW H wb ms.length ∧ 1 ≤ ms.length ∧ ms.length ≤ 8 ∧ ms.Pairwise (· < ·) ∧ Pr pr ∧ H sp = some (.tup (ms.map nv)) ∧
  ∀ (l : Addr) (as : List Addr) (bes : List (Nat × Nat)) (H' : Hp), Ext H H' → H' l = some (.lst (as.map V.ref)) → bes.length ≤ 1 → OverX ms x bes → Two (fun a y => PicX CP CT H' a wb pr (barSs y.1 y.2 ms.length) (barTs y.1 y.2 (ms.length - 1))) as bes → Q (.ref l) H'
section
variable {P : Program} {w : World} {K : PySem.W.Frag} {mg : Str → Option Value} {base : Heap}
abbrev overN : List Str := ["web", "prime", "stops", "born", "gone", "there", "at", "stop"]
theorem scOver : FnScope overN ["web", "prime", "stops", "born", "gone"] (defScope sOver) := ⟨rfl, rfl, rfl, by decide +kernel, rfl, by decide +kernel, by decide +kernel⟩
theorem ok_over {f CP CW CT : Addr} {fd : FuncData} (F : L2.Fun K "bar_over" "bar_over" sOver f fd) (T : Gb mg) (cB : Cal P w K mg base 7 "bar_picture" (spBarPic CP CW CT) []) : FnOk P w K mg base CX0 8 f fd ["web", "prime", "stops", "born", "gone"] (spOver CP CW CT) := by
  refine F.ok scOver (fun vs H Q E h => ?_) (fun cdv A outer s H vs Q E hr h => ?_)
  · obtain ⟨wb, sp, pr, x, ms, rfl, _⟩ := h
    rfl
  · obtain ⟨wb, sp, pr, x, ms, rfl, lw, n1, n8, up, hpr, hs, k⟩ := h
    refine ⟨_, pss_cons (ps_setLc (i := 5) (own := [("at", 6), ("stop", 7)]) (g := gTup K 2 (gCons (gName 6) (gCons (gName 7) gNil))) rfl scOver.nd rfl rfl (sw_true rfl rfl rfl (by decide +kernel)) (pi_en (by rfl) T.enum (pa_cons (pv 2) pa_nil)) (blkOk_by (N := overN) (sc := defScope sOver) (by decide +kernel)) (fun _ _ _ _ _ => (pg_tup rfl (pgs_cons (pg_name (i := 6) scOver.nd rfl (Or.inl rfl)) (pgs_cons (pg_name (i := 7) scOver.nd rfl (Or.inl rfl)) pgs_nil)))) (fun _ _ _ _ _ => (pts_one (PW.pt (pw_and (pt_cmpR op_lt (pv 3) (pv 7) (nomark _)) (pw_and1 (PW.pt (pw_or (pt_cmpR op_isN (pv 4) pe_non (nomark _)) (pw_or1 (pt_cmpR op_le (pv 7) (pv 4) (nomark _)))))))))) (fun _ _ _ _ _ => (pv 6)))
      (pss_cons (ps_if (pt_cmpR op_eq (pe_callB call_len_seq (by rfl) T.len PySem.boot_len (pa_cons (pv 5) pa_nil)) pe_int (nomark _)) (pss_one (ps_ret (pe_lst pa_nil))) pss_nil)
      (pss_one (ps_ret (pe_lst (pa_cons (C8.pe_c cB hr (by decide) (by rfl) (pa_cons (pv 0) (pa_cons (pv 1) (pa_cons (pe_ix ix_list (pv 5) pe_int (fun _ _ => rfl)) (pa_cons (pe_ix ix_list (pv 5) (pe_un un_neg pe_int) (fun _ _ => rfl)) pa_nil))))) pa_nil))))), ?_⟩
    refine ⟨_, rfl, sp, _, rfl, .inl hs, fun D nD => ?_⟩
    refine lc_gen (n := (ms.map nv).length) (p := fun i => aliveB x (ms.getD i 0)) walk_en nD (by rw [List.length_map]; omega) (fun i y _ => y = nv i) (fun _ _ _ _ _ z => z) (fun H' e => .inl (e _ _ hs)) ?_ ?_
    · rintro i z J J' R N hi e7 ⟨t, x', y, rfl, nt, rfl, hx, hy⟩ hR hN
      cases hx
      obtain ⟨m, hm, rfl⟩ := nat_get hy
      have gm : ms.getD i 0 = m := by rw [List.getD_eq_getElem?_getD, hm]; rfl
      rw [gm] at hR hN
      have et := Ext.upd (o := .tup [V.int (i : Nat), nv m]) nt
      refine ⟨t, _, rfl, SqT.of upd_same, rfl, _, _, rfl, _, _, rfl, rfl, rfl, ?_⟩
      refine ⟨_, rfl, _, rfl, _, _, rfl, rfl, _, rfl, ?_⟩
      unfold aliveB at hR hN
      by_cases hb : x.1 < m
      · rw [decide_eq_true hb, Bool.true_and] at hR hN
        rw [decide_eq_true (show (x.1 : Int) < (m : Int) by omega)]
        obtain ⟨x1, g⟩ := x
        cases g with
        | none =>
          refine iteT ⟨_, rfl, rfl, _, rfl, ?_⟩
          refine ite2 (fun _ => ?_) (fun z => absurd (decide_eq_true rfl) z)
          exact iteT ⟨_, rfl, hR rfl _ _ et rfl⟩
        | some g =>
          refine iteT ⟨_, rfl, rfl, _, rfl, ?_⟩
          refine ite2 (fun z => absurd (of_decide_eq_true z) (fun q => nomatch q)) (fun _ => ?_)
          refine ⟨_, rfl, _, rfl, _, _, rfl, rfl, _, rfl, ?_⟩
          by_cases hg : m ≤ g
          · rw [decide_eq_true (show (m : Int) ≤ (g : Int) by omega)]
            exact iteT ⟨_, rfl, hR (decide_eq_true hg) _ _ et rfl⟩
          · rw [decide_eq_false (show ¬ (m : Int) ≤ (g : Int) by omega)]
            exact iteF (hN (decide_eq_false hg) _ et)
      · rw [decide_eq_false hb, Bool.false_and] at hN
        rw [decide_eq_false (show ¬ (x.1 : Int) < (m : Int) by omega)]
        exact iteF (iteF (hN rfl _ et))
    intro ys H1 e1 hD pp
    have ey := vals_of pp
    rw [List.length_map] at ey
    generalize et : (List.range ms.length).filter (fun i => aliveB x (ms.getD i 0)) = ths at ey
    subst ey
    refine ⟨_, rfl, D, _, rfl, .inl (SqL.of hD), rfl, _, rfl, ?_⟩
    refine ite2 (fun z => ?_) (fun z => ?_)
    · refine ⟨Nat.zero_le _, fun l nl => ?_⟩
      refine k l [] [] _ (e1.trans (Ext.upd nl)) upd_same (Nat.zero_le _) (.inl ⟨rfl, fun t m hm => ?_⟩) .nil
      have n0 : ths = [] := by
        have q := of_decide_eq_true z
        rw [List.length_map] at q
        injection q with q
        exact List.eq_nil_of_length_eq_zero (by omega)
      cases hal : aliveB x m with
      | false => rfl
      | true =>
        have : t ∈ ths := by
          rw [← et, List.mem_filter, List.mem_range, List.getD_eq_getElem?_getD, hm]
          exact ⟨(List.getElem?_eq_some_iff.mp hm).1, hal⟩
        rw [n0] at this
        cases this
    · have pos : 0 < ths.length := Nat.pos_of_ne_zero fun q => z (by rw [List.length_map, q]; rfl)
      have h0 := List.getElem?_eq_getElem pos
      have h1 := List.getElem?_eq_getElem (show ths.length - 1 < ths.length by omega)
      generalize ths[0] = b at h0
      generalize ths[ths.length - 1] = e at h1
      refine ⟨_, rfl, _, rfl, _, rfl, D, _, 0, nv b, rfl, rfl, SqL.of hD, nat_at h0, _, rfl, 1, rfl, D, _, -1, nv e, rfl, rfl, SqL.of hD, nat_last h1, ?_⟩
      refine ⟨wb, pr, b, e, ms.length, rfl, lw.ext e1, n1, n8, hpr, fun p H2 e2 hp => ⟨by show 1 ≤ sizeLine; decide, fun l nl => ?_⟩⟩
      have xl := Ext.upd (o := .lst [V.ref p]) nl
      exact k l [p] [(b, e)] _ ((e1.trans e2).trans xl) upd_same (Nat.le_refl _) (.inr ⟨b, e, rfl, over_bounds up et.symm h0 h1⟩) (.cons (hp.ext xl) .nil)
end
end O42

set_option Elab.async false
set_option linter.all false
set_option maxRecDepth 100000
set_option maxHeartbeats 4000000
set_option pp.maxSteps 60
/-! Things through and through; ascending tuples. -/
namespace O42.G
open PySem L2
abbrev sAsc : Stmt := top 6
/-- what a thing is, through tuples -/
inductive D where
  | oth
  | non
  | bl (b : Bool)
  | int (i : Int)
  | tup (ds : List D)
mutual
inductive TD (K : PySem.W.Frag) (H : Hp) : V → D → Prop
  | oth {x : V} {t : Value} : TyX K H x t → PySem.W.kitOne K t (.type "int") = some false → PySem.W.kitOne K t (.type "bool") = some false → PySem.W.kitOne K t (.type "tuple") = some false → isI x = false → isB x = false → x ≠ .non →
      (∀ a, x = .ref a → ∃ o, H a = some o ∧ (∀ xs, o ≠ .tup xs) ∧ ∀ ps, o ≠ .tbl ps) → TD K H x .oth
  | non : TD K H .non .non
  | bl (b : Bool) : TD K H (.bl b) (.bl b)
  | int (i : Int) : TD K H (.int i) (.int i)
  | tup {a : Addr} {xs : List V} {ds : List D} : H a = some (.tup xs) → xs.length ≤ 1000 → TDs K H xs ds → TD K H (.ref a) (.tup ds)
inductive TDs (K : PySem.W.Frag) (H : Hp) : List V → List D → Prop
  | nil : TDs K H [] []
  | cons {x : V} {d : D} {xs : List V} {ds : List D} : TD K H x d → TDs K H xs ds → TDs K H (x :: xs) (d :: ds)
end
section
variable {K : PySem.W.Frag} {H : Hp}
theorem TDs.len : ∀ {xs : List V} {ds : List D}, TDs K H xs ds → xs.length = ds.length
  | _, _, .nil => rfl
  | _, _, .cons _ r => congrArg (· + 1) (TDs.len r)
theorem TDs.get : ∀ {xs : List V} {ds : List D} {i : Nat} {x : V}, TDs K H xs ds → xs[i]? = some x → ∃ d, ds[i]? = some d ∧ TD K H x d
  | _, _, i, _, .nil, h => by simp at h
  | _, _, 0, _, .cons x _, h => by cases h; exact ⟨_, rfl, x⟩
  | _, _, i + 1, _, .cons _ r, h => TDs.get (i := i) r (by simpa using h)
mutual
theorem TD.ext {H' : Hp} (e : Ext H H') : ∀ {x : V} {d : D}, TD K H x d → TD K H' x d
  | _, _, .oth a b c d f g h i => .oth (TyX.ext a e) b c d f g h fun q z => let ⟨o, h1, h2⟩ := i q z; ⟨o, e _ _ h1, h2⟩
  | _, _, .non => .non
  | _, _, .bl b => .bl b
  | _, _, .int i => .int i
  | _, _, .tup a b c => .tup (e _ _ a) b (TDs.ext e c)
theorem TDs.ext {H' : Hp} (e : Ext H H') : ∀ {xs : List V} {ds : List D}, TDs K H xs ds → TDs K H' xs ds
  | _, _, .nil => .nil
  | _, _, .cons a r => .cons (TD.ext e a) (TDs.ext e r)
end
mutual
theorem TD.th : ∀ {n : Nat} {x : V} {d : D}, TD K H x d → Th K H n x
  | _, _, _, .oth a b c d f g h i => Th.plain a (by rw [b, f, g]; rfl) (by rw [c, g]) d fun q z => let ⟨o, h1, h2, _⟩ := i q z; ⟨o, h1, h2⟩
  | _, _, _, .non => Th.non
  | _, _, _, .bl b => Th.bl b
  | _, _, _, .int i => Th.int i
  | 0, _, _, .tup a _ _ => Th.tup0 a
  | n + 1, _, _, .tup a _ c => Th.tup a (TDs.th c)
theorem TDs.th : ∀ {n : Nat} {xs : List V} {ds : List D}, TDs K H xs ds → ∀ y ∈ xs, Th K H n y
  | _, _, _, .nil => fun y h => nomatch h
  | n, _, _, .cons a r => fun y h => by
    rcases List.mem_cons.mp h with e | h
    · rw [e]; exact TD.th a
    · exact TDs.th r y h
end
end
def numD (m : Int) : D → Bool
  | .int i => decide (0 ≤ i) && decide (i ≤ m)
  | _ => false
theorem num_td {K : PySem.W.Frag} {H : Hp} {m : Int} {x : V} {d : D} (h : TD K H x d) : numV m x = numD m d := by
  cases h with
  | oth a b c d f g h i => cases x <;> first | rfl | cases f
  | non => rfl
  | bl b => rfl
  | int i => rfl
  | tup a b c => rfl
theorem numD_true {m : Int} {d : D} : numD m d = true ↔ ∃ i, d = .int i ∧ 0 ≤ i ∧ i ≤ m := by
  cases d <;> simp [numD]
/-- an ascending tuple of numbers up to m -/
def AscP (m : Int) (d : D) : Prop := ∃ ns : List Int, d = .tup (ns.map .int) ∧ (∀ n ∈ ns, 0 ≤ n ∧ n ≤ m) ∧ ns.Pairwise (· < ·)
def spAsc (K : PySem.W.Frag) : Sp := fun vs H Q _ => ∃ (m : Int) (x : V) (d : D), vs = [.int m, x] ∧ TD K H x d ∧ ∀ (bb : Bool) (H' : Hp), (bb = true ↔ AscP m d) → Ext H H' → Q (.bl bb) H'
theorem adj_pairwise : ∀ (ns : List Int), (∀ p ∈ ns.zip ns.tail, p.1 < p.2) ↔ ns.Pairwise (· < ·)
  | [] => by simp
  | [n] => by simp
  | n :: m :: r => by
    have ih := adj_pairwise (m :: r)
    constructor
    · intro h
      have hm : n < m := h (n, m) (by simp)
      have hr := ih.mp fun p hp => h p (by
        show p ∈ (n, m) :: (m :: r).zip r
        exact List.mem_cons_of_mem _ hp)
      refine List.pairwise_cons.mpr ⟨fun a ha => ?_, hr⟩
      rcases List.mem_cons.mp ha with rfl | ha
      · exact hm
      · exact Int.lt_trans hm ((List.pairwise_cons.mp hr).1 a ha)
    · intro h p hp
      obtain ⟨h1, h2⟩ := List.pairwise_cons.mp h
      have hp' : p ∈ (n, m) :: (m :: r).zip r := hp
      rcases List.mem_cons.mp hp' with rfl | hp'
      · exact h1 m List.mem_cons_self
      · exact ih.mpr h2 p hp'
theorem low_ints {m : Int} : ∀ {ds : List D}, (∀ y ∈ ds, numD m y = true) → ∃ ns : List Int, ds = ns.map .int ∧ ∀ n ∈ ns, 0 ≤ n ∧ n ≤ m
  | [], _ => ⟨[], rfl, fun n h => by cases h⟩
  | y :: ys, h => by
    obtain ⟨i, rfl, h1, h2⟩ := numD_true.mp (h y List.mem_cons_self)
    obtain ⟨ns, rfl, h3⟩ := low_ints (ds := ys) fun z hz => h z (List.mem_cons_of_mem _ hz)
    refine ⟨i :: ns, rfl, fun n hn => ?_⟩
    rcases List.mem_cons.mp hn with rfl | hn
    · exact ⟨h1, h2⟩
    · exact h3 n hn
theorem ints_td {K : PySem.W.Frag} {H : Hp} : ∀ {ns : List Int} {xs : List V}, TDs K H xs (ns.map .int) → xs = ns.map V.int
  | [], _, .nil => rfl
  | n :: ns, _, .cons (.int _) r => by rw [List.map_cons, ints_td r]
theorem td_ints {K : PySem.W.Frag} {H : Hp} : ∀ (ns : List Int), TDs K H (ns.map V.int) (ns.map .int)
  | [] => .nil
  | n :: ns => .cons (.int n) (td_ints ns)
theorem dint_inj : ∀ {ns ks : List Int}, ns.map D.int = ks.map D.int → ns = ks
  | [], [], _ => rfl
  | n :: ns, k :: ks, h => by
    injection h with h1 h2
    injection h1 with h1
    rw [h1, dint_inj h2]
  | [], k :: ks, h => by cases h
  | n :: ns, [], h => by cases h
theorem map_int_get {ns : List Int} {i : Nat} {x : V} (h : (ns.map V.int)[i]? = some x) : ∃ n, ns[i]? = some n ∧ x = .int n := by
  rw [List.getElem?_map] at h
  cases e : ns[i]? with
  | none => rw [e] at h; cases h
  | some n => rw [e] at h; cases h; exact ⟨n, rfl, rfl⟩
/-- zip of a tuple and a shorter one -/
theorem lc_zipM {K : PySem.W.Frag} {a b : Addr} {xs ys : List V} {g : TG} {tt : L2.TT} {te : TE} {vs : List Nat} {τ : L2.St} {H1 : Hp} {D : Addr} {Qd : Hp → Prop} (len : ys.length ≤ xs.length) (Pv : Nat → Hp → Prop) (h0 : Pv 0 (upd H1 D (.lst [])))
    (hq : ∀ i H, Pv i H → SqT K H a xs ∧ SqT K H b ys)
    (hs : ∀ i x y t H, xs[i]? = some x → ys[i]? = some y → Pv i H → H t = none → g (.ref t) (wipe τ vs) (upd H t (.tup [x, y])) fun σ2 H2 => wipe σ2 vs = wipe τ vs ∧ tt σ2 H2 fun c H3 =>
      if c = true then te σ2 H3 fun z H4 => ∃ acc, H4 D = some (.lst acc) ∧ acc.length < sizeLine ∧ Pv (i + 1) (upd H4 D (.lst (acc ++ [z]))) else Pv (i + 1) H3) (hd : ∀ H, Pv ys.length H → Qd H) :
    ∃ W : Nat → Nat → Hp → Prop, (∃ m, W 0 m (upd H1 D (.lst []))) ∧ ∀ i m H, W i m H →
      ((RZ.ItzT K a b).stop i H ∧ Qd H) ∨ ((RZ.ItzT K a b).go i H ∧ ∃ Nx : Hp → Prop, (∀ H', Nx H' → ∃ m', m' < m ∧ W (i + 1) m' H') ∧ ∀ x H', (RZ.ItzT K a b).yld i H x H' → g x (wipe τ vs) H' fun σ2 H2 => wipe σ2 vs = wipe τ vs ∧ tt σ2 H2 fun c H3 =>
        if c = true then te σ2 H3 fun z H4 => ∃ acc, H4 D = some (.lst acc) ∧ acc.length < sizeLine ∧ Nx (upd H4 D (.lst (acc ++ [z]))) else Nx H3) := by
  refine ⟨fun i m H => m + i = ys.length ∧ Pv i H, ⟨ys.length, rfl, h0⟩, ?_⟩
  rintro i m H ⟨em, p⟩
  obtain ⟨qa, qb⟩ := hq i H p
  cases m with
  | zero =>
    have e : i = ys.length := by omega
    subst e
    exact .inl ⟨⟨xs, ys, qa, qb, .inr (Nat.le_refl _)⟩, hd H p⟩
  | succ k =>
    have lb : i < ys.length := by omega
    have la : i < xs.length := by omega
    have ea : xs[i]? = some xs[i] := List.getElem?_eq_getElem la
    have eb : ys[i]? = some ys[i] := List.getElem?_eq_getElem lb
    refine .inr ⟨⟨xs, ys, _, _, qa, qb, ea, eb⟩, Pv (i + 1), fun H' p' => ⟨k, Nat.lt_succ_self k, by omega, p'⟩, fun v H' y => ?_⟩
    obtain ⟨t, x', y', rfl, nt, rfl, f1, f2⟩ := y
    exact hs i x' y' t H (f1 xs qa) (f2 ys qb) p nt
/-- isinstance(x, tuple) -/
def isT : D → Bool | .tup _ => true | _ => false
theorem td_isT {K : PySem.W.Frag} {H : Hp} {x : V} {d : D} (h : TD K H x d) : ∃ t, TyX K H x t ∧ PySem.W.kitOne K t (.type "tuple") = some (isT d) := by
  cases h with
  | oth a b c d f g h i => exact ⟨_, a, d⟩
  | non => exact ⟨_, .base .non, kit_ty (show kitB "NoneType" "tuple" = some false by decide +kernel)⟩
  | bl b => exact ⟨_, .base (.bl b), kit_ty (show kitB "bool" "tuple" = some false by decide +kernel)⟩
  | int i => exact ⟨_, .base (.int i), kit_ty (show kitB "int" "tuple" = some false by decide +kernel)⟩
  | tup a b c => exact ⟨_, .base (.tup a), kit_ty (show kitB "tuple" "tuple" = some true by decide +kernel)⟩
structure MoreC (mg : Str → Option Value) : Prop where
  zip : mg "zip" = none
section
variable {P : Program} {w : World} {K : PySem.W.Frag} {mg : Str → Option Value} {base : Heap}
abbrev ascN : List Str := ["most", "thing", "item", "after"]
theorem scAsc : FnScope ascN ["most", "thing"] (defScope sAsc) := ⟨rfl, rfl, rfl, by decide +kernel, rfl, by decide +kernel, by decide +kernel⟩
theorem ok_asc {f : Addr} {fd : FuncData} (F : L2.Fun K "is_ascending" "is_ascending" sAsc f fd) (T : Gb mg) (M : MoreC mg) (cN : Cal P w K mg base 2 "is_number" (spNumber K) []) : FnOk P w K mg base CX0 3 f fd ["most", "thing"] (spAsc K) := by
  refine F.ok scAsc (fun vs H Q E h => ?_) (fun cdv A outer s H vs Q E hr h => ?_)
  · obtain ⟨m, x, d, rfl, _⟩ := h
    rfl
  · obtain ⟨m, x, d, rfl, td, k⟩ := h
    obtain ⟨t, ty, kt⟩ := td_isT td
    refine ⟨_, pss_cons (ps_if (PW.pt (pw_or (pt_not (pt_val (pe_callB call_isi (by rfl) T.isi (by decide +kernel) (pa_cons (pv 1) (pa_cons (pe_bltn (v := .ty "tuple") (by rfl) T.tup (by decide +kernel) rfl) pa_nil))))) (pw_or1 (pt_not (pt_val (pe_callB (cr_all rfl) (by rfl) T.all (by decide +kernel) (pa_cons (pe_lc (own := [("item", 2)]) (g := gName 2) (tt := tYes) rfl scAsc.nd (pi_tup (pv 1)) (blkOk_by (N := ascN) (sc := defScope sAsc) (by decide +kernel)) (fun _ _ _ _ _ => (pg_name (i := 2) scAsc.nd rfl (Or.inl rfl))) (fun _ _ _ _ _ => pts_nil) (fun _ _ _ _ _ => (C8.pe_c cN hr (by decide) (by rfl) (pa_cons (pv 0) (pa_cons (pv 2) pa_nil))))) pa_nil))))))) (pss_one (ps_ret pe_bl)) pss_nil)
      (pss_one (ps_ret (pe_callB (cr_all rfl) (by rfl) T.all (by decide +kernel) (pa_cons (pe_lc (own := [("item", 2), ("after", 3)]) (g := gTup K 2 (gCons (gName 2) (gCons (gName 3) gNil))) (tt := tYes) rfl scAsc.nd (RZ.pi_zipA (by rfl) M.zip (pa_cons (pv 1) (pa_cons (pe_slice sl_tupA (pv 1) (po_some pe_int) po_none) pa_nil))) (blkOk_by (N := ascN) (sc := defScope sAsc) (by decide +kernel)) (fun _ _ _ _ _ => (pg_tup rfl (pgs_cons (pg_name (i := 2) scAsc.nd rfl (Or.inl rfl)) (pgs_cons (pg_name (i := 3) scAsc.nd rfl (Or.inl rfl)) pgs_nil)))) (fun _ _ _ _ _ => pts_nil) (fun _ _ _ _ _ => (pe_cmpR op_lt (pv 2) (pv 3) (nomark _)))) pa_nil)))), ?_⟩
    cases hd : isT d with
    | false =>
      rw [hd] at kt
      refine ⟨_, rfl, x, .ty "tuple", t, .type "tuple", _, rfl, .ty _, ty, kt, _, rfl, ?_⟩
      exact iteT (iteT (k false H ⟨fun z => Bool.noConfusion z, fun ⟨ns, e, _⟩ => by rw [e] at hd; cases hd⟩ Ext.rfl'))
    | true =>
      rw [hd] at kt
      cases td with
      | tup ha len ts =>
        rename_i a xs ds
        refine ⟨_, rfl, _, .ty "tuple", t, .type "tuple", _, rfl, .ty _, ty, kt, _, rfl, ?_⟩
        refine iteF ?_
        refine ⟨_, rfl, a, rfl, ⟨_, SqT.of ha⟩, fun D hD => ?_⟩
        have hda : a ≠ D := ne_of_none ha hD
        have ld := ts.len
        refine lc_tup (K := K) (a := a) (xs := xs) (fun i H' => H' = upd H D (.lst (((ds.take i).map (numD m)).map V.bl))) (by simp) (fun i H' _ e => by subst e; exact SqT.of (by rw [upd_ne hda]; exact ha)) ?_ ?_
        · rintro i y H' hi rfl
          refine ⟨rfl, tyes_in ?_⟩
          obtain ⟨d, hd, tdd⟩ := ts.get hi
          have lt := (List.getElem?_eq_some_iff.mp hd).1
          refine ⟨_, rfl, _, rfl, m, y, rfl, TD.th (tdd.ext (Ext.upd hD)), _, upd_same, small1000 (by simp; omega), ?_⟩
          rw [upd_upd, List.take_succ, hd, num_td tdd]
          simp
        · rintro H' rfl
          rw [ld, List.take_of_length_le (Nat.le_refl _)]
          have e1 : Ext H (upd H D (.lst ((ds.map (numD m)).map V.bl))) := Ext.upd hD
          have hD1 : (upd H D (.lst ((ds.map (numD m)).map V.bl))) D = some (.lst ((ds.map (numD m)).map V.bl)) := upd_same
          generalize upd H D (.lst ((ds.map (numD m)).map V.bl)) = H1 at *
          cases ball : (ds.map (numD m)).all id with
          | false =>
            refine ⟨D, _, rfl, SqL.of hD1, false, congrArg V.bl ball, ?_⟩
            refine iteT ?_
            refine k false H1 ⟨fun z => Bool.noConfusion z, fun ⟨ns, e, lo, _⟩ => ?_⟩ e1
            injection e with e
            subst e
            have : (List.map (numD m) (List.map O42.G.D.int ns)).all id = true := List.all_eq_true.mpr fun b hb => by
              obtain ⟨y, hy, rfl⟩ := List.mem_map.mp hb
              obtain ⟨n, hn, rfl⟩ := List.mem_map.mp hy
              exact numD_true.mpr ⟨n, rfl, (lo n hn).1, (lo n hn).2⟩
            rw [this] at ball
            cases ball
          | true =>
            refine ⟨D, _, rfl, SqL.of hD1, true, congrArg V.bl ball, ?_⟩
            refine iteF ?_
            obtain ⟨ns, rfl, low⟩ := low_ints fun y hy => List.all_eq_true.mp ball (numD m y) (List.mem_map_of_mem hy)
            have ex := ints_td ts
            subst ex
            refine ⟨_, rfl, _, rfl, 1, rfl, ?_⟩
            dsimp only [tNoPart]
            refine sl_any (K := K) (lo := some 1) (hi := none) (e1 _ _ ha) fun q H2 e3 hq => ?_
            have ct : cutV (ns.map V.int) (some 1) none = ns.tail.map V.int := by
              unfold cutV
              rw [show (1 : Int) = ((1 : Nat) : Int) from rfl, HT.sIx_nat, HT.sIx_none, List.take_of_length_le (by rw [List.length_drop]; exact Nat.le_refl _)]
              cases ns with
              | nil => rfl
              | cons n r =>
                rw [show min 1 (List.map V.int (n :: r)).length = 1 by simp]
                rfl
            rw [ct] at hq
            have ha2 := e3 _ _ (e1 _ _ ha)
            refine ⟨a, q, _, _, rfl, .inr ⟨SqT.of ha2, SqT.of hq, fun D2 nD2 => ?_⟩⟩
            refine lc_zipM (K := K) (a := a) (b := q) (xs := ns.map V.int) (ys := ns.tail.map V.int) (by rw [List.length_map, List.length_map, List.length_tail]; omega) (fun i H' => Ext H2 H' ∧ H' D2 = some (.lst ((((ns.zip ns.tail).take i).map fun p => decide (p.1 < p.2)).map V.bl))) ⟨Ext.upd nD2, upd_same⟩ (fun i H' z => ⟨SqT.of (z.1 _ _ ha2), SqT.of (z.1 _ _ hq)⟩) ?_ ?_
            · rintro i u v t' H' hu hv ⟨ex, hD2⟩ nt'
              obtain ⟨n, hn, rfl⟩ := map_int_get hu
              obtain ⟨m', hm, rfl⟩ := map_int_get hv
              refine ⟨t', _, rfl, SqT.of upd_same, rfl, _, _, rfl, _, _, rfl, rfl, rfl, tyes_in ?_⟩
              have hz : (ns.zip ns.tail)[i]? = some (n, m') := List.getElem?_zip_eq_some.mpr ⟨hn, hm⟩
              have li := (List.getElem?_eq_some_iff.mp hn).1
              rw [List.length_map] at len
              refine ⟨_, rfl, _, rfl, _, _, rfl, rfl, _, Ext.upd nt' _ _ hD2, small1000 (by rw [List.length_map, List.length_map, List.length_take]; omega), fun b' o eo => ?_, ?_⟩
              · rw [upd_ne (ne_of_none eo nD2)]
                exact Ext.upd nt' _ _ (ex _ _ eo)
              · rw [upd_same, List.take_succ, hz, List.map_append, List.map_append]
                rfl
            · rintro H' ⟨ex, hD2⟩
              have lz : (ns.zip ns.tail).length ≤ (ns.tail.map V.int).length := by rw [List.length_zip, List.length_map]; omega
              rw [List.take_of_length_le lz] at hD2
              refine ⟨D2, _, rfl, SqL.of hD2, ?_⟩
              refine k _ H' ?_ (e1.trans (e3.trans ex))
              constructor
              · intro z
                refine ⟨ns, rfl, low, (adj_pairwise ns).mp fun p hp => ?_⟩
                have := List.all_eq_true.mp z (decide (p.1 < p.2)) (List.mem_map_of_mem hp)
                exact of_decide_eq_true this
              · rintro ⟨ms, e, _, pw⟩
                injection e with e
                rw [← dint_inj e] at pw
                refine List.all_eq_true.mpr fun bb hb => ?_
                obtain ⟨p, hp, rfl⟩ := List.mem_map.mp hb
                exact decide_eq_true ((adj_pairwise ns).mpr pw p hp)
      | _ => cases hd
end
end O42.G

set_option Elab.async false
set_option linter.all false
set_option maxRecDepth 100000
set_option maxHeartbeats 4000000
set_option pp.maxSteps 100
/-! The picture of a tower, exactly. -/
namespace O42
open PySem L2 M40
abbrev sTP : Stmt := top 58
/-- what is found of the bars over the stops -/
inductive FoundX (ms : List Nat) : List (Nat × Option Nat) → List (Nat × Nat) → Prop
  | nil : FoundX ms [] []
  | snoc {L : List (Nat × Option Nat)} {bes : List (Nat × Nat)} {x : Nat × Option Nat} {b1 : List (Nat × Nat)} : FoundX ms L bes → OverX ms x b1 → FoundX ms (L ++ [x]) (bes ++ b1)
theorem Two.app {α β : Type} {R : α → β → Prop} {l l2 : List α} {k k2 : List β} (h : Two R l k) (g : Two R l2 k2) : Two R (l ++ l2) (k ++ k2) := by
  induction h with
  | nil => exact g
  | cons a _ ih => exact .cons a ih
theorem td_nats {K : PySem.W.Frag} {H : Hp} {a : Addr} {ms : List Nat} (h : H a = some (.tup (ms.map nv))) (l1000 : ms.length ≤ 1000) : G.TD K H (.ref a) (.tup ((ms.map fun m : Nat => (m : Int)).map G.D.int)) := by
  refine .tup (xs := (ms.map fun m : Nat => (m : Int)).map V.int) ?_ (by rw [List.length_map, List.length_map]; exact l1000) (G.td_ints _)
  rw [h, List.map_map]
  rfl
theorem asc_nats {ms : List Nat} {n : Nat} (up : ms.Pairwise (· < ·)) (lo : ∀ m ∈ ms, m ≤ n) : G.AscP (n : Int) (.tup ((ms.map fun m : Nat => (m : Int)).map G.D.int)) := by
  refine ⟨_, rfl, fun k hk => ?_, ?_⟩
  · obtain ⟨m, hm, rfl⟩ := List.mem_map.mp hk
    have := lo m hm
    omega
  · rw [List.pairwise_map]
    exact up.imp fun h => by omega
theorem BarIs.ext {H H' : Hp} {x : V} {g : Nat × Option Nat} (e : Ext H H') (h : BarIs H x g) : BarIs H' x g := let ⟨q, h1, h2⟩ := h; ⟨q, h1, e _ _ h2⟩
theorem PicX.put {CP CT l p wb : Addr} {J : Hp} {pr : Int} {ss : List Nat} {ts : List (Nat × List (List Int))} {xs : List V} {o : HO} (hl : J l = some (.lst xs)) (x : PicX CP CT J p wb pr ss ts) : PicX CP CT (upd J l o) p wb pr ss ts := by
  have pt : ∀ {q : Addr} {u : HO}, J q = some u → (∀ ys, u ≠ .lst ys) → (upd J l o) q = some u := fun {q u} h1 h2 => by
    rw [upd_ne fun z => by rw [z, hl] at h1; injection h1 with h1; exact h2 _ h1.symm]
    exact h1
  obtain ⟨sz, tb, as, ⟨dx, h1⟩, h2, h3, h4⟩ := x
  refine ⟨sz, tb, as, ⟨dx, pt h1 (fun _ z => nomatch z)⟩, pt h2 (fun _ z => nomatch z), pt h3 (fun _ z => nomatch z), h4.imp fun t wm z => ?_⟩
  obtain ⟨b, rs, ⟨dx, q1⟩, q2, q3⟩ := z
  exact ⟨b, rs, ⟨dx, pt q1 (fun _ z => nomatch z)⟩, pt q2 (fun _ z => nomatch z), q3.imp fun r ys q6 => pt (u := .tup (ys.map V.int)) q6 (fun _ z => nomatch z)⟩
def spTP (CT CP CW CTb : Addr) : Sp := fun vs H Q _ => ∃ (p b a : Addr) (ll : List (List Int)) (pr : Int) (d : Nat) (ms : List Nat), vs = [.ref p, .int pr, .int (d : Int), .ref a] ∧ TowAt CT H p b ∧ TR H b ll ∧ Bare H b ∧ GoodT ll ∧ ll.length ≤ 40 ∧ Pr pr ∧ d ≤ 3 ∧ H a = some (.tup (ms.map nv)) ∧ 1 ≤ ms.length ∧ ms.length ≤ 8 ∧ ms.Pairwise (· < ·) ∧ (∀ m ∈ ms, m ≤ ll.length) ∧
  ∀ (q wb : Addr) (L : List (Nat × Option Nat)) (bes : List (Nat × Nat)) (H' : Hp), Ext H H' → BarsOf pr ll d L → FoundX ms L bes → bes.length ≤ 40 → LineW CW H' wb ms.length → PicX CP CTb H' q wb pr (laidSs bes ms.length) (laidTs bes (ms.length - 1)) → Q (.ref q) H'
section
variable {P : Program} {w : World} {K : PySem.W.Frag} {mg : Str → Option Value} {base : Heap}
abbrev tpN : List Str := ["tower", "prime", "deep", "stops", "pairs", "web", "found", "born", "gone"]
theorem scTP : FnScope tpN ["tower", "prime", "deep", "stops"] (defScope sTP) := ⟨rfl, rfl, rfl, by decide +kernel, rfl, by decide +kernel, by decide +kernel⟩
theorem ok_tp {f CT CW CP CTb : Addr} {fd : FuncData} (F : L2.Fun K "tower_picture" "tower_picture" sTP f fd) (T : Gb mg) (W : TowK K mg CT) (M8 : ∃ t, mg "MOST_STOPS" = some (.int 8 t)) (cT : Cal P w K mg base 4 "tower_bars" (spBars CT) [])
    (cA : Cal P w K mg base 3 "is_ascending" (G.spAsc K) []) (cL : Cal P w K mg base 6 "line" (spLine CW) []) (cO : Cal P w K mg base 8 "bar_over" (spOver CP CW CTb) []) (cB : Cal P w K mg base 7 "laid_beside" (spLaid CP CW CTb) []) : FnOk P w K mg base CX0 9 f fd ["tower", "prime", "deep", "stops"] (spTP CT CP CW CTb) := by
  obtain ⟨t8, h8⟩ := M8
  refine F.ok scTP (fun vs H Q E h => ?_) (fun cdv A outer s H vs Q E hr h => ?_)
  · obtain ⟨p, b, a, ll, pr, d, ms, rfl, _⟩ := h
    rfl
  · obtain ⟨p, b, a, ll, pr, d, ms, rfl, tow, tr, bare, gd, l40, hpr, d3, ha, m1, m8, up, lo, k⟩ := h
    obtain ⟨as, hb, pt⟩ := id tr
    have la : as.length = ll.length := Paired.length pt
    refine ⟨_, pss_cons (ps_set (i := 4) scTP.nd rfl (Or.inl rfl) (C8.pe_c cT hr (by decide) (by rfl) (pa_cons (pv 0) (pa_cons (pv 1) (pa_cons (pv 2) pa_nil)))))
      (pss_cons (ps_if (PW.pt (pw_or (pt_not (pt_val (C8.pe_c cA hr (by decide) (by rfl) (pa_cons (pe_callB call_len_seq (by rfl) T.len PySem.boot_len (pa_cons (pe_fld (pv 0) rfl) pa_nil)) (pa_cons (pv 3) pa_nil))))) (pw_or1 (pt_not (pt_chain op_le op_le pe_int (pe_callB call_len_seq (by rfl) T.len PySem.boot_len (pa_cons (pv 3) pa_nil)) (pe_glob (v := .int 8) rfl h8 ⟨_, rfl⟩)))))) (pss_one ps_never) pss_nil)
      (pss_cons (ps_set (i := 5) scTP.nd rfl (Or.inl rfl) (C8.pe_c cL hr (by decide) (by rfl) (pa_cons (pe_op op_repS pe_str (pe_op op_sub (pe_callB call_len_seq (by rfl) T.len PySem.boot_len (pa_cons (pv 3) pa_nil)) pe_int)) pa_nil)))
      (pss_cons (ps_set (i := 6) scTP.nd rfl (Or.inl rfl) (pe_lst pa_nil))
      (pss_cons (ps_for PassesOwn.never rfl (pi_tup (pv 4)) (pg_tup rfl (pgs_cons (pg_name (i := 7) scTP.nd rfl (Or.inl rfl)) (pgs_cons (pg_name (i := 8) scTP.nd rfl (Or.inl rfl)) pgs_nil)))
      (pss_one (ps_expr (pe_bm PySem.F.plainAttrs_list PySem.F.slot_list_extend PySem.F.type_list_extend mt_extend (pv 6) (pa_cons (C8.pe_c cO hr (by decide) (by rfl) (pa_cons (pv 5) (pa_cons (pv 1) (pa_cons (pv 3) (pa_cons (pv 7) (pa_cons (pv 8) pa_nil)))))) pa_nil)))))
      (pss_one (ps_ret (C8.pe_c cB hr (by decide) (by rfl) (pa_cons (pv 5) (pa_cons (pv 1) (pa_cons (pv 6) pa_nil)))))))))), ?_⟩
    refine ⟨_, rfl, _, rfl, _, rfl, p, b, ll, pr, d, rfl, tow, tr, bare, gd, l40, hpr, d3, fun tb xs L H1 e1 htb two B => ?_⟩
    obtain ⟨dx, hp⟩ := tow
    have lL : L.length ≤ 40 := by
      have := congrArg List.length B.fst
      rw [List.length_map] at this
      have := bornL_len pr ll d ll.length
      omega
    refine ⟨_, rfl, p, CT, dx, _, _, rfl, e1 _ _ hp, W.cl, W.nC, cf_cells _, b, _, rfl, .inr (.inl (rd_ext e1 hb)), _, rfl, ((as.map V.ref).length : Int), .ref a, _, rfl, td_nats (e1 _ _ ha) (by omega), fun bb H2 hbb e2 => ⟨_, rfl, ?_⟩⟩
    rw [List.length_map, la] at hbb
    have e12 := e1.trans e2
    cases hbb.mpr (asc_nats up lo)
    have ha2 := e12 _ _ ha
    refine iteF ?_
    have lsz : (ms.map nv).length = ms.length := List.length_map ..
    refine ⟨_, rfl, a, _, rfl, .inr (SqT.of ha2), _, _, rfl, rfl, _, rfl, ?_⟩
    refine ite2 (fun h1 => ?_) (fun h1 => absurd (decide_eq_true (by rw [lsz]; omega)) h1)
    refine ⟨_, _, rfl, rfl, _, rfl, ?_⟩
    rw [decide_eq_true (show ((ms.map nv).length : Int) ≤ 8 by rw [lsz]; omega)]
    refine iteF ?_
    refine ⟨_, rfl, a, _, rfl, .inr (SqT.of ha2), _, _, rfl, rfl, 62, ((ms.map nv).length : Int) - 1, rfl, rfl, by rw [lsz]; omega, by rw [lsz]; omega, (((ms.map nv).length : Int) - 1).toNat, rfl, by rw [lsz]; omega, fun wb H3 e3 lw => ⟨Nat.zero_le _, fun l nl => ?_⟩⟩
    have en : (((ms.map nv).length : Int) - 1).toNat + 1 = ms.length := by rw [lsz]; omega
    rw [en] at lw
    have xl := Ext.upd (o := .lst []) nl
    have e4 := (e12.trans e3).trans xl
    have nlH : H l = Option.none := none_of_ext (e12.trans e3) nl
    have hl0 : (upd H3 l (.lst [])) l = some (.lst []) := upd_same
    have htb3 := xl _ _ (e3 _ _ (e2 _ _ htb))
    have bx3 : Two (BarIs (upd H3 l (.lst []))) xs L := two.imp fun _ _ z => z.ext ((e2.trans e3).trans xl)
    have lw3 := lw.ext xl
    have ha3 := xl _ _ (e3 _ _ ha2)
    clear two htb lw ha2 h1 e1 e2 e12 e3 hbb
    generalize upd H3 l (.lst []) = H4 at *
    have kt : ∀ {J : Hp} {q : Addr} {ys : List V}, GoD l H4 J → H4 q = some (.tup ys) → J q = some (.tup ys) := fun {J q ys} g h => g _ _ (fun z => by rw [z, hl0] at h; cases h) h
    have lwJ : ∀ {J : Hp}, GoD l H4 J → LineW CW J wb ms.length := fun {J} g => by
      obtain ⟨dw, ab, q1, arr, q2, q3, q4⟩ := lw3
      exact ⟨dw, ab, g _ _ (fun z => by rw [z, hl0] at q1; cases q1) q1, arr, kt g q2, q3, fun i a h => kt g (q4 i a h)⟩
    have lx := bx3.len
    refine ⟨_, rfl, tb, rfl, ⟨_, SqT.of htb3⟩, ?_⟩
    refine for_it walk_tup (fun i σ' J => ∃ (v7 v8 : Option V) (as' : List Addr) (bes : List (Nat × Nat)), σ' = [some (.ref p), some (.int pr), some (.int (d : Int)), some (.ref a), some (.ref tb), some (.ref wb), some (.ref l), v7, v8] ∧ GoD l H4 J ∧ J l = some (.lst (as'.map V.ref)) ∧ bes.length ≤ i ∧ FoundX ms (L.take i) bes ∧ Two (fun q y => PicX CP CTb J q wb pr (barSs y.1 y.2 ms.length) (barTs y.1 y.2 (ms.length - 1))) as' bes)
      ⟨_, _, [], [], rfl, (fun _ _ _ h => h), hl0, Nat.le_refl _, .nil, .nil⟩ (fun i σ' J _ ⟨_, _, _, _, _, g, _⟩ => SqT.of (kt g htb3)) ?_ ?_
    · rintro i z σ' J J' hi ⟨v7, v8, as', bes, rfl, g, hlJ, lb, fx, gp⟩ ⟨rfl, hz⟩
      obtain ⟨x, hx, q, rfl, hq⟩ := bx3.get hz
      refine ⟨q, _, rfl, SqT.of (kt g hq), rfl, _, _, rfl, _, _, rfl, rfl, ?_⟩
      refine ⟨_, rfl, .inl ⟨rfl, _, SqL.of hlJ⟩, _, rfl, _, rfl, _, rfl, _, rfl, _, rfl, wb, a, pr, x, ms, rfl, lwJ g, m1, m8, up, hpr, kt g ha3, fun l2 as2 b2 J2 x2 hl2 l21 ox gp2 => ?_⟩
      have hlJ2 := x2 _ _ hlJ
      have la' := gp.len
      have la2 := gp2.len
      refine ⟨l, l2, _, _, rfl, rfl, hlJ2, hl2, Nat.le_trans (show _ ≤ 1000 by rw [List.length_map, List.length_map]; omega) (by decide), ?_⟩
      refine ⟨_, _, as' ++ as2, bes ++ b2, rfl, (g.trans (GoD.of x2)).trans GoD.put, by rw [upd_same, List.map_append], by rw [List.length_append]; omega, ?_, Two.app (gp.imp fun _ _ z => (z.ext x2).put hlJ2) (gp2.imp fun _ _ z => z.put hlJ2)⟩
      rw [List.take_succ, hx]
      exact .snoc fx ox
    · rintro σ' J ⟨v7, v8, as', bes, rfl, g, hlJ, lb, fx, gp⟩
      have eJ : Ext H J := fun c o h => g _ _ (fun z => by rw [z, nlH] at h; cases h) (e4 _ _ h)
      rw [List.take_of_length_le (by omega)] at fx
      have lw' := lwJ g
      exact ⟨_, rfl, _, rfl, _, rfl, wb, l, pr, ms.length, as', bes, rfl, lw', m1, m8, hpr, hlJ, by omega, gp.imp fun _ _ z => ⟨wb, z⟩, fun q H' e' hq => k q wb L bes H' (eJ.trans e') B fx (by omega) (lw'.ext e') hq⟩
end
end O42

set_option Elab.async false
set_option linter.all false
set_option maxRecDepth 100000
set_option maxHeartbeats 4000000
set_option pp.maxSteps 100
/-! _law_grows. -/
namespace O42
open PySem L2 M40
abbrev sGro : Stmt := top 65
variable {zz : Addr}
/-- a row kept in a basis -/
def BE (p : Int) (n : Nat) (zz : Addr) (H : Hp) (c : Addr) (k : Nat × Vc) : Prop := ∃ o : Addr, H c = some (.tup [nv k.1, .ref o]) ∧ k.1 < n ∧ RowV p n H o k.2 ∧ o ≠ zz
def BasV (p : Int) (n : Nat) (zz : Addr) (H : Hp) (bl : Addr) (ks : List (Nat × Vc)) : Prop := ∃ cs : List Addr, H bl = some (.lst (cs.map V.ref)) ∧ Two (BE p n zz H) cs ks
theorem RowV.ne {p : Int} {n : Nat} {H : Hp} {o bl : Addr} {v : Vc} {cs : List Addr} (n0 : 0 < n) (h : RowV p n H o v) (hb : H bl = some (.lst (cs.map V.ref))) : o ≠ bl := fun e => by
  obtain ⟨ns, h1, g, _⟩ := h
  rw [e, hb] at h1
  injection h1 with h1
  injection h1 with h1
  cases ns with
  | nil =>
    have := g.1
    simp at this
    omega
  | cons x ns =>
    cases cs with
    | nil => cases h1
    | cons c cs =>
      injection h1 with h1
      cases h1
theorem BE.go {p : Int} {n : Nat} {H H' : Hp} {c bl : Addr} {k : Nat × Vc} {cs : List Addr} (hb : H bl = some (.lst (cs.map V.ref))) (g : GoD bl H H') (h : BE p n zz H c k) : BE p n zz H' c k := by
  obtain ⟨o, h1, h2, h3, h4⟩ := h
  refine ⟨o, g _ _ (fun e => by rw [e, hb] at h1; cases h1) h1, h2, ?_, h4⟩
  have ne := h3.ne (by omega) hb
  obtain ⟨ns, a, b⟩ := h3
  exact ⟨ns, g _ _ ne a, b⟩
theorem BE.ext {p : Int} {n : Nat} {H H' : Hp} {c : Addr} {k : Nat × Vc} (x : Ext H H') (h : BE p n zz H c k) : BE p n zz H' c k := let ⟨o, h1, h2, h3, h4⟩ := h; ⟨o, x _ _ h1, h2, h3.ext x, h4⟩
theorem BasV.ext {p : Int} {n : Nat} {H H' : Hp} {bl : Addr} {ks : List (Nat × Vc)} (x : Ext H H') (h : BasV p n zz H bl ks) : BasV p n zz H' bl ks := let ⟨cs, h1, h2⟩ := h; ⟨cs, x _ _ h1, h2.imp fun _ _ z => z.ext x⟩
/-- another basis stays -/
theorem BasV.go {p : Int} {n : Nat} {H H' : Hp} {bl b2 : Addr} {ks : List (Nat × Vc)} {cs : List Addr} (hb : H bl = some (.lst (cs.map V.ref))) (ne : b2 ≠ bl) (g : GoD bl H H') (h : BasV p n zz H b2 ks) : BasV p n zz H' b2 ks := let ⟨cs, h1, h2⟩ := h; ⟨cs, g _ _ ne h1, h2.imp fun _ _ z => z.go hb g⟩
/-- another list is written to -/
theorem BasV.put {p : Int} {n : Nat} {H : Hp} {b2 : Addr} {ks : List (Nat × Vc)} {xs ys : List V} (hz : H zz = some (.lst xs)) (ne : b2 ≠ zz) (h : BasV p n zz H b2 ks) : BasV p n zz (upd H zz (.lst ys)) b2 ks := by
  obtain ⟨cs, h1, h2⟩ := h
  refine ⟨cs, by rw [upd_ne ne]; exact h1, h2.imp fun c k ⟨o, a1, a2, ⟨ns, a3, a4⟩, a5⟩ => ⟨o, ?_, a2, ⟨ns, by rw [upd_ne a5]; exact a3, a4⟩, a5⟩⟩
  rw [upd_ne fun e => by rw [e, hz] at a1; cases a1]
  exact a1
def spGro : Sp := fun vs H Q _ => ∃ (p : Int) (n : Nat) (bl cl zz : Addr) (v : Vc) (U : List Vc) (ks : List (Nat × Vc)), vs = [.int p, .ref bl, .ref cl] ∧ Pr p ∧ n ≤ 1000 ∧ RowV p n H cl v ∧ (∃ oz, H zz = some oz) ∧ BasV p n zz H bl ks ∧ ks.length ≤ 900 ∧ BasOf p n U ks ∧
  (∀ H' : Hp, GoD bl H H' → BasV p n zz H' bl ks → M40.Sp p n U v → BasOf p n (U ++ [v]) ks → Q (.bl false) H') ∧ ∀ (k : Nat × Vc) (H' : Hp), GoD bl H H' → BasV p n zz H' bl (ks ++ [k]) → ¬ M40.Sp p n U v → BasOf p n (U ++ [v]) (ks ++ [k]) → Q (.bl true) H'
section
variable {P : Program} {w : World} {K : PySem.W.Frag} {mg : Str → Option Value} {base : Heap}
abbrev groN : List Str := ["_law_prime","_law_basis","_law_column","_law_left","_law_place","_law_other","_law_by","_law_at","_law_worth","_law_places","_law_first","_law_back"]
theorem scGro : FnScope groN ["_law_prime", "_law_basis", "_law_column"] (defScope sGro) := ⟨rfl, rfl, rfl, by decide +kernel, rfl, by decide +kernel, by decide +kernel⟩
theorem ok_gro {f : Addr} {fd : FuncData} (F : L2.Fun K "_law_grows" "_law_grows" sGro f fd) (T : Gb mg) : FnOk P w K mg base CX0 2 f fd ["_law_prime", "_law_basis", "_law_column"] spGro := by
  refine F.ok scGro (fun vs H Q E h => ?_) (fun cdv A outer s H vs Q E hr h => ?_)
  · obtain ⟨p, n, bl, cl, zz, v, U, ks, rfl, _⟩ := h
    rfl
  · obtain ⟨p, n, bl, cl, zz, v, U, ks, rfl, hp, n1000, hcl, ⟨oz, hzz⟩, ⟨cs, hbl, tb⟩, l900, bas, kF, kT⟩ := h
    have hp' := hp.le
    obtain ⟨ns, hns, g, ev⟩ := id hcl
    refine ⟨_, pss_cons (ps_set (i := 3) scGro.nd rfl (Or.inl rfl) (pe_callTy call_list_of (by rfl) T.list (by decide +kernel) (pa_cons (pv 2) pa_nil)))
      (C8.pss_cut (ps_for PassesOwn.never rfl (pi_list (pv 1)) (pg_tup rfl (pgs_cons (pg_name (i := 4) scGro.nd rfl (Or.inl rfl)) (pgs_cons (pg_name (i := 5) scGro.nd rfl (Or.inr rfl)) pgs_nil)))
      (pss_cons (ps_set (i := 6) scGro.nd rfl (Or.inr rfl) (pe_ix ix_list (pv 3) (pv 4) (fun _ _ => rfl)))
      (pss_one (ps_if (pt_cmpR op_ne (pv 6) pe_int (nomark _)) (pss_one (ps_setLc (i := 3) (own := [("_law_at", 7), ("_law_worth", 8)]) (g := gTup K 2 (gCons (gName 7) (gCons (gName 8) gNil))) (tt := tYes) rfl scGro.nd rfl rfl (sw_true rfl rfl rfl (by decide +kernel)) (pi_enum (by rfl) T.enum (pa_cons (pv 3) pa_nil)) (blkOk_by (N := groN) (sc := defScope sGro) (by decide +kernel)) (fun _ _ _ _ _ => (pg_tup rfl (pgs_cons (pg_name (i := 7) scGro.nd rfl (Or.inl rfl)) (pgs_cons (pg_name (i := 8) scGro.nd rfl (Or.inl rfl)) pgs_nil)))) (fun _ _ _ _ _ => pts_nil) (fun _ _ _ _ _ => (pe_op op_mod (pe_callTy call_int1 (by rfl) T.int (by decide +kernel) (pa_cons (pe_op op_sub (pv 8) (pe_op op_mul (pv 6) (pe_ix (r := rIxL K) ix_list (pv 5) (pv 7) (fun _ _ => rfl)))) pa_nil)) (pv 0))))) pss_nil))))
      (C8.pss_cut (ps_setLc (i := 9) (own := [("_law_at", 7), ("_law_worth", 8)]) (g := gTup K 2 (gCons (gName 7) (gCons (gName 8) gNil))) rfl scGro.nd rfl rfl (sw_true rfl rfl rfl (by decide +kernel)) (pi_enum (by rfl) T.enum (pa_cons (pv 3) pa_nil)) (blkOk_by (N := groN) (sc := defScope sGro) (by decide +kernel)) (fun _ _ _ _ _ => (pg_tup rfl (pgs_cons (pg_name (i := 7) scGro.nd rfl (Or.inl rfl)) (pgs_cons (pg_name (i := 8) scGro.nd rfl (Or.inl rfl)) pgs_nil)))) (fun _ _ _ _ _ => (pts_one (pt_cmpR op_ne (pv 8) pe_int (nomark _)))) (fun _ _ _ _ _ => (pv 7)))
      (pss_cons (ps_if (pt_cmpR op_eq (pe_callB call_len_seq (by rfl) T.len PySem.boot_len (pa_cons (pv 9) pa_nil)) pe_int (nomark _)) (pss_one (ps_ret pe_bl)) pss_nil)
      (pss_cons (ps_set (i := 10) scGro.nd rfl (Or.inr rfl) (pe_ix ix_list (pv 3) (pe_ix ix_list (pv 9) pe_int (fun _ _ => rfl)) (fun _ _ => rfl)))
      (C8.pss_cut (ps_set (i := 11) scGro.nd rfl (Or.inr rfl) (pe_ix ix_list (pe_lc (own := [("_law_by", 6)]) (g := gName 6) rfl scGro.nd (pi_range2 (by rfl) T.rng (pa_cons pe_int (pa_cons (pv 0) pa_nil))) (blkOk_by (N := groN) (sc := defScope sGro) (by decide +kernel)) (fun _ _ _ _ _ => (pg_name (i := 6) scGro.nd rfl (Or.inl rfl))) (fun _ _ _ _ _ => (pts_one (pt_cmpR op_eq (pe_op op_mod (pe_callTy call_int1 (by rfl) T.int (by decide +kernel) (pa_cons (pe_op op_mul (pv 6) (pv 10)) pa_nil)) (pv 0)) pe_int (nomark _)))) (fun _ _ _ _ _ => (pv 6))) pe_int (fun _ _ => rfl)))
      (pss_cons (ps_expr (pe_bm PySem.F.plainAttrs_list PySem.F.slot_list_append PySem.F.type_list_append mt_append (pv 1) (pa_cons (pe_tup (pa_cons (pe_ix ix_list (pv 9) pe_int (fun _ _ => rfl)) (pa_cons (pe_lc (own := [("_law_worth", 8)]) (g := gName 8) (tt := tYes) rfl scGro.nd (pi_list (pv 3)) (blkOk_by (N := groN) (sc := defScope sGro) (by decide +kernel)) (fun _ _ _ _ _ => (pg_name (i := 8) scGro.nd rfl (Or.inl rfl))) (fun _ _ _ _ _ => pts_nil) (fun _ _ _ _ _ => (pe_op op_mod (pe_callTy call_int1 (by rfl) T.int (by decide +kernel) (pa_cons (pe_op op_mul (pv 8) (pv 11)) pa_nil)) (pv 0)))) pa_nil))) pa_nil)))
      (pss_one (ps_ret pe_bl)))))))), ?_⟩
    refine ⟨_, rfl, cl, _, rfl, .inl (SqL.of hns), fun l0 nl0 => ?_⟩
    have x0 := Ext.upd (o := .lst (ns.map V.int)) nl0
    have hl0 : RowV p n (upd H l0 (.lst (ns.map V.int))) l0 v := ⟨ns, upd_same, g, ev⟩
    have hbl0 := x0 _ _ hbl
    have tb0 := tb.imp fun _ _ z => z.ext x0
    have nlH : H l0 = none := nl0
    generalize upd H l0 (.lst (ns.map V.int)) = H0 at *
    -- cleared
    refine ⟨fun σ' J => ∃ (lf : Addr) (z : Vc) (v4 v5 v6 : Option V), σ' = [some (.int p), some (.ref bl), some (.ref cl), some (.ref lf), v4, v5, v6, Option.none, Option.none, Option.none, Option.none, Option.none] ∧ Ext H J ∧ RowV p n J lf z ∧ Rest p n ks v z, ?_, ?_⟩
    · refine ⟨_, rfl, bl, rfl, ⟨_, SqL.of hbl0⟩, for_list (K := K) (a := bl) (xs := cs.map V.ref) (fun u σ' J => ∃ (lf : Addr) (z : Vc) (v4 v5 v6 : Option V), σ' = [some (.int p), some (.ref bl), some (.ref cl), some (.ref lf), v4, v5, v6, Option.none, Option.none, Option.none, Option.none, Option.none] ∧ Ext H0 J ∧ RowV p n J lf z ∧ (∃ s, M40.Sp p n (ks.map Prod.snd) s ∧ Al p n z fun i => v i - s i) ∧ ∀ t k, t < u → ks[t]? = some k → p ∣ z k.1) ⟨l0, v, _, _, _, rfl, Ext.rfl', hl0, ⟨zeroV, .zero _ (Al.refl _), fun i hi => by
        show p ∣ v i - (v i - 0)
        rw [Int.sub_zero, Int.sub_self]
        exact Int.dvd_zero p⟩, fun t k h => absurd h (Nat.not_lt_zero t)⟩ (fun u σ' J _ ⟨_, _, _, _, _, _, e, _⟩ => SqL.of (e _ _ hbl0)) ?_ ?_⟩
      · rintro u y σ' J hy ⟨lf, z, v4, v5, v6, rfl, xJ, hz, ⟨s0, sp0, al0⟩, off⟩
        obtain ⟨c, hc, rfl⟩ := ref_get hy
        obtain ⟨kk, hkk, o, hco, an, ho, _⟩ := tb0.get hc
        have hco := xJ _ _ hco
        have ho := ho.ext xJ
        obtain ⟨ms, hms, gz, ez⟩ := id hz
        obtain ⟨os, hos, go, eo⟩ := id ho
        obtain ⟨c0, cp⟩ := hz.bd an
        have km := List.mem_of_getElem? hkk
        refine ⟨c, _, rfl, SqT.of hco, rfl, _, _, rfl, _, _, rfl, rfl, ?_⟩
        refine ⟨_, rfl, _, rfl, lf, _, (kk.1 : Int), .int (z kk.1), rfl, rfl, SqL.of hms, RowV.at gz ez an, ?_⟩
        refine ⟨_, rfl, rfl, _, rfl, ?_⟩
        refine ite2 (fun _ => ?_) (fun nz => ⟨lf, z, _, _, _, rfl, xJ, hz, ⟨s0, sp0, al0⟩, fun t' k' h1 h2 => ?_⟩)
        · dsimp only [tAsg, gName]
          refine ⟨_, rfl, lf, _, rfl, SqL.of hms, fun D nD => ?_⟩
          refine lc_gen (n := (ms.map V.int).length) (p := fun _ => true) walk_enum nD (by rw [List.length_map, gz.1]; exact n1000) (fun i y _ => y = V.int ((z i - z kk.1 * kk.2 i) % p)) (fun _ _ _ _ _ z => z) (fun H' e => SqL.of (e _ _ hms)) ?_ ?_
          · rintro j y J1 J2 R N hj e7 ⟨t, x, w, rfl, nt, rfl, hx, hw⟩ hR hN
            cases hx
            obtain ⟨m, hm, rfl⟩ := map_int_get hw
            have jn : j < n := by rw [List.length_map, gz.1] at hj; exact hj
            have em : m = z j := by rw [← ez j jn, List.getD_eq_getElem?_getD, hm]; rfl
            subst em
            have et := Ext.upd (o := .tup [V.int (j : Int), .int (z j)]) nt
            refine ⟨t, _, rfl, SqT.of upd_same, rfl, _, _, rfl, _, _, rfl, rfl, rfl, tyes_in ?_⟩
            refine ⟨_, rfl, _, rfl, _, rfl, _, rfl, o, _, (j : Int), .int (kk.2 j), rfl, rfl, SqL.of (et _ _ (e7 _ _ hos)), RowV.at go eo jn, _, _, rfl, rfl, cmul (by omega) (by omega), _, _, rfl, rfl, .inl ⟨_, rfl, _, rfl, _, _, rfl, rfl, by omega, ?_⟩⟩
            exact hR rfl _ _ et rfl
          intro ys J2 e2 hD pp
          obtain ⟨rs, rfl, gr, er⟩ := row_of (f := fun i => (z i - z kk.1 * kk.2 i) % p) (fun i => ⟨Int.emod_nonneg _ (by omega), Int.emod_lt_of_pos _ (by omega)⟩) pp
          rw [List.length_map, gz.1] at gr er
          have a1 : Al p n (fun i => (z i - z kk.1 * kk.2 i) % p) fun i => z i - z kk.1 * kk.2 i := al_mod fun _ _ => rfl
          refine ⟨D, fun i => (z i - z kk.1 * kk.2 i) % p, _, _, _, rfl, xJ.trans e2, ⟨rs, hD, gr, er⟩, ⟨fun i => s0 i + z kk.1 * kk.2 i, .add (z kk.1) kk.2 s0 _ (List.mem_map_of_mem (f := Prod.snd) km) sp0 (Al.refl _), fun i hi => ?_⟩, fun t' k' h1 h2 => ?_⟩
          · have := Int.dvd_add (a1 i hi) (al0 i hi)
            dsimp only at this ⊢
            rwa [show ∀ X : Int, X - (z i - z kk.1 * kk.2 i) + (z i - (v i - s0 i)) = X - (v i - (s0 i + z kk.1 * kk.2 i)) by intro X; omega] at this
          · have kN := (bas.tri.lt k' (List.mem_of_getElem? h2)).1
            have a2 := a1 k'.1 kN
            dsimp only at a2 ⊢
            by_cases e : t' = u
            · subst e
              rw [hkk] at h2
              cases h2
              have := Int.dvd_sub a2 (dml (z kk.1) (bas.tri.lt kk km).2)
              rwa [show ∀ X : Int, X - (z kk.1 - z kk.1 * kk.2 kk.1) - z kk.1 * (kk.2 kk.1 - 1) = X by intro X; grind] at this
            · have := Int.dvd_sub (Int.dvd_add a2 (off t' k' (by omega) h2)) (dml (z kk.1) (bas.tri.later h2 hkk (by omega)))
              rwa [show ∀ X : Int, X - (z k'.1 - z kk.1 * kk.2 k'.1) + z k'.1 - z kk.1 * kk.2 k'.1 = X by intro X; omega] at this
        · by_cases e : t' = u
          · subst e
            rw [hkk] at h2
            cases h2
            have z0 : z kk.1 = 0 := Classical.byContradiction fun ne => nz (by
              have : decide (V.int (z kk.1) = V.int 0) = false := decide_eq_false fun q => ne (by injection q)
              rw [this]
              rfl)
            rw [z0]
            exact Int.dvd_zero p
          · exact off t' k' (by omega) h2
      · rintro σ' J ⟨lf, z, v4, v5, v6, rfl, xJ, hz, made, off⟩
        refine ⟨lf, z, _, _, _, rfl, x0.trans xJ, hz, made, fun k' hk' => ?_⟩
        obtain ⟨t, ht⟩ := List.getElem?_of_mem hk'
        exact off t k' (by rw [List.length_map, tb0.len]; exact (List.getElem?_eq_some_iff.mp ht).1) ht
    rintro σ' J ⟨lf, z, v4, v5, v6, rfl, xJ, hz, rest⟩
    clear tb0 hbl0 hl0 x0
    obtain ⟨ms, hms, gz, ez⟩ := id hz
    -- the places that are not 0
    refine ⟨fun σ' J' => ∃ pl : Addr, σ' = [some (.int p), some (.ref bl), some (.ref cl), some (.ref lf), v4, v5, v6, Option.none, Option.none, some (.ref pl), Option.none, Option.none] ∧ Ext J J' ∧ J' pl = some (.lst (((List.range n).filter fun i => decide (z i ≠ 0)).map nv)), ?_, ?_⟩
    · dsimp only [tAsg, gName]
      refine ⟨_, rfl, lf, _, rfl, SqL.of hms, fun D nD => ?_⟩
      refine lc_gen (n := (ms.map V.int).length) (p := fun i => decide (z i ≠ 0)) walk_enum nD (by rw [List.length_map, gz.1]; exact n1000) (fun i y _ => y = V.int (i : Int)) (fun _ _ _ _ _ z => z) (fun H' e => SqL.of (e _ _ hms)) ?_ ?_
      · rintro j y J1 J2 R N hj e7 ⟨t, x, w, rfl, nt, rfl, hx, hw⟩ hR hN
        cases hx
        obtain ⟨m, hm, rfl⟩ := map_int_get hw
        have jn : j < n := by rw [List.length_map, gz.1] at hj; exact hj
        have em : m = z j := by rw [← ez j jn, List.getD_eq_getElem?_getD, hm]; rfl
        subst em
        have et := Ext.upd (o := .tup [V.int (j : Int), .int (z j)]) nt
        refine ⟨t, _, rfl, SqT.of upd_same, rfl, _, _, rfl, _, _, rfl, rfl, rfl, ?_⟩
        refine ⟨_, rfl, rfl, _, rfl, ?_⟩
        refine ite2 (fun q => ?_) (fun q => ?_)
        · exact ⟨_, rfl, hR (decide_eq_true fun e => by rw [e] at q; exact absurd q (by decide)) _ _ et rfl⟩
        · refine hN (decide_eq_false fun ne => q ?_) _ et
          have : decide (V.int (z j) = V.int 0) = false := decide_eq_false fun q => ne (by injection q)
          rw [this]
          rfl
      intro ys J2 e2 hD pp
      have e := vals_of (f := fun i => V.int (i : Int)) pp
      rw [List.length_map, gz.1] at e
      exact ⟨D, rfl, e2, by rw [hD, e]⟩
    rintro σ' J1 ⟨pl, rfl, x1, hpl⟩
    have hz1 := hz.ext x1
    have xJ1 := xJ.trans x1
    have lpl : ((List.range n).filter fun i => decide (z i ≠ 0)).length ≤ n := Nat.le_trans (List.length_filter_le _ _) (by rw [List.length_range]; exact Nat.le_refl _)
    have mpl : ∀ i, i ∈ ((List.range n).filter fun i => decide (z i ≠ 0)) ↔ i < n ∧ z i ≠ 0 := fun i => by
      rw [List.mem_filter, List.mem_range, decide_eq_true_eq]
    generalize ((List.range n).filter fun i => decide (z i ≠ 0)) = pls at *
    refine ⟨_, rfl, pl, _, rfl, .inl (SqL.of hpl), rfl, _, rfl, ?_⟩
    refine ite2 (fun q => ?_) (fun q => ?_)
    · have e : pls = [] := by
        have := of_decide_eq_true q
        injection this with this
        rw [List.length_map] at this
        exact List.eq_nil_of_length_eq_zero (by omega)
      obtain ⟨h1, h2⟩ := bas.same rest fun i hi => by
        show p ∣ z i - 0
        have z0 : z i = 0 := Classical.byContradiction fun ne => by
          have := (mpl i).mpr ⟨hi, ne⟩
          rw [e] at this
          cases this
        rw [z0]
        exact Int.dvd_zero p
      exact kF J1 (GoD.of xJ1) ⟨cs, xJ1 _ _ hbl, tb.imp fun _ _ z => z.ext xJ1⟩ h1 h2
    obtain ⟨a, pls', epl⟩ : ∃ a pls', pls = a :: pls' := by
      cases pls with
      | nil => exact absurd (decide_eq_true rfl) q
      | cons a r => exact ⟨a, r, rfl⟩
    subst epl
    obtain ⟨an, za⟩ := (mpl a).mp List.mem_cons_self
    obtain ⟨a0, ap⟩ := hz.bd an
    have hpl0 : atI ((a :: pls').map nv) 0 = some (nv a) := at_of (j := 0) rfl rfl
    obtain ⟨ms1, hms1, gz1, ez1⟩ := id hz1
    refine ⟨_, rfl, _, rfl, pl, _, (0 : Int), nv a, rfl, rfl, SqL.of hpl, hpl0, lf, _, (a : Int), .int (z a), rfl, rfl, SqL.of hms1, RowV.at gz1 ez1 an, ?_⟩
    -- what undoes it
    refine ⟨fun σ' J' => ∃ c : Int, σ' = [some (.int p), some (.ref bl), some (.ref cl), some (.ref lf), v4, v5, v6, Option.none, Option.none, some (.ref pl), some (.int (z a)), some (.int c)] ∧ Ext J1 J' ∧ 0 < c ∧ c < p ∧ p ∣ z a * c - 1, ?_, ?_⟩
    · have zpos : 0 < z a := by omega
      refine ⟨_, rfl, 1, p, rfl, ⟨by decide, by decide, by omega, by omega⟩, fun D nD => lc_range (lo := 1) (n := (p - 1).toNat) (fun i J' => Ext J1 J' ∧ J' D = some (.lst (((List.range i).filter fun k : Nat => decide ((1 + (k : Int)) * z a % p = 1)).map fun k : Nat => V.int (1 + (k : Int))))) ⟨Ext.upd nD, upd_same⟩ ?_ ?_⟩
      · rintro i J' hi ⟨x2, hD⟩
        have li : ((List.range i).filter fun k : Nat => decide ((1 + (k : Int)) * z a % p = 1)).length ≤ i := Nat.le_trans (List.length_filter_le _ _) (by rw [List.length_range]; exact Nat.le_refl _)
        have st : (List.range (i + 1)).filter (fun k : Nat => decide ((1 + (k : Int)) * z a % p = 1)) = (List.range i).filter (fun k : Nat => decide ((1 + (k : Int)) * z a % p = 1)) ++ (if (1 + (i : Int)) * z a % p = 1 then [i] else []) := by
          rw [List.range_succ, List.filter_append]
          congr 1
          by_cases e : (1 + (i : Int)) * z a % p = 1 <;> simp [e]
        refine ⟨rfl, _, rfl, _, rfl, _, _, rfl, rfl, cmul (by omega) (by omega), .inl ⟨_, rfl, _, rfl, _, _, rfl, rfl, by omega, rfl, _, rfl, ?_⟩⟩
        refine ite2 (fun q => ?_) (fun q => ?_)
        · have e : (1 + (i : Int)) * z a % p = 1 := by
            have := of_decide_eq_true q
            injection this
          refine ⟨_, rfl, _, hD, by rw [List.length_map]; exact small1000 (by omega), fun b' o' hb' => ?_, ?_⟩
          · rw [upd_ne (ne_of_none hb' nD)]
            exact x2 _ _ hb'
          · rw [upd_same, st, if_pos e, List.map_append]
            rfl
        · refine ⟨x2, ?_⟩
          rw [st, if_neg (fun e => q (decide_eq_true (by show V.int ((1 + (i : Int)) * z a % p) = V.int 1; rw [e]))), List.append_nil]
          exact hD
      · rintro J' ⟨x2, hD⟩
        obtain ⟨k0, hk0, ek0⟩ := inv_ex hp zpos ap
        rw [Int.mul_comm] at ek0
        have m0 : k0 ∈ (List.range (p - 1).toNat).filter fun k : Nat => decide ((1 + (k : Int)) * z a % p = 1) := List.mem_filter.mpr ⟨List.mem_range.mpr hk0, decide_eq_true ek0⟩
        have all : ∀ k, k ∈ (List.range (p - 1).toNat).filter (fun k : Nat => decide ((1 + (k : Int)) * z a % p = 1)) → k < (p - 1).toNat ∧ (1 + (k : Int)) * z a % p = 1 := fun k hk => by
          obtain ⟨h1, h2⟩ := List.mem_filter.mp hk
          exact ⟨List.mem_range.mp h1, of_decide_eq_true h2⟩
        generalize (List.range (p - 1).toNat).filter (fun k : Nat => decide ((1 + (k : Int)) * z a % p = 1)) = ll at *
        cases ll with
        | nil => cases m0
        | cons k r =>
          obtain ⟨h1, h2⟩ := all k List.mem_cons_self
          refine ⟨D, _, (0 : Int), V.int (1 + (k : Int)), rfl, rfl, SqL.of hD, at_of (j := 0) rfl rfl, 1 + (k : Int), rfl, x2, by omega, by omega, ⟨(1 + (k : Int)) * z a / p, ?_⟩⟩
          have := Int.emod_add_mul_ediv ((1 + (k : Int)) * z a) p
          rw [Int.mul_comm (z a)]
          omega
    rintro σ' J2 ⟨c, rfl, x2, c0, cp, cz⟩
    have hms2 := x2 _ _ hms1
    have hbl2 := x2 _ _ (xJ1 _ _ hbl)
    have hpl2 := x2 _ _ hpl
    refine ⟨_, rfl, .inl ⟨rfl, _, SqL.of hbl2⟩, _, rfl, pl, _, (0 : Int), nv a, rfl, rfl, SqL.of hpl2, hpl0, _, rfl, lf, rfl, ⟨_, SqL.of hms2⟩, fun D nD => ?_⟩
    refine lc_gen (n := (ms1.map V.int).length) (p := fun _ => true) walk_list nD (by rw [List.length_map, gz1.1]; exact n1000) (fun i y _ => y = V.int (z i * c % p)) (fun _ _ _ _ _ z => z) (fun H' e => SqL.of (e _ _ hms2)) ?_ ?_
    · rintro j y J3 J4 R N hj e7 ⟨rfl, hy⟩ hR hN
      obtain ⟨m, hm, rfl⟩ := map_int_get hy
      have jn : j < n := by rw [List.length_map, gz1.1] at hj; exact hj
      have em : m = z j := by rw [← ez1 j jn, List.getD_eq_getElem?_getD, hm]; rfl
      subst em
      obtain ⟨b1, b2⟩ := hz.bd jn
      refine ⟨rfl, tyes_in ⟨_, rfl, _, rfl, _, _, rfl, rfl, cmul (by omega) (by omega), .inl ⟨_, rfl, _, rfl, _, _, rfl, rfl, by omega, ?_⟩⟩⟩
      exact hR rfl _ _ Ext.rfl' rfl
    intro ys J3 e3 hD pp
    obtain ⟨rs, rfl, gr, er⟩ := row_of (f := fun i => z i * c % p) (fun i => ⟨Int.emod_nonneg _ (by omega), Int.emod_lt_of_pos _ (by omega)⟩) pp
    rw [List.length_map, gz1.1] at gr er
    have Dz : D ≠ zz := fun e => by rw [e, x2 _ _ (xJ1 _ _ hzz)] at nD; cases nD
    refine ⟨by show 2 ≤ sizeLine; decide, fun t nt => ?_⟩
    have e4 := Ext.upd (o := .tup [nv a, V.ref D]) nt
    have x24 := x2.trans (e3.trans e4)
    have hbl4 := e4 _ _ (e3 _ _ hbl2)
    have tb4 := tb.imp fun _ _ z => z.ext (xJ1.trans x24)
    have ht : (upd J3 t (.tup [nv a, V.ref D])) t = some (.tup [nv a, V.ref D]) := upd_same
    have hD4 := e4 _ _ hD
    generalize upd J3 t (.tup [nv a, V.ref D]) = J4 at *
    have lcs := tb.len
    refine ⟨bl, _, .ref t, rfl, rfl, hbl4, small1000 (by rw [List.length_map]; omega), ?_⟩
    have put : GoD bl J4 (upd J4 bl (.lst (cs.map V.ref ++ [.ref t]))) := GoD.put
    have ry : RowV p n J4 D (fun i => z i * c % p) := ⟨rs, hD4, gr, er⟩
    obtain ⟨h1, h2⟩ := bas.more (y := fun i => z i * c % p) rest an (fun d => za ((hz.zero an).mp d)) cz (al_mod fun _ _ => rfl)
    refine kT (a, fun i => z i * c % p) _ ((GoD.of (xJ1.trans x24)).trans put) ⟨cs ++ [t], by rw [upd_same, List.map_append]; rfl, (tb4.imp fun _ _ z => z.go hbl4 put).snoc (BE.go hbl4 put ⟨D, ht, an, ry, Dz⟩)⟩ h1 h2
end
end O42

set_option Elab.async false
set_option linter.all false
set_option maxRecDepth 100000
set_option maxHeartbeats 4000000
set_option pp.maxSteps 100
/-! _law_rim. -/
namespace O42
open PySem L2 M40
abbrev sLri : Stmt := top 66
/-- a list of cells -/
def CLs (H : Hp) (b : Addr) (ll : List (List Int)) : Prop := ∃ as : List Addr, H b = some (.lst (as.map V.ref)) ∧ PT2 H as ll
theorem CLs.ext {H H' : Hp} {b : Addr} {ll : List (List Int)} (e : Ext H H') (h : CLs H b ll) : CLs H' b ll := let ⟨as, h1, h2⟩ := h; ⟨as, e _ _ h1, PT2.mono (fun _ _ z => e _ _ z) h2⟩
def rimU (p : Int) (ll : List (List Int)) (fs : List (List Int)) : Vc := fun i => sgF p 0 fs (ll.getD i [])
def spLRim : Sp := fun vs H Q _ => ∃ (b c : Addr) (l : List Int) (ll : List (List Int)) (p : Int), vs = [.ref b, .int p, .ref c] ∧ CLs H b ll ∧ H c = some (.tup (l.map V.int)) ∧ 1 ≤ l.length ∧ l.length ≤ 4 ∧ (∀ f ∈ facesL l, f ∈ ll) ∧ ll.Nodup ∧ (facesL l).Nodup ∧ Pr p ∧ ll.length ≤ 1000 ∧ ∀ (q : Addr) (H' : Hp), Ext H H' → RowV p ll.length H' q (rimU p ll (facesL l)) → Q (.ref q) H'
theorem lrim_step {p : Int} {ll fs : List (List Int)} {ns : List Int} {u j : Nat} {f : List Int} {v : Int} (nd : ll.Nodup) (nf : fs.Nodup) (hf : fs[u]? = some f) (hj : ll[j]? = some f) (ln : ns.length = ll.length) (ev : v = sg p u)
    (h : ∀ i, i < ll.length → ns.getD i 0 = rimU p ll (fs.take u) i) : ∀ i, i < ll.length → (ns.set j v).getD i 0 = rimU p ll (fs.take (u + 1)) i := fun i hi => by
  have jl := (List.getElem?_eq_some_iff.mp hj).1
  have ul := (List.getElem?_eq_some_iff.mp hf).1
  have nin : f ∉ fs.take u := fun m => by
    obtain ⟨a, ha, ea⟩ := List.mem_iff_getElem.mp m
    rw [List.length_take] at ha
    rw [List.getElem_take] at ea
    have := nd_at nf (i := a) (j := u) (c := f) (by rw [List.getElem?_eq_getElem (by omega), ea]) hf
    omega
  have hi' := h i hi
  unfold rimU at hi' ⊢
  rw [take_snoc hf, sgF_snoc nin, List.length_take, Nat.min_eq_left (by omega), Nat.zero_add]
  rw [List.getD_eq_getElem?_getD (l := ns.set j v)]
  by_cases e : i = j
  · subst e
    rw [List.getElem?_set_self (by omega), getD_of hj, if_pos rfl, ev]
    rfl
  · rw [List.getElem?_set_ne (fun z => e z.symm), ← List.getD_eq_getElem?_getD, hi', if_neg]
    intro z
    have := nd_at nd (i := j) (j := i) (c := f) hj (by rw [getD_lt hi, ← z])
    omega
section
variable {P : Program} {w : World} {K : PySem.W.Frag} {mg : Str → Option Value} {base : Heap}
abbrev lriN : List Str := ["_law_cells","_law_prime","_law_cell","_law_found","_law_at","_law_face"]
theorem scLri : FnScope lriN ["_law_cells", "_law_prime", "_law_cell"] (defScope sLri) := ⟨rfl, rfl, rfl, by decide +kernel, rfl, by decide +kernel, by decide +kernel⟩
theorem ok_lri {f : Addr} {fd : FuncData} (F : L2.Fun K "_law_rim" "_law_rim" sLri f fd) (T : Gb mg) (cF : Cal P w K mg base 1 "_law_faces" spFaces []) : FnOk P w K mg base CX0 2 f fd ["_law_cells", "_law_prime", "_law_cell"] spLRim := by
  refine F.ok scLri (fun vs H Q E h => ?_) (fun cdv A outer s H vs Q E hr h => ?_)
  · obtain ⟨b, c, l, ll, p, rfl, _⟩ := h
    rfl
  · obtain ⟨b, c, l, ll, p, rfl, ⟨as, hb, pt⟩, hc, l1, l4, fs, nd, nf, hp, ln, k⟩ := h
    have hp' := hp.le
    have hu65 : (A.deeper (PyProof.Rows.envOfC "_law_rim" (defScope sLri) s.heap.objs.size f cdv)).units + 65 < cLine := by
      have := hr.un
      have e : (A.deeper (PyProof.Rows.envOfC "_law_rim" (defScope sLri) s.heap.objs.size f cdv)).units = A.units + 3 := rfl
      omega
    have la : as.length = ll.length := Paired.length pt
    refine ⟨_, pss_cons (ps_set (i := 3) scLri.nd rfl (Or.inl rfl) (pe_op op_rep (pe_lst (pa_cons pe_int pa_nil)) (pe_callB call_len_seq (by rfl) T.len PySem.boot_len (pa_cons (pv 0) pa_nil))))
      (pss_cons (ps_for PassesOwn.never rfl (pi_enum (by rfl) T.enum (pa_cons (C8.pe_c cF hr (by decide) (by rfl) (pa_cons (pv 2) pa_nil)) pa_nil)) (pg_tup rfl (pgs_cons (pg_name (i := 4) scLri.nd rfl (Or.inl rfl)) (pgs_cons (pg_name (i := 5) scLri.nd rfl (Or.inl rfl)) pgs_nil)))
      (pss_one (ps_asg (pe_ifExp (pt_cmpR op_eq (pe_op op_mod (pe_callTy call_int1 (by rfl) T.int (by decide +kernel) (pa_cons (pv 4) pa_nil)) pe_int) pe_int (nomark _)) pe_int (pe_op op_sub (pv 1) pe_int)) (pg_sub (pv 3) (pe_bm PySem.F.plainAttrs_list PySem.F.slot_list_index PySem.F.type_list_index (mt_indexD hu65) (pv 0) (pa_cons (pv 5) pa_nil)) set_list))))
      (pss_one (ps_ret (pv 3)))), ?_⟩
    refine ⟨by show 1 ≤ sizeLine; decide, fun p1 n1 => ?_⟩
    have x1 := Ext.upd (o := .lst [V.int 0]) n1
    refine ⟨_, rfl, b, _, rfl, .inl (SqL.of (x1 _ _ hb)), p1, _, [V.int 0], rfl, rfl, upd_same, by omega, by rw [List.length_map]; omega, by rw [List.length_map]; show 1 * _ ≤ sizeLine; rw [sizeLine_eq]; omega, fun row nrow => ?_⟩
    rw [List.flatten_replicate_singleton]
    have e0 : List.replicate (((as.map V.ref).length : Nat) : Int).toNat (V.int 0) = (List.replicate ll.length (0 : Int)).map V.int := by
      rw [List.map_replicate, List.length_map, la]
      rfl
    rw [e0]
    have x2 := Ext.upd (o := .lst ((List.replicate ll.length (0 : Int)).map V.int)) nrow
    have x12 := x1.trans x2
    have hr0 : RowV p ll.length (upd (upd H p1 (.lst [V.int 0])) row (.lst ((List.replicate ll.length (0 : Int)).map V.int))) row (rimU p ll []) := ⟨_, upd_same, ⟨by rw [List.length_replicate], fun x hx => by
      rw [List.eq_of_mem_replicate hx]
      exact ⟨by decide, by omega⟩⟩, fun i hi => by
      rw [List.getD_eq_getElem?_getD, List.getElem?_replicate, if_pos hi]
      rfl⟩
    have nrowH : H row = none := none_of_ext x1 nrow
    generalize upd (upd H p1 (.lst [V.int 0])) row (.lst ((List.replicate ll.length (0 : Int)).map V.int)) = H1 at *
    refine ⟨_, rfl, c, l, rfl, x12 _ _ hc, l1, l4, fun fl fas H2 e2 hfl fpt => ?_⟩
    have hr2 := hr0.ext e2
    have x3 := x12.trans e2
    refine ⟨fl, _, rfl, SqL.of hfl, ?_⟩
    refine for_it walk_enum (fun i σ' J => ∃ v4 v5 : Option V, σ' = [some (.ref b), some (.int p), some (.ref c), some (.ref row), v4, v5] ∧ GoD row H2 J ∧ RowV p ll.length J row (rimU p ll ((facesL l).take i)) ∧ J fl = some (.lst (fas.map V.ref))) ⟨_, _, rfl, fun _ _ _ h => h, hr2, hfl⟩ (fun i σ' J _ ⟨_, _, _, _, _, g⟩ => SqL.of g) ?_ ?_
    · rintro i z σ' J J' hi ⟨v4, v5, rfl, g, hrow, hfl'⟩ ⟨t, x, y, rfl, nt, rfl, hx, hy⟩
      cases hx
      obtain ⟨a, ha, rfl⟩ := ref_get hy
      obtain ⟨f1, hf1, haf⟩ := fpt.get ha
      obtain ⟨ns, hns, gn, en⟩ := hrow
      have nfl := ref_int hfl' hns ha
      have et := Ext.upd (o := .tup [V.int (i : Int), .ref a]) nt
      have hb2 := x3 _ _ hb
      have brow : b ≠ row := fun z => by rw [z, nrowH] at hb; cases hb
      have keep : ∀ {q : Addr} {xs : List V}, H2 q = some (.tup xs) → J q = some (.tup xs) := fun {q xs} h => g _ _ (fun z => by rw [z] at h; obtain ⟨ms, h1, _⟩ := hr2; rw [h1] at h; cases h) h
      have hbJ : (upd J t (.tup [V.int (i : Int), .ref a])) b = some (.lst (as.map V.ref)) := et _ _ (g _ _ brow hb2)
      have ptJ : PT2 (upd J t (.tup [V.int (i : Int), .ref a])) as ll := PT2.mono (fun _ _ h => et _ _ (keep (x3 _ _ h))) pt
      have haJ := et _ _ (keep haf)
      have hnsJ := et _ _ hns
      have hflJ := et _ _ hfl'
      have gJ := g.trans (GoD.of et)
      obtain ⟨j, hj, hno⟩ := first_at (fs f1 (List.mem_of_getElem? hf1))
      have jl := (List.getElem?_eq_some_iff.mp hj).1
      refine ⟨t, _, rfl, SqT.of upd_same, rfl, _, _, rfl, _, _, rfl, rfl, ?_⟩
      generalize upd J t (.tup [V.int (i : Int), .ref a]) = J2 at *
      have ix : ixN (ns.map V.int).length (j : Int) = some j := by
        have q : j < (ns.map V.int).length := by rw [List.length_map, gn.1]; omega
        unfold ixN
        rw [if_pos (by omega), if_pos (by omega)]
        rfl
      have fin : ∀ v : Int, 0 ≤ v → v < p → v = sg p i → ∃ v4 v5 : Option V, [some (V.ref b), some (.int p), some (.ref c), some (.ref row), some (.int (i : Int)), some (.ref a)] = [some (.ref b), some (.int p), some (.ref c), some (.ref row), v4, v5] ∧ GoD row H2 (upd J2 row (.lst ((ns.map V.int).set j (.int v)))) ∧ RowV p ll.length (upd J2 row (.lst ((ns.map V.int).set j (.int v)))) row (rimU p ll ((facesL l).take (i + 1))) ∧ (upd J2 row (.lst ((ns.map V.int).set j (.int v)))) fl = some (.lst (fas.map V.ref)) := fun v v0 vp ev =>
        ⟨_, _, rfl, gJ.trans GoD.put, ⟨ns.set j v, by rw [upd_same, List.map_set], rowg_set gn v0 vp, lrim_step nd nf hf1 hj gn.1 ev en⟩, by rw [upd_ne nfl]; exact hflJ⟩
      have idx : ∀ Q' : VK, Q' (.int (j : Int)) J2 → rIndexD K (.ref b) [.ref a] J2 Q' := fun Q' q => ⟨b, .ref a, tI f1, ll.map tI, j, tI f1, rfl, rfl, dp_lst hbJ ptJ, dp_tI haJ, shaped_dL ll, shaped_tI f1, by rw [List.getElem?_map, hj]; rfl, by rw [eqv_tI]; exact decide_eq_true rfl, fun m z' hm hz => by
        rw [List.getElem?_map] at hz
        cases h : ll[m]? with
        | none => rw [h] at hz; cases hz
        | some q =>
          rw [h] at hz
          cases hz
          rw [eqv_tI]
          exact decide_eq_false fun e => hno m hm (by rw [h, e]), q⟩
      refine ⟨_, rfl, .inl ⟨_, rfl, _, _, rfl, rfl, by show (0 : Int) < 2; decide, rfl, _, rfl, ?_⟩⟩
      refine ite2 (fun z => ?_) (fun z => ?_)
      · refine ⟨_, rfl, _, rfl, .inl ⟨rfl, _, SqL.of hbJ⟩, _, rfl, ?_⟩
        dsimp only [tNil]
        refine idx _ ?_
        refine ⟨row, _, _, _, rfl, rfl, hnsJ, ix, fin 1 (by decide) (by omega) ?_⟩
        have z := of_decide_eq_true z
        injection z with z
        unfold sg
        rw [if_pos (by omega)]
      · refine ⟨_, rfl, _, _, rfl, rfl, _, rfl, _, rfl, .inl ⟨rfl, _, SqL.of hbJ⟩, _, rfl, ?_⟩
        dsimp only [tNil]
        refine idx _ ?_
        refine ⟨row, _, _, _, rfl, rfl, hnsJ, ix, fin (p - 1) (by omega) (by omega) ?_⟩
        unfold sg
        rw [if_neg fun q => z (decide_eq_true ?_)]
        show V.int ((i : Int) % 2) = V.int 0
        rw [show (i : Int) % 2 = 0 by omega]
    · rintro σ' J ⟨v4, v5, rfl, g, hrow, _⟩
      exact ⟨_, rfl, k row J (fun q o h => g _ _ (fun z => by rw [z, nrowH] at h; cases h) (x3 _ _ h)) (by
        have e : (fas.map V.ref).length = (facesL l).length := by rw [List.length_map]; exact Paired.length fpt
        rw [e, List.take_of_length_le (Nat.le_refl _)] at hrow
        exact hrow)⟩
end
end O42

set_option Elab.async false
set_option linter.all false
set_option maxRecDepth 100000
set_option maxHeartbeats 4000000
set_option pp.maxSteps 100
/-! _law_lasting. -/
namespace O42
open PySem L2 M40
abbrev sLas : Stmt := top 67
noncomputable def ringsN (p : Int) (ll : List (List Int)) (d m : Nat) : Nat := cnt m fun b => szD ll b = d + 1 ∧ Born p ll.length (rimD p ll) b
noncomputable def lostN (p : Int) (ll : List (List Int)) (d m n : Nat) : Int := (cnt n fun j => szD ll j = d + 2 ∧ ¬ Born p ll.length (rimD p ll) j : Nat) - (cnt n fun j => szD ll j = d + 2 ∧ ¬ LateIn p ll.length (szD ll) (rimD p ll) (d + 2) m j : Nat)
noncomputable def lastL (p : Int) (ll : List (List Int)) (d m k : Nat) : List Int := (List.range k).map fun t => (ringsN p ll d m : Int) - lostN p ll d m (m + t)
theorem lastL_succ (p : Int) (ll : List (List Int)) (d m k : Nat) : lastL p ll d m (k + 1) = lastL p ll d m k ++ [(ringsN p ll d m : Int) - lostN p ll d m (m + k)] := by
  unfold lastL
  rw [List.range_succ, List.map_append]
  rfl
theorem colsS_yes {size : Nat → Nat} {D : Nat → Vc} {d j : Nat} (h : size j = d) : colsS size D d (j + 1) = colsS size D d j ++ [D j] := by
  unfold colsS
  rw [List.range_succ, List.filter_append, List.map_append, List.filter_cons, if_pos (decide_eq_true h)]
  rfl
theorem colsS_no {size : Nat → Nat} {D : Nat → Vc} {d j : Nat} (h : ¬ size j = d) : colsS size D d (j + 1) = colsS size D d j := by
  unfold colsS
  rw [List.range_succ, List.filter_append, List.map_append, List.filter_cons, if_neg (fun z => h (of_decide_eq_true z))]
  exact List.append_nil _
theorem cnt_yes {n : Nat} {P : Nat → Prop} (h : P n) : cnt (n + 1) P = cnt n P + 1 := by rw [cnt_succ, if_pos h]
theorem cnt_no {n : Nat} {P : Nat → Prop} (h : ¬ P n) : cnt (n + 1) P = cnt n P := by rw [cnt_succ, if_neg h, Nat.add_zero]
theorem rings_yes {p : Int} {ll : List (List Int)} {d m : Nat} (h : szD ll m = d + 1 ∧ Born p ll.length (rimD p ll) m) : ringsN p ll d (m + 1) = ringsN p ll d m + 1 := by
  unfold ringsN
  exact cnt_yes h
theorem rings_no {p : Int} {ll : List (List Int)} {d m : Nat} (h : ¬ (szD ll m = d + 1 ∧ Born p ll.length (rimD p ll) m)) : ringsN p ll d (m + 1) = ringsN p ll d m := by
  unfold ringsN
  exact cnt_no h
theorem lost_none {p : Int} {ll : List (List Int)} {d m n : Nat} (h : ¬ szD ll n = d + 2) : lostN p ll d m (n + 1) = lostN p ll d m n := by
  unfold lostN
  rw [cnt_no (fun z => h z.1), cnt_no (fun z => h z.1)]
theorem lost_some {p : Int} {ll : List (List Int)} {d m n : Nat} (h : szD ll n = d + 2) (a b : Bool) (ha : a = true ↔ ¬ Born p ll.length (rimD p ll) n) (hb : b = true ↔ ¬ LateIn p ll.length (szD ll) (rimD p ll) (d + 2) m n) : lostN p ll d m (n + 1) = lostN p ll d m n + (if a = true then 1 else 0) - (if b = true then 1 else 0) := by
  unfold lostN
  have e1 : cnt (n + 1) (fun j => szD ll j = d + 2 ∧ ¬ Born p ll.length (rimD p ll) j) = cnt n (fun j => szD ll j = d + 2 ∧ ¬ Born p ll.length (rimD p ll) j) + if a = true then 1 else 0 := by
    by_cases z : a = true
    · rw [if_pos z, cnt_yes ⟨h, ha.mp z⟩]
    · rw [if_neg z, cnt_no fun q => z (ha.mpr q.2)]
      rfl
  have e2 : cnt (n + 1) (fun j => szD ll j = d + 2 ∧ ¬ LateIn p ll.length (szD ll) (rimD p ll) (d + 2) m j) = cnt n (fun j => szD ll j = d + 2 ∧ ¬ LateIn p ll.length (szD ll) (rimD p ll) (d + 2) m j) + if b = true then 1 else 0 := by
    by_cases z : b = true
    · rw [if_pos z, cnt_yes ⟨h, hb.mp z⟩]
    · rw [if_neg z, cnt_no fun q => z (hb.mpr q.2)]
      rfl
  rw [e1, e2]
  cases a <;> cases b <;> simp <;> omega
theorem cut_from (xs : List V) (k : Nat) : cutV xs (some (k : Int)) none = xs.drop k := by
  unfold cutV
  rw [HT.sIx_nat, HT.sIx_none]
  by_cases h : k ≤ xs.length
  · rw [Nat.min_eq_left h, List.take_of_length_le (by rw [List.length_drop]; exact Nat.le_refl _)]
  · rw [Nat.min_eq_right (by omega), Nat.sub_self, List.take_zero, List.drop_eq_nil_of_le (by omega)]
def spLas : Sp := fun vs H Q _ => ∃ (b : Addr) (ll : List (List Int)) (p : Int) (d m : Nat), vs = [.ref b, .int p, .int (d : Int), .int (m : Int)] ∧ CLs H b ll ∧ GoodT ll ∧ ll.length ≤ 40 ∧ Pr p ∧ d ≤ 3 ∧ m ≤ ll.length ∧ ∀ (q : Addr) (H' : Hp), Ext H H' → H' q = some (.lst ((lastL p ll d m (ll.length + 1 - m)).map V.int)) → Q (.ref q) H'
theorem GoD.ext {k : Addr} {H J J' : Hp} (g : GoD k J J') (x : Ext H J) (nk : H k = none) : Ext H J' := fun b o h => g b o (ne_of_none h nk) (x _ _ h)
section
variable {P : Program} {w : World} {K : PySem.W.Frag} {mg : Str → Option Value} {base : Heap}
abbrev lasN : List Str := ["_law_cells","_law_prime","_law_deep","_law_begin","_law_basis","_law_rings","_law_cell","_law_all","_law_late","_law_lost","_law_found","_law_moment","_law_here","_law_behind"]
theorem scLas : FnScope lasN ["_law_cells", "_law_prime", "_law_deep", "_law_begin"] (defScope sLas) := ⟨rfl, rfl, rfl, by decide +kernel, rfl, by decide +kernel, by decide +kernel⟩
theorem ok_las {f : Addr} {fd : FuncData} (F : L2.Fun K "_law_lasting" "_law_lasting" sLas f fd) (T : Gb mg) (cG : Cal P w K mg base 2 "_law_grows" spGro []) (cR : Cal P w K mg base 2 "_law_rim" spLRim []) : FnOk P w K mg base CX0 3 f fd ["_law_cells", "_law_prime", "_law_deep", "_law_begin"] spLas := by
  refine F.ok scLas (fun vs H Q E h => ?_) (fun cdv A outer s H vs Q E hr h => ?_)
  · obtain ⟨b, ll, p, d, m, rfl, _⟩ := h
    rfl
  · obtain ⟨b, ll, p, d, m, rfl, ⟨as, hb, pt⟩, gd, l40, hp, d3, mN, k⟩ := h
    have la : as.length = ll.length := Paired.length pt
    have tw := tw_of gd
    have RM := tw.rims hp
    refine ⟨_, pss_cons (ps_par (i := 4) (j := 5) rfl scLas.nd rfl rfl (by decide) rfl rfl (pa_cons (pe_lst pa_nil) (pa_cons pe_int pa_nil)) (by rfl))
      (C8.pss_cut (ps_for PassesOwn.never rfl (pi_list (pe_slice sl_list (pv 0) po_none (po_some (pv 3)))) (pg_name (i := 6) scLas.nd rfl (Or.inl rfl))
      (pss_one (ps_if (pt_cmpR op_eq (pe_callB call_len_seq (by rfl) T.len PySem.boot_len (pa_cons (pv 6) pa_nil)) (pe_op op_add (pv 2) pe_int) (nomark _)) (pss_one (ps_set (i := 5) scLas.nd rfl (Or.inl rfl) (pe_op op_add (pv 5) (pe_callTy call_int1 (by rfl) T.int (by decide +kernel) (pa_cons (pe_not (C8.pe_c cG hr (by decide) (by rfl) (pa_cons (pv 1) (pa_cons (pv 4) (pa_cons (C8.pe_c cR hr (by decide) (by rfl) (pa_cons (pv 0) (pa_cons (pv 1) (pa_cons (pv 6) pa_nil)))) pa_nil))))) pa_nil))))) pss_nil)))
      (pss_cons (ps_asg (pe_tup (pa_cons (pe_lst pa_nil) (pa_cons (pe_lst pa_nil) (pa_cons pe_int (pa_cons (pe_lst pa_nil) pa_nil))))) (pg_tup rfl (pgs_cons (pg_name (i := 7) scLas.nd rfl (Or.inl rfl)) (pgs_cons (pg_name (i := 8) scLas.nd rfl (Or.inl rfl)) (pgs_cons (pg_name (i := 9) scLas.nd rfl (Or.inl rfl)) (pgs_cons (pg_name (i := 10) scLas.nd rfl (Or.inl rfl)) pgs_nil))))))
      (pss_cons (ps_for PassesOwn.never rfl (pi_range1 (by rfl) T.rng (pa_cons (pe_op op_add (pe_callB call_len_seq (by rfl) T.len PySem.boot_len (pa_cons (pv 0) pa_nil)) pe_int) pa_nil)) (pg_name (i := 11) scLas.nd rfl (Or.inl rfl))
      (C8.pss_cut (ps_if (pt_cmpR op_ge (pv 11) (pv 3) (nomark _)) (pss_one (ps_expr (pe_bm PySem.F.plainAttrs_list PySem.F.slot_list_append PySem.F.type_list_append mt_append (pv 10) (pa_cons (pe_op op_sub (pv 5) (pv 9)) pa_nil)))) pss_nil)
      (C8.pss_cut (ps_set (i := 6) scLas.nd rfl (Or.inl rfl) (pe_ifExp (pt_cmpR op_lt (pv 11) (pe_callB call_len_seq (by rfl) T.len PySem.boot_len (pa_cons (pv 0) pa_nil)) (nomark _)) (pe_ix ix_list (pv 0) (pv 11) (fun _ _ => rfl)) (pe_tup pa_nil)))
      (pss_one (ps_if (pt_cmpR op_eq (pe_callB call_len_seq (by rfl) T.len PySem.boot_len (pa_cons (pv 6) pa_nil)) (pe_op op_add (pv 2) pe_int) (nomark _)) (pss_cons (ps_set (i := 12) scLas.nd rfl (Or.inl rfl) (C8.pe_c cR hr (by decide) (by rfl) (pa_cons (pv 0) (pa_cons (pv 1) (pa_cons (pv 6) pa_nil)))))
      (pss_cons (ps_set (i := 13) scLas.nd rfl (Or.inl rfl) (pe_op op_cat (pe_op op_rep (pe_lst (pa_cons pe_int pa_nil)) (pv 3)) (pe_slice sl_list (pv 12) (po_some (pv 3)) po_none)))
      (C8.pss_cut (ps_set (i := 9) scLas.nd rfl (Or.inl rfl) (pe_op op_add (pv 9) (pe_callTy call_int1 (by rfl) T.int (by decide +kernel) (pa_cons (C8.pe_c cG hr (by decide) (by rfl) (pa_cons (pv 1) (pa_cons (pv 7) (pa_cons (pv 12) pa_nil)))) pa_nil))))
      (pss_one (ps_set (i := 9) scLas.nd rfl (Or.inl rfl) (pe_op op_sub (pv 9) (pe_callTy call_int1 (by rfl) T.int (by decide +kernel) (pa_cons (C8.pe_c cG hr (by decide) (by rfl) (pa_cons (pv 1) (pa_cons (pv 8) (pa_cons (pv 13) pa_nil)))) pa_nil)))))))) pss_nil)))))
      (pss_one (ps_ret (pv 10)))))), ?_⟩
    -- the rim of a cell
    have rim : ∀ {J : Hp} {Q' : VK} {c : Addr} {l : List Int} {i : Nat}, Ext H J → ll[i]? = some l → J c = some (.tup (l.map V.int)) → (∀ (q : Addr) (J' : Hp), Ext J J' → RowV p ll.length J' q (rimD p ll i) → Q' (.ref q) J') → spLRim ([.ref b, .int p, .ref c] ++ []) J Q' C8.E0 := by
      intro J Q' c l i xJ hl hc kq
      have okl := good_prefix gd hl
      have e : rimD p ll i = rimU p ll (facesL l) := by
        unfold rimU rimD
        rw [getD_of hl]
        rfl
      rw [e] at kq
      exact ⟨b, c, l, ll, p, rfl, ⟨as, xJ _ _ hb, PT2.mono (fun _ _ z => xJ _ _ z) pt⟩, hc, okl.1.1, okl.1.2.1, fun f hf => List.mem_of_mem_take (okl.2.2 f hf), tw.nd, fcs_nd (tw.dis l (List.mem_of_getElem? hl)) okl.1.1 okl.1.2.1, hp, by omega, kq⟩
    refine ⟨Nat.zero_le _, fun bl nbl => ⟨_, _, rfl, ?_⟩⟩
    have x1 := Ext.upd (o := .lst []) nbl
    have hbl : (upd H bl (.lst [])) bl = some (.lst (([] : List Addr).map V.ref)) := upd_same
    generalize upd H bl (.lst []) = H1 at *
    -- the rings that are there
    refine ⟨fun σ' J => ∃ v6 : Option V, σ' = [some (.ref b), some (.int p), some (.int (d : Int)), some (.int (m : Int)), some (.ref bl), some (.int (ringsN p ll d m : Int)), v6, Option.none, Option.none, Option.none, Option.none, Option.none, Option.none, Option.none] ∧ Ext H J, ?_, ?_⟩
    · refine ⟨_, rfl, _, rfl, (m : Int), rfl, b, _, rfl, SqL.of (x1 _ _ hb), fun sl nsl => ?_⟩
      have x2 := Ext.upd (o := .lst (cutV (as.map V.ref) none (some (m : Int)))) nsl
      have hsl : (upd H1 sl (.lst (cutV (as.map V.ref) none (some (m : Int))))) sl = some (.lst ((as.take m).map V.ref)) := by
        rw [upd_same, cut_to (by rw [List.length_map]; omega), List.map_take]
      have nsb : sl ≠ bl := (ne_of_none hbl nsl).symm
      have hbl2 := x2 _ _ hbl
      have x12 := x1.trans x2
      generalize upd H1 sl (.lst (cutV (as.map V.ref) none (some (m : Int)))) = H2 at *
      refine ⟨sl, rfl, ⟨_, SqL.of hsl⟩, for_list (K := K) (a := sl) (xs := (as.take m).map V.ref) (fun u σ' J => ∃ (v6 : Option V) (ks : List (Nat × Vc)), σ' = [some (.ref b), some (.int p), some (.int (d : Int)), some (.int (m : Int)), some (.ref bl), some (.int (ringsN p ll d u : Int)), v6, Option.none, Option.none, Option.none, Option.none, Option.none, Option.none, Option.none] ∧ Ext H J ∧ J sl = some (.lst ((as.take m).map V.ref)) ∧ BasV p ll.length b J bl ks ∧ BasOf p ll.length (colsS (szD ll) (rimD p ll) (d + 1) u) ks ∧ ks.length ≤ u) ⟨_, [], rfl, x12, hsl, ⟨[], hbl2, .nil⟩, BasOf.nil, Nat.le_refl _⟩ (fun u σ' J _ ⟨_, _, _, _, h, _⟩ => SqL.of h) ?_ ?_⟩
      · rintro u y σ' J hy ⟨v6, ks, rfl, xJ, hsl, bv, bo, lk⟩
        obtain ⟨c, hc, rfl⟩ := ref_get hy
        rw [List.getElem?_take] at hc
        split at hc
        rotate_left
        · cases hc
        rename_i um
        obtain ⟨l, hl, hcl⟩ := pt.get hc
        have esz : szD ll u = l.length := by
          unfold szD
          rw [getD_of hl]
        have uN : u < ll.length := (List.getElem?_eq_some_iff.mp hl).1
        refine ⟨_, rfl, c, _, rfl, .inr (SqT.of (xJ _ _ hcl)), _, rfl, _, _, rfl, rfl, rfl, _, rfl, ?_⟩
        refine ite2 (fun z => ?_) (fun z => ?_)
        · have z : szD ll u = d + 1 := by
            have := of_decide_eq_true z
            injection this with this
            rw [List.length_map] at this
            omega
          have bs := RM.born_size uN z
          refine ⟨_, rfl, _, rfl, _, rfl, _, rfl, _, rfl, _, rfl, ?_⟩
          dsimp only [tNil]
          refine rim xJ hl (xJ _ _ hcl) fun q J2 x2' hq => ?_
          refine ⟨p, ll.length, bl, q, b, rimD p ll u, _, ks, rfl, hp, by omega, hq, ⟨_, x2' _ _ (xJ _ _ hb)⟩, bv.ext x2', by omega, bo, fun J3 g3 bv3 sp bo3 => ?_, fun kk J3 g3 bv3 nsp bo3 => ?_⟩
          · refine ⟨_, rfl, .inr ⟨_, rfl, _, _, rfl, rfl, some (.ref c), ks, ?_, g3.ext (xJ.trans x2') nbl, g3 _ _ nsb (x2' _ _ hsl), bv3, ?_, by omega⟩⟩
            · rw [rings_yes ⟨z, bs.mpr sp⟩]
              rfl
            · rw [colsS_yes z]
              exact bo3
          · refine ⟨_, rfl, .inr ⟨_, rfl, _, _, rfl, rfl, some (.ref c), ks ++ [kk], ?_, g3.ext (xJ.trans x2') nbl, g3 _ _ nsb (x2' _ _ hsl), bv3, ?_, by rw [List.length_append]; exact Nat.succ_le_succ lk⟩⟩
            · rw [rings_no fun y => nsp (bs.mp y.2)]
              simp
            · rw [colsS_yes z]
              exact bo3
        · have z : ¬ szD ll u = d + 1 := fun e => z (decide_eq_true (by
            rw [List.length_map]
            show V.int ((l.length : Nat) : Int) = V.int ((d : Int) + 1)
            rw [show ((l.length : Nat) : Int) = (d : Int) + 1 by omega]))
          refine ⟨some (.ref c), ks, ?_, xJ, hsl, bv, ?_, by omega⟩
          · rw [rings_no fun y => z y.1]
            rfl
          · rw [colsS_no z]
            exact bo
      · rintro σ' J ⟨v6, ks, rfl, xJ, _, _, _, _⟩
        refine ⟨v6, ?_, xJ⟩
        rw [List.length_map, List.length_take, la, Nat.min_eq_left mN]
    rintro σ' J0 ⟨v6, rfl, x0⟩
    clear hbl nbl x1
    -- what is gone
    refine ⟨Nat.zero_le _, fun al nal => ⟨Nat.zero_le _, fun le nle => ⟨Nat.zero_le _, fun fo nfo => ?_⟩⟩⟩
    have y1 := Ext.upd (o := .lst []) nal
    have h1 := upd_same (H := J0) (a := al) (o := .lst [])
    generalize upd J0 al (.lst []) = J1 at *
    have y2 := Ext.upd (o := .lst []) nle
    have h2 := upd_same (H := J1) (a := le) (o := .lst [])
    have h12 := y2 _ _ h1
    have nla : le ≠ al := (ne_of_none h1 nle).symm
    generalize upd J1 le (.lst []) = J2 at *
    have y3 := Ext.upd (o := .lst []) nfo
    have h3 := upd_same (H := J2) (a := fo) (o := .lst [])
    have h13 := y3 _ _ h12
    have h23 := y3 _ _ h2
    have nfa : fo ≠ al := (ne_of_none h12 nfo).symm
    have nfl : fo ≠ le := (ne_of_none h2 nfo).symm
    generalize upd J2 fo (.lst []) = J3 at *
    refine ⟨by show 4 ≤ sizeLine; decide, fun t nt => ?_⟩
    have y4 := Ext.upd (o := .tup [V.ref al, .ref le, .int 0, .ref fo]) nt
    have ht := upd_same (H := J3) (a := t) (o := .tup [V.ref al, .ref le, .int 0, .ref fo])
    have h14 := y4 _ _ h13
    have h24 := y4 _ _ h23
    have h34 := y4 _ _ h3
    have x4 := x0.trans (y1.trans (y2.trans (y3.trans y4)))
    have nalH := none_back x0 nal
    have nleH := none_back (x0.trans y1) nle
    have nfoH := none_back (x0.trans (y1.trans y2)) nfo
    generalize upd J3 t (.tup [V.ref al, .ref le, .int 0, .ref fo]) = J4 at *
    refine ⟨t, _, rfl, SqT.of ht, rfl, _, _, rfl, _, _, rfl, _, _, rfl, _, _, rfl, rfl, ?_⟩
    clear h1 h2 h12 h3 h13 h23 ht nt nfo nle nal y1 y2 y3 y4 x0
    refine ⟨_, rfl, b, _, rfl, .inl (SqL.of (x4 _ _ hb)), _, _, rfl, rfl, ((ll.length + 1 : Nat) : Int), by rw [List.length_map, la]; rfl, by omega, by omega, for_range (lo := 0) (n := ll.length + 1) (fun i σ' J => ∃ (v6 v11 v12 v13 : Option V) (k1 k2 : List (Nat × Vc)), σ' = [some (.ref b), some (.int p), some (.int (d : Int)), some (.int (m : Int)), some (.ref bl), some (.int (ringsN p ll d m : Int)), v6, some (.ref al), some (.ref le), some (.int (lostN p ll d m i)), some (.ref fo), v11, v12, v13] ∧ Ext H J ∧ J fo = some (.lst ((lastL p ll d m (i - m)).map V.int)) ∧ BasV p ll.length fo J al k1 ∧ BasOf p ll.length (colsS (szD ll) (rimD p ll) (d + 2) i) k1 ∧ k1.length ≤ i ∧ BasV p ll.length fo J le k2 ∧ BasOf p ll.length ((colsS (szD ll) (rimD p ll) (d + 2) i).map (beh m)) k2 ∧ k2.length ≤ i) ⟨_, _, _, _, [], [], rfl, x4, ?_, ⟨[], h14, .nil⟩, BasOf.nil, Nat.le_refl _, ⟨[], h24, .nil⟩, BasOf.nil, Nat.le_refl _⟩ ?_ ?_⟩
    · rw [Nat.zero_sub]
      exact h34
    · rintro i σ' J hi ⟨v6', v11, v12, v13, k1, k2, rfl, xJ, hfo, bv1, bo1, lk1, bv2, bo2, lk2⟩
      rw [show (0 : Int) + (i : Int) = (i : Int) from Int.zero_add _]
      -- what lasts at this moment
      refine ⟨fun σ' J' => σ' = [some (.ref b), some (.int p), some (.int (d : Int)), some (.int (m : Int)), some (.ref bl), some (.int (ringsN p ll d m : Int)), v6', some (.ref al), some (.ref le), some (.int (lostN p ll d m i)), some (.ref fo), some (nv i), v12, v13] ∧ Ext H J' ∧ J' fo = some (.lst ((lastL p ll d m (i + 1 - m)).map V.int)) ∧ BasV p ll.length fo J' al k1 ∧ BasV p ll.length fo J' le k2, ?_, ?_⟩
      · refine ⟨_, rfl, _, rfl, _, _, rfl, rfl, _, rfl, ?_⟩
        refine ite2 (fun z => ?_) (fun z => ?_)
        · have z : m ≤ i := by
            have := of_decide_eq_true z
            omega
          have ll' : (lastL p ll d m (i - m)).length = i - m := by
            unfold lastL
            rw [List.length_map, List.length_range]
          refine ⟨_, rfl, .inl ⟨rfl, _, SqL.of hfo⟩, _, rfl, _, rfl, _, _, rfl, rfl, fo, _, _, rfl, rfl, hfo, small1000 (by rw [List.length_map, ll']; omega), rfl, fun b' o' hb' => ?_, ?_, bv1.put hfo nfa.symm, bv2.put hfo nfl.symm⟩
          · rw [upd_ne (ne_of_none hb' nfoH)]
            exact xJ _ _ hb'
          · rw [upd_same, show i + 1 - m = (i - m) + 1 by omega, lastL_succ, show m + (i - m) = i by omega, List.map_append]
            rfl
        · have z : ¬ m ≤ i := fun q => z (decide_eq_true (by show (m : Int) ≤ (i : Int); omega))
          refine ⟨rfl, xJ, ?_, bv1, bv2⟩
          rw [show i + 1 - m = i - m by omega]
          exact hfo
      rintro σ' J5 ⟨rfl, xJ5, hfo5, bv15, bv25⟩
      clear bv1 bv2 hfo xJ
      -- the cell
      refine ⟨fun σ' J' => ∃ c : Addr, σ' = [some (.ref b), some (.int p), some (.int (d : Int)), some (.int (m : Int)), some (.ref bl), some (.int (ringsN p ll d m : Int)), some (.ref c), some (.ref al), some (.ref le), some (.int (lostN p ll d m i)), some (.ref fo), some (nv i), v12, v13] ∧ Ext J5 J' ∧ ((∃ l, ll[i]? = some l ∧ J' c = some (.tup (l.map V.int)) ∧ szD ll i = l.length) ∨ (J' c = some (.tup []) ∧ szD ll i = 0)), ?_, ?_⟩
      · refine ⟨_, rfl, _, rfl, b, _, rfl, .inl (SqL.of (xJ5 _ _ hb)), _, _, rfl, rfl, _, rfl, ?_⟩
        refine ite2 (fun z => ?_) (fun z => ?_)
        · have z : i < ll.length := by
            have := of_decide_eq_true z
            rw [List.length_map, la] at this
            omega
          obtain ⟨c, hc⟩ : ∃ c, as[i]? = some c := ⟨_, List.getElem?_eq_getElem (by rw [la]; exact z)⟩
          obtain ⟨l, hl, hcl⟩ := pt.get hc
          refine ⟨_, rfl, _, rfl, b, _, (i : Int), .ref c, rfl, rfl, SqL.of (xJ5 _ _ hb), at_of (j := i) rfl (by rw [List.getElem?_map, hc]; rfl), c, rfl, Ext.rfl', .inl ⟨l, hl, xJ5 _ _ hcl, ?_⟩⟩
          unfold szD
          rw [getD_of hl]
        · refine ⟨Nat.zero_le _, fun c nc => ⟨c, rfl, Ext.upd nc, .inr ⟨upd_same, ?_⟩⟩⟩
          have z : ¬ i < ll.length := fun q => z (decide_eq_true (by
            rw [List.length_map, la]
            omega))
          unfold szD
          rw [List.getD_eq_getElem?_getD, List.getElem?_eq_none (by omega)]
          rfl
      rintro σ' J6 ⟨c, rfl, x6, cas⟩
      have xJ6 := xJ5.trans x6
      have hfo6 := x6 _ _ hfo5
      have bv16 := bv15.ext x6
      have bv26 := bv25.ext x6
      have clen : ∃ xs, J6 c = some (.tup xs) ∧ xs.length = szD ll i := by
        rcases cas with ⟨l, _, h1, h2⟩ | ⟨h1, h2⟩
        · exact ⟨_, h1, by rw [List.length_map, h2]⟩
        · exact ⟨_, h1, by rw [h2]; rfl⟩
      obtain ⟨xs, hxs, lxs⟩ := clen
      refine ⟨_, rfl, c, _, rfl, .inr (SqT.of hxs), _, rfl, _, _, rfl, rfl, rfl, _, rfl, ?_⟩
      refine ite2 (fun z => ?_) (fun z => ?_)
      rotate_left
      · have z : ¬ szD ll i = d + 2 := fun e => z (decide_eq_true (by
          show V.int ((xs.length : Nat) : Int) = V.int ((d : Int) + 2)
          rw [show ((xs.length : Nat) : Int) = (d : Int) + 2 by omega]))
        refine ⟨some (.ref c), some (nv i), v12, v13, k1, k2, ?_, xJ6, hfo6, bv16, ?_, by omega, bv26, ?_, by omega⟩
        · rw [lost_none z]
        · rw [colsS_no z]
          exact bo1
        · rw [colsS_no z]
          exact bo2
      have z : szD ll i = d + 2 := by
        have := of_decide_eq_true z
        injection this with this
        omega
      obtain ⟨l, hl, hcl, _⟩ : ∃ l, ll[i]? = some l ∧ J6 c = some (.tup (l.map V.int)) ∧ szD ll i = l.length := by
        rcases cas with h | ⟨_, h2⟩
        · exact h
        · omega
      have iN : i < ll.length := (List.getElem?_eq_some_iff.mp hl).1
      have bs := RM.born_size (d := d + 1) iN z
      refine ⟨_, rfl, _, rfl, _, rfl, ?_⟩
      dsimp only [tNil]
      refine rim xJ6 hl hcl fun q J7 x7 hq => ?_
      obtain ⟨ns, hns, g, en⟩ := id hq
      -- behind
      refine ⟨by show 1 ≤ sizeLine; decide, fun p1 np1 => ⟨_, rfl, p1, (m : Int), [V.int 0], rfl, rfl, upd_same, by omega, by omega, by show 1 * _ ≤ sizeLine; rw [sizeLine_eq]; omega, fun p2 np2 => ?_⟩⟩
      have w1 := Ext.upd (o := .lst [V.int 0]) np1
      have w2 := Ext.upd (o := .lst (List.replicate (m : Int).toNat [V.int 0]).flatten) np2
      have hp2 : (upd (upd J7 p1 (.lst [V.int 0])) p2 (.lst (List.replicate (m : Int).toNat [V.int 0]).flatten)) p2 = some (.lst ((List.replicate m (0 : Int)).map V.int)) := by
        rw [upd_same, List.flatten_replicate_singleton, List.map_replicate]
        rfl
      have w12 := w1.trans w2
      generalize upd (upd J7 p1 (.lst [V.int 0])) p2 (.lst (List.replicate (m : Int).toNat [V.int 0]).flatten) = J8 at *
      refine ⟨_, rfl, _, rfl, (m : Int), rfl, q, _, rfl, SqL.of (w12 _ _ hns), fun p3 np3 => ?_⟩
      have w3 := Ext.upd (o := .lst (cutV (ns.map V.int) (some (m : Int)) none)) np3
      have hp3 : (upd J8 p3 (.lst (cutV (ns.map V.int) (some (m : Int)) none))) p3 = some (.lst ((ns.drop m).map V.int)) := by
        rw [upd_same, cut_from, List.map_drop]
      have hp23 := w3 _ _ hp2
      have w13 := w12.trans w3
      generalize upd J8 p3 (.lst (cutV (ns.map V.int) (some (m : Int)) none)) = J9 at *
      refine ⟨p2, p3, _, _, rfl, rfl, hp23, hp3, by rw [List.length_map, List.length_map, List.length_replicate, List.length_drop, g.1, sizeLine_eq]; omega, fun bh nbh => ?_⟩
      have w4 := Ext.upd (o := .lst ((List.replicate m (0 : Int)).map V.int ++ (ns.drop m).map V.int)) nbh
      have hbh : RowV p ll.length (upd J9 bh (.lst ((List.replicate m (0 : Int)).map V.int ++ (ns.drop m).map V.int))) bh (beh m (rimD p ll i)) := ⟨List.replicate m 0 ++ ns.drop m, by rw [upd_same, List.map_append], ⟨by rw [List.length_append, List.length_replicate, List.length_drop, g.1]; omega, fun x hx => by
        rcases List.mem_append.mp hx with h | h
        · rw [List.eq_of_mem_replicate h]
          have := hp.le
          exact ⟨by decide, by omega⟩
        · exact g.2 x (List.mem_of_mem_drop h)⟩, fun t ht => by
        unfold beh
        rw [List.getD_eq_getElem?_getD]
        by_cases mt : m ≤ t
        · rw [if_pos mt, List.getElem?_append_right (by rw [List.length_replicate]; exact mt), List.length_replicate, List.getElem?_drop, show m + (t - m) = t by omega, ← List.getD_eq_getElem?_getD]
          exact en t ht
        · rw [if_neg mt, List.getElem?_append_left (by rw [List.length_replicate]; omega), List.getElem?_replicate, if_pos (by omega)]
          rfl⟩
      have x610 : Ext J6 (upd J9 bh (.lst ((List.replicate m (0 : Int)).map V.int ++ (ns.drop m).map V.int))) := x7.trans (w13.trans w4)
      have hq10 := hq.ext (w13.trans w4)
      generalize upd J9 bh (.lst ((List.replicate m (0 : Int)).map V.int ++ (ns.drop m).map V.int)) = J10 at *
      have xJ10 := xJ6.trans x610
      have hfo10 := x610 _ _ hfo6
      have bv110 := bv16.ext x610
      have bv210 := bv26.ext x610
      clear hp3 hp23 hp2 w12 w13 w1 w2 w3 w4 np1 np2 np3 nbh
      -- in all
      refine ⟨fun σ' J' => ∃ (a : Bool) (k1' : List (Nat × Vc)), σ' = [some (.ref b), some (.int p), some (.int (d : Int)), some (.int (m : Int)), some (.ref bl), some (.int (ringsN p ll d m : Int)), some (.ref c), some (.ref al), some (.ref le), some (.int (lostN p ll d m i + (if a = true then 1 else 0))), some (.ref fo), some (nv i), some (.ref q), some (.ref bh)] ∧ Ext H J' ∧ J' fo = some (.lst ((lastL p ll d m (i + 1 - m)).map V.int)) ∧ RowV p ll.length J' bh (beh m (rimD p ll i)) ∧ BasV p ll.length fo J' al k1' ∧ BasOf p ll.length (colsS (szD ll) (rimD p ll) (d + 2) (i + 1)) k1' ∧ k1'.length ≤ i + 1 ∧ BasV p ll.length fo J' le k2 ∧ (a = true ↔ ¬ Born p ll.length (rimD p ll) i), ?_, ?_⟩
      · obtain ⟨ca, hal, _⟩ := id bv110
        have fin : ∀ {J11 : Hp}, GoD al J10 J11 → Ext H J11 ∧ J11 fo = some (.lst ((lastL p ll d m (i + 1 - m)).map V.int)) ∧ RowV p ll.length J11 bh (beh m (rimD p ll i)) ∧ BasV p ll.length fo J11 le k2 := fun {J11} g11 => ⟨g11.ext xJ10 nalH, g11 _ _ nfa hfo10, by
          have ne := hbh.ne (by omega) hal
          obtain ⟨ms, e1, e2, e3⟩ := hbh
          exact ⟨ms, g11 _ _ ne e1, e2, e3⟩, bv210.go hal nla g11⟩
        refine ⟨_, rfl, _, rfl, _, rfl, _, rfl, p, ll.length, al, q, fo, rimD p ll i, _, k1, rfl, hp, by omega, hq10, ⟨_, hfo10⟩, bv110, by omega, bo1, fun J11 g11 bv sp bo => ?_, fun kk J11 g11 bv nsp bo => ?_⟩
        · obtain ⟨f1, f2, f3, f4⟩ := fin g11
          refine .inr ⟨_, rfl, _, _, rfl, rfl, false, k1, rfl, f1, f2, f3, bv, ?_, by omega, f4, ⟨(fun h => nomatch h), fun h => absurd (bs.mpr sp) h⟩⟩
          rw [colsS_yes z]
          exact bo
        · obtain ⟨f1, f2, f3, f4⟩ := fin g11
          refine .inr ⟨_, rfl, _, _, rfl, rfl, true, k1 ++ [kk], rfl, f1, f2, f3, bv, ?_, by rw [List.length_append]; exact Nat.succ_le_succ lk1, f4, ⟨fun _ h => nsp (bs.mp h), fun _ => rfl⟩⟩
          rw [colsS_yes z]
          exact bo
      rintro σ' J11 ⟨a, k1', rfl, xJ11, hfo11, hbh11, bv111, bo1', lk1', bv211, ha⟩
      -- behind
      obtain ⟨ce, hle, _⟩ := id bv211
      have eB : (colsS (szD ll) (rimD p ll) (d + 2) (i + 1)).map (beh m) = (colsS (szD ll) (rimD p ll) (d + 2) i).map (beh m) ++ [beh m (rimD p ll i)] := by
        rw [colsS_yes z, List.map_append]
        rfl
      refine ⟨_, rfl, _, rfl, _, rfl, _, rfl, p, ll.length, le, bh, fo, beh m (rimD p ll i), _, k2, rfl, hp, by omega, hbh11, ⟨_, hfo11⟩, bv211, by omega, bo2, fun J12 g12 bv sp bo => ?_, fun kk J12 g12 bv nsp bo => ?_⟩
      · refine .inr ⟨_, rfl, _, _, rfl, rfl, some (.ref c), some (nv i), some (.ref q), some (.ref bh), k1', k2, ?_, g12.ext xJ11 nleH, g12 _ _ nfl hfo11, bv111.go hle nla.symm g12, bo1', lk1', bv, ?_, by omega⟩
        · rw [lost_some z a false ha ⟨(fun h => nomatch h), fun h => absurd sp h⟩]
          rfl
        · rw [eB]
          exact bo
      · refine .inr ⟨_, rfl, _, _, rfl, rfl, some (.ref c), some (nv i), some (.ref q), some (.ref bh), k1', k2 ++ [kk], ?_, g12.ext xJ11 nleH, g12 _ _ nfl hfo11, bv111.go hle nla.symm g12, bo1', lk1', bv, ?_, by rw [List.length_append]; exact Nat.succ_le_succ lk2⟩
        · rw [lost_some z a true ha ⟨fun _ => nsp, fun _ => rfl⟩]
          rfl
        · rw [eB]
          exact bo
    · rintro σ' J ⟨v6', v11, v12, v13, k1, k2, rfl, xJ, hfo, _⟩
      exact ⟨_, rfl, k fo J xJ hfo⟩
end
end O42

set_option Elab.async false
set_option linter.all false
set_option maxRecDepth 100000
set_option maxHeartbeats 4000000
set_option pp.maxSteps 100
/-! Bars laid beside: their columns, their ranks. -/
namespace O42
open PySem L2 M40
/-- a bar is there at a place -/
def alv (bes : List (Nat × Nat)) (i c : Nat) : Bool := decide ((bes.getD c (0, 0)).1 ≤ i ∧ i ≤ (bes.getD c (0, 0)).2)
/-- the bars that are there at a place -/
def posL (bes : List (Nat × Nat)) (i : Nat) : List Nat := (List.range bes.length).filter (alv bes i)
theorem alv_old {bes : List (Nat × Nat)} {x : Nat × Nat} {i c : Nat} (h : c < bes.length) : alv (bes ++ [x]) i c = alv bes i c := by
  unfold alv
  rw [List.getD_eq_getElem?_getD, List.getD_eq_getElem?_getD, List.getElem?_append_left h]
theorem alv_new {bes : List (Nat × Nat)} {x : Nat × Nat} {i : Nat} : alv (bes ++ [x]) i bes.length = decide (x.1 ≤ i ∧ i ≤ x.2) := by
  unfold alv
  rw [List.getD_eq_getElem?_getD, List.getElem?_append_right (Nat.le_refl _), Nat.sub_self]
  rfl
theorem posL_snoc (bes : List (Nat × Nat)) (x : Nat × Nat) (i : Nat) : posL (bes ++ [x]) i = posL bes i ++ if x.1 ≤ i ∧ i ≤ x.2 then [bes.length] else [] := by
  unfold posL
  rw [List.length_append, List.length_singleton, List.range_succ, List.filter_append, List.filter_cons, alv_new]
  congr 1
  · exact List.filter_congr fun c hc => alv_old (List.mem_range.mp hc)
  · by_cases h : x.1 ≤ i ∧ i ≤ x.2
    · rw [if_pos h, if_pos (decide_eq_true h)]
      rfl
    · rw [if_neg h, if_neg (fun z => h (of_decide_eq_true z))]
      rfl
theorem posL_lt {bes : List (Nat × Nat)} {i c : Nat} (h : c ∈ posL bes i) : c < bes.length ∧ alv bes i c = true := by
  obtain ⟨h1, h2⟩ := List.mem_filter.mp h
  exact ⟨List.mem_range.mp h1, h2⟩
theorem posL_len_snoc (bes : List (Nat × Nat)) (x : Nat × Nat) (i : Nat) : (posL (bes ++ [x]) i).length = (posL bes i).length + szB x.1 x.2 i := by
  rw [posL_snoc, List.length_append]
  unfold szB
  congr 1
  split <;> rfl
theorem laid_wide (i : Nat) : ∀ bes : List (Nat × Nat), (laidT bes i).1 = (posL bes i).length := snoc_ind rfl fun bes x ih => by
  rw [laidT_snoc, posL_len_snoc, ← ih]
  rfl
theorem laid_high (i : Nat) : ∀ bes : List (Nat × Nat), (laidT bes i).2.length = (posL bes (i + 1)).length := snoc_ind rfl fun bes x ih => by
  rw [laidT_snoc, posL_len_snoc, ← ih]
  unfold laidStep cornM barTab
  show List.length (_ ++ _) = _
  rw [List.length_append, List.length_map, List.length_map, List.length_replicate]
theorem laid_sum (i : Nat) : ∀ bes : List (Nat × Nat), (bes.map fun x => szB x.1 x.2 i).sum = (posL bes i).length := snoc_ind rfl fun bes x ih => by
  rw [posL_len_snoc, ← ih, List.map_append, List.sum_append]
  simp
theorem laidSs_at {bes : List (Nat × Nat)} {n i : Nat} (h : i < n) : (laidSs bes n)[i]? = some (posL bes i).length := by
  unfold laidSs
  rw [List.getElem?_map, List.getElem?_range h, ← laid_sum]
  rfl
theorem laidTs_at {bes : List (Nat × Nat)} {n i : Nat} (h : i < n) : (laidTs bes n)[i]? = some (laidT bes i) := by
  unfold laidTs
  rw [List.getElem?_map, List.getElem?_range h]
  rfl
/-- a row led through another -/
def dotL (r v : List Int) : Int := (List.zipWith (· * ·) r v).sum
theorem dot_app {r v r2 v2 : List Int} (h : r.length = v.length) : dotL (r ++ r2) (v ++ v2) = dotL r v + dotL r2 v2 := by
  unfold dotL
  rw [List.zipWith_append h, List.sum_append]
theorem dot_zero : ∀ (n : Nat) (v : List Int), dotL (List.replicate n 0) v = 0
  | 0, v => by unfold dotL; rw [List.replicate_zero, List.zipWith_nil_left]; rfl
  | n + 1, [] => by unfold dotL; rw [List.zipWith_nil_right]; rfl
  | n + 1, x :: v => by
    have := dot_zero n v
    unfold dotL at this ⊢
    rw [List.replicate_succ, List.zipWith_cons_cons, List.sum_cons, this]
    omega
def vecL (bes : List (Nat × Nat)) (f : Nat → Int) (i : Nat) : List Int := (posL bes i).map f
theorem vecL_len (bes : List (Nat × Nat)) (f : Nat → Int) (i : Nat) : (vecL bes f i).length = (posL bes i).length := List.length_map ..
theorem vecL_snoc (bes : List (Nat × Nat)) (x : Nat × Nat) (f : Nat → Int) (i : Nat) : vecL (bes ++ [x]) f i = vecL bes f i ++ if x.1 ≤ i ∧ i ≤ x.2 then [f bes.length] else [] := by
  unfold vecL
  rw [posL_snoc, List.map_append]
  congr 1
  split <;> rfl
theorem led_laid (f : Nat → Int) (i : Nat) : ∀ bes : List (Nat × Nat), (laidT bes i).2.map (fun r => dotL r (vecL bes f i)) = vecL bes (fun c => if alv bes i c = true then f c else 0) (i + 1) := snoc_ind rfl fun bes x ih => by
  rw [laidT_snoc, vecL_snoc, vecL_snoc]
  have wide := laid_wide i bes
  have rl := (laid_bd i bes).2.2
  unfold laidStep cornM
  show List.map _ (_ ++ _) = _
  rw [List.map_append, List.map_map, List.map_map]
  have e1 : (laidT bes i).2.map ((fun r => dotL r (vecL bes f i ++ if x.1 ≤ i ∧ i ≤ x.2 then [f bes.length] else [])) ∘ fun l => l ++ List.replicate (szB x.1 x.2 i) 0) = vecL bes (fun c => if alv (bes ++ [x]) i c = true then f c else 0) (i + 1) := by
    have : vecL bes (fun c => if alv (bes ++ [x]) i c = true then f c else 0) (i + 1) = vecL bes (fun c => if alv bes i c = true then f c else 0) (i + 1) := by
      unfold vecL
      refine List.map_congr_left fun c hc => ?_
      rw [alv_old (posL_lt hc).1]
    rw [this, ← ih]
    refine List.map_congr_left fun r hr => ?_
    show dotL (r ++ _) _ = _
    rw [dot_app (by rw [rl r hr, wide, vecL_len]), dot_zero, Int.add_zero]
  have e2 : (barTab (szB x.1 x.2 i) (szB x.1 x.2 (i + 1))).map ((fun r => dotL r (vecL bes f i ++ if x.1 ≤ i ∧ i ≤ x.2 then [f bes.length] else [])) ∘ fun l => List.replicate (laidT bes i).1 0 ++ l) = if x.1 ≤ i + 1 ∧ i + 1 ≤ x.2 then [if alv (bes ++ [x]) i bes.length = true then f bes.length else 0] else [] := by
    rw [alv_new]
    unfold barTab szB
    have key : ∀ r : List Int, dotL (List.replicate (laidT bes i).1 0 ++ r) (vecL bes f i ++ if x.1 ≤ i ∧ i ≤ x.2 then [f bes.length] else []) = dotL r (if x.1 ≤ i ∧ i ≤ x.2 then [f bes.length] else []) := fun r => by
      rw [dot_app (by rw [List.length_replicate, wide, vecL_len]), dot_zero, Int.zero_add]
    by_cases h2 : x.1 ≤ i + 1 ∧ i + 1 ≤ x.2
    · rw [if_pos h2, if_pos h2]
      show [dotL (_ ++ _) _] = _
      rw [key]
      by_cases h1 : x.1 ≤ i ∧ i ≤ x.2
      · rw [if_pos h1, if_pos h1, if_pos (decide_eq_true h1)]
        show [(1 * f bes.length) + 0] = _
        rw [Int.one_mul, Int.add_zero]
      · rw [if_neg h1, if_neg h1, if_neg (fun z => h1 (of_decide_eq_true z))]
        rfl
    · rw [if_neg h2, if_neg h2]
      rfl
  rw [e1, e2]
/-- the column of a bar -/
def unitC (c c' : Nat) : Int := if c' = c then 1 else 0
theorem alv_mid {bes : List (Nat × Nat)} {b i j c : Nat} (h1 : alv bes b c = true) (h2 : alv bes j c = true) (bi : b ≤ i) (ij : i ≤ j) : alv bes i c = true := by
  have a := of_decide_eq_true h1
  have b := of_decide_eq_true h2
  exact decide_eq_true ⟨by omega, by omega⟩
theorem led_unit {bes : List (Nat × Nat)} {b i c : Nat} (h : alv bes b c = true) (bi : b ≤ i) : (laidT bes i).2.map (fun r => dotL r (vecL bes (unitC c) i)) = vecL bes (unitC c) (i + 1) := by
  rw [led_laid]
  unfold vecL
  refine List.map_congr_left fun c' hc => ?_
  unfold unitC
  by_cases e : c' = c
  · subst e
    rw [if_pos rfl, if_pos (alv_mid h (posL_lt hc).2 bi (by omega))]
  · rw [if_neg e]
    split <;> rfl
/-- the column as a row of numbers -/
def unitV (bes : List (Nat × Nat)) (i c : Nat) : Vc := fun t => if (posL bes i)[t]? = some c then 1 else 0
theorem unit_get {bes : List (Nat × Nat)} {i c t : Nat} (h : t < (posL bes i).length) : (vecL bes (unitC c) i).getD t 0 = unitV bes i c t := by
  unfold vecL unitV unitC
  rw [List.getD_eq_getElem?_getD, List.getElem?_map, List.getElem?_eq_getElem h]
  show (if _ then _ else _) = _
  by_cases e : (posL bes i)[t] = c
  · rw [if_pos e, if_pos (by rw [e])]
  · rw [if_neg e, if_neg fun z => e (by injection z)]
theorem unit_new {p : Int} (p2 : 2 ≤ p) {bes : List (Nat × Nat)} {i c : Nat} {cs : List Nat} (nc : c ∉ cs) (h : c ∈ posL bes i) : ¬ M40.Sp p (posL bes i).length (cs.map (unitV bes i)) (unitV bes i c) := fun sp => by
  obtain ⟨t, ht⟩ := List.getElem?_of_mem h
  have tl := (List.getElem?_eq_some_iff.mp ht).1
  have := Sp.none (Lin.at tl) sp fun u hu => by
    obtain ⟨c', hc', rfl⟩ := List.mem_map.mp hu
    show p ∣ unitV bes i c' t
    unfold unitV
    rw [ht, if_neg fun z => nc (by injection z with z; rw [z]; exact hc')]
    exact Int.dvd_zero p
  have e : unitV bes i c t = 1 := by
    unfold unitV
    rw [ht, if_pos rfl]
  rw [e] at this
  have := Int.le_of_dvd (by decide) this
  omega
theorem unit_old {p : Int} {bes : List (Nat × Nat)} {i c : Nat} {U : List Vc} (h : c ∉ posL bes i) : M40.Sp p (posL bes i).length U (unitV bes i c) := .zero _ fun t ht => by
  unfold unitV
  rw [if_neg fun z => h (List.mem_of_getElem? z)]
  exact Int.dvd_zero p
/-- how many bars are there at both places -/
def bothN (bes : List (Nat × Nat)) (i j : Nat) : Nat := ((posL bes i).filter (alv bes j)).length
theorem bothN_snoc (bes : List (Nat × Nat)) (x : Nat × Nat) (i j : Nat) : bothN (bes ++ [x]) i j = bothN bes i j + if (x.1 ≤ i ∧ i ≤ x.2) ∧ (x.1 ≤ j ∧ j ≤ x.2) then 1 else 0 := by
  unfold bothN
  rw [posL_snoc, List.filter_append, List.length_append]
  have e1 : (posL bes i).filter (alv (bes ++ [x]) j) = (posL bes i).filter (alv bes j) := List.filter_congr fun c hc => alv_old (posL_lt hc).1
  rw [e1]
  congr 1
  by_cases h1 : x.1 ≤ i ∧ i ≤ x.2
  · rw [if_pos h1, List.filter_cons, alv_new]
    by_cases h2 : x.1 ≤ j ∧ j ≤ x.2
    · rw [if_pos (decide_eq_true h2), if_pos ⟨h1, h2⟩]
      rfl
    · rw [if_neg (fun z => h2 (of_decide_eq_true z)), if_neg fun z => h2 z.2]
      rfl
  · rw [if_neg h1, if_neg fun z => h1 z.1]
    rfl
theorem found_both {ms : List Nat} {i j m n : Nat} (hm : ms[i]? = some m) (hn : ms[j]? = some n) {L : List (Nat × Option Nat)} {bes : List (Nat × Nat)} (h : FoundX ms L bes) : bothN bes i j = (L.filter fun x => aliveB x m && aliveB x n).length := by
  induction h with
  | nil => rfl
  | @snoc L bes x b1 _ ox ih =>
    rw [List.filter_append, List.length_append, ← ih, List.filter_cons]
    rcases ox with ⟨rfl, no⟩ | ⟨b, e, rfl, yes⟩
    · rw [List.append_nil, no i m hm, Bool.false_and, if_neg (by decide)]
      rfl
    · rw [bothN_snoc]
      congr 1
      by_cases h1 : aliveB x m = true
      · by_cases h2 : aliveB x n = true
        · rw [h1, h2, if_pos ⟨(yes i m hm).mp h1, (yes j n hn).mp h2⟩]
          rfl
        · rw [Bool.eq_false_iff.mpr h2, Bool.and_false, if_neg (fun z => h2 ((yes j n hn).mpr z.2)), if_neg (by decide)]
          rfl
      · rw [Bool.eq_false_iff.mpr h1, Bool.false_and, if_neg (fun z => h1 ((yes i m hm).mpr z.1)), if_neg (by decide)]
        rfl
theorem both_same (bes : List (Nat × Nat)) (i : Nat) : bothN bes i i = (posL bes i).length := by
  unfold bothN
  rw [List.filter_eq_self.mpr fun c hc => (posL_lt hc).2]
end O42

set_option Elab.async false
set_option linter.all false
set_option maxRecDepth 100000
set_option maxHeartbeats 4000000
set_option pp.maxSteps 100
/-! _law_led, _law_rank. -/
namespace O42
open PySem L2 M40
abbrev sLed : Stmt := top 68
abbrev sRan : Stmt := top 69
theorem dot_range {r v : List Int} (h : r.length = v.length) : ((List.range r.length).map fun j => r.getD j 0 * v.getD j 0).sum = dotL r v := by
  unfold dotL
  congr 1
  refine List.ext_getElem? fun j => ?_
  rw [List.getElem?_map, List.getElem?_zipWith]
  by_cases hj : j < r.length
  · rw [List.getElem?_range hj, List.getElem?_eq_getElem hj, List.getElem?_eq_getElem (by omega)]
    show some (r.getD j 0 * v.getD j 0) = _
    rw [List.getD_eq_getElem?_getD, List.getElem?_eq_getElem hj, List.getD_eq_getElem?_getD, List.getElem?_eq_getElem (show j < v.length by omega)]
    rfl
  · rw [List.getElem?_eq_none (by rw [List.length_range]; omega), List.getElem?_eq_none (show r.length ≤ j by omega)]
    rfl
theorem sum_ite {α : Type} (f : α → Bool) : ∀ l : List α, ((l.map f).map fun z => if z = true then (1 : Int) else 0).sum = ((l.filter f).length : Int)
  | [] => rfl
  | a :: l => by
    have ih := sum_ite f l
    rw [List.map_cons, List.map_cons, List.sum_cons, ih, List.filter_cons]
    cases f a
    · simp
    · simp
      omega
def spLed : Sp := fun vs H Q _ => ∃ (p : Int) (rw cl : Addr) (rs : List Addr) (m : List (List Int)) (v : List Int), vs = [.int p, .ref rw, .ref cl] ∧ 2 ≤ p ∧ H rw = some (.tup (rs.map V.ref)) ∧ Two (fun r l => H r = some (.tup (l.map V.int))) rs m ∧ H cl = some (.lst (v.map V.int)) ∧ m.length ≤ 400 ∧ v.length ≤ 400 ∧ (∀ r ∈ m, r.length = v.length ∧ ∀ x ∈ r, 0 ≤ x ∧ x ≤ 1) ∧
  ∀ (q : Addr) (H' : Hp), H q = none → Ext H H' → H' q = some (.lst ((m.map fun r => dotL r v % p).map V.int)) → Q (.ref q) H'
def spRan : Sp := fun vs H Q _ => ∃ (p : Int) (a : Addr) (as : List Addr) (bes : List (Nat × Nat)) (b i : Nat), vs = [.int p, .ref a] ∧ Pr p ∧ H a = some (.lst (as.map V.ref)) ∧ bes.length ≤ 40 ∧ Two (fun c x => H c = some (.lst ((vecL bes (unitC x) i).map V.int))) as (posL bes b) ∧ ∀ H', Ext H H' → Q (.int ((((posL bes b).filter fun c => decide (c ∈ posL bes i)).length : Nat) : Int)) H'
section
variable {P : Program} {w : World} {K : PySem.W.Frag} {mg : Str → Option Value} {base : Heap}
abbrev ledN : List Str := ["_law_prime","_law_rows","_law_column","_law_row","_law_at","_law_worth"]
theorem scLed : FnScope ledN ["_law_prime", "_law_rows", "_law_column"] (defScope sLed) := ⟨rfl, rfl, rfl, by decide +kernel, rfl, by decide +kernel, by decide +kernel⟩
theorem ok_led {f : Addr} {fd : FuncData} (F : L2.Fun K "_law_led" "_law_led" sLed f fd) (T : Gb mg) (zS : mg "sum" = none) : FnOk P w K mg base CX0 2 f fd ["_law_prime", "_law_rows", "_law_column"] spLed := by
  refine F.ok scLed (fun vs H Q E h => ?_) (fun cdv A outer s H vs Q E hr h => ?_)
  · obtain ⟨p, rw', cl, rs, m, v, rfl, _⟩ := h
    rfl
  · obtain ⟨p, rw', cl, rs, m, v, rfl, p2, hrw, two, hcl, m400, v400, sh, k⟩ := h
    have lrs := two.len
    refine ⟨_, pss_one (ps_ret (pe_lc (own := [("_law_row", 3)]) (g := gName 3) (tt := tYes) rfl scLed.nd (pi_tup (pv 1)) (blkOk_by (N := ledN) (sc := defScope sLed) (by decide +kernel)) (fun _ _ _ _ _ => (pg_name (i := 3) scLed.nd rfl (Or.inl rfl))) (fun _ _ _ _ _ => pts_nil) (fun _ _ _ _ _ => (pe_op op_mod (pe_callTy call_int1 (by rfl) T.int (by decide +kernel) (pa_cons (pe_callB (r := rSum K) (cr_sum rfl) (by rfl) zS (by decide +kernel) (pa_cons (pe_lc (own := [("_law_at", 4), ("_law_worth", 5)]) (g := gTup K 2 (gCons (gName 4) (gCons (gName 5) gNil))) (tt := tYes) rfl scLed.nd (pi_en (by rfl) T.enum (pa_cons (pv 3) pa_nil)) (blkOk_by (by first | kernel_rfl | rfl)) (fun _ _ _ _ _ => (pg_tup rfl (pgs_cons (pg_name (i := 4) scLed.nd rfl (Or.inl rfl)) (pgs_cons (pg_name (i := 5) scLed.nd rfl (Or.inl rfl)) pgs_nil)))) (fun _ _ _ _ _ => pts_nil) (fun _ _ _ _ _ => (pe_op op_mul (pv 5) (pe_ix (r := rIxL K) ix_list (pv 2) (pv 4) (fun _ _ => rfl))))) pa_nil)) pa_nil)) (pv 0))))), ?_⟩
    refine ⟨_, rfl, rw', rfl, ⟨_, SqT.of hrw⟩, fun D nD => ?_⟩
    refine lc_gen (n := (rs.map V.ref).length) (p := fun _ => true) walk_tup nD (by rw [List.length_map]; omega) (fun i y _ => y = V.int (dotL (m.getD i []) v % p)) (fun _ _ _ _ _ z => z) (fun H' e => SqT.of (e _ _ hrw)) ?_ ?_
    · rintro i y J J' R N hi e7 ⟨rfl, hy⟩ hR hN
      obtain ⟨r, hr', rfl⟩ := ref_get hy
      obtain ⟨l, hl, hrl⟩ := two.get hr'
      have hrl := e7 _ _ hrl
      have hcl := e7 _ _ hcl
      obtain ⟨ll, l01⟩ := sh l (List.mem_of_getElem? hl)
      have gl : m.getD i [] = l := by rw [List.getD_eq_getElem?_getD, hl]; rfl
      refine ⟨rfl, tyes_in ⟨_, rfl, r, _, rfl, .inl hrl, fun D2 nD2 => ?_⟩⟩
      refine lc_gen (n := (l.map V.int).length) (p := fun _ => true) walk_en nD2 (by rw [List.length_map]; omega) (fun j y _ => y = V.int (l.getD j 0 * v.getD j 0)) (fun _ _ _ _ _ z => z) (fun H' e => .inl (e _ _ hrl)) ?_ ?_
      · rintro j y2 J2 J2' R2 N2 hj e8 ⟨t, x', z, rfl, nt, rfl, hx, hz⟩ hR2 hN2
        cases hx
        obtain ⟨x, hx, rfl⟩ := map_int_get hz
        rw [List.length_map] at hj
        have et := Ext.upd (o := .tup [V.int (j : Int), .int x]) nt
        have jv : j < v.length := by omega
        have hv := List.getElem?_eq_getElem jv
        have x01 := l01 x (List.mem_of_getElem? hx)
        refine ⟨t, _, rfl, SqT.of upd_same, rfl, _, _, rfl, _, _, rfl, rfl, rfl, tyes_in ?_⟩
        refine ⟨_, rfl, _, rfl, _, rfl, cl, _, (j : Int), .int v[j], rfl, rfl, SqL.of (et _ _ (e8 _ _ hcl)), at_of (j := j) (by omega) (by rw [List.getElem?_map, hv]; rfl), _, _, rfl, rfl, cmul (by omega) (by omega), ?_⟩
        refine hR2 rfl _ _ et ?_
        rw [List.getD_eq_getElem?_getD, hx, List.getD_eq_getElem?_getD, hv]
        rfl
      intro ys2 J3 e9 hD2 pp2
      have ey2 := vals_of (f := fun j => V.int (l.getD j 0 * v.getD j 0)) pp2
      rw [List.filter_eq_self.mpr fun _ _ => rfl, List.length_map] at ey2
      have ey2 : ys2 = ((List.range l.length).map fun j => l.getD j 0 * v.getD j 0).map V.int := by
        rw [ey2, List.map_map]
        rfl
      subst ey2
      refine ⟨D2, _, rfl, SqL.of hD2, ?_⟩
      rw [dot_range ll]
      refine .inl ⟨_, rfl, _, rfl, _, _, rfl, rfl, by omega, ?_⟩
      exact hR rfl _ _ e9 (by rw [gl])
    intro ys H1 e1 hD pp
    have ey := vals_of (f := fun i => V.int (dotL (m.getD i []) v % p)) pp
    rw [List.filter_eq_self.mpr fun _ _ => rfl, List.length_map, lrs] at ey
    refine k D H1 nD e1 ?_
    rw [hD, ey, range_map (fun r => V.int (dotL r v % p)) [] rfl, List.map_map]
    rfl
abbrev ranN : List Str := ["_law_prime","_law_columns","_law_basis","_law_column"]
theorem scRan : FnScope ranN ["_law_prime", "_law_columns"] (defScope sRan) := ⟨rfl, rfl, rfl, by decide +kernel, rfl, by decide +kernel, by decide +kernel⟩
theorem ok_ran {f : Addr} {fd : FuncData} (F : L2.Fun K "_law_rank" "_law_rank" sRan f fd) (T : Gb mg) (zS : mg "sum" = none) (cG : Cal P w K mg base 2 "_law_grows" spGro []) : FnOk P w K mg base CX0 3 f fd ["_law_prime", "_law_columns"] spRan := by
  refine F.ok scRan (fun vs H Q E h => ?_) (fun cdv A outer s H vs Q E hr h => ?_)
  · obtain ⟨p, a, as, bes, b, i, rfl, _⟩ := h
    rfl
  · obtain ⟨p, a, as, bes, b, i, rfl, hp, ha, l40, two, k⟩ := h
    refine ⟨_, pss_cons (ps_set (i := 2) scRan.nd rfl (Or.inr rfl) (pe_lst pa_nil))
      (pss_one (ps_ret (pe_callB (cr_sum rfl) (by rfl) zS (by decide +kernel) (pa_cons (pe_lc (own := [("_law_column", 3)]) (g := gName 3) (tt := tYes) rfl scRan.nd (pi_list (pv 1)) (blkOk_by (N := ranN) (sc := defScope sRan) (by decide +kernel)) (fun _ _ _ _ _ => (pg_name (i := 3) scRan.nd rfl (Or.inl rfl))) (fun _ _ _ _ _ => pts_nil) (fun _ _ _ _ _ => (pe_callTy call_int1 (by rfl) T.int (by decide +kernel) (pa_cons (C8.pe_c cG hr (by decide) (by rfl) (pa_cons (pv 0) (pa_cons (pv 2) (pa_cons (pv 3) pa_nil)))) pa_nil)))) pa_nil)))), ?_⟩
    have las := two.len
    have lp : ∀ j, (posL bes j).length ≤ 40 := fun j => by
      have := List.length_filter_le (alv bes j) (List.range bes.length)
      rw [List.length_range] at this
      unfold posL
      omega
    have lpb := lp b
    have lpi := lp i
    have nd : (posL bes b).Nodup := List.Pairwise.filter _ List.nodup_range
    refine ⟨Nat.zero_le _, fun bl nbl => ⟨_, rfl, a, rfl, ⟨_, SqL.of (Ext.upd nbl _ _ ha)⟩, fun D nD => ?_⟩⟩
    have x1 := Ext.upd (o := .lst []) nbl
    have hbl : (upd H bl (.lst [])) bl = some (.lst (([] : List Addr).map V.ref)) := upd_same
    have nDb : bl ≠ D := ne_of_none hbl nD
    have two1 := two.imp fun _ _ z => x1 _ _ z
    have ha1 := x1 _ _ ha
    generalize upd H bl (.lst []) = H1 at *
    have x2 := Ext.upd (o := .lst []) nD
    refine lc_it walk_list (n := (as.map V.ref).length) (fun u J => Ext H J ∧ ∃ (ks : List (Nat × Vc)) (bs : List Bool), J D = some (.lst (bs.map fun z => V.int (if z = true then 1 else 0))) ∧ bs.length = u ∧ BasV p (posL bes i).length D J bl ks ∧ ks.length ≤ u ∧ BasOf p (posL bes i).length (((posL bes b).take u).map (unitV bes i)) ks ∧ bs = ((posL bes b).take u).map fun c => decide (c ∈ posL bes i)) ⟨x1.trans x2, [], [], upd_same, rfl, ⟨[], x2 _ _ hbl, .nil⟩, Nat.le_refl _, BasOf.nil, rfl⟩ (fun u J _ z => SqL.of (z.1 _ _ ha)) ?_ ?_
    · rintro u y J0 J hu ⟨xJ, ks, bs, hD, lb, bv, lk, bo, eb⟩ ⟨rfl, hy⟩
      obtain ⟨c, hc, rfl⟩ := ref_get hy
      obtain ⟨x, hx, _⟩ := two.get hc
      obtain ⟨x', hx', hcl⟩ := two.get hc
      have hcl : J c = some (.lst ((vecL bes (unitC x') i).map V.int)) := xJ _ _ hcl
      cases hx.symm.trans hx'
      have nDH : H D = none := none_of_ext x1 nD
      have l2 := hp.le.1
      have ul := (List.getElem?_eq_some_iff.mp hx).1
      have rv : RowV p (posL bes i).length J c (unitV bes i x) := ⟨_, hcl, ⟨vecL_len _ _ _, fun y hy => by
        obtain ⟨c', _, rfl⟩ := List.mem_map.mp hy
        unfold unitC
        split <;> omega⟩, fun t ht => unit_get ht⟩
      have nx : x ∉ (posL bes b).take u := fun hm => by
        obtain ⟨j, hj⟩ := List.getElem?_of_mem hm
        obtain ⟨hj1, hj2⟩ := List.getElem?_eq_some_iff.mp hj
        rw [List.length_take] at hj1
        rw [List.getElem_take] at hj2
        have := (List.getElem?_eq_some_iff.mp hx).2
        have := List.pairwise_iff_getElem.mp nd j u (by omega) ul (by omega)
        omega
      have tk : (posL bes b).take (u + 1) = (posL bes b).take u ++ [x] := by
        rw [List.take_succ, hx]
        rfl
      have ext : ∀ {J3 : Hp} {o : HO}, GoD bl J J3 → Ext H (upd J3 D o) := fun {J3 o} g q o' h => by
        rw [upd_ne (ne_of_none h nDH)]
        exact g _ _ (ne_of_none h nbl) (xJ _ _ h)
      refine ⟨rfl, tyes_in ⟨_, rfl, _, rfl, _, rfl, p, (posL bes i).length, bl, c, D, unitV bes i x, _, ks, rfl, hp, by omega, rv, ⟨_, hD⟩, bv, by omega, bo, fun J3 g3 bv3 sp bo3 => ?_, fun kk J3 g3 bv3 nsp bo3 => ?_⟩⟩
      · have hD3 := g3 _ _ nDb.symm hD
        have no : x ∉ posL bes i := fun h => unit_new l2 nx h sp
        refine .inr ⟨_, rfl, _, hD3, small1000 (by rw [List.length_map]; omega), ext g3, ks, bs ++ [false], by rw [upd_same, List.map_append]; rfl, by rw [List.length_append, lb]; rfl, bv3.put hD3 nDb, by omega, ?_, ?_⟩
        · rw [tk, List.map_append]
          exact bo3
        · rw [tk, List.map_append, ← eb]
          show bs ++ [false] = bs ++ [decide (x ∈ posL bes i)]
          rw [decide_eq_false no]
      · have hD3 := g3 _ _ nDb.symm hD
        have yes : x ∈ posL bes i := Decidable.byContradiction fun h => nsp (unit_old h)
        refine .inr ⟨_, rfl, _, hD3, small1000 (by rw [List.length_map]; omega), ext g3, ks ++ [kk], bs ++ [true], by rw [upd_same, List.map_append]; rfl, by rw [List.length_append, lb]; rfl, bv3.put hD3 nDb, by rw [List.length_append]; exact Nat.succ_le_succ lk, ?_, ?_⟩
        · rw [tk, List.map_append]
          exact bo3
        · rw [tk, List.map_append, ← eb]
          show bs ++ [true] = bs ++ [decide (x ∈ posL bes i)]
          rw [decide_eq_true yes]
    · rintro J ⟨xJ, ks, bs, hD, lb, bv, lk, bo, eb⟩
      rw [List.length_map, las, List.take_of_length_le (Nat.le_refl _)] at eb
      refine ⟨D, bs.map fun z => if z = true then (1 : Int) else 0, rfl, SqL.of (by rw [hD, List.map_map]; rfl), ?_⟩
      rw [eb, sum_ite]
      exact k J xJ
end
end O42

set_option Elab.async false
set_option linter.all false
set_option maxRecDepth 100000
set_option maxHeartbeats 4000000
set_option pp.maxSteps 100
/-! Stops drawn. -/
namespace O42
open PySem L2 M40
abbrev sSto : Stmt := top 71
theorem rg_nats (n : Nat) : L2.rgV 0 ((n : Int) + 1) = (List.range (n + 1)).map nv := by
  rw [L2.rgV, show ((n : Int) + 1 - 0).toNat = n + 1 by omega]
  exact List.map_congr_left fun i _ => by rw [Int.zero_add]
theorem erase_nats : ∀ (ks : List Nat) (i : Nat), (ks.map nv).eraseIdx i = (ks.eraseIdx i).map nv
  | [], k => rfl
  | x :: l, 0 => rfl
  | x :: l, k + 1 => by
    rw [List.map_cons, List.eraseIdx_cons_succ, List.eraseIdx_cons_succ, erase_nats l k]
    rfl
def spSto : Sp := fun vs H Q _ => ∃ (r c : Addr) (n : Nat), vs = [.ref r, .int (n : Int)] ∧ BagAt H r c ∧ n ≤ 40 ∧ ∀ (a : Addr) (ms : List Nat) (H' : Hp), Go r c H H' → H' a = some (.tup (ms.map nv)) → 1 ≤ ms.length → ms.length ≤ 8 → ms.Pairwise (· < ·) → (∀ m ∈ ms, m ≤ n) → Q (.ref a) H'
section
variable {P : Program} {w : World} {K : PySem.W.Frag} {mg : Str → Option Value} {base : Heap}
abbrev stoN : List Str := ["_law_bag_here","_law_many","_law_pool","_law_wished"]
theorem scSto : FnScope stoN ["_law_bag_here", "_law_many"] (defScope sSto) := ⟨rfl, rfl, rfl, by decide +kernel, rfl, by decide +kernel, by decide +kernel⟩
theorem ok_sto {f : Addr} {fd : FuncData} (F : L2.Fun K "_law_stops" "_law_stops" sSto f fd) (T : Gb mg) (cP : Cal P w K mg base 1 "_law_pick" spPick []) : FnOk P w K mg base CX0 2 f fd ["_law_bag_here", "_law_many"] spSto := by
  refine F.ok scSto (fun vs H Q E h => ?_) (fun cdv A outer s H vs Q E hr h => ?_)
  · obtain ⟨r, c, n, rfl, _⟩ := h
    rfl
  · obtain ⟨r, c, n, rfl, bag, n40, k⟩ := h
    refine ⟨_, pss_cons (ps_set (i := 2) scSto.nd rfl (Or.inl rfl) (pe_listRg rfl (by rfl) T.list (prg_1 (by rfl) T.rng (pe_op op_add (pv 1) pe_int))))
      (pss_cons (ps_set (i := 3) scSto.nd rfl (Or.inl rfl) (pe_op op_add pe_int (C8.pe_c cP hr (by decide) (by rfl) (pa_cons (pv 0) (pa_cons pe_int pa_nil)))))
      (C8.pss_cut (ps_while PassesOwn.never (pt_cmpR op_gt (pe_callB call_len_seq (by rfl) T.len PySem.boot_len (pa_cons (pv 2) pa_nil)) (pv 3) (nomark _))
      (pss_one (ps_expr (pe_bm PySem.F.plainAttrs_list PySem.F.slot_list_pop PySem.F.type_list_pop mt_popAt (pv 2) (pa_cons (C8.pe_c cP hr (by decide) (by rfl) (pa_cons (pv 0) (pa_cons (pe_callB call_len_seq (by rfl) T.len PySem.boot_len (pa_cons (pv 2) pa_nil)) pa_nil))) pa_nil)))))
      (pss_one (ps_ret (pe_callTy call_tuple_of (by rfl) T.tup (by decide +kernel) (pa_cons (pv 2) pa_nil)))))), ?_⟩
    refine ⟨_, rfl, _, _, rfl, rfl, (n : Int) + 1, rfl, RgOk.of_le (by decide) (by omega) (by decide) (by omega), fun l nl => ?_⟩
    rw [rg_nats]
    have g1 := Go.new (o := .lst ((List.range (n + 1)).map nv)) bag nl
    have nla := bag.ne nl
    refine ⟨_, rfl, r, c, 8, rfl, g1.1, by decide, by decide, fun wi J0 w0 w8 gw => ⟨_, _, rfl, rfl, ?_⟩⟩
    have hl0 := gw.2 _ _ nla.1 nla.2 (upd_same (H := H) (a := l) (o := .lst ((List.range (n + 1)).map nv)))
    have gg0 := g1.trans gw
    refine ⟨fun σ' J => ∃ ks : List Nat, σ' = [some (.ref r), some (.int (n : Int)), some (.ref l), some (.int (1 + wi))] ∧ Go r c H J ∧ J l = some (.lst (ks.map nv)) ∧ ks.Sublist (List.range (n + 1)) ∧ 1 ≤ ks.length ∧ ks.length ≤ 8, ?_, ?_⟩
    · refine ⟨fun m σ' J => ∃ ks : List Nat, σ' = [some (.ref r), some (.int (n : Int)), some (.ref l), some (.int (1 + wi))] ∧ Go r c H J ∧ J l = some (.lst (ks.map nv)) ∧ ks.Sublist (List.range (n + 1)) ∧ 1 ≤ ks.length ∧ ks.length = m, ⟨n + 1, List.range (n + 1), rfl, gg0, hl0, List.Sublist.refl _, by rw [List.length_range]; omega, List.length_range⟩, ?_⟩
      rintro m σ' J ⟨ks, rfl, g, hl, sub, one, lm⟩
      refine ⟨_, rfl, l, _, rfl, .inl (SqL.of hl), _, rfl, _, _, rfl, rfl, _, rfl, ?_⟩
      have l41 := sub.length_le
      rw [List.length_range] at l41
      refine ite2 (fun q => ?_) (fun q => ⟨ks, rfl, g, hl, sub, one, ?_⟩)
      rotate_left
      · have : ¬ (1 + wi) < ((ks.map nv).length : Int) := fun z => q (decide_eq_true z)
        rw [List.length_map] at this
        omega
      have big : 1 < ks.length := by
        have := of_decide_eq_true q
        rw [List.length_map] at this
        omega
      refine ⟨fun σ' J' => ∃ m', m' < m ∧ ∃ ks : List Nat, σ' = [some (.ref r), some (.int (n : Int)), some (.ref l), some (.int (1 + wi))] ∧ Go r c H J' ∧ J' l = some (.lst (ks.map nv)) ∧ ks.Sublist (List.range (n + 1)) ∧ 1 ≤ ks.length ∧ ks.length = m', fun _ _ z => z, ?_⟩
      refine ⟨_, rfl, .inl ⟨rfl, _, SqL.of hl⟩, _, rfl, _, rfl, l, _, rfl, .inl (SqL.of hl), r, c, _, rfl, g.1, by rw [List.length_map]; omega, by rw [List.length_map]; omega, fun t J2 t0 tlt g2 => ?_⟩
      rw [List.length_map] at tlt
      have lt : t.toNat < ks.length := by omega
      have hy : (ks.map nv)[t.toNat]? = some (nv ks[t.toNat]) := by rw [List.getElem?_map, List.getElem?_eq_getElem lt]; rfl
      have hl2 := g2.2 _ _ nla.1 nla.2 hl
      refine ⟨l, _, t, t.toNat, _, rfl, rfl, hl2, by omega, by omega, seqI t0 (by rw [List.length_map]; exact tlt), hy, ?_⟩
      have el : (ks.eraseIdx t.toNat).length = ks.length - 1 := by rw [List.length_eraseIdx, if_pos lt]
      exact ⟨_, by omega, ks.eraseIdx t.toNat, rfl, Go.put bag (g.trans g2) nl, by rw [upd_same, erase_nats], (List.eraseIdx_sublist _ _).trans sub, by omega, el⟩
    rintro σ' J ⟨ks, rfl, g, hl, sub, one, l8⟩
    refine ⟨_, rfl, l, _, rfl, .inl ⟨SqL.of hl, fun t nt => ?_⟩⟩
    have gt := Go.new (o := .tup (ks.map nv)) g.1 nt
    exact k t ks _ (g.trans gt) upd_same one l8 (List.pairwise_lt_range.sublist sub) fun m hm => by
      have := List.mem_range.mp (sub.subset hm)
      omega
end
end O42

set_option Elab.async false
set_option linter.all false
set_option maxRecDepth 100000
set_option maxHeartbeats 4000000
set_option pp.maxSteps 100
/-! _law_ranks_right. -/
namespace O42
open PySem L2 M40
abbrev sRR : Stmt := top 70
theorem posL_nd (bes : List (Nat × Nat)) (b : Nat) : (posL bes b).Nodup := List.Pairwise.filter _ List.nodup_range
theorem posL_le (bes : List (Nat × Nat)) (b : Nat) : (posL bes b).length ≤ bes.length := by
  have := List.length_filter_le (alv bes b) (List.range bes.length)
  rw [List.length_range] at this
  exact this
theorem unit_row {bes : List (Nat × Nat)} {b k c : Nat} (h : (posL bes b)[k]? = some c) : ((List.range (posL bes b).length).map fun t => if t = k then (1 : Int) else 0) = vecL bes (unitC c) b := by
  refine List.ext_getElem? fun t => ?_
  unfold vecL
  rw [List.getElem?_map, List.getElem?_map]
  obtain ⟨kl, hk⟩ := List.getElem?_eq_some_iff.mp h
  by_cases ht : t < (posL bes b).length
  · rw [List.getElem?_range ht, List.getElem?_eq_getElem ht]
    show some _ = some (unitC c _)
    unfold unitC
    congr 1
    show (if t = k then (1 : Int) else 0) = _
    by_cases e : t = k
    · subst e
      rw [if_pos rfl, if_pos hk]
    · rw [if_neg e, if_neg fun z => e ?_]
      rcases Nat.lt_trichotomy t k with l | l | l
      · exact absurd (z.trans hk.symm) (List.pairwise_iff_getElem.mp (posL_nd bes b) t k ht kl l)
      · exact l
      · exact absurd (hk.trans z.symm) (List.pairwise_iff_getElem.mp (posL_nd bes b) k t kl ht l)
  · rw [List.getElem?_eq_none (by rw [List.length_range]; omega), List.getElem?_eq_none (by omega)]
    rfl
theorem both_mem (bes : List (Nat × Nat)) (b j : Nat) : ((posL bes b).filter fun c => decide (c ∈ posL bes j)).length = bothN bes b j := by
  unfold bothN
  congr 1
  refine List.filter_congr fun c hc => ?_
  by_cases h : alv bes j c = true
  · rw [h, decide_eq_true (show c ∈ posL bes j from List.mem_filter.mpr ⟨List.mem_range.mpr (posL_lt hc).1, h⟩)]
  · rw [Bool.eq_false_iff.mpr h, decide_eq_false fun z => h (posL_lt z).2]
theorem laid_01 (i : Nat) : ∀ bes : List (Nat × Nat), ∀ l ∈ (laidT bes i).2, ∀ x ∈ l, 0 ≤ x ∧ x ≤ 1 := snoc_ind (fun l h => nomatch h) fun bes y ih l hl x hx => by
  rw [laidT_snoc] at hl
  unfold laidStep cornM barTab at hl
  rcases List.mem_append.mp hl with h | h
  · obtain ⟨m, hm, rfl⟩ := List.mem_map.mp h
    rcases List.mem_append.mp hx with h | h
    · exact ih m hm x h
    · rw [List.eq_of_mem_replicate h]
      decide
  · obtain ⟨m, hm, rfl⟩ := List.mem_map.mp h
    rcases List.mem_append.mp hx with h | h
    · rw [List.eq_of_mem_replicate h]
      decide
    · rw [List.eq_of_mem_replicate hm] at h
      rw [List.eq_of_mem_replicate h]
      decide
theorem led_mod {p : Int} (p2 : 2 ≤ p) {bes : List (Nat × Nat)} {b i c : Nat} (h : alv bes b c = true) (bi : b ≤ i) : (laidT bes i).2.map (fun r => dotL r (vecL bes (unitC c) i) % p) = vecL bes (unitC c) (i + 1) := by
  have e := led_unit h bi
  have : (laidT bes i).2.map (fun r => dotL r (vecL bes (unitC c) i) % p) = ((laidT bes i).2.map (fun r => dotL r (vecL bes (unitC c) i))).map fun x => x % p := by
    rw [List.map_map]
    rfl
  rw [this, e]
  unfold vecL
  rw [List.map_map]
  refine List.map_congr_left fun c' _ => ?_
  show unitC c c' % p = unitC c c'
  unfold unitC
  split
  · exact Int.emod_eq_of_lt (by decide) (by omega)
  · exact Int.zero_emod p
def duesN (bes : List (Nat × Nat)) (b n : Nat) : List Nat := (List.range (n - b)).map fun k => bothN bes b (b + k)
def spRR (CP CT : Addr) : Sp := fun vs H Q _ => ∃ (pc wb du : Addr) (p : Int) (bes : List (Nat × Nat)) (b n : Nat), vs = [.ref pc, .int p, .int (b : Int), .ref du] ∧ Pr p ∧ PicX CP CT H pc wb p (laidSs bes n) (laidTs bes (n - 1)) ∧ b < n ∧ n ≤ 8 ∧ bes.length ≤ 40 ∧ H du = some (.lst ((duesN bes b n).map nv)) ∧ ∀ H', Ext H H' → Q (.bl true) H'
section
variable {P : Program} {w : World} {K : PySem.W.Frag} {mg : Str → Option Value} {base : Heap}
abbrev rrN : List Str := ["_law_picture","_law_prime","_law_begin","_law_dues","_law_size","_law_columns","_law_more","_law_due","_law_rows","_law_column","_law_at","_law_k"]
theorem scRR : FnScope rrN ["_law_picture", "_law_prime", "_law_begin", "_law_dues"] (defScope sRR) := ⟨rfl, rfl, rfl, by decide +kernel, rfl, by decide +kernel, by decide +kernel⟩
theorem ok_rr {f CP CT : Addr} {fd : FuncData} (F : L2.Fun K "_law_ranks_right" "_law_ranks_right" sRR f fd) (T : Gb mg) (D : PicD K mg CP) (DT : TabD K mg CT) (cL : Cal P w K mg base 2 "_law_led" spLed []) (cR : Cal P w K mg base 3 "_law_rank" spRan []) : FnOk P w K mg base CX0 4 f fd ["_law_picture", "_law_prime", "_law_begin", "_law_dues"] (spRR CP CT) := by
  refine F.ok scRR (fun vs H Q E h => ?_) (fun cdv A outer s H vs Q E hr h => ?_)
  · obtain ⟨pc, wb, du, p, bes, b, n, rfl, _⟩ := h
    rfl
  · obtain ⟨pc, wb, du, p, bes, b, n, rfl, hp, px, bn, n8, l40, hdu, k⟩ := h
    obtain ⟨sz, tb, ts, ⟨dx, hpc⟩, hsz, htb, tts⟩ := id px
    have p2 := hp.le.1
    have ls := posL_le bes b
    refine ⟨_, pss_cons (ps_set (i := 4) scRR.nd rfl (Or.inr rfl) (pe_ix ix_tup (pe_fld (pv 0) rfl) (pv 2) (fun _ _ => rfl)))
      (C8.pss_cut (ps_setLc (i := 5) (own := [("_law_k", 11)]) (g := gName 11) (tt := tYes) rfl scRR.nd rfl rfl (sw_true rfl rfl rfl (by decide +kernel)) (pi_range1 (by rfl) T.rng (pa_cons (pv 4) pa_nil)) (blkOk_by (N := rrN) (sc := defScope sRR) (by decide +kernel)) (fun _ _ _ _ _ => (pg_name (i := 11) scRR.nd rfl (Or.inr rfl))) (fun _ _ _ _ _ => pts_nil) (fun _ _ _ _ _ => (pe_lc (own := [("_law_at", 10)]) (g := gName 10) (tt := tYes) rfl scRR.nd (pi_range1 (by rfl) T.rng (pa_cons (pv 4) pa_nil)) (blkOk_by (by first | kernel_rfl | rfl)) (fun _ _ _ _ _ => (pg_name (i := 10) scRR.nd rfl (Or.inl rfl))) (fun _ _ _ _ _ => pts_nil) (fun _ _ _ _ _ => (pe_callTy call_int1 (by rfl) T.int (by decide +kernel) (pa_cons (pe_cmpR op_eq (pv 10) (pv 11) (nomark _)) pa_nil))))))
      (pss_cons (ps_for PassesOwn.never rfl (pi_enum (by rfl) T.enum (pa_cons (pv 3) pa_nil)) (pg_tup rfl (pgs_cons (pg_name (i := 6) scRR.nd rfl (Or.inl rfl)) (pgs_cons (pg_name (i := 7) scRR.nd rfl (Or.inl rfl)) pgs_nil)))
      (C8.pss_cut (ps_if (pt_cmpR op_gt (pv 6) pe_int (nomark _)) (pss_cons (ps_set (i := 8) scRR.nd rfl (Or.inr rfl) (pe_fld (pe_ix ix_tup (pe_fld (pv 0) rfl) (pe_op op_sub (pe_op op_add (pv 2) (pv 6)) pe_int) (fun _ _ => rfl)) rfl))
      (pss_one (ps_setLc (i := 5) (own := [("_law_column", 9)]) (g := gName 9) (tt := tYes) rfl scRR.nd rfl rfl (sw_true rfl rfl rfl (by decide +kernel)) (pi_list (pv 5)) (blkOk_by (N := rrN) (sc := defScope sRR) (by decide +kernel)) (fun _ _ _ _ _ => (pg_name (i := 9) scRR.nd rfl (Or.inl rfl))) (fun _ _ _ _ _ => pts_nil) (fun _ _ _ _ _ => (C8.pe_c cL hr (by decide) (by rfl) (pa_cons (pv 1) (pa_cons (pv 8) (pa_cons (pv 9) pa_nil)))))))) pss_nil)
      (pss_one (ps_if (pt_cmpR op_ne (C8.pe_c cR hr (by decide) (by rfl) (pa_cons (pv 1) (pa_cons (pv 5) pa_nil))) (pv 7) (nomark _)) (pss_one (ps_ret pe_bl)) pss_nil))))
      (pss_one (ps_ret pe_bl)))), ?_⟩
    refine ⟨_, rfl, pc, CP, dx, _, _, rfl, hpc, D.cl, D.n3, pf_sizes .., _, rfl, sz, _, (b : Int), nv (posL bes b).length, rfl, rfl, SqT.of hsz, nat_at (laidSs_at bn), ?_⟩
    -- the first columns
    refine ⟨fun σ' J => ∃ (cl : Addr) (as : List Addr), σ' = [some (.ref pc), some (.int p), some (.int (b : Int)), some (.ref du), some (nv (posL bes b).length), some (.ref cl), Option.none, Option.none, Option.none, Option.none, Option.none, Option.none] ∧ Ext H J ∧ J cl = some (.lst (as.map V.ref)) ∧ Two (fun c x => J c = some (.lst ((vecL bes (unitC x) b).map V.int))) as (posL bes b), ?_, ?_⟩
    · refine ⟨_, rfl, ((posL bes b).length : Int), rfl, by omega, by omega, fun D1 nD1 => ?_⟩
      refine lc_it (walk_range (lo := 0)) (n := ((posL bes b).length : Int).toNat) (fun u J => Ext H J ∧ ∃ as : List Addr, J D1 = some (.lst (as.map V.ref)) ∧ Two (fun c x => c ≠ D1 ∧ J c = some (.lst ((vecL bes (unitC x) b).map V.int))) as ((posL bes b).take u)) ⟨Ext.upd nD1, [], upd_same, .nil⟩ (fun u J _ z => True.intro) ?_ ?_
      · rintro u y J0 J hu ⟨xJ, as, hD, two⟩ ⟨rfl, rfl⟩
        have u2 : u < (posL bes b).length := by omega
        have hx := List.getElem?_eq_getElem u2
        generalize (posL bes b)[u] = x at hx
        refine ⟨rfl, tyes_in ⟨_, rfl, ((posL bes b).length : Int), rfl, by omega, by omega, fun D2 nD2 => ?_⟩⟩
        refine lc_gen (n := ((posL bes b).length : Int).toNat) (p := fun _ => true) (walk_range (lo := 0)) nD2 (by omega) (fun t y _ => y = V.int (if t = u then 1 else 0)) (fun _ _ _ _ _ z => z) (fun H' e => True.intro) ?_ ?_
        · rintro t y J2 J2' R2 N2 ht e8 ⟨rfl, rfl⟩ hR2 hN2
          refine ⟨rfl, tyes_in ?_⟩
          refine ⟨_, rfl, _, rfl, rfl, .inr ⟨_, rfl, hR2 rfl _ _ Ext.rfl' ?_⟩⟩
          by_cases e : t = u
          · subst e
            rw [decide_eq_true rfl, if_pos rfl, if_pos rfl]
          · rw [decide_eq_false (fun z => e (by injection z with z; omega)), if_neg e]
            rfl
        intro ys J2 e2 hD2 pp
        have ey := vals_of (f := fun t => V.int (if t = u then 1 else 0)) pp
        rw [List.filter_eq_self.mpr fun _ _ => rfl, Int.toNat_natCast] at ey
        have ey : ys = (vecL bes (unitC x) b).map V.int := by
          rw [ey, ← unit_row hx, List.map_map]
          rfl
        subst ey
        have ne : D2 ≠ D1 := (ne_of_none hD nD2).symm
        have hD' := e2 _ _ hD
        have la := two.len
        rw [List.length_take] at la
        refine ⟨_, hD', small1000 (by rw [List.length_map]; omega), fun c o h => ?_, as ++ [D2], by rw [upd_same, List.map_append]; rfl, ?_⟩
        · rw [upd_ne (ne_of_none h nD1)]
          exact e2 _ _ (xJ _ _ h)
        · rw [List.take_succ, hx]
          refine (two.imp fun c x' z => ⟨z.1, ?_⟩).snoc ⟨ne, by rw [upd_ne ne]; exact hD2⟩
          rw [upd_ne z.1]
          exact e2 _ _ z.2
      · rintro J ⟨xJ, as, hD, two⟩
        rw [Int.toNat_natCast, List.take_of_length_le (Nat.le_refl _)] at two
        exact ⟨D1, as, rfl, xJ, hD, two.imp fun _ _ z => z.2⟩
    rintro σ' J ⟨cl, as, rfl, xJ, hcl, two⟩
    refine ⟨_, rfl, du, _, rfl, SqL.of (xJ _ _ hdu), ?_⟩
    refine for_it walk_enum (fun u σ' J' => ∃ (cl : Addr) (as : List Addr) (v6 v7 v8 : Option V), σ' = [some (.ref pc), some (.int p), some (.int (b : Int)), some (.ref du), some (nv (posL bes b).length), some (.ref cl), v6, v7, v8, Option.none, Option.none, Option.none] ∧ Ext J J' ∧ J' cl = some (.lst (as.map V.ref)) ∧ Two (fun c x => J' c = some (.lst ((vecL bes (unitC x) (b + (u - 1))).map V.int))) as (posL bes b)) ⟨cl, as, _, _, _, rfl, Ext.rfl', hcl, two⟩ (fun u σ' J' _ ⟨_, _, _, _, _, _, x, _⟩ => SqL.of (x _ _ (xJ _ _ hdu))) ?_ ?_
    rotate_left
    · rintro σ' J' ⟨_, _, _, _, _, rfl, x', _⟩
      exact k J' (xJ.trans x')
    rintro u z σ' J1 J1' hu ⟨cl, as, v6, v7, v8, rfl, x1, hcl, two⟩ ⟨tp, x, y, rfl, nt, rfl, hx, hy⟩
    cases hx
    obtain ⟨due, hdue, rfl⟩ := nat_get hy
    have uN : u < n - b := by
      have := (List.getElem?_eq_some_iff.mp hdue).1
      unfold duesN at this
      rwa [List.length_map, List.length_range] at this
    have ed : due = bothN bes b (b + u) := by
      unfold duesN at hdue
      rw [List.getElem?_map, List.getElem?_range uN] at hdue
      injection hdue with hdue
      exact hdue.symm
    subst ed
    have et := Ext.upd (o := .tup [V.int (u : Int), nv (bothN bes b (b + u))]) nt
    refine ⟨tp, _, rfl, SqT.of upd_same, rfl, _, _, rfl, _, _, rfl, rfl, ?_⟩
    have x2 := (xJ.trans x1).trans et
    have x12 := x1.trans et
    have hcl := et _ _ hcl
    have two := two.imp fun _ _ z => et _ _ z
    generalize upd J1 tp (.tup [V.int (u : Int), nv (bothN bes b (b + u))]) = J2 at *
    refine ⟨fun σ' J' => ∃ (cl : Addr) (as : List Addr) (v8 : Option V), σ' = [some (.ref pc), some (.int p), some (.int (b : Int)), some (.ref du), some (nv (posL bes b).length), some (.ref cl), some (.int (u : Int)), some (nv (bothN bes b (b + u))), v8, Option.none, Option.none, Option.none] ∧ Ext J2 J' ∧ J' cl = some (.lst (as.map V.ref)) ∧ Two (fun c x => J' c = some (.lst ((vecL bes (unitC x) (b + u)).map V.int))) as (posL bes b), ?_, ?_⟩
    · refine ⟨_, rfl, _, _, rfl, rfl, _, rfl, ite2 (fun z => ?_) (fun z => ⟨cl, as, _, rfl, Ext.rfl', hcl, ?_⟩)⟩
      rotate_left
      · have u0 : u = 0 := by
          have : ¬ (0 : Int) < (u : Int) := fun h => z (decide_eq_true h)
          omega
        subst u0
        exact two
      have u1 : 1 ≤ u := by
        have := of_decide_eq_true z
        omega
      have e1 : b + (u - 1) = b + u - 1 := by omega
      rw [e1] at two
      obtain ⟨t, ht0, tx⟩ := tts.got (laidTs_at (bes := bes) (n := n - 1) (i := b + u - 1) (by omega))
      obtain ⟨rb, rs, ⟨dt, hta⟩, hrb, trs⟩ := tx
      have hta := x2 _ _ hta
      have hrb := x2 _ _ hrb
      have trs := trs.imp fun _ _ z => x2 _ _ z
      have hat : atI (ts.map V.ref) ((b : Int) + (u : Int) - 1) = some (.ref t) := at_of (j := b + u - 1) (by omega) (by rw [List.getElem?_map, ht0]; rfl)
      obtain ⟨bd1, bd2, bd3⟩ := laid_bd (b + u - 1) bes
      refine ⟨_, rfl, pc, CP, dx, _, _, rfl, x2 _ _ hpc, D.cl, D.n4, pf_tables .., _, rfl, _, rfl, _, _, rfl, rfl, _, _, rfl, rfl, tb, _, (b : Int) + (u : Int) - 1, .ref t, rfl, rfl, SqT.of (x2 _ _ htb), hat, t, CT, dt, _, _, rfl, hta, DT.cl, DT.n3, tf_rows .., ?_⟩
      refine ⟨_, rfl, cl, rfl, ⟨_, SqL.of hcl⟩, fun D1 nD1 => ?_⟩
      refine lc_it walk_list (n := (as.map V.ref).length) (fun m J => Ext J2 J ∧ ∃ as' : List Addr, J D1 = some (.lst (as'.map V.ref)) ∧ Two (fun c x => c ≠ D1 ∧ J c = some (.lst ((vecL bes (unitC x) (b + u)).map V.int))) as' ((posL bes b).take m)) ⟨Ext.upd nD1, [], upd_same, .nil⟩ (fun m J z z1 => SqL.of (z1.1 _ _ hcl)) ?_ ?_
      · rintro m y J0 J' hm ⟨x3, as', hD, tw⟩ ⟨rfl, hy⟩
        obtain ⟨c, hc, rfl⟩ := ref_get hy
        obtain ⟨x, hx, hcc⟩ := two.get hc
        have hcc : J' c = some (.lst ((vecL bes (unitC x) (b + u - 1)).map V.int)) := x3 _ _ hcc
        have la := tw.len
        rw [List.length_take] at la
        refine ⟨rfl, tyes_in ⟨_, rfl, _, rfl, _, rfl, p, rb, c, rs, (laidT bes (b + u - 1)).2, vecL bes (unitC x) (b + u - 1), rfl, p2, x3 _ _ hrb, trs.imp fun _ _ z => x3 _ _ z, hcc, by omega, by rw [vecL_len]; have := posL_le bes (b + u - 1); omega, fun r hr' => ⟨by rw [bd3 r hr', laid_wide, vecL_len], laid_01 _ bes r hr'⟩, fun q J4 nq x4 hq => ?_⟩⟩
        rw [led_mod p2 (posL_lt (List.mem_of_getElem? hx)).2 (by omega), show b + u - 1 + 1 = b + u by omega] at hq
        have hD4 := x4 _ _ hD
        have qD : q ≠ D1 := fun e => by
          rw [e, hD] at nq
          cases nq
        refine ⟨_, hD4, small1000 (by rw [List.length_map]; omega), fun c o h => ?_, as' ++ [q], by rw [upd_same, List.map_append]; rfl, ?_⟩
        · rw [upd_ne (ne_of_none h nD1)]
          exact x4 _ _ (x3 _ _ h)
        · rw [List.take_succ, hx]
          refine (tw.imp fun c x' z => ⟨z.1, ?_⟩).snoc ⟨qD, by rw [upd_ne qD]; exact hq⟩
          rw [upd_ne z.1]
          exact x4 _ _ z.2
      · rintro J ⟨x3, as', hD, tw⟩
        rw [List.length_map, two.len, List.take_of_length_le (Nat.le_refl _)] at tw
        exact ⟨D1, as', _, rfl, x3, hD, tw.imp fun _ _ z => z.2⟩
    rintro σ' J3 ⟨cl, as, v8, rfl, x3, hcl, two⟩
    refine ⟨_, rfl, _, rfl, p, cl, as, bes, b, b + u, rfl, hp, hcl, l40, two, fun J4 x4 => ⟨_, rfl, rfl, _, rfl, ?_⟩⟩
    rw [both_mem, decide_eq_true rfl]
    exact iteF ⟨cl, as, _, _, _, rfl, (x12.trans x3).trans x4, x4 _ _ hcl, two.imp fun _ _ z => x4 _ _ z⟩
end
end O42

set_option Elab.async false
set_option linter.all false
set_option maxRecDepth 100000
set_option maxHeartbeats 4000000
set_option pp.maxSteps 100
/-! Web.__eq__ of lines. -/
namespace O42
open PySem L2 M40
abbrev sWebE : Stmt := inClass (top 35) 1
def lineL (n : Nat) : List (List Int) := (List.range (n - 1)).map fun i : Nat => [(i : Int), (i : Int) + 1]
theorem paired_idx {α β : Type} {R : α → β → Prop} : ∀ {l : List α} {k : List β}, l.length = k.length → (∀ (i : Nat) (a : α) (b : β), l[i]? = some a → k[i]? = some b → R a b) → Paired R l k
  | [], [], _, _ => .nil
  | a :: l, b :: k, h, g => .cons (g 0 a b rfl rfl) (paired_idx (by simpa using h) fun i x y hx hy => g (i + 1) x y hx hy)
  | [], b :: k, h, _ => by cases h
  | a :: l, [], h, _ => by cases h
theorem LineA.tt {H : Hp} {b : Addr} {n : Nat} (h : LineA H b n) : TT H b (lineL n) := by
  obtain ⟨as, h1, h2, h3⟩ := h
  refine ⟨as, h1, paired_idx (by unfold lineL; rw [List.length_map, List.length_range, h2]) fun i a l ha hl => ?_⟩
  have il := (List.getElem?_eq_some_iff.mp ha).1
  unfold lineL at hl
  rw [List.getElem?_map, List.getElem?_range (by omega)] at hl
  injection hl with hl
  subst hl
  exact h3 i a ha
def spEqW (CW : Addr) : Sp := fun vs H Q _ => ∃ (p q : Addr) (n : Nat), vs = [.ref p, .ref q] ∧ LineW CW H p n ∧ LineW CW H q n ∧ Q (.bl true) H
section
variable {P : Program} {w : World} {K : PySem.W.Frag} {mg : Str → Option Value} {base : Heap}
theorem scWebE : FnScope ["self", "other"] ["self", "other"] (defScope sWebE) := ⟨rfl, rfl, rfl, by decide +kernel, rfl, by decide +kernel, by decide +kernel⟩
theorem ok_webE {f CW : Addr} {fd : FuncData} (F : L2.Fun K "__eq__" "Web.__eq__" sWebE f fd) (T : Gb mg) (W : WebD K mg CW) (IW : IsC K CW) : FnOk P w K mg base CX0 1 f fd ["self", "other"] (spEqW CW) := by
  refine F.ok scWebE (fun vs H Q E h => ?_) (fun cdv A outer s H vs Q E hr h => ?_)
  · obtain ⟨p, q, n, rfl, _⟩ := h
    rfl
  · obtain ⟨p, q, n, rfl, ⟨dx, b, hp, la⟩, ⟨dx', b', hq, la'⟩, k⟩ := h
    refine ⟨_, pss_one (ps_ret (pe_and (pe_callB call_isi (by rfl) T.isi (by decide +kernel) (pa_cons (pv 1) (pa_cons (pe_glob (v := .ref CW) rfl W.mgC rfl) pa_nil)))
      (pe_and (pe_cmpR op_eq (pe_fld (pv 0) rfl) (pe_fld (pv 1) rfl) (nomark _)) (pe_one (pe_cmpR (op_eqD hr.units) (pe_fld (pv 0) rfl) (pe_fld (pv 1) rfl) (nomark _)))))), ?_⟩
    refine ⟨_, rfl, _, .ref CW, .ref CW, .ref CW, _, rfl, .own CW, IW.ty hq, kit_same, _, rfl, ?_⟩
    refine iteT ⟨_, rfl, p, CW, dx, _, _, rfl, hp, W.cl, W.n1, wf_many _ _, _, rfl, q, CW, dx', _, _, rfl, hq, W.cl, W.n1, wf_many _ _, rfl, _, rfl, ?_⟩
    rw [decide_eq_true rfl]
    refine iteT ⟨_, rfl, p, CW, dx, _, _, rfl, hp, W.cl, W.n2, wf_arrows _ _, _, rfl, q, CW, dx', _, _, rfl, hq, W.cl, W.n2, wf_arrows _ _, _, _, la.tt.dp, la'.tt.dp, shaped_dT _, shaped_dT _, ?_⟩
    rw [eqv_dT, decide_eq_true rfl]
    exact k
end
end O42

set_option Elab.async false
set_option linter.all false
set_option maxRecDepth 100000
set_option maxHeartbeats 4000000
set_option pp.maxSteps 100
/-! How many rings are there and stay apart, by bars. -/
namespace O42
open PySem L2 M40
theorem cnt_cut {P : Nat → Prop} {m : Nat} (h : ∀ b, P b → b < m) : ∀ {n : Nat}, m ≤ n → cnt n P = cnt m P
  | n, e => by
    induction n with
    | zero =>
      have : m = 0 := by omega
      rw [this]
    | succ n ih =>
      by_cases q : m = n + 1
      · rw [q]
      · rw [cnt_no fun z => by have := h _ z; omega]
        exact ih (by omega)
open Classical in
theorem bars_count {p : Int} {ll : List (List Int)} {d : Nat} {L : List (Nat × Option Nat)} (B : BarsOf p ll d L) (R : Rims p ll.length (szD ll) (rimD p ll)) {m n : Nat} (hm : m ≤ ll.length) (hn : n ≤ ll.length) :
    (((L.filter fun x => decide (x.1 < m)).filter fun x => lastB n x.2).length : Int) = (ringsN p ll d m : Int) - lostN p ll d m n := by
  have key : ∀ x ∈ L, (lastB n x.2 && decide (x.1 < m)) = decide (x.1 < m ∧ ∀ j, j < ll.length → M40.Low p ll.length (rimD p ll) j x.1 → n ≤ j) := fun x hx => by
    have a1 := B.yes x hx
    have a2 := B.no x hx
    by_cases q : x.1 < m
    · cases hg : x.2 with
      | none =>
        have := a2 hg
        rw [decide_eq_true q, decide_eq_true (⟨q, fun j hj lo => absurd lo (this j hj)⟩ : x.1 < m ∧ ∀ j, j < ll.length → M40.Low p ll.length (rimD p ll) j x.1 → n ≤ j)]
        rfl
      | some j =>
        obtain ⟨hj, lo⟩ := a1 j hg
        have un : ∀ j', j' < ll.length → M40.Low p ll.length (rimD p ll) j' x.1 → j' = j := fun j' hj' lo' => by
          rcases Nat.lt_trichotomy j' j with l | e | l
          · exact (R.once hj l lo' lo).elim
          · exact e
          · exact (R.once hj' l lo lo').elim
        rw [decide_eq_true q]
        show (decide (n ≤ j) && true) = _
        by_cases z : n ≤ j
        · rw [decide_eq_true z, decide_eq_true (⟨q, fun j' hj' lo' => by rw [un j' hj' lo']; exact z⟩ : x.1 < m ∧ ∀ j, j < ll.length → M40.Low p ll.length (rimD p ll) j x.1 → n ≤ j)]
          rfl
        · rw [decide_eq_false z, decide_eq_false fun h => z (h.2 j hj lo)]
          rfl
    · rw [decide_eq_false q, decide_eq_false fun h => q h.1, Bool.and_false]
  have e1 : ((L.filter fun x => decide (x.1 < m)).filter fun x => lastB n x.2).length = ((L.map Prod.fst).filter fun b => decide (b < m ∧ ∀ j, j < ll.length → M40.Low p ll.length (rimD p ll) j b → n ≤ j)).length := by
    rw [List.filter_filter, List.filter_map, List.length_map]
    congr 1
    exact List.filter_congr fun x hx => key x hx
  have e2 : ((bornL p ll d ll.length).filter fun b => decide (b < m ∧ ∀ j, j < ll.length → M40.Low p ll.length (rimD p ll) j b → n ≤ j)).length = cnt ll.length fun b => (b < m ∧ ∀ j, j < ll.length → M40.Low p ll.length (rimD p ll) j b → n ≤ j) ∧ (szD ll b = d + 1 ∧ Born p ll.length (rimD p ll) b) := by
    rw [cnt_eq]
    unfold bornL
    rw [List.filter_filter]
    congr 1
    refine List.filter_congr fun b _ => ?_
    by_cases h1 : b < m ∧ ∀ j, j < ll.length → M40.Low p ll.length (rimD p ll) j b → n ≤ j
    · by_cases h2 : bornB p ll d b = true
      · rw [decide_eq_true h1, h2, decide_eq_true ⟨h1, bornB_iff.mp h2⟩]
        rfl
      · rw [decide_eq_true h1, Bool.eq_false_iff.mpr h2, decide_eq_false fun z => h2 (bornB_iff.mpr z.2)]
        rfl
    · rw [decide_eq_false h1, decide_eq_false fun z => h1 z.1]
      rfl
  have e3 := cnt_cut (P := fun b => (b < m ∧ ∀ j, j < ll.length → M40.Low p ll.length (rimD p ll) j b → n ≤ j) ∧ (szD ll b = d + 1 ∧ Born p ll.length (rimD p ll) b)) (m := m) (fun b h => h.1.1) hm
  have e4 := cnt_congr (n := m) (P := fun b => (b < m ∧ ∀ j, j < ll.length → M40.Low p ll.length (rimD p ll) j b → n ≤ j) ∧ (szD ll b = d + 1 ∧ Born p ll.length (rimD p ll) b)) (Q := fun b => (szD ll b = d + 1 ∧ Born p ll.length (rimD p ll) b) ∧ ∀ j, j < ll.length → M40.Low p ll.length (rimD p ll) j b → n ≤ j) fun b hb => ⟨fun h => ⟨h.2, h.1.2⟩, fun h => ⟨⟨hb, h.2⟩, h.1⟩⟩
  have e5 := R.lasting B.cas (d := d) hm hn
  rw [e1, B.fst, e2, e3, e4, e5]
  rfl

theorem alive_two {L : List (Nat × Option Nat)} {m n : Nat} (h : m ≤ n) : (L.filter fun x => aliveB x m && aliveB x n) = (L.filter fun x => decide (x.1 < m)).filter fun x => lastB n x.2 := by
  rw [List.filter_filter]
  refine List.filter_congr fun x _ => ?_
  unfold aliveB
  by_cases a : x.1 < m
  · rw [decide_eq_true a, decide_eq_true (Nat.lt_of_lt_of_le a h), Bool.true_and, Bool.true_and, Bool.and_true]
    cases hb : lastB n x.2 with
    | false => rw [Bool.and_false]
    | true => rw [lastB_le h hb]; rfl
  · rw [decide_eq_false a, Bool.false_and, Bool.false_and, Bool.and_false]
/-- what is due -/
theorem due_is {p : Int} {ll : List (List Int)} {d : Nat} {L : List (Nat × Option Nat)} (B : BarsOf p ll d L) (R : Rims p ll.length (szD ll) (rimD p ll)) {ms : List Nat} {bes : List (Nat × Nat)} (F : FoundX ms L bes) {i j m n : Nat} (hi : ms[i]? = some m) (hj : ms[j]? = some n) (mn : m ≤ n) (hm : m ≤ ll.length) (hn : n ≤ ll.length) : (ringsN p ll d m : Int) - lostN p ll d m n = (bothN bes i j : Int) := by
  rw [found_both hi hj F, alive_two mn, bars_count B R hm hn]
end O42

set_option Elab.async false
set_option linter.all false
set_option maxRecDepth 100000
set_option maxHeartbeats 4000000
set_option pp.maxSteps 100
/-! _law_right. -/
namespace O42
open PySem L2 M40
abbrev sRig : Stmt := top 72
theorem pf_web (wb : Addr) (pr : Int) (sz tb : Addr) : (pf wb pr sz tb).lookup ("web" : Str) = some (.ref wb) := by rfl
theorem pf_prime (wb : Addr) (pr : Int) (sz tb : Addr) : (pf wb pr sz tb).lookup ("prime" : Str) = some (.int pr) := by rfl
theorem paired_refs {S : Hp} {G : Nat → HO} : ∀ {l : List Nat} {ys : List V}, Paired (fun i y => ∃ r : Addr, y = V.ref r ∧ S r = some (G i)) l ys → ∃ rs : List Addr, ys = rs.map V.ref ∧ rs.length = l.length ∧ ∀ (j i : Nat) (r : Addr), l[j]? = some i → rs[j]? = some r → S r = some (G i)
  | _, _, .nil => ⟨[], rfl, rfl, fun j i r h => nomatch h⟩
  | _, _, .cons ⟨r, e, h⟩ t => by
    obtain ⟨rs, e2, h2, h3⟩ := paired_refs t
    refine ⟨r :: rs, by rw [e, e2]; rfl, by rw [List.length_cons, List.length_cons, h2], fun j i r' hi hr' => ?_⟩
    cases j with
    | zero =>
      cases hi
      cases hr'
      exact h
    | succ j => exact h3 j i r' hi hr'
theorem same_ints {K : PySem.W.Frag} {H : Hp} {p q : Addr} {l : List Int} {Q : VK} (h1 : H p = some (.tup (l.map V.int))) (h2 : H q = some (.tup (l.map V.int))) (h : Q (.bl false) H) : rNeD K (.ref p) (.ref q) H Q := by
  refine ⟨tI l, tI l, dp_tI h1, dp_tI h2, shaped_tI l, shaped_tI l, ?_⟩
  have e : PyData.eqv (tI l) (tI l) = true := by
    show PyData.eqvAll _ _ = true
    rw [eqv_ints, decide_eq_true rfl]
  rw [e]
  exact h
theorem cut_two {xs : List V} {i : Nat} (h : i + 2 ≤ xs.length) : cutV xs (some (i : Int)) (some ((i : Int) + 2)) = (xs.drop i).take 2 := by
  unfold cutV
  rw [show (i : Int) + 2 = ((i + 2 : Nat) : Int) by omega, HT.sIx_nat, HT.sIx_nat, Nat.min_eq_left h, Nat.min_eq_left (show i ≤ xs.length by omega), show i + 2 - i = 2 by omega]
theorem drop_two {α : Type} {xs : List α} {i : Nat} {a b : α} (h1 : xs[i]? = some a) (h2 : xs[i + 1]? = some b) : (xs.drop i).take 2 = [a, b] := by
  obtain ⟨l1, rfl⟩ := List.getElem?_eq_some_iff.mp h1
  obtain ⟨l2, rfl⟩ := List.getElem?_eq_some_iff.mp h2
  rw [List.drop_eq_getElem_cons l1, List.take_succ_cons, List.drop_eq_getElem_cons l2, List.take_succ_cons, List.take_zero]
def spRight : Sp := fun vs H Q _ => ∃ (c a : Addr) (ll : List (List Int)) (p : Int) (d : Nat) (ms : List Nat), vs = [.ref c, .int p, .int (d : Int), .ref a] ∧ CLs H c ll ∧ GoodT ll ∧ ll.length ≤ 40 ∧ Pr p ∧ d ≤ 3 ∧ H a = some (.tup (ms.map nv)) ∧ 1 ≤ ms.length ∧ ms.length ≤ 8 ∧ ms.Pairwise (· < ·) ∧ (∀ m ∈ ms, m ≤ ll.length) ∧ ∀ H', Ext H H' → Q (.bl true) H'
section
variable {P : Program} {w : World} {K : PySem.W.Frag} {mg : Str → Option Value} {base : Heap}
abbrev rigN : List Str := ["_law_cells","_law_prime","_law_deep","_law_stops_here","_law_picture","_law_many","_law_at","_law_table","_law_begin","_law_there","_law_dues","_law_stop"]
theorem scRig : FnScope rigN ["_law_cells", "_law_prime", "_law_deep", "_law_stops_here"] (defScope sRig) := ⟨rfl, rfl, rfl, by decide +kernel, rfl, by decide +kernel, by decide +kernel⟩
theorem ok_rig {f fT fW fE CT CP CW CTb : Addr} {fd fdT fdW fdE : FuncData} (F : L2.Fun K "_law_right" "_law_right" sRig f fd) (T : Gb mg) (W : TowK K mg CT) (D : PicD K mg CP) (IP : IsC K CP) (DW : WebD K mg CW) (IW : IsC K CW) (DT : TabD K mg CTb) (MT : Mk K CT fT) (FT : FnOk P w K mg base CX0 5 fT fdT ["self", "cells"] (spTowG CT)) (bT : Binds K fdT ["self", "cells"] [])
    (MW : Mk K CW fW) (FW : FnOk P w K mg base CX0 4 fW fdW ["self", "many", "arrows"] (spWeb CW)) (bW : Binds K fdW ["self", "many", "arrows"] [])
    (GE : FnOk P w K mg base CX0 1 fE fdE ["self", "other"] (spEqW CW)) (bE : Binds K fdE ["self", "other"] []) (aE : PySem.W.findIn K (.ref CW) "__eq__" = some (some (.ref fE))) (iE : PySem.W.isFn K (.ref fE) = true) (nfW : PySem.W.notFirst K CW (.ref CW) = true)
    (cT : Cal P w K mg base 9 "tower_picture" (spTP CT CP CW CTb) []) (cL : Cal P w K mg base 3 "_law_lasting" spLas []) (cR : Cal P w K mg base 4 "_law_ranks_right" (spRR CP CTb) []) :
    FnOk P w K mg base CX0 10 f fd ["_law_cells", "_law_prime", "_law_deep", "_law_stops_here"] spRight := by
  refine F.ok scRig (fun vs H Q E h => ?_) (fun cdv A outer s H vs Q E hr h => ?_)
  · obtain ⟨c, a, ll, p, d, ms, rfl, _⟩ := h
    rfl
  · obtain ⟨c, a, ll, pr, d, ms, rfl, ⟨as, hc, pt⟩, gd, l40, hp, d3, ha, m1, m8, up, lo, k⟩ := h
    have la : as.length = ll.length := Paired.length pt
    have tw := tw_of gd
    have RM := tw.rims hp
    refine ⟨_, pss_cons (ps_set (i := 4) scRig.nd rfl (Or.inl rfl) (C8.pe_c cT hr (by decide) (by rfl) (pa_cons (pe_make MT FT (hr.mono (by decide)) (by rfl) W.mgC bT .nil pass0 (pa_cons (pe_callTy call_tuple_frz (by rfl) T.tup (by decide +kernel) (pa_cons (pv 0) pa_nil)) pa_nil)) (pa_cons (pv 1) (pa_cons (pv 2) (pa_cons (pv 3) pa_nil))))))
      (pss_cons (ps_set (i := 5) scRig.nd rfl (Or.inl rfl) (pe_callB call_len_seq (by rfl) T.len PySem.boot_len (pa_cons (pv 3) pa_nil)))
      (pss_cons (ps_if (PW.pt (pw_or (pt_not (pt_val (pe_callB call_isi (by rfl) T.isi (by decide +kernel) (pa_cons (pv 4) (pa_cons (pe_glob (v := .ref CP) rfl D.mgC rfl) pa_nil))))) (pw_or1 (pt_cmpR op_ne (pe_fld (pv 4) rfl) (pv 1) (nomark _))))) (pss_one (ps_ret pe_bl)) pss_nil)
      (C8.pss_cut (ps_if (pt_not (pt_cmpR (op_own GE aE iE bE (hr.mono (by decide))) (pe_fld (pv 4) rfl) (pe_make MW FW (hr.mono (by decide)) (by rfl) DW.mgC bW .nil pass0 (pa_cons (pv 5) (pa_cons (pe_callTy call_tuple_of (by rfl) T.tup (by decide +kernel) (pa_cons (pe_lc (own := [("_law_at", 6)]) (g := gName 6) (tt := tYes) rfl scRig.nd (pi_range1 (by rfl) T.rng (pa_cons (pe_op op_sub (pv 5) pe_int) pa_nil)) (blkOk_by (N := rigN) (sc := defScope sRig) (by decide +kernel)) (fun _ _ _ _ _ => (pg_name (i := 6) scRig.nd rfl (Or.inl rfl))) (fun _ _ _ _ _ => pts_nil) (fun _ _ _ _ _ => (pe_tup (pa_cons (pv 6) (pa_cons (pe_op op_add (pv 6) pe_int) pa_nil))))) pa_nil)) pa_nil))) (nomark _))) (pss_one (ps_ret pe_bl)) pss_nil)
      (pss_cons (ps_if (PW.pt (pw_or (pt_not (pt_val (pe_callB call_isi (by rfl) T.isi (by decide +kernel) (pa_cons (pe_fld (pv 4) rfl) (pa_cons (pe_bltn (v := .ty "tuple") (by rfl) T.tup (by decide +kernel) rfl) pa_nil))))) (pw_or (pt_cmpR op_ne (pe_callB call_len_seq (by rfl) T.len PySem.boot_len (pa_cons (pe_fld (pv 4) rfl) pa_nil)) (pv 5) (nomark _)) (pw_or1 (pt_cmpR op_ne (pe_callB call_len_seq (by rfl) T.len PySem.boot_len (pa_cons (pe_fld (pv 4) rfl) pa_nil)) (pe_op op_sub (pv 5) pe_int) (nomark _)))))) (pss_one (ps_ret pe_bl)) pss_nil)
      (C8.pss_cut (ps_for PassesOwn.never rfl (pi_en (by rfl) T.enum (pa_cons (pe_fld (pv 4) rfl) pa_nil)) (pg_tup rfl (pgs_cons (pg_name (i := 6) scRig.nd rfl (Or.inl rfl)) (pgs_cons (pg_name (i := 7) scRig.nd rfl (Or.inl rfl)) pgs_nil)))
      (pss_one (ps_if (pt_cmpR (op_neD hr.units) (pe_tup (pa_cons (pe_fld (pv 7) rfl) (pa_cons (pe_fld (pv 7) rfl) (pa_cons (pe_fld (pv 7) rfl) pa_nil)))) (pe_op op_catA (pe_tup (pa_cons (pv 1) pa_nil)) (pe_slice sl_tupA (pe_fld (pv 4) rfl) (po_some (pv 6)) (po_some (pe_op op_add (pv 6) pe_int)))) (nomark _)) (pss_one (ps_ret pe_bl)) pss_nil)))
      (pss_cons (ps_for PassesOwn.never rfl (pi_en (by rfl) T.enum (pa_cons (pv 3) pa_nil)) (pg_tup rfl (pgs_cons (pg_name (i := 6) scRig.nd rfl (Or.inl rfl)) (pgs_cons (pg_name (i := 8) scRig.nd rfl (Or.inr rfl)) pgs_nil)))
      (pss_cons (ps_set (i := 9) scRig.nd rfl (Or.inr rfl) (C8.pe_c cL hr (by decide) (by rfl) (pa_cons (pv 0) (pa_cons (pv 1) (pa_cons (pv 2) (pa_cons (pv 8) pa_nil))))))
      (C8.pss_cut (ps_setLc (i := 10) (own := [("_law_stop", 11)]) (g := gName 11) (tt := tYes) rfl scRig.nd rfl rfl (sw_true rfl rfl rfl (by decide +kernel)) (pi_tup (pe_slice sl_tupA (pv 3) (po_some (pv 6)) po_none)) (blkOk_by (N := rigN) (sc := defScope sRig) (by decide +kernel)) (fun _ _ _ _ _ => (pg_name (i := 11) scRig.nd rfl (Or.inl rfl))) (fun _ _ _ _ _ => pts_nil) (fun _ _ _ _ _ => (pe_ix (r := rIxL K) ix_list (pv 9) (pe_op op_sub (pv 11) (pv 8)) (fun _ _ => rfl))))
      (pss_one (ps_if (PW.pt (pw_or (pt_cmpR op_ne (pe_ix ix_tup (pe_fld (pv 4) rfl) (pv 6) (fun _ _ => rfl)) (pe_ix ix_list (pv 10) pe_int (fun _ _ => rfl)) (nomark _)) (pw_or1 (pt_not (pt_val (C8.pe_c cR hr (by decide) (by rfl) (pa_cons (pv 4) (pa_cons (pv 1) (pa_cons (pv 6) (pa_cons (pv 10) pa_nil)))))))))) (pss_one (ps_ret pe_bl)) pss_nil)))))
      (pss_one (ps_ret pe_bl)))))))), ?_⟩
    refine ⟨_, rfl, c, _, rfl, SqL.of hc, fun b o nb ob => ?_⟩
    have x1 := Ext.upd (o := .frz o (.tup (as.map V.ref))) nb
    have hb1 : (upd H b (.frz o (.tup (as.map V.ref)))) b = some (.frz o (.tup (as.map V.ref))) := upd_same
    generalize upd H b (.frz o (.tup (as.map V.ref))) = H1 at *
    have pt1 : PT2 H1 as ll := PT2.mono (fun _ _ z => x1 _ _ z) pt
    intro p dx np ndx nd
    have z2 := Ext.upd (o := .own p) ndx
    have np1 : (upd H1 dx (.own p)) p = Option.none := by rw [upd_ne nd.symm]; exact np
    have z3 := Ext.upd (o := .ins CT dx []) np1
    have z23 := z2.trans z3
    refine ⟨p, dx, b, ll, rfl, upd_same, ⟨as, .inr ⟨o, z23 _ _ hb1⟩, PT2.mono (fun _ _ z => z23 _ _ z) pt1⟩, l40, gd, fun H2 hp2 kp => ⟨rfl, ?_⟩⟩
    have e2 : Ext H1 H2 := fun d u h => kp d u (ne_of_none h np) (z23 _ _ h)
    have x2 := x1.trans e2
    have tr2 : TR H2 b ll := ⟨as, .inr ⟨o, e2 _ _ hb1⟩, PT2.mono (fun _ _ z => e2 _ _ z) pt1⟩
    have bare2 : Bare H2 b := ⟨o, _, e2 _ _ hb1, ob⟩
    have tow2 : TowAt CT H2 p b := ⟨dx, hp2⟩
    clear z2 z3 z23 np1 hp2 kp e2 x1 pt1 hb1 np ndx nb
    refine ⟨_, rfl, _, rfl, _, rfl, p, b, a, ll, pr, d, ms, rfl, tow2, tr2, bare2, gd, l40, hp, d3, x2 _ _ ha, m1, m8, up, lo, fun q wb L bes H3 x3 B FX l40b lw px => ?_⟩
    have x13 := x2.trans x3
    have ha3 := x13 _ _ ha
    have lm : (ms.map nv).length = ms.length := List.length_map ..
    obtain ⟨sz, tb, ts, ⟨dq, hq⟩, hsz, htb, tts⟩ := id px
    refine ⟨_, rfl, a, _, rfl, .inr (SqT.of ha3), ?_⟩
    rw [lm]
    refine ⟨_, rfl, _, .ref CP, .ref CP, .ref CP, _, rfl, .own CP, IP.ty hq, kit_same, _, rfl, ?_⟩
    refine iteF ⟨_, rfl, q, CP, dq, _, _, rfl, hq, D.cl, D.n2, pf_prime .., _, rfl, rfl, _, rfl, ?_⟩
    rw [decide_eq_true rfl]
    refine iteF ?_
    -- the web
    refine ⟨fun σ' J => σ' = [some (.ref c), some (.int pr), some (.int (d : Int)), some (.ref a), some (.ref q), some (nv ms.length), Option.none, Option.none, Option.none, Option.none, Option.none, Option.none] ∧ Ext H3 J, ?_, ?_⟩
    · refine ⟨_, rfl, q, CP, dq, _, _, rfl, hq, D.cl, D.n1, pf_web .., ?_⟩
      refine ⟨_, rfl, _, rfl, _, _, rfl, rfl, (ms.length : Int) - 1, rfl, by omega, by omega, fun D1 nD1 => ?_⟩
      refine lc_gen (n := ((ms.length : Int) - 1).toNat) (p := fun _ => true) (walk_range (lo := 0)) nD1 (by omega) (fun t y S => ∃ r : Addr, y = V.ref r ∧ S r = some (.tup [.int (t : Int), .int ((t : Int) + 1)])) (fun t y S S' e z => let ⟨r, z1, z2⟩ := z; ⟨r, z1, e _ _ z2⟩) (fun H' e => True.intro) ?_ ?_
      · rintro t y J J' R N ht e7 ⟨rfl, rfl⟩ hR hN
        refine ⟨rfl, tyes_in ⟨_, rfl, _, rfl, _, _, rfl, rfl, by show 2 ≤ sizeLine; decide, fun r nr => ?_⟩⟩
        exact hR rfl _ _ (Ext.upd nr) ⟨r, rfl, by
          rw [upd_same]
          show some (HO.tup [V.int (0 + (t : Int)), V.int ((0 : Int) + (t : Int) + 1)]) = _
          rw [Int.zero_add]⟩
      intro ys J e7 hD pp
      obtain ⟨rs, rfl, lr, gr⟩ : ∃ rs : List Addr, ys = rs.map V.ref ∧ rs.length = ms.length - 1 ∧ ∀ (i : Nat) (r : Addr), rs[i]? = some r → J r = some (.tup [.int (i : Int), .int ((i : Int) + 1)]) := by
        rw [List.filter_eq_self.mpr fun _ _ => rfl] at pp
        obtain ⟨rs, e1, e2, e3⟩ := paired_refs pp
        rw [List.length_range] at e2
        refine ⟨rs, e1, by omega, fun i r hr' => e3 i i r (List.getElem?_range ?_) hr'⟩
        have := (List.getElem?_eq_some_iff.mp hr').1
        omega
      refine ⟨D1, _, rfl, .inl ⟨SqL.of hD, fun ab nab => ?_⟩⟩
      have xt := Ext.upd (o := .tup (rs.map V.ref)) nab
      have hab : (upd J ab (.tup (rs.map V.ref))) ab = some (.tup (rs.map V.ref)) := upd_same
      have e8 := e7.trans xt
      have gr8 := fun i r h => xt _ _ (gr i r h)
      generalize upd J ab (.tup (rs.map V.ref)) = J2 at *
      intro e dxe ne ndxe nde
      have y1 := Ext.upd (o := .own e) ndxe
      have ne1 : (upd J2 dxe (.own e)) e = Option.none := by rw [upd_ne nde.symm]; exact ne
      have y2 := Ext.upd (o := .ins CW dxe []) ne1
      have y12 := y1.trans y2
      refine ⟨e, dxe, ab, ms.length, rfl, m1, m8, upd_same, ⟨rs, y12 _ _ hab, lr, fun i r h => y12 _ _ (gr8 i r h)⟩, fun J3 he ke => ⟨rfl, ?_⟩⟩
      have x9 : Ext J2 J3 := fun c o h => ke c o (ne_of_none h ne) (y12 _ _ h)
      have e9 := e8.trans x9
      obtain ⟨dxw, bw, hwb, lwb⟩ := lw.ext e9
      refine ⟨wb, dxw, _, .ref CW, rfl, hwb, IW.ty he, nfW, wb, e, ms.length, rfl, ⟨dxw, bw, hwb, lwb⟩, ⟨dxe, ab, he, rs, x9 _ _ hab, lr, fun i r h => x9 _ _ (gr8 i r h)⟩, ⟨_, rfl⟩, _, rfl, ?_⟩
      exact iteF ⟨rfl, e9⟩
    rintro σ' H4 ⟨rfl, x4⟩
    have hq4 := x4 _ _ hq
    have hsz4 := x4 _ _ hsz
    have htb4 := x4 _ _ htb
    have tts4 := tts.imp fun _ _ z => z.ext x4
    have x14 := x13.trans x4
    have ha4 := x4 _ _ ha3
    have px4 := px.ext x4
    have lss : ((laidSs bes ms.length).map nv).length = ms.length := by unfold laidSs; rw [List.length_map, List.length_map, List.length_range]
    have lts : (ts.map V.ref).length = ms.length - 1 := by
      rw [List.length_map, tts.len]
      unfold laidTs
      rw [List.length_map, List.length_range]
    refine ⟨_, rfl, q, CP, dq, _, _, rfl, hq4, D.cl, D.n3, pf_sizes .., _, .ty "tuple", .type "tuple", .type "tuple", true, rfl, .ty _, ty_rd (.inl hsz4), kit_ty (by decide +kernel), _, rfl, ?_⟩
    refine iteF ⟨_, rfl, q, CP, dq, _, _, rfl, hq4, D.cl, D.n3, pf_sizes .., sz, _, rfl, .inr (SqT.of hsz4), _, rfl, rfl, _, rfl, ?_⟩
    rw [lss, decide_eq_true rfl]
    refine iteF ⟨_, rfl, q, CP, dq, _, _, rfl, hq4, D.cl, D.n4, pf_tables .., tb, _, rfl, .inr (SqT.of htb4), _, rfl, _, _, rfl, rfl, rfl, _, rfl, ?_⟩
    rw [lts, decide_eq_true (show V.int ((ms.length - 1 : Nat) : Int) = V.int ((ms.length : Int) - 1) by rw [show ((ms.length - 1 : Nat) : Int) = (ms.length : Int) - 1 by omega])]
    refine iteF ?_
    -- the tables
    refine ⟨fun σ' J => ∃ v6 v7 : Option V, σ' = [some (.ref c), some (.int pr), some (.int (d : Int)), some (.ref a), some (.ref q), some (nv ms.length), v6, v7, Option.none, Option.none, Option.none, Option.none] ∧ Ext H4 J, ?_, ?_⟩
    · refine ⟨_, rfl, q, CP, dq, _, _, rfl, hq4, D.cl, D.n4, pf_tables .., tb, _, rfl, .inl htb4, for_en (a := tb) (xs := ts.map V.ref) (fun i σ' J => (∃ v6 v7 : Option V, σ' = [some (.ref c), some (.int pr), some (.int (d : Int)), some (.ref a), some (.ref q), some (nv ms.length), v6, v7, Option.none, Option.none, Option.none, Option.none]) ∧ Ext H4 J) ⟨⟨_, _, rfl⟩, Ext.rfl'⟩ (fun i σ' J h => .inl (h.2 _ _ htb4)) ?_ (fun σ' J h => ⟨h.1.choose, h.1.choose_spec.choose, h.1.choose_spec.choose_spec, h.2⟩)⟩
      rintro i z σ' J t0 hz ⟨⟨v6, v7, rfl⟩, xJ⟩ nt
      obtain ⟨t, ht, rfl⟩ := ref_get hz
      obtain ⟨wm, hwm, tx⟩ := tts4.get ht
      have il : i < ms.length - 1 := by
        have := (List.getElem?_eq_some_iff.mp hz).1
        omega
      rw [laidTs_at il] at hwm
      cases hwm
      have et := Ext.upd (o := .tup [.int (i : Nat), .ref t]) nt
      obtain ⟨rb, rs, ⟨dt, hta⟩, _, _⟩ := tx.ext (xJ.trans et)
      have x6 := xJ.trans et
      refine ⟨t0, _, rfl, SqT.of upd_same, rfl, _, _, rfl, _, _, rfl, rfl, ?_⟩
      generalize upd J t0 (.tup [.int (i : Nat), .ref t]) = J1 at *
      refine ⟨_, rfl, t, CTb, dt, _, _, rfl, hta, DT.cl, DT.n1, tf_prime .., _, rfl, t, CTb, dt, _, _, rfl, hta, DT.cl, DT.n2, tf_wide .., _, rfl, t, CTb, dt, _, _, rfl, hta, DT.cl, DT.n4, tf_high .., by show 3 ≤ sizeLine; decide, fun u1 nu1 => ?_⟩
      have y1 := Ext.upd (o := .tup [V.int pr, .int ((laidT bes i).1 : Int), .int ((laidT bes i).2.length : Int)]) nu1
      have hu1 : (upd J1 u1 (.tup [V.int pr, .int ((laidT bes i).1 : Int), .int ((laidT bes i).2.length : Int)])) u1 = some (.tup ([pr, ((laidT bes i).1 : Int), ((laidT bes i).2.length : Int)].map V.int)) := upd_same
      generalize upd J1 u1 (.tup [V.int pr, .int ((laidT bes i).1 : Int), .int ((laidT bes i).2.length : Int)]) = J2 at *
      refine ⟨_, rfl, by show 1 ≤ sizeLine; decide, fun u2 nu2 => ?_⟩
      have y2 := Ext.upd (o := .tup [V.int pr]) nu2
      have hu2 : (upd J2 u2 (.tup [V.int pr])) u2 = some (.tup [V.int pr]) := upd_same
      generalize upd J2 u2 (.tup [V.int pr]) = J3 at *
      have x7 := (x6.trans y1).trans y2
      refine ⟨_, rfl, q, CP, dq, _, _, rfl, x7 _ _ hq4, D.cl, D.n3, pf_sizes .., _, rfl, (i : Int), rfl, _, rfl, _, _, rfl, rfl, (i : Int) + 2, rfl, ?_⟩
      refine sl_any (x7 _ _ hsz4) fun u3 J4 y3 hu3 => ?_
      rw [cut_two (by rw [lss]; omega), drop_two (a := nv (posL bes i).length) (b := nv (posL bes (i + 1)).length) (by rw [List.getElem?_map, laidSs_at (by omega)]; rfl) (by rw [List.getElem?_map, laidSs_at (by omega)]; rfl)] at hu3
      refine cat_any (y3 _ _ hu2) hu3 (by show 1 + 2 ≤ 1000; decide) fun u4 J5 y4 hu4 => ?_
      refine same_ints (l := [pr, ((laidT bes i).1 : Int), ((laidT bes i).2.length : Int)]) ((y2.trans (y3.trans y4)) _ _ hu1) (by rw [hu4, laid_wide, laid_high]; rfl) ⟨_, rfl, ?_⟩
      exact iteF ⟨⟨_, _, rfl⟩, x7.trans (y3.trans y4)⟩
    rintro σ' H5 ⟨v6, v7, rfl, x5⟩
    have ha5 := x5 _ _ ha4
    refine ⟨_, rfl, a, _, rfl, .inl ha5, for_en (a := a) (xs := ms.map nv) (fun i σ' J => (∃ v6 v7 v8 v9 v10 : Option V, σ' = [some (.ref c), some (.int pr), some (.int (d : Int)), some (.ref a), some (.ref q), some (nv ms.length), v6, v7, v8, v9, v10, Option.none]) ∧ Ext H4 J) ⟨⟨_, _, _, _, _, rfl⟩, x5⟩ (fun i σ' J h => .inl (h.2 _ _ ha4)) ?_ (fun σ' J h => ?_)⟩
    rotate_left
    · obtain ⟨⟨w6, w7, w8, w9, w10, rfl⟩, xe⟩ := h
      exact k J (x14.trans xe)
    rintro i z σ' J t0 hz ⟨⟨w6, w7, w8, w9, w10, rfl⟩, xJ⟩ nt
    obtain ⟨m, hm, rfl⟩ := nat_get hz
    have mle := lo m (List.mem_of_getElem? hm)
    have iN := (List.getElem?_eq_some_iff.mp hm).1
    have x6 := xJ.trans (Ext.upd (o := .tup [.int (i : Nat), nv m]) nt)
    refine ⟨t0, _, rfl, SqT.of upd_same, rfl, _, _, rfl, _, _, rfl, rfl, ?_⟩
    generalize upd J t0 (.tup [.int (i : Nat), nv m]) = J1 at *
    have x1J := x14.trans x6
    refine ⟨_, rfl, _, rfl, _, rfl, _, rfl, c, ll, pr, d, m, rfl, ⟨as, x1J _ _ hc, PT2.mono (fun _ _ z => x1J _ _ z) pt⟩, gd, l40, hp, d3, mle, fun qt J2 x7 hqt => ?_⟩
    have x67 := x6.trans x7
    -- the dues
    refine ⟨fun σ' J' => ∃ du : Addr, σ' = [some (.ref c), some (.int pr), some (.int (d : Int)), some (.ref a), some (.ref q), some (nv ms.length), some (.int (i : Nat)), w7, some (nv m), some (.ref qt), some (.ref du), Option.none] ∧ Ext J2 J' ∧ J' du = some (.lst ((duesN bes i ms.length).map nv)), ?_, ?_⟩
    · refine ⟨_, rfl, _, rfl, (i : Int), rfl, ?_⟩
      dsimp only [tNoPart]
      refine sl_any (x67 _ _ ha4) fun sp J3 x8 hsp => ?_
      rw [cut_from] at hsp
      have ld : ((ms.map nv).drop i).length = ms.length - i := by rw [List.length_drop, List.length_map]
      refine ⟨sp, rfl, ⟨_, SqT.of hsp⟩, fun D1 nD1 => ?_⟩
      refine lc_gen (n := ((ms.map nv).drop i).length) (p := fun _ => true) walk_tup nD1 (by rw [ld]; omega) (fun t y _ => y = nv (bothN bes i (i + t))) (fun _ _ _ _ _ z => z) (fun H' e => SqT.of (e _ _ hsp)) ?_ ?_
      · rintro t y J4 J4' R N ht e7 ⟨rfl, hy⟩ hR hN
        rw [List.getElem?_drop] at hy
        obtain ⟨n', hn', rfl⟩ := nat_get hy
        have nle := lo n' (List.mem_of_getElem? hn')
        have mn := up_le up hm hn' (Nat.le_add_right i t)
        have due := due_is B RM FX hm hn' mn mle nle
        have hat : atI ((lastL pr ll d m (ll.length + 1 - m)).map V.int) ((n' : Int) - (m : Int)) = some (.int ((ringsN pr ll d m : Int) - lostN pr ll d m n')) := at_of (j := n' - m) (by omega) (by
          unfold lastL
          rw [List.getElem?_map, List.getElem?_map, List.getElem?_range (by omega)]
          show some (V.int ((ringsN pr ll d m : Int) - lostN pr ll d m (m + (n' - m)))) = _
          rw [show m + (n' - m) = n' by omega])
        refine ⟨rfl, tyes_in ⟨_, rfl, _, rfl, _, rfl, _, _, rfl, rfl, qt, _, (n' : Int) - (m : Int), .int ((ringsN pr ll d m : Int) - lostN pr ll d m n'), rfl, rfl, SqL.of (e7 _ _ (x8 _ _ hqt)), hat, ?_⟩⟩
        exact hR rfl _ _ Ext.rfl' (by rw [due])
      intro ys J4 e7 hD pp
      have ey := vals_of (f := fun t => nv (bothN bes i (i + t))) pp
      rw [List.filter_eq_self.mpr fun _ _ => rfl, ld] at ey
      refine ⟨D1, rfl, x8.trans e7, ?_⟩
      rw [hD, ey]
      unfold duesN
      rw [List.map_map]
      rfl
    rintro σ' J3 ⟨du, rfl, x8, hdu⟩
    have x68 := x67.trans x8
    have d0 : (duesN bes i ms.length)[0]? = some (bothN bes i i) := by
      unfold duesN
      rw [List.getElem?_map, List.getElem?_range (by omega)]
      rfl
    refine ⟨_, rfl, q, CP, dq, _, _, rfl, x68 _ _ hq4, D.cl, D.n3, pf_sizes .., _, rfl, sz, _, (i : Int), nv (posL bes i).length, rfl, rfl, SqT.of (x68 _ _ hsz4), nat_at (laidSs_at iN), _, rfl, du, _, 0, nv (bothN bes i i), rfl, rfl, SqL.of hdu, nat_at d0, rfl, _, rfl, ?_⟩
    rw [both_same, decide_eq_true rfl]
    refine iteF ⟨_, rfl, _, rfl, _, rfl, _, rfl, q, wb, du, pr, bes, i, ms.length, rfl, hp, px4.ext x68, iN, m8, l40b, hdu, fun J5 x9 => ⟨_, rfl, ?_⟩⟩
    exact iteF ⟨⟨_, _, _, _, _, rfl⟩, x68.trans x9⟩
end
end O42

set_option Elab.async false
set_option linter.all false
set_option maxRecDepth 100000
set_option maxHeartbeats 4000000
set_option pp.maxSteps 100
/-! The law. -/
namespace O42
open PySem L2 M40
abbrev sLaw : Stmt := top 73
theorem if_lo {b : Bool} {σ : L2.St} {H : Hp} {Q : VK} (h : ∀ lo : Int, 0 ≤ lo → lo ≤ 1 → Q (V.int lo) H) : (if b = true then tC (V.int 1) σ H Q else tC (V.int 0) σ H Q) := by
  cases b
  · exact h 0 (by decide) (by decide)
  · exact h 1 (by decide) (by decide)
def spLaw (K : PySem.W.Frag) : Sp := fun vs H Q _ => ∃ (a : Addr) (ns : List Int), vs = [.ref a] ∧ SqL K H a (ns.map V.int) ∧ ns.length ≤ 63 ∧ ∀ H', Q (.bl true) H'
section
variable {P : Program} {w : World} {K : PySem.W.Frag} {mg : Str → Option Value} {base : Heap}
abbrev lawN : List Str := ["_law_script","_law_bag_here","_law_is_great","_law_cells","_law_prime","_law_deep"]
theorem scLaw : FnScope lawN ["_law_script"] (defScope sLaw) := ⟨rfl, rfl, rfl, by decide +kernel, rfl, by decide +kernel, by decide +kernel⟩
theorem ok_law {f : Addr} {fd : FuncData} (F : L2.Fun K "law" "law" sLaw f fd) (T : Gb mg) (cBag : Cal P w K mg base 1 "_law_bag" (spBag K) []) (cPick : Cal P w K mg base 1 "_law_pick" spPick []) (cSome : Cal P w K mg base 2 "_law_some" spSome []) (cGr : Cal P w K mg base 3 "_law_grown" spGrown []) (cSto : Cal P w K mg base 2 "_law_stops" spSto []) (cRi : Cal P w K mg base 10 "_law_right" spRight []) :
    FnOk P w K mg base CX0 12 f fd ["_law_script"] (spLaw K) := by
  refine F.ok scLaw (fun vs H Q E h => ?_) (fun cdv A outer s H vs Q E hr h => ?_)
  · obtain ⟨a, ns, rfl, _⟩ := h
    rfl
  · obtain ⟨s0, ns, rfl, hS, hlen, k⟩ := h
    refine ⟨_, pss_cons (ps_set (i := 1) scLaw.nd rfl (Or.inl rfl) (C8.pe_c cBag hr (by decide) (by rfl) (pa_cons (pv 0) pa_nil)))
      (pss_cons (ps_set (i := 2) scLaw.nd rfl (Or.inl rfl) (pe_cmpR op_eq (C8.pe_c cPick hr (by decide) (by rfl) (pa_cons (pv 1) (pa_cons pe_int pa_nil))) pe_int (nomark _)))
      (C8.pss_cut (ps_set (i := 3) scLaw.nd rfl (Or.inl rfl) (C8.pe_c cGr hr (by decide) (by rfl) (pa_cons (pv 1) (pa_cons (pe_ifExp (pt_val (pv 2)) (pe_op op_add pe_int (C8.pe_c cPick hr (by decide) (by rfl) (pa_cons (pv 1) (pa_cons pe_int pa_nil)))) (pe_op op_add pe_int (C8.pe_c cPick hr (by decide) (by rfl) (pa_cons (pv 1) (pa_cons pe_int pa_nil))))) pa_nil))))
      (pss_cons (ps_set (i := 4) scLaw.nd rfl (Or.inl rfl) (C8.pe_c cSome hr (by decide) (by rfl) (pa_cons (pv 1) (pa_cons (pe_lst (pa_cons pe_int (pa_cons pe_int (pa_cons pe_int (pa_cons pe_int (pa_cons pe_int (pa_cons pe_int (pa_cons pe_int pa_nil)))))))) pa_nil))))
      (pss_cons (ps_for PassesOwn.never rfl (pi_range2 (by rfl) T.rng (pa_cons (pe_ifExp (pt_val (pv 2)) pe_int pe_int) (pa_cons (pe_op op_add pe_int (C8.pe_c cPick hr (by decide) (by rfl) (pa_cons (pv 1) (pa_cons pe_int pa_nil)))) pa_nil))) (pg_name (i := 5) scLaw.nd rfl (Or.inl rfl))
      (pss_one (ps_if (pt_not (pt_val (C8.pe_c cRi hr (by decide) (by rfl) (pa_cons (pv 3) (pa_cons (pv 4) (pa_cons (pv 5) (pa_cons (C8.pe_c cSto hr (by decide) (by rfl) (pa_cons (pv 1) (pa_cons (pe_callB call_len_seq (by rfl) T.len PySem.boot_len (pa_cons (pv 3) pa_nil)) pa_nil))) pa_nil))))))) (pss_one (ps_ret pe_bl)) pss_nil)))
      (pss_one (ps_ret pe_bl)))))), ?_⟩
    refine ⟨_, rfl, s0, ns, rfl, hS, hlen, fun r c H1 e1 bag => ?_⟩
    refine ⟨_, rfl, r, c, 12, rfl, bag, by decide, by decide, fun n H2 n0 n12 g2 => ⟨rfl, ?_⟩⟩
    generalize decide (V.int n = V.int 5) = gr
    -- the cells
    refine ⟨fun σ' J => ∃ (l : Addr) (as : List Addr) (ll : List (List Int)), σ' = [some (.ref s0), some (.ref r), some (.bl gr), some (.ref l), Option.none, Option.none] ∧ BagAt J r c ∧ l ≠ r ∧ l ≠ c ∧ J l = some (.lst (as.map V.ref)) ∧ PT2 J as ll ∧ GoodT ll ∧ ll.length ≤ 40, ?_, ?_⟩
    · refine ⟨_, rfl, _, rfl, gr, rfl, ?_⟩
      have fin : ∀ (x : Int) (H3 : Hp), 0 ≤ x → x ≤ 40 → BagAt H3 r c → spGrown ([V.ref r, .int x] ++ []) H3 (fun v J => ∃ (l : Addr) (as : List Addr) (ll : List (List Int)), v = .ref l ∧ BagAt J r c ∧ l ≠ r ∧ l ≠ c ∧ J l = some (.lst (as.map V.ref)) ∧ PT2 J as ll ∧ GoodT ll ∧ ll.length ≤ 40) C8.E0 := fun x H3 h0 h40 bg => by
        refine ⟨r, c, x.toNat, by rw [Int.toNat_of_nonneg h0]; rfl, bg, by omega, fun l as ll J g nl1 nl2 hl pt gd lam => ⟨l, as, ll, rfl, g.1, nl1, nl2, hl, pt, gd, ?_⟩⟩
        have : as.length = ll.length := Paired.length pt
        omega
      have go : ∀ (x : Int) (H3 : Hp), 0 ≤ x → x ≤ 40 → BagAt H3 r c → spGrown ([V.ref r, .int x] ++ []) H3 (fun v J => ∃ (l : Addr) (as : List Addr) (ll : List (List Int)), [some (V.ref s0), some (.ref r), some (.bl gr), some v, Option.none, Option.none] = [some (.ref s0), some (.ref r), some (.bl gr), some (.ref l), Option.none, Option.none] ∧ BagAt J r c ∧ l ≠ r ∧ l ≠ c ∧ J l = some (.lst (as.map V.ref)) ∧ PT2 J as ll ∧ GoodT ll ∧ ll.length ≤ 40) C8.E0 := fun x H3 h0 h40 bg => by
        obtain ⟨a', c', m', e1, e2, e3, e4⟩ := fin x H3 h0 h40 bg
        exact ⟨a', c', m', e1, e2, e3, fun l as ll J g nl1 nl2 hl pt gd lam => by
          obtain ⟨l', as', ll', e, rest⟩ := e4 l as ll J g nl1 nl2 hl pt gd lam
          exact ⟨l', as', ll', by rw [e], rest⟩⟩
      cases gr with
      | true =>
        refine iteT ⟨_, rfl, r, c, 21, rfl, g2.1, by decide, by decide, fun n3 H3 m0 m1 g3 => ⟨_, _, rfl, rfl, ?_⟩⟩
        exact go (20 + n3) H3 (by omega) (by omega) g3.1
      | false =>
        refine iteF ⟨_, rfl, r, c, 16, rfl, g2.1, by decide, by decide, fun n3 H3 m0 m1 g3 => ⟨_, _, rfl, rfl, ?_⟩⟩
        exact go (2 + n3) H3 (by omega) (by omega) g3.1
    rintro σ' J ⟨l, as, ll, rfl, bag3, nl1, nl2, hl, pt, gd, l40⟩
    -- the prime
    refine ⟨_, rfl, by show 7 ≤ sizeLine; decide, fun ml nml => ?_⟩
    have x1 := Ext.upd (o := .lst [V.int 2, .int 3, .int 5, .int 2, .int 7, .int 11, .int 13]) nml
    have hm := upd_same (H := J) (a := ml) (o := .lst [V.int 2, .int 3, .int 5, .int 2, .int 7, .int 11, .int 13])
    have gx := Go.of_ext bag3 x1
    have nm := bag3.ne nml
    have hl1 := x1 _ _ hl
    have pt1 := PT2.mono (fun _ _ z => x1 _ _ z) pt
    generalize upd J ml (.lst [V.int 2, .int 3, .int 5, .int 2, .int 7, .int 11, .int 13]) = J1 at *
    refine ⟨r, c, ml, _, rfl, gx.1, nm.1, nm.2, hm, by simp, by decide, fun x J2 hx g2' => ?_⟩
    obtain ⟨p, rfl, hp⟩ : ∃ p, x = .int p ∧ Pr p := by
      simp only [List.mem_cons, List.not_mem_nil, or_false] at hx
      unfold Pr Prm
      rcases hx with h | h | h | h | h | h | h <;> exact ⟨_, h, by decide⟩
    have hl2 := g2'.2 _ _ nl1 nl2 hl1
    have pt2 := PT2.mono (fun _ _ z => Go.tup gx.1 g2' z) pt1
    refine ⟨_, rfl, gr, rfl, if_lo fun lo l0 l1 => ?_⟩
    refine ⟨_, rfl, r, c, 3, rfl, g2'.1, by decide, by decide, fun fi J3 f0 f3 g3 => ⟨_, _, rfl, rfl, lo, 2 + fi, rfl, ⟨by omega, by omega, by omega, by omega⟩, ?_⟩⟩
    have hl3 := g3.2 _ _ nl1 nl2 hl2
    have pt3 := PT2.mono (fun _ _ z => Go.tup g2'.1 g3 z) pt2
    refine for_range (lo := lo) (n := (2 + fi - lo).toNat) (fun i σ' J => (∃ v5 : Option V, σ' = [some (.ref s0), some (.ref r), some (.bl gr), some (.ref l), some (.int p), v5]) ∧ Go r c J3 J) ⟨⟨_, rfl⟩, Go.refl g3.1⟩ ?_ (fun σ' J _ => k J)
    rintro i σ' J4 hi ⟨⟨v5, rfl⟩, g4⟩
    obtain ⟨dd, ed⟩ : ∃ dd : Nat, lo + (i : Int) = (dd : Int) := ⟨(lo + (i : Int)).toNat, by omega⟩
    rw [ed]
    have hl4 := g4.2 _ _ nl1 nl2 hl3
    have la : as.length = ll.length := Paired.length pt
    refine ⟨_, rfl, _, rfl, _, rfl, _, rfl, _, rfl, l, _, rfl, .inl (SqL.of hl4), ?_⟩
    refine ⟨r, c, ll.length, by rw [List.length_map, la]; rfl, g4.1, l40, fun a ms J5 g5 ha m1 m8 up lw => ?_⟩
    have hl5 := g5.2 _ _ nl1 nl2 hl4
    have pt5 := PT2.mono (fun _ _ z => Go.tup g4.1 g5 (Go.tup g3.1 g4 z)) pt3
    refine ⟨l, a, ll, p, dd, ms, rfl, ⟨as, hl5, pt5⟩, gd, l40, hp, by omega, ha, m1, m8, up, lw, fun J6 x6 => ⟨_, rfl, ?_⟩⟩
    exact iteF ⟨⟨_, rfl⟩, (g4.trans g5).trans (Go.of_ext g5.1 x6)⟩
end
end O42

set_option Elab.async false
set_option linter.all false
set_option maxRecDepth 100000
set_option maxHeartbeats 8000000
namespace O42
open PySem L2
theorem exm_self {K : PySem.W.Frag} {S : Addr} (h1 : PySem.W.subIn K (.ref S) (.type "BaseException") = some true) (h2 : PySem.W.isClsIn K S = true) (h3 : PySem.W.typeIn K (.ref S) = some (.type "type")) (h4 : PySem.W.subIn K (.ref S) (.ref S) = some true) :
    PySem.W.exmOne K (.ref S) (.ref S) = some true := by
  have h2' : (PySem.W.clsIn K S).isSome = true := h2
  unfold PySem.W.exmOne PySem.W.kitCls
  simp only [h1, h2', h3, h4, beq_self_eq_true, Bool.and_self, if_true]
theorem kit_ref {K : PySem.W.Frag} {t : Value} {C : Addr} {b : Bool} (h2 : PySem.W.isClsIn K C = true) (h3 : PySem.W.typeIn K (.ref C) = some (.type "type")) (h4 : PySem.W.subIn K (.ref C) (.ref C) = some true) (h5 : PySem.W.subIn K t (.ref C) = some b) :
    PySem.W.kitOne K t (.ref C) = some b := by
  have h2' : (PySem.W.clsIn K C).isSome = true := h2
  unfold PySem.W.kitOne PySem.W.kitCls
  by_cases e : (t == .ref C) = true
  · have e' := beq_iff_eq.mp e
    subst e'
    rw [h4] at h5
    rw [if_pos e, ← h5]
  · rw [if_neg e]
    simp only [h2', h3, h5, beq_self_eq_true, Bool.and_self, if_true]
theorem kit_tyc {K : PySem.W.Frag} {C : Addr} {s : String} {b : Bool} (h : PySem.W.kitMeta s = true) (h5 : PySem.W.subIn K (.ref C) (.type s) = some b) : PySem.W.kitOne K (.ref C) (.type s) = some b := by
  unfold PySem.W.kitOne PySem.W.kitCls
  rw [if_neg (by intro z; exact nomatch beq_iff_eq.mp z)]
  simp only [h, h5, if_true]
theorem exm_ref {K : PySem.W.Frag} {t : Value} {S : Addr} {b : Bool} (h1 : PySem.W.subIn K (.ref S) (.type "BaseException") = some true) (h2 : PySem.W.isClsIn K S = true) (h3 : PySem.W.typeIn K (.ref S) = some (.type "type")) (h4 : PySem.W.subIn K t (.ref S) = some b) :
    PySem.W.exmOne K t (.ref S) = some b := by
  have h2' : (PySem.W.clsIn K S).isSome = true := h2
  unfold PySem.W.exmOne PySem.W.kitCls
  simp only [h1, h2', h3, h4, beq_self_eq_true, Bool.and_self, if_true]
theorem all_mk {l : PySem.W.OpenLaw} {w : World} {K : PySem.W.Frag} {h : Heap} {mg : Str → Option Value} {fa : Addr} {aPR CT CB CW CP f2 f3 f4 f6 f19 f20 f21 f22 f23 f24 f28 f29 f30 f36 f37 f41 f42 f43 f45 f53 f54 f55 f56 f57 f58 f60 f61 f62 f63 f64 f65 f66 f67 f68 f69 f70 f71 f72 f73 fT fB fW fE fP : Addr} (X : K.In h) (G : h.Ns mainGlobals mg) (hfa : mg "law" = some (.ref fa))
    {odPR : Option Addr} {slPR : Array (Option Value)} {itsPR : Array Value} {nPR : Nat}
    {oc2 kV2 dc2 pm2 cd2 ct2 : Value} {od2 an2 : Option Addr} {sl2 : Array (Option Value)}
    {oc3 kV3 dc3 pm3 cd3 ct3 : Value} {od3 an3 : Option Addr} {sl3 : Array (Option Value)}
    {oc4 kV4 dc4 pm4 cd4 ct4 : Value} {od4 an4 : Option Addr} {sl4 : Array (Option Value)}
    {oc6 kV6 dc6 pm6 cd6 ct6 : Value} {od6 an6 : Option Addr} {sl6 : Array (Option Value)}
    {oc19 kV19 dc19 pm19 cd19 ct19 : Value} {od19 an19 : Option Addr} {sl19 : Array (Option Value)}
    {oc20 kV20 dc20 pm20 cd20 ct20 : Value} {od20 an20 : Option Addr} {sl20 : Array (Option Value)}
    {oc21 kV21 dc21 pm21 cd21 ct21 : Value} {od21 an21 : Option Addr} {sl21 : Array (Option Value)}
    {oc22 kV22 dc22 pm22 cd22 ct22 : Value} {od22 an22 : Option Addr} {sl22 : Array (Option Value)}
    {oc23 kV23 dc23 pm23 cd23 ct23 : Value} {od23 an23 : Option Addr} {sl23 : Array (Option Value)}
    {oc24 kV24 dc24 pm24 cd24 ct24 : Value} {od24 an24 : Option Addr} {sl24 : Array (Option Value)}
    {oc28 kV28 dc28 pm28 cd28 ct28 : Value} {od28 an28 : Option Addr} {sl28 : Array (Option Value)}
    {oc29 kV29 dc29 pm29 cd29 ct29 : Value} {od29 an29 : Option Addr} {sl29 : Array (Option Value)}
    {oc30 kV30 dc30 pm30 cd30 ct30 : Value} {od30 an30 : Option Addr} {sl30 : Array (Option Value)}
    {oc36 kV36 dc36 pm36 cd36 ct36 : Value} {od36 an36 : Option Addr} {sl36 : Array (Option Value)}
    {oc37 kV37 dc37 pm37 cd37 ct37 : Value} {od37 an37 : Option Addr} {sl37 : Array (Option Value)}
    {oc41 kV41 dc41 pm41 cd41 ct41 : Value} {od41 an41 : Option Addr} {sl41 : Array (Option Value)}
    {oc42 kV42 dc42 pm42 cd42 ct42 : Value} {od42 an42 : Option Addr} {sl42 : Array (Option Value)}
    {oc43 kV43 dc43 pm43 cd43 ct43 : Value} {od43 an43 : Option Addr} {sl43 : Array (Option Value)}
    {oc45 kV45 dc45 pm45 cd45 ct45 : Value} {od45 an45 : Option Addr} {sl45 : Array (Option Value)}
    {oc53 kV53 dc53 pm53 cd53 ct53 : Value} {od53 an53 : Option Addr} {sl53 : Array (Option Value)}
    {oc54 kV54 dc54 pm54 cd54 ct54 : Value} {od54 an54 : Option Addr} {sl54 : Array (Option Value)}
    {oc55 kV55 dc55 pm55 cd55 ct55 : Value} {od55 an55 : Option Addr} {sl55 : Array (Option Value)}
    {oc56 kV56 dc56 pm56 cd56 ct56 : Value} {od56 an56 : Option Addr} {sl56 : Array (Option Value)}
    {oc57 kV57 dc57 pm57 cd57 ct57 : Value} {od57 an57 : Option Addr} {sl57 : Array (Option Value)}
    {oc58 kV58 dc58 pm58 cd58 ct58 : Value} {od58 an58 : Option Addr} {sl58 : Array (Option Value)}
    {oc60 kV60 dc60 pm60 cd60 ct60 : Value} {od60 an60 : Option Addr} {sl60 : Array (Option Value)}
    {oc61 kV61 dc61 pm61 cd61 ct61 : Value} {od61 an61 : Option Addr} {sl61 : Array (Option Value)}
    {oc62 kV62 dc62 pm62 cd62 ct62 : Value} {od62 an62 : Option Addr} {sl62 : Array (Option Value)}
    {oc63 kV63 dc63 pm63 cd63 ct63 : Value} {od63 an63 : Option Addr} {sl63 : Array (Option Value)}
    {oc64 kV64 dc64 pm64 cd64 ct64 : Value} {od64 an64 : Option Addr} {sl64 : Array (Option Value)}
    {oc65 kV65 dc65 pm65 cd65 ct65 : Value} {od65 an65 : Option Addr} {sl65 : Array (Option Value)}
    {oc66 kV66 dc66 pm66 cd66 ct66 : Value} {od66 an66 : Option Addr} {sl66 : Array (Option Value)}
    {oc67 kV67 dc67 pm67 cd67 ct67 : Value} {od67 an67 : Option Addr} {sl67 : Array (Option Value)}
    {oc68 kV68 dc68 pm68 cd68 ct68 : Value} {od68 an68 : Option Addr} {sl68 : Array (Option Value)}
    {oc69 kV69 dc69 pm69 cd69 ct69 : Value} {od69 an69 : Option Addr} {sl69 : Array (Option Value)}
    {oc70 kV70 dc70 pm70 cd70 ct70 : Value} {od70 an70 : Option Addr} {sl70 : Array (Option Value)}
    {oc71 kV71 dc71 pm71 cd71 ct71 : Value} {od71 an71 : Option Addr} {sl71 : Array (Option Value)}
    {oc72 kV72 dc72 pm72 cd72 ct72 : Value} {od72 an72 : Option Addr} {sl72 : Array (Option Value)}
    {oc73 kV73 dc73 pm73 cd73 ct73 : Value} {od73 an73 : Option Addr} {sl73 : Array (Option Value)}
    {ocT kVT dcT pmT cdT ctT : Value} {odT anT : Option Addr} {slT : Array (Option Value)}
    {ocB kVB dcB pmB cdB ctB : Value} {odB anB : Option Addr} {slB : Array (Option Value)}
    {ocW kVW dcW pmW cdW ctW : Value} {odW anW : Option Addr} {slW : Array (Option Value)}
    {ocE kVE dcE pmE cdE ctE : Value} {odE anE : Option Addr} {slE : Array (Option Value)}
    {ocP kVP dcP pmP cdP ctP : Value} {odP anP : Option Addr} {slP : Array (Option Value)}
    {tMOST}
    {tMOST_PLACES}
    {tMOST_ARROWS}
    {tMOST_SIGNS}
    {tMOST_SIZE}
    {tMOST_CELLS}
    {tMOST_IN_CELL}
    {tMOST_NAME}
    {tMOST_DEEP}
    {tMOST_STOPS}
    (gCT : PySem.W.nsIn K mainGlobals "Tower" = some (some (.ref CT)))
    (gCB : PySem.W.nsIn K mainGlobals "Table" = some (some (.ref CB)))
    (gCW : PySem.W.nsIn K mainGlobals "Web" = some (some (.ref CW)))
    (gCP : PySem.W.nsIn K mainGlobals "Picture" = some (some (.ref CP)))
    (a2 : PySem.W.nsIn K mainGlobals "is_integer" = some (some (.ref f2)))
    (l2 : K.lookup f2 = some ⟨oc2, od2, .func (PySem.W.fnOf "is_integer" "is_integer" (defArgs sInteger) (defBody sInteger) (defScope sInteger) .none kV2 dc2 pm2 an2 cd2 ct2), sl2⟩)
    (c2 : PySem.W.codeIn K cd2 "is_integer" = true)
    (k2 : PySem.W.keepIn K (.ref f2) = true)
    (a3 : PySem.W.nsIn K mainGlobals "is_number" = some (some (.ref f3)))
    (l3 : K.lookup f3 = some ⟨oc3, od3, .func (PySem.W.fnOf "is_number" "is_number" (defArgs sNumber) (defBody sNumber) (defScope sNumber) .none kV3 dc3 pm3 an3 cd3 ct3), sl3⟩)
    (c3 : PySem.W.codeIn K cd3 "is_number" = true)
    (k3 : PySem.W.keepIn K (.ref f3) = true)
    (a4 : PySem.W.nsIn K mainGlobals "is_prime" = some (some (.ref f4)))
    (l4 : K.lookup f4 = some ⟨oc4, od4, .func (PySem.W.fnOf "is_prime" "is_prime" (defArgs sPrime) (defBody sPrime) (defScope sPrime) .none kV4 dc4 pm4 an4 cd4 ct4), sl4⟩)
    (c4 : PySem.W.codeIn K cd4 "is_prime" = true)
    (k4 : PySem.W.keepIn K (.ref f4) = true)
    (a6 : PySem.W.nsIn K mainGlobals "is_ascending" = some (some (.ref f6)))
    (l6 : K.lookup f6 = some ⟨oc6, od6, .func (PySem.W.fnOf "is_ascending" "is_ascending" (defArgs sAsc) (defBody sAsc) (defScope sAsc) .none kV6 dc6 pm6 an6 cd6 ct6), sl6⟩)
    (c6 : PySem.W.codeIn K cd6 "is_ascending" = true)
    (k6 : PySem.W.keepIn K (.ref f6) = true)
    (a19 : PySem.W.nsIn K mainGlobals "inverse" = some (some (.ref f19)))
    (l19 : K.lookup f19 = some ⟨oc19, od19, .func (PySem.W.fnOf "inverse" "inverse" (defArgs sInv) (defBody sInv) (defScope sInv) .none kV19 dc19 pm19 an19 cd19 ct19), sl19⟩)
    (c19 : PySem.W.codeIn K cd19 "inverse" = true)
    (k19 : PySem.W.keepIn K (.ref f19) = true)
    (a20 : PySem.W.nsIn K mainGlobals "pivot" = some (some (.ref f20)))
    (l20 : K.lookup f20 = some ⟨oc20, od20, .func (PySem.W.fnOf "pivot" "pivot" (defArgs sPiv) (defBody sPiv) (defScope sPiv) .none kV20 dc20 pm20 an20 cd20 ct20), sl20⟩)
    (c20 : PySem.W.codeIn K cd20 "pivot" = true)
    (k20 : PySem.W.keepIn K (.ref f20) = true)
    (a21 : PySem.W.nsIn K mainGlobals "scaled_row" = some (some (.ref f21)))
    (l21 : K.lookup f21 = some ⟨oc21, od21, .func (PySem.W.fnOf "scaled_row" "scaled_row" (defArgs sScaled) (defBody sScaled) (defScope sScaled) .none kV21 dc21 pm21 an21 cd21 ct21), sl21⟩)
    (c21 : PySem.W.codeIn K cd21 "scaled_row" = true)
    (k21 : PySem.W.keepIn K (.ref f21) = true)
    (a22 : PySem.W.nsIn K mainGlobals "less" = some (some (.ref f22)))
    (l22 : K.lookup f22 = some ⟨oc22, od22, .func (PySem.W.fnOf "less" "less" (defArgs sLess) (defBody sLess) (defScope sLess) .none kV22 dc22 pm22 an22 cd22 ct22), sl22⟩)
    (c22 : PySem.W.codeIn K cd22 "less" = true)
    (k22 : PySem.W.keepIn K (.ref f22) = true)
    (a23 : PySem.W.nsIn K mainGlobals "cleared" = some (some (.ref f23)))
    (l23 : K.lookup f23 = some ⟨oc23, od23, .func (PySem.W.fnOf "cleared" "cleared" (defArgs sCleared) (defBody sCleared) (defScope sCleared) .none kV23 dc23 pm23 an23 cd23 ct23), sl23⟩)
    (c23 : PySem.W.codeIn K cd23 "cleared" = true)
    (k23 : PySem.W.keepIn K (.ref f23) = true)
    (a24 : PySem.W.nsIn K mainGlobals "keep" = some (some (.ref f24)))
    (l24 : K.lookup f24 = some ⟨oc24, od24, .func (PySem.W.fnOf "keep" "keep" (defArgs sKeep) (defBody sKeep) (defScope sKeep) .none kV24 dc24 pm24 an24 cd24 ct24), sl24⟩)
    (c24 : PySem.W.codeIn K cd24 "keep" = true)
    (k24 : PySem.W.keepIn K (.ref f24) = true)
    (a28 : PySem.W.nsIn K mainGlobals "is_table" = some (some (.ref f28)))
    (l28 : K.lookup f28 = some ⟨oc28, od28, .func (PySem.W.fnOf "is_table" "is_table" (defArgs sIsTab) (defBody sIsTab) (defScope sIsTab) .none kV28 dc28 pm28 an28 cd28 ct28), sl28⟩)
    (c28 : PySem.W.codeIn K cd28 "is_table" = true)
    (k28 : PySem.W.keepIn K (.ref f28) = true)
    (a29 : PySem.W.nsIn K mainGlobals "table_of" = some (some (.ref f29)))
    (l29 : K.lookup f29 = some ⟨oc29, od29, .func (PySem.W.fnOf "table_of" "table_of" (defArgs sTabOf) (defBody sTabOf) (defScope sTabOf) .none kV29 dc29 pm29 an29 cd29 ct29), sl29⟩)
    (c29 : PySem.W.codeIn K cd29 "table_of" = true)
    (k29 : PySem.W.keepIn K (.ref f29) = true)
    (a30 : PySem.W.nsIn K mainGlobals "corner" = some (some (.ref f30)))
    (l30 : K.lookup f30 = some ⟨oc30, od30, .func (PySem.W.fnOf "corner" "corner" (defArgs sCorner) (defBody sCorner) (defScope sCorner) .none kV30 dc30 pm30 an30 cd30 ct30), sl30⟩)
    (c30 : PySem.W.codeIn K cd30 "corner" = true)
    (k30 : PySem.W.keepIn K (.ref f30) = true)
    (a36 : PySem.W.nsIn K mainGlobals "is_arrow" = some (some (.ref f36)))
    (l36 : K.lookup f36 = some ⟨oc36, od36, .func (PySem.W.fnOf "is_arrow" "is_arrow" (defArgs sArrow) (defBody sArrow) (defScope sArrow) .none kV36 dc36 pm36 an36 cd36 ct36), sl36⟩)
    (c36 : PySem.W.codeIn K cd36 "is_arrow" = true)
    (k36 : PySem.W.keepIn K (.ref f36) = true)
    (a37 : PySem.W.nsIn K mainGlobals "line" = some (some (.ref f37)))
    (l37 : K.lookup f37 = some ⟨oc37, od37, .func (PySem.W.fnOf "line" "line" (defArgs sLine) (defBody sLine) (defScope sLine) .none kV37 dc37 pm37 an37 cd37 ct37), sl37⟩)
    (c37 : PySem.W.codeIn K cd37 "line" = true)
    (k37 : PySem.W.keepIn K (.ref f37) = true)
    (a41 : PySem.W.nsIn K mainGlobals "is_sizes" = some (some (.ref f41)))
    (l41 : K.lookup f41 = some ⟨oc41, od41, .func (PySem.W.fnOf "is_sizes" "is_sizes" (defArgs sSizes) (defBody sSizes) (defScope sSizes) .none kV41 dc41 pm41 an41 cd41 ct41), sl41⟩)
    (c41 : PySem.W.codeIn K cd41 "is_sizes" = true)
    (k41 : PySem.W.keepIn K (.ref f41) = true)
    (a42 : PySem.W.nsIn K mainGlobals "picture_of" = some (some (.ref f42)))
    (l42 : K.lookup f42 = some ⟨oc42, od42, .func (PySem.W.fnOf "picture_of" "picture_of" (defArgs sPicOf) (defBody sPicOf) (defScope sPicOf) .none kV42 dc42 pm42 an42 cd42 ct42), sl42⟩)
    (c42 : PySem.W.codeIn K cd42 "picture_of" = true)
    (k42 : PySem.W.keepIn K (.ref f42) = true)
    (a43 : PySem.W.nsIn K mainGlobals "laid_beside" = some (some (.ref f43)))
    (l43 : K.lookup f43 = some ⟨oc43, od43, .func (PySem.W.fnOf "laid_beside" "laid_beside" (defArgs sLaid) (defBody sLaid) (defScope sLaid) .none kV43 dc43 pm43 an43 cd43 ct43), sl43⟩)
    (c43 : PySem.W.codeIn K cd43 "laid_beside" = true)
    (k43 : PySem.W.keepIn K (.ref f43) = true)
    (a45 : PySem.W.nsIn K mainGlobals "bar_picture" = some (some (.ref f45)))
    (l45 : K.lookup f45 = some ⟨oc45, od45, .func (PySem.W.fnOf "bar_picture" "bar_picture" (defArgs sBarPic) (defBody sBarPic) (defScope sBarPic) .none kV45 dc45 pm45 an45 cd45 ct45), sl45⟩)
    (c45 : PySem.W.codeIn K cd45 "bar_picture" = true)
    (k45 : PySem.W.keepIn K (.ref f45) = true)
    (a53 : PySem.W.nsIn K mainGlobals "is_cell" = some (some (.ref f53)))
    (l53 : K.lookup f53 = some ⟨oc53, od53, .func (PySem.W.fnOf "is_cell" "is_cell" (defArgs sCell) (defBody sCell) (defScope sCell) .none kV53 dc53 pm53 an53 cd53 ct53), sl53⟩)
    (c53 : PySem.W.codeIn K cd53 "is_cell" = true)
    (k53 : PySem.W.keepIn K (.ref f53) = true)
    (a54 : PySem.W.nsIn K mainGlobals "faces" = some (some (.ref f54)))
    (l54 : K.lookup f54 = some ⟨oc54, od54, .func (PySem.W.fnOf "faces" "faces" (defArgs sFaces) (defBody sFaces) (defScope sFaces) .none kV54 dc54 pm54 an54 cd54 ct54), sl54⟩)
    (c54 : PySem.W.codeIn K cd54 "faces" = true)
    (k54 : PySem.W.keepIn K (.ref f54) = true)
    (a55 : PySem.W.nsIn K mainGlobals "rim_row" = some (some (.ref f55)))
    (l55 : K.lookup f55 = some ⟨oc55, od55, .func (PySem.W.fnOf "rim_row" "rim_row" (defArgs sRim) (defBody sRim) (defScope sRim) .none kV55 dc55 pm55 an55 cd55 ct55), sl55⟩)
    (c55 : PySem.W.codeIn K cd55 "rim_row" = true)
    (k55 : PySem.W.keepIn K (.ref f55) = true)
    (a56 : PySem.W.nsIn K mainGlobals "tower_bars" = some (some (.ref f56)))
    (l56 : K.lookup f56 = some ⟨oc56, od56, .func (PySem.W.fnOf "tower_bars" "tower_bars" (defArgs sBars) (defBody sBars) (defScope sBars) .none kV56 dc56 pm56 an56 cd56 ct56), sl56⟩)
    (c56 : PySem.W.codeIn K cd56 "tower_bars" = true)
    (k56 : PySem.W.keepIn K (.ref f56) = true)
    (a57 : PySem.W.nsIn K mainGlobals "bar_over" = some (some (.ref f57)))
    (l57 : K.lookup f57 = some ⟨oc57, od57, .func (PySem.W.fnOf "bar_over" "bar_over" (defArgs sOver) (defBody sOver) (defScope sOver) .none kV57 dc57 pm57 an57 cd57 ct57), sl57⟩)
    (c57 : PySem.W.codeIn K cd57 "bar_over" = true)
    (k57 : PySem.W.keepIn K (.ref f57) = true)
    (a58 : PySem.W.nsIn K mainGlobals "tower_picture" = some (some (.ref f58)))
    (l58 : K.lookup f58 = some ⟨oc58, od58, .func (PySem.W.fnOf "tower_picture" "tower_picture" (defArgs sTP) (defBody sTP) (defScope sTP) .none kV58 dc58 pm58 an58 cd58 ct58), sl58⟩)
    (c58 : PySem.W.codeIn K cd58 "tower_picture" = true)
    (k58 : PySem.W.keepIn K (.ref f58) = true)
    (a60 : PySem.W.nsIn K mainGlobals "_law_bag" = some (some (.ref f60)))
    (l60 : K.lookup f60 = some ⟨oc60, od60, .func (PySem.W.fnOf "_law_bag" "_law_bag" (defArgs sBag) (defBody sBag) (defScope sBag) .none kV60 dc60 pm60 an60 cd60 ct60), sl60⟩)
    (c60 : PySem.W.codeIn K cd60 "_law_bag" = true)
    (k60 : PySem.W.keepIn K (.ref f60) = true)
    (a61 : PySem.W.nsIn K mainGlobals "_law_pick" = some (some (.ref f61)))
    (l61 : K.lookup f61 = some ⟨oc61, od61, .func (PySem.W.fnOf "_law_pick" "_law_pick" (defArgs sPick) (defBody sPick) (defScope sPick) .none kV61 dc61 pm61 an61 cd61 ct61), sl61⟩)
    (c61 : PySem.W.codeIn K cd61 "_law_pick" = true)
    (k61 : PySem.W.keepIn K (.ref f61) = true)
    (a62 : PySem.W.nsIn K mainGlobals "_law_some" = some (some (.ref f62)))
    (l62 : K.lookup f62 = some ⟨oc62, od62, .func (PySem.W.fnOf "_law_some" "_law_some" (defArgs sSome) (defBody sSome) (defScope sSome) .none kV62 dc62 pm62 an62 cd62 ct62), sl62⟩)
    (c62 : PySem.W.codeIn K cd62 "_law_some" = true)
    (k62 : PySem.W.keepIn K (.ref f62) = true)
    (a63 : PySem.W.nsIn K mainGlobals "_law_faces" = some (some (.ref f63)))
    (l63 : K.lookup f63 = some ⟨oc63, od63, .func (PySem.W.fnOf "_law_faces" "_law_faces" (defArgs sLFaces) (defBody sLFaces) (defScope sLFaces) .none kV63 dc63 pm63 an63 cd63 ct63), sl63⟩)
    (c63 : PySem.W.codeIn K cd63 "_law_faces" = true)
    (k63 : PySem.W.keepIn K (.ref f63) = true)
    (a64 : PySem.W.nsIn K mainGlobals "_law_grown" = some (some (.ref f64)))
    (l64 : K.lookup f64 = some ⟨oc64, od64, .func (PySem.W.fnOf "_law_grown" "_law_grown" (defArgs sGrown) (defBody sGrown) (defScope sGrown) .none kV64 dc64 pm64 an64 cd64 ct64), sl64⟩)
    (c64 : PySem.W.codeIn K cd64 "_law_grown" = true)
    (k64 : PySem.W.keepIn K (.ref f64) = true)
    (a65 : PySem.W.nsIn K mainGlobals "_law_grows" = some (some (.ref f65)))
    (l65 : K.lookup f65 = some ⟨oc65, od65, .func (PySem.W.fnOf "_law_grows" "_law_grows" (defArgs sGro) (defBody sGro) (defScope sGro) .none kV65 dc65 pm65 an65 cd65 ct65), sl65⟩)
    (c65 : PySem.W.codeIn K cd65 "_law_grows" = true)
    (k65 : PySem.W.keepIn K (.ref f65) = true)
    (a66 : PySem.W.nsIn K mainGlobals "_law_rim" = some (some (.ref f66)))
    (l66 : K.lookup f66 = some ⟨oc66, od66, .func (PySem.W.fnOf "_law_rim" "_law_rim" (defArgs sLri) (defBody sLri) (defScope sLri) .none kV66 dc66 pm66 an66 cd66 ct66), sl66⟩)
    (c66 : PySem.W.codeIn K cd66 "_law_rim" = true)
    (k66 : PySem.W.keepIn K (.ref f66) = true)
    (a67 : PySem.W.nsIn K mainGlobals "_law_lasting" = some (some (.ref f67)))
    (l67 : K.lookup f67 = some ⟨oc67, od67, .func (PySem.W.fnOf "_law_lasting" "_law_lasting" (defArgs sLas) (defBody sLas) (defScope sLas) .none kV67 dc67 pm67 an67 cd67 ct67), sl67⟩)
    (c67 : PySem.W.codeIn K cd67 "_law_lasting" = true)
    (k67 : PySem.W.keepIn K (.ref f67) = true)
    (a68 : PySem.W.nsIn K mainGlobals "_law_led" = some (some (.ref f68)))
    (l68 : K.lookup f68 = some ⟨oc68, od68, .func (PySem.W.fnOf "_law_led" "_law_led" (defArgs sLed) (defBody sLed) (defScope sLed) .none kV68 dc68 pm68 an68 cd68 ct68), sl68⟩)
    (c68 : PySem.W.codeIn K cd68 "_law_led" = true)
    (k68 : PySem.W.keepIn K (.ref f68) = true)
    (a69 : PySem.W.nsIn K mainGlobals "_law_rank" = some (some (.ref f69)))
    (l69 : K.lookup f69 = some ⟨oc69, od69, .func (PySem.W.fnOf "_law_rank" "_law_rank" (defArgs sRan) (defBody sRan) (defScope sRan) .none kV69 dc69 pm69 an69 cd69 ct69), sl69⟩)
    (c69 : PySem.W.codeIn K cd69 "_law_rank" = true)
    (k69 : PySem.W.keepIn K (.ref f69) = true)
    (a70 : PySem.W.nsIn K mainGlobals "_law_ranks_right" = some (some (.ref f70)))
    (l70 : K.lookup f70 = some ⟨oc70, od70, .func (PySem.W.fnOf "_law_ranks_right" "_law_ranks_right" (defArgs sRR) (defBody sRR) (defScope sRR) .none kV70 dc70 pm70 an70 cd70 ct70), sl70⟩)
    (c70 : PySem.W.codeIn K cd70 "_law_ranks_right" = true)
    (k70 : PySem.W.keepIn K (.ref f70) = true)
    (a71 : PySem.W.nsIn K mainGlobals "_law_stops" = some (some (.ref f71)))
    (l71 : K.lookup f71 = some ⟨oc71, od71, .func (PySem.W.fnOf "_law_stops" "_law_stops" (defArgs sSto) (defBody sSto) (defScope sSto) .none kV71 dc71 pm71 an71 cd71 ct71), sl71⟩)
    (c71 : PySem.W.codeIn K cd71 "_law_stops" = true)
    (k71 : PySem.W.keepIn K (.ref f71) = true)
    (a72 : PySem.W.nsIn K mainGlobals "_law_right" = some (some (.ref f72)))
    (l72 : K.lookup f72 = some ⟨oc72, od72, .func (PySem.W.fnOf "_law_right" "_law_right" (defArgs sRig) (defBody sRig) (defScope sRig) .none kV72 dc72 pm72 an72 cd72 ct72), sl72⟩)
    (c72 : PySem.W.codeIn K cd72 "_law_right" = true)
    (k72 : PySem.W.keepIn K (.ref f72) = true)
    (a73 : PySem.W.nsIn K mainGlobals "law" = some (some (.ref f73)))
    (l73 : K.lookup f73 = some ⟨oc73, od73, .func (PySem.W.fnOf "law" "law" (defArgs sLaw) (defBody sLaw) (defScope sLaw) .none kV73 dc73 pm73 an73 cd73 ct73), sl73⟩)
    (c73 : PySem.W.codeIn K cd73 "law" = true)
    (k73 : PySem.W.keepIn K (.ref f73) = true)
    (aT : PySem.W.findIn K (.ref CT) "__init__" = some (some (.ref fT)))
    (iT : PySem.W.isFn K (.ref fT) = true)
    (lT : K.lookup fT = some ⟨ocT, odT, .func (PySem.W.fnOf "__init__" "Tower.__init__" (defArgs sTowI) (defBody sTowI) (defScope sTowI) .none kVT dcT pmT anT cdT ctT), slT⟩)
    (cT : PySem.W.codeIn K cdT "Tower.__init__" = true)
    (kT : PySem.W.keepIn K (.ref fT) = true)
    (tT : PySem.W.typeIn K (.ref fT) = some (.type "function"))
    (aB : PySem.W.findIn K (.ref CB) "__init__" = some (some (.ref fB)))
    (iB : PySem.W.isFn K (.ref fB) = true)
    (lB : K.lookup fB = some ⟨ocB, odB, .func (PySem.W.fnOf "__init__" "Table.__init__" (defArgs sTabI) (defBody sTabI) (defScope sTabI) .none kVB dcB pmB anB cdB ctB), slB⟩)
    (cB : PySem.W.codeIn K cdB "Table.__init__" = true)
    (kB : PySem.W.keepIn K (.ref fB) = true)
    (tB : PySem.W.typeIn K (.ref fB) = some (.type "function"))
    (aW : PySem.W.findIn K (.ref CW) "__init__" = some (some (.ref fW)))
    (iW : PySem.W.isFn K (.ref fW) = true)
    (lW : K.lookup fW = some ⟨ocW, odW, .func (PySem.W.fnOf "__init__" "Web.__init__" (defArgs sWebI) (defBody sWebI) (defScope sWebI) .none kVW dcW pmW anW cdW ctW), slW⟩)
    (cW : PySem.W.codeIn K cdW "Web.__init__" = true)
    (kW : PySem.W.keepIn K (.ref fW) = true)
    (tW : PySem.W.typeIn K (.ref fW) = some (.type "function"))
    (aE : PySem.W.findIn K (.ref CW) "__eq__" = some (some (.ref fE)))
    (iE : PySem.W.isFn K (.ref fE) = true)
    (lE : K.lookup fE = some ⟨ocE, odE, .func (PySem.W.fnOf "__eq__" "Web.__eq__" (defArgs sWebE) (defBody sWebE) (defScope sWebE) .none kVE dcE pmE anE cdE ctE), slE⟩)
    (cE : PySem.W.codeIn K cdE "Web.__eq__" = true)
    (kE : PySem.W.keepIn K (.ref fE) = true)
    (tE : PySem.W.typeIn K (.ref fE) = some (.type "function"))
    (aP : PySem.W.findIn K (.ref CP) "__init__" = some (some (.ref fP)))
    (iP : PySem.W.isFn K (.ref fP) = true)
    (lP : K.lookup fP = some ⟨ocP, odP, .func (PySem.W.fnOf "__init__" "Picture.__init__" (defArgs sPicI) (defBody sPicI) (defScope sPicI) .none kVP dcP pmP anP cdP ctP), slP⟩)
    (cP : PySem.W.codeIn K cdP "Picture.__init__" = true)
    (kP : PySem.W.keepIn K (.ref fP) = true)
    (tP : PySem.W.typeIn K (.ref fP) = some (.type "function"))
    (hn : PySem.W.specialIn K (.builtin "object.__class__") "__get__" = some (some (.builtin "getset_descriptor.__get__")))
    (ht : PySem.W.takesIn K (.builtin "object.__class__") = some true)
    (pgCT : PySem.W.plainGet K CT Str.empty = true)
    (hdCT : PySem.W.hasDictIn K CT = true)
    (poCT : PySem.W.plainOver K CT = true)
    (saCT : PySem.W.findIn K (.ref CT) "__setattr__" = some (some (.builtin "object.__setattr__")))
    (mkCT : PySem.W.makesIn K CT = true)
    (kcCT : PySem.W.keepIn K (.ref CT) = true)
    (haCT : PySem.W.findIn K (.ref CT) "__class__" = some (some (.builtin "object.__class__")))
    (hmCT : PySem.W.mroIn K CT (.type "object") = some true)
    (icCT : PySem.W.isClsIn K CT = true)
    (tcCT : PySem.W.typeIn K (.ref CT) = some (.type "type"))
    (scCT : PySem.W.subIn K (.ref CT) (.ref CT) = some true)
    (pgCB : PySem.W.plainGet K CB Str.empty = true)
    (hdCB : PySem.W.hasDictIn K CB = true)
    (poCB : PySem.W.plainOver K CB = true)
    (saCB : PySem.W.findIn K (.ref CB) "__setattr__" = some (some (.builtin "object.__setattr__")))
    (mkCB : PySem.W.makesIn K CB = true)
    (kcCB : PySem.W.keepIn K (.ref CB) = true)
    (haCB : PySem.W.findIn K (.ref CB) "__class__" = some (some (.builtin "object.__class__")))
    (hmCB : PySem.W.mroIn K CB (.type "object") = some true)
    (icCB : PySem.W.isClsIn K CB = true)
    (tcCB : PySem.W.typeIn K (.ref CB) = some (.type "type"))
    (scCB : PySem.W.subIn K (.ref CB) (.ref CB) = some true)
    (pgCW : PySem.W.plainGet K CW Str.empty = true)
    (hdCW : PySem.W.hasDictIn K CW = true)
    (poCW : PySem.W.plainOver K CW = true)
    (saCW : PySem.W.findIn K (.ref CW) "__setattr__" = some (some (.builtin "object.__setattr__")))
    (mkCW : PySem.W.makesIn K CW = true)
    (kcCW : PySem.W.keepIn K (.ref CW) = true)
    (haCW : PySem.W.findIn K (.ref CW) "__class__" = some (some (.builtin "object.__class__")))
    (hmCW : PySem.W.mroIn K CW (.type "object") = some true)
    (icCW : PySem.W.isClsIn K CW = true)
    (tcCW : PySem.W.typeIn K (.ref CW) = some (.type "type"))
    (scCW : PySem.W.subIn K (.ref CW) (.ref CW) = some true)
    (pgCP : PySem.W.plainGet K CP Str.empty = true)
    (hdCP : PySem.W.hasDictIn K CP = true)
    (poCP : PySem.W.plainOver K CP = true)
    (saCP : PySem.W.findIn K (.ref CP) "__setattr__" = some (some (.builtin "object.__setattr__")))
    (mkCP : PySem.W.makesIn K CP = true)
    (kcCP : PySem.W.keepIn K (.ref CP) = true)
    (haCP : PySem.W.findIn K (.ref CP) "__class__" = some (some (.builtin "object.__class__")))
    (hmCP : PySem.W.mroIn K CP (.type "object") = some true)
    (icCP : PySem.W.isClsIn K CP = true)
    (tcCP : PySem.W.typeIn K (.ref CP) = some (.type "type"))
    (scCP : PySem.W.subIn K (.ref CP) (.ref CP) = some true)
    (nCTcells : PySem.W.findIn K (.ref CT) "cells" = some none)
    (nCBprime : PySem.W.findIn K (.ref CB) "prime" = some none)
    (nCBwide : PySem.W.findIn K (.ref CB) "wide" = some none)
    (nCBrows : PySem.W.findIn K (.ref CB) "rows" = some none)
    (nCBhigh : PySem.W.findIn K (.ref CB) "high" = some none)
    (nCWmany : PySem.W.findIn K (.ref CW) "many" = some none)
    (nCWarrows : PySem.W.findIn K (.ref CW) "arrows" = some none)
    (nCPweb : PySem.W.findIn K (.ref CP) "web" = some none)
    (nCPprime : PySem.W.findIn K (.ref CP) "prime" = some none)
    (nCPsizes : PySem.W.findIn K (.ref CP) "sizes" = some none)
    (nCPtables : PySem.W.findIn K (.ref CP) "tables" = some none)
    (vMOST : PySem.W.nsIn K mainGlobals "MOST" = some (some (.int 12 tMOST)))
    (vMOST_PLACES : PySem.W.nsIn K mainGlobals "MOST_PLACES" = some (some (.int 8 tMOST_PLACES)))
    (vMOST_ARROWS : PySem.W.nsIn K mainGlobals "MOST_ARROWS" = some (some (.int 12 tMOST_ARROWS)))
    (vMOST_SIGNS : PySem.W.nsIn K mainGlobals "MOST_SIGNS" = some (some (.int 7 tMOST_SIGNS)))
    (vMOST_SIZE : PySem.W.nsIn K mainGlobals "MOST_SIZE" = some (some (.int 6 tMOST_SIZE)))
    (vMOST_CELLS : PySem.W.nsIn K mainGlobals "MOST_CELLS" = some (some (.int 40 tMOST_CELLS)))
    (vMOST_IN_CELL : PySem.W.nsIn K mainGlobals "MOST_IN_CELL" = some (some (.int 4 tMOST_IN_CELL)))
    (vMOST_NAME : PySem.W.nsIn K mainGlobals "MOST_NAME" = some (some (.int 29 tMOST_NAME)))
    (vMOST_DEEP : PySem.W.nsIn K mainGlobals "MOST_DEEP" = some (some (.int 3 tMOST_DEEP)))
    (vMOST_STOPS : PySem.W.nsIn K mainGlobals "MOST_STOPS" = some (some (.int 8 tMOST_STOPS)))
    (vPR : PySem.W.nsIn K mainGlobals "PRIMES" = some (some (.ref aPR)))
    (lPR : K.lookup aPR = some ⟨.type "tuple", odPR, .seq itsPR nPR, slPR⟩)
    (zPR : itsPR.size ≤ sizeLine)
    (rPR : Vals [.int 2, .int 3, .int 5, .int 7, .int 11, .int 13] itsPR.toList)
    (nfW : PySem.W.notFirst K CW (.ref CW) = true)
    (zlen : PySem.W.nsIn K mainGlobals "len" = some none)
    (zint : PySem.W.nsIn K mainGlobals "int" = some none)
    (zbool : PySem.W.nsIn K mainGlobals "bool" = some none)
    (zisinstance : PySem.W.nsIn K mainGlobals "isinstance" = some none)
    (ztuple : PySem.W.nsIn K mainGlobals "tuple" = some none)
    (zall : PySem.W.nsIn K mainGlobals "all" = some none)
    (zenumerate : PySem.W.nsIn K mainGlobals "enumerate" = some none)
    (zlist : PySem.W.nsIn K mainGlobals "list" = some none)
    (zrange : PySem.W.nsIn K mainGlobals "range" = some none)
    (zmin : PySem.W.nsIn K mainGlobals "min" = some none)
    (zmax : PySem.W.nsIn K mainGlobals "max" = some none)
    (zsorted : PySem.W.nsIn K mainGlobals "sorted" = some none)
    (zset : PySem.W.nsIn K mainGlobals "set" = some none)
    (zstr : PySem.W.nsIn K mainGlobals "str" = some none)
    (zabs : PySem.W.nsIn K mainGlobals "abs" = some none)
    (zValueError : PySem.W.nsIn K mainGlobals "ValueError" = some none)
    (zzip : PySem.W.nsIn K mainGlobals "zip" = some none)
    (zsum : PySem.W.nsIn K mainGlobals "sum" = some none) :
    ∃ fd : FuncData, (∀ (s : Shared) (v : Value), BindsTo s fd ⟨[v], []⟩ [("_law_script", v)]) ∧ ∀ base : Heap, K.In base → base.Ns mainGlobals mg → FnOk l.prog w K mg base CX0 12 fa fd ["_law_script"] (spLaw K) := by
  have e := hfa.symm.trans (PySem.W.mg_of X G a73)
  cases e
  have F2 := fun_mk (st := sInteger) l2 c2 k2
  have b2 := F2.binds (ps := ["thing"]) fun _ _ _ _ _ _ us hl => match us, hl with | [_], _ => rfl
  have F3 := fun_mk (st := sNumber) l3 c3 k3
  have b3 := F3.binds (ps := ["most", "thing"]) fun _ _ _ _ _ _ us hl => match us, hl with | [_, _], _ => rfl
  have F4 := fun_mk (st := sPrime) l4 c4 k4
  have b4 := F4.binds (ps := ["thing"]) fun _ _ _ _ _ _ us hl => match us, hl with | [_], _ => rfl
  have F6 := fun_mk (st := sAsc) l6 c6 k6
  have b6 := F6.binds (ps := ["most", "thing"]) fun _ _ _ _ _ _ us hl => match us, hl with | [_, _], _ => rfl
  have F19 := fun_mk (st := sInv) l19 c19 k19
  have b19 := F19.binds (ps := ["prime", "worth"]) fun _ _ _ _ _ _ us hl => match us, hl with | [_, _], _ => rfl
  have F20 := fun_mk (st := sPiv) l20 c20 k20
  have b20 := F20.binds (ps := ["row"]) fun _ _ _ _ _ _ us hl => match us, hl with | [_], _ => rfl
  have F21 := fun_mk (st := sScaled) l21 c21 k21
  have b21 := F21.binds (ps := ["prime", "row", "number"]) fun _ _ _ _ _ _ us hl => match us, hl with | [_, _, _], _ => rfl
  have F22 := fun_mk (st := sLess) l22 c22 k22
  have b22 := F22.binds (ps := ["prime", "row", "number", "other"]) fun _ _ _ _ _ _ us hl => match us, hl with | [_, _, _, _], _ => rfl
  have F23 := fun_mk (st := sCleared) l23 c23 k23
  have b23 := F23.binds (ps := ["prime", "row", "kept"]) fun _ _ _ _ _ _ us hl => match us, hl with | [_, _, _], _ => rfl
  have F24 := fun_mk (st := sKeep) l24 c24 k24
  have b24 := F24.binds (ps := ["prime", "row", "kept"]) fun _ _ _ _ _ _ us hl => match us, hl with | [_, _, _], _ => rfl
  have F28 := fun_mk (st := sIsTab) l28 c28 k28
  have b28 := F28.binds (ps := ["prime", "high", "wide", "thing"]) fun _ _ _ _ _ _ us hl => match us, hl with | [_, _, _, _], _ => rfl
  have F29 := fun_mk (st := sTabOf) l29 c29 k29
  have b29 := F29.binds (ps := ["prime", "wide", "rows"]) fun _ _ _ _ _ _ us hl => match us, hl with | [_, _, _], _ => rfl
  have F30 := fun_mk (st := sCorner) l30 c30 k30
  have b30 := F30.binds (ps := ["one", "other"]) fun _ _ _ _ _ _ us hl => match us, hl with | [_, _], _ => rfl
  have F36 := fun_mk (st := sArrow) l36 c36 k36
  have b36 := F36.binds (ps := ["many", "thing"]) fun _ _ _ _ _ _ us hl => match us, hl with | [_, _], _ => rfl
  have F37 := fun_mk (st := sLine) l37 c37 k37
  have b37 := F37.binds (ps := ["word"]) fun _ _ _ _ _ _ us hl => match us, hl with | [_], _ => rfl
  have F41 := fun_mk (st := sSizes) l41 c41 k41
  have b41 := F41.binds (ps := ["web", "thing"]) fun _ _ _ _ _ _ us hl => match us, hl with | [_, _], _ => rfl
  have F42 := fun_mk (st := sPicOf) l42 c42 k42
  have b42 := F42.binds (ps := ["web", "prime", "sizes", "tables"]) fun _ _ _ _ _ _ us hl => match us, hl with | [_, _, _, _], _ => rfl
  have F43 := fun_mk (st := sLaid) l43 c43 k43
  have b43 := F43.binds (ps := ["web", "prime", "pictures"]) fun _ _ _ _ _ _ us hl => match us, hl with | [_, _, _], _ => rfl
  have F45 := fun_mk (st := sBarPic) l45 c45 k45
  have b45 := F45.binds (ps := ["web", "prime", "begin", "end"]) fun _ _ _ _ _ _ us hl => match us, hl with | [_, _, _, _], _ => rfl
  have F53 := fun_mk (st := sCell) l53 c53 k53
  have b53 := F53.binds (ps := ["thing"]) fun _ _ _ _ _ _ us hl => match us, hl with | [_], _ => rfl
  have F54 := fun_mk (st := sFaces) l54 c54 k54
  have b54 := F54.binds (ps := ["cell"]) fun _ _ _ _ _ _ us hl => match us, hl with | [_], _ => rfl
  have F55 := fun_mk (st := sRim) l55 c55 k55
  have b55 := F55.binds (ps := ["cells", "prime", "cell"]) fun _ _ _ _ _ _ us hl => match us, hl with | [_, _, _], _ => rfl
  have F56 := fun_mk (st := sBars) l56 c56 k56
  have b56 := F56.binds (ps := ["tower", "prime", "deep"]) fun _ _ _ _ _ _ us hl => match us, hl with | [_, _, _], _ => rfl
  have F57 := fun_mk (st := sOver) l57 c57 k57
  have b57 := F57.binds (ps := ["web", "prime", "stops", "born", "gone"]) fun _ _ _ _ _ _ us hl => match us, hl with | [_, _, _, _, _], _ => rfl
  have F58 := fun_mk (st := sTP) l58 c58 k58
  have b58 := F58.binds (ps := ["tower", "prime", "deep", "stops"]) fun _ _ _ _ _ _ us hl => match us, hl with | [_, _, _, _], _ => rfl
  have F60 := fun_mk (st := sBag) l60 c60 k60
  have b60 := F60.binds (ps := ["_law_script"]) fun _ _ _ _ _ _ us hl => match us, hl with | [_], _ => rfl
  have F61 := fun_mk (st := sPick) l61 c61 k61
  have b61 := F61.binds (ps := ["_law_bag_here", "_law_many"]) fun _ _ _ _ _ _ us hl => match us, hl with | [_, _], _ => rfl
  have F62 := fun_mk (st := sSome) l62 c62 k62
  have b62 := F62.binds (ps := ["_law_bag_here", "_law_things"]) fun _ _ _ _ _ _ us hl => match us, hl with | [_, _], _ => rfl
  have F63 := fun_mk (st := sLFaces) l63 c63 k63
  have b63 := F63.binds (ps := ["_law_cell"]) fun _ _ _ _ _ _ us hl => match us, hl with | [_], _ => rfl
  have F64 := fun_mk (st := sGrown) l64 c64 k64
  have b64 := F64.binds (ps := ["_law_bag_here", "_law_many"]) fun _ _ _ _ _ _ us hl => match us, hl with | [_, _], _ => rfl
  have F65 := fun_mk (st := sGro) l65 c65 k65
  have b65 := F65.binds (ps := ["_law_prime", "_law_basis", "_law_column"]) fun _ _ _ _ _ _ us hl => match us, hl with | [_, _, _], _ => rfl
  have F66 := fun_mk (st := sLri) l66 c66 k66
  have b66 := F66.binds (ps := ["_law_cells", "_law_prime", "_law_cell"]) fun _ _ _ _ _ _ us hl => match us, hl with | [_, _, _], _ => rfl
  have F67 := fun_mk (st := sLas) l67 c67 k67
  have b67 := F67.binds (ps := ["_law_cells", "_law_prime", "_law_deep", "_law_begin"]) fun _ _ _ _ _ _ us hl => match us, hl with | [_, _, _, _], _ => rfl
  have F68 := fun_mk (st := sLed) l68 c68 k68
  have b68 := F68.binds (ps := ["_law_prime", "_law_rows", "_law_column"]) fun _ _ _ _ _ _ us hl => match us, hl with | [_, _, _], _ => rfl
  have F69 := fun_mk (st := sRan) l69 c69 k69
  have b69 := F69.binds (ps := ["_law_prime", "_law_columns"]) fun _ _ _ _ _ _ us hl => match us, hl with | [_, _], _ => rfl
  have F70 := fun_mk (st := sRR) l70 c70 k70
  have b70 := F70.binds (ps := ["_law_picture", "_law_prime", "_law_begin", "_law_dues"]) fun _ _ _ _ _ _ us hl => match us, hl with | [_, _, _, _], _ => rfl
  have F71 := fun_mk (st := sSto) l71 c71 k71
  have b71 := F71.binds (ps := ["_law_bag_here", "_law_many"]) fun _ _ _ _ _ _ us hl => match us, hl with | [_, _], _ => rfl
  have F72 := fun_mk (st := sRig) l72 c72 k72
  have b72 := F72.binds (ps := ["_law_cells", "_law_prime", "_law_deep", "_law_stops_here"]) fun _ _ _ _ _ _ us hl => match us, hl with | [_, _, _, _], _ => rfl
  have F73 := fun_mk (st := sLaw) l73 c73 k73
  have b73 := F73.binds (ps := ["_law_script"]) fun _ _ _ _ _ _ us hl => match us, hl with | [_], _ => rfl
  have FT := fun_mk (st := sTowI) lT cT kT
  have bT := FT.binds (ps := ["self", "cells"]) fun _ _ _ _ _ _ us hl => match us, hl with | [_, _], _ => rfl
  have FB := fun_mk (st := sTabI) lB cB kB
  have bB := FB.binds (ps := ["self", "prime", "wide", "rows"]) fun _ _ _ _ _ _ us hl => match us, hl with | [_, _, _, _], _ => rfl
  have FW := fun_mk (st := sWebI) lW cW kW
  have bW := FW.binds (ps := ["self", "many", "arrows"]) fun _ _ _ _ _ _ us hl => match us, hl with | [_, _, _], _ => rfl
  have FE := fun_mk (st := sWebE) lE cE kE
  have bE := FE.binds (ps := ["self", "other"]) fun _ _ _ _ _ _ us hl => match us, hl with | [_, _], _ => rfl
  have FP := fun_mk (st := sPicI) lP cP kP
  have bP := FP.binds (ps := ["self", "web", "prime", "sizes", "tables"]) fun _ _ _ _ _ _ us hl => match us, hl with | [_, _, _, _, _], _ => rfl
  have nn : ∀ {x : Str}, PySem.W.nsIn K mainGlobals x = some none → mg x = none := fun z => PySem.W.mg_none_of X G z
  have T : Gb mg := ⟨nn zlen, nn zint, nn zbool, nn zisinstance, nn ztuple, nn zall, nn zenumerate, nn zlist, nn zrange, nn zmin, nn zmax, nn zsorted, nn zset, nn zstr, nn zabs, nn zValueError⟩
  have M : TowC mg := ⟨⟨tMOST_CELLS, PySem.W.mg_of X G vMOST_CELLS⟩, ⟨tMOST_IN_CELL, PySem.W.mg_of X G vMOST_IN_CELL⟩, ⟨tMOST_NAME, PySem.W.mg_of X G vMOST_NAME⟩, nn zzip⟩
  have PR : PrimC K mg := ⟨aPR, PySem.W.mg_of X G vPR, fun H => .inr ⟨_, itsPR, nPR, lPR, rfl, rfl, zPR, rPR⟩⟩
  have clT : Cls K CT := ⟨pgCT, hdCT, poCT, saCT⟩
  have clB : Cls K CB := ⟨pgCB, hdCB, poCB, saCB⟩
  have clW : Cls K CW := ⟨pgCW, hdCW, poCW, saCW⟩
  have clP : Cls K CP := ⟨pgCP, hdCP, poCP, saCP⟩
  have W : TowK K mg CT := ⟨clT, nCTcells, PySem.W.mg_of X G gCT⟩
  have TD : TabD K mg CB := ⟨clB, nCBprime, nCBwide, nCBrows, nCBhigh, PySem.W.mg_of X G gCB, ⟨tMOST, PySem.W.mg_of X G vMOST⟩⟩
  have WD : WebD K mg CW := ⟨clW, nCWmany, nCWarrows, PySem.W.mg_of X G gCW, ⟨tMOST_PLACES, PySem.W.mg_of X G vMOST_PLACES⟩, ⟨tMOST_ARROWS, PySem.W.mg_of X G vMOST_ARROWS⟩, ⟨tMOST_SIGNS, PySem.W.mg_of X G vMOST_SIGNS⟩⟩
  have PD : PicD K mg CP := ⟨clP, nCPweb, nCPprime, nCPsizes, nCPtables, PySem.W.mg_of X G gCP, ⟨tMOST_SIZE, PySem.W.mg_of X G vMOST_SIZE⟩⟩
  have IB : IsC K CB := ⟨clB, haCB, hn, ht, hmCB⟩
  have IW : IsC K CW := ⟨clW, haCW, hn, ht, hmCW⟩
  have IP : IsC K CP := ⟨clP, haCP, hn, ht, hmCP⟩
  have MT : Mk K CT fT := ⟨mkCT, aT, iT, kcCT⟩
  have MB : Mk K CB fB := ⟨mkCB, aB, iB, kcCB⟩
  have MW : Mk K CW fW := ⟨mkCW, aW, iW, kcCW⟩
  have MP : Mk K CP fP := ⟨mkCP, aP, iP, kcCP⟩
  refine ⟨PySem.W.fnOf "law" "law" (defArgs sLaw) (defBody sLaw) (defScope sLaw) .none kV73 dc73 pm73 an73 cd73 ct73, fun s v => .of_eq rfl, fun base _ _ => ?_⟩
  have cInt : Cal l.prog w K mg base 1 "is_integer" (spInteger K) [] := ⟨⟨f2, _, _, [], ok_integer F2 T, PySem.W.mg_of X G a2, k2, b2, .nil⟩⟩
  have cNum : Cal l.prog w K mg base 2 "is_number" (spNumber K) [] := ⟨⟨f3, _, _, [], ok_number F3 cInt, PySem.W.mg_of X G a3, k3, b3, .nil⟩⟩
  have cPri : Cal l.prog w K mg base 2 "is_prime" (spPrime K) [] := ⟨⟨f4, _, _, [], ok_prime F4 PR cInt, PySem.W.mg_of X G a4, k4, b4, .nil⟩⟩
  have cAsc : Cal l.prog w K mg base 3 "is_ascending" (spAsc K) [] := ⟨⟨f6, _, _, [], ok_asc F6 T M cNum, PySem.W.mg_of X G a6, k6, b6, .nil⟩⟩
  have cInv : Cal l.prog w K mg base 1 "inverse" spInv [] := ⟨⟨f19, _, _, [], ok_inv F19 T, PySem.W.mg_of X G a19, k19, b19, .nil⟩⟩
  have cPiv : Cal l.prog w K mg base 1 "pivot" spPiv [] := ⟨⟨f20, _, _, [], ok_piv F20 T, PySem.W.mg_of X G a20, k20, b20, .nil⟩⟩
  have cSca : Cal l.prog w K mg base 1 "scaled_row" spScaled [] := ⟨⟨f21, _, _, [], ok_scaled F21 T, PySem.W.mg_of X G a21, k21, b21, .nil⟩⟩
  have cLess : Cal l.prog w K mg base 1 "less" spLess [] := ⟨⟨f22, _, _, [], ok_less F22 T M, PySem.W.mg_of X G a22, k22, b22, .nil⟩⟩
  have cCle : Cal l.prog w K mg base 2 "cleared" spCleared [] := ⟨⟨f23, _, _, [], ok_cleared F23 cLess, PySem.W.mg_of X G a23, k23, b23, .nil⟩⟩
  have cKeep : Cal l.prog w K mg base 3 "keep" spKeep [] := ⟨⟨f24, _, _, [], ok_keep F24 T cCle cPiv cSca cInv cLess, PySem.W.mg_of X G a24, k24, b24, .nil⟩⟩
  have cIsT : Cal l.prog w K mg base 1 "is_table" (spIsTab CB) [] := ⟨⟨f28, _, _, [], ok_isTab F28 T TD IB, PySem.W.mg_of X G a28, k28, b28, .nil⟩⟩
  have GB : FnOk l.prog w K mg base CX0 3 fB _ ["self", "prime", "wide", "rows"] (spTab CB) := ok_tab FB T TD cPri cNum
  have cTab : Cal l.prog w K mg base 5 "table_of" (spTabOf CB) [] := ⟨⟨f29, _, _, [], ok_tabOf F29 T TD MB GB bB, PySem.W.mg_of X G a29, k29, b29, .nil⟩⟩
  have cCor : Cal l.prog w K mg base 6 "corner" (spCorner CB) [] := ⟨⟨f30, _, _, [], ok_corner F30 T TD cTab, PySem.W.mg_of X G a30, k30, b30, .nil⟩⟩
  have cArr : Cal l.prog w K mg base 3 "is_arrow" spArrow [] := ⟨⟨f36, _, _, [], ok_arrow F36 T cNum, PySem.W.mg_of X G a36, k36, b36, .nil⟩⟩
  have GW : FnOk l.prog w K mg base CX0 4 fW _ ["self", "many", "arrows"] (spWeb CW) := ok_web FW T WD cNum cArr
  have GE : FnOk l.prog w K mg base CX0 1 fE _ ["self", "other"] (spEqW CW) := ok_webE FE T WD IW
  have cLine : Cal l.prog w K mg base 6 "line" (spLine CW) [] := ⟨⟨f37, _, _, [], ok_line F37 T WD MW GW bW, PySem.W.mg_of X G a37, k37, b37, .nil⟩⟩
  have cSiz : Cal l.prog w K mg base 3 "is_sizes" (spSizes CW) [] := ⟨⟨f41, _, _, [], ok_sizes F41 T WD PD.mo cNum, PySem.W.mg_of X G a41, k41, b41, .nil⟩⟩
  have GP : FnOk l.prog w K mg base CX0 4 fP _ ["self", "web", "prime", "sizes", "tables"] (spPic CP CW CB) := ok_pic FP T PD WD IW cPri cSiz cIsT
  have cPicOf : Cal l.prog w K mg base 6 "picture_of" (spPicOf CP CW) [] := ⟨⟨f42, _, _, [], ok_picOf F42 T PD WD TD MB GB bB MP GP bP, PySem.W.mg_of X G a42, k42, b42, .nil⟩⟩
  have cLaid : Cal l.prog w K mg base 7 "laid_beside" (spLaid CP CW CB) [] := ⟨⟨f43, _, _, [], ok_laid F43 T (nn zsum) PD WD TD MB GB bB cCor cPicOf, PySem.W.mg_of X G a43, k43, b43, .nil⟩⟩
  have cBarP : Cal l.prog w K mg base 7 "bar_picture" (spBarPic CP CW CB) [] := ⟨⟨f45, _, _, [], ok_barPic F45 T WD cTab cPicOf, PySem.W.mg_of X G a45, k45, b45, .nil⟩⟩
  have cCell : Cal l.prog w K mg base 4 "is_cell" (spCell K) [] := ⟨⟨f53, _, _, [], ok_cell F53 T M cAsc, PySem.W.mg_of X G a53, k53, b53, .nil⟩⟩
  have cFac : Cal l.prog w K mg base 1 "faces" spFaces [] := ⟨⟨f54, _, _, [], ok_faces F54 T, PySem.W.mg_of X G a54, k54, b54, .nil⟩⟩
  have cRim : Cal l.prog w K mg base 2 "rim_row" spRim [] := ⟨⟨f55, _, _, [], ok_rim F55 T cFac, PySem.W.mg_of X G a55, k55, b55, .nil⟩⟩
  have cBars : Cal l.prog w K mg base 4 "tower_bars" (spBars CT) [] := ⟨⟨f56, _, _, [], ok_bars F56 T W ⟨tMOST_DEEP, PySem.W.mg_of X G vMOST_DEEP⟩ cPri cNum cKeep cRim, PySem.W.mg_of X G a56, k56, b56, .nil⟩⟩
  have cOver : Cal l.prog w K mg base 8 "bar_over" (spOver CP CW CB) [] := ⟨⟨f57, _, _, [], ok_over F57 T cBarP, PySem.W.mg_of X G a57, k57, b57, .nil⟩⟩
  have GT : FnOk l.prog w K mg base CX0 5 fT _ ["self", "cells"] (spTowG CT) := ok_towG FT T M W cCell cFac
  have cAscG : Cal l.prog w K mg base 3 "is_ascending" (O42.G.spAsc K) [] := ⟨⟨f6, _, _, [], O42.G.ok_asc F6 T ⟨nn zzip⟩ cNum, PySem.W.mg_of X G a6, k6, b6, .nil⟩⟩
  have cTP : Cal l.prog w K mg base 9 "tower_picture" (spTP CT CP CW CB) [] := ⟨⟨f58, _, _, [], ok_tp F58 T W ⟨tMOST_STOPS, PySem.W.mg_of X G vMOST_STOPS⟩ cBars cAscG cLine cOver cLaid, PySem.W.mg_of X G a58, k58, b58, .nil⟩⟩
  have cBag : Cal l.prog w K mg base 1 "_law_bag" (spBag K) [] := ⟨⟨f60, _, _, [], ok_bag F60 T, PySem.W.mg_of X G a60, k60, b60, .nil⟩⟩
  have cPick : Cal l.prog w K mg base 1 "_law_pick" spPick [] := ⟨⟨f61, _, _, [], ok_pick F61 ⟨T.len, T.int⟩, PySem.W.mg_of X G a61, k61, b61, .nil⟩⟩
  have cSome : Cal l.prog w K mg base 2 "_law_some" spSome [] := ⟨⟨f62, _, _, [], ok_some F62 ⟨T.len, T.int⟩ cPick, PySem.W.mg_of X G a62, k62, b62, .nil⟩⟩
  have cLF : Cal l.prog w K mg base 1 "_law_faces" spFaces [] := ⟨⟨f63, _, _, [], ok_lfaces F63 T, PySem.W.mg_of X G a63, k63, b63, .nil⟩⟩
  have cGr : Cal l.prog w K mg base 3 "_law_grown" spGrown [] := ⟨⟨f64, _, _, [], ok_grown F64 T cPick cSome cLF, PySem.W.mg_of X G a64, k64, b64, .nil⟩⟩
  have cGs : Cal l.prog w K mg base 2 "_law_grows" spGro [] := ⟨⟨f65, _, _, [], ok_gro F65 T, PySem.W.mg_of X G a65, k65, b65, .nil⟩⟩
  have cLR : Cal l.prog w K mg base 2 "_law_rim" spLRim [] := ⟨⟨f66, _, _, [], ok_lri F66 T cLF, PySem.W.mg_of X G a66, k66, b66, .nil⟩⟩
  have cLa : Cal l.prog w K mg base 3 "_law_lasting" spLas [] := ⟨⟨f67, _, _, [], ok_las F67 T cGs cLR, PySem.W.mg_of X G a67, k67, b67, .nil⟩⟩
  have cLed : Cal l.prog w K mg base 2 "_law_led" spLed [] := ⟨⟨f68, _, _, [], ok_led F68 T (nn zsum), PySem.W.mg_of X G a68, k68, b68, .nil⟩⟩
  have cRan : Cal l.prog w K mg base 3 "_law_rank" spRan [] := ⟨⟨f69, _, _, [], ok_ran F69 T (nn zsum) cGs, PySem.W.mg_of X G a69, k69, b69, .nil⟩⟩
  have cRR : Cal l.prog w K mg base 4 "_law_ranks_right" (spRR CP CB) [] := ⟨⟨f70, _, _, [], ok_rr F70 T PD TD cLed cRan, PySem.W.mg_of X G a70, k70, b70, .nil⟩⟩
  have cSto : Cal l.prog w K mg base 2 "_law_stops" spSto [] := ⟨⟨f71, _, _, [], ok_sto F71 T cPick, PySem.W.mg_of X G a71, k71, b71, .nil⟩⟩
  have cRi : Cal l.prog w K mg base 10 "_law_right" spRight [] := ⟨⟨f72, _, _, [], ok_rig F72 T W PD IP WD IW TD MT GT bT MW GW bW GE bE aE iE nfW cTP cLa cRR, PySem.W.mg_of X G a72, k72, b72, .nil⟩⟩
  exact ok_law F73 T cBag cPick cSome cGr cSto cRi
theorem walk {l : PySem.W.OpenLaw} {q : Program} {loose : List Str} {XP : (Str → Option Value) → Heap → Prop} {YP : World → Heap → Prop} {d : DefRec} {K : Params → PySem.W.Frag} (hn : l.most = some 63) (hdf : d.params.defaults = [])
    (hY : ∀ (w : World) (h : Heap), YP w h → (K w.params).In h)
    (F : ∀ (w : World) (mg : Str → Option Value) (fa : Addr) (h : Heap), (K w.params).In h → h.Ns mainGlobals mg → mg d.name = some (.ref fa) →
      ∃ fd : FuncData, (∀ (s : Shared) (u : Value), BindsTo s fd ⟨[u], []⟩ [("_law_script", u)]) ∧ ∀ base : Heap, (K w.params).In base → base.Ns mainGlobals mg → FnOk l.prog w (K w.params) mg base CX0 12 fa fd ["_law_script"] (spLaw (K w.params))) :
    PySem.W.WalkO q loose XP YP l.row.toRowW d [] (fun f vs => PySem.call f vs) :=
  L2.walk_of (n := 63) (k := 12) (x := "_law_script") (CX := fun _ => CX0) (sp := fun w => spLaw (K w.params)) hn (by decide) hdf ⟨rfl, by decide, by decide⟩ hY F (fun _ _ a ns hl _ hS => ⟨a, ns, rfl, hS, hl, fun _ => rfl⟩) fun _ _ _ _ _ z => z
end O42

set_option Elab.async false
set_option linter.all false
open PySem PySem.W PyProof.Rows
set_option maxRecDepth 100000 in
set_option maxHeartbeats 0 in
theorem PySem.Challenge.cw_mapwebs_k42_whole_pictures_of_towers_holds : PySem.Challenge.rw_mapwebs_k42_whole_pictures_of_towers.Holds := by
  w_on; o_law; k_head; (case hw => w_witness2)
  k_fill
  refine O42.walk (l := PySem.Challenge.rw_mapwebs_k42_whole_pictures_of_towers) rfl rfl (fun w h Y => PySem.W.kIn_of Y) ?F
  case F =>
    intro w mg fa h KX G hmg
    refine' O42.all_mk KX G hmg ?gCT ?gCB ?gCW ?gCP ?a2 ?l2 ?c2 ?k2 ?a3 ?l3 ?c3 ?k3 ?a4 ?l4 ?c4 ?k4 ?a6 ?l6 ?c6 ?k6 ?a19 ?l19 ?c19 ?k19 ?a20 ?l20 ?c20 ?k20 ?a21 ?l21 ?c21 ?k21 ?a22 ?l22 ?c22 ?k22 ?a23 ?l23 ?c23 ?k23 ?a24 ?l24 ?c24 ?k24 ?a28 ?l28 ?c28 ?k28 ?a29 ?l29 ?c29 ?k29 ?a30 ?l30 ?c30 ?k30 ?a36 ?l36 ?c36 ?k36 ?a37 ?l37 ?c37 ?k37 ?a41 ?l41 ?c41 ?k41 ?a42 ?l42 ?c42 ?k42 ?a43 ?l43 ?c43 ?k43 ?a45 ?l45 ?c45 ?k45 ?a53 ?l53 ?c53 ?k53 ?a54 ?l54 ?c54 ?k54 ?a55 ?l55 ?c55 ?k55 ?a56 ?l56 ?c56 ?k56 ?a57 ?l57 ?c57 ?k57 ?a58 ?l58 ?c58 ?k58 ?a60 ?l60 ?c60 ?k60 ?a61 ?l61 ?c61 ?k61 ?a62 ?l62 ?c62 ?k62 ?a63 ?l63 ?c63 ?k63 ?a64 ?l64 ?c64 ?k64 ?a65 ?l65 ?c65 ?k65 ?a66 ?l66 ?c66 ?k66 ?a67 ?l67 ?c67 ?k67 ?a68 ?l68 ?c68 ?k68 ?a69 ?l69 ?c69 ?k69 ?a70 ?l70 ?c70 ?k70 ?a71 ?l71 ?c71 ?k71 ?a72 ?l72 ?c72 ?k72 ?a73 ?l73 ?c73 ?k73 ?aT ?iT ?lT ?cT ?kT ?tT ?aB ?iB ?lB ?cB ?kB ?tB ?aW ?iW ?lW ?cW ?kW ?tW ?aE ?iE ?lE ?cE ?kE ?tE ?aP ?iP ?lP ?cP ?kP ?tP ?hn ?ht ?pgCT ?hdCT ?poCT ?saCT ?mkCT ?kcCT ?haCT ?hmCT ?icCT ?tcCT ?scCT ?pgCB ?hdCB ?poCB ?saCB ?mkCB ?kcCB ?haCB ?hmCB ?icCB ?tcCB ?scCB ?pgCW ?hdCW ?poCW ?saCW ?mkCW ?kcCW ?haCW ?hmCW ?icCW ?tcCW ?scCW ?pgCP ?hdCP ?poCP ?saCP ?mkCP ?kcCP ?haCP ?hmCP ?icCP ?tcCP ?scCP ?nCTcells ?nCBprime ?nCBwide ?nCBrows ?nCBhigh ?nCWmany ?nCWarrows ?nCPweb ?nCPprime ?nCPsizes ?nCPtables ?vMOST ?vMOST_PLACES ?vMOST_ARROWS ?vMOST_SIGNS ?vMOST_SIZE ?vMOST_CELLS ?vMOST_IN_CELL ?vMOST_NAME ?vMOST_DEEP ?vMOST_STOPS ?vPR ?lPR ?zPR ?rPR ?nfW ?zlen ?zint ?zbool ?zisinstance ?ztuple ?zall ?zenumerate ?zlist ?zrange ?zmin ?zmax ?zsorted ?zset ?zstr ?zabs ?zValueError ?zzip ?zsum
    (case gCT => k_is)
    (case gCB => k_is)
    (case gCW => k_is)
    (case gCP => k_is)
    (case a2 => k_is)
    (case l2 => k_is)
    (case c2 => k_is)
    (case k2 => k_is)
    (case a3 => k_is)
    (case l3 => k_is)
    (case c3 => k_is)
    (case k3 => k_is)
    (case a4 => k_is)
    (case l4 => k_is)
    (case c4 => k_is)
    (case k4 => k_is)
    (case a6 => k_is)
    (case l6 => k_is)
    (case c6 => k_is)
    (case k6 => k_is)
    (case a19 => k_is)
    (case l19 => k_is)
    (case c19 => k_is)
    (case k19 => k_is)
    (case a20 => k_is)
    (case l20 => k_is)
    (case c20 => k_is)
    (case k20 => k_is)
    (case a21 => k_is)
    (case l21 => k_is)
    (case c21 => k_is)
    (case k21 => k_is)
    (case a22 => k_is)
    (case l22 => k_is)
    (case c22 => k_is)
    (case k22 => k_is)
    (case a23 => k_is)
    (case l23 => k_is)
    (case c23 => k_is)
    (case k23 => k_is)
    (case a24 => k_is)
    (case l24 => k_is)
    (case c24 => k_is)
    (case k24 => k_is)
    (case a28 => k_is)
    (case l28 => k_is)
    (case c28 => k_is)
    (case k28 => k_is)
    (case a29 => k_is)
    (case l29 => k_is)
    (case c29 => k_is)
    (case k29 => k_is)
    (case a30 => k_is)
    (case l30 => k_is)
    (case c30 => k_is)
    (case k30 => k_is)
    (case a36 => k_is)
    (case l36 => k_is)
    (case c36 => k_is)
    (case k36 => k_is)
    (case a37 => k_is)
    (case l37 => k_is)
    (case c37 => k_is)
    (case k37 => k_is)
    (case a41 => k_is)
    (case l41 => k_is)
    (case c41 => k_is)
    (case k41 => k_is)
    (case a42 => k_is)
    (case l42 => k_is)
    (case c42 => k_is)
    (case k42 => k_is)
    (case a43 => k_is)
    (case l43 => k_is)
    (case c43 => k_is)
    (case k43 => k_is)
    (case a45 => k_is)
    (case l45 => k_is)
    (case c45 => k_is)
    (case k45 => k_is)
    (case a53 => k_is)
    (case l53 => k_is)
    (case c53 => k_is)
    (case k53 => k_is)
    (case a54 => k_is)
    (case l54 => k_is)
    (case c54 => k_is)
    (case k54 => k_is)
    (case a55 => k_is)
    (case l55 => k_is)
    (case c55 => k_is)
    (case k55 => k_is)
    (case a56 => k_is)
    (case l56 => k_is)
    (case c56 => k_is)
    (case k56 => k_is)
    (case a57 => k_is)
    (case l57 => k_is)
    (case c57 => k_is)
    (case k57 => k_is)
    (case a58 => k_is)
    (case l58 => k_is)
    (case c58 => k_is)
    (case k58 => k_is)
    (case a60 => k_is)
    (case l60 => k_is)
    (case c60 => k_is)
    (case k60 => k_is)
    (case a61 => k_is)
    (case l61 => k_is)
    (case c61 => k_is)
    (case k61 => k_is)
    (case a62 => k_is)
    (case l62 => k_is)
    (case c62 => k_is)
    (case k62 => k_is)
    (case a63 => k_is)
    (case l63 => k_is)
    (case c63 => k_is)
    (case k63 => k_is)
    (case a64 => k_is)
    (case l64 => k_is)
    (case c64 => k_is)
    (case k64 => k_is)
    (case a65 => k_is)
    (case l65 => k_is)
    (case c65 => k_is)
    (case k65 => k_is)
    (case a66 => k_is)
    (case l66 => k_is)
    (case c66 => k_is)
    (case k66 => k_is)
    (case a67 => k_is)
    (case l67 => k_is)
    (case c67 => k_is)
    (case k67 => k_is)
    (case a68 => k_is)
    (case l68 => k_is)
    (case c68 => k_is)
    (case k68 => k_is)
    (case a69 => k_is)
    (case l69 => k_is)
    (case c69 => k_is)
    (case k69 => k_is)
    (case a70 => k_is)
    (case l70 => k_is)
    (case c70 => k_is)
    (case k70 => k_is)
    (case a71 => k_is)
    (case l71 => k_is)
    (case c71 => k_is)
    (case k71 => k_is)
    (case a72 => k_is)
    (case l72 => k_is)
    (case c72 => k_is)
    (case k72 => k_is)
    (case a73 => k_is)
    (case l73 => k_is)
    (case c73 => k_is)
    (case k73 => k_is)
    (case aT => k_is)
    (case iT => k_is)
    (case lT => k_is)
    (case cT => k_is)
    (case kT => k_is)
    (case tT => k_is)
    (case aB => k_is)
    (case iB => k_is)
    (case lB => k_is)
    (case cB => k_is)
    (case kB => k_is)
    (case tB => k_is)
    (case aW => k_is)
    (case iW => k_is)
    (case lW => k_is)
    (case cW => k_is)
    (case kW => k_is)
    (case tW => k_is)
    (case aE => k_is)
    (case iE => k_is)
    (case lE => k_is)
    (case cE => k_is)
    (case kE => k_is)
    (case tE => k_is)
    (case aP => k_is)
    (case iP => k_is)
    (case lP => k_is)
    (case cP => k_is)
    (case kP => k_is)
    (case tP => k_is)
    (case hn => k_is)
    (case ht => k_is)
    (case pgCT => k_is)
    (case hdCT => k_is)
    (case poCT => k_is)
    (case saCT => k_is)
    (case mkCT => k_is)
    (case kcCT => k_is)
    (case haCT => k_is)
    (case hmCT => k_is)
    (case icCT => k_is)
    (case tcCT => k_is)
    (case scCT => first | rfl | k_is)
    (case pgCB => k_is)
    (case hdCB => k_is)
    (case poCB => k_is)
    (case saCB => k_is)
    (case mkCB => k_is)
    (case kcCB => k_is)
    (case haCB => k_is)
    (case hmCB => k_is)
    (case icCB => k_is)
    (case tcCB => k_is)
    (case scCB => first | rfl | k_is)
    (case pgCW => k_is)
    (case hdCW => k_is)
    (case poCW => k_is)
    (case saCW => k_is)
    (case mkCW => k_is)
    (case kcCW => k_is)
    (case haCW => k_is)
    (case hmCW => k_is)
    (case icCW => k_is)
    (case tcCW => k_is)
    (case scCW => first | rfl | k_is)
    (case pgCP => k_is)
    (case hdCP => k_is)
    (case poCP => k_is)
    (case saCP => k_is)
    (case mkCP => k_is)
    (case kcCP => k_is)
    (case haCP => k_is)
    (case hmCP => k_is)
    (case icCP => k_is)
    (case tcCP => k_is)
    (case scCP => first | rfl | k_is)
    (case nCTcells => k_is)
    (case nCBprime => k_is)
    (case nCBwide => k_is)
    (case nCBrows => k_is)
    (case nCBhigh => k_is)
    (case nCWmany => k_is)
    (case nCWarrows => k_is)
    (case nCPweb => k_is)
    (case nCPprime => k_is)
    (case nCPsizes => k_is)
    (case nCPtables => k_is)
    (case vMOST => k_is)
    (case vMOST_PLACES => k_is)
    (case vMOST_ARROWS => k_is)
    (case vMOST_SIGNS => k_is)
    (case vMOST_SIZE => k_is)
    (case vMOST_CELLS => k_is)
    (case vMOST_IN_CELL => k_is)
    (case vMOST_NAME => k_is)
    (case vMOST_DEEP => k_is)
    (case vMOST_STOPS => k_is)
    (case vPR => k_is)
    (case lPR => k_is)
    (case zPR => decide +kernel)
    (case rPR => exact .cons ⟨_, rfl⟩ (.cons ⟨_, rfl⟩ (.cons ⟨_, rfl⟩ (.cons ⟨_, rfl⟩ (.cons ⟨_, rfl⟩ (.cons ⟨_, rfl⟩ .nil))))))
    (case nfW => k_is)
    (case zlen => k_is)
    (case zint => k_is)
    (case zbool => k_is)
    (case zisinstance => k_is)
    (case ztuple => k_is)
    (case zall => k_is)
    (case zenumerate => k_is)
    (case zlist => k_is)
    (case zrange => k_is)
    (case zmin => k_is)
    (case zmax => k_is)
    (case zsorted => k_is)
    (case zset => k_is)
    (case zstr => k_is)
    (case zabs => k_is)
    (case zValueError => k_is)
    (case zzip => k_is)
    (case zsum => k_is)
