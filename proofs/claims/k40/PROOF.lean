import PyProof.Rows.All
import Wide.All
import OpenK.AllK
import Wide.FinOn
import HandS.ForMost
import HandS.Codes
import PySem.Challenge.RW_mapwebs_k40_whole_tower_bars_at_all_mome
import HandS.IsInst
import HandS.OwnEq
import KE.GoesMore
import HandS.Iter
import HandS.ForExc
import HandS.ExcInit
import HandS.ExcField
import HandS.ExcValue
import KE.KExcIs
import HandS.TupAny
import HandS.Zip
import HandS.Style
import HandS.TryMany
import PyProof.P3In
import HandS.Deep
import HandS.Walk
import HandS.DictComp
import HandS.More
import HandS.Strs
import HandS.Conv
set_option linter.all false
/-! Rows over a prime: what others make of them; rows with places of their own. -/
namespace M40
abbrev Vc := Nat → Int
theorem dml {p b : Int} (c : Int) (h : p ∣ b) : p ∣ c * b := Int.dvd_trans h (Int.dvd_mul_left c b)
theorem dmr {p b : Int} (c : Int) (h : p ∣ c) : p ∣ c * b := Int.dvd_trans h (Int.dvd_mul_right c b)
/-- alike mod p below N -/
def Al (p : Int) (N : Nat) (v w : Vc) : Prop := ∀ i, i < N → p ∣ v i - w i
theorem Al.refl {p : Int} {N : Nat} (v : Vc) : Al p N v v := fun i _ => by rw [Int.sub_self]; exact Int.dvd_zero p
theorem Al.symm {p : Int} {N : Nat} {v w : Vc} (h : Al p N v w) : Al p N w v := fun i hi => by
  have := Int.dvd_neg.mpr (h i hi)
  rwa [Int.neg_sub] at this
theorem Al.trans {p : Int} {N : Nat} {u v w : Vc} (h : Al p N u v) (g : Al p N v w) : Al p N u w := fun i hi => by
  have := Int.dvd_add (h i hi) (g i hi)
  rwa [show u i - v i + (v i - w i) = u i - w i by omega] at this
def zeroV : Vc := fun _ => 0
/-- what L makes, mod p -/
inductive Sp (p : Int) (N : Nat) (L : List Vc) : Vc → Prop
  | zero (v : Vc) : Al p N v zeroV → Sp p N L v
  | add (k : Int) (u w v : Vc) : u ∈ L → Sp p N L w → Al p N v (fun i => w i + k * u i) → Sp p N L v
section
variable {p : Int} {N : Nat} {L : List Vc}
theorem Sp.al {v w : Vc} (h : Sp p N L v) (a : Al p N w v) : Sp p N L w := by
  cases h with
  | zero _ z => exact .zero _ (a.trans z)
  | add k u x _ hu hx z => exact .add k u x _ hu hx (a.trans z)
theorem Sp.mem {u : Vc} (h : u ∈ L) : Sp p N L u := .add 1 u zeroV u h (.zero _ (Al.refl _)) fun i _ => by
  show p ∣ u i - (0 + 1 * u i)
  rw [show u i - (0 + 1 * u i) = 0 by omega]
  exact Int.dvd_zero p
theorem Sp.plus {v w : Vc} (h : Sp p N L v) (g : Sp p N L w) : Sp p N L (fun i => v i + w i) := by
  induction h with
  | zero v z =>
    exact g.al fun i hi => by
      have := z i hi
      rwa [show v i + w i - w i = v i - zeroV i by show _ = v i - 0; omega]
  | add k u x v hu hx z ih =>
    exact .add k u _ _ hu ih fun i hi => by
      have := z i hi
      rwa [show v i + w i - (x i + w i + k * u i) = v i - (x i + k * u i) by omega]
theorem Sp.times {v : Vc} (c : Int) (h : Sp p N L v) : Sp p N L (fun i => c * v i) := by
  induction h with
  | zero v z =>
    exact .zero _ fun i hi => by
      have := dml c (z i hi)
      rwa [show c * v i - zeroV i = c * (v i - zeroV i) by show c * v i - 0 = c * (v i - 0); rw [Int.sub_zero, Int.sub_zero]]
  | add k u x v hu hx z ih =>
    exact .add (c * k) u _ _ hu ih fun i hi => by
      have := dml c (z i hi)
      rwa [show c * v i - (c * x i + c * k * u i) = c * (v i - (x i + k * u i)) by grind]
theorem Sp.minus {v w : Vc} (h : Sp p N L v) (g : Sp p N L w) : Sp p N L (fun i => v i - w i) := by
  have := h.plus (g.times (-1))
  exact this.al fun i _ => by
    rw [show v i - w i - (v i + -1 * w i) = 0 by omega]
    exact Int.dvd_zero p
theorem Sp.of {L' : List Vc} {v : Vc} (h : Sp p N L v) (g : ∀ u ∈ L, Sp p N L' u) : Sp p N L' v := by
  induction h with
  | zero v z => exact .zero _ z
  | add k u x v hu hx z ih => exact (ih.plus ((g u hu).times k)).al z
theorem Sp.mono {L' : List Vc} {v : Vc} (h : Sp p N L v) (g : ∀ u ∈ L, u ∈ L') : Sp p N L' v := h.of fun u hu => .mem (g u hu)
/-- numbers that go along with sums, mod p -/
structure Lin (p : Int) (N : Nat) (f : Vc → Int) : Prop where
  zero : ∀ v, Al p N v zeroV → p ∣ f v
  add : ∀ k u w v, Al p N v (fun i => w i + k * u i) → p ∣ f v - (f w + k * f u)
theorem Lin.at {i : Nat} (hi : i < N) : Lin p N (fun v => v i) := ⟨fun v z => by have := z i hi; rwa [show v i - zeroV i = v i by show v i - 0 = _; omega] at this, fun k u w v z => z i hi⟩
theorem Sp.none {f : Vc → Int} (l : Lin p N f) {v : Vc} (h : Sp p N L v) (g : ∀ u ∈ L, p ∣ f u) : p ∣ f v := by
  induction h with
  | zero v z => exact l.zero v z
  | add k u x v hu hx z ih =>
    have h1 := l.add k u x v z
    have h2 := Int.dvd_add ih (dml k (g u hu))
    have := Int.dvd_add h1 h2
    rwa [show f v - (f x + k * f u) + (f x + k * f u) = f v by omega] at this
/-- rows changed all alike, mod p -/
structure LinV (p : Int) (N N' : Nat) (T : Vc → Vc) : Prop where
  zero : ∀ v, Al p N v zeroV → Al p N' (T v) zeroV
  add : ∀ k u w v, Al p N v (fun i => w i + k * u i) → Al p N' (T v) (fun i => T w i + k * T u i)
theorem Sp.map {N' : Nat} {T : Vc → Vc} (l : LinV p N N' T) {L' : List Vc} {v : Vc} (h : Sp p N L v) (g : ∀ u ∈ L, Sp p N' L' (T u)) : Sp p N' L' (T v) := by
  induction h with
  | zero v z => exact .zero _ (l.zero v z)
  | add k u x v hu hx z ih => exact (ih.plus ((g u hu).times k)).al (l.add k u x v z)
theorem Sp.cons {u v : Vc} (h : Sp p N (u :: L) v) : ∃ (c : Int) (w : Vc), Sp p N L w ∧ Al p N v (fun i => w i + c * u i) := by
  induction h with
  | zero v z =>
    exact ⟨0, zeroV, .zero _ (Al.refl _), fun i hi => by
      have := z i hi
      rwa [show v i - (zeroV i + 0 * u i) = v i - zeroV i by omega]⟩
  | add k x y v hx hy z ih =>
    obtain ⟨c, w, hw, a⟩ := ih
    rcases List.mem_cons.mp hx with rfl | hx
    · refine ⟨c + k, w, hw, fun i hi => ?_⟩
      have := Int.dvd_add (z i hi) (a i hi)
      rwa [show v i - (y i + k * x i) + (y i - (w i + c * x i)) = v i - (w i + (c + k) * x i) by grind] at this
    · refine ⟨c, fun i => w i + k * x i, .add k x w _ hx hw (Al.refl _), fun i hi => ?_⟩
      have := Int.dvd_add (z i hi) (a i hi)
      rwa [show v i - (y i + k * x i) + (y i - (w i + c * u i)) = v i - (w i + k * x i + c * u i) by omega] at this
/-- rows with places of their own: a later one is 0 at an earlier one's place -/
inductive Tri (p : Int) (N : Nat) : List (Nat × Vc) → Prop
  | nil : Tri p N []
  | cons (k : Nat × Vc) (ks : List (Nat × Vc)) : k.1 < N → p ∣ k.2 k.1 - 1 → (∀ l ∈ ks, p ∣ l.2 k.1) → Tri p N ks → Tri p N (k :: ks)
theorem Tri.lt {ks : List (Nat × Vc)} (t : Tri p N ks) : ∀ k ∈ ks, k.1 < N ∧ p ∣ k.2 k.1 - 1 := by
  induction t with
  | nil => intro k h; cases h
  | cons k ks h1 h2 _ _ ih =>
    intro l hl
    rcases List.mem_cons.mp hl with rfl | hl
    · exact ⟨h1, h2⟩
    · exact ih l hl
theorem Tri.snoc {ks : List (Nat × Vc)} (t : Tri p N ks) {k : Nat × Vc} (h1 : k.1 < N) (h2 : p ∣ k.2 k.1 - 1) (h3 : ∀ l ∈ ks, p ∣ k.2 l.1) : Tri p N (ks ++ [k]) := by
  induction t with
  | nil => exact .cons k [] h1 h2 (fun l h => by cases h) .nil
  | cons l ks a b c _ ih =>
    refine .cons l _ a b (fun x hx => ?_) (ih fun y hy => h3 y (List.mem_cons_of_mem _ hy))
    rcases List.mem_append.mp hx with z | z
    · exact c x z
    · rw [List.mem_singleton.mp z]
      exact h3 l List.mem_cons_self
/-- at all places 0: nothing -/
theorem Tri.nought {ks : List (Nat × Vc)} (t : Tri p N ks) : ∀ {z : Vc}, Sp p N (ks.map Prod.snd) z → (∀ k ∈ ks, p ∣ z k.1) → Al p N z zeroV := by
  induction t with
  | nil =>
    intro z h _
    cases h with
    | zero _ a => exact a
    | add k u x _ hu _ _ => cases hu
  | cons k ks h1 h2 h3 t ih =>
    intro z h hz
    obtain ⟨c, w, hw, a⟩ := h.cons
    have wk : p ∣ w k.1 := hw.none (Lin.at h1) fun u hu => by
      obtain ⟨l, hl, rfl⟩ := List.mem_map.mp hu
      exact h3 l hl
    have ck : p ∣ c := by
      have e1 := a k.1 h1
      have e2 := hz k List.mem_cons_self
      have e3 := dml c h2
      have := Int.dvd_sub (Int.dvd_sub (Int.dvd_sub e2 e1) wk) e3
      rwa [show z k.1 - (z k.1 - (w k.1 + c * k.2 k.1)) - w k.1 - c * (k.2 k.1 - 1) = c by grind] at this
    have az : Al p N z w := fun i hi => by
      have := Int.dvd_add (a i hi) (dmr (b := k.2 i) c ck)
      rwa [show z i - (w i + c * k.2 i) + c * k.2 i = z i - w i by omega] at this
    refine az.trans (ih hw fun l hl => ?_)
    have h1' := (t.lt l hl).1
    have e := az.symm l.1 h1'
    have := Int.dvd_add e (hz l (List.mem_cons_of_mem _ hl))
    rwa [show w l.1 - z l.1 + z l.1 = w l.1 by omega] at this
/-- rows with places of their own: each is 0 ahead of its place, and at all others' -/
structure Red (p : Int) (N : Nat) (ks : List (Nat × Vc)) : Prop where
  nd : (ks.map Prod.fst).Nodup
  lt : ∀ k ∈ ks, k.1 < N
  one : ∀ k ∈ ks, p ∣ k.2 k.1 - 1
  off : ∀ k ∈ ks, ∀ l ∈ ks, k.1 ≠ l.1 → p ∣ k.2 l.1
  pre : ∀ k ∈ ks, ∀ i, i < k.1 → p ∣ k.2 i
theorem Red.tail {k : Nat × Vc} {ks : List (Nat × Vc)} (r : Red p N (k :: ks)) : Red p N ks :=
  ⟨(List.nodup_cons.mp r.nd).2, fun l h => r.lt l (List.mem_cons_of_mem _ h), fun l h => r.one l (List.mem_cons_of_mem _ h), fun l h m g => r.off l (List.mem_cons_of_mem _ h) m (List.mem_cons_of_mem _ g), fun l h => r.pre l (List.mem_cons_of_mem _ h)⟩
theorem Red.tri {ks : List (Nat × Vc)} (r : Red p N ks) : Tri p N ks := by
  induction ks with
  | nil => exact .nil
  | cons k ks ih => exact .cons k ks (r.lt k List.mem_cons_self) (r.one k List.mem_cons_self) (fun l hl => r.off l (List.mem_cons_of_mem _ hl) k List.mem_cons_self fun e => (List.nodup_cons.mp r.nd).1 (by rw [← e]; exact List.mem_map_of_mem hl)) (ih r.tail)
/-- what is not 0 begins at one of the places -/
theorem Red.first {ks : List (Nat × Vc)} (r : Red p N ks) : ∀ {z : Vc}, Sp p N (ks.map Prod.snd) z → ∀ {a : Nat}, a < N → (∀ i, i < a → p ∣ z i) → ¬ p ∣ z a → ∃ k ∈ ks, k.1 = a := by
  induction ks with
  | nil =>
    intro z h a ha _ na
    cases h with
    | zero _ e =>
      have := e a ha
      rw [show z a - zeroV a = z a by show z a - 0 = _; omega] at this
      exact absurd this na
    | add k u x _ hu _ _ => cases hu
  | cons k ks ih =>
    intro z h a ha pre na
    obtain ⟨c, w, hw, e⟩ := h.cons
    have kN := r.lt k List.mem_cons_self
    by_cases q : k.1 = a
    · exact ⟨k, List.mem_cons_self, q⟩
    have wk : p ∣ w k.1 := hw.none (Lin.at kN) fun u hu => by
      obtain ⟨l, hl, rfl⟩ := List.mem_map.mp hu
      exact r.off l (List.mem_cons_of_mem _ hl) k List.mem_cons_self fun e => (List.nodup_cons.mp r.nd).1 (by rw [← e]; exact List.mem_map_of_mem hl)
    -- z and w are alike up to a
    have al : ∀ i, i ≤ a → p ∣ z i - w i := fun i hi => by
      have iN : i < N := Nat.lt_of_le_of_lt hi ha
      have e1 := e i iN
      have e2 : p ∣ c * k.2 i := by
        by_cases lt : k.1 < a
        · have hz := pre k.1 lt
          have e3 := e k.1 kN
          have e4 := dml c (r.one k List.mem_cons_self)
          have := Int.dvd_sub (Int.dvd_sub (Int.dvd_sub hz e3) wk) e4
          rw [show z k.1 - (z k.1 - (w k.1 + c * k.2 k.1)) - w k.1 - c * (k.2 k.1 - 1) = c by grind] at this
          exact dmr c this
        · exact dml c (r.pre k List.mem_cons_self i (by omega))
      have := Int.dvd_add e1 e2
      rwa [show z i - (w i + c * k.2 i) + c * k.2 i = z i - w i by omega] at this
    obtain ⟨l, hl, el⟩ := ih r.tail hw ha (fun i hi => by
      have := Int.dvd_sub (pre i hi) (al i (by omega))
      rwa [show z i - (z i - w i) = w i by omega] at this) (fun h => na (by
      have := Int.dvd_add (al a (Nat.le_refl _)) h
      rwa [show z a - w a + w a = z a by omega] at this))
    exact ⟨l, List.mem_cons_of_mem _ hl, el⟩
end
end M40

set_option linter.all false
/-! A tower's rims over a prime: which cells close a ring, which one each takes away. -/
namespace M40
def sumN (N : Nat) (f : Nat → Int) : Int := ((List.range N).map f).sum
theorem sumN_succ (N : Nat) (f : Nat → Int) : sumN (N + 1) f = sumN N f + f N := by
  unfold sumN
  rw [List.range_succ, List.map_append, List.sum_append]
  simp
theorem sumN_dvd {p : Int} {f : Nat → Int} : ∀ N, (∀ i, i < N → p ∣ f i) → p ∣ sumN N f
  | 0, _ => Int.dvd_zero p
  | N + 1, h => by
    rw [sumN_succ]
    exact Int.dvd_add (sumN_dvd N fun i hi => h i (by omega)) (h N (by omega))
theorem sumN_al {p : Int} {f g : Nat → Int} : ∀ N, (∀ i, i < N → p ∣ f i - g i) → p ∣ sumN N f - sumN N g
  | 0, _ => Int.dvd_zero p
  | N + 1, h => by
    rw [sumN_succ, sumN_succ]
    have := Int.dvd_add (sumN_al N fun i hi => h i (by omega)) (h N (by omega))
    rwa [show sumN N f - sumN N g + (f N - g N) = sumN N f + f N - (sumN N g + g N) by omega] at this
theorem sumN_lin (c : Int) (f g : Nat → Int) : ∀ N, sumN N (fun i => f i + c * g i) = sumN N f + c * sumN N g
  | 0 => by simp [sumN]
  | N + 1 => by
    rw [sumN_succ, sumN_succ, sumN_succ, sumN_lin c f g N]
    grind
/-- what the cells' rims are, below N: sizes, faces ahead, the rim of a rim is nothing -/
structure Rims (p : Int) (N : Nat) (size : Nat → Nat) (D : Nat → Vc) : Prop where
  inv : ∀ x : Int, ¬ p ∣ x → ∃ k, p ∣ x * k - 1
  face : ∀ j i, j < N → ¬ p ∣ D j i → i < j ∧ size j = size i + 1
  two : ∀ j, j < N → ∀ t, p ∣ sumN N fun i => D j i * D i t
def cols (D : Nat → Vc) (j : Nat) : List Vc := (List.range j).map D
def Born (p : Int) (N : Nat) (D : Nat → Vc) (j : Nat) : Prop := Sp p N (cols D j) (D j)
/-- the cell at j takes away what is born at b -/
def Low (p : Int) (N : Nat) (D : Nat → Vc) (j b : Nat) : Prop := b < N ∧ (∃ s, Sp p N (cols D j) s ∧ ¬ p ∣ D j b - s b ∧ ∀ i, b < i → i < N → p ∣ D j i - s i) ∧ ∀ s, Sp p N (cols D j) s → ∃ i, b ≤ i ∧ i < N ∧ ¬ p ∣ D j i - s i
section
variable {p : Int} {N : Nat} {size : Nat → Nat} {D : Nat → Vc}
theorem mem_cols {j i : Nat} (h : i < j) : D i ∈ cols D j := List.mem_map_of_mem (List.mem_range.mpr h)
theorem cols_mono {i j : Nat} (h : i ≤ j) : ∀ u ∈ cols D i, u ∈ cols D j := fun u hu => by
  obtain ⟨a, ha, rfl⟩ := List.mem_map.mp hu
  exact mem_cols (Nat.lt_of_lt_of_le (List.mem_range.mp ha) h)
theorem Low.uniq {j b b' : Nat} (h : Low p N D j b) (h' : Low p N D j b') : b = b' := by
  obtain ⟨n1, ⟨s, h1, h2, h3⟩, h4⟩ := h
  obtain ⟨n1', ⟨s', h1', h2', h3'⟩, h4'⟩ := h'
  obtain ⟨i, i1, i2, i3⟩ := h4' s h1
  obtain ⟨i', i1', i2', i3'⟩ := h4 s' h1'
  have a : ¬ b < i := fun z => i3 (h3 i z i2)
  have a' : ¬ b' < i' := fun z => i3' (h3' i' z i2')
  omega
theorem Low.neg {j b : Nat} (h : Low p N D j b) : ¬ Born p N D j := fun z => by
  obtain ⟨i, _, hi, n⟩ := h.2.2 _ z
  exact n (by rw [Int.sub_self]; exact Int.dvd_zero p)
/-- sums along the rims, mod p -/
theorem lin_two (t : Nat) : Lin p N fun v => sumN N fun i => v i * D i t := ⟨fun v z => sumN_dvd N fun i hi => by
  have := z i hi
  rw [show v i - zeroV i = v i by show v i - 0 = _; omega] at this
  exact dmr (v i) this, fun k u w v z => by
  have e : sumN N (fun i => w i * D i t) + k * sumN N (fun i => u i * D i t) = sumN N fun i => (w i + k * u i) * D i t := by
    rw [← sumN_lin]
    congr 1
    funext i
    grind
  rw [e]
  refine sumN_al N fun i hi => ?_
  have := dmr (b := D i t) _ (z i hi)
  rwa [show (v i - (w i + k * u i)) * D i t = v i * D i t - (w i + k * u i) * D i t by grind] at this⟩
variable (R : Rims p N size D)
include R
theorem Rims.two_sp {j : Nat} (hj : j ≤ N) {s : Vc} (h : Sp p N (cols D j) s) (t : Nat) : p ∣ sumN N fun i => s i * D i t :=
  h.none (lin_two t) fun u hu => by
    obtain ⟨a, ha, rfl⟩ := List.mem_map.mp hu
    exact R.two a (by have := List.mem_range.mp ha; omega) t
omit R in
/-- keeping the places of one size alone -/
def at_ (size : Nat → Nat) (d : Nat) (v : Vc) : Vc := fun i => if size i = d then v i else 0
omit R in
theorem lin_at (d : Nat) : LinV p N N (at_ size d) := ⟨fun v z i hi => by
  unfold at_
  split
  · exact z i hi
  · exact Int.dvd_zero p, fun k u w v z i hi => by
  unfold at_
  dsimp only
  split
  · exact z i hi
  · rw [show (0 : Int) - (0 + k * 0) = 0 by omega]
    exact Int.dvd_zero p⟩
omit R in
def colsS (size : Nat → Nat) (D : Nat → Vc) (d j : Nat) : List Vc := ((List.range j).filter fun i => decide (size i = d)).map D
omit R in
theorem colsS_sub (d j : Nat) : ∀ u ∈ colsS size D d j, u ∈ cols D j := fun u hu => by
  obtain ⟨a, ha, rfl⟩ := List.mem_map.mp hu
  exact List.mem_map_of_mem (List.mem_filter.mp ha).1
theorem Rims.at_rim {j d : Nat} (hj : j < N) : Al p N (at_ size d (D j)) (if size j = d + 1 then D j else zeroV) := fun i hi => by
  unfold at_
  by_cases z : p ∣ D j i
  · have e : p ∣ (if size j = d + 1 then D j else zeroV) i := by
      split
      · exact z
      · exact Int.dvd_zero p
    refine Int.dvd_sub ?_ e
    split
    · exact z
    · exact Int.dvd_zero p
  · have := (R.face j i hj z).2
    by_cases e : size i = d
    · rw [if_pos e, if_pos (by omega), Int.sub_self]
      exact Int.dvd_zero p
    · rw [if_neg e, if_neg (by omega)]
      exact Int.dvd_zero p
/-- rims of one size are made of rims of that size -/
theorem Rims.split {j d : Nat} (hj : j ≤ N) {v : Vc} (h : Sp p N (cols D j) v) : Sp p N (colsS size D (d + 1) j) (at_ size d v) :=
  h.map (lin_at d) fun u hu => by
    obtain ⟨a, ha, rfl⟩ := List.mem_map.mp hu
    have ha := List.mem_range.mp ha
    refine Sp.al ?_ (R.at_rim (d := d) (by omega))
    split
    · rename_i e
      exact .mem (List.mem_map_of_mem (List.mem_filter.mpr ⟨List.mem_range.mpr ha, decide_eq_true e⟩))
    · exact .zero _ (Al.refl _)
theorem Rims.born_size {j d : Nat} (hj : j < N) (e : size j = d + 1) : Born p N D j ↔ Sp p N (colsS size D (d + 1) j) (D j) := by
  constructor
  · intro h
    refine (R.split (d := d) (by omega) h).al ?_
    have := R.at_rim (d := d) hj
    rw [if_pos e] at this
    exact this.symm
  · exact fun h => h.mono (colsS_sub _ _)
/-- what is taken away: behind none, one size less, born -/
theorem Rims.low {j b : Nat} (hj : j < N) (h : Low p N D j b) : b < j ∧ size j = size b + 1 ∧ Born p N D b := by
  obtain ⟨hb, ⟨s, h1, h2, h3⟩, h4⟩ := h
  -- the parts of one size alone
  have hsz : size j = size b + 1 := Classical.byContradiction fun no => by
    have h5 : Sp p N (cols D j) fun i => s i - at_ size (size b) s i := h1.minus ((R.split (d := size b) (by omega) h1).mono (colsS_sub _ _))
    obtain ⟨i, i1, i2, i3⟩ := h4 _ h5
    by_cases q : size i = size b
    · have a : p ∣ D j i := Classical.byContradiction fun z => no (by rw [(R.face j i hj z).2, q])
      refine i3 ?_
      unfold at_
      rw [if_pos q, Int.sub_self, Int.sub_zero]
      exact a
    · refine i3 ?_
      unfold at_
      rw [if_neg q, Int.sub_zero]
      have : b ≠ i := fun e => q (by rw [e])
      exact h3 i (by omega) i2
  have hbj : b < j := Classical.byContradiction fun no => h2 (by
    have a : p ∣ D j b := Classical.byContradiction fun z => no (R.face j b hj z).1
    have c : p ∣ s b := h1.none (Lin.at hb) fun u hu => by
      obtain ⟨a, ha, rfl⟩ := List.mem_map.mp hu
      have ha := List.mem_range.mp ha
      exact Classical.byContradiction fun z => no (Nat.lt_trans (R.face a b (by omega) z).1 ha)
    exact Int.dvd_sub a c)
  refine ⟨hbj, hsz, ?_⟩
  obtain ⟨k, hk⟩ := R.inv _ h2
  -- the sum along the rims of the ring
  have two : ∀ t, p ∣ sumN N fun i => (D j i - s i) * D i t := fun t => by
    have := Int.dvd_sub (R.two j hj t) (R.two_sp (by omega) h1 t)
    have e : (sumN N fun i => D j i * D i t) - (sumN N fun i => s i * D i t) = sumN N fun i => (D j i - s i) * D i t := by
      have := sumN_lin (-1) (fun i => D j i * D i t) (fun i => s i * D i t) N
      rw [show (sumN N fun i => D j i * D i t) - (sumN N fun i => s i * D i t) = (sumN N fun i => D j i * D i t) + -1 * (sumN N fun i => s i * D i t) by omega, ← this]
      congr 1
      funext i
      grind
    rwa [e] at this
  -- what the cells ahead of b make
  have part : ∀ n, n ≤ b → Sp p N (cols D b) fun t => sumN n fun i => (D j i - s i) * D i t := fun n => by
    induction n with
    | zero => exact fun _ => .zero _ (Al.refl _)
    | succ n ih =>
      intro hn
      refine .add (D j n - s n) (D n) _ _ (mem_cols (by omega)) (ih (by omega)) fun i hi => ?_
      rw [sumN_succ, Int.sub_self]
      exact Int.dvd_zero p
  have rest : ∀ n, b < n → n ≤ N → ∀ t, p ∣ (sumN n fun i => (D j i - s i) * D i t) - ((sumN b fun i => (D j i - s i) * D i t) + (D j b - s b) * D b t) := fun n => by
    induction n with
    | zero => intro h; omega
    | succ n ih =>
      intro hn hN t
      rw [sumN_succ]
      by_cases e : b = n
      · subst e
        rw [Int.sub_self]
        exact Int.dvd_zero p
      · have := Int.dvd_add (ih (by omega) (by omega) t) (dmr (b := D n t) _ (h3 n (by omega) (by omega)))
        rwa [show ∀ a c e : Int, a - c + e = a + e - c by intros; omega] at this
  refine ((part b (Nat.le_refl _)).times (-k)).al fun t ht => ?_
  have a1 := two t
  have a2 := rest N hb (Nat.le_refl _) t
  have a3 := Int.dvd_sub a1 a2
  have a4 := dml k a3
  have a5 := dmr (b := D b t) _ hk
  have := Int.dvd_sub a4 a5
  show p ∣ D b t - -k * (sumN b fun i => (D j i - s i) * D i t)
  generalize (sumN N fun i => (D j i - s i) * D i t) = X at this
  generalize (sumN b fun i => (D j i - s i) * D i t) = Y at this ⊢
  rwa [show k * (X - (X - (Y + (D j b - s b) * D b t))) - ((D j b - s b) * k - 1) * D b t = D b t - -k * Y by grind] at this
/-- each is taken away once -/
theorem Rims.once {j j' b : Nat} (hj' : j' < N) (lt : j < j') (h : Low p N D j b) (h' : Low p N D j' b) : False := by
  obtain ⟨hb, ⟨s, h1, h2, h3⟩, _⟩ := h
  obtain ⟨_, ⟨s', h1', h2', h3'⟩, h4'⟩ := h'
  obtain ⟨k, hk⟩ := R.inv _ h2
  have g : Sp p N (cols D j') fun i => s' i + (D j' b - s' b) * k * (D j i - s i) := h1'.plus (Sp.times _ ((Sp.mem (mem_cols lt)).minus (h1.mono (cols_mono (Nat.le_of_lt lt)))))
  obtain ⟨i, i1, i2, i3⟩ := h4' _ g
  refine i3 ?_
  by_cases e : b = i
  · subst e
    have := dml (-(D j' b - s' b)) hk
    rwa [show -(D j' b - s' b) * ((D j b - s b) * k - 1) = D j' b - (s' b + (D j' b - s' b) * k * (D j b - s b)) by grind] at this
  · have := Int.dvd_sub (h3' i (by omega) i2) (dml ((D j' b - s' b) * k) (h3 i (by omega) i2))
    rwa [show D j' i - s' i - (D j' b - s' b) * k * (D j i - s i) = D j' i - (s' i + (D j' b - s' b) * k * (D j i - s i)) by grind] at this
omit R in
/-- what stands at m and behind -/
def beh (m : Nat) (v : Vc) : Vc := fun i => if m ≤ i then v i else 0
omit R in
theorem lin_beh (m : Nat) : LinV p N N (beh m) := ⟨fun v z i hi => by
  unfold beh
  split
  · exact z i hi
  · exact Int.dvd_zero p, fun k u w v z i hi => by
  unfold beh
  dsimp only
  split
  · exact z i hi
  · rw [show (0 : Int) - (0 + k * 0) = 0 by omega]
    exact Int.dvd_zero p⟩
/-- a rim behind m is made of those ahead: if it is itself, or if it takes away what was born ahead of m -/
theorem Rims.late {j d m : Nat} (hj : j < N) (e : size j = d + 1) (cas : Born p N D j ∨ ∃ b, Low p N D j b) : Sp p N ((colsS size D (d + 1) j).map (beh m)) (beh m (D j)) ↔ Born p N D j ∨ ∃ b, b < m ∧ Low p N D j b := by
  have push : ∀ {v : Vc}, Sp p N (colsS size D (d + 1) j) v → Sp p N ((colsS size D (d + 1) j).map (beh m)) (beh m v) := fun h => h.map (lin_beh m) fun u hu => .mem (List.mem_map_of_mem hu)
  have own : Al p N (D j) (at_ size d (D j)) := by
    have := R.at_rim (d := d) hj
    rw [if_pos e] at this
    exact this.symm
  constructor
  · intro h
    rcases cas with c | ⟨b, lo⟩
    · exact .inl c
    refine .inr ⟨b, Nat.lt_of_not_le fun mb => ?_, lo⟩
    -- a combination that is alike behind m
    have lift : ∀ {v : Vc}, Sp p N ((colsS size D (d + 1) j).map (beh m)) v → ∃ w, Sp p N (cols D j) w ∧ Al p N v (beh m w) := by
      intro v hv
      induction hv with
      | zero v z => exact ⟨zeroV, .zero _ (Al.refl _), z.trans fun i hi => by
          unfold beh zeroV
          split <;> exact Int.dvd_zero p⟩
      | add k u x v hu hx z ih =>
        obtain ⟨w, hw, a⟩ := ih
        obtain ⟨u', hu', rfl⟩ := List.mem_map.mp hu
        refine ⟨fun i => w i + k * u' i, .add k u' w _ (colsS_sub _ _ _ hu') hw (Al.refl _), fun i hi => ?_⟩
        have := Int.dvd_add (z i hi) (a i hi)
        have e : v i - (x i + k * beh m u' i) + (x i - beh m w i) = v i - beh m (fun i => w i + k * u' i) i := by
          unfold beh
          dsimp only
          split <;> omega
        rwa [e] at this
    obtain ⟨w, hw, a⟩ := lift h
    obtain ⟨i, i1, i2, i3⟩ := lo.2.2 w hw
    have := a i i2
    unfold beh at this
    rw [if_pos (by omega), if_pos (by omega)] at this
    exact i3 this
  · rintro (h | ⟨b, hb, hB, ⟨s, h1, h2, h3⟩, _⟩)
    · exact push ((R.born_size hj e).mp h)
    · refine (push (R.split (d := d) (by omega) h1)).al fun i hi => ?_
      unfold beh
      split
      · have a1 := h3 i (by omega) hi
        have a2 := own i hi
        have a3 := lin_at (p := p) (N := N) (size := size) d
        unfold at_ at a2 ⊢
        split
        · exact a1
        · rename_i q
          rw [if_neg q] at a2
          exact a2
      · rw [Int.sub_self]
        exact Int.dvd_zero p
end
end M40

set_option linter.all false
/-! Rows kept by their first places, cell by cell. -/
namespace M40
section
variable {p : Int} {N : Nat}
/-- what is kept of the first j rims -/
structure Keeps (p : Int) (N : Nat) (D : Nat → Vc) (j : Nat) (ks : List (Nat × Vc)) : Prop where
  red : Red p N ks
  fro : ∀ k ∈ ks, Sp p N (cols D j) k.2
  to : ∀ u ∈ cols D j, Sp p N (ks.map Prod.snd) u
theorem Keeps.nil {D : Nat → Vc} : Keeps p N D 0 [] := ⟨⟨List.nodup_nil, (fun k h => nomatch h), (fun k h => nomatch h), (fun k h => nomatch h), (fun k h => nomatch h)⟩, (fun k h => nomatch h), (fun u h => nomatch h)⟩
theorem Keeps.up {D : Nat → Vc} {j : Nat} {ks : List (Nat × Vc)} (k : Keeps p N D j ks) {v : Vc} (h : Sp p N (cols D j) v) : Sp p N (ks.map Prod.snd) v := h.of k.to
theorem Keeps.down {D : Nat → Vc} {j : Nat} {ks : List (Nat × Vc)} (k : Keeps p N D j ks) {v : Vc} (h : Sp p N (ks.map Prod.snd) v) : Sp p N (cols D j) v := h.of fun u hu => by
  obtain ⟨l, hl, rfl⟩ := List.mem_map.mp hu
  exact k.fro l hl
theorem cols_succ (D : Nat → Vc) (j : Nat) : cols D (j + 1) = cols D j ++ [D j] := by
  unfold cols
  rw [List.range_succ, List.map_append]
  rfl
/-- what is left of a rim, cleared -/
structure Rest (p : Int) (N : Nat) (ks : List (Nat × Vc)) (v z : Vc) : Prop where
  made : ∃ s, Sp p N (ks.map Prod.snd) s ∧ Al p N z (fun i => v i - s i)
  off : ∀ k ∈ ks, p ∣ z k.1
theorem Keeps.same {D : Nat → Vc} {j : Nat} {ks : List (Nat × Vc)} (k : Keeps p N D j ks) {z : Vc} (r : Rest p N ks (D j) z) (nil : Al p N z zeroV) : Born p N D j ∧ Keeps p N D (j + 1) ks := by
  obtain ⟨s, h1, h2⟩ := r.made
  have b : Sp p N (ks.map Prod.snd) (D j) := h1.al fun i hi => by
    have := Int.dvd_sub (nil i hi) (h2 i hi)
    rwa [show z i - zeroV i - (z i - (D j i - s i)) = D j i - s i by show z i - 0 - _ = _; omega] at this
  refine ⟨k.down b, k.red, fun l hl => (k.fro l hl).mono (cols_mono (Nat.le_succ j)), fun u hu => ?_⟩
  rw [cols_succ] at hu
  rcases List.mem_append.mp hu with h | h
  · exact k.to u h
  · rw [List.mem_singleton.mp h]
    exact b
/-- the kept ones, the new one taken off -/
def taken (ks : List (Nat × Vc)) (a : Nat) (y : Vc) : List (Nat × Vc) := (ks.map fun k => (k.1, fun i => k.2 i - k.2 a * y i)) ++ [(a, y)]
theorem Keeps.more {D : Nat → Vc} {j : Nat} {ks : List (Nat × Vc)} (k : Keeps p N D j ks) {z y : Vc} (r : Rest p N ks (D j) z) {a : Nat} (ha : a < N) (pre : ∀ i, i < a → p ∣ z i) (na : ¬ p ∣ z a) {c : Int} (cz : p ∣ z a * c - 1) (ey : Al p N y fun i => z i * c)
    {ks' : List (Nat × Vc)} (e' : ks'.map Prod.fst = ks.map Prod.fst ++ [a]) (al : ∀ l ∈ ks', l = (a, y) ∨ ∃ k ∈ ks, l.1 = k.1 ∧ Al p N l.2 fun i => k.2 i - k.2 a * y i) (mem : ∀ k ∈ ks, ∃ l ∈ ks', l.1 = k.1 ∧ Al p N l.2 fun i => k.2 i - k.2 a * y i) (my : (a, y) ∈ ks') : Keeps p N D (j + 1) ks' := by
  obtain ⟨s, h1, h2⟩ := r.made
  have anew : ∀ l ∈ ks, l.1 ≠ a := fun l hl e => na (by rw [← e]; exact r.off l hl)
  have yv : ∀ i, i < N → p ∣ z i → p ∣ y i := fun i hi h => by
    have := Int.dvd_add (ey i hi) (dmr (b := c) _ h)
    rwa [show y i - z i * c + z i * c = y i by omega] at this
  have ya : p ∣ y a - 1 := by
    have := Int.dvd_add (ey a ha) cz
    rwa [show y a - z a * c + (z a * c - 1) = y a - 1 by omega] at this
  have ysp : Sp p N (cols D (j + 1)) y := by
    have a1 : Sp p N (cols D (j + 1)) fun i => c * (D j i - s i) := Sp.times c (Sp.minus (.mem (mem_cols (Nat.lt_succ_self j))) ((k.down h1).mono (cols_mono (Nat.le_succ j))))
    refine a1.al fun i hi => ?_
    have := Int.dvd_add (ey i hi) (dml c (h2 i hi))
    rwa [show y i - z i * c + c * (z i - (D j i - s i)) = y i - c * (D j i - s i) by grind] at this
  have lt : ∀ l ∈ ks', l.1 < N := fun l hl => by
    rcases al l hl with rfl | ⟨m, hm, e, _⟩
    · exact ha
    · rw [e]
      exact k.red.lt m hm
  refine ⟨⟨?_, lt, fun l hl => ?_, fun l hl m hm ne => ?_, fun l hl i hi => ?_⟩, fun l hl => ?_, fun u hu => ?_⟩
  · rw [e', List.nodup_append]
    refine ⟨k.red.nd, List.nodup_cons.mpr ⟨(fun h => nomatch h), List.nodup_nil⟩, fun x hx y hy e => ?_⟩
    obtain ⟨l, hl, rfl⟩ := List.mem_map.mp hx
    rw [List.mem_singleton.mp hy] at e
    exact anew l hl e
  · rcases al l hl with rfl | ⟨m, hm, e, w⟩
    · exact ya
    · have h3 := w l.1 (lt l hl)
      rw [e] at h3 ⊢
      have h4 := k.red.one m hm
      have h5 := dml (m.2 a) (yv m.1 (k.red.lt m hm) (r.off m hm))
      have := Int.dvd_sub (Int.dvd_add h3 h4) h5
      rwa [show l.2 m.1 - (m.2 m.1 - m.2 a * y m.1) + (m.2 m.1 - 1) - m.2 a * y m.1 = l.2 m.1 - 1 by omega] at this
  · have mN := lt m hm
    rcases al l hl with rfl | ⟨l', hl', e, w⟩
    · rcases al m hm with rfl | ⟨m', hm', e2, _⟩
      · exact absurd rfl ne
      · rw [e2] at mN ⊢
        exact yv _ mN (r.off m' hm')
    · have h3 := w m.1 mN
      rcases al m hm with rfl | ⟨m', hm', e2, _⟩
      · have := Int.dvd_sub h3 (dml (l'.2 a) ya)
        rwa [show l.2 a - (l'.2 a - l'.2 a * y a) - l'.2 a * (y a - 1) = l.2 a by grind] at this
      · have h4 := k.red.off l' hl' m' hm' (by rw [← e, ← e2]; exact ne)
        rw [e2] at h3 mN ⊢
        have h5 := dml (l'.2 a) (yv m'.1 mN (r.off m' hm'))
        have := Int.dvd_sub (Int.dvd_add h3 h4) h5
        rwa [show l.2 m'.1 - (l'.2 m'.1 - l'.2 a * y m'.1) + l'.2 m'.1 - l'.2 a * y m'.1 = l.2 m'.1 by omega] at this
  · have iN : i < N := Nat.lt_trans hi (lt l hl)
    rcases al l hl with rfl | ⟨l', hl', e, w⟩
    · exact yv i iN (pre i hi)
    · rw [e] at hi
      have h3 := w i iN
      have h4 := k.red.pre l' hl' i hi
      have h5 : p ∣ l'.2 a * y i := by
        by_cases q : i < a
        · exact dml _ (yv i iN (pre i q))
        · exact dmr _ (k.red.pre l' hl' a (by omega))
      have := Int.dvd_sub (Int.dvd_add h3 h4) h5
      rwa [show l.2 i - (l'.2 i - l'.2 a * y i) + l'.2 i - l'.2 a * y i = l.2 i by omega] at this
  · rcases al l hl with rfl | ⟨l', hl', e, w⟩
    · exact ysp
    · exact (((k.fro l' hl').mono (cols_mono (Nat.le_succ j))).minus (ysp.times (l'.2 a))).al w
  · -- back: the old ones are made of the new ones
    have yk : Sp p N (ks'.map Prod.snd) y := .mem (List.mem_map.mpr ⟨_, my, rfl⟩)
    have old : ∀ m ∈ ks, Sp p N (ks'.map Prod.snd) m.2 := fun m hm => by
      obtain ⟨l, hl, e, w⟩ := mem m hm
      refine ((Sp.mem (L := ks'.map Prod.snd) (List.mem_map_of_mem (f := Prod.snd) hl)).plus (yk.times (m.2 a))).al fun i hi => ?_
      have := Int.dvd_neg.mpr (w i hi)
      rwa [show -(l.2 i - (m.2 i - m.2 a * y i)) = m.2 i - (l.2 i + m.2 a * y i) by omega] at this
    have via : ∀ {v : Vc}, Sp p N (ks.map Prod.snd) v → Sp p N (ks'.map Prod.snd) v := fun h => h.of fun u hu => by
      obtain ⟨m, hm, rfl⟩ := List.mem_map.mp hu
      exact old m hm
    rw [cols_succ] at hu
    rcases List.mem_append.mp hu with h | h
    · exact via (k.to u h)
    · rw [List.mem_singleton.mp h]
      refine ((via h1).plus (yk.times (z a))).al fun i hi => ?_
      have e1 := h2 i hi
      have e2 := dml (z a) (ey i hi)
      have e3 := dml (z i) cz
      have := Int.dvd_sub (Int.dvd_neg.mpr (Int.dvd_add e1 e2)) e3
      rwa [show -(z i - (D j i - s i) + z a * (y i - z i * c)) - z i * (z a * c - 1) = D j i - (s i + z a * y i) by grind] at this
/-- the first place of what is left: none begins behind it -/
theorem Keeps.least {D : Nat → Vc} {j : Nat} {ks : List (Nat × Vc)} (k : Keeps p N D j ks) {z : Vc} (r : Rest p N ks (D j) z) {a : Nat} (ha : a < N) (pre : ∀ i, i < a → p ∣ z i) (na : ¬ p ∣ z a) : (∃ s, Sp p N (cols D j) s ∧ ¬ p ∣ D j a - s a ∧ ∀ i, i < a → p ∣ D j i - s i) ∧ ∀ s, Sp p N (cols D j) s → ∃ i, i ≤ a ∧ ¬ p ∣ D j i - s i := by
  obtain ⟨s, h1, h2⟩ := r.made
  refine ⟨⟨s, k.down h1, fun h => na ?_, fun i hi => ?_⟩, fun s' h => Classical.byContradiction fun no => ?_⟩
  · have := Int.dvd_add (h2 a ha) h
    rwa [show z a - (D j a - s a) + (D j a - s a) = z a by omega] at this
  · have := Int.dvd_sub (pre i hi) (h2 i (by omega))
    rwa [show z i - (z i - (D j i - s i)) = D j i - s i by omega] at this
  · have all : ∀ i, i ≤ a → p ∣ D j i - s' i := fun i hi => Classical.byContradiction fun z => no ⟨i, hi, z⟩
    have w : ∀ i, i ≤ a → p ∣ (s' i - s i) - z i := fun i hi => by
      have := Int.dvd_sub (Int.dvd_neg.mpr (all i hi)) (h2 i (by omega))
      rwa [show -(D j i - s' i) - (z i - (D j i - s i)) = s' i - s i - z i by omega] at this
    obtain ⟨l, hl, e⟩ := k.red.first ((k.up h).minus h1) ha (fun i hi => by
      have := Int.dvd_add (w i (Nat.le_of_lt hi)) (pre i hi)
      rwa [show s' i - s i - z i + z i = s' i - s i by omega] at this) (fun h => na (by
      have := Int.dvd_sub h (w a (Nat.le_refl _))
      rwa [show s' a - s a - (s' a - s a - z a) = z a by omega] at this))
    rw [← e] at na
    exact na (r.off l hl)
/-- read from the other end -/
def rev (N : Nat) (v : Vc) : Vc := fun a => v (N - 1 - a)
theorem lin_rev : LinV p N N (rev N) := ⟨fun v z i hi => z (N - 1 - i) (by omega), fun k u w v z i hi => z (N - 1 - i) (by omega)⟩
theorem rev_rev (v : Vc) : Al p N (rev N (rev N v)) v := fun i hi => by
  unfold rev
  rw [show N - 1 - (N - 1 - i) = i by omega, Int.sub_self]
  exact Int.dvd_zero p
theorem sp_rev {D : Nat → Vc} {j : Nat} {v : Vc} (h : Sp p N (cols D j) v) : Sp p N (cols (fun i => rev N (D i)) j) (rev N v) := h.map lin_rev fun u hu => by
  obtain ⟨a, ha, rfl⟩ := List.mem_map.mp hu
  exact .mem (mem_cols (D := fun i => rev N (D i)) (List.mem_range.mp ha))
theorem sp_unrev {D : Nat → Vc} {j : Nat} {v : Vc} (h : Sp p N (cols (fun i => rev N (D i)) j) v) : Sp p N (cols D j) (rev N v) := h.map lin_rev fun u hu => by
  obtain ⟨a, ha, rfl⟩ := List.mem_map.mp hu
  exact (Sp.mem (mem_cols (D := D) (List.mem_range.mp ha))).al (rev_rev _)
theorem born_rev {D : Nat → Vc} {j : Nat} : Born p N (fun i => rev N (D i)) j ↔ Born p N D j := ⟨fun h => (sp_unrev h).al (rev_rev _).symm, fun h => sp_rev h⟩
theorem low_rev {D : Nat → Vc} {j a : Nat} (ha : a < N) (h : (∃ s, Sp p N (cols (fun i => rev N (D i)) j) s ∧ ¬ p ∣ rev N (D j) a - s a ∧ ∀ i, i < a → p ∣ rev N (D j) i - s i) ∧ ∀ s, Sp p N (cols (fun i => rev N (D i)) j) s → ∃ i, i ≤ a ∧ ¬ p ∣ rev N (D j) i - s i) : Low p N D j (N - 1 - a) := by
  obtain ⟨⟨s, h1, h2, h3⟩, h4⟩ := h
  refine ⟨by omega, ⟨rev N s, sp_unrev h1, ?_, fun i i1 i2 => ?_⟩, fun s' h' => ?_⟩
  · show ¬ p ∣ D j (N - 1 - a) - s (N - 1 - (N - 1 - a))
    rw [show N - 1 - (N - 1 - a) = a by omega]
    exact h2
  · have := h3 (N - 1 - i) (by omega)
    unfold rev at this
    rw [show N - 1 - (N - 1 - i) = i by omega] at this
    exact this
  · obtain ⟨i, i1, i2⟩ := h4 _ (sp_rev h')
    exact ⟨N - 1 - i, by omega, by omega, i2⟩
end
/-! ### counting -/
theorem nd_le {l k : List Nat} (nd : l.Nodup) (h : ∀ x ∈ l, x ∈ k) : l.length ≤ k.length := by
  induction l generalizing k with
  | nil => exact Nat.zero_le _
  | cons x l ih =>
    obtain ⟨h1, h2⟩ := List.nodup_cons.mp nd
    have hx := h x List.mem_cons_self
    have := ih (k := k.erase x) h2 fun y hy => (List.mem_erase_of_ne (fun e : y = x => h1 (by rw [← e]; exact hy))).mpr (h y (List.mem_cons_of_mem _ hy))
    rw [List.length_erase_of_mem hx] at this
    have : 0 < k.length := List.length_pos_of_mem hx
    simp only [List.length_cons]
    omega
open Classical in
theorem inj_le {R : Nat → Nat → Prop} {l k : List Nat} (nd : l.Nodup) (tot : ∀ x ∈ l, ∃ y ∈ k, R x y) (inj : ∀ x ∈ l, ∀ x' ∈ l, ∀ y, R x y → R x' y → x = x') : l.length ≤ k.length := by
  have : ∃ f : Nat → Nat, ∀ x ∈ l, f x ∈ k ∧ R x (f x) := by
    refine ⟨fun x => if h : ∃ y ∈ k, R x y then h.choose else 0, fun x hx => ?_⟩
    have h := tot x hx
    simp only [dif_pos h]
    exact h.choose_spec
  obtain ⟨f, hf⟩ := this
  rw [← List.length_map (f := f)]
  refine nd_le ?_ fun y hy => ?_
  · unfold List.Nodup
    rw [List.pairwise_map]
    refine List.Pairwise.imp_of_mem (fun {a b} ha hb ne e => ne ?_) nd
    exact inj a ha b hb (f a) (hf a ha).2 (by rw [e]; exact (hf b hb).2)
  · obtain ⟨x, hx, rfl⟩ := List.mem_map.mp hy
    exact (hf x hx).1
open Classical in
theorem rel_count {R : Nat → Nat → Prop} (f1 : ∀ a b b', R a b → R a b' → b = b') (f2 : ∀ a a' b, R a b → R a' b → a = a') (n m : Nat) :
    ((List.range n).filter fun a => decide (∃ b, b < m ∧ R a b)).length = ((List.range m).filter fun b => decide (∃ a, a < n ∧ R a b)).length := by
  apply Nat.le_antisymm
  · refine inj_le (R := R) (List.nodup_range.filter _) (fun x hx => ?_) fun x _ x' _ y h h' => f2 x x' y h h'
    obtain ⟨h1, h2⟩ := List.mem_filter.mp hx
    obtain ⟨b, hb, r⟩ := of_decide_eq_true h2
    exact ⟨b, List.mem_filter.mpr ⟨List.mem_range.mpr hb, decide_eq_true ⟨x, List.mem_range.mp h1, r⟩⟩, r⟩
  · refine inj_le (R := fun b a => R a b) (List.nodup_range.filter _) (fun x hx => ?_) fun x _ x' _ y h h' => f1 y x x' h h'
    obtain ⟨h1, h2⟩ := List.mem_filter.mp hx
    obtain ⟨a, ha, r⟩ := of_decide_eq_true h2
    exact ⟨a, List.mem_filter.mpr ⟨List.mem_range.mpr ha, decide_eq_true ⟨x, List.mem_range.mp h1, r⟩⟩, r⟩
end M40

set_option linter.all false
/-! How many last. -/
namespace M40
section
open Classical
/-- how many of the first n are so -/
noncomputable def cnt (n : Nat) (P : Nat → Prop) : Nat := ((List.range n).filter fun x => decide (P x)).length
theorem cnt_succ (n : Nat) (P : Nat → Prop) : cnt (n + 1) P = cnt n P + if P n then 1 else 0 := by
  unfold cnt
  rw [List.range_succ, List.filter_append, List.length_append]
  congr 1
  by_cases h : P n <;> simp [h]
theorem cnt_eq (n : Nat) (P : Nat → Prop) [i : DecidablePred P] : cnt n P = ((List.range n).filter fun x => decide (P x)).length := by
  unfold cnt
  congr 2
  funext x
  congr
theorem cnt_split (P Q : Nat → Prop) : ∀ n, cnt n P = cnt n (fun x => P x ∧ Q x) + cnt n (fun x => P x ∧ ¬ Q x)
  | 0 => rfl
  | n + 1 => by
    rw [cnt_succ, cnt_succ, cnt_succ, cnt_split P Q n]
    by_cases h : P n <;> by_cases g : Q n <;> simp [h, g] <;> omega
theorem cnt_congr {P Q : Nat → Prop} : ∀ {n}, (∀ x, x < n → (P x ↔ Q x)) → cnt n P = cnt n Q
  | 0, _ => rfl
  | n + 1, h => by
    rw [cnt_succ, cnt_succ, cnt_congr (n := n) fun x hx => h x (by omega)]
    have := h n (by omega)
    by_cases g : Q n
    · rw [if_pos g, if_pos (this.mpr g)]
    · rw [if_neg g, if_neg fun z => g (this.mp z)]
theorem cnt_rel {R : Nat → Nat → Prop} (f1 : ∀ a b b', R a b → R a b' → b = b') (f2 : ∀ a a' b, R a b → R a' b → a = a') (n m : Nat) : (cnt n fun a => ∃ b, b < m ∧ R a b) = cnt m fun b => ∃ a, a < n ∧ R a b := by
  have := rel_count f1 f2 n m
  rw [cnt_eq, cnt_eq]
  exact this
theorem cnt_zero (P : Nat → Prop) : cnt 0 P = 0 := rfl
theorem cnt_le (n : Nat) (P : Nat → Prop) : cnt n P ≤ n := by
  unfold cnt
  have := List.length_filter_le (fun x => decide (P x)) (List.range n)
  rwa [List.length_range] at this
section
variable {p : Int} {N : Nat} {size : Nat → Nat} {D : Nat → Vc}
/-- behind m: made of those ahead -/
def LateIn (p : Int) (N : Nat) (size : Nat → Nat) (D : Nat → Vc) (d m j : Nat) : Prop := Sp p N ((colsS size D d j).map (beh m)) (beh m (D j))
/-- rings there at m that are not yet gone at n -/
theorem Rims.lasting (R : Rims p N size D) (cas : ∀ j, j < N → Born p N D j ∨ ∃ b, Low p N D j b) {d m n : Nat} (hm : m ≤ N) (hn : n ≤ N) :
    (cnt m fun b => (size b = d + 1 ∧ Born p N D b) ∧ ∀ j, j < N → Low p N D j b → n ≤ j : Int) = cnt m (fun b => size b = d + 1 ∧ Born p N D b) - (cnt n (fun j => size j = d + 2 ∧ ¬ Born p N D j) - cnt n (fun j => size j = d + 2 ∧ ¬ LateIn p N size D (d + 2) m j)) := by
  have e1 : cnt n (fun j => size j = d + 2 ∧ ¬ Born p N D j) = cnt n (fun j => (size j = d + 2 ∧ ¬ Born p N D j) ∧ ∃ b, b < m ∧ Low p N D j b) + cnt n (fun j => (size j = d + 2 ∧ ¬ Born p N D j) ∧ ¬ ∃ b, b < m ∧ Low p N D j b) := cnt_split _ _ _
  have e2 : cnt n (fun j => size j = d + 2 ∧ ¬ LateIn p N size D (d + 2) m j) = cnt n (fun j => (size j = d + 2 ∧ ¬ Born p N D j) ∧ ¬ ∃ b, b < m ∧ Low p N D j b) := cnt_congr fun j hj => by
    have jN : j < N := by omega
    constructor
    · rintro ⟨s, h⟩
      have := R.late (m := m) (d := d + 1) jN s (cas j jN)
      exact ⟨⟨s, fun z => h (this.mpr (.inl z))⟩, fun z => h (this.mpr (.inr z))⟩
    · rintro ⟨⟨s, h1⟩, h2⟩
      have := R.late (m := m) (d := d + 1) jN s (cas j jN)
      exact ⟨s, fun z => (this.mp z).elim h1 h2⟩
  have e3 : cnt n (fun j => (size j = d + 2 ∧ ¬ Born p N D j) ∧ ∃ b, b < m ∧ Low p N D j b) = cnt n fun j => ∃ b, b < m ∧ (Low p N D j b ∧ size j = d + 2 ∧ j < N) := cnt_congr fun j hj => by
    have jN : j < N := by omega
    constructor
    · rintro ⟨⟨s, _⟩, b, hb, lo⟩
      exact ⟨b, hb, lo, s, jN⟩
    · rintro ⟨b, hb, lo, s, _⟩
      exact ⟨⟨s, lo.neg⟩, b, hb, lo⟩
  have e4 : (cnt n fun j => ∃ b, b < m ∧ (Low p N D j b ∧ size j = d + 2 ∧ j < N)) = cnt m fun b => ∃ j, j < n ∧ (Low p N D j b ∧ size j = d + 2 ∧ j < N) := cnt_rel (R := fun j b => Low p N D j b ∧ size j = d + 2 ∧ j < N) (fun a b b' h h' => h.1.uniq h'.1) (fun a a' b h h' => by
    rcases Nat.lt_trichotomy a a' with lt | e | gt
    · exact (R.once h'.2.2 lt h.1 h'.1).elim
    · exact e
    · exact (R.once h.2.2 gt h'.1 h.1).elim) n m
  have e5 : cnt m (fun b => size b = d + 1 ∧ Born p N D b) = (cnt m fun b => (size b = d + 1 ∧ Born p N D b) ∧ ∀ j, j < N → Low p N D j b → n ≤ j) + cnt m (fun b => (size b = d + 1 ∧ Born p N D b) ∧ ¬ ∀ j, j < N → Low p N D j b → n ≤ j) := cnt_split _ _ _
  have e6 : cnt m (fun b => (size b = d + 1 ∧ Born p N D b) ∧ ¬ ∀ j, j < N → Low p N D j b → n ≤ j) = cnt m fun b => ∃ j, j < n ∧ (Low p N D j b ∧ size j = d + 2 ∧ j < N) := cnt_congr fun b hb => by
    constructor
    · rintro ⟨⟨s, _⟩, no⟩
      refine Classical.byContradiction fun z => no fun j hj lo => Nat.le_of_not_lt fun lt => z ⟨j, lt, lo, ?_, hj⟩
      rw [(R.low hj lo).2.1, s]
    · rintro ⟨j, lt, lo, s, hj⟩
      obtain ⟨_, h2, h3⟩ := R.low hj lo
      exact ⟨⟨by omega, h3⟩, fun all => by have := all j hj lo; omega⟩
  omega
end
end
end M40

set_option linter.all false
/-! The rims of cells, and that the rim of a rim is nothing. -/
namespace M40
/-- the faces of a cell -/
def fcs (c : List Int) : List (List Int) := if c.length = 1 then [] else (List.range c.length).map fun i => c.eraseIdx i
/-- 1 or p - 1, by turns -/
def sg (p : Int) (k : Nat) : Int := if k % 2 = 0 then 1 else p - 1
/-- what stands for the cell c in the row of faces -/
def sgF (p : Int) : Nat → List (List Int) → List Int → Int
  | _, [], _ => 0
  | k, f :: fs, c => if f = c then sg p k else sgF p (k + 1) fs c
theorem sgF_not {p : Int} {c : List Int} : ∀ {fs : List (List Int)} {k : Nat}, c ∉ fs → sgF p k fs c = 0
  | [], _, _ => rfl
  | f :: fs, k, h => by
    show (if f = c then sg p k else sgF p (k + 1) fs c) = 0
    rw [if_neg fun e => h (by rw [e]; exact List.mem_cons_self), sgF_not fun z => h (List.mem_cons_of_mem _ z)]
theorem sgF_mem {p : Int} {c : List Int} {fs : List (List Int)} {k : Nat} (h : sgF p k fs c ≠ 0) : c ∈ fs := Classical.byContradiction fun n => h (sgF_not n)
theorem sgF_snoc {p : Int} {c f : List Int} : ∀ {fs : List (List Int)} {k : Nat}, f ∉ fs → sgF p k (fs ++ [f]) c = if f = c then sg p (k + fs.length) else sgF p k fs c
  | [], k, _ => by
    show (if f = c then sg p k else 0) = if f = c then sg p (k + 0) else 0
    rfl
  | g :: fs, k, h => by
    show (if g = c then sg p k else sgF p (k + 1) (fs ++ [f]) c) = if f = c then sg p (k + (fs.length + 1)) else if g = c then sg p k else sgF p (k + 1) fs c
    rw [sgF_snoc fun z => h (List.mem_cons_of_mem _ z)]
    by_cases e : g = c
    · have : f ≠ c := fun z => h (by rw [z, ← e]; exact List.mem_cons_self)
      rw [if_pos e, if_neg this, if_pos e]
    · rw [if_neg e, if_neg e, show k + 1 + fs.length = k + (fs.length + 1) by omega]
theorem sgF_bd {p : Int} (hp : 2 ≤ p) {c : List Int} : ∀ {fs : List (List Int)} {k : Nat}, 0 ≤ sgF p k fs c ∧ sgF p k fs c < p
  | [], k => ⟨Int.le_refl _, by show (0 : Int) < p; omega⟩
  | f :: fs, k => by
    show 0 ≤ (if f = c then sg p k else sgF p (k + 1) fs c) ∧ (if f = c then sg p k else sgF p (k + 1) fs c) < p
    by_cases e : f = c
    · rw [if_pos e]
      unfold sg
      split <;> omega
    · rw [if_neg e]
      exact sgF_bd hp
/-- right towers -/
structure Tw (ll : List (List Int)) : Prop where
  nd : ll.Nodup
  len : ∀ c ∈ ll, 1 ≤ c.length ∧ c.length ≤ 4
  dis : ∀ c ∈ ll, c.Nodup
  fac : ∀ j c, ll[j]? = some c → ∀ f ∈ fcs c, f ∈ ll.take j
def rimD (p : Int) (ll : List (List Int)) (j : Nat) : Vc := fun i => sgF p 0 (fcs (ll.getD j [])) (ll.getD i [])
def szD (ll : List (List Int)) (j : Nat) : Nat := (ll.getD j []).length
theorem getD_of {ll : List (List Int)} {j : Nat} {c : List Int} (h : ll[j]? = some c) : ll.getD j [] = c := by
  rw [List.getD_eq_getElem?_getD, h]
  rfl
theorem getD_lt {ll : List (List Int)} {j : Nat} (h : j < ll.length) : ll[j]? = some (ll.getD j []) := by
  rw [List.getD_eq_getElem?_getD, List.getElem?_eq_getElem h]
  rfl
theorem fcs_len {c f : List Int} (h : f ∈ fcs c) : f.length + 1 = c.length := by
  unfold fcs at h
  split at h
  · cases h
  · obtain ⟨i, hi, rfl⟩ := List.mem_map.mp h
    have := List.mem_range.mp hi
    rw [List.length_eraseIdx_of_lt this]
    omega
theorem nd_at {ll : List (List Int)} (nd : ll.Nodup) {i j : Nat} {c : List Int} (hi : ll[i]? = some c) (hj : ll[j]? = some c) : i = j := by
  obtain ⟨h1, e1⟩ := List.getElem?_eq_some_iff.mp hi
  obtain ⟨h2, e2⟩ := List.getElem?_eq_some_iff.mp hj
  have pw := List.pairwise_iff_getElem.mp nd
  rcases Nat.lt_trichotomy i j with l | e | l
  · exact absurd (e1.trans e2.symm) (pw i j h1 h2 l)
  · exact e
  · exact absurd (e2.trans e1.symm) (pw j i h2 h1 l)
theorem fcs_nd {c : List Int} (nd : c.Nodup) (h : 1 ≤ c.length) (h4 : c.length ≤ 4) : (fcs c).Nodup := by
  match c, nd, h, h4 with
  | [x], _, _, _ => exact List.nodup_nil
  | [x, y], nd, _, _ =>
    simp only [List.nodup_cons, List.mem_cons, List.not_mem_nil, or_false, not_or] at nd
    show [[y], [x]].Nodup
    simp [nd]
    grind
  | [x, y, z], nd, _, _ =>
    simp only [List.nodup_cons, List.mem_cons, List.not_mem_nil, or_false, not_or] at nd
    show [[y, z], [x, z], [x, y]].Nodup
    simp
    grind
  | [x, y, z, w], nd, _, _ =>
    simp only [List.nodup_cons, List.mem_cons, List.not_mem_nil, or_false, not_or] at nd
    show [[y, z, w], [x, z, w], [x, y, w], [x, y, z]].Nodup
    simp
    grind
  | _ :: _ :: _ :: _ :: _ :: _, _, _, h => simp at h
/-- the faces' sum -/
def sumF (p : Int) (X : List Int → Int) : Nat → List (List Int) → Int
  | _, [] => 0
  | k, f :: fs => sg p k * X f + sumF p X (k + 1) fs
theorem sumN_zero {f : Nat → Int} : ∀ N, (∀ i, i < N → f i = 0) → sumN N f = 0
  | 0, _ => rfl
  | N + 1, h => by rw [sumN_succ, sumN_zero N fun i hi => h i (by omega), h N (by omega)]; rfl
theorem sumN_one {f : Nat → Int} {a : Nat} : ∀ N, a < N → (∀ i, i < N → i ≠ a → f i = 0) → sumN N f = f a
  | 0, h, _ => absurd h (Nat.not_lt_zero _)
  | N + 1, h, z => by
    rw [sumN_succ]
    by_cases e : a = N
    · subst e
      rw [sumN_zero a fun i hi => z i (by omega) (by omega), Int.zero_add]
    · rw [sumN_one N (by omega) fun i hi ne => z i (by omega) ne, z N (by omega) (fun q => e q.symm), Int.add_zero]
theorem sumN_add (f g : Nat → Int) : ∀ N, sumN N (fun i => f i + g i) = sumN N f + sumN N g
  | 0 => rfl
  | N + 1 => by
    rw [sumN_succ, sumN_succ, sumN_succ, sumN_add f g N]
    omega
theorem sum_faces {p : Int} {ll : List (List Int)} (nd : ll.Nodup) (X : List Int → Int) : ∀ {fs : List (List Int)} {k : Nat}, fs.Nodup → (∀ f ∈ fs, f ∈ ll) → sumN ll.length (fun i => sgF p k fs (ll.getD i []) * X (ll.getD i [])) = sumF p X k fs
  | [], k, _, _ => sumN_zero _ fun i _ => by
    show 0 * X (ll.getD i []) = 0
    exact Int.zero_mul _
  | f :: fs, k, nf, all => by
    obtain ⟨n1, n2⟩ := List.nodup_cons.mp nf
    obtain ⟨a, ha, ea⟩ := List.mem_iff_getElem.mp (all f List.mem_cons_self)
    have eg : ll.getD a [] = f := getD_of (by rw [List.getElem?_eq_getElem ha, ea])
    have step : (fun i => sgF p k (f :: fs) (ll.getD i []) * X (ll.getD i [])) = fun i => (if f = ll.getD i [] then sg p k * X (ll.getD i []) else 0) + sgF p (k + 1) fs (ll.getD i []) * X (ll.getD i []) := by
      funext i
      show (if f = ll.getD i [] then sg p k else sgF p (k + 1) fs (ll.getD i [])) * X (ll.getD i []) = _
      by_cases e : f = ll.getD i []
      · rw [if_pos e, if_pos e, ← e, sgF_not n1]
        omega
      · rw [if_neg e, if_neg e, Int.zero_add]
    rw [step, sumN_add, sum_faces nd X n2 fun g hg => all g (List.mem_cons_of_mem _ hg)]
    show _ = sg p k * X f + sumF p X (k + 1) fs
    congr 1
    rw [sumN_one _ ha fun i hi ne => ?_, eg, if_pos rfl]
    refine if_neg fun e => ne (nd_at nd (c := f) ?_ ?_)
    · rw [getD_lt hi, ← e]
    · rw [List.getElem?_eq_getElem ha, ea]
/-- the rim of a rim -/
theorem two_cell (p : Int) {c : List Int} (nd : c.Nodup) (h1 : 1 ≤ c.length) (h4 : c.length ≤ 4) (t : List Int) : p ∣ sumF p (fun f => sgF p 0 (fcs f) t) 0 (fcs c) := by
  match c, nd, h1, h4 with
  | [x], _, _, _ => exact Int.dvd_zero p
  | [x, y], nd, _, _ =>
    show p ∣ sg p 0 * 0 + (sg p 1 * 0 + 0)
    rw [Int.mul_zero, Int.mul_zero]
    exact Int.dvd_zero p
  | [x, y, z], nd, _, _ =>
    simp only [List.nodup_cons, List.mem_cons, List.not_mem_nil, or_false, not_or] at nd
    show p ∣ 1 * (if [z] = t then 1 else if [y] = t then p - 1 else 0) + ((p - 1) * (if [z] = t then 1 else if [x] = t then p - 1 else 0) + (1 * (if [y] = t then 1 else if [x] = t then p - 1 else 0) + 0))
    by_cases a : [z] = t
    · have b : ¬ [y] = t := fun e => by rw [← e] at a; injection a with a; exact nd.2.1 a.symm
      have c : ¬ [x] = t := fun e => by rw [← e] at a; injection a with a; exact nd.1.2 a.symm
      rw [if_pos a, if_pos a, if_neg b, if_neg c]
      exact ⟨1, by omega⟩
    · by_cases b : [y] = t
      · have c : ¬ [x] = t := fun e => by rw [← e] at b; injection b with b; exact nd.1.1 b.symm
        rw [if_neg a, if_pos b, if_neg a, if_neg c, if_pos b]
        exact ⟨1, by omega⟩
      · rw [if_neg a, if_neg b, if_neg a, if_neg b]
        by_cases c : [x] = t
        · rw [if_pos c]
          exact ⟨p - 1, by grind⟩
        · rw [if_neg c]
          exact ⟨0, by omega⟩
  | [x, y, z, w], nd, _, _ =>
    simp only [List.nodup_cons, List.mem_cons, List.not_mem_nil, or_false, not_or] at nd
    show p ∣ 1 * (if [z, w] = t then 1 else if [y, w] = t then p - 1 else if [y, z] = t then 1 else 0) + ((p - 1) * (if [z, w] = t then 1 else if [x, w] = t then p - 1 else if [x, z] = t then 1 else 0) + (1 * (if [y, w] = t then 1 else if [x, w] = t then p - 1 else if [x, y] = t then 1 else 0) + ((p - 1) * (if [y, z] = t then 1 else if [x, z] = t then p - 1 else if [x, y] = t then 1 else 0) + 0)))
    obtain ⟨⟨n1, n2, n3⟩, ⟨n4, n5⟩, n6, _⟩ := nd
    by_cases a1 : [z, w] = t
    · subst a1
      have b1 : ¬ [y, w] = [z, w] := by simp; omega
      have b2 : ¬ [y, z] = [z, w] := by simp; omega
      have b3 : ¬ [x, w] = [z, w] := by simp; omega
      have b4 : ¬ [x, z] = [z, w] := by simp; omega
      have b5 : ¬ [x, y] = [z, w] := by simp; omega
      rw [if_pos rfl, if_pos rfl, if_neg b1, if_neg b2, if_neg b3, if_neg b4, if_neg b5]
      exact ⟨1, by omega⟩
    by_cases a2 : [y, w] = t
    · subst a2
      have b2 : ¬ [y, z] = [y, w] := by simp; omega
      have b3 : ¬ [x, w] = [y, w] := by simp; omega
      have b4 : ¬ [x, z] = [y, w] := by simp; omega
      have b5 : ¬ [x, y] = [y, w] := by simp; omega
      rw [if_neg a1, if_pos rfl, if_neg a1, if_neg b3, if_neg b4, if_pos rfl, if_neg b2, if_neg b4, if_neg b5]
      exact ⟨1, by omega⟩
    by_cases a3 : [y, z] = t
    · subst a3
      have b3 : ¬ [x, w] = [y, z] := by simp; omega
      have b4 : ¬ [x, z] = [y, z] := by simp; omega
      have b5 : ¬ [x, y] = [y, z] := by simp; omega
      rw [if_neg a1, if_neg a2, if_pos rfl, if_neg a1, if_neg b3, if_neg b4, if_neg a2, if_neg b3, if_neg b5, if_pos rfl]
      exact ⟨1, by omega⟩
    by_cases a4 : [x, w] = t
    · subst a4
      have b4 : ¬ [x, z] = [x, w] := by simp; omega
      have b5 : ¬ [x, y] = [x, w] := by simp; omega
      rw [if_neg a1, if_neg a2, if_neg a3, if_neg a1, if_pos rfl, if_neg a2, if_pos rfl, if_neg a3, if_neg b4, if_neg b5]
      exact ⟨p - 1, by grind⟩
    by_cases a5 : [x, z] = t
    · subst a5
      have b5 : ¬ [x, y] = [x, z] := by simp; omega
      rw [if_neg a1, if_neg a2, if_neg a3, if_neg a1, if_neg a4, if_pos rfl, if_neg a2, if_neg a4, if_neg b5, if_neg a3, if_pos rfl]
      exact ⟨p - 1, by grind⟩
    by_cases a6 : [x, y] = t
    · subst a6
      rw [if_neg a1, if_neg a2, if_neg a3, if_neg a1, if_neg a4, if_neg a5, if_neg a2, if_neg a4, if_pos rfl, if_neg a3, if_neg a5]
      exact ⟨1, by omega⟩
    rw [if_neg a1, if_neg a2, if_neg a3, if_neg a1, if_neg a4, if_neg a5, if_neg a2, if_neg a4, if_neg a6, if_neg a3, if_neg a5]
    exact ⟨0, by omega⟩
  | _ :: _ :: _ :: _ :: _ :: _, _, _, h => simp at h
/-- the primes that are let: all but 0 can be undone -/
def Prm (p : Int) : Prop := p = 2 ∨ p = 3 ∨ p = 5 ∨ p = 7 ∨ p = 11 ∨ p = 13
theorem Prm.le {p : Int} (h : Prm p) : 2 ≤ p ∧ p ≤ 13 := by unfold Prm at h; omega
theorem inv_fin : ∀ p ∈ [2, 3, 5, 7, 11, 13], ∀ r ∈ List.range p, r ≠ 0 → ∃ k ∈ List.range p, (r * k) % p = 1 := by decide +kernel
theorem Prm.inv {p : Int} (h : Prm p) (x : Int) (n : ¬ p ∣ x) : ∃ k, p ∣ x * k - 1 := by
  obtain ⟨q, hq, eq⟩ : ∃ q ∈ [2, 3, 5, 7, 11, 13], p = ((q : Nat) : Int) := by
    unfold Prm at h
    rcases h with h | h | h | h | h | h <;> rw [h]
    · exact ⟨2, by decide, rfl⟩
    · exact ⟨3, by decide, rfl⟩
    · exact ⟨5, by decide, rfl⟩
    · exact ⟨7, by decide, rfl⟩
    · exact ⟨11, by decide, rfl⟩
    · exact ⟨13, by decide, rfl⟩
  have p0 : 2 ≤ p := h.le.1
  have r0 := Int.emod_nonneg x (show p ≠ 0 by omega)
  have r1 := Int.emod_lt_of_pos x (show 0 < p by omega)
  obtain ⟨k, _, hk⟩ := inv_fin q hq (x % p).toNat (List.mem_range.mpr (by omega)) fun z => n (Int.dvd_of_emod_eq_zero (by omega))
  refine ⟨(k : Int), Int.dvd_of_emod_eq_zero ?_⟩
  have e : (((x % p).toNat * k % q : Nat) : Int) = 1 := by rw [hk]; rfl
  rw [Int.natCast_emod, Int.natCast_mul, ← eq] at e
  rw [Int.toNat_of_nonneg r0] at e
  have a : p ∣ x * k - (x % p) * k := by
    rw [← Int.sub_mul]
    exact dmr _ ⟨x / p, by have := Int.emod_add_mul_ediv x p; omega⟩
  have b : p ∣ (x % p) * k - 1 := ⟨(x % p) * k / p, by have := Int.emod_add_mul_ediv ((x % p) * k) p; omega⟩
  have := Int.dvd_add a b
  rw [show x * k - x % p * k + (x % p * k - 1) = x * k - 1 by omega] at this
  exact Int.emod_eq_zero_of_dvd this
theorem Tw.rims {p : Int} (hp : Prm p) {ll : List (List Int)} (t : Tw ll) : Rims p ll.length (szD ll) (rimD p ll) := by
  refine ⟨hp.inv, fun j i hj n => ?_, fun j hj x => ?_⟩
  · have nz : sgF p 0 (fcs (ll.getD j [])) (ll.getD i []) ≠ 0 := fun z => n (by unfold rimD; rw [z]; exact Int.dvd_zero p)
    have m := sgF_mem nz
    have l := fcs_len m
    have cj := getD_lt hj
    have mt := t.fac j _ cj _ m
    obtain ⟨a, ha, ea⟩ := List.mem_iff_getElem.mp mt
    rw [List.length_take] at ha
    rw [List.getElem_take] at ea
    have h1 : ll[a]? = some (ll.getD i []) := by rw [List.getElem?_eq_getElem (by omega), ea]
    by_cases iN : i < ll.length
    · have := nd_at t.nd h1 (getD_lt iN)
      exact ⟨by omega, by unfold szD; omega⟩
    · have e0 : ll.getD i [] = [] := by rw [List.getD_eq_getElem?_getD, List.getElem?_eq_none (by omega)]; rfl
      rw [e0] at h1
      have := (t.len _ (List.mem_of_getElem? h1)).1
      simp at this
  · have cj := getD_lt hj
    have mj := List.mem_of_getElem? cj
    obtain ⟨l1, l4⟩ := t.len _ mj
    have := sum_faces (p := p) t.nd (fun f => sgF p 0 (fcs f) (ll.getD x [])) (k := 0) (fcs_nd (t.dis _ mj) l1 l4) fun f hf => List.mem_of_mem_take (t.fac j _ cj f hf)
    show p ∣ sumN ll.length fun i => sgF p 0 (fcs (ll.getD j [])) (ll.getD i []) * sgF p 0 (fcs (ll.getD i [])) (ll.getD x [])
    rw [this]
    exact two_cell p (t.dis _ mj) l1 l4 _
end M40

set_option linter.all false
/-! A basis that grows. -/
namespace M40
section
variable {p : Int} {N : Nat}
structure BasOf (p : Int) (N : Nat) (U : List Vc) (ks : List (Nat × Vc)) : Prop where
  tri : Tri p N ks
  fro : ∀ k ∈ ks, Sp p N U k.2
  to : ∀ u ∈ U, Sp p N (ks.map Prod.snd) u
theorem BasOf.nil : BasOf p N [] [] := ⟨.nil, (fun k h => nomatch h), (fun u h => nomatch h)⟩
theorem BasOf.up {U : List Vc} {ks : List (Nat × Vc)} (b : BasOf p N U ks) {v : Vc} (h : Sp p N U v) : Sp p N (ks.map Prod.snd) v := h.of b.to
theorem BasOf.down {U : List Vc} {ks : List (Nat × Vc)} (b : BasOf p N U ks) {v : Vc} (h : Sp p N (ks.map Prod.snd) v) : Sp p N U v := h.of fun u hu => by
  obtain ⟨l, hl, rfl⟩ := List.mem_map.mp hu
  exact b.fro l hl
theorem Tri.later {ks : List (Nat × Vc)} (t : Tri p N ks) : ∀ {a b : Nat} {k l : Nat × Vc}, ks[a]? = some k → ks[b]? = some l → a < b → p ∣ l.2 k.1 := by
  induction t with
  | nil => intro a b k l h; cases h
  | cons k ks _ _ h3 _ ih =>
    intro a b x l hx hl lt
    cases b with
    | zero => exact absurd lt (Nat.not_lt_zero a)
    | succ b =>
      cases a with
      | zero =>
        cases hx
        exact h3 l (List.mem_of_getElem? (i := b) hl)
      | succ a => exact ih (a := a) (b := b) hx hl (by omega)
theorem BasOf.same {U : List Vc} {ks : List (Nat × Vc)} (b : BasOf p N U ks) {v z : Vc} (r : Rest p N ks v z) (nil : Al p N z zeroV) : Sp p N U v ∧ BasOf p N (U ++ [v]) ks := by
  obtain ⟨s, h1, h2⟩ := r.made
  have sv : Sp p N (ks.map Prod.snd) v := h1.al fun i hi => by
    have := Int.dvd_sub (nil i hi) (h2 i hi)
    rwa [show z i - zeroV i - (z i - (v i - s i)) = v i - s i by show z i - 0 - _ = _; omega] at this
  refine ⟨b.down sv, b.tri, fun k hk => (b.fro k hk).mono fun u hu => List.mem_append_left _ hu, fun u hu => ?_⟩
  rcases List.mem_append.mp hu with h | h
  · exact b.to u h
  · rw [List.mem_singleton.mp h]
    exact sv
theorem BasOf.more {U : List Vc} {ks : List (Nat × Vc)} (b : BasOf p N U ks) {v z y : Vc} (r : Rest p N ks v z) {a : Nat} (ha : a < N) (na : ¬ p ∣ z a) {c : Int} (cz : p ∣ z a * c - 1) (ey : Al p N y fun i => z i * c) : ¬ Sp p N U v ∧ BasOf p N (U ++ [v]) (ks ++ [(a, y)]) := by
  obtain ⟨s, h1, h2⟩ := r.made
  have yv : ∀ i, i < N → p ∣ z i → p ∣ y i := fun i hi h => by
    have := Int.dvd_add (ey i hi) (dmr (b := c) _ h)
    rwa [show y i - z i * c + z i * c = y i by omega] at this
  have ya : p ∣ y a - 1 := by
    have := Int.dvd_add (ey a ha) cz
    rwa [show y a - z a * c + (z a * c - 1) = y a - 1 by omega] at this
  refine ⟨fun h => na ?_, b.tri.snoc ha ya fun l hl => yv _ (b.tri.lt l hl).1 (r.off l hl), fun k hk => ?_, fun u hu => ?_⟩
  · have sz : Sp p N (ks.map Prod.snd) z := ((b.up h).minus h1).al h2
    have := b.tri.nought sz r.off a ha
    rwa [show z a - zeroV a = z a by show z a - 0 = _; omega] at this
  · rcases List.mem_append.mp hk with h | h
    · exact (b.fro k h).mono fun u hu => List.mem_append_left _ hu
    · rw [List.mem_singleton.mp h]
      have a1 : Sp p N (U ++ [v]) fun i => c * (v i - s i) := Sp.times c (Sp.minus (.mem (List.mem_append_right _ List.mem_cons_self)) ((b.down h1).mono fun u hu => List.mem_append_left _ hu))
      refine a1.al fun i hi => ?_
      have := Int.dvd_add (ey i hi) (dml c (h2 i hi))
      rwa [show y i - z i * c + c * (z i - (v i - s i)) = y i - c * (v i - s i) by grind] at this
  · have via : ∀ {w : Vc}, Sp p N (ks.map Prod.snd) w → Sp p N ((ks ++ [(a, y)]).map Prod.snd) w := fun h => h.mono fun u hu => by
      rw [List.map_append]
      exact List.mem_append_left _ hu
    rcases List.mem_append.mp hu with h | h
    · exact via (b.to u h)
    · rw [List.mem_singleton.mp h]
      have yk : Sp p N ((ks ++ [(a, y)]).map Prod.snd) y := .mem (by rw [List.map_append]; exact List.mem_append_right _ List.mem_cons_self)
      refine ((via h1).plus (yk.times (z a))).al fun i hi => ?_
      have e1 := h2 i hi
      have e2 := dml (z a) (ey i hi)
      have e3 := dml (z i) cz
      have := Int.dvd_sub (Int.dvd_neg.mpr (Int.dvd_add e1 e2)) e3
      rwa [show -(z i - (v i - s i) + z a * (y i - z i * c)) - z i * (z a * c - 1) = v i - (s i + z a * y i) by grind] at this
end
end M40

set_option Elab.async false
set_option linter.all false
set_option maxRecDepth 100000
set_option maxHeartbeats 4000000
set_option pp.maxSteps 60
namespace L40
open PySem L2
def top (i : Nat) : Stmt := PySem.Challenge.pw_mapwebs_k40_whole_tower_bars_at_all_mome.main.body.getD i (.Pass ⟨0, 0, 0, 0⟩)
abbrev sBag : Stmt := top 29
abbrev sPick : Stmt := top 30
abbrev sSome : Stmt := top 31
theorem upd_upd {H : Hp} {a : Addr} {o u : HO} : upd (upd H a o) a u = upd H a u := by
  funext b
  by_cases h : b = a
  · rw [h, upd_same, upd_same]
  · rw [upd_ne h, upd_ne h, upd_ne h]
/-- the bag stands at a, its great numbers at c -/
def BagAt (H : Hp) (a c : Addr) : Prop := ∃ (ns : List Int) (z m n : Int), H a = some (.lst [.ref c, .int z, .int m, .int n]) ∧ H c = some (.lst (ns.map V.int))
theorem BagAt.neq {H : Hp} {a c : Addr} (x : BagAt H a c) : c ≠ a := by
  obtain ⟨ns, z, m, n, h1, h2⟩ := x
  exact ne_of h2 h1 (by intro q; cases ns <;> cases q)
/-- a step that changes nothing but the bag, and makes new things -/
structure Go (a c : Addr) (H H' : Hp) : Prop where
  bag : BagAt H' a c
  keep : ∀ b o, b ≠ a → b ≠ c → H b = some o → H' b = some o
theorem Go.trans {a c : Addr} {H H1 H2 : Hp} (x : Go a c H H1) (y : Go a c H1 H2) : Go a c H H2 := ⟨y.1, fun b o n m e => y.2 b o n m (x.2 b o n m e)⟩
theorem Go.refl {a c : Addr} {H : Hp} (x : BagAt H a c) : Go a c H H := ⟨x, fun _ _ _ _ e => e⟩
theorem BagAt.ne {H : Hp} {a c : Addr} (x : BagAt H a c) {b : Addr} (h : H b = none) : b ≠ a ∧ b ≠ c := by
  obtain ⟨ns, z, m, n, h1, h2⟩ := x
  exact ⟨(ne_of_none h1 h).symm, (ne_of_none h2 h).symm⟩
theorem Go.of_ext {a c : Addr} {H H' : Hp} (x : BagAt H a c) (e : ∀ b o, H b = some o → H' b = some o) : Go a c H H' := by
  obtain ⟨ns, z, m, n, h1, h2⟩ := x
  exact ⟨⟨ns, z, m, n, e _ _ h1, e _ _ h2⟩, fun b o _ _ h => e b o h⟩
theorem Go.new {a c : Addr} {H : Hp} (x : BagAt H a c) {b : Addr} {o : HO} (h : H b = none) : Go a c H (upd H b o) := Go.of_ext x fun d u e => by rw [upd_ne (ne_of_none e h)]; exact e
/-- a store at a thing that is new since -/
theorem Go.put {a c d : Addr} {H H' : Hp} {o : HO} (p : BagAt H a c) (g : Go a c H H') (nd : H d = none) : Go a c H (upd H' d o) := by
  obtain ⟨h1, h2⟩ := p.ne nd
  obtain ⟨ns, z, m, n, h3, h4⟩ := g.1
  exact ⟨⟨ns, z, m, n, by rw [upd_ne h1.symm]; exact h3, by rw [upd_ne h2.symm]; exact h4⟩, fun b o' nb nc hb => by rw [upd_ne (ne_of_none hb nd)]; exact g.2 b o' nb nc hb⟩
theorem bag_no {H : Hp} {a c b : Addr} {o : HO} (p : BagAt H a c) (h : H b = some o) (no : ∀ xs, o ≠ .lst xs) : b ≠ a ∧ b ≠ c := by
  obtain ⟨ns, z, m, n, h1, h2⟩ := p
  refine ⟨fun e => ?_, fun e => ?_⟩
  · rw [e, h1] at h
    cases h
    exact no _ rfl
  · rw [e, h2] at h
    cases h
    exact no _ rfl
theorem Go.tup {a c b : Addr} {H H' : Hp} {xs : List V} (p : BagAt H a c) (g : Go a c H H') (h : H b = some (.tup xs)) : H' b = some (.tup xs) := g.2 _ _ (bag_no p h fun _ z => nomatch z).1 (bag_no p h fun _ z => nomatch z).2 h
def spBag (K : PySem.W.Frag) : Sp := fun vs H Q _ => ∃ (s : Addr) (ns : List Int), vs = [.ref s] ∧ SqL K H s (ns.map V.int) ∧ ns.length ≤ 63 ∧ ∀ (r c : Addr) (H' : Hp), (∀ b o, H b = some o → H' b = some o) → BagAt H' r c → Q (.ref r) H'
def spPick : Sp := fun vs H Q _ => ∃ (a c : Addr) (m : Int), vs = [.ref a, .int m] ∧ BagAt H a c ∧ 0 < m ∧ m < 1000000 ∧ ∀ (r : Int) (H' : Hp), 0 ≤ r → r < m → Go a c H H' → Q (.int r) H'
def spSome : Sp := fun vs H Q _ => ∃ (a c l : Addr) (xs : List V), vs = [.ref a, .ref l] ∧ BagAt H a c ∧ l ≠ a ∧ l ≠ c ∧ H l = some (.lst xs) ∧ xs ≠ [] ∧ xs.length ≤ 1000 ∧ ∀ (x : V) (H' : Hp), x ∈ xs → Go a c H H' → Q x H'
structure Bl (mg : Str → Option Value) : Prop where
  len : mg "len" = none
  int : mg "int" = none
theorem tyes_in {σ : L2.St} {H : Hp} {te : TE} {R : V → Hp → Prop} {N : Hp → Prop} (h : te σ H R) : tYes σ H (fun b H3 => if b = true then te σ H3 R else N H3) := by
  show (if true = true then te σ H R else N H)
  rw [if_pos rfl]
  exact h
section
variable {P : Program} {w : World} {K : PySem.W.Frag} {mg : Str → Option Value} {base : Heap}
theorem scPick : FnScope ["_law_bag_here", "_law_many", "_law_number"] ["_law_bag_here", "_law_many"] (defScope sPick) := ⟨rfl, rfl, rfl, by decide +kernel, rfl, by decide +kernel, by decide +kernel⟩
theorem seq0 {n : Nat} (h : 0 < n) : seqIndex? 0 n = some 0 := by
  unfold seqIndex?
  simp only [show ¬ ((0 : Int) < 0) by decide, if_false]
  rw [if_pos (by simp; omega)]
  rfl
theorem ix0 {n : Nat} (h : 0 < n) : ixN n 0 = some 0 := by
  unfold ixN
  rw [if_pos (by decide), if_pos (by omega)]
  rfl
theorem ok_pick {f : Addr} {fd : FuncData} (F : Fun K "_law_pick" "_law_pick" sPick f fd) (T : Bl mg) : FnOk P w K mg base CX0 1 f fd ["_law_bag_here", "_law_many"] spPick := by
  refine F.ok scPick (fun vs H Q E h => ?_) (fun cdv A outer s H vs Q E hr h => ?_)
  · obtain ⟨a, c, m, rfl, _⟩ := h
    rfl
  · obtain ⟨a, c, m, rfl, bag, hm, hm2, k⟩ := h
    obtain ⟨ns, z, ln, n, h1, h2⟩ := id bag
    have hca := bag.neq
    refine ⟨_, pss_cons (ps_if (pt_cmpR op_eq (pe_ix ix_list (pv 0) pe_int (fun _ _ => rfl)) pe_int (nomark _)) (pss_one (ps_ret pe_int)) pss_nil)
      (pss_cons (ps_if (pt_cmpR op_gt (pe_callB call_len_seq (by rfl) T.len PySem.boot_len (pa_cons (pe_ix ix_list (pv 0) pe_int (fun _ _ => rfl)) pa_nil)) pe_int (nomark _))
        (pss_cons (ps_set (i := 2) scPick.nd rfl (Or.inl rfl) (pe_ix ix_list (pe_ix ix_list (pv 0) pe_int (fun _ _ => rfl)) pe_int (fun _ _ => rfl)))
        (pss_cons (ps_asg (pe_op op_fdiv (pv 2) (pv 1)) (pg_sub (pe_ix ix_list (pv 0) pe_int (fun _ _ => rfl)) pe_int set_list))
        (pss_cons (ps_if (pt_cmpR op_lt (pv 2) (pv 1) (nomark _)) (pss_one (ps_expr (pe_bm PySem.F.plainAttrs_list PySem.F.slot_list_pop PySem.F.type_list_pop mt_popAt (pe_ix ix_list (pv 0) pe_int (fun _ _ => rfl)) (pa_cons pe_int pa_nil)))) pss_nil)
        (pss_one (ps_ret (pe_op op_mod (pe_callTy call_int1 (by rfl) T.int (by decide +kernel) (pa_cons (pv 2) pa_nil)) (pv 1))))))) pss_nil)
      (pss_cons (ps_asg (pe_op op_add (pe_ix ix_list (pv 0) pe_int (fun _ _ => rfl)) pe_int) (pg_sub (pv 0) pe_int set_list))
      (pss_cons (ps_set (i := 2) scPick.nd rfl (Or.inl rfl) (pe_op op_mod (pe_callTy call_int1 (by rfl) T.int (by decide +kernel) (pa_cons (pe_op op_add (pe_op op_mul (pe_op op_add (pe_ix ix_list (pv 0) pe_int (fun _ _ => rfl)) (pe_op op_mul pe_int (pe_ix ix_list (pv 0) pe_int (fun _ _ => rfl)))) pe_int) pe_int) pa_nil)) pe_int))
      (pss_cons (ps_set (i := 2) scPick.nd rfl (Or.inl rfl) (pe_op op_mod (pe_callTy call_int1 (by rfl) T.int (by decide +kernel) (pa_cons (pe_op op_add (pe_op op_mul (pv 2) (pe_op op_add (pe_op op_fdiv (pv 2) pe_int) pe_int)) (pe_ix ix_list (pv 0) pe_int (fun _ _ => rfl))) pa_nil)) pe_int))
      (pss_cons (ps_asg (pe_op op_mod (pe_callTy call_int1 (by rfl) T.int (by decide +kernel) (pa_cons (pe_op op_add (pe_ix ix_list (pv 0) pe_int (fun _ _ => rfl)) (pv 2)) pa_nil)) pe_int) (pg_sub (pv 0) pe_int set_list))
      (pss_one (ps_ret (pe_op op_mod (pe_callTy call_int1 (by rfl) T.int (by decide +kernel) (pa_cons (pe_op op_fdiv (pv 2) pe_int) pa_nil)) (pv 1))))))))), ?_⟩
    refine ⟨_, rfl, _, _, _, _, rfl, rfl, SqL.of h1, rfl, rfl, _, rfl, ?_⟩
    refine ite2 (fun _ => k 0 H (by decide) hm (Go.refl bag)) (fun _ => ?_)
    refine ⟨_, rfl, _, _, _, _, rfl, rfl, SqL.of h1, rfl, c, _, rfl, .inl (SqL.of h2), _, _, rfl, rfl, _, rfl, ?_⟩
    refine ite2 (fun e => ?_) (fun _ => ?_)
    · have pos : 0 < ns.length := by
        have e' := of_decide_eq_true e
        rw [List.length_map] at e'
        omega
      match ns, pos with
      | x :: ns, _ =>
        refine ⟨_, rfl, _, _, _, _, rfl, rfl, SqL.of h1, rfl, c, _, 0, .int x, rfl, rfl, SqL.of h2, at_of (j := 0) rfl rfl, ?_⟩
        refine ⟨_, rfl, _, rfl, _, _, rfl, rfl, ⟨hm, by omega⟩, _, rfl, _, _, _, _, rfl, rfl, SqL.of h1, rfl, c, _, 0, 0, rfl, rfl, h2, ix0 (Nat.succ_pos _), ?_⟩
        have e1 : (List.map V.int (x :: ns)).set 0 (V.int (x / m)) = (x / m :: ns).map V.int := rfl
        have ha1 : (upd H c (.lst ((x / m :: ns).map V.int))) a = some (.lst [.ref c, .int z, .int ln, .int n]) := by rw [upd_ne hca.symm]; exact h1
        refine ⟨_, rfl, _, rfl, _, _, rfl, rfl, _, rfl, ?_⟩
        have fin : ∀ ys : List Int, Go a c H (upd H c (.lst (ys.map V.int))) := fun ys => ⟨⟨ys, z, ln, n, by rw [upd_ne hca.symm]; exact h1, upd_same⟩, fun b o _ nc hb => by rw [upd_ne nc]; exact hb⟩
        refine ite2 (fun _ => ?_) (fun _ => ?_)
        · refine ⟨_, rfl, _, _, _, _, rfl, rfl, SqL.of ha1, rfl, .inl ⟨rfl, _, SqL.of upd_same⟩, c, _, 0, 0, .int (x / m), rfl, rfl, upd_same, by decide, by decide, seq0 (Nat.succ_pos _), rfl, ?_⟩
          refine ⟨_, rfl, .inl ⟨_, rfl, _, rfl, _, _, rfl, rfl, hm, ?_⟩⟩
          rw [upd_upd]
          exact k _ _ (Int.emod_nonneg _ (by omega)) (Int.emod_lt_of_pos _ hm) (fin ns)
        · refine ⟨_, rfl, .inl ⟨_, rfl, _, rfl, _, _, rfl, rfl, hm, ?_⟩⟩
          exact k _ _ (Int.emod_nonneg _ (by omega)) (Int.emod_lt_of_pos _ hm) (fin (x / m :: ns))
    · have fin : ∀ z' n' : Int, Go a c H (upd H a (.lst [.ref c, .int z', .int ln, .int n'])) := fun z' n' => ⟨⟨ns, z', ln, n', upd_same, by rw [upd_ne hca]; exact h2⟩, fun b o na _ hb => by rw [upd_ne na]; exact hb⟩
      refine ⟨_, rfl, _, _, _, _, rfl, rfl, SqL.of h1, rfl, _, _, rfl, rfl, _, rfl, _, _, _, _, rfl, rfl, h1, rfl, ?_⟩
      refine ⟨_, rfl, _, _, _, _, rfl, rfl, SqL.of upd_same, rfl, _, rfl, _, _, _, _, rfl, rfl, SqL.of upd_same, rfl, _, _, rfl, rfl, .inl (by decide), _, _, rfl, rfl, _, _, rfl, rfl, .inr (by decide), _, _, rfl, rfl, .inl ⟨_, rfl, _, _, rfl, rfl, (by show (0 : Int) < 2147483647; decide), ?_⟩⟩
      have b1 := Int.emod_nonneg ((z + 7919 * (n + 1)) * 48271 + 11) (show (2147483647 : Int) ≠ 0 by decide)
      have b2 := Int.emod_lt_of_pos ((z + 7919 * (n + 1)) * 48271 + 11) (show (0 : Int) < 2147483647 by decide)
      refine ⟨_, rfl, _, rfl, _, _, rfl, rfl, ⟨by decide, by decide⟩, _, _, rfl, rfl, _, _, rfl, rfl, .inl ⟨by omega, by omega⟩, _, rfl, _, _, _, _, rfl, rfl, SqL.of upd_same, rfl, _, _, rfl, rfl, .inl ⟨_, rfl, _, _, rfl, rfl, (by show (0 : Int) < 2147483399; decide), ?_⟩⟩
      generalize ((z + 7919 * (n + 1)) * 48271 + 11) % 2147483647 = y1 at *
      refine ⟨_, rfl, _, _, _, _, rfl, rfl, SqL.of upd_same, rfl, _, rfl, _, _, rfl, rfl, .inl ⟨_, rfl, _, _, rfl, rfl, (by show (0 : Int) < 2147483629; decide), _, rfl, _, _, _, _, rfl, rfl, upd_same, rfl, ?_⟩⟩
      refine ⟨_, rfl, _, _, rfl, rfl, ⟨by decide, by decide⟩, .inl ⟨_, rfl, _, rfl, _, _, rfl, rfl, hm, ?_⟩⟩
      rw [upd_upd]
      exact k _ _ (Int.emod_nonneg _ (by omega)) (Int.emod_lt_of_pos _ hm) (fin _ _)
theorem scSome : FnScope ["_law_bag_here", "_law_things"] ["_law_bag_here", "_law_things"] (defScope sSome) := ⟨rfl, rfl, rfl, by decide +kernel, rfl, by decide +kernel, by decide +kernel⟩
theorem ok_some {f : Addr} {fd : FuncData} (F : Fun K "_law_some" "_law_some" sSome f fd) (T : Bl mg) (cD : C8.Cal P w K mg base 1 "_law_pick" spPick []) : FnOk P w K mg base CX0 2 f fd ["_law_bag_here", "_law_things"] spSome := by
  refine F.ok scSome (fun vs H Q E h => ?_) (fun cdv A outer s H vs Q E hr h => ?_)
  · obtain ⟨a, c, l, xs, rfl, _⟩ := h
    rfl
  · obtain ⟨a, c, l, xs, rfl, bag, na, nc, hl, ne, len, k⟩ := h
    refine ⟨_, pss_one (ps_ret (pe_ix ix_list (pv 1) (C8.pe_c cD hr (by decide) (by rfl) (pa_cons (pv 0) (pa_cons (pe_callB call_len_seq (by rfl) T.len PySem.boot_len (pa_cons (pv 1) pa_nil)) pa_nil))) (fun _ _ => rfl))), ?_⟩
    have pos : 0 < xs.length := List.length_pos_iff.mpr ne
    refine ⟨_, rfl, _, rfl, _, rfl, l, xs, rfl, .inl (SqL.of hl), a, c, _, rfl, bag, by omega, by omega, fun r H' h0 hlt go => ?_⟩
    have lt : r.toNat < xs.length := by omega
    refine ⟨l, xs, r, xs[r.toNat], rfl, rfl, SqL.of (go.2 _ _ na nc hl), at_of (j := r.toNat) (by omega) (List.getElem?_eq_getElem lt), ?_⟩
    exact k _ _ (List.getElem_mem lt) go
end
end L40

set_option Elab.async false
set_option linter.all false
set_option maxRecDepth 100000
set_option maxHeartbeats 4000000
set_option pp.maxSteps 60
namespace L40
open PySem L2
abbrev sInteger : Stmt := top 2
abbrev sNumber : Stmt := top 3
/-- built-ins that the text leaves as they are -/
structure Gb (mg : Str → Option Value) : Prop where
  len : mg "len" = none
  int : mg "int" = none
  bool : mg "bool" = none
  isi : mg "isinstance" = none
  tup : mg "tuple" = none
  all : mg "all" = none
  enum : mg "enumerate" = none
  list : mg "list" = none
  rng : mg "range" = none
  min : mg "min" = none
  max : mg "max" = none
  sorted : mg "sorted" = none
  set : mg "set" = none
  str : mg "str" = none
  abs : mg "abs" = none
  ve : mg "ValueError" = none
/-- what is expected of a caller of a plain def -/
abbrev Cal := @C8.Cal
def isI : V → Bool | .int _ => true | _ => false
def isB : V → Bool | .bl _ => true | _ => false
/-- a thing, as isinstance sees it; of a tuple also its items, n deep -/
def Th (K : PySem.W.Frag) (H : Hp) : Nat → V → Prop
  | n, x => ∃ t, TyX K H x t ∧ PySem.W.kitOne K t (.type "int") = some (isI x || isB x) ∧ PySem.W.kitOne K t (.type "bool") = some (isB x) ∧
    ((PySem.W.kitOne K t (.type "tuple") = some false ∧ ∀ a, x = .ref a → ∃ o, H a = some o ∧ ∀ xs, o ≠ .tup xs) ∨ (PySem.W.kitOne K t (.type "tuple") = some true ∧ ∃ a xs, x = .ref a ∧ H a = some (.tup xs) ∧
      match n with | 0 => True | m + 1 => ∀ y ∈ xs, Th K H m y))
theorem Th.zero {K : PySem.W.Frag} {H : Hp} {n : Nat} {x : V} (h : Th K H n x) : Th K H 0 x := by
  unfold Th at h ⊢
  obtain ⟨t, a, b, c, d⟩ := h
  refine ⟨t, a, b, c, ?_⟩
  rcases d with d | ⟨d, a, xs, e, f, _⟩
  · exact .inl d
  · exact .inr ⟨d, a, xs, e, f, True.intro⟩
def numV (m : Int) : V → Bool
  | .int i => decide (0 ≤ i) && decide (i ≤ m)
  | _ => false
theorem numV_true {m : Int} {x : V} : numV m x = true ↔ ∃ i, x = .int i ∧ 0 ≤ i ∧ i ≤ m := by
  cases x <;> simp [numV]
theorem TyOf.ext {K : PySem.W.Frag} {H H' : Hp} {x : V} {t : Value} (h : TyOf K H x t) (e : Ext H H') : TyOf K H' x t := by
  cases h with
  | non => exact .non
  | bl x => exact .bl x
  | int i => exact .int i
  | str x => exact .str x
  | flt x => exact .flt x
  | lst h => exact .lst (e _ _ h)
  | frz h => exact .frz (e _ _ h)
  | tup h => exact .tup (e _ _ h)
  | dK h => exact .dK (e _ _ h)
  | dT h => exact .dT (e _ _ h)
  | ins h c a b d f => exact .ins (e _ _ h) c a b d f
theorem TyX.ext {K : PySem.W.Frag} {H H' : Hp} {x : V} {t : Value} (h : TyX K H x t) (e : Ext H H') : TyX K H' x t := by
  cases h with
  | base h => exact .base (TyOf.ext h e)
  | byt b => exact .byt b
  | set h => exact .set (e _ _ h)
  | kList h c => exact .kList h c
  | kTuple h c => exact .kTuple h c
  | kDict h c => exact .kDict h c
  | fTuple h => exact .fTuple (e _ _ h)
  | fDict h => exact .fDict (e _ _ h)
theorem Th.ext {K : PySem.W.Frag} {H H' : Hp} (e : Ext H H') : ∀ {n : Nat} {x : V}, Th K H n x → Th K H' n x
  | 0, x, h => by
    unfold Th at h ⊢
    obtain ⟨t, a, b, c, d⟩ := h
    refine ⟨t, TyX.ext a e, b, c, ?_⟩
    rcases d with ⟨d, f⟩ | ⟨d, a, xs, g, f, _⟩
    · exact .inl ⟨d, fun a q => let ⟨o, h1, h2⟩ := f a q; ⟨o, e _ _ h1, h2⟩⟩
    · exact .inr ⟨d, a, xs, g, e _ _ f, True.intro⟩
  | n + 1, x, h => by
    unfold Th at h ⊢
    obtain ⟨t, a, b, c, d⟩ := h
    refine ⟨t, TyX.ext a e, b, c, ?_⟩
    rcases d with ⟨d, f⟩ | ⟨d, a, xs, g, f, i⟩
    · exact .inl ⟨d, fun a q => let ⟨o, h1, h2⟩ := f a q; ⟨o, e _ _ h1, h2⟩⟩
    · exact .inr ⟨d, a, xs, g, e _ _ f, fun y hy => Th.ext e (i y hy)⟩
def spInteger (K : PySem.W.Frag) : Sp := fun vs H Q _ => ∃ x : V, vs = [x] ∧ Th K H 0 x ∧ Q (.bl (isI x)) H
def spNumber (K : PySem.W.Frag) : Sp := fun vs H Q _ => ∃ (m : Int) (x : V), vs = [.int m, x] ∧ Th K H 0 x ∧ Q (.bl (numV m x)) H
section
variable {P : Program} {w : World} {K : PySem.W.Frag} {mg : Str → Option Value} {base : Heap}
theorem scInt : FnScope ["thing"] ["thing"] (defScope sInteger) := ⟨rfl, rfl, rfl, by decide +kernel, rfl, by decide +kernel, by decide +kernel⟩
theorem ok_integer {f : Addr} {fd : FuncData} (F : L2.Fun K "is_integer" "is_integer" sInteger f fd) (T : Gb mg) : FnOk P w K mg base CX0 1 f fd ["thing"] (spInteger K) := by
  refine F.ok scInt (fun vs H Q E h => ?_) (fun cdv A outer s H vs Q E hr h => ?_)
  · obtain ⟨x, rfl, _⟩ := h
    rfl
  · obtain ⟨x, rfl, th, k⟩ := h
    unfold Th at th
    obtain ⟨t, ty, ki, kb, _⟩ := th
    refine ⟨_, pss_one (ps_ret (pe_and (pe_callB call_isi (by rfl) T.isi (by decide +kernel) (pa_cons (pv 0) (pa_cons (pe_bltn (v := .ty "int") (by rfl) T.int (by decide +kernel) rfl) pa_nil)))
      (pe_one (pe_not (pe_callB call_isi (by rfl) T.isi (by decide +kernel) (pa_cons (pv 0) (pa_cons (pe_bltn (v := .ty "bool") (by rfl) T.bool (by decide +kernel) rfl) pa_nil))))))), ?_⟩
    refine ⟨_, rfl, x, .ty "int", t, .type "int", _, rfl, .ty _, ty, ki, _, rfl, ?_⟩
    cases x <;> first
      | exact iteF k
      | (refine iteT ⟨_, rfl, _, .ty "bool", t, .type "bool", _, rfl, .ty _, ty, kb, _, rfl, ?_⟩; exact k)
theorem scNum : FnScope ["most", "thing"] ["most", "thing"] (defScope sNumber) := ⟨rfl, rfl, rfl, by decide +kernel, rfl, by decide +kernel, by decide +kernel⟩
theorem ok_number {f : Addr} {fd : FuncData} (F : L2.Fun K "is_number" "is_number" sNumber f fd) (cI : Cal P w K mg base 1 "is_integer" (spInteger K) []) : FnOk P w K mg base CX0 2 f fd ["most", "thing"] (spNumber K) := by
  refine F.ok scNum (fun vs H Q E h => ?_) (fun cdv A outer s H vs Q E hr h => ?_)
  · obtain ⟨m, x, rfl, _⟩ := h
    rfl
  · obtain ⟨m, x, rfl, th, k⟩ := h
    refine ⟨_, pss_one (ps_ret (pe_and (C8.pe_c cI hr (by decide) (by rfl) (pa_cons (pv 1) pa_nil)) (pe_one (pe_chain op_le op_le pe_int (pv 1) (pv 0))))), ?_⟩
    refine ⟨_, rfl, x, rfl, th, _, rfl, ?_⟩
    cases x with
    | int i =>
      refine iteT ⟨_, rfl, _, _, rfl, rfl, _, rfl, ?_⟩
      by_cases h0 : (0 : Int) ≤ i
      · rw [decide_eq_true h0]
        refine iteT ⟨_, rfl, _, _, rfl, rfl, ?_⟩
        have e : numV m (.int i) = decide (i ≤ m) := by simp [numV, h0]
        rw [e] at k
        exact k
      · rw [decide_eq_false h0]
        have e : numV m (.int i) = false := by simp [numV, h0]
        rw [e] at k
        exact iteF k
    | _ => exact iteF k
end
end L40

set_option Elab.async false
set_option linter.all false
set_option maxRecDepth 100000
set_option maxHeartbeats 4000000
/-! enumerate over a tuple that is tracked: the iterator (by the library's WalksT.enumerateD over Draws.tuple), the rule of the layer, the loop. -/
namespace L40
open PySem L2 PyProof.Rows
open PySem.Sem (wp)
theorem en_new (l : Addr) (us : Array Value) (n : Nat) (dd : Option Addr) (sl : Array (Option Value)) :
    Meets (Builtin.«enumerate.__new__» ⟨[.type "enumerate", .ref l], []⟩) fun _ R s => s.heap.get? l = some { cls := .type "tuple", dict := dd, data := .seq us n, slots := sl } ∧
      R (.ok (.ret (.ref (s.heap.objs.size + 1)))) { s with heap := (s.heap.push { cls := .type "tuple_iterator", data := .fields #[.ref l, .int 0 0] }).push { cls := .type "enumerate", data := .fields #[.none, .bool false, .ref s.heap.objs.size, rawInt 0, .none, .none] } } := by
  refine .of_wp fun prog w A R s hh => ?_
  rcases s with ⟨hp, gs, dr, tk, os⟩
  rcases hh with ⟨there, hR⟩
  have isT : Heap.IsTuple (Shared.heap ⟨hp, gs, dr, tk, os⟩) l us := ⟨_, there, rfl, n, rfl⟩
  have same := sub_enumerate
  have big : (hp.push { cls := .type "tuple_iterator", data := .fields #[.ref l, .int 0 0] }).objs.size = hp.objs.size + 1 := Heap.size_push ..
  have hR' : R (.ok (.ret (.ref (hp.push { cls := .type "tuple_iterator", data := .fields #[.ref l, .int 0 0] }).objs.size))) ⟨(hp.push { cls := .type "tuple_iterator", data := .fields #[.ref l, .int 0 0] }).push { cls := .type "enumerate", data := .fields #[.none, .bool false, .ref hp.objs.size, rawInt 0, .none, .none] }, gs, dr, tk, os⟩ := by
    rw [big]; exact hR
  wp_walk using AutoSeq1.wpAny_loadPart' there
  refine wpAny_stack_any fun st => wpAny_pure ?_
  split
  · rename_i c _ _ _ _ _
    cases (c == Value.type "enumerate") <;>
    · wp_walk using AutoSeq1.wpAny_loadPart' there, wpAny_pyIter_tuple isT
      exact ⟨_, rfl, hR'⟩
  · wp_walk using AutoSeq1.wpAny_loadPart' there, wpAny_pyIter_tuple isT
    exact ⟨_, rfl, hR'⟩
theorem call_en {prog : Program} {w : World} {A : Around} {E : Value → Shared → Prop} {s : Shared} {l : Addr} {us : Array Value} {Q : Value → Shared → Prop} (isT : s.heap.IsTuple l us)
    (h : ∀ h' : Heap, IsEnum h' (s.heap.objs.size + 1) s.heap.objs.size 0 .none → h'.IsTupleIter s.heap.objs.size l 0 → (∀ b o, s.heap.get? b = some o → h'.get? b = some o) → Q (.ref (s.heap.objs.size + 1)) { s with heap := h' }) :
    wpAny (model prog w) A (call (.type "enumerate") [.ref l]) Q E s := by
  rcases isT with ⟨⟨c, dd, dt, sl⟩, there, hc, n, hd⟩
  obtain rfl : c = .type "tuple" := hc
  obtain rfl : dt = .seq us n := hd
  refine callType_new F.called_enumerate (by decide) (F.typeCall_enumerate_1 _) (F.newCall_enumerate_1 _) (fun obj => F.args_object_init_2 obj _) F.entry_enumerate_new (en_new l us n dd sl) ⟨there, ?_⟩
  have big : (s.heap.push { cls := .type "tuple_iterator", data := .fields #[.ref l, .int 0 0] }).objs.size = s.heap.objs.size + 1 := Heap.size_push ..
  have en : IsEnum ((s.heap.push { cls := .type "tuple_iterator", data := .fields #[.ref l, .int 0 0] }).push { cls := .type "enumerate", data := .fields #[.none, .bool false, .ref s.heap.objs.size, rawInt 0, .none, .none] }) (s.heap.objs.size + 1) s.heap.objs.size 0 .none := by
    rw [← big]
    exact Heap.get?_push_size _ rfl
  exact ⟨⟨_, en, rfl⟩, h _ en ⟨_, Heap.get?_push_of_some _ (Heap.get?_push_size _ rfl), rfl, rfl⟩ fun b o z => Heap.get?_push_of_some _ (Heap.get?_push_of_some _ z)⟩
/-- the items of the tracked tuple at a, each in a new pair with its number -/
def ItEn (a : Addr) : It where
  go := fun i H => ∃ (xs : List V) (x : V), Rd H a (.tup xs) ∧ xs[i]? = some x
  yld := fun i H v H' => ∃ (p : Addr) (x : V), v = .ref p ∧ H p = none ∧ H' = upd H p (.tup [.int (i : Nat), x]) ∧ ∀ xs, Rd H a (.tup xs) → xs[i]? = some x
  stop := fun i H => ∃ xs : List V, Rd H a (.tup xs) ∧ xs.length = i
def enAt (a e it : Addr) (i : Nat) (h : Heap) : Prop := (∃ old, IsEnum h e it (i : Int) old) ∧ h.IsTupleIter it a i ∧ e ≠ it
section
variable {X : Cx} {pins : List (Addr × Obj)} {σ : L2.St} {H : Hp} {s : Shared} {a e it : Addr} {xs : List V}
/-- the library's walk, at a state that the layer knows -/
theorem en_walk (hc : X.calm = true) (I : Inv X pins σ H s) (hf : ∀ b ∈ [e, it], FpOk X pins H b) (hne : e ≠ it) (hq : Rd H a (.tup xs)) :
    ∃ its : List Value, Vals xs its ∧ s.heap.IsTuple a its.toArray ∧ WalksT X.prog X.w X.A e (e :: [it, a]) [e, it] its.toArray.size (fun i vals => ∃ t x, its.toArray[i]? = some x ∧ vals = #[.int i t, x])
      (fun i h => (∃ old, IsEnum h e it i old) ∧ (h.IsTupleIter it a i ∧ h.IsTuple a its.toArray)) (fun i T h => (∃ x, IsEnumOut h e it ((i : Int) + 1) x T) ∧ (h.IsTupleIter it a (i + 1) ∧ h.IsTuple a its.toArray) ∧ T ≠ e ∧ T ≠ it) := by
  obtain ⟨its, rv, p, _⟩ := I.tuple (show SqT X.K H a xs from .inl hq)
  have un : ∀ b ∈ [e, it], b ≠ a := fun b hb z => by
    have n := (hf b hb).1
    rcases hq with hq | ⟨o, hq⟩ <;> (rw [z, hq] at n; cases n)
  refine ⟨its, rv, p, WalksT.enumerateD (Draws.tuple (A := X.A.in1) (I.ok.hd hc) it a (Ne.symm (un it (by simp))) its.toArray) e hne ?_ (by simp)⟩
  intro z
  rcases List.mem_cons.mp z with z | z
  · exact hne z
  · exact un e (by simp) (List.mem_singleton.mp z)
end
theorem en_turn {P : Program} {w : World} {K : PySem.W.Frag} {elts : List Expr} {kk : Nat} {tpos : Pos} (a e it : Addr) : Turn P w K (.Tuple elts kk tpos) (ItEn a) [e, it] e (enAt a e it) := by
  refine ⟨by simp, fun i h st b hb => ?_, fun i h h' st k => ⟨?_, ?_, st.2.2⟩, ?_, ?_, fun A i s Q E st q => ?_⟩
  · rcases st with ⟨⟨old, en⟩, ⟨ob, there, _, dt⟩, _⟩
    rcases List.mem_cons.mp hb with z | z
    · subst z
      exact ⟨_, en, fun v q => by cases q⟩
    · rw [List.mem_singleton.mp z]
      exact ⟨ob, there, fun v q => by rw [dt] at q; cases q⟩
  · exact st.1.imp fun old en => k e (by simp) _ en
  · exact st.2.1.at fun ob z => k it (by simp) ob z
  · intro X eP eW eK hc i pins s σ H E I hf st go
    subst eP eW eK
    obtain ⟨xs, x, hq, hx⟩ := go
    obtain ⟨its, rv, isT, W⟩ := en_walk hc I hf st.2.2 hq
    obtain ⟨u, hu, ru⟩ := rv.get hx
    have lt : i < its.toArray.size := by simpa using (List.getElem?_eq_some_iff.mp hu).1
    refine W.item i s _ E lt ⟨st.1, st.2.1, isT⟩ fun T vals h1 tk pt big hT mid keep1 => ⟨_, rfl, ?_⟩
    obtain ⟨t, y, hy, rfl⟩ := pt
    obtain rfl : y = u := by
      have hu' : its.toArray[i]? = some u := by simpa using hu
      exact Option.some.inj (hy.symm.trans hu')
    refine W.go elts kk tpos i T { s with heap := h1, toks := tk } _ E mid fun h2 st2 keep2 => ?_
    have nT : T ∉ [e, it] := W.apart i T h1 mid
    have hT2 : h2.IsTuple T #[.int (i : Nat) t, y] := hT.at fun ob z => keep2 T ob nT z
    have J : Inv X pins σ (upd H T (.tup [.int (i : Nat), x])) { s with heap := h2, toks := tk } :=
      I.turnedNew (ch := [e, it]) (fun b ob hb z => keep2 b ob hb (keep1 b ob hb z)) hf big ⟨by show 2 ≤ sizeLine; decide, [.int i t, y], .cons ⟨_, rfl⟩ (.cons ru .nil), hT2⟩
    refine ⟨.ref T, _, J, rfl, ⟨T, x, rfl, I.hok.fresh big, rfl, fun ys hy => by rw [I.tuple_inj (show SqT _ H a ys from .inl hy) (show SqT _ H a xs from .inl hq)]; exact hx⟩, ⟨st2.1, st2.2.1, st.2.2⟩, fun b hb => ?_⟩
    have nb : b ≠ T := fun z => nT (by rw [← z]; exact hb)
    rw [upd_ne nb]
    exact (hf b hb).1
  · intro X eP eW eK hc i pins s σ H E I hf st stop
    subst eP eW eK
    obtain ⟨xs, hq, hl⟩ := stop
    obtain ⟨its, rv, isT, W⟩ := en_walk hc I hf st.2.2 hq
    have ei : its.toArray.size = i := by
      rw [← hl, rv.length]
      simp
    refine W.done s _ E ?_ fun h1 tk keep => ⟨rfl, ?_⟩
    · rw [ei]
      exact ⟨st.1, st.2.1, isT⟩
    · exact I.turnedL (ch := [e, it]) keep hf
  · exact wpAny_pyIter_enum st.1.choose_spec q
def iEn (ta : TA) : TI := fun σ H R => ta σ H fun vs H1 => ∃ (a : Addr) (xs : List V), vs = [.ref a] ∧ Rd H1 a (.tup xs) ∧ R (ItEn a) H1
/-- for .., .. in enumerate(a tuple) -/
theorem pi_en {X : Cx} {e : Expr} {ta : TA} {p pos tpos : Pos} {elts : List Expr} {kk : Nat} (hg : Gl X "enumerate") (hm : X.mg "enumerate" = none) (ha : PA X [e] ta) (hs : starEach [e] X.env = [(false, eval e X.env)] := by rfl) :
    PI X (.Tuple elts kk tpos) (.Call (.Name "enumerate" p) [e] [] pos) (iEn ta) := by
  constructor
  intro pins s σ H R I h
  refine Call_ (ld_blt I hg hm boot_enumerate (PyProof.Rows.callWith_type1 (thn (ha.run pos pins s σ H _ I h) ?_) hs rfl))
  rintro us s1 ⟨vs, H1, I1, r, a, xs, rfl, hq, q⟩
  match us, r with
  | [u], .cons ru .nil =>
    obtain rfl : u = Value.ref a := ru
    obtain ⟨its, rv, isT, _⟩ := I1.tuple (show SqT X.K H1 a xs from .inl hq)
    refine call_en isT fun h1 en ti keep => wpAny_pyIter_enum en ?_
    refine ⟨_, [s1.heap.objs.size + 1, s1.heap.objs.size], _, _, H1, rfl, I1.kept (t' := s1.toks) keep, en_turn a _ _, ⟨⟨.none, en⟩, ti, Nat.succ_ne_self _⟩, fun b hb => ?_, q⟩
    have big : s1.heap.objs.size ≤ b := by
      rcases List.mem_cons.mp hb with z | z
      · rw [z]; exact Nat.le_succ _
      · rw [List.mem_singleton.mp z]; exact Nat.le_refl _
    exact I1.fpOk big (I1.hok.fresh big)
/-- the loop by an invariant of its own -/
theorem for_en {a : Addr} {xs : List V} {g : TG} {tb : TS} {D : Ends} {σ : L2.St} {H : Hp} (Pv : Nat → L2.St → Hp → Prop) (h0 : Pv 0 σ H) (hl : ∀ i σ H, Pv i σ H → Rd H a (.tup xs))
    (hs : ∀ (i : Nat) x σ H p, xs[i]? = some x → Pv i σ H → H p = Option.none → g (.ref p) σ (upd H p (.tup [.int (i : Nat), x])) fun σ2 H2 => tb { D with nx := Pv (i + 1), ct := Pv (i + 1), bk := D.nx } σ2 H2) (hd : ∀ σ H, Pv xs.length σ H → D.nx σ H) :
    ∃ W : Nat → Nat → L2.St → Hp → Prop, (∃ m, W 0 m σ H) ∧ ∀ i m σ H, W i m σ H → ((ItEn a).stop i H ∧ D.nx σ H) ∨ ((ItEn a).go i H ∧ ∃ N : L2.St → Hp → Prop, (∀ σ' H', N σ' H' → ∃ m', m' < m ∧ W (i + 1) m' σ' H') ∧ ∀ x H', (ItEn a).yld i H x H' → g x σ H' fun σ2 H2 => tb { D with nx := N, ct := N, bk := D.nx } σ2 H2) := by
  refine ⟨fun i m σ H => i + m = xs.length ∧ Pv i σ H, ⟨_, Nat.zero_add _, h0⟩, ?_⟩
  intro i m σ H ⟨em, p⟩
  have q := hl i σ H p
  cases m with
  | zero =>
    have ei : i = xs.length := em
    rw [ei] at p ⊢
    exact .inl ⟨⟨xs, q, rfl⟩, hd σ H p⟩
  | succ m =>
    have lt : i < xs.length := by omega
    have hx : xs[i]? = some xs[i] := List.getElem?_eq_getElem lt
    refine .inr ⟨⟨xs, _, q, hx⟩, Pv (i + 1), fun σ' H' p' => ⟨m, Nat.lt_succ_self m, by omega, p'⟩, ?_⟩
    rintro y H' ⟨t, x, rfl, nt, rfl, hy⟩
    obtain rfl : x = xs[i] := Option.some.inj ((hy xs q).symm.trans hx)
    exact hs i _ σ H t hx p nt
end L40

set_option Elab.async false
set_option linter.all false
set_option maxRecDepth 100000
set_option maxHeartbeats 4000000
set_option pp.maxSteps 60
namespace L40
open PySem L2
/-- what is tracked but for the bag -/
def Off (a c : Addr) (H : Hp) : Hp := fun b => if b = a ∨ b = c then none else H b
theorem off_at {a c b : Addr} {H : Hp} {o : HO} (h : b ≠ a ∧ b ≠ c) (e : H b = some o) : Off a c H b = some o := by
  unfold Off
  rw [if_neg (fun z => z.elim h.1 h.2)]
  exact e
theorem off_some {a c b : Addr} {H : Hp} {o : HO} (h : Off a c H b = some o) : b ≠ a ∧ b ≠ c ∧ H b = some o := by
  unfold Off at h
  by_cases e : b = a ∨ b = c
  · rw [if_pos e] at h; cases h
  · rw [if_neg e] at h; exact ⟨fun z => e (.inl z), fun z => e (.inr z), h⟩
theorem Go.off {a c : Addr} {H H' : Hp} (g : Go a c H H') : Ext (Off a c H) (Off a c H') := fun b o h => by
  obtain ⟨n, m, e⟩ := off_some h
  exact off_at ⟨n, m⟩ (g.2 b o n m e)
theorem off_le {a c : Addr} {H : Hp} : Ext (Off a c H) H := fun b o h => (off_some h).2.2
theorem off_tup {a c q : Addr} {H : Hp} {xs : List V} (p : BagAt H a c) (h : H q = some (.tup xs)) : (Off a c H) q = some (.tup xs) := off_at (bag_no p h fun _ z => nomatch z) h
/-! ### kinds of things -/
section
variable {K : PySem.W.Frag} {S : Hp} {n : Nat}
theorem Th.plain {x : V} {t : Value} (ty : TyX K S x t) (h1 : PySem.W.kitOne K t (.type "int") = some (isI x || isB x)) (h2 : PySem.W.kitOne K t (.type "bool") = some (isB x)) (h3 : PySem.W.kitOne K t (.type "tuple") = some false)
    (h : ∀ a, x = .ref a → ∃ o, S a = some o ∧ ∀ xs, o ≠ .tup xs) : Th K S n x := by
  unfold Th
  exact ⟨t, ty, h1, h2, .inl ⟨h3, h⟩⟩
theorem Th.non : Th K S n .non := Th.plain (.base .non) (kit_ty (by decide +kernel)) (kit_ty (by decide +kernel)) (kit_ty (by decide +kernel)) fun _ h => nomatch h
theorem Th.bl (b : Bool) : Th K S n (.bl b) := Th.plain (.base (.bl b)) (kit_ty (show kitB "bool" "int" = some true by decide +kernel)) (kit_ty (show kitB "bool" "bool" = some true by decide +kernel)) (kit_ty (by decide +kernel)) fun _ h => nomatch h
theorem Th.int (i : Int) : Th K S n (.int i) := Th.plain (.base (.int i)) (kit_ty (show kitB "int" "int" = some true by decide +kernel)) (kit_ty (show kitB "int" "bool" = some false by decide +kernel)) (kit_ty (by decide +kernel)) fun _ h => nomatch h
theorem Th.str (z : Str) : Th K S n (.str z) := Th.plain (.base (.str z)) (kit_ty (show kitB "str" "int" = some false by decide +kernel)) (kit_ty (show kitB "str" "bool" = some false by decide +kernel)) (kit_ty (by decide +kernel)) fun _ h => nomatch h
theorem Th.lst {p : Addr} {xs : List V} (h : S p = some (.lst xs)) : Th K S n (.ref p) :=
  Th.plain (.base (.lst h)) (kit_ty (show kitB "list" "int" = some false by decide +kernel)) (kit_ty (show kitB "list" "bool" = some false by decide +kernel)) (kit_ty (by decide +kernel)) fun a e => by cases e; exact ⟨_, h, fun _ z => nomatch z⟩
theorem Th.dct {p : Addr} {kvs : List (Key × V)} (h : S p = some (.dK kvs)) : Th K S n (.ref p) :=
  Th.plain (.base (.dK h)) (kit_ty (show kitB "dict" "int" = some false by decide +kernel)) (kit_ty (show kitB "dict" "bool" = some false by decide +kernel)) (kit_ty (by decide +kernel)) fun a e => by cases e; exact ⟨_, h, fun _ z => nomatch z⟩
theorem Th.tup {p : Addr} {xs : List V} (h : S p = some (.tup xs)) (it : ∀ y ∈ xs, Th K S n y) : Th K S (n + 1) (.ref p) := by
  unfold Th
  exact ⟨_, .base (.tup h), kit_ty (show kitB "tuple" "int" = some false by decide +kernel), kit_ty (show kitB "tuple" "bool" = some false by decide +kernel), .inr ⟨kit_ty (by decide +kernel), p, xs, rfl, h, it⟩⟩
end
theorem Th.tup0 {K : PySem.W.Frag} {S : Hp} {p : Addr} {xs : List V} (h : S p = some (.tup xs)) : Th K S 0 (.ref p) := by
  unfold Th
  exact ⟨_, .base (.tup h), kit_ty (show kitB "tuple" "int" = some false by decide +kernel), kit_ty (show kitB "tuple" "bool" = some false by decide +kernel), .inr ⟨kit_ty (by decide +kernel), p, xs, rfl, h, True.intro⟩⟩
theorem eqv_ints : ∀ l k : List Int, PyData.eqvAll (l.map .int) (k.map .int) = decide (l = k)
  | [], [] => by simp [PyData.eqvAll]
  | [], y :: k => by simp [PyData.eqvAll]
  | x :: l, [] => by simp [PyData.eqvAll]
  | x :: l, y :: k => by
    have ih := eqv_ints l k
    simp only [List.map_cons, PyData.eqvAll, PyData.eqv, ih]
    by_cases h : x = y <;> by_cases g : l = k <;> simp [h, g]
def dT (ll : List (List Int)) : PyData := .tuple (ll.map fun l => .tuple (l.map .int))
theorem eqv_lists : ∀ l k : List (List Int), PyData.eqvAll (l.map fun l => .tuple (l.map .int)) (k.map fun l => .tuple (l.map .int)) = decide (l = k)
  | [], [] => by simp [PyData.eqvAll]
  | [], y :: k => by simp [PyData.eqvAll]
  | x :: l, [] => by simp [PyData.eqvAll]
  | x :: l, y :: k => by
    have ih := eqv_lists l k
    simp only [List.map_cons, PyData.eqvAll, PyData.eqv, ih, eqv_ints]
    by_cases h : x = y <;> by_cases g : l = k <;> simp [h, g]
theorem eqv_dT (l k : List (List Int)) : PyData.eqv (dT l) (dT k) = decide (l = k) := by
  show PyData.eqvAll _ _ = _
  exact eqv_lists l k
theorem lay_ints : ∀ l : List Int, PyData.canLayAll0 (l.map .int) = true ∧ PyData.depthAll (l.map .int) = 0
  | [] => ⟨by simp [PyData.canLayAll0], by simp [PyData.depthAll]⟩
  | x :: l => by
    obtain ⟨h, g⟩ := lay_ints l
    exact ⟨by simp [PyData.canLayAll0, PyData.canLay0, h], by simp [PyData.depthAll, PyData.depth, g]⟩
theorem lay_lists : ∀ l : List (List Int), PyData.canLayAll0 (l.map fun l => .tuple (l.map .int)) = true ∧ PyData.depthAll (l.map fun l => .tuple (l.map .int)) ≤ 1
  | [] => ⟨by simp [PyData.canLayAll0], by simp [PyData.depthAll]⟩
  | x :: l => by
    obtain ⟨h, g⟩ := lay_lists l
    obtain ⟨h1, g1⟩ := lay_ints x
    refine ⟨by simp [PyData.canLayAll0, PyData.canLay0, h, h1], ?_⟩
    simp only [List.map_cons, PyData.depthAll, PyData.depth, g1]
    omega
theorem shaped_dT (l : List (List Int)) : SeqAt.shaped (dT l) = true := by
  obtain ⟨h, g⟩ := lay_lists l
  refine Bool.and_eq_true_iff.mpr ⟨by unfold dT; rw [PyData.canLay0]; exact h, decide_eq_true ?_⟩
  unfold dT
  rw [PyData.depth]
  exact Nat.le_trans (Nat.succ_le_succ g) (by decide)
/-- a tuple of tuples of ints stands at b -/
def TT (H : Hp) (b : Addr) (ll : List (List Int)) : Prop := ∃ as : List Addr, H b = some (.tup (as.map V.ref)) ∧ Paired (fun a l => H a = some (.tup (l.map V.int))) as ll
theorem Paired.imp' {α β : Type} {F G : α → β → Prop} (h : ∀ a b, F a b → G a b) : ∀ {l : List α} {k : List β}, Paired F l k → Paired G l k
  | _, _, .nil => .nil
  | _, _, .cons a r => .cons (h _ _ a) (Paired.imp' h r)
theorem TT.ext {H H' : Hp} {b : Addr} {ll : List (List Int)} (e : Ext H H') (h : TT H b ll) : TT H' b ll := by
  obtain ⟨as, h1, h2⟩ := h
  exact ⟨as, e _ _ h1, Paired.imp' (fun a l h => e _ _ h) h2⟩
theorem dp_ints {K : PySem.W.Frag} {H : Hp} : ∀ l : List Int, DpAll K H (l.map V.int) (l.map .int)
  | [] => .nil
  | x :: l => .cons (.int x) (dp_ints l)
theorem dp_lists {K : PySem.W.Frag} {H : Hp} : ∀ {as : List Addr} {ll : List (List Int)}, Paired (fun a l => H a = some (.tup (l.map V.int))) as ll → DpAll K H (as.map V.ref) (ll.map fun l => .tuple (l.map .int))
  | _, _, .nil => .nil
  | _, _, .cons h r => .cons (.tup (SqT.of h) (dp_ints _)) (dp_lists r)
theorem TT.dp {K : PySem.W.Frag} {H : Hp} {b : Addr} {ll : List (List Int)} (h : TT H b ll) : Dp K H (.ref b) (dT ll) := by
  obtain ⟨as, h1, h2⟩ := h
  exact .tup (SqT.of h1) (dp_lists h2)
/-- the tuples at these places are these -/
abbrev PT2 (S : Hp) (as : List Addr) (ll : List (List Int)) : Prop := Paired (fun a l => S a = some (.tup (l.map V.int))) as ll
theorem PT2.len {S : Hp} : ∀ {as : List Addr} {ll : List (List Int)}, PT2 S as ll → as.length = ll.length
  | _, _, .nil => rfl
  | _, _, .cons _ r => congrArg (· + 1) (PT2.len r)
theorem PT2.get {S : Hp} : ∀ {as : List Addr} {ll : List (List Int)} {i : Nat} {a : Addr}, PT2 S as ll → as[i]? = some a → ∃ l, ll[i]? = some l ∧ S a = some (.tup (l.map V.int))
  | _, _, i, _, .nil, h => by simp at h
  | _, _, 0, _, .cons x _, h => by cases h; exact ⟨_, rfl, x⟩
  | _, _, i + 1, _, .cons _ r, h => PT2.get (i := i) r (by simpa using h)
theorem PT2.put {S : Hp} {b : Addr} {l : List Int} (h : S b = some (.tup (l.map V.int))) : ∀ {as : List Addr} {ll : List (List Int)} {i : Nat}, PT2 S as ll → PT2 S (as.set i b) (ll.set i l)
  | _, _, i, .nil => by simpa using (Paired.nil)
  | _, _, 0, .cons _ r => .cons h r
  | _, _, i + 1, .cons x r => .cons x (PT2.put h r)
theorem PT2.snoc {S : Hp} {b : Addr} {l : List Int} {as : List Addr} {ll : List (List Int)} (r : PT2 S as ll) (h : S b = some (.tup (l.map V.int))) : PT2 S (as ++ [b]) (ll ++ [l]) := Paired.snoc r h
theorem PT2.mono {S S' : Hp} {as : List Addr} {ll : List (List Int)} (e : ∀ b xs, S b = some (.tup xs) → S' b = some (.tup xs)) (r : PT2 S as ll) : PT2 S' as ll := Paired.imp' (fun a l h => e _ _ h) r
theorem PT2.th {K : PySem.W.Frag} {S : Hp} {n : Nat} {as : List Addr} {ll : List (List Int)} (r : PT2 S as ll) : ∀ y ∈ as.map V.ref, Th K S (n + 1) y := by
  intro y hy
  obtain ⟨a, ha, rfl⟩ := List.mem_map.mp hy
  obtain ⟨i, hi⟩ := List.mem_iff_getElem?.mp ha
  obtain ⟨l, _, h⟩ := r.get hi
  refine Th.tup h fun z hz => ?_
  obtain ⟨k, _, rfl⟩ := List.mem_map.mp hz
  exact Th.int k
/-- two tuples put together, whichever object that is -/
theorem cat_any {K : PySem.W.Frag} {H : Hp} {Q : VK} {a b : Addr} {xs ys : List V} (ha : H a = some (.tup xs)) (hb : H b = some (.tup ys)) (len : xs.length + ys.length ≤ 1000) (k : ∀ (p : Addr) (H' : Hp), Ext H H' → H' p = some (.tup (xs ++ ys)) → Q (.ref p) H') : rCatA K (.ref a) (.ref b) H Q :=
  ⟨a, b, xs, ys, rfl, rfl, SqT.of ha, SqT.of hb, Nat.le_trans len (by decide), fun e => by subst e; exact k b H Ext.rfl' hb, fun _ e => by subst e; exact k a H Ext.rfl' (by rw [List.append_nil]; exact ha), fun _ _ p np => k p _ (Ext.upd np) upd_same⟩
theorem sl_any {K : PySem.W.Frag} {H : Hp} {Q : VK} {a : Addr} {xs : List V} {lo hi : Option Int} (ha : H a = some (.tup xs)) (k : ∀ (p : Addr) (H' : Hp), Ext H H' → H' p = some (.tup (cutV xs lo hi)) → Q (.ref p) H') : rSlA K (.ref a) lo hi H Q := by
  refine ⟨a, xs, rfl, SqT.of ha, fun z => k a H Ext.rfl' ?_, fun _ p np => k p _ (Ext.upd np) upd_same⟩
  unfold cutV
  rw [z.1, z.2, List.drop_zero, Nat.sub_zero, List.take_of_length_le (Nat.le_refl _)]
  exact ha
theorem cut_mem {xs : List V} {lo hi : Option Int} {y : V} (h : y ∈ cutV xs lo hi) : y ∈ xs := List.mem_of_mem_drop (List.mem_of_mem_take h)
theorem Th.tup_back {K : PySem.W.Frag} {H H1 : Hp} {n : Nat} {b : Addr} {xs : List V} (e : Ext H H1) (h : Th K H n (.ref b)) (h1 : H1 b = some (.tup xs)) : H b = some (.tup xs) := by
  unfold Th at h
  obtain ⟨t, _, _, _, h⟩ := h
  rcases h with ⟨_, h⟩ | ⟨_, b', ys, e', hb, _⟩
  · obtain ⟨o, ho, no⟩ := h b rfl
    rw [e _ _ ho] at h1
    cases h1
    exact absurd rfl (no xs)
  · cases e'
    have := (e _ _ hb).symm.trans h1
    cases this
    exact hb
theorem lst_ne {H : Hp} {f b : Addr} {xs ys : List V} (hf : H f = some (.lst xs)) (hb : H b = some (.tup ys)) : b ≠ f := fun e => by
  rw [e, hf] at hb
  cases hb
theorem int_inj : ∀ {ns ks : List Int}, ns.map V.int = ks.map V.int → ns = ks
  | [], [], _ => rfl
  | n :: ns, k :: ks, h => by
    injection h with h1 h2
    injection h1 with h1
    rw [h1, int_inj h2]
  | [], k :: ks, h => by cases h
  | n :: ns, [], h => by cases h
end L40

set_option Elab.async false
set_option linter.all false
set_option maxRecDepth 100000
set_option maxHeartbeats 4000000
set_option pp.maxSteps 60
/-! Cells and their faces. -/
namespace L40
open PySem L2
abbrev sAsc : Stmt := top 5
abbrev sCell : Stmt := top 24
abbrev sFaces : Stmt := top 25
abbrev sLFaces : Stmt := top 32
/-! ### in, of a tuple through and through -/
def rInT (K : PySem.W.Frag) : R2 := fun x y H Q => ∃ d ds, Dp K H x d ∧ Dp K H y (.tuple ds) ∧ SeqAt.shaped d = true ∧ SeqAt.shaped (.tuple ds) = true ∧ Q (.bl (ds.any fun z => PyData.eqv z d)) H
theorem op_inT {X : Cx} (hu : X.A.units + 65 < cLine) : OpR X (compareOp .In) (rInT X.K) := by
  rintro pins s σ H x y v u Q I rx ry ⟨d, ds, hd, he, sd, se, q⟩
  obtain ⟨as, r1⟩ := Dp.reads I d x v hd rx
  obtain ⟨bs, r2⟩ := Dp.reads I (.tuple ds) y u he ry
  exact SeqAt.in_tuple_reads r2 r1 (SeqAt.canLay_of_shaped se) (SeqAt.canLay_of_shaped sd) (PyProof.Rows.room_in_shaped sd hu) ⟨.bl _, H, I, rfl, q⟩
def tI (l : List Int) : PyData := .tuple (l.map .int)
theorem shaped_tI (l : List Int) : SeqAt.shaped (tI l) = true := by
  obtain ⟨h, g⟩ := lay_ints l
  unfold tI
  refine Bool.and_eq_true_iff.mpr ⟨by rw [PyData.canLay0]; exact h, decide_eq_true ?_⟩
  rw [PyData.depth, g]
  decide
theorem shaped_dL (l : List (List Int)) : SeqAt.shaped (.list (l.map tI)) = true := by
  obtain ⟨h, g⟩ := lay_lists l
  refine Bool.and_eq_true_iff.mpr ⟨by rw [PyData.canLay0]; exact h, decide_eq_true ?_⟩
  rw [PyData.depth]
  exact Nat.le_trans (Nat.succ_le_succ g) (by decide)
theorem eqv_tI (l k : List Int) : PyData.eqv (tI l) (tI k) = decide (l = k) := by
  unfold tI
  rw [PyData.eqv]
  exact eqv_ints l k
theorem any_tI (ll : List (List Int)) (l : List Int) : ((ll.map tI).any fun z => PyData.eqv z (tI l)) = decide (l ∈ ll) := by
  induction ll with
  | nil => simp
  | cons k ll ih =>
    rw [List.map_cons, List.any_cons, ih, eqv_tI]
    by_cases h : k = l
    · simp [h]
    · have h' : ¬ l = k := fun e => h e.symm
      simp [h, h']
theorem dp_tI {K : PySem.W.Frag} {H : Hp} {c : Addr} {l : List Int} (h : H c = some (.tup (l.map V.int))) : Dp K H (.ref c) (tI l) := .tup (SqT.of h) (dp_ints l)
theorem dp_lst {K : PySem.W.Frag} {H : Hp} {c : Addr} {as : List Addr} {ll : List (List Int)} (h : H c = some (.lst (as.map V.ref))) (pt : PT2 H as ll) : Dp K H (.ref c) (.list (ll.map tI)) := .lst (SqL.of h) (dp_lists pt)
/-- a cell in a tuple of cells, in a list of cells -/
theorem in_T {K : PySem.W.Frag} {H : Hp} {c q : Addr} {l : List Int} {ll : List (List Int)} {Q : VK} (h : H c = some (.tup (l.map V.int))) (tt : TT H q ll) (k : Q (.bl (decide (l ∈ ll))) H) : rInT K (.ref c) (.ref q) H Q :=
  ⟨tI l, ll.map tI, dp_tI h, tt.dp, shaped_tI l, shaped_dT ll, by rw [any_tI]; exact k⟩
theorem in_L {K : PySem.W.Frag} {H : Hp} {c q : Addr} {l : List Int} {as : List Addr} {ll : List (List Int)} {Q : VK} (h : H c = some (.tup (l.map V.int))) (hq : H q = some (.lst (as.map V.ref))) (pt : PT2 H as ll) (k : Q (.bl (decide (l ∈ ll))) H) : rInD K (.ref c) (.ref q) H Q :=
  ⟨tI l, ll.map tI, dp_tI h, dp_lst hq pt, shaped_tI l, shaped_dL ll, by rw [any_tI]; exact k⟩
theorem notin_L {K : PySem.W.Frag} {H : Hp} {c q : Addr} {l : List Int} {as : List Addr} {ll : List (List Int)} {Q : VK} (h : H c = some (.tup (l.map V.int))) (hq : H q = some (.lst (as.map V.ref))) (pt : PT2 H as ll) (k : Q (.bl (!decide (l ∈ ll))) H) : rNotInD K (.ref c) (.ref q) H Q :=
  ⟨tI l, ll.map tI, dp_tI h, dp_lst hq pt, shaped_tI l, shaped_dL ll, by rw [any_tI]; exact k⟩
/-! ### what a cell is -/
def CellL (ns : List Int) : Prop := 1 ≤ ns.length ∧ ns.length ≤ 4 ∧ (∀ n ∈ ns, 0 ≤ n ∧ n ≤ 29) ∧ ns.Pairwise (· < ·)
def Low (ns : List Int) : Prop := (∀ n ∈ ns, 0 ≤ n ∧ n ≤ 29) ∧ ns.Pairwise (· < ·)
def isCell (H : Hp) (x : V) : Prop := ∃ (c : Addr) (ns : List Int), x = .ref c ∧ H c = some (.tup (ns.map V.int)) ∧ CellL ns
def isLow (H : Hp) (x : V) : Prop := ∃ (c : Addr) (ns : List Int), x = .ref c ∧ H c = some (.tup (ns.map V.int)) ∧ Low ns
theorem isCell.ext {H H' : Hp} {x : V} (e : Ext H H') (h : isCell H x) : isCell H' x := by
  obtain ⟨c, ns, ex, hc, r⟩ := h
  exact ⟨c, ns, ex, e _ _ hc, r⟩
theorem isCell.back {K : PySem.W.Frag} {H H1 : Hp} {n : Nat} {x : V} (e : Ext H H1) (h : Th K H n x) (h1 : isCell H1 x) : isCell H x := by
  obtain ⟨c, ns, rfl, hc, r⟩ := h1
  exact ⟨c, ns, rfl, h.tup_back e hc, r⟩
/-- tuples are not too long -/
def Sm (H : Hp) (x : V) : Prop := ∀ (c : Addr) (xs : List V), x = .ref c → H c = some (.tup xs) → xs.length ≤ 1000
theorem Sm.ext {K : PySem.W.Frag} {H H' : Hp} {n : Nat} {x : V} (e : Ext H H') (h : Th K H n x) (s : Sm H x) : Sm H' x := fun c xs ex hc => by
  subst ex
  exact s c xs rfl (h.tup_back e hc)
theorem adj_pairwise : ∀ (ns : List Int), (∀ p ∈ ns.zip ns.tail, p.1 < p.2) ↔ ns.Pairwise (· < ·)
  | [] => by simp
  | [n] => by simp
  | n :: m :: r => by
    have ih := adj_pairwise (m :: r)
    constructor
    · intro h
      have hm : n < m := h (n, m) (by simp)
      have hr := ih.mp fun p hp => h p (by
        show p ∈ (n, m) :: (m :: r).zip r
        exact List.mem_cons_of_mem _ hp)
      refine List.pairwise_cons.mpr ⟨fun a ha => ?_, hr⟩
      rcases List.mem_cons.mp ha with rfl | ha
      · exact hm
      · exact Int.lt_trans hm ((List.pairwise_cons.mp hr).1 a ha)
    · intro h p hp
      obtain ⟨h1, h2⟩ := List.pairwise_cons.mp h
      have hp' : p ∈ (n, m) :: (m :: r).zip r := hp
      rcases List.mem_cons.mp hp' with rfl | hp'
      · exact h1 m List.mem_cons_self
      · exact ih.mpr h2 p hp'
def facesL (ns : List Int) : List (List Int) := if ns.length = 1 then [] else (List.range ns.length).map fun i => ns.eraseIdx i
def allF (ns : List Int) : List (List Int) := (List.range ns.length).map fun i => ns.eraseIdx i
theorem allF_get {ns : List Int} {i : Nat} (h : i < ns.length) : (allF ns)[i]? = some (ns.eraseIdx i) := by
  unfold allF
  rw [List.getElem?_map, List.getElem?_range h]
  rfl
theorem cut_erase {ns : List Int} {i : Nat} (h : i < ns.length) : cutV (ns.map V.int) none (some (i : Int)) ++ cutV (ns.map V.int) (some ((i : Int) + 1)) none = (ns.eraseIdx i).map V.int := by
  have e1 : HT.sIx (ns.map V.int).length (ns.map V.int).length (some (i : Int)) = i := by
    rw [HT.sIx_nat, List.length_map]
    omega
  have e2 : HT.sIx (ns.map V.int).length 0 (some ((i : Int) + 1)) = i + 1 := by
    rw [show ((i : Int) + 1) = ((i + 1 : Nat) : Int) by omega, HT.sIx_nat, List.length_map]
    omega
  unfold cutV
  rw [e1, e2, HT.sIx_none, HT.sIx_none, List.drop_zero, Nat.sub_zero, List.eraseIdx_eq_take_drop_succ, List.map_append, List.map_take, List.map_drop, List.take_of_length_le (l := (ns.map V.int).drop (i + 1))]
  rw [List.length_drop]
  exact Nat.le_refl _
/-- zip of a tuple and a shorter one -/
theorem lc_zipM {K : PySem.W.Frag} {a b : Addr} {xs ys : List V} {g : TG} {tt : L2.TT} {te : TE} {vs : List Nat} {τ : L2.St} {H1 : Hp} {D : Addr} {Qd : Hp → Prop} (len : ys.length ≤ xs.length) (Pv : Nat → Hp → Prop) (h0 : Pv 0 (upd H1 D (.lst [])))
    (hq : ∀ i H, Pv i H → SqT K H a xs ∧ SqT K H b ys)
    (hs : ∀ i x y t H, xs[i]? = some x → ys[i]? = some y → Pv i H → H t = none → g (.ref t) (wipe τ vs) (upd H t (.tup [x, y])) fun σ2 H2 => wipe σ2 vs = wipe τ vs ∧ tt σ2 H2 fun c H3 =>
      if c = true then te σ2 H3 fun z H4 => ∃ acc, H4 D = some (.lst acc) ∧ acc.length < sizeLine ∧ Pv (i + 1) (upd H4 D (.lst (acc ++ [z]))) else Pv (i + 1) H3) (hd : ∀ H, Pv ys.length H → Qd H) :
    ∃ W : Nat → Nat → Hp → Prop, (∃ m, W 0 m (upd H1 D (.lst []))) ∧ ∀ i m H, W i m H →
      ((RZ.ItzT K a b).stop i H ∧ Qd H) ∨ ((RZ.ItzT K a b).go i H ∧ ∃ Nx : Hp → Prop, (∀ H', Nx H' → ∃ m', m' < m ∧ W (i + 1) m' H') ∧ ∀ x H', (RZ.ItzT K a b).yld i H x H' → g x (wipe τ vs) H' fun σ2 H2 => wipe σ2 vs = wipe τ vs ∧ tt σ2 H2 fun c H3 =>
        if c = true then te σ2 H3 fun z H4 => ∃ acc, H4 D = some (.lst acc) ∧ acc.length < sizeLine ∧ Nx (upd H4 D (.lst (acc ++ [z]))) else Nx H3) := by
  refine ⟨fun i m H => m + i = ys.length ∧ Pv i H, ⟨ys.length, rfl, h0⟩, ?_⟩
  rintro i m H ⟨em, p⟩
  obtain ⟨qa, qb⟩ := hq i H p
  cases m with
  | zero =>
    have e : i = ys.length := by omega
    subst e
    exact .inl ⟨⟨xs, ys, qa, qb, .inr (Nat.le_refl _)⟩, hd H p⟩
  | succ k =>
    have lb : i < ys.length := by omega
    have la : i < xs.length := by omega
    have ea : xs[i]? = some xs[i] := List.getElem?_eq_getElem la
    have eb : ys[i]? = some ys[i] := List.getElem?_eq_getElem lb
    refine .inr ⟨⟨xs, ys, _, _, qa, qb, ea, eb⟩, Pv (i + 1), fun H' p' => ⟨k, Nat.lt_succ_self k, by omega, p'⟩, fun v H' y => ?_⟩
    obtain ⟨t, x', y', rfl, nt, rfl, f1, f2⟩ := y
    exact hs i x' y' t H (f1 xs qa) (f2 ys qb) p nt
theorem low_ints : ∀ {xs : List V}, (∀ y ∈ xs, numV 29 y = true) → ∃ ns : List Int, xs = ns.map V.int ∧ ∀ n ∈ ns, 0 ≤ n ∧ n ≤ 29
  | [], _ => ⟨[], rfl, fun n h => by cases h⟩
  | y :: ys, h => by
    obtain ⟨i, rfl, h1, h2⟩ := numV_true.mp (h y List.mem_cons_self)
    obtain ⟨ns, rfl, h3⟩ := low_ints (xs := ys) fun z hz => h z (List.mem_cons_of_mem _ hz)
    refine ⟨i :: ns, rfl, fun n hn => ?_⟩
    rcases List.mem_cons.mp hn with rfl | hn
    · exact ⟨h1, h2⟩
    · exact h3 n hn
theorem map_int_get {ns : List Int} {i : Nat} {x : V} (h : (ns.map V.int)[i]? = some x) : ∃ n, ns[i]? = some n ∧ x = .int n := by
  rw [List.getElem?_map] at h
  cases e : ns[i]? with
  | none => rw [e] at h; cases h
  | some n => rw [e] at h; cases h; exact ⟨n, rfl, rfl⟩
def spAsc (K : PySem.W.Frag) : Sp := fun vs H Q _ => ∃ x : V, vs = [.int 29, x] ∧ Th K H 1 x ∧ Sm H x ∧ ∀ (bb : Bool) (H' : Hp), (bb = true ↔ isLow H x) → Ext H H' → Q (.bl bb) H'
def spCell (K : PySem.W.Frag) : Sp := fun vs H Q _ => ∃ x : V, vs = [x] ∧ Th K H 1 x ∧ Sm H x ∧ ∀ (bb : Bool) (H' : Hp), (bb = true ↔ isCell H x) → Ext H H' → Q (.bl bb) H'
def spFaces : Sp := fun vs H Q _ => ∃ (c : Addr) (ns : List Int), vs = [.ref c] ∧ H c = some (.tup (ns.map V.int)) ∧ 1 ≤ ns.length ∧ ns.length ≤ 4 ∧ ∀ (f : Addr) (as : List Addr) (H' : Hp), Ext H H' → H' f = some (.lst (as.map V.ref)) → PT2 H' as (facesL ns) → Q (.ref f) H'
structure TowC (mg : Str → Option Value) : Prop where
  mc : ∃ t, mg "MOST_CELLS" = some (.int 40 t)
  mi : ∃ t, mg "MOST_IN_CELL" = some (.int 4 t)
  mn : ∃ t, mg "MOST_NAME" = some (.int 29 t)
  zip : mg "zip" = none
section
variable {P : Program} {w : World} {K : PySem.W.Frag} {mg : Str → Option Value} {base : Heap}
theorem scAsc : FnScope ["most", "thing", "item", "after"] ["most", "thing"] (defScope sAsc) := ⟨rfl, rfl, rfl, by decide +kernel, rfl, by decide +kernel, by decide +kernel⟩
theorem ok_asc {f : Addr} {fd : FuncData} (F : L2.Fun K "is_ascending" "is_ascending" sAsc f fd) (T : Gb mg) (M : TowC mg) (cN : Cal P w K mg base 2 "is_number" (spNumber K) []) : FnOk P w K mg base CX0 3 f fd ["most", "thing"] (spAsc K) := by
  refine F.ok scAsc (fun vs H Q E h => ?_) (fun cdv A outer s H vs Q E hr h => ?_)
  · obtain ⟨x, rfl, _⟩ := h
    rfl
  · obtain ⟨x, rfl, th, sm, k⟩ := h
    unfold Th at th
    obtain ⟨t, ty, ki, kb, kt⟩ := th
    refine ⟨_, pss_cons (ps_if (PW.pt (pw_or (pt_not (pt_val (pe_callB call_isi (by rfl) T.isi (by decide +kernel) (pa_cons (pv 1) (pa_cons (pe_bltn (v := .ty "tuple") (by rfl) T.tup (by decide +kernel) rfl) pa_nil)))))
        (pw_or1 (pt_not (pt_val (pe_callB (cr_all rfl) (by rfl) T.all (by decide +kernel) (pa_cons (pe_lc (own := [("item", 2)]) (g := gName 2) (tt := tYes) rfl scAsc.nd (pi_tup (pv 1)) (blkOk_by (N := ["most", "thing", "item", "after"]) (sc := defScope sAsc) (by decide +kernel)) (fun _ _ _ _ _ => pg_name (i := 2) scAsc.nd rfl (Or.inl rfl)) (fun _ _ _ _ _ => pts_nil)
            (fun _ _ _ _ _ => C8.pe_c cN hr (by decide) (by rfl) (pa_cons (pv 0) (pa_cons (pv 2) pa_nil)))) pa_nil))))))) (pss_one (ps_ret pe_bl)) pss_nil)
      (pss_one (ps_ret (pe_callB (cr_all rfl) (by rfl) T.all (by decide +kernel) (pa_cons (pe_lc (own := [("item", 2), ("after", 3)]) (g := gTup K 2 (gCons (gName 2) (gCons (gName 3) gNil))) (tt := tYes) rfl scAsc.nd (RZ.pi_zipA (by rfl) M.zip (pa_cons (pv 1) (pa_cons (pe_slice sl_tupA (pv 1) (po_some pe_int) po_none) pa_nil))) (blkOk_by (N := ["most", "thing", "item", "after"]) (sc := defScope sAsc) (by decide +kernel))
          (fun _ _ _ _ _ => pg_tup rfl (pgs_cons (pg_name (i := 2) scAsc.nd rfl (Or.inl rfl)) (pgs_cons (pg_name (i := 3) scAsc.nd rfl (Or.inl rfl)) pgs_nil))) (fun _ _ _ _ _ => pts_nil) (fun _ _ _ _ _ => pe_cmpR op_lt (pv 2) (pv 3) (nomark _))) pa_nil)))), ?_⟩
    rcases kt with ⟨kt, nt⟩ | ⟨kt, a, xs, rfl, ha, it⟩
    · refine ⟨_, rfl, x, .ty "tuple", t, .type "tuple", _, rfl, .ty _, ty, kt, _, rfl, ?_⟩
      refine iteT (iteT ?_)
      refine k false H ⟨fun z => Bool.noConfusion z, fun ⟨c, ns, e, hc, _⟩ => by obtain ⟨o, h1, h2⟩ := nt c e; rw [hc] at h1; cases h1; exact absurd rfl (h2 _)⟩ Ext.rfl'
    · refine ⟨_, rfl, _, .ty "tuple", t, .type "tuple", _, rfl, .ty _, ty, kt, _, rfl, ?_⟩
      have len := sm a xs rfl ha
      refine iteF ?_
      refine ⟨_, rfl, a, rfl, ⟨_, SqT.of ha⟩, fun D hD => ?_⟩
      have hda : a ≠ D := ne_of_none ha hD
      refine lc_tup (K := K) (a := a) (xs := xs) (fun i H' => H' = upd H D (.lst (((xs.take i).map (numV 29)).map V.bl))) (by simp) (fun i H' _ e => by subst e; exact SqT.of (by rw [upd_ne hda]; exact ha)) ?_ ?_
      · rintro i y H' hi rfl
        refine ⟨rfl, tyes_in ?_⟩
        have hy : y ∈ xs := List.mem_of_getElem? hi
        have it' : ∀ y ∈ xs, Th K H 0 y := it
        have ty0 : Th K (upd H D (.lst (((xs.take i).map (numV 29)).map V.bl))) 0 y := (it' y hy).ext (Ext.upd hD)
        refine ⟨_, rfl, _, rfl, 29, y, rfl, ty0, _, upd_same, small1000 (by simp; omega), ?_⟩
        rw [upd_upd, List.take_succ, hi]
        simp
      · rintro H' rfl
        rw [List.take_of_length_le (Nat.le_refl _)]
        have e1 : Ext H (upd H D (.lst ((xs.map (numV 29)).map V.bl))) := Ext.upd hD
        have hD1 : (upd H D (.lst ((xs.map (numV 29)).map V.bl))) D = some (.lst ((xs.map (numV 29)).map V.bl)) := upd_same
        generalize upd H D (.lst ((xs.map (numV 29)).map V.bl)) = H1 at *
        cases ball : (xs.map (numV 29)).all id with
        | false =>
          refine ⟨D, _, rfl, SqL.of hD1, false, congrArg V.bl ball, ?_⟩
          refine iteT ?_
          refine k false H1 ⟨fun z => Bool.noConfusion z, fun ⟨c, ns, e, hc, lo⟩ => ?_⟩ e1
          cases e
          rw [ha] at hc
          cases hc
          have : (List.map (numV 29) (List.map V.int ns)).all id = true := List.all_eq_true.mpr fun b hb => by
            obtain ⟨y, hy, rfl⟩ := List.mem_map.mp hb
            obtain ⟨n, hn, rfl⟩ := List.mem_map.mp hy
            exact numV_true.mpr ⟨n, rfl, (lo.1 n hn).1, (lo.1 n hn).2⟩
          rw [this] at ball
          cases ball
        | true =>
          refine ⟨D, _, rfl, SqL.of hD1, true, congrArg V.bl ball, ?_⟩
          refine iteF ?_
          obtain ⟨ns, rfl, low⟩ := low_ints fun y hy => List.all_eq_true.mp ball (numV 29 y) (List.mem_map_of_mem hy)
          refine ⟨_, rfl, _, rfl, 1, rfl, ?_⟩
          dsimp only [tNoPart]
          refine sl_any (K := K) (lo := some 1) (hi := none) (e1 _ _ ha) fun q H2 e3 hq => ?_
          have ct : cutV (ns.map V.int) (some 1) none = ns.tail.map V.int := by
            unfold cutV
            rw [show (1 : Int) = ((1 : Nat) : Int) from rfl, HT.sIx_nat, HT.sIx_none, List.take_of_length_le (by rw [List.length_drop]; exact Nat.le_refl _)]
            cases ns with
            | nil => rfl
            | cons n r =>
              rw [show min 1 (List.map V.int (n :: r)).length = 1 by simp]
              rfl
          rw [ct] at hq
          have ha2 := e3 _ _ (e1 _ _ ha)
          refine ⟨a, q, _, _, rfl, .inr ⟨SqT.of ha2, SqT.of hq, fun D2 nD2 => ?_⟩⟩
          refine lc_zipM (K := K) (a := a) (b := q) (xs := ns.map V.int) (ys := ns.tail.map V.int) (by rw [List.length_map, List.length_map, List.length_tail]; omega) (fun i H' => Ext H2 H' ∧ H' D2 = some (.lst ((((ns.zip ns.tail).take i).map fun p => decide (p.1 < p.2)).map V.bl))) ⟨Ext.upd nD2, upd_same⟩ (fun i H' z => ⟨SqT.of (z.1 _ _ ha2), SqT.of (z.1 _ _ hq)⟩) ?_ ?_
          · rintro i u v t' H' hu hv ⟨ex, hD2⟩ nt'
            obtain ⟨n, hn, rfl⟩ := map_int_get hu
            obtain ⟨m, hm, rfl⟩ := map_int_get hv
            refine ⟨t', _, rfl, SqT.of upd_same, rfl, _, _, rfl, _, _, rfl, rfl, rfl, tyes_in ?_⟩
            have hz : (ns.zip ns.tail)[i]? = some (n, m) := List.getElem?_zip_eq_some.mpr ⟨hn, hm⟩
            have li := (List.getElem?_eq_some_iff.mp hn).1
            rw [List.length_map] at len
            refine ⟨_, rfl, _, rfl, _, _, rfl, rfl, _, Ext.upd nt' _ _ hD2, small1000 (by rw [List.length_map, List.length_map, List.length_take]; omega), fun b' o eo => ?_, ?_⟩
            · rw [upd_ne (ne_of_none eo nD2)]
              exact Ext.upd nt' _ _ (ex _ _ eo)
            · rw [upd_same, List.take_succ, hz, List.map_append, List.map_append]
              rfl
          · rintro H' ⟨ex, hD2⟩
            have lz : (ns.zip ns.tail).length ≤ (ns.tail.map V.int).length := by rw [List.length_zip, List.length_map]; omega
            rw [List.take_of_length_le lz] at hD2
            refine ⟨D2, _, rfl, SqL.of hD2, ?_⟩
            refine k _ H' ?_ (e1.trans (e3.trans ex))
            constructor
            · intro z
              refine ⟨a, ns, rfl, ha, low, (adj_pairwise ns).mp fun p hp => ?_⟩
              have := List.all_eq_true.mp z (decide (p.1 < p.2)) (List.mem_map_of_mem hp)
              exact of_decide_eq_true this
            · rintro ⟨c, ms, e, hc, _, pw⟩
              cases e
              rw [ha] at hc
              injection hc with hc
              injection hc with hc
              rw [← int_inj hc] at pw
              refine List.all_eq_true.mpr fun bb hb => ?_
              obtain ⟨p, hp, rfl⟩ := List.mem_map.mp hb
              exact decide_eq_true ((adj_pairwise ns).mpr pw p hp)
end
end L40

set_option Elab.async false
set_option linter.all false
set_option maxRecDepth 100000
set_option maxHeartbeats 4000000
set_option pp.maxSteps 60
/-! Exceptions and equality of own classes. -/
namespace L40
open PySem L2
section
open PySem.Spec PyProof.Rows
structure ExIs (K : PySem.W.Frag) (C : Addr) : Prop where
  cls : (PySem.W.clsIn K C).isSome = true
  ga : PySem.W.findIn K (.ref C) "__getattribute__" = some (some (.builtin "BaseException.__getattribute__"))
  gt : PySem.W.findIn K (.ref C) "__getattr__" = some none
  sb : PySem.W.subIn K (.ref C) (.type "BaseException") = some true
  ha : PySem.W.findIn K (.ref C) "__class__" = some (some (.builtin "object.__class__"))
  hn : PySem.W.specialIn K (.builtin "object.__class__") "__get__" = some (some (.builtin "getset_descriptor.__get__"))
  ht : PySem.W.takesIn K (.builtin "object.__class__") = some true
  hm : PySem.W.mroIn K C (.type "object") = some true
variable {X : Cx} {pins : List (Addr × Obj)} {σ : L2.St} {H : Hp} {s : Shared} {a C : Addr} {fs : List (Str × V)}
/-- an exception made and kept -/
def tExv (C : Addr) (sp : Sp) (t : TA) : TE := fun σ H Q => t σ H fun vs H1 => vs.length ≤ 1000 ∧ ∀ a, H1 a = none → sp (.ref a :: vs) (upd H1 a (exo a C none)) (fun v H2 => v = .non ∧ Q (.ref a) H2) E0
variable {CX : CXT} {x : Str} {fI : Addr} {k : Nat} {fd : FuncData} {ps : List Str} {sp : Sp} {e : Expr} {es : List Expr} {ta : TA} {p pos : Pos}
theorem run_exv (T : OexC X.K C) (hi : PySem.W.findIn X.K (.ref C) "__init__" = some (some (.ref fI))) (ht : PySem.W.typeIn X.K (.ref fI) = some (.type "function"))
    (G : FnOk X.prog X.w X.K X.mg X.base CX k fI fd ps sp) (hr : Room (k + 1) X.A) (hb : Binds X.K fd ps []) (hx : Passes CX X E0) {vs : List V} {us : List Value} {H1 : Hp} {s1 : Shared} {Q : VK} (I1 : Inv X pins σ H1 s1) (r1 : Vals vs us) (hz : vs.length ≤ 1000)
    (q1 : ∀ a, H1 a = none → sp (.ref a :: vs) (upd H1 a (exo a C none)) (fun v H2 => v = .non ∧ Q (.ref a) H2) E0) : wpAny (model X.prog X.w) X.A (call (.ref C) us) (EP X pins σ Q) X.xe s1 := by
  obtain ⟨_, _, _, _, bm, _, _, _, _, _, _, _, _, _, _, inCls, mroOk⟩ := T.cls
  obtain ⟨h0, gs, dr, tk, os⟩ := s1
  let o := h0.objs.size + 1
  let h1 := (h0.push (PySem.W.kdv_tup us)).push (PySem.HandSPX.excO C h0.objs.size)
  have new : H1 o = none := I1.hok.fresh (Nat.le_succ _)
  have old : ∀ b u, h0.get? b = some u → h1.get? b = some u := fun b u q => Heap.get?_push_of_some _ (Heap.get?_push_of_some _ q)
  have there : h1.get? o = some (PySem.HandSPX.excO C h0.objs.size) := by
    show ((h0.push (PySem.W.kdv_tup us)).push (PySem.HandSPX.excO C h0.objs.size)).get? (h0.objs.size + 1) = _
    heap_get
  have J : Inv X pins σ (upd H1 o (exo o C none)) ⟨h1, gs, dr, tk, os⟩ := I1.laid (t' := tk) old (Nat.le_succ _) (exo_ok there)
  have asked := q1 o new
  have rr : Vals (V.ref o :: vs) (Value.ref o :: us) := .cons rfl r1
  have len : (Value.ref o :: us).length = ps.length := rr.length ▸ G.len _ _ _ _ asked
  have bound := hb _ (Value.ref o :: us) J.kIn (by rw [List.append_nil]; exact len)
  rw [List.append_nil] at bound
  have few : us.length ≤ sizeLine := by
    have q : us.length = vs.length := (Paired.length r1).symm
    rw [q, sizeLine_eq]
    omega
  have body := G.run _ X.stack _ _ ⟨Value.ref o :: us, []⟩ _ _ _ E0 (hr.make C us []) (J.env0.make C us []) bound rr asked
  refine wpAny_call (PySem.HandSPX.call_own F.excBase_ValueError (fun Y => PySem.HandSPX.refsVE_contains Y bm mroOk) (I1.kIn _ _ inCls) (PySem.W.looks_findIn I1.kIn hi) (fun self => PySem.W.bind_fn I1.kIn self ht) few (codeAny_mono body ?_))
  intro out s2 z
  match out, z with
  | .error er, z => exact hx pins σ _ _ er s2 J z
  | .ok (.ret u), z =>
    obtain ⟨v, H2, J2, rv, ev, qq⟩ := J.after z
    subst ev
    exact ⟨rv, .ref o, H2, J2, rfl, qq⟩
  | .ok .next, z => exact z.elim
  | .ok .brk, z => exact z.elim
  | .ok .cont, z => exact z.elim
theorem pe_exv0 (T : OexC X.K C) (iC : PySem.W.findIn X.K (.ref C) "__init__" = some (some (.ref fI))) (tI : PySem.W.typeIn X.K (.ref fI) = some (.type "function"))
    (F1 : FnOk X.prog X.w X.K X.mg X.base CX k fI fd ps sp) (hr : Room (k + 1) X.A) (hb : Binds X.K fd ps []) (hx : Passes CX X E0) (hg : Gl X x) (hm : X.mg x = some (.ref C))
    (hdb : (x == ("__debug__" : Str)) = false := by decide) :
    PE X (.Call (.Name x p) [] [] pos) (tExv C sp tNil) := by
  refine ⟨fun pins s σ H Q I h => ?_⟩
  refine wpAny_Call_Name_kw (ld_glob I hg hm ?_ hdb)
  obtain ⟨hz, q1⟩ := h
  exact PySem.W.callWith_K0 I.kIn T.kC (run_exv (us := []) T iC tI F1 hr hb hx I .nil hz q1)
end
section
open PySem.Spec PyProof.Rows
/-- raising an exception without fields that has just been made -/
theorem pmk_v {X : Cx} {e : Expr} {te : TE} (none' : X.ex = []) (he : PE X e te) :
    PMk X e (fun τ H Q => te τ H fun x J => ∃ a C, x = .ref a ∧ J a = some (exo a C none) ∧ X.H_0 a = none ∧ OexC X.K C ∧ Q (.ref C) none (delH J a)) := by
  intro pins s τ H Q I want
  refine thn (he.run pins s τ H _ I want) fun u s1 ⟨v, J, I1, r, a, C, ex, ha, h0, T, z⟩ => ?_
  subst ex
  obtain rfl : u = Value.ref a := r
  obtain ⟨t1, there⟩ := exo_at I1.hok ha
  obtain ⟨G, le, gone, I2⟩ := I1.untrack ha (fr0_none h0) none'
  exact ⟨a, _, _, { s1 with heap := G }, delH J a, .ref C, none, rfl, I2, le, gone, there, ⟨rfl, rfl⟩, rfl, rfl, delH_same, rfl, I1.bare, raises_own T.exC T.tyC, z⟩
theorem ps_raise_v {X : Cx} {pos : Pos} (H0 : Hp) (K0 : PySem.W.Frag) {W : WX} {e : Expr} {te : TE} (tk : Takes X W) (e0 : X.H_0 = H0) (eK : X.K = K0) (he : PE X e te) (calm : X.calm = true := by rfl) (none' : X.ex = [] := by rfl) :
    PS X (.Raise (some e) none pos) (fun _ τ H => te τ H fun x J => ∃ a C, x = .ref a ∧ J a = some (exo a C none) ∧ H0 a = none ∧ OexC K0 C ∧ W (.ref C) none τ (delH J a)) := by
  subst e0 eK
  exact ps_raise calm tk (pmk_v none' he)
end
section
open PySem.Spec PyProof.Rows
abbrev Clause := Value × (Addr → Value → Option Addr → TS)
/-- the ends of a suite whose name stands in slot i: the slot is empty behind it -/
def offSlot (i : Nat) (D : Ends) : Ends := { nx := fun τ J => D.nx (τ.set i none) J, rt := D.rt, bk := fun τ J => D.bk (τ.set i none) J, ct := fun τ J => D.ct (τ.set i none) J }
/-- what clauses 'except .. as name' wish of an exception, from the first on -/
def wEach (K : PySem.W.Frag) (i : Nat) (D : Ends) : List Clause → WX
  | [] => fun _ _ _ _ => False
  | q :: r => fun cls d τ J => ∃ b, PySem.W.exmOne K cls q.1 = some b ∧ if b = true then ∀ a, J a = none → q.2 a cls d (offSlot i D) (τ.set i (some (.ref a))) J else wEach K i D r cls d τ J
inductive EachOk (X : Cx) (n : Str) : List ExceptHandler → List Clause → Prop
  | nil {hs : List ExceptHandler} : EachOk X n hs []
  | cons {x : Str} {k : Value} {ts : Addr → Value → Option Addr → TS} {st : Stmt} {rest : List Stmt} {p p' : Pos} {hs : List ExceptHandler} {qs : List Clause} (names : Names X x k)
      (suite : ∀ (a : Addr) (oe : Obj) (cls : Value) (d : Option Addr) (pn : List (Addr × Obj)), Zc cls d oe → (∃ vs, oe.data = .fields vs) → PSs (X.suite a ((a, oe) :: pn)) (st :: rest) (ts a cls d)) (more : EachOk X n hs qs) :
      EachOk X n (.ExceptHandler (some (.Name x p)) (some n) (st :: rest) p' :: hs) ((k, ts) :: qs)
variable {X : Cx} {body : List Stmt} {hs : List ExceptHandler} {h0 : ExceptHandler} {qs : List Clause} {n : Str} {i : Nat} {pos : Pos} {tb : WX → TS}
theorem ps_try_each (stk : X.stack = X.env :: X.outer) (frm : X.env.frame = some X.env.locals) (nd : X.N.Nodup) (hi : X.N[i]? = some n) (loc : X.env.kindOf n = some .local)
    (hb : ∀ (W : WX) (pn : List (Addr × Obj)) (xe : Value → Shared → Prop), Takes (X.tr pn xe) W → PassesOwn (model X.prog X.w) X.A X.env xe → PSs (X.tr pn xe) body (tb W)) (hk : EachOk X n (h0 :: hs) qs) :
    PS X (.Try body (h0 :: hs) [] [] pos) (fun D τ J => tb (wEach X.K i D qs) D τ J) := by
  constructor
  intro pins s τ H D I want
  have ok := I.ok
  have top : X.A.frames = some (X.env :: X.outer) := by rw [ok.frames, stk]
  refine wpAny_Try_except (wpAny_mono ((hb (wEach X.K i D qs) (X.pn ++ pins) _ (fun u s' caught => ?_) PassesOwn.looking).run [] s τ H D (I.toTry _) want) ?_ fun _ _ z => z)
  · obtain ⟨a, B, sI, pins', τ', H', cls, d, rfl, J0, nb, up, sky, na, os, bare, wish⟩ := caught
    have J := J0.ofTry ok
    rw [stk] at sky
    show wpAny _ _ (noteFrame (.ref a) X.env) _ _ _
    refine Sky.land Zc.steady top frm sky fun h3 fl3 up3 => ?_
    have J3 : Inv X pins τ' H' { s' with heap := h3 } := J.landed nb fl3.1 (up.trans up3) os bare
    obtain ⟨oe3, vs3, at3, z3, f3⟩ := fl3.there
    have off : a ∉ frs (X.env :: X.outer) := fun hm => by
      obtain ⟨_, o', q', nf⟩ := fl3.2.2.1.mem hm
      rw [at3] at q'
      cases q'
      exact nf _ f3
    have aL : a ≠ X.env.locals := fun q => off (List.mem_filterMap.mpr ⟨X.env, List.mem_cons_self, by rw [frm, q]⟩)
    have aF : a ∉ X.fs := fun hm => by
      obtain ⟨e, he, q⟩ := List.mem_filterMap.mp hm
      exact off (List.mem_filterMap.mpr ⟨e, List.mem_cons_of_mem _ he, q⟩)
    have S3 := J3.suite at3 f3 na aL aF
    suffices each : ∀ {ks : List ExceptHandler} {ls : List Clause}, EachOk X n ks ls → wEach X.K i D ls cls d τ' H' → wpAny (model X.prog X.w) X.A (handleBy (.ref a) X.env ks) (SP X pins D) X.xe { s' with heap := h3 } from each hk wish
    intro ks ls hk
    induction hk with
    | nil => exact fun z => z.elim
    | @cons x kk ts st rest p p' ks2 ls2 names suite more ih =>
      rintro ⟨b, isOne, next⟩
      have ty : PySem.W.Looks (model X.prog X.w) h3 (typeOf (.ref a)) cls := fun A Q E s k q => wpAny_typeOf_ref (k _ _ at3) (by rw [z3.1]; exact q)
      have exm := PySem.W.exm_one (M := model X.prog X.w) J3.kIn ty isOne
      have reads : ∀ {Q : Value → Shared → Prop} {E : Value → Shared → Prop}, Q kk { s' with heap := h3 } → wpAny (model X.prog X.w) (X.A.mark (some (.ref a))) (eval (.Name x p) X.env) Q E { s' with heap := h3 } := fun {Q E} z => by
        obtain ⟨gl, nodbg, m | ⟨m, v, nn⟩⟩ := names
        · exact ld_glob (X := X.suite a ((a, oe3) :: (X.pn ++ pins))) S3 gl m z nodbg
        · exact ld_blt (X := X.suite a ((a, oe3) :: (X.pn ++ pins))) S3 gl m v z nn nodbg
      refine wpAny_handleBy_cons (codeAny_handlers_test (reads (exm.here ?_))) (by intro z; cases z)
      cases b with
      | false => exact ih next
      | true =>
        refine codeAny_handlers_suite_as (HandSPX.lands_againZ fl3 fun h4 fl4 up4 => ?_)
        have J4 : Inv X pins τ' H' { s' with heap := h4 } := J.landed nb fl4.1 ((up.trans up3).trans up4) os bare
        obtain ⟨oe4, vs4, at4, z4, f4⟩ := fl4.there
        have S4 := J4.suite at4 f4 na aL aF
        refine store_ok (X := X.suite a ((a, oe4) :: (X.pn ++ pins))) (v := .ref a) S4 nd hi (.inl loc) rfl (fun s5 S5 => ?_) (.inr loc)
        refine wpAny_mono ((suite a oe4 cls d (X.pn ++ pins) z4 ⟨_, f4⟩).run [] s5 _ H' _ S5 (next a na)) (fun f s6 fin => ?_) fun _ _ z => z.elim
        have gone : ∀ {τ6 : L2.St} {H6 : Hp} {Q : Shared → Prop}, Inv (X.suite a ((a, oe4) :: (X.pn ++ pins))) [] τ6 H6 s6 → (∀ s7, Inv X pins (τ6.set i none) H6 s7 → Q s7) →
            wpAny (model X.prog X.w) X.A (do bindName X.env n .none; unbindBehindTheSuite X.env n p') (fun _ s7 => Q s7) X.xe s6 := fun S6 k => gone_ok (S6.unsuite ok) nd hi loc k
        match f, fin with
        | .next, ⟨τ6, H6, S6, z⟩ => exact gone S6 fun s7 J7 => ⟨_, _, J7, z⟩
        | .brk, ⟨τ6, H6, S6, z⟩ => exact gone S6 fun s7 J7 => ⟨_, _, J7, z⟩
        | .cont, ⟨τ6, H6, S6, z⟩ => exact gone S6 fun s7 J7 => ⟨_, _, J7, z⟩
        | .ret u, ⟨v6, τ6, H6, S6, r6, z⟩ => exact gone S6 fun s7 J7 => ⟨_, _, _, J7, r6, z⟩
  · intro f s1 fin
    match f, fin with
    | .next, ⟨τ', H', J', z⟩ => exact wpAny_execs_nil ⟨τ', H', J'.ofTry ok, z⟩
    | .brk, ⟨τ', H', J', z⟩ => exact ⟨τ', H', J'.ofTry ok, z⟩
    | .cont, ⟨τ', H', J', z⟩ => exact ⟨τ', H', J'.ofTry ok, z⟩
    | .ret u, ⟨v, τ', H', J', r, z⟩ => exact ⟨v, τ', H', J'.ofTry ok, r, z⟩
end
section
open PySem.Spec PyProof.Rows
variable {X : Cx} {CX : CXT} {k : Nat} {f C : Addr} {fd : FuncData} {ps : List Str} {sp : Sp} {E : L2.St → XK} {x : Str} {p pos : Pos} {e : Expr} {es : List Expr} {t : TA}
def tMakeS (C : Addr) (sp : Sp) (E : L2.St → XK) (t : TA) : TE := fun σ H Q => t σ H fun vs H1 => ∀ (o d : Addr), H1 o = none → H1 d = none → d ≠ o → sp (.ref o :: vs) (upd (upd H1 d (.own o)) o (.ins C d [])) (fun v H2 => v = .non ∧ Q (.ref o) H2) (E σ)
theorem pe_makeS (M : Mk X.K C f) (F : FnOk X.prog X.w X.K X.mg X.base CX k f fd ps sp) (hr : Room (k + 1) X.A) (hg : Gl X x) (hm : X.mg x = some (.ref C)) (hb : Binds X.K fd ps []) (hx : ∀ σ, PassesAt CX X σ (E σ))
    (ha : PA X (e :: es) t) (hdb : (x == ("__debug__" : Str)) = false := by decide) (he : starEach (e :: es) X.env = (false, eval e X.env) :: starEach es X.env := by rfl) (hpl : (backTo pos (starEach es X.env)).any (·.1) = false := by rfl) :
    PE X (.Call (.Name x p) (e :: es) [] pos) (tMakeS C sp E t) := by
  constructor
  intro pins s σ H Q I h
  refine wpAny_Call_Name_kw (ld_glob I hg hm ?_ hdb)
  refine PySem.W.callWith_K (h₀ := X.base) I.ok.mod.kin M.kp (thn (ha.run pos pins s σ H _ I h) ?_) he hpl
  rintro us s1 ⟨vs, H1, I1, r, q⟩
  refine ⟨I1.kIn, ?_⟩
  let o := s1.heap.objs.size + 1
  have q' := q o s1.heap.objs.size (I1.hok.fresh (Nat.le_succ _)) (I1.hok.fresh (Nat.le_refl _)) (Nat.ne_of_lt (Nat.lt_succ_self _))
  have J := Inv.made (C := C) I1
  have rr : Vals (V.ref o :: vs) (Value.ref o :: us) := .cons rfl r
  have len : (Value.ref o :: us).length = ps.length := rr.length ▸ F.len _ _ _ _ q'
  have bind := hb _ (Value.ref o :: us) J.kIn (by rw [List.append_nil]; exact len)
  rw [List.append_nil] at bind
  refine wpAny_call (make_map (f := f) I1.kIn M.makes M.init (beq_iff_eq.mp M.fn) (codeAny_mono (F.run _ X.stack _ _ ⟨Value.ref o :: us, []⟩ _ _ _ (E σ) (hr.make C us []) (J.env0.make C us []) bind rr q') ?_))
  intro out s2 z
  match out, z with
  | .error er, z => exact hx σ pins _ _ er s2 J z
  | .ok (.ret u), z =>
    obtain ⟨v, H2, J2, rv, ev, qq⟩ := J.after z
    subst ev
    exact ⟨rv, .ref o, H2, J2, rfl, qq⟩
  | .ok .next, z => exact z.elim
  | .ok .brk, z => exact z.elim
  | .ok .cont, z => exact z.elim
end
structure BadC (K : PySem.W.Frag) (mg : Str → Option Value) (C fI : Addr) : Prop where
  ex : OexC K C
  iC : PySem.W.findIn K (.ref C) "__init__" = some (some (.ref fI))
  tI : PySem.W.typeIn K (.ref fI) = some (.type "function")
  gC : mg "BadTower" = some (.ref C)
  noI : PySem.W.findIn K (.ref C) "index" = some none
def spBad (C : Addr) : Sp := fun vs H Q _ => ∃ (a : Addr) (v : V), vs = [.ref a, v] ∧ H a = some (exo a C none) ∧ ∀ d, H d = none → d ≠ a → Q .non (upd (upd H d (exd d [("index", v)])) a (exo a C (some d)))
/-- what is left behind a raise BadTower(v) -/
theorem bad_end {H : Hp} {C a d : Addr} {v : V} (na : H a = none) (nd : (upd H a (exo a C none)) d = none) (ne : d ≠ a) :
    let H2 := upd (upd (upd H a (exo a C none)) d (exd d [("index", v)])) a (exo a C (some d))
    H2 a = some (exo a C (some d)) ∧ H2 d = some (exd d [("index", v)]) ∧ H d = none ∧ Ext H (upd (del H2 a) d (.xd [("index", v)])) := by
  have nd0 : H d = none := by rw [upd_ne ne] at nd; exact nd
  refine ⟨upd_same, by rw [upd_ne ne, upd_same], nd0, fun b o e => ?_⟩
  have h1 := ne_of_none e na
  have h2 := ne_of_none e nd0
  rw [upd_ne h2, del_ne h1, upd_ne h1, upd_ne h2, upd_ne h1]
  exact e
/-! ### == by an own __eq__ -/
section
open PySem.Spec PyProof.Rows
variable {X : Cx} {CX : CXT} {k : Nat} {f C : Addr} {fd : FuncData} {ps : List Str} {sp : Sp}
def rOwn (K : PySem.W.Frag) (C : Addr) (sp : Sp) : R2 := fun x y H Q => ∃ (a dx : Addr) (fs : List (Str × V)) (t : Value), x = .ref a ∧ H a = some (.ins C dx fs) ∧ TyX K H y t ∧ PySem.W.notFirst K C t = true ∧ sp [x, y] H (fun v H' => (∃ b, v = .bl b) ∧ Q v H') E0
theorem op_own (F : FnOk X.prog X.w X.K X.mg X.base CX0 k f fd ps sp) (hs : PySem.W.findIn X.K (.ref C) "__eq__" = some (some (.ref f))) (hf : PySem.W.isFn X.K (.ref f) = true) (hb : Binds X.K fd ps []) (hr : Room k X.A) : OpR X (compareOp .Eq) (rOwn X.K C sp) := by
  rintro pins s σ H x y v u Q I rx ry ⟨a, dx, fs, t, rfl, ha, ty, nf, q⟩
  obtain rfl : v = Value.ref a := rx
  obtain ⟨mA, J, _⟩ := ins_get I.hok ha
  obtain ⟨od, J, _⟩ := J.look
  obtain ⟨G, Z, g, _⟩ := kit_of I ry ty
  obtain ⟨m, fr⟩ := I.fr
  show wpAny (model X.prog X.w) X.A (richCompare .Eq (.ref a) u) (EP X pins σ Q) X.xe s
  refine PySem.W.cmp_K (op := .Eq) (tb := t) hr.units0 fr I.ok.mod.kin J (Z.ty _ _ I.kIn g) nf hs hf ?_
  refine wpAny_mono (run_fn (vs := [V.ref a, y]) F hr hb .nil pass0 I (.cons rfl (.cons ry .nil)) (show sp ([V.ref a, y] ++ []) H _ E0 from q)) ?_ fun _ _ x => x
  rintro w s' ⟨z, H', I', rz, ⟨b, rfl⟩, qz⟩
  cases rz
  exact ⟨.bl b, H', I', rfl, qz⟩
end
/-- what isinstance asks of a class for its instances -/
structure IsC (K : PySem.W.Frag) (C : Addr) : Prop where
  cl : Cls K C
  ha : PySem.W.findIn K (.ref C) "__class__" = some (some (.builtin "object.__class__"))
  hn : PySem.W.specialIn K (.builtin "object.__class__") "__get__" = some (some (.builtin "getset_descriptor.__get__"))
  ht : PySem.W.takesIn K (.builtin "object.__class__") = some true
  hm : PySem.W.mroIn K C (.type "object") = some true
theorem IsC.ty {K : PySem.W.Frag} {C : Addr} (I : IsC K C) {H : Hp} {p dx : Addr} {fs : List (Str × V)} (h : H p = some (.ins C dx fs)) : TyX K H (.ref p) (.ref C) := .base (.ins h I.cl I.ha I.hn I.ht I.hm)
theorem kit_same {K : PySem.W.Frag} {C : Addr} : PySem.W.kitOne K (.ref C) (.ref C) = some true := by
  unfold PySem.W.kitOne
  rw [if_pos (beq_self_eq_true _)]
def spF0 : Sp := fun vs H Q _ => ∃ a : Addr, vs = [.ref a] ∧ Q .non H
/-- an error class without fields: what the top has written of it -/
structure ErrC (K : PySem.W.Frag) (mg : Str → Option Value) (x : Str) (C fI : Addr) : Prop where
  ex : OexC K C
  iC : PySem.W.findIn K (.ref C) "__init__" = some (some (.ref fI))
  tI : PySem.W.typeIn K (.ref fI) = some (.type "function")
  gC : mg x = some (.ref C)
  is : ExIs K C
theorem ext_delH {H H1 : Hp} {a : Addr} {o : HO} (e : Ext H H1) (na : H1 a = none) : Ext H (delH (upd H1 a o) a) := fun b u h => by
  have h1 := e _ _ h
  have ne := ne_of_none h1 na
  unfold delH
  rw [if_neg ne, upd_ne ne]
  exact h1
theorem none_back {H H1 : Hp} {a : Addr} (e : Ext H H1) (na : H1 a = none) : H a = none := by
  cases q : H a with
  | none => rfl
  | some u => rw [e _ _ q] at na; cases na
/-- a raise of a class without fields -/
theorem raise0 {K : PySem.W.Frag} {mg : Str → Option Value} {C : Addr} {x : Str} {fI : Addr} (N : ErrC K mg x C fI) {H H1 : Hp} {E : XK} {τ : L2.St} (e : Ext H H1) (k : ∀ H', Ext H H' → E (.ref C) none H') :
    tExv C spF0 tNil τ H1 (fun x J => ∃ a C', x = .ref a ∧ J a = some (exo a C' none) ∧ H a = none ∧ OexC K C' ∧ E (.ref C') none (delH J a)) :=
  ⟨Nat.zero_le _, fun a na => ⟨a, rfl, rfl, a, C, rfl, upd_same, none_back e na, N.ex, k _ (ext_delH e na)⟩⟩
theorem u65 {k : Nat} {A : Around} (r : Room k A) : A.units + 65 < cLine := by
  have := r.un
  omega
end L40

set_option Elab.async false
set_option linter.all false
set_option maxRecDepth 100000
set_option maxHeartbeats 4000000
set_option pp.maxSteps 60
namespace L40
open PySem L2
section
variable {P : Program} {w : World} {K : PySem.W.Frag} {mg : Str → Option Value} {base : Heap}
theorem scCell : FnScope ["thing"] ["thing"] (defScope sCell) := ⟨rfl, rfl, rfl, by decide +kernel, rfl, by decide +kernel, by decide +kernel⟩
theorem ok_cell {f : Addr} {fd : FuncData} (F : L2.Fun K "is_cell" "is_cell" sCell f fd) (T : Gb mg) (M : TowC mg) (cA : Cal P w K mg base 3 "is_ascending" (spAsc K) []) : FnOk P w K mg base CX0 4 f fd ["thing"] (spCell K) := by
  obtain ⟨t29, h29⟩ := M.mn
  obtain ⟨t4, h4⟩ := M.mi
  refine F.ok scCell (fun vs H Q E h => ?_) (fun cdv A outer s H vs Q E hr h => ?_)
  · obtain ⟨x, rfl, _⟩ := h
    rfl
  · obtain ⟨x, rfl, th, sm, k⟩ := h
    refine ⟨_, pss_one (ps_ret (pe_and (C8.pe_c cA hr (by decide) (by rfl) (pa_cons (pe_glob (v := .int 29) rfl h29 ⟨_, rfl⟩) (pa_cons (pv 0) pa_nil))) (pe_one (pe_chain op_le op_le pe_int (pe_callB call_len_seq (by rfl) T.len PySem.boot_len (pa_cons (pv 0) pa_nil)) (pe_glob (v := .int 4) rfl h4 ⟨_, rfl⟩))))), ?_⟩
    refine ⟨_, rfl, x, rfl, th, sm, fun bb H1 hb e1 => ⟨_, rfl, ?_⟩⟩
    cases bb with
    | false => exact iteF (k false H1 ⟨fun z => Bool.noConfusion z, fun ⟨c, ns, e, hc, z⟩ => by have := hb.mpr ⟨c, ns, e, hc, z.2.2⟩; cases this⟩ e1)
    | true =>
      obtain ⟨c, ns, rfl, hc, low⟩ := hb.mp rfl
      refine iteT ⟨_, rfl, c, _, rfl, .inr (SqT.of (e1 _ _ hc)), _, _, rfl, rfl, _, rfl, ?_⟩
      rw [List.length_map]
      by_cases h1 : (1 : Int) ≤ (ns.length : Int)
      · rw [decide_eq_true h1]
        refine iteT ⟨_, _, rfl, rfl, ?_⟩
        refine k _ H1 ?_ e1
        constructor
        · intro z
          exact ⟨c, ns, rfl, hc, by omega, by have := of_decide_eq_true z; omega, low⟩
        · rintro ⟨c', ns', e, hc', z⟩
          cases e
          rw [hc] at hc'
          injection hc' with hc'
          injection hc' with hc'
          rw [← int_inj hc'] at z
          exact decide_eq_true (by have := z.2.1; omega)
      · rw [decide_eq_false h1]
        refine iteF (k false H1 ⟨fun z => Bool.noConfusion z, fun ⟨c', ns', e, hc', z⟩ => ?_⟩ e1)
        cases e
        rw [hc] at hc'
        injection hc' with hc'
        injection hc' with hc'
        rw [← int_inj hc'] at z
        exact absurd (by have := z.1; omega) h1
theorem scFaces : FnScope ["cell", "at"] ["cell"] (defScope sFaces) := ⟨rfl, rfl, rfl, by decide +kernel, rfl, by decide +kernel, by decide +kernel⟩
theorem ok_faces {f : Addr} {fd : FuncData} (F : L2.Fun K "faces" "faces" sFaces f fd) (T : Gb mg) : FnOk P w K mg base CX0 1 f fd ["cell"] spFaces := by
  refine F.ok scFaces (fun vs H Q E h => ?_) (fun cdv A outer s H vs Q E hr h => ?_)
  · obtain ⟨c, ns, rfl, _⟩ := h
    rfl
  · obtain ⟨c, ns, rfl, hc, n1, n4, k⟩ := h
    refine ⟨_, pss_cons (ps_if (pt_cmpR op_eq (pe_callB call_len_seq (by rfl) T.len PySem.boot_len (pa_cons (pv 0) pa_nil)) pe_int (nomark _)) (pss_one (ps_ret (pe_lst pa_nil))) pss_nil)
      (pss_one (ps_ret (pe_lc (own := [("at", 1)]) (g := gName 1) (tt := tYes) (te := tOp (rCatA K) (tSl (rSlA K) (tVar 0) tNoPart (tPart (tVar 1))) (tSl (rSlA K) (tVar 0) (tPart (tOp (rI0 fun i j => V.int (i + j)) (tVar 1) (tC (V.int 1)))) tNoPart)) rfl scFaces.nd (pi_range1 (by rfl) T.rng (pa_cons (pe_callB call_len_seq (by rfl) T.len PySem.boot_len (pa_cons (pv 0) pa_nil)) pa_nil)) (blkOk_by (N := ["cell", "at"]) (sc := defScope sFaces) (by decide +kernel))
          (fun _ _ _ _ _ => pg_name (i := 1) scFaces.nd rfl (Or.inl rfl)) (fun _ _ _ _ _ => pts_nil) (fun _ _ _ _ _ => pe_op op_catA (pe_slice sl_tupA (pv 0) po_none (po_some (pv 1))) (pe_slice sl_tupA (pv 0) (po_some (pe_op op_add (pv 1) pe_int)) po_none))))), ?_⟩
    refine ⟨_, rfl, c, _, rfl, .inr (SqT.of hc), rfl, _, rfl, ?_⟩
    refine ite2 (fun z => ?_) (fun z => ?_)
    · have e : ns.length = 1 := by have q := of_decide_eq_true z; rw [List.length_map] at q; injection q with q; omega
      refine ⟨Nat.zero_le _, fun l nl => ?_⟩
      refine k l [] _ (Ext.upd nl) upd_same ?_
      unfold facesL
      rw [if_pos e]
      exact .nil
    · have hne : ¬ ns.length = 1 := fun q => z (decide_eq_true (by rw [List.length_map, q]; rfl))
      refine ⟨_, rfl, c, _, rfl, .inr (SqT.of hc), (ns.length : Int), by rw [List.length_map], by omega, by omega, fun D nD => ?_⟩
      refine lc_range (lo := 0) (n := (ns.length : Int).toNat) (fun i H' => Ext H H' ∧ ∃ as : List Addr, H' D = some (.lst (as.map V.ref)) ∧ PT2 H' as ((allF ns).take i) ∧ as.length = i) ⟨Ext.upd nD, [], upd_same, .nil, rfl⟩ ?_ ?_
      · rintro i H' hi ⟨ex, as, hD, pt, le⟩
        have hi' : i < ns.length := by rw [Int.toNat_natCast] at hi; exact hi
        refine ⟨rfl, tyes_in ?_⟩
        have hc' := ex _ _ hc
        refine ⟨_, rfl, _, rfl, 0 + (i : Int), rfl, ?_⟩
        refine sl_any (K := K) (lo := none) (hi := some (0 + (i : Int))) hc' fun q1 H1 e1 h1 => ?_
        refine ⟨_, rfl, _, rfl, _, _, rfl, rfl, 0 + (i : Int) + 1, rfl, ?_⟩
        dsimp only [tNoPart]
        refine sl_any (K := K) (lo := some (0 + (i : Int) + 1)) (hi := none) (e1 _ _ hc') fun q2 H2 e2 h2 => ?_
        have l1 := cutV_length (ns.map V.int) none (some (0 + (i : Int)))
        have l2 := cutV_length (ns.map V.int) (some (0 + (i : Int) + 1)) none
        rw [List.length_map] at l1 l2
        refine cat_any (e2 _ _ h1) h2 (by omega) fun q3 H3 e3 h3 => ?_
        have e13 := e1.trans (e2.trans e3)
        rw [Int.zero_add, cut_erase hi'] at h3
        refine ⟨_, e13 _ _ hD, small1000 (by rw [List.length_map]; omega), fun b' o eo => ?_, as ++ [q3], ?_, ?_, by rw [List.length_append, le]; rfl⟩
        · rw [upd_ne (ne_of_none eo nD)]
          exact e13 _ _ (ex _ _ eo)
        · rw [upd_same, List.map_append]
          rfl
        · have hD3 := e13 _ _ hD
          rw [List.take_succ, allF_get hi']
          refine PT2.snoc (PT2.mono (fun b xs z => ?_) pt) ?_
          · rw [upd_ne (lst_ne hD z)]
            exact e13 _ _ z
          · rw [upd_ne (lst_ne hD3 h3)]
            exact h3
      · rintro H' ⟨ex, as, hD, pt, le⟩
        have la : (allF ns).length = (ns.length : Int).toNat := by unfold allF; rw [List.length_map, List.length_range, Int.toNat_natCast]
        rw [← la, List.take_of_length_le (Nat.le_refl _)] at pt
        have e : facesL ns = allF ns := by unfold facesL allF; rw [if_neg hne]
        rw [← e] at pt
        exact k D as H' ex hD pt
theorem scLFaces : FnScope ["_law_cell", "_law_at"] ["_law_cell"] (defScope sLFaces) := ⟨rfl, rfl, rfl, by decide +kernel, rfl, by decide +kernel, by decide +kernel⟩
theorem ok_lfaces {f : Addr} {fd : FuncData} (F : L2.Fun K "_law_faces" "_law_faces" sLFaces f fd) (T : Gb mg) : FnOk P w K mg base CX0 1 f fd ["_law_cell"] spFaces := by
  refine F.ok scLFaces (fun vs H Q E h => ?_) (fun cdv A outer s H vs Q E hr h => ?_)
  · obtain ⟨c, ns, rfl, _⟩ := h
    rfl
  · obtain ⟨c, ns, rfl, hc, n1, n4, k⟩ := h
    refine ⟨_, pss_one (ps_ret (pe_ifExp (pt_cmpR op_gt (pe_callB call_len_seq (by rfl) T.len PySem.boot_len (pa_cons (pv 0) pa_nil)) pe_int (nomark _))
      (pe_lc (own := [("_law_at", 1)]) (g := gName 1) (tt := tYes) (te := tOp (rCatA K) (tSl (rSlA K) (tVar 0) tNoPart (tPart (tVar 1))) (tSl (rSlA K) (tVar 0) (tPart (tOp (rI0 fun i j => V.int (i + j)) (tVar 1) (tC (V.int 1)))) tNoPart)) rfl scLFaces.nd (pi_range1 (by rfl) T.rng (pa_cons (pe_callB call_len_seq (by rfl) T.len PySem.boot_len (pa_cons (pv 0) pa_nil)) pa_nil)) (blkOk_by (N := ["_law_cell", "_law_at"]) (sc := defScope sLFaces) (by decide +kernel))
          (fun _ _ _ _ _ => pg_name (i := 1) scLFaces.nd rfl (Or.inl rfl)) (fun _ _ _ _ _ => pts_nil) (fun _ _ _ _ _ => pe_op op_catA (pe_slice sl_tupA (pv 0) po_none (po_some (pv 1))) (pe_slice sl_tupA (pv 0) (po_some (pe_op op_add (pv 1) pe_int)) po_none)))
      (pe_lst pa_nil))), ?_⟩
    refine ⟨_, rfl, c, _, rfl, .inr (SqT.of hc), _, _, rfl, rfl, _, rfl, ?_⟩
    refine ite2 (fun z => ?_) (fun z => ?_)
    · have hne : ¬ ns.length = 1 := by have q := of_decide_eq_true z; rw [List.length_map] at q; omega
      refine ⟨_, rfl, c, _, rfl, .inr (SqT.of hc), (ns.length : Int), by rw [List.length_map], by omega, by omega, fun D nD => ?_⟩
      refine lc_range (lo := 0) (n := (ns.length : Int).toNat) (fun i H' => Ext H H' ∧ ∃ as : List Addr, H' D = some (.lst (as.map V.ref)) ∧ PT2 H' as ((allF ns).take i) ∧ as.length = i) ⟨Ext.upd nD, [], upd_same, .nil, rfl⟩ ?_ ?_
      · rintro i H' hi ⟨ex, as, hD, pt, le⟩
        have hi' : i < ns.length := by rw [Int.toNat_natCast] at hi; exact hi
        refine ⟨rfl, tyes_in ?_⟩
        have hc' := ex _ _ hc
        refine ⟨_, rfl, _, rfl, 0 + (i : Int), rfl, ?_⟩
        refine sl_any (K := K) (lo := none) (hi := some (0 + (i : Int))) hc' fun q1 H1 e1 h1 => ?_
        refine ⟨_, rfl, _, rfl, _, _, rfl, rfl, 0 + (i : Int) + 1, rfl, ?_⟩
        dsimp only [tNoPart]
        refine sl_any (K := K) (lo := some (0 + (i : Int) + 1)) (hi := none) (e1 _ _ hc') fun q2 H2 e2 h2 => ?_
        have l1 := cutV_length (ns.map V.int) none (some (0 + (i : Int)))
        have l2 := cutV_length (ns.map V.int) (some (0 + (i : Int) + 1)) none
        rw [List.length_map] at l1 l2
        refine cat_any (e2 _ _ h1) h2 (by omega) fun q3 H3 e3 h3 => ?_
        have e13 := e1.trans (e2.trans e3)
        rw [Int.zero_add, cut_erase hi'] at h3
        refine ⟨_, e13 _ _ hD, small1000 (by rw [List.length_map]; omega), fun b' o eo => ?_, as ++ [q3], ?_, ?_, by rw [List.length_append, le]; rfl⟩
        · rw [upd_ne (ne_of_none eo nD)]
          exact e13 _ _ (ex _ _ eo)
        · rw [upd_same, List.map_append]
          rfl
        · have hD3 := e13 _ _ hD
          rw [List.take_succ, allF_get hi']
          refine PT2.snoc (PT2.mono (fun b xs z => ?_) pt) ?_
          · rw [upd_ne (lst_ne hD z)]
            exact e13 _ _ z
          · rw [upd_ne (lst_ne hD3 h3)]
            exact h3
      · rintro H' ⟨ex, as, hD, pt, le⟩
        have la : (allF ns).length = (ns.length : Int).toNat := by unfold allF; rw [List.length_map, List.length_range, Int.toNat_natCast]
        rw [← la, List.take_of_length_le (Nat.le_refl _)] at pt
        have e : facesL ns = allF ns := by unfold facesL allF; rw [if_neg hne]
        rw [← e] at pt
        exact k D as H' ex hD pt
    · have e : ns.length = 1 := by
        have q : ¬ (1 : Int) < ((ns.map V.int).length : Int) := fun q => z (decide_eq_true q)
        rw [List.length_map] at q
        omega
      refine ⟨Nat.zero_le _, fun l nl => ?_⟩
      refine k l [] _ (Ext.upd nl) upd_same ?_
      unfold facesL
      rw [if_pos e]
      exact .nil
theorem isCell_len {H : Hp} {a : Addr} {xs : List V} (ha : H a = some (.tup xs)) (h : isCell H (.ref a)) : 1 ≤ xs.length ∧ xs.length ≤ 4 := by
  obtain ⟨c, ns, e, hc, z⟩ := h
  cases e
  rw [ha] at hc
  cases hc
  rw [List.length_map]
  exact ⟨z.1, z.2.1⟩
end
end L40

set_option Elab.async false
set_option linter.all false
set_option maxRecDepth 100000
set_option maxHeartbeats 4000000
set_option pp.maxSteps 60
/-! Towers made, or what BadTower tells. -/
namespace L40
open PySem L2
abbrev sWE : Stmt := inClass (top 7) 0
abbrev sBad : Stmt := inClass (top 8) 0
abbrev sTowI : Stmt := inClass (top 23) 0
abbrev sTowE : Stmt := inClass (top 23) 1
/-! ### right towers -/
def Ok (pre : List (List Int)) (l : List Int) : Prop := CellL l ∧ l ∉ pre ∧ ∀ f ∈ facesL l, f ∈ pre
def Gd : List (List Int) → List (List Int) → Prop
  | _, [] => True
  | pre, l :: r => Ok pre l ∧ Gd (pre ++ [l]) r
def GoodT (ll : List (List Int)) : Prop := Gd [] ll
theorem gd_snoc : ∀ (pre r : List (List Int)) (l : List Int), Gd pre (r ++ [l]) ↔ Gd pre r ∧ Ok (pre ++ r) l
  | pre, [], l => by simp [Gd]
  | pre, a :: r, l => by
    have ih := gd_snoc (pre ++ [a]) r l
    show Ok pre a ∧ Gd (pre ++ [a]) (r ++ [l]) ↔ (Ok pre a ∧ Gd (pre ++ [a]) r) ∧ Ok (pre ++ a :: r) l
    rw [ih, List.append_assoc]
    exact ⟨fun ⟨x, y, z⟩ => ⟨⟨x, y⟩, z⟩, fun ⟨⟨x, y⟩, z⟩ => ⟨x, y, z⟩⟩
theorem good_snoc {r : List (List Int)} {l : List Int} : GoodT (r ++ [l]) ↔ GoodT r ∧ Ok r l := gd_snoc [] r l
def OkV (H : Hp) (ll : List (List Int)) (z : V) : Prop := ∃ (c : Addr) (ns : List Int), z = .ref c ∧ H c = some (.tup (ns.map V.int)) ∧ Ok ll ns
def GoodV (H : Hp) (y : V) : Prop := ∃ (b : Addr) (as : List Addr) (ll : List (List Int)), y = .ref b ∧ H b = some (.tup (as.map V.ref)) ∧ as.length ≤ 40 ∧ PT2 H as ll ∧ GoodT ll
def DueV (H : Hp) (y v : V) : Prop := (v = .int (-1) ∧ ¬ ∃ b xs, y = .ref b ∧ H b = some (.tup xs) ∧ xs.length ≤ 40) ∨
  ∃ (b : Addr) (xs : List V) (k : Nat) (z : V) (as : List Addr) (ll : List (List Int)), y = .ref b ∧ H b = some (.tup xs) ∧ xs.length ≤ 40 ∧ v = .int (k : Int) ∧ xs[k]? = some z ∧ xs.take k = as.map V.ref ∧ PT2 H as ll ∧ GoodT ll ∧ ¬ OkV H ll z
def Thing (K : PySem.W.Frag) (H : Hp) (y : V) : Prop := Th K H 2 y ∧ ∀ (b : Addr) (xs : List V), y = .ref b → H b = some (.tup xs) → xs.length ≤ 1000 ∧ ∀ z ∈ xs, Sm H z
theorem Th.items {K : PySem.W.Frag} {H : Hp} {n : Nat} {b : Addr} {xs : List V} (h : Th K H (n + 1) (.ref b)) (hb : H b = some (.tup xs)) : ∀ z ∈ xs, Th K H n z := by
  unfold Th at h
  obtain ⟨t, _, _, _, h⟩ := h
  rcases h with ⟨_, h⟩ | ⟨_, b', ys, e', hb', it⟩
  · obtain ⟨o, ho, no⟩ := h b rfl
    rw [ho] at hb
    cases hb
    exact absurd rfl (no xs)
  · cases e'
    rw [hb] at hb'
    cases hb'
    exact it
theorem Thing.ext {K : PySem.W.Frag} {H H' : Hp} {y : V} (e : Ext H H') (h : Thing K H y) : Thing K H' y := by
  refine ⟨h.1.ext e, fun b xs ey hb => ?_⟩
  subst ey
  have hb0 := h.1.tup_back e hb
  obtain ⟨h1, h2⟩ := h.2 b xs rfl hb0
  exact ⟨h1, fun z hz => (h2 z hz).ext e (h.1.items hb0 z hz)⟩
theorem PT2.inj {H : Hp} : ∀ {as : List Addr} {ll kk : List (List Int)}, PT2 H as ll → PT2 H as kk → ll = kk
  | _, _, _, .nil, .nil => rfl
  | _, _, _, .cons h r, .cons h' r' => by
    rw [h] at h'
    injection h' with h'
    injection h' with h'
    rw [int_inj h', PT2.inj r r']
theorem ref_inj : ∀ {as bs : List Addr}, as.map V.ref = bs.map V.ref → as = bs
  | [], [], _ => rfl
  | a :: as, b :: bs, h => by
    injection h with h1 h2
    injection h1 with h1
    rw [h1, ref_inj h2]
  | [], b :: bs, h => by cases h
  | a :: as, [], h => by cases h
/-- in a right tower each cell goes with those ahead -/
theorem gd_at : ∀ (pre r : List (List Int)) (k : Nat) (l : List Int), Gd pre r → r[k]? = some l → Ok (pre ++ r.take k) l
  | pre, [], k, l, _, h => by simp at h
  | pre, a :: r, 0, l, g, h => by
    have e : a = l := by simpa using h
    subst e
    simpa using g.1
  | pre, a :: r, k + 1, l, g, h => by
    have := gd_at (pre ++ [a]) r k l g.2 (by simpa using h)
    simpa using this
theorem p_take {α β : Type} {F : α → β → Prop} : ∀ {l : List α} {k : List β} (n : Nat), Paired F l k → Paired F (l.take n) (k.take n)
  | _, _, 0, r => .nil
  | _, _, n + 1, .nil => .nil
  | _, _, n + 1, .cons a r => .cons a (p_take n r)
theorem DueV.not_good {H : Hp} {y v : V} (d : DueV H y v) (g : GoodV H y) : False := by
  obtain ⟨b, as, ll, rfl, hb, hl, pt, gd⟩ := g
  rcases d with ⟨_, no⟩ | ⟨b', xs, k, z, as', ll', e, hb', _, _, hz, tk, pt', _, no⟩
  · exact no ⟨b, _, rfl, hb, by rw [List.length_map]; exact hl⟩
  · cases e
    rw [hb] at hb'
    cases hb'
    rw [← List.map_take] at tk
    have ea := ref_inj tk
    rw [← ea] at pt'
    have el := PT2.inj pt' (p_take k pt)
    rw [List.getElem?_map] at hz
    cases hk : as[k]? with
    | none => rw [hk] at hz; cases hz
    | some c =>
      rw [hk] at hz
      cases hz
      obtain ⟨l, hl', hc⟩ := pt.get hk
      refine no ⟨c, l, rfl, hc, ?_⟩
      rw [el]
      have := gd_at [] ll k l gd hl'
      simpa using this
theorem DueV.uniq {H : Hp} {y v v' : V} (d : DueV H y v) (d' : DueV H y v') : v = v' := by
  rcases d with ⟨rfl, no⟩ | ⟨b, xs, k, z, as, ll, rfl, hb, hl, rfl, hz, tk, pt, gd, nok⟩
  · rcases d' with ⟨rfl, _⟩ | ⟨b', xs', _, _, _, _, e, hb', hl', _⟩
    · rfl
    · exact absurd ⟨b', xs', e, hb', hl'⟩ no
  · rcases d' with ⟨rfl, no⟩ | ⟨b', xs', k', z', as', ll', e, hb', hl', rfl, hz', tk', pt', gd', nok'⟩
    · exact absurd ⟨b, xs, rfl, hb, hl⟩ no
    · cases e
      rw [hb] at hb'
      cases hb'
      -- the lesser one is in the prefix of the other
      have lemma1 : ∀ {i j : Nat} {x : V} {cs ds : List Addr} {mm nn : List (List Int)}, i < j → xs[i]? = some x → xs.take i = cs.map V.ref → PT2 H cs mm → xs.take j = ds.map V.ref → PT2 H ds nn → GoodT nn → OkV H mm x := by
        intro i j x cs ds mm nn lt hx tc pc td pd g
        have e1 : (ds.take i).map V.ref = cs.map V.ref := by rw [List.map_take, ← td, List.take_take, Nat.min_eq_left (Nat.le_of_lt lt), tc]
        have e2 := ref_inj e1
        have hx' : (ds.map V.ref)[i]? = some x := by rw [← td, List.getElem?_take_of_lt lt]; exact hx
        rw [List.getElem?_map] at hx'
        cases hk : ds[i]? with
        | none => rw [hk] at hx'; cases hx'
        | some c =>
          rw [hk] at hx'
          cases hx'
          obtain ⟨l, hl', hc⟩ := pd.get hk
          refine ⟨c, l, rfl, hc, ?_⟩
          have p1 := p_take i pd
          rw [e2] at p1
          rw [PT2.inj pc p1]
          have := gd_at [] nn i l g hl'
          simpa using this
      rcases Nat.lt_trichotomy k k' with l | l | l
      · exact (nok (lemma1 l hz tk pt tk' pt' gd')).elim
      · rw [l]
      · exact (nok' (lemma1 l hz' tk' pt' tk pt gd)).elim
theorem OkV.ext {H H' : Hp} {ll : List (List Int)} {z : V} (e : Ext H H') (h : OkV H ll z) : OkV H' ll z := by
  obtain ⟨c, ns, ez, hc, o⟩ := h
  exact ⟨c, ns, ez, e _ _ hc, o⟩
theorem OkV.back {K : PySem.W.Frag} {H H' : Hp} {n : Nat} {ll : List (List Int)} {z : V} (e : Ext H H') (t : Th K H n z) (h : OkV H' ll z) : OkV H ll z := by
  obtain ⟨c, ns, rfl, hc, o⟩ := h
  exact ⟨c, ns, rfl, t.tup_back e hc, o⟩
theorem pt_back {K : PySem.W.Frag} {H H' : Hp} {n : Nat} (e : Ext H H') : ∀ {as : List Addr} {ll : List (List Int)}, (∀ y ∈ as.map V.ref, Th K H n y) → PT2 H' as ll → PT2 H as ll
  | _, _, _, .nil => .nil
  | a :: as, _, t, .cons h r => .cons ((t (.ref a) List.mem_cons_self).tup_back e h) (pt_back e (fun y hy => t y (List.mem_cons_of_mem _ hy)) r)
theorem DueV.back {K : PySem.W.Frag} {H H' : Hp} {y v : V} (e : Ext H H') (t : Thing K H y) (d : DueV H' y v) : DueV H y v := by
  rcases d with ⟨ev, no⟩ | ⟨b, xs, k, z, as, ll, rfl, hb, hl, ev, hz, tk, pt, gd, nok⟩
  · exact .inl ⟨ev, fun ⟨b, xs, ey, hb, hl⟩ => no ⟨b, xs, ey, e _ _ hb, hl⟩⟩
  · have hb0 := t.1.tup_back e hb
    have it := t.1.items hb0
    refine .inr ⟨b, xs, k, z, as, ll, rfl, hb0, hl, ev, hz, tk, pt_back e (fun y hy => it y ?_) pt, gd, fun o => nok (o.ext e)⟩
    rw [← tk] at hy
    exact List.mem_of_mem_take hy
theorem GoodV.back {K : PySem.W.Frag} {H H' : Hp} {y : V} (e : Ext H H') (t : Thing K H y) (g : GoodV H' y) : GoodV H y := by
  obtain ⟨b, as, ll, rfl, hb, hl, pt, gd⟩ := g
  have hb0 := t.1.tup_back e hb
  exact ⟨b, as, ll, rfl, hb0, hl, pt_back e (t.1.items hb0) pt, gd⟩
def cf (y : V) : List (Str × V) := [("cells", y)]
theorem cf_cells (y : V) : (cf y).lookup ("cells" : Str) = some y := by rfl
def TowAt (CT : Addr) (H : Hp) (p b : Addr) : Prop := ∃ dx, H p = some (.ins CT dx (cf (.ref b)))
theorem TowAt.ext {CT p b : Addr} {H H' : Hp} (e : Ext H H') (h : TowAt CT H p b) : TowAt CT H' p b := h.imp fun _ z => e _ _ z
def spTow (K : PySem.W.Frag) (CT CB : Addr) : Sp := fun vs H Q E => ∃ (p dx : Addr) (y : V), vs = [.ref p, y] ∧ H p = some (.ins CT dx []) ∧ Thing K H y ∧
  (∀ (b : Addr) (H' : Hp), y = .ref b → GoodV H y → H' p = some (.ins CT dx (cf y)) → (∀ c o, c ≠ p → H c = some o → H' c = some o) → Q .non H') ∧
  (∀ (v : V) (d : Addr) (H' : Hp), DueV H y v → H d = none → H' d = some (.xd [("index", v)]) → Ext H H' → E (.ref CB) (some d) H')
structure TowK (K : PySem.W.Frag) (mg : Str → Option Value) (CT : Addr) : Prop where
  cl : Cls K CT
  nC : NoAttr K CT "cells"
  mgC : mg "Tower" = some (.ref CT)
section
variable {P : Program} {w : World} {K : PySem.W.Frag} {mg : Str → Option Value} {base : Heap}
theorem scWE : FnScope ["self"] ["self"] (defScope sWE) := ⟨rfl, rfl, rfl, by decide +kernel, rfl, by decide +kernel, by decide +kernel⟩
theorem ok_we {f : Addr} {fd : FuncData} (F : L2.Fun K "__init__" "WebError.__init__" sWE f fd) : FnOk P w K mg base CX0 1 f fd ["self"] spF0 := by
  refine F.ok scWE (fun vs H Q E h => ?_) (fun cdv A outer s H vs Q E hr h => ?_)
  · obtain ⟨a, rfl, _⟩ := h
    rfl
  · obtain ⟨a, rfl, k⟩ := h
    exact ⟨_, pss_one ps_pass, k⟩
theorem scBad : FnScope ["self", "index"] ["self", "index"] (defScope sBad) := ⟨rfl, rfl, rfl, by decide +kernel, rfl, by decide +kernel, by decide +kernel⟩
theorem ok_bad {f C : Addr} {fd : FuncData} (F : L2.Fun K "__init__" "BadTower.__init__" sBad f fd) (B : BadC K mg C f) : FnOk P w K mg base CX0 1 f fd ["self", "index"] (spBad C) := by
  refine F.ok scBad (fun vs H Q E h => ?_) (fun cdv A outer s H vs Q E hr h => ?_)
  · obtain ⟨a, v, rfl, _⟩ := h
    rfl
  · obtain ⟨a, v, rfl, ha, k⟩ := h
    exact ⟨_, pss_one (ps_ost (pv 0) (pv 1)), _, rfl, _, rfl, a, C, rfl, B.ex, B.noI, .inl ⟨ha, fun d nd ne => k d nd ne⟩⟩
abbrev towN : List Str := ["self", "cells", "at", "cell", "face"]
theorem scTowI : FnScope towN ["self", "cells"] (defScope sTowI) := ⟨rfl, rfl, rfl, by decide +kernel, rfl, by decide +kernel, by decide +kernel⟩
end
end L40

set_option Elab.async false
set_option linter.all false
set_option maxRecDepth 100000
set_option maxHeartbeats 4000000
set_option pp.maxSteps 60
/-! Towers compared, exchanged, and the law's own judge. -/
namespace L40
open PySem L2
/-! ### two cells exchanged -/
def swapAt (ll : List (List Int)) (k : Nat) (l1 l2 : List Int) : List (List Int) := ll.take k ++ ([l2, l1] ++ ll.drop (k + 2))
theorem gd_mem : ∀ {r p q : List (List Int)}, (∀ x, x ∈ p ↔ x ∈ q) → Gd p r → Gd q r
  | [], _, _, _, _ => True.intro
  | l :: r, p, q, h, ⟨⟨c, n, f⟩, g⟩ => ⟨⟨c, fun z => n ((h l).mpr z), fun x hx => (h x).mp (f x hx)⟩, gd_mem (fun x => by simp only [List.mem_append, h x]) g⟩
theorem gd_app : ∀ {p r s : List (List Int)}, Gd p (r ++ s) ↔ Gd p r ∧ Gd (p ++ r) s
  | p, [], s => by simp [Gd]
  | p, a :: r, s => by
    have ih := gd_app (p := p ++ [a]) (r := r) (s := s)
    show Ok p a ∧ Gd (p ++ [a]) (r ++ s) ↔ (Ok p a ∧ Gd (p ++ [a]) r) ∧ Gd (p ++ a :: r) s
    rw [ih, List.append_assoc]
    exact ⟨fun ⟨x, y, z⟩ => ⟨⟨x, y⟩, z⟩, fun ⟨⟨x, y⟩, z⟩ => ⟨x, y, z⟩⟩
theorem gd_swap {p r : List (List Int)} {l1 l2 : List Int} (h : Gd p (l1 :: l2 :: r)) (no : l1 ∉ facesL l2) : Gd p (l2 :: l1 :: r) ∧ l2 ∉ facesL l1 := by
  obtain ⟨⟨c1, n1, f1⟩, ⟨c2, n2, f2⟩, g⟩ := h
  have n12 : l2 ≠ l1 := fun e => n2 (by rw [e]; simp)
  refine ⟨⟨⟨c2, fun z => n2 (List.mem_append_left _ z), fun x hx => ?_⟩, ⟨c1, fun z => ?_, fun x hx => List.mem_append_left _ (f1 x hx)⟩, gd_mem (fun x => ?_) g⟩, fun z => n2 (List.mem_append_left _ (f1 _ z))⟩
  · rcases List.mem_append.mp (f2 x hx) with z | z
    · exact z
    · rw [List.mem_singleton.mp z] at hx
      exact (no hx).elim
  · rcases List.mem_append.mp z with z | z
    · exact n1 z
    · exact n12 (List.mem_singleton.mp z).symm
  · simp only [List.mem_append, List.mem_singleton]
    constructor
    · rintro ((x | x) | x)
      · exact .inl (.inl x)
      · exact .inr x
      · exact .inl (.inr x)
    · rintro ((x | x) | x)
      · exact .inl (.inl x)
      · exact .inr x
      · exact .inl (.inr x)
theorem split_at {ll : List (List Int)} {k : Nat} {l1 l2 : List Int} (h1 : ll[k]? = some l1) (h2 : ll[k + 1]? = some l2) : ll = ll.take k ++ (l1 :: l2 :: ll.drop (k + 2)) := by
  obtain ⟨a1, b1⟩ := List.getElem?_eq_some_iff.mp h1
  obtain ⟨a2, b2⟩ := List.getElem?_eq_some_iff.mp h2
  have e : ll.drop k = l1 :: l2 :: ll.drop (k + 2) := by
    rw [List.drop_eq_getElem_cons a1, List.drop_eq_getElem_cons a2, b1, b2]
  rw [← e, List.take_append_drop]
theorem good_swap {ll : List (List Int)} {k : Nat} {l1 l2 : List Int} (g : GoodT ll) (h1 : ll[k]? = some l1) (h2 : ll[k + 1]? = some l2) (no : l1 ∉ facesL l2) : GoodT (swapAt ll k l1 l2) ∧ l2 ∉ facesL l1 := by
  have e := split_at h1 h2
  unfold GoodT at g ⊢
  rw [e] at g
  obtain ⟨g1, g2⟩ := gd_app.mp g
  obtain ⟨g3, n⟩ := gd_swap g2 no
  exact ⟨gd_app.mpr ⟨g1, g3⟩, n⟩
theorem swap_get {ll : List (List Int)} {k : Nat} {l1 l2 : List Int} (h1 : ll[k]? = some l1) (h2 : ll[k + 1]? = some l2) : (swapAt ll k l1 l2)[k]? = some l2 ∧ (swapAt ll k l1 l2)[k + 1]? = some l1 ∧ swapAt (swapAt ll k l1 l2) k l2 l1 = ll := by
  have a1 := (List.getElem?_eq_some_iff.mp h1).1
  have lt : (ll.take k).length = k := by rw [List.length_take]; omega
  have e := split_at h1 h2
  refine ⟨?_, ?_, ?_⟩
  · unfold swapAt
    rw [List.getElem?_append_right (by omega), lt]
    simp
  · unfold swapAt
    rw [List.getElem?_append_right (by omega), lt]
    simp
  · unfold swapAt
    rw [List.take_append_of_le_length (by omega), List.take_of_length_le (by omega), List.drop_append, lt, List.drop_of_length_le (by omega)]
    have e2 : k + 2 - k = 2 := by omega
    rw [e2]
    show ll.take k ++ ([l1, l2] ++ ll.drop (k + 2)) = ll
    exact e.symm
theorem thing_of {K : PySem.W.Frag} {H : Hp} {b : Addr} {as : List Addr} {ll : List (List Int)} (hb : H b = some (.tup (as.map V.ref))) (pt : PT2 H as ll) (la : as.length ≤ 1000) (hl : ∀ l ∈ ll, l.length ≤ 1000) : Thing K H (.ref b) := by
  refine ⟨Th.tup hb (PT2.th (n := 0) pt), fun b' xs e hb' => ?_⟩
  cases e
  rw [hb] at hb'
  cases hb'
  refine ⟨by rw [List.length_map]; exact la, fun z hz c ys e hc => ?_⟩
  subst e
  obtain ⟨a, ha, e⟩ := List.mem_map.mp hz
  cases e
  obtain ⟨i, hi⟩ := List.mem_iff_getElem?.mp ha
  obtain ⟨l, hl', h⟩ := pt.get hi
  rw [h] at hc
  cases hc
  rw [List.length_map]
  exact hl l (List.mem_of_getElem? hl')
theorem good_cells {ll : List (List Int)} (g : GoodT ll) : ∀ l ∈ ll, CellL l := fun l hl => by
  obtain ⟨i, hi⟩ := List.mem_iff_getElem?.mp hl
  have := gd_at [] ll i l g hi
  exact this.1
theorem good_short {ll : List (List Int)} (g : GoodT ll) : ∀ l ∈ ll, l.length ≤ 1000 := fun l hl => Nat.le_trans (good_cells g l hl).2.1 (by decide)
theorem p_drop {α β : Type} {F : α → β → Prop} : ∀ {l : List α} {k : List β} (n : Nat), Paired F l k → Paired F (l.drop n) (k.drop n)
  | _, _, 0, r => r
  | _, _, n + 1, .nil => .nil
  | _, _, n + 1, .cons _ r => p_drop n r
theorem p_app {α β : Type} {F : α → β → Prop} : ∀ {l l' : List α} {k k' : List β}, Paired F l k → Paired F l' k' → Paired F (l ++ l') (k ++ k')
  | _, _, _, _, .nil, r' => r'
  | _, _, _, _, .cons a r, r' => .cons a (p_app r r')
section
variable {P : Program} {w : World} {K : PySem.W.Frag} {mg : Str → Option Value} {base : Heap}
end
end L40

set_option Elab.async false
set_option linter.all false
set_option maxRecDepth 100000
set_option maxHeartbeats 4000000
set_option pp.maxSteps 60
/-! The bag. -/
namespace L40
open PySem L2
section
variable {P : Program} {w : World} {K : PySem.W.Frag} {mg : Str → Option Value} {base : Heap}
abbrev bagN : List Str := ["_law_script", "_law_great", "_law_seed", "_law_cell"]
theorem scBag : FnScope bagN ["_law_script"] (defScope sBag) := ⟨rfl, rfl, rfl, by decide +kernel, rfl, by decide +kernel, by decide +kernel⟩
theorem ok_bag {f : Addr} {fd : FuncData} (F : L2.Fun K "_law_bag" "_law_bag" sBag f fd) (T : Gb mg) : FnOk P w K mg base CX0 1 f fd ["_law_script"] (spBag K) := by
  refine F.ok scBag (fun vs H Q E h => ?_) (fun cdv A outer s H vs Q E hr h => ?_)
  · obtain ⟨a, ns, rfl, _⟩ := h
    rfl
  · obtain ⟨a, ns, rfl, hS, hlen, k⟩ := h
    refine ⟨_, pss_cons (ps_setLc (i := 1) (own := [("_law_cell", 3)]) (g := gName 3) rfl scBag.nd rfl rfl (sw_true rfl rfl rfl (by decide +kernel)) (pi_list (pe_slice sl_list (pv 0) po_none (po_some pe_int))) (blkOk_by (N := bagN) (sc := defScope sBag) (by decide +kernel))
        (fun _ _ _ _ _ => pg_name (i := 3) scBag.nd rfl (Or.inl rfl))
        (fun _ _ _ _ _ => pts_one (pt_cmpR op_ge (pe_callB call_abs (by rfl) T.abs (by decide +kernel) (pa_cons (pe_callTy call_int1 (by rfl) T.int (by decide +kernel) (pa_cons (pv 3) pa_nil)) pa_nil)) (pe_op op_pow pe_int pe_int) (nomark _)))
        (fun _ _ _ _ _ => pe_callB call_abs (by rfl) T.abs (by decide +kernel) (pa_cons (pe_callTy call_int1 (by rfl) T.int (by decide +kernel) (pa_cons (pv 3) pa_nil)) pa_nil)))
      (pss_cons (ps_set (i := 2) scBag.nd rfl (Or.inl rfl) pe_int)
      (pss_cons (ps_for PassesOwn.never rfl (pi_list (pe_slice sl_list (pv 0) po_none (po_some pe_int))) (pg_name (i := 3) scBag.nd rfl (Or.inl rfl))
        (pss_one (ps_set (i := 2) scBag.nd rfl (Or.inl rfl) (pe_op op_mod (pe_callTy call_int1 (by rfl) T.int (by decide +kernel) (pa_cons
          (pe_op op_add (pe_op op_add (pe_op op_add (pe_op op_mul (pv 2) pe_int) (pe_op op_mul (pe_callB call_abs (by rfl) T.abs (by decide +kernel) (pa_cons (pe_callTy call_int1 (by rfl) T.int (by decide +kernel) (pa_cons (pv 3) pa_nil)) pa_nil)) pe_int))
            (pe_callTy call_int1 (by rfl) T.int (by decide +kernel) (pa_cons (pe_cmpR op_lt (pe_callTy call_int1 (by rfl) T.int (by decide +kernel) (pa_cons (pv 3) pa_nil)) pe_int (nomark _)) pa_nil))) pe_int) pa_nil)) pe_int))))
      (pss_one (ps_ret (pe_lst (pa_cons (pv 1) (pa_cons (pv 2) (pa_cons (pe_callB call_len_seq (by rfl) T.len PySem.boot_len (pa_cons (pv 0) pa_nil)) (pa_cons pe_int pa_nil))))))))), ?_⟩
    have all : ∀ y ∈ cutV (ns.map V.int) Option.none (some 63), ∃ i, y = V.int i := fun y hy => by
      have hy := List.mem_of_mem_drop (List.mem_of_mem_take hy)
      obtain ⟨i, _, rfl⟩ := List.mem_map.mp hy
      exact ⟨i, rfl⟩
    have cl : (cutV (ns.map V.int) Option.none (some 63)).length ≤ 63 := Nat.le_trans (cutV_length _ _ _) (by rw [List.length_map]; exact hlen)
    refine ⟨_, rfl, 63, rfl, a, _, rfl, hS, fun l nl => ?_⟩
    generalize cutV (ns.map V.int) Option.none (some 63) = xs at *
    refine ⟨l, rfl, ⟨_, SqL.of upd_same⟩, fun D nD => lc_list (K := K) (a := l) (xs := xs) (fun i H' => ∃ cs : List Int, H' = upd (upd H l (.lst xs)) D (.lst (cs.map V.int)) ∧ cs.length ≤ i) ⟨[], rfl, Nat.le_refl _⟩ (fun i H' _ ⟨cs, e, _⟩ => by rw [e]; exact SqL.of (Ext.upd nD _ _ upd_same)) ?_ ?_⟩
    · rintro i y H' hy ⟨cs, rfl, hc⟩
      obtain ⟨z, rfl⟩ := all y (List.mem_of_getElem? hy)
      have hi := (List.getElem?_eq_some_iff.mp hy).1
      refine ⟨rfl, _, rfl, .inl ⟨_, rfl, _, rfl, _, _, rfl, rfl, ⟨by decide, by decide, by decide⟩, _, _, rfl, rfl, _, rfl, ?_⟩⟩
      refine ite2 (fun _ => ?_) (fun _ => ⟨cs, rfl, by omega⟩)
      refine ⟨_, rfl, .inl ⟨_, rfl, _, rfl, ?_⟩⟩
      refine ⟨_, upd_same, by rw [List.length_map]; exact small1000 (by omega), cs ++ [if z < 0 then -z else z], ?_, by rw [List.length_append]; exact Nat.succ_le_succ hc⟩
      rw [upd_upd, List.map_append]
      rfl
    · rintro H' ⟨cs, rfl, hc⟩
      have e1 : Ext H (upd (upd H l (.lst xs)) D (.lst (cs.map V.int))) := (Ext.upd nl).trans (Ext.upd nD)
      have gD : (upd (upd H l (.lst xs)) D (.lst (cs.map V.int))) D = some (.lst (cs.map V.int)) := upd_same
      generalize upd (upd H l (.lst xs)) D (.lst (cs.map V.int)) = H1 at *
      refine ⟨_, rfl, 63, rfl, a, _, rfl, hS.ext e1, fun l2 nl2 => ?_⟩
      have e2 := Ext.upd (o := .lst (cutV (ns.map V.int) Option.none (some 63))) nl2
      refine ⟨l2, rfl, ⟨_, SqL.of upd_same⟩, for_list (K := K) (a := l2) (xs := cutV (ns.map V.int) Option.none (some 63)) (fun i σ' H' => (∃ (z : Int) (v : Option V), σ' = [some (.ref a), some (.ref D), some (.int z), v]) ∧ H' = upd H1 l2 (.lst (cutV (ns.map V.int) Option.none (some 63)))) ⟨⟨140, _, rfl⟩, rfl⟩ (fun i σ' H' _ h => by rw [h.2]; exact SqL.of upd_same) ?_ ?_⟩
      · rintro i y σ' H' hy ⟨⟨z, v, rfl⟩, rfl⟩
        obtain ⟨c, hc'⟩ : ∃ c, y = V.int c := by
          have hy := List.mem_of_mem_drop (List.mem_of_mem_take (List.mem_of_getElem? hy))
          obtain ⟨i, _, rfl⟩ := List.mem_map.mp hy
          exact ⟨i, rfl⟩
        subst hc'
        refine ⟨_, rfl, _, _, rfl, rfl, .inr ⟨by decide, by decide⟩, ?_⟩
        refine ⟨_, rfl, .inl ⟨_, rfl, _, rfl, _, _, rfl, rfl, .inr ⟨by decide, by decide⟩, _, _, rfl, rfl, _, rfl, .inl ⟨_, rfl, _, _, rfl, rfl, .inr ⟨_, rfl, _, _, rfl, rfl, _, _, rfl, rfl, .inl ⟨_, rfl, _, _, rfl, rfl, (by show (0 : Int) < 2147483629; decide), ?_⟩⟩⟩⟩⟩
        exact ⟨⟨_, _, rfl⟩, rfl⟩
      · rintro σ' H' ⟨⟨z, v, rfl⟩, rfl⟩
        refine ⟨_, rfl, _, rfl, _, rfl, a, _, rfl, .inl ((hS.ext e1).ext e2), (by show 4 ≤ sizeLine; decide), fun r nr => ?_⟩
        exact k r D _ (fun b o hb => Ext.upd nr _ _ (e2 _ _ (e1 _ _ hb))) ⟨cs, z, _, 0, upd_same, Ext.upd nr _ _ (e2 _ _ gD)⟩
end
end L40

set_option Elab.async false
set_option linter.all false
set_option maxRecDepth 100000
set_option maxHeartbeats 4000000
set_option pp.maxSteps 60
/-! A drawn tower grown. -/
namespace L40
open PySem L2
abbrev sGrown : Stmt := top 33
/-- a test whose answers go on with what they leave alone -/
def tCutT (t : L2.TT) : L2.TT := fun σ H Q => ∃ M : Bool → Hp → Prop, t σ H M ∧ ∀ c H1, M c H1 → Q c H1
theorem pt_cutT {X : Cx} {e : Expr} {t : L2.TT} (h : PT X e t) : PT X e (tCutT t) := ⟨fun pins s σ H Q I hw => by
  obtain ⟨M, hm, k⟩ := hw
  refine wpAny_mono (h.run pins s σ H M I hm) (fun c s1 ⟨H1, I1, m⟩ => ⟨H1, I1, k _ _ m⟩) fun _ _ z => z⟩
/-! ### what is free -/
def fr (i : Nat) (ps : List Int) : List Int := ((List.range i).map fun k : Nat => (0 + (k : Int))).filter fun p => !decide (p ∈ ps)
theorem fr_succ (i : Nat) (ps : List Int) : fr (i + 1) ps = fr i ps ++ (if (0 + (i : Int)) ∈ ps then [] else [0 + (i : Int)]) := by
  unfold fr
  rw [List.range_succ, List.map_append, List.filter_append]
  congr 1
  simp only [List.map_cons, List.map_nil]
  by_cases h : (0 + (i : Int)) ∈ ps
  · rw [if_pos h, List.filter_cons, decide_eq_true h]
    rfl
  · rw [if_neg h, List.filter_cons, decide_eq_false h]
    rfl
theorem fr_mem {i : Nat} {ps : List Int} {p : Int} (h : p ∈ fr i ps) : 0 ≤ p ∧ p < i ∧ p ∉ ps := by
  unfold fr at h
  obtain ⟨h1, h2⟩ := List.mem_filter.mp h
  obtain ⟨k, hk, rfl⟩ := List.mem_map.mp h1
  have := List.mem_range.mp hk
  have h3 : ¬ (0 + (k : Int)) ∈ ps := fun z => by
    rw [decide_eq_true z] at h2
    cases h2
  exact ⟨by omega, by omega, h3⟩
theorem fr_le {i : Nat} {ps : List Int} : (fr i ps).length ≤ i := by
  unfold fr
  refine Nat.le_trans (List.length_filter_le _ _) ?_
  rw [List.length_map, List.length_range]
  exact Nat.le_refl _
theorem many_left : ∀ (ps R : List Int), R.Nodup → R.length ≤ (R.filter fun p => !decide (p ∈ ps)).length + ps.length
  | [], R, _ => by
    rw [List.filter_eq_self.mpr fun x _ => by simp]
    exact Nat.le_add_right _ _
  | p :: ps, R, nd => by
    have e : (R.filter fun x => !decide (x ∈ p :: ps)) = (R.filter (fun x => x != p)).filter fun x => !decide (x ∈ ps) := by
      rw [List.filter_filter]
      refine List.filter_congr fun x _ => ?_
      by_cases h : x = p <;> by_cases g : x ∈ ps <;> simp [h, g]
    have e2 := nd.erase_eq_filter p
    have ih := many_left ps (R.filter (fun x => x != p)) (by rw [← e2]; exact nd.erase p)
    have l1 : R.length ≤ (R.filter (fun x => x != p)).length + 1 := by
      rw [← e2, List.length_erase]
      split <;> omega
    rw [e, List.length_cons]
    omega
theorem fr_many {ps : List Int} : 30 ≤ (fr 30 ps).length + ps.length := by
  have nd : ((List.range 30).map fun k : Nat => (0 + (k : Int))).Nodup := by decide +kernel
  have := many_left ps _ nd
  rw [List.length_map, List.length_range] at this
  exact this
theorem inV_ints (p : Int) : ∀ ps : List Int, inV (.int p) (ps.map V.int) = decide (p ∈ ps)
  | [] => by simp [inV]
  | q :: ps => by
    have ih := inV_ints p ps
    unfold inV at ih ⊢
    rw [List.map_cons, List.any_cons, ih]
    show ((q == p) || _) = _
    by_cases h : q = p
    · simp [h]
    · have h' : ¬ p = q := fun e => h e.symm
      simp [h, h']
theorem flat_ints (ps : List Int) : (ps.map V.int).all flatV = true := List.all_eq_true.mpr fun y hy => by
  obtain ⟨i, _, rfl⟩ := List.mem_map.mp hy
  rfl
theorem erase_map : ∀ (l : List Int) (k : Nat), (l.map V.int).eraseIdx k = (l.eraseIdx k).map V.int
  | [], k => rfl
  | x :: l, 0 => rfl
  | x :: l, k + 1 => by
    rw [List.map_cons, List.eraseIdx_cons_succ, List.eraseIdx_cons_succ, erase_map l k]
    rfl
theorem rise_of {ns : List Int} (h : ns.Pairwise (· ≤ ·)) (nd : ns.Nodup) : ns.Pairwise (· < ·) := by
  have := List.Pairwise.and h nd
  exact this.imp fun ⟨x, y⟩ => by omega
/-- what stands in the list of cells and in the list of points -/
structure GrH (L G : Addr) (as : List Addr) (ll : List (List Int)) (ps : List Int) (H : Hp) : Prop where
  l : H L = some (.lst (as.map V.ref))
  g : H G = some (.lst (ps.map V.int))
  pt : PT2 H as ll
theorem GrH.go {a c L G : Addr} {as : List Addr} {ll : List (List Int)} {ps : List Int} {H H' : Hp} (nL : L ≠ a ∧ L ≠ c) (nG : G ≠ a ∧ G ≠ c) (bag : BagAt H a c) (go : Go a c H H') (h : GrH L G as ll ps H) : GrH L G as ll ps H' :=
  ⟨go.2 _ _ nL.1 nL.2 h.1, go.2 _ _ nG.1 nG.2 h.2, PT2.mono (fun _ _ z => Go.tup bag go z) h.3⟩
theorem GrH.ext {L G : Addr} {as : List Addr} {ll : List (List Int)} {ps : List Int} {H H' : Hp} (e : Ext H H') (h : GrH L G as ll ps H) : GrH L G as ll ps H' := ⟨e _ _ h.1, e _ _ h.2, PT2.mono (fun _ _ z => e _ _ z) h.3⟩
theorem GrH.put {L G D : Addr} {as : List Addr} {ll : List (List Int)} {ps : List Int} {H : Hp} {o : HO} {xs : List V} (hD : H D = some (.lst xs)) (nL : L ≠ D) (nG : G ≠ D) (h : GrH L G as ll ps H) : GrH L G as ll ps (upd H D o) :=
  ⟨by rw [upd_ne nL]; exact h.1, by rw [upd_ne nG]; exact h.2, PT2.mono (fun b ys z => by rw [upd_ne (lst_ne hD z)]; exact z) h.3⟩
theorem Go.none_back {a c b : Addr} {H H' : Hp} (g : Go a c H H') (nb : H' b = none) : H b = none := by
  cases q : H b with
  | none => rfl
  | some o =>
    obtain ⟨n1, n2⟩ := g.1.ne nb
    rw [g.2 _ _ n1 n2 q] at nb
    cases nb
theorem seqI {n : Nat} {r : Int} (h0 : 0 ≤ r) (h : r < n) : seqIndex? r n = some r.toNat := by
  unfold seqIndex?
  have c1 : ¬ r < 0 := by omega
  simp only [c1, if_false]
  rw [if_pos (by simp; omega)]
def spGrown : Sp := fun vs H Q _ => ∃ (a c : Addr) (m : Nat), vs = [.ref a, .int (m : Int)] ∧ BagAt H a c ∧ m ≤ 40 ∧
  ∀ (l : Addr) (as : List Addr) (ll : List (List Int)) (H' : Hp), Go a c H H' → l ≠ a → l ≠ c → H' l = some (.lst (as.map V.ref)) → PT2 H' as ll → GoodT ll → as.length ≤ m → Q (.ref l) H'
section
variable {P : Program} {w : World} {K : PySem.W.Frag} {mg : Str → Option Value} {base : Heap}
abbrev grownN : List Str := ["_law_bag_here", "_law_many", "_law_cells", "_law_points", "_law_width", "_law_turn", "_law_pool", "_law_size", "_law_cell", "_law_free", "_law_point", "_law_face"]
theorem scGrown : FnScope grownN ["_law_bag_here", "_law_many"] (defScope sGrown) := ⟨rfl, rfl, rfl, by decide +kernel, rfl, by decide +kernel, by decide +kernel⟩
theorem ok_grown {f : Addr} {fd : FuncData} (F : L2.Fun K "_law_grown" "_law_grown" sGrown f fd) (T : Gb mg) (cP : Cal P w K mg base 1 "_law_pick" spPick []) (cS : Cal P w K mg base 2 "_law_some" spSome []) (cF : Cal P w K mg base 1 "_law_faces" spFaces []) : FnOk P w K mg base CX0 3 f fd ["_law_bag_here", "_law_many"] spGrown := by
  refine F.ok scGrown (fun vs H Q E h => ?_) (fun cdv A outer s H vs Q E hr h => ?_)
  · obtain ⟨a, c, m, rfl, _⟩ := h
    rfl
  · obtain ⟨a, c, m, rfl, bag, m40, k⟩ := h
    refine ⟨_, pss_cons (ps_asg (pe_tup (pa_cons (pe_lst pa_nil) (pa_cons (pe_lst pa_nil) pa_nil))) (pg_tup rfl (pgs_cons (pg_name (i := 2) scGrown.nd rfl (Or.inr rfl)) (pgs_cons (pg_name (i := 3) scGrown.nd rfl (Or.inr rfl)) pgs_nil))))
      (pss_cons (ps_set (i := 4) scGrown.nd rfl (Or.inl rfl) (pe_op op_add pe_int (C8.pe_c cP hr (by decide) (by rfl) (pa_cons (pv 0) (pa_cons pe_int pa_nil)))))
      (pss_cons (ps_for PassesOwn.never rfl (pi_range1 (by rfl) T.rng (pa_cons (pe_op op_mul pe_int (pv 1)) pa_nil)) (pg_name (i := 5) scGrown.nd rfl (Or.inl rfl))
        (pss_one (ps_if (pt_cmpR op_lt (pe_callB call_len_seq (by rfl) T.len PySem.boot_len (pa_cons (pv 2) pa_nil)) (pv 1) (nomark _))
          (pss_cons (ps_par (i := 6) (j := 7) rfl scGrown.nd rfl rfl (by decide) rfl rfl (pa_cons (pe_callTy call_list_of (by rfl) T.list (by decide +kernel) (pa_cons (pv 3) pa_nil)) (pa_cons (pe_op op_add pe_int (C8.pe_c cP hr (by decide) (by rfl) (pa_cons (pv 0) (pa_cons pe_int pa_nil)))) pa_nil)) (by rfl))
          (C8.pss_cut (ps_while PassesOwn.never (pt_cmpR op_gt (pe_callB call_len_seq (by rfl) T.len PySem.boot_len (pa_cons (pv 6) pa_nil)) (pv 7) (nomark _))
            (pss_one (ps_expr (pe_bm PySem.F.plainAttrs_list PySem.F.slot_list_pop PySem.F.type_list_pop mt_popAt (pv 6) (pa_cons (C8.pe_c cP hr (by decide) (by rfl) (pa_cons (pv 0) (pa_cons (pe_callB call_len_seq (by rfl) T.len PySem.boot_len (pa_cons (pv 6) pa_nil)) pa_nil))) pa_nil)))))
          (pss_cons (ps_set (i := 8) scGrown.nd rfl (Or.inl rfl) (pe_callTy call_tuple_of (by rfl) T.tup (by decide +kernel) (pa_cons (pe_callB cr_sorted (by rfl) T.sorted (by decide +kernel) (pa_cons (pv 6) pa_nil)) pa_nil)))
          (C8.pss_cut (ps_if (pt_cutT (PW.pt (pw_or (PW.pt (pw_and (pt_cmpR op_lt (pe_callB call_len_seq (by rfl) T.len PySem.boot_len (pa_cons (pv 3) pa_nil)) (pv 4) (nomark _)) (pw_and1 (pt_cmpR op_eq (C8.pe_c cP hr (by decide) (by rfl) (pa_cons (pv 0) (pa_cons pe_int pa_nil))) pe_int (nomark _)))))
              (pw_or1 (pt_cmpR op_eq (pe_callB call_len_seq (by rfl) T.len PySem.boot_len (pa_cons (pv 3) pa_nil)) pe_int (nomark _))))))
            (pss_cons (ps_setLc (i := 9) (own := [("_law_point", 10)]) (g := gName 10) (tt := tTest (tOp (rIn K true) (tVar 10) (tVar 3))) (te := tVar 10) rfl scGrown.nd rfl rfl (sw_true rfl rfl rfl (by decide +kernel)) (pi_range1 (by rfl) T.rng (pa_cons pe_int pa_nil)) (blkOk_by (N := grownN) (sc := defScope sGrown) (by decide +kernel))
                (fun _ _ _ _ _ => pg_name (i := 10) scGrown.nd rfl (Or.inl rfl)) (fun _ _ _ _ _ => pts_one (pt_cmpR op_notIn_seq (pv 10) (pv 3) (by rfl))) (fun _ _ _ _ _ => pv 10))
            (pss_cons (ps_set (i := 8) scGrown.nd rfl (Or.inl rfl) (pe_tup (pa_cons (pe_ix ix_list (pv 9) (C8.pe_c cP hr (by decide) (by rfl) (pa_cons (pv 0) (pa_cons (C8.pe_c cS hr (by decide) (by rfl) (pa_cons (pv 0) (pa_cons (pe_lst (pa_cons pe_int (pa_cons pe_int (pa_cons (pe_callB call_len_seq (by rfl) T.len PySem.boot_len (pa_cons (pv 9) pa_nil)) pa_nil)))) pa_nil))) pa_nil))) (fun _ _ => rfl)) pa_nil)))
            (pss_one (ps_expr (pe_bm PySem.F.plainAttrs_list PySem.F.slot_list_append PySem.F.type_list_append mt_append (pv 3) (pa_cons (pe_ix ix_tup (pv 8) pe_int (fun _ _ => rfl)) pa_nil)))))) pss_nil)
          (pss_one (ps_if (PW.pt (pw_and (pt_cmpR (op_notInD (u65 hr)) (pv 8) (pv 2) (by rfl)) (pw_and1 (pt_val (pe_callB (cr_all rfl) (by rfl) T.all (by decide +kernel) (pa_cons (pe_lc (own := [("_law_face", 11)]) (g := gName 11) (tt := tYes) (te := tOp (rInD K) (tVar 11) (tVar 2)) rfl scGrown.nd (pi_list (C8.pe_c cF hr (by decide) (by rfl) (pa_cons (pv 8) pa_nil))) (blkOk_by (N := grownN) (sc := defScope sGrown) (by decide +kernel))
                (fun _ _ _ _ _ => pg_name (i := 11) scGrown.nd rfl (Or.inl rfl)) (fun _ _ _ _ _ => pts_nil) (fun _ _ _ _ _ => pe_cmpR (op_inD (u65 hr)) (pv 11) (pv 2) (by rfl))) pa_nil))))))
            (pss_one (ps_expr (pe_bm PySem.F.plainAttrs_list PySem.F.slot_list_append PySem.F.type_list_append mt_append (pv 2) (pa_cons (pv 8) pa_nil)))) pss_nil)))))) pss_nil)))
      (pss_one (ps_ret (pv 2))))), ?_⟩
    refine ⟨Nat.zero_le _, fun L nL0 => ⟨Nat.zero_le _, fun G nG0 => ⟨by show 2 ≤ sizeLine; decide, fun t0 nt0 => ⟨t0, _, rfl, SqT.of upd_same, rfl, _, _, rfl, _, _, rfl, rfl, ?_⟩⟩⟩⟩
    have nL1 : H L = Option.none := nL0
    have nG1 : H G = Option.none := none_back (Ext.upd nL0) nG0
    have neLG : L ≠ G := ne_of_none upd_same nG0
    have nL := bag.ne nL1
    have nG := bag.ne nG1
    have go0 : Go a c H (upd (upd (upd H L (.lst [])) G (.lst [])) t0 (.tup [.ref L, .ref G])) := Go.of_ext bag (((Ext.upd nL0).trans (Ext.upd nG0)).trans (Ext.upd nt0))
    have gr0 : GrH L G [] [] [] (upd (upd (upd H L (.lst [])) G (.lst [])) t0 (.tup [.ref L, .ref G])) := ⟨Ext.upd nt0 _ _ (Ext.upd nG0 _ _ upd_same), Ext.upd nt0 _ _ upd_same, .nil⟩
    generalize upd (upd (upd H L (.lst [])) G (.lst [])) t0 (.tup [.ref L, .ref G]) = H0 at *
    refine ⟨_, rfl, a, c, 6, rfl, go0.1, by decide, by decide, fun r1 H1 a1 b1 g1 => ⟨_, _, rfl, rfl, ?_⟩⟩
    have go1 := go0.trans g1
    have gr1 := gr0.go nL nG go0.1 g1
    obtain ⟨wd, ewd⟩ : ∃ wd, wd = 2 + r1 := ⟨_, rfl⟩
    show gName 4 (V.int (2 + r1)) _ _ _
    rw [← ewd]
    have w7 : wd ≤ 7 := by omega
    refine ⟨_, rfl, _, _, rfl, rfl, .inl ⟨by decide, by decide⟩, _, rfl, by omega, by omega, for_range (lo := 0) (n := (5 * (m : Int)).toNat) (fun i σ' H' => (∃ v5 v6 v7 v8 v9 : Option V, σ' = [some (.ref a), some (.int (m : Int)), some (.ref L), some (.ref G), some (.int wd), v5, v6, v7, v8, v9, Option.none, Option.none]) ∧ Go a c H H' ∧ ∃ as ll ps, GrH L G as ll ps H' ∧ GoodT ll ∧ as.length ≤ m ∧ ps.Nodup ∧ (∀ p ∈ ps, 0 ≤ p ∧ p ≤ 29) ∧ ps.length ≤ 7 ∧ ((i = 0 ∧ ps = [] ∧ as = []) ∨ (1 ≤ as.length ∧ 1 ≤ ps.length))) ?_ ?_ ?_⟩
    · exact ⟨⟨_, _, _, _, _, rfl⟩, go1, [], [], [], gr1, True.intro, Nat.zero_le _, List.nodup_nil, (fun p h => by cases h), Nat.zero_le _, .inl ⟨rfl, rfl, rfl⟩⟩
    · rintro i σ' H2 hi ⟨⟨v5, v6, v7, v8, v9, rfl⟩, go2, as, ll, ps, gr2, gd, lm, nd, bd, l7, ini⟩
      refine ⟨_, rfl, L, _, rfl, .inl (SqL.of gr2.l), _, rfl, _, _, rfl, rfl, _, rfl, ?_⟩
      refine ite2 (fun q => ?_) (fun q => ?_)
      · have lm' : as.length < m := by
          have := of_decide_eq_true q
          rw [List.length_map] at this
          omega
        refine ⟨_, rfl, G, _, rfl, .inl (SqL.of gr2.g), fun D nD => ?_⟩
        have nD1 := go2.none_back nD
        have nDac := bag.ne nD1
        have go3 := Go.put (o := .lst (ps.map V.int)) bag go2 nD1
        have neLD : L ≠ D := ne_of_none gr2.l nD
        have neGD : G ≠ D := ne_of_none gr2.g nD
        refine ⟨_, rfl, a, c, 3, rfl, go3.1, by decide, by decide, fun r2 H4 a2 b2 g4 => ⟨_, _, rfl, rfl, _, _, rfl, ?_⟩⟩
        have go4 := go3.trans g4
        have gr4 := (gr2.ext (Ext.upd nD)).go nL nG go3.1 g4
        have hD4 := g4.2 _ _ nDac.1 nDac.2 (upd_same (H := H2) (a := D) (o := .lst (ps.map V.int)))
        refine ⟨fun σ' H' => σ' = [some (.ref a), some (.int (m : Int)), some (.ref L), some (.ref G), some (.int wd), some (.int (0 + (i : Int))), some (.ref D), some (.int (2 + r2)), v8, v9, Option.none, Option.none] ∧ Go a c H H' ∧ GrH L G as ll ps H' ∧ ∃ ds : List Int, H' D = some (.lst (ds.map V.int)) ∧ ds.Sublist ps ∧ ds.length ≤ 4 ∧ (1 ≤ ps.length → 1 ≤ ds.length), ?_, ?_⟩
        · refine ⟨fun n σ' H' => σ' = [some (.ref a), some (.int (m : Int)), some (.ref L), some (.ref G), some (.int wd), some (.int (0 + (i : Int))), some (.ref D), some (.int (2 + r2)), v8, v9, Option.none, Option.none] ∧ Go a c H H' ∧ GrH L G as ll ps H' ∧ ∃ ds : List Int, H' D = some (.lst (ds.map V.int)) ∧ ds.Sublist ps ∧ (1 ≤ ps.length → 1 ≤ ds.length) ∧ ds.length = n, ⟨ps.length, rfl, go4, gr4, ps, hD4, List.Sublist.refl _, id, rfl⟩, ?_⟩
          rintro n σ' H5 ⟨rfl, go5, gr5, ds, hD5, sub, one, rfl⟩
          refine ⟨_, rfl, D, _, rfl, .inl (SqL.of hD5), _, rfl, _, _, rfl, rfl, _, rfl, ?_⟩
          have ld := sub.length_le
          refine ite2 (fun q => ?_) (fun q => ?_)
          · have big : 2 < ds.length := by
              have := of_decide_eq_true q
              rw [List.length_map] at this
              omega
            refine ⟨fun σ' H' => ∃ m', m' < ds.length ∧ σ' = [some (.ref a), some (.int (m : Int)), some (.ref L), some (.ref G), some (.int wd), some (.int (0 + (i : Int))), some (.ref D), some (.int (2 + r2)), v8, v9, Option.none, Option.none] ∧ Go a c H H' ∧ GrH L G as ll ps H' ∧ ∃ ds : List Int, H' D = some (.lst (ds.map V.int)) ∧ ds.Sublist ps ∧ (1 ≤ ps.length → 1 ≤ ds.length) ∧ ds.length = m', fun σ' H' q => q, ?_⟩
            refine ⟨_, rfl, .inl ⟨rfl, _, SqL.of hD5⟩, _, rfl, _, rfl, D, _, rfl, .inl (SqL.of hD5), a, c, _, rfl, go5.1, by rw [List.length_map]; omega, by rw [List.length_map]; omega, fun r H6 h0 hlt g6 => ?_⟩
            rw [List.length_map] at hlt
            have lt : r.toNat < ds.length := by omega
            have hy : (ds.map V.int)[r.toNat]? = some (V.int ds[r.toNat]) := by rw [List.getElem?_map, List.getElem?_eq_getElem lt]; rfl
            have hD6 := g6.2 _ _ nDac.1 nDac.2 hD5
            refine ⟨D, _, r, r.toNat, _, rfl, rfl, hD6, by omega, by omega, seqI h0 (by rw [List.length_map]; exact hlt), hy, ?_⟩
            have el : (ds.eraseIdx r.toNat).length = ds.length - 1 := by rw [List.length_eraseIdx, if_pos lt]
            refine ⟨_, by omega, rfl, Go.put bag (go5.trans g6) nD1, (gr5.go nL nG go5.1 g6).put hD6 neLD neGD, ds.eraseIdx r.toNat, ?_, (List.eraseIdx_sublist _ _).trans sub, fun _ => by omega, el⟩
            rw [upd_same, erase_map]
          · have small : ds.length ≤ 4 := by
              have : ¬ (2 + r2) < ((ds.map V.int).length : Int) := fun z => q (decide_eq_true z)
              rw [List.length_map] at this
              omega
            exact ⟨rfl, go5, gr5, ds, hD5, sub, small, one⟩
        · rintro σ' H5 ⟨rfl, go5, gr5, ds, hD5, sub, small, one⟩
          refine ⟨_, rfl, D, ds, rfl, SqL.of hD5, by omega, fun ns p pm le np => ⟨p, _, rfl, .inl ⟨SqL.of upd_same, fun t nt => ?_⟩⟩⟩
          have e6 := (Ext.upd (o := .lst (ns.map V.int)) np).trans (Ext.upd (o := .tup (ns.map V.int)) nt)
          have ht6 : (upd (upd H5 p (.lst (ns.map V.int))) t (.tup (ns.map V.int))) t = some (.tup (ns.map V.int)) := upd_same
          generalize upd (upd H5 p (.lst (ns.map V.int))) t (.tup (ns.map V.int)) = H6 at *
          have go6 := go5.trans (Go.of_ext go5.1 e6)
          have gr6 := gr5.ext e6
          have ln := pm.length_eq
          have low : ∀ n ∈ ns, 0 ≤ n ∧ n ≤ 29 := fun n hn => bd n (sub.subset (pm.subset hn))
          have ris : ns.Pairwise (· < ·) := rise_of le (pm.nodup_iff.mpr (nd.sublist sub))
          refine ⟨fun σ' H' => ∃ (v6 v7 v9 : Option V) (t : Addr) (ns ps : List Int), σ' = [some (.ref a), some (.int (m : Int)), some (.ref L), some (.ref G), some (.int wd), some (.int (0 + (i : Int))), v6, v7, some (.ref t), v9, Option.none, Option.none] ∧ Go a c H H' ∧ GrH L G as ll ps H' ∧ ps.Nodup ∧ (∀ p ∈ ps, 0 ≤ p ∧ p ≤ 29) ∧ ps.length ≤ 7 ∧ 1 ≤ ps.length ∧ H' t = some (.tup (ns.map V.int)) ∧ CellL ns ∧ (as = [] → ns.length = 1), ?_, ?_⟩
          · refine ⟨fun b H' => Go a c H H' ∧ GrH L G as ll ps H' ∧ H' t = some (.tup (ns.map V.int)) ∧ (b = true → ps.length < 7) ∧ (b = false → 1 ≤ ps.length), ?_, ?_⟩
            · have last : ∀ H8, Go a c H H8 → GrH L G as ll ps H8 → H8 t = some (.tup (ns.map V.int)) → ∀ b : Bool, b = decide (V.int ((ps.map V.int).length : Int) = V.int 0) → Go a c H H8 ∧ GrH L G as ll ps H8 ∧ H8 t = some (.tup (ns.map V.int)) ∧ (b = true → ps.length < 7) ∧ (b = false → 1 ≤ ps.length) := by
                rintro H8 go8 gr8 ht8 b rfl
                refine ⟨go8, gr8, ht8, fun z => ?_, fun z => ?_⟩
                · have := of_decide_eq_true z
                  injection this with this
                  rw [List.length_map] at this
                  omega
                · have := of_decide_eq_false z
                  rw [List.length_map] at this
                  cases e : ps.length with
                  | zero => exact absurd (by rw [e]; rfl) this
                  | succ n => omega
              refine ⟨_, rfl, G, _, rfl, .inl (SqL.of gr6.g), _, rfl, _, _, rfl, rfl, _, rfl, ?_⟩
              refine ite2 (fun q => ?_) (fun q => ?_)
              · refine ⟨_, rfl, a, c, 3, rfl, go6.1, by decide, by decide, fun r3 H7 a3 b3 g7 => ⟨rfl, _, rfl, ?_⟩⟩
                have go7 := go6.trans g7
                have gr7 := gr6.go nL nG go6.1 g7
                have ht7 := Go.tup go6.1 g7 ht6
                refine ite2 (fun q2 => ?_) (fun q2 => ?_)
                · refine ⟨go7, gr7, ht7, fun _ => ?_, fun z => Bool.noConfusion z⟩
                  have := of_decide_eq_true q
                  rw [List.length_map] at this
                  omega
                · exact ⟨_, rfl, G, _, rfl, .inl (SqL.of gr7.g), rfl, _, rfl, last H7 go7 gr7 ht7 _ rfl⟩
              · exact iteF ⟨_, rfl, G, _, rfl, .inl (SqL.of gr6.g), rfl, _, rfl, last H6 go6 gr6 ht6 _ rfl⟩
            · rintro b H7 ⟨go7, gr7, ht7, hT, hF⟩
              cases b with
              | false =>
                have p1 := hF rfl
                refine iteF ⟨_, _, _, t, ns, ps, rfl, go7, gr7, nd, bd, l7, p1, ht7, ⟨by have := one p1; omega, by omega, low, ris⟩, fun e => ?_⟩
                rcases ini with ⟨_, e2, _⟩ | ⟨e2, _⟩
                · rw [e2] at p1
                  exact absurd p1 (by decide)
                · rw [e] at e2
                  exact absurd e2 (by decide)
              | true =>
                have p7 := hT rfl
                refine iteT ⟨30, rfl, by decide, by decide, fun D2 nD2 => lc_range (lo := 0) (n := 30) (fun j H'' => H'' = upd H7 D2 (.lst ((fr j ps).map V.int))) rfl ?_ ?_⟩
                · rintro j _ hj rfl
                  refine ⟨rfl, ?_⟩
                  refine ⟨_, rfl, _, rfl, G, _, rfl, .inl (SqL.of (Ext.upd nD2 _ _ gr7.g)), rfl, flat_ints _, _, rfl, ?_⟩
                  have fl := fr_le (i := j) (ps := ps)
                  refine ite2 (fun q => ?_) (fun q => ?_)
                  · have q : (!inV (V.int (0 + (j : Int))) (ps.map V.int)) = true := q
                    rw [inV_ints] at q
                    have h : ¬ (0 + (j : Int)) ∈ ps := fun z => by rw [decide_eq_true z] at q; cases q
                    refine ⟨_, rfl, _, upd_same, small1000 (by rw [List.length_map]; omega), ?_⟩
                    rw [upd_upd, fr_succ, if_neg h, List.map_append]
                    rfl
                  · have q : ¬ (!inV (V.int (0 + (j : Int))) (ps.map V.int)) = true := q
                    rw [inV_ints] at q
                    have h : (0 + (j : Int)) ∈ ps := Classical.byContradiction fun z => q (by rw [decide_eq_false z]; rfl)
                    rw [fr_succ, if_pos h, List.append_nil]
                · rintro _ rfl
                  have e8 : Ext H7 (upd H7 D2 (.lst ((fr 30 ps).map V.int))) := Ext.upd nD2
                  have hD2 : (upd H7 D2 (.lst ((fr 30 ps).map V.int))) D2 = some (.lst ((fr 30 ps).map V.int)) := upd_same
                  generalize upd H7 D2 (.lst ((fr 30 ps).map V.int)) = H8 at *
                  have go8 := go7.trans (Go.of_ext go7.1 e8)
                  have gr8 := gr7.ext e8
                  have nD2ac := go7.1.ne nD2
                  have lf := fr_many (ps := ps)
                  have lf2 := fr_le (i := 30) (ps := ps)
                  refine ⟨_, rfl, _, rfl, _, rfl, _, rfl, D2, _, rfl, .inl (SqL.of hD2), by show 3 ≤ sizeLine; decide, fun u nu => ?_⟩
                  have nuac := go8.1.ne nu
                  have e9 := Ext.upd (o := .lst [.int 1, .int 3, .int (((fr 30 ps).map V.int).length : Int)]) nu
                  have go9 := go8.trans (Go.of_ext go8.1 e9)
                  refine ⟨a, c, u, _, rfl, go9.1, nuac.1, nuac.2, upd_same, (fun z => nomatch z), (by show 3 ≤ 1000; decide), fun x H10 hx g10 => ?_⟩
                  have go10 := go9.trans g10
                  obtain ⟨z, rfl, z1, z2⟩ : ∃ z : Int, x = .int z ∧ 1 ≤ z ∧ z ≤ (fr 30 ps).length := by
                    rw [List.length_map] at hx
                    rcases List.mem_cons.mp hx with rfl | hx
                    · exact ⟨1, rfl, by decide, by omega⟩
                    rcases List.mem_cons.mp hx with rfl | hx
                    · exact ⟨3, rfl, by decide, by omega⟩
                    · exact ⟨_, List.mem_singleton.mp hx, by omega, Int.le_refl _⟩
                  refine ⟨a, c, z, rfl, go10.1, by omega, by omega, fun r H11 h0 hlt g11 => ?_⟩
                  have go11 := go10.trans g11
                  have gr11 := ((gr8.ext e9).go nL nG go9.1 g10).go nL nG go10.1 g11
                  have hD11 := g11.2 _ _ nD2ac.1 nD2ac.2 (g10.2 _ _ nD2ac.1 nD2ac.2 (e9 _ _ hD2))
                  have lt : r.toNat < (fr 30 ps).length := by omega
                  have hy : ((fr 30 ps).map V.int)[r.toNat]? = some (V.int (fr 30 ps)[r.toNat]) := by rw [List.getElem?_map, List.getElem?_eq_getElem lt]; rfl
                  obtain ⟨f0, f29, fno⟩ := fr_mem (List.getElem_mem lt)
                  generalize (fr 30 ps)[r.toNat] = y at *
                  refine ⟨D2, _, r, _, rfl, rfl, SqL.of hD11, at_of (j := r.toNat) (by omega) hy, by show 1 ≤ sizeLine; decide, fun t2 nt2 => ?_⟩
                  have e12 := Ext.upd (o := .tup [V.int y]) nt2
                  have ht12 : (upd H11 t2 (.tup [V.int y])) t2 = some (.tup [V.int y]) := upd_same
                  generalize upd H11 t2 (.tup [V.int y]) = H12 at *
                  have go12 := go11.trans (Go.of_ext go11.1 e12)
                  have gr12 := gr11.ext e12
                  refine ⟨_, rfl, .inl ⟨rfl, _, SqL.of gr12.g⟩, _, rfl, _, _, _, _, rfl, rfl, SqT.of ht12, rfl, G, _, _, rfl, rfl, gr12.g, small1000 (by rw [List.length_map]; omega), ?_⟩
                  have e1 : ps.map V.int ++ [V.int y] = (ps ++ [y]).map V.int := by rw [List.map_append]; rfl
                  rw [e1]
                  refine ⟨_, _, _, t2, [y], ps ++ [y], rfl, Go.put bag go12 nG1, ⟨by rw [upd_ne neLG]; exact gr12.l, upd_same, PT2.mono (fun b ys z => by rw [upd_ne (lst_ne gr12.g z)]; exact z) gr12.pt⟩, ?_, ?_, ?_, ?_, ?_, ⟨(by show 1 ≤ 1; decide), (by show 1 ≤ 4; decide), ?_, ?_⟩, fun _ => rfl⟩
                  · refine List.nodup_append.mpr ⟨nd, by simp, fun x hx z hz => ?_⟩
                    rw [List.mem_singleton.mp hz]
                    exact fun e => fno (e ▸ hx)
                  · intro p hp
                    rcases List.mem_append.mp hp with hp | hp
                    · exact bd p hp
                    · rw [List.mem_singleton.mp hp]
                      omega
                  · rw [List.length_append]
                    exact p7
                  · rw [List.length_append]
                    exact Nat.le_add_left _ _
                  · rw [upd_ne (lst_ne gr12.g ht12)]
                    exact ht12
                  · intro n hn
                    rw [List.mem_singleton.mp hn]
                    omega
                  · simp
          · rintro σ' H8 ⟨v6, v7, v9, t, ns, ps, rfl, go8, gr8, nd, bd, l7, one, ht8, cl, fst⟩
            refine ⟨_, rfl, _, rfl, notin_L ht8 gr8.l gr8.pt ⟨_, rfl, ?_⟩⟩
            have ln := PT2.len gr8.pt
            refine ite2 (fun q => ?_) (fun q => ?_)
            · have nin : ns ∉ ll := fun z => by rw [decide_eq_true z] at q; cases q
              refine ⟨_, rfl, t, ns, rfl, ht8, cl.1, cl.2.1, fun fl fs H9 e9 hf pf => ⟨fl, rfl, ⟨_, SqL.of hf⟩, fun D3 nD3 => ?_⟩⟩
              have hL9 := e9 _ _ gr8.l
              have lf : (facesL ns).length ≤ 4 := by
                unfold facesL
                split
                · decide
                · rw [List.length_map, List.length_range]; exact cl.2.1
              refine lc_list (K := K) (a := fl) (xs := fs.map V.ref) (fun j H' => Ext H9 H' ∧ H' D3 = some (.lst ((((facesL ns).take j).map fun f => decide (f ∈ ll)).map V.bl))) ⟨Ext.upd nD3, upd_same⟩ (fun j H' _ z => SqL.of (z.1 _ _ hf)) ?_ ?_
              · rintro j u H' hu ⟨ex, hD⟩
                rw [List.getElem?_map] at hu
                cases hj : fs[j]? with
                | none => rw [hj] at hu; cases hu
                | some g =>
                  rw [hj] at hu
                  cases hu
                  obtain ⟨fl', hfl, hg⟩ := pf.get hj
                  have ex0 := e9.trans ex
                  refine ⟨rfl, tyes_in ⟨_, rfl, _, rfl, in_L (ex _ _ hg) (ex _ _ hL9) (PT2.mono (fun _ _ z => ex0 _ _ z) gr8.pt) ⟨_, hD, small1000 (by rw [List.length_map, List.length_map, List.length_take]; omega), fun b' o eo => ?_, ?_⟩⟩⟩
                  · rw [upd_ne (ne_of_none eo nD3)]
                    exact ex _ _ eo
                  · rw [upd_same, List.take_succ, hfl, List.map_append, List.map_append]
                    rfl
              · rintro H' ⟨ex, hD⟩
                have lfs : (fs.map V.ref).length = (facesL ns).length := by rw [List.length_map, PT2.len pf]
                rw [lfs, List.take_of_length_le (Nat.le_refl _)] at hD
                have e10 := e9.trans ex
                have go10 := go8.trans (Go.of_ext go8.1 e10)
                have gr10 := gr8.ext e10
                cases ball : ((facesL ns).map fun f => decide (f ∈ ll)).all id with
                | false =>
                  refine ⟨D3, _, rfl, SqL.of hD, false, congrArg V.bl ball, ?_⟩
                  refine iteF ⟨⟨_, _, _, _, _, rfl⟩, go10, as, ll, ps, gr10, gd, lm, nd, bd, l7, .inr ⟨?_, one⟩⟩
                  cases e : as with
                  | nil =>
                    have h1 := fst e
                    unfold facesL at ball
                    rw [if_pos h1] at ball
                    cases ball
                  | cons x r => exact Nat.succ_le_succ (Nat.zero_le _)
                | true =>
                  refine ⟨D3, _, rfl, SqL.of hD, true, congrArg V.bl ball, ?_⟩
                  refine iteT ⟨_, rfl, .inl ⟨rfl, _, SqL.of gr10.l⟩, _, rfl, L, _, _, rfl, rfl, gr10.l, small1000 (by rw [List.length_map]; omega), ?_⟩
                  have e1 : as.map V.ref ++ [V.ref t] = (as ++ [t]).map V.ref := by rw [List.map_append]; rfl
                  rw [e1]
                  have ht10 := e10 _ _ ht8
                  refine ⟨⟨_, _, _, _, _, rfl⟩, Go.put bag go10 nL1, as ++ [t], ll ++ [ns], ps, ⟨upd_same, by rw [upd_ne neLG.symm]; exact gr10.g, PT2.mono (fun b ys z => by rw [upd_ne (lst_ne gr10.l z)]; exact z) (gr10.pt.snoc ht10)⟩, good_snoc.mpr ⟨gd, cl, nin, fun g hg => ?_⟩, by rw [List.length_append]; exact lm', nd, bd, l7, .inr ⟨by rw [List.length_append]; exact Nat.le_add_left _ _, one⟩⟩
                  exact of_decide_eq_true (List.all_eq_true.mp ball _ (List.mem_map_of_mem hg))
            · have isin : ns ∈ ll := Classical.byContradiction fun z => q (by rw [decide_eq_false z]; rfl)
              refine iteF ⟨⟨_, _, _, _, _, rfl⟩, go8, as, ll, ps, gr8, gd, lm, nd, bd, l7, .inr ⟨?_, one⟩⟩
              have := List.length_pos_of_mem isin
              omega
      · exact ⟨⟨_, _, _, _, _, rfl⟩, go2, as, ll, ps, gr2, gd, lm, nd, bd, l7, by
          rcases ini with ⟨_, _, e⟩ | ini
          · exfalso
            subst e
            exact q (decide_eq_true (by show (0 : Int) < m; omega))
          · exact .inr ini⟩
    · rintro σ' H' ⟨⟨v5, v6, v7, v8, v9, rfl⟩, go2, as, ll, ps, gr2, gd, lm, nd, bd, l7, ini⟩
      refine ⟨_, rfl, ?_⟩
      exact k L as ll H' go2 nL.1 nL.2 gr2.l gr2.pt gd (by omega)
end
end L40

set_option Elab.async false
set_option linter.all false
set_option maxRecDepth 100000
set_option maxHeartbeats 4000000
set_option pp.maxSteps 60
/-! A comprehension over anything, its test told beforehand: what is made of each turn. -/
namespace L40
open PySem L2
/-- tuples stay -/
def TExt (H H' : Hp) : Prop := ∀ b xs, H b = some (.tup xs) → H' b = some (.tup xs)
theorem TExt.of {H H' : Hp} (e : Ext H H') : TExt H H' := fun b xs h => e b _ h
theorem TExt.trans {H H1 H2 : Hp} (x : TExt H H1) (y : TExt H1 H2) : TExt H H2 := fun b xs h => y b xs (x b xs h)
theorem TExt.put {H : Hp} {l : Addr} {xs ys : List V} (h : H l = some (.lst xs)) : TExt H (upd H l (.lst ys)) := fun b zs hb => by
  rw [upd_ne (lst_ne h hb)]
  exact hb
theorem lc_gen {J : It} {n : Nat} {G : Hp → Prop} {Y : Nat → Hp → V → Hp → Prop} (w : Walk J n G Y) {g : TG} {tt : L2.TT} {te : TE} {vs : List Nat} {σ : L2.St} {H : Hp} {D : Addr} {Qd : Hp → Prop} (nD : H D = none) (n1000 : n ≤ 1000) (p : Nat → Bool) (Pr : Nat → V → Hp → Prop)
    (mono : ∀ i y H1 H2, TExt H1 H2 → Pr i y H1 → Pr i y H2) (hG : ∀ H', Ext H H' → G H')
    (hs : ∀ i x H1 H' (R : VK) (N : Hp → Prop), i < n → Ext H H1 → Y i H1 x H' → (p i = true → ∀ y H4, Ext H1 H4 → Pr i y H4 → R y H4) → (p i = false → ∀ H4, Ext H1 H4 → N H4) →
      g x (wipe σ vs) H' fun σ2 H2 => wipe σ2 vs = wipe σ vs ∧ tt σ2 H2 fun b H3 => if b = true then te σ2 H3 R else N H3)
    (hd : ∀ ys H', Ext H H' → H' D = some (.lst ys) → Paired (fun i y => Pr i y H') ((List.range n).filter p) ys → Qd H') :
    ∃ W : Nat → Nat → Hp → Prop, (∃ m, W 0 m (upd H D (.lst []))) ∧ ∀ i m H, W i m H →
      (J.stop i H ∧ Qd H) ∨ (J.go i H ∧ ∃ Nx : Hp → Prop, (∀ H', Nx H' → ∃ m', m' < m ∧ W (i + 1) m' H') ∧ ∀ x H', J.yld i H x H' → g x (wipe σ vs) H' fun σ2 H2 => wipe σ2 vs = wipe σ vs ∧ tt σ2 H2 fun b H3 =>
        if b = true then te σ2 H3 fun y H4 => ∃ acc, H4 D = some (.lst acc) ∧ acc.length < sizeLine ∧ Nx (upd H4 D (.lst (acc ++ [y]))) else Nx H3) := by
  refine lc_it w (fun i H' => Ext H H' ∧ ∃ ys, H' D = some (.lst ys) ∧ Paired (fun i y => Pr i y H') ((List.range i).filter p) ys) ⟨Ext.upd nD, [], upd_same, .nil⟩ (fun i H' _ z => hG H' z.1) ?_ ?_
  · rintro i x H1 H' hi ⟨e1, ys, hD, pr⟩ y
    have ly : ys.length ≤ i := by
      rw [← Paired.length pr]
      exact Nat.le_trans (List.length_filter_le _ _) (by rw [List.length_range]; exact Nat.le_refl _)
    refine hs i x H1 H' _ _ hi e1 y (fun hp z H4 e4 hz => ?_) (fun hp H4 e4 => ?_)
    · have hD4 := e4 _ _ hD
      have t4 : TExt H4 (upd H4 D (.lst (ys ++ [z]))) := TExt.put hD4
      refine ⟨ys, hD4, small1000 (by omega), fun b o hb => ?_, ys ++ [z], upd_same, ?_⟩
      · rw [upd_ne (ne_of_none hb nD)]
        exact e4 _ _ (e1 _ _ hb)
      · rw [List.range_succ, List.filter_append]
        have ef : [i].filter p = [i] := by rw [List.filter_cons, if_pos hp]; rfl
        rw [ef]
        exact Paired.snoc (Paired.imp' (fun j u q => mono _ _ _ _ ((TExt.of e4).trans t4) q) pr) (mono _ _ _ _ t4 hz)
    · refine ⟨e1.trans e4, ys, e4 _ _ hD, ?_⟩
      rw [List.range_succ, List.filter_append]
      have ef : [i].filter p = [] := by rw [List.filter_cons, if_neg (by rw [hp]; exact Bool.false_ne_true)]; rfl
      rw [ef, List.append_nil]
      exact Paired.imp' (fun j u q => mono _ _ _ _ (TExt.of e4) q) pr
  · rintro H' ⟨e, ys, hD, pr⟩
    exact hd ys H' e hD pr
/-- .. of flags -/
theorem flags_of {t : Nat → Bool} {n : Nat} {ys : List V} (h : Paired (fun i y => y = V.bl (t i)) ((List.range n).filter fun _ => true) ys) : ys = ((List.range n).map t).map V.bl := by
  rw [List.filter_eq_self.mpr fun _ _ => rfl] at h
  generalize List.range n = r at h
  induction h with
  | nil => rfl
  | cons a _ ih => rw [List.map_cons, List.map_cons, ← ih, a]
theorem vals_of {f : Nat → V} {n : Nat} {p : Nat → Bool} {ys : List V} (h : Paired (fun i y => y = f i) ((List.range n).filter p) ys) : ys = ((List.range n).filter p).map f := by
  generalize (List.range n).filter p = r at h
  induction h with
  | nil => rfl
  | cons a _ ih => rw [List.map_cons, ← ih, a]
theorem range_map {α β : Type} {ds : List α} {n : Nat} (f : α → β) (z : α) (h : n = ds.length) : (List.range n).map (fun i => f (ds.getD i z)) = ds.map f := by
  subst h
  refine List.ext_getElem (by simp) fun i h1 h2 => ?_
  simp at h1
  simp [List.getElem?_eq_getElem h1]
def rLenS (K : PySem.W.Frag) : List V → Hp → VK → Prop := fun xs H Q => ∃ p ys, xs = [.ref p] ∧ (SqL K H p ys ∨ SqT K H p ys) ∧ Q (.int ys.length) H
theorem call_lenS {X : Cx} : CallR X (.builtin "len") (rLenS X.K) := call_len_seq
end L40

set_option Elab.async false
set_option linter.all false
set_option maxRecDepth 100000
set_option maxHeartbeats 4000000
set_option pp.maxSteps 60
/-! Rows over a prime: inverse, pivot, scaled, less. -/
namespace L40
open PySem L2 M40
abbrev sInv : Stmt := top 12
abbrev sPiv : Stmt := top 13
abbrev sScaled : Stmt := top 14
abbrev sLess : Stmt := top 15
abbrev Pr := Prm
theorem inv_nat : ∀ p ∈ [2, 3, 5, 7, 11, 13], ∀ x ∈ List.range p, 0 < x → ∃ i ∈ List.range (p - 1), x * (i + 1) % p = 1 := by decide +kernel
theorem inv_ex {p x : Int} (hp : Pr p) (h0 : 0 < x) (h1 : x < p) : ∃ i : Nat, i < (p - 1).toNat ∧ x * (1 + (i : Int)) % p = 1 := by
  have e1 : x = ((x.toNat : Nat) : Int) := by omega
  have hm : p.toNat ∈ [2, 3, 5, 7, 11, 13] := by
    rcases hp with rfl | rfl | rfl | rfl | rfl | rfl <;> decide
  obtain ⟨i, hi, e⟩ := inv_nat p.toNat hm x.toNat (List.mem_range.mpr (by omega)) (by omega)
  have := List.mem_range.mp hi
  refine ⟨i, by omega, ?_⟩
  have e2 : p = ((p.toNat : Nat) : Int) := by have := hp.le; omega
  rw [e1, e2]
  have : ((x.toNat * (i + 1) % p.toNat : Nat) : Int) = ((1 : Nat) : Int) := by rw [e]
  rw [Int.natCast_emod, Int.natCast_mul, Int.natCast_add] at this
  rw [Int.add_comm 1 (i : Int)]
  exact this
theorem cmul {i j : Int} (h1 : -1000 ≤ i) (h2 : i ≤ 1000) : CMul i j := .inl ⟨by omega, by omega⟩
/-- a row of n numbers below p -/
def RowG (p : Int) (n : Nat) (ns : List Int) : Prop := ns.length = n ∧ ∀ x ∈ ns, 0 ≤ x ∧ x < p
def RowL (p : Int) (n : Nat) (H : Hp) (l : Addr) : Prop := ∃ ns, H l = some (.lst (ns.map V.int)) ∧ RowG p n ns
/-- the row v stands at l -/
def RowV (p : Int) (n : Nat) (H : Hp) (l : Addr) (v : Vc) : Prop := ∃ ns, H l = some (.lst (ns.map V.int)) ∧ RowG p n ns ∧ ∀ i, i < n → ns.getD i 0 = v i
theorem RowV.ext {p : Int} {n : Nat} {H H' : Hp} {l : Addr} {v : Vc} (e : Ext H H') (h : RowV p n H l v) : RowV p n H' l v := let ⟨ns, h1, h2⟩ := h; ⟨ns, e _ _ h1, h2⟩
theorem RowV.bd {p : Int} {n : Nat} {H : Hp} {l : Addr} {v : Vc} (h : RowV p n H l v) {i : Nat} (hi : i < n) : 0 ≤ v i ∧ v i < p := by
  obtain ⟨ns, _, g, e⟩ := h
  rw [← e i hi, List.getD_eq_getElem?_getD, List.getElem?_eq_getElem (by rw [g.1]; exact hi)]
  exact g.2 _ (List.getElem_mem _)
theorem RowV.zero {p : Int} {n : Nat} {H : Hp} {l : Addr} {v : Vc} (h : RowV p n H l v) {i : Nat} (hi : i < n) : p ∣ v i ↔ v i = 0 := by
  obtain ⟨h1, h2⟩ := h.bd hi
  constructor
  · intro d
    exact Int.eq_zero_of_dvd_of_natAbs_lt_natAbs d (by omega)
  · intro e
    rw [e]
    exact Int.dvd_zero p
theorem RowL.ext {p : Int} {n : Nat} {H H' : Hp} {l : Addr} (e : Ext H H') (h : RowL p n H l) : RowL p n H' l := let ⟨ns, h1, h2⟩ := h; ⟨ns, e _ _ h1, h2⟩
def spInv : Sp := fun vs H Q _ => ∃ p x : Int, vs = [.int p, .int x] ∧ Pr p ∧ 0 < x ∧ x < p ∧ ∀ i : Int, 0 < i → i < p → x * i % p = 1 → Q (.int i) H
def spPiv : Sp := fun vs H Q _ => ∃ (l : Addr) (ns : List Int), vs = [.ref l] ∧ H l = some (.lst (ns.map V.int)) ∧ (∀ H', Ext H H' → (∀ j, ns.getD j 0 = 0) → Q .non H') ∧ ∀ (i : Nat) (x : Int) (H' : Hp), Ext H H' → ns[i]? = some x → x ≠ 0 → (∀ j, j < i → ns.getD j 0 = 0) → Q (.int (i : Int)) H'
def spScaled : Sp := fun vs H Q _ => ∃ (p k : Int) (l : Addr) (ns : List Int), vs = [.int p, .ref l, .int k] ∧ H l = some (.lst (ns.map V.int)) ∧ RowG p ns.length ns ∧ 0 ≤ k ∧ k < p ∧ p ≤ 13 ∧ ns.length ≤ 1000 ∧ ∀ (q : Addr) (H' : Hp), Ext H H' → H q = none → RowV p ns.length H' q (fun i => ns.getD i 0 * k % p) → Q (.ref q) H'
def spLess : Sp := fun vs H Q _ => ∃ (p k : Int) (l o : Addr) (ns ms : List Int), vs = [.int p, .ref l, .int k, .ref o] ∧ H l = some (.lst (ns.map V.int)) ∧ H o = some (.lst (ms.map V.int)) ∧ RowG p ns.length ns ∧ RowG p ns.length ms ∧ 0 ≤ k ∧ k < p ∧ p ≤ 13 ∧ ns.length ≤ 1000 ∧ ∀ (q : Addr) (H' : Hp), Ext H H' → H q = none → RowV p ns.length H' q (fun i => (ns.getD i 0 - k * ms.getD i 0) % p) → Q (.ref q) H'
theorem row_of {p : Int} {ys : List V} {f : Nat → Int} {n : Nat} (hf : ∀ i, 0 ≤ f i ∧ f i < p) (h : Paired (fun i y => y = V.int (f i)) ((List.range n).filter fun _ => true) ys) : ∃ ns, ys = ns.map V.int ∧ RowG p n ns ∧ ∀ i, i < n → ns.getD i 0 = f i := by
  have e := vals_of (f := fun i => V.int (f i)) h
  rw [List.filter_eq_self.mpr fun _ _ => rfl] at e
  refine ⟨(List.range n).map f, by rw [e, List.map_map]; rfl, ⟨by rw [List.length_map, List.length_range], fun x hx => ?_⟩, fun i hi => ?_⟩
  · obtain ⟨i, _, rfl⟩ := List.mem_map.mp hx
    exact hf i
  · rw [List.getD_eq_getElem?_getD, List.getElem?_map, List.getElem?_range hi]
    rfl
section
variable {P : Program} {w : World} {K : PySem.W.Frag} {mg : Str → Option Value} {base : Heap}
abbrev invN : List Str := ["prime", "worth", "other"]
theorem scInv : FnScope invN ["prime", "worth"] (defScope sInv) := ⟨rfl, rfl, rfl, by decide +kernel, rfl, by decide +kernel, by decide +kernel⟩
theorem ok_inv {f : Addr} {fd : FuncData} (F : L2.Fun K "inverse" "inverse" sInv f fd) (T : Gb mg) : FnOk P w K mg base CX0 1 f fd ["prime", "worth"] spInv := by
  refine F.ok scInv (fun vs H Q E h => ?_) (fun cdv A outer s H vs Q E hr h => ?_)
  · obtain ⟨p, x, rfl, _⟩ := h
    rfl
  · obtain ⟨p, x, rfl, hp, x0, xp, k⟩ := h
    have ple := hp.le
    refine ⟨_, pss_cons (ps_for PassesOwn.never rfl (pi_range2 (by rfl) T.rng (pa_cons pe_int (pa_cons (pv 0) pa_nil))) (pg_name (i := 2) scInv.nd rfl (Or.inl rfl))
      (pss_one (ps_if (pt_cmpR op_eq (pe_op op_mod (pe_op op_mul (pv 1) (pv 2)) (pv 0)) pe_int (nomark _)) (pss_one (ps_ret (pv 2))) pss_nil)))
      (pss_one (ps_ret pe_non)), ?_⟩
    refine ⟨_, rfl, 1, p, rfl, ⟨by decide, by decide, by omega, by omega⟩, for_range (lo := 1) (n := (p - 1).toNat) (fun i σ' H' => ∃ v, σ' = [some (.int p), some (.int x), v] ∧ H' = H ∧ ∀ j : Nat, j < i → ¬ x * (1 + (j : Int)) % p = 1) ⟨_, rfl, rfl, fun j hj => absurd hj (Nat.not_lt_zero j)⟩ ?_ ?_⟩
    · rintro i σ' H' hi ⟨v, rfl, rfl, no⟩
      refine ⟨_, rfl, _, rfl, _, _, rfl, rfl, cmul (by omega) (by omega), _, rfl, _, _, rfl, rfl, by omega, rfl, _, rfl, ?_⟩
      refine ite2 (fun z => ?_) (fun z => ?_)
      ·
        exact ⟨_, rfl, k _ (by omega) (by omega) (by have := of_decide_eq_true z; injection this)⟩
      · refine ⟨_, rfl, rfl, fun j hj => ?_⟩
        by_cases e : j = i
        · rw [e]
          intro q
          exact z (decide_eq_true (show V.int (x * (1 + (i : Int)) % p) = V.int 1 by rw [q]))
        · exact no j (by omega)
    · rintro σ' H' ⟨v, rfl, rfl, no⟩
      obtain ⟨i, hi, e⟩ := inv_ex hp x0 xp
      exact absurd e (no i hi)
abbrev pivN : List Str := ["row", "at", "worth"]
theorem scPiv : FnScope pivN ["row"] (defScope sPiv) := ⟨rfl, rfl, rfl, by decide +kernel, rfl, by decide +kernel, by decide +kernel⟩
theorem ok_piv {f : Addr} {fd : FuncData} (F : L2.Fun K "pivot" "pivot" sPiv f fd) (T : Gb mg) : FnOk P w K mg base CX0 1 f fd ["row"] spPiv := by
  refine F.ok scPiv (fun vs H Q E h => ?_) (fun cdv A outer s H vs Q E hr h => ?_)
  · obtain ⟨l, ns, rfl, _⟩ := h
    rfl
  · obtain ⟨l, ns, rfl, hl, k0, k⟩ := h
    refine ⟨_, pss_cons (ps_for PassesOwn.never rfl (pi_enum (by rfl) T.enum (pa_cons (pv 0) pa_nil)) (pg_tup rfl (pgs_cons (pg_name (i := 1) scPiv.nd rfl (Or.inl rfl)) (pgs_cons (pg_name (i := 2) scPiv.nd rfl (Or.inl rfl)) pgs_nil)))
      (pss_one (ps_if (pt_cmpR op_ne (pv 2) pe_int (nomark _)) (pss_one (ps_ret (pv 1))) pss_nil)))
      (pss_one (ps_ret pe_non)), ?_⟩
    refine ⟨_, rfl, l, _, rfl, SqL.of hl, ?_⟩
    refine for_it walk_enum (fun i σ' H' => ∃ v1 v2 : Option V, σ' = [some (.ref l), v1, v2] ∧ Ext H H' ∧ ∀ j, j < i → ns.getD j 0 = 0) ⟨_, _, rfl, Ext.rfl', fun j hj => absurd hj (Nat.not_lt_zero j)⟩ (fun i σ' H' _ ⟨_, _, _, e, _⟩ => SqL.of (e _ _ hl)) ?_ ?_
    · rintro i z σ' H2 H2' hi ⟨v1, v2, rfl, e2, no⟩ ⟨t, x, y, rfl, nt, rfl, hx, hy⟩
      cases hx
      obtain ⟨m, hm, rfl⟩ := map_int_get hy
      have et := e2.trans (Ext.upd (o := .tup [V.int (i : Int), .int m]) nt)
      refine ⟨t, _, rfl, SqT.of upd_same, rfl, _, _, rfl, _, _, rfl, rfl, ?_⟩
      refine ⟨_, rfl, rfl, _, rfl, ?_⟩
      refine ite2 (fun z => ?_) (fun z => ⟨_, _, rfl, et, fun j hj => ?_⟩)
      · refine ⟨_, rfl, k i m _ et hm (fun q => ?_) no⟩
        rw [q] at z
        exact absurd z (by decide)
      · by_cases e : j = i
        · subst e
          rw [List.getD_eq_getElem?_getD, hm]
          show m = 0
          refine Classical.byContradiction fun ne => z ?_
          have : decide (V.int m = V.int 0) = false := decide_eq_false fun q => ne (by injection q)
          rw [this]
          rfl
        · exact no j (by omega)
    · rintro σ' H2 ⟨v1, v2, rfl, e2, no⟩
      refine k0 _ e2 fun j => ?_
      by_cases h : j < ns.length
      · exact no j (by rw [List.length_map]; exact h)
      · rw [List.getD_eq_getElem?_getD, List.getElem?_eq_none (by omega)]
        rfl
abbrev scaledN : List Str := ["prime", "row", "number", "worth"]
theorem scScaled : FnScope scaledN ["prime", "row", "number"] (defScope sScaled) := ⟨rfl, rfl, rfl, by decide +kernel, rfl, by decide +kernel, by decide +kernel⟩
theorem ok_scaled {f : Addr} {fd : FuncData} (F : L2.Fun K "scaled_row" "scaled_row" sScaled f fd) (T : Gb mg) : FnOk P w K mg base CX0 1 f fd ["prime", "row", "number"] spScaled := by
  refine F.ok scScaled (fun vs H Q E h => ?_) (fun cdv A outer s H vs Q E hr h => ?_)
  · obtain ⟨p, q, l, ns, rfl, _⟩ := h
    rfl
  · obtain ⟨p, q, l, ns, rfl, hl, g1, q0, qp, p13, ln, k⟩ := h
    have p0 : 0 < p := by omega
    refine ⟨_, pss_one (ps_ret (pe_lc (own := [("worth", 3)]) (g := gName 3) (tt := tYes) rfl scScaled.nd (pi_list (pv 1)) (blkOk_by (N := scaledN) (sc := defScope sScaled) (by decide +kernel)) (fun _ _ _ _ _ => (pg_name (i := 3) scScaled.nd rfl (Or.inl rfl))) (fun _ _ _ _ _ => pts_nil) (fun _ _ _ _ _ => (pe_op op_mod (pe_op op_mul (pv 3) (pv 2)) (pv 0))))), ?_⟩
    refine ⟨_, rfl, l, rfl, ⟨_, SqL.of hl⟩, fun D nD => ?_⟩
    refine lc_gen (n := (ns.map V.int).length) (p := fun _ => true) walk_list nD (by rw [List.length_map]; exact ln) (fun i y _ => y = V.int (ns.getD i 0 * q % p)) (fun _ _ _ _ _ z => z) (fun H' e => SqL.of (e _ _ hl)) ?_ ?_
    · rintro j y J J' R N hj e7 ⟨rfl, hy⟩ hR hN
      obtain ⟨m, hm, rfl⟩ := map_int_get hy
      have gm := g1.2 m (List.mem_of_getElem? hm)
      refine ⟨rfl, tyes_in ⟨_, rfl, _, rfl, _, _, rfl, rfl, cmul (by omega) (by omega), _, rfl, _, _, rfl, rfl, p0, ?_⟩⟩
      exact hR rfl _ _ Ext.rfl' (by rw [List.getD_eq_getElem?_getD, hm]; rfl)
    intro ys H' e hD pp
    obtain ⟨ms, rfl, g, ge⟩ := row_of (f := fun i => ns.getD i 0 * q % p) (fun i => ⟨Int.emod_nonneg _ (by omega), Int.emod_lt_of_pos _ p0⟩) pp
    exact k D H' e nD ⟨ms, hD, by rw [List.length_map] at g; exact g, fun i hi => ge i (by rw [List.length_map]; exact hi)⟩
abbrev lessN : List Str := ["prime", "row", "number", "other", "worth", "taken"]
theorem scLess : FnScope lessN ["prime", "row", "number", "other"] (defScope sLess) := ⟨rfl, rfl, rfl, by decide +kernel, rfl, by decide +kernel, by decide +kernel⟩
theorem ok_less {f : Addr} {fd : FuncData} (F : L2.Fun K "less" "less" sLess f fd) (T : Gb mg) (M : TowC mg) : FnOk P w K mg base CX0 1 f fd ["prime", "row", "number", "other"] spLess := by
  refine F.ok scLess (fun vs H Q E h => ?_) (fun cdv A outer s H vs Q E hr h => ?_)
  · obtain ⟨p, q, l, o, ns, ms, rfl, _⟩ := h
    rfl
  · obtain ⟨p, q, l, o, ns, ms, rfl, hl, ho, g1, g2, q0, qp, p13, ln, k⟩ := h
    have p0 : 0 < p := by omega
    have len := g2.1.symm
    refine ⟨_, pss_one (ps_ret (pe_lc (own := [("worth", 4), ("taken", 5)]) (g := gTup K 2 (gCons (gName 4) (gCons (gName 5) gNil))) (tt := tYes) rfl scLess.nd (pi_zip (by rfl) M.zip (pa_cons (pv 1) (pa_cons (pv 3) pa_nil))) (blkOk_by (N := lessN) (sc := defScope sLess) (by decide +kernel)) (fun _ _ _ _ _ => (pg_tup rfl (pgs_cons (pg_name (i := 4) scLess.nd rfl (Or.inl rfl)) (pgs_cons (pg_name (i := 5) scLess.nd rfl (Or.inl rfl)) pgs_nil)))) (fun _ _ _ _ _ => pts_nil) (fun _ _ _ _ _ => (pe_op op_mod (pe_op op_sub (pv 4) (pe_op op_mul (pv 2) (pv 5))) (pv 0))))), ?_⟩
    refine ⟨_, rfl, _, rfl, l, o, _, _, rfl, SqL.of hl, SqL.of ho, fun D nD => ?_⟩
    refine lc_gen (n := ns.length) (p := fun _ => true) (walk_zip (xs := ns.map V.int) (ys := ms.map V.int) (by rw [List.length_map, List.length_map]; omega)) nD ln (fun i y _ => y = V.int ((ns.getD i 0 - q * ms.getD i 0) % p)) (fun _ _ _ _ _ z => z) (fun H' e => ⟨SqL.of (e _ _ hl), SqL.of (e _ _ ho)⟩) ?_ ?_
    · rintro j y J J' R N hj e7 ⟨t, x, z, rfl, nt, rfl, hx, hz⟩ hR hN
      obtain ⟨m, hm, rfl⟩ := map_int_get hx
      obtain ⟨m2, hm2, rfl⟩ := map_int_get hz
      have gm := g2.2 m2 (List.mem_of_getElem? hm2)
      refine ⟨t, _, rfl, SqT.of upd_same, rfl, _, _, rfl, _, _, rfl, rfl, rfl, tyes_in ⟨_, rfl, _, rfl, _, rfl, _, _, rfl, rfl, cmul (by omega) (by omega), _, _, rfl, rfl, _, rfl, _, _, rfl, rfl, p0, ?_⟩⟩
      exact hR rfl _ _ (Ext.upd nt) (by rw [List.getD_eq_getElem?_getD, List.getD_eq_getElem?_getD, hm, hm2]; rfl)
    intro ys H' e hD pp
    obtain ⟨rs, rfl, g, ge⟩ := row_of (f := fun i => (ns.getD i 0 - q * ms.getD i 0) % p) (fun i => ⟨Int.emod_nonneg _ (by omega), Int.emod_lt_of_pos _ p0⟩) pp
    exact k D H' e nD ⟨rs, hD, g, ge⟩
end
end L40

set_option Elab.async false
set_option linter.all false
set_option maxRecDepth 100000
set_option maxHeartbeats 4000000
set_option pp.maxSteps 60
/-! Rows kept by their leading places, told exactly. -/
namespace L40
open PySem L2 M40
abbrev sCleared : Stmt := top 16
abbrev sKeep : Stmt := top 17
inductive Two {α β : Type} (R : α → β → Prop) : List α → List β → Prop
  | nil : Two R [] []
  | cons {a : α} {b : β} {l : List α} {k : List β} : R a b → Two R l k → Two R (a :: l) (b :: k)
theorem Two.len {α β : Type} {R : α → β → Prop} {l : List α} {k : List β} (h : Two R l k) : l.length = k.length := by
  induction h with
  | nil => rfl
  | cons _ _ ih => rw [List.length_cons, List.length_cons, ih]
theorem Two.get {α β : Type} {R : α → β → Prop} {l : List α} {k : List β} (h : Two R l k) : ∀ {i : Nat} {a : α}, l[i]? = some a → ∃ b, k[i]? = some b ∧ R a b := by
  induction h with
  | nil => intro i a e; cases e
  | cons r t ih =>
    intro i a e
    cases i with
    | zero =>
      cases e
      exact ⟨_, rfl, r⟩
    | succ i => exact ih e
theorem Two.got {α β : Type} {R : α → β → Prop} {l : List α} {k : List β} (h : Two R l k) : ∀ {i : Nat} {b : β}, k[i]? = some b → ∃ a, l[i]? = some a ∧ R a b := by
  induction h with
  | nil => intro i a e; cases e
  | cons r t ih =>
    intro i a e
    cases i with
    | zero =>
      cases e
      exact ⟨_, rfl, r⟩
    | succ i => exact ih e
theorem Two.imp {α β : Type} {R S : α → β → Prop} (f : ∀ a b, R a b → S a b) {l : List α} {k : List β} (h : Two R l k) : Two S l k := by
  induction h with
  | nil => exact .nil
  | cons r _ ih => exact .cons (f _ _ r) ih
theorem Two.snoc {α β : Type} {R : α → β → Prop} {l : List α} {k : List β} {a : α} {b : β} (h : Two R l k) (r : R a b) : Two R (l ++ [a]) (k ++ [b]) := by
  induction h with
  | nil => exact .cons r .nil
  | cons s _ ih => exact .cons s ih
theorem Two.set {α β : Type} {R : α → β → Prop} {l : List α} {k : List β} {a : α} {b : β} (h : Two R l k) (r : R a b) : ∀ i : Nat, Two R (l.set i a) (k.set i b) := by
  induction h with
  | nil => intro i; exact .nil
  | cons s t ih =>
    intro i
    cases i with
    | zero => exact .cons r t
    | succ i => exact .cons s (ih i)
/-- an entry of what is kept; its list is not the one at z -/
def KE (p : Int) (n : Nat) (z : Addr) (H : Hp) (kv : Key × V) (k : Nat × Vc) : Prop := ∃ o : Addr, kv = (.inl (k.1 : Int), .ref o) ∧ k.1 < n ∧ RowV p n H o k.2 ∧ o ≠ z
def KeptV (p : Int) (n : Nat) (z : Addr) (H : Hp) (kd : Addr) (ks : List (Nat × Vc)) : Prop := ∃ kvs, H kd = some (.dK kvs) ∧ Two (KE p n z H) kvs ks
theorem KE.mono {p : Int} {n : Nat} {z : Addr} {H H' : Hp} {kv : Key × V} {k : Nat × Vc} (e : ∀ l v, RowV p n H l v → RowV p n H' l v) (h : KE p n z H kv k) : KE p n z H' kv k := let ⟨o, h1, h2, h3, h4⟩ := h; ⟨o, h1, h2, e _ _ h3, h4⟩
theorem keys_of {p : Int} {n : Nat} {z : Addr} {H : Hp} : ∀ {kvs : List (Key × V)} {ks : List (Nat × Vc)}, Two (KE p n z H) kvs ks → kvs.map Prod.fst = ks.map fun k => Sum.inl (k.1 : Int)
  | _, _, .nil => rfl
  | _, _, .cons h t => by
    obtain ⟨o, e, _⟩ := h
    rw [List.map_cons, List.map_cons, keys_of t, e]
theorem keys_nd {ks : List (Nat × Vc)} (nd : (ks.map Prod.fst).Nodup) : (ks.map fun k => (Sum.inl (k.1 : Int) : Key)).Nodup := by
  unfold List.Nodup at nd ⊢
  rw [List.pairwise_map] at nd ⊢
  exact nd.imp fun h e => h (by injection e with e; omega)
theorem valV_at : ∀ {kvs : List (Key × V)} {u : Nat} {k : Key} {v : V}, (kvs.map Prod.fst).Nodup → kvs[u]? = some (k, v) → valV kvs k = some v
  | [], _, _, _, _, h => by cases h
  | q :: kvs, 0, k, v, _, h => by
    cases h
    exact valV_pos rfl
  | q :: kvs, u + 1, k, v, nd, h => by
    rw [List.map_cons] at nd
    obtain ⟨n1, n2⟩ := List.nodup_cons.mp nd
    have h : kvs[u]? = some (k, v) := h
    rw [valV_neg fun e => n1 (by rw [e]; exact List.mem_map_of_mem (f := Prod.fst) (List.mem_of_getElem? h))]
    exact valV_at n2 h
theorem putK_at {kvs : List (Key × V)} {u : Nat} {k : Key} {v0 v : V} (nd : (kvs.map Prod.fst).Nodup) (h : kvs[u]? = some (k, v0)) : putK kvs k v = kvs.set u (k, v) := by
  have any : (kvs.any fun kv => decide (kv.1 = k)) = true := List.any_eq_true.mpr ⟨_, List.mem_of_getElem? h, decide_eq_true rfl⟩
  unfold putK
  rw [if_pos any]
  clear any
  induction kvs generalizing u with
  | nil => cases h
  | cons q kvs ih =>
    rw [List.map_cons] at nd
    obtain ⟨n1, n2⟩ := List.nodup_cons.mp nd
    cases u with
    | zero =>
      cases h
      rw [List.map_cons, if_pos rfl]
      show _ = (k, v) :: kvs
      congr 1
      have : ∀ kv ∈ kvs, (if kv.1 = k then (kv.1, v) else kv) = kv := fun kv hkv => if_neg fun e => n1 (by
        show k ∈ _
        rw [← e]
        exact List.mem_map_of_mem hkv)
      rw [List.map_congr_left this, List.map_id']
    | succ u =>
      have h : kvs[u]? = some (k, v0) := h
      rw [List.map_cons, if_neg fun e => n1 (by rw [e]; exact List.mem_map_of_mem (f := Prod.fst) (List.mem_of_getElem? h)), ih n2 h]
      rfl
theorem items_get {kvs : List (Key × V)} {i : Nat} {x y : V} (hx : kvs[i]?.map (fun kv => kV kv.1) = some x) (hy : kvs[i]?.map Prod.snd = some y) : ∃ kv, kvs[i]? = some kv ∧ x = kV kv.1 ∧ y = kv.2 := by
  cases e : kvs[i]? with
  | none => rw [e] at hx; cases hx
  | some kv =>
    rw [e] at hx hy
    cases hx
    cases hy
    exact ⟨kv, rfl, rfl, rfl⟩
/-- all but the dict stays -/
def GoD (kd : Addr) (H H' : Hp) : Prop := ∀ b o, b ≠ kd → H b = some o → H' b = some o
theorem GoD.of {kd : Addr} {H H' : Hp} (e : Ext H H') : GoD kd H H' := fun b o _ h => e b o h
theorem GoD.trans {kd : Addr} {H H1 H2 : Hp} (x : GoD kd H H1) (y : GoD kd H1 H2) : GoD kd H H2 := fun b o n h => y b o n (x b o n h)
theorem GoD.put {kd : Addr} {H : Hp} {o : HO} : GoD kd H (upd H kd o) := fun b u n h => by rw [upd_ne n]; exact h
theorem lst_dk {H : Hp} {l kd : Addr} {xs : List V} {kvs : List (Key × V)} (h : H l = some (.lst xs)) (g : H kd = some (.dK kvs)) : l ≠ kd := fun e => by rw [e, g] at h; cases h
theorem RowV.go {p : Int} {n : Nat} {H H' : Hp} {l kd : Addr} {v : Vc} {kvs : List (Key × V)} (hk : H kd = some (.dK kvs)) (g : GoD kd H H') (h : RowV p n H l v) : RowV p n H' l v := let ⟨ns, h1, h2⟩ := h; ⟨ns, g _ _ (lst_dk h1 hk) h1, h2⟩
theorem RowV.at {p : Int} {n : Nat} {v : Vc} {ns : List Int} {i : Nat} (g : RowG p n ns) (e : ∀ i, i < n → ns.getD i 0 = v i) (hi : i < n) : atI (ns.map V.int) (i : Int) = some (.int (v i)) := by
  have h1 : i < ns.length := by rw [g.1]; exact hi
  refine at_of (j := i) (by omega) ?_
  rw [List.getElem?_map, List.getElem?_eq_getElem h1, ← e i hi, List.getD_eq_getElem?_getD, List.getElem?_eq_getElem h1]
  rfl
/-- a reckoned row, mod p -/
theorem al_mod {p : Int} {n : Nat} {v f : Vc} (h : ∀ i, i < n → v i = f i % p) : Al p n v f := fun i hi => by
  rw [h i hi]
  exact ⟨-(f i / p), by have := Int.emod_add_mul_ediv (f i) p; rw [Int.mul_neg]; omega⟩
def spCleared : Sp := fun vs H Q _ => ∃ (p : Int) (n : Nat) (l kd z : Addr) (v : Vc) (ks : List (Nat × Vc)), vs = [.int p, .ref l, .ref kd] ∧ Pr p ∧ n ≤ 1000 ∧ RowV p n H l v ∧ KeptV p n z H kd ks ∧ Red p n ks ∧ ∀ (q : Addr) (w : Vc) (H' : Hp), Ext H H' → RowV p n H' q w → Rest p n ks v w → Q (.ref q) H'
/-- the first place of a rim, cleared -/
def First (p : Int) (N : Nat) (D : Nat → Vc) (j a : Nat) : Prop := (∃ s, M40.Sp p N (cols D j) s ∧ ¬ p ∣ D j a - s a ∧ ∀ i, i < a → p ∣ D j i - s i) ∧ ∀ s, M40.Sp p N (cols D j) s → ∃ i, i ≤ a ∧ ¬ p ∣ D j i - s i
def spKeep : Sp := fun vs H Q _ => ∃ (p : Int) (n j : Nat) (l kd z : Addr) (D : Nat → Vc) (ks : List (Nat × Vc)), vs = [.int p, .ref l, .ref kd] ∧ Pr p ∧ n ≤ 1000 ∧ ks.length ≤ 900 ∧ RowV p n H l (D j) ∧ z ≠ kd ∧ (∃ oz, H z = some oz) ∧ KeptV p n z H kd ks ∧ Keeps p n D j ks ∧
  (∀ H', GoD kd H H' → KeptV p n z H' kd ks → Born p n D j → Keeps p n D (j + 1) ks → Q .non H') ∧ ∀ (a : Nat) (ks' : List (Nat × Vc)) (H' : Hp), a < n → GoD kd H H' → KeptV p n z H' kd ks' → ks'.length = ks.length + 1 → Keeps p n D (j + 1) ks' → First p n D j a → Q (.int (a : Int)) H'
section
variable {P : Program} {w : World} {K : PySem.W.Frag} {mg : Str → Option Value} {base : Heap}
abbrev clearedN : List Str := ["prime", "row", "kept", "at", "other"]
theorem scCleared : FnScope clearedN ["prime", "row", "kept"] (defScope sCleared) := ⟨rfl, rfl, rfl, by decide +kernel, rfl, by decide +kernel, by decide +kernel⟩
theorem ok_cleared {f : Addr} {fd : FuncData} (F : L2.Fun K "cleared" "cleared" sCleared f fd) (cL : Cal P w K mg base 1 "less" spLess []) : FnOk P w K mg base CX0 2 f fd ["prime", "row", "kept"] spCleared := by
  refine F.ok scCleared (fun vs H Q E h => ?_) (fun cdv A outer s H vs Q E hr h => ?_)
  · obtain ⟨p, n, l, kd, z, v, ks, rfl, _⟩ := h
    rfl
  · obtain ⟨p, n, l, kd, zz, v, ks, rfl, hp, n1000, hl, ⟨kvs, hk, gk⟩, red, k⟩ := h
    have hp' := hp.le
    refine ⟨_, pss_cons (ps_lock (ps_for PassesOwn.never rfl (pi_items (pv 2)) (pg_tup rfl (pgs_cons (pg_name (i := 3) scCleared.nd rfl (Or.inl rfl)) (pgs_cons (pg_name (i := 4) scCleared.nd rfl (Or.inl rfl)) pgs_nil)))
      (pss_one (ps_if (pt_cmpR op_ne (pe_ix ix_list (pv 1) (pv 3) (fun _ _ => rfl)) pe_int (nomark _)) (pss_one (ps_set (i := 1) scCleared.nd rfl (Or.inl rfl) (C8.pe_c cL hr (by decide) (by rfl) (pa_cons (pv 0) (pa_cons (pv 1) (pa_cons (pe_ix ix_list (pv 1) (pv 3) (fun _ _ => rfl)) (pa_cons (pv 4) pa_nil))))))) pss_nil))))
      (pss_one (ps_ret (pv 1))), ?_⟩
    refine ⟨kd, .dK kvs, hk, True.intro, fun od => ?_⟩
    have gl0 : ∀ q v, RowV p n H q v → RowV p n (upd H kd (.frz od (.dK kvs))) q v := fun q v h => h.go hk GoD.put
    have hk1 : (upd H kd (.frz od (.dK kvs))) kd = some (.frz od (.dK kvs)) := upd_same
    have back : ∀ J, Ext (upd H kd (.frz od (.dK kvs))) J → Ext H (upd J kd (.dK kvs)) := fun J e b o h => by
      by_cases c : b = kd
      · rw [c] at h ⊢
        rw [upd_same, ← h, hk]
      · rw [upd_ne c]
        exact e _ _ (by rw [upd_ne c]; exact h)
    have gk1 := gk.imp fun _ _ h => h.mono gl0
    have hl1 := gl0 _ _ hl
    generalize upd H kd (.frz od (.dK kvs)) = H1 at *
    refine ⟨_, rfl, kd, od, kvs, rfl, hk1, ?_⟩
    refine for_it walk_items (fun i σ' J => ∃ (q : Addr) (u : Vc) (v3 v4 : Option V), σ' = [some (.int p), some (.ref q), some (.ref kd), v3, v4] ∧ Ext H1 J ∧ RowV p n J q u ∧ (∃ s, M40.Sp p n (ks.map Prod.snd) s ∧ Al p n u fun i => v i - s i) ∧ ∀ t k, t < i → ks[t]? = some k → p ∣ u k.1) ⟨l, v, _, _, rfl, Ext.rfl', hl1, ⟨zeroV, .zero _ (Al.refl _), fun i hi => by
      show p ∣ v i - (v i - 0)
      rw [Int.sub_zero, Int.sub_self]
      exact Int.dvd_zero p⟩, fun t k h => absurd h (Nat.not_lt_zero t)⟩ (fun i σ' J _ ⟨_, _, _, _, _, e, _⟩ => e _ _ hk1) ?_ ?_
    · rintro i z σ' J J' hi ⟨q, u, v3, v4, rfl, e, hq, ⟨s0, sp0, al0⟩, off⟩ ⟨t, x, y, rfl, nt, rfl, hx, hy⟩
      obtain ⟨kv, hg, rfl, rfl⟩ := items_get hx hy
      obtain ⟨kk, hkk, o, rfl, an, ho, _⟩ := gk1.get hg
      have et := Ext.upd (o := .tup [kV (.inl (kk.1 : Int)), V.ref o]) nt
      refine ⟨t, _, rfl, SqT.of upd_same, rfl, _, _, rfl, _, _, rfl, rfl, ?_⟩
      have hq' := hq.ext et
      have ho' := (ho.ext e).ext et
      have e' := e.trans et
      show tIfS _ _ _ _ _ (upd J t (.tup [kV (.inl (kk.1 : Int)), V.ref o]))
      generalize upd J t (.tup [kV (.inl (kk.1 : Int)), V.ref o]) = J2 at *
      obtain ⟨ns, hns, g, eu⟩ := id hq'
      obtain ⟨ms, hms, g2, ek⟩ := id ho'
      have hc := RowV.at g eu an
      obtain ⟨c0, cp⟩ := hq'.bd an
      have km := List.mem_of_getElem? hkk
      refine ⟨_, rfl, _, rfl, q, _, (kk.1 : Int), .int (u kk.1), rfl, rfl, SqL.of hns, hc, rfl, _, rfl, ?_⟩
      refine ite2 (fun _ => ?_) (fun z => ⟨q, u, _, _, rfl, e', hq', ⟨s0, sp0, al0⟩, fun t' k' h1 h2 => ?_⟩)
      · refine ⟨_, rfl, _, rfl, _, rfl, _, rfl, q, _, (kk.1 : Int), .int (u kk.1), rfl, rfl, SqL.of hns, hc, _, rfl, p, u kk.1, q, o, ns, ms, rfl, hns, hms, by rw [g.1]; exact g, by rw [g.1]; exact g2, c0, cp, hp'.2, by rw [g.1]; exact n1000, fun q2 J3 e3 _ r3 => ?_⟩
        rw [g.1] at r3
        refine ⟨q2, _, _, _, rfl, e'.trans e3, r3, ⟨fun i => s0 i + u kk.1 * kk.2 i, .add (u kk.1) kk.2 s0 _ (List.mem_map_of_mem (f := Prod.snd) km) sp0 (Al.refl _), fun i hi => ?_⟩, fun t' k' h1 h2 => ?_⟩
        · have a1 := al_mod (p := p) (n := n) (v := fun i => (ns.getD i 0 - u kk.1 * ms.getD i 0) % p) (f := fun i => ns.getD i 0 - u kk.1 * ms.getD i 0) (fun _ _ => rfl) i hi
          have a2 := al0 i hi
          dsimp only at a1 ⊢
          rw [eu i hi, ek i hi] at a1 ⊢
          have := Int.dvd_add a1 a2
          rwa [show ∀ X : Int, X - (u i - u kk.1 * kk.2 i) + (u i - (v i - s0 i)) = X - (v i - (s0 i + u kk.1 * kk.2 i)) by intro X; omega] at this
        · have kN := red.lt k' (List.mem_of_getElem? h2)
          have a1 := al_mod (p := p) (n := n) (v := fun i => (ns.getD i 0 - u kk.1 * ms.getD i 0) % p) (f := fun i => ns.getD i 0 - u kk.1 * ms.getD i 0) (fun _ _ => rfl) k'.1 kN
          dsimp only at a1 ⊢
          rw [eu _ kN, ek _ kN] at a1 ⊢
          by_cases same : k'.1 = kk.1
          · rw [same] at a1 ⊢
            have := Int.dvd_sub a1 (dml (u kk.1) (red.one kk km))
            rwa [show ∀ X : Int, X - (u kk.1 - u kk.1 * kk.2 kk.1) - u kk.1 * (kk.2 kk.1 - 1) = X by intro X; grind] at this
          · have lt : t' < i := by
              refine Nat.lt_of_le_of_ne (by omega) fun e => same ?_
              rw [e, hkk] at h2
              cases h2
              rfl
            have a2 := off t' k' lt h2
            have a3 := dml (u kk.1) (red.off kk km k' (List.mem_of_getElem? h2) (fun e => same e.symm))
            have := Int.dvd_sub (Int.dvd_add a1 a2) a3
            rwa [show ∀ X : Int, X - (u k'.1 - u kk.1 * kk.2 k'.1) + u k'.1 - u kk.1 * kk.2 k'.1 = X by intro X; omega] at this
      · by_cases lt : t' < i
        · exact off t' k' lt h2
        · have : t' = i := by omega
          subst this
          rw [hkk] at h2
          cases h2
          have z : u kk.1 = 0 := Classical.byContradiction fun ne => z (by
            have : decide (V.int (u kk.1) = V.int 0) = false := decide_eq_false fun q => ne (by injection q)
            rw [this]
            rfl)
          rw [z]
          exact Int.dvd_zero p
    · rintro σ' J ⟨q, u, v3, v4, rfl, e, hq, made, off⟩
      refine ⟨e _ _ hk1, _, rfl, k q u _ (back J e) ?_ ⟨made, fun k' hk' => ?_⟩⟩
      · obtain ⟨ns, h1, h2⟩ := hq
        exact ⟨ns, by rw [upd_ne fun z => by rw [z, e _ _ hk1] at h1; cases h1]; exact h1, h2⟩
      · obtain ⟨t, ht⟩ := List.getElem?_of_mem hk'
        exact off t k' (by rw [gk1.len]; exact (List.getElem?_eq_some_iff.mp ht).1) ht
abbrev keepN : List Str := ["prime", "row", "kept", "rest", "at", "elder"]
theorem scKeep : FnScope keepN ["prime", "row", "kept"] (defScope sKeep) := ⟨rfl, rfl, rfl, by decide +kernel, rfl, by decide +kernel, by decide +kernel⟩
theorem ok_keep {f : Addr} {fd : FuncData} (F : L2.Fun K "keep" "keep" sKeep f fd) (T : Gb mg) (cC : Cal P w K mg base 2 "cleared" spCleared []) (cP : Cal P w K mg base 1 "pivot" spPiv []) (cS : Cal P w K mg base 1 "scaled_row" spScaled []) (cI : Cal P w K mg base 1 "inverse" spInv []) (cL : Cal P w K mg base 1 "less" spLess []) : FnOk P w K mg base CX0 3 f fd ["prime", "row", "kept"] spKeep := by
  refine F.ok scKeep (fun vs H Q E h => ?_) (fun cdv A outer s H vs Q E hr h => ?_)
  · obtain ⟨p, n, j, l, kd, z, D, ks, rfl, _⟩ := h
    rfl
  · obtain ⟨p, n, j0, l, kd, zz, D, ks, rfl, hp, n1000, l900, hl, zk, ⟨oz, hz⟩, kept, keeps, k0, k⟩ := h
    have hp' := hp.le
    have hu1 := hu_of hr
    have red := keeps.red
    refine ⟨_, pss_cons (ps_set (i := 3) scKeep.nd rfl (Or.inl rfl) (C8.pe_c cC hr (by decide) (by rfl) (pa_cons (pv 0) (pa_cons (pv 1) (pa_cons (pv 2) pa_nil)))))
      (pss_cons (ps_set (i := 4) scKeep.nd rfl (Or.inl rfl) (C8.pe_c cP hr (by decide) (by rfl) (pa_cons (pv 3) pa_nil)))
      (pss_cons (ps_if (pt_cmpR op_notN (pv 4) pe_non (nomark _)) (pss_cons (ps_set (i := 3) scKeep.nd rfl (Or.inl rfl) (C8.pe_c cS hr (by decide) (by rfl) (pa_cons (pv 0) (pa_cons (pv 3) (pa_cons (C8.pe_c cI hr (by decide) (by rfl) (pa_cons (pv 0) (pa_cons (pe_ix ix_list (pv 3) (pv 4) (fun _ _ => rfl)) pa_nil))) pa_nil)))))
      (pss_cons (ps_for PassesOwn.never rfl (pi_list (pe_callTy (call_listD rfl) (by rfl) T.list (by decide +kernel) (pa_cons (pv 2) pa_nil))) (pg_name (i := 5) scKeep.nd rfl (Or.inl rfl))
      (pss_one (ps_if (pt_cmpR op_ne (pe_ix ix_list (pe_dget hu1 (pv 2) (pv 5) (fun _ _ => rfl)) (pv 4) (fun _ _ => rfl)) pe_int (nomark _)) (pss_one (ps_dput hu1 (pv 2) (pv 5) (C8.pe_c cL hr (by decide) (by rfl) (pa_cons (pv 0) (pa_cons (pe_dget hu1 (pv 2) (pv 5) (fun _ _ => rfl)) (pa_cons (pe_ix ix_list (pe_dget hu1 (pv 2) (pv 5) (fun _ _ => rfl)) (pv 4) (fun _ _ => rfl)) (pa_cons (pv 3) pa_nil))))) rfl)) pss_nil)))
      (pss_one (ps_dput hu1 (pv 2) (pv 4) (pv 3) rfl)))) pss_nil)
      (pss_one (ps_ret (pv 4))))), ?_⟩
    refine ⟨_, rfl, _, rfl, _, rfl, p, n, l, kd, zz, D j0, ks, rfl, hp, n1000, hl, kept, red, fun q u H1 e1 hq rest => ?_⟩
    obtain ⟨kvs, hk, gk⟩ := kept
    have hk1 := e1 _ _ hk
    have gk1 := gk.imp fun _ _ h => h.mono fun l v h => h.ext e1
    obtain ⟨ns, hns, g, eu⟩ := id hq
    refine ⟨_, rfl, q, ns, rfl, hns, fun H2 e2 nil => ?_, fun i x H2 e2 hx x0 pre => ?_⟩
    · refine ⟨_, rfl, rfl, _, rfl, ?_⟩
      refine ite2 (fun z => absurd z (by decide)) (fun _ => ?_)
      have go := GoD.of (kd := kd) (e1.trans e2)
      obtain ⟨b, ke⟩ := keeps.same rest fun i hi => by
        show p ∣ u i - 0
        rw [Int.sub_zero, ← eu i hi, nil i]
        exact Int.dvd_zero p
      exact ⟨_, rfl, k0 _ go ⟨kvs, e2 _ _ hk1, gk1.imp fun _ _ h => h.mono fun l v h => h.ext e2⟩ b ke⟩
    · have iln : i < n := by
        have := (List.getElem?_eq_some_iff.mp hx).1
        rw [g.1] at this
        exact this
      have ex : u i = x := by
        rw [← eu i iln, List.getD_eq_getElem?_getD, hx]
        rfl
      subst ex
      obtain ⟨c0, cp⟩ := hq.bd iln
      have gl : RowG p ns.length ns := by rw [g.1]; exact g
      have ln : ns.length ≤ 1000 := by rw [g.1]; exact n1000
      have hx' := RowV.at g eu iln
      have na : ¬ p ∣ u i := fun d => x0 ((hq.zero iln).mp d)
      have pre' : ∀ t, t < i → p ∣ u t := fun t ht => by
        rw [← eu t (by omega), pre t ht]
        exact Int.dvd_zero p
      refine ⟨_, rfl, rfl, _, rfl, ?_⟩
      refine ite2 (fun _ => ?_) (fun z => absurd rfl z)
      refine ⟨_, rfl, _, rfl, _, rfl, _, rfl, _, rfl, q, _, (i : Int), .int (u i), rfl, rfl, SqL.of (e2 _ _ hns), hx', p, u i, rfl, hp, by omega, cp, fun iv iv0 ivp inv => ?_⟩
      refine ⟨p, iv, q, ns, rfl, e2 _ _ hns, gl, by omega, ivp, hp'.2, ln, fun q2 H3 e3 nq2 hq2 => ?_⟩
      have q2z : q2 ≠ zz := fun e => by rw [e, e2 _ _ (e1 _ _ hz)] at nq2; cases nq2
      rw [g.1] at hq2
      -- the new row
      generalize ey : (fun i => ns.getD i 0 * iv % p) = y at hq2
      have yal : Al p n y fun i => u i * iv := by
        rw [← ey]
        exact al_mod fun i hi => by rw [eu i hi]
      have cz : p ∣ u i * iv - 1 := ⟨u i * iv / p, by have := Int.emod_add_mul_ediv (u i * iv) p; omega⟩
      have hk3 := e3 _ _ (e2 _ _ hk1)
      have gk3 := gk1.imp fun _ _ h => h.mono fun l v h => (h.ext e2).ext e3
      have go3 := GoD.of (kd := kd) ((e1.trans e2).trans e3)
      refine ⟨_, rfl, kd, kvs, rfl, Rd.of hk3, fun ql nql => ?_⟩
      have el := Ext.upd (o := .lst (kvs.map fun kv => kV kv.1)) nql
      have hk4 := el _ _ hk3
      have gk4 := gk3.imp fun _ _ h => h.mono fun l v h => h.ext el
      have hq4 := hq2.ext el
      have go4 := go3.trans (GoD.of el)
      have hz4 := el _ _ (e3 _ _ (e2 _ _ (e1 _ _ hz)))
      have hql : (upd H3 ql (.lst (kvs.map fun kv => kV kv.1))) ql = some (.lst (kvs.map fun kv => kV kv.1)) := upd_same
      have qlk : ql ≠ kd := lst_dk hql hk4
      generalize upd H3 ql (.lst (kvs.map fun kv => kV kv.1)) = H4 at *
      have lkv : kvs.length = ks.length := gk4.len
      refine ⟨ql, rfl, ⟨_, SqL.of hql⟩, ?_⟩
      refine for_it walk_list (fun t σ' J => ∃ (kvs' : List (Key × V)) (ws : List (Nat × Vc)) (v5 : Option V), σ' = [some (.int p), some (.ref l), some (.ref kd), some (.ref q2), some (.int (i : Int)), v5] ∧ GoD kd H4 J ∧ J kd = some (.dK kvs') ∧ Two (KE p n zz J) kvs' ws ∧ ws.length = ks.length ∧ ∀ s k, ks[s]? = some k → ∃ l, ws[s]? = some l ∧ l.1 = k.1 ∧ (s < t → Al p n l.2 fun i' => k.2 i' - k.2 i * y i') ∧ (t ≤ s → l.2 = k.2))
        ⟨kvs, ks, _, rfl, fun _ _ _ h => h, hk4, gk4, rfl, fun s k h => ⟨k, h, rfl, fun z => absurd z (Nat.not_lt_zero s), fun _ => rfl⟩⟩ (fun t σ' J _ ⟨_, _, _, _, g', _⟩ => SqL.of (g' _ _ qlk hql)) ?_ ?_
      · rintro t y' σ' J J' hj ⟨kvs', ws, v5, rfl, go5, hk5, gk5, lws, inv5⟩ ⟨rfl, hy⟩
        rw [List.getElem?_map] at hy
        cases hg : kvs[t]? with
        | none => rw [hg] at hy; cases hy
        | some kv =>
          rw [hg] at hy
          cases hy
          obtain ⟨kk, hkk, o0, rfl, an, _, _⟩ := gk4.get hg
          have km := List.mem_of_getElem? hkk
          obtain ⟨lw, hlw, e1w, _, e2w⟩ := inv5 t kk hkk
          have e2w := e2w (Nat.le_refl _)
          obtain ⟨kv', hkv', o, rfl, _, ho, oz'⟩ := gk5.got hlw
          have fsts : ws.map Prod.fst = ks.map Prod.fst := by
            refine List.ext_getElem? fun s => ?_
            rw [List.getElem?_map, List.getElem?_map]
            cases hs : ks[s]? with
            | none => rw [List.getElem?_eq_none (by rw [lws]; exact List.getElem?_eq_none_iff.mp hs)]
            | some k =>
              obtain ⟨l, h1, h2, _⟩ := inv5 s k hs
              rw [h1]
              show some l.1 = some k.1
              rw [h2]
          have nd : (kvs'.map Prod.fst).Nodup := by
            rw [keys_of gk5]
            exact keys_nd (by rw [fsts]; exact red.nd)
          rw [e1w] at hkv'
          rw [e2w] at ho
          have hv := valV_at nd hkv'
          have dg : DGet J' kd (kV (.inl (kk.1 : Int))) (some (.ref o)) := by
            have := DGet.k (k := .inl (kk.1 : Int)) hk5
            rw [hv] at this
            exact this
          obtain ⟨ms, hms, g2, ek⟩ := id ho
          have hc := RowV.at g2 ek iln
          obtain ⟨d0, dp⟩ := ho.bd iln
          obtain ⟨rs, hrs, g3, er⟩ := hq4.go hk4 go5
          refine ⟨_, rfl, _, rfl, kd, _, rfl, dg, _, rfl, o, _, (i : Int), .int (kk.2 i), rfl, rfl, SqL.of hms, hc, rfl, _, rfl, ?_⟩
          refine ite2 (fun _ => ?_) (fun z => ⟨kvs', ws, _, rfl, go5, hk5, gk5, lws, fun s k hs => ?_⟩)
          · refine ⟨_, rfl, _, rfl, _, rfl, kd, _, rfl, dg, _, rfl, _, rfl, kd, _, rfl, dg, _, rfl, o, _, (i : Int), .int (kk.2 i), rfl, rfl, SqL.of hms, hc, _, rfl, p, kk.2 i, o, q2, ms, rs, rfl, hms, hrs, by rw [g2.1]; exact g2, by rw [g2.1]; exact g3, d0, dp, hp'.2, by rw [g2.1]; exact n1000, fun q3 J3 e3 nq3 r3 => ?_⟩
            have q3z : q3 ≠ zz := fun e => by rw [e, go5 _ _ zk hz4] at nq3; cases nq3
            rw [g2.1] at r3
            generalize ef : (fun i' => (ms.getD i' 0 - kk.2 i * rs.getD i' 0) % p) = f at r3
            have fal : Al p n f fun i' => kk.2 i' - kk.2 i * y i' := by
              rw [← ef]
              exact al_mod fun i' hi' => by rw [ek i' hi', er i' hi']
            have hk6 := e3 _ _ hk5
            refine ⟨_, rfl, _, rfl, kd, _, rfl, DPut.k (k := .inl (kk.1 : Int)) hk6 (small1000 (by have := gk5.len; omega)), ?_⟩
            rw [putK_at nd hkv']
            have goJ : GoD kd J3 (upd J3 kd (.dK (kvs'.set t (.inl (kk.1 : Int), .ref q3)))) := GoD.put
            refine ⟨kvs'.set t (.inl (kk.1 : Int), .ref q3), ws.set t (kk.1, f), _, rfl, (go5.trans (GoD.of e3)).trans goJ, upd_same, ?_, by rw [List.length_set]; exact lws, fun s k hs => ?_⟩
            · exact (gk5.imp fun _ _ h => h.mono fun l v h => (h.ext e3).go hk6 goJ).set ⟨q3, rfl, an, r3.go hk6 goJ, q3z⟩ t
            · by_cases est : s = t
              · subst est
                rw [hkk] at hs
                cases hs
                refine ⟨(kk.1, f), ?_, rfl, fun _ => fal, fun h => by omega⟩
                rw [List.getElem?_set_self (by rw [lws]; exact (List.getElem?_eq_some_iff.mp hkk).1)]
              · obtain ⟨l, h1, h2, h3, h4⟩ := inv5 s k hs
                refine ⟨l, ?_, h2, fun h => h3 (by omega), fun h => h4 (by omega)⟩
                rw [List.getElem?_set_ne (fun e => est e.symm)]
                exact h1
          · obtain ⟨l, h1, h2, h3, h4⟩ := inv5 s k hs
            refine ⟨l, h1, h2, fun h => ?_, fun h => h4 (by omega)⟩
            by_cases est : s = t
            · subst est
              rw [hkk] at hs
              cases hs
              have z : kk.2 i = 0 := Classical.byContradiction fun ne => z (by
                have : decide (V.int (kk.2 i) = V.int 0) = false := decide_eq_false fun q => ne (by injection q)
                rw [this]
                rfl)
              rw [h4 (Nat.le_refl _)]
              intro i' hi'
              rw [z]
              rw [show kk.2 i' - (kk.2 i' - 0 * y i') = 0 by omega]
              exact Int.dvd_zero p
            · exact h3 (by omega)
      · rintro σ' J ⟨kvs', ws, v5, rfl, go5, hk5, gk5, lws, inv5⟩
        have lkvs : (kvs.map fun kv => kV kv.1).length = ks.length := by rw [List.length_map, lkv]
        rw [lkvs] at inv5
        have anew : ∀ l ∈ ks, l.1 ≠ i := fun l hl e => na (by rw [← e]; exact rest.off l hl)
        have fsts : ws.map Prod.fst = ks.map Prod.fst := by
          refine List.ext_getElem? fun s => ?_
          rw [List.getElem?_map, List.getElem?_map]
          cases hs : ks[s]? with
          | none => rw [List.getElem?_eq_none (by rw [lws]; exact List.getElem?_eq_none_iff.mp hs)]
          | some k =>
            obtain ⟨l, h1, h2, _⟩ := inv5 s k hs
            rw [h1]
            show some l.1 = some k.1
            rw [h2]
        have no : valV kvs' (.inl (i : Int)) = none := by
          cases e : valV kvs' (.inl (i : Int)) with
          | none => rfl
          | some v =>
            have any : (kvs'.any fun kv => decide (kv.1 = .inl (i : Int))) = true := by rw [valV_any, e]; rfl
            obtain ⟨kv, hkv, ekv⟩ := List.any_eq_true.mp any
            have m : kv.1 ∈ kvs'.map Prod.fst := List.mem_map_of_mem hkv
            rw [keys_of gk5, of_decide_eq_true ekv] at m
            obtain ⟨w, hw, ew⟩ := List.mem_map.mp m
            have wi : w.1 = i := by injection ew with ew; omega
            have m2 : w.1 ∈ ws.map Prod.fst := List.mem_map_of_mem hw
            rw [fsts] at m2
            obtain ⟨x, hx, exx⟩ := List.mem_map.mp m2
            exact absurd (exx.trans wi) (anew x hx)
        refine ⟨_, rfl, _, rfl, _, rfl, kd, _, rfl, DPut.k (k := .inl (i : Int)) hk5 (small1000 (by have := gk5.len; omega)), ?_⟩
        rw [putK_new _ no]
        have goJ : GoD kd J (upd J kd (.dK (kvs' ++ [(.inl (i : Int), .ref q2)]))) := GoD.put
        refine ⟨_, rfl, k i (ws ++ [(i, y)]) _ iln ((go4.trans go5).trans goJ) ⟨_, upd_same, (gk5.imp fun _ _ h => h.mono fun l v h => h.go hk5 goJ).snoc ⟨q2, rfl, iln, (hq4.go hk4 go5).go hk5 goJ, q2z⟩⟩ (by rw [List.length_append, lws]; rfl) ?_ (keeps.least rest iln pre' na)⟩
        refine keeps.more rest iln pre' na cz yal (by rw [List.map_append, fsts]; rfl) (fun l hl => ?_) (fun k' hk' => ?_) (List.mem_append_right _ List.mem_cons_self)
        · rcases List.mem_append.mp hl with z | z
          · obtain ⟨s, hs⟩ := List.getElem?_of_mem z
            have sl : s < ks.length := by rw [← lws]; exact (List.getElem?_eq_some_iff.mp hs).1
            obtain ⟨l', h1, h2, h3, _⟩ := inv5 s ks[s] (List.getElem?_eq_getElem sl)
            rw [hs] at h1
            cases h1
            exact .inr ⟨ks[s], List.getElem_mem sl, h2, h3 sl⟩
          · exact .inl (List.mem_singleton.mp z)
        · obtain ⟨s, hs⟩ := List.getElem?_of_mem hk'
          obtain ⟨l', h1, h2, h3, _⟩ := inv5 s k' hs
          exact ⟨l', List.mem_append_left _ (List.mem_of_getElem? h1), h2, h3 (List.getElem?_eq_some_iff.mp hs).1⟩
end
end L40

set_option Elab.async false
set_option linter.all false
set_option maxRecDepth 100000
set_option maxHeartbeats 4000000
set_option pp.maxSteps 100
/-! The place of a cell in a tuple of cells; the row of a cell's rim. -/
namespace L40
open PySem L2 M40
abbrev sRim : Stmt := top 26
/-- a tuple of cells, locked or not -/
def TR (H : Hp) (b : Addr) (ll : List (List Int)) : Prop := ∃ as : List Addr, Rd H b (.tup (as.map V.ref)) ∧ PT2 H as ll
theorem rd_ext {H H' : Hp} {b : Addr} {u : HO} (e : Ext H H') (h : Rd H b u) : Rd H' b u := by
  rcases h with h | ⟨o, h⟩
  · exact .inl (e _ _ h)
  · exact .inr ⟨o, e _ _ h⟩
theorem TR.ext {H H' : Hp} {b : Addr} {ll : List (List Int)} (e : Ext H H') (h : TR H b ll) : TR H' b ll := let ⟨as, h1, h2⟩ := h; ⟨as, rd_ext e h1, PT2.mono (fun _ _ z => e _ _ z) h2⟩
theorem TR.dp {K : PySem.W.Frag} {H : Hp} {b : Addr} {ll : List (List Int)} (h : TR H b ll) : Dp K H (.ref b) (.tuple (ll.map tI)) := by
  obtain ⟨as, hb, pt⟩ := h
  exact .tup (.inl hb) (dp_lists pt)
theorem TT.tr {H : Hp} {b : Addr} {ll : List (List Int)} (h : TT H b ll) : TR H b ll := let ⟨as, h1, h2⟩ := h; ⟨as, .inl h1, h2⟩
/-- its object is known, and has no dict of its own -/
def Bare (H : Hp) (b : Addr) : Prop := ∃ (o : Obj) (u : HO), H b = some (.frz o u) ∧ o.dict = Option.none
theorem Bare.ext {H H' : Hp} {b : Addr} (e : Ext H H') (h : Bare H b) : Bare H' b := let ⟨o, u, h1, h2⟩ := h; ⟨o, u, e _ _ h1, h2⟩
/-- tuple(list), the new object known -/
theorem call_tuple_frz {X : Cx} : CallR X (.type "tuple") (fun xs H Q => ∃ p ys, xs = [.ref p] ∧ SqL X.K H p ys ∧ ∀ (l : Addr) (o : Obj), H l = Option.none → o.dict = Option.none → Q (.ref l) (upd H l (.frz o (.tup ys)))) := by
  intro pins s σ H xs us Q I r h
  obtain ⟨p, ys, rfl, hq, q⟩ := h
  obtain ⟨u, rfl, rx⟩ := Vals.one r
  cases rx
  obtain ⟨its, r', pl, hz⟩ := I.list hq
  have hlen := r'.length
  refine call_tuple_list pl.isList (fun h' kp => ?_) (by simp only [List.size_toArray] <;> omega)
  have I1 : Inv X pins σ H { s with heap := h' } := I.kept (t' := s.toks) kp
  have I2 : Inv X pins σ (upd H h'.objs.size (.frz { cls := .type "tuple", data := .seq its.toArray } (.tup ys))) { s with heap := h'.push { cls := .type "tuple", data := .seq its.toArray } } :=
    I1.laid (t' := s.toks) (fun b o e => Heap.get?_push_of_some _ e) (Nat.le_refl _) (show ObjOk X.prog X.w _ _ _ (.frz _ (.tup ys)) from ⟨Heap.get?_push_size _ rfl, hz, its, r', ⟨_, Heap.get?_push_size _ rfl, rfl, _, rfl⟩⟩)
  exact ⟨.ref h'.objs.size, _, I2, rfl, q _ _ (I1.hok.fresh (Nat.le_refl _)) rfl⟩
/-- t.index(cell), the first place -/
def rTupIdx : V → List V → Hp → VK → Prop := fun x xs H Q => ∃ (b c : Addr) (l : List Int) (ll : List (List Int)) (j : Nat), x = .ref b ∧ xs = [.ref c] ∧ TR H b ll ∧ H c = some (.tup (l.map V.int)) ∧ ll[j]? = some l ∧ (∀ m, m < j → ll[m]? ≠ some l) ∧ Q (.int (j : Nat)) H
theorem mt_tupIdx {X : Cx} (hu : X.A.units + 65 < cLine) : MtR X "tuple.index" rTupIdx := by
  intro pins s σ H x xs v us Q I rx rs h
  obtain ⟨b, c, l, ll, j, rfl, rfl, tt, hc, hj, hno, q⟩ := h
  cases rx
  cases rs with
  | cons ry rt =>
    rename_i uy ut
    cases rt
    obtain ⟨bs, r1⟩ := Dp.reads I (tI l) (.ref c) uy (dp_tI hc) ry
    have sd := shaped_tI l
    have sl : SeqAt.shaped (.tuple (ll.map tI)) = true := shaped_dT ll
    have hxs : PyData.canLayAll0 (ll.map tI) = true := by
      have := SeqAt.canLay_of_shaped sl
      rw [PyData.canLay0] at this
      exact this
    have hroom : X.A.units + 1 + min (PyData.depthAll (ll.map tI)) (tI l).depth < cLine := PyProof.Rows.room_in_shaped sd hu
    obtain ⟨as, hb, pt⟩ := tt
    obtain ⟨its, rv, ⟨⟨cls, dd, data, sls⟩, ho, hcl, n, hdt⟩, hlen⟩ := I.tuple (show SqT X.K H b _ from .inl hb)
    simp only at hcl hdt
    subst hcl hdt
    obtain ⟨as2, h4⟩ := Dp.readsAll I (ll.map tI) _ its (dp_lists pt) rv
    have hn : its.length = (ll.map tI).length := SeqAt.ReadsAll.length (ll.map tI) its as2 h4
    have hmap : its.map (SeqAt.readOf s.heap) = ll.map tI := SeqAt.readsAll_map (ll.map tI) its as2 hxs h4
    have lj := (List.getElem?_eq_some_iff.mp hj).1
    have hjl : j < its.length := by rw [hn, List.length_map]; exact lj
    have hj' : j < its.toArray.size := by simpa using hjl
    have at_ : ∀ (m : Nat) (hm : m < its.toArray.size) (k : List Int), ll[m]? = some k → SeqAt.readOf s.heap its.toArray[m] = tI k := by
      intro m hm k hk
      have hml : m < its.length := by simpa using hm
      have e1 : (its.map (SeqAt.readOf s.heap))[m]? = some (tI k) := by rw [hmap, List.getElem?_map, hk]; rfl
      rw [List.getElem?_map, List.getElem?_eq_getElem hml] at e1
      have e2 : SeqAt.readOf s.heap its[m] = tI k := Option.some.inj e1
      simpa using e2
    refine call_meets PySem.F.slot_tuple_index ⟨_, ho, rfl⟩ PySem.F.entry_tuple_index (PySem.F.args_tuple_index_2 _ _)
      (TI.tuple_indexAt b its.toArray n dd sls uy (fun u => PyData.eqv (SeqAt.readOf s.heap u) (tI l)) j hj' ?_ ?_) ⟨ho, SeqAt.items_eqAt (vs := its.toArray) (show ReadsAll s.heap its.toArray.toList (ll.map tI) as2 from h4) r1 hxs (SeqAt.canLay_of_shaped sd) hroom, ?_⟩
    · show PyData.eqv (SeqAt.readOf s.heap its.toArray[j]) (tI l) = true
      rw [at_ j hj' l hj, eqv_tI]
      exact decide_eq_true rfl
    · intro m hm hmj
      have hmd : m < ll.length := by omega
      show PyData.eqv (SeqAt.readOf s.heap its.toArray[m]) (tI l) = false
      rw [at_ m hm _ (List.getElem?_eq_getElem hmd), eqv_tI]
      exact decide_eq_false fun e => hno m hmj (by rw [List.getElem?_eq_getElem hmd, e])
    · exact ⟨.int (j : Nat), H, I.tok _, ⟨_, rfl⟩, q⟩
def tTupIdx (to : TE) (t : TA) : TE := fun σ H Q => to σ H fun x H1 => (∃ b ll, x = .ref b ∧ TR H1 b ll ∧ Bare H1 b) ∧ t σ H1 fun xs H2 => rTupIdx x xs H2 Q
theorem pe_tupIdx {X : Cx} {o e : Expr} {to : TE} {t : TA} {apos cpos : Pos} (hu : X.A.units + 65 < cLine) (ho : PE X o to) (ha : PA X [e] t)
    (hbase : attributeBase o "index" X.env (eval o X.env) = eval o X.env := by rfl)
    (hfew : ((backTo cpos (starEach [e] X.env)).all (fun x => !x.1) && (backToKw cpos (keywordEach [] X.env)).all (fun x => x.1.isSome)
      && decide (([e] : List Expr).length + ([] : List Keyword).length + (if ([] : List Keyword).isEmpty then 0 else 1) < 30)) = true := by rfl)
    (hline : (apos.endLine == cpos.line) = true := by rfl) (hs : starEach [e] X.env = (false, eval e X.env) :: starEach [] X.env := by rfl) (hplain : (backTo cpos (starEach [] X.env)).any (·.1) = false := by rfl) :
    PE X (.Call (.Attribute o "index" apos) [e] [] cpos) (tTupIdx to t) := by
  refine ⟨fun pins s σ H Q I h => ?_⟩
  refine wpAny_Call_method_late hbase hfew hline rfl (thn (ho.run pins s σ H _ I h) fun v s1 ⟨x, H1, I1, r1, ⟨b, ll, ex, tr, oo, u, hf, hd⟩, q1⟩ => ?_)
  subst ex
  cases r1
  have ty : s1.TypeIs (.ref b) "tuple" := by
    obtain ⟨as, hb, _⟩ := tr
    obtain ⟨its, _, ⟨o', ho', hc', _⟩, _⟩ := I1.tuple (show SqT X.K H1 b _ from .inl hb)
    exact ⟨o', ho', hc'⟩
  refine ⟨"tuple", "tuple.index", PySem.F.plainAttrs_tuple, PySem.F.slot_tuple_index, PySem.F.type_tuple_index, ty, fun a e => ?_, ?_⟩
  · cases e
    exact ⟨oo, (I1.hok b _ hf).1, hd⟩
  · have hA := ha.run cpos pins s1 σ H1 _ I1 q1
    rw [hs] at hA ⊢
    refine Calls.callWith_builtin (by show (false || (backTo cpos (starEach [] X.env)).any (·.1)) = false; rw [hplain] <;> rfl) (Calls.evalArgs_plain ?_)
    exact thn hA fun us s2 ⟨vs, H2, I2, r2, q2⟩ => mt_tupIdx hu pins s2 σ H2 (.ref b) vs (.ref b) us Q I2 rfl r2 q2
theorem first_at : ∀ {ll : List (List Int)} {l : List Int}, l ∈ ll → ∃ j : Nat, ll[j]? = some l ∧ ∀ m : Nat, m < j → ll[m]? ≠ some l
  | [], _, h => nomatch h
  | a :: r, l, h => by
    by_cases e : a = l
    · exact ⟨0, by rw [e]; rfl, fun m hm => absurd hm (Nat.not_lt_zero m)⟩
    · obtain ⟨j, h1, h2⟩ := first_at (ll := r) (l := l) (by
        rcases List.mem_cons.mp h with z | z
        · exact absurd z.symm e
        · exact z)
      refine ⟨j + 1, h1, fun m hm => ?_⟩
      cases m with
      | zero => exact fun z => e (Option.some.inj z)
      | succ m => exact h2 m (by omega)
def rimV (p : Int) (ll : List (List Int)) (fs : List (List Int)) : Vc := rev ll.length fun i => sgF p 0 fs (ll.getD i [])
def spRim : Sp := fun vs H Q _ => ∃ (b c : Addr) (l : List Int) (ll : List (List Int)) (p : Int), vs = [.ref b, .int p, .ref c] ∧ TR H b ll ∧ Bare H b ∧ H c = some (.tup (l.map V.int)) ∧ 1 ≤ l.length ∧ l.length ≤ 4 ∧ (∀ f ∈ facesL l, f ∈ ll) ∧ ll.Nodup ∧ (facesL l).Nodup ∧ Pr p ∧ ll.length ≤ 1000 ∧ ∀ (q : Addr) (H' : Hp), Ext H H' → RowV p ll.length H' q (rimV p ll (facesL l)) → Q (.ref q) H'
theorem take_snoc {α : Type} {l : List α} {i : Nat} {a : α} (h : l[i]? = some a) : l.take (i + 1) = l.take i ++ [a] := by
  rw [List.take_succ, h]
  rfl
/-- one face more -/
theorem rim_step {p : Int} {ll fs : List (List Int)} {ns : List Int} {u j : Nat} {f : List Int} {v : Int} (nd : ll.Nodup) (nf : fs.Nodup) (hf : fs[u]? = some f) (hj : ll[j]? = some f) (ln : ns.length = ll.length) (ev : v = sg p u)
    (h : ∀ i, i < ll.length → ns.getD i 0 = rimV p ll (fs.take u) i) : ∀ i, i < ll.length → (ns.set (ll.length - 1 - j) v).getD i 0 = rimV p ll (fs.take (u + 1)) i := fun i hi => by
  have jl := (List.getElem?_eq_some_iff.mp hj).1
  have ul := (List.getElem?_eq_some_iff.mp hf).1
  have nin : f ∉ fs.take u := fun m => by
    obtain ⟨a, ha, ea⟩ := List.mem_iff_getElem.mp m
    rw [List.length_take] at ha
    rw [List.getElem_take] at ea
    have := nd_at nf (i := a) (j := u) (c := f) (by rw [List.getElem?_eq_getElem (by omega), ea]) hf
    omega
  have hi' := h i hi
  unfold rimV rev at hi' ⊢
  dsimp only at hi' ⊢
  rw [take_snoc hf, sgF_snoc nin, List.length_take, Nat.min_eq_left (by omega), Nat.zero_add]
  rw [List.getD_eq_getElem?_getD]
  by_cases e : i = ll.length - 1 - j
  · subst e
    rw [List.getElem?_set_self (by omega), show ll.length - 1 - (ll.length - 1 - j) = j by omega, getD_of hj, if_pos rfl, ev]
    rfl
  · rw [List.getElem?_set_ne (fun z => e z.symm), ← List.getD_eq_getElem?_getD, hi', if_neg]
    intro z
    have := nd_at nd (i := j) (j := ll.length - 1 - i) (c := f) hj (by rw [getD_lt (by omega), ← z])
    omega
theorem rowg_set {p : Int} {n : Nat} {ns : List Int} {j : Nat} {v : Int} (g : RowG p n ns) (v0 : 0 ≤ v) (vp : v < p) : RowG p n (ns.set j v) := ⟨by rw [List.length_set]; exact g.1, fun x hx => by
  rcases List.mem_or_eq_of_mem_set hx with z | z
  · exact g.2 x z
  · rw [z]; exact ⟨v0, vp⟩⟩
theorem none_of_ext {H H1 : Hp} {b : Addr} (e : Ext H H1) (h : H1 b = none) : H b = none := by
  cases q : H b with
  | none => rfl
  | some o => rw [e _ _ q] at h; cases h
theorem ref_get {as : List Addr} {j : Nat} {y : V} (h : (as.map V.ref)[j]? = some y) : ∃ b, as[j]? = some b ∧ y = .ref b := by
  rw [List.getElem?_map] at h
  cases e : as[j]? with
  | none => rw [e] at h; cases h
  | some b => rw [e] at h; cases h; exact ⟨b, rfl, rfl⟩
theorem ref_int {J : Hp} {fl row : Addr} {as : List Addr} {ns : List Int} {i : Nat} {a : Addr} (h : J fl = some (.lst (as.map V.ref))) (g : J row = some (.lst (ns.map V.int))) (ha : as[i]? = some a) : fl ≠ row := fun e => by
  rw [e, g] at h
  injection h with h
  injection h with h
  have : (ns.map V.int)[i]? = some (.ref a) := by rw [h, List.getElem?_map, ha]; rfl
  obtain ⟨n, _, z⟩ := map_int_get this
  cases z
section
variable {P : Program} {w : World} {K : PySem.W.Frag} {mg : Str → Option Value} {base : Heap}
abbrev rimN : List Str := ["cells", "prime", "cell", "row", "at", "face"]
theorem scRim : FnScope rimN ["cells", "prime", "cell"] (defScope sRim) := ⟨rfl, rfl, rfl, by decide +kernel, rfl, by decide +kernel, by decide +kernel⟩
theorem ok_rim {f : Addr} {fd : FuncData} (F : L2.Fun K "rim_row" "rim_row" sRim f fd) (T : Gb mg) (cF : Cal P w K mg base 1 "faces" spFaces []) : FnOk P w K mg base CX0 2 f fd ["cells", "prime", "cell"] spRim := by
  refine F.ok scRim (fun vs H Q E h => ?_) (fun cdv A outer s H vs Q E hr h => ?_)
  · obtain ⟨b, c, l, ll, p, rfl, _⟩ := h
    rfl
  · obtain ⟨b, c, l, ll, p, rfl, tt, bare, hc, l1, l4, fs, nd, nf, hp, ln, k⟩ := h
    have hp' := hp.le
    have hu65 : A.units + 3 + 65 < cLine := by
      have := hr.un
      show A.units + 3 + 65 < cLine
      have e : (A.deeper (PyProof.Rows.envOfC "rim_row" (defScope sRim) s.heap.objs.size f cdv)).units = A.units + 3 := rfl
      omega
    refine ⟨_, pss_cons (ps_set (i := 3) scRim.nd rfl (Or.inl rfl) (pe_op op_rep (pe_lst (pa_cons pe_int pa_nil)) (pe_callB call_len_seq (by rfl) T.len PySem.boot_len (pa_cons (pv 0) pa_nil))))
      (pss_cons (ps_for PassesOwn.never rfl (pi_enum (by rfl) T.enum (pa_cons (C8.pe_c cF hr (by decide) (by rfl) (pa_cons (pv 2) pa_nil)) pa_nil)) (pg_tup rfl (pgs_cons (pg_name (i := 4) scRim.nd rfl (Or.inl rfl)) (pgs_cons (pg_name (i := 5) scRim.nd rfl (Or.inl rfl)) pgs_nil)))
      (pss_one (ps_asg (pe_ifExp (pt_cmpR op_eq (pe_op op_mod (pv 4) pe_int) pe_int (nomark _)) pe_int (pe_op op_sub (pv 1) pe_int)) (pg_sub (pv 3) (pe_op op_sub (pe_op op_sub (pe_callB call_len_seq (by rfl) T.len PySem.boot_len (pa_cons (pv 0) pa_nil)) pe_int) (pe_tupIdx hu65 (pv 0) (pa_cons (pv 5) pa_nil))) set_list))))
      (pss_one (ps_ret (pv 3)))), ?_⟩
    obtain ⟨as, hb, pt⟩ := id tt
    have la : as.length = ll.length := Paired.length pt
    refine ⟨by show 1 ≤ sizeLine; decide, fun p1 n1 => ?_⟩
    have x1 := Ext.upd (o := .lst [V.int 0]) n1
    refine ⟨_, rfl, b, _, rfl, .inr (.inl (rd_ext x1 hb)), p1, _, [V.int 0], rfl, rfl, upd_same, by omega, by rw [List.length_map]; omega, by rw [List.length_map]; show 1 * _ ≤ sizeLine; rw [sizeLine_eq]; omega, fun row nrow => ?_⟩
    rw [List.flatten_replicate_singleton]
    have e0 : List.replicate (((as.map V.ref).length : Nat) : Int).toNat (V.int 0) = (List.replicate ll.length (0 : Int)).map V.int := by
      rw [List.map_replicate, List.length_map, la]
      rfl
    rw [e0]
    have x2 := Ext.upd (o := .lst ((List.replicate ll.length (0 : Int)).map V.int)) nrow
    have x12 := x1.trans x2
    have hr0 : RowV p ll.length (upd (upd H p1 (.lst [V.int 0])) row (.lst ((List.replicate ll.length (0 : Int)).map V.int))) row (rimV p ll []) := ⟨_, upd_same, ⟨by rw [List.length_replicate], fun x hx => by
      rw [List.eq_of_mem_replicate hx]
      exact ⟨by decide, by omega⟩⟩, fun i hi => by
      rw [List.getD_eq_getElem?_getD, List.getElem?_replicate, if_pos hi]
      rfl⟩
    have nrowH : H row = none := none_of_ext x1 nrow
    generalize upd (upd H p1 (.lst [V.int 0])) row (.lst ((List.replicate ll.length (0 : Int)).map V.int)) = H1 at *
    refine ⟨_, rfl, c, l, rfl, x12 _ _ hc, l1, l4, fun fl fas H2 e2 hfl fpt => ?_⟩
    have hr2 := hr0.ext e2
    have x3 := x12.trans e2
    refine ⟨fl, _, rfl, SqL.of hfl, ?_⟩
    refine for_it walk_enum (fun i σ' J => ∃ v4 v5 : Option V, σ' = [some (.ref b), some (.int p), some (.ref c), some (.ref row), v4, v5] ∧ GoD row H2 J ∧ RowV p ll.length J row (rimV p ll ((facesL l).take i)) ∧ J fl = some (.lst (fas.map V.ref))) ⟨_, _, rfl, fun _ _ _ h => h, hr2, hfl⟩ (fun i σ' J _ ⟨_, _, _, _, _, g⟩ => SqL.of g) ?_ ?_
    · rintro i z σ' J J' hi ⟨v4, v5, rfl, g, hrow, hfl'⟩ ⟨t, x, y, rfl, nt, rfl, hx, hy⟩
      cases hx
      obtain ⟨a, ha, rfl⟩ := ref_get hy
      obtain ⟨f1, hf1, haf⟩ := fpt.get ha
      obtain ⟨ns, hns, gn, en⟩ := hrow
      have nfl := ref_int hfl' hns ha
      have et := Ext.upd (o := .tup [V.int (i : Int), .ref a]) nt
      have brow : b ≠ row := fun z => by
        rcases (rd_ext x3 hb) with q | ⟨o, q⟩ <;> (rw [z] at q; obtain ⟨ms, h1, _⟩ := hr2; rw [h1] at q; cases q)
      have keep : ∀ {q : Addr} {xs : List V}, H2 q = some (.tup xs) → J q = some (.tup xs) := fun {q xs} h => g _ _ (fun z => by rw [z] at h; obtain ⟨ms, h1, _⟩ := hr2; rw [h1] at h; cases h) h
      have ttJ : TR (upd J t (.tup [V.int (i : Int), .ref a])) b ll := ⟨as, by
        rcases (rd_ext x3 hb) with q | ⟨o, q⟩
        · exact .inl (et _ _ (g _ _ brow q))
        · exact .inr ⟨o, et _ _ (g _ _ brow q)⟩, Paired.imp' (fun _ _ h => et _ _ (keep (x3 _ _ h))) pt⟩
      have bareJ : Bare (upd J t (.tup [V.int (i : Int), .ref a])) b := let ⟨o, u, h1, h2⟩ := bare.ext x3; ⟨o, u, et _ _ (g _ _ brow h1), h2⟩
      have haJ := et _ _ (keep haf)
      have hnsJ := et _ _ hns
      have hflJ := et _ _ hfl'
      have gJ := g.trans (GoD.of et)
      obtain ⟨j, hj, hno⟩ := first_at (fs f1 (List.mem_of_getElem? hf1))
      have jl := (List.getElem?_eq_some_iff.mp hj).1
      refine ⟨t, _, rfl, SqT.of upd_same, rfl, _, _, rfl, _, _, rfl, rfl, ?_⟩
      generalize upd J t (.tup [V.int (i : Int), .ref a]) = J2 at *
      obtain ⟨as', hb', pt'⟩ := id ttJ
      have la' : (as'.map V.ref).length = ll.length := by
        rw [List.length_map]
        exact Paired.length pt'
      have ix : ixN (ns.map V.int).length ((((as'.map V.ref).length : Nat) : Int) - 1 - ((j : Nat) : Int)) = some (ll.length - 1 - j) := by
        have e : (((as'.map V.ref).length : Nat) : Int) - 1 - ((j : Nat) : Int) = ((ll.length - 1 - j : Nat) : Int) := by rw [la']; omega
        rw [e]
        have q : ll.length - 1 - j < (ns.map V.int).length := by rw [List.length_map, gn.1]; omega
        unfold ixN
        rw [if_pos (by omega), if_pos (by omega)]
        rfl
      have fin : ∀ v : Int, 0 ≤ v → v < p → v = sg p i → ∃ v4 v5 : Option V, [some (V.ref b), some (.int p), some (.ref c), some (.ref row), some (.int (i : Int)), some (.ref a)] = [some (.ref b), some (.int p), some (.ref c), some (.ref row), v4, v5] ∧ GoD row H2 (upd J2 row (.lst ((ns.map V.int).set (ll.length - 1 - j) (.int v)))) ∧ RowV p ll.length (upd J2 row (.lst ((ns.map V.int).set (ll.length - 1 - j) (.int v)))) row (rimV p ll ((facesL l).take (i + 1))) ∧ (upd J2 row (.lst ((ns.map V.int).set (ll.length - 1 - j) (.int v)))) fl = some (.lst (fas.map V.ref)) := fun v v0 vp ev =>
        ⟨_, _, rfl, gJ.trans GoD.put, ⟨ns.set (ll.length - 1 - j) v, by rw [upd_same, List.map_set], rowg_set gn v0 vp, rim_step nd nf hf1 hj gn.1 ev en⟩, by rw [upd_ne nfl]; exact hflJ⟩
      refine ⟨_, rfl, _, _, rfl, rfl, by show (0 : Int) < 2; decide, rfl, _, rfl, ?_⟩
      refine ite2 (fun z => ?_) (fun z => ?_)
      · refine ⟨_, rfl, _, rfl, b, _, rfl, .inr (.inl hb'), _, _, rfl, rfl, _, rfl, ⟨b, ll, rfl, ttJ, bareJ⟩, _, rfl, b, a, f1, ll, j, rfl, rfl, ttJ, haJ, hj, hno, _, _, rfl, rfl, row, _, _, _, rfl, rfl, hnsJ, ix, ?_⟩
        refine fin 1 (by decide) (by omega) ?_
        have z := of_decide_eq_true z
        injection z with z
        unfold sg
        rw [if_pos (by omega)]
      · refine ⟨_, rfl, _, _, rfl, rfl, _, rfl, _, rfl, b, _, rfl, .inr (.inl hb'), _, _, rfl, rfl, _, rfl, ⟨b, ll, rfl, ttJ, bareJ⟩, _, rfl, b, a, f1, ll, j, rfl, rfl, ttJ, haJ, hj, hno, _, _, rfl, rfl, row, _, _, _, rfl, rfl, hnsJ, ix, ?_⟩
        refine fin (p - 1) (by omega) (by omega) ?_
        unfold sg
        rw [if_neg fun q => z (decide_eq_true ?_)]
        show V.int ((i : Int) % 2) = V.int 0
        rw [show (i : Int) % 2 = 0 by omega]
    · rintro σ' J ⟨v4, v5, rfl, g, hrow, _⟩
      exact ⟨_, rfl, k row J (fun q o h => g _ _ (fun z => by rw [z, nrowH] at h; cases h) (x3 _ _ h)) (by
        have e : (fas.map V.ref).length = (facesL l).length := by rw [List.length_map]; exact Paired.length fpt
        rw [e, List.take_of_length_le (Nat.le_refl _)] at hrow
        exact hrow)⟩
end
end L40

set_option Elab.async false
set_option linter.all false
set_option maxRecDepth 100000
set_option maxHeartbeats 4000000
set_option pp.maxSteps 100
/-! Right towers made. -/
namespace L40
open PySem L2
/-- a tower over cells that may be locked -/
def spTowG (CT : Addr) : Sp := fun vs H Q _ => ∃ (p dx b : Addr) (ll : List (List Int)), vs = [.ref p, .ref b] ∧ H p = some (.ins CT dx []) ∧ TR H b ll ∧ ll.length ≤ 40 ∧ GoodT ll ∧
  ∀ H' : Hp, H' p = some (.ins CT dx (cf (.ref b))) → (∀ c o, c ≠ p → H c = some o → H' c = some o) → Q .non H'
theorem good_prefix {ll : List (List Int)} (g : GoodT ll) {i : Nat} {l : List Int} (h : ll[i]? = some l) : Ok (ll.take i) l := by
  have lt := (List.getElem?_eq_some_iff.mp h).1
  have e : ll = ll.take i ++ (l :: ll.drop (i + 1)) := by
    have e1 : ll.drop i = l :: ll.drop (i + 1) := by
      rw [List.drop_eq_getElem_cons lt]
      congr 1
      exact (List.getElem?_eq_some_iff.mp h).2
    rw [← e1, List.take_append_drop]
  have g' : Gd [] (ll.take i ++ (l :: ll.drop (i + 1))) := e ▸ g
  have := (gd_app.mp g').2
  rw [List.nil_append] at this
  exact this.1
theorem cut_to {xs : List V} {i : Nat} (h : i ≤ xs.length) : cutV xs none (some (i : Int)) = xs.take i := by
  unfold cutV
  rw [HT.sIx_none, HT.sIx_nat, List.drop_zero, Nat.sub_zero, Nat.min_eq_left h]
theorem sl_rd {K : PySem.W.Frag} {H : Hp} {Q : VK} {a : Addr} {xs : List V} {lo hi : Option Int} (ha : Rd H a (.tup xs)) (k : ∀ (p : Addr) (H' : Hp), Ext H H' → Rd H' p (.tup (cutV xs lo hi)) → Q (.ref p) H') : rSlA K (.ref a) lo hi H Q := by
  refine ⟨a, xs, rfl, .inl ha, fun z => k a H Ext.rfl' ?_, fun _ p np => k p _ (Ext.upd np) (.inl upd_same)⟩
  unfold cutV
  rw [z.1, z.2, List.drop_zero, Nat.sub_zero, List.take_of_length_le (Nat.le_refl _)]
  exact ha
theorem in_TR {K : PySem.W.Frag} {H : Hp} {c q : Addr} {l : List Int} {ll : List (List Int)} {Q : VK} (h : H c = some (.tup (l.map V.int))) (tt : TR H q ll) (k : Q (.bl (decide (l ∈ ll))) H) : rInT K (.ref c) (.ref q) H Q :=
  ⟨tI l, ll.map tI, dp_tI h, tt.dp, shaped_tI l, shaped_dT ll, by rw [any_tI]; exact k⟩
theorem th_ints {K : PySem.W.Frag} {H : Hp} {n : Nat} {c : Addr} {l : List Int} (h : H c = some (.tup (l.map V.int))) : Th K H n (.ref c) := by
  cases n with
  | zero => exact Th.tup0 h
  | succ n =>
    refine Th.tup h fun y hy => ?_
    obtain ⟨i, _, rfl⟩ := List.mem_map.mp hy
    exact Th.int i
theorem TR.take {H : Hp} {q : Addr} {as : List Addr} {ll : List (List Int)} {i : Nat} (h : Rd H q (.tup ((as.map V.ref).take i))) (pt : PT2 H as ll) : TR H q (ll.take i) := ⟨as.take i, by rw [List.map_take]; exact h, p_take i pt⟩
theorem all_true {n : Nat} : ((List.range n).map fun _ => true).all id = true := List.all_eq_true.mpr fun b hb => by
  obtain ⟨_, _, rfl⟩ := List.mem_map.mp hb
  rfl
section
variable {P : Program} {w : World} {K : PySem.W.Frag} {mg : Str → Option Value} {base : Heap}
theorem ok_towG {f CT : Addr} {fd : FuncData} (F : L2.Fun K "__init__" "Tower.__init__" sTowI f fd) (T : Gb mg) (M : TowC mg) (W : TowK K mg CT)
    (cC : Cal P w K mg base 4 "is_cell" (spCell K) []) (cF : Cal P w K mg base 1 "faces" spFaces []) : FnOk P w K mg base CX0 5 f fd ["self", "cells"] (spTowG CT) := by
  obtain ⟨t40, h40⟩ := M.mc
  refine F.ok scTowI (fun vs H Q E h => ?_) (fun cdv A outer s H vs Q E hr h => ?_)
  · obtain ⟨p, dx, b, ll, rfl, _⟩ := h
    rfl
  · obtain ⟨p, dx, b, ll, rfl, hp, ⟨as, hb, pt⟩, l40, gd, kQ⟩ := h
    have la : as.length = ll.length := Paired.length pt
    have kt := kit_ty (K := K) (show kitB "tuple" "tuple" = some true by decide +kernel)
    have ty : TyX K H (.ref b) (.type "tuple") := by
      rcases hb with h | ⟨o, h⟩
      · exact .base (.tup h)
      · exact .fTuple h
    refine ⟨_, pss_cons (ps_if (PW.pt (pw_or (pt_not (pt_val (pe_callB call_isi (by rfl) T.isi (by decide +kernel) (pa_cons (pv 1) (pa_cons (pe_bltn (v := .ty "tuple") (by rfl) T.tup (by decide +kernel) rfl) pa_nil))))) (pw_or1 (pt_cmpR op_gt (pe_callB call_len_seq (by rfl) T.len PySem.boot_len (pa_cons (pv 1) pa_nil)) (pe_glob (v := .int 40) rfl h40 ⟨_, rfl⟩) (nomark _))))) (pss_one ps_never) pss_nil)
      (pss_cons (ps_for PassesOwn.never rfl (pi_en (by rfl) T.enum (pa_cons (pv 1) pa_nil)) (pg_tup rfl (pgs_cons (pg_name (i := 2) scTowI.nd rfl (Or.inr rfl)) (pgs_cons (pg_name (i := 3) scTowI.nd rfl (Or.inl rfl)) pgs_nil)))
      (pss_cons (ps_if (PW.pt (pw_or (pt_not (pt_val (C8.pe_c cC hr (by decide) (by rfl) (pa_cons (pv 3) pa_nil)))) (pw_or1 (pt_cmpR (op_inT (u65 hr)) (pv 3) (pe_slice sl_tupA (pv 1) po_none (po_some (pv 2))) (by rfl))))) (pss_one ps_never) pss_nil)
      (pss_one (ps_if (pt_not (pt_val (pe_callB (cr_all rfl) (by rfl) T.all (by decide +kernel) (pa_cons (pe_lc (own := [("face", 4)]) (g := gName 4) (tt := tYes) rfl scTowI.nd (pi_list (C8.pe_c cF hr (by decide) (by rfl) (pa_cons (pv 3) pa_nil))) (blkOk_by (N := towN) (sc := defScope sTowI) (by decide +kernel)) (fun _ _ _ _ _ => (pg_name (i := 4) scTowI.nd rfl (Or.inl rfl))) (fun _ _ _ _ _ => pts_nil) (fun _ _ _ _ _ => (pe_cmpR (r := rInT K) (op_inT (u65 hr)) (pv 4) (pe_slice (r := rSlA K) sl_tupA (pv 1) po_none (po_some (pv 2))) (by rfl)))) pa_nil)))) (pss_one ps_never) pss_nil))))
      (pss_one (ps_fld (pv 0) (pv 1) rfl))), ?_⟩
    refine ⟨_, rfl, .ref b, .ty "tuple", _, .type "tuple", _, rfl, .ty _, ty, kt, _, rfl, ?_⟩
    refine iteF ⟨_, rfl, b, _, rfl, .inr (.inl hb), _, _, rfl, rfl, _, rfl, ?_⟩
    refine ite2 (fun z => ?_) (fun _ => ?_)
    · have := of_decide_eq_true z
      rw [List.length_map] at this
      omega
    refine ⟨_, rfl, b, _, rfl, hb, for_en (a := b) (xs := as.map V.ref) (fun i σ' J => (∃ u v, σ' = [some (.ref p), some (.ref b), u, v, Option.none]) ∧ Ext H J) ⟨⟨_, _, rfl⟩, Ext.rfl'⟩ (fun i σ' J h => rd_ext h.2 hb) ?_ ?_⟩
    · rintro i z σ' J q hz ⟨⟨u, v, rfl⟩, e2⟩ nq
      obtain ⟨c, hc, rfl⟩ := ref_get hz
      obtain ⟨l, hl, hcl⟩ := pt.get hc
      have e3 : Ext H (upd J q (.tup [.int (i : Nat), .ref c])) := e2.trans (Ext.upd nq)
      have okl := good_prefix gd hl
      have hi := (List.getElem?_eq_some_iff.mp hz).1
      refine ⟨q, _, rfl, SqT.of upd_same, rfl, _, _, rfl, _, _, rfl, rfl, ?_⟩
      generalize upd J q (.tup [.int (i : Nat), .ref c]) = J1 at *
      have hcl1 := e3 _ _ hcl
      refine ⟨_, rfl, .ref c, rfl, th_ints hcl1, (fun c' xs e h => by cases e; rw [hcl1] at h; cases h; rw [List.length_map]; exact Nat.le_trans okl.1.2.1 (by decide)), fun bb J2 hbb e4 => ⟨_, rfl, ?_⟩⟩
      have bt : bb = true := hbb.mpr ⟨c, l, rfl, hcl1, okl.1⟩
      subst bt
      refine iteF ⟨_, rfl, _, rfl, _, rfl, (i : Int), rfl, ?_⟩
      have e34 := e3.trans e4
      refine sl_rd (K := K) (lo := Option.none) (hi := some (i : Int)) (rd_ext e34 hb) fun q1 J3 e5 hq1 => ?_
      rw [cut_to (Nat.le_of_lt hi)] at hq1
      have e35 := e34.trans e5
      have pt3 : PT2 J3 as ll := PT2.mono (fun _ _ z => e35 _ _ z) pt
      refine in_TR (e35 _ _ hcl) (TR.take hq1 pt3) ⟨_, rfl, ?_⟩
      refine ite2 (fun y => absurd (of_decide_eq_true y) okl.2.1) (fun _ => ?_)
      refine ⟨_, rfl, c, l, rfl, e35 _ _ hcl, okl.1.1, okl.1.2.1, fun fl fs J4 e6 hf pf => ⟨fl, rfl, ⟨_, SqL.of hf⟩, fun D nD => ?_⟩⟩
      have lf : (fs.map V.ref).length ≤ 1000 := by
        rw [List.length_map, show fs.length = _ from Paired.length pf]
        unfold facesL
        split
        · decide
        · rw [List.length_map, List.length_range]; exact Nat.le_trans okl.1.2.1 (by decide)
      refine lc_gen (n := (fs.map V.ref).length) (p := fun _ => true) walk_list nD lf (fun _ y _ => y = V.bl true) (fun _ _ _ _ _ z => z) (fun H' e => SqL.of (e _ _ hf)) ?_ ?_
      · rintro j u J5 J5' R N hj e7 ⟨rfl, hu⟩ hR hN
        obtain ⟨g, hg, rfl⟩ := ref_get hu
        obtain ⟨f1, hf1, hgf⟩ := pf.get hg
        have e47 := (e35.trans e6).trans e7
        refine ⟨rfl, tyes_in ⟨_, rfl, _, rfl, _, rfl, (i : Int), rfl, ?_⟩⟩
        refine sl_rd (K := K) (lo := Option.none) (hi := some (i : Int)) (rd_ext e47 hb) fun q2 J6 e8 hq2 => ?_
        rw [cut_to (Nat.le_of_lt hi)] at hq2
        refine in_TR (e8 _ _ (e7 _ _ hgf)) (TR.take hq2 (PT2.mono (fun _ _ z => (e47.trans e8) _ _ z) pt)) ?_
        rw [decide_eq_true (okl.2.2 f1 (List.mem_of_getElem? hf1))]
        exact hR rfl _ _ e8 rfl
      intro ys J5 e7 hD pp
      have ey := flags_of (t := fun _ => true) pp
      subst ey
      refine ⟨D, _, rfl, SqL.of hD, true, congrArg V.bl all_true, ?_⟩
      exact iteF ⟨⟨_, _, rfl⟩, (e35.trans e6).trans e7⟩
    · rintro σ' J ⟨⟨u, v, rfl⟩, e2⟩
      refine ⟨_, rfl, _, rfl, p, CT, dx, [], rfl, e2 _ _ hp, W.cl, W.nC, (by show 0 < 1000; decide), ?_⟩
      refine kQ _ ?_ (fun c o nc eo => ?_)
      · rw [upd_same]
        rfl
      · rw [upd_ne nc]
        exact e2 _ _ eo
end
end L40

set_option Elab.async false
set_option linter.all false
set_option maxRecDepth 100000
set_option maxHeartbeats 4000000
set_option pp.maxSteps 100
/-! Primes judged; the bars of a tower. -/
namespace L40
open PySem L2 M40
abbrev sPrime : Stmt := top 4
abbrev sBars : Stmt := top 27
def primeV : V → Bool
  | .int i => decide (i ∈ [2, 3, 5, 7, 11, 13])
  | _ => false
theorem primeV_true {x : V} : primeV x = true ↔ ∃ p, x = .int p ∧ Pr p := by
  cases x <;> simp [primeV, Pr, Prm]
theorem primeV_int {x : V} (h : isI x = false) : primeV x = false := by
  cases x <;> first | rfl | cases h
theorem in_primes (i : Int) : inV (.int i) [.int 2, .int 3, .int 5, .int 7, .int 11, .int 13] = decide (i ∈ [2, 3, 5, 7, 11, 13]) := by
  unfold inV
  by_cases h : i ∈ [2, 3, 5, 7, 11, 13]
  · rw [decide_eq_true h]
    simp only [List.mem_cons, List.not_mem_nil, or_false] at h
    rcases h with rfl | rfl | rfl | rfl | rfl | rfl <;> rfl
  · rw [decide_eq_false h]
    simp only [List.mem_cons, List.not_mem_nil, or_false, not_or] at h
    obtain ⟨h1, h2, h3, h4, h5, h6⟩ := h
    have e : ∀ n : Int, i ≠ n → eqV (.int n) (.int i) = false := fun n hn => beq_eq_false_iff_ne.mpr fun z => hn z.symm
    simp only [List.any_cons, List.any_nil, e _ h1, e _ h2, e _ h3, e _ h4, e _ h5, e _ h6, Bool.or_false]
def spPrime (K : PySem.W.Frag) : Sp := fun vs H Q _ => ∃ x : V, vs = [x] ∧ Th K H 0 x ∧ Q (.bl (primeV x)) H
structure PrimC (K : PySem.W.Frag) (mg : Str → Option Value) : Prop where
  pr : ∃ aP, mg "PRIMES" = some (.ref aP) ∧ ∀ H, SqT K H aP [.int 2, .int 3, .int 5, .int 7, .int 11, .int 13]
/-- all but these stays -/
def GoS (ks : List Addr) (H H' : Hp) : Prop := ∀ b o, b ∉ ks → H b = some o → H' b = some o
theorem GoS.of {ks : List Addr} {H H' : Hp} (e : Ext H H') : GoS ks H H' := fun b o _ h => e b o h
theorem GoS.trans {ks : List Addr} {H H1 H2 : Hp} (x : GoS ks H H1) (y : GoS ks H1 H2) : GoS ks H H2 := fun b o n h => y b o n (x b o n h)
theorem GoS.put {ks : List Addr} {k : Addr} {H : Hp} {o : HO} (h : k ∈ ks) : GoS ks H (upd H k o) := fun b u n hb => by rw [upd_ne fun z => n (by rw [z]; exact h)]; exact hb
theorem GoS.ofD {ks : List Addr} {k : Addr} {H H' : Hp} (h : k ∈ ks) (g : GoD k H H') : GoS ks H H' := fun b u n hb => g b u (fun z => n (by rw [z]; exact h)) hb
abbrev nv (n : Nat) : V := .int (n : Int)
def gV : Option Nat → V
  | none => .non
  | some j => .int (j : Int)
/-- a bar stands there -/
def BarIs (H : Hp) (x : V) (g : Nat × Option Nat) : Prop := ∃ q : Addr, x = .ref q ∧ H q = some (.tup [.int (g.1 : Int), gV g.2])
theorem BarIs.mono {H H' : Hp} {x : V} {g : Nat × Option Nat} (e : TExt H H') (h : BarIs H x g) : BarIs H' x g := let ⟨q, h1, h2⟩ := h; ⟨q, h1, e _ _ h2⟩
noncomputable def bornB (p : Int) (ll : List (List Int)) (d b : Nat) : Bool := @decide (szD ll b = d + 1 ∧ Born p ll.length (rimD p ll) b) (Classical.propDecidable _)
theorem bornB_iff {p : Int} {ll : List (List Int)} {d b : Nat} : bornB p ll d b = true ↔ szD ll b = d + 1 ∧ Born p ll.length (rimD p ll) b := by
  unfold bornB
  exact @decide_eq_true_iff _ (Classical.propDecidable _)
/-- those of the first n cells that are born, of one size -/
noncomputable def bornL (p : Int) (ll : List (List Int)) (d n : Nat) : List Nat := (List.range n).filter (bornB p ll d)
theorem bornL_yes {p : Int} {ll : List (List Int)} {d n : Nat} (h : szD ll n = d + 1 ∧ Born p ll.length (rimD p ll) n) : bornL p ll d (n + 1) = bornL p ll d n ++ [n] := by
  unfold bornL
  rw [List.range_succ, List.filter_append, List.filter_cons, if_pos (bornB_iff.mpr h)]
  rfl
theorem bornL_no {p : Int} {ll : List (List Int)} {d n : Nat} (h : ¬ (szD ll n = d + 1 ∧ Born p ll.length (rimD p ll) n)) : bornL p ll d (n + 1) = bornL p ll d n := by
  unfold bornL
  rw [List.range_succ, List.filter_append, List.filter_cons, if_neg fun z => h (bornB_iff.mp z)]
  exact List.append_nil _
theorem bornL_len (p : Int) (ll : List (List Int)) (d n : Nat) : (bornL p ll d n).length ≤ n := by
  have := List.length_filter_le (bornB p ll d) (List.range n)
  rw [List.length_range] at this
  exact this
/-- what the bars of a tower are -/
structure BarsOf (p : Int) (ll : List (List Int)) (d : Nat) (L : List (Nat × Option Nat)) : Prop where
  fst : L.map Prod.fst = bornL p ll d ll.length
  yes : ∀ x ∈ L, ∀ j, x.2 = some j → j < ll.length ∧ M40.Low p ll.length (rimD p ll) j x.1
  no : ∀ x ∈ L, x.2 = none → ∀ j, j < ll.length → ¬ M40.Low p ll.length (rimD p ll) j x.1
  cas : ∀ j, j < ll.length → Born p ll.length (rimD p ll) j ∨ ∃ b, M40.Low p ll.length (rimD p ll) j b
theorem bars_uniq {p : Int} {ll : List (List Int)} (R : Rims p ll.length (szD ll) (rimD p ll)) {L L' : List (Nat × Option Nat)} : L.map Prod.fst = L'.map Prod.fst → (∀ x ∈ L, ∀ j, x.2 = some j → j < ll.length ∧ M40.Low p ll.length (rimD p ll) j x.1) → (∀ x ∈ L, x.2 = none → ∀ j, j < ll.length → ¬ M40.Low p ll.length (rimD p ll) j x.1) →
    (∀ x ∈ L', ∀ j, x.2 = some j → j < ll.length ∧ M40.Low p ll.length (rimD p ll) j x.1) → (∀ x ∈ L', x.2 = none → ∀ j, j < ll.length → ¬ M40.Low p ll.length (rimD p ll) j x.1) → L = L' := by
  induction L generalizing L' with
  | nil =>
    intro h _ _ _ _
    cases L' with
    | nil => rfl
    | cons y L' => cases h
  | cons x L ih =>
    intro h y1 n1 y2 n2
    cases L' with
    | nil => cases h
    | cons y L' =>
      rw [List.map_cons, List.map_cons] at h
      injection h with h1 h2
      rw [ih h2 (fun z hz => y1 z (List.mem_cons_of_mem _ hz)) (fun z hz => n1 z (List.mem_cons_of_mem _ hz)) (fun z hz => y2 z (List.mem_cons_of_mem _ hz)) (fun z hz => n2 z (List.mem_cons_of_mem _ hz))]
      congr 1
      obtain ⟨b, g⟩ := x
      obtain ⟨b', g'⟩ := y
      cases h1
      congr 1
      have a1 := y1 _ List.mem_cons_self
      have a2 := n1 _ List.mem_cons_self
      have a3 := y2 _ List.mem_cons_self
      have a4 := n2 _ List.mem_cons_self
      dsimp only at a1 a2 a3 a4
      cases g with
      | none =>
        cases g' with
        | none => rfl
        | some j =>
          obtain ⟨hj, lo⟩ := a3 j rfl
          exact absurd lo (a2 rfl j hj)
      | some i =>
        obtain ⟨hi, li⟩ := a1 i rfl
        cases g' with
        | none => exact absurd li (a4 rfl i hi)
        | some j =>
          obtain ⟨hj, lo⟩ := a3 j rfl
          rcases Nat.lt_trichotomy i j with l | e | l
          · exact (R.once hj l li lo).elim
          · rw [e]
          · exact (R.once hi l lo li).elim
theorem BarsOf.uniq {p : Int} {ll : List (List Int)} (R : Rims p ll.length (szD ll) (rimD p ll)) {d : Nat} {L L' : List (Nat × Option Nat)} (h : BarsOf p ll d L) (h' : BarsOf p ll d L') : L = L' := bars_uniq R (h.fst.trans h'.fst.symm) h.yes h.no h'.yes h'.no
/-- a dict that tells who takes away what is born -/
def GoneD (p : Int) (ll : List (List Int)) (H : Hp) (g : Addr) (i : Nat) : Prop := ∃ kvs : List (Key × V), H g = some (.dK kvs) ∧ kvs.length ≤ i ∧ ∀ b : Nat, (∀ v, valV kvs (.inl (b : Int)) = some v → ∃ j, j < i ∧ v = .int ((j : Nat) : Int) ∧ M40.Low p ll.length (rimD p ll) j b) ∧ (valV kvs (.inl (b : Int)) = none → ∀ j, j < i → ¬ M40.Low p ll.length (rimD p ll) j b)
def goneOf (kvs : List (Key × V)) (b : Nat) : Option Nat := match valV kvs (.inl (b : Int)) with
  | some (.int j) => some j.toNat
  | _ => none
theorem paired_got {α β : Type} {R : α → β → Prop} {l : List α} {k : List β} (h : Paired R l k) : ∀ {i : Nat} {b : β}, k[i]? = some b → ∃ a, l[i]? = some a ∧ R a b := by
  induction h with
  | nil => intro i a e; cases e
  | cons r t ih =>
    intro i a e
    cases i with
    | zero =>
      cases e
      exact ⟨_, rfl, r⟩
    | succ i => exact ih e
theorem two_of_got {α β : Type} {R : α → β → Prop} : ∀ {l : List α} {k : List β}, l.length = k.length → (∀ (i : Nat) (a : α), l[i]? = some a → ∃ b : β, k[i]? = some b ∧ R a b) → Two R l k
  | [], [], _, _ => .nil
  | [], _ :: _, e, _ => by cases e
  | _ :: _, [], e, _ => by cases e
  | a :: l, b :: k, e, h => by
    obtain ⟨b', e1, r⟩ := h 0 a rfl
    cases e1
    exact .cons r (two_of_got (by simpa using e) fun i a' ha => h (i + 1) a' ha)
theorem tw_of {ll : List (List Int)} (g : GoodT ll) : Tw ll := by
  have at' : ∀ {i : Nat} {l : List Int}, ll[i]? = some l → Ok (ll.take i) l := fun h => good_prefix g h
  refine ⟨?_, fun c hc => ?_, fun c hc => ?_, fun j c h f hf => (at' h).2.2 f hf⟩
  · refine List.pairwise_iff_getElem.mpr fun i j hi hj lt e => ?_
    refine (at' (List.getElem?_eq_getElem hj)).2.1 (List.mem_iff_getElem.mpr ⟨i, by rw [List.length_take]; omega, ?_⟩)
    rw [List.getElem_take]
    exact e
  · obtain ⟨i, hi⟩ := List.getElem?_of_mem hc
    exact ⟨(at' hi).1.1, (at' hi).1.2.1⟩
  · obtain ⟨i, hi⟩ := List.getElem?_of_mem hc
    exact (at' hi).1.2.2.2.imp fun h => Int.ne_of_lt h
def spBars (CT : Addr) : Sp := fun vs H Q _ => ∃ (p b : Addr) (ll : List (List Int)) (pr : Int) (d : Nat), vs = [.ref p, .int pr, .int (d : Int)] ∧ TowAt CT H p b ∧ TR H b ll ∧ Bare H b ∧ GoodT ll ∧ ll.length ≤ 40 ∧ Pr pr ∧ d ≤ 3 ∧
  ∀ (t : Addr) (xs : List V) (L : List (Nat × Option Nat)) (H' : Hp), Ext H H' → H' t = some (.tup xs) → Two (BarIs H') xs L → BarsOf pr ll d L → Q (.ref t) H'
section
variable {P : Program} {w : World} {K : PySem.W.Frag} {mg : Str → Option Value} {base : Heap}
theorem scPrime : FnScope ["thing"] ["thing"] (defScope sPrime) := ⟨rfl, rfl, rfl, by decide +kernel, rfl, by decide +kernel, by decide +kernel⟩
theorem ok_prime {f : Addr} {fd : FuncData} (F : L2.Fun K "is_prime" "is_prime" sPrime f fd) (D : PrimC K mg) (cI : Cal P w K mg base 1 "is_integer" (spInteger K) []) : FnOk P w K mg base CX0 2 f fd ["thing"] (spPrime K) := by
  obtain ⟨aP, hP, sq⟩ := D.pr
  refine F.ok scPrime (fun vs H Q E h => ?_) (fun cdv A outer s H vs Q E hr h => ?_)
  · obtain ⟨x, rfl, _⟩ := h
    rfl
  · obtain ⟨x, rfl, th, k⟩ := h
    refine ⟨_, pss_one (ps_ret (pe_and (C8.pe_c cI hr (by decide) (by rfl) (pa_cons (pv 0) pa_nil)) (pe_one (pe_cmpR op_in_seq (pv 0) (pe_glob (v := .ref aP) rfl hP rfl) (by rfl))))), ?_⟩
    refine ⟨_, rfl, _, rfl, th, _, rfl, ?_⟩
    cases hx : isI x with
    | false =>
      rw [primeV_int hx] at k
      exact iteF k
    | true =>
      cases x with
      | int i => exact iteT ⟨_, rfl, aP, _, rfl, .inr (sq H), rfl, rfl, by rw [in_primes]; exact k⟩
      | _ => cases hx
abbrev barsN : List Str := ["tower", "prime", "deep", "born", "gone", "kept", "at", "cell", "place"]
theorem scBars : FnScope barsN ["tower", "prime", "deep"] (defScope sBars) := ⟨rfl, rfl, rfl, by decide +kernel, rfl, by decide +kernel, by decide +kernel⟩
theorem ok_bars {f CT : Addr} {fd : FuncData} (F : L2.Fun K "tower_bars" "tower_bars" sBars f fd) (T : Gb mg) (W : TowK K mg CT) (M3 : ∃ t, mg "MOST_DEEP" = some (.int 3 t))
    (cP : Cal P w K mg base 2 "is_prime" (spPrime K) []) (cN : Cal P w K mg base 2 "is_number" (spNumber K) []) (cK : Cal P w K mg base 3 "keep" spKeep []) (cR : Cal P w K mg base 2 "rim_row" spRim []) : FnOk P w K mg base CX0 4 f fd ["tower", "prime", "deep"] (spBars CT) := by
  obtain ⟨t3, h3⟩ := M3
  refine F.ok scBars (fun vs H Q E h => ?_) (fun cdv A outer s H vs Q E hr h => ?_)
  · obtain ⟨p, b, ll, x, y, rfl, _⟩ := h
    rfl
  · obtain ⟨p, b, ll, pr, d, rfl, ⟨dx, hp⟩, ⟨as, hb, pt⟩, bare, gd, l40, hpr, d3, k⟩ := h
    have hu1 := hu_of hr
    have la : as.length = ll.length := Paired.length pt
    have tw := tw_of gd
    have RM := tw.rims hpr
    refine ⟨_, pss_cons (ps_if (pt_not (pt_val (C8.pe_c cP hr (by decide) (by rfl) (pa_cons (pv 1) pa_nil)))) (pss_one ps_never) pss_nil)
      (pss_cons (ps_if (pt_not (pt_val (C8.pe_c cN hr (by decide) (by rfl) (pa_cons (pe_glob (v := .int 3) rfl h3 ⟨_, rfl⟩) (pa_cons (pv 2) pa_nil))))) (pss_one ps_never) pss_nil)
      (pss_cons (ps_set (i := 3) scBars.nd rfl (Or.inl rfl) (pe_lst pa_nil))
      (pss_cons (ps_set (i := 4) scBars.nd rfl (Or.inr rfl) pe_dnewK)
      (pss_cons (ps_set (i := 5) scBars.nd rfl (Or.inl rfl) pe_dnewK)
      (pss_cons (ps_for PassesOwn.never rfl (pi_en (by rfl) T.enum (pa_cons (pe_fld (pv 0) rfl) pa_nil)) (pg_tup rfl (pgs_cons (pg_name (i := 6) scBars.nd rfl (Or.inl rfl)) (pgs_cons (pg_name (i := 7) scBars.nd rfl (Or.inl rfl)) pgs_nil)))
      (pss_cons (ps_set (i := 8) scBars.nd rfl (Or.inl rfl) (C8.pe_c cK hr (by decide) (by rfl) (pa_cons (pv 1) (pa_cons (C8.pe_c cR hr (by decide) (by rfl) (pa_cons (pe_fld (pv 0) rfl) (pa_cons (pv 1) (pa_cons (pv 7) pa_nil)))) (pa_cons (pv 5) pa_nil)))))
      (pss_one (ps_if (pt_cmpR op_notN (pv 8) pe_non (nomark _)) (pss_one (ps_dput hu1 (pv 4) (pe_op op_sub (pe_op op_sub (pe_callB call_len_seq (by rfl) T.len PySem.boot_len (pa_cons (pe_fld (pv 0) rfl) pa_nil)) pe_int) (pv 8)) (pv 6) rfl)) (pss_one (ps_if (pt_cmpR op_eq (pe_callB call_len_seq (by rfl) T.len PySem.boot_len (pa_cons (pv 7) pa_nil)) (pe_op op_add (pv 2) pe_int) (nomark _)) (pss_one (ps_expr (pe_bm PySem.F.plainAttrs_list PySem.F.slot_list_append PySem.F.type_list_append mt_append (pv 3) (pa_cons (pv 6) pa_nil)))) pss_nil))))))
      (pss_one (ps_ret (pe_callTy call_tuple_of (by rfl) T.tup (by decide +kernel) (pa_cons (pe_lc (own := [("at", 6)]) (g := gName 6) (tt := tYes) rfl scBars.nd (pi_list (pv 3)) (blkOk_by (N := barsN) (sc := defScope sBars) (by decide +kernel)) (fun _ _ _ _ _ => (pg_name (i := 6) scBars.nd rfl (Or.inl rfl))) (fun _ _ _ _ _ => pts_nil) (fun _ _ _ _ _ => (pe_tup (pa_cons (pv 6) (pa_cons (pe_dget1 hu1 (pv 4) (pv 6) ⟨rfl, rfl, rfl, rfl⟩) pa_nil))))) pa_nil))))))))), ?_⟩
    have e1 : primeV (.int pr) = true := primeV_true.mpr ⟨pr, rfl, hpr⟩
    have e2 : numV 3 (.int (d : Int)) = true := numV_true.mpr ⟨(d : Int), rfl, by omega, by omega⟩
    refine ⟨_, rfl, .int pr, rfl, Th.int pr, _, rfl, ?_⟩
    rw [e1]
    refine iteF ⟨_, rfl, 3, .int (d : Int), rfl, Th.int _, _, rfl, ?_⟩
    rw [e2]
    refine iteF ⟨Nat.zero_le _, fun bo nbo go ngo kd nkd => ?_⟩
    have x1 := Ext.upd (o := .lst []) nbo
    have x2 := Ext.upd (o := .dK []) ngo
    have x3 := Ext.upd (o := .dK []) nkd
    have x13 := x1.trans (x2.trans x3)
    have hbo : (upd (upd (upd H bo (.lst [])) go (.dK [])) kd (.dK [])) bo = some (.lst ((bornL pr ll d 0).map nv)) := x3 _ _ (x2 _ _ upd_same)
    have hgo : (upd (upd (upd H bo (.lst [])) go (.dK [])) kd (.dK [])) go = some (.dK []) := x3 _ _ upd_same
    have hkd : (upd (upd (upd H bo (.lst [])) go (.dK [])) kd (.dK [])) kd = some (.dK []) := upd_same
    have nbg : bo ≠ go := ne_of_none (show (upd H bo (.lst [])) bo = some (.lst []) from upd_same) ngo
    have nbk : bo ≠ kd := ne_of_none (x2 _ _ (show (upd H bo (.lst [])) bo = some (.lst []) from upd_same)) nkd
    have ngk : go ≠ kd := ne_of_none (show (upd (upd H bo (.lst [])) go (.dK [])) go = some (.dK []) from upd_same) nkd
    have fb : ∀ q o, H q = some o → q ∉ [bo, go, kd] := fun q o h => by
      have h1 := ne_of_none h nbo
      have h2 := ne_of_none (x1 _ _ h) ngo
      have h3 := ne_of_none (x2 _ _ (x1 _ _ h)) nkd
      simp only [List.mem_cons, List.not_mem_nil, or_false, not_or]
      exact ⟨h1, h2, h3⟩
    generalize upd (upd (upd H bo (.lst [])) go (.dK [])) kd (.dK []) = H1 at *
    have keep : ∀ {J : Hp}, GoS [bo, go, kd] H1 J → ∀ q o, H q = some o → J q = some o := fun {J} g q o h => g q o (fb q o h) (x13 _ _ h)
    have rdJ : ∀ {J : Hp}, GoS [bo, go, kd] H1 J → Rd J b (.tup (as.map V.ref)) := fun {J} g => by
      rcases hb with h | ⟨o, h⟩
      · exact .inl (keep g _ _ h)
      · exact .inr ⟨o, keep g _ _ h⟩
    have extJ : ∀ {J : Hp}, GoS [bo, go, kd] H1 J → Ext H J := fun {J} g q o h => keep g q o h
    have mk : kd ∈ [bo, go, kd] := by simp
    have mg' : go ∈ [bo, go, kd] := by simp
    have mb : bo ∈ [bo, go, kd] := by simp
    refine ⟨_, rfl, p, CT, dx, _, _, rfl, x13 _ _ hp, W.cl, W.nC, cf_cells _, b, _, rfl, rd_ext x13 hb, for_en (a := b) (xs := as.map V.ref) (fun i σ' J => ∃ (v6 v7 v8 : Option V) (ks : List (Nat × Vc)), σ' = [some (.ref p), some (.int pr), some (.int (d : Int)), some (.ref bo), some (.ref go), some (.ref kd), v6, v7, v8] ∧ GoS [bo, go, kd] H1 J ∧ J bo = some (.lst ((bornL pr ll d i).map nv)) ∧ GoneD pr ll J go i ∧ KeptV pr ll.length bo J kd ks ∧ ks.length ≤ i ∧ Keeps pr ll.length (fun j => rev ll.length (rimD pr ll j)) i ks ∧ ∀ j, j < i → Born pr ll.length (rimD pr ll) j ∨ ∃ b, M40.Low pr ll.length (rimD pr ll) j b)
      ⟨_, _, _, [], rfl, (fun _ _ _ h => h), hbo, ⟨[], hgo, Nat.le_refl _, fun b => ⟨fun v h => (nomatch h), fun _ j h => absurd h (Nat.not_lt_zero j)⟩⟩, ⟨[], hkd, .nil⟩, Nat.le_refl _, Keeps.nil, fun j h => absurd h (Nat.not_lt_zero j)⟩ (fun i σ' J ⟨_, _, _, _, _, h, _⟩ => rdJ h) ?_ ?_⟩
    · rintro i z σ' J q hz ⟨v6, v7, v8, ks, rfl, g, hbs, gd', kt, lk, kps, cas⟩ nq
      obtain ⟨c, hc, rfl⟩ := ref_get hz
      obtain ⟨l, hl, hcl⟩ := pt.get hc
      have okl := good_prefix gd hl
      have fl : ∀ f ∈ facesL l, f ∈ ll := fun f hf => List.mem_of_mem_take (okl.2.2 f hf)
      have et := Ext.upd (o := .tup [V.int (i : Nat), .ref c]) nq
      have il : i < ll.length := (List.getElem?_eq_some_iff.mp hl).1
      have eD : rev ll.length (rimD pr ll i) = rimV pr ll (facesL l) := by
        unfold rimV rimD
        rw [getD_of hl]
        rfl
      have esz : szD ll i = l.length := by
        unfold szD
        rw [getD_of hl]
      refine ⟨q, _, rfl, SqT.of upd_same, rfl, _, _, rfl, _, _, rfl, rfl, ?_⟩
      have g1 := g.trans (GoS.of et)
      have hbs1 := et _ _ hbs
      have gd1 : GoneD pr ll (upd J q (.tup [V.int (i : Nat), .ref c])) go i := let ⟨kvs, h1, h2, h3⟩ := gd'; ⟨kvs, et _ _ h1, h2, h3⟩
      have kt1 : KeptV pr ll.length bo (upd J q (.tup [V.int (i : Nat), .ref c])) kd ks := let ⟨kvs, h1, h2⟩ := kt; ⟨kvs, et _ _ h1, h2.imp fun _ _ h => h.mono fun l v h => h.ext et⟩
      generalize upd J q (.tup [V.int (i : Nat), .ref c]) = J1 at *
      have tr1 : TR J1 b ll := ⟨as, rdJ g1, PT2.mono (fun _ _ z => extJ g1 _ _ z) pt⟩
      refine ⟨_, rfl, _, rfl, p, CT, dx, _, _, rfl, extJ g1 _ _ hp, W.cl, W.nC, cf_cells _, _, rfl, _, rfl, b, c, l, ll, pr, rfl, tr1, bare.ext (extJ g1), extJ g1 _ _ hcl, okl.1.1, okl.1.2.1, fl, tw.nd, fcs_nd (tw.dis l (List.mem_of_getElem? hl)) okl.1.1 okl.1.2.1, hpr, by omega, fun row J2 e2 hrow => ?_⟩
      have g2 := g1.trans (GoS.of e2)
      have kt2 : KeptV pr ll.length bo J2 kd ks := let ⟨kvs, h1, h2⟩ := kt1; ⟨kvs, e2 _ _ h1, h2.imp fun _ _ h => h.mono fun l v h => h.ext e2⟩
      have gd2 : GoneD pr ll J2 go i := let ⟨kvs, h1, h2, h3⟩ := gd1; ⟨kvs, e2 _ _ h1, h2, h3⟩
      have hbs2 := e2 _ _ hbs1
      rw [← eD] at hrow
      refine ⟨_, rfl, pr, ll.length, i, row, kd, bo, fun j => rev ll.length (rimD pr ll j), ks, rfl, hpr, by omega, by omega, hrow, nbk, ⟨_, hbs2⟩, kt2, kps, fun J3 g3 k3 bn kp3 => ?_, fun m ks' J3 mlt g3 k3 lk3 kp3 fst => ?_⟩
      · have bn := born_rev.mp bn
        have g13 := g2.trans (GoS.ofD mk g3)
        have hbs3 := g3 _ _ nbk hbs2
        have gd3 : GoneD pr ll J3 go (i + 1) := by
          obtain ⟨kvs, h1, h2, h3⟩ := gd2
          refine ⟨kvs, g3 _ _ ngk h1, by omega, fun b => ⟨fun v hv => ?_, fun hv j hj lo => ?_⟩⟩
          · obtain ⟨j, a1, a2, a3⟩ := (h3 b).1 v hv
            exact ⟨j, by omega, a2, a3⟩
          · by_cases e : j = i
            · subst e
              exact lo.neg bn
            · exact (h3 b).2 hv j (by omega) lo
        have cas3 : ∀ j, j < i + 1 → Born pr ll.length (rimD pr ll) j ∨ ∃ b, M40.Low pr ll.length (rimD pr ll) j b := fun j hj => by
          by_cases e : j = i
          · subst e
            exact .inl bn
          · exact cas j (by omega)
        refine ⟨_, rfl, rfl, _, rfl, ?_⟩
        refine ite2 (fun z => absurd z (by decide)) (fun _ => ?_)
        refine ⟨_, rfl, c, _, rfl, .inr (SqT.of (extJ g13 _ _ hcl)), _, rfl, _, _, rfl, rfl, rfl, _, rfl, ?_⟩
        have lb := bornL_len pr ll d i
        refine ite2 (fun z => ?_) (fun z => ⟨_, _, _, ks, rfl, g13, ?_, gd3, k3, by omega, kp3, cas3⟩)
        · have z : ((l.length : Nat) : Int) = (d : Int) + 1 := by
            have := of_decide_eq_true z
            injection this with this
            rw [List.length_map] at this
            exact this
          refine ⟨_, rfl, .inl ⟨rfl, _, SqL.of hbs3⟩, _, rfl, bo, _, _, rfl, rfl, hbs3, small1000 (by rw [List.length_map]; omega), ?_⟩
          have put : GoS [bo, go, kd] J3 (upd J3 bo (.lst ((bornL pr ll d i).map nv ++ [.int (i : Nat)]))) := GoS.put mb
          refine ⟨_, _, _, ks, rfl, g13.trans put, ?_, ?_, ?_, by omega, kp3, cas3⟩
          · rw [upd_same, bornL_yes ⟨by omega, bn⟩, List.map_append]
            rfl
          · obtain ⟨kvs, h1, h2, h3⟩ := gd3
            exact ⟨kvs, by rw [upd_ne nbg.symm]; exact h1, h2, h3⟩
          · obtain ⟨kvs, h1, h2⟩ := k3
            refine ⟨kvs, by rw [upd_ne nbk.symm]; exact h1, h2.imp fun kv k' ⟨o, h5, h6, ⟨ns, h7, h8⟩, h9⟩ => ⟨o, h5, h6, ⟨ns, by rw [upd_ne h9]; exact h7, h8⟩, h9⟩⟩
        · rw [bornL_no fun y => z (decide_eq_true ?_)]
          · exact hbs3
          · rw [List.length_map]
            show V.int ((l.length : Nat) : Int) = V.int ((d : Int) + 1)
            rw [show ((l.length : Nat) : Int) = (d : Int) + 1 by have := y.1; omega]
      · have lo := low_rev mlt fst
        have g13 := g2.trans (GoS.ofD mk g3)
        have hbs3 := g3 _ _ nbk hbs2
        obtain ⟨gvs, hg3, lg3, vg3⟩ : GoneD pr ll J3 go i := let ⟨kvs, h1, h2, h3⟩ := gd2; ⟨kvs, g3 _ _ ngk h1, h2, h3⟩
        refine ⟨_, rfl, rfl, _, rfl, ?_⟩
        refine ite2 (fun _ => ?_) (fun z => absurd rfl z)
        refine ⟨_, rfl, _, rfl, _, rfl, p, CT, dx, _, _, rfl, extJ g13 _ _ hp, W.cl, W.nC, cf_cells _, b, _, rfl, .inr (.inl (rdJ g13)), _, _, rfl, rfl, _, rfl, _, _, rfl, rfl, go, _, rfl, DPut.k (k := .inl ((((as.map V.ref).length : Nat) : Int) - 1 - (m : Int))) hg3 (small1000 (by omega)), ?_⟩
        have ek : ((((as.map V.ref).length : Nat) : Int) - 1 - (m : Int)) = ((ll.length - 1 - m : Nat) : Int) := by rw [List.length_map, la]; omega
        rw [ek]
        have put : GoS [bo, go, kd] J3 (upd J3 go (.dK (putK gvs (.inl ((ll.length - 1 - m : Nat) : Int)) (.int (i : Nat))))) := GoS.put mg'
        refine ⟨_, _, _, ks', rfl, g13.trans put, ?_, ⟨_, upd_same, ?_, fun b' => ?_⟩, ?_, by omega, kp3, fun j hj => ?_⟩
        · rw [upd_ne nbg, bornL_no fun y => lo.neg y.2]
          exact hbs3
        · have := length_putK gvs (.inl ((ll.length - 1 - m : Nat) : Int)) (V.int (i : Nat))
          omega
        · rw [valV_put]
          by_cases e : b' = ll.length - 1 - m
          · subst e
            rw [if_pos rfl]
            refine ⟨fun v hv => ?_, fun hv => by cases hv⟩
            cases hv
            exact ⟨i, Nat.lt_succ_self i, rfl, lo⟩
          · rw [if_neg fun z => e (by injection z with z; omega)]
            refine ⟨fun v hv => ?_, fun hv j hj lo' => ?_⟩
            · obtain ⟨j, a1, a2, a3⟩ := (vg3 b').1 v hv
              exact ⟨j, by omega, a2, a3⟩
            · by_cases ej : j = i
              · subst ej
                exact e (lo'.uniq lo)
              · exact (vg3 b').2 hv j (by omega) lo'
        · obtain ⟨kvs, h1, h2⟩ := k3
          exact ⟨kvs, by rw [upd_ne ngk.symm]; exact h1, h2.imp fun _ _ h => h.mono fun r v ⟨ns, h4, h5⟩ => ⟨ns, by rw [upd_ne (lst_dk h4 hg3)]; exact h4, h5⟩⟩
        · by_cases e : j = i
          · subst e
            exact .inr ⟨_, lo⟩
          · exact cas j (by omega)
    · rintro σ' J ⟨v6, v7, v8, ks, rfl, g, hbs, ⟨gvs, hgv, lg, vg⟩, kt, lk, kps, cas⟩
      rw [List.length_map, la] at hbs lg vg cas
      have lb := bornL_len pr ll d ll.length
      refine ⟨_, rfl, bo, rfl, ⟨_, SqL.of hbs⟩, fun D nD => ?_⟩
      refine lc_gen (n := ((bornL pr ll d ll.length).map nv).length) (p := fun _ => true) walk_list nD (by rw [List.length_map]; omega) (fun i y S => ∃ b', (bornL pr ll d ll.length)[i]? = some b' ∧ BarIs S y (b', goneOf gvs b')) (fun _ _ _ _ t z => let ⟨b', h1, h2⟩ := z; ⟨b', h1, h2.mono t⟩) (fun H' e => SqL.of (e _ _ hbs)) ?_ ?_
      · rintro j y J2 J2' R N hj e2 ⟨rfl, hy⟩ hR hN
        rw [List.getElem?_map] at hy
        cases hv : (bornL pr ll d ll.length)[j]? with
        | none => rw [hv] at hy; cases hy
        | some v =>
          rw [hv] at hy
          cases hy
          refine ⟨rfl, tyes_in ⟨_, rfl, _, rfl, go, rfl, .inl ⟨gvs, .inl (e2 _ _ hgv)⟩, _, rfl, valV gvs (.inl (v : Int)), DGet.k (k := .inl (v : Int)) (e2 _ _ hgv), by show 2 ≤ sizeLine; decide, fun t nt => ?_⟩⟩
          refine hR rfl _ _ (Ext.upd nt) ⟨v, hv, t, rfl, ?_⟩
          rw [upd_same]
          have eg : (valV gvs (.inl (v : Int))).getD V.non = gV (goneOf gvs v) := by
            unfold goneOf
            cases hvv : valV gvs (.inl (v : Int)) with
            | none => rfl
            | some u =>
              obtain ⟨j', _, e, _⟩ := (vg v).1 u hvv
              subst e
              rfl
          rw [eg]
      intro ys J2 e2 hD pp
      rw [List.length_map, List.filter_eq_self.mpr fun _ _ => rfl] at pp
      have lys : ys.length = (bornL pr ll d ll.length).length := by
        have := Paired.length pp
        rw [List.length_range] at this
        exact this.symm
      have tws : Two (BarIs J2) ys ((bornL pr ll d ll.length).map fun b' => (b', goneOf gvs b')) := two_of_got (by rw [lys, List.length_map]) fun i y hy => by
        obtain ⟨i', hi', b', hb', q⟩ := paired_got pp hy
        have : i' = i := by
          have := (List.getElem?_eq_some_iff.mp hi').2
          rw [List.getElem_range] at this
          exact this.symm
        subst this
        exact ⟨_, by rw [List.getElem?_map, hb']; rfl, q⟩
      refine ⟨D, ys, rfl, .inl ⟨SqL.of hD, fun t nt => ?_⟩⟩
      have et := Ext.upd (o := .tup ys) nt
      refine k t ys _ _ (((extJ g).trans e2).trans et) upd_same (tws.imp fun _ _ z => z.mono (TExt.of et)) ⟨?_, fun x hx j hj => ?_, fun x hx hn j hj => ?_, cas⟩
      · rw [List.map_map]
        exact List.map_id' _
      · obtain ⟨b', _, rfl⟩ := List.mem_map.mp hx
        have hj : goneOf gvs b' = some j := hj
        unfold goneOf at hj
        cases hvv : valV gvs (.inl (b' : Int)) with
        | none => rw [hvv] at hj; cases hj
        | some u =>
          obtain ⟨j', a1, a2, a3⟩ := (vg b').1 u hvv
          rw [hvv, a2] at hj
          have : j' = j := by
            have hj : some ((j' : Int).toNat) = some j := hj
            injection hj
          subst this
          exact ⟨a1, a3⟩
      · obtain ⟨b', _, rfl⟩ := List.mem_map.mp hx
        have hn : goneOf gvs b' = none := hn
        unfold goneOf at hn
        cases hvv : valV gvs (.inl (b' : Int)) with
        | none => exact (vg b').2 hvv j hj
        | some u =>
          obtain ⟨j', a1, a2, a3⟩ := (vg b').1 u hvv
          rw [hvv, a2] at hn
          cases hn
end
end L40

set_option Elab.async false
set_option linter.all false
set_option maxRecDepth 100000
set_option maxHeartbeats 4000000
set_option pp.maxSteps 100
/-! _law_grows. -/
namespace L40
open PySem L2 M40
abbrev sGro : Stmt := top 34
variable {zz : Addr}
/-- a row kept in a basis -/
def BE (p : Int) (n : Nat) (zz : Addr) (H : Hp) (c : Addr) (k : Nat × Vc) : Prop := ∃ o : Addr, H c = some (.tup [nv k.1, .ref o]) ∧ k.1 < n ∧ RowV p n H o k.2 ∧ o ≠ zz
def BasV (p : Int) (n : Nat) (zz : Addr) (H : Hp) (bl : Addr) (ks : List (Nat × Vc)) : Prop := ∃ cs : List Addr, H bl = some (.lst (cs.map V.ref)) ∧ Two (BE p n zz H) cs ks
theorem RowV.ne {p : Int} {n : Nat} {H : Hp} {o bl : Addr} {v : Vc} {cs : List Addr} (n0 : 0 < n) (h : RowV p n H o v) (hb : H bl = some (.lst (cs.map V.ref))) : o ≠ bl := fun e => by
  obtain ⟨ns, h1, g, _⟩ := h
  rw [e, hb] at h1
  injection h1 with h1
  injection h1 with h1
  cases ns with
  | nil =>
    have := g.1
    simp at this
    omega
  | cons x ns =>
    cases cs with
    | nil => cases h1
    | cons c cs =>
      injection h1 with h1
      cases h1
theorem BE.go {p : Int} {n : Nat} {H H' : Hp} {c bl : Addr} {k : Nat × Vc} {cs : List Addr} (hb : H bl = some (.lst (cs.map V.ref))) (g : GoD bl H H') (h : BE p n zz H c k) : BE p n zz H' c k := by
  obtain ⟨o, h1, h2, h3, h4⟩ := h
  refine ⟨o, g _ _ (fun e => by rw [e, hb] at h1; cases h1) h1, h2, ?_, h4⟩
  have ne := h3.ne (by omega) hb
  obtain ⟨ns, a, b⟩ := h3
  exact ⟨ns, g _ _ ne a, b⟩
theorem BE.ext {p : Int} {n : Nat} {H H' : Hp} {c : Addr} {k : Nat × Vc} (x : Ext H H') (h : BE p n zz H c k) : BE p n zz H' c k := let ⟨o, h1, h2, h3, h4⟩ := h; ⟨o, x _ _ h1, h2, h3.ext x, h4⟩
theorem BasV.ext {p : Int} {n : Nat} {H H' : Hp} {bl : Addr} {ks : List (Nat × Vc)} (x : Ext H H') (h : BasV p n zz H bl ks) : BasV p n zz H' bl ks := let ⟨cs, h1, h2⟩ := h; ⟨cs, x _ _ h1, h2.imp fun _ _ z => z.ext x⟩
/-- another basis stays -/
theorem BasV.go {p : Int} {n : Nat} {H H' : Hp} {bl b2 : Addr} {ks : List (Nat × Vc)} {cs : List Addr} (hb : H bl = some (.lst (cs.map V.ref))) (ne : b2 ≠ bl) (g : GoD bl H H') (h : BasV p n zz H b2 ks) : BasV p n zz H' b2 ks := let ⟨cs, h1, h2⟩ := h; ⟨cs, g _ _ ne h1, h2.imp fun _ _ z => z.go hb g⟩
/-- another list is written to -/
theorem BasV.put {p : Int} {n : Nat} {H : Hp} {b2 : Addr} {ks : List (Nat × Vc)} {xs ys : List V} (hz : H zz = some (.lst xs)) (ne : b2 ≠ zz) (h : BasV p n zz H b2 ks) : BasV p n zz (upd H zz (.lst ys)) b2 ks := by
  obtain ⟨cs, h1, h2⟩ := h
  refine ⟨cs, by rw [upd_ne ne]; exact h1, h2.imp fun c k ⟨o, a1, a2, ⟨ns, a3, a4⟩, a5⟩ => ⟨o, ?_, a2, ⟨ns, by rw [upd_ne a5]; exact a3, a4⟩, a5⟩⟩
  rw [upd_ne fun e => by rw [e, hz] at a1; cases a1]
  exact a1
def spGro : Sp := fun vs H Q _ => ∃ (p : Int) (n : Nat) (bl cl zz : Addr) (v : Vc) (U : List Vc) (ks : List (Nat × Vc)), vs = [.int p, .ref bl, .ref cl] ∧ Pr p ∧ n ≤ 1000 ∧ RowV p n H cl v ∧ (∃ oz, H zz = some oz) ∧ BasV p n zz H bl ks ∧ ks.length ≤ 900 ∧ BasOf p n U ks ∧
  (∀ H' : Hp, GoD bl H H' → BasV p n zz H' bl ks → M40.Sp p n U v → BasOf p n (U ++ [v]) ks → Q (.bl false) H') ∧ ∀ (k : Nat × Vc) (H' : Hp), GoD bl H H' → BasV p n zz H' bl (ks ++ [k]) → ¬ M40.Sp p n U v → BasOf p n (U ++ [v]) (ks ++ [k]) → Q (.bl true) H'
section
variable {P : Program} {w : World} {K : PySem.W.Frag} {mg : Str → Option Value} {base : Heap}
abbrev groN : List Str := ["_law_prime","_law_basis","_law_column","_law_left","_law_place","_law_other","_law_by","_law_at","_law_worth","_law_places","_law_first","_law_back"]
theorem scGro : FnScope groN ["_law_prime", "_law_basis", "_law_column"] (defScope sGro) := ⟨rfl, rfl, rfl, by decide +kernel, rfl, by decide +kernel, by decide +kernel⟩
theorem ok_gro {f : Addr} {fd : FuncData} (F : L2.Fun K "_law_grows" "_law_grows" sGro f fd) (T : Gb mg) : FnOk P w K mg base CX0 2 f fd ["_law_prime", "_law_basis", "_law_column"] spGro := by
  refine F.ok scGro (fun vs H Q E h => ?_) (fun cdv A outer s H vs Q E hr h => ?_)
  · obtain ⟨p, n, bl, cl, zz, v, U, ks, rfl, _⟩ := h
    rfl
  · obtain ⟨p, n, bl, cl, zz, v, U, ks, rfl, hp, n1000, hcl, ⟨oz, hzz⟩, ⟨cs, hbl, tb⟩, l900, bas, kF, kT⟩ := h
    have hp' := hp.le
    obtain ⟨ns, hns, g, ev⟩ := id hcl
    refine ⟨_, pss_cons (ps_set (i := 3) scGro.nd rfl (Or.inl rfl) (pe_callTy call_list_of (by rfl) T.list (by decide +kernel) (pa_cons (pv 2) pa_nil)))
      (C8.pss_cut (ps_for PassesOwn.never rfl (pi_list (pv 1)) (pg_tup rfl (pgs_cons (pg_name (i := 4) scGro.nd rfl (Or.inl rfl)) (pgs_cons (pg_name (i := 5) scGro.nd rfl (Or.inr rfl)) pgs_nil)))
      (pss_cons (ps_set (i := 6) scGro.nd rfl (Or.inr rfl) (pe_ix ix_list (pv 3) (pv 4) (fun _ _ => rfl)))
      (pss_one (ps_if (pt_cmpR op_ne (pv 6) pe_int (nomark _)) (pss_one (ps_setLc (i := 3) (own := [("_law_at", 7), ("_law_worth", 8)]) (g := gTup K 2 (gCons (gName 7) (gCons (gName 8) gNil))) (tt := tYes) rfl scGro.nd rfl rfl (sw_true rfl rfl rfl (by decide +kernel)) (pi_enum (by rfl) T.enum (pa_cons (pv 3) pa_nil)) (blkOk_by (N := groN) (sc := defScope sGro) (by decide +kernel)) (fun _ _ _ _ _ => (pg_tup rfl (pgs_cons (pg_name (i := 7) scGro.nd rfl (Or.inl rfl)) (pgs_cons (pg_name (i := 8) scGro.nd rfl (Or.inl rfl)) pgs_nil)))) (fun _ _ _ _ _ => pts_nil) (fun _ _ _ _ _ => (pe_op op_mod (pe_callTy call_int1 (by rfl) T.int (by decide +kernel) (pa_cons (pe_op op_sub (pv 8) (pe_op op_mul (pv 6) (pe_ix (r := rIxL K) ix_list (pv 5) (pv 7) (fun _ _ => rfl)))) pa_nil)) (pv 0))))) pss_nil))))
      (C8.pss_cut (ps_setLc (i := 9) (own := [("_law_at", 7), ("_law_worth", 8)]) (g := gTup K 2 (gCons (gName 7) (gCons (gName 8) gNil))) rfl scGro.nd rfl rfl (sw_true rfl rfl rfl (by decide +kernel)) (pi_enum (by rfl) T.enum (pa_cons (pv 3) pa_nil)) (blkOk_by (N := groN) (sc := defScope sGro) (by decide +kernel)) (fun _ _ _ _ _ => (pg_tup rfl (pgs_cons (pg_name (i := 7) scGro.nd rfl (Or.inl rfl)) (pgs_cons (pg_name (i := 8) scGro.nd rfl (Or.inl rfl)) pgs_nil)))) (fun _ _ _ _ _ => (pts_one (pt_cmpR op_ne (pv 8) pe_int (nomark _)))) (fun _ _ _ _ _ => (pv 7)))
      (pss_cons (ps_if (pt_cmpR op_eq (pe_callB call_len_seq (by rfl) T.len PySem.boot_len (pa_cons (pv 9) pa_nil)) pe_int (nomark _)) (pss_one (ps_ret pe_bl)) pss_nil)
      (pss_cons (ps_set (i := 10) scGro.nd rfl (Or.inr rfl) (pe_ix ix_list (pv 3) (pe_ix ix_list (pv 9) pe_int (fun _ _ => rfl)) (fun _ _ => rfl)))
      (C8.pss_cut (ps_set (i := 11) scGro.nd rfl (Or.inr rfl) (pe_ix ix_list (pe_lc (own := [("_law_by", 6)]) (g := gName 6) rfl scGro.nd (pi_range2 (by rfl) T.rng (pa_cons pe_int (pa_cons (pv 0) pa_nil))) (blkOk_by (N := groN) (sc := defScope sGro) (by decide +kernel)) (fun _ _ _ _ _ => (pg_name (i := 6) scGro.nd rfl (Or.inl rfl))) (fun _ _ _ _ _ => (pts_one (pt_cmpR op_eq (pe_op op_mod (pe_callTy call_int1 (by rfl) T.int (by decide +kernel) (pa_cons (pe_op op_mul (pv 6) (pv 10)) pa_nil)) (pv 0)) pe_int (nomark _)))) (fun _ _ _ _ _ => (pv 6))) pe_int (fun _ _ => rfl)))
      (pss_cons (ps_expr (pe_bm PySem.F.plainAttrs_list PySem.F.slot_list_append PySem.F.type_list_append mt_append (pv 1) (pa_cons (pe_tup (pa_cons (pe_ix ix_list (pv 9) pe_int (fun _ _ => rfl)) (pa_cons (pe_lc (own := [("_law_worth", 8)]) (g := gName 8) (tt := tYes) rfl scGro.nd (pi_list (pv 3)) (blkOk_by (N := groN) (sc := defScope sGro) (by decide +kernel)) (fun _ _ _ _ _ => (pg_name (i := 8) scGro.nd rfl (Or.inl rfl))) (fun _ _ _ _ _ => pts_nil) (fun _ _ _ _ _ => (pe_op op_mod (pe_callTy call_int1 (by rfl) T.int (by decide +kernel) (pa_cons (pe_op op_mul (pv 8) (pv 11)) pa_nil)) (pv 0)))) pa_nil))) pa_nil)))
      (pss_one (ps_ret pe_bl)))))))), ?_⟩
    refine ⟨_, rfl, cl, _, rfl, .inl (SqL.of hns), fun l0 nl0 => ?_⟩
    have x0 := Ext.upd (o := .lst (ns.map V.int)) nl0
    have hl0 : RowV p n (upd H l0 (.lst (ns.map V.int))) l0 v := ⟨ns, upd_same, g, ev⟩
    have hbl0 := x0 _ _ hbl
    have tb0 := tb.imp fun _ _ z => z.ext x0
    have nlH : H l0 = none := nl0
    generalize upd H l0 (.lst (ns.map V.int)) = H0 at *
    -- cleared
    refine ⟨fun σ' J => ∃ (lf : Addr) (z : Vc) (v4 v5 v6 : Option V), σ' = [some (.int p), some (.ref bl), some (.ref cl), some (.ref lf), v4, v5, v6, Option.none, Option.none, Option.none, Option.none, Option.none] ∧ Ext H J ∧ RowV p n J lf z ∧ Rest p n ks v z, ?_, ?_⟩
    · refine ⟨_, rfl, bl, rfl, ⟨_, SqL.of hbl0⟩, for_list (K := K) (a := bl) (xs := cs.map V.ref) (fun u σ' J => ∃ (lf : Addr) (z : Vc) (v4 v5 v6 : Option V), σ' = [some (.int p), some (.ref bl), some (.ref cl), some (.ref lf), v4, v5, v6, Option.none, Option.none, Option.none, Option.none, Option.none] ∧ Ext H0 J ∧ RowV p n J lf z ∧ (∃ s, M40.Sp p n (ks.map Prod.snd) s ∧ Al p n z fun i => v i - s i) ∧ ∀ t k, t < u → ks[t]? = some k → p ∣ z k.1) ⟨l0, v, _, _, _, rfl, Ext.rfl', hl0, ⟨zeroV, .zero _ (Al.refl _), fun i hi => by
        show p ∣ v i - (v i - 0)
        rw [Int.sub_zero, Int.sub_self]
        exact Int.dvd_zero p⟩, fun t k h => absurd h (Nat.not_lt_zero t)⟩ (fun u σ' J _ ⟨_, _, _, _, _, _, e, _⟩ => SqL.of (e _ _ hbl0)) ?_ ?_⟩
      · rintro u y σ' J hy ⟨lf, z, v4, v5, v6, rfl, xJ, hz, ⟨s0, sp0, al0⟩, off⟩
        obtain ⟨c, hc, rfl⟩ := ref_get hy
        obtain ⟨kk, hkk, o, hco, an, ho, _⟩ := tb0.get hc
        have hco := xJ _ _ hco
        have ho := ho.ext xJ
        obtain ⟨ms, hms, gz, ez⟩ := id hz
        obtain ⟨os, hos, go, eo⟩ := id ho
        obtain ⟨c0, cp⟩ := hz.bd an
        have km := List.mem_of_getElem? hkk
        refine ⟨c, _, rfl, SqT.of hco, rfl, _, _, rfl, _, _, rfl, rfl, ?_⟩
        refine ⟨_, rfl, _, rfl, lf, _, (kk.1 : Int), .int (z kk.1), rfl, rfl, SqL.of hms, RowV.at gz ez an, ?_⟩
        refine ⟨_, rfl, rfl, _, rfl, ?_⟩
        refine ite2 (fun _ => ?_) (fun nz => ⟨lf, z, _, _, _, rfl, xJ, hz, ⟨s0, sp0, al0⟩, fun t' k' h1 h2 => ?_⟩)
        · dsimp only [tAsg, gName]
          refine ⟨_, rfl, lf, _, rfl, SqL.of hms, fun D nD => ?_⟩
          refine lc_gen (n := (ms.map V.int).length) (p := fun _ => true) walk_enum nD (by rw [List.length_map, gz.1]; exact n1000) (fun i y _ => y = V.int ((z i - z kk.1 * kk.2 i) % p)) (fun _ _ _ _ _ z => z) (fun H' e => SqL.of (e _ _ hms)) ?_ ?_
          · rintro j y J1 J2 R N hj e7 ⟨t, x, w, rfl, nt, rfl, hx, hw⟩ hR hN
            cases hx
            obtain ⟨m, hm, rfl⟩ := map_int_get hw
            have jn : j < n := by rw [List.length_map, gz.1] at hj; exact hj
            have em : m = z j := by rw [← ez j jn, List.getD_eq_getElem?_getD, hm]; rfl
            subst em
            have et := Ext.upd (o := .tup [V.int (j : Int), .int (z j)]) nt
            refine ⟨t, _, rfl, SqT.of upd_same, rfl, _, _, rfl, _, _, rfl, rfl, rfl, tyes_in ?_⟩
            refine ⟨_, rfl, _, rfl, _, rfl, _, rfl, o, _, (j : Int), .int (kk.2 j), rfl, rfl, SqL.of (et _ _ (e7 _ _ hos)), RowV.at go eo jn, _, _, rfl, rfl, cmul (by omega) (by omega), _, _, rfl, rfl, .inl ⟨_, rfl, _, rfl, _, _, rfl, rfl, by omega, ?_⟩⟩
            exact hR rfl _ _ et rfl
          intro ys J2 e2 hD pp
          obtain ⟨rs, rfl, gr, er⟩ := row_of (f := fun i => (z i - z kk.1 * kk.2 i) % p) (fun i => ⟨Int.emod_nonneg _ (by omega), Int.emod_lt_of_pos _ (by omega)⟩) pp
          rw [List.length_map, gz.1] at gr er
          have a1 : Al p n (fun i => (z i - z kk.1 * kk.2 i) % p) fun i => z i - z kk.1 * kk.2 i := al_mod fun _ _ => rfl
          refine ⟨D, fun i => (z i - z kk.1 * kk.2 i) % p, _, _, _, rfl, xJ.trans e2, ⟨rs, hD, gr, er⟩, ⟨fun i => s0 i + z kk.1 * kk.2 i, .add (z kk.1) kk.2 s0 _ (List.mem_map_of_mem (f := Prod.snd) km) sp0 (Al.refl _), fun i hi => ?_⟩, fun t' k' h1 h2 => ?_⟩
          · have := Int.dvd_add (a1 i hi) (al0 i hi)
            dsimp only at this ⊢
            rwa [show ∀ X : Int, X - (z i - z kk.1 * kk.2 i) + (z i - (v i - s0 i)) = X - (v i - (s0 i + z kk.1 * kk.2 i)) by intro X; omega] at this
          · have kN := (bas.tri.lt k' (List.mem_of_getElem? h2)).1
            have a2 := a1 k'.1 kN
            dsimp only at a2 ⊢
            by_cases e : t' = u
            · subst e
              rw [hkk] at h2
              cases h2
              have := Int.dvd_sub a2 (dml (z kk.1) (bas.tri.lt kk km).2)
              rwa [show ∀ X : Int, X - (z kk.1 - z kk.1 * kk.2 kk.1) - z kk.1 * (kk.2 kk.1 - 1) = X by intro X; grind] at this
            · have := Int.dvd_sub (Int.dvd_add a2 (off t' k' (by omega) h2)) (dml (z kk.1) (bas.tri.later h2 hkk (by omega)))
              rwa [show ∀ X : Int, X - (z k'.1 - z kk.1 * kk.2 k'.1) + z k'.1 - z kk.1 * kk.2 k'.1 = X by intro X; omega] at this
        · by_cases e : t' = u
          · subst e
            rw [hkk] at h2
            cases h2
            have z0 : z kk.1 = 0 := Classical.byContradiction fun ne => nz (by
              have : decide (V.int (z kk.1) = V.int 0) = false := decide_eq_false fun q => ne (by injection q)
              rw [this]
              rfl)
            rw [z0]
            exact Int.dvd_zero p
          · exact off t' k' (by omega) h2
      · rintro σ' J ⟨lf, z, v4, v5, v6, rfl, xJ, hz, made, off⟩
        refine ⟨lf, z, _, _, _, rfl, x0.trans xJ, hz, made, fun k' hk' => ?_⟩
        obtain ⟨t, ht⟩ := List.getElem?_of_mem hk'
        exact off t k' (by rw [List.length_map, tb0.len]; exact (List.getElem?_eq_some_iff.mp ht).1) ht
    rintro σ' J ⟨lf, z, v4, v5, v6, rfl, xJ, hz, rest⟩
    clear tb0 hbl0 hl0 x0
    obtain ⟨ms, hms, gz, ez⟩ := id hz
    -- the places that are not 0
    refine ⟨fun σ' J' => ∃ pl : Addr, σ' = [some (.int p), some (.ref bl), some (.ref cl), some (.ref lf), v4, v5, v6, Option.none, Option.none, some (.ref pl), Option.none, Option.none] ∧ Ext J J' ∧ J' pl = some (.lst (((List.range n).filter fun i => decide (z i ≠ 0)).map nv)), ?_, ?_⟩
    · dsimp only [tAsg, gName]
      refine ⟨_, rfl, lf, _, rfl, SqL.of hms, fun D nD => ?_⟩
      refine lc_gen (n := (ms.map V.int).length) (p := fun i => decide (z i ≠ 0)) walk_enum nD (by rw [List.length_map, gz.1]; exact n1000) (fun i y _ => y = V.int (i : Int)) (fun _ _ _ _ _ z => z) (fun H' e => SqL.of (e _ _ hms)) ?_ ?_
      · rintro j y J1 J2 R N hj e7 ⟨t, x, w, rfl, nt, rfl, hx, hw⟩ hR hN
        cases hx
        obtain ⟨m, hm, rfl⟩ := map_int_get hw
        have jn : j < n := by rw [List.length_map, gz.1] at hj; exact hj
        have em : m = z j := by rw [← ez j jn, List.getD_eq_getElem?_getD, hm]; rfl
        subst em
        have et := Ext.upd (o := .tup [V.int (j : Int), .int (z j)]) nt
        refine ⟨t, _, rfl, SqT.of upd_same, rfl, _, _, rfl, _, _, rfl, rfl, rfl, ?_⟩
        refine ⟨_, rfl, rfl, _, rfl, ?_⟩
        refine ite2 (fun q => ?_) (fun q => ?_)
        · exact ⟨_, rfl, hR (decide_eq_true fun e => by rw [e] at q; exact absurd q (by decide)) _ _ et rfl⟩
        · refine hN (decide_eq_false fun ne => q ?_) _ et
          have : decide (V.int (z j) = V.int 0) = false := decide_eq_false fun q => ne (by injection q)
          rw [this]
          rfl
      intro ys J2 e2 hD pp
      have e := vals_of (f := fun i => V.int (i : Int)) pp
      rw [List.length_map, gz.1] at e
      exact ⟨D, rfl, e2, by rw [hD, e]⟩
    rintro σ' J1 ⟨pl, rfl, x1, hpl⟩
    have hz1 := hz.ext x1
    have xJ1 := xJ.trans x1
    have lpl : ((List.range n).filter fun i => decide (z i ≠ 0)).length ≤ n := Nat.le_trans (List.length_filter_le _ _) (by rw [List.length_range]; exact Nat.le_refl _)
    have mpl : ∀ i, i ∈ ((List.range n).filter fun i => decide (z i ≠ 0)) ↔ i < n ∧ z i ≠ 0 := fun i => by
      rw [List.mem_filter, List.mem_range, decide_eq_true_eq]
    generalize ((List.range n).filter fun i => decide (z i ≠ 0)) = pls at *
    refine ⟨_, rfl, pl, _, rfl, .inl (SqL.of hpl), rfl, _, rfl, ?_⟩
    refine ite2 (fun q => ?_) (fun q => ?_)
    · have e : pls = [] := by
        have := of_decide_eq_true q
        injection this with this
        rw [List.length_map] at this
        exact List.eq_nil_of_length_eq_zero (by omega)
      obtain ⟨h1, h2⟩ := bas.same rest fun i hi => by
        show p ∣ z i - 0
        have z0 : z i = 0 := Classical.byContradiction fun ne => by
          have := (mpl i).mpr ⟨hi, ne⟩
          rw [e] at this
          cases this
        rw [z0]
        exact Int.dvd_zero p
      exact kF J1 (GoD.of xJ1) ⟨cs, xJ1 _ _ hbl, tb.imp fun _ _ z => z.ext xJ1⟩ h1 h2
    obtain ⟨a, pls', epl⟩ : ∃ a pls', pls = a :: pls' := by
      cases pls with
      | nil => exact absurd (decide_eq_true rfl) q
      | cons a r => exact ⟨a, r, rfl⟩
    subst epl
    obtain ⟨an, za⟩ := (mpl a).mp List.mem_cons_self
    obtain ⟨a0, ap⟩ := hz.bd an
    have hpl0 : atI ((a :: pls').map nv) 0 = some (nv a) := at_of (j := 0) rfl rfl
    obtain ⟨ms1, hms1, gz1, ez1⟩ := id hz1
    refine ⟨_, rfl, _, rfl, pl, _, (0 : Int), nv a, rfl, rfl, SqL.of hpl, hpl0, lf, _, (a : Int), .int (z a), rfl, rfl, SqL.of hms1, RowV.at gz1 ez1 an, ?_⟩
    -- what undoes it
    refine ⟨fun σ' J' => ∃ c : Int, σ' = [some (.int p), some (.ref bl), some (.ref cl), some (.ref lf), v4, v5, v6, Option.none, Option.none, some (.ref pl), some (.int (z a)), some (.int c)] ∧ Ext J1 J' ∧ 0 < c ∧ c < p ∧ p ∣ z a * c - 1, ?_, ?_⟩
    · have zpos : 0 < z a := by omega
      refine ⟨_, rfl, 1, p, rfl, ⟨by decide, by decide, by omega, by omega⟩, fun D nD => lc_range (lo := 1) (n := (p - 1).toNat) (fun i J' => Ext J1 J' ∧ J' D = some (.lst (((List.range i).filter fun k : Nat => decide ((1 + (k : Int)) * z a % p = 1)).map fun k : Nat => V.int (1 + (k : Int))))) ⟨Ext.upd nD, upd_same⟩ ?_ ?_⟩
      · rintro i J' hi ⟨x2, hD⟩
        have li : ((List.range i).filter fun k : Nat => decide ((1 + (k : Int)) * z a % p = 1)).length ≤ i := Nat.le_trans (List.length_filter_le _ _) (by rw [List.length_range]; exact Nat.le_refl _)
        have st : (List.range (i + 1)).filter (fun k : Nat => decide ((1 + (k : Int)) * z a % p = 1)) = (List.range i).filter (fun k : Nat => decide ((1 + (k : Int)) * z a % p = 1)) ++ (if (1 + (i : Int)) * z a % p = 1 then [i] else []) := by
          rw [List.range_succ, List.filter_append]
          congr 1
          by_cases e : (1 + (i : Int)) * z a % p = 1 <;> simp [e]
        refine ⟨rfl, _, rfl, _, rfl, _, _, rfl, rfl, cmul (by omega) (by omega), .inl ⟨_, rfl, _, rfl, _, _, rfl, rfl, by omega, rfl, _, rfl, ?_⟩⟩
        refine ite2 (fun q => ?_) (fun q => ?_)
        · have e : (1 + (i : Int)) * z a % p = 1 := by
            have := of_decide_eq_true q
            injection this
          refine ⟨_, rfl, _, hD, by rw [List.length_map]; exact small1000 (by omega), fun b' o' hb' => ?_, ?_⟩
          · rw [upd_ne (ne_of_none hb' nD)]
            exact x2 _ _ hb'
          · rw [upd_same, st, if_pos e, List.map_append]
            rfl
        · refine ⟨x2, ?_⟩
          rw [st, if_neg (fun e => q (decide_eq_true (by show V.int ((1 + (i : Int)) * z a % p) = V.int 1; rw [e]))), List.append_nil]
          exact hD
      · rintro J' ⟨x2, hD⟩
        obtain ⟨k0, hk0, ek0⟩ := inv_ex hp zpos ap
        rw [Int.mul_comm] at ek0
        have m0 : k0 ∈ (List.range (p - 1).toNat).filter fun k : Nat => decide ((1 + (k : Int)) * z a % p = 1) := List.mem_filter.mpr ⟨List.mem_range.mpr hk0, decide_eq_true ek0⟩
        have all : ∀ k, k ∈ (List.range (p - 1).toNat).filter (fun k : Nat => decide ((1 + (k : Int)) * z a % p = 1)) → k < (p - 1).toNat ∧ (1 + (k : Int)) * z a % p = 1 := fun k hk => by
          obtain ⟨h1, h2⟩ := List.mem_filter.mp hk
          exact ⟨List.mem_range.mp h1, of_decide_eq_true h2⟩
        generalize (List.range (p - 1).toNat).filter (fun k : Nat => decide ((1 + (k : Int)) * z a % p = 1)) = ll at *
        cases ll with
        | nil => cases m0
        | cons k r =>
          obtain ⟨h1, h2⟩ := all k List.mem_cons_self
          refine ⟨D, _, (0 : Int), V.int (1 + (k : Int)), rfl, rfl, SqL.of hD, at_of (j := 0) rfl rfl, 1 + (k : Int), rfl, x2, by omega, by omega, ⟨(1 + (k : Int)) * z a / p, ?_⟩⟩
          have := Int.emod_add_mul_ediv ((1 + (k : Int)) * z a) p
          rw [Int.mul_comm (z a)]
          omega
    rintro σ' J2 ⟨c, rfl, x2, c0, cp, cz⟩
    have hms2 := x2 _ _ hms1
    have hbl2 := x2 _ _ (xJ1 _ _ hbl)
    have hpl2 := x2 _ _ hpl
    refine ⟨_, rfl, .inl ⟨rfl, _, SqL.of hbl2⟩, _, rfl, pl, _, (0 : Int), nv a, rfl, rfl, SqL.of hpl2, hpl0, _, rfl, lf, rfl, ⟨_, SqL.of hms2⟩, fun D nD => ?_⟩
    refine lc_gen (n := (ms1.map V.int).length) (p := fun _ => true) walk_list nD (by rw [List.length_map, gz1.1]; exact n1000) (fun i y _ => y = V.int (z i * c % p)) (fun _ _ _ _ _ z => z) (fun H' e => SqL.of (e _ _ hms2)) ?_ ?_
    · rintro j y J3 J4 R N hj e7 ⟨rfl, hy⟩ hR hN
      obtain ⟨m, hm, rfl⟩ := map_int_get hy
      have jn : j < n := by rw [List.length_map, gz1.1] at hj; exact hj
      have em : m = z j := by rw [← ez1 j jn, List.getD_eq_getElem?_getD, hm]; rfl
      subst em
      obtain ⟨b1, b2⟩ := hz.bd jn
      refine ⟨rfl, tyes_in ⟨_, rfl, _, rfl, _, _, rfl, rfl, cmul (by omega) (by omega), .inl ⟨_, rfl, _, rfl, _, _, rfl, rfl, by omega, ?_⟩⟩⟩
      exact hR rfl _ _ Ext.rfl' rfl
    intro ys J3 e3 hD pp
    obtain ⟨rs, rfl, gr, er⟩ := row_of (f := fun i => z i * c % p) (fun i => ⟨Int.emod_nonneg _ (by omega), Int.emod_lt_of_pos _ (by omega)⟩) pp
    rw [List.length_map, gz1.1] at gr er
    have Dz : D ≠ zz := fun e => by rw [e, x2 _ _ (xJ1 _ _ hzz)] at nD; cases nD
    refine ⟨by show 2 ≤ sizeLine; decide, fun t nt => ?_⟩
    have e4 := Ext.upd (o := .tup [nv a, V.ref D]) nt
    have x24 := x2.trans (e3.trans e4)
    have hbl4 := e4 _ _ (e3 _ _ hbl2)
    have tb4 := tb.imp fun _ _ z => z.ext (xJ1.trans x24)
    have ht : (upd J3 t (.tup [nv a, V.ref D])) t = some (.tup [nv a, V.ref D]) := upd_same
    have hD4 := e4 _ _ hD
    generalize upd J3 t (.tup [nv a, V.ref D]) = J4 at *
    have lcs := tb.len
    refine ⟨bl, _, .ref t, rfl, rfl, hbl4, small1000 (by rw [List.length_map]; omega), ?_⟩
    have put : GoD bl J4 (upd J4 bl (.lst (cs.map V.ref ++ [.ref t]))) := GoD.put
    have ry : RowV p n J4 D (fun i => z i * c % p) := ⟨rs, hD4, gr, er⟩
    obtain ⟨h1, h2⟩ := bas.more (y := fun i => z i * c % p) rest an (fun d => za ((hz.zero an).mp d)) cz (al_mod fun _ _ => rfl)
    refine kT (a, fun i => z i * c % p) _ ((GoD.of (xJ1.trans x24)).trans put) ⟨cs ++ [t], by rw [upd_same, List.map_append]; rfl, (tb4.imp fun _ _ z => z.go hbl4 put).snoc (BE.go hbl4 put ⟨D, ht, an, ry, Dz⟩)⟩ h1 h2
end
end L40

set_option Elab.async false
set_option linter.all false
set_option maxRecDepth 100000
set_option maxHeartbeats 4000000
set_option pp.maxSteps 100
/-! _law_rim. -/
namespace L40
open PySem L2 M40
abbrev sLri : Stmt := top 35
/-- a list of cells -/
def CLs (H : Hp) (b : Addr) (ll : List (List Int)) : Prop := ∃ as : List Addr, H b = some (.lst (as.map V.ref)) ∧ PT2 H as ll
theorem CLs.ext {H H' : Hp} {b : Addr} {ll : List (List Int)} (e : Ext H H') (h : CLs H b ll) : CLs H' b ll := let ⟨as, h1, h2⟩ := h; ⟨as, e _ _ h1, PT2.mono (fun _ _ z => e _ _ z) h2⟩
def rimU (p : Int) (ll : List (List Int)) (fs : List (List Int)) : Vc := fun i => sgF p 0 fs (ll.getD i [])
def spLRim : Sp := fun vs H Q _ => ∃ (b c : Addr) (l : List Int) (ll : List (List Int)) (p : Int), vs = [.ref b, .int p, .ref c] ∧ CLs H b ll ∧ H c = some (.tup (l.map V.int)) ∧ 1 ≤ l.length ∧ l.length ≤ 4 ∧ (∀ f ∈ facesL l, f ∈ ll) ∧ ll.Nodup ∧ (facesL l).Nodup ∧ Pr p ∧ ll.length ≤ 1000 ∧ ∀ (q : Addr) (H' : Hp), Ext H H' → RowV p ll.length H' q (rimU p ll (facesL l)) → Q (.ref q) H'
theorem lrim_step {p : Int} {ll fs : List (List Int)} {ns : List Int} {u j : Nat} {f : List Int} {v : Int} (nd : ll.Nodup) (nf : fs.Nodup) (hf : fs[u]? = some f) (hj : ll[j]? = some f) (ln : ns.length = ll.length) (ev : v = sg p u)
    (h : ∀ i, i < ll.length → ns.getD i 0 = rimU p ll (fs.take u) i) : ∀ i, i < ll.length → (ns.set j v).getD i 0 = rimU p ll (fs.take (u + 1)) i := fun i hi => by
  have jl := (List.getElem?_eq_some_iff.mp hj).1
  have ul := (List.getElem?_eq_some_iff.mp hf).1
  have nin : f ∉ fs.take u := fun m => by
    obtain ⟨a, ha, ea⟩ := List.mem_iff_getElem.mp m
    rw [List.length_take] at ha
    rw [List.getElem_take] at ea
    have := nd_at nf (i := a) (j := u) (c := f) (by rw [List.getElem?_eq_getElem (by omega), ea]) hf
    omega
  have hi' := h i hi
  unfold rimU at hi' ⊢
  rw [take_snoc hf, sgF_snoc nin, List.length_take, Nat.min_eq_left (by omega), Nat.zero_add]
  rw [List.getD_eq_getElem?_getD (l := ns.set j v)]
  by_cases e : i = j
  · subst e
    rw [List.getElem?_set_self (by omega), getD_of hj, if_pos rfl, ev]
    rfl
  · rw [List.getElem?_set_ne (fun z => e z.symm), ← List.getD_eq_getElem?_getD, hi', if_neg]
    intro z
    have := nd_at nd (i := j) (j := i) (c := f) hj (by rw [getD_lt hi, ← z])
    omega
section
variable {P : Program} {w : World} {K : PySem.W.Frag} {mg : Str → Option Value} {base : Heap}
abbrev lriN : List Str := ["_law_cells","_law_prime","_law_cell","_law_found","_law_at","_law_face"]
theorem scLri : FnScope lriN ["_law_cells", "_law_prime", "_law_cell"] (defScope sLri) := ⟨rfl, rfl, rfl, by decide +kernel, rfl, by decide +kernel, by decide +kernel⟩
theorem ok_lri {f : Addr} {fd : FuncData} (F : L2.Fun K "_law_rim" "_law_rim" sLri f fd) (T : Gb mg) (cF : Cal P w K mg base 1 "_law_faces" spFaces []) : FnOk P w K mg base CX0 2 f fd ["_law_cells", "_law_prime", "_law_cell"] spLRim := by
  refine F.ok scLri (fun vs H Q E h => ?_) (fun cdv A outer s H vs Q E hr h => ?_)
  · obtain ⟨b, c, l, ll, p, rfl, _⟩ := h
    rfl
  · obtain ⟨b, c, l, ll, p, rfl, ⟨as, hb, pt⟩, hc, l1, l4, fs, nd, nf, hp, ln, k⟩ := h
    have hp' := hp.le
    have hu65 : (A.deeper (PyProof.Rows.envOfC "_law_rim" (defScope sLri) s.heap.objs.size f cdv)).units + 65 < cLine := by
      have := hr.un
      have e : (A.deeper (PyProof.Rows.envOfC "_law_rim" (defScope sLri) s.heap.objs.size f cdv)).units = A.units + 3 := rfl
      omega
    have la : as.length = ll.length := Paired.length pt
    refine ⟨_, pss_cons (ps_set (i := 3) scLri.nd rfl (Or.inl rfl) (pe_op op_rep (pe_lst (pa_cons pe_int pa_nil)) (pe_callB call_len_seq (by rfl) T.len PySem.boot_len (pa_cons (pv 0) pa_nil))))
      (pss_cons (ps_for PassesOwn.never rfl (pi_enum (by rfl) T.enum (pa_cons (C8.pe_c cF hr (by decide) (by rfl) (pa_cons (pv 2) pa_nil)) pa_nil)) (pg_tup rfl (pgs_cons (pg_name (i := 4) scLri.nd rfl (Or.inl rfl)) (pgs_cons (pg_name (i := 5) scLri.nd rfl (Or.inl rfl)) pgs_nil)))
      (pss_one (ps_asg (pe_ifExp (pt_cmpR op_eq (pe_op op_mod (pe_callTy call_int1 (by rfl) T.int (by decide +kernel) (pa_cons (pv 4) pa_nil)) pe_int) pe_int (nomark _)) pe_int (pe_op op_sub (pv 1) pe_int)) (pg_sub (pv 3) (pe_bm PySem.F.plainAttrs_list PySem.F.slot_list_index PySem.F.type_list_index (mt_indexD hu65) (pv 0) (pa_cons (pv 5) pa_nil)) set_list))))
      (pss_one (ps_ret (pv 3)))), ?_⟩
    refine ⟨by show 1 ≤ sizeLine; decide, fun p1 n1 => ?_⟩
    have x1 := Ext.upd (o := .lst [V.int 0]) n1
    refine ⟨_, rfl, b, _, rfl, .inl (SqL.of (x1 _ _ hb)), p1, _, [V.int 0], rfl, rfl, upd_same, by omega, by rw [List.length_map]; omega, by rw [List.length_map]; show 1 * _ ≤ sizeLine; rw [sizeLine_eq]; omega, fun row nrow => ?_⟩
    rw [List.flatten_replicate_singleton]
    have e0 : List.replicate (((as.map V.ref).length : Nat) : Int).toNat (V.int 0) = (List.replicate ll.length (0 : Int)).map V.int := by
      rw [List.map_replicate, List.length_map, la]
      rfl
    rw [e0]
    have x2 := Ext.upd (o := .lst ((List.replicate ll.length (0 : Int)).map V.int)) nrow
    have x12 := x1.trans x2
    have hr0 : RowV p ll.length (upd (upd H p1 (.lst [V.int 0])) row (.lst ((List.replicate ll.length (0 : Int)).map V.int))) row (rimU p ll []) := ⟨_, upd_same, ⟨by rw [List.length_replicate], fun x hx => by
      rw [List.eq_of_mem_replicate hx]
      exact ⟨by decide, by omega⟩⟩, fun i hi => by
      rw [List.getD_eq_getElem?_getD, List.getElem?_replicate, if_pos hi]
      rfl⟩
    have nrowH : H row = none := none_of_ext x1 nrow
    generalize upd (upd H p1 (.lst [V.int 0])) row (.lst ((List.replicate ll.length (0 : Int)).map V.int)) = H1 at *
    refine ⟨_, rfl, c, l, rfl, x12 _ _ hc, l1, l4, fun fl fas H2 e2 hfl fpt => ?_⟩
    have hr2 := hr0.ext e2
    have x3 := x12.trans e2
    refine ⟨fl, _, rfl, SqL.of hfl, ?_⟩
    refine for_it walk_enum (fun i σ' J => ∃ v4 v5 : Option V, σ' = [some (.ref b), some (.int p), some (.ref c), some (.ref row), v4, v5] ∧ GoD row H2 J ∧ RowV p ll.length J row (rimU p ll ((facesL l).take i)) ∧ J fl = some (.lst (fas.map V.ref))) ⟨_, _, rfl, fun _ _ _ h => h, hr2, hfl⟩ (fun i σ' J _ ⟨_, _, _, _, _, g⟩ => SqL.of g) ?_ ?_
    · rintro i z σ' J J' hi ⟨v4, v5, rfl, g, hrow, hfl'⟩ ⟨t, x, y, rfl, nt, rfl, hx, hy⟩
      cases hx
      obtain ⟨a, ha, rfl⟩ := ref_get hy
      obtain ⟨f1, hf1, haf⟩ := fpt.get ha
      obtain ⟨ns, hns, gn, en⟩ := hrow
      have nfl := ref_int hfl' hns ha
      have et := Ext.upd (o := .tup [V.int (i : Int), .ref a]) nt
      have hb2 := x3 _ _ hb
      have brow : b ≠ row := fun z => by rw [z, nrowH] at hb; cases hb
      have keep : ∀ {q : Addr} {xs : List V}, H2 q = some (.tup xs) → J q = some (.tup xs) := fun {q xs} h => g _ _ (fun z => by rw [z] at h; obtain ⟨ms, h1, _⟩ := hr2; rw [h1] at h; cases h) h
      have hbJ : (upd J t (.tup [V.int (i : Int), .ref a])) b = some (.lst (as.map V.ref)) := et _ _ (g _ _ brow hb2)
      have ptJ : PT2 (upd J t (.tup [V.int (i : Int), .ref a])) as ll := PT2.mono (fun _ _ h => et _ _ (keep (x3 _ _ h))) pt
      have haJ := et _ _ (keep haf)
      have hnsJ := et _ _ hns
      have hflJ := et _ _ hfl'
      have gJ := g.trans (GoD.of et)
      obtain ⟨j, hj, hno⟩ := first_at (fs f1 (List.mem_of_getElem? hf1))
      have jl := (List.getElem?_eq_some_iff.mp hj).1
      refine ⟨t, _, rfl, SqT.of upd_same, rfl, _, _, rfl, _, _, rfl, rfl, ?_⟩
      generalize upd J t (.tup [V.int (i : Int), .ref a]) = J2 at *
      have ix : ixN (ns.map V.int).length (j : Int) = some j := by
        have q : j < (ns.map V.int).length := by rw [List.length_map, gn.1]; omega
        unfold ixN
        rw [if_pos (by omega), if_pos (by omega)]
        rfl
      have fin : ∀ v : Int, 0 ≤ v → v < p → v = sg p i → ∃ v4 v5 : Option V, [some (V.ref b), some (.int p), some (.ref c), some (.ref row), some (.int (i : Int)), some (.ref a)] = [some (.ref b), some (.int p), some (.ref c), some (.ref row), v4, v5] ∧ GoD row H2 (upd J2 row (.lst ((ns.map V.int).set j (.int v)))) ∧ RowV p ll.length (upd J2 row (.lst ((ns.map V.int).set j (.int v)))) row (rimU p ll ((facesL l).take (i + 1))) ∧ (upd J2 row (.lst ((ns.map V.int).set j (.int v)))) fl = some (.lst (fas.map V.ref)) := fun v v0 vp ev =>
        ⟨_, _, rfl, gJ.trans GoD.put, ⟨ns.set j v, by rw [upd_same, List.map_set], rowg_set gn v0 vp, lrim_step nd nf hf1 hj gn.1 ev en⟩, by rw [upd_ne nfl]; exact hflJ⟩
      have idx : ∀ Q' : VK, Q' (.int (j : Int)) J2 → rIndexD K (.ref b) [.ref a] J2 Q' := fun Q' q => ⟨b, .ref a, tI f1, ll.map tI, j, tI f1, rfl, rfl, dp_lst hbJ ptJ, dp_tI haJ, shaped_dL ll, shaped_tI f1, by rw [List.getElem?_map, hj]; rfl, by rw [eqv_tI]; exact decide_eq_true rfl, fun m z' hm hz => by
        rw [List.getElem?_map] at hz
        cases h : ll[m]? with
        | none => rw [h] at hz; cases hz
        | some q =>
          rw [h] at hz
          cases hz
          rw [eqv_tI]
          exact decide_eq_false fun e => hno m hm (by rw [h, e]), q⟩
      refine ⟨_, rfl, .inl ⟨_, rfl, _, _, rfl, rfl, by show (0 : Int) < 2; decide, rfl, _, rfl, ?_⟩⟩
      refine ite2 (fun z => ?_) (fun z => ?_)
      · refine ⟨_, rfl, _, rfl, .inl ⟨rfl, _, SqL.of hbJ⟩, _, rfl, ?_⟩
        dsimp only [tNil]
        refine idx _ ?_
        refine ⟨row, _, _, _, rfl, rfl, hnsJ, ix, fin 1 (by decide) (by omega) ?_⟩
        have z := of_decide_eq_true z
        injection z with z
        unfold sg
        rw [if_pos (by omega)]
      · refine ⟨_, rfl, _, _, rfl, rfl, _, rfl, _, rfl, .inl ⟨rfl, _, SqL.of hbJ⟩, _, rfl, ?_⟩
        dsimp only [tNil]
        refine idx _ ?_
        refine ⟨row, _, _, _, rfl, rfl, hnsJ, ix, fin (p - 1) (by omega) (by omega) ?_⟩
        unfold sg
        rw [if_neg fun q => z (decide_eq_true ?_)]
        show V.int ((i : Int) % 2) = V.int 0
        rw [show (i : Int) % 2 = 0 by omega]
    · rintro σ' J ⟨v4, v5, rfl, g, hrow, _⟩
      exact ⟨_, rfl, k row J (fun q o h => g _ _ (fun z => by rw [z, nrowH] at h; cases h) (x3 _ _ h)) (by
        have e : (fas.map V.ref).length = (facesL l).length := by rw [List.length_map]; exact Paired.length fpt
        rw [e, List.take_of_length_le (Nat.le_refl _)] at hrow
        exact hrow)⟩
end
end L40

set_option Elab.async false
set_option linter.all false
set_option maxRecDepth 100000
set_option maxHeartbeats 4000000
set_option pp.maxSteps 100
/-! _law_lasting. -/
namespace L40
open PySem L2 M40
abbrev sLas : Stmt := top 36
noncomputable def ringsN (p : Int) (ll : List (List Int)) (d m : Nat) : Nat := cnt m fun b => szD ll b = d + 1 ∧ Born p ll.length (rimD p ll) b
noncomputable def lostN (p : Int) (ll : List (List Int)) (d m n : Nat) : Int := (cnt n fun j => szD ll j = d + 2 ∧ ¬ Born p ll.length (rimD p ll) j : Nat) - (cnt n fun j => szD ll j = d + 2 ∧ ¬ LateIn p ll.length (szD ll) (rimD p ll) (d + 2) m j : Nat)
noncomputable def lastL (p : Int) (ll : List (List Int)) (d m k : Nat) : List Int := (List.range k).map fun t => (ringsN p ll d m : Int) - lostN p ll d m (m + t)
theorem lastL_succ (p : Int) (ll : List (List Int)) (d m k : Nat) : lastL p ll d m (k + 1) = lastL p ll d m k ++ [(ringsN p ll d m : Int) - lostN p ll d m (m + k)] := by
  unfold lastL
  rw [List.range_succ, List.map_append]
  rfl
theorem colsS_yes {size : Nat → Nat} {D : Nat → Vc} {d j : Nat} (h : size j = d) : colsS size D d (j + 1) = colsS size D d j ++ [D j] := by
  unfold colsS
  rw [List.range_succ, List.filter_append, List.map_append, List.filter_cons, if_pos (decide_eq_true h)]
  rfl
theorem colsS_no {size : Nat → Nat} {D : Nat → Vc} {d j : Nat} (h : ¬ size j = d) : colsS size D d (j + 1) = colsS size D d j := by
  unfold colsS
  rw [List.range_succ, List.filter_append, List.map_append, List.filter_cons, if_neg (fun z => h (of_decide_eq_true z))]
  exact List.append_nil _
theorem cnt_yes {n : Nat} {P : Nat → Prop} (h : P n) : cnt (n + 1) P = cnt n P + 1 := by rw [cnt_succ, if_pos h]
theorem cnt_no {n : Nat} {P : Nat → Prop} (h : ¬ P n) : cnt (n + 1) P = cnt n P := by rw [cnt_succ, if_neg h, Nat.add_zero]
theorem rings_yes {p : Int} {ll : List (List Int)} {d m : Nat} (h : szD ll m = d + 1 ∧ Born p ll.length (rimD p ll) m) : ringsN p ll d (m + 1) = ringsN p ll d m + 1 := by
  unfold ringsN
  exact cnt_yes h
theorem rings_no {p : Int} {ll : List (List Int)} {d m : Nat} (h : ¬ (szD ll m = d + 1 ∧ Born p ll.length (rimD p ll) m)) : ringsN p ll d (m + 1) = ringsN p ll d m := by
  unfold ringsN
  exact cnt_no h
theorem lost_none {p : Int} {ll : List (List Int)} {d m n : Nat} (h : ¬ szD ll n = d + 2) : lostN p ll d m (n + 1) = lostN p ll d m n := by
  unfold lostN
  rw [cnt_no (fun z => h z.1), cnt_no (fun z => h z.1)]
theorem lost_some {p : Int} {ll : List (List Int)} {d m n : Nat} (h : szD ll n = d + 2) (a b : Bool) (ha : a = true ↔ ¬ Born p ll.length (rimD p ll) n) (hb : b = true ↔ ¬ LateIn p ll.length (szD ll) (rimD p ll) (d + 2) m n) : lostN p ll d m (n + 1) = lostN p ll d m n + (if a = true then 1 else 0) - (if b = true then 1 else 0) := by
  unfold lostN
  have e1 : cnt (n + 1) (fun j => szD ll j = d + 2 ∧ ¬ Born p ll.length (rimD p ll) j) = cnt n (fun j => szD ll j = d + 2 ∧ ¬ Born p ll.length (rimD p ll) j) + if a = true then 1 else 0 := by
    by_cases z : a = true
    · rw [if_pos z, cnt_yes ⟨h, ha.mp z⟩]
    · rw [if_neg z, cnt_no fun q => z (ha.mpr q.2)]
      rfl
  have e2 : cnt (n + 1) (fun j => szD ll j = d + 2 ∧ ¬ LateIn p ll.length (szD ll) (rimD p ll) (d + 2) m j) = cnt n (fun j => szD ll j = d + 2 ∧ ¬ LateIn p ll.length (szD ll) (rimD p ll) (d + 2) m j) + if b = true then 1 else 0 := by
    by_cases z : b = true
    · rw [if_pos z, cnt_yes ⟨h, hb.mp z⟩]
    · rw [if_neg z, cnt_no fun q => z (hb.mpr q.2)]
      rfl
  rw [e1, e2]
  cases a <;> cases b <;> simp <;> omega
theorem cut_from (xs : List V) (k : Nat) : cutV xs (some (k : Int)) none = xs.drop k := by
  unfold cutV
  rw [HT.sIx_nat, HT.sIx_none]
  by_cases h : k ≤ xs.length
  · rw [Nat.min_eq_left h, List.take_of_length_le (by rw [List.length_drop]; exact Nat.le_refl _)]
  · rw [Nat.min_eq_right (by omega), Nat.sub_self, List.take_zero, List.drop_eq_nil_of_le (by omega)]
def spLas : Sp := fun vs H Q _ => ∃ (b : Addr) (ll : List (List Int)) (p : Int) (d m : Nat), vs = [.ref b, .int p, .int (d : Int), .int (m : Int)] ∧ CLs H b ll ∧ GoodT ll ∧ ll.length ≤ 40 ∧ Pr p ∧ d ≤ 3 ∧ m ≤ ll.length ∧ ∀ (q : Addr) (H' : Hp), Ext H H' → H' q = some (.lst ((lastL p ll d m (ll.length + 1 - m)).map V.int)) → Q (.ref q) H'
theorem GoD.ext {k : Addr} {H J J' : Hp} (g : GoD k J J') (x : Ext H J) (nk : H k = none) : Ext H J' := fun b o h => g b o (ne_of_none h nk) (x _ _ h)
section
variable {P : Program} {w : World} {K : PySem.W.Frag} {mg : Str → Option Value} {base : Heap}
abbrev lasN : List Str := ["_law_cells","_law_prime","_law_deep","_law_begin","_law_basis","_law_rings","_law_cell","_law_all","_law_late","_law_lost","_law_found","_law_moment","_law_here","_law_behind"]
theorem scLas : FnScope lasN ["_law_cells", "_law_prime", "_law_deep", "_law_begin"] (defScope sLas) := ⟨rfl, rfl, rfl, by decide +kernel, rfl, by decide +kernel, by decide +kernel⟩
theorem ok_las {f : Addr} {fd : FuncData} (F : L2.Fun K "_law_lasting" "_law_lasting" sLas f fd) (T : Gb mg) (cG : Cal P w K mg base 2 "_law_grows" spGro []) (cR : Cal P w K mg base 2 "_law_rim" spLRim []) : FnOk P w K mg base CX0 3 f fd ["_law_cells", "_law_prime", "_law_deep", "_law_begin"] spLas := by
  refine F.ok scLas (fun vs H Q E h => ?_) (fun cdv A outer s H vs Q E hr h => ?_)
  · obtain ⟨b, ll, p, d, m, rfl, _⟩ := h
    rfl
  · obtain ⟨b, ll, p, d, m, rfl, ⟨as, hb, pt⟩, gd, l40, hp, d3, mN, k⟩ := h
    have la : as.length = ll.length := Paired.length pt
    have tw := tw_of gd
    have RM := tw.rims hp
    refine ⟨_, pss_cons (ps_par (i := 4) (j := 5) rfl scLas.nd rfl rfl (by decide) rfl rfl (pa_cons (pe_lst pa_nil) (pa_cons pe_int pa_nil)) (by rfl))
      (C8.pss_cut (ps_for PassesOwn.never rfl (pi_list (pe_slice sl_list (pv 0) po_none (po_some (pv 3)))) (pg_name (i := 6) scLas.nd rfl (Or.inl rfl))
      (pss_one (ps_if (pt_cmpR op_eq (pe_callB call_len_seq (by rfl) T.len PySem.boot_len (pa_cons (pv 6) pa_nil)) (pe_op op_add (pv 2) pe_int) (nomark _)) (pss_one (ps_set (i := 5) scLas.nd rfl (Or.inl rfl) (pe_op op_add (pv 5) (pe_callTy call_int1 (by rfl) T.int (by decide +kernel) (pa_cons (pe_not (C8.pe_c cG hr (by decide) (by rfl) (pa_cons (pv 1) (pa_cons (pv 4) (pa_cons (C8.pe_c cR hr (by decide) (by rfl) (pa_cons (pv 0) (pa_cons (pv 1) (pa_cons (pv 6) pa_nil)))) pa_nil))))) pa_nil))))) pss_nil)))
      (pss_cons (ps_asg (pe_tup (pa_cons (pe_lst pa_nil) (pa_cons (pe_lst pa_nil) (pa_cons pe_int (pa_cons (pe_lst pa_nil) pa_nil))))) (pg_tup rfl (pgs_cons (pg_name (i := 7) scLas.nd rfl (Or.inl rfl)) (pgs_cons (pg_name (i := 8) scLas.nd rfl (Or.inl rfl)) (pgs_cons (pg_name (i := 9) scLas.nd rfl (Or.inl rfl)) (pgs_cons (pg_name (i := 10) scLas.nd rfl (Or.inl rfl)) pgs_nil))))))
      (pss_cons (ps_for PassesOwn.never rfl (pi_range1 (by rfl) T.rng (pa_cons (pe_op op_add (pe_callB call_len_seq (by rfl) T.len PySem.boot_len (pa_cons (pv 0) pa_nil)) pe_int) pa_nil)) (pg_name (i := 11) scLas.nd rfl (Or.inl rfl))
      (C8.pss_cut (ps_if (pt_cmpR op_ge (pv 11) (pv 3) (nomark _)) (pss_one (ps_expr (pe_bm PySem.F.plainAttrs_list PySem.F.slot_list_append PySem.F.type_list_append mt_append (pv 10) (pa_cons (pe_op op_sub (pv 5) (pv 9)) pa_nil)))) pss_nil)
      (C8.pss_cut (ps_set (i := 6) scLas.nd rfl (Or.inl rfl) (pe_ifExp (pt_cmpR op_lt (pv 11) (pe_callB call_len_seq (by rfl) T.len PySem.boot_len (pa_cons (pv 0) pa_nil)) (nomark _)) (pe_ix ix_list (pv 0) (pv 11) (fun _ _ => rfl)) (pe_tup pa_nil)))
      (pss_one (ps_if (pt_cmpR op_eq (pe_callB call_len_seq (by rfl) T.len PySem.boot_len (pa_cons (pv 6) pa_nil)) (pe_op op_add (pv 2) pe_int) (nomark _)) (pss_cons (ps_set (i := 12) scLas.nd rfl (Or.inl rfl) (C8.pe_c cR hr (by decide) (by rfl) (pa_cons (pv 0) (pa_cons (pv 1) (pa_cons (pv 6) pa_nil)))))
      (pss_cons (ps_set (i := 13) scLas.nd rfl (Or.inl rfl) (pe_op op_cat (pe_op op_rep (pe_lst (pa_cons pe_int pa_nil)) (pv 3)) (pe_slice sl_list (pv 12) (po_some (pv 3)) po_none)))
      (C8.pss_cut (ps_set (i := 9) scLas.nd rfl (Or.inl rfl) (pe_op op_add (pv 9) (pe_callTy call_int1 (by rfl) T.int (by decide +kernel) (pa_cons (C8.pe_c cG hr (by decide) (by rfl) (pa_cons (pv 1) (pa_cons (pv 7) (pa_cons (pv 12) pa_nil)))) pa_nil))))
      (pss_one (ps_set (i := 9) scLas.nd rfl (Or.inl rfl) (pe_op op_sub (pv 9) (pe_callTy call_int1 (by rfl) T.int (by decide +kernel) (pa_cons (C8.pe_c cG hr (by decide) (by rfl) (pa_cons (pv 1) (pa_cons (pv 8) (pa_cons (pv 13) pa_nil)))) pa_nil)))))))) pss_nil)))))
      (pss_one (ps_ret (pv 10)))))), ?_⟩
    -- the rim of a cell
    have rim : ∀ {J : Hp} {Q' : VK} {c : Addr} {l : List Int} {i : Nat}, Ext H J → ll[i]? = some l → J c = some (.tup (l.map V.int)) → (∀ (q : Addr) (J' : Hp), Ext J J' → RowV p ll.length J' q (rimD p ll i) → Q' (.ref q) J') → spLRim ([.ref b, .int p, .ref c] ++ []) J Q' C8.E0 := by
      intro J Q' c l i xJ hl hc kq
      have okl := good_prefix gd hl
      have e : rimD p ll i = rimU p ll (facesL l) := by
        unfold rimU rimD
        rw [getD_of hl]
        rfl
      rw [e] at kq
      exact ⟨b, c, l, ll, p, rfl, ⟨as, xJ _ _ hb, PT2.mono (fun _ _ z => xJ _ _ z) pt⟩, hc, okl.1.1, okl.1.2.1, fun f hf => List.mem_of_mem_take (okl.2.2 f hf), tw.nd, fcs_nd (tw.dis l (List.mem_of_getElem? hl)) okl.1.1 okl.1.2.1, hp, by omega, kq⟩
    refine ⟨Nat.zero_le _, fun bl nbl => ⟨_, _, rfl, ?_⟩⟩
    have x1 := Ext.upd (o := .lst []) nbl
    have hbl : (upd H bl (.lst [])) bl = some (.lst (([] : List Addr).map V.ref)) := upd_same
    generalize upd H bl (.lst []) = H1 at *
    -- the rings that are there
    refine ⟨fun σ' J => ∃ v6 : Option V, σ' = [some (.ref b), some (.int p), some (.int (d : Int)), some (.int (m : Int)), some (.ref bl), some (.int (ringsN p ll d m : Int)), v6, Option.none, Option.none, Option.none, Option.none, Option.none, Option.none, Option.none] ∧ Ext H J, ?_, ?_⟩
    · refine ⟨_, rfl, _, rfl, (m : Int), rfl, b, _, rfl, SqL.of (x1 _ _ hb), fun sl nsl => ?_⟩
      have x2 := Ext.upd (o := .lst (cutV (as.map V.ref) none (some (m : Int)))) nsl
      have hsl : (upd H1 sl (.lst (cutV (as.map V.ref) none (some (m : Int))))) sl = some (.lst ((as.take m).map V.ref)) := by
        rw [upd_same, cut_to (by rw [List.length_map]; omega), List.map_take]
      have nsb : sl ≠ bl := (ne_of_none hbl nsl).symm
      have hbl2 := x2 _ _ hbl
      have x12 := x1.trans x2
      generalize upd H1 sl (.lst (cutV (as.map V.ref) none (some (m : Int)))) = H2 at *
      refine ⟨sl, rfl, ⟨_, SqL.of hsl⟩, for_list (K := K) (a := sl) (xs := (as.take m).map V.ref) (fun u σ' J => ∃ (v6 : Option V) (ks : List (Nat × Vc)), σ' = [some (.ref b), some (.int p), some (.int (d : Int)), some (.int (m : Int)), some (.ref bl), some (.int (ringsN p ll d u : Int)), v6, Option.none, Option.none, Option.none, Option.none, Option.none, Option.none, Option.none] ∧ Ext H J ∧ J sl = some (.lst ((as.take m).map V.ref)) ∧ BasV p ll.length b J bl ks ∧ BasOf p ll.length (colsS (szD ll) (rimD p ll) (d + 1) u) ks ∧ ks.length ≤ u) ⟨_, [], rfl, x12, hsl, ⟨[], hbl2, .nil⟩, BasOf.nil, Nat.le_refl _⟩ (fun u σ' J _ ⟨_, _, _, _, h, _⟩ => SqL.of h) ?_ ?_⟩
      · rintro u y σ' J hy ⟨v6, ks, rfl, xJ, hsl, bv, bo, lk⟩
        obtain ⟨c, hc, rfl⟩ := ref_get hy
        rw [List.getElem?_take] at hc
        split at hc
        rotate_left
        · cases hc
        rename_i um
        obtain ⟨l, hl, hcl⟩ := pt.get hc
        have esz : szD ll u = l.length := by
          unfold szD
          rw [getD_of hl]
        have uN : u < ll.length := (List.getElem?_eq_some_iff.mp hl).1
        refine ⟨_, rfl, c, _, rfl, .inr (SqT.of (xJ _ _ hcl)), _, rfl, _, _, rfl, rfl, rfl, _, rfl, ?_⟩
        refine ite2 (fun z => ?_) (fun z => ?_)
        · have z : szD ll u = d + 1 := by
            have := of_decide_eq_true z
            injection this with this
            rw [List.length_map] at this
            omega
          have bs := RM.born_size uN z
          refine ⟨_, rfl, _, rfl, _, rfl, _, rfl, _, rfl, _, rfl, ?_⟩
          dsimp only [tNil]
          refine rim xJ hl (xJ _ _ hcl) fun q J2 x2' hq => ?_
          refine ⟨p, ll.length, bl, q, b, rimD p ll u, _, ks, rfl, hp, by omega, hq, ⟨_, x2' _ _ (xJ _ _ hb)⟩, bv.ext x2', by omega, bo, fun J3 g3 bv3 sp bo3 => ?_, fun kk J3 g3 bv3 nsp bo3 => ?_⟩
          · refine ⟨_, rfl, .inr ⟨_, rfl, _, _, rfl, rfl, some (.ref c), ks, ?_, g3.ext (xJ.trans x2') nbl, g3 _ _ nsb (x2' _ _ hsl), bv3, ?_, by omega⟩⟩
            · rw [rings_yes ⟨z, bs.mpr sp⟩]
              rfl
            · rw [colsS_yes z]
              exact bo3
          · refine ⟨_, rfl, .inr ⟨_, rfl, _, _, rfl, rfl, some (.ref c), ks ++ [kk], ?_, g3.ext (xJ.trans x2') nbl, g3 _ _ nsb (x2' _ _ hsl), bv3, ?_, by rw [List.length_append]; exact Nat.succ_le_succ lk⟩⟩
            · rw [rings_no fun y => nsp (bs.mp y.2)]
              simp
            · rw [colsS_yes z]
              exact bo3
        · have z : ¬ szD ll u = d + 1 := fun e => z (decide_eq_true (by
            rw [List.length_map]
            show V.int ((l.length : Nat) : Int) = V.int ((d : Int) + 1)
            rw [show ((l.length : Nat) : Int) = (d : Int) + 1 by omega]))
          refine ⟨some (.ref c), ks, ?_, xJ, hsl, bv, ?_, by omega⟩
          · rw [rings_no fun y => z y.1]
            rfl
          · rw [colsS_no z]
            exact bo
      · rintro σ' J ⟨v6, ks, rfl, xJ, _, _, _, _⟩
        refine ⟨v6, ?_, xJ⟩
        rw [List.length_map, List.length_take, la, Nat.min_eq_left mN]
    rintro σ' J0 ⟨v6, rfl, x0⟩
    clear hbl nbl x1
    -- what is gone
    refine ⟨Nat.zero_le _, fun al nal => ⟨Nat.zero_le _, fun le nle => ⟨Nat.zero_le _, fun fo nfo => ?_⟩⟩⟩
    have y1 := Ext.upd (o := .lst []) nal
    have h1 := upd_same (H := J0) (a := al) (o := .lst [])
    generalize upd J0 al (.lst []) = J1 at *
    have y2 := Ext.upd (o := .lst []) nle
    have h2 := upd_same (H := J1) (a := le) (o := .lst [])
    have h12 := y2 _ _ h1
    have nla : le ≠ al := (ne_of_none h1 nle).symm
    generalize upd J1 le (.lst []) = J2 at *
    have y3 := Ext.upd (o := .lst []) nfo
    have h3 := upd_same (H := J2) (a := fo) (o := .lst [])
    have h13 := y3 _ _ h12
    have h23 := y3 _ _ h2
    have nfa : fo ≠ al := (ne_of_none h12 nfo).symm
    have nfl : fo ≠ le := (ne_of_none h2 nfo).symm
    generalize upd J2 fo (.lst []) = J3 at *
    refine ⟨by show 4 ≤ sizeLine; decide, fun t nt => ?_⟩
    have y4 := Ext.upd (o := .tup [V.ref al, .ref le, .int 0, .ref fo]) nt
    have ht := upd_same (H := J3) (a := t) (o := .tup [V.ref al, .ref le, .int 0, .ref fo])
    have h14 := y4 _ _ h13
    have h24 := y4 _ _ h23
    have h34 := y4 _ _ h3
    have x4 := x0.trans (y1.trans (y2.trans (y3.trans y4)))
    have nalH := none_back x0 nal
    have nleH := none_back (x0.trans y1) nle
    have nfoH := none_back (x0.trans (y1.trans y2)) nfo
    generalize upd J3 t (.tup [V.ref al, .ref le, .int 0, .ref fo]) = J4 at *
    refine ⟨t, _, rfl, SqT.of ht, rfl, _, _, rfl, _, _, rfl, _, _, rfl, _, _, rfl, rfl, ?_⟩
    clear h1 h2 h12 h3 h13 h23 ht nt nfo nle nal y1 y2 y3 y4 x0
    refine ⟨_, rfl, b, _, rfl, .inl (SqL.of (x4 _ _ hb)), _, _, rfl, rfl, ((ll.length + 1 : Nat) : Int), by rw [List.length_map, la]; rfl, by omega, by omega, for_range (lo := 0) (n := ll.length + 1) (fun i σ' J => ∃ (v6 v11 v12 v13 : Option V) (k1 k2 : List (Nat × Vc)), σ' = [some (.ref b), some (.int p), some (.int (d : Int)), some (.int (m : Int)), some (.ref bl), some (.int (ringsN p ll d m : Int)), v6, some (.ref al), some (.ref le), some (.int (lostN p ll d m i)), some (.ref fo), v11, v12, v13] ∧ Ext H J ∧ J fo = some (.lst ((lastL p ll d m (i - m)).map V.int)) ∧ BasV p ll.length fo J al k1 ∧ BasOf p ll.length (colsS (szD ll) (rimD p ll) (d + 2) i) k1 ∧ k1.length ≤ i ∧ BasV p ll.length fo J le k2 ∧ BasOf p ll.length ((colsS (szD ll) (rimD p ll) (d + 2) i).map (beh m)) k2 ∧ k2.length ≤ i) ⟨_, _, _, _, [], [], rfl, x4, ?_, ⟨[], h14, .nil⟩, BasOf.nil, Nat.le_refl _, ⟨[], h24, .nil⟩, BasOf.nil, Nat.le_refl _⟩ ?_ ?_⟩
    · rw [Nat.zero_sub]
      exact h34
    · rintro i σ' J hi ⟨v6', v11, v12, v13, k1, k2, rfl, xJ, hfo, bv1, bo1, lk1, bv2, bo2, lk2⟩
      rw [show (0 : Int) + (i : Int) = (i : Int) from Int.zero_add _]
      -- what lasts at this moment
      refine ⟨fun σ' J' => σ' = [some (.ref b), some (.int p), some (.int (d : Int)), some (.int (m : Int)), some (.ref bl), some (.int (ringsN p ll d m : Int)), v6', some (.ref al), some (.ref le), some (.int (lostN p ll d m i)), some (.ref fo), some (nv i), v12, v13] ∧ Ext H J' ∧ J' fo = some (.lst ((lastL p ll d m (i + 1 - m)).map V.int)) ∧ BasV p ll.length fo J' al k1 ∧ BasV p ll.length fo J' le k2, ?_, ?_⟩
      · refine ⟨_, rfl, _, rfl, _, _, rfl, rfl, _, rfl, ?_⟩
        refine ite2 (fun z => ?_) (fun z => ?_)
        · have z : m ≤ i := by
            have := of_decide_eq_true z
            omega
          have ll' : (lastL p ll d m (i - m)).length = i - m := by
            unfold lastL
            rw [List.length_map, List.length_range]
          refine ⟨_, rfl, .inl ⟨rfl, _, SqL.of hfo⟩, _, rfl, _, rfl, _, _, rfl, rfl, fo, _, _, rfl, rfl, hfo, small1000 (by rw [List.length_map, ll']; omega), rfl, fun b' o' hb' => ?_, ?_, bv1.put hfo nfa.symm, bv2.put hfo nfl.symm⟩
          · rw [upd_ne (ne_of_none hb' nfoH)]
            exact xJ _ _ hb'
          · rw [upd_same, show i + 1 - m = (i - m) + 1 by omega, lastL_succ, show m + (i - m) = i by omega, List.map_append]
            rfl
        · have z : ¬ m ≤ i := fun q => z (decide_eq_true (by show (m : Int) ≤ (i : Int); omega))
          refine ⟨rfl, xJ, ?_, bv1, bv2⟩
          rw [show i + 1 - m = i - m by omega]
          exact hfo
      rintro σ' J5 ⟨rfl, xJ5, hfo5, bv15, bv25⟩
      clear bv1 bv2 hfo xJ
      -- the cell
      refine ⟨fun σ' J' => ∃ c : Addr, σ' = [some (.ref b), some (.int p), some (.int (d : Int)), some (.int (m : Int)), some (.ref bl), some (.int (ringsN p ll d m : Int)), some (.ref c), some (.ref al), some (.ref le), some (.int (lostN p ll d m i)), some (.ref fo), some (nv i), v12, v13] ∧ Ext J5 J' ∧ ((∃ l, ll[i]? = some l ∧ J' c = some (.tup (l.map V.int)) ∧ szD ll i = l.length) ∨ (J' c = some (.tup []) ∧ szD ll i = 0)), ?_, ?_⟩
      · refine ⟨_, rfl, _, rfl, b, _, rfl, .inl (SqL.of (xJ5 _ _ hb)), _, _, rfl, rfl, _, rfl, ?_⟩
        refine ite2 (fun z => ?_) (fun z => ?_)
        · have z : i < ll.length := by
            have := of_decide_eq_true z
            rw [List.length_map, la] at this
            omega
          obtain ⟨c, hc⟩ : ∃ c, as[i]? = some c := ⟨_, List.getElem?_eq_getElem (by rw [la]; exact z)⟩
          obtain ⟨l, hl, hcl⟩ := pt.get hc
          refine ⟨_, rfl, _, rfl, b, _, (i : Int), .ref c, rfl, rfl, SqL.of (xJ5 _ _ hb), at_of (j := i) rfl (by rw [List.getElem?_map, hc]; rfl), c, rfl, Ext.rfl', .inl ⟨l, hl, xJ5 _ _ hcl, ?_⟩⟩
          unfold szD
          rw [getD_of hl]
        · refine ⟨Nat.zero_le _, fun c nc => ⟨c, rfl, Ext.upd nc, .inr ⟨upd_same, ?_⟩⟩⟩
          have z : ¬ i < ll.length := fun q => z (decide_eq_true (by
            rw [List.length_map, la]
            omega))
          unfold szD
          rw [List.getD_eq_getElem?_getD, List.getElem?_eq_none (by omega)]
          rfl
      rintro σ' J6 ⟨c, rfl, x6, cas⟩
      have xJ6 := xJ5.trans x6
      have hfo6 := x6 _ _ hfo5
      have bv16 := bv15.ext x6
      have bv26 := bv25.ext x6
      have clen : ∃ xs, J6 c = some (.tup xs) ∧ xs.length = szD ll i := by
        rcases cas with ⟨l, _, h1, h2⟩ | ⟨h1, h2⟩
        · exact ⟨_, h1, by rw [List.length_map, h2]⟩
        · exact ⟨_, h1, by rw [h2]; rfl⟩
      obtain ⟨xs, hxs, lxs⟩ := clen
      refine ⟨_, rfl, c, _, rfl, .inr (SqT.of hxs), _, rfl, _, _, rfl, rfl, rfl, _, rfl, ?_⟩
      refine ite2 (fun z => ?_) (fun z => ?_)
      rotate_left
      · have z : ¬ szD ll i = d + 2 := fun e => z (decide_eq_true (by
          show V.int ((xs.length : Nat) : Int) = V.int ((d : Int) + 2)
          rw [show ((xs.length : Nat) : Int) = (d : Int) + 2 by omega]))
        refine ⟨some (.ref c), some (nv i), v12, v13, k1, k2, ?_, xJ6, hfo6, bv16, ?_, by omega, bv26, ?_, by omega⟩
        · rw [lost_none z]
        · rw [colsS_no z]
          exact bo1
        · rw [colsS_no z]
          exact bo2
      have z : szD ll i = d + 2 := by
        have := of_decide_eq_true z
        injection this with this
        omega
      obtain ⟨l, hl, hcl, _⟩ : ∃ l, ll[i]? = some l ∧ J6 c = some (.tup (l.map V.int)) ∧ szD ll i = l.length := by
        rcases cas with h | ⟨_, h2⟩
        · exact h
        · omega
      have iN : i < ll.length := (List.getElem?_eq_some_iff.mp hl).1
      have bs := RM.born_size (d := d + 1) iN z
      refine ⟨_, rfl, _, rfl, _, rfl, ?_⟩
      dsimp only [tNil]
      refine rim xJ6 hl hcl fun q J7 x7 hq => ?_
      obtain ⟨ns, hns, g, en⟩ := id hq
      -- behind
      refine ⟨by show 1 ≤ sizeLine; decide, fun p1 np1 => ⟨_, rfl, p1, (m : Int), [V.int 0], rfl, rfl, upd_same, by omega, by omega, by show 1 * _ ≤ sizeLine; rw [sizeLine_eq]; omega, fun p2 np2 => ?_⟩⟩
      have w1 := Ext.upd (o := .lst [V.int 0]) np1
      have w2 := Ext.upd (o := .lst (List.replicate (m : Int).toNat [V.int 0]).flatten) np2
      have hp2 : (upd (upd J7 p1 (.lst [V.int 0])) p2 (.lst (List.replicate (m : Int).toNat [V.int 0]).flatten)) p2 = some (.lst ((List.replicate m (0 : Int)).map V.int)) := by
        rw [upd_same, List.flatten_replicate_singleton, List.map_replicate]
        rfl
      have w12 := w1.trans w2
      generalize upd (upd J7 p1 (.lst [V.int 0])) p2 (.lst (List.replicate (m : Int).toNat [V.int 0]).flatten) = J8 at *
      refine ⟨_, rfl, _, rfl, (m : Int), rfl, q, _, rfl, SqL.of (w12 _ _ hns), fun p3 np3 => ?_⟩
      have w3 := Ext.upd (o := .lst (cutV (ns.map V.int) (some (m : Int)) none)) np3
      have hp3 : (upd J8 p3 (.lst (cutV (ns.map V.int) (some (m : Int)) none))) p3 = some (.lst ((ns.drop m).map V.int)) := by
        rw [upd_same, cut_from, List.map_drop]
      have hp23 := w3 _ _ hp2
      have w13 := w12.trans w3
      generalize upd J8 p3 (.lst (cutV (ns.map V.int) (some (m : Int)) none)) = J9 at *
      refine ⟨p2, p3, _, _, rfl, rfl, hp23, hp3, by rw [List.length_map, List.length_map, List.length_replicate, List.length_drop, g.1, sizeLine_eq]; omega, fun bh nbh => ?_⟩
      have w4 := Ext.upd (o := .lst ((List.replicate m (0 : Int)).map V.int ++ (ns.drop m).map V.int)) nbh
      have hbh : RowV p ll.length (upd J9 bh (.lst ((List.replicate m (0 : Int)).map V.int ++ (ns.drop m).map V.int))) bh (beh m (rimD p ll i)) := ⟨List.replicate m 0 ++ ns.drop m, by rw [upd_same, List.map_append], ⟨by rw [List.length_append, List.length_replicate, List.length_drop, g.1]; omega, fun x hx => by
        rcases List.mem_append.mp hx with h | h
        · rw [List.eq_of_mem_replicate h]
          have := hp.le
          exact ⟨by decide, by omega⟩
        · exact g.2 x (List.mem_of_mem_drop h)⟩, fun t ht => by
        unfold beh
        rw [List.getD_eq_getElem?_getD]
        by_cases mt : m ≤ t
        · rw [if_pos mt, List.getElem?_append_right (by rw [List.length_replicate]; exact mt), List.length_replicate, List.getElem?_drop, show m + (t - m) = t by omega, ← List.getD_eq_getElem?_getD]
          exact en t ht
        · rw [if_neg mt, List.getElem?_append_left (by rw [List.length_replicate]; omega), List.getElem?_replicate, if_pos (by omega)]
          rfl⟩
      have x610 : Ext J6 (upd J9 bh (.lst ((List.replicate m (0 : Int)).map V.int ++ (ns.drop m).map V.int))) := x7.trans (w13.trans w4)
      have hq10 := hq.ext (w13.trans w4)
      generalize upd J9 bh (.lst ((List.replicate m (0 : Int)).map V.int ++ (ns.drop m).map V.int)) = J10 at *
      have xJ10 := xJ6.trans x610
      have hfo10 := x610 _ _ hfo6
      have bv110 := bv16.ext x610
      have bv210 := bv26.ext x610
      clear hp3 hp23 hp2 w12 w13 w1 w2 w3 w4 np1 np2 np3 nbh
      -- in all
      refine ⟨fun σ' J' => ∃ (a : Bool) (k1' : List (Nat × Vc)), σ' = [some (.ref b), some (.int p), some (.int (d : Int)), some (.int (m : Int)), some (.ref bl), some (.int (ringsN p ll d m : Int)), some (.ref c), some (.ref al), some (.ref le), some (.int (lostN p ll d m i + (if a = true then 1 else 0))), some (.ref fo), some (nv i), some (.ref q), some (.ref bh)] ∧ Ext H J' ∧ J' fo = some (.lst ((lastL p ll d m (i + 1 - m)).map V.int)) ∧ RowV p ll.length J' bh (beh m (rimD p ll i)) ∧ BasV p ll.length fo J' al k1' ∧ BasOf p ll.length (colsS (szD ll) (rimD p ll) (d + 2) (i + 1)) k1' ∧ k1'.length ≤ i + 1 ∧ BasV p ll.length fo J' le k2 ∧ (a = true ↔ ¬ Born p ll.length (rimD p ll) i), ?_, ?_⟩
      · obtain ⟨ca, hal, _⟩ := id bv110
        have fin : ∀ {J11 : Hp}, GoD al J10 J11 → Ext H J11 ∧ J11 fo = some (.lst ((lastL p ll d m (i + 1 - m)).map V.int)) ∧ RowV p ll.length J11 bh (beh m (rimD p ll i)) ∧ BasV p ll.length fo J11 le k2 := fun {J11} g11 => ⟨g11.ext xJ10 nalH, g11 _ _ nfa hfo10, by
          have ne := hbh.ne (by omega) hal
          obtain ⟨ms, e1, e2, e3⟩ := hbh
          exact ⟨ms, g11 _ _ ne e1, e2, e3⟩, bv210.go hal nla g11⟩
        refine ⟨_, rfl, _, rfl, _, rfl, _, rfl, p, ll.length, al, q, fo, rimD p ll i, _, k1, rfl, hp, by omega, hq10, ⟨_, hfo10⟩, bv110, by omega, bo1, fun J11 g11 bv sp bo => ?_, fun kk J11 g11 bv nsp bo => ?_⟩
        · obtain ⟨f1, f2, f3, f4⟩ := fin g11
          refine .inr ⟨_, rfl, _, _, rfl, rfl, false, k1, rfl, f1, f2, f3, bv, ?_, by omega, f4, ⟨(fun h => nomatch h), fun h => absurd (bs.mpr sp) h⟩⟩
          rw [colsS_yes z]
          exact bo
        · obtain ⟨f1, f2, f3, f4⟩ := fin g11
          refine .inr ⟨_, rfl, _, _, rfl, rfl, true, k1 ++ [kk], rfl, f1, f2, f3, bv, ?_, by rw [List.length_append]; exact Nat.succ_le_succ lk1, f4, ⟨fun _ h => nsp (bs.mp h), fun _ => rfl⟩⟩
          rw [colsS_yes z]
          exact bo
      rintro σ' J11 ⟨a, k1', rfl, xJ11, hfo11, hbh11, bv111, bo1', lk1', bv211, ha⟩
      -- behind
      obtain ⟨ce, hle, _⟩ := id bv211
      have eB : (colsS (szD ll) (rimD p ll) (d + 2) (i + 1)).map (beh m) = (colsS (szD ll) (rimD p ll) (d + 2) i).map (beh m) ++ [beh m (rimD p ll i)] := by
        rw [colsS_yes z, List.map_append]
        rfl
      refine ⟨_, rfl, _, rfl, _, rfl, _, rfl, p, ll.length, le, bh, fo, beh m (rimD p ll i), _, k2, rfl, hp, by omega, hbh11, ⟨_, hfo11⟩, bv211, by omega, bo2, fun J12 g12 bv sp bo => ?_, fun kk J12 g12 bv nsp bo => ?_⟩
      · refine .inr ⟨_, rfl, _, _, rfl, rfl, some (.ref c), some (nv i), some (.ref q), some (.ref bh), k1', k2, ?_, g12.ext xJ11 nleH, g12 _ _ nfl hfo11, bv111.go hle nla.symm g12, bo1', lk1', bv, ?_, by omega⟩
        · rw [lost_some z a false ha ⟨(fun h => nomatch h), fun h => absurd sp h⟩]
          rfl
        · rw [eB]
          exact bo
      · refine .inr ⟨_, rfl, _, _, rfl, rfl, some (.ref c), some (nv i), some (.ref q), some (.ref bh), k1', k2 ++ [kk], ?_, g12.ext xJ11 nleH, g12 _ _ nfl hfo11, bv111.go hle nla.symm g12, bo1', lk1', bv, ?_, by rw [List.length_append]; exact Nat.succ_le_succ lk2⟩
        · rw [lost_some z a true ha ⟨fun _ => nsp, fun _ => rfl⟩]
          rfl
        · rw [eB]
          exact bo
    · rintro σ' J ⟨v6', v11, v12, v13, k1, k2, rfl, xJ, hfo, _⟩
      exact ⟨_, rfl, k fo J xJ hfo⟩
end
end L40

set_option Elab.async false
set_option linter.all false
set_option maxRecDepth 100000
set_option maxHeartbeats 4000000
set_option pp.maxSteps 100
/-! _law_is_number, _law_is_form. -/
namespace L40
open PySem L2 M40
abbrev sLIn : Stmt := top 37
abbrev sFor : Stmt := top 38
def spLIn : Sp := fun vs H Q _ => ∃ i b : Int, vs = [.int i, .int b] ∧ 0 ≤ i ∧ i < b ∧ Q (.bl true) H
/-- the bars stand in a tuple -/
def BarsAt (H : Hp) (t : Addr) (L : List (Nat × Option Nat)) : Prop := ∃ xs, H t = some (.tup xs) ∧ Two (BarIs H) xs L
theorem BarIs.ext {H H' : Hp} {x : V} {g : Nat × Option Nat} (e : Ext H H') (h : BarIs H x g) : BarIs H' x g := let ⟨q, h1, h2⟩ := h; ⟨q, h1, e _ _ h2⟩
theorem BarsAt.ext {H H' : Hp} {t : Addr} {L : List (Nat × Option Nat)} (e : Ext H H') (h : BarsAt H t L) : BarsAt H' t L := let ⟨xs, h1, h2⟩ := h; ⟨xs, e _ _ h1, h2.imp fun _ _ z => z.ext e⟩
theorem bornL_up (p : Int) (ll : List (List Int)) (d n : Nat) : (bornL p ll d n).Pairwise (· < ·) := List.Pairwise.filter _ List.pairwise_lt_range
theorem BarsOf.at {p : Int} {ll : List (List Int)} {d : Nat} {L : List (Nat × Option Nat)} (B : BarsOf p ll d L) {t : Nat} {g : Nat × Option Nat} (h : L[t]? = some g) : (bornL p ll d ll.length)[t]? = some g.1 := by
  rw [← B.fst, List.getElem?_map, h]
  rfl
theorem BarsOf.lt {p : Int} {ll : List (List Int)} {d : Nat} {L : List (Nat × Option Nat)} (B : BarsOf p ll d L) {t u : Nat} {g h : Nat × Option Nat} (hg : L[t]? = some g) (hh : L[u]? = some h) (tu : t < u) : g.1 < h.1 := by
  obtain ⟨a1, a2⟩ := List.getElem?_eq_some_iff.mp (B.at hg)
  obtain ⟨b1, b2⟩ := List.getElem?_eq_some_iff.mp (B.at hh)
  have := List.pairwise_iff_getElem.mp (bornL_up p ll d ll.length) t u a1 b1 tu
  rw [a2, b2] at this
  exact this
theorem BarsOf.below {p : Int} {ll : List (List Int)} {d : Nat} {L : List (Nat × Option Nat)} (B : BarsOf p ll d L) {t : Nat} {g : Nat × Option Nat} (hg : L[t]? = some g) : g.1 < ll.length := by
  have := List.mem_of_getElem? (B.at hg)
  unfold bornL at this
  exact List.mem_range.mp (List.mem_filter.mp this).1
def spFor : Sp := fun vs H Q _ => ∃ (t c : Addr) (ll : List (List Int)) (p : Int) (d : Nat) (L : List (Nat × Option Nat)), vs = [.ref t, .ref c, .int (d : Int)] ∧ BarsAt H t L ∧ BarsOf p ll d L ∧ CLs H c ll ∧ Rims p ll.length (szD ll) (rimD p ll) ∧ ∀ H', Ext H H' → Q (.bl true) H'
section
variable {P : Program} {w : World} {K : PySem.W.Frag} {mg : Str → Option Value} {base : Heap}
abbrev lInN : List Str := ["_law_thing","_law_below"]
theorem scLIn : FnScope lInN ["_law_thing", "_law_below"] (defScope sLIn) := ⟨rfl, rfl, rfl, by decide +kernel, rfl, by decide +kernel, by decide +kernel⟩
theorem ok_lIn {f : Addr} {fd : FuncData} (F : L2.Fun K "_law_is_number" "_law_is_number" sLIn f fd) (T : Gb mg) : FnOk P w K mg base CX0 1 f fd ["_law_thing", "_law_below"] spLIn := by
  refine F.ok scLIn (fun vs H Q E h => ?_) (fun cdv A outer s H vs Q E hr h => ?_)
  · obtain ⟨i, b, rfl, _⟩ := h
    rfl
  · obtain ⟨i, b, rfl, i0, ib, k⟩ := h
    refine ⟨_, pss_one (ps_ret (pe_and (pe_callB call_isi (by rfl) T.isi (by decide +kernel) (pa_cons (pv 0) (pa_cons (pe_bltn (v := .ty "int") (by rfl) T.int (by decide +kernel) rfl) pa_nil))) (pe_and (pe_not (pe_callB call_isi (by rfl) T.isi (by decide +kernel) (pa_cons (pv 0) (pa_cons (pe_bltn (v := .ty "bool") (by rfl) T.bool (by decide +kernel) rfl) pa_nil)))) (pe_one (pe_chain op_le op_lt pe_int (pv 0) (pv 1)))))), ?_⟩
    refine ⟨_, rfl, _, .ty "int", .type "int", .type "int", true, rfl, .ty _, .base (.int _), kit_ty (by decide +kernel), ?_⟩
    refine ⟨_, rfl, ?_⟩
    refine iteT ⟨_, rfl, _, .ty "bool", .type "int", .type "bool", false, rfl, .ty _, .base (.int _), kit_ty (by decide +kernel), _, rfl, ?_⟩
    refine ⟨_, rfl, iteT ?_⟩
    refine ⟨_, rfl, _, _, rfl, rfl, _, rfl, ?_⟩
    rw [decide_eq_true i0]
    refine iteT ⟨_, rfl, _, _, rfl, rfl, ?_⟩
    dsimp only
    rw [decide_eq_true ib]
    exact k
abbrev forN : List Str := ["_law_bars","_law_cells","_law_deep","_law_last","_law_bar"]
theorem scFor : FnScope forN ["_law_bars", "_law_cells", "_law_deep"] (defScope sFor) := ⟨rfl, rfl, rfl, by decide +kernel, rfl, by decide +kernel, by decide +kernel⟩
theorem ok_for {f : Addr} {fd : FuncData} (F : L2.Fun K "_law_is_form" "_law_is_form" sFor f fd) (T : Gb mg) (cN : Cal P w K mg base 1 "_law_is_number" spLIn []) : FnOk P w K mg base CX0 2 f fd ["_law_bars", "_law_cells", "_law_deep"] spFor := by
  refine F.ok scFor (fun vs H Q E h => ?_) (fun cdv A outer s H vs Q E hr h => ?_)
  · obtain ⟨t, c, ll, p, d, L, rfl, _⟩ := h
    rfl
  · obtain ⟨t, c, ll, p, d, L, rfl, ⟨xs, ht, two⟩, B, ⟨as, hc, pt⟩, R, k⟩ := h
    have la : as.length = ll.length := Paired.length pt
    refine ⟨_, pss_cons (ps_if (pt_not (pt_val (pe_callB call_isi (by rfl) T.isi (by decide +kernel) (pa_cons (pv 0) (pa_cons (pe_bltn (v := .ty "tuple") (by rfl) T.tup (by decide +kernel) rfl) pa_nil))))) (pss_one (ps_ret pe_bl)) pss_nil)
      (pss_cons (ps_set (i := 3) scFor.nd rfl (Or.inl rfl) (pe_un un_neg pe_int))
      (pss_cons (ps_for PassesOwn.never rfl (pi_tup (pv 0)) (pg_name (i := 4) scFor.nd rfl (Or.inl rfl))
      (C8.pss_cut (ps_if (PW.pt (pw_or (pt_not (pt_val (pe_callB call_isi (by rfl) T.isi (by decide +kernel) (pa_cons (pv 4) (pa_cons (pe_bltn (v := .ty "tuple") (by rfl) T.tup (by decide +kernel) rfl) pa_nil))))) (pw_or (pt_cmpR op_ne (pe_callB call_len_seq (by rfl) T.len PySem.boot_len (pa_cons (pv 4) pa_nil)) pe_int (nomark _)) (pw_or1 (pt_not (pt_val (C8.pe_c cN hr (by decide) (by rfl) (pa_cons (pe_ix ix_tup (pv 4) pe_int (fun _ _ => rfl)) (pa_cons (pe_callB call_len_seq (by rfl) T.len PySem.boot_len (pa_cons (pv 1) pa_nil)) pa_nil))))))))) (pss_one (ps_ret pe_bl)) pss_nil)
      (C8.pss_cut (ps_if (PW.pt (pw_and (pt_cmpR op_notN (pe_ix ix_tup (pv 4) pe_int (fun _ _ => rfl)) pe_non (nomark _)) (pw_and1 (PW.pt (pw_or (pt_not (pt_val (C8.pe_c cN hr (by decide) (by rfl) (pa_cons (pe_ix ix_tup (pv 4) pe_int (fun _ _ => rfl)) (pa_cons (pe_callB call_len_seq (by rfl) T.len PySem.boot_len (pa_cons (pv 1) pa_nil)) pa_nil))))) (pw_or1 (pt_cmpR op_le (pe_ix ix_tup (pv 4) pe_int (fun _ _ => rfl)) (pe_ix ix_tup (pv 4) pe_int (fun _ _ => rfl)) (nomark _)))))))) (pss_one (ps_ret pe_bl)) pss_nil)
      (C8.pss_cut (ps_if (pt_cmpR op_le (pe_ix ix_tup (pv 4) pe_int (fun _ _ => rfl)) (pv 3) (nomark _)) (pss_one (ps_ret pe_bl)) pss_nil)
      (pss_one (ps_set (i := 3) scFor.nd rfl (Or.inl rfl) (pe_ix ix_tup (pv 4) pe_int (fun _ _ => rfl))))))))
      (pss_one (ps_ret pe_bl)))), ?_⟩
    refine ⟨_, rfl, _, .ty "tuple", .type "tuple", .type "tuple", true, rfl, .ty _, .base (.tup ht), kit_ty (by decide +kernel), _, rfl, ?_⟩
    refine iteF ?_
    refine ⟨_, rfl, ?_⟩
    refine ⟨_, rfl, t, rfl, ⟨_, SqT.of ht⟩, for_tup (K := K) (a := t) (xs := xs) (fun u σ' J => ∃ (la : Int) (v4 : Option V), σ' = [some (.ref t), some (.ref c), some (.int (d : Int)), some (.int la), v4] ∧ J = H ∧ ∀ s g, u ≤ s → L[s]? = some g → la < (g.1 : Int)) ⟨_, _, rfl, rfl, fun s g _ _ => by omega⟩ (fun u σ' J _ ⟨_, _, _, e, _⟩ => by rw [e]; exact SqT.of ht) ?_ ?_⟩
    rotate_left
    · rintro σ' J ⟨la', v4, rfl, rfl, _⟩
      exact k _ Ext.rfl'
    rintro u y σ' J hy ⟨lst, v4, rfl, rfl, up⟩
    obtain ⟨⟨b, g⟩, hg, q, rfl, hq⟩ := two.get hy
    have bN := B.below hg
    have lb := up u _ (Nat.le_refl _) hg
    have gm := List.mem_of_getElem? hg
    have a0 : atI [V.int (b : Int), gV g] 0 = some (V.int (b : Int)) := at_of (j := 0) rfl rfl
    have a1 : atI [V.int (b : Int), gV g] 1 = some (gV g) := at_of (j := 1) rfl rfl
    have lc : (as.map V.ref).length = ll.length := by rw [List.length_map, la]
    refine ⟨fun σ' J' => σ' = [some (.ref t), some (.ref c), some (.int (d : Int)), some (.int lst), some (.ref q)] ∧ J' = J, ?_, ?_⟩
    · refine ⟨_, rfl, _, .ty "tuple", .type "tuple", .type "tuple", true, rfl, .ty _, .base (.tup hq), kit_ty (by decide +kernel), _, rfl, ?_⟩
      refine iteF ⟨_, rfl, q, _, rfl, .inr (SqT.of hq), rfl, _, rfl, ?_⟩
      have h2 : (!decide (V.int (([V.int ((b, g).1 : Int), gV (b, g).2].length : Nat) : Int) = V.int 2)) = false := rfl
      rw [h2]
      refine iteF ⟨_, rfl, q, _, (0 : Int), V.int (b : Int), rfl, rfl, SqT.of hq, a0, _, rfl, c, _, rfl, .inl (SqL.of hc), (b : Int), ((as.map V.ref).length : Int), rfl, by omega, by rw [lc]; omega, _, rfl, ?_⟩
      exact iteF ⟨rfl, rfl⟩
    rintro σ' J' ⟨rfl, rfl⟩
    refine ⟨fun σ' J'' => σ' = [some (.ref t), some (.ref c), some (.int (d : Int)), some (.int lst), some (.ref q)] ∧ J'' = J', ?_, ?_⟩
    · refine ⟨_, rfl, q, _, (1 : Int), gV g, rfl, rfl, SqT.of hq, a1, rfl, _, rfl, ?_⟩
      cases g with
      | none => exact iteF ⟨rfl, rfl⟩
      | some j =>
        obtain ⟨hj, lo⟩ := B.yes _ gm j rfl
        have lt := (R.low hj lo).1
        have lt : b < j := lt
        have e : (!decide (gV (some j) = V.non)) = true := rfl
        rw [e]
        refine iteT ⟨_, rfl, q, _, (1 : Int), V.int (j : Int), rfl, rfl, SqT.of hq, a1, _, rfl, c, _, rfl, .inl (SqL.of hc), (j : Int), ((as.map V.ref).length : Int), rfl, by omega, by rw [lc]; omega, _, rfl, ?_⟩
        refine iteF ⟨_, rfl, q, _, (1 : Int), V.int (j : Int), rfl, rfl, SqT.of hq, a1, _, rfl, q, _, (0 : Int), V.int (b : Int), rfl, rfl, SqT.of hq, a0, _, _, rfl, rfl, _, rfl, ?_⟩
        rw [decide_eq_false (show ¬ (j : Int) ≤ (b : Int) by omega)]
        exact iteF ⟨rfl, rfl⟩
    rintro σ' J'' ⟨rfl, rfl⟩
    refine ⟨fun σ' J' => σ' = [some (.ref t), some (.ref c), some (.int (d : Int)), some (.int lst), some (.ref q)] ∧ J' = J'', ?_, ?_⟩
    · refine ⟨_, rfl, q, _, (0 : Int), V.int (b : Int), rfl, rfl, SqT.of hq, a0, _, rfl, _, _, rfl, rfl, _, rfl, ?_⟩
      have lb : lst < (b : Int) := lb
      rw [decide_eq_false (show ¬ (b : Int) ≤ lst by omega)]
      exact iteF ⟨rfl, rfl⟩
    rintro σ' J' ⟨rfl, rfl⟩
    refine ⟨_, rfl, q, _, (0 : Int), V.int (b : Int), rfl, rfl, SqT.of hq, a0, (b : Int), _, rfl, rfl, fun s h us hs => ?_⟩
    have := B.lt hg hs (by omega)
    have this : b < h.1 := this
    omega
end
end L40

set_option Elab.async false
set_option linter.all false
set_option maxRecDepth 100000
set_option maxHeartbeats 4000000
set_option pp.maxSteps 100
/-! _law_right. -/
namespace L40
open PySem L2 M40
abbrev sRig : Stmt := top 39
/-! ### bars as data -/
def gD : Option Nat → PyData
  | none => .none
  | some j => .int (j : Int)
def bD (x : Nat × Option Nat) : PyData := .tuple [.int (x.1 : Int), gD x.2]
theorem dp_gV {K : PySem.W.Frag} {H : Hp} : ∀ g : Option Nat, Dp K H (gV g) (gD g)
  | none => .non
  | some j => .int (j : Int)
theorem dp_bar {K : PySem.W.Frag} {H : Hp} {x : V} {g : Nat × Option Nat} (h : BarIs H x g) : Dp K H x (bD g) := by
  obtain ⟨q, rfl, h⟩ := h
  exact .tup (SqT.of h) (.cons (.int (g.1 : Int)) (.cons (dp_gV g.2) .nil))
theorem dp_bars {K : PySem.W.Frag} {H : Hp} : ∀ {xs : List V} {L : List (Nat × Option Nat)}, Two (BarIs H) xs L → DpAll K H xs (L.map bD)
  | _, _, .nil => .nil
  | _, _, .cons h t => .cons (dp_bar h) (dp_bars t)
theorem gD_lay (g : Option Nat) : (gD g).canLay0 = true := by cases g <;> rfl
theorem gD_depth (g : Option Nat) : (gD g).depth = 0 := by cases g <;> rfl
theorem bDs_lay : ∀ L : List (Nat × Option Nat), PyData.canLayAll0 (L.map bD) = true
  | [] => rfl
  | x :: L => by
    show ((bD x).canLay0 && PyData.canLayAll0 (L.map bD)) = true
    rw [bDs_lay L]
    unfold bD
    simp [PyData.canLay0, PyData.canLayAll0, gD_lay]
theorem bDs_depth : ∀ L : List (Nat × Option Nat), PyData.depthAll (L.map bD) ≤ 1
  | [] => by simp [PyData.depthAll]
  | x :: L => by
    have := bDs_depth L
    have e : (bD x).depth = 1 := by
      unfold bD
      simp [PyData.depth, PyData.depthAll, gD_depth]
    show max (bD x).depth (PyData.depthAll (L.map bD)) ≤ 1
    rw [e]
    omega
theorem bDs_shaped (L : List (Nat × Option Nat)) : SeqAt.shaped (.tuple (L.map bD)) = true := by
  have := bDs_depth L
  unfold SeqAt.shaped
  simp [PyData.canLay0, PyData.depth, bDs_lay]
  omega
theorem bD_self (x : Nat × Option Nat) : PyData.eqv (bD x) (bD x) = true := by
  obtain ⟨b, g⟩ := x
  have e1 : PyData.eqv (.int (b : Int)) (.int (b : Int)) = true := decide_eq_true rfl
  have e2 : PyData.eqv (gD g) (gD g) = true := by
    cases g with
    | none => rfl
    | some j => exact decide_eq_true rfl
  show (PyData.eqv (.int (b : Int)) (.int (b : Int)) && (PyData.eqv (gD g) (gD g) && true)) = true
  rw [e1, e2]
  rfl
theorem bDs_self : ∀ L : List (Nat × Option Nat), PyData.eqvAll (L.map bD) (L.map bD) = true
  | [] => rfl
  | x :: L => by
    show (PyData.eqv (bD x) (bD x) && PyData.eqvAll (L.map bD) (L.map bD)) = true
    rw [bDs_self L, bD_self]
    rfl
theorem same_bars {K : PySem.W.Frag} {H : Hp} {p q : Addr} {L : List (Nat × Option Nat)} {Q : VK} (h1 : BarsAt H p L) (h2 : BarsAt H q L) (h : Q (.bl false) H) : rNeD K (.ref p) (.ref q) H Q := by
  obtain ⟨xs, a1, a2⟩ := h1
  obtain ⟨ys, b1, b2⟩ := h2
  refine ⟨.tuple (L.map bD), .tuple (L.map bD), .tup (SqT.of a1) (dp_bars a2), .tup (SqT.of b1) (dp_bars b2), bDs_shaped _, bDs_shaped _, ?_⟩
  have e : PyData.eqv (.tuple (L.map bD)) (.tuple (L.map bD)) = true := bDs_self L
  rw [e]
  exact h
/-! ### counting -/
def lastB (n : Nat) : Option Nat → Bool
  | none => true
  | some j => decide (n ≤ j)
theorem cnt_cut {P : Nat → Prop} {m : Nat} (h : ∀ b, P b → b < m) : ∀ {n : Nat}, m ≤ n → cnt n P = cnt m P
  | n, e => by
    induction n with
    | zero =>
      have : m = 0 := by omega
      rw [this]
    | succ n ih =>
      by_cases q : m = n + 1
      · rw [q]
      · rw [cnt_no fun z => by have := h _ z; omega]
        exact ih (by omega)
open Classical in
theorem bars_count {p : Int} {ll : List (List Int)} {d : Nat} {L : List (Nat × Option Nat)} (B : BarsOf p ll d L) (R : Rims p ll.length (szD ll) (rimD p ll)) {m n : Nat} (hm : m ≤ ll.length) (hn : n ≤ ll.length) :
    (((L.filter fun x => decide (x.1 < m)).filter fun x => lastB n x.2).length : Int) = (ringsN p ll d m : Int) - lostN p ll d m n := by
  have key : ∀ x ∈ L, (lastB n x.2 && decide (x.1 < m)) = decide (x.1 < m ∧ ∀ j, j < ll.length → M40.Low p ll.length (rimD p ll) j x.1 → n ≤ j) := fun x hx => by
    have a1 := B.yes x hx
    have a2 := B.no x hx
    by_cases q : x.1 < m
    · cases hg : x.2 with
      | none =>
        have := a2 hg
        rw [decide_eq_true q, decide_eq_true (⟨q, fun j hj lo => absurd lo (this j hj)⟩ : x.1 < m ∧ ∀ j, j < ll.length → M40.Low p ll.length (rimD p ll) j x.1 → n ≤ j)]
        rfl
      | some j =>
        obtain ⟨hj, lo⟩ := a1 j hg
        have un : ∀ j', j' < ll.length → M40.Low p ll.length (rimD p ll) j' x.1 → j' = j := fun j' hj' lo' => by
          rcases Nat.lt_trichotomy j' j with l | e | l
          · exact (R.once hj l lo' lo).elim
          · exact e
          · exact (R.once hj' l lo lo').elim
        rw [decide_eq_true q]
        show (decide (n ≤ j) && true) = _
        by_cases z : n ≤ j
        · rw [decide_eq_true z, decide_eq_true (⟨q, fun j' hj' lo' => by rw [un j' hj' lo']; exact z⟩ : x.1 < m ∧ ∀ j, j < ll.length → M40.Low p ll.length (rimD p ll) j x.1 → n ≤ j)]
          rfl
        · rw [decide_eq_false z, decide_eq_false fun h => z (h.2 j hj lo)]
          rfl
    · rw [decide_eq_false q, decide_eq_false fun h => q h.1, Bool.and_false]
  have e1 : ((L.filter fun x => decide (x.1 < m)).filter fun x => lastB n x.2).length = ((L.map Prod.fst).filter fun b => decide (b < m ∧ ∀ j, j < ll.length → M40.Low p ll.length (rimD p ll) j b → n ≤ j)).length := by
    rw [List.filter_filter, List.filter_map, List.length_map]
    congr 1
    exact List.filter_congr fun x hx => key x hx
  have e2 : ((bornL p ll d ll.length).filter fun b => decide (b < m ∧ ∀ j, j < ll.length → M40.Low p ll.length (rimD p ll) j b → n ≤ j)).length = cnt ll.length fun b => (b < m ∧ ∀ j, j < ll.length → M40.Low p ll.length (rimD p ll) j b → n ≤ j) ∧ (szD ll b = d + 1 ∧ Born p ll.length (rimD p ll) b) := by
    rw [cnt_eq]
    unfold bornL
    rw [List.filter_filter]
    congr 1
    refine List.filter_congr fun b _ => ?_
    by_cases h1 : b < m ∧ ∀ j, j < ll.length → M40.Low p ll.length (rimD p ll) j b → n ≤ j
    · by_cases h2 : bornB p ll d b = true
      · rw [decide_eq_true h1, h2, decide_eq_true ⟨h1, bornB_iff.mp h2⟩]
        rfl
      · rw [decide_eq_true h1, Bool.eq_false_iff.mpr h2, decide_eq_false fun z => h2 (bornB_iff.mpr z.2)]
        rfl
    · rw [decide_eq_false h1, decide_eq_false fun z => h1 z.1]
      rfl
  have e3 := cnt_cut (P := fun b => (b < m ∧ ∀ j, j < ll.length → M40.Low p ll.length (rimD p ll) j b → n ≤ j) ∧ (szD ll b = d + 1 ∧ Born p ll.length (rimD p ll) b)) (m := m) (fun b h => h.1.1) hm
  have e4 := cnt_congr (n := m) (P := fun b => (b < m ∧ ∀ j, j < ll.length → M40.Low p ll.length (rimD p ll) j b → n ≤ j) ∧ (szD ll b = d + 1 ∧ Born p ll.length (rimD p ll) b)) (Q := fun b => (szD ll b = d + 1 ∧ Born p ll.length (rimD p ll) b) ∧ ∀ j, j < ll.length → M40.Low p ll.length (rimD p ll) j b → n ≤ j) fun b hb => ⟨fun h => ⟨h.2, h.1.2⟩, fun h => ⟨⟨hb, h.2⟩, h.1⟩⟩
  have e5 := R.lasting B.cas (d := d) hm hn
  rw [e1, B.fst, e2, e3, e4, e5]
  rfl
def spRight : Sp := fun vs H Q _ => ∃ (c : Addr) (ll : List (List Int)) (p : Int) (d : Nat), vs = [.ref c, .int p, .int (d : Int)] ∧ CLs H c ll ∧ GoodT ll ∧ ll.length ≤ 40 ∧ Pr p ∧ d ≤ 3 ∧ ∀ H', Ext H H' → Q (.bl true) H'
theorem filter_snoc {α : Type} {f : α → Bool} {l : List α} {i : Nat} {a : α} (h : l[i]? = some a) : (l.take (i + 1)).filter f = (l.take i).filter f ++ (if f a = true then [a] else []) := by
  rw [List.take_succ, h, List.filter_append]
  congr 1
  show List.filter f [a] = _
  rw [List.filter_cons]
  rfl
section
variable {P : Program} {w : World} {K : PySem.W.Frag} {mg : Str → Option Value} {base : Heap}
abbrev rigN : List Str := ["_law_cells","_law_prime","_law_deep","_law_tower","_law_bars","_law_begin","_law_there","_law_bar","_law_more","_law_many","_law_moment"]
theorem scRig : FnScope rigN ["_law_cells", "_law_prime", "_law_deep"] (defScope sRig) := ⟨rfl, rfl, rfl, by decide +kernel, rfl, by decide +kernel, by decide +kernel⟩
theorem ok_rig {f fT CT : Addr} {fd fdT : FuncData} (F : L2.Fun K "_law_right" "_law_right" sRig f fd) (T : Gb mg) (W : TowK K mg CT) (MT : Mk K CT fT) (FT : FnOk P w K mg base CX0 5 fT fdT ["self", "cells"] (spTowG CT)) (bT : Binds K fdT ["self", "cells"] [])
    (cB : Cal P w K mg base 4 "tower_bars" (spBars CT) []) (cF : Cal P w K mg base 2 "_law_is_form" spFor []) (cL : Cal P w K mg base 3 "_law_lasting" spLas []) : FnOk P w K mg base CX0 7 f fd ["_law_cells", "_law_prime", "_law_deep"] spRight := by
  refine F.ok scRig (fun vs H Q E h => ?_) (fun cdv A outer s H vs Q E hr h => ?_)
  · obtain ⟨c, ll, p, d, rfl, _⟩ := h
    rfl
  · obtain ⟨c, ll, pr, d, rfl, ⟨as, hc, pt⟩, gd, l40, hp, d3, k⟩ := h
    have la : as.length = ll.length := Paired.length pt
    have tw := tw_of gd
    have RM := tw.rims hp
    refine ⟨_, pss_cons (ps_set (i := 3) scRig.nd rfl (Or.inl rfl) (pe_make MT FT (hr.mono (by decide)) (by rfl) W.mgC bT .nil pass0 (pa_cons (pe_callTy call_tuple_frz (by rfl) T.tup (by decide +kernel) (pa_cons (pv 0) pa_nil)) pa_nil)))
      (pss_cons (ps_set (i := 4) scRig.nd rfl (Or.inl rfl) (C8.pe_c cB hr (by decide) (by rfl) (pa_cons (pv 3) (pa_cons (pv 1) (pa_cons (pv 2) pa_nil)))))
      (C8.pss_cut (ps_if (PW.pt (pw_or (pt_not (pt_val (C8.pe_c cF hr (by decide) (by rfl) (pa_cons (pv 4) (pa_cons (pv 0) (pa_cons (pv 2) pa_nil)))))) (pw_or1 (pt_cmpR (op_neD hr.units) (C8.pe_c cB hr (by decide) (by rfl) (pa_cons (pv 3) (pa_cons (pv 1) (pa_cons (pv 2) pa_nil)))) (pv 4) (nomark _))))) (pss_one (ps_ret pe_bl)) pss_nil)
      (pss_cons (ps_for PassesOwn.never rfl (pi_range1 (by rfl) T.rng (pa_cons (pe_op op_add (pe_callB call_len_seq (by rfl) T.len PySem.boot_len (pa_cons (pv 0) pa_nil)) pe_int) pa_nil)) (pg_name (i := 5) scRig.nd rfl (Or.inr rfl))
      (C8.pss_cut (ps_setLc (i := 6) (own := [("_law_bar", 7)]) (g := gName 7) rfl scRig.nd rfl rfl (sw_true rfl rfl rfl (by decide +kernel)) (pi_tup (pv 4)) (blkOk_by (N := rigN) (sc := defScope sRig) (by decide +kernel)) (fun _ _ _ _ _ => (pg_name (i := 7) scRig.nd rfl (Or.inl rfl))) (fun _ _ _ _ _ => (pts_one (pt_cmpR op_lt (pe_ix (r := rIxT K) ix_tup (pv 7) pe_int (fun _ _ => rfl)) (pv 5) (nomark _)))) (fun _ _ _ _ _ => (pv 7)))
      (pss_one (ps_for PassesOwn.never rfl (pi_enum (by rfl) T.enum (pa_cons (C8.pe_c cL hr (by decide) (by rfl) (pa_cons (pv 0) (pa_cons (pv 1) (pa_cons (pv 2) (pa_cons (pv 5) pa_nil))))) pa_nil)) (pg_tup rfl (pgs_cons (pg_name (i := 8) scRig.nd rfl (Or.inl rfl)) (pgs_cons (pg_name (i := 9) scRig.nd rfl (Or.inl rfl)) pgs_nil)))
      (pss_cons (ps_set (i := 10) scRig.nd rfl (Or.inr rfl) (pe_op op_add (pv 5) (pv 8)))
      (pss_one (ps_if (pt_cmpR op_ne (pe_callB call_len_seq (by rfl) T.len PySem.boot_len (pa_cons (pe_lc (own := [("_law_bar", 7)]) (g := gName 7) rfl scRig.nd (pi_list (pv 6)) (blkOk_by (N := rigN) (sc := defScope sRig) (by decide +kernel)) (fun _ _ _ _ _ => (pg_name (i := 7) scRig.nd rfl (Or.inl rfl))) (fun _ _ _ _ _ => (pts_one (PW.pt (pw_or (pt_cmpR op_isN (pe_ix (r := rIxT K) ix_tup (pv 7) pe_int (fun _ _ => rfl)) pe_non (nomark _)) (pw_or1 (pt_cmpR op_ge (pe_ix (r := rIxT K) ix_tup (pv 7) pe_int (fun _ _ => rfl)) (pv 10) (nomark _))))))) (fun _ _ _ _ _ => (pv 7))) pa_nil)) (pv 9) (nomark _)) (pss_one (ps_ret pe_bl)) pss_nil)))))))
      (pss_one (ps_ret pe_bl))))), ?_⟩
    refine ⟨_, rfl, c, _, rfl, SqL.of hc, fun b o nb ob => ?_⟩
    have x1 := Ext.upd (o := .frz o (.tup (as.map V.ref))) nb
    have hb1 : (upd H b (.frz o (.tup (as.map V.ref)))) b = some (.frz o (.tup (as.map V.ref))) := upd_same
    generalize upd H b (.frz o (.tup (as.map V.ref))) = H1 at *
    have pt1 : PT2 H1 as ll := PT2.mono (fun _ _ z => x1 _ _ z) pt
    intro p dx np ndx nd
    have z2 := Ext.upd (o := .own p) ndx
    have np1 : (upd H1 dx (.own p)) p = Option.none := by rw [upd_ne nd.symm]; exact np
    have z3 := Ext.upd (o := .ins CT dx []) np1
    have z23 := z2.trans z3
    refine ⟨p, dx, b, ll, rfl, upd_same, ⟨as, .inr ⟨o, z23 _ _ hb1⟩, PT2.mono (fun _ _ z => z23 _ _ z) pt1⟩, l40, gd, fun H2 hp2 kp => ⟨rfl, ?_⟩⟩
    have e2 : Ext H1 H2 := fun d u h => kp d u (ne_of_none h np) (z23 _ _ h)
    have x2 := x1.trans e2
    have tr2 : TR H2 b ll := ⟨as, .inr ⟨o, e2 _ _ hb1⟩, PT2.mono (fun _ _ z => e2 _ _ z) pt1⟩
    have bare2 : Bare H2 b := ⟨o, _, e2 _ _ hb1, ob⟩
    have tow2 : TowAt CT H2 p b := ⟨dx, hp2⟩
    clear z2 z3 z23 np1 hp2 kp e2 x1 pt1 hb1 np ndx nb
    refine ⟨_, rfl, _, rfl, _, rfl, p, b, ll, pr, d, rfl, tow2, tr2, bare2, gd, l40, hp, d3, fun t xs L H3 x3 ht two B => ?_⟩
    have cl : ∀ {J : Hp}, Ext H J → CLs J c ll := fun {J} x => ⟨as, x _ _ hc, PT2.mono (fun _ _ z => x _ _ z) pt⟩
    have x13 := x2.trans x3
    refine ⟨fun σ' J => σ' = [some (.ref c), some (.int pr), some (.int (d : Int)), some (.ref p), some (.ref t), Option.none, Option.none, Option.none, Option.none, Option.none, Option.none] ∧ Ext H3 J, ?_, ?_⟩
    · refine ⟨_, rfl, _, rfl, _, rfl, t, c, ll, pr, d, L, rfl, ⟨xs, ht, two⟩, B, cl x13, RM, fun H4 x4 => ⟨_, rfl, ?_⟩⟩
      have x34 := x3.trans x4
      refine iteF ⟨_, rfl, _, rfl, _, rfl, p, b, ll, pr, d, rfl, tow2.ext x34, tr2.ext x34, bare2.ext x34, gd, l40, hp, d3, fun t2 xs2 L2 H5 x5 ht2 two2 B2 => ?_⟩
      cases B.uniq RM B2
      refine ⟨_, rfl, same_bars ⟨xs2, ht2, two2⟩ (BarsAt.ext (x4.trans x5) ⟨xs, ht, two⟩) ⟨_, rfl, ?_⟩⟩
      exact iteF ⟨rfl, x4.trans x5⟩
    rintro σ' H4 ⟨rfl, x4⟩
    have bt4 : BarsAt H4 t L := BarsAt.ext x4 ⟨xs, ht, two⟩
    have x14 := x13.trans x4
    clear two ht x4 x13 tow2 tr2 bare2 x3 x2
    have lL : L.length ≤ 40 := by
      have := congrArg List.length B.fst
      rw [List.length_map] at this
      have := bornL_len pr ll d ll.length
      omega
    refine ⟨_, rfl, c, _, rfl, .inl (SqL.of (x14 _ _ hc)), _, _, rfl, rfl, ((ll.length + 1 : Nat) : Int), by rw [List.length_map, la]; rfl, by omega, by omega, for_range (lo := 0) (n := ll.length + 1) (fun i σ' J => ∃ v5 v6 v8 v9 v10 : Option V, σ' = [some (.ref c), some (.int pr), some (.int (d : Int)), some (.ref p), some (.ref t), v5, v6, Option.none, v8, v9, v10] ∧ Ext H4 J) ⟨_, _, _, _, _, rfl, Ext.rfl'⟩ ?_ ?_⟩
    rotate_left
    · rintro σ' J ⟨v5, v6, v8, v9, v10, rfl, xJ⟩
      exact k J (x14.trans xJ)
    rintro m σ' J hm ⟨v5, v6, v8, v9, v10, rfl, xJ⟩
    rw [show (0 : Int) + (m : Int) = (m : Int) from Int.zero_add _]
    have mN : m ≤ ll.length := by omega
    obtain ⟨xs, ht, two⟩ := bt4.ext xJ
    have lxs := two.len
    -- those born ahead of m
    refine ⟨fun σ' J' => ∃ th : Addr, σ' = [some (.ref c), some (.int pr), some (.int (d : Int)), some (.ref p), some (.ref t), some (nv m), some (.ref th), Option.none, v8, v9, v10] ∧ Ext J J' ∧ ∃ ys, J' th = some (.lst ys) ∧ Two (BarIs J') ys (L.filter fun x => decide (x.1 < m)), ?_, ?_⟩
    · dsimp only [tAsg, gName]
      refine ⟨_, rfl, t, rfl, ⟨_, SqT.of ht⟩, fun D nD => lc_tup (K := K) (a := t) (xs := xs) (fun u J' => Ext J J' ∧ ∃ ys, J' D = some (.lst ys) ∧ ys.length ≤ u ∧ Two (BarIs J') ys ((L.take u).filter fun x => decide (x.1 < m))) ⟨Ext.upd nD, [], upd_same, Nat.le_refl _, .nil⟩ (fun u J' _ z => SqT.of (z.1 _ _ ht)) ?_ ?_⟩
      · rintro u y J' hy ⟨x2, ys, hD, ly, ty⟩
        have ul := (List.getElem?_eq_some_iff.mp hy).1
        obtain ⟨⟨b', g⟩, hg, q, rfl, hq⟩ := two.get hy
        have hq2 := x2 _ _ hq
        refine ⟨rfl, _, rfl, q, _, (0 : Int), V.int (b' : Int), rfl, rfl, SqT.of hq2, at_of (j := 0) rfl rfl, _, rfl, _, _, rfl, rfl, _, rfl, ?_⟩
        refine ite2 (fun z => ?_) (fun z => ?_)
        · have z : b' < m := by
            have := of_decide_eq_true z
            omega
          have tx := TExt.put (ys := ys ++ [V.ref q]) hD
          refine ⟨_, rfl, _, hD, small1000 (by omega), fun b o hb' => ?_, ys ++ [.ref q], upd_same, by rw [List.length_append]; exact Nat.succ_le_succ ly, ?_⟩
          · rw [upd_ne (ne_of_none hb' nD)]
            exact x2 _ _ hb'
          · rw [filter_snoc hg, if_pos (decide_eq_true z)]
            exact (ty.imp fun _ _ z => z.mono tx).snoc ⟨q, rfl, tx _ _ hq2⟩
        · have z : ¬ b' < m := fun e => z (decide_eq_true (by omega))
          refine ⟨x2, ys, hD, by omega, ?_⟩
          rw [filter_snoc hg, if_neg (fun y => z (of_decide_eq_true y)), List.append_nil]
          exact ty
      · rintro J' ⟨x2, ys, hD, ly, ty⟩
        rw [lxs, List.take_of_length_le (Nat.le_refl _)] at ty
        exact ⟨D, rfl, x2, ys, hD, ty⟩
    rintro σ' J1 ⟨th, rfl, x1, ys, hth, ty⟩
    have xJ1 := xJ.trans x1
    have lys : ys.length ≤ 40 := by
      rw [ty.len]
      exact Nat.le_trans (List.length_filter_le _ _) lL
    clear two ht lxs
    -- how many last
    refine ⟨_, rfl, _, rfl, _, rfl, _, rfl, c, ll, pr, d, m, rfl, cl (x14.trans xJ1), gd, l40, hp, d3, mN, fun q J2 x2 hq => ⟨q, _, rfl, SqL.of hq, ?_⟩⟩
    have hth2 := x2 _ _ hth
    have ty2 := ty.imp fun _ _ z => z.ext x2
    have xJ2 := xJ1.trans x2
    refine for_it walk_enum (fun u σ' J' => ∃ v8 v9 v10 : Option V, σ' = [some (.ref c), some (.int pr), some (.int (d : Int)), some (.ref p), some (.ref t), some (nv m), some (.ref th), Option.none, v8, v9, v10] ∧ Ext J2 J') ⟨_, _, _, rfl, Ext.rfl'⟩ (fun u σ' J' _ ⟨_, _, _, _, x⟩ => SqL.of (x _ _ hq)) ?_ ?_
    rotate_left
    · rintro σ' J3 ⟨v8', v9', v10', rfl, x3⟩
      exact ⟨_, _, _, _, _, rfl, xJ2.trans x3⟩
    rintro u z σ' J3 J3' hu ⟨v8', v9', v10', rfl, x3⟩ ⟨tp, x, y, rfl, nt, rfl, hx, hy⟩
    cases hx
    obtain ⟨many, hmany, rfl⟩ := map_int_get hy
    have uN : u < ll.length + 1 - m := by
      have := (List.getElem?_eq_some_iff.mp hmany).1
      unfold lastL at this
      rwa [List.length_map, List.length_range] at this
    have em : many = (ringsN pr ll d m : Int) - lostN pr ll d m (m + u) := by
      unfold lastL at hmany
      rw [List.getElem?_map, List.getElem?_range uN] at hmany
      injection hmany with hmany
      exact hmany.symm
    have et := Ext.upd (o := .tup [V.int (u : Int), .int many]) nt
    refine ⟨tp, _, rfl, SqT.of upd_same, rfl, _, _, rfl, _, _, rfl, rfl, ?_⟩
    have x4 := x3.trans et
    generalize upd J3 tp (.tup [V.int (u : Int), .int many]) = J4 at *
    have hth4 := x4 _ _ hth2
    have ty4 := ty2.imp fun _ _ z => z.ext x4
    refine ⟨_, rfl, _, rfl, _, _, rfl, rfl, ?_⟩
    refine ⟨_, rfl, th, rfl, ⟨_, SqL.of hth4⟩, fun D nD => lc_list (K := K) (a := th) (xs := ys) (fun w J' => Ext J4 J' ∧ ∃ zs : List V, J' D = some (.lst zs) ∧ zs.length = (((L.filter fun x => decide (x.1 < m)).take w).filter fun x => lastB (m + u) x.2).length) ⟨Ext.upd nD, [], upd_same, rfl⟩ (fun w J' _ z => SqL.of (z.1 _ _ hth4)) ?_ ?_⟩
    · rintro w y J' hy ⟨x5, zs, hD, lz⟩
      have wl := (List.getElem?_eq_some_iff.mp hy).1
      obtain ⟨⟨b', g⟩, hg, q', rfl, hq'⟩ := ty4.get hy
      have hq2 := x5 _ _ hq'
      have lz2 : zs.length ≤ w := by
        rw [lz]
        exact Nat.le_trans (List.length_filter_le _ _) (by rw [List.length_take]; omega)
      have a1 : atI [V.int (b' : Int), gV g] 1 = some (gV g) := at_of (j := 1) rfl rfl
      have yes : lastB (m + u) g = true → Ext J4 (upd J' D (.lst (zs ++ [.ref q']))) ∧ ∃ zs' : List V, (upd J' D (.lst (zs ++ [.ref q']))) D = some (.lst zs') ∧ zs'.length = (((L.filter fun x => decide (x.1 < m)).take (w + 1)).filter fun x => lastB (m + u) x.2).length := fun h => by
        refine ⟨fun b o hb' => ?_, _, upd_same, ?_⟩
        · rw [upd_ne (ne_of_none hb' nD)]
          exact x5 _ _ hb'
        · rw [filter_snoc hg, if_pos h, List.length_append, List.length_append, lz]
          rfl
      have no : lastB (m + u) g = false → Ext J4 J' ∧ ∃ zs' : List V, J' D = some (.lst zs') ∧ zs'.length = (((L.filter fun x => decide (x.1 < m)).take (w + 1)).filter fun x => lastB (m + u) x.2).length := fun h => by
        refine ⟨x5, zs, hD, ?_⟩
        rw [filter_snoc hg, if_neg (fun z => by rw [h] at z; cases z), List.append_nil, lz]
      refine ⟨rfl, _, rfl, q', _, (1 : Int), gV g, rfl, rfl, SqT.of hq2, a1, rfl, _, rfl, ?_⟩
      cases g with
      | none =>
        have e : decide (gV none = V.non) = true := rfl
        rw [e]
        exact iteT ⟨_, rfl, _, hD, small1000 (by omega), yes rfl⟩
      | some j =>
        have e : decide (gV (some j) = V.non) = false := rfl
        rw [e]
        refine iteF ⟨_, rfl, q', _, (1 : Int), V.int (j : Int), rfl, rfl, SqT.of hq2, a1, _, rfl, _, _, rfl, rfl, _, rfl, ?_⟩
        refine ite2 (fun z => ?_) (fun z => ?_)
        · exact ⟨_, rfl, _, hD, small1000 (by omega), yes (decide_eq_true (by have := of_decide_eq_true z; omega))⟩
        · exact no (decide_eq_false fun e => z (decide_eq_true (by omega)))
    · rintro J' ⟨x5, zs, hD, lz⟩
      rw [ty4.len, List.take_of_length_le (Nat.le_refl _)] at lz
      have bc := bars_count B RM (m := m) (n := m + u) mN (by omega)
      rw [← lz, ← em] at bc
      refine ⟨D, _, rfl, .inl (SqL.of hD), _, rfl, rfl, _, rfl, ?_⟩
      rw [bc, decide_eq_true (rfl : V.int many = V.int many)]
      exact iteF ⟨_, _, _, rfl, x4.trans x5⟩
end
end L40

set_option Elab.async false
set_option linter.all false
set_option maxRecDepth 100000
set_option maxHeartbeats 4000000
set_option pp.maxSteps 100
/-! The law. -/
namespace L40
open PySem L2 M40
abbrev sLaw : Stmt := top 40
def spLaw (K : PySem.W.Frag) : Sp := fun vs H Q _ => ∃ (a : Addr) (ns : List Int), vs = [.ref a] ∧ SqL K H a (ns.map V.int) ∧ ns.length ≤ 63 ∧ ∀ H', Q (.bl true) H'
section
variable {P : Program} {w : World} {K : PySem.W.Frag} {mg : Str → Option Value} {base : Heap}
abbrev lawN : List Str := ["_law_script","_law_bag_here","_law_is_great","_law_cells","_law_prime","_law_first","_law_deep"]
theorem scLaw : FnScope lawN ["_law_script"] (defScope sLaw) := ⟨rfl, rfl, rfl, by decide +kernel, rfl, by decide +kernel, by decide +kernel⟩
theorem ok_law {f : Addr} {fd : FuncData} (F : L2.Fun K "law" "law" sLaw f fd) (T : Gb mg) (cBag : Cal P w K mg base 1 "_law_bag" (spBag K) []) (cPick : Cal P w K mg base 1 "_law_pick" spPick []) (cSome : Cal P w K mg base 2 "_law_some" spSome []) (cGr : Cal P w K mg base 3 "_law_grown" spGrown []) (cRi : Cal P w K mg base 7 "_law_right" spRight []) :
    FnOk P w K mg base CX0 9 f fd ["_law_script"] (spLaw K) := by
  refine F.ok scLaw (fun vs H Q E h => ?_) (fun cdv A outer s H vs Q E hr h => ?_)
  · obtain ⟨a, ns, rfl, _⟩ := h
    rfl
  · obtain ⟨s0, ns, rfl, hS, hlen, k⟩ := h
    refine ⟨_, pss_cons (ps_set (i := 1) scLaw.nd rfl (Or.inl rfl) (C8.pe_c cBag hr (by decide) (by rfl) (pa_cons (pv 0) pa_nil)))
      (pss_cons (ps_set (i := 2) scLaw.nd rfl (Or.inr rfl) (pe_cmpR op_eq (C8.pe_c cPick hr (by decide) (by rfl) (pa_cons (pv 1) (pa_cons pe_int pa_nil))) pe_int (nomark _)))
      (C8.pss_cut (ps_set (i := 3) scLaw.nd rfl (Or.inr rfl) (C8.pe_c cGr hr (by decide) (by rfl) (pa_cons (pv 1) (pa_cons (pe_ifExp (pt_val (pv 2)) (pe_op op_add pe_int (C8.pe_c cPick hr (by decide) (by rfl) (pa_cons (pv 1) (pa_cons pe_int pa_nil)))) (pe_op op_add pe_int (C8.pe_c cPick hr (by decide) (by rfl) (pa_cons (pv 1) (pa_cons pe_int pa_nil))))) pa_nil))))
      (pss_cons (ps_set (i := 4) scLaw.nd rfl (Or.inr rfl) (C8.pe_c cSome hr (by decide) (by rfl) (pa_cons (pv 1) (pa_cons (pe_lst (pa_cons pe_int (pa_cons pe_int (pa_cons pe_int (pa_cons pe_int (pa_cons pe_int (pa_cons pe_int (pa_cons pe_int pa_nil)))))))) pa_nil))))
      (pss_cons (ps_set (i := 5) scLaw.nd rfl (Or.inr rfl) (C8.pe_c cPick hr (by decide) (by rfl) (pa_cons (pv 1) (pa_cons pe_int pa_nil))))
      (pss_one (ps_ret (pe_callB (cr_all rfl) (by rfl) T.all (by decide +kernel) (pa_cons (pe_lc (own := [("_law_deep", 6)]) (g := gName 6) rfl scLaw.nd (pi_range1 (by rfl) T.rng (pa_cons pe_int pa_nil)) (blkOk_by (N := lawN) (sc := defScope sLaw) (by decide +kernel)) (fun _ _ _ _ _ => (pg_name (i := 6) scLaw.nd rfl (Or.inl rfl))) (fun _ _ _ _ _ => (pts_one (PW.pt (pw_or (pt_not (pt_val (pv 2))) (pw_or1 (pt_cmpR (r := rIn K false) op_in_seq (pv 6) (pe_tup (pa_cons pe_int (pa_cons (pv 5) pa_nil))) (by rfl))))))) (fun _ _ _ _ _ => (C8.pe_c cRi hr (by decide) (by rfl) (pa_cons (pv 3) (pa_cons (pv 4) (pa_cons (pv 6) pa_nil)))))) pa_nil)))))))), ?_⟩
    refine ⟨_, rfl, s0, ns, rfl, hS, hlen, fun r c H1 e1 bag => ?_⟩
    refine ⟨_, rfl, r, c, 12, rfl, bag, by decide, by decide, fun n H2 n0 n12 g2 => ⟨rfl, ?_⟩⟩
    generalize decide (V.int n = V.int 5) = gr
    -- the cells
    refine ⟨fun σ' J => ∃ (l : Addr) (as : List Addr) (ll : List (List Int)), σ' = [some (.ref s0), some (.ref r), some (.bl gr), some (.ref l), Option.none, Option.none, Option.none] ∧ BagAt J r c ∧ l ≠ r ∧ l ≠ c ∧ J l = some (.lst (as.map V.ref)) ∧ PT2 J as ll ∧ GoodT ll ∧ ll.length ≤ 40, ?_, ?_⟩
    · refine ⟨_, rfl, _, rfl, gr, rfl, ?_⟩
      have fin : ∀ (x : Int) (H3 : Hp), 0 ≤ x → x ≤ 40 → BagAt H3 r c → spGrown ([V.ref r, .int x] ++ []) H3 (fun v J => ∃ (l : Addr) (as : List Addr) (ll : List (List Int)), v = .ref l ∧ BagAt J r c ∧ l ≠ r ∧ l ≠ c ∧ J l = some (.lst (as.map V.ref)) ∧ PT2 J as ll ∧ GoodT ll ∧ ll.length ≤ 40) C8.E0 := fun x H3 h0 h40 bg => by
        refine ⟨r, c, x.toNat, by rw [Int.toNat_of_nonneg h0]; rfl, bg, by omega, fun l as ll J g nl1 nl2 hl pt gd lam => ⟨l, as, ll, rfl, g.1, nl1, nl2, hl, pt, gd, ?_⟩⟩
        have : as.length = ll.length := Paired.length pt
        omega
      have go : ∀ (x : Int) (H3 : Hp), 0 ≤ x → x ≤ 40 → BagAt H3 r c → spGrown ([V.ref r, .int x] ++ []) H3 (fun v J => ∃ (l : Addr) (as : List Addr) (ll : List (List Int)), [some (V.ref s0), some (.ref r), some (.bl gr), some v, Option.none, Option.none, Option.none] = [some (.ref s0), some (.ref r), some (.bl gr), some (.ref l), Option.none, Option.none, Option.none] ∧ BagAt J r c ∧ l ≠ r ∧ l ≠ c ∧ J l = some (.lst (as.map V.ref)) ∧ PT2 J as ll ∧ GoodT ll ∧ ll.length ≤ 40) C8.E0 := fun x H3 h0 h40 bg => by
        obtain ⟨a', c', m', e1, e2, e3, e4⟩ := fin x H3 h0 h40 bg
        exact ⟨a', c', m', e1, e2, e3, fun l as ll J g nl1 nl2 hl pt gd lam => by
          obtain ⟨l', as', ll', e, rest⟩ := e4 l as ll J g nl1 nl2 hl pt gd lam
          exact ⟨l', as', ll', by rw [e], rest⟩⟩
      cases gr with
      | true =>
        refine iteT ⟨_, rfl, r, c, 21, rfl, g2.1, by decide, by decide, fun n3 H3 m0 m1 g3 => ⟨_, _, rfl, rfl, ?_⟩⟩
        exact go (20 + n3) H3 (by omega) (by omega) g3.1
      | false =>
        refine iteF ⟨_, rfl, r, c, 16, rfl, g2.1, by decide, by decide, fun n3 H3 m0 m1 g3 => ⟨_, _, rfl, rfl, ?_⟩⟩
        exact go (2 + n3) H3 (by omega) (by omega) g3.1
    rintro σ' J ⟨l, as, ll, rfl, bag3, nl1, nl2, hl, pt, gd, l40⟩
    -- the prime
    refine ⟨_, rfl, by show 7 ≤ sizeLine; decide, fun ml nml => ?_⟩
    have x1 := Ext.upd (o := .lst [V.int 2, .int 3, .int 5, .int 2, .int 7, .int 11, .int 13]) nml
    have hm := upd_same (H := J) (a := ml) (o := .lst [V.int 2, .int 3, .int 5, .int 2, .int 7, .int 11, .int 13])
    have gx := Go.of_ext bag3 x1
    have nm := bag3.ne nml
    have hl1 := x1 _ _ hl
    have pt1 := PT2.mono (fun _ _ z => x1 _ _ z) pt
    generalize upd J ml (.lst [V.int 2, .int 3, .int 5, .int 2, .int 7, .int 11, .int 13]) = J1 at *
    refine ⟨r, c, ml, _, rfl, gx.1, nm.1, nm.2, hm, by simp, by decide, fun x J2 hx g2' => ?_⟩
    obtain ⟨p, rfl, hp⟩ : ∃ p, x = .int p ∧ Pr p := by
      simp only [List.mem_cons, List.not_mem_nil, or_false] at hx
      unfold Pr Prm
      rcases hx with h | h | h | h | h | h | h <;> exact ⟨_, h, by decide⟩
    have hl2 := g2'.2 _ _ nl1 nl2 hl1
    have pt2 := PT2.mono (fun _ _ z => Go.tup gx.1 g2' z) pt1
    refine ⟨_, rfl, r, c, 4, rfl, g2'.1, by decide, by decide, fun fi J3 f0 f4 g3 => ?_⟩
    have hl3 := g3.2 _ _ nl1 nl2 hl2
    have pt3 := PT2.mono (fun _ _ z => Go.tup g2'.1 g3 z) pt2
    -- all depths
    refine ⟨4, rfl, by decide, by decide, fun D nD => lc_range (lo := 0) (n := 4) (fun i J' => Ext J3 J' ∧ ∃ k : Nat, k ≤ i ∧ J' D = some (.lst ((List.replicate k true).map V.bl))) ⟨Ext.upd nD, 0, Nat.le_refl _, upd_same⟩ ?_ ?_⟩
    · rintro i J4 hi ⟨x4, kk, lk, hD⟩
      rw [show (0 : Int) + (i : Int) = (i : Int) from Int.zero_add _]
      have el : ∀ J4 : Hp, Ext J3 J4 → J4 D = some (.lst ((List.replicate kk true).map V.bl)) → spRight ([V.ref l, .int p, .int (i : Int)] ++ []) J4 (fun z J5 => ∃ acc, J5 D = some (.lst acc) ∧ acc.length < sizeLine ∧ (Ext J3 (upd J5 D (.lst (acc ++ [z]))) ∧ ∃ k : Nat, k ≤ i + 1 ∧ (upd J5 D (.lst (acc ++ [z]))) D = some (.lst ((List.replicate k true).map V.bl)))) C8.E0 := fun J4 x4 hD => by
        refine ⟨l, ll, p, i, rfl, ⟨as, x4 _ _ hl3, PT2.mono (fun _ _ z => x4 _ _ z) pt3⟩, gd, l40, hp, by omega, fun J5 x5 => ⟨_, x5 _ _ hD, small1000 (by rw [List.length_map, List.length_replicate]; omega), fun b o hb' => ?_, kk + 1, by omega, ?_⟩⟩
        · rw [upd_ne (ne_of_none hb' nD)]
          exact x5 _ _ (x4 _ _ hb')
        · rw [upd_same, List.replicate_succ', List.map_append]
          rfl
      refine ⟨rfl, _, rfl, gr, rfl, ?_⟩
      cases gr with
      | false => exact iteT ⟨_, rfl, _, rfl, _, rfl, el J4 x4 hD⟩
      | true =>
        refine iteF ⟨_, rfl, _, rfl, by show 2 ≤ sizeLine; decide, fun t nt => ?_⟩
        have et := Ext.upd (o := .tup [V.int 1, V.int fi]) nt
        refine ⟨t, _, rfl, .inr (SqT.of upd_same), rfl, rfl, _, rfl, ?_⟩
        refine ite2 (fun _ => ?_) (fun _ => ⟨x4.trans et, kk, by omega, et _ _ hD⟩)
        exact ⟨_, rfl, _, rfl, _, rfl, el _ (x4.trans et) (et _ _ hD)⟩
    · rintro J4 ⟨x4, kk, _, hD⟩
      refine ⟨D, _, rfl, SqL.of hD, ?_⟩
      have e : (List.replicate kk true).all id = true := by simp
      rw [e]
      exact k J4
end
end L40

set_option Elab.async false
set_option linter.all false
set_option maxRecDepth 100000
set_option maxHeartbeats 8000000
namespace L40
open PySem L2
theorem exm_self {K : PySem.W.Frag} {S : Addr} (h1 : PySem.W.subIn K (.ref S) (.type "BaseException") = some true) (h2 : PySem.W.isClsIn K S = true) (h3 : PySem.W.typeIn K (.ref S) = some (.type "type")) (h4 : PySem.W.subIn K (.ref S) (.ref S) = some true) :
    PySem.W.exmOne K (.ref S) (.ref S) = some true := by
  have h2' : (PySem.W.clsIn K S).isSome = true := h2
  unfold PySem.W.exmOne PySem.W.kitCls
  simp only [h1, h2', h3, h4, beq_self_eq_true, Bool.and_self, if_true]
theorem kit_ref {K : PySem.W.Frag} {t : Value} {C : Addr} {b : Bool} (h2 : PySem.W.isClsIn K C = true) (h3 : PySem.W.typeIn K (.ref C) = some (.type "type")) (h4 : PySem.W.subIn K (.ref C) (.ref C) = some true) (h5 : PySem.W.subIn K t (.ref C) = some b) :
    PySem.W.kitOne K t (.ref C) = some b := by
  have h2' : (PySem.W.clsIn K C).isSome = true := h2
  unfold PySem.W.kitOne PySem.W.kitCls
  by_cases e : (t == .ref C) = true
  · have e' := beq_iff_eq.mp e
    subst e'
    rw [h4] at h5
    rw [if_pos e, ← h5]
  · rw [if_neg e]
    simp only [h2', h3, h5, beq_self_eq_true, Bool.and_self, if_true]
theorem kit_tyc {K : PySem.W.Frag} {C : Addr} {s : String} {b : Bool} (h : PySem.W.kitMeta s = true) (h5 : PySem.W.subIn K (.ref C) (.type s) = some b) : PySem.W.kitOne K (.ref C) (.type s) = some b := by
  unfold PySem.W.kitOne PySem.W.kitCls
  rw [if_neg (by intro z; exact nomatch beq_iff_eq.mp z)]
  simp only [h, h5, if_true]
theorem exm_ref {K : PySem.W.Frag} {t : Value} {S : Addr} {b : Bool} (h1 : PySem.W.subIn K (.ref S) (.type "BaseException") = some true) (h2 : PySem.W.isClsIn K S = true) (h3 : PySem.W.typeIn K (.ref S) = some (.type "type")) (h4 : PySem.W.subIn K t (.ref S) = some b) :
    PySem.W.exmOne K t (.ref S) = some b := by
  have h2' : (PySem.W.clsIn K S).isSome = true := h2
  unfold PySem.W.exmOne PySem.W.kitCls
  simp only [h1, h2', h3, h4, beq_self_eq_true, Bool.and_self, if_true]
theorem all_mk {l : PySem.W.OpenLaw} {w : World} {K : PySem.W.Frag} {h : Heap} {mg : Str → Option Value} {fa : Addr} {aPR CT f2 f3 f4 f5 f12 f13 f14 f15 f16 f17 f24 f25 f26 f27 f29 f30 f31 f32 f33 f34 f35 f36 f37 f38 f39 f40 fT : Addr} (X : K.In h) (G : h.Ns mainGlobals mg) (hfa : mg "law" = some (.ref fa))
    {odPR : Option Addr} {slPR : Array (Option Value)} {itsPR : Array Value} {nPR : Nat}
    {oc2 kV2 dc2 pm2 cd2 ct2 : Value} {od2 an2 : Option Addr} {sl2 : Array (Option Value)}
    {oc3 kV3 dc3 pm3 cd3 ct3 : Value} {od3 an3 : Option Addr} {sl3 : Array (Option Value)}
    {oc4 kV4 dc4 pm4 cd4 ct4 : Value} {od4 an4 : Option Addr} {sl4 : Array (Option Value)}
    {oc5 kV5 dc5 pm5 cd5 ct5 : Value} {od5 an5 : Option Addr} {sl5 : Array (Option Value)}
    {oc12 kV12 dc12 pm12 cd12 ct12 : Value} {od12 an12 : Option Addr} {sl12 : Array (Option Value)}
    {oc13 kV13 dc13 pm13 cd13 ct13 : Value} {od13 an13 : Option Addr} {sl13 : Array (Option Value)}
    {oc14 kV14 dc14 pm14 cd14 ct14 : Value} {od14 an14 : Option Addr} {sl14 : Array (Option Value)}
    {oc15 kV15 dc15 pm15 cd15 ct15 : Value} {od15 an15 : Option Addr} {sl15 : Array (Option Value)}
    {oc16 kV16 dc16 pm16 cd16 ct16 : Value} {od16 an16 : Option Addr} {sl16 : Array (Option Value)}
    {oc17 kV17 dc17 pm17 cd17 ct17 : Value} {od17 an17 : Option Addr} {sl17 : Array (Option Value)}
    {oc24 kV24 dc24 pm24 cd24 ct24 : Value} {od24 an24 : Option Addr} {sl24 : Array (Option Value)}
    {oc25 kV25 dc25 pm25 cd25 ct25 : Value} {od25 an25 : Option Addr} {sl25 : Array (Option Value)}
    {oc26 kV26 dc26 pm26 cd26 ct26 : Value} {od26 an26 : Option Addr} {sl26 : Array (Option Value)}
    {oc27 kV27 dc27 pm27 cd27 ct27 : Value} {od27 an27 : Option Addr} {sl27 : Array (Option Value)}
    {oc29 kV29 dc29 pm29 cd29 ct29 : Value} {od29 an29 : Option Addr} {sl29 : Array (Option Value)}
    {oc30 kV30 dc30 pm30 cd30 ct30 : Value} {od30 an30 : Option Addr} {sl30 : Array (Option Value)}
    {oc31 kV31 dc31 pm31 cd31 ct31 : Value} {od31 an31 : Option Addr} {sl31 : Array (Option Value)}
    {oc32 kV32 dc32 pm32 cd32 ct32 : Value} {od32 an32 : Option Addr} {sl32 : Array (Option Value)}
    {oc33 kV33 dc33 pm33 cd33 ct33 : Value} {od33 an33 : Option Addr} {sl33 : Array (Option Value)}
    {oc34 kV34 dc34 pm34 cd34 ct34 : Value} {od34 an34 : Option Addr} {sl34 : Array (Option Value)}
    {oc35 kV35 dc35 pm35 cd35 ct35 : Value} {od35 an35 : Option Addr} {sl35 : Array (Option Value)}
    {oc36 kV36 dc36 pm36 cd36 ct36 : Value} {od36 an36 : Option Addr} {sl36 : Array (Option Value)}
    {oc37 kV37 dc37 pm37 cd37 ct37 : Value} {od37 an37 : Option Addr} {sl37 : Array (Option Value)}
    {oc38 kV38 dc38 pm38 cd38 ct38 : Value} {od38 an38 : Option Addr} {sl38 : Array (Option Value)}
    {oc39 kV39 dc39 pm39 cd39 ct39 : Value} {od39 an39 : Option Addr} {sl39 : Array (Option Value)}
    {oc40 kV40 dc40 pm40 cd40 ct40 : Value} {od40 an40 : Option Addr} {sl40 : Array (Option Value)}
    {ocT kVT dcT pmT cdT ctT : Value} {odT anT : Option Addr} {slT : Array (Option Value)}
    {tMOST_CELLS}
    {tMOST_IN_CELL}
    {tMOST_NAME}
    {tMOST_DEEP}
    (gCT : PySem.W.nsIn K mainGlobals "Tower" = some (some (.ref CT)))
    (a2 : PySem.W.nsIn K mainGlobals "is_integer" = some (some (.ref f2)))
    (l2 : K.lookup f2 = some ⟨oc2, od2, .func (PySem.W.fnOf "is_integer" "is_integer" (defArgs sInteger) (defBody sInteger) (defScope sInteger) .none kV2 dc2 pm2 an2 cd2 ct2), sl2⟩)
    (c2 : PySem.W.codeIn K cd2 "is_integer" = true)
    (k2 : PySem.W.keepIn K (.ref f2) = true)
    (a3 : PySem.W.nsIn K mainGlobals "is_number" = some (some (.ref f3)))
    (l3 : K.lookup f3 = some ⟨oc3, od3, .func (PySem.W.fnOf "is_number" "is_number" (defArgs sNumber) (defBody sNumber) (defScope sNumber) .none kV3 dc3 pm3 an3 cd3 ct3), sl3⟩)
    (c3 : PySem.W.codeIn K cd3 "is_number" = true)
    (k3 : PySem.W.keepIn K (.ref f3) = true)
    (a4 : PySem.W.nsIn K mainGlobals "is_prime" = some (some (.ref f4)))
    (l4 : K.lookup f4 = some ⟨oc4, od4, .func (PySem.W.fnOf "is_prime" "is_prime" (defArgs sPrime) (defBody sPrime) (defScope sPrime) .none kV4 dc4 pm4 an4 cd4 ct4), sl4⟩)
    (c4 : PySem.W.codeIn K cd4 "is_prime" = true)
    (k4 : PySem.W.keepIn K (.ref f4) = true)
    (a5 : PySem.W.nsIn K mainGlobals "is_ascending" = some (some (.ref f5)))
    (l5 : K.lookup f5 = some ⟨oc5, od5, .func (PySem.W.fnOf "is_ascending" "is_ascending" (defArgs sAsc) (defBody sAsc) (defScope sAsc) .none kV5 dc5 pm5 an5 cd5 ct5), sl5⟩)
    (c5 : PySem.W.codeIn K cd5 "is_ascending" = true)
    (k5 : PySem.W.keepIn K (.ref f5) = true)
    (a12 : PySem.W.nsIn K mainGlobals "inverse" = some (some (.ref f12)))
    (l12 : K.lookup f12 = some ⟨oc12, od12, .func (PySem.W.fnOf "inverse" "inverse" (defArgs sInv) (defBody sInv) (defScope sInv) .none kV12 dc12 pm12 an12 cd12 ct12), sl12⟩)
    (c12 : PySem.W.codeIn K cd12 "inverse" = true)
    (k12 : PySem.W.keepIn K (.ref f12) = true)
    (a13 : PySem.W.nsIn K mainGlobals "pivot" = some (some (.ref f13)))
    (l13 : K.lookup f13 = some ⟨oc13, od13, .func (PySem.W.fnOf "pivot" "pivot" (defArgs sPiv) (defBody sPiv) (defScope sPiv) .none kV13 dc13 pm13 an13 cd13 ct13), sl13⟩)
    (c13 : PySem.W.codeIn K cd13 "pivot" = true)
    (k13 : PySem.W.keepIn K (.ref f13) = true)
    (a14 : PySem.W.nsIn K mainGlobals "scaled_row" = some (some (.ref f14)))
    (l14 : K.lookup f14 = some ⟨oc14, od14, .func (PySem.W.fnOf "scaled_row" "scaled_row" (defArgs sScaled) (defBody sScaled) (defScope sScaled) .none kV14 dc14 pm14 an14 cd14 ct14), sl14⟩)
    (c14 : PySem.W.codeIn K cd14 "scaled_row" = true)
    (k14 : PySem.W.keepIn K (.ref f14) = true)
    (a15 : PySem.W.nsIn K mainGlobals "less" = some (some (.ref f15)))
    (l15 : K.lookup f15 = some ⟨oc15, od15, .func (PySem.W.fnOf "less" "less" (defArgs sLess) (defBody sLess) (defScope sLess) .none kV15 dc15 pm15 an15 cd15 ct15), sl15⟩)
    (c15 : PySem.W.codeIn K cd15 "less" = true)
    (k15 : PySem.W.keepIn K (.ref f15) = true)
    (a16 : PySem.W.nsIn K mainGlobals "cleared" = some (some (.ref f16)))
    (l16 : K.lookup f16 = some ⟨oc16, od16, .func (PySem.W.fnOf "cleared" "cleared" (defArgs sCleared) (defBody sCleared) (defScope sCleared) .none kV16 dc16 pm16 an16 cd16 ct16), sl16⟩)
    (c16 : PySem.W.codeIn K cd16 "cleared" = true)
    (k16 : PySem.W.keepIn K (.ref f16) = true)
    (a17 : PySem.W.nsIn K mainGlobals "keep" = some (some (.ref f17)))
    (l17 : K.lookup f17 = some ⟨oc17, od17, .func (PySem.W.fnOf "keep" "keep" (defArgs sKeep) (defBody sKeep) (defScope sKeep) .none kV17 dc17 pm17 an17 cd17 ct17), sl17⟩)
    (c17 : PySem.W.codeIn K cd17 "keep" = true)
    (k17 : PySem.W.keepIn K (.ref f17) = true)
    (a24 : PySem.W.nsIn K mainGlobals "is_cell" = some (some (.ref f24)))
    (l24 : K.lookup f24 = some ⟨oc24, od24, .func (PySem.W.fnOf "is_cell" "is_cell" (defArgs sCell) (defBody sCell) (defScope sCell) .none kV24 dc24 pm24 an24 cd24 ct24), sl24⟩)
    (c24 : PySem.W.codeIn K cd24 "is_cell" = true)
    (k24 : PySem.W.keepIn K (.ref f24) = true)
    (a25 : PySem.W.nsIn K mainGlobals "faces" = some (some (.ref f25)))
    (l25 : K.lookup f25 = some ⟨oc25, od25, .func (PySem.W.fnOf "faces" "faces" (defArgs sFaces) (defBody sFaces) (defScope sFaces) .none kV25 dc25 pm25 an25 cd25 ct25), sl25⟩)
    (c25 : PySem.W.codeIn K cd25 "faces" = true)
    (k25 : PySem.W.keepIn K (.ref f25) = true)
    (a26 : PySem.W.nsIn K mainGlobals "rim_row" = some (some (.ref f26)))
    (l26 : K.lookup f26 = some ⟨oc26, od26, .func (PySem.W.fnOf "rim_row" "rim_row" (defArgs sRim) (defBody sRim) (defScope sRim) .none kV26 dc26 pm26 an26 cd26 ct26), sl26⟩)
    (c26 : PySem.W.codeIn K cd26 "rim_row" = true)
    (k26 : PySem.W.keepIn K (.ref f26) = true)
    (a27 : PySem.W.nsIn K mainGlobals "tower_bars" = some (some (.ref f27)))
    (l27 : K.lookup f27 = some ⟨oc27, od27, .func (PySem.W.fnOf "tower_bars" "tower_bars" (defArgs sBars) (defBody sBars) (defScope sBars) .none kV27 dc27 pm27 an27 cd27 ct27), sl27⟩)
    (c27 : PySem.W.codeIn K cd27 "tower_bars" = true)
    (k27 : PySem.W.keepIn K (.ref f27) = true)
    (a29 : PySem.W.nsIn K mainGlobals "_law_bag" = some (some (.ref f29)))
    (l29 : K.lookup f29 = some ⟨oc29, od29, .func (PySem.W.fnOf "_law_bag" "_law_bag" (defArgs sBag) (defBody sBag) (defScope sBag) .none kV29 dc29 pm29 an29 cd29 ct29), sl29⟩)
    (c29 : PySem.W.codeIn K cd29 "_law_bag" = true)
    (k29 : PySem.W.keepIn K (.ref f29) = true)
    (a30 : PySem.W.nsIn K mainGlobals "_law_pick" = some (some (.ref f30)))
    (l30 : K.lookup f30 = some ⟨oc30, od30, .func (PySem.W.fnOf "_law_pick" "_law_pick" (defArgs sPick) (defBody sPick) (defScope sPick) .none kV30 dc30 pm30 an30 cd30 ct30), sl30⟩)
    (c30 : PySem.W.codeIn K cd30 "_law_pick" = true)
    (k30 : PySem.W.keepIn K (.ref f30) = true)
    (a31 : PySem.W.nsIn K mainGlobals "_law_some" = some (some (.ref f31)))
    (l31 : K.lookup f31 = some ⟨oc31, od31, .func (PySem.W.fnOf "_law_some" "_law_some" (defArgs sSome) (defBody sSome) (defScope sSome) .none kV31 dc31 pm31 an31 cd31 ct31), sl31⟩)
    (c31 : PySem.W.codeIn K cd31 "_law_some" = true)
    (k31 : PySem.W.keepIn K (.ref f31) = true)
    (a32 : PySem.W.nsIn K mainGlobals "_law_faces" = some (some (.ref f32)))
    (l32 : K.lookup f32 = some ⟨oc32, od32, .func (PySem.W.fnOf "_law_faces" "_law_faces" (defArgs sLFaces) (defBody sLFaces) (defScope sLFaces) .none kV32 dc32 pm32 an32 cd32 ct32), sl32⟩)
    (c32 : PySem.W.codeIn K cd32 "_law_faces" = true)
    (k32 : PySem.W.keepIn K (.ref f32) = true)
    (a33 : PySem.W.nsIn K mainGlobals "_law_grown" = some (some (.ref f33)))
    (l33 : K.lookup f33 = some ⟨oc33, od33, .func (PySem.W.fnOf "_law_grown" "_law_grown" (defArgs sGrown) (defBody sGrown) (defScope sGrown) .none kV33 dc33 pm33 an33 cd33 ct33), sl33⟩)
    (c33 : PySem.W.codeIn K cd33 "_law_grown" = true)
    (k33 : PySem.W.keepIn K (.ref f33) = true)
    (a34 : PySem.W.nsIn K mainGlobals "_law_grows" = some (some (.ref f34)))
    (l34 : K.lookup f34 = some ⟨oc34, od34, .func (PySem.W.fnOf "_law_grows" "_law_grows" (defArgs sGro) (defBody sGro) (defScope sGro) .none kV34 dc34 pm34 an34 cd34 ct34), sl34⟩)
    (c34 : PySem.W.codeIn K cd34 "_law_grows" = true)
    (k34 : PySem.W.keepIn K (.ref f34) = true)
    (a35 : PySem.W.nsIn K mainGlobals "_law_rim" = some (some (.ref f35)))
    (l35 : K.lookup f35 = some ⟨oc35, od35, .func (PySem.W.fnOf "_law_rim" "_law_rim" (defArgs sLri) (defBody sLri) (defScope sLri) .none kV35 dc35 pm35 an35 cd35 ct35), sl35⟩)
    (c35 : PySem.W.codeIn K cd35 "_law_rim" = true)
    (k35 : PySem.W.keepIn K (.ref f35) = true)
    (a36 : PySem.W.nsIn K mainGlobals "_law_lasting" = some (some (.ref f36)))
    (l36 : K.lookup f36 = some ⟨oc36, od36, .func (PySem.W.fnOf "_law_lasting" "_law_lasting" (defArgs sLas) (defBody sLas) (defScope sLas) .none kV36 dc36 pm36 an36 cd36 ct36), sl36⟩)
    (c36 : PySem.W.codeIn K cd36 "_law_lasting" = true)
    (k36 : PySem.W.keepIn K (.ref f36) = true)
    (a37 : PySem.W.nsIn K mainGlobals "_law_is_number" = some (some (.ref f37)))
    (l37 : K.lookup f37 = some ⟨oc37, od37, .func (PySem.W.fnOf "_law_is_number" "_law_is_number" (defArgs sLIn) (defBody sLIn) (defScope sLIn) .none kV37 dc37 pm37 an37 cd37 ct37), sl37⟩)
    (c37 : PySem.W.codeIn K cd37 "_law_is_number" = true)
    (k37 : PySem.W.keepIn K (.ref f37) = true)
    (a38 : PySem.W.nsIn K mainGlobals "_law_is_form" = some (some (.ref f38)))
    (l38 : K.lookup f38 = some ⟨oc38, od38, .func (PySem.W.fnOf "_law_is_form" "_law_is_form" (defArgs sFor) (defBody sFor) (defScope sFor) .none kV38 dc38 pm38 an38 cd38 ct38), sl38⟩)
    (c38 : PySem.W.codeIn K cd38 "_law_is_form" = true)
    (k38 : PySem.W.keepIn K (.ref f38) = true)
    (a39 : PySem.W.nsIn K mainGlobals "_law_right" = some (some (.ref f39)))
    (l39 : K.lookup f39 = some ⟨oc39, od39, .func (PySem.W.fnOf "_law_right" "_law_right" (defArgs sRig) (defBody sRig) (defScope sRig) .none kV39 dc39 pm39 an39 cd39 ct39), sl39⟩)
    (c39 : PySem.W.codeIn K cd39 "_law_right" = true)
    (k39 : PySem.W.keepIn K (.ref f39) = true)
    (a40 : PySem.W.nsIn K mainGlobals "law" = some (some (.ref f40)))
    (l40 : K.lookup f40 = some ⟨oc40, od40, .func (PySem.W.fnOf "law" "law" (defArgs sLaw) (defBody sLaw) (defScope sLaw) .none kV40 dc40 pm40 an40 cd40 ct40), sl40⟩)
    (c40 : PySem.W.codeIn K cd40 "law" = true)
    (k40 : PySem.W.keepIn K (.ref f40) = true)
    (aT : PySem.W.findIn K (.ref CT) "__init__" = some (some (.ref fT)))
    (iT : PySem.W.isFn K (.ref fT) = true)
    (lT : K.lookup fT = some ⟨ocT, odT, .func (PySem.W.fnOf "__init__" "Tower.__init__" (defArgs sTowI) (defBody sTowI) (defScope sTowI) .none kVT dcT pmT anT cdT ctT), slT⟩)
    (cT : PySem.W.codeIn K cdT "Tower.__init__" = true)
    (kT : PySem.W.keepIn K (.ref fT) = true)
    (tT : PySem.W.typeIn K (.ref fT) = some (.type "function"))
    (hn : PySem.W.specialIn K (.builtin "object.__class__") "__get__" = some (some (.builtin "getset_descriptor.__get__")))
    (ht : PySem.W.takesIn K (.builtin "object.__class__") = some true)
    (pgCT : PySem.W.plainGet K CT Str.empty = true)
    (hdCT : PySem.W.hasDictIn K CT = true)
    (poCT : PySem.W.plainOver K CT = true)
    (saCT : PySem.W.findIn K (.ref CT) "__setattr__" = some (some (.builtin "object.__setattr__")))
    (mkCT : PySem.W.makesIn K CT = true)
    (kcCT : PySem.W.keepIn K (.ref CT) = true)
    (haCT : PySem.W.findIn K (.ref CT) "__class__" = some (some (.builtin "object.__class__")))
    (hmCT : PySem.W.mroIn K CT (.type "object") = some true)
    (icCT : PySem.W.isClsIn K CT = true)
    (tcCT : PySem.W.typeIn K (.ref CT) = some (.type "type"))
    (scCT : PySem.W.subIn K (.ref CT) (.ref CT) = some true)
    (nCTcells : PySem.W.findIn K (.ref CT) "cells" = some none)
    (vMOST_CELLS : PySem.W.nsIn K mainGlobals "MOST_CELLS" = some (some (.int 40 tMOST_CELLS)))
    (vMOST_IN_CELL : PySem.W.nsIn K mainGlobals "MOST_IN_CELL" = some (some (.int 4 tMOST_IN_CELL)))
    (vMOST_NAME : PySem.W.nsIn K mainGlobals "MOST_NAME" = some (some (.int 29 tMOST_NAME)))
    (vMOST_DEEP : PySem.W.nsIn K mainGlobals "MOST_DEEP" = some (some (.int 3 tMOST_DEEP)))
    (vPR : PySem.W.nsIn K mainGlobals "PRIMES" = some (some (.ref aPR)))
    (lPR : K.lookup aPR = some ⟨.type "tuple", odPR, .seq itsPR nPR, slPR⟩)
    (zPR : itsPR.size ≤ sizeLine)
    (rPR : Vals [.int 2, .int 3, .int 5, .int 7, .int 11, .int 13] itsPR.toList)
    (zlen : PySem.W.nsIn K mainGlobals "len" = some none)
    (zint : PySem.W.nsIn K mainGlobals "int" = some none)
    (zbool : PySem.W.nsIn K mainGlobals "bool" = some none)
    (zisinstance : PySem.W.nsIn K mainGlobals "isinstance" = some none)
    (ztuple : PySem.W.nsIn K mainGlobals "tuple" = some none)
    (zall : PySem.W.nsIn K mainGlobals "all" = some none)
    (zenumerate : PySem.W.nsIn K mainGlobals "enumerate" = some none)
    (zlist : PySem.W.nsIn K mainGlobals "list" = some none)
    (zrange : PySem.W.nsIn K mainGlobals "range" = some none)
    (zmin : PySem.W.nsIn K mainGlobals "min" = some none)
    (zmax : PySem.W.nsIn K mainGlobals "max" = some none)
    (zsorted : PySem.W.nsIn K mainGlobals "sorted" = some none)
    (zset : PySem.W.nsIn K mainGlobals "set" = some none)
    (zstr : PySem.W.nsIn K mainGlobals "str" = some none)
    (zabs : PySem.W.nsIn K mainGlobals "abs" = some none)
    (zValueError : PySem.W.nsIn K mainGlobals "ValueError" = some none)
    (zzip : PySem.W.nsIn K mainGlobals "zip" = some none) :
    ∃ fd : FuncData, (∀ (s : Shared) (v : Value), BindsTo s fd ⟨[v], []⟩ [("_law_script", v)]) ∧ ∀ base : Heap, K.In base → base.Ns mainGlobals mg → FnOk l.prog w K mg base CX0 9 fa fd ["_law_script"] (spLaw K) := by
  have e := hfa.symm.trans (PySem.W.mg_of X G a40)
  cases e
  have F2 := fun_mk (st := sInteger) l2 c2 k2
  have b2 := F2.binds (ps := ["thing"]) fun _ _ _ _ _ _ us hl => match us, hl with | [_], _ => rfl
  have F3 := fun_mk (st := sNumber) l3 c3 k3
  have b3 := F3.binds (ps := ["most", "thing"]) fun _ _ _ _ _ _ us hl => match us, hl with | [_, _], _ => rfl
  have F4 := fun_mk (st := sPrime) l4 c4 k4
  have b4 := F4.binds (ps := ["thing"]) fun _ _ _ _ _ _ us hl => match us, hl with | [_], _ => rfl
  have F5 := fun_mk (st := sAsc) l5 c5 k5
  have b5 := F5.binds (ps := ["most", "thing"]) fun _ _ _ _ _ _ us hl => match us, hl with | [_, _], _ => rfl
  have F12 := fun_mk (st := sInv) l12 c12 k12
  have b12 := F12.binds (ps := ["prime", "worth"]) fun _ _ _ _ _ _ us hl => match us, hl with | [_, _], _ => rfl
  have F13 := fun_mk (st := sPiv) l13 c13 k13
  have b13 := F13.binds (ps := ["row"]) fun _ _ _ _ _ _ us hl => match us, hl with | [_], _ => rfl
  have F14 := fun_mk (st := sScaled) l14 c14 k14
  have b14 := F14.binds (ps := ["prime", "row", "number"]) fun _ _ _ _ _ _ us hl => match us, hl with | [_, _, _], _ => rfl
  have F15 := fun_mk (st := sLess) l15 c15 k15
  have b15 := F15.binds (ps := ["prime", "row", "number", "other"]) fun _ _ _ _ _ _ us hl => match us, hl with | [_, _, _, _], _ => rfl
  have F16 := fun_mk (st := sCleared) l16 c16 k16
  have b16 := F16.binds (ps := ["prime", "row", "kept"]) fun _ _ _ _ _ _ us hl => match us, hl with | [_, _, _], _ => rfl
  have F17 := fun_mk (st := sKeep) l17 c17 k17
  have b17 := F17.binds (ps := ["prime", "row", "kept"]) fun _ _ _ _ _ _ us hl => match us, hl with | [_, _, _], _ => rfl
  have F24 := fun_mk (st := sCell) l24 c24 k24
  have b24 := F24.binds (ps := ["thing"]) fun _ _ _ _ _ _ us hl => match us, hl with | [_], _ => rfl
  have F25 := fun_mk (st := sFaces) l25 c25 k25
  have b25 := F25.binds (ps := ["cell"]) fun _ _ _ _ _ _ us hl => match us, hl with | [_], _ => rfl
  have F26 := fun_mk (st := sRim) l26 c26 k26
  have b26 := F26.binds (ps := ["cells", "prime", "cell"]) fun _ _ _ _ _ _ us hl => match us, hl with | [_, _, _], _ => rfl
  have F27 := fun_mk (st := sBars) l27 c27 k27
  have b27 := F27.binds (ps := ["tower", "prime", "deep"]) fun _ _ _ _ _ _ us hl => match us, hl with | [_, _, _], _ => rfl
  have F29 := fun_mk (st := sBag) l29 c29 k29
  have b29 := F29.binds (ps := ["_law_script"]) fun _ _ _ _ _ _ us hl => match us, hl with | [_], _ => rfl
  have F30 := fun_mk (st := sPick) l30 c30 k30
  have b30 := F30.binds (ps := ["_law_bag_here", "_law_many"]) fun _ _ _ _ _ _ us hl => match us, hl with | [_, _], _ => rfl
  have F31 := fun_mk (st := sSome) l31 c31 k31
  have b31 := F31.binds (ps := ["_law_bag_here", "_law_things"]) fun _ _ _ _ _ _ us hl => match us, hl with | [_, _], _ => rfl
  have F32 := fun_mk (st := sLFaces) l32 c32 k32
  have b32 := F32.binds (ps := ["_law_cell"]) fun _ _ _ _ _ _ us hl => match us, hl with | [_], _ => rfl
  have F33 := fun_mk (st := sGrown) l33 c33 k33
  have b33 := F33.binds (ps := ["_law_bag_here", "_law_many"]) fun _ _ _ _ _ _ us hl => match us, hl with | [_, _], _ => rfl
  have F34 := fun_mk (st := sGro) l34 c34 k34
  have b34 := F34.binds (ps := ["_law_prime", "_law_basis", "_law_column"]) fun _ _ _ _ _ _ us hl => match us, hl with | [_, _, _], _ => rfl
  have F35 := fun_mk (st := sLri) l35 c35 k35
  have b35 := F35.binds (ps := ["_law_cells", "_law_prime", "_law_cell"]) fun _ _ _ _ _ _ us hl => match us, hl with | [_, _, _], _ => rfl
  have F36 := fun_mk (st := sLas) l36 c36 k36
  have b36 := F36.binds (ps := ["_law_cells", "_law_prime", "_law_deep", "_law_begin"]) fun _ _ _ _ _ _ us hl => match us, hl with | [_, _, _, _], _ => rfl
  have F37 := fun_mk (st := sLIn) l37 c37 k37
  have b37 := F37.binds (ps := ["_law_thing", "_law_below"]) fun _ _ _ _ _ _ us hl => match us, hl with | [_, _], _ => rfl
  have F38 := fun_mk (st := sFor) l38 c38 k38
  have b38 := F38.binds (ps := ["_law_bars", "_law_cells", "_law_deep"]) fun _ _ _ _ _ _ us hl => match us, hl with | [_, _, _], _ => rfl
  have F39 := fun_mk (st := sRig) l39 c39 k39
  have b39 := F39.binds (ps := ["_law_cells", "_law_prime", "_law_deep"]) fun _ _ _ _ _ _ us hl => match us, hl with | [_, _, _], _ => rfl
  have F40 := fun_mk (st := sLaw) l40 c40 k40
  have b40 := F40.binds (ps := ["_law_script"]) fun _ _ _ _ _ _ us hl => match us, hl with | [_], _ => rfl
  have FT := fun_mk (st := sTowI) lT cT kT
  have bT := FT.binds (ps := ["self", "cells"]) fun _ _ _ _ _ _ us hl => match us, hl with | [_, _], _ => rfl
  have nn : ∀ {x : Str}, PySem.W.nsIn K mainGlobals x = some none → mg x = none := fun z => PySem.W.mg_none_of X G z
  have T : Gb mg := ⟨nn zlen, nn zint, nn zbool, nn zisinstance, nn ztuple, nn zall, nn zenumerate, nn zlist, nn zrange, nn zmin, nn zmax, nn zsorted, nn zset, nn zstr, nn zabs, nn zValueError⟩
  have M : TowC mg := ⟨⟨tMOST_CELLS, PySem.W.mg_of X G vMOST_CELLS⟩, ⟨tMOST_IN_CELL, PySem.W.mg_of X G vMOST_IN_CELL⟩, ⟨tMOST_NAME, PySem.W.mg_of X G vMOST_NAME⟩, nn zzip⟩
  have PR : PrimC K mg := ⟨aPR, PySem.W.mg_of X G vPR, fun H => .inr ⟨_, itsPR, nPR, lPR, rfl, rfl, zPR, rPR⟩⟩
  have clT : Cls K CT := ⟨pgCT, hdCT, poCT, saCT⟩
  have W : TowK K mg CT := ⟨clT, nCTcells, PySem.W.mg_of X G gCT⟩
  have MT : Mk K CT fT := ⟨mkCT, aT, iT, kcCT⟩
  refine ⟨PySem.W.fnOf "law" "law" (defArgs sLaw) (defBody sLaw) (defScope sLaw) .none kV40 dc40 pm40 an40 cd40 ct40, fun s v => .of_eq rfl, fun base _ _ => ?_⟩
  have cInt : Cal l.prog w K mg base 1 "is_integer" (spInteger K) [] := ⟨⟨f2, _, _, [], ok_integer F2 T, PySem.W.mg_of X G a2, k2, b2, .nil⟩⟩
  have cNum : Cal l.prog w K mg base 2 "is_number" (spNumber K) [] := ⟨⟨f3, _, _, [], ok_number F3 cInt, PySem.W.mg_of X G a3, k3, b3, .nil⟩⟩
  have cPri : Cal l.prog w K mg base 2 "is_prime" (spPrime K) [] := ⟨⟨f4, _, _, [], ok_prime F4 PR cInt, PySem.W.mg_of X G a4, k4, b4, .nil⟩⟩
  have cAsc : Cal l.prog w K mg base 3 "is_ascending" (spAsc K) [] := ⟨⟨f5, _, _, [], ok_asc F5 T M cNum, PySem.W.mg_of X G a5, k5, b5, .nil⟩⟩
  have cInv : Cal l.prog w K mg base 1 "inverse" spInv [] := ⟨⟨f12, _, _, [], ok_inv F12 T, PySem.W.mg_of X G a12, k12, b12, .nil⟩⟩
  have cPiv : Cal l.prog w K mg base 1 "pivot" spPiv [] := ⟨⟨f13, _, _, [], ok_piv F13 T, PySem.W.mg_of X G a13, k13, b13, .nil⟩⟩
  have cSca : Cal l.prog w K mg base 1 "scaled_row" spScaled [] := ⟨⟨f14, _, _, [], ok_scaled F14 T, PySem.W.mg_of X G a14, k14, b14, .nil⟩⟩
  have cLess : Cal l.prog w K mg base 1 "less" spLess [] := ⟨⟨f15, _, _, [], ok_less F15 T M, PySem.W.mg_of X G a15, k15, b15, .nil⟩⟩
  have cCle : Cal l.prog w K mg base 2 "cleared" spCleared [] := ⟨⟨f16, _, _, [], ok_cleared F16 cLess, PySem.W.mg_of X G a16, k16, b16, .nil⟩⟩
  have cKeep : Cal l.prog w K mg base 3 "keep" spKeep [] := ⟨⟨f17, _, _, [], ok_keep F17 T cCle cPiv cSca cInv cLess, PySem.W.mg_of X G a17, k17, b17, .nil⟩⟩
  have cCell : Cal l.prog w K mg base 4 "is_cell" (spCell K) [] := ⟨⟨f24, _, _, [], ok_cell F24 T M cAsc, PySem.W.mg_of X G a24, k24, b24, .nil⟩⟩
  have cFac : Cal l.prog w K mg base 1 "faces" spFaces [] := ⟨⟨f25, _, _, [], ok_faces F25 T, PySem.W.mg_of X G a25, k25, b25, .nil⟩⟩
  have cRim : Cal l.prog w K mg base 2 "rim_row" spRim [] := ⟨⟨f26, _, _, [], ok_rim F26 T cFac, PySem.W.mg_of X G a26, k26, b26, .nil⟩⟩
  have GT : FnOk l.prog w K mg base CX0 5 fT _ ["self", "cells"] (spTowG CT) := ok_towG FT T M W cCell cFac
  have cBars : Cal l.prog w K mg base 4 "tower_bars" (spBars CT) [] := ⟨⟨f27, _, _, [], ok_bars F27 T W ⟨tMOST_DEEP, PySem.W.mg_of X G vMOST_DEEP⟩ cPri cNum cKeep cRim, PySem.W.mg_of X G a27, k27, b27, .nil⟩⟩
  have cBag : Cal l.prog w K mg base 1 "_law_bag" (spBag K) [] := ⟨⟨f29, _, _, [], ok_bag F29 T, PySem.W.mg_of X G a29, k29, b29, .nil⟩⟩
  have cPick : Cal l.prog w K mg base 1 "_law_pick" spPick [] := ⟨⟨f30, _, _, [], ok_pick F30 ⟨T.len, T.int⟩, PySem.W.mg_of X G a30, k30, b30, .nil⟩⟩
  have cSome : Cal l.prog w K mg base 2 "_law_some" spSome [] := ⟨⟨f31, _, _, [], ok_some F31 ⟨T.len, T.int⟩ cPick, PySem.W.mg_of X G a31, k31, b31, .nil⟩⟩
  have cLF : Cal l.prog w K mg base 1 "_law_faces" spFaces [] := ⟨⟨f32, _, _, [], ok_lfaces F32 T, PySem.W.mg_of X G a32, k32, b32, .nil⟩⟩
  have cGr : Cal l.prog w K mg base 3 "_law_grown" spGrown [] := ⟨⟨f33, _, _, [], ok_grown F33 T cPick cSome cLF, PySem.W.mg_of X G a33, k33, b33, .nil⟩⟩
  have cGs : Cal l.prog w K mg base 2 "_law_grows" spGro [] := ⟨⟨f34, _, _, [], ok_gro F34 T, PySem.W.mg_of X G a34, k34, b34, .nil⟩⟩
  have cLR : Cal l.prog w K mg base 2 "_law_rim" spLRim [] := ⟨⟨f35, _, _, [], ok_lri F35 T cLF, PySem.W.mg_of X G a35, k35, b35, .nil⟩⟩
  have cLa : Cal l.prog w K mg base 3 "_law_lasting" spLas [] := ⟨⟨f36, _, _, [], ok_las F36 T cGs cLR, PySem.W.mg_of X G a36, k36, b36, .nil⟩⟩
  have cLN : Cal l.prog w K mg base 1 "_law_is_number" spLIn [] := ⟨⟨f37, _, _, [], ok_lIn F37 T, PySem.W.mg_of X G a37, k37, b37, .nil⟩⟩
  have cFo : Cal l.prog w K mg base 2 "_law_is_form" spFor [] := ⟨⟨f38, _, _, [], ok_for F38 T cLN, PySem.W.mg_of X G a38, k38, b38, .nil⟩⟩
  have cRi : Cal l.prog w K mg base 7 "_law_right" spRight [] := ⟨⟨f39, _, _, [], ok_rig F39 T W MT GT bT cBars cFo cLa, PySem.W.mg_of X G a39, k39, b39, .nil⟩⟩
  exact ok_law F40 T cBag cPick cSome cGr cRi
theorem walk {l : PySem.W.OpenLaw} {q : Program} {loose : List Str} {XP : (Str → Option Value) → Heap → Prop} {YP : World → Heap → Prop} {d : DefRec} {K : Params → PySem.W.Frag} (hn : l.most = some 63) (hdf : d.params.defaults = [])
    (hY : ∀ (w : World) (h : Heap), YP w h → (K w.params).In h)
    (F : ∀ (w : World) (mg : Str → Option Value) (fa : Addr) (h : Heap), (K w.params).In h → h.Ns mainGlobals mg → mg d.name = some (.ref fa) →
      ∃ fd : FuncData, (∀ (s : Shared) (u : Value), BindsTo s fd ⟨[u], []⟩ [("_law_script", u)]) ∧ ∀ base : Heap, (K w.params).In base → base.Ns mainGlobals mg → FnOk l.prog w (K w.params) mg base CX0 9 fa fd ["_law_script"] (spLaw (K w.params))) :
    PySem.W.WalkO q loose XP YP l.row.toRowW d [] (fun f vs => PySem.call f vs) :=
  L2.walk_of (n := 63) (k := 9) (x := "_law_script") (CX := fun _ => CX0) (sp := fun w => spLaw (K w.params)) hn (by decide) hdf ⟨rfl, by decide, by decide⟩ hY F (fun _ _ a ns hl _ hS => ⟨a, ns, rfl, hS, hl, fun _ => rfl⟩) fun _ _ _ _ _ z => z
end L40

set_option Elab.async false
set_option linter.all false
open PySem PySem.W PyProof.Rows
set_option maxRecDepth 100000 in
set_option maxHeartbeats 0 in
theorem PySem.Challenge.cw_mapwebs_k40_whole_tower_bars_at_all_mome_holds : PySem.Challenge.rw_mapwebs_k40_whole_tower_bars_at_all_mome.Holds := by
  w_on; o_law; k_head; (case hw => w_witness2)
  k_fill
  refine L40.walk (l := PySem.Challenge.rw_mapwebs_k40_whole_tower_bars_at_all_mome) rfl rfl (fun w h Y => PySem.W.kIn_of Y) ?F
  case F =>
    intro w mg fa h KX G hmg
    refine' L40.all_mk KX G hmg ?gCT ?a2 ?l2 ?c2 ?k2 ?a3 ?l3 ?c3 ?k3 ?a4 ?l4 ?c4 ?k4 ?a5 ?l5 ?c5 ?k5 ?a12 ?l12 ?c12 ?k12 ?a13 ?l13 ?c13 ?k13 ?a14 ?l14 ?c14 ?k14 ?a15 ?l15 ?c15 ?k15 ?a16 ?l16 ?c16 ?k16 ?a17 ?l17 ?c17 ?k17 ?a24 ?l24 ?c24 ?k24 ?a25 ?l25 ?c25 ?k25 ?a26 ?l26 ?c26 ?k26 ?a27 ?l27 ?c27 ?k27 ?a29 ?l29 ?c29 ?k29 ?a30 ?l30 ?c30 ?k30 ?a31 ?l31 ?c31 ?k31 ?a32 ?l32 ?c32 ?k32 ?a33 ?l33 ?c33 ?k33 ?a34 ?l34 ?c34 ?k34 ?a35 ?l35 ?c35 ?k35 ?a36 ?l36 ?c36 ?k36 ?a37 ?l37 ?c37 ?k37 ?a38 ?l38 ?c38 ?k38 ?a39 ?l39 ?c39 ?k39 ?a40 ?l40 ?c40 ?k40 ?aT ?iT ?lT ?cT ?kT ?tT ?hn ?ht ?pgCT ?hdCT ?poCT ?saCT ?mkCT ?kcCT ?haCT ?hmCT ?icCT ?tcCT ?scCT ?nCTcells ?vMOST_CELLS ?vMOST_IN_CELL ?vMOST_NAME ?vMOST_DEEP ?vPR ?lPR ?zPR ?rPR ?zlen ?zint ?zbool ?zisinstance ?ztuple ?zall ?zenumerate ?zlist ?zrange ?zmin ?zmax ?zsorted ?zset ?zstr ?zabs ?zValueError ?zzip
    (case gCT => k_is)
    (case a2 => k_is)
    (case l2 => k_is)
    (case c2 => k_is)
    (case k2 => k_is)
    (case a3 => k_is)
    (case l3 => k_is)
    (case c3 => k_is)
    (case k3 => k_is)
    (case a4 => k_is)
    (case l4 => k_is)
    (case c4 => k_is)
    (case k4 => k_is)
    (case a5 => k_is)
    (case l5 => k_is)
    (case c5 => k_is)
    (case k5 => k_is)
    (case a12 => k_is)
    (case l12 => k_is)
    (case c12 => k_is)
    (case k12 => k_is)
    (case a13 => k_is)
    (case l13 => k_is)
    (case c13 => k_is)
    (case k13 => k_is)
    (case a14 => k_is)
    (case l14 => k_is)
    (case c14 => k_is)
    (case k14 => k_is)
    (case a15 => k_is)
    (case l15 => k_is)
    (case c15 => k_is)
    (case k15 => k_is)
    (case a16 => k_is)
    (case l16 => k_is)
    (case c16 => k_is)
    (case k16 => k_is)
    (case a17 => k_is)
    (case l17 => k_is)
    (case c17 => k_is)
    (case k17 => k_is)
    (case a24 => k_is)
    (case l24 => k_is)
    (case c24 => k_is)
    (case k24 => k_is)
    (case a25 => k_is)
    (case l25 => k_is)
    (case c25 => k_is)
    (case k25 => k_is)
    (case a26 => k_is)
    (case l26 => k_is)
    (case c26 => k_is)
    (case k26 => k_is)
    (case a27 => k_is)
    (case l27 => k_is)
    (case c27 => k_is)
    (case k27 => k_is)
    (case a29 => k_is)
    (case l29 => k_is)
    (case c29 => k_is)
    (case k29 => k_is)
    (case a30 => k_is)
    (case l30 => k_is)
    (case c30 => k_is)
    (case k30 => k_is)
    (case a31 => k_is)
    (case l31 => k_is)
    (case c31 => k_is)
    (case k31 => k_is)
    (case a32 => k_is)
    (case l32 => k_is)
    (case c32 => k_is)
    (case k32 => k_is)
    (case a33 => k_is)
    (case l33 => k_is)
    (case c33 => k_is)
    (case k33 => k_is)
    (case a34 => k_is)
    (case l34 => k_is)
    (case c34 => k_is)
    (case k34 => k_is)
    (case a35 => k_is)
    (case l35 => k_is)
    (case c35 => k_is)
    (case k35 => k_is)
    (case a36 => k_is)
    (case l36 => k_is)
    (case c36 => k_is)
    (case k36 => k_is)
    (case a37 => k_is)
    (case l37 => k_is)
    (case c37 => k_is)
    (case k37 => k_is)
    (case a38 => k_is)
    (case l38 => k_is)
    (case c38 => k_is)
    (case k38 => k_is)
    (case a39 => k_is)
    (case l39 => k_is)
    (case c39 => k_is)
    (case k39 => k_is)
    (case a40 => k_is)
    (case l40 => k_is)
    (case c40 => k_is)
    (case k40 => k_is)
    (case aT => k_is)
    (case iT => k_is)
    (case lT => k_is)
    (case cT => k_is)
    (case kT => k_is)
    (case tT => k_is)
    (case hn => k_is)
    (case ht => k_is)
    (case pgCT => k_is)
    (case hdCT => k_is)
    (case poCT => k_is)
    (case saCT => k_is)
    (case mkCT => k_is)
    (case kcCT => k_is)
    (case haCT => k_is)
    (case hmCT => k_is)
    (case icCT => k_is)
    (case tcCT => k_is)
    (case scCT => first | rfl | k_is)
    (case nCTcells => k_is)
    (case vMOST_CELLS => k_is)
    (case vMOST_IN_CELL => k_is)
    (case vMOST_NAME => k_is)
    (case vMOST_DEEP => k_is)
    (case vPR => k_is)
    (case lPR => k_is)
    (case zPR => decide +kernel)
    (case rPR => exact .cons ⟨_, rfl⟩ (.cons ⟨_, rfl⟩ (.cons ⟨_, rfl⟩ (.cons ⟨_, rfl⟩ (.cons ⟨_, rfl⟩ (.cons ⟨_, rfl⟩ .nil))))))
    (case zlen => k_is)
    (case zint => k_is)
    (case zbool => k_is)
    (case zisinstance => k_is)
    (case ztuple => k_is)
    (case zall => k_is)
    (case zenumerate => k_is)
    (case zlist => k_is)
    (case zrange => k_is)
    (case zmin => k_is)
    (case zmax => k_is)
    (case zsorted => k_is)
    (case zset => k_is)
    (case zstr => k_is)
    (case zabs => k_is)
    (case zValueError => k_is)
    (case zzip => k_is)
