import PyProof.Rows.All
import Wide.All
import OpenK.AllK
import Wide.FinOn
import HandS.ForMost
import HandS.Codes
import PySem.Challenge.RW_mapwebs_k23_whole_rows_of_finite_webs
import HandS.IsInst
import HandS.OwnEq
import KE.GoesMore
import HandS.Iter
import HandS.ForExc
import HandS.ExcInit
import HandS.ExcField
import KE.KExcIs
import HandS.TupAny
import HandS.Zip
import HandS.Lambda
import HandS.Conv
import HandS.Walk
import HandS.DictComp
import HandS.SortInts
import HandS.TryOnly
import HandS.DictSub
import HandS.TupMul
import HandS.Deep
import PyProof.WalksMore
import PyProof.MinMaxWalk
import HandS.ExcValue
import HandS.SortOrd
import HandS.SortRule
import KE.KDictSum
import KE.SortData
import HandS.List
import HandS.EndTab
import HandS.WordsExc
import KE.KNestM
set_option linter.all false
/-! The mathematics of parts: two ways of labelling the places of a web give the same labels. -/
namespace K9M
abbrev Ar := List (Nat × Nat)
def mn (i j : Int) : Int := if j < i then j else i
def mx (i j : Int) : Int := if j > i then j else i
/-- parts' own step: the greater label gone, the lesser one kept -/
def step1 (f : Nat → Int) (a : Nat × Nat) : Nat → Int := fun i => if f i = mx (f a.1) (f a.2) then mn (f a.1) (f a.2) else f i
def step2 (f : Nat → Int) (a : Nat × Nat) : Nat → Int := fun i => if i = a.2 then mn (f a.1) (f a.2) else if i = a.1 then mn (f a.1) (f a.2) else f i
def own : Nat → Int := fun i => (i : Int)
def fin1 (A : Ar) : Nat → Int := A.foldl step1 own
def round (A : Ar) (f : Nat → Int) : Nat → Int := A.foldl step2 f
def rounds (A : Ar) : Nat → Nat → Int
  | 0 => own
  | k + 1 => round A (rounds A k)
def Closed (A : Ar) (g : Nat → Int) : Prop := ∀ a ∈ A, g a.1 = g a.2
def Inside (m : Nat) (A : Ar) : Prop := ∀ a ∈ A, a.1 < m ∧ a.2 < m
/-- labels are places no greater, which closed labellings do not tell apart -/
structure Good (m : Nat) (A : Ar) (f : Nat → Int) : Prop where
  lo : ∀ i, i < m → 0 ≤ f i
  hi : ∀ i, i < m → f i ≤ (i : Int)
  same : ∀ g, Closed A g → ∀ i, i < m → g (f i).toNat = g i
theorem own_good (m : Nat) (A : Ar) : Good m A own := ⟨fun i _ => Int.natCast_nonneg i, fun i _ => Int.le_refl _, fun g _ i _ => by unfold own; rw [Int.toNat_natCast]⟩
theorem mn_cases (i j : Int) : (mn i j = i ∧ mx i j = j ∧ i ≤ j) ∨ (mn i j = j ∧ mx i j = i ∧ j ≤ i) := by
  unfold mn mx
  by_cases h : j < i
  · rw [if_pos h, if_neg (by omega)]
    exact .inr ⟨rfl, rfl, by omega⟩
  · rw [if_neg h]
    by_cases h2 : j > i
    · rw [if_pos h2]
      exact .inl ⟨rfl, rfl, by omega⟩
    · rw [if_neg h2]
      have : i = j := by omega
      exact .inl ⟨rfl, this, by omega⟩
theorem step1_good {m : Nat} {A : Ar} {f : Nat → Int} (hA : Inside m A) (G : Good m A f) {a : Nat × Nat} (ha : a ∈ A) : Good m A (step1 f a) := by
  obtain ⟨h1, h2⟩ := hA a ha
  have key : ∀ i, i < m → f i = mx (f a.1) (f a.2) → 0 ≤ mn (f a.1) (f a.2) ∧ mn (f a.1) (f a.2) ≤ f i ∧ ∀ g, Closed A g → g (mn (f a.1) (f a.2)).toNat = g (f i).toNat := by
    intro i hi e
    have e1 := G.same
    rcases mn_cases (f a.1) (f a.2) with ⟨k, g, l⟩ | ⟨k, g, l⟩
    · rw [k]
      rw [g] at e
      refine ⟨G.lo _ h1, by omega, fun c hc => ?_⟩
      rw [e, e1 c hc _ h1, e1 c hc _ h2]
      exact hc a ha
    · rw [k]
      rw [g] at e
      refine ⟨G.lo _ h2, by omega, fun c hc => ?_⟩
      rw [e, e1 c hc _ h1, e1 c hc _ h2]
      exact (hc a ha).symm
  refine ⟨fun i hi => ?_, fun i hi => ?_, fun g hg i hi => ?_⟩
  all_goals unfold step1
  all_goals by_cases e : f i = mx (f a.1) (f a.2)
  · rw [if_pos e]; exact (key i hi e).1
  · rw [if_neg e]; exact G.lo i hi
  · rw [if_pos e]; have := (key i hi e).2.1; have := G.hi i hi; omega
  · rw [if_neg e]; exact G.hi i hi
  · rw [if_pos e, (key i hi e).2.2 g hg]; exact G.same g hg i hi
  · rw [if_neg e]; exact G.same g hg i hi
theorem step2_good {m : Nat} {A : Ar} {f : Nat → Int} (hA : Inside m A) (G : Good m A f) {a : Nat × Nat} (ha : a ∈ A) : Good m A (step2 f a) := by
  obtain ⟨h1, h2⟩ := hA a ha
  have l1 := G.lo _ h1
  have l2 := G.lo _ h2
  have u1 := G.hi _ h1
  have u2 := G.hi _ h2
  have s : ∀ g, Closed A g → g (mn (f a.1) (f a.2)).toNat = g a.1 ∧ g (mn (f a.1) (f a.2)).toNat = g a.2 := by
    intro g hg
    have z := hg a ha
    rcases mn_cases (f a.1) (f a.2) with ⟨k, _, _⟩ | ⟨k, _, _⟩
    · rw [k, G.same g hg _ h1]; exact ⟨rfl, z⟩
    · rw [k, G.same g hg _ h2]; exact ⟨z.symm, rfl⟩
  have b : 0 ≤ mn (f a.1) (f a.2) ∧ mn (f a.1) (f a.2) ≤ f a.1 ∧ mn (f a.1) (f a.2) ≤ f a.2 := by
    rcases mn_cases (f a.1) (f a.2) with ⟨k, _, l⟩ | ⟨k, _, l⟩ <;> rw [k] <;> omega
  refine ⟨fun i hi => ?_, fun i hi => ?_, fun g hg i hi => ?_⟩
  all_goals unfold step2
  all_goals by_cases e2 : i = a.2
  · rw [if_pos e2]; exact b.1
  · rw [if_neg e2]
    by_cases e1 : i = a.1
    · rw [if_pos e1]; exact b.1
    · rw [if_neg e1]; exact G.lo i hi
  · rw [if_pos e2, e2]; omega
  · rw [if_neg e2]
    by_cases e1 : i = a.1
    · rw [if_pos e1, e1]; omega
    · rw [if_neg e1]; exact G.hi i hi
  · rw [if_pos e2, e2]; exact (s g hg).2
  · rw [if_neg e2]
    by_cases e1 : i = a.1
    · rw [if_pos e1, e1]; exact (s g hg).1
    · rw [if_neg e1]; exact G.same g hg i hi
theorem fold_good {m : Nat} {A : Ar} {st : (Nat → Int) → Nat × Nat → Nat → Int} (h : ∀ f, Good m A f → ∀ a ∈ A, Good m A (st f a)) : ∀ (B : Ar) (f : Nat → Int), (∀ a ∈ B, a ∈ A) → Good m A f → Good m A (B.foldl st f)
  | [], f, _, G => G
  | a :: B, f, hB, G => fold_good h B (st f a) (fun b hb => hB b (List.mem_cons_of_mem _ hb)) (h f G a (hB a List.mem_cons_self))
theorem fin1_good {m : Nat} {A : Ar} (hA : Inside m A) : Good m A (fin1 A) := fold_good (fun f G a ha => step1_good hA G ha) A own (fun _ h => h) (own_good m A)
theorem fold1_same : ∀ (B : Ar) (f : Nat → Int) (p q : Nat), f p = f q → (B.foldl step1 f) p = (B.foldl step1 f) q
  | [], f, p, q, h => h
  | a :: B, f, p, q, h => fold1_same B (step1 f a) p q (by unfold step1; rw [h])
theorem fold1_closed : ∀ (B : Ar) (f : Nat → Int), Closed B (B.foldl step1 f)
  | [], f => fun a ha => by cases ha
  | a :: B, f => fun b hb => by
    rcases List.mem_cons.mp hb with rfl | hb
    · refine fold1_same B _ _ _ ?_
      unfold step1
      rcases mn_cases (f b.1) (f b.2) with ⟨k, g, l⟩ | ⟨k, g, l⟩
      · rw [k, g, if_pos rfl]
        by_cases e : f b.1 = f b.2
        · rw [if_pos e]
        · rw [if_neg e]
      · rw [k, g, if_pos rfl]
        by_cases e : f b.2 = f b.1
        · rw [if_pos e]
        · rw [if_neg e]
    · exact fold1_closed B (step1 f a) b hb
theorem fin1_closed (A : Ar) : Closed A (fin1 A) := fold1_closed A own
theorem fin1_idem {m : Nat} {A : Ar} (hA : Inside m A) {i : Nat} (hi : i < m) : fin1 A (fin1 A i).toNat = fin1 A i := (fin1_good hA).same _ (fin1_closed A) i hi
/-! ### the rounds come to the same labels -/
theorem good_ge {m : Nat} {A : Ar} (hA : Inside m A) {f : Nat → Int} (G : Good m A f) {i : Nat} (hi : i < m) : fin1 A i ≤ f i := by
  have h := G.same _ (fin1_closed A) i hi
  have l := G.lo i hi
  have u := G.hi i hi
  have k := (fin1_good hA).hi (f i).toNat (by omega)
  omega
theorem step2_le (f : Nat → Int) (a : Nat × Nat) (i : Nat) : step2 f a i ≤ f i := by
  unfold step2
  by_cases e2 : i = a.2
  · rw [if_pos e2, e2]
    rcases mn_cases (f a.1) (f a.2) with ⟨k, _, l⟩ | ⟨k, _, l⟩ <;> rw [k] <;> omega
  · rw [if_neg e2]
    by_cases e1 : i = a.1
    · rw [if_pos e1, e1]
      rcases mn_cases (f a.1) (f a.2) with ⟨k, _, l⟩ | ⟨k, _, l⟩ <;> rw [k] <;> omega
    · rw [if_neg e1]; exact Int.le_refl _
theorem fold2_le : ∀ (B : Ar) (f : Nat → Int) (i : Nat), (B.foldl step2 f) i ≤ f i
  | [], f, i => Int.le_refl _
  | a :: B, f, i => Int.le_trans (fold2_le B (step2 f a) i) (step2_le f a i)
theorem fold2_good {m : Nat} {A : Ar} (hA : Inside m A) (B : Ar) (hB : ∀ a ∈ B, a ∈ A) {f : Nat → Int} (G : Good m A f) : Good m A (B.foldl step2 f) := fold_good (fun f G a ha => step2_good hA G ha) B f hB G
theorem stays {m : Nat} {A : Ar} (hA : Inside m A) (B : Ar) (hB : ∀ a ∈ B, a ∈ A) {f : Nat → Int} (G : Good m A f) {i : Nat} (hi : i < m) (e : f i = fin1 A i) : (B.foldl step2 f) i = fin1 A i := by
  have h1 := fold2_le B f i
  have h2 := good_ge hA (fold2_good hA B hB G) hi
  omega
theorem spreads {m : Nat} {A : Ar} (hA : Inside m A) : ∀ (B : Ar), (∀ a ∈ B, a ∈ A) → ∀ (f : Nat → Int), Good m A f → ∀ a ∈ B, (f a.1 = fin1 A a.1 ∨ f a.2 = fin1 A a.2) → (B.foldl step2 f) a.1 = fin1 A a.1 ∧ (B.foldl step2 f) a.2 = fin1 A a.2
  | [], _, _, _, a, ha, _ => by cases ha
  | b :: B, hB, f, G, a, ha, e => by
    have hb : b ∈ A := hB b List.mem_cons_self
    have hB' : ∀ a ∈ B, a ∈ A := fun x hx => hB x (List.mem_cons_of_mem _ hx)
    have G' := step2_good hA G hb
    rcases List.mem_cons.mp ha with rfl | ha
    · obtain ⟨h1, h2⟩ := hA a hb
      have c := fin1_closed A a hb
      have g1 := good_ge hA G h1
      have g2 := good_ge hA G h2
      have v : mn (f a.1) (f a.2) = fin1 A a.1 := by
        rcases mn_cases (f a.1) (f a.2) with ⟨k, _, l⟩ | ⟨k, _, l⟩ <;> rw [k] <;> omega
      have e1 : step2 f a a.1 = fin1 A a.1 := by
        unfold step2
        by_cases z : a.1 = a.2
        · rw [if_pos z, v]
        · rw [if_neg z, if_pos rfl, v]
      have e2 : step2 f a a.2 = fin1 A a.2 := by
        unfold step2
        rw [if_pos rfl, v, c]
      exact ⟨stays hA B hB' G' h1 e1, stays hA B hB' G' h2 e2⟩
    · obtain ⟨h1, h2⟩ := hA a (hB' a ha)
      refine spreads hA B hB' (step2 f b) G' a ha ?_
      have q : ∀ i, i < m → f i = fin1 A i → step2 f b i = fin1 A i := fun i hi e => by
        have := step2_le f b i
        have := good_ge hA G' hi
        omega
      exact e.imp (q _ h1) (q _ h2)
theorem border {m : Nat} {A : Ar} (hA : Inside m A) {f : Nat → Int} (G : Good m A f) {i : Nat} (hi : i < m) (ne : f i ≠ fin1 A i) : ∃ a ∈ A, (f a.1 = fin1 A a.1 ∧ f a.2 ≠ fin1 A a.2) ∨ (f a.1 ≠ fin1 A a.1 ∧ f a.2 = fin1 A a.2) := by
  refine Classical.byContradiction fun no => ne ?_
  have cl : Closed A (fun j => if f j = fin1 A j then 1 else 0) := by
    intro a ha
    show (if f a.1 = fin1 A a.1 then (1 : Int) else 0) = if f a.2 = fin1 A a.2 then 1 else 0
    by_cases h1 : f a.1 = fin1 A a.1 <;> by_cases h2 : f a.2 = fin1 A a.2
    · rw [if_pos h1, if_pos h2]
    · exact absurd ⟨a, ha, .inl ⟨h1, h2⟩⟩ no
    · exact absurd ⟨a, ha, .inr ⟨h1, h2⟩⟩ no
    · rw [if_neg h1, if_neg h2]
  have L := fin1_good hA
  have z := L.same _ cl i hi
  have l := L.lo i hi
  have u := L.hi i hi
  have idem := fin1_idem hA hi
  have hc : (fin1 A i).toNat < m := by omega
  have right : f (fin1 A i).toNat = fin1 A (fin1 A i).toNat := by
    have h1 := G.hi _ hc
    have h2 := good_ge hA G hc
    omega
  have z' : (if f (fin1 A i).toNat = fin1 A (fin1 A i).toNat then (1 : Int) else 0) = if f i = fin1 A i then 1 else 0 := z
  rw [if_pos right] at z'
  by_cases h : f i = fin1 A i
  · exact h
  · rw [if_neg h] at z'
    cases z'
theorem count_lt {p q : Nat → Bool} : ∀ (l : List Nat), (∀ x ∈ l, p x = true → q x = true) → (∃ x ∈ l, q x = true ∧ p x = false) → l.countP p < l.countP q
  | [], _, ⟨x, hx, _⟩ => by cases hx
  | a :: l, h, ⟨x, hx, hq, hp⟩ => by
    have mono : l.countP p ≤ l.countP q := List.countP_mono_left fun y hy z => h y (List.mem_cons_of_mem _ hy) z
    rw [List.countP_cons, List.countP_cons]
    rcases List.mem_cons.mp hx with rfl | hx
    · rw [hq, hp]
      simp
      omega
    · have ih := count_lt l (fun y hy z => h y (List.mem_cons_of_mem _ hy) z) ⟨x, hx, hq, hp⟩
      have ha := h a List.mem_cons_self
      cases e : p a with
      | true => rw [ha e]; simp; omega
      | false => cases q a <;> simp <;> omega
def wrong (m : Nat) (A : Ar) (f : Nat → Int) : Nat := (List.range m).countP fun i => decide (f i ≠ fin1 A i)
theorem round_less {m : Nat} {A : Ar} (hA : Inside m A) {f : Nat → Int} (G : Good m A f) (h : 0 < wrong m A f) : wrong m A (round A f) < wrong m A f := by
  obtain ⟨i, hi, ne⟩ := List.countP_pos_iff.mp h
  have hi' := List.mem_range.mp hi
  obtain ⟨a, ha, b⟩ := border hA G hi' (of_decide_eq_true ne)
  obtain ⟨h1, h2⟩ := hA a ha
  have sp := spreads hA A (fun _ h => h) f G a ha (b.imp (fun x => x.1) (fun x => x.2))
  refine count_lt _ (fun x hx z => ?_) ?_
  · have z := of_decide_eq_true z
    exact decide_eq_true fun e => z (stays hA A (fun _ h => h) G (List.mem_range.mp hx) e)
  · rcases b with ⟨_, b⟩ | ⟨b, _⟩
    · exact ⟨a.2, List.mem_range.mpr h2, decide_eq_true b, decide_eq_false fun z => z sp.2⟩
    · exact ⟨a.1, List.mem_range.mpr h1, decide_eq_true b, decide_eq_false fun z => z sp.1⟩
theorem round_zero {m : Nat} {A : Ar} (hA : Inside m A) {f : Nat → Int} (G : Good m A f) (h : wrong m A f = 0) : wrong m A (round A f) = 0 := by
  unfold wrong at *
  rw [List.countP_eq_zero] at *
  intro i hi z
  exact (of_decide_eq_true z) (stays hA A (fun _ h => h) G (List.mem_range.mp hi) (Classical.byContradiction fun ne => h i hi (decide_eq_true ne)))
theorem rounds_good {m : Nat} {A : Ar} (hA : Inside m A) : ∀ k, Good m A (rounds A k)
  | 0 => own_good m A
  | k + 1 => fold2_good hA A (fun _ h => h) (rounds_good hA k)
theorem rounds_wrong {m : Nat} {A : Ar} (hA : Inside m A) : ∀ k, wrong m A (rounds A k) = 0 ∨ wrong m A (rounds A k) + k ≤ m
  | 0 => .inr (by
    have h : (List.range m).countP (fun i => decide (own i ≠ fin1 A i)) ≤ (List.range m).length := List.countP_le_length
    rw [List.length_range] at h
    exact h)
  | k + 1 => by
    have G := rounds_good hA k
    by_cases z : wrong m A (rounds A k) = 0
    · exact .inl (round_zero hA G z)
    · have l := round_less hA G (Nat.pos_of_ne_zero z)
      rcases rounds_wrong hA k with h | h
      · exact absurd h z
      · right
        show wrong m A (round A (rounds A k)) + (k + 1) ≤ m
        omega
/-- the law's marks are parts' own -/
theorem rounds_are {m : Nat} {A : Ar} (hA : Inside m A) {i : Nat} (hi : i < m) : rounds A m i = fin1 A i := by
  have w : wrong m A (rounds A m) = 0 := by
    rcases rounds_wrong hA m with h | h
    · exact h
    · omega
  refine Classical.byContradiction fun ne => ?_
  unfold wrong at w
  rw [List.countP_eq_zero] at w
  exact w i (List.mem_range.mpr hi) (decide_eq_true ne)
/-! ### the lots -/
theorem same_of_mem : ∀ {l k : List Int}, l.Pairwise (· < ·) → k.Pairwise (· < ·) → (∀ x, x ∈ l ↔ x ∈ k) → l = k
  | [], [], _, _, _ => rfl
  | [], y :: k, _, _, h => by have := (h y).mpr List.mem_cons_self; cases this
  | x :: l, [], _, _, h => by have := (h x).mp List.mem_cons_self; cases this
  | x :: l, y :: k, hl, hk, h => by
    have hl' := List.pairwise_cons.mp hl
    have hk' := List.pairwise_cons.mp hk
    have e : x = y := by
      rcases List.mem_cons.mp ((h x).mp List.mem_cons_self) with e | e
      · exact e
      · rcases List.mem_cons.mp ((h y).mpr List.mem_cons_self) with e2 | e2
        · exact e2.symm
        · have a := hk'.1 x e
          have b := hl'.1 y e2
          omega
    subst e
    have : l = k := same_of_mem hl'.2 hk'.2 fun z => ⟨fun hz => by
      rcases List.mem_cons.mp ((h z).mp (List.mem_cons_of_mem _ hz)) with e | e
      · have := hl'.1 z hz; omega
      · exact e, fun hz => by
      rcases List.mem_cons.mp ((h z).mpr (List.mem_cons_of_mem _ hz)) with e | e
      · have := hk'.1 z hz; omega
      · exact e⟩
    rw [this]
/-- the places with this label -/
def lot (m : Nat) (f : Nat → Int) (c : Int) : List Int := ((List.range m).filter fun i => decide (f i = c)).map fun i : Nat => (i : Int)
/-- the places that are their own label -/
def heads (m : Nat) (f : Nat → Int) : List Int := ((List.range m).filter fun i => decide (f i = (i : Int))).map fun i : Nat => (i : Int)
def lots (m : Nat) (A : Ar) : List (List Int) := (heads m (fin1 A)).map (lot m (fin1 A))
theorem range_sorted : ∀ (m : Nat), (List.range m).Pairwise (· < ·) := fun m => List.pairwise_lt_range
theorem heads_sorted (m : Nat) (f : Nat → Int) : (heads m f).Pairwise (· < ·) := by
  unfold heads
  rw [List.pairwise_map]
  exact (List.Pairwise.sublist List.filter_sublist (range_sorted m)).imp fun h => by omega
theorem marks_heads {m : Nat} {A : Ar} (hA : Inside m A) {S : List Int} (hs : S.Pairwise (· < ·)) (hm : ∀ k, k ∈ S ↔ ∃ i, i < m ∧ rounds A m i = k) : S = heads m (fin1 A) := by
  refine same_of_mem hs (heads_sorted m _) fun k => ?_
  rw [hm]
  unfold heads
  rw [List.mem_map]
  have L := fin1_good hA
  constructor
  · rintro ⟨i, hi, rfl⟩
    rw [rounds_are hA hi]
    have l := L.lo i hi
    have u := L.hi i hi
    refine ⟨(fin1 A i).toNat, List.mem_filter.mpr ⟨List.mem_range.mpr (by omega), decide_eq_true ?_⟩, by omega⟩
    rw [fin1_idem hA hi]
    omega
  · rintro ⟨i, hi, rfl⟩
    obtain ⟨h1, h2⟩ := List.mem_filter.mp hi
    have h1 := List.mem_range.mp h1
    exact ⟨i, h1, by rw [rounds_are hA h1]; exact of_decide_eq_true h2⟩
theorem lot_same {m : Nat} {A : Ar} (hA : Inside m A) (c : Int) : lot m (rounds A m) c = lot m (fin1 A) c := by
  unfold lot
  congr 1
  refine List.filter_congr fun i hi => ?_
  rw [rounds_are hA (List.mem_range.mp hi)]
end K9M

set_option linter.all false
/-! Webs of kinds: the mathematics. -/
namespace M21
open K9M
/-! ### the other ends of arrows -/
def ends : Ar → Nat → List Nat
  | [], _ => []
  | a :: A, p => (if a.1 = p then [a.2] else []) ++ ((if a.2 = p then [a.1] else []) ++ ends A p)
theorem ends_cons (a : Nat × Nat) (A : Ar) (p : Nat) : ends (a :: A) p = (if a.1 = p then [a.2] else []) ++ ((if a.2 = p then [a.1] else []) ++ ends A p) := rfl
def outs (A : Ar) (p : Nat) : List Nat := (A.filter fun a => decide (a.1 = p)).map (·.2)
def ins (A : Ar) (p : Nat) : List Nat := (A.filter fun a => decide (a.2 = p)).map (·.1)
theorem mem_ends {A : Ar} {p q : Nat} : q ∈ ends A p ↔ (p, q) ∈ A ∨ (q, p) ∈ A := by
  induction A with
  | nil => simp [ends]
  | cons a A ih =>
    obtain ⟨x, y⟩ := a
    unfold ends
    rw [List.mem_append, List.mem_append, ih]
    by_cases h1 : x = p <;> by_cases h2 : y = p <;> simp [h1, h2] <;> grind
theorem ends_sym {A : Ar} {p q : Nat} (h : q ∈ ends A p) : p ∈ ends A q := by
  rw [mem_ends] at *
  exact h.symm
theorem ends_perm (A : Ar) (p : Nat) : (ends A p).Perm (outs A p ++ ins A p) := by
  induction A with
  | nil => exact .nil
  | cons a A ih =>
    obtain ⟨x, y⟩ := a
    unfold ends outs ins
    rw [List.filter_cons, List.filter_cons]
    unfold outs ins at ih
    by_cases h1 : x = p <;> by_cases h2 : y = p
    · simp [h1, h2]
      exact (ih.cons p).trans List.perm_middle.symm
    · simp [h1, h2]
      exact ih
    · simp [h1, h2]
      exact (ih.cons x).trans List.perm_middle.symm
    · simp [h1, h2]
      exact ih
def flip (a : Nat × Nat) : Nat × Nat := (a.2, a.1)
/-- arrows turned about, here and there -/
inductive Turned : Ar → Ar → Prop
  | nil : Turned [] []
  | keep {A B : Ar} (a : Nat × Nat) : Turned A B → Turned (a :: A) (a :: B)
  | turn {A B : Ar} (a : Nat × Nat) : Turned A B → Turned (a :: A) (flip a :: B)
theorem ends_turned {A B : Ar} (h : Turned A B) (p : Nat) : (ends A p).Perm (ends B p) := by
  induction h with
  | nil => exact .nil
  | keep a _ ih => exact (ih.append_left _).append_left _
  | turn a _ ih =>
    unfold ends flip
    refine ((ih.append_left _).append_left _).trans ?_
    rw [← List.append_assoc, ← List.append_assoc]
    exact List.perm_append_comm.append_right _
theorem ends_of_perm {A B : Ar} (h : A.Perm B) (p : Nat) : (ends A p).Perm (ends B p) := by
  induction h with
  | nil => exact .nil
  | cons a _ ih => exact (ih.append_left _).append_left _
  | swap a b A =>
    show (_ ++ (_ ++ (_ ++ (_ ++ ends A p)))).Perm (_ ++ (_ ++ (_ ++ (_ ++ ends A p))))
    generalize (if b.1 = p then [b.2] else []) = b1
    generalize (if b.2 = p then [b.1] else []) = b2
    generalize (if a.1 = p then [a.2] else []) = a1
    generalize (if a.2 = p then [a.1] else []) = a2
    have e : ∀ (x y z w r : List Nat), x ++ (y ++ (z ++ (w ++ r))) = ((x ++ y) ++ (z ++ w)) ++ r := fun x y z w r => by simp
    rw [e, e]
    exact List.perm_append_comm.append_right _
  | trans _ _ i1 i2 => exact i1.trans i2
/-! ### sums over lots -/
theorem sum_map_add {α : Type} (f g : α → Nat) : ∀ l : List α, (l.map fun x => f x + g x).sum = (l.map f).sum + (l.map g).sum
  | [] => rfl
  | x :: l => by
    simp only [List.map_cons, List.sum_cons]
    rw [sum_map_add f g l]
    omega
theorem sum_map_zero {α : Type} : ∀ l : List α, (l.map fun _ => 0).sum = 0
  | [] => rfl
  | x :: l => by
    simp only [List.map_cons, List.sum_cons]
    rw [sum_map_zero l]
theorem sum_one (x : Nat) (k : Nat) : ∀ {L : List Nat}, L.Nodup → (L.map fun p => if p = x then k else 0).sum = if x ∈ L then k else 0
  | [], _ => by simp
  | p :: L, h => by
    have h' := List.nodup_cons.mp h
    simp only [List.map_cons, List.sum_cons]
    rw [sum_one x k h'.2]
    by_cases e : p = x
    · subst e
      rw [if_pos rfl, if_neg h'.1, if_pos List.mem_cons_self]
      rfl
    · rw [if_neg e]
      by_cases m : x ∈ L
      · rw [if_pos m, if_pos (List.mem_cons_of_mem _ m)]
        omega
      · rw [if_neg m, if_neg (by rw [List.mem_cons]; exact fun z => z.elim (fun z => e z.symm) m)]
/-- how often the ends at a lot's places are such -/
theorem sum_ends (w : Nat → Nat → Bool) {L : List Nat} (nd : L.Nodup) : ∀ A : Ar, (L.map fun p => (ends A p).countP (w p)).sum = (A.map fun a => (if a.1 ∈ L then (if w a.1 a.2 = true then 1 else 0) else 0) + (if a.2 ∈ L then (if w a.2 a.1 = true then 1 else 0) else 0)).sum
  | [] => by
    simp only [ends, List.map_nil, List.sum_nil]
    exact sum_map_zero L
  | a :: A => by
    obtain ⟨x, y⟩ := a
    have e : ∀ p, (ends ((x, y) :: A) p).countP (w p) = ((if p = x then (if w x y = true then 1 else 0) else 0) + (if p = y then (if w y x = true then 1 else 0) else 0)) + (ends A p).countP (w p) := by
      intro p
      rw [ends_cons]
      simp only []
      rw [List.countP_append, List.countP_append]
      by_cases h1 : p = x <;> by_cases h2 : p = y
      · subst h1; subst h2
        simp only [if_true]
        rw [List.countP_singleton]
        omega
      · subst h1
        have h3 : ¬ y = p := fun z => h2 z.symm
        simp only [if_true, if_neg h2, if_neg h3]
        rw [List.countP_singleton, List.countP_nil]
        omega
      · subst h2
        have h3 : ¬ x = p := fun z => h1 z.symm
        simp only [if_true, if_neg h1, if_neg h3]
        rw [List.countP_singleton, List.countP_nil]
        omega
      · have h3 : ¬ y = p := fun z => h2 z.symm
        have h4 : ¬ x = p := fun z => h1 z.symm
        simp only [if_neg h1, if_neg h2, if_neg h3, if_neg h4]
        rw [List.countP_nil]
        omega
    simp only [e]
    rw [sum_map_add, sum_map_add, sum_one _ _ nd, sum_one _ _ nd, sum_ends w nd A]
    simp only [List.map_cons, List.sum_cons]
/-! ### lots that hang together -/
/-- a lot with which each arrow lies that begins or ends there -/
def Shut (A : Ar) (L : List Nat) : Prop := ∀ a ∈ A, a.1 ∈ L ↔ a.2 ∈ L
def inner (A : Ar) (L : List Nat) : Ar := A.filter fun a => decide (a.1 ∈ L)
theorem sum_degrees {A : Ar} {L : List Nat} (nd : L.Nodup) (sh : Shut A L) : (L.map fun p => (ends A p).length).sum = 2 * (inner A L).length := by
  have h := sum_ends (fun _ _ => true) nd A
  have e : ∀ p, (ends A p).countP (fun _ => true) = (ends A p).length := fun p => by simp
  simp only [e] at h
  rw [h]
  clear h e
  unfold inner
  induction A with
  | nil => rfl
  | cons a A ih =>
    have ih := ih fun b hb => sh b (List.mem_cons_of_mem _ hb)
    have s := sh a List.mem_cons_self
    rw [List.map_cons, List.sum_cons, ih, List.filter_cons]
    by_cases h : a.1 ∈ L
    · have h2 := s.mp h
      simp [h, h2]
      omega
    · have h2 : a.2 ∉ L := fun z => h (s.mpr z)
      simp [h, h2]
/-- within so many steps -/
def Reach (A : Ar) (c : Nat) : Nat → Nat → Prop
  | 0, p => p = c
  | n + 1, p => Reach A c n p ∨ ∃ q, Reach A c n q ∧ p ∈ ends A q
theorem least_nat {P : Nat → Prop} (h : ∃ n, P n) : ∃ n, P n ∧ ∀ m, m < n → ¬ P m := by
  obtain ⟨n, hn⟩ := h
  induction n using Nat.strongRecOn with
  | ind n ih =>
    by_cases z : ∃ m, m < n ∧ P m
    · obtain ⟨m, hm, pm⟩ := z
      exact ih m hm pm
    · exact ⟨n, hn, fun m hm pm => z ⟨m, hm, pm⟩⟩
/-- all places of the lot can be reached from each other -/
def Hung (A : Ar) (L : List Nat) : Prop := ∀ p ∈ L, ∀ q ∈ L, ∃ n, Reach A p n q
theorem depth {A : Ar} {c : Nat} {L : List Nat} (h : ∀ p ∈ L, ∃ n, Reach A c n p) : ∃ d : Nat → Nat, ∀ p ∈ L, (p = c ∧ d p = 0) ∨ (p ≠ c ∧ ∃ q, p ∈ ends A q ∧ d q < d p) := by
  have : ∀ p, ∃ n, (∃ k, Reach A c k p) → Reach A c n p ∧ ∀ m, m < n → ¬ Reach A c m p := fun p => by
    by_cases e : ∃ k, Reach A c k p
    · obtain ⟨n, h1, h2⟩ := least_nat e
      exact ⟨n, fun _ => ⟨h1, h2⟩⟩
    · exact ⟨0, fun z => absurd z e⟩
  refine ⟨fun p => (this p).choose, fun p hp => ?_⟩
  have sp := (this p).choose_spec (h p hp)
  by_cases e : p = c
  · left
    refine ⟨e, ?_⟩
    refine Classical.byContradiction fun z => sp.2 0 (Nat.pos_of_ne_zero z) e
  · right
    refine ⟨e, ?_⟩
    show ∃ q, p ∈ ends A q ∧ (this q).choose < (this p).choose
    generalize (this p).choose = n at sp
    cases n with
    | zero => exact absurd sp.1 e
    | succ n =>
      rcases sp.1 with z | ⟨q, hq, hm⟩
      · exact absurd z (sp.2 n (Nat.lt_succ_self n))
      · refine ⟨q, hm, ?_⟩
        have sq := (this q).choose_spec ⟨n, hq⟩
        refine Classical.byContradiction fun z => sq.2 n (by omega) hq
theorem sum_le {α : Type} {f g : α → Nat} : ∀ {l : List α}, (∀ x ∈ l, f x ≤ g x) → (l.map f).sum ≤ (l.map g).sum
  | [], _ => Nat.le_refl _
  | x :: l, h => by
    simp only [List.map_cons, List.sum_cons]
    have := h x List.mem_cons_self
    have := sum_le (l := l) fun y hy => h y (List.mem_cons_of_mem _ hy)
    omega
theorem sum_tight {α : Type} {f g : α → Nat} : ∀ {l : List α}, (∀ x ∈ l, f x ≤ g x) → (l.map g).sum ≤ (l.map f).sum → ∀ x ∈ l, f x = g x
  | [], _, _, x, hx => by cases hx
  | y :: l, h, e, x, hx => by
    simp only [List.map_cons, List.sum_cons] at e
    have h1 := h y List.mem_cons_self
    have h2 := sum_le (l := l) fun z hz => h z (List.mem_cons_of_mem _ hz)
    rcases List.mem_cons.mp hx with rfl | hx
    · omega
    · exact sum_tight (fun z hz => h z (List.mem_cons_of_mem _ hz)) (by omega) x hx
/-- a lot that hangs together by one arrow less than it has places: rooted anywhere, each place but the root has one end nearer to the root, the others are farther -/
theorem tree {A : Ar} {c : Nat} {L : List Nat} (nd : L.Nodup) (sh : Shut A L) (hc : c ∈ L) (hg : ∀ p ∈ L, ∃ n, Reach A c n p) (few : (inner A L).length + 1 = L.length) :
    ∃ d : Nat → Nat, (∀ p ∈ L, ∀ q ∈ ends A p, d q ≠ d p) ∧ (∀ p ∈ L, (ends A p).countP (fun q => decide (d q < d p)) ≤ 1) ∧ (∀ p ∈ L, p ≠ c → 0 < d p) ∧ d c = 0 := by
  obtain ⟨d, hd⟩ := depth hg
  have s1 := sum_ends (fun p q => decide (d q < d p)) nd A
  have ea : ∀ a ∈ A, (if a.1 ∈ L then (if decide (d a.2 < d a.1) = true then 1 else 0) else 0) + (if a.2 ∈ L then (if decide (d a.1 < d a.2) = true then 1 else 0) else 0) ≤ (if a.1 ∈ L then 1 else 0 : Nat) := by
    intro a ha
    have s := sh a ha
    by_cases h : a.1 ∈ L
    · have h2 := s.mp h
      simp only [h, h2, if_true, decide_eq_true_eq]
      split <;> split <;> omega
    · have h2 : a.2 ∉ L := fun z => h (s.mpr z)
      simp only [h, h2, if_false]
      omega
  have sa : (A.map fun a => (if a.1 ∈ L then 1 else 0 : Nat)).sum = (inner A L).length := by
    unfold inner
    clear ea s1 few hg hd sh
    induction A with
    | nil => rfl
    | cons a A ih =>
      rw [List.map_cons, List.sum_cons, ih, List.filter_cons]
      by_cases h : a.1 ∈ L
      · simp [h]; omega
      · simp [h]
  have ep : ∀ p ∈ L, (if p = c then 0 else 1 : Nat) ≤ (ends A p).countP (fun q => decide (d q < d p)) := by
    intro p hp
    rcases hd p hp with ⟨e, _⟩ | ⟨e, q, hq, lt⟩
    · rw [if_pos e]; exact Nat.zero_le _
    · rw [if_neg e]
      exact List.countP_pos_iff.mpr ⟨q, ends_sym hq, decide_eq_true lt⟩
  have sp : (L.map fun p => (if p = c then 0 else 1 : Nat)).sum + 1 = L.length := by
    clear ea s1 few hg hd sh sa ep
    induction L with
    | nil => cases hc
    | cons x L ih =>
      have h' := List.nodup_cons.mp nd
      rw [List.map_cons, List.sum_cons, List.length_cons]
      by_cases e : x = c
      · subst e
        rw [if_pos rfl]
        have : (L.map fun p => (if p = x then 0 else 1 : Nat)) = L.map fun _ => 1 := List.map_congr_left fun p hp => if_neg fun (z : p = x) => h'.1 (z ▸ hp)
        rw [this]
        have one : ∀ l : List Nat, (l.map fun _ => 1).sum = l.length := fun l => by
          induction l with
          | nil => rfl
          | cons x l ih => rw [List.map_cons, List.sum_cons, ih, List.length_cons]; omega
        rw [one, Nat.zero_add]
      · rw [if_neg e]
        rcases List.mem_cons.mp hc with z | z
        · exact absurd z.symm e
        · have := ih h'.2 z
          omega
  have l1 := sum_le (f := fun p => (if p = c then 0 else 1 : Nat)) (g := fun p => (ends A p).countP (fun q => decide (d q < d p))) ep
  have l2 := sum_le (l := A) ea
  have t1 := sum_tight (l := L) ep (by omega)
  have t2 := sum_tight (l := A) ea (by omega)
  refine ⟨d, fun p hp q hq e => ?_, fun p hp => ?_, fun p hp ne => ?_, ?_⟩
  · rw [mem_ends] at hq
    rcases hq with h | h
    · have := t2 _ h
      have h2 : q ∈ L := (sh _ h).mp hp
      simp only [hp, h2, if_true, e, Nat.lt_irrefl, decide_false] at this
      simp at this
    · have := t2 _ h
      have h2 : q ∈ L := (sh _ h).mpr hp
      simp only [hp, h2, if_true, e, Nat.lt_irrefl, decide_false] at this
      simp at this
  · have := t1 p hp
    rw [← this]
    show (if p = c then 0 else 1 : Nat) ≤ 1
    split <;> omega
  · rcases hd p hp with ⟨e, _⟩ | ⟨e, q, hq, lt⟩
    · exact absurd e ne
    · omega
  · rcases hd c hc with ⟨_, e⟩ | ⟨e, _⟩
    · exact e
    · exact absurd rfl e
end M21

set_option linter.all false
/-! Ways and kinds, as relations. -/
namespace M21
open K9M
inductive Two {α β : Type} (R : α → β → Prop) : List α → List β → Prop
  | nil : Two R [] []
  | cons {a : α} {b : β} {l : List α} {k : List β} : R a b → Two R l k → Two R (a :: l) (b :: k)
theorem Two.len {α β : Type} {R : α → β → Prop} {l : List α} {k : List β} (h : Two R l k) : l.length = k.length := by
  induction h with
  | nil => rfl
  | cons _ _ ih => rw [List.length_cons, List.length_cons, ih]
theorem Two.get {α β : Type} {R : α → β → Prop} {l : List α} {k : List β} (h : Two R l k) : ∀ {i : Nat} {a : α}, l[i]? = some a → ∃ b, k[i]? = some b ∧ R a b := by
  induction h with
  | nil => intro i a e; simp at e
  | cons r _ ih =>
    intro i a e
    cases i with
    | zero => cases e; exact ⟨_, rfl, r⟩
    | succ i => exact ih (i := i) (by simpa using e)
theorem Two.imp {α β : Type} {R S : α → β → Prop} (f : ∀ a b, R a b → S a b) {l : List α} {k : List β} (h : Two R l k) : Two S l k := by
  induction h with
  | nil => exact .nil
  | cons r _ ih => exact .cons (f _ _ r) ih
theorem Two.perm {α β : Type} {R : α → β → Prop} {l l' : List α} (p : l.Perm l') : ∀ {k : List β}, Two R l k → ∃ k', Two R l' k' ∧ k'.Perm k := by
  induction p with
  | nil => intro k h; cases h; exact ⟨[], .nil, .nil⟩
  | cons x _ ih =>
    intro k h
    cases h with
    | cons r h =>
      obtain ⟨k', h', p'⟩ := ih h
      exact ⟨_ :: k', .cons r h', p'.cons _⟩
  | swap x y l =>
    intro k h
    cases h with
    | cons r h =>
      cases h with
      | cons s h => exact ⟨_ :: _ :: _, .cons s (.cons r h), List.Perm.swap _ _ _⟩
  | trans _ _ i1 i2 =>
    intro k h
    obtain ⟨k1, h1, p1⟩ := i1 h
    obtain ⟨k2, h2, p2⟩ := i2 h1
    exact ⟨k2, h2, p2.trans p1⟩
theorem Two.map {α β γ : Type} {R : α → β → Prop} {S : γ → β → Prop} (f : α → γ) (g : ∀ a b, R a b → S (f a) b) {l : List α} {k : List β} (h : Two R l k) : Two S (l.map f) k := by
  induction h with
  | nil => exact .nil
  | cons r _ ih => exact .cons (g _ _ r) ih
theorem Two.of_all {α β : Type} {R : α → β → Prop} : ∀ {l : List α}, (∀ a ∈ l, ∃ b, R a b) → ∃ k, Two R l k
  | [], _ => ⟨[], .nil⟩
  | a :: l, h => by
    obtain ⟨b, r⟩ := h a List.mem_cons_self
    obtain ⟨k, t⟩ := Two.of_all (l := l) fun x hx => h x (List.mem_cons_of_mem _ hx)
    exact ⟨b :: k, .cons r t⟩
/-- the other ends but the one that the way comes from -/
def onward (A : Ar) (ahead here : Nat) : List Nat := (ends A here).filter fun q => decide (q ≠ ahead)
inductive WayS (A : Ar) : Nat → Nat → Nat → Prop
  | stop {ahead here : Nat} : onward A ahead here = [] → WayS A ahead here 1
  | step {ahead here x n : Nat} : onward A ahead here = [x] → WayS A here x n → WayS A ahead here (n + 1)
def degs (A : Ar) (L : List Nat) : Nat := (L.map fun p => (ends A p).length).sum
def forks (A : Ar) (L : List Nat) : List Nat := L.filter fun p => decide (2 < (ends A p).length)
/-- 0, 1, 2 for A, D, E, with the number of places -/
def starK (n : Nat) : List Nat → Option (Nat × Nat)
  | [s, m, f] => if s = 1 ∧ m = 1 then some (1, n) else if s = 1 ∧ m = 2 ∧ f ≤ 4 then some (2, n) else none
  | _ => none
inductive KindR (A : Ar) (L : List Nat) : Option (Nat × Nat) → Prop
  | ring : degs A L + 2 ≠ 2 * L.length → KindR A L none
  | line : degs A L + 2 = 2 * L.length → forks A L = [] → KindR A L (some (0, L.length))
  | many : degs A L + 2 = 2 * L.length → forks A L ≠ [] → (∀ c, forks A L = [c] → (ends A c).length ≠ 3) → KindR A L none
  | star (c : Nat) (ws S : List Nat) : degs A L + 2 = 2 * L.length → forks A L = [c] → (ends A c).length = 3 → Two (WayS A c) (ends A c) ws → S.Perm ws → S.Pairwise (· ≤ ·) → KindR A L (starK L.length S)
theorem le_sum {d : Nat → Nat} : ∀ {L : List Nat} {p : Nat}, p ∈ L → d p ≤ (L.map d).sum
  | x :: L, p, h => by
    simp only [List.map_cons, List.sum_cons]
    rcases List.mem_cons.mp h with rfl | h
    · omega
    · have := le_sum (d := d) h
      omega
theorem way_is {A : Ar} {c : Nat} {L : List Nat} {d : Nat → Nat} (sh : Shut A L) (h1 : ∀ p ∈ L, ∀ q ∈ ends A p, d q ≠ d p) (h2 : ∀ p ∈ L, (ends A p).countP (fun q => decide (d q < d p)) ≤ 1) (h0 : d c = 0) (two : ∀ p ∈ L, p ≠ c → (ends A p).length ≤ 2) :
    ∀ (n here ahead : Nat), (L.map d).sum < d here + n → here ∈ L → ahead ∈ ends A here → d ahead < d here → ∃ k, WayS A ahead here k := by
  intro n
  induction n with
  | zero =>
    intro here ahead hn hh _ _
    have := le_sum (d := d) hh
    omega
  | succ n ih =>
    intro here ahead hn hh ha lt
    have ne : here ≠ c := fun e => by rw [e, h0] at lt; omega
    have l2 := two here hh ne
    have lf : (onward A ahead here).length < (ends A here).length := by
      unfold onward
      exact List.length_filter_lt_length_iff_exists.mpr ⟨ahead, ha, by simp⟩
    match e : onward A ahead here, lf with
    | [], _ => exact ⟨1, .stop e⟩
    | _ :: _ :: _, lf => simp only [List.length_cons] at lf; omega
    | [x], _ =>
      have hx : x ∈ onward A ahead here := by rw [e]; exact List.mem_cons_self
      obtain ⟨hx1, hx2⟩ := List.mem_filter.mp hx
      have xL : x ∈ L := by
        rcases mem_ends.mp hx1 with z | z
        · exact (sh _ z).mp hh
        · exact (sh _ z).mpr hh
      have d1 := h1 here hh x hx1
      have d2 : d here < d x := by
        refine Classical.byContradiction fun no => ?_
        have lx : d x < d here := by omega
        have c2 := h2 here hh
        have := List.countP_eq_countP_filter_add (ends A here) (fun q => decide (d q < d here)) (fun q => decide (q ≠ ahead))
        have e' : (ends A here).filter (fun q => decide (q ≠ ahead)) = [x] := e
        rw [e', List.countP_singleton, decide_eq_true lx, if_pos rfl] at this
        have pos : 0 < List.countP (fun q => decide (d q < d here)) ((ends A here).filter fun a => !decide (a ≠ ahead)) :=
          List.countP_pos_iff.mpr ⟨ahead, List.mem_filter.mpr ⟨ha, by simp⟩, decide_eq_true lt⟩
        omega
      obtain ⟨k, hk⟩ := ih x here (by omega) xL (ends_sym hx1) d2
      exact ⟨k + 1, .step e hk⟩
theorem kind_is {A : Ar} {L : List Nat} (nd : L.Nodup) (sh : Shut A L) (hg : ∀ c ∈ L, ∀ p ∈ L, ∃ n, Reach A c n p) : ∃ k, KindR A L k := by
  by_cases e : degs A L + 2 = 2 * L.length
  · by_cases f : forks A L = []
    · exact ⟨_, .line e f⟩
    · by_cases g : ∃ c, forks A L = [c] ∧ (ends A c).length = 3
      · obtain ⟨c, hc, h3⟩ := g
        have cL : c ∈ L := (List.mem_filter.mp (show c ∈ forks A L by rw [hc]; exact List.mem_cons_self)).1
        have few : (inner A L).length + 1 = L.length := by
          have := sum_degrees nd sh
          unfold degs at e
          omega
        obtain ⟨d, h1, h2, h4, h0⟩ := tree nd sh cL (hg c cL) few
        have two : ∀ p ∈ L, p ≠ c → (ends A p).length ≤ 2 := fun p hp ne => by
          refine Classical.byContradiction fun no => ne ?_
          have : p ∈ forks A L := List.mem_filter.mpr ⟨hp, decide_eq_true (by omega)⟩
          rw [hc] at this
          exact List.mem_singleton.mp this
        have w := way_is sh h1 h2 h0 two
        obtain ⟨ws, hw⟩ := Two.of_all (R := WayS A c) (l := ends A c) fun x hx => by
          have xL : x ∈ L := by
            rcases mem_ends.mp hx with z | z
            · exact (sh _ z).mp cL
            · exact (sh _ z).mpr cL
          refine w ((L.map d).sum + 1) x c (by omega) xL (ends_sym hx) ?_
          have := h1 c cL x hx
          omega
        refine ⟨_, .star c ws (ws.mergeSort (fun a b => decide (a ≤ b))) e hc h3 hw (List.mergeSort_perm _ _) ?_⟩
        have := List.pairwise_mergeSort (le := fun a b : Nat => decide (a ≤ b)) (fun a b c h1 h2 => decide_eq_true (Nat.le_trans (of_decide_eq_true h1) (of_decide_eq_true h2))) (fun a b => by simp; omega) ws
        exact this.imp fun h => of_decide_eq_true h
      · exact ⟨_, .many e f fun c hc h3 => g ⟨c, hc, h3⟩⟩
  · exact ⟨_, .ring e⟩
/-! ### the same for places called otherwise, arrows in another order and turned about -/
theorem way_map {A B : Ar} {L : List Nat} {f : Nat → Nat} (inj : ∀ p ∈ L, ∀ q ∈ L, f p = f q → p = q) (he : ∀ p ∈ L, (ends B (f p)).Perm ((ends A p).map f)) (cl : ∀ p ∈ L, ∀ q ∈ ends A p, q ∈ L) {a h n : Nat} (w : WayS A a h n) : a ∈ L → h ∈ L → WayS B (f a) (f h) n := by
  have on : ∀ a h, a ∈ L → h ∈ L → (onward B (f a) (f h)).Perm ((onward A a h).map f) := fun a h ha hh => by
    unfold onward
    refine ((he h hh).filter _).trans ?_
    rw [List.filter_map]
    refine List.Perm.of_eq ?_
    congr 1
    refine List.filter_congr fun q hq => ?_
    show decide (f q ≠ f a) = decide (q ≠ a)
    by_cases e : q = a
    · simp [e]
    · have : f q ≠ f a := fun z => e (inj _ (cl h hh q hq) _ ha z)
      simp [e, this]
  induction w with
  | stop e =>
    rename_i ahead here
    intro ha hh
    refine .stop ?_
    have := (on ahead here ha hh).length_eq
    rw [e] at this
    exact List.length_eq_zero_iff.mp this
  | step e _ ih =>
    rename_i ahead here x n _
    intro ha hh
    have hx : x ∈ onward A ahead here := by rw [e]; exact List.mem_cons_self
    refine .step (x := f x) ?_ (ih hh (cl here hh x (List.mem_filter.mp hx).1))
    have := on ahead here ha hh
    rw [e] at this
    exact List.perm_singleton.mp this
theorem two_mem {α β : Type} {R S : α → β → Prop} : ∀ {l : List α} {k : List β}, (∀ a ∈ l, ∀ b, R a b → S a b) → Two R l k → Two S l k
  | _, _, _, .nil => .nil
  | _, _, h, .cons r t => .cons (h _ List.mem_cons_self _ r) (two_mem (fun a ha => h a (List.mem_cons_of_mem _ ha)) t)
theorem kind_map {A B : Ar} {L M : List Nat} {f : Nat → Nat} (inj : ∀ p ∈ L, ∀ q ∈ L, f p = f q → p = q) (he : ∀ p ∈ L, (ends B (f p)).Perm ((ends A p).map f)) (cl : ∀ p ∈ L, ∀ q ∈ ends A p, q ∈ L) (hl : M.Perm (L.map f)) {k : Option (Nat × Nat)} (h : KindR A L k) : KindR B M k := by
  have len : M.length = L.length := by rw [hl.length_eq, List.length_map]
  have el : ∀ p ∈ L, (ends B (f p)).length = (ends A p).length := fun p hp => by rw [(he p hp).length_eq, List.length_map]
  have dg : degs B M = degs A L := by
    unfold degs
    rw [(hl.map _).sum_nat, List.map_map]
    congr 1
    exact List.map_congr_left fun p hp => el p hp
  have fk : (forks B M).Perm ((forks A L).map f) := by
    unfold forks
    refine (hl.filter _).trans (List.Perm.of_eq ?_)
    rw [List.filter_map]
    congr 1
    refine List.filter_congr fun p hp => ?_
    show decide (2 < (ends B (f p)).length) = _
    rw [el p hp]
  have fL : ∀ c, c ∈ forks A L → c ∈ L := fun c hc => (List.mem_filter.mp hc).1
  cases h with
  | ring e => exact .ring (by rw [dg, len]; exact e)
  | line e g =>
    rw [← len]
    refine .line (by rw [dg, len]; exact e) ?_
    rw [g] at fk
    exact fk.eq_nil
  | many e g no =>
    refine .many (by rw [dg, len]; exact e) (fun z => g ?_) fun c hc h3 => ?_
    · rw [z] at fk
      have := fk.length_eq
      rw [List.length_map] at this
      exact List.length_eq_zero_iff.mp this.symm
    · rw [hc] at fk
      have := List.singleton_perm.mp fk
      match e2 : forks A L, this with
      | [c'], this =>
        have ec : c = f c' := by simpa using this
        exact no c' e2 (by rw [← el c' (fL c' (by rw [e2]; exact List.mem_cons_self)), ← ec]; exact h3)
  | star c ws S e g h3 tw p s =>
    rw [← len]
    rw [g] at fk
    have cL : c ∈ L := fL c (by rw [g]; exact List.mem_cons_self)
    have tw2 := two_mem (S := fun x n => WayS B (f c) (f x) n) (fun x hx n w => way_map inj he cl w cL (cl c cL x hx)) tw
    obtain ⟨ws', t', p'⟩ := Two.perm (he c cL).symm (Two.map (S := WayS B (f c)) f (fun x n w => w) tw2)
    exact .star (f c) ws' S (by rw [dg, len]; exact e) (List.perm_singleton.mp fk) (by rw [el c cL]; exact h3) t' (p.trans p'.symm) s
theorem kind_perm {A B : Ar} (he : ∀ p, (ends A p).Perm (ends B p)) {L : List Nat} (cl : ∀ p ∈ L, ∀ q ∈ ends A p, q ∈ L) {k : Option (Nat × Nat)} (h : KindR A L k) : KindR B L k :=
  kind_map (f := fun p => p) (fun _ _ _ _ e => e) (fun p _ => by rw [List.map_id']; exact (he p).symm) cl (by rw [List.map_id']) h
/-! ### ways told by counting -/
def wayF (A : Ar) : Nat → Nat → Nat → Nat
  | 0, _, _ => 0
  | f + 1, a, h => match onward A a h with
    | [] => 1
    | [x] => if wayF A f h x = 0 then 0 else wayF A f h x + 1
    | _ => 0
theorem wayF_ok {A : Ar} : ∀ (f a h : Nat), wayF A f a h ≠ 0 → WayS A a h (wayF A f a h)
  | 0, _, _, z => absurd rfl z
  | f + 1, a, h, z => by
    unfold wayF at z ⊢
    match e : onward A a h with
    | [] => exact .stop e
    | [x] =>
      rw [e] at z
      simp only at z ⊢
      by_cases y : wayF A f h x = 0
      · rw [if_pos y] at z; exact absurd rfl z
      · rw [if_neg y]
        exact .step e (wayF_ok f h x y)
    | _ :: _ :: _ => rw [e] at z; exact absurd rfl z
def arms : Nat → Nat → Ar
  | 0, n => (List.range (n - 1)).map fun i => (i, i + 1)
  | 1, n => (List.range (n - 2)).map (fun i => (i, i + 1)) ++ [(n - 3, n - 1)]
  | _, n => (List.range (n - 2)).map (fun i => (i, i + 1)) ++ [(2, n - 1)]
def ShapeOk (s : Nat × Nat) : Prop := (s.1 = 0 ∧ 1 ≤ s.2 ∧ s.2 ≤ 8) ∨ (s.1 = 1 ∧ 4 ≤ s.2 ∧ s.2 ≤ 8) ∨ (s.1 = 2 ∧ 6 ≤ s.2 ∧ s.2 ≤ 8)
def allS : List (Nat × Nat) := (List.range' 1 8).map (fun n => (0, n)) ++ (List.range' 4 5).map (fun n => (1, n)) ++ (List.range' 6 3).map fun n => (2, n)
theorem shape_in {s : Nat × Nat} (h : ShapeOk s) : s ∈ allS := by
  obtain ⟨k, n⟩ := s
  unfold allS
  rcases h with ⟨e, l, u⟩ | ⟨e, l, u⟩ | ⟨e, l, u⟩ <;> simp only at e l u <;> subst e
  · exact List.mem_append_left _ (List.mem_append_left _ (List.mem_map.mpr ⟨n, by simp; omega, rfl⟩))
  · exact List.mem_append_left _ (List.mem_append_right _ (List.mem_map.mpr ⟨n, by simp; omega, rfl⟩))
  · exact List.mem_append_right _ (List.mem_map.mpr ⟨n, by simp; omega, rfl⟩)
def sortN (l : List Nat) : List Nat := l.mergeSort fun a b => decide (a ≤ b)
def ins3 (a : Nat) : List Nat → List Nat
  | [] => [a]
  | b :: l => if a ≤ b then a :: b :: l else b :: ins3 a l
def chk (s : Nat × Nat) : Bool :=
  let A := arms s.1 s.2
  let L := List.range s.2
  decide (degs A L + 2 = 2 * L.length) && match forks A L with
    | [] => decide (s.1 = 0)
    | [c] => decide ((ends A c).length = 3) && (ends A c).all (fun x => decide (wayF A 9 c x ≠ 0)) && decide (starK s.2 (((ends A c).map fun x => wayF A 9 c x).foldr ins3 []) = some s)
    | _ => false
theorem chk_all : ∀ s ∈ allS, chk s = true := by decide +kernel
theorem ins3_perm (a : Nat) : ∀ l : List Nat, (ins3 a l).Perm (a :: l)
  | [] => List.Perm.refl _
  | b :: l => by
    unfold ins3
    by_cases h : a ≤ b
    · rw [if_pos h]
    · rw [if_neg h]
      exact ((ins3_perm a l).cons b).trans (List.Perm.swap a b l)
theorem ins3_sorted (a : Nat) : ∀ {l : List Nat}, l.Pairwise (· ≤ ·) → (ins3 a l).Pairwise (· ≤ ·)
  | [], _ => List.pairwise_singleton _ _
  | b :: l, s => by
    have s' := List.pairwise_cons.mp s
    unfold ins3
    by_cases h : a ≤ b
    · rw [if_pos h]
      exact List.pairwise_cons.mpr ⟨fun x hx => (List.mem_cons.mp hx).elim (fun e => e ▸ h) (fun hx => Nat.le_trans h (s'.1 x hx)), s⟩
    · rw [if_neg h]
      refine List.pairwise_cons.mpr ⟨fun x hx => ?_, ins3_sorted a s'.2⟩
      rcases List.mem_cons.mp ((ins3_perm a l).mem_iff.mp hx) with e | hx
      · omega
      · exact s'.1 x hx
theorem fold3 : ∀ l : List Nat, (l.foldr ins3 []).Perm l ∧ (l.foldr ins3 []).Pairwise (· ≤ ·)
  | [] => ⟨.nil, .nil⟩
  | a :: l => ⟨(ins3_perm a _).trans ((fold3 l).1.cons a), ins3_sorted a (fold3 l).2⟩
theorem two_map {α β : Type} {R : α → β → Prop} {f : α → β} : ∀ {l : List α}, (∀ a ∈ l, R a (f a)) → Two R l (l.map f)
  | [], _ => .nil
  | a :: l, h => .cons (h a List.mem_cons_self) (two_map fun x hx => h x (List.mem_cons_of_mem _ hx))
/-- each shape alone is of its kind -/
theorem kind_arms {s : Nat × Nat} (h : ShapeOk s) : KindR (arms s.1 s.2) (List.range s.2) (some s) := by
  have c := chk_all s (shape_in h)
  unfold chk at c
  simp only [Bool.and_eq_true, decide_eq_true_eq] at c
  obtain ⟨e, c⟩ := c
  match f : forks (arms s.1 s.2) (List.range s.2), c with
  | [], c =>
    have c := of_decide_eq_true c
    have es : s = (0, (List.range s.2).length) := by rw [List.length_range]; exact Prod.ext c rfl
    have := KindR.line e f
    rw [← es] at this
    exact this
  | [x], c =>
    simp only [Bool.and_eq_true, decide_eq_true_eq, List.all_eq_true] at c
    obtain ⟨⟨h3, hw⟩, hk⟩ := c
    have := KindR.star x _ _ e f h3 (two_map (f := fun y => wayF (arms s.1 s.2) 9 x y) fun y hy => wayF_ok 9 x y (hw y hy)) (fold3 _).1 (fold3 _).2
    rw [List.length_range, hk] at this
    exact this
end M21

set_option linter.all false
/-! Lots; shapes beside one another. -/
namespace M21
open K9M
def lotN (m : Nat) (A : Ar) (c : Nat) : List Nat := (List.range m).filter fun i => decide (fin1 A i = (c : Int))
def headsN (m : Nat) (A : Ar) : List Nat := (List.range m).filter fun i => decide (fin1 A i = (i : Int))
def lotsN (m : Nat) (A : Ar) : List (List Nat) := (headsN m A).map (lotN m A)
theorem lots_are (m : Nat) (A : Ar) : lots m A = (lotsN m A).map fun l => l.map fun i : Nat => (i : Int) := by
  unfold lots lotsN heads headsN lot
  rw [List.map_map, List.map_map]
  rfl
theorem mem_lotN {m : Nat} {A : Ar} {c i : Nat} : i ∈ lotN m A c ↔ i < m ∧ fin1 A i = (c : Int) := by
  unfold lotN
  rw [List.mem_filter, List.mem_range, decide_eq_true_eq]
theorem mem_headsN {m : Nat} {A : Ar} {i : Nat} : i ∈ headsN m A ↔ i < m ∧ fin1 A i = (i : Int) := by
  unfold headsN
  rw [List.mem_filter, List.mem_range, decide_eq_true_eq]
theorem lotN_up (m : Nat) (A : Ar) (c : Nat) : (lotN m A c).Pairwise (· < ·) := List.Pairwise.sublist List.filter_sublist List.pairwise_lt_range
theorem headsN_up (m : Nat) (A : Ar) : (headsN m A).Pairwise (· < ·) := List.Pairwise.sublist List.filter_sublist List.pairwise_lt_range
theorem nodup_of_up {l : List Nat} (h : l.Pairwise (· < ·)) : l.Nodup := h.imp fun h => Nat.ne_of_lt h
theorem lab_nat {m : Nat} {A : Ar} (hA : Inside m A) {i : Nat} (hi : i < m) : ∃ c : Nat, fin1 A i = (c : Int) ∧ c ≤ i ∧ fin1 A c = (c : Int) := by
  have G := fin1_good hA
  have l := G.lo i hi
  have u := G.hi i hi
  have d := fin1_idem hA hi
  refine ⟨(fin1 A i).toNat, by omega, by omega, ?_⟩
  rw [d]
  omega
theorem lot_shut {m : Nat} {A : Ar} (hA : Inside m A) (c : Nat) : Shut A (lotN m A c) := fun a ha => by
  rw [mem_lotN, mem_lotN, fin1_closed A a ha]
  exact ⟨fun z => ⟨(hA a ha).2, z.2⟩, fun z => ⟨(hA a ha).1, z.2⟩⟩
theorem lot_ends {m : Nat} {A : Ar} (hA : Inside m A) {c p q : Nat} (hp : p ∈ lotN m A c) (hq : q ∈ ends A p) : q ∈ lotN m A c := by
  rcases mem_ends.mp hq with z | z
  · exact (lot_shut hA c _ z).mp hp
  · exact (lot_shut hA c _ z).mpr hp
/-- what no closed labelling of two tells apart -/
theorem joined {m : Nat} {A : Ar} (hA : Inside m A) {p q : Nat} (hp : p < m) (hq : q < m) (e : fin1 A p = fin1 A q) {P : Nat → Prop} (cl : ∀ a ∈ A, P a.1 ↔ P a.2) (h : P p) : P q := by
  have G := fin1_good hA
  classical
  have c : Closed A fun i => if P i then 1 else 0 := fun a ha => by
    show (if P a.1 then (1 : Int) else 0) = if P a.2 then 1 else 0
    have := cl a ha
    by_cases z : P a.1
    · rw [if_pos z, if_pos (this.mp z)]
    · rw [if_neg z, if_neg fun y => z (this.mpr y)]
  have s1 := G.same _ c p hp
  have s2 := G.same _ c q hq
  rw [e, s2] at s1
  have s1 : (if P q then (1 : Int) else 0) = if P p then 1 else 0 := s1
  rw [if_pos h] at s1
  by_cases z : P q
  · exact z
  · rw [if_neg z] at s1
    cases s1
theorem lot_reach {m : Nat} {A : Ar} (hA : Inside m A) {c p q : Nat} (hp : p ∈ lotN m A c) (hq : q ∈ lotN m A c) : ∃ n, Reach A p n q := by
  rw [mem_lotN] at hp hq
  refine joined hA hp.1 hq.1 (hp.2.trans hq.2.symm) (P := fun q => ∃ n, Reach A p n q) (fun a ha => ?_) ⟨0, rfl⟩
  exact ⟨fun ⟨n, h⟩ => ⟨n + 1, .inr ⟨a.1, h, mem_ends.mpr (.inl ha)⟩⟩, fun ⟨n, h⟩ => ⟨n + 1, .inr ⟨a.2, h, mem_ends.mpr (.inr ha)⟩⟩⟩
theorem lot_kind {m : Nat} {A : Ar} (hA : Inside m A) (c : Nat) : ∃ k, KindR A (lotN m A c) k := kind_is (nodup_of_up (lotN_up m A c)) (lot_shut hA c) fun _ hp _ hq => lot_reach hA hp hq
theorem lots_kinds {m : Nat} {A : Ar} (hA : Inside m A) : ∃ ks, Two (KindR A) (lotsN m A) ks := Two.of_all fun l hl => by
  obtain ⟨c, _, rfl⟩ := List.mem_map.mp hl
  exact lot_kind hA c
/-- arrows in another order, turned about: the same labels -/
theorem same_labels {m : Nat} {A B : Ar} (hA : Inside m A) (hB : Inside m B) (he : ∀ p, (ends A p).Perm (ends B p)) {i : Nat} (hi : i < m) : fin1 A i = fin1 B i := by
  have one : ∀ {A B : Ar}, Inside m A → Inside m B → (∀ p, (ends A p).Perm (ends B p)) → fin1 A i ≤ fin1 B i := by
    intro A B hA hB he
    have G := (fin1_good hB).same _ (show Closed B (fin1 A) from fun a ha => by
      have : a.2 ∈ ends A a.1 := (he a.1).mem_iff.mpr (mem_ends.mpr (.inl ha))
      rcases mem_ends.mp this with z | z
      · exact fin1_closed A _ z
      · exact (fin1_closed A _ z).symm) i hi
    have l := (fin1_good hB).lo i hi
    have u := (fin1_good hB).hi i hi
    have := (fin1_good hA).hi (fin1 B i).toNat (by omega)
    omega
  have h1 := one hA hB he
  have h2 := one hB hA fun p => (he p).symm
  omega
theorem same_lots {m : Nat} {A B : Ar} (hA : Inside m A) (hB : Inside m B) (he : ∀ p, (ends A p).Perm (ends B p)) : lotsN m A = lotsN m B := by
  have h1 : headsN m A = headsN m B := List.filter_congr fun i hi => by rw [same_labels hA hB he (List.mem_range.mp hi)]
  unfold lotsN
  rw [h1]
  refine List.map_congr_left fun c _ => ?_
  exact List.filter_congr fun i hi => by rw [same_labels hA hB he (List.mem_range.mp hi)]
theorem same_kinds {m : Nat} {A B : Ar} (hA : Inside m A) (hB : Inside m B) (he : ∀ p, (ends A p).Perm (ends B p)) {ks : List (Option (Nat × Nat))} (h : Two (KindR A) (lotsN m A) ks) : Two (KindR B) (lotsN m B) ks := by
  rw [← same_lots hA hB he]
  refine two_mem (fun l hl k r => ?_) h
  obtain ⟨c, _, rfl⟩ := List.mem_map.mp hl
  exact kind_perm he (fun p hp q hq => lot_ends hA hp hq) r
/-! ### lots found by going on -/
theorem perm_of_mem {l k : List Nat} (hl : l.Nodup) (hk : k.Nodup) (h : ∀ x, x ∈ l ↔ x ∈ k) : l.Perm k := (List.perm_ext_iff_of_nodup hl hk).mpr h
theorem hung_lot {m : Nat} {A : Ar} (hA : Inside m A) {x : Nat} {l : List Nat} (hx : x ∈ l) (nd : l.Nodup) (lt : ∀ p ∈ l, p < m) (all : ∀ p ∈ l, fin1 A p = fin1 A x) (cl : ∀ p ∈ l, ∀ q ∈ ends A p, q ∈ l) {c : Nat} (ec : fin1 A x = (c : Int)) : l.Perm (lotN m A c) := by
  refine perm_of_mem nd (nodup_of_up (lotN_up m A c)) fun q => ?_
  rw [mem_lotN]
  refine ⟨fun h => ⟨lt q h, (all q h).trans ec⟩, fun ⟨h1, h2⟩ => ?_⟩
  exact joined hA (lt x hx) h1 (ec.trans h2.symm) (P := fun q => q ∈ l) (fun a ha => ⟨fun h => cl _ h _ (mem_ends.mpr (.inl ha)), fun h => cl _ h _ (mem_ends.mpr (.inr ha))⟩) hx
/-- the places that are in none of the first lots -/
def left (m : Nat) (A : Ar) (j : Nat) : List Nat := (List.range m).filter fun i => decide (∀ h ∈ (headsN m A).take j, fin1 A i ≠ (h : Int))
theorem left_zero (m : Nat) (A : Ar) : left m A 0 = List.range m := by
  unfold left
  rw [List.filter_eq_self]
  intro i _
  rw [decide_eq_true_eq]
  intro h hh
  cases hh
theorem up_get {l : List Nat} (h : l.Pairwise (· < ·)) {i j x y : Nat} (hi : l[i]? = some x) (hj : l[j]? = some y) (lt : i < j) : x < y := by
  obtain ⟨hi', rfl⟩ := List.getElem?_eq_some_iff.mp hi
  obtain ⟨hj', rfl⟩ := List.getElem?_eq_some_iff.mp hj
  exact List.pairwise_iff_getElem.mp h i j hi' hj' lt
theorem mem_left {m : Nat} {A : Ar} {j i : Nat} : i ∈ left m A j ↔ i < m ∧ ∀ h ∈ (headsN m A).take j, fin1 A i ≠ (h : Int) := by
  unfold left
  rw [List.mem_filter, List.mem_range, decide_eq_true_eq]
theorem head_left {m : Nat} {A : Ar} {j y : Nat} (hy : (headsN m A)[j]? = some y) : y ∈ left m A j := by
  obtain ⟨h1, h2⟩ := mem_headsN.mp (List.mem_of_getElem? hy)
  rw [mem_left]
  refine ⟨h1, fun h hh e => ?_⟩
  obtain ⟨i, hi⟩ := List.mem_iff_getElem?.mp hh
  rw [List.getElem?_take] at hi
  by_cases lt : i < j
  · rw [if_pos lt] at hi
    have := up_get (headsN_up m A) hi hy lt
    rw [h2] at e
    omega
  · rw [if_neg lt] at hi
    cases hi
theorem left_nil {m : Nat} {A : Ar} {j : Nat} (h : left m A j = []) : (headsN m A).length ≤ j := by
  refine Classical.byContradiction fun no => ?_
  have := head_left (m := m) (A := A) (j := j) (y := (headsN m A)[j]'(by omega)) (List.getElem?_eq_getElem (by omega))
  rw [h] at this
  cases this
theorem left_head {m : Nat} {A : Ar} (hA : Inside m A) {j x : Nat} {r : List Nat} (h : left m A j = x :: r) : (headsN m A)[j]? = some x := by
  have up : (left m A j).Pairwise (· < ·) := List.Pairwise.sublist List.filter_sublist List.pairwise_lt_range
  have hx : x ∈ left m A j := by rw [h]; exact List.mem_cons_self
  have least : ∀ y ∈ left m A j, x ≤ y := fun y hy => by
    rw [h] at hy up
    rcases List.mem_cons.mp hy with rfl | hy
    · exact Nat.le_refl _
    · exact Nat.le_of_lt ((List.pairwise_cons.mp up).1 y hy)
  obtain ⟨hm, hn⟩ := mem_left.mp hx
  obtain ⟨c, ec, lc, ic⟩ := lab_nat hA hm
  have cx : x ≤ c := least c (mem_left.mpr ⟨by omega, fun k hk => by rw [ic, ← ec]; exact hn k hk⟩)
  have e : c = x := by omega
  subst e
  obtain ⟨i, hi⟩ := List.mem_iff_getElem?.mp (mem_headsN.mpr ⟨hm, ec⟩)
  have ji : j ≤ i := Nat.le_of_not_lt fun lt => hn c (List.mem_of_getElem? (i := i) (by rw [List.getElem?_take, if_pos lt]; exact hi)) ec
  rcases Nat.lt_or_ge j i with lt | ge
  · have hj : j < (headsN m A).length := Nat.lt_trans lt (List.getElem?_eq_some_iff.mp hi).1
    have hy := List.getElem?_eq_getElem hj
    have h1 := up_get (headsN_up m A) hy hi lt
    have h2 := least _ (head_left hy)
    omega
  · have : i = j := by omega
    subst this
    exact hi
theorem left_next {m : Nat} {A : Ar} {j x : Nat} (h : (headsN m A)[j]? = some x) : left m A (j + 1) = (left m A j).filter fun i => decide (i ∉ lotN m A x) := by
  unfold left
  rw [List.filter_filter]
  refine List.filter_congr fun i hi => ?_
  have hi := List.mem_range.mp hi
  rw [List.take_succ, h, ← Bool.decide_and]
  refine decide_eq_decide.mpr ?_
  rw [mem_lotN]
  constructor
  · intro z
    refine ⟨fun y => z x (List.mem_append_right _ List.mem_cons_self) y.2, fun k hk => z k (List.mem_append_left _ hk)⟩
  · rintro ⟨z1, z2⟩ k hk
    rcases List.mem_append.mp hk with hk | hk
    · exact z2 k hk
    · have : k = x := List.mem_singleton.mp hk
      subst this
      exact fun e => z1 ⟨hi, e⟩
end M21

set_option linter.all false
/-! Shapes beside one another, their places called otherwise: what kinds the parts are of. -/
namespace M21
open K9M
def shiftA (o : Nat) (A : Ar) : Ar := A.map fun a => (a.1 + o, a.2 + o)
def pairsOf : Nat → List (Nat × Nat) → Ar
  | _, [] => []
  | o, s :: ss => shiftA o (arms s.1 s.2) ++ pairsOf (o + s.2) ss
def total (ss : List (Nat × Nat)) : Nat := (ss.map (·.2)).sum
def blocks : Nat → List (Nat × Nat) → List (Nat × (Nat × Nat))
  | _, [] => []
  | o, s :: ss => (o, s) :: blocks (o + s.2) ss
theorem total_cons (s : Nat × Nat) (ss : List (Nat × Nat)) : total (s :: ss) = s.2 + total ss := by
  unfold total
  rw [List.map_cons, List.sum_cons]
theorem total_snoc (s : Nat × Nat) : ∀ ss : List (Nat × Nat), total (ss ++ [s]) = total ss + s.2
  | [] => by simp [total]
  | x :: ss => by rw [List.cons_append, total_cons, total_cons, total_snoc s ss]; omega
theorem pairs_snoc (s : Nat × Nat) : ∀ (o : Nat) (ss : List (Nat × Nat)), pairsOf o (ss ++ [s]) = pairsOf o ss ++ shiftA (o + total ss) (arms s.1 s.2)
  | o, [] => by simp [pairsOf, total]
  | o, x :: ss => by
    rw [List.cons_append, pairsOf, pairsOf, pairs_snoc s (o + x.2) ss, total_cons, List.append_assoc, Nat.add_assoc]
theorem blocks_snd : ∀ (o : Nat) (ss : List (Nat × Nat)), (blocks o ss).map (·.2) = ss
  | _, [] => rfl
  | o, s :: ss => by rw [blocks, List.map_cons, blocks_snd]
theorem arms_in {s : Nat × Nat} (h : ShapeOk s) : ∀ a ∈ arms s.1 s.2, a.1 < s.2 ∧ a.2 < s.2 := by
  have all : ∀ s ∈ allS, ∀ a ∈ arms s.1 s.2, a.1 < s.2 ∧ a.2 < s.2 := by decide +kernel
  exact all s (shape_in h)
theorem shape_pos {s : Nat × Nat} (h : ShapeOk s) : 1 ≤ s.2 := by
  rcases h with h | h | h <;> omega
theorem pairs_in : ∀ {o : Nat} {ss : List (Nat × Nat)}, (∀ s ∈ ss, ShapeOk s) → ∀ a ∈ pairsOf o ss, (o ≤ a.1 ∧ a.1 < o + total ss) ∧ (o ≤ a.2 ∧ a.2 < o + total ss)
  | o, [], _, a, h => by cases h
  | o, s :: ss, ok, a, h => by
    rw [pairsOf] at h
    rw [total_cons]
    rcases List.mem_append.mp h with h | h
    · obtain ⟨b, hb, rfl⟩ := List.mem_map.mp h
      have := arms_in (ok s List.mem_cons_self) b hb
      simp only
      omega
    · have := pairs_in (fun x hx => ok x (List.mem_cons_of_mem _ hx)) a h
      omega
theorem ends_append : ∀ (A B : Ar) (p : Nat), ends (A ++ B) p = ends A p ++ ends B p
  | [], B, p => rfl
  | a :: A, B, p => by rw [List.cons_append, ends_cons, ends_cons, ends_append A B p]; simp
theorem ends_none {A : Ar} {p : Nat} (h : ∀ a ∈ A, a.1 ≠ p ∧ a.2 ≠ p) : ends A p = [] := by
  match e : ends A p with
  | [] => rfl
  | q :: l =>
    have hq : q ∈ ends A p := by rw [e]; exact List.mem_cons_self
    rcases mem_ends.mp hq with z | z
    · exact absurd rfl (h _ z).1
    · exact absurd rfl (h _ z).2
theorem ends_map {f : Nat → Nat} {S : Nat → Prop} (inj : ∀ p q, S p → S q → f p = f q → p = q) {p : Nat} (hp : S p) : ∀ {A : Ar}, (∀ a ∈ A, S a.1 ∧ S a.2) → ends (A.map fun a => (f a.1, f a.2)) (f p) = (ends A p).map f
  | [], _ => rfl
  | a :: A, h => by
    rw [List.map_cons, ends_cons, ends_cons, ends_map inj hp fun b hb => h b (List.mem_cons_of_mem _ hb), List.map_append, List.map_append]
    obtain ⟨h1, h2⟩ := h a List.mem_cons_self
    have e1 : (if f a.1 = f p then [f a.2] else []) = (if a.1 = p then [a.2] else []).map f := by
      by_cases e : a.1 = p
      · rw [if_pos e, if_pos (by rw [e])] <;> rfl
      · rw [if_neg e, if_neg fun z => e (inj _ _ h1 hp z)]; rfl
    have e2 : (if f a.2 = f p then [f a.1] else []) = (if a.2 = p then [a.1] else []).map f := by
      by_cases e : a.2 = p
      · rw [if_pos e, if_pos (by rw [e])] <;> rfl
      · rw [if_neg e, if_neg fun z => e (inj _ _ h2 hp z)]; rfl
    simp only
    rw [e1, e2]
theorem block_ge : ∀ {o : Nat} {ss : List (Nat × Nat)} {b : Nat × (Nat × Nat)}, b ∈ blocks o ss → o ≤ b.1 ∧ b.1 + b.2.2 ≤ o + total ss ∧ b.2 ∈ ss
  | o, [], b, h => by cases h
  | o, s :: ss, b, h => by
    rw [blocks] at h
    rw [total_cons]
    rcases List.mem_cons.mp h with rfl | h
    · exact ⟨Nat.le_refl _, by simp only; omega, List.mem_cons_self⟩
    · have := block_ge h
      exact ⟨by omega, by omega, List.mem_cons_of_mem _ this.2.2⟩
theorem block_one : ∀ {o : Nat} {ss : List (Nat × Nat)} {b c : Nat × (Nat × Nat)} {p q : Nat}, b ∈ blocks o ss → c ∈ blocks o ss → p < b.2.2 → q < c.2.2 → b.1 + p = c.1 + q → b = c
  | o, [], b, _, _, _, h, _, _, _, _ => by cases h
  | o, s :: ss, b, c, p, q, hb, hc, hp, hq, e => by
    rw [blocks] at hb hc
    rcases List.mem_cons.mp hb with rfl | hb <;> rcases List.mem_cons.mp hc with rfl | hc
    · rfl
    · have := block_ge hc
      simp only at *
      omega
    · have := block_ge hb
      simp only at *
      omega
    · exact block_one hb hc hp hq e
theorem block_of : ∀ {o : Nat} {ss : List (Nat × Nat)} {i : Nat}, o ≤ i → i < o + total ss → ∃ b ∈ blocks o ss, ∃ p, p < b.2.2 ∧ i = b.1 + p
  | o, [], i, h1, h2 => by simp [total] at h2; omega
  | o, s :: ss, i, h1, h2 => by
    rw [total_cons] at h2
    by_cases h : i < o + s.2
    · exact ⟨(o, s), by rw [blocks]; exact List.mem_cons_self, i - o, by simp only; omega, by simp only; omega⟩
    · obtain ⟨b, hb, p, hp, e⟩ := block_of (o := o + s.2) (ss := ss) (i := i) (by omega) (by omega)
      exact ⟨b, by rw [blocks]; exact List.mem_cons_of_mem _ hb, p, hp, e⟩
theorem blocks_nodup : ∀ (o : Nat) {ss : List (Nat × Nat)}, (∀ s ∈ ss, 1 ≤ s.2) → ((blocks o ss).map (·.1)).Pairwise (· < ·)
  | o, [], _ => .nil
  | o, s :: ss, h => by
    rw [blocks, List.map_cons]
    refine List.pairwise_cons.mpr ⟨fun x hx => ?_, blocks_nodup _ fun y hy => h y (List.mem_cons_of_mem _ hy)⟩
    obtain ⟨b, hb, rfl⟩ := List.mem_map.mp hx
    have := block_ge hb
    have := h s List.mem_cons_self
    omega
/-- the ends at a place of a block are the block's own -/
theorem ends_pairs : ∀ {o : Nat} {ss : List (Nat × Nat)} {b : Nat × (Nat × Nat)} {p : Nat}, (∀ s ∈ ss, ShapeOk s) → b ∈ blocks o ss → p < b.2.2 → ends (pairsOf o ss) (p + b.1) = (ends (arms b.2.1 b.2.2) p).map (· + b.1)
  | o, [], b, p, _, h, _ => by cases h
  | o, s :: ss, b, p, ok, h, hp => by
    rw [blocks] at h
    rw [pairsOf, ends_append]
    have okt : ∀ x ∈ ss, ShapeOk x := fun x hx => ok x (List.mem_cons_of_mem _ hx)
    rcases List.mem_cons.mp h with rfl | h
    · rw [ends_none (A := pairsOf (o + s.2) ss) (p := p + o) fun a ha => by
        have := pairs_in okt a ha
        simp only at hp
        omega, List.append_nil]
      exact ends_map (f := (· + o)) (S := fun _ => True) (fun p q _ _ e => Nat.add_right_cancel e) True.intro fun _ _ => ⟨True.intro, True.intro⟩
    · have hb := block_ge h
      rw [ends_none (A := shiftA o (arms s.1 s.2)) (p := p + b.1) fun a ha => by
        obtain ⟨c, hc, rfl⟩ := List.mem_map.mp ha
        have := arms_in (ok s List.mem_cons_self) c hc
        simp only
        omega, List.nil_append]
      exact ends_pairs okt h hp
/-- a shape hangs together -/
theorem arms_const {s : Nat × Nat} (h : ShapeOk s) {g : Nat → Int} (cl : ∀ a ∈ arms s.1 s.2, g a.1 = g a.2) : ∀ p, p < s.2 → g p = g 0 := by
  obtain ⟨k, n⟩ := s
  have path : ∀ m, (∀ i, i < m → g i = g (i + 1)) → ∀ p, p ≤ m → g p = g 0 := fun m hm p => by
    induction p with
    | zero => intro _; rfl
    | succ p ih => intro hp; rw [← hm p (by omega)]; exact ih (by omega)
  rcases h with ⟨e, l, u⟩ | ⟨e, l, u⟩ | ⟨e, l, u⟩ <;> simp only at e l u cl <;> subst e
  · intro p hp
    simp only at hp
    exact path (n - 1) (fun i hi => cl (i, i + 1) (List.mem_map.mpr ⟨i, List.mem_range.mpr hi, rfl⟩)) p (by omega)
  · intro p hp
    simp only at hp
    have w := path (n - 2) (fun i hi => cl (i, i + 1) (List.mem_append_left _ (List.mem_map.mpr ⟨i, List.mem_range.mpr hi, rfl⟩)))
    by_cases e : p = n - 1
    · have := cl (n - 3, n - 1) (List.mem_append_right _ List.mem_cons_self)
      rw [e, ← this]
      exact w _ (by omega)
    · exact w p (by omega)
  · intro p hp
    simp only at hp
    have w := path (n - 2) (fun i hi => cl (i, i + 1) (List.mem_append_left _ (List.mem_map.mpr ⟨i, List.mem_range.mpr hi, rfl⟩)))
    by_cases e : p = n - 1
    · have := cl (2, n - 1) (List.mem_append_right _ List.mem_cons_self)
      rw [e, ← this]
      exact w _ (by omega)
    · exact w p (by omega)
theorem pairs_mem : ∀ {o : Nat} {ss : List (Nat × Nat)} {b : Nat × (Nat × Nat)} {a : Nat × Nat}, b ∈ blocks o ss → a ∈ arms b.2.1 b.2.2 → (a.1 + b.1, a.2 + b.1) ∈ pairsOf o ss
  | o, [], b, _, h, _ => by cases h
  | o, s :: ss, b, a, h, ha => by
    rw [blocks] at h
    rw [pairsOf]
    rcases List.mem_cons.mp h with rfl | h
    · exact List.mem_append_left _ (List.mem_map.mpr ⟨a, ha, rfl⟩)
    · exact List.mem_append_right _ (pairs_mem h ha)
theorem pairs_block : ∀ {o : Nat} {ss : List (Nat × Nat)} {a : Nat × Nat}, (∀ s ∈ ss, ShapeOk s) → a ∈ pairsOf o ss → ∃ b ∈ blocks o ss, ∃ p q, p < b.2.2 ∧ q < b.2.2 ∧ a.1 = b.1 + p ∧ a.2 = b.1 + q
  | o, [], a, _, h => by cases h
  | o, s :: ss, a, ok, h => by
    rw [pairsOf] at h
    rw [blocks]
    rcases List.mem_append.mp h with h | h
    · obtain ⟨c, hc, rfl⟩ := List.mem_map.mp h
      have := arms_in (ok s List.mem_cons_self) c hc
      exact ⟨(o, s), List.mem_cons_self, c.1, c.2, this.1, this.2, Nat.add_comm _ _, Nat.add_comm _ _⟩
    · obtain ⟨b, hb, z⟩ := pairs_block (fun x hx => ok x (List.mem_cons_of_mem _ hx)) h
      exact ⟨b, List.mem_cons_of_mem _ hb, z⟩
/-- a web of these shapes: the names of places, the pairs in a drawn order, turned about -/
structure Built (m : Nat) (A : Ar) (ss : List (Nat × Nat)) : Prop where
  ok : ∀ s ∈ ss, ShapeOk s
  tot : m = total ss
  how : ∃ (nm : Nat → Nat) (B : Ar), (∀ i, i < m → nm i < m) ∧ (∀ i j, i < m → j < m → nm i = nm j → i = j) ∧ (∀ x, x < m → ∃ i, i < m ∧ x = nm i) ∧ B.Perm (pairsOf 0 ss) ∧ Turned (B.map fun a => (nm a.1, nm a.2)) A
theorem turned_mem {A B : Ar} (h : Turned A B) : (∀ a ∈ A, a ∈ B ∨ flip a ∈ B) ∧ ∀ b ∈ B, b ∈ A ∨ flip b ∈ A := by
  induction h with
  | nil => exact ⟨fun a h => by (cases h), fun a h => by (cases h)⟩
  | keep a _ ih =>
    refine ⟨fun x hx => ?_, fun x hx => ?_⟩
    · rcases List.mem_cons.mp hx with rfl | hx
      · exact .inl List.mem_cons_self
      · exact (ih.1 x hx).imp (List.mem_cons_of_mem _) (List.mem_cons_of_mem _)
    · rcases List.mem_cons.mp hx with rfl | hx
      · exact .inl List.mem_cons_self
      · exact (ih.2 x hx).imp (List.mem_cons_of_mem _) (List.mem_cons_of_mem _)
  | turn a _ ih =>
    refine ⟨fun x hx => ?_, fun x hx => ?_⟩
    · rcases List.mem_cons.mp hx with rfl | hx
      · exact .inr List.mem_cons_self
      · exact (ih.1 x hx).imp (List.mem_cons_of_mem _) (List.mem_cons_of_mem _)
    · rcases List.mem_cons.mp hx with rfl | hx
      · exact .inr (List.mem_cons_self (a := a))
      · exact (ih.2 x hx).imp (List.mem_cons_of_mem _) (List.mem_cons_of_mem _)
theorem Built.inside {m : Nat} {A : Ar} {ss : List (Nat × Nat)} (h : Built m A ss) : Inside m A := by
  obtain ⟨nm, B, lt, _, _, pB, tu⟩ := h.how
  intro a ha
  have key : ∀ b ∈ B.map (fun a => (nm a.1, nm a.2)), b.1 < m ∧ b.2 < m := fun b hb => by
    obtain ⟨c, hc, rfl⟩ := List.mem_map.mp hb
    have := pairs_in h.ok c (pB.mem_iff.mp hc)
    have := h.tot
    exact ⟨lt _ (by omega), lt _ (by omega)⟩
  rcases (turned_mem tu).2 a ha with z | z
  · exact key _ z
  · exact (key _ z).symm
theorem built_kinds {m : Nat} {A : Ar} {ss : List (Nat × Nat)} (h : Built m A ss) : ∃ ks, Two (fun l s => KindR A l (some s)) (lotsN m A) ks ∧ ks.Perm ss := by
  have hA := h.inside
  obtain ⟨nm, B, lt, inj, onto, pB, tu⟩ := h.how
  have ok := h.ok
  have tot := h.tot
  have pin : ∀ a ∈ B, a.1 < m ∧ a.2 < m := fun a ha => by
    have := pairs_in ok a (pB.mem_iff.mp ha)
    omega
  -- the ends at a place's name
  have he : ∀ i, i < m → (ends A (nm i)).Perm ((ends (pairsOf 0 ss) i).map nm) := fun i hi => by
    refine (ends_turned tu (nm i)).symm.trans ?_
    rw [ends_map (S := (· < m)) inj hi pin]
    exact (ends_of_perm pB i).map nm
  have inb : ∀ b ∈ blocks 0 ss, ∀ p, p < b.2.2 → p + b.1 < m := fun b hb p hp => by
    have := block_ge hb
    omega
  -- blocks are told apart by labels
  have apart : ∀ b ∈ blocks 0 ss, ∀ c ∈ blocks 0 ss, ∀ p q, p < b.2.2 → q < c.2.2 → fin1 A (nm (p + b.1)) = fin1 A (nm (q + c.1)) → b = c := by
    intro b hb c hc p q hp hq e
    have key := joined hA (lt _ (inb b hb p hp)) (lt _ (inb c hc q hq)) e (P := fun x => ∃ r, r < b.2.2 ∧ x = nm (r + b.1)) (fun a ha => ?_) ⟨p, hp, rfl⟩
    · obtain ⟨r, hr, er⟩ := key
      have := inj _ _ (inb c hc q hq) (inb b hb r hr) er
      exact block_one hb hc hr hq (by omega)
    · have two : ∀ x ∈ B, ((∃ r, r < b.2.2 ∧ nm x.1 = nm (r + b.1)) ↔ ∃ r, r < b.2.2 ∧ nm x.2 = nm (r + b.1)) := fun x hx => by
        obtain ⟨d, hd, u, v, hu, hv, e1, e2⟩ := pairs_block ok (pB.mem_iff.mp hx)
        have i1 := inb d hd u hu
        have i2 := inb d hd v hv
        constructor
        · rintro ⟨r, hr, er⟩
          have := inj _ _ (by omega) (inb b hb r hr) er
          have : b = d := block_one hb hd hr hu (by omega)
          subst this
          exact ⟨v, hv, by rw [e2, Nat.add_comm]⟩
        · rintro ⟨r, hr, er⟩
          have := inj _ _ (by omega) (inb b hb r hr) er
          have : b = d := block_one hb hd hr hv (by omega)
          subst this
          exact ⟨u, hu, by rw [e1, Nat.add_comm]⟩
      rcases (turned_mem tu).2 a ha with z | z
      · obtain ⟨x, hx, e⟩ := List.mem_map.mp z
        have := two x hx
        rw [← e]
        exact this
      · obtain ⟨x, hx, e⟩ := List.mem_map.mp z
        have := two x hx
        have e1 : a.1 = nm x.2 := (congrArg Prod.snd e).symm
        have e2 : a.2 = nm x.1 := (congrArg Prod.fst e).symm
        rw [e1, e2]
        exact this.symm
  -- within a block there is one label
  have one : ∀ b ∈ blocks 0 ss, ∀ p, p < b.2.2 → fin1 A (nm (p + b.1)) = fin1 A (nm (0 + b.1)) := by
    intro b hb p hp
    refine arms_const (ok _ (block_ge hb).2.2) (g := fun p => fin1 A (nm (p + b.1))) (fun a ha => ?_) p hp
    have hm := pB.mem_iff.mpr (pairs_mem hb ha)
    rcases (turned_mem tu).1 _ (List.mem_map.mpr ⟨_, hm, rfl⟩) with z | z
    · exact fin1_closed A _ z
    · exact (fin1_closed A _ z).symm
  have pos : ∀ b ∈ blocks 0 ss, 0 < b.2.2 := fun b hb => shape_pos (ok _ (block_ge hb).2.2)
  -- the label of a block
  have lab : ∀ b ∈ blocks 0 ss, ∃ c : Nat, fin1 A (nm (0 + b.1)) = (c : Int) ∧ c ∈ headsN m A := fun b hb => by
    obtain ⟨c, e, l, i⟩ := lab_nat hA (lt _ (inb b hb 0 (pos b hb)))
    have := lt _ (inb b hb 0 (pos b hb))
    exact ⟨c, e, mem_headsN.mpr ⟨by omega, i⟩⟩
  have mine : ∀ b ∈ blocks 0 ss, ∀ c : Nat, fin1 A (nm (0 + b.1)) = (c : Int) → KindR A (lotN m A c) (some b.2) := by
    intro b hb c ec
    have okb := ok _ (block_ge hb).2.2
    have inj' : ∀ p ∈ List.range b.2.2, ∀ q ∈ List.range b.2.2, nm (p + b.1) = nm (q + b.1) → p = q := fun p hp q hq e => by
      have := inj _ _ (inb b hb p (List.mem_range.mp hp)) (inb b hb q (List.mem_range.mp hq)) e
      omega
    refine kind_map (A := arms b.2.1 b.2.2) (L := List.range b.2.2) (f := fun p => nm (p + b.1)) inj' (fun p hp => ?_) (fun p hp q hq => ?_) (perm_of_mem (nodup_of_up (lotN_up m A c)) ?_ fun x => ?_) (kind_arms okb)
    · have hp := List.mem_range.mp hp
      have := he (p + b.1) (inb b hb p hp)
      rw [ends_pairs ok hb hp, List.map_map] at this
      exact this
    · rw [List.mem_range]
      rcases mem_ends.mp hq with z | z
      · exact (arms_in okb _ z).2
      · exact (arms_in okb _ z).1
    · refine List.nodup_iff_pairwise_ne.mpr ?_
      rw [List.pairwise_map]
      exact (List.pairwise_lt_range (n := b.2.2)).imp_of_mem fun {p q} hp hq l e => by
        have := inj' p hp q hq e
        omega
    · rw [mem_lotN, List.mem_map]
      constructor
      · rintro ⟨hx, ex⟩
        obtain ⟨i, hi, rfl⟩ := onto x hx
        obtain ⟨d, hd, p, hp, e⟩ := block_of (o := 0) (ss := ss) (i := i) (Nat.zero_le _) (by omega)
        have e' : i = p + d.1 := by omega
        subst e'
        have : d = b := apart d hd b hb p 0 hp (pos b hb) (ex.trans ec.symm)
        subst this
        exact ⟨p, List.mem_range.mpr hp, rfl⟩
      · rintro ⟨p, hp, rfl⟩
        have hp := List.mem_range.mp hp
        exact ⟨lt _ (inb b hb p hp), (one b hb p hp).trans ec⟩
  -- the labels of the blocks are the heads
  let lb : Nat × (Nat × Nat) → Nat := fun b => (fin1 A (nm (0 + b.1))).toNat
  have lbe : ∀ b ∈ blocks 0 ss, fin1 A (nm (0 + b.1)) = (lb b : Int) := fun b hb => by
    obtain ⟨c, e, _⟩ := lab b hb
    show _ = (((fin1 A (nm (0 + b.1))).toNat : Nat) : Int)
    omega
  have ph : ((blocks 0 ss).map lb).Perm (headsN m A) := by
    refine perm_of_mem ?_ (nodup_of_up (headsN_up m A)) fun x => ?_
    · have nd : (blocks 0 ss).Pairwise (fun b c => b.1 < c.1) := List.pairwise_map.mp (blocks_nodup 0 fun s hs => shape_pos (ok s hs))
      refine List.nodup_iff_pairwise_ne.mpr (List.pairwise_map.mpr (nd.imp_of_mem fun {b c} hb hc l e => ?_))
      have := apart b hb c hc 0 0 (pos b hb) (pos c hc) (by rw [lbe b hb, lbe c hc, e])
      rw [this] at l
      omega
    · rw [List.mem_map]
      constructor
      · rintro ⟨b, hb, rfl⟩
        obtain ⟨c, e, hc⟩ := lab b hb
        have : lb b = c := by
          have := lbe b hb
          omega
        rw [this]
        exact hc
      · intro hx
        obtain ⟨h1, h2⟩ := mem_headsN.mp hx
        obtain ⟨i, hi, rfl⟩ := onto x h1
        obtain ⟨d, hd, p, hp, e⟩ := block_of (o := 0) (ss := ss) (i := i) (Nat.zero_le _) (by omega)
        have e' : i = p + d.1 := by omega
        subst e'
        refine ⟨d, hd, ?_⟩
        have := lbe d hd
        have := one d hd p hp
        omega
  have t1 : Two (fun h s => KindR A (lotN m A h) (some s)) ((blocks 0 ss).map lb) ((blocks 0 ss).map (·.2)) := by
    have gen : ∀ l : List (Nat × (Nat × Nat)), (∀ b ∈ l, b ∈ blocks 0 ss) → Two (fun h s => KindR A (lotN m A h) (some s)) (l.map lb) (l.map (·.2)) := fun l => by
      induction l with
      | nil => intro _; exact .nil
      | cons b l ih =>
        intro hl
        exact .cons (mine b (hl b List.mem_cons_self) _ (lbe b (hl b List.mem_cons_self))) (ih fun c hc => hl c (List.mem_cons_of_mem _ hc))
    exact gen _ fun _ h => h
  rw [blocks_snd] at t1
  obtain ⟨ks, t2, p2⟩ := Two.perm ph t1
  exact ⟨ks, Two.map (lotN m A) (fun _ _ r => r) t2, p2⟩
end M21

set_option linter.all false
/-! Webs without kinds: what stays when a place loses its arrows. -/
namespace M22
open K9M M21
theorem way_uniq {A : Ar} {a h n : Nat} (w : WayS A a h n) : ∀ {k}, WayS A a h k → n = k := by
  induction w with
  | stop e =>
    intro k w
    cases w with
    | stop _ => rfl
    | step f _ => rw [e] at f; cases f
  | step e _ ih =>
    intro k w
    cases w with
    | stop f => rw [e] at f; cases f
    | step f w' =>
      rw [e] at f
      injection f with f _
      subst f
      rw [ih w']
theorem ways_uniq {A : Ar} {c : Nat} : ∀ {l ws vs : List Nat}, Two (WayS A c) l ws → Two (WayS A c) l vs → ws = vs
  | _, _, _, .nil, .nil => rfl
  | _, _, _, .cons r t, .cons s u => by rw [way_uniq r s, ways_uniq t u]
theorem sorted_uniq {S T ws : List Nat} (h1 : S.Perm ws) (h2 : S.Pairwise (· ≤ ·)) (h3 : T.Perm ws) (h4 : T.Pairwise (· ≤ ·)) : S = T :=
  List.Perm.eq_of_pairwise (le := (· ≤ ·)) (fun a b _ _ x y => by omega) h2 h4 (h1.trans h3.symm)
theorem kind_uniq {A : Ar} {L : List Nat} {k k' : Option (Nat × Nat)} (h : KindR A L k) (h' : KindR A L k') : k = k' := by
  cases h with
  | ring e =>
    cases h' with
    | ring _ => rfl
    | line f _ => exact absurd f e
    | many f _ _ => exact absurd f e
    | star _ _ _ f _ _ _ _ _ => exact absurd f e
  | line e f =>
    cases h' with
    | ring g => exact absurd e g
    | line _ _ => rfl
    | many _ g _ => exact absurd f g
    | star c _ _ _ g _ _ _ _ => rw [f] at g; cases g
  | many e f g =>
    cases h' with
    | ring _ => rfl
    | line _ f' => exact absurd f' f
    | many _ _ _ => rfl
    | star c _ _ _ f' g' _ _ _ => exact absurd g' (g c f')
  | star c ws S e f g t p s =>
    cases h' with
    | ring e' => exact absurd e e'
    | line _ f' => rw [f] at f'; cases f'
    | many _ _ g' => exact absurd g (g' c f)
    | star c' ws' S' _ f' _ t' p' s' =>
      rw [f] at f'
      injection f' with f' _
      subst f'
      have ew := ways_uniq t t'
      subst ew
      rw [sorted_uniq p s p' s']
abbrev deg (A : Ar) (p : Nat) : Nat := (ends A p).length
/-- ways of the shapes D and E -/
def WOk (ws : List Nat) : Prop := 2 ≤ ws.countP (fun n => decide (n ≤ 1)) ∨ (1 ≤ ws.countP (fun n => decide (n ≤ 1)) ∧ 2 ≤ ws.countP (fun n => decide (n ≤ 2)) ∧ 3 ≤ ws.countP (fun n => decide (n ≤ 4)))
theorem way_pos {A : Ar} {a h n : Nat} (w : WayS A a h n) : 1 ≤ n := by
  cases w <;> omega
theorem wok_star {n : Nat} {S ws : List Nat} (l : ws.length = 3) (pos : ∀ x ∈ ws, 1 ≤ x) (p : S.Perm ws) (s : S.Pairwise (· ≤ ·)) : starK n S ≠ none ↔ WOk ws := by
  unfold WOk
  rw [← p.countP_eq, ← p.countP_eq, ← p.countP_eq]
  have lS : S.length = 3 := by rw [p.length_eq, l]
  match S, lS, p, s with
  | [a, b, c], _, p, s =>
    have ha := pos a (p.mem_iff.mp (by simp))
    have hb := pos b (p.mem_iff.mp (by simp))
    have hc := pos c (p.mem_iff.mp (by simp))
    simp only [List.pairwise_cons, List.mem_cons, List.not_mem_nil, or_false] at s
    have ab := s.1 b (.inl rfl)
    have bc := s.2.1 c rfl
    unfold starK
    simp only [List.countP_cons, List.countP_nil, decide_eq_true_eq]
    by_cases h1 : a = 1 ∧ b = 1
    · rw [if_pos h1]
      simp
      left
      repeat' split
      all_goals omega
    · rw [if_neg h1]
      by_cases h2 : a = 1 ∧ b = 2 ∧ c ≤ 4
      · rw [if_pos h2]
        simp
        right
        rw [if_pos (show a ≤ 1 by omega), if_pos (show a ≤ 2 by omega), if_pos (show b ≤ 2 by omega), if_pos (show a ≤ 4 by omega), if_pos (show b ≤ 4 by omega), if_pos (show c ≤ 4 by omega)]
        omega
      · rw [if_neg h2]
        simp only [ne_eq, not_true_eq_false, false_iff]
        intro z
        repeat' split at z
        all_goals omega
structure Good (A : Ar) (L : List Nat) : Prop where
  tree : degs A L + 2 = 2 * L.length
  three : ∀ p ∈ L, deg A p ≤ 3
  one : ∀ p ∈ L, ∀ q ∈ L, 3 ≤ deg A p → 3 ≤ deg A q → p = q
  ways : ∀ c ∈ L, deg A c = 3 → ∀ ws, Two (WayS A c) (ends A c) ws → WOk ws
abbrev Bad (A : Ar) (L : List Nat) : Prop := KindR A L none
theorem mem_forks {A : Ar} {L : List Nat} {p : Nat} : p ∈ forks A L ↔ p ∈ L ∧ 3 ≤ deg A p := by
  unfold forks
  rw [List.mem_filter, decide_eq_true_eq]
  exact Iff.rfl
theorem two_all {α β : Type} {R : α → β → Prop} {P : β → Prop} (f : ∀ a b, R a b → P b) : ∀ {l : List α} {k : List β}, Two R l k → ∀ b ∈ k, P b
  | _, _, .nil, b, hb => by cases hb
  | _, _, .cons r t, b, hb => (List.mem_cons.mp hb).elim (fun e => e ▸ f _ _ r) (two_all f t b)
theorem good_of {A : Ar} {L : List Nat} {s : Nat × Nat} (h : KindR A L (some s)) : Good A L := by
  generalize e : some s = k at h
  cases h with
  | ring _ => cases e
  | many _ _ _ => cases e
  | line t f =>
    have no : ∀ p ∈ L, ¬ 3 ≤ deg A p := fun p hp z => by
      have : p ∈ forks A L := mem_forks.mpr ⟨hp, z⟩
      rw [f] at this
      cases this
    exact ⟨t, fun p hp => by have := no p hp; omega, fun p hp q _ z => absurd z (no p hp), fun c hc z => absurd (by omega) (no c hc)⟩
  | star c ws S t f g tw p so =>
    have only : ∀ p ∈ L, 3 ≤ deg A p → p = c := fun p hp z => by
      have : p ∈ forks A L := mem_forks.mpr ⟨hp, z⟩
      rw [f] at this
      exact List.mem_singleton.mp this
    refine ⟨t, fun p hp => ?_, fun p hp q hq x y => (only p hp x).trans (only q hq y).symm, fun c' hc' h3 vs tv => ?_⟩
    · by_cases z : 3 ≤ deg A p
      · rw [only p hp z]
        exact Nat.le_of_eq g
      · omega
    · have ec := only c' hc' (by omega)
      subst ec
      have ew := ways_uniq tv tw
      subst ew
      exact (wok_star (by rw [← tv.len]; exact g) (two_all (fun _ _ r => way_pos r) tv) p so).mp (by rw [← e]; simp)
theorem not_bad {A : Ar} {L : List Nat} (nd : L.Nodup) (g : Good A L) : ¬ Bad A L := by
  have key : ∀ k, KindR A L k → none = k → False := by
   intro k b e
   cases b with
    | line _ _ => cases e
    | ring t => exact t g.tree
    | many t f no =>
      match ef : forks A L, f with
      | [c], _ =>
        have hc := mem_forks.mp (show c ∈ forks A L by rw [ef]; exact List.mem_cons_self)
        have := g.three c hc.1
        exact no c ef (show deg A c = 3 by omega)
      | p :: q :: r, _ =>
        have hp := mem_forks.mp (show p ∈ forks A L by rw [ef]; exact List.mem_cons_self)
        have hq := mem_forks.mp (show q ∈ forks A L by rw [ef]; exact List.mem_cons_of_mem _ List.mem_cons_self)
        have := g.one p hp.1 q hq.1 hp.2 hq.2
        have nf : (forks A L).Nodup := List.Pairwise.sublist List.filter_sublist nd
        rw [ef] at nf
        exact (List.nodup_cons.mp nf).1 (by rw [this]; exact List.mem_cons_self)
    | star c ws S t f h3 tw p so =>
      have hc := mem_forks.mp (show c ∈ forks A L by rw [f]; exact List.mem_cons_self)
      have w := g.ways c hc.1 h3 ws tw
      exact (wok_star (by rw [← tw.len]; exact h3) (two_all (fun _ _ r => way_pos r) tw) p so).mpr w e.symm
  exact fun b => key none b rfl
theorem good_or_bad {m : Nat} {A : Ar} (hA : Inside m A) (c : Nat) : Good A (lotN m A c) ∨ Bad A (lotN m A c) := by
  obtain ⟨k, h⟩ := lot_kind hA c
  cases k with
  | none => exact .inr h
  | some s => exact .inl (good_of h)
/-- without the arrows at a place -/
def del (p : Nat) (A : Ar) : Ar := A.filter fun a => decide (a.1 ≠ p ∧ a.2 ≠ p)
theorem del_inside {m p : Nat} {A : Ar} (h : Inside m A) : Inside m (del p A) := fun a ha => h a (List.mem_filter.mp ha).1
theorem ends_del {A : Ar} {p q : Nat} (ne : q ≠ p) : ends (del p A) q = (ends A q).filter fun x => decide (x ≠ p) := by
  induction A with
  | nil => rfl
  | cons a A ih =>
    obtain ⟨x, y⟩ := a
    unfold del at ih ⊢
    rw [List.filter_cons, ends_cons, List.filter_append, List.filter_append, ← ih]
    by_cases h1 : x = p
    · have : ¬ x = q := fun z => ne (z ▸ h1)
      simp [h1, this]
      by_cases h2 : y = q <;> simp [h2]
      · intro z; exact absurd z.symm ne
      · intro z; exact absurd z.symm ne
    · by_cases h2 : y = p
      · have : ¬ y = q := fun z => ne (z ▸ h2)
        simp [h1, h2, this]
        by_cases h3 : x = q <;> simp [h3]
        · intro z; exact absurd z.symm ne
        · intro z; exact absurd z.symm ne
      · simp [h1, h2]
        rw [ends_cons]
        by_cases h3 : x = q <;> by_cases h4 : y = q <;> simp [h3, h4, h1, h2, ne]
        all_goals first | (intro z; exact absurd z h2) | (intro z; exact absurd z h1) | skip
end M22

set_option linter.all false
/-! Webs within webs. -/
namespace M22
open K9M M21
/-- some of the arrows, in their order -/
structure Sub (B A : Ar) : Prop where
  mem : ∀ a ∈ B, a ∈ A
  ends : ∀ p, (ends B p).Sublist (ends A p)
theorem filter_sub (f : Nat × Nat → Bool) (A : Ar) : Sub (A.filter f) A := by
  refine ⟨fun a ha => (List.mem_filter.mp ha).1, fun p => ?_⟩
  induction A with
  | nil => exact List.Sublist.refl _
  | cons a A ih =>
    rw [List.filter_cons]
    by_cases h : f a = true
    · rw [if_pos h, ends_cons, ends_cons]
      exact (List.Sublist.refl _).append ((List.Sublist.refl _).append ih)
    · rw [if_neg h, ends_cons, ← List.append_assoc]
      exact ih.trans (List.sublist_append_right _ _)
theorem del_sub (q : Nat) (A : Ar) : Sub (del q A) A := filter_sub _ A
theorem Sub.trans {A B C : Ar} (h : Sub C B) (k : Sub B A) : Sub C A := ⟨fun a ha => k.mem a (h.mem a ha), fun p => (h.ends p).trans (k.ends p)⟩
theorem Sub.refl (A : Ar) : Sub A A := ⟨fun _ h => h, fun _ => List.Sublist.refl _⟩
theorem Sub.inside {m : Nat} {A B : Ar} (h : Sub B A) (i : Inside m A) : Inside m B := fun a ha => i a (h.mem a ha)
theorem ends_self (q : Nat) (A : Ar) : ends (del q A) q = [] := ends_none fun a ha => by
  have := of_decide_eq_true (List.mem_filter.mp ha).2
  exact this
theorem conn_edges {A : Ar} {c : Nat} {L : List Nat} (nd : L.Nodup) (sh : Shut A L) (hc : c ∈ L) (hg : ∀ p ∈ L, ∃ n, Reach A c n p) : L.length ≤ (inner A L).length + 1 := by
  obtain ⟨d, hd⟩ := depth hg
  have s1 := sum_ends (fun p q => decide (d q < d p)) nd A
  have ea : ∀ a ∈ A, (if a.1 ∈ L then (if decide (d a.2 < d a.1) = true then 1 else 0) else 0) + (if a.2 ∈ L then (if decide (d a.1 < d a.2) = true then 1 else 0) else 0) ≤ (if a.1 ∈ L then 1 else 0 : Nat) := by
    intro a ha
    have s := sh a ha
    by_cases h : a.1 ∈ L
    · have h2 := s.mp h
      simp only [h, h2, if_true, decide_eq_true_eq]
      split <;> split <;> omega
    · have h2 : a.2 ∉ L := fun z => h (s.mpr z)
      simp only [h, h2, if_false]
      omega
  have sa : (A.map fun a => (if a.1 ∈ L then 1 else 0 : Nat)).sum = (inner A L).length := by
    unfold inner
    clear ea s1 hg hd sh
    induction A with
    | nil => rfl
    | cons a A ih =>
      rw [List.map_cons, List.sum_cons, ih, List.filter_cons]
      by_cases h : a.1 ∈ L
      · simp [h]; omega
      · simp [h]
  have ep : ∀ p ∈ L, (if p = c then 0 else 1 : Nat) ≤ (ends A p).countP (fun q => decide (d q < d p)) := by
    intro p hp
    rcases hd p hp with ⟨e, _⟩ | ⟨e, q, hq, lt⟩
    · rw [if_pos e]; exact Nat.zero_le _
    · rw [if_neg e]
      exact List.countP_pos_iff.mpr ⟨q, ends_sym hq, decide_eq_true lt⟩
  have sp : ∀ L : List Nat, L.Nodup → L.length ≤ (L.map fun p => (if p = c then 0 else 1 : Nat)).sum + 1 := fun L nd => by
    clear ea s1 hg hd sh sa ep hc
    induction L with
    | nil => simp
    | cons x L ih =>
      have h' := List.nodup_cons.mp nd
      rw [List.map_cons, List.sum_cons, List.length_cons]
      by_cases e : x = c
      · subst e
        rw [if_pos rfl]
        have : (L.map fun p => (if p = x then 0 else 1 : Nat)) = L.map fun _ => 1 := List.map_congr_left fun p hp => if_neg fun (z : p = x) => h'.1 (z ▸ hp)
        rw [this]
        have one : ∀ l : List Nat, (l.map fun _ => 1).sum = l.length := fun l => by
          induction l with
          | nil => rfl
          | cons x l ih => rw [List.map_cons, List.sum_cons, ih, List.length_cons]; omega
        rw [one]
        omega
      · rw [if_neg e]
        have := ih h'.2
        omega
  have l0 := sp L nd
  have l1 := sum_le (f := fun p => (if p = c then 0 else 1 : Nat)) (g := fun p => (ends A p).countP (fun q => decide (d q < d p))) ep
  have l2 := sum_le (l := A) ea
  omega
/-- at most one end nearer: fewer arrows than places -/
theorem forest {A : Ar} {S : List Nat} {d : Nat → Nat} (nd : S.Nodup) (ne : S ≠ []) (sh : Shut A S) (h1 : ∀ p ∈ S, ∀ q ∈ ends A p, d q ≠ d p) (h2 : ∀ p ∈ S, (ends A p).countP (fun q => decide (d q < d p)) ≤ 1) : (inner A S).length + 1 ≤ S.length := by
  have s1 := sum_ends (fun p q => decide (d q < d p)) nd A
  have ea : ∀ a ∈ A, (if a.1 ∈ S then 1 else 0 : Nat) ≤ (if a.1 ∈ S then (if decide (d a.2 < d a.1) = true then 1 else 0) else 0) + (if a.2 ∈ S then (if decide (d a.1 < d a.2) = true then 1 else 0) else 0) := by
    intro a ha
    have s := sh a ha
    by_cases h : a.1 ∈ S
    · have h3 := s.mp h
      have := h1 a.1 h a.2 (mem_ends.mpr (.inl ha))
      simp only [h, h3, if_true, decide_eq_true_eq]
      split <;> split <;> omega
    · simp only [h, if_false]
      omega
  have sa : (A.map fun a => (if a.1 ∈ S then 1 else 0 : Nat)).sum = (inner A S).length := by
    unfold inner
    clear ea s1 h1 h2 sh
    induction A with
    | nil => rfl
    | cons a A ih =>
      rw [List.map_cons, List.sum_cons, ih, List.filter_cons]
      by_cases h : a.1 ∈ S
      · simp [h]; omega
      · simp [h]
  -- a place nearest of all
  obtain ⟨p0, hp0, least⟩ : ∃ p0 ∈ S, ∀ p ∈ S, d p0 ≤ d p := by
    obtain ⟨n, ⟨p0, hp0, e⟩, no⟩ := least_nat (P := fun n => ∃ p ∈ S, d p = n) (by
      match S, ne with
      | x :: S, _ => exact ⟨d x, x, List.mem_cons_self, rfl⟩)
    exact ⟨p0, hp0, fun p hp => Classical.byContradiction fun z => no (d p) (by omega) ⟨p, hp, rfl⟩⟩
  have ep : ∀ p ∈ S, (ends A p).countP (fun q => decide (d q < d p)) ≤ (if p = p0 then 0 else 1 : Nat) := by
    intro p hp
    by_cases e : p = p0
    · rw [if_pos e]
      refine Nat.le_of_eq (List.countP_eq_zero.mpr fun q hq z => ?_)
      have z := of_decide_eq_true z
      have qS : q ∈ S := by
        rcases mem_ends.mp hq with y | y
        · exact (sh _ y).mp hp
        · exact (sh _ y).mpr hp
      have := least q qS
      subst e
      omega
    · rw [if_neg e]
      exact h2 p hp
  have sp : ∀ S : List Nat, S.Nodup → p0 ∈ S → (S.map fun p => (if p = p0 then 0 else 1 : Nat)).sum + 1 = S.length := fun S nd hc => by
    clear ea s1 h1 h2 sh sa ep least hp0
    induction S with
    | nil => cases hc
    | cons x S ih =>
      have h' := List.nodup_cons.mp nd
      rw [List.map_cons, List.sum_cons, List.length_cons]
      by_cases e : x = p0
      · subst e
        rw [if_pos rfl]
        have : (S.map fun p => (if p = x then 0 else 1 : Nat)) = S.map fun _ => 1 := List.map_congr_left fun p hp => if_neg fun (z : p = x) => h'.1 (z ▸ hp)
        rw [this]
        have one : ∀ l : List Nat, (l.map fun _ => 1).sum = l.length := fun l => by
          induction l with
          | nil => rfl
          | cons x l ih => rw [List.map_cons, List.sum_cons, ih, List.length_cons]; omega
        rw [one, Nat.zero_add]
      · rw [if_neg e]
        rcases List.mem_cons.mp hc with z | z
        · exact absurd z.symm e
        · have := ih h'.2 z
          omega
  have l0 := sp S nd hp0
  have l1 := sum_le (l := S) ep
  have l2 := sum_le (l := A) ea
  omega
def HasBad (m : Nat) (A : Ar) : Prop := ∃ h ∈ headsN m A, Bad A (lotN m A h)
theorem way_le {A B : Ar} (s : Sub B A) {a h n : Nat} (w : WayS A a h n) : ∀ {k}, WayS B a h k → k ≤ n := by
  have on : ∀ a h, (onward B a h).Sublist (onward A a h) := fun a h => (s.ends h).filter _
  induction w with
  | stop e =>
    rename_i ahead here
    intro k w
    cases w with
    | stop _ => exact Nat.le_refl _
    | step f _ =>
      have := (on ahead here).length_le
      rw [e, f] at this
      exact absurd this (by simp)
  | step e _ ih =>
    rename_i ahead here x n _
    intro k w
    cases w with
    | stop _ => omega
    | step f w' =>
      rename_i y k'
      have := on ahead here
      rw [e, f] at this
      have : y = x := by simpa using this
      subst this
      have := ih w'
      omega
theorem ways_le {A B : Ar} (s : Sub B A) {c : Nat} : ∀ {l ws vs : List Nat}, Two (WayS A c) l ws → Two (WayS B c) l vs → ∀ k, ws.countP (fun n => decide (n ≤ k)) ≤ vs.countP (fun n => decide (n ≤ k))
  | _, _, _, .nil, .nil, k => Nat.le_refl _
  | _, _, _, .cons r t, .cons q u, k => by
    have h1 := way_le s r q
    have h2 := ways_le s t u k
    rw [List.countP_cons, List.countP_cons]
    simp only [decide_eq_true_eq]
    split <;> split <;> omega
theorem mem_lot_self {m : Nat} {A : Ar} {h : Nat} (hh : h ∈ headsN m A) : h ∈ lotN m A h := by
  obtain ⟨h1, h2⟩ := mem_headsN.mp hh
  exact mem_lotN.mpr ⟨h1, h2⟩
/-- what hangs together in the smaller web does in the larger one -/
theorem sub_label {m : Nat} {A B : Ar} (s : Sub B A) (hA : Inside m A) {x y : Nat} (hx : x < m) (hy : y < m) (e : fin1 B x = fin1 B y) : fin1 A x = fin1 A y :=
  joined (s.inside hA) hy hx e.symm (P := fun z => fin1 A z = fin1 A y) (fun a ha => by rw [fin1_closed A a (s.mem a ha)]) rfl
theorem good_sub {m : Nat} {A B : Ar} (s : Sub B A) (hA : Inside m A) {c h : Nat} (hh : h ∈ lotN m B h) (hc : h ∈ lotN m A c) (g : Good A (lotN m A c)) : Good B (lotN m B h) := by
  have hB := s.inside hA
  obtain ⟨hm, _⟩ := mem_lotN.mp hh
  have sub : ∀ p ∈ lotN m B h, p ∈ lotN m A c := fun p hp => by
    obtain ⟨p1, p2⟩ := mem_lotN.mp hp
    obtain ⟨_, h2⟩ := mem_lotN.mp hh
    obtain ⟨_, h3⟩ := mem_lotN.mp hc
    exact mem_lotN.mpr ⟨p1, (sub_label s hA p1 hm (p2.trans h2.symm)).trans h3⟩
  have nd := nodup_of_up (lotN_up m B h)
  have ndA := nodup_of_up (lotN_up m A c)
  have shB := lot_shut hB h
  have few : (inner A (lotN m A c)).length + 1 = (lotN m A c).length := by
    have := sum_degrees ndA (lot_shut hA c)
    have t := g.tree
    unfold degs at t
    omega
  obtain ⟨d, d1, d2, _, _⟩ := tree ndA (lot_shut hA c) hc (fun p hp => lot_reach hA hc hp) few
  have f1 := forest (A := B) (d := d) nd (fun z => by rw [z] at hh; cases hh) shB (fun p hp q hq => d1 p (sub p hp) q ((s.ends p).subset hq)) (fun p hp => Nat.le_trans ((s.ends p).countP_le (p := fun q => decide (d q < d p))) (d2 p (sub p hp)))
  have f2 := conn_edges nd shB hh fun p hp => lot_reach hB hh hp
  have sd := sum_degrees nd shB
  refine ⟨by unfold degs; omega, fun p hp => Nat.le_trans (s.ends p).length_le (g.three p (sub p hp)), fun p hp q hq x y => g.one p (sub p hp) q (sub q hq) (Nat.le_trans x (s.ends p).length_le) (Nat.le_trans y (s.ends q).length_le), fun c' hc' h3 vs tv => ?_⟩
  have l1 := (s.ends c').length_le
  have h3 : (ends B c').length = 3 := h3
  have t3 : (ends A c').length ≤ 3 := g.three c' (sub c' hc')
  have ee : ends B c' = ends A c' := (s.ends c').eq_of_length (by omega)
  have hA3 : deg A c' = 3 := by show (ends A c').length = 3; omega
  obtain ⟨ws, tw⟩ : ∃ ws, Two (WayS A c') (ends A c') ws := by
    obtain ⟨k, kr⟩ := lot_kind hA c
    have fk := mem_forks.mpr ⟨sub c' hc', Nat.le_of_eq hA3.symm⟩
    cases k with
    | none => exact absurd kr (not_bad ndA g)
    | some s0 =>
      generalize e : some s0 = k at kr
      cases kr with
      | ring _ => cases e
      | many _ _ _ => cases e
      | line _ f => rw [f] at fk; cases fk
      | star c0 ws S _ f _ tw _ _ =>
        rw [f] at fk
        have := List.mem_singleton.mp fk
        subst this
        exact ⟨ws, tw⟩
  have w := g.ways c' (sub c' hc') hA3 ws tw
  rw [ee] at tv
  have m1 := ways_le s tw tv 1
  have m2 := ways_le s tw tv 2
  have m4 := ways_le s tw tv 4
  unfold WOk at w ⊢
  rcases w with w | ⟨w1, w2, w3⟩
  · left; omega
  · right; omega
theorem lot_of_label {m : Nat} {A : Ar} (hA : Inside m A) {x : Nat} (hx : x < m) : ∃ c ∈ headsN m A, x ∈ lotN m A c := by
  obtain ⟨c, e, l, i⟩ := lab_nat hA hx
  exact ⟨c, mem_headsN.mpr ⟨by omega, i⟩, mem_lotN.mpr ⟨hx, e⟩⟩
theorem mono_bad {m : Nat} {A B : Ar} (s : Sub B A) (hA : Inside m A) (h : HasBad m B) : HasBad m A := by
  obtain ⟨x, hx, bad⟩ := h
  have xx := mem_lot_self hx
  obtain ⟨c, hc, xc⟩ := lot_of_label hA (mem_headsN.mp hx).1
  rcases good_or_bad hA c with g | b
  · exact absurd bad (not_bad (nodup_of_up (lotN_up m B x)) (good_sub s hA xx xc g))
  · exact ⟨c, hc, b⟩
end M22

set_option linter.all false
/-! Rows within which the program's rows grow. -/
namespace M22
open K9M M21
/-- by how much the numbers at the other ends are above twice the own one -/
def sur (A : Ar) (r : Nat → Int) (p : Nat) : Int := ((ends A p).map r).sum - 2 * r p
theorem isum_add {α : Type} (f g : α → Int) : ∀ l : List α, (l.map fun x => f x + g x).sum = (l.map f).sum + (l.map g).sum
  | [] => rfl
  | x :: l => by
    simp only [List.map_cons, List.sum_cons]
    rw [isum_add f g l]
    omega
theorem isum_zero {α : Type} : ∀ l : List α, (l.map fun _ => (0 : Int)).sum = 0
  | [] => rfl
  | x :: l => by
    simp only [List.map_cons, List.sum_cons]
    rw [isum_zero l]
    rfl
theorem isum_mul {α : Type} (k : Int) (f : α → Int) : ∀ l : List α, (l.map fun x => k * f x).sum = k * (l.map f).sum
  | [] => by simp
  | x :: l => by
    simp only [List.map_cons, List.sum_cons]
    rw [isum_mul k f l, Int.mul_add]
theorem isum_one (x : Nat) (k : Int) : ∀ {L : List Nat}, L.Nodup → (L.map fun p => if p = x then k else 0).sum = if x ∈ L then k else 0
  | [], _ => by simp
  | p :: L, h => by
    have h' := List.nodup_cons.mp h
    simp only [List.map_cons, List.sum_cons]
    rw [isum_one x k h'.2]
    by_cases e : p = x
    · subst e
      rw [if_pos rfl, if_neg h'.1, if_pos List.mem_cons_self]
      omega
    · rw [if_neg e]
      by_cases m : x ∈ L
      · rw [if_pos m, if_pos (List.mem_cons_of_mem _ m)]
        omega
      · rw [if_neg m, if_neg (by rw [List.mem_cons]; exact fun z => z.elim (fun z => e z.symm) m)]
        rfl
theorem isum_ends (w : Nat → Nat → Int) {L : List Nat} (nd : L.Nodup) : ∀ A : Ar, (L.map fun p => ((ends A p).map (w p)).sum).sum = (A.map fun a => (if a.1 ∈ L then w a.1 a.2 else 0) + (if a.2 ∈ L then w a.2 a.1 else 0)).sum
  | [] => by
    simp only [ends, List.map_nil, List.sum_nil]
    exact isum_zero L
  | a :: A => by
    obtain ⟨x, y⟩ := a
    have e : ∀ p, ((ends ((x, y) :: A) p).map (w p)).sum = ((if p = x then w x y else 0) + (if p = y then w y x else 0)) + ((ends A p).map (w p)).sum := by
      intro p
      rw [ends_cons, List.map_append, List.map_append, List.sum_append, List.sum_append]
      by_cases h1 : p = x <;> by_cases h2 : p = y
      · subst h1; subst h2
        simp
        omega
      · subst h1
        have h3 : ¬ y = p := fun z => h2 z.symm
        simp [h2, h3]
      · subst h2
        have h3 : ¬ x = p := fun z => h1 z.symm
        simp [h1, h3]
      · have h3 : ¬ y = p := fun z => h2 z.symm
        have h4 : ¬ x = p := fun z => h1 z.symm
        simp [h1, h2, h3, h4]
    simp only [e]
    rw [isum_add, isum_add, isum_one _ _ nd, isum_one _ _ nd, isum_ends w nd A]
    simp only [List.map_cons, List.sum_cons]
theorem sur_sym {A : Ar} {L : List Nat} (nd : L.Nodup) (sh : Shut A L) (f g : Nat → Int) : (L.map fun p => f p * sur A g p).sum = (L.map fun p => g p * sur A f p).sum := by
  have one : ∀ f g : Nat → Int, (L.map fun p => f p * sur A g p).sum = (L.map fun p => ((ends A p).map fun q => f p * g q).sum).sum + (L.map fun p => -2 * (f p * g p)).sum := fun f g => by
    rw [← isum_add]
    congr 1
    refine List.map_congr_left fun p _ => ?_
    rw [isum_mul]
    unfold sur
    rw [Int.mul_sub, Int.sub_eq_add_neg]
    congr 1
    rw [Int.mul_left_comm, Int.neg_mul]
  rw [one, one]
  have e1 := isum_ends (fun p q => f p * g q) nd A
  have e2 := isum_ends (fun p q => g p * f q) nd A
  rw [e1, e2]
  have e3 : (A.map fun a => (if a.1 ∈ L then f a.1 * g a.2 else 0) + (if a.2 ∈ L then f a.2 * g a.1 else 0)).sum = (A.map fun a => (if a.1 ∈ L then g a.1 * f a.2 else 0) + (if a.2 ∈ L then g a.2 * f a.1 else 0)).sum := by
    congr 1
    refine List.map_congr_left fun a ha => ?_
    have s := sh a ha
    by_cases h : a.1 ∈ L
    · rw [if_pos h, if_pos (s.mp h), if_pos h, if_pos (s.mp h), Int.mul_comm (f a.1), Int.mul_comm (f a.2)]
      omega
    · rw [if_neg h, if_neg (fun z => h (s.mpr z)), if_neg h, if_neg (fun z => h (s.mpr z))]
  rw [e3]
  congr 2
  exact List.map_congr_left fun p _ => by rw [Int.mul_comm (f p)]
structure Null (A : Ar) (L : List Nat) (δ : Nat → Nat) : Prop where
  pos : ∀ p ∈ L, 1 ≤ δ p
  le : ∀ p, δ p ≤ 8
  off : ∀ p, p ∉ L → δ p = 0
  run : ∀ r : Nat → Int, (∀ p, 0 ≤ r p ∧ r p ≤ δ p) → (∃ p ∈ L, sur A r p < 0) → (∃ p ∈ L, 0 < sur A r p) ∧ ∀ p ∈ L, 0 < sur A r p → r p < δ p
  stop : ∀ r : Nat → Int, (∀ p, 0 ≤ r p ∧ r p ≤ δ p) → (∃ p, r p ≠ 0) → (∀ p ∈ L, 0 ≤ sur A r p) → ∀ p ∈ L, 0 < r p
theorem isum_le {α : Type} {f g : α → Int} : ∀ {l : List α}, (∀ x ∈ l, f x ≤ g x) → (l.map f).sum ≤ (l.map g).sum
  | [], _ => Int.le_refl _
  | x :: l, h => by
    simp only [List.map_cons, List.sum_cons]
    have := h x List.mem_cons_self
    have := isum_le (l := l) fun y hy => h y (List.mem_cons_of_mem _ hy)
    omega
theorem isum_neg {α : Type} {f : α → Int} : ∀ {l : List α}, (∀ x ∈ l, f x ≤ 0) → (∃ x ∈ l, f x < 0) → (l.map f).sum < 0
  | [], _, ⟨x, hx, _⟩ => by cases hx
  | y :: l, h, ⟨x, hx, lt⟩ => by
    simp only [List.map_cons, List.sum_cons]
    have h1 := h y List.mem_cons_self
    have h2 : (l.map f).sum ≤ 0 := by
      have := isum_le (g := fun _ => 0) (l := l) fun z hz => h z (List.mem_cons_of_mem _ hz)
      rw [isum_zero] at this
      exact this
    rcases List.mem_cons.mp hx with rfl | hx
    · omega
    · have := isum_neg (fun z hz => h z (List.mem_cons_of_mem _ hz)) ⟨x, hx, lt⟩
      omega
theorem isum_pos {α : Type} {f : α → Int} : ∀ {l : List α}, (∀ x ∈ l, 0 ≤ f x) → (∃ x ∈ l, 0 < f x) → 0 < (l.map f).sum
  | [], _, ⟨x, hx, _⟩ => by cases hx
  | y :: l, h, ⟨x, hx, lt⟩ => by
    simp only [List.map_cons, List.sum_cons]
    have h1 := h y List.mem_cons_self
    have h2 : 0 ≤ (l.map f).sum := by
      have := isum_le (f := fun _ => 0) (l := l) fun z hz => h z (List.mem_cons_of_mem _ hz)
      rw [isum_zero] at this
      exact this
    rcases List.mem_cons.mp hx with rfl | hx
    · omega
    · have := isum_pos (fun z hz => h z (List.mem_cons_of_mem _ hz)) ⟨x, hx, lt⟩
      omega
theorem affine {A : Ar} {L : List Nat} {δ : Nat → Nat} (nd : L.Nodup) (sh : Shut A L) (hg : ∀ p ∈ L, ∀ q ∈ L, ∃ n, Reach A p n q) (pos : ∀ p ∈ L, 1 ≤ δ p) (le : ∀ p, δ p ≤ 8) (off : ∀ p, p ∉ L → δ p = 0) (zero : ∀ p ∈ L, sur A (fun q => (δ q : Int)) p = 0) : Null A L δ := by
  have key : ∀ r : Nat → Int, (L.map fun p => (δ p : Int) * sur A r p).sum = 0 := fun r => by
    rw [sur_sym nd sh (fun p => (δ p : Int)) r]
    have : (L.map fun p => r p * sur A (fun q => (δ q : Int)) p) = L.map fun _ => (0 : Int) := List.map_congr_left fun p hp => by rw [zero p hp, Int.mul_zero]
    rw [this, isum_zero]
  refine ⟨pos, le, off, fun r hr ⟨p0, hp0, neg⟩ => ⟨?_, fun p hp lt => ?_⟩, fun r hr ⟨q0, nz⟩ all p hp => ?_⟩
  · refine Classical.byContradiction fun no => ?_
    have h1 : ∀ p ∈ L, (δ p : Int) * sur A r p ≤ 0 := fun p hp => by
      have h2 : sur A r p ≤ 0 := Classical.byContradiction fun z => no ⟨p, hp, by omega⟩
      exact Int.mul_nonpos_of_nonneg_of_nonpos (by omega) h2
    have := isum_neg h1 ⟨p0, hp0, Int.mul_neg_of_pos_of_neg (by have := pos p0 hp0; omega) neg⟩
    rw [key] at this
    omega
  · have h1 := (hr p).2
    refine Classical.byContradiction fun z => ?_
    have e : r p = δ p := by omega
    have h2 : ((ends A p).map fun q => (δ q : Int)).sum - 2 * (δ p : Int) = 0 := zero p hp
    unfold sur at lt
    have h3 : ((ends A p).map r).sum ≤ ((ends A p).map fun q => (δ q : Int)).sum := isum_le fun q _ => (hr q).2
    omega
  · have z1 : ∀ p ∈ L, sur A r p = 0 := fun p hp => by
      refine Classical.byContradiction fun z => ?_
      have h1 := all p hp
      have := isum_pos (f := fun p => (δ p : Int) * sur A r p) (l := L) (fun p hp => Int.mul_nonneg (by omega) (all p hp)) ⟨p, hp, Int.mul_pos (by have := pos p hp; omega) (by omega)⟩
      rw [key] at this
      omega
    have q0L : q0 ∈ L := Classical.byContradiction fun z => by
      have := hr q0
      rw [off q0 z] at this
      omega
    have h0 := (hr p).1
    refine Classical.byContradiction fun no => nz ?_
    have e : r p = 0 := by omega
    have step : ∀ n q, Reach A p n q → q ∈ L ∧ r q = 0 := fun n => by
      induction n with
      | zero => intro q hq; rw [show q = p from hq]; exact ⟨hp, e⟩
      | succ n ih =>
        intro q hq
        rcases hq with hq | ⟨x, hx, hm⟩
        · exact ih q hq
        · obtain ⟨xL, ex⟩ := ih x hx
          have qL : q ∈ L := by
            rcases mem_ends.mp hm with y | y
            · exact (sh _ y).mp xL
            · exact (sh _ y).mpr xL
          refine ⟨qL, ?_⟩
          have := z1 x xL
          unfold sur at this
          rw [ex] at this
          have h0 := (hr q).1
          refine Classical.byContradiction fun nq => ?_
          have := isum_pos (f := r) (l := ends A x) (fun y _ => (hr y).1) ⟨q, hm, by omega⟩
          omega
    obtain ⟨n, hn⟩ := hg p hp q0 q0L
    exact (step n q0 hn).2
/-! ### loops, and arrows side by side -/
theorem loop_twice {A : Ar} {p : Nat} (h : (p, p) ∈ A) : 2 ≤ (ends A p).length := by
  induction A with
  | nil => cases h
  | cons a A ih =>
    rw [ends_cons, List.length_append, List.length_append]
    rcases List.mem_cons.mp h with e | h
    · rw [← e]
      simp
      omega
    · have := ih h
      omega
theorem sum_all {l : List Nat} {r : Nat → Int} {x : Nat} (h : ∀ q ∈ l, q = x) : (l.map r).sum = (l.length : Int) * r x := by
  induction l with
  | nil => simp
  | cons y l ih =>
    rw [List.map_cons, List.sum_cons, ih fun q hq => h q (List.mem_cons_of_mem _ hq), h y List.mem_cons_self, List.length_cons]
    rw [show ((l.length + 1 : Nat) : Int) = (l.length : Int) + 1 by omega, Int.add_mul]
    omega
theorem null_loop {A : Ar} {L : List Nat} {p : Nat} (pL : p ∈ L) (one : ∀ q ∈ L, q = p) (sh : Shut A L) (lp : (p, p) ∈ A) : Null A L fun q => if q = p then 1 else 0 := by
  have all : ∀ q ∈ ends A p, q = p := fun q hq => one q (by
    rcases mem_ends.mp hq with y | y
    · exact (sh _ y).mp pL
    · exact (sh _ y).mpr pL)
  have l2 := loop_twice lp
  have ge : ∀ r : Nat → Int, 0 ≤ r p → 0 ≤ sur A r p := fun r h => by
    unfold sur
    rw [sum_all all]
    have := Int.mul_le_mul_of_nonneg_right (show (2 : Int) ≤ ((ends A p).length : Int) by omega) h
    omega
  refine ⟨fun q hq => by rw [one q hq, if_pos rfl]; exact Nat.le_refl _, fun q => by split <;> omega, fun q hq => if_neg fun (z : q = p) => hq (z ▸ pL), fun r hr ⟨q, hq, neg⟩ => ?_, fun r hr ⟨q, nz⟩ _ x hx => ?_⟩
  · rw [one q hq] at neg
    have := ge r (hr p).1
    omega
  · rw [one x hx]
    have h1 := hr q
    by_cases e : q = p
    · subst e
      omega
    · have := h1.2
      simp only [e, if_false] at this
      omega
theorem null_two {A : Ar} {L : List Nat} {p q : Nat} (ne : p ≠ q) (pL : p ∈ L) (qL : q ∈ L) (two : ∀ x ∈ L, x = p ∨ x = q) (hp : ∀ x ∈ ends A p, x = q) (hq : ∀ x ∈ ends A q, x = p) (lp : 2 ≤ (ends A p).length) (lq : 2 ≤ (ends A q).length) : Null A L fun x => if x = p ∨ x = q then 1 else 0 := by
  have sp : ∀ r : Nat → Int, sur A r p = ((ends A p).length : Int) * r q - 2 * r p := fun r => by unfold sur; rw [sum_all hp]
  have sq : ∀ r : Nat → Int, sur A r q = ((ends A q).length : Int) * r p - 2 * r q := fun r => by unfold sur; rw [sum_all hq]
  have b : ∀ r : Nat → Int, (∀ x, 0 ≤ r x ∧ r x ≤ ((if x = p ∨ x = q then 1 else 0 : Nat) : Int)) → (r p = 0 ∨ r p = 1) ∧ (r q = 0 ∨ r q = 1) ∧ ∀ x, r x ≠ 0 → x = p ∨ x = q := fun r hr => by
    have h1 := hr p
    have h2 := hr q
    rw [if_pos (.inl rfl)] at h1
    rw [if_pos (.inr rfl)] at h2
    refine ⟨by omega, by omega, fun x nz => Classical.byContradiction fun z => ?_⟩
    have h3 := hr x
    rw [if_neg z] at h3
    omega
  have m0 : ∀ k : Int, k * 0 = 0 := fun k => Int.mul_zero k
  have m1 : ∀ k : Int, k * 1 = k := fun k => Int.mul_one k
  refine ⟨fun x hx => by rw [if_pos (two x hx)]; exact Nat.le_refl _, fun x => by split <;> omega, fun x hx => if_neg fun z => hx (z.elim (fun z => z ▸ pL) fun z => z ▸ qL), fun r hr ⟨x, hx, neg⟩ => ?_, fun r hr ⟨x, nz⟩ all y hy => ?_⟩
  · obtain ⟨bp, bq, _⟩ := b r hr
    have h1 := sp r
    have h2 := sq r
    rcases bp with ep | ep <;> rcases bq with eq | eq <;> rw [ep, eq] at h1 h2 <;> simp only [m0, m1] at h1 h2
    · rcases two x hx with rfl | rfl <;> omega
    · rcases two x hx with rfl | rfl
      · omega
      · refine ⟨⟨p, pL, by omega⟩, fun y hy lt => ?_⟩
        rcases two y hy with rfl | rfl
        · rw [ep, if_pos (.inl rfl)]; decide
        · omega
    · rcases two x hx with rfl | rfl
      · refine ⟨⟨q, qL, by omega⟩, fun y hy lt => ?_⟩
        rcases two y hy with rfl | rfl
        · omega
        · rw [eq, if_pos (.inr rfl)]; decide
      · omega
    · rcases two x hx with rfl | rfl <;> omega
  · obtain ⟨bp, bq, bx⟩ := b r hr
    have h1 := sp r
    have h2 := sq r
    have a1 := all p pL
    have a2 := all q qL
    have nzx := bx x nz
    rcases bp with ep | ep <;> rcases bq with eq | eq <;> rw [ep, eq] at h1 h2 <;> simp only [m0, m1] at h1 h2
    · rcases nzx with rfl | rfl
      · exact absurd ep nz
      · exact absurd eq nz
    · omega
    · omega
    · rcases two y hy with rfl | rfl
      · omega
      · omega
end M22

set_option linter.all false
/-! Least webs without a kind: rings, and those of two forks. -/
namespace M22
open K9M M21
theorem nodup_le : ∀ {l k : List Nat}, l.Nodup → (∀ x ∈ l, x ∈ k) → l.length ≤ k.length
  | [], _, _, _ => Nat.zero_le _
  | x :: l, k, nd, h => by
    have nd' := List.nodup_cons.mp nd
    have hx := h x List.mem_cons_self
    have := nodup_le (l := l) (k := k.erase x) nd'.2 fun y hy => (List.mem_erase_of_ne (fun (e : y = x) => nd'.1 (e ▸ hy))).mpr (h y (List.mem_cons_of_mem _ hy))
    rw [List.length_erase_of_mem hx] at this
    have := List.length_pos_of_mem hx
    rw [List.length_cons]
    omega
theorem count_sym (A : Ar) (p q : Nat) : (ends A p).count q = (ends A q).count p := by
  induction A with
  | nil => rfl
  | cons a A ih =>
    obtain ⟨x, y⟩ := a
    rw [ends_cons, ends_cons, List.count_append, List.count_append, List.count_append, List.count_append, ih]
    have e : (if x = p then [y] else []).count q = (if y = q then [x] else []).count p := by
      by_cases h1 : x = p <;> by_cases h2 : y = q <;> simp [h1, h2]
    have f : (if y = p then [x] else []).count q = (if x = q then [y] else []).count p := by
      by_cases h1 : y = p <;> by_cases h2 : x = q <;> simp [h1, h2]
    simp only
    rw [e, f]
    omega
structure Least (m : Nat) (A : Ar) (h : Nat) : Prop where
  ins : Inside m A
  head : h ∈ headsN m A
  bad : Bad A (lotN m A h)
  min : ∀ p ∈ lotN m A h, ¬ HasBad m (del p A)
section
variable {m : Nat} {A : Ar} {h : Nat}
theorem Least.good (l : Least m A h) {p q : Nat} (hp : p ∈ lotN m A h) (hq : q < m) : ∃ c ∈ headsN m (del p A), q ∈ lotN m (del p A) c ∧ Good (del p A) (lotN m (del p A) c) := by
  have hB := del_inside (p := p) l.ins
  obtain ⟨c, hc, qc⟩ := lot_of_label hB hq
  refine ⟨c, hc, qc, ?_⟩
  rcases good_or_bad hB c with g | b
  · exact g
  · exact absurd ⟨c, hc, b⟩ (l.min p hp)
theorem good_tree {m : Nat} {B : Ar} {c x : Nat} (hB : Inside m B) (hx : x ∈ lotN m B c) (g : Good B (lotN m B c)) : ∃ d : Nat → Nat, (∀ p ∈ lotN m B c, ∀ q ∈ ends B p, d q ≠ d p) ∧ (∀ p ∈ lotN m B c, (ends B p).countP (fun q => decide (d q < d p)) ≤ 1) ∧ (∀ p ∈ lotN m B c, p ≠ x → 0 < d p) ∧ d x = 0 := by
  have nd := nodup_of_up (lotN_up m B c)
  have few : (inner B (lotN m B c)).length + 1 = (lotN m B c).length := by
    have := sum_degrees nd (lot_shut hB c)
    have t := g.tree
    unfold degs at t
    omega
  exact tree nd (lot_shut hB c) hx (fun p hp => lot_reach hB hx hp) few
theorem Least.nd (l : Least m A h) : (lotN m A h).Nodup := nodup_of_up (lotN_up m A h)
theorem Least.lt (l : Least m A h) {p : Nat} (hp : p ∈ lotN m A h) : p < m := (mem_lotN.mp hp).1
theorem Least.to (l : Least m A h) {p q : Nat} (hp : p ∈ lotN m A h) (hq : q ∈ ends A p) : q ∈ lotN m A h := lot_ends l.ins hp hq
theorem Least.null_loops (l : Least m A h) {p : Nat} (hp : p ∈ lotN m A h) (lp : (p, p) ∈ A) : ∃ δ, Null A (lotN m A h) δ := by
  refine ⟨_, null_loop hp (fun q hq => Classical.byContradiction fun ne => ?_) (lot_shut l.ins h) lp⟩
  obtain ⟨c, _, pc, g⟩ := l.good hq (l.lt hp)
  obtain ⟨d, d1, _⟩ := good_tree (del_inside l.ins) pc g
  have : (p, p) ∈ del q A := List.mem_filter.mpr ⟨lp, decide_eq_true ⟨fun e => ne e.symm, fun e => ne e.symm⟩⟩
  exact d1 p pc p (mem_ends.mpr (.inl this)) rfl
theorem Least.null_double (l : Least m A h) (no : ∀ p ∈ lotN m A h, (p, p) ∉ A) {p q : Nat} (hp : p ∈ lotN m A h) (two : 2 ≤ (ends A p).count q) : ∃ δ, Null A (lotN m A h) δ := by
  have hq : q ∈ ends A p := List.count_pos_iff.mp (by omega)
  have qL := l.to hp hq
  have ne : p ≠ q := fun e => by
    subst e
    rcases mem_ends.mp hq with z | z <;> exact no p hp z
  have only : ∀ x ∈ lotN m A h, x = p ∨ x = q := fun x hx => Classical.byContradiction fun z => by
    have xp : p ≠ x := fun e => z (.inl e.symm)
    have xq : q ≠ x := fun e => z (.inr e.symm)
    obtain ⟨c, _, pc, g⟩ := l.good hx (l.lt hp)
    have hB := del_inside (p := x) l.ins
    obtain ⟨d, d1, d2, _⟩ := good_tree hB pc g
    have cp : (ends (del x A) p).count q = (ends A p).count q := by
      rw [ends_del xp, List.count_filter (by simp [xq])]
    have cq : (ends (del x A) q).count p = (ends A p).count q := by
      rw [ends_del xq, List.count_filter (by simp [xp]), count_sym]
    have hq' : q ∈ ends (del x A) p := List.count_pos_iff.mp (by omega)
    have qc := lot_ends hB pc hq'
    have dn := d1 p pc q hq'
    rcases Nat.lt_or_ge (d q) (d p) with lt | ge
    · have h2 := d2 p pc
      have : (ends (del x A) p).count q ≤ (ends (del x A) p).countP (fun z => decide (d z < d p)) := List.countP_mono_left fun y _ hy => by
        have : y = q := by simpa using hy
        rw [this]
        exact decide_eq_true lt
      omega
    · have h2 := d2 q qc
      have : (ends (del x A) q).count p ≤ (ends (del x A) q).countP (fun z => decide (d z < d q)) := List.countP_mono_left fun y _ hy => by
        have : y = p := by simpa using hy
        rw [this]
        exact decide_eq_true (by omega)
      omega
  have pq : ∀ x ∈ ends A p, x = q := fun x hx => by
    rcases only x (l.to hp hx) with e | e
    · subst e
      rcases mem_ends.mp hx with z | z <;> exact absurd z (no x hp)
    · exact e
  have qp : ∀ x ∈ ends A q, x = p := fun x hx => by
    rcases only x (l.to qL hx) with e | e
    · exact e
    · subst e
      rcases mem_ends.mp hx with z | z <;> exact absurd z (no x qL)
  exact ⟨_, null_two ne hp qL only pq qp (Nat.le_trans two List.count_le_length) (Nat.le_trans two (by rw [count_sym]; exact List.count_le_length))⟩
/-- neither loops nor arrows side by side -/
structure Simple (A : Ar) (L : List Nat) : Prop where
  no : ∀ p ∈ L, (p, p) ∉ A
  one : ∀ p ∈ L, ∀ q, (ends A p).count q ≤ 1
theorem Simple.nodup {A : Ar} {L : List Nat} (s : Simple A L) {p : Nat} (hp : p ∈ L) : (ends A p).Nodup := List.nodup_iff_count.mpr fun q => s.one p hp q
theorem Simple.ne {A : Ar} {L : List Nat} (s : Simple A L) {p : Nat} (hp : p ∈ L) : p ∉ ends A p := fun h => by
  rcases mem_ends.mp h with z | z <;> exact s.no p hp z
theorem edges_del {A : Ar} {L : List Nat} {p : Nat} (sh : Shut A L) (hp : p ∈ L) (no : (p, p) ∉ A) : (inner A L).length = (inner (del p A) (L.filter fun q => decide (q ≠ p))).length + (ends A p).length := by
  unfold inner del
  induction A with
  | nil => rfl
  | cons a A ih =>
    have ih := ih (fun b hb => sh b (List.mem_cons_of_mem _ hb)) fun z => no (List.mem_cons_of_mem _ z)
    have s := sh a List.mem_cons_self
    obtain ⟨x, y⟩ := a
    simp only at s
    rw [List.filter_cons, List.filter_cons, ends_cons, List.length_append, List.length_append]
    by_cases h1 : x = p
    · have h2 : ¬ y = p := fun e => no (by rw [h1, e]; exact List.mem_cons_self)
      have h3 : x ∈ L := h1 ▸ hp
      simp [h1, h2, hp] at ih ⊢
      omega
    · by_cases h2 : y = p
      · have h3 : x ∈ L := s.mpr (h2 ▸ hp)
        simp [h1, h2, h3] at ih ⊢
        omega
      · by_cases h3 : x ∈ L
        · simp [h1, h2, h3] at ih ⊢
          omega
        · simp [h1, h2, h3] at ih ⊢
          omega
theorem filter_ne_len {L : List Nat} {p : Nat} (nd : L.Nodup) (hp : p ∈ L) : (L.filter fun q => decide (q ≠ p)).length + 1 = L.length := by
  induction L with
  | nil => cases hp
  | cons x L ih =>
    have nd' := List.nodup_cons.mp nd
    rw [List.filter_cons]
    by_cases e : x = p
    · subst e
      have e1 : L.filter (fun q => decide (q ≠ x)) = L := List.filter_eq_self.mpr fun y hy => decide_eq_true (show y ≠ x from fun z => nd'.1 (z ▸ hy))
      rw [if_neg (by simp), e1, List.length_cons]
    · rw [if_pos (by simp [e]), List.length_cons, List.length_cons]
      have := ih nd'.2 ((List.mem_cons.mp hp).elim (fun z => absurd z.symm e) id)
      omega
/-- a place of a least web that has no kind has many ends -/
theorem Least.ring_deg (l : Least m A h) (s : Simple A (lotN m A h)) {p : Nat} (hp : p ∈ lotN m A h) (many : 2 ≤ (lotN m A h).length) : (inner A (lotN m A h)).length + 2 ≤ (ends A p).length + (lotN m A h).length := by
  have hB := del_inside (p := p) l.ins
  have fl := filter_ne_len l.nd hp
  have e := edges_del (lot_shut l.ins h) hp (s.no p hp)
  have memS : ∀ {q}, q ∈ (lotN m A h).filter (fun q => decide (q ≠ p)) ↔ q ∈ lotN m A h ∧ q ≠ p := fun {q} => by rw [List.mem_filter, decide_eq_true_eq]
  have shS : Shut (del p A) ((lotN m A h).filter fun q => decide (q ≠ p)) := fun a ha => by
    obtain ⟨h1, h2⟩ := List.mem_filter.mp ha
    have h2 := of_decide_eq_true h2
    rw [memS, memS, lot_shut l.ins h a h1]
    exact ⟨fun z => ⟨z.1, h2.2⟩, fun z => ⟨z.1, h2.1⟩⟩
  -- depths of all the lots
  have each : ∀ q, ∃ d : Nat → Nat, q < m → ∃ c ∈ headsN m (del p A), q ∈ lotN m (del p A) c ∧ (∀ x ∈ lotN m (del p A) c, ∀ y ∈ ends (del p A) x, d y ≠ d x) ∧ ∀ x ∈ lotN m (del p A) c, (ends (del p A) x).countP (fun y => decide (d y < d x)) ≤ 1 := fun q => by
    by_cases hq : q < m
    · obtain ⟨c, hc, qc, g⟩ := l.good hp hq
      obtain ⟨d, d1, d2, _⟩ := good_tree hB qc g
      exact ⟨d, fun _ => ⟨c, hc, qc, d1, d2⟩⟩
    · exact ⟨fun _ => 0, fun z => absurd z hq⟩
  let D : Nat → Nat → Nat := fun q => (each q).choose
  have hD : ∀ q, q < m → ∃ c ∈ headsN m (del p A), q ∈ lotN m (del p A) c ∧ (∀ x ∈ lotN m (del p A) c, ∀ y ∈ ends (del p A) x, D q y ≠ D q x) ∧ ∀ x ∈ lotN m (del p A) c, (ends (del p A) x).countP (fun y => decide (D q y < D q x)) ≤ 1 := fun q => (each q).choose_spec
  let d : Nat → Nat := fun x => D (fin1 (del p A) x).toNat x
  have rep : ∀ x, x < m → ∃ c ∈ headsN m (del p A), x ∈ lotN m (del p A) c ∧ (fin1 (del p A) x).toNat = c ∧ (∀ x ∈ lotN m (del p A) c, ∀ y ∈ ends (del p A) x, D c y ≠ D c x) ∧ ∀ x ∈ lotN m (del p A) c, (ends (del p A) x).countP (fun y => decide (D c y < D c x)) ≤ 1 := fun x hx => by
    obtain ⟨c, hc, xc⟩ := lot_of_label hB hx
    obtain ⟨c', hc', cc', r1, r2⟩ := hD c (mem_headsN.mp hc).1
    have ec : c = c' := by
      have h1 := (mem_headsN.mp hc).2
      have h2 := (mem_lotN.mp cc').2
      omega
    subst ec
    exact ⟨c, hc, xc, by rw [(mem_lotN.mp xc).2]; omega, r1, r2⟩
  have same : ∀ x, x < m → ∀ y ∈ ends (del p A) x, d y = D (fin1 (del p A) x).toNat y := fun x hx y hy => by
    have : fin1 (del p A) y = fin1 (del p A) x := by
      rcases mem_ends.mp hy with z | z
      · exact (fin1_closed _ _ z).symm
      · exact fin1_closed _ _ z
    show D (fin1 (del p A) y).toNat y = _
    rw [this]
  have f := forest (A := del p A) (S := (lotN m A h).filter fun q => decide (q ≠ p)) (d := d) (List.Pairwise.sublist List.filter_sublist l.nd) (fun z => by rw [z] at fl; simp at fl; omega) shS (fun x hx y hy => by
    obtain ⟨xL, _⟩ := memS.mp hx
    obtain ⟨c, _, xc, ec, r1, _⟩ := rep x (l.lt xL)
    rw [same x (l.lt xL) y hy]
    show D _ y ≠ D (fin1 (del p A) x).toNat x
    rw [ec]
    exact r1 x xc y hy) (fun x hx => by
    obtain ⟨xL, _⟩ := memS.mp hx
    obtain ⟨c, _, xc, ec, _, r2⟩ := rep x (l.lt xL)
    have : (ends (del p A) x).countP (fun y => decide (d y < d x)) = (ends (del p A) x).countP (fun y => decide (D c y < D c x)) := List.countP_congr fun y hy => by
      rw [same x (l.lt xL) y hy]
      show (decide (D (fin1 (del p A) x).toNat y < D (fin1 (del p A) x).toNat x) = true) ↔ _
      rw [ec]
    rw [this]
    exact r2 x xc)
  omega
theorem Least.null_ring (l : Least m A h) (s : Simple A (lotN m A h)) (ring : (lotN m A h).length ≤ (inner A (lotN m A h)).length) : ∃ δ, Null A (lotN m A h) δ := by
  have hh := mem_lot_self l.head
  have ub : ∀ p ∈ lotN m A h, (ends A p).length + 1 ≤ (lotN m A h).length := fun p hp => by
    have := nodup_le (l := p :: ends A p) (k := lotN m A h) (List.nodup_cons.mpr ⟨s.ne hp, s.nodup hp⟩) fun x hx => (List.mem_cons.mp hx).elim (fun e => e ▸ hp) fun z => l.to hp z
    rw [List.length_cons] at this
    exact this
  have sd := sum_degrees l.nd (lot_shut l.ins h)
  have n2 : 2 ≤ (lotN m A h).length := Classical.byContradiction fun z => by
    have l1 : (lotN m A h).length ≤ 1 := by omega
    have : ∀ p ∈ lotN m A h, (ends A p).length ≤ 0 := fun p hp => by have := ub p hp; omega
    have := sum_le (f := fun p => (ends A p).length) (g := fun _ => 0) this
    rw [sum_map_zero] at this
    have pos := List.length_pos_of_mem hh
    omega
  have lb : ∀ p ∈ lotN m A h, (inner A (lotN m A h)).length + 2 - (lotN m A h).length ≤ (ends A p).length := fun p hp => by
    have := l.ring_deg s hp n2
    omega
  have cs : ∀ (k : Nat) (l : List Nat), (l.map fun _ => k).sum = l.length * k := fun k l => by
    induction l with
    | nil => simp
    | cons x l ih => rw [List.map_cons, List.sum_cons, ih, List.length_cons, Nat.add_mul]; omega
  have sl := sum_le (f := fun _ => (inner A (lotN m A h)).length + 2 - (lotN m A h).length) (g := fun p => (ends A p).length) lb
  rw [cs] at sl
  have u := ub h hh
  have b := lb h hh
  obtain ⟨t, et⟩ : ∃ t, (inner A (lotN m A h)).length = (lotN m A h).length + t := ⟨(inner A (lotN m A h)).length - (lotN m A h).length, by omega⟩
  have t0 : t = 0 := by
    rw [et] at sl sd b
    have e1 : (lotN m A h).length + t + 2 - (lotN m A h).length = t + 2 := by omega
    rw [e1] at sl b
    rw [sd, Nat.mul_add] at sl
    have : (lotN m A h).length * t ≤ 2 * t := by omega
    refine Classical.byContradiction fun z => ?_
    have := Nat.le_of_mul_le_mul_right this (Nat.pos_of_ne_zero z)
    omega
  subst t0
  rw [et] at sd lb
  have e2 : (lotN m A h).length + 0 + 2 - (lotN m A h).length = 2 := by omega
  rw [e2] at lb
  have two := sum_tight (f := fun _ => 2) (g := fun p => (ends A p).length) lb (by rw [cs]; omega)
  refine ⟨fun p => if p ∈ lotN m A h then 1 else 0, affine l.nd (lot_shut l.ins h) (fun p hp q hq => lot_reach l.ins hp hq) (fun p hp => by rw [if_pos hp]; exact Nat.le_refl _) (fun p => by split <;> omega) (fun p hp => if_neg hp) fun p hp => ?_⟩
  have e3 : (ends A p).map (fun q => ((if q ∈ lotN m A h then 1 else 0 : Nat) : Int)) = (ends A p).map fun _ => (1 : Int) := List.map_congr_left fun q hq => by rw [if_pos (l.to hp hq)]; rfl
  have ci : ∀ l : List Nat, (l.map fun _ => (1 : Int)).sum = (l.length : Int) := fun l => by
    induction l with
    | nil => rfl
    | cons x l ih => rw [List.map_cons, List.sum_cons, ih, List.length_cons]; omega
  show ((ends A p).map (fun q => ((if q ∈ lotN m A h then 1 else 0 : Nat) : Int))).sum - 2 * ((if p ∈ lotN m A h then 1 else 0 : Nat) : Int) = 0
  rw [e3, ci, if_pos hp]
  have := two p hp
  omega
end
end M22

set_option linter.all false
/-! Least webs with two forks, or one of four. -/
namespace M22
open K9M M21
section
variable {m : Nat} {A : Ar} {h : Nat}
/-- without a leaf: what is left hangs together, and has a kind -/
theorem Least.leaf (l : Least m A h) (s : Simple A (lotN m A h)) {x y : Nat} (hx : x ∈ lotN m A h) (e : ends A x = [y]) :
    y ∈ lotN m A h ∧ y ≠ x ∧ (∃ c, Good (del x A) (lotN m (del x A) c) ∧ ∀ q ∈ lotN m A h, q ≠ x → q ∈ lotN m (del x A) c) ∧ (∀ q, q ≠ x → q ≠ y → ends (del x A) q = ends A q) ∧ deg (del x A) y + 1 = deg A y := by
  have hy : y ∈ ends A x := by rw [e]; exact List.mem_cons_self
  have yL := l.to hx hy
  have ne : y ≠ x := fun z => s.ne hx (z ▸ hy)
  have hB := del_inside (p := x) l.ins
  have only : ∀ q, q ∈ ends A x → q = y := fun q hq => by rw [e] at hq; exact List.mem_singleton.mp hq
  refine ⟨yL, ne, ?_, fun q qx qy => ?_, ?_⟩
  · obtain ⟨c, hc, yc, g⟩ := l.good hx (l.lt yL)
    refine ⟨c, g, fun q hq qx => ?_⟩
    have := joined l.ins (l.lt yL) (l.lt hq) ((mem_lotN.mp yL).2.trans (mem_lotN.mp hq).2.symm) (P := fun z => z = x ∨ fin1 (del x A) z = fin1 (del x A) y) (fun a ha => ?_) (.inr rfl)
    · rcases this with z | z
      · exact absurd z qx
      · exact mem_lotN.mpr ⟨l.lt hq, z.trans (mem_lotN.mp yc).2⟩
    · by_cases h1 : a.1 = x
      · have := only a.2 (mem_ends.mpr (.inl (by rw [← h1]; exact ha)))
        exact ⟨fun _ => .inr (by rw [this]), fun _ => .inl h1⟩
      · by_cases h2 : a.2 = x
        · have := only a.1 (mem_ends.mpr (.inr (by rw [← h2]; exact ha)))
          exact ⟨fun _ => .inl h2, fun _ => .inr (by rw [this])⟩
        · have hd : a ∈ del x A := List.mem_filter.mpr ⟨ha, decide_eq_true ⟨h1, h2⟩⟩
          have ec := fin1_closed (del x A) a hd
          exact ⟨fun z => z.elim (fun z => absurd z h1) fun z => .inr (by rw [← ec]; exact z), fun z => z.elim (fun z => absurd z h2) fun z => .inr (by rw [ec]; exact z)⟩
  · rw [ends_del qx]
    exact List.filter_eq_self.mpr fun z hz => decide_eq_true (show z ≠ x from fun ez => qy (only q (by rw [← ez]; exact ends_sym hz)))
  · show (ends (del x A) y).length + 1 = (ends A y).length
    rw [ends_del ne]
    have h1 := s.one y yL x
    have h2 : 0 < (ends A y).count x := List.count_pos_iff.mpr (ends_sym hy)
    have h3 := List.countP_eq_length_filter (p := fun z => decide (z ≠ x)) (l := ends A y)
    have h4 := List.length_eq_countP_add_countP (fun z => decide (z ≠ x)) (l := ends A y)
    have h5 : (ends A y).countP (fun z => decide ¬ (decide (z ≠ x)) = true) = (ends A y).count x := List.countP_congr fun z _ => by simp
    omega
theorem cnt_sum (P : Nat → Bool) : ∀ L : List Nat, (L.map fun p => if P p = true then 0 else 1).sum + L.countP P = L.length
  | [] => rfl
  | x :: L => by
    rw [List.map_cons, List.sum_cons, List.countP_cons, List.length_cons]
    have := cnt_sum P L
    split <;> omega
theorem const_sum (k : Nat) : ∀ l : List Nat, (l.map fun _ => k).sum = l.length * k
  | [] => by simp
  | x :: l => by rw [List.map_cons, List.sum_cons, const_sum k l, List.length_cons, Nat.add_mul]; omega
abbrev isLeaf (A : Ar) (p : Nat) : Bool := decide (deg A p = 1)
theorem null_fork {L : List Nat} (nd : L.Nodup) (sh : Shut A L) (hg : ∀ p ∈ L, ∀ q ∈ L, ∃ n, Reach A p n q) (pos : ∀ p ∈ L, 1 ≤ deg A p) (nb : ∀ x ∈ L, deg A x = 1 → ∀ y ∈ ends A x, 3 ≤ deg A y) (bal : ∀ p ∈ L, 3 ≤ deg A p → 2 * deg A p = 4 + (ends A p).countP (isLeaf A)) : ∃ δ, Null A L δ := by
  have to : ∀ p ∈ L, ∀ q ∈ ends A p, q ∈ L := fun p hp q hq => by
    rcases mem_ends.mp hq with z | z
    · exact (sh _ z).mp hp
    · exact (sh _ z).mpr hp
  refine ⟨fun p => if p ∈ L then (if deg A p = 1 then 1 else 2) else 0, affine nd sh hg (fun p hp => by rw [if_pos hp]; split <;> omega) (fun p => by split <;> (try split) <;> omega) (fun p hp => if_neg hp) fun p hp => ?_⟩
  have sm : ∀ l : List Nat, (∀ q ∈ l, q ∈ L) → (l.map fun q => ((if q ∈ L then (if deg A q = 1 then 1 else 2) else 0 : Nat) : Int)).sum = 2 * (l.length : Int) - (l.countP (isLeaf A) : Int) := fun l => by
    induction l with
    | nil => intro _; rfl
    | cons x l ih =>
      intro hl
      rw [List.map_cons, List.sum_cons, ih fun q hq => hl q (List.mem_cons_of_mem _ hq), if_pos (hl x List.mem_cons_self), List.countP_cons, List.length_cons]
      unfold isLeaf
      by_cases z : deg A x = 1
      · rw [if_pos z, if_pos (decide_eq_true z)]
        omega
      · rw [if_neg z, if_neg (by simpa using z)]
        omega
  show ((ends A p).map fun q => ((if q ∈ L then (if deg A q = 1 then 1 else 2) else 0 : Nat) : Int)).sum - 2 * ((if p ∈ L then (if deg A p = 1 then 1 else 2) else 0 : Nat) : Int) = 0
  rw [sm _ (to p hp), if_pos hp]
  have p1 := pos p hp
  have ed : (ends A p).length = deg A p := rfl
  by_cases h1 : deg A p = 1
  · rw [if_pos h1]
    have : (ends A p).countP (isLeaf A) = 0 := List.countP_eq_zero.mpr fun y hy z => by
      have := nb p hp h1 y hy
      have := of_decide_eq_true z
      omega
    omega
  · rw [if_neg h1]
    by_cases h3 : 3 ≤ deg A p
    · have := bal p hp h3
      omega
    · have : (ends A p).countP (isLeaf A) = 0 := List.countP_eq_zero.mpr fun y hy z => by
        have := nb y (to p hp y hy) (of_decide_eq_true z) p (ends_sym hy)
        omega
      omega
theorem Least.null_many (l : Least m A h) (s : Simple A (lotN m A h)) (tr : degs A (lotN m A h) + 2 = 2 * (lotN m A h).length) (ne : forks A (lotN m A h) ≠ []) (no : ∀ c, forks A (lotN m A h) = [c] → (ends A c).length ≠ 3) : ∃ δ, Null A (lotN m A h) δ := by
  have tr : ((lotN m A h).map fun p => deg A p).sum + 2 = 2 * (lotN m A h).length := tr
  have sh := lot_shut l.ins h
  have hg : ∀ p ∈ lotN m A h, ∀ q ∈ lotN m A h, ∃ n, Reach A p n q := fun p hp q hq => lot_reach l.ins hp hq
  obtain ⟨u0, hu0⟩ : ∃ u, u ∈ forks A (lotN m A h) := by
    match forks A (lotN m A h), ne with
    | u :: _, _ => exact ⟨u, List.mem_cons_self⟩
  have pos : ∀ p ∈ lotN m A h, 1 ≤ deg A p := fun p hp => Classical.byContradiction fun z => by
    have e : ends A p = [] := List.length_eq_zero_iff.mp (by show deg A p = 0; omega)
    have hu := mem_forks.mp hu0
    have c1 : ∀ a ∈ A, a.1 ≠ p := fun a ha z => by
      have : a.2 ∈ ends A p := mem_ends.mpr (.inl (by rw [← z]; exact ha))
      rw [e] at this
      cases this
    have c2 : ∀ a ∈ A, a.2 ≠ p := fun a ha z => by
      have : a.1 ∈ ends A p := mem_ends.mpr (.inr (by rw [← z]; exact ha))
      rw [e] at this
      cases this
    have := joined l.ins (l.lt hp) (l.lt hu.1) ((mem_lotN.mp hp).2.trans (mem_lotN.mp hu.1).2.symm) (P := fun z => z = p) (fun a ha => ⟨fun z => absurd z (c1 a ha), fun z => absurd z (c2 a ha)⟩) rfl
    rw [this] at hu
    omega
  have leafE : ∀ x, deg A x = 1 → ∃ y, ends A x = [y] := fun x hx => List.length_eq_one_iff.mp hx
  have someLeaf : ∃ x ∈ lotN m A h, deg A x = 1 := Classical.byContradiction fun z => by
    have : ∀ p ∈ lotN m A h, 2 ≤ deg A p := fun p hp => by
      have := pos p hp
      have : deg A p ≠ 1 := fun e => z ⟨p, hp, e⟩
      omega
    have := sum_le (f := fun _ => 2) (g := fun p => deg A p) this
    rw [const_sum] at this
    omega
  have leaves_nd : ((lotN m A h).filter (isLeaf A)).Nodup := List.Pairwise.sublist List.filter_sublist l.nd
  have cF := List.countP_eq_length_filter (p := isLeaf A) (l := lotN m A h)
  have cS := cnt_sum (isLeaf A) (lotN m A h)
  by_cases four : ∃ c ∈ lotN m A h, 4 ≤ deg A c
  · obtain ⟨c, hc, c4⟩ := four
    have toC : ∀ x ∈ lotN m A h, ∀ y, ends A x = [y] → y = c ∧ deg A c = 4 ∧ ∀ q ∈ lotN m A h, 3 ≤ deg A q → q = c := fun x hx y e => by
      obtain ⟨yL, yx, ⟨k, g, all⟩, eq, dy⟩ := l.leaf s hx e
      have dx : deg A x = 1 := by show (ends A x).length = 1; rw [e]; rfl
      have cx : c ≠ x := fun z => by rw [z] at c4; omega
      have ey : y = c := Classical.byContradiction fun z => by
        have := g.three c (all c hc cx)
        have e2 : deg (del x A) c = deg A c := congrArg List.length (eq c cx fun w => z w.symm)
        omega
      subst ey
      have t3 := g.three y (all y hc cx)
      refine ⟨rfl, by omega, fun q hq q3 => Classical.byContradiction fun z => ?_⟩
      have qx : q ≠ x := fun w => by rw [w] at q3; omega
      have e2 : deg (del x A) q = deg A q := congrArg List.length (eq q qx z)
      exact z (g.one q (all q hq qx) y (all y hc cx) (by omega) (by omega))
    obtain ⟨x0, hx0, d0⟩ := someLeaf
    obtain ⟨y0, e0⟩ := leafE x0 d0
    obtain ⟨_, c4', only⟩ := toC x0 hx0 y0 e0
    have ds : ∀ p ∈ lotN m A h, deg A p = (1 + (if isLeaf A p = true then 0 else 1)) + (if p = c then 2 else 0) := fun p hp => by
      have p1 := pos p hp
      by_cases e : p = c
      · rw [if_pos e, e, if_neg (by unfold isLeaf; simp; omega)]
        omega
      · rw [if_neg e]
        have : ¬ 3 ≤ deg A p := fun z => e (only p hp z)
        by_cases z : deg A p = 1
        · rw [if_pos (decide_eq_true z)]
          omega
        · rw [if_neg (by simpa using z)]
          omega
    have e1 : ((lotN m A h).map fun p => deg A p).sum = ((lotN m A h).map fun p => (1 + (if isLeaf A p = true then 0 else 1)) + (if p = c then 2 else 0)).sum := by
      congr 1
      exact List.map_congr_left ds
    rw [sum_map_add, sum_map_add, const_sum, sum_one c 2 l.nd, if_pos hc] at e1
    have lam : (lotN m A h).countP (isLeaf A) = 4 := by omega
    have sub := nodup_le (k := (ends A c).filter (isLeaf A)) leaves_nd fun x hx => by
      obtain ⟨xL, xl⟩ := List.mem_filter.mp hx
      obtain ⟨y, e⟩ := leafE x (of_decide_eq_true xl)
      have := (toC x xL y e).1
      exact List.mem_filter.mpr ⟨ends_sym (by rw [e, this]; exact List.mem_cons_self), xl⟩
    rw [← List.countP_eq_length_filter, ← List.countP_eq_length_filter] at sub
    refine null_fork l.nd sh hg pos (fun x hx dx y hy => ?_) fun p hp p3 => ?_
    · obtain ⟨y', e⟩ := leafE x dx
      rw [e] at hy
      rw [List.mem_singleton.mp hy, (toC x hx y' e).1]
      omega
    · rw [only p hp p3]
      have := List.countP_le_length (p := isLeaf A) (l := ends A c)
      have : (ends A c).length = deg A c := rfl
      omega
  · have le3 : ∀ p ∈ lotN m A h, deg A p ≤ 3 := fun p hp => Classical.byContradiction fun z => four ⟨p, hp, by omega⟩
    obtain ⟨u, v, huL, hvL, uv, u3, v3⟩ : ∃ u v, u ∈ lotN m A h ∧ v ∈ lotN m A h ∧ u ≠ v ∧ deg A u = 3 ∧ deg A v = 3 := by
      match ef : forks A (lotN m A h), ne with
      | [c], _ =>
        have hc := mem_forks.mp (show c ∈ forks A (lotN m A h) by rw [ef]; exact List.mem_cons_self)
        have := le3 c hc.1
        exact absurd (show deg A c = 3 by omega) (no c ef)
      | u :: v :: r, _ =>
        have hu := mem_forks.mp (show u ∈ forks A (lotN m A h) by rw [ef]; exact List.mem_cons_self)
        have hv := mem_forks.mp (show v ∈ forks A (lotN m A h) by rw [ef]; exact List.mem_cons_of_mem _ List.mem_cons_self)
        have nf : (forks A (lotN m A h)).Nodup := List.Pairwise.sublist List.filter_sublist l.nd
        rw [ef] at nf
        have := le3 u hu.1
        have := le3 v hv.1
        exact ⟨u, v, hu.1, hv.1, fun e => (List.nodup_cons.mp nf).1 (e ▸ List.mem_cons_self), by omega, by omega⟩
    have toUV : ∀ x ∈ lotN m A h, ∀ y, ends A x = [y] → (y = u ∨ y = v) ∧ ∀ w ∈ lotN m A h, deg A w = 3 → w = u ∨ w = v := fun x hx y e => by
      obtain ⟨yL, yx, ⟨k, g, all⟩, eq, dy⟩ := l.leaf s hx e
      have dx : deg A x = 1 := by show (ends A x).length = 1; rw [e]; rfl
      have nx : ∀ q, deg A q = 3 → q ≠ x := fun q q3 z => by rw [z] at q3; omega
      have pair : ∀ p ∈ lotN m A h, ∀ q ∈ lotN m A h, deg A p = 3 → deg A q = 3 → p ≠ y → q ≠ y → p = q := fun p hp q hq p3 q3 py qy => by
        have e1 : deg (del x A) p = deg A p := congrArg List.length (eq p (nx p p3) py)
        have e2 : deg (del x A) q = deg A q := congrArg List.length (eq q (nx q q3) qy)
        exact g.one p (all p hp (nx p p3)) q (all q hq (nx q q3)) (by omega) (by omega)
      have yuv : y = u ∨ y = v := Classical.byContradiction fun z => uv (pair u huL v hvL u3 v3 (fun e => z (.inl e.symm)) fun e => z (.inr e.symm))
      refine ⟨yuv, fun w hw w3 => Classical.byContradiction fun z => ?_⟩
      rcases yuv with ey | ey
      · exact z (.inr (pair w hw v hvL w3 v3 (fun e => z (.inl (e.trans ey))) fun e => uv (by rw [← ey, ← e])))
      · exact z (.inl (pair w hw u huL w3 u3 (fun e => z (.inr (e.trans ey))) fun e => uv (by rw [← ey, ← e])))
    obtain ⟨x0, hx0, d0⟩ := someLeaf
    obtain ⟨y0, e0⟩ := leafE x0 d0
    obtain ⟨_, only⟩ := toUV x0 hx0 y0 e0
    have ds : ∀ p ∈ lotN m A h, deg A p = ((1 + (if isLeaf A p = true then 0 else 1)) + (if p = u then 1 else 0)) + (if p = v then 1 else 0) := fun p hp => by
      have p1 := pos p hp
      have p3 := le3 p hp
      by_cases e : p = u
      · have e2 : ¬ p = v := fun z => uv (e.symm.trans z)
        rw [if_pos e, if_neg e2, if_neg (by unfold isLeaf; rw [e]; simp; omega), e]
        omega
      · by_cases e2 : p = v
        · rw [if_neg e, if_pos e2, if_neg (by unfold isLeaf; rw [e2]; simp; omega), e2]
          omega
        · rw [if_neg e, if_neg e2]
          have : ¬ deg A p = 3 := fun z => (only p hp z).elim e e2
          by_cases z : deg A p = 1
          · rw [if_pos (decide_eq_true z)]
            omega
          · rw [if_neg (by simpa using z)]
            omega
    have e1 : ((lotN m A h).map fun p => deg A p).sum = ((lotN m A h).map fun p => ((1 + (if isLeaf A p = true then 0 else 1)) + (if p = u then 1 else 0)) + (if p = v then 1 else 0)).sum := by
      congr 1
      exact List.map_congr_left ds
    rw [sum_map_add, sum_map_add, sum_map_add, const_sum, sum_one u 1 l.nd, if_pos huL, sum_one v 1 l.nd, if_pos hvL] at e1
    have lam : (lotN m A h).countP (isLeaf A) = 4 := by omega
    have sub := nodup_le (k := (ends A u).filter (isLeaf A) ++ (ends A v).filter (isLeaf A)) leaves_nd fun x hx => by
      obtain ⟨xL, xl⟩ := List.mem_filter.mp hx
      obtain ⟨y, e⟩ := leafE x (of_decide_eq_true xl)
      have hy : y ∈ ends A x := by rw [e]; exact List.mem_cons_self
      rcases (toUV x xL y e).1 with z | z
      · exact List.mem_append_left _ (List.mem_filter.mpr ⟨ends_sym (z ▸ hy), xl⟩)
      · exact List.mem_append_right _ (List.mem_filter.mpr ⟨ends_sym (z ▸ hy), xl⟩)
    rw [List.length_append, ← List.countP_eq_length_filter, ← List.countP_eq_length_filter, ← List.countP_eq_length_filter] at sub
    have two : ∀ p q, p ∈ lotN m A h → q ∈ lotN m A h → p ≠ q → deg A p = 3 → deg A q = 3 → (ends A p).countP (isLeaf A) ≤ 2 := fun p q hp hq pq p3 q3 => Classical.byContradiction fun z => by
      have le := List.countP_le_length (p := isLeaf A) (l := ends A p)
      have le3 : (ends A p).length = 3 := p3
      have all := List.countP_eq_length.mp (show (ends A p).countP (isLeaf A) = (ends A p).length by omega)
      have back : ∀ y ∈ ends A p, ∀ w ∈ ends A y, w = p := fun y hy w hw => by
        obtain ⟨z', e⟩ := leafE y (of_decide_eq_true (all y hy))
        have h1 : p ∈ ends A y := ends_sym hy
        rw [e] at hw h1
        rw [List.mem_singleton.mp hw, List.mem_singleton.mp h1]
      have := joined l.ins (l.lt hp) (l.lt hq) ((mem_lotN.mp hp).2.trans (mem_lotN.mp hq).2.symm) (P := fun z => z = p ∨ z ∈ ends A p) (fun a ha => ?_) (.inl rfl)
      · rcases this with z | z
        · exact pq z.symm
        · have := of_decide_eq_true (all q z)
          omega
      · have h1 : a.2 ∈ ends A a.1 := mem_ends.mpr (.inl ha)
        have h2 : a.1 ∈ ends A a.2 := ends_sym h1
        exact ⟨fun z => z.elim (fun e => .inr (e ▸ h1)) fun z => .inl (back _ z _ h1), fun z => z.elim (fun e => .inr (e ▸ h2)) fun z => .inl (back _ z _ h2)⟩
    have tu := two u v huL hvL uv u3 v3
    have tv := two v u hvL huL uv.symm v3 u3
    refine null_fork l.nd sh hg pos (fun x hx dx y hy => ?_) fun p hp p3 => ?_
    · obtain ⟨y', e⟩ := leafE x dx
      rw [e] at hy
      rw [List.mem_singleton.mp hy]
      rcases (toUV x hx y' e).1 with z | z <;> rw [z] <;> omega
    · have := le3 p hp
      rcases only p hp (by omega) with z | z <;> rw [z] <;> omega
end
end M22

set_option linter.all false
/-! Least webs of one fork. -/
namespace M22
open K9M M21
/-- a lot that hangs together by one arrow less than places: each place but the root has just one end nearer to it -/
theorem tree' {A : Ar} {c : Nat} {L : List Nat} (nd : L.Nodup) (sh : Shut A L) (hc : c ∈ L) (hg : ∀ p ∈ L, ∃ n, Reach A c n p) (few : (inner A L).length + 1 = L.length) :
    ∃ d : Nat → Nat, (∀ p ∈ L, ∀ q ∈ ends A p, d q ≠ d p) ∧ (∀ p ∈ L, (ends A p).countP (fun q => decide (d q < d p)) ≤ 1) ∧ (∀ p ∈ L, p ≠ c → ∃ q ∈ ends A p, d q < d p) ∧ d c = 0 := by
  obtain ⟨d, h1, h2, h3, h0⟩ := tree nd sh hc hg few
  refine ⟨d, h1, h2, fun p hp ne => ?_, h0⟩
  refine Classical.byContradiction fun no => ?_
  -- all the ends at p are farther: then there are too few arrows
  have s1 := sum_ends (fun p q => decide (d q < d p)) nd A
  have ea : ∀ a ∈ A, (if a.1 ∈ L then 1 else 0 : Nat) ≤ (if a.1 ∈ L then (if decide (d a.2 < d a.1) = true then 1 else 0) else 0) + (if a.2 ∈ L then (if decide (d a.1 < d a.2) = true then 1 else 0) else 0) := by
    intro a ha
    have s := sh a ha
    by_cases h : a.1 ∈ L
    · have h3 := s.mp h
      have := h1 a.1 h a.2 (mem_ends.mpr (.inl ha))
      simp only [h, h3, if_true, decide_eq_true_eq]
      split <;> split <;> omega
    · simp only [h, if_false]
      omega
  have sa : (A.map fun a => (if a.1 ∈ L then 1 else 0 : Nat)).sum = (inner A L).length := by
    unfold inner
    clear ea s1 h1 h2 sh hg few no
    induction A with
    | nil => rfl
    | cons a A ih =>
      rw [List.map_cons, List.sum_cons, ih, List.filter_cons]
      by_cases h : a.1 ∈ L
      · simp [h]; omega
      · simp [h]
  have ep : ∀ q ∈ L, (ends A q).countP (fun x => decide (d x < d q)) ≤ (1 - (if q = c then 1 else 0)) - (if q = p then 1 else 0) := by
    intro q hq
    by_cases e : q = c
    · have : (ends A q).countP (fun x => decide (d x < d q)) = 0 := List.countP_eq_zero.mpr fun x _ z => by
        have := of_decide_eq_true z
        rw [e, h0] at this
        omega
      omega
    · by_cases e2 : q = p
      · have : (ends A q).countP (fun x => decide (d x < d q)) = 0 := List.countP_eq_zero.mpr fun x hx z => by
          rw [e2] at hx z
          exact no ⟨x, hx, of_decide_eq_true z⟩
        omega
      · rw [if_neg e, if_neg e2]
        exact h2 q hq
  have l1 := sum_le (l := L) ep
  have l2 := sum_le (l := A) ea
  have l3 : (L.map fun q => ((1 - (if q = c then 1 else 0)) - (if q = p then 1 else 0)) + ((if q = c then 1 else 0) + (if q = p then 1 else 0))).sum = L.length := by
    have : (L.map fun q => ((1 - (if q = c then 1 else 0)) - (if q = p then 1 else 0)) + ((if q = c then 1 else 0) + (if q = p then 1 else 0))) = L.map fun _ => 1 := List.map_congr_left fun q _ => by
      by_cases e : q = c
      · have : ¬ q = p := fun z => ne (z.symm.trans e)
        simp [e, this]
        intro z; exact absurd (e.trans z) this
      · by_cases e2 : q = p <;> simp [e, e2]
        · exact fun z => absurd z ne
    rw [this, const_sum]
    omega
  rw [sum_map_add, sum_map_add, sum_one c 1 nd, if_pos hc, sum_one p 1 nd, if_pos hp] at l3
  omega
theorem isum_perm {l k : List Int} (h : l.Perm k) : l.sum = k.sum := by
  induction h with
  | nil => rfl
  | cons x _ ih => rw [List.sum_cons, List.sum_cons, ih]
  | swap x y l => simp only [List.sum_cons]; omega
  | trans _ _ i1 i2 => exact i1.trans i2
section
variable {m : Nat} {A : Ar} {h : Nat}
/-- a tree with a root, in which places have an end nearer to it -/
structure Rooted (A : Ar) (L : List Nat) (c : Nat) (d : Nat → Nat) : Prop where
  root : c ∈ L
  ne : ∀ p ∈ L, ∀ q ∈ ends A p, d q ≠ d p
  one : ∀ p ∈ L, (ends A p).countP (fun q => decide (d q < d p)) ≤ 1
  has : ∀ p ∈ L, p ≠ c → ∃ q ∈ ends A p, d q < d p
  zero : d c = 0
  to : ∀ p ∈ L, ∀ q ∈ ends A p, q ∈ L
  two : ∀ p ∈ L, p ≠ c → deg A p ≤ 2
  nodup : ∀ p ∈ L, (ends A p).Nodup
variable {L : List Nat} {c : Nat} {d : Nat → Nat}
theorem Rooted.low (r : Rooted A L c d) {p x y : Nat} (hp : p ∈ L) (hx : x ∈ ends A p) (hy : y ∈ ends A p) (lx : d x < d p) (ly : d y < d p) : x = y := Classical.byContradiction fun ne => by
  have := nodup_le (l := [x, y]) (k := (ends A p).filter fun q => decide (d q < d p)) (by simp [ne]) fun z hz => by
    simp only [List.mem_cons, List.not_mem_nil, or_false] at hz
    rcases hz with rfl | rfl
    · exact List.mem_filter.mpr ⟨hx, decide_eq_true lx⟩
    · exact List.mem_filter.mpr ⟨hy, decide_eq_true ly⟩
  rw [← List.countP_eq_length_filter] at this
  have := r.one p hp
  simp only [List.length_cons, List.length_nil] at *
  omega
theorem Rooted.pos (r : Rooted A L c d) {p : Nat} (hp : p ∈ L) (ne : p ≠ c) : 0 < d p := by
  obtain ⟨q, _, lt⟩ := r.has p hp ne
  omega
/-- what stands at a place that is not the root: its way on -/
theorem Rooted.shape (r : Rooted A L c d) {p a n : Nat} (hp : p ∈ L) (ha : a ∈ ends A p) (la : d a < d p) (w : WayS A a p n) : (ends A p = [a] ∧ n = 1) ∨ ∃ x k, (ends A p).Perm [a, x] ∧ n = k + 1 ∧ WayS A p x k ∧ x ∈ L ∧ p ∈ ends A x ∧ d p < d x ∧ x ∈ ends A p ∧ onward A a p = [x] := by
  have spl : (ends A p).Perm ((ends A p).filter (fun q => decide (q = a)) ++ onward A a p) := by
    have := (List.filter_append_perm (fun q => decide (q = a)) (ends A p)).symm
    refine this.trans (List.Perm.of_eq ?_)
    unfold onward
    congr 1
    exact List.filter_congr fun q _ => by simp
  have fa : (ends A p).filter (fun q => decide (q = a)) = [a] := by
    have nd : ((ends A p).filter (fun q => decide (q = a))).Nodup := List.Pairwise.sublist List.filter_sublist (r.nodup p hp)
    have all : ∀ q ∈ (ends A p).filter (fun q => decide (q = a)), q = a := fun q hq => of_decide_eq_true (List.mem_filter.mp hq).2
    have mem : a ∈ (ends A p).filter (fun q => decide (q = a)) := List.mem_filter.mpr ⟨ha, decide_eq_true rfl⟩
    match e : (ends A p).filter (fun q => decide (q = a)), nd, all, mem with
    | [x], _, all, _ => rw [all x List.mem_cons_self]
    | x :: y :: l, nd, all, _ =>
      have h1 := all x List.mem_cons_self
      have h2 := all y (List.mem_cons_of_mem _ List.mem_cons_self)
      exact absurd (h1.trans h2.symm) fun z => (List.nodup_cons.mp nd).1 (by rw [z]; exact List.mem_cons_self)
  rw [fa] at spl
  cases w with
  | stop e =>
    rw [e] at spl
    exact .inl ⟨List.perm_singleton.mp spl, rfl⟩
  | step e w' =>
    rename_i x k
    rw [e] at spl
    have hx : x ∈ ends A p := spl.mem_iff.mpr (by simp)
    have xa : x ≠ a := of_decide_eq_true (List.mem_filter.mp (show x ∈ onward A a p by rw [e]; exact List.mem_cons_self)).2
    have dx := r.ne p hp x hx
    have lt : d p < d x := Classical.byContradiction fun z => xa (r.low hp hx ha (by omega) la)
    exact .inr ⟨x, k, spl, rfl, w', r.to p hp x hx, ends_sym hx, lt, hx, e⟩
/-- the way on from the end nearer to the root is longer by one -/
theorem Rooted.up (r : Rooted A L c d) {p a b k : Nat} (hp : p ∈ L) (ha : a ∈ ends A p) (la : d a < d p) (ac : a ≠ c) (hb : b ∈ ends A a) (lb : d b < d a) (w : WayS A a p k) : WayS A b a (k + 1) := by
  have aL := r.to p hp a ha
  refine .step (x := p) ?_ w
  have pm : p ∈ onward A b a := List.mem_filter.mpr ⟨ends_sym ha, decide_eq_true fun (e : p = b) => by rw [e] at la; omega⟩
  have len : (onward A b a).length < (ends A a).length := List.length_filter_lt_length_iff_exists.mpr ⟨b, hb, by simp⟩
  have := r.two a aL ac
  match e : onward A b a, pm, len with
  | [x], pm, _ => rw [List.mem_singleton.mp pm]
  | x :: y :: l, _, len =>
    simp only [List.length_cons] at len
    have : (ends A a).length = deg A a := rfl
    omega
/-- the length of each place's way, off the root -/
theorem Rooted.rest (r : Rooted A L c d) (ways : ∀ p ∈ L, p ≠ c → ∀ a ∈ ends A p, d a < d p → ∃ n, WayS A a p n) : ∃ D : Nat → Nat, ∀ p ∈ L, p ≠ c → ∀ a ∈ ends A p, d a < d p → WayS A a p (D p) := by
  have : ∀ p, ∃ n, p ∈ L → p ≠ c → ∀ a ∈ ends A p, d a < d p → WayS A a p n := fun p => by
    by_cases hp : p ∈ L
    · by_cases ne : p = c
      · exact ⟨0, fun _ z => absurd ne z⟩
      · obtain ⟨a, ha, la⟩ := r.has p hp ne
        obtain ⟨n, w⟩ := ways p hp ne a ha la
        exact ⟨n, fun _ _ b hb lb => by rw [r.low hp hb ha lb la]; exact w⟩
    · exact ⟨0, fun z => absurd z hp⟩
  exact ⟨fun p => (this p).choose, fun p => (this p).choose_spec⟩
theorem null_star (r : Rooted A L c d) (nd : L.Nodup) (sh : Shut A L) (hg : ∀ p ∈ L, ∀ q ∈ L, ∃ n, Reach A p n q) {D : Nat → Nat} (hD : ∀ p ∈ L, p ≠ c → ∀ a ∈ ends A p, d a < d p → WayS A a p (D p)) {K : Nat} (K4 : 3 ≤ K ∧ K ≤ 4)
    (first : ∀ y ∈ ends A c, (D y = 1 ∧ K = 4) ∨ (2 ≤ D y ∧ K = D y + 1)) (sum : ((ends A c).map fun y => if D y = 1 then 2 else D y).sum = 2 * K) : ∃ δ, Null A L δ := by
  have D1 : ∀ p ∈ L, p ≠ c → 1 ≤ D p := fun p hp ne => by
    obtain ⟨a, ha, la⟩ := r.has p hp ne
    exact way_pos (hD p hp ne a ha la)
  have upD : ∀ p ∈ L, p ≠ c → ∀ a ∈ ends A p, d a < d p → a ≠ c → D a = D p + 1 := fun p hp ne a ha la ac => by
    have aL := r.to p hp a ha
    obtain ⟨b, hb, lb⟩ := r.has a aL ac
    exact way_uniq (hD a aL ac b hb lb) (r.up hp ha la ac hb lb (hD p hp ne a ha la))
  have bound : ∀ (k p : Nat), d p ≤ k → p ∈ L → p ≠ c → D p ≤ 3 := fun k => by
    induction k with
    | zero => intro p hk hp ne; have := r.pos hp ne; omega
    | succ k ih =>
      intro p hk hp ne
      obtain ⟨a, ha, la⟩ := r.has p hp ne
      by_cases ac : a = c
      · subst ac
        rcases first p (ends_sym ha) with z | z <;> omega
      · have := ih a (by omega) (r.to p hp a ha) ac
        have := upD p hp ne a ha la ac
        omega
  let δ : Nat → Nat := fun p => if p ∈ L then (if p = c then K else if D p = 1 ∧ c ∈ ends A p then 2 else D p) else 0
  have δc : δ c = K := by
    show (if c ∈ L then (if c = c then K else _) else 0) = K
    rw [if_pos r.root, if_pos rfl]
  have δp : ∀ p ∈ L, p ≠ c → δ p = if D p = 1 ∧ c ∈ ends A p then 2 else D p := fun p hp ne => by
    show (if p ∈ L then (if p = c then K else _) else 0) = _
    rw [if_pos hp, if_neg ne]
  refine ⟨δ, affine nd sh hg (fun p hp => ?_) (fun p => ?_) (fun p hp => if_neg hp) fun p hp => ?_⟩
  · by_cases e : p = c
    · rw [e, δc]; omega
    · rw [δp p hp e]
      have := D1 p hp e
      split <;> omega
  · by_cases hp : p ∈ L
    · by_cases e : p = c
      · rw [e, δc]; omega
      · rw [δp p hp e]
        have := bound (d p) p (Nat.le_refl _) hp e
        split <;> omega
    · show (if p ∈ L then _ else 0) ≤ 8
      rw [if_neg hp]
      decide
  · show ((ends A p).map fun q => (δ q : Int)).sum - 2 * (δ p : Int) = 0
    by_cases e : p = c
    · subst e
      have e1 : ((ends A p).map fun q => (δ q : Int)) = ((ends A p).map fun y => if D y = 1 then 2 else D y).map fun n : Nat => (n : Int) := by
        rw [List.map_map]
        refine List.map_congr_left fun y hy => ?_
        have yc : y ≠ p := fun z => r.ne p hp y hy (by rw [z])
        show (δ y : Int) = ((if D y = 1 then 2 else D y : Nat) : Int)
        rw [δp y (r.to p hp y hy) yc]
        by_cases z : D y = 1
        · rw [if_pos ⟨z, ends_sym hy⟩, if_pos z]
        · rw [if_neg fun w => z w.1, if_neg z]
      have ns : ∀ l : List Nat, (l.map fun n : Nat => (n : Int)).sum = (l.sum : Int) := fun l => by
        induction l with
        | nil => rfl
        | cons x l ih => rw [List.map_cons, List.sum_cons, List.sum_cons, ih]; omega
      rw [e1, ns, sum, δc]
      omega
    · obtain ⟨a, ha, la⟩ := r.has p hp e
      have aL := r.to p hp a ha
      have w := hD p hp e a ha la
      rcases r.shape hp ha la w with ⟨e1, n1⟩ | ⟨x, k, pm, ek, wx, xL, px, lx, xp, _⟩
      · rw [e1, δp p hp e, n1]
        simp only [List.map_cons, List.map_nil, List.sum_cons, List.sum_nil]
        by_cases ac : a = c
        · subst ac
          rw [if_pos ⟨by trivial, ha⟩, δc]
          rcases first p (ends_sym ha) with z | z <;> omega
        · have hcn : ¬ c ∈ ends A p := fun z => by
            rw [e1] at z
            exact ac (List.mem_singleton.mp z).symm
          rw [if_neg fun z => hcn z.2, δp a aL ac, upD p hp e a ha la ac, n1, if_neg (by omega)]
          omega
      · have xc : x ≠ c := fun z => by rw [z, r.zero] at lx; omega
        have Dx : D x = k := way_uniq (hD x xL xc p px lx) wx
        have kp := way_pos wx
        have cx : ¬ c ∈ ends A x := fun z => e (r.low xL px z lx (by rw [r.zero]; exact r.pos xL xc))
        have es : ((ends A p).map fun q => (δ q : Int)).sum = (δ a : Int) + (δ x : Int) := by
          rw [isum_perm (pm.map fun q => (δ q : Int))]
          simp
        rw [es, δp p hp e, if_neg (by omega), δp x xL xc, if_neg fun z => cx z.2, Dx]
        by_cases ac : a = c
        · subst ac
          rw [δc]
          rcases first p (ends_sym ha) with z | z <;> omega
        · rw [δp a aL ac, upD p hp e a ha la ac, if_neg (by omega)]
          omega
end
end M22

set_option linter.all false
/-! Least webs without a kind have rows within which to grow. -/
namespace M22
open K9M M21
section
variable {m : Nat} {A : Ar} {h : Nat} {L : List Nat} {c : Nat} {d : Nat → Nat}
/-- on the way that begins so -/
inductive On (A : Ar) (d : Nat → Nat) (y : Nat) : Nat → Prop
  | base : On A d y y
  | step {a p : Nat} : On A d y a → a ∈ ends A p → d a < d p → On A d y p
theorem Rooted.not_on (r : Rooted A L c d) {y : Nat} (hy : y ∈ ends A c) : ¬ On A d y c := fun o => by
  have := r.ne c r.root y hy
  rw [r.zero] at this
  cases o with
  | base => exact this r.zero
  | step _ _ lt => rw [r.zero] at lt; omega
theorem Rooted.on_one (r : Rooted A L c d) {y p : Nat} (hy : y ∈ ends A c) (o : On A d y p) : ∀ {z}, z ∈ ends A c → p ∈ L → On A d z p → y = z := by
  have low0 : ∀ x, x ∈ ends A c → d c < d x := fun x hx => by
    have := r.ne c r.root x hx
    rw [r.zero] at this ⊢
    omega
  induction o with
  | base =>
    intro z hz hp o2
    cases o2 with
    | base => rfl
    | step o3 ha lt =>
      rename_i a
      have := r.low hp ha (ends_sym hy) lt (low0 y hy)
      subst this
      exact absurd o3 (r.not_on hz)
  | step o1 ha lt ih =>
    rename_i a p
    intro z hz hp o2
    cases o2 with
    | base =>
      have := r.low hp ha (ends_sym hz) lt (low0 _ hz)
      subst this
      exact absurd o1 (r.not_on hy)
    | step o3 ha2 lt2 =>
      rename_i b
      have := r.low hp ha ha2 lt lt2
      subst this
      exact ih hz (r.to _ hp _ ha) o3
theorem Rooted.places (r : Rooted A L c d) {a p n : Nat} (w : WayS A a p n) : p ∈ L → a ∈ ends A p → d a < d p → ∃ l : List Nat, l.length = n ∧ l.Nodup ∧ ∀ q ∈ l, q ∈ L ∧ q ≠ c ∧ d p ≤ d q ∧ ∀ y, On A d y p → On A d y q := by
  induction w with
  | stop e =>
    rename_i a p
    intro hp ha la
    refine ⟨[p], rfl, List.nodup_cons.mpr ⟨fun h => (by cases h), List.nodup_nil⟩, fun q hq => ?_⟩
    rw [List.mem_singleton.mp hq]
    exact ⟨hp, fun z => by rw [z, r.zero] at la; omega, Nat.le_refl _, fun _ o => o⟩
  | step e w' ih =>
    rename_i a p x n
    intro hp ha la
    rcases r.shape hp ha la (.step e w') with ⟨_, n1⟩ | ⟨x', k, _, ek, _, xL, px, lx, _, ox⟩
    · have := way_pos w'
      omega
    · rw [e] at ox
      injection ox with ox _
      subst ox
      obtain ⟨l, len, nd, all⟩ := ih xL px lx
      refine ⟨p :: l, by rw [List.length_cons, len], List.nodup_cons.mpr ⟨fun hpl => ?_, nd⟩, fun q hq => ?_⟩
      · have := (all p hpl).2.2.1
        omega
      · rcases List.mem_cons.mp hq with rfl | hq
        · exact ⟨hp, fun z => by rw [z, r.zero] at la; omega, Nat.le_refl _, fun _ o => o⟩
        · obtain ⟨q1, q2, q3, q4⟩ := all q hq
          exact ⟨q1, q2, by omega, fun y o => q4 y (.step o px lx)⟩
theorem Rooted.all_places (r : Rooted A L c d) : ∀ {ys ws : List Nat}, (∀ y ∈ ys, y ∈ ends A c) → ys.Nodup → Two (WayS A c) ys ws → ∃ X : List Nat, X.length = ws.sum ∧ X.Nodup ∧ ∀ p ∈ X, p ∈ L ∧ p ≠ c ∧ ∃ y ∈ ys, On A d y p
  | [], _, _, _, .nil => ⟨[], rfl, List.nodup_nil, fun p hp => by cases hp⟩
  | y :: ys, _, hy, nd, .cons w t => by
    have nd' := List.nodup_cons.mp nd
    have yc := hy y List.mem_cons_self
    have lt : d c < d y := by
      have := r.ne c r.root y yc
      rw [r.zero] at this ⊢
      omega
    obtain ⟨l, len, ndl, all⟩ := r.places w (r.to c r.root y yc) (ends_sym yc) lt
    obtain ⟨X, lX, ndX, allX⟩ := r.all_places (fun z hz => hy z (List.mem_cons_of_mem _ hz)) nd'.2 t
    refine ⟨l ++ X, by rw [List.length_append, len, lX, List.sum_cons], List.nodup_append.mpr ⟨ndl, ndX, fun p hp q hq e => ?_⟩, fun p hp => ?_⟩
    · subst e
      obtain ⟨p1, _, _, p4⟩ := all p hp
      obtain ⟨_, _, z, hz, oz⟩ := allX p hq
      have := r.on_one yc (p4 y .base) (hy z (List.mem_cons_of_mem _ hz)) p1 oz
      exact nd'.1 (this ▸ hz)
    · rcases List.mem_append.mp hp with hp | hp
      · obtain ⟨p1, p2, _, p4⟩ := all p hp
        exact ⟨p1, p2, y, List.mem_cons_self, p4 y .base⟩
      · obtain ⟨p1, p2, z, hz, oz⟩ := allX p hp
        exact ⟨p1, p2, z, List.mem_cons_of_mem _ hz, oz⟩
theorem Rooted.count (r : Rooted A L c d) {ws : List Nat} (tw : Two (WayS A c) (ends A c) ws) : ws.sum + 1 ≤ L.length := by
  obtain ⟨X, lX, ndX, all⟩ := r.all_places (fun _ h => h) (r.nodup c r.root) tw
  have := nodup_le (l := c :: X) (k := L) (List.nodup_cons.mpr ⟨fun h => (all c h).2.1 rfl, ndX⟩) fun x hx => (List.mem_cons.mp hx).elim (fun e => e ▸ r.root) fun z => (all x z).1
  rw [List.length_cons, lX] at this
  exact this
theorem two_map_eq {α β : Type} {R : α → β → Prop} {f : α → β} (u : ∀ a b, R a b → b = f a) : ∀ {l : List α} {k : List β}, Two R l k → k = l.map f
  | _, _, .nil => rfl
  | _, _, .cons r t => by rw [List.map_cons, ← two_map_eq u t, u _ _ r]
theorem Least.null_star (l : Least m A h) (s : Simple A (lotN m A h)) (m8 : m ≤ 8) {c : Nat} {ws S : List Nat} (tr : degs A (lotN m A h) + 2 = 2 * (lotN m A h).length) (fk : forks A (lotN m A h) = [c]) (c3 : (ends A c).length = 3) (tw : Two (WayS A c) (ends A c) ws) (pS : S.Perm ws) (sS : S.Pairwise (· ≤ ·)) (none' : starK (lotN m A h).length S = none) : ∃ δ, Null A (lotN m A h) δ := by
  have sh := lot_shut l.ins h
  have hg : ∀ p ∈ lotN m A h, ∀ q ∈ lotN m A h, ∃ n, Reach A p n q := fun p hp q hq => lot_reach l.ins hp hq
  have cL : c ∈ lotN m A h := (mem_forks.mp (show c ∈ forks A (lotN m A h) by rw [fk]; exact List.mem_cons_self)).1
  have few : (inner A (lotN m A h)).length + 1 = (lotN m A h).length := by
    have := sum_degrees l.nd sh
    unfold degs at tr
    omega
  obtain ⟨d, d1, d2, d3, d0⟩ := tree' l.nd sh cL (hg c cL) few
  have two : ∀ p ∈ lotN m A h, p ≠ c → deg A p ≤ 2 := fun p hp ne => Classical.byContradiction fun z => ne (by
    have := mem_forks.mpr ⟨hp, show 3 ≤ deg A p by omega⟩
    rw [fk] at this
    exact List.mem_singleton.mp this)
  have r : Rooted A (lotN m A h) c d := ⟨cL, d1, d2, d3, d0, fun p hp q hq => l.to hp hq, two, fun p hp => s.nodup hp⟩
  have low0 : ∀ x, x ∈ ends A c → d c < d x := fun x hx => by
    have := d1 c cL x hx
    rw [d0] at this ⊢
    omega
  obtain ⟨D, hD⟩ := r.rest fun p hp ne a ha la => way_is sh d1 d2 d0 two (((lotN m A h).map d).sum + 1) p a (by omega) hp ha la
  have yc : ∀ y ∈ ends A c, y ≠ c := fun y hy z => s.ne cL (z ▸ hy)
  have hDc : ∀ y ∈ ends A c, WayS A c y (D y) := fun y hy => hD y (l.to cL hy) (yc y hy) c (ends_sym hy) (low0 y hy)
  have ews : ws = (ends A c).map D := by
    have tw2 := two_mem (S := fun y n => n = D y) (fun y hy n w => way_uniq w (hDc y hy)) tw
    exact two_map_eq (fun _ _ e => e) tw2
  have cnt := r.count tw
  have small : (lotN m A h).length ≤ m := Nat.le_trans (List.length_filter_le _ _) (by rw [List.length_range]; exact Nat.le_refl _)
  have lS : S.length = 3 := by rw [pS.length_eq, ← tw.len, c3]
  have posS : ∀ x ∈ S, 1 ≤ x := fun x hx => two_all (fun _ _ w => way_pos w) tw x (pS.mem_iff.mp hx)
  have sumS : S.sum ≤ 7 := by rw [pS.sum_nat]; omega
  have inS : ∀ y ∈ ends A c, D y ∈ S := fun y hy => pS.mem_iff.mpr (by rw [ews]; exact List.mem_map.mpr ⟨y, hy, rfl⟩)
  have sumF : ∀ f : Nat → Nat, ((ends A c).map fun y => f (D y)).sum = (S.map f).sum := fun f => by
    rw [(pS.map f).sum_nat, ews, List.map_map]
    rfl
  match S, lS, posS, sumS, sS, none', inS, sumF, pS with
  | [a, b, e], _, posS, sumS, sS, none', inS, sumF, pS =>
    have a1 := posS a (by simp)
    simp only [List.pairwise_cons, List.mem_cons, List.not_mem_nil, or_false] at sS
    have ab := sS.1 b (.inl rfl)
    have be := sS.2.1 e rfl
    simp only [List.sum_cons, List.sum_nil] at sumS
    have nk : ¬ (a = 1 ∧ b = 1) ∧ ¬ (a = 1 ∧ b = 2 ∧ e ≤ 4) := by
      have none' : (if a = 1 ∧ b = 1 then some (1, (lotN m A h).length) else if a = 1 ∧ b = 2 ∧ e ≤ 4 then some (2, (lotN m A h).length) else none) = none := none'
      refine ⟨fun z => ?_, fun z => ?_⟩
      · rw [if_pos z] at none'
        cases none'
      · rw [if_neg (by omega), if_pos z] at none'
        cases none'
    have cases3 : (a = 1 ∧ b = 3 ∧ e = 3) ∨ (a = 2 ∧ b = 2 ∧ e = 2) ∨ (a = 2 ∧ b = 2 ∧ e = 3) := by omega
    rcases cases3 with ⟨rfl, rfl, rfl⟩ | ⟨rfl, rfl, rfl⟩ | ⟨rfl, rfl, rfl⟩
    · refine M22.null_star r l.nd sh hg hD (K := 4) (by omega) (fun y hy => ?_) ?_
      · have := inS y hy
        simp only [List.mem_cons, List.not_mem_nil, or_false] at this
        omega
      · exact sumF fun n => if n = 1 then 2 else n
    · refine M22.null_star r l.nd sh hg hD (K := 3) (by omega) (fun y hy => ?_) ?_
      · have := inS y hy
        simp only [List.mem_cons, List.not_mem_nil, or_false] at this
        omega
      · exact sumF fun n => if n = 1 then 2 else n
    · -- two, two, three: a place can be missed
      exfalso
      have c3m : (3 : Nat) ∈ ws := pS.mem_iff.mp (by simp)
      rw [ews] at c3m
      obtain ⟨y3, hy3, D3⟩ := List.mem_map.mp c3m
      have others : ∀ y ∈ ends A c, y ≠ y3 → D y = 2 := fun y hy ne => Classical.byContradiction fun z => by
        have h1 := inS y hy
        simp only [List.mem_cons, List.not_mem_nil, or_false] at h1
        have Dy : D y = 3 := by omega
        have := nodup_le (l := [y, y3]) (k := (ends A c).filter fun x => decide (D x = 3)) (by simp [ne]) fun x hx => by
          simp only [List.mem_cons, List.not_mem_nil, or_false] at hx
          rcases hx with rfl | rfl
          · exact List.mem_filter.mpr ⟨hy, decide_eq_true Dy⟩
          · exact List.mem_filter.mpr ⟨hy3, decide_eq_true D3⟩
        rw [← List.countP_eq_length_filter] at this
        have e1 : (ends A c).countP (fun x => decide (D x = 3)) = ws.countP (fun n => decide (n = 3)) := by
          rw [ews, List.countP_map]
          rfl
        rw [e1, ← pS.countP_eq] at this
        simp at this
      have w3 := hDc y3 hy3
      rw [D3] at w3
      cases w3 with
      | step o3 w3 =>
      rename_i w
      cases w3 with
      | step o4 w4 =>
      rename_i x
      cases w4 with
      | step _ w5 => have := way_pos w5; omega
      | stop o5 =>
      have y3L := l.to cL hy3
      rcases r.shape y3L (ends_sym hy3) (low0 y3 hy3) (.step o3 (.step o4 (.stop o5))) with ⟨_, z⟩ | ⟨w', k', pm3, _, _, wL, y3w, lw, wy3, ox⟩
      · omega
      rw [o3] at ox
      injection ox with ox _
      subst ox
      rcases r.shape wL y3w lw (.step o4 (.stop o5)) with ⟨_, z⟩ | ⟨x', k', pmw, _, _, xL, wx, lx, xw, ox⟩
      · omega
      rw [o4] at ox
      injection ox with ox _
      subst ox
      rcases r.shape xL wx lx (.stop o5) with ⟨ex, _⟩ | ⟨_, k', _, ek, wk, _⟩
      rotate_left
      · have := way_pos wk
        omega
      obtain ⟨_, wnx, ⟨k, g, all⟩, eq, dw⟩ := l.leaf s xL ex
      have l3 := low0 y3 hy3
      have cx : c ≠ x := fun z => by rw [← z, d0] at lx; omega
      have cw : c ≠ w := fun z => by rw [← z, d0] at lw; omega
      have xnc : ∀ y ∈ ends A c, y ≠ x := fun y hy z => by
        have : c ∈ ends A x := ends_sym (z ▸ hy)
        rw [ex] at this
        exact cw (List.mem_singleton.mp this)
      have wnc : ∀ y ∈ ends A c, y ≠ w := fun y hy z => by
        have := r.low wL (ends_sym (z ▸ hy)) y3w (by rw [d0]; omega) lw
        exact yc y3 hy3 this.symm
      have w2 : ∀ y ∈ ends A c, WayS (del x A) c y 2 := fun y hy => by
        by_cases e : y = y3
        · subst e
          refine .step (x := w) (n := 1) ?_ (.stop ?_)
          · show (ends (del x A) y).filter _ = _
            rw [eq y (xnc y hy) (wnc y hy)]
            exact o3
          · show (ends (del x A) w).filter _ = _
            rw [ends_del wnx, List.filter_filter]
            have o4' : (ends A w).filter (fun q => decide (q ≠ y)) = [x] := o4
            have : (ends A w).filter (fun a => decide (a ≠ y) && decide (a ≠ x)) = ((ends A w).filter fun q => decide (q ≠ y)).filter fun q => decide (q ≠ x) := by
              rw [List.filter_filter]
              exact List.filter_congr fun q _ => by rw [Bool.and_comm]
            rw [this, o4']
            simp
        · have wy := hDc y hy
          rw [others y hy e] at wy
          have yL := l.to cL hy
          cases wy with
          | step p3 wz =>
          rename_i z
          cases wz with
          | step _ wz' => have := way_pos wz'; omega
          | stop p4 =>
          rcases r.shape yL (ends_sym hy) (low0 y hy) (.step p3 (.stop p4)) with ⟨_, q⟩ | ⟨z', k', _, _, _, zL, yz, lz, zy, ox⟩
          · omega
          rw [p3] at ox
          injection ox with ox _
          subst ox
          have zx : z ≠ x := fun q => wnc y hy (by
            subst q
            exact r.low xL yz wx lz lx)
          have zw : z ≠ w := fun q => e (by
            subst q
            exact r.low wL yz y3w lz lw)
          refine .step (x := z) (n := 1) ?_ (.stop ?_)
          · show (ends (del x A) y).filter _ = _
            rw [eq y (xnc y hy) (wnc y hy)]
            exact p3
          · show (ends (del x A) z).filter _ = _
            rw [eq z zx zw]
            exact p4
      have ec := eq c cx cw
      have gw := g.ways c (all c cL cx) (by show (ends (del x A) c).length = 3; rw [ec]; exact c3) ((ends (del x A) c).map fun _ => 2) (two_map fun y hy => w2 y (by rw [← ec]; exact hy))
      have z1 : ((ends (del x A) c).map fun _ => 2).countP (fun n => decide (n ≤ 1)) = 0 := List.countP_eq_zero.mpr fun n hn => by
        obtain ⟨_, _, rfl⟩ := List.mem_map.mp hn
        decide
      unfold WOk at gw
      omega
/-- in a least web without a kind there is a row within which to grow -/
theorem Least.null (l : Least m A h) (m8 : m ≤ 8) : ∃ δ, Null A (lotN m A h) δ := by
  by_cases lp : ∃ p ∈ lotN m A h, (p, p) ∈ A
  · obtain ⟨p, hp, hl⟩ := lp
    exact l.null_loops hp hl
  have no : ∀ p ∈ lotN m A h, (p, p) ∉ A := fun p hp z => lp ⟨p, hp, z⟩
  by_cases db : ∃ p ∈ lotN m A h, ∃ q, 2 ≤ (ends A p).count q
  · obtain ⟨p, hp, q, two⟩ := db
    exact l.null_double no hp two
  have s : Simple A (lotN m A h) := ⟨no, fun p hp q => Classical.byContradiction fun z => db ⟨p, hp, q, by omega⟩⟩
  have bad := l.bad
  have hh := mem_lot_self l.head
  have ce := conn_edges l.nd (lot_shut l.ins h) hh fun p hp => lot_reach l.ins hh hp
  have sd := sum_degrees l.nd (lot_shut l.ins h)
  have key : ∀ k, KindR A (lotN m A h) k → k = none → ∃ δ, Null A (lotN m A h) δ := by
    intro k b e
    cases b with
    | ring t =>
      unfold degs at t
      exact l.null_ring s (by omega)
    | line _ _ => cases e
    | many t f g => exact l.null_many s t f g
    | star c ws S t f g tw p so => exact l.null_star s m8 t f g tw p so e
  exact key none bad rfl
end
end M22

set_option linter.all false
/-! The least web without a kind; rows grown; what they tell. -/
namespace M22
open K9M M21
open Classical in
/-- arrows taken off such places as can miss them, place by place -/
noncomputable def leastTo (m : Nat) (A : Ar) : Nat → Ar
  | 0 => A
  | p + 1 => if HasBad m (del p (leastTo m A p)) then del p (leastTo m A p) else leastTo m A p
theorem leastTo_pos {m p : Nat} {A : Ar} (b : HasBad m (del p (leastTo m A p))) : leastTo m A (p + 1) = del p (leastTo m A p) := if_pos b
theorem leastTo_neg {m p : Nat} {A : Ar} (b : ¬ HasBad m (del p (leastTo m A p))) : leastTo m A (p + 1) = leastTo m A p := if_neg b
theorem leastTo_sub (m : Nat) (A : Ar) (p : Nat) : ∀ k, Sub (leastTo m A (p + k)) (leastTo m A p)
  | 0 => Sub.refl _
  | k + 1 => by
    have ih := leastTo_sub m A p k
    show Sub (leastTo m A (p + k + 1)) _
    by_cases b : HasBad m (del (p + k) (leastTo m A (p + k)))
    · rw [leastTo_pos b]
      exact (del_sub _ _).trans ih
    · rw [leastTo_neg b]
      exact ih
theorem leastTo_bad {m : Nat} {A : Ar} (h : HasBad m A) : ∀ p, HasBad m (leastTo m A p)
  | 0 => h
  | p + 1 => by
    by_cases b : HasBad m (del p (leastTo m A p))
    · rw [leastTo_pos b]
      exact b
    · rw [leastTo_neg b]
      exact leastTo_bad h p
theorem del_mono {A B : Ar} (s : Sub B A) (p : Nat) : Sub (del p B) (del p A) := by
  refine ⟨fun a ha => ?_, fun q => ?_⟩
  · obtain ⟨h1, h2⟩ := List.mem_filter.mp ha
    exact List.mem_filter.mpr ⟨s.mem a h1, h2⟩
  · by_cases e : q = p
    · rw [e, ends_self, ends_self]
      exact List.Sublist.refl _
    · rw [ends_del e, ends_del e]
      exact (s.ends q).filter _
theorem leastTo_min {m : Nat} {A : Ar} (hA : Inside m A) {p : Nat} (hp : p < m) (ne : ends (leastTo m A m) p ≠ []) : ¬ HasBad m (del p (leastTo m A m)) := by
  obtain ⟨k, ek⟩ : ∃ k, m = p + 1 + k := ⟨m - (p + 1), by omega⟩
  have s := leastTo_sub m A (p + 1) k
  rw [← ek] at s
  have iV : Inside m (leastTo m A p) := by
    have := leastTo_sub m A 0 p
    rw [Nat.zero_add] at this
    exact this.inside hA
  by_cases b : HasBad m (del p (leastTo m A p))
  · rw [leastTo_pos b] at s
    have := (s.ends p).length_le
    rw [ends_self] at this
    exact absurd (List.length_eq_zero_iff.mp (Nat.le_zero.mp this)) ne
  · rw [leastTo_neg b] at s
    exact fun z => b (mono_bad (del_mono s p) (del_inside iV) z)
/-- the least web -/
structure Lst (m : Nat) (A W : Ar) (h : Nat) : Prop where
  sub : Sub W A
  least : Least m W h
  all : ∀ p, ends W p ≠ [] → p ∈ lotN m W h
theorem bad_ends {m : Nat} {A : Ar} {h p : Nat} (hA : Inside m A) (b : Bad A (lotN m A h)) (hp : p ∈ lotN m A h) : ends A p ≠ [] := fun e => by
  have only : ∀ q ∈ lotN m A h, q = p := fun q hq => joined hA (mem_lotN.mp hp).1 (mem_lotN.mp hq).1 ((mem_lotN.mp hp).2.trans (mem_lotN.mp hq).2.symm) (P := fun z => z = p) (fun a ha => by
    have c1 : a.1 ≠ p := fun z => by
      have : a.2 ∈ ends A p := mem_ends.mpr (.inl (by rw [← z]; exact ha))
      rw [e] at this
      cases this
    have c2 : a.2 ≠ p := fun z => by
      have : a.1 ∈ ends A p := mem_ends.mpr (.inr (by rw [← z]; exact ha))
      rw [e] at this
      cases this
    exact ⟨fun z => absurd z c1, fun z => absurd z c2⟩) rfl
  have nd := nodup_of_up (lotN_up m A h)
  have eL : lotN m A h = [p] := by
    match eq : lotN m A h, nd, only, hp with
    | [x], _, only, _ => rw [only x List.mem_cons_self]
    | x :: y :: l, nd, only, _ =>
      have h1 := only x List.mem_cons_self
      have h2 := only y (List.mem_cons_of_mem _ List.mem_cons_self)
      exact absurd (h1.trans h2.symm) fun z => (List.nodup_cons.mp nd).1 (by rw [z]; exact List.mem_cons_self)
  rw [eL] at b
  have key : ∀ k, KindR A [p] k → k ≠ none := by
    intro k hk z
    cases hk with
    | ring t => exact t (by unfold degs; simp [e])
    | line _ _ => cases z
    | many _ f _ => exact f (by unfold forks; simp [e])
    | star c _ _ _ f _ _ _ _ =>
      have : forks A [p] = [] := by unfold forks; simp [e]
      rw [this] at f
      cases f
  exact key none b rfl
theorem lst_is {m : Nat} {A : Ar} (hA : Inside m A) (hb : HasBad m A) : ∃ h, Lst m A (leastTo m A m) h := by
  have s := leastTo_sub m A 0 m
  rw [Nat.zero_add] at s
  have iW := s.inside hA
  obtain ⟨h, hh, b⟩ := leastTo_bad hb m
  have min := fun {p : Nat} => leastTo_min hA (p := p)
  generalize leastTo m A m = W at *
  have least : Least m W h := ⟨iW, hh, b, fun p hp => min (mem_lotN.mp hp).1 (bad_ends iW b hp)⟩
  refine ⟨h, s, least, fun p ne => Classical.byContradiction fun pL => ?_⟩
  have pm : p < m := by
    match e : ends W p, ne with
    | q :: l, _ =>
      have : q ∈ ends W p := by rw [e]; exact List.mem_cons_self
      rcases mem_ends.mp this with z | z
      · exact (iW _ z).1
      · exact (iW _ z).2
  refine min pm ne ?_
  -- the lot stays without a kind when p loses its arrows
  have hB := del_inside (p := p) iW
  have hhL := mem_lot_self hh
  obtain ⟨c, hc, xc⟩ := lot_of_label hB (mem_headsN.mp hh).1
  refine ⟨c, hc, ?_⟩
  have shL := lot_shut iW h
  have inB : ∀ a ∈ W, a.1 ∈ lotN m W h → a ∈ del p W := fun a ha h1 => List.mem_filter.mpr ⟨ha, decide_eq_true ⟨fun e => pL (e ▸ h1), fun e => pL (e ▸ (shL a ha).mp h1)⟩⟩
  have mem : ∀ q, q ∈ lotN m (del p W) c ↔ q ∈ lotN m W h := fun q => by
    constructor
    · intro hq
      obtain ⟨q1, q2⟩ := mem_lotN.mp hq
      have := sub_label (del_sub p W) iW q1 (mem_headsN.mp hh).1 (q2.trans (mem_lotN.mp xc).2.symm)
      exact mem_lotN.mpr ⟨q1, this.trans (mem_lotN.mp hhL).2⟩
    · intro hq
      obtain ⟨q1, q2⟩ := mem_lotN.mp hq
      have := joined iW (mem_headsN.mp hh).1 q1 ((mem_lotN.mp hhL).2.trans q2.symm) (P := fun z => z ∈ lotN m W h → fin1 (del p W) z = fin1 (del p W) h) (fun a ha => ?_) (fun _ => rfl)
      · exact mem_lotN.mpr ⟨q1, (this hq).trans (mem_lotN.mp xc).2⟩
      · constructor
        · intro z h2
          have h1 := (shL a ha).mpr h2
          rw [← fin1_closed _ a (inB a ha h1)]
          exact z h1
        · intro z h1
          rw [fin1_closed _ a (inB a ha h1)]
          exact z ((shL a ha).mp h1)
  refine kind_map (A := W) (L := lotN m W h) (f := fun q => q) (fun _ _ _ _ e => e) (fun q hq => ?_) (fun q hq x hx => lot_ends iW hq hx) (by rw [List.map_id']; exact perm_of_mem (nodup_of_up (lotN_up m _ c)) (nodup_of_up (lotN_up m _ h)) mem) b
  rw [List.map_id', ends_del (fun (e : q = p) => pL (e ▸ hq))]
  refine List.Perm.of_eq (List.filter_eq_self.mpr fun x hx => decide_eq_true (show x ≠ p from fun e => pL (e ▸ lot_ends iW hq hx)))
/-! ### what grown rows tell -/
/-- a row that the program can come to in the least web, and at which it stays -/
structure Grown (m : Nat) (A : Ar) (r : Nat → Int) : Prop where
  lo : ∀ p, 0 ≤ r p
  hi : ∀ p, r p ≤ 8
  some : ∃ p, p < m ∧ 0 < r p
  sur : ∀ p, p < m → 0 ≤ sur A r p
  hung : ∀ p q, 0 < r p → 0 < r q → p < m ∧ fin1 (A.filter fun a => decide (0 < r a.1 ∧ 0 < r a.2)) p = fin1 (A.filter fun a => decide (0 < r a.1 ∧ 0 < r a.2)) q
theorem sub_sum {l k : List Nat} {r : Nat → Int} (s : l.Sublist k) (lo : ∀ p, 0 ≤ r p) : (l.map r).sum ≤ (k.map r).sum := by
  induction s with
  | slnil => exact Int.le_refl _
  | cons a _ ih =>
    rw [List.map_cons, List.sum_cons]
    have := lo a
    omega
  | cons_cons a _ ih =>
    rw [List.map_cons, List.map_cons, List.sum_cons, List.sum_cons]
    omega
theorem grown {m : Nat} {A W : Ar} {h : Nat} {δ : Nat → Nat} (hA : Inside m A) (l : Lst m A W h) (nu : Null W (lotN m W h) δ) {r : Nat → Int} (hr : ∀ p, 0 ≤ r p ∧ r p ≤ δ p) (nz : ∃ p, r p ≠ 0) (all : ∀ p, p < m → 0 ≤ sur W r p) : Grown m A r := by
  have iW := l.least.ins
  have st := nu.stop r hr nz fun p hp => all p (mem_lotN.mp hp).1
  have offL : ∀ p, 0 < r p → p ∈ lotN m W h := fun p hp => Classical.byContradiction fun z => by
    have := (hr p).2
    rw [nu.off p z] at this
    omega
  refine ⟨fun p => (hr p).1, fun p => ?_, ?_, fun p hp => ?_, fun p q hp hq => ?_⟩
  · have := (hr p).2
    have := nu.le p
    omega
  · obtain ⟨p, hp⟩ := nz
    have := (hr p).1
    have h2 : 0 < r p := by omega
    exact ⟨p, (mem_lotN.mp (offL p h2)).1, h2⟩
  · have h1 := all p hp
    unfold M22.sur at h1 ⊢
    have := sub_sum (l.sub.ends p) fun q => (hr q).1
    omega
  · have pL := offL p hp
    have qL := offL q hq
    refine ⟨(mem_lotN.mp pL).1, ?_⟩
    generalize hB : A.filter (fun a => decide (0 < r a.1 ∧ 0 < r a.2)) = B
    have := joined iW (mem_lotN.mp pL).1 (mem_lotN.mp qL).1 ((mem_lotN.mp pL).2.trans (mem_lotN.mp qL).2.symm) (P := fun z => z ∈ lotN m W h → fin1 B p = fin1 B z) (fun a ha => ?_) (fun _ => rfl)
    · exact this qL
    · have inB : a.1 ∈ lotN m W h → fin1 B a.1 = fin1 B a.2 := fun h1 => by
        have h2 := (lot_shut iW h a ha).mp h1
        refine fin1_closed B a ?_
        rw [← hB]
        exact List.mem_filter.mpr ⟨l.sub.mem a ha, decide_eq_true ⟨st _ h1, st _ h2⟩⟩
      constructor
      · intro z h2
        have h1 := (lot_shut iW h a ha).mpr h2
        rw [z h1, inB h1]
      · intro z h1
        rw [z ((lot_shut iW h a ha).mp h1), inB h1]
/-- the places with items hang together by themselves: one head -/
theorem Grown.one_head {m : Nat} {A : Ar} {r : Nat → Int} (hA : Inside m A) (g : Grown m A r) : ((headsN m (A.filter fun a => decide (0 < r a.1 ∧ 0 < r a.2))).filter fun c => decide (0 < r c)).length = 1 := by
  have hB : Inside m (A.filter fun a => decide (0 < r a.1 ∧ 0 < r a.2)) := fun a ha => hA a (List.mem_filter.mp ha).1
  have g5 := g.hung
  obtain ⟨p, hp, pp⟩ := g.some
  have ab : ∀ a ∈ A.filter (fun a => decide (0 < r a.1 ∧ 0 < r a.2)), 0 < r a.1 ∧ 0 < r a.2 := fun a ha => of_decide_eq_true (List.mem_filter.mp ha).2
  generalize A.filter (fun a => decide (0 < r a.1 ∧ 0 < r a.2)) = B at *
  obtain ⟨c, ec, lc, ic⟩ := lab_nat hB hp
  have cm : c < m := by omega
  have cp : 0 < r c := joined hB hp cm (ec.trans ic.symm) (P := fun z => 0 < r z) (fun a ha => ⟨fun _ => (ab a ha).2, fun _ => (ab a ha).1⟩) pp
  have e : (headsN m B).filter (fun c => decide (0 < r c)) = [c] := by
    refine List.perm_singleton.mp (perm_of_mem (List.Pairwise.sublist List.filter_sublist (nodup_of_up (headsN_up m B))) (by simp) fun x => ?_)
    rw [List.mem_filter, mem_headsN, decide_eq_true_eq, List.mem_singleton]
    constructor
    · rintro ⟨⟨x1, x2⟩, x3⟩
      have := (g5 x c x3 cp).2
      omega
    · rintro rfl
      exact ⟨⟨cm, ic⟩, cp⟩
  rw [e]
  rfl
/-- the form is not above 0 -/
theorem Grown.form {m : Nat} {A : Ar} {r : Nat → Int} (hA : Inside m A) (g : Grown m A r) : ((List.range m).map fun p => r p * r p).sum - (A.map fun a => r a.1 * r a.2).sum ≤ 0 := by
  have e1 := isum_ends (fun p q => r p * r q) (L := List.range m) List.nodup_range A
  have e2 : (A.map fun a => (if a.1 ∈ List.range m then r a.1 * r a.2 else 0) + (if a.2 ∈ List.range m then r a.2 * r a.1 else 0)).sum = 2 * (A.map fun a => r a.1 * r a.2).sum := by
    rw [← isum_mul]
    congr 1
    refine List.map_congr_left fun a ha => ?_
    obtain ⟨h1, h2⟩ := hA a ha
    rw [if_pos (List.mem_range.mpr h1), if_pos (List.mem_range.mpr h2), Int.mul_comm (r a.2)]
    omega
  have e3 : ((List.range m).map fun p => r p * M22.sur A r p).sum = ((List.range m).map fun p => ((ends A p).map fun q => r p * r q).sum).sum + ((List.range m).map fun p => -2 * (r p * r p)).sum := by
    rw [← isum_add]
    congr 1
    refine List.map_congr_left fun p _ => ?_
    rw [isum_mul]
    unfold M22.sur
    rw [Int.mul_sub, Int.sub_eq_add_neg]
    congr 1
    rw [Int.mul_left_comm, Int.neg_mul]
  have e4 : 0 ≤ ((List.range m).map fun p => r p * M22.sur A r p).sum := by
    have := isum_le (f := fun _ => 0) (g := fun p => r p * M22.sur A r p) (l := List.range m) fun p hp => Int.mul_nonneg (g.lo p) (g.sur p (List.mem_range.mp hp))
    rw [isum_zero] at this
    exact this
  rw [e3, e1, e2, isum_mul] at e4
  omega
end M22

set_option linter.all false
/-! Forms that are above 0 but at the row of zeros. -/
namespace M22
open K9M M21
/-- a row's squares, less the products along arrows -/
def qf (m : Nat) (A : Ar) (r : Nat → Int) : Int := ((List.range m).map fun p => r p * r p).sum - (A.map fun a => r a.1 * r a.2).sum
/-- a row above 0 that no place's neighbours are above -/
structure Pos (m : Nat) (A : Ar) (δ : Nat → Int) (N : Int) : Prop where
  n : 0 < N
  dv : ∀ p, p < m → δ p ∣ N
  lo : ∀ p, p < m → 1 ≤ δ p
  le : ∀ p, p < m → sur A δ p ≤ 0
  has : ∀ p, p < m → ∃ n q, Reach A p n q ∧ sur A δ q < 0
theorem arrows_two {m : Nat} {A : Ar} (hA : Inside m A) (w : Nat → Nat → Int) : ((List.range m).map fun p => ((ends A p).map (w p)).sum).sum = (A.map fun a => w a.1 a.2 + w a.2 a.1).sum := by
  rw [isum_ends w List.nodup_range A]
  congr 1
  refine List.map_congr_left fun a ha => ?_
  obtain ⟨h1, h2⟩ := hA a ha
  rw [if_pos (List.mem_range.mpr h1), if_pos (List.mem_range.mpr h2)]
/-- N over a place's number -/
def sxt (N : Int) (δ : Nat → Int) (p : Nat) : Int := N / δ p
theorem Pos.inv {m : Nat} {A : Ar} {δ : Nat → Int} {N : Int} (P : Pos m A δ N) {p : Nat} (hp : p < m) : sxt N δ p * δ p = N ∧ 0 < sxt N δ p := by
  have h1 := P.lo p hp
  have e : sxt N δ p * δ p = N := Int.ediv_mul_cancel (P.dv p hp)
  refine ⟨e, Int.not_le.mp fun z => ?_⟩
  have := Int.mul_nonpos_of_nonpos_of_nonneg z (show 0 ≤ δ p by omega)
  have := P.n
  omega
/-- what an arrow adds -/
def tA (N : Int) (δ r : Nat → Int) (a : Nat × Nat) : Int := sxt N δ a.1 * δ a.2 * (r a.1 * r a.1) + sxt N δ a.2 * δ a.1 * (r a.2 * r a.2) - 2 * N * (r a.1 * r a.2)
theorem sq_nonneg (x : Int) : 0 ≤ x * x := by
  rcases Int.le_total 0 x with h | h
  · exact Int.mul_nonneg h h
  · exact Int.mul_nonneg_of_nonpos_of_nonpos h h
theorem Pos.tA_eq {m : Nat} {A : Ar} {δ : Nat → Int} {N : Int} (P : Pos m A δ N) (hA : Inside m A) (r : Nat → Int) {a : Nat × Nat} (ha : a ∈ A) : (δ a.1 * δ a.2) * tA N δ r a = N * ((δ a.2 * r a.1 - δ a.1 * r a.2) * (δ a.2 * r a.1 - δ a.1 * r a.2)) ∧ 0 < δ a.1 * δ a.2 := by
  obtain ⟨h1, h2⟩ := hA a ha
  have i1 := (P.inv h1).1
  have i2 := (P.inv h2).1
  refine ⟨?_, Int.mul_pos (by have := P.lo _ h1; omega) (by have := P.lo _ h2; omega)⟩
  unfold tA
  generalize sxt N δ a.1 = u1 at *
  generalize sxt N δ a.2 = u2 at *
  grind
theorem Pos.tA_nonneg {m : Nat} {A : Ar} {δ : Nat → Int} {N : Int} (P : Pos m A δ N) (hA : Inside m A) (r : Nat → Int) {a : Nat × Nat} (ha : a ∈ A) : 0 ≤ tA N δ r a := by
  obtain ⟨e, pos⟩ := P.tA_eq hA r ha
  refine Int.not_lt.mp fun neg => ?_
  have h1 := Int.mul_neg_of_pos_of_neg pos neg
  have h2 := Int.mul_nonneg (Int.le_of_lt P.n) (sq_nonneg (δ a.2 * r a.1 - δ a.1 * r a.2))
  rw [e] at h1
  omega
/-- 120 times the form, as a sum of what is not below 0 -/
theorem Pos.split {m : Nat} {A : Ar} {δ : Nat → Int} {N : Int} (P : Pos m A δ N) (hA : Inside m A) (r : Nat → Int) : 2 * N * qf m A r = (A.map fun a => tA N δ r a).sum + ((List.range m).map fun p => sxt N δ p * (r p * r p) * (- sur A δ p)).sum := by
  have e1 := arrows_two hA fun p q => sxt N δ p * (r p * r p) * δ q
  have e2 : (A.map fun a => tA N δ r a).sum = (A.map fun a => sxt N δ a.1 * (r a.1 * r a.1) * δ a.2 + sxt N δ a.2 * (r a.2 * r a.2) * δ a.1).sum + (A.map fun a => -(2 * N) * (r a.1 * r a.2)).sum := by
    rw [← isum_add]
    congr 1
    refine List.map_congr_left fun a _ => ?_
    unfold tA
    generalize sxt N δ a.1 = u1
    generalize sxt N δ a.2 = u2
    grind
  have e3 : ((List.range m).map fun p => sxt N δ p * (r p * r p) * (- sur A δ p)).sum + ((List.range m).map fun p => ((ends A p).map fun q => sxt N δ p * (r p * r p) * δ q).sum).sum = ((List.range m).map fun p => 2 * N * (r p * r p)).sum := by
    rw [← isum_add]
    congr 1
    refine List.map_congr_left fun p hp => ?_
    have i := (P.inv (List.mem_range.mp hp)).1
    rw [isum_mul]
    unfold sur
    generalize sxt N δ p = u at *
    have e : (List.map (fun x => δ x) (ends A p)).sum = ((ends A p).map δ).sum := rfl
    rw [e]
    generalize ((ends A p).map δ).sum = S
    grind
  rw [e1] at e3
  rw [e2]
  rw [isum_mul] at e3
  rw [isum_mul]
  unfold qf
  generalize ((List.range m).map fun p => sxt N δ p * (r p * r p) * (- sur A δ p)).sum = X at *
  generalize (A.map fun a => sxt N δ a.1 * (r a.1 * r a.1) * δ a.2 + sxt N δ a.2 * (r a.2 * r a.2) * δ a.1).sum = Y at *
  generalize ((List.range m).map fun p => r p * r p).sum = Z at *
  generalize (A.map fun a => r a.1 * r a.2).sum = U at *
  grind
theorem isum_nonneg {α : Type} {f : α → Int} : ∀ {l : List α}, (∀ x ∈ l, 0 ≤ f x) → 0 ≤ (l.map f).sum
  | [], _ => Int.le_refl _
  | x :: l, h => by
    simp only [List.map_cons, List.sum_cons]
    have := h x List.mem_cons_self
    have := isum_nonneg (l := l) fun y hy => h y (List.mem_cons_of_mem _ hy)
    omega
theorem isum_mem {α : Type} {f : α → Int} : ∀ {l : List α}, (∀ x ∈ l, 0 ≤ f x) → ∀ x ∈ l, f x ≤ (l.map f).sum
  | y :: l, h, x, hx => by
    simp only [List.map_cons, List.sum_cons]
    have h0 := h y List.mem_cons_self
    have h1 := isum_nonneg (l := l) fun z hz => h z (List.mem_cons_of_mem _ hz)
    rcases List.mem_cons.mp hx with rfl | hx
    · omega
    · have := isum_mem (l := l) (fun z hz => h z (List.mem_cons_of_mem _ hz)) x hx
      omega
section
variable {m : Nat} {A : Ar} {δ : Nat → Int} {N : Int}
theorem Pos.place_nonneg (P : Pos m A δ N) (r : Nat → Int) : ∀ p ∈ List.range m, 0 ≤ sxt N δ p * (r p * r p) * (- sur A δ p) := fun p hp => by
  have hp := List.mem_range.mp hp
  have := P.le p hp
  exact Int.mul_nonneg (Int.mul_nonneg (Int.le_of_lt (P.inv hp).2) (sq_nonneg _)) (by omega)
theorem Pos.nonneg (P : Pos m A δ N) (hA : Inside m A) (r : Nat → Int) : 0 ≤ qf m A r := by
  have s := P.split hA r
  have h1 := isum_nonneg (l := A) fun a ha => P.tA_nonneg hA r ha
  have h2 := isum_nonneg (P.place_nonneg r)
  refine Int.not_lt.mp fun neg => ?_
  have := Int.mul_neg_of_pos_of_neg (show 0 < 2 * N by have := P.n; omega) neg
  omega
/-- no part of the sum is above it -/
theorem Pos.arrow_le (P : Pos m A δ N) (hA : Inside m A) (r : Nat → Int) {a : Nat × Nat} (ha : a ∈ A) : tA N δ r a ≤ 2 * N * qf m A r := by
  have := P.split hA r
  have := isum_mem (l := A) (fun a ha => P.tA_nonneg hA r ha) a ha
  have := isum_nonneg (P.place_nonneg r)
  omega
theorem Pos.place_le (P : Pos m A δ N) (hA : Inside m A) (r : Nat → Int) {p : Nat} (hp : p < m) : sxt N δ p * (r p * r p) * (- sur A δ p) ≤ 2 * N * qf m A r := by
  have := P.split hA r
  have := isum_nonneg (l := A) fun a ha => P.tA_nonneg hA r ha
  have := isum_mem (P.place_nonneg r) p (List.mem_range.mpr hp)
  omega
theorem sq_zero {x : Int} (h : x * x ≤ 0) : x = 0 := by
  rcases Int.lt_trichotomy x 0 with z | z | z
  · have := Int.mul_pos_of_neg_of_neg z z
    omega
  · exact z
  · have := Int.mul_pos z z
    omega
/-- along an arrow: so near are the two items to their shares -/
theorem Pos.near (P : Pos m A δ N) (hA : Inside m A) (r : Nat → Int) {a : Nat × Nat} (ha : a ∈ A) : (δ a.2 * r a.1 - δ a.1 * r a.2) * (δ a.2 * r a.1 - δ a.1 * r a.2) ≤ 2 * (δ a.1 * δ a.2) * qf m A r := by
  obtain ⟨e, pos⟩ := P.tA_eq hA r ha
  have h := Int.mul_le_mul_of_nonneg_left (P.arrow_le hA r ha) (Int.le_of_lt pos)
  rw [e] at h
  generalize (δ a.2 * r a.1 - δ a.1 * r a.2) * (δ a.2 * r a.1 - δ a.1 * r a.2) = S at *
  have : δ a.1 * δ a.2 * (2 * N * qf m A r) = N * (2 * (δ a.1 * δ a.2) * qf m A r) := by grind
  rw [this] at h
  exact Int.le_of_mul_le_mul_left h P.n
theorem Pos.zero (P : Pos m A δ N) (hA : Inside m A) {r : Nat → Int} (h : qf m A r ≤ 0) : ∀ p, p < m → r p = 0 := by
  have q0 : qf m A r = 0 := by have := P.nonneg hA r; omega
  have edge : ∀ a ∈ A, δ a.2 * r a.1 = δ a.1 * r a.2 := fun a ha => by
    have := P.near hA r ha
    rw [q0, Int.mul_zero] at this
    have := sq_zero this
    omega
  have next : ∀ p q, q ∈ ends A p → r q = 0 → r p = 0 := fun p q hq e => by
    rcases mem_ends.mp hq with z | z
    · have h1 := edge _ z
      obtain ⟨b1, b2⟩ := hA _ z
      have := P.lo q b2
      simp only at h1
      rw [e, Int.mul_zero] at h1
      rcases Int.mul_eq_zero.mp h1 with z | z
      · omega
      · exact z
    · have h1 := edge _ z
      obtain ⟨b1, b2⟩ := hA _ z
      have := P.lo q b1
      simp only at h1
      rw [e, Int.mul_zero] at h1
      rcases Int.mul_eq_zero.mp h1.symm with z | z
      · omega
      · exact z
  have step : ∀ p n q, Reach A p n q → r q = 0 → r p = 0 := by
    intro p n
    induction n with
    | zero =>
      intro q rc e
      have rc : q = p := rc
      rw [← rc]
      exact e
    | succ n ih =>
      intro q rc e
      rcases rc with rc | ⟨q', rc, hq⟩
      · exact ih q rc e
      · exact ih q' rc (next q' q hq e)
  intro p hp
  obtain ⟨n, q, rc, sq⟩ := P.has p hp
  refine step p n q rc ?_
  have qm : q < m := Classical.byContradiction fun z => by
    have e : ∀ k, k ∈ ends A q → False := fun k hk => by
      rcases mem_ends.mp hk with z | z
      · have := (hA _ z).1
        omega
      · have := (hA _ z).2
        omega
    have : ∀ n q, Reach A p n q → q < m := by
      intro n
      induction n with
      | zero =>
        intro q rc
        have rc : q = p := rc
        omega
      | succ n ih =>
        intro q rc
        rcases rc with rc | ⟨q', rc, hq⟩
        · exact ih q rc
        · rcases mem_ends.mp hq with z | z
          · exact (hA _ z).2
          · exact (hA _ z).1
    exact z (this n q rc)
  have := P.place_le hA r qm
  rw [q0, Int.mul_zero] at this
  have i := (P.inv qm).2
  refine sq_zero (Int.not_lt.mp fun pos => ?_)
  have := Int.mul_pos (Int.mul_pos i pos) (show 0 < - sur A δ q by omega)
  omega
/-- any row that is not of zeros alone has a form of 1 at least -/
theorem Pos.one (P : Pos m A δ N) (hA : Inside m A) {r : Nat → Int} (h : ∃ p, p < m ∧ r p ≠ 0) : 1 ≤ qf m A r := by
  obtain ⟨p, hp, ne⟩ := h
  refine Int.not_lt.mp fun z => ne (P.zero hA (by omega) p hp)
end
end M22

set_option linter.all false
/-! Rows whose form is 1: all are got from unit rows by raising where the surplus is 1. -/
namespace M22
open K9M M21
def bump (r : Nat → Int) (p : Nat) (k : Int) : Nat → Int := fun i => if i = p then r p + k else r i
def unitR (p : Nat) : Nat → Int := fun i => if i = p then 1 else 0
def NoLoop (A : Ar) : Prop := ∀ p, (p, p) ∉ A
theorem ends_sum (r : Nat → Int) (p : Nat) : ∀ A : Ar, ((ends A p).map r).sum = (A.map fun a => (if a.1 = p then r a.2 else 0) + (if a.2 = p then r a.1 else 0)).sum
  | [] => rfl
  | (x, y) :: A => by
    rw [ends_cons, List.map_append, List.map_append, List.sum_append, List.sum_append, ends_sum r p A]
    simp only [List.map_cons, List.sum_cons]
    by_cases h1 : x = p <;> by_cases h2 : y = p <;> simp [h1, h2] <;> omega
theorem sq_bump (r : Nat → Int) (p : Nat) (k : Int) : ∀ m : Nat, ((List.range m).map fun i => bump r p k i * bump r p k i).sum = ((List.range m).map fun i => r i * r i).sum + if p < m then 2 * k * r p + k * k else 0
  | 0 => by simp
  | m + 1 => by
    rw [List.range_succ, List.map_append, List.map_append, List.sum_append, List.sum_append, sq_bump r p k m]
    simp only [List.map_cons, List.map_nil, List.sum_cons, List.sum_nil]
    unfold bump
    by_cases h : p < m
    · rw [if_pos h, if_neg (show ¬ m = p by omega), if_pos (show p < m + 1 by omega)]
      omega
    · by_cases e : m = p
      · subst e
        rw [if_neg h, if_pos rfl, if_pos (show m < m + 1 by omega)]
        grind
      · rw [if_neg h, if_neg e, if_neg (show ¬ p < m + 1 by omega)]
        omega
theorem ar_bump (r : Nat → Int) (p : Nat) (k : Int) {A : Ar} (nl : NoLoop A) : (A.map fun a => bump r p k a.1 * bump r p k a.2).sum = (A.map fun a => r a.1 * r a.2).sum + k * ((ends A p).map r).sum := by
  rw [ends_sum, ← isum_mul, ← isum_add]
  congr 1
  refine List.map_congr_left fun a ha => ?_
  obtain ⟨x, y⟩ := a
  unfold bump
  by_cases h1 : x = p <;> by_cases h2 : y = p
  · subst h1
    subst h2
    exact absurd ha (nl _)
  · subst h1
    simp only [h2, if_false, if_true]
    grind
  · subst h2
    simp only [h1, if_false, if_true]
    grind
  · simp only [h1, h2, if_false]
    grind
theorem qf_bump {m : Nat} {A : Ar} (nl : NoLoop A) (r : Nat → Int) {p : Nat} (hp : p < m) (k : Int) : qf m A (bump r p k) = qf m A r - k * sur A r p + k * k := by
  unfold qf
  rw [sq_bump, ar_bump r p k nl, if_pos hp]
  unfold sur
  grind
theorem sur_bump {A : Ar} (nl : NoLoop A) (r : Nat → Int) (p : Nat) (k : Int) : sur A (bump r p k) p = sur A r p - 2 * k := by
  unfold sur
  have e : (ends A p).map (bump r p k) = (ends A p).map r := List.map_congr_left fun q hq => by
    unfold bump
    rw [if_neg]
    rintro rfl
    rcases mem_ends.mp hq with z | z <;> exact nl _ z
  rw [e]
  unfold bump
  rw [if_pos rfl]
  omega
theorem bump_back (r : Nat → Int) (p : Nat) : bump (bump r p (-1)) p 1 = r := by
  funext i
  unfold bump
  by_cases e : i = p
  · rw [if_pos e, if_pos rfl, e]
    omega
  · rw [if_neg e, if_neg e]
/-- a row of numbers whose form is 1 -/
structure Root (m : Nat) (A : Ar) (r : Nat → Int) : Prop where
  lo : ∀ p, 0 ≤ r p
  off : ∀ p, m ≤ p → r p = 0
  one : qf m A r = 1
/-- what raising comes to, from the unit rows on -/
inductive Up (m : Nat) (A : Ar) : (Nat → Int) → Prop
  | unit (p : Nat) : p < m → Up m A (unitR p)
  | up (r : Nat → Int) (p : Nat) : Up m A r → p < m → sur A r p = 1 → Up m A (bump r p 1)
theorem unit_bump (p : Nat) : unitR p = bump (fun _ => 0) p 1 := by
  funext i
  unfold unitR bump
  by_cases e : i = p <;> simp [e]
theorem qf_zero (m : Nat) (A : Ar) : qf m A (fun _ => 0) = 0 := by
  unfold qf
  simp only [Int.mul_zero]
  rw [isum_zero, isum_zero]
  rfl
theorem Up.root {m : Nat} {A : Ar} (nl : NoLoop A) {r : Nat → Int} (u : Up m A r) : Root m A r := by
  induction u with
  | unit p hp =>
    refine ⟨fun i => ?_, fun i hi => ?_, ?_⟩
    · unfold unitR
      split <;> omega
    · unfold unitR
      rw [if_neg (by omega)]
    · rw [unit_bump, qf_bump nl _ hp, qf_zero]
      unfold sur
      rw [isum_zero]
      rfl
  | up r p u hp s ih =>
    refine ⟨fun i => ?_, fun i hi => ?_, ?_⟩
    · unfold bump
      have := ih.lo i
      have := ih.lo p
      split <;> omega
    · unfold bump
      rw [if_neg (by omega)]
      exact ih.off i hi
    · rw [qf_bump nl _ hp, ih.one, s]
      rfl
theorem sur_sum {m : Nat} {A : Ar} (hA : Inside m A) (r : Nat → Int) : ((List.range m).map fun p => r p * sur A r p).sum = -2 * qf m A r := by
  have e1 := arrows_two hA fun p q => r p * r q
  have e2 : (A.map fun a => r a.1 * r a.2 + r a.2 * r a.1).sum = 2 * (A.map fun a => r a.1 * r a.2).sum := by
    rw [← isum_mul]
    congr 1
    exact List.map_congr_left fun a _ => by rw [Int.mul_comm (r a.2)]; omega
  have e3 : ((List.range m).map fun p => r p * sur A r p).sum = ((List.range m).map fun p => ((ends A p).map fun q => r p * r q).sum).sum + ((List.range m).map fun p => -2 * (r p * r p)).sum := by
    rw [← isum_add]
    congr 1
    refine List.map_congr_left fun p _ => ?_
    rw [isum_mul]
    unfold sur
    rw [Int.mul_sub, Int.sub_eq_add_neg]
    congr 1
    rw [Int.mul_left_comm, Int.neg_mul]
  rw [e3, e1, e2, isum_mul]
  unfold qf
  omega
theorem isum_some {f : Nat → Int} : ∀ {l : List Nat}, (l.map f).sum < 0 → ∃ x ∈ l, f x < 0
  | [], h => absurd h (by simp)
  | x :: l, h => by
    simp only [List.map_cons, List.sum_cons] at h
    by_cases z : f x < 0
    · exact ⟨x, List.mem_cons_self, z⟩
    · obtain ⟨y, hy, hz⟩ := isum_some (f := f) (l := l) (by omega)
      exact ⟨y, List.mem_cons_of_mem _ hy, hz⟩
theorem sum_bump (r : Nat → Int) (p : Nat) (k : Int) : ∀ m : Nat, ((List.range m).map (bump r p k)).sum = ((List.range m).map r).sum + if p < m then k else 0
  | 0 => by simp
  | m + 1 => by
    rw [List.range_succ, List.map_append, List.map_append, List.sum_append, List.sum_append, sum_bump r p k m]
    simp only [List.map_cons, List.map_nil, List.sum_cons, List.sum_nil]
    unfold bump
    by_cases h : p < m
    · rw [if_pos h, if_neg (show ¬ m = p by omega), if_pos (show p < m + 1 by omega)]
      omega
    · by_cases e : m = p
      · subst e
        rw [if_neg h, if_pos rfl, if_pos (show m < m + 1 by omega)]
        omega
      · rw [if_neg h, if_neg e, if_neg (show ¬ p < m + 1 by omega)]
        omega
/-- forms above 0 -/
def Above (m : Nat) (A : Ar) : Prop := ∀ r : Nat → Int, (∃ p, p < m ∧ r p ≠ 0) → 1 ≤ qf m A r
theorem Root.up {m : Nat} {A : Ar} (hA : Inside m A) (nl : NoLoop A) (ab : Above m A) : ∀ (n : Nat) (r : Nat → Int), Root m A r → ((List.range m).map r).sum ≤ n → Up m A r := by
  intro n
  induction n with
  | zero =>
    intro r R h
    have z : ∀ p, p < m → r p = 0 := fun p hp => by
      have := isum_mem (f := r) (l := List.range m) (fun x _ => R.lo x) p (List.mem_range.mpr hp)
      have e : ((List.range m).map fun x => r x) = (List.range m).map r := rfl
      have := R.lo p
      omega
    have e : r = fun _ => 0 := by
      funext p
      by_cases h : p < m
      · exact z p h
      · exact R.off p (by omega)
    have := R.one
    rw [e, qf_zero] at this
    omega
  | succ n ih =>
    intro r R h
    have s := sur_sum hA r
    rw [R.one] at s
    obtain ⟨p, hp, neg⟩ := isum_some (f := fun p => r p * sur A r p) (l := List.range m) (by rw [s]; decide)
    have hp := List.mem_range.mp hp
    have lo := R.lo p
    have pos : 0 < r p := by
      rcases Int.lt_or_eq_of_le lo with z | z
      · exact z
      · rw [← z, Int.zero_mul] at neg
        omega
    have sn : sur A r p < 0 := Int.not_le.mp fun z => by
      have := Int.mul_nonneg lo z
      omega
    have q := qf_bump nl r hp (-1)
    rw [R.one] at q
    by_cases z : ∃ i, i < m ∧ bump r p (-1) i ≠ 0
    · have a1 := ab _ z
      have s1 : sur A r p = -1 := by omega
      have R' : Root m A (bump r p (-1)) := by
        refine ⟨fun i => ?_, fun i hi => ?_, by omega⟩
        · unfold bump
          have := R.lo i
          split <;> omega
        · unfold bump
          rw [if_neg (by omega)]
          exact R.off i hi
      have u := ih _ R' (by rw [sum_bump, if_pos hp]; omega)
      have := Up.up _ p u hp (by rw [sur_bump nl, s1]; decide)
      rw [bump_back] at this
      exact this
    · have all : ∀ i, bump r p (-1) i = 0 := fun i => by
        by_cases h : i < m
        · exact Classical.byContradiction fun n => z ⟨i, h, n⟩
        · unfold bump
          rw [if_neg (by omega)]
          exact R.off i (by omega)
      have e : r = unitR p := by
        rw [← bump_back r p, unit_bump]
        congr 1
        funext i
        exact all i
      rw [e]
      exact .unit p hp
/-- the rows of numbers with form 1 are what raising comes to -/
theorem root_iff {m : Nat} {A : Ar} (hA : Inside m A) (nl : NoLoop A) (ab : Above m A) (r : Nat → Int) : Root m A r ↔ Up m A r :=
  ⟨fun R => Root.up hA nl ab (((List.range m).map r).sum).toNat r R (by omega), fun u => u.root nl⟩
end M22

set_option linter.all false
/-! Webs whose lots all have a kind: their form is above 0. -/
namespace M22
open K9M M21
theorem common (δ : Nat → Int) : ∀ m, (∀ p, p < m → 1 ≤ δ p) → ∃ N : Int, 0 < N ∧ ∀ p, p < m → δ p ∣ N
  | 0, _ => ⟨1, by decide, fun p h => absurd h (Nat.not_lt_zero p)⟩
  | m + 1, h => by
    obtain ⟨N, n, d⟩ := common δ m fun p hp => h p (by omega)
    have := h m (by omega)
    refine ⟨N * δ m, Int.mul_pos n (by omega), fun p hp => ?_⟩
    by_cases e : p = m
    · rw [e]
      exact Int.dvd_mul_left _ _
    · exact Int.dvd_trans (d p (by omega)) (Int.dvd_mul_right _ _)
/-- a row on a lot, above 0, that no place's neighbours are above, and some place's are under -/
def LotPos (A : Ar) (L : List Nat) : Prop := ∃ δ : Nat → Int, (∀ p ∈ L, 1 ≤ δ p ∧ sur A δ p ≤ 0) ∧ ∃ q ∈ L, sur A δ q < 0
theorem sur_congr {A : Ar} {f g : Nat → Int} {p : Nat} (h0 : f p = g p) (h : ∀ q ∈ ends A p, f q = g q) : sur A f p = sur A g p := by
  unfold sur
  rw [h0, List.map_congr_left h]
theorem pos_of_lots {m : Nat} {A : Ar} (hA : Inside m A) (h : ∀ c ∈ headsN m A, LotPos A (lotN m A c)) : ∃ δ N, Pos m A δ N := by
  have ch : ∀ c, ∃ δ : Nat → Int, c ∈ headsN m A → (∀ p ∈ lotN m A c, 1 ≤ δ p ∧ sur A δ p ≤ 0) ∧ ∃ q ∈ lotN m A c, sur A δ q < 0 := fun c => by
    by_cases hc : c ∈ headsN m A
    · obtain ⟨δ, z⟩ := h c hc
      exact ⟨δ, fun _ => z⟩
    · exact ⟨fun _ => 0, fun z => absurd z hc⟩
  let F : Nat → Nat → Int := fun c => (ch c).choose
  have hF : ∀ c ∈ headsN m A, (∀ p ∈ lotN m A c, 1 ≤ F c p ∧ sur A (F c) p ≤ 0) ∧ ∃ q ∈ lotN m A c, sur A (F c) q < 0 := fun c hc => (ch c).choose_spec hc
  let δ : Nat → Int := fun p => F (fin1 A p).toNat p
  have on : ∀ c, ∀ p ∈ lotN m A c, δ p = F c p ∧ sur A δ p = sur A (F c) p := fun c p hp => by
    have e : ∀ q ∈ lotN m A c, δ q = F c q := fun q hq => by
      show F (fin1 A q).toNat q = F c q
      rw [(mem_lotN.mp hq).2, Int.toNat_natCast]
    exact ⟨e p hp, sur_congr (e p hp) fun q hq => e q (lot_ends hA hp hq)⟩
  have lo : ∀ p, p < m → 1 ≤ δ p := fun p hp => by
    obtain ⟨c, hc, hpc⟩ := lot_of_label hA hp
    rw [(on c p hpc).1]
    exact ((hF c hc).1 p hpc).1
  obtain ⟨N, n, dv⟩ := common δ m lo
  refine ⟨δ, N, n, dv, lo, fun p hp => ?_, fun p hp => ?_⟩
  · obtain ⟨c, hc, hpc⟩ := lot_of_label hA hp
    rw [(on c p hpc).2]
    exact ((hF c hc).1 p hpc).2
  · obtain ⟨c, hc, hpc⟩ := lot_of_label hA hp
    obtain ⟨q, hq, s⟩ := (hF c hc).2
    obtain ⟨k, rc⟩ := lot_reach hA hpc hq
    exact ⟨k, q, rc, by rw [(on c q hq).2]; exact s⟩
theorem good_simple {m : Nat} {A : Ar} {c x : Nat} (hA : Inside m A) (hx : x ∈ lotN m A c) (g : Good A (lotN m A c)) : Simple A (lotN m A c) := by
  obtain ⟨d, d1, d2, _⟩ := good_tree hA hx g
  have no : ∀ p ∈ lotN m A c, (p, p) ∉ A := fun p hp z => d1 p hp p (mem_ends.mpr (.inl z)) rfl
  have low : ∀ p ∈ lotN m A c, ∀ q, d q < d p → (ends A p).count q ≤ 1 := fun p hp q lt => by
    refine Nat.le_trans ?_ (d2 p hp)
    unfold List.count
    refine List.countP_mono_left fun y hy e => ?_
    have e : y = q := by simpa using e
    rw [e]
    exact decide_eq_true lt
  refine ⟨no, fun p hp q => ?_⟩
  by_cases hq : q ∈ ends A p
  · have ne := d1 p hp q hq
    rcases Nat.lt_or_gt_of_ne ne with lt | lt
    · exact low p hp q lt
    · rw [count_sym]
      exact low q (lot_ends hA hp hq) p lt
  · rw [List.count_eq_zero.mpr hq]
    decide
/-- .. without forks -/
theorem line_pos {A : Ar} {L : List Nat} (ne : L ≠ []) (tr : degs A L + 2 = 2 * L.length) (two : ∀ p ∈ L, deg A p ≤ 2) : LotPos A L := by
  have s : ∀ p, sur A (fun _ => 1) p = (deg A p : Int) - 2 := fun p => by
    unfold sur deg
    have : ∀ l : List Nat, (l.map fun _ => (1 : Int)).sum = (l.length : Int) := fun l => by
      induction l with
      | nil => rfl
      | cons x l ih => rw [List.map_cons, List.sum_cons, ih, List.length_cons]; omega
    rw [this]
    show ((ends A p).length : Int) - 2 * 1 = _
    omega
  refine ⟨fun _ => 1, fun p hp => ⟨Int.le_refl _, by rw [s]; have := two p hp; omega⟩, Classical.byContradiction fun no => ?_⟩
  have all : ∀ p ∈ L, deg A p = 2 := fun p hp => Classical.byContradiction fun z => no ⟨p, hp, by rw [s]; have := two p hp; omega⟩
  have e : degs A L = 2 * L.length := by
    show (L.map fun p => (ends A p).length).sum = _
    have : (L.map fun p => (ends A p).length) = L.map fun _ => 2 := List.map_congr_left fun p hp => all p hp
    rw [this, const_sum]
    omega
  omega
theorem wok3 {x y z : Nat} (h : WOk [x, y, z]) (hx : 1 ≤ x) (hy : 1 ≤ y) (hz : 1 ≤ z) {K a b c : Int} (k : 0 < K) (ha : a * ((x : Int) + 1) = K) (hb : b * ((y : Int) + 1) = K) (hc : c * ((z : Int) + 1) = K) : K < a + b + c := by
  have pos : ∀ (a : Int) (n : Nat), a * ((n : Int) + 1) = K → 0 < a := fun a n e => Int.not_le.mp fun z => by
    have := Int.mul_nonpos_of_nonpos_of_nonneg z (show 0 ≤ ((n : Int) + 1) by omega)
    omega
  have up : ∀ (a : Int) (n k : Nat), a * ((n : Int) + 1) = K → n ≤ k → K ≤ a * ((k : Int) + 1) := fun a n k e le => by
    rw [← e]
    exact Int.mul_le_mul_of_nonneg_left (by omega) (Int.le_of_lt (pos a n e))
  have a0 := pos a x ha
  have b0 := pos b y hb
  have c0 := pos c z hc
  have a1 := up a x 1 ha
  have a2 := up a x 2 ha
  have a4 := up a x 4 ha
  have b1 := up b y 1 hb
  have b2 := up b y 2 hb
  have b4 := up b y 4 hb
  have c1 := up c z 1 hc
  have c2 := up c z 2 hc
  have c4 := up c z 4 hc
  unfold WOk at h
  simp only [List.countP_cons, List.countP_nil, decide_eq_true_eq] at h
  clear ha hb hc pos up
  by_cases x1 : x ≤ 1 <;> by_cases y1 : y ≤ 1 <;> by_cases z1 : z ≤ 1 <;> by_cases x2 : x ≤ 2 <;> by_cases y2 : y ≤ 2 <;> by_cases z2 : z ≤ 2 <;> by_cases x4 : x ≤ 4 <;> by_cases y4 : y ≤ 4 <;> by_cases z4 : z ≤ 4 <;> first | omega | (simp only [x1, y1, z1, x2, y2, z2, x4, y4, z4, if_true, if_false, true_implies] at *; omega)
end M22

set_option linter.all false
/-! .. with a fork of three good ways; all lots of a finite web. -/
namespace M22
open K9M M21
section
variable {A : Ar} {L : List Nat} {c : Nat} {d : Nat → Nat}
theorem Rooted.on_some (r : Rooted A L c d) : ∀ (k p : Nat), d p ≤ k → p ∈ L → p ≠ c → ∃ y ∈ ends A c, On A d y p := fun k => by
  induction k with
  | zero => intro p hk hp ne; have := r.pos hp ne; omega
  | succ k ih =>
    intro p hk hp ne
    obtain ⟨a, ha, la⟩ := r.has p hp ne
    by_cases ac : a = c
    · rw [ac] at ha
      exact ⟨p, ends_sym ha, .base⟩
    · obtain ⟨y, hy, o⟩ := ih a (by omega) (r.to p hp a ha) ac
      exact ⟨y, hy, .step o ha la⟩
theorem star_pos (r : Rooted A L c d) {D : Nat → Nat} (hD : ∀ p ∈ L, p ≠ c → ∀ a ∈ ends A p, d a < d p → WayS A a p (D p)) (wok : ∀ ws, Two (WayS A c) (ends A c) ws → WOk ws) (c3 : (ends A c).length = 3) : LotPos A L := by
  have low0 : ∀ x, x ∈ ends A c → d c < d x := fun x hx => by
    have := r.ne c r.root x hx
    rw [r.zero] at this ⊢
    omega
  have yc : ∀ y ∈ ends A c, y ≠ c := fun y hy z => r.ne c r.root y hy (by rw [z])
  have yL : ∀ y ∈ ends A c, y ∈ L := fun y hy => r.to c r.root y hy
  have D1 : ∀ p ∈ L, p ≠ c → 1 ≤ D p := fun p hp ne => by
    obtain ⟨a, ha, la⟩ := r.has p hp ne
    exact way_pos (hD p hp ne a ha la)
  have upD : ∀ p ∈ L, p ≠ c → ∀ a ∈ ends A p, d a < d p → a ≠ c → D a = D p + 1 := fun p hp ne a ha la ac => by
    have aL := r.to p hp a ha
    obtain ⟨b, hb, lb⟩ := r.has a aL ac
    exact way_uniq (hD a aL ac b hb lb) (r.up hp ha la ac hb lb (hD p hp ne a ha la))
  obtain ⟨K, K0, dv⟩ := common (fun p => (D p : Int) + 1) (((ends A c).map fun x => x).sum + 1) fun p _ => by
    show (1 : Int) ≤ (D p : Int) + 1
    omega
  let al : Nat → Int := fun y => K / ((D y : Int) + 1)
  have hal : ∀ y ∈ ends A c, al y * ((D y : Int) + 1) = K := fun y hy => Int.ediv_mul_cancel (dv y (Nat.lt_succ_of_le (le_sum (d := fun x => x) hy)))
  have al0 : ∀ y ∈ ends A c, 0 < al y := fun y hy => Int.not_le.mp fun z => by
    have := Int.mul_nonpos_of_nonpos_of_nonneg z (show 0 ≤ ((D y : Int) + 1) by omega)
    have := hal y hy
    omega
  have chY : ∀ p, ∃ y, p ∈ L → p ≠ c → y ∈ ends A c ∧ On A d y p := fun p => by
    by_cases hp : p ∈ L ∧ p ≠ c
    · obtain ⟨y, hy, o⟩ := r.on_some (d p) p (Nat.le_refl _) hp.1 hp.2
      exact ⟨y, fun _ _ => ⟨hy, o⟩⟩
    · exact ⟨0, fun h1 h2 => absurd ⟨h1, h2⟩ hp⟩
  let Y : Nat → Nat := fun p => (chY p).choose
  have hY : ∀ p, p ∈ L → p ≠ c → Y p ∈ ends A c ∧ On A d (Y p) p := fun p => (chY p).choose_spec
  have Yy : ∀ y ∈ ends A c, Y y = y := fun y hy => by
    obtain ⟨h1, h2⟩ := hY y (yL y hy) (yc y hy)
    exact r.on_one h1 h2 hy (yL y hy) .base
  have Ya : ∀ p ∈ L, p ≠ c → ∀ a ∈ ends A p, d a < d p → a ≠ c → Y a = Y p := fun p hp ne a ha la ac => by
    obtain ⟨h1, h2⟩ := hY a (r.to p hp a ha) ac
    obtain ⟨h3, h4⟩ := hY p hp ne
    exact r.on_one h1 (.step h2 ha la) h3 hp h4
  let δ : Nat → Int := fun p => if p = c then K else al (Y p) * (D p : Int)
  have δc : δ c = K := if_pos rfl
  have δp : ∀ p, p ≠ c → δ p = al (Y p) * (D p : Int) := fun p ne => if_neg ne
  have surc : sur A δ c < 0 := by
    match e : ends A c, c3 with
    | [x, y, z], _ =>
      have m1 : x ∈ ends A c := by rw [e]; simp
      have m2 : y ∈ ends A c := by rw [e]; simp
      have m3 : z ∈ ends A c := by rw [e]; simp
      have w := wok ((ends A c).map D) (two_map fun y hy => hD y (yL y hy) (yc y hy) c (ends_sym hy) (low0 y hy))
      rw [e] at w
      have := wok3 w (D1 x (yL x m1) (yc x m1)) (D1 y (yL y m2) (yc y m2)) (D1 z (yL z m3) (yc z m3)) K0 (hal x m1) (hal y m2) (hal z m3)
      have h1 := hal x m1
      have h2 := hal y m2
      have h3 := hal z m3
      unfold sur
      rw [e, δc]
      simp only [List.map_cons, List.map_nil, List.sum_cons, List.sum_nil]
      rw [δp x (yc x m1), δp y (yc y m2), δp z (yc z m3), Yy x m1, Yy y m2, Yy z m3]
      rw [Int.mul_add, Int.mul_one] at h1 h2 h3
      omega
  refine ⟨δ, fun p hp => ?_, c, r.root, surc⟩
  by_cases e : p = c
  · rw [e]
    exact ⟨by rw [δc]; omega, Int.le_of_lt surc⟩
  obtain ⟨hy, on⟩ := hY p hp e
  have a0 := al0 _ hy
  have Dp := D1 p hp e
  refine ⟨?_, ?_⟩
  · rw [δp p e]
    have := Int.mul_pos a0 (show (0 : Int) < (D p : Int) by omega)
    omega
  · obtain ⟨a, ha, la⟩ := r.has p hp e
    have aL := r.to p hp a ha
    have w := hD p hp e a ha la
    -- what stands nearer to the root
    have da : δ a = al (Y p) * ((D p : Int) + 1) := by
      by_cases ac : a = c
      · rw [ac] at ha
        rw [ac, δc, Yy p (ends_sym ha), hal p (ends_sym ha)]
      · rw [δp a ac, Ya p hp e a ha la ac, upD p hp e a ha la ac]
        rfl
    rcases r.shape hp ha la w with ⟨e1, n1⟩ | ⟨x, k, pm, ek, wx, xL, px, lx, xp, _⟩
    · unfold sur
      rw [e1]
      simp only [List.map_cons, List.map_nil, List.sum_cons, List.sum_nil]
      rw [da, δp p e, n1]
      generalize al (Y p) = u at *
      show u * (((1 : Nat) : Int) + 1) + 0 - 2 * (u * ((1 : Nat) : Int)) ≤ 0
      omega
    · have xc : x ≠ c := fun z => by rw [z, r.zero] at lx; omega
      have Dx : D x = k := way_uniq (hD x xL xc p px lx) wx
      have Yx : Y p = Y x := Ya x xL xc p px lx e
      unfold sur
      rw [isum_perm (pm.map δ)]
      simp only [List.map_cons, List.map_nil, List.sum_cons, List.sum_nil]
      rw [da, δp x xc, δp p e, ← Yx, Dx, ek]
      generalize al (Y p) = u at *
      have : u * (((k + 1 : Nat) : Int) + 1) + (u * (k : Int) + 0) - 2 * (u * ((k + 1 : Nat) : Int)) = 0 := by
        rw [Int.natCast_add]
        grind
      omega
end
/-- a lot that has a kind -/
theorem good_pos {m : Nat} {A : Ar} {h : Nat} (hA : Inside m A) (hh : h ∈ headsN m A) (g : Good A (lotN m A h)) : LotPos A (lotN m A h) := by
  have hm := mem_lot_self hh
  have s := good_simple hA hm g
  have nd := nodup_of_up (lotN_up m A h)
  by_cases f : ∃ c ∈ lotN m A h, 3 ≤ deg A c
  rotate_left
  · exact line_pos (fun e => by rw [e] at hm; cases hm) g.tree fun p hp => Classical.byContradiction fun z => f ⟨p, hp, by omega⟩
  obtain ⟨c, cL, c3⟩ := f
  have c3' : deg A c = 3 := by have := g.three c cL; omega
  have few : (inner A (lotN m A h)).length + 1 = (lotN m A h).length := by
    have := sum_degrees nd (lot_shut hA h)
    have t := g.tree
    unfold degs at t
    omega
  obtain ⟨d, d1, d2, d3, d0⟩ := tree' nd (lot_shut hA h) cL (fun p hp => lot_reach hA cL hp) few
  have two : ∀ p ∈ lotN m A h, p ≠ c → deg A p ≤ 2 := fun p hp ne => Classical.byContradiction fun z => ne (g.one p hp c cL (by omega) c3)
  have r : Rooted A (lotN m A h) c d := ⟨cL, d1, d2, d3, d0, fun p hp q hq => lot_ends hA hp hq, two, fun p hp => s.nodup hp⟩
  obtain ⟨D, hD⟩ := r.rest fun p hp ne a ha la => way_is (lot_shut hA h) d1 d2 d0 two (((lotN m A h).map d).sum + 1) p a (by omega) hp ha la
  exact star_pos r hD (fun ws tw => g.ways c cL c3' ws tw) c3'
/-- a web without a bad lot: its form is above 0, it has no loops -/
theorem finite_above {m : Nat} {A : Ar} (hA : Inside m A) (nb : ¬ HasBad m A) : Above m A ∧ NoLoop A := by
  have good : ∀ h ∈ headsN m A, Good A (lotN m A h) := fun h hh => by
    rcases good_or_bad hA h with g | b
    · exact g
    · exact absurd ⟨h, hh, b⟩ nb
  obtain ⟨δ, N, P⟩ := pos_of_lots hA fun h hh => good_pos hA hh (good h hh)
  refine ⟨fun r z => P.one hA z, fun p hp => ?_⟩
  obtain ⟨h, hh, hx⟩ := lot_of_label hA (hA _ hp).1
  exact (good_simple hA hx (good h hh)).no p hx hp
end M22

set_option linter.all false
/-! Rows whose form is 1 are few and small. -/
namespace M22
open K9M M21
theorem isum_congr {α : Type} {f g : α → Int} {l : List α} (h : ∀ x ∈ l, f x = g x) : (l.map f).sum = (l.map g).sum := by rw [List.map_congr_left h]
theorem qf_par (m : Nat) (A : Ar) (r s : Nat → Int) : qf m A (fun p => r p + s p) + qf m A (fun p => r p - s p) = 2 * qf m A r + 2 * qf m A s := by
  unfold qf
  have e1 : ((List.range m).map fun p => (r p + s p) * (r p + s p)).sum + ((List.range m).map fun p => (r p - s p) * (r p - s p)).sum = 2 * ((List.range m).map fun p => r p * r p).sum + 2 * ((List.range m).map fun p => s p * s p).sum := by
    rw [← isum_mul, ← isum_mul, ← isum_add, ← isum_add]
    exact isum_congr fun p _ => by grind
  have e2 : (A.map fun a => (r a.1 + s a.1) * (r a.2 + s a.2)).sum + (A.map fun a => (r a.1 - s a.1) * (r a.2 - s a.2)).sum = 2 * (A.map fun a => r a.1 * r a.2).sum + 2 * (A.map fun a => s a.1 * s a.2).sum := by
    rw [← isum_mul, ← isum_mul, ← isum_add, ← isum_add]
    exact isum_congr fun p _ => by grind
  dsimp only
  omega
theorem qf_double (m : Nat) (A : Ar) (t : Nat → Int) : qf m A (fun p => 2 * t p) = 4 * qf m A t := by
  unfold qf
  have e1 : ((List.range m).map fun p => (2 * t p) * (2 * t p)).sum = 4 * ((List.range m).map fun p => t p * t p).sum := by
    rw [← isum_mul]
    exact isum_congr fun p _ => by grind
  have e2 : (A.map fun a => (2 * t a.1) * (2 * t a.2)).sum = 4 * (A.map fun a => t a.1 * t a.2).sum := by
    rw [← isum_mul]
    exact isum_congr fun p _ => by grind
  dsimp only
  omega
section
variable {m : Nat} {A : Ar}
theorem Root.ne {r : Nat → Int} (R : Root m A r) : ∃ p, p < m ∧ 0 < r p := Classical.byContradiction fun no => by
  have z : r = fun _ => 0 := by
    funext p
    have lo := R.lo p
    by_cases h : p < m
    · exact Classical.byContradiction fun n => no ⟨p, h, by omega⟩
    · exact R.off p (by omega)
  have := R.one
  rw [z, qf_zero] at this
  omega
/-- two of them that are alike mod 2 are the same -/
theorem Root.mod2 (ab : Above m A) {r s : Nat → Int} (R : Root m A r) (S : Root m A s) (h : ∀ p, p < m → r p % 2 = s p % 2) : r = s := by
  have e : (fun p => r p - s p) = fun p => 2 * ((r p - s p) / 2) := by
    funext p
    by_cases hp : p < m
    · have := h p hp
      omega
    · rw [R.off p (by omega), S.off p (by omega)]
      rfl
  have par := qf_par m A r s
  rw [R.one, S.one, e, qf_double] at par
  obtain ⟨p, hp, pos⟩ := R.ne
  have a1 := ab (fun p => r p + s p) ⟨p, hp, by have := S.lo p; omega⟩
  funext q
  by_cases hq : q < m
  · refine Classical.byContradiction fun ne => ?_
    have := ab (fun p => (r p - s p) / 2) ⟨q, hq, by have := h q hq; omega⟩
    omega
  · rw [R.off q (by omega), S.off q (by omega)]
def code (r : Nat → Int) : Nat → Nat
  | 0 => 0
  | m + 1 => 2 * code r m + (r m % 2).toNat
theorem code_lt (r : Nat → Int) : ∀ m, code r m < 2 ^ m
  | 0 => by show 0 < 1; decide
  | m + 1 => by
    have := code_lt r m
    show 2 * code r m + (r m % 2).toNat < 2 ^ (m + 1)
    rw [Nat.pow_succ]
    omega
theorem code_inj {r s : Nat → Int} : ∀ m, code r m = code s m → ∀ p, p < m → r p % 2 = s p % 2
  | 0, _, p, hp => absurd hp (Nat.not_lt_zero p)
  | m + 1, h, p, hp => by
    have h : 2 * code r m + (r m % 2).toNat = 2 * code s m + (s m % 2).toNat := h
    by_cases e : p = m
    · rw [e]
      omega
    · exact code_inj m (by omega) p (by omega)
theorem roots_few (ab : Above m A) {l : List (Nat → Int)} (nd : l.Nodup) (all : ∀ r ∈ l, Root m A r) : l.length ≤ 2 ^ m := by
  have := nodup_le (l := l.map fun r => code r m) (k := List.range (2 ^ m)) (by
    unfold List.Nodup
    rw [List.pairwise_map]
    refine List.Pairwise.imp_of_mem (fun {a b} ha hb ne e => ne ?_) nd
    exact (all a ha).mod2 ab (all b hb) (code_inj m e)) fun x hx => by
      obtain ⟨r, _, rfl⟩ := List.mem_map.mp hx
      exact List.mem_range.mpr (code_lt r m)
  rw [List.length_map, List.length_range] at this
  exact this
theorem unit_sum {p : Nat} (hp : p < m) : ((List.range m).map (unitR p)).sum = 1 := by
  have := sum_bump (fun _ => 0) p 1 m
  rw [isum_zero, if_pos hp, ← unit_bump] at this
  exact this
/-- as many as the sum of its items are below it -/
theorem Up.chain (nl : NoLoop A) {r : Nat → Int} (u : Up m A r) : ∃ l : List (Nat → Int), (l.length : Int) = ((List.range m).map r).sum ∧ l.Nodup ∧ ∀ s ∈ l, Root m A s ∧ ((List.range m).map s).sum ≤ ((List.range m).map r).sum := by
  induction u with
  | unit p hp =>
    refine ⟨[unitR p], by rw [unit_sum hp]; rfl, List.nodup_cons.mpr ⟨fun h => (by cases h), List.nodup_nil⟩, fun s hs => ?_⟩
    rw [List.mem_singleton.mp hs]
    exact ⟨(Up.unit p hp).root nl, Int.le_refl _⟩
  | up r p u hp s ih =>
    obtain ⟨l, e, nd, all⟩ := ih
    have su := sum_bump r p 1 m
    rw [if_pos hp] at su
    refine ⟨bump r p 1 :: l, by rw [List.length_cons]; omega, List.nodup_cons.mpr ⟨fun h => ?_, nd⟩, fun t ht => ?_⟩
    · have := (all _ h).2
      omega
    · rcases List.mem_cons.mp ht with rfl | ht
      · exact ⟨(Up.up r p u hp s).root nl, Int.le_refl _⟩
      · have := all t ht
        exact ⟨this.1, by omega⟩
theorem Root.sum_le (hA : Inside m A) (nl : NoLoop A) (ab : Above m A) {r : Nat → Int} (R : Root m A r) : ((List.range m).map r).sum ≤ 2 ^ m := by
  obtain ⟨l, e, nd, all⟩ := ((root_iff hA nl ab r).mp R).chain nl
  have := roots_few ab nd fun s hs => (all s hs).1
  have h2 : ((2 ^ m : Nat) : Int) = (2 : Int) ^ m := by rw [Int.natCast_pow]; rfl
  omega
theorem nodup_sum {r : Nat → Int} (lo : ∀ p, 0 ≤ r p) : ∀ {l k : List Nat}, l.Nodup → (∀ x ∈ l, x ∈ k) → (l.map r).sum ≤ (k.map r).sum
  | [], k, _, _ => by
    have := isum_nonneg (f := r) (l := k) fun x _ => lo x
    simp only [List.map_nil, List.sum_nil]
    exact this
  | x :: l, k, nd, h => by
    obtain ⟨h1, h2⟩ := List.nodup_cons.mp nd
    have pk := List.perm_cons_erase (h x List.mem_cons_self)
    rw [isum_perm (pk.map r)]
    simp only [List.map_cons, List.sum_cons]
    have := nodup_sum lo (l := l) (k := k.erase x) h2 fun y hy => (List.mem_erase_of_ne (fun e : y = x => h1 (by rw [← e]; exact hy))).mpr (h y (List.mem_cons_of_mem _ hy))
    omega
/-- twice an item is at most one above the items around -/
theorem Root.cart (ab : Above m A) (nl : NoLoop A) {r : Nat → Int} (R : Root m A r) {p : Nat} (hp : p < m) : r = unitR p ∨ -1 ≤ sur A r p := by
  have q := qf_bump nl r hp (-1)
  rw [R.one] at q
  by_cases z : ∃ i, i < m ∧ bump r p (-1) i ≠ 0
  · have := ab _ z
    exact .inr (by omega)
  · left
    rw [← bump_back r p, unit_bump]
    congr 1
    funext i
    by_cases h : i < m
    · exact Classical.byContradiction fun n => z ⟨i, h, n⟩
    · unfold bump
      rw [if_neg (by omega)]
      exact R.off i (by omega)
/-- of webs of four places at most: no item is above 6 -/
theorem Root.small (hA : Inside m A) (nb : ¬ HasBad m A) (m4 : m ≤ 4) {r : Nat → Int} (R : Root m A r) : ∀ p, r p ≤ 6 := fun p => by
  obtain ⟨ab, nl⟩ := finite_above hA nb
  by_cases hp : p < m
  rotate_left
  · rw [R.off p (by omega)]
    decide
  rcases R.cart ab nl hp with e | s
  · rw [e]
    unfold unitR
    rw [if_pos rfl]
    decide
  refine Int.not_lt.mp fun big => ?_
  have su := R.sum_le hA nl ab
  have p16 : (2 : Int) ^ m ≤ 16 := by
    have : m = 0 ∨ m = 1 ∨ m = 2 ∨ m = 3 ∨ m = 4 := by omega
    rcases this with rfl | rfl | rfl | rfl | rfl <;> decide
  obtain ⟨c, hc, hpc⟩ := lot_of_label hA hp
  have g : Good A (lotN m A c) := (good_or_bad hA c).elim id fun b => absurd ⟨c, hc, b⟩ nb
  have si := good_simple hA hpc g
  have nd : (p :: ends A p).Nodup := List.nodup_cons.mpr ⟨fun h => by
    rcases mem_ends.mp h with z | z <;> exact nl _ z, si.nodup hpc⟩
  have := nodup_sum R.lo (k := List.range m) nd fun x hx => by
    rcases List.mem_cons.mp hx with rfl | hx
    · exact List.mem_range.mpr hp
    · rcases mem_ends.mp hx with z | z
      · exact List.mem_range.mpr (hA _ z).2
      · exact List.mem_range.mpr (hA _ z).1
  simp only [List.map_cons, List.sum_cons] at this
  unfold sur at s
  omega
end
end M22

set_option Elab.async false
set_option linter.all false
set_option maxRecDepth 100000
set_option maxHeartbeats 4000000
namespace R23
open PySem L2
def top (i : Nat) : Stmt := PySem.Challenge.pw_mapwebs_k23_whole_rows_of_finite_webs.main.body.getD i (.Pass ⟨0, 0, 0, 0⟩)
abbrev sDraw : Stmt := top 32
abbrev sAny : Stmt := top 33
/-- the pot stands at a: a list of the cells' list and four ints -/
def PotAt (H : Hp) (a : Addr) : Prop := ∃ (c : Addr) (ns : List Int) (i : Nat) (z s n : Int), H a = some (.lst [.ref c, .int (i : Int), .int z, .int s, .int n]) ∧ H c = some (.lst (ns.map V.int))
/-- a step that changes nothing but the pot, and makes new things -/
structure Go (a : Addr) (H H' : Hp) : Prop where
  pot : PotAt H' a
  keep : ∀ b o, b ≠ a → H b = some o → H' b = some o
  cell : ∀ (c : Addr) (xs : List V), H a = some (.lst (.ref c :: xs)) → ∃ ys, H' a = some (.lst (.ref c :: ys))
theorem Go.trans {a : Addr} {H H1 H2 : Hp} (x : Go a H H1) (y : Go a H1 H2) : Go a H H2 := ⟨y.1, fun b o n e => y.2 b o n (x.2 b o n e), fun c xs h => let ⟨ys, h'⟩ := x.3 c xs h; y.3 c ys h'⟩
theorem Go.refl {a : Addr} {H : Hp} (x : PotAt H a) : Go a H H := ⟨x, fun _ _ _ e => e, fun _ xs h => ⟨xs, h⟩⟩
theorem PotAt.ne {H : Hp} {a : Addr} (x : PotAt H a) {b : Addr} (h : H b = none) : a ≠ b := by
  obtain ⟨c, ns, i, z, s, n, h1, _⟩ := x
  exact ne_of_none h1 h
theorem PotAt.upd {H : Hp} {a : Addr} (x : PotAt H a) {b : Addr} {o : HO} (h : H b = none) : PotAt (upd H b o) a := by
  obtain ⟨c, ns, i, z, s, n, h1, h2⟩ := x
  exact ⟨c, ns, i, z, s, n, by rw [upd_ne (ne_of_none h1 h)]; exact h1, by rw [upd_ne (ne_of_none h2 h)]; exact h2⟩
theorem Go.new {a : Addr} {H : Hp} (x : PotAt H a) {b : Addr} {o : HO} (h : H b = none) : Go a H (upd H b o) := ⟨x.upd h, fun c u n e => by rw [upd_ne (ne_of_none e h)]; exact e, fun c xs e => ⟨xs, by rw [upd_ne (ne_of_none e h)]; exact e⟩⟩
/-- a store in the pot -/
theorem PotAt.put {H : Hp} {a c : Addr} {ns : List Int} {i : Nat} {z s n : Int} {xs : List V} (h1 : H a = some (.lst xs)) (h2 : H c = some (.lst (ns.map V.int))) (hc : c ≠ a) (i' : Nat) (z' s' n' : Int) :
    PotAt (L2.upd H a (.lst [.ref c, .int (i' : Int), .int z', .int s', .int n'])) a := ⟨c, ns, i', z', s', n', upd_same, by rw [upd_ne hc]; exact h2⟩
def spDraw : Sp := fun vs H Q _ => ∃ (a : Addr) (m : Int), vs = [.ref a, .int m] ∧ PotAt H a ∧ 0 < m ∧ m < 1000000 ∧ ∀ (r : Int) (H' : Hp), 0 ≤ r → r < m → Go a H H' → Q (.int r) H'
structure Bl (mg : Str → Option Value) : Prop where
  len : mg "len" = none
  int : mg "int" = none
theorem upd_upd {H : Hp} {a : Addr} {o u : HO} : upd (upd H a o) a u = upd H a u := by
  funext b
  by_cases h : b = a
  · rw [h, upd_same, upd_same]
  · rw [upd_ne h, upd_ne h, upd_ne h]
section
variable {P : Program} {w : World} {K : PySem.W.Frag} {mg : Str → Option Value} {base : Heap}
theorem scD : FnScope ["purse", "many", "cell", "told", "made"] ["purse", "many"] (defScope sDraw) := ⟨rfl, rfl, rfl, by decide +kernel, rfl, by decide +kernel, by decide +kernel⟩
theorem ok_draw {f : Addr} {fd : FuncData} (F : Fun K "_law_part" "_law_part" sDraw f fd) (T : Bl mg) : FnOk P w K mg base CX0 1 f fd ["purse", "many"] spDraw := by
  refine F.ok scD (fun vs H Q E h => ?_) (fun cdv A outer s H vs Q E hr h => ?_)
  · obtain ⟨a, m, rfl, _⟩ := h
    rfl
  · obtain ⟨a, m, rfl, ⟨c, ns, i, z, t, n, h1, h2⟩, hm, hm2, k⟩ := h
    have hca : c ≠ a := ne_of h2 h1 (by intro q; cases ns <;> cases q)
    refine ⟨_, C8.pss_cut (ps_if (PW.pt (pw_and (pt_cmpR op_lt (pe_ix ix_list (pv 0) pe_int (fun _ _ => rfl)) pe_int (nomark _)) (pw_and1 (pt_cmpR op_lt (pe_ix ix_list (pv 0) pe_int (fun _ _ => rfl)) (pe_callB call_len_seq (by rfl) T.len PySem.boot_len (pa_cons (pe_ix ix_list (pv 0) pe_int (fun _ _ => rfl)) pa_nil)) (nomark _)))))
        (pss_cons (ps_set (i := 2) scD.nd rfl (Or.inl rfl) (pe_ix ix_list (pe_ix ix_list (pv 0) pe_int (fun _ _ => rfl)) (pe_ix ix_list (pv 0) pe_int (fun _ _ => rfl)) (fun _ _ => rfl)))
        (pss_cons (ps_asg (pe_op op_add (pe_ix ix_list (pv 0) pe_int (fun _ _ => rfl)) pe_int) (pg_sub (pv 0) pe_int set_list))
        (pss_cons (ps_asg (pe_op op_mod (pe_callTy call_int1 (by rfl) T.int (by decide +kernel) (pa_cons (pe_op op_add (pe_op op_add (pe_op op_mul (pe_ix ix_list (pv 0) pe_int (fun _ _ => rfl)) pe_int) (pv 2)) pe_int) pa_nil)) pe_int) (pg_sub (pv 0) pe_int set_list))
        (pss_one (ps_asg (pe_ifExp (pt_cmpR op_ge (pv 2) (pe_op op_pow pe_int pe_int) (nomark _)) (pv 2) pe_int) (pg_sub (pv 0) pe_int set_list))))))
        pss_nil)
      (pss_cons (ps_if (pt_cmpR op_gt (pe_ix ix_list (pv 0) pe_int (fun _ _ => rfl)) pe_int (nomark _))
        (pss_cons (ps_set (i := 3) scD.nd rfl (Or.inl rfl) (pe_op op_mod (pe_callTy call_int1 (by rfl) T.int (by decide +kernel) (pa_cons (pe_ix ix_list (pv 0) pe_int (fun _ _ => rfl)) pa_nil)) (pv 1)))
        (pss_cons (ps_asg (pe_op op_fdiv (pe_ix ix_list (pv 0) pe_int (fun _ _ => rfl)) (pv 1)) (pg_sub (pv 0) pe_int set_list))
        (pss_one (ps_ret (pv 3))))) pss_nil)
      (pss_cons (ps_asg (pe_op op_add (pe_ix ix_list (pv 0) pe_int (fun _ _ => rfl)) pe_int) (pg_sub (pv 0) pe_int set_list))
      (pss_cons (ps_set (i := 4) scD.nd rfl (Or.inl rfl) (pe_op op_mod (pe_callTy call_int1 (by rfl) T.int (by decide +kernel) (pa_cons (pe_op op_mul (pe_op op_add (pe_ix ix_list (pv 0) pe_int (fun _ _ => rfl)) (pe_op op_mul pe_int (pe_ix ix_list (pv 0) pe_int (fun _ _ => rfl)))) pe_int) pa_nil)) pe_int))
      (pss_cons (ps_set (i := 4) scD.nd rfl (Or.inl rfl) (pe_op op_mod (pe_callTy call_int1 (by rfl) T.int (by decide +kernel) (pa_cons (pe_op op_mul (pv 4) (pe_op op_add (pe_op op_fdiv (pv 4) pe_int) pe_int)) pa_nil)) pe_int))
      (pss_cons (ps_set (i := 4) scD.nd rfl (Or.inl rfl) (pe_op op_mod (pe_callTy call_int1 (by rfl) T.int (by decide +kernel) (pa_cons (pe_op op_mul (pv 4) (pe_op op_add (pe_op op_fdiv (pv 4) pe_int) pe_int)) pa_nil)) pe_int))
      (pss_one (ps_ret (pe_op op_mod (pe_callTy call_int1 (by rfl) T.int (by decide +kernel) (pa_cons (pe_op op_fdiv (pv 4) pe_int) pa_nil)) (pv 1))))))))), ?_⟩
    refine ⟨fun σ' H' => (∃ v, σ' = [some (.ref a), some (.int m), v, Option.none, Option.none]) ∧ Go a H H', ?_, ?_⟩
    · -- the first if
      refine ⟨_, rfl, _, _, _, _, rfl, rfl, SqL.of h1, rfl, _, _, rfl, rfl, _, rfl, ?_⟩
      have base0 : Go a H H := Go.refl ⟨c, ns, i, z, t, n, h1, h2⟩
      refine ite2 (fun _ => ?_) (fun _ => ?_)
      · refine ⟨_, rfl, _, _, _, _, rfl, rfl, SqL.of h1, rfl, _, rfl, _, _, _, _, rfl, rfl, SqL.of h1, rfl, _, _, rfl, .inl (SqL.of h2), _, _, rfl, rfl, _, rfl, ?_⟩
        refine ite2 (fun e => ?_) (fun _ => ?_)
        · have hi : i < ns.length := by
            have e' := of_decide_eq_true e
            rw [List.length_map] at e'
            omega
          have hcell : (ns.map V.int)[i]? = some (V.int ns[i]) := by
            rw [List.getElem?_map, List.getElem?_eq_getElem hi] <;> rfl
          refine ⟨_, rfl, _, _, _, _, rfl, rfl, SqL.of h1, rfl, _, rfl, _, _, _, _, rfl, rfl, SqL.of h1, rfl, _, _, _, _, rfl, rfl, SqL.of h2, atI_nat hcell, ?_⟩
          refine ⟨_, rfl, _, _, _, _, rfl, rfl, SqL.of h1, rfl, _, _, rfl, rfl, _, rfl, _, _, _, _, rfl, rfl, h1, rfl, ?_⟩
          refine ⟨_, rfl, _, _, _, _, rfl, rfl, SqL.of upd_same, rfl, _, _, rfl, rfl, .inr (by decide), _, rfl, _, _, rfl, rfl, _, _, rfl, rfl, .inl ⟨_, rfl, _, _, rfl, rfl, (by show (0 : Int) < 2147483399; decide), _, rfl, _, _, _, _, rfl, rfl, upd_same, rfl, ?_⟩⟩
          refine ⟨_, rfl, _, _, rfl, rfl, ⟨by decide, by decide, by decide⟩, _, _, rfl, rfl, _, rfl, ?_⟩
          have fin : ∀ z' s' : Int, Go a H (upd H a (.lst [.ref c, .int ((i + 1 : Nat) : Int), .int z', .int s', .int n])) := fun z' s' => ⟨PotAt.put (i := i) (z := z) (s := t) (n := n) h1 h2 hca _ _ _ _, fun b o e q => by rw [upd_ne e]; exact q, fun c' xs h => by rw [h1] at h; cases h; exact ⟨_, upd_same⟩⟩
          refine ite2 (fun _ => ?_) (fun _ => ?_)
          · refine ⟨_, rfl, _, rfl, _, _, _, _, rfl, rfl, upd_same, rfl, ⟨_, rfl⟩, ?_⟩
            rw [upd_upd, upd_upd]
            exact fin _ _
          · refine ⟨_, rfl, _, _, _, _, rfl, rfl, upd_same, rfl, ⟨_, rfl⟩, ?_⟩
            rw [upd_upd, upd_upd]
            exact fin _ _
        · exact ⟨⟨_, rfl⟩, base0⟩
      · refine iteF ?_
        exact ⟨⟨_, rfl⟩, base0⟩
    · rintro σ' H' ⟨⟨v, rfl⟩, ⟨c, ns, i, z, t, n, h1, h2⟩, kp, k3⟩
      have hca : c ≠ a := ne_of h2 h1 (by intro q; cases ns <;> cases q)
      have fin : ∀ z' s' n' : Int, Go a H (upd H' a (.lst [.ref c, .int (i : Int), .int z', .int s', .int n'])) := fun z' s' n' => ⟨PotAt.put (i := i) (z := z) (s := t) (n := n) h1 h2 hca _ _ _ _, fun b o e q => by rw [upd_ne e]; exact kp b o e q, fun c' xs h => by obtain ⟨ys, h'⟩ := k3 c' xs h; rw [h1] at h'; cases h'; exact ⟨_, upd_same⟩⟩
      refine ⟨_, rfl, _, _, _, _, rfl, rfl, SqL.of h1, rfl, _, _, rfl, rfl, _, rfl, ?_⟩
      refine ite2 (fun _ => ?_) (fun _ => ?_)
      · refine ⟨_, rfl, _, _, _, _, rfl, rfl, SqL.of h1, rfl, .inl ⟨_, rfl, _, rfl, _, _, rfl, rfl, hm, ?_⟩⟩
        refine ⟨_, rfl, _, _, _, _, rfl, rfl, SqL.of h1, rfl, _, rfl, _, _, rfl, rfl, ⟨hm, by omega⟩, _, rfl, _, _, _, _, rfl, rfl, h1, rfl, _, rfl, ?_⟩
        exact k _ _ (Int.emod_nonneg _ (by omega)) (Int.emod_lt_of_pos _ hm) (fin _ _ _)
      · refine ⟨_, rfl, _, _, _, _, rfl, rfl, SqL.of h1, rfl, _, _, rfl, rfl, _, rfl, _, _, _, _, rfl, rfl, h1, rfl, ?_⟩
        refine ⟨_, rfl, _, _, _, _, rfl, rfl, SqL.of upd_same, rfl, _, rfl, _, _, _, _, rfl, rfl, SqL.of upd_same, rfl, _, _, rfl, rfl, .inl (by decide), _, _, rfl, rfl, _, _, rfl, rfl, .inr (by decide), .inl ⟨_, rfl, _, _, rfl, rfl, (by show (0 : Int) < 2147483563; decide), ?_⟩⟩
        have b1 := Int.emod_nonneg ((t + 62089911 * (n + 1)) * 69621) (show (2147483563 : Int) ≠ 0 by decide)
        have b2 := Int.emod_lt_of_pos ((t + 62089911 * (n + 1)) * 69621) (show (0 : Int) < 2147483563 by decide)
        refine ⟨_, rfl, _, rfl, _, _, rfl, rfl, ⟨by decide, by decide⟩, _, _, rfl, rfl, _, _, rfl, rfl, .inl ⟨by omega, by omega⟩, .inl ⟨_, rfl, _, _, rfl, rfl, (by show (0 : Int) < 2147483647; decide), ?_⟩⟩
        generalize (t + 62089911 * (n + 1)) * 69621 % 2147483563 = y1 at *
        have b3 := Int.emod_nonneg (y1 * (y1 / 1499 + 40014)) (show (2147483647 : Int) ≠ 0 by decide)
        have b4 := Int.emod_lt_of_pos (y1 * (y1 / 1499 + 40014)) (show (0 : Int) < 2147483647 by decide)
        refine ⟨_, rfl, _, rfl, _, _, rfl, rfl, ⟨by decide, by decide⟩, _, _, rfl, rfl, _, _, rfl, rfl, .inl ⟨by omega, by omega⟩, .inl ⟨_, rfl, _, _, rfl, rfl, (by show (0 : Int) < 2147483629; decide), ?_⟩⟩
        refine ⟨_, rfl, _, _, rfl, rfl, ⟨by decide, by decide⟩, .inl ⟨_, rfl, _, rfl, _, _, rfl, rfl, hm, ?_⟩⟩
        exact k _ _ (Int.emod_nonneg _ (by omega)) (Int.emod_lt_of_pos _ hm) (fin _ _ _)
end
end R23

set_option Elab.async false
set_option linter.all false
set_option maxRecDepth 100000
set_option maxHeartbeats 4000000
namespace R23
open PySem L2
abbrev sInteger : Stmt := top 1
abbrev sNumber : Stmt := top 2
abbrev sArrow : Stmt := top 14
/-- built-ins that the text leaves as they are -/
structure Gb (mg : Str → Option Value) : Prop where
  len : mg "len" = none
  int : mg "int" = none
  bool : mg "bool" = none
  isi : mg "isinstance" = none
  tup : mg "tuple" = none
  all : mg "all" = none
  enum : mg "enumerate" = none
  list : mg "list" = none
  rng : mg "range" = none
  min : mg "min" = none
  max : mg "max" = none
  sorted : mg "sorted" = none
  set : mg "set" = none
  str : mg "str" = none
  abs : mg "abs" = none
  ve : mg "ValueError" = none
/-- what is expected of a caller of a plain def -/
abbrev Cal := @C8.Cal
def isI : V → Bool | .int _ => true | _ => false
def isB : V → Bool | .bl _ => true | _ => false
/-- a thing, as isinstance sees it; of a tuple also its items, n deep -/
def Th (K : PySem.W.Frag) (H : Hp) : Nat → V → Prop
  | n, x => ∃ t, TyX K H x t ∧ PySem.W.kitOne K t (.type "int") = some (isI x || isB x) ∧ PySem.W.kitOne K t (.type "bool") = some (isB x) ∧
    ((PySem.W.kitOne K t (.type "tuple") = some false ∧ ∀ a, x = .ref a → ∃ o, H a = some o ∧ ∀ xs, o ≠ .tup xs) ∨ (PySem.W.kitOne K t (.type "tuple") = some true ∧ ∃ a xs, x = .ref a ∧ H a = some (.tup xs) ∧
      match n with | 0 => True | m + 1 => ∀ y ∈ xs, Th K H m y))
theorem Th.zero {K : PySem.W.Frag} {H : Hp} {n : Nat} {x : V} (h : Th K H n x) : Th K H 0 x := by
  unfold Th at h ⊢
  obtain ⟨t, a, b, c, d⟩ := h
  refine ⟨t, a, b, c, ?_⟩
  rcases d with d | ⟨d, a, xs, e, f, _⟩
  · exact .inl d
  · exact .inr ⟨d, a, xs, e, f, True.intro⟩
def numV (m : Int) : V → Bool
  | .int i => decide (0 ≤ i) && decide (i ≤ m)
  | _ => false
theorem tyes_in {σ : L2.St} {H : Hp} {te : TE} {R : V → Hp → Prop} {N : Hp → Prop} (h : te σ H R) : tYes σ H (fun b H3 => if b = true then te σ H3 R else N H3) := by
  show (if true = true then te σ H R else N H)
  rw [if_pos rfl]
  exact h
theorem numV_true {m : Int} {x : V} : numV m x = true ↔ ∃ i, x = .int i ∧ 0 ≤ i ∧ i ≤ m := by
  cases x <;> simp [numV]
theorem TyOf.ext {K : PySem.W.Frag} {H H' : Hp} {x : V} {t : Value} (h : TyOf K H x t) (e : Ext H H') : TyOf K H' x t := by
  cases h with
  | non => exact .non
  | bl x => exact .bl x
  | int i => exact .int i
  | str x => exact .str x
  | flt x => exact .flt x
  | lst h => exact .lst (e _ _ h)
  | frz h => exact .frz (e _ _ h)
  | tup h => exact .tup (e _ _ h)
  | dK h => exact .dK (e _ _ h)
  | dT h => exact .dT (e _ _ h)
  | ins h c a b d f => exact .ins (e _ _ h) c a b d f
theorem TyX.ext {K : PySem.W.Frag} {H H' : Hp} {x : V} {t : Value} (h : TyX K H x t) (e : Ext H H') : TyX K H' x t := by
  cases h with
  | base h => exact .base (TyOf.ext h e)
  | byt b => exact .byt b
  | set h => exact .set (e _ _ h)
  | kList h c => exact .kList h c
  | kTuple h c => exact .kTuple h c
  | kDict h c => exact .kDict h c
  | fTuple h => exact .fTuple (e _ _ h)
  | fDict h => exact .fDict (e _ _ h)
theorem Th.ext {K : PySem.W.Frag} {H H' : Hp} (e : Ext H H') : ∀ {n : Nat} {x : V}, Th K H n x → Th K H' n x
  | 0, x, h => by
    unfold Th at h ⊢
    obtain ⟨t, a, b, c, d⟩ := h
    refine ⟨t, TyX.ext a e, b, c, ?_⟩
    rcases d with ⟨d, f⟩ | ⟨d, a, xs, g, f, _⟩
    · exact .inl ⟨d, fun a q => let ⟨o, h1, h2⟩ := f a q; ⟨o, e _ _ h1, h2⟩⟩
    · exact .inr ⟨d, a, xs, g, e _ _ f, True.intro⟩
  | n + 1, x, h => by
    unfold Th at h ⊢
    obtain ⟨t, a, b, c, d⟩ := h
    refine ⟨t, TyX.ext a e, b, c, ?_⟩
    rcases d with ⟨d, f⟩ | ⟨d, a, xs, g, f, i⟩
    · exact .inl ⟨d, fun a q => let ⟨o, h1, h2⟩ := f a q; ⟨o, e _ _ h1, h2⟩⟩
    · exact .inr ⟨d, a, xs, g, e _ _ f, fun y hy => Th.ext e (i y hy)⟩
/-- an arrow of m places -/
def isArr (H : Hp) (m : Int) (x : V) : Prop := ∃ (a : Addr) (p q : Int), x = .ref a ∧ H a = some (.tup [.int p, .int q]) ∧ 0 ≤ p ∧ p < m ∧ 0 ≤ q ∧ q < m
def spInteger (K : PySem.W.Frag) : Sp := fun vs H Q _ => ∃ x : V, vs = [x] ∧ Th K H 0 x ∧ Q (.bl (isI x)) H
def spNumber (K : PySem.W.Frag) : Sp := fun vs H Q _ => ∃ (m : Int) (x : V), vs = [.int m, x] ∧ Th K H 0 x ∧ Q (.bl (numV m x)) H
def spArrow (K : PySem.W.Frag) : Sp := fun vs H Q _ => ∃ (m : Int) (x : V), vs = [.int m, x] ∧ Th K H 1 x ∧ ∀ (b : Bool) (H' : Hp), (b = true ↔ isArr H m x) → Ext H H' → Q (.bl b) H'
section
variable {P : Program} {w : World} {K : PySem.W.Frag} {mg : Str → Option Value} {base : Heap}
theorem scInt : FnScope ["thing"] ["thing"] (defScope sInteger) := ⟨rfl, rfl, rfl, by decide +kernel, rfl, by decide +kernel, by decide +kernel⟩
theorem ok_integer {f : Addr} {fd : FuncData} (F : L2.Fun K "is_integer" "is_integer" sInteger f fd) (T : Gb mg) : FnOk P w K mg base CX0 1 f fd ["thing"] (spInteger K) := by
  refine F.ok scInt (fun vs H Q E h => ?_) (fun cdv A outer s H vs Q E hr h => ?_)
  · obtain ⟨x, rfl, _⟩ := h
    rfl
  · obtain ⟨x, rfl, th, k⟩ := h
    unfold Th at th
    obtain ⟨t, ty, ki, kb, _⟩ := th
    refine ⟨_, pss_one (ps_ret (pe_and (pe_callB call_isi (by rfl) T.isi (by decide +kernel) (pa_cons (pv 0) (pa_cons (pe_bltn (v := .ty "int") (by rfl) T.int (by decide +kernel) rfl) pa_nil)))
      (pe_one (pe_not (pe_callB call_isi (by rfl) T.isi (by decide +kernel) (pa_cons (pv 0) (pa_cons (pe_bltn (v := .ty "bool") (by rfl) T.bool (by decide +kernel) rfl) pa_nil))))))), ?_⟩
    refine ⟨_, rfl, x, .ty "int", t, .type "int", _, rfl, .ty _, ty, ki, _, rfl, ?_⟩
    cases x <;> first
      | exact iteF k
      | (refine iteT ⟨_, rfl, _, .ty "bool", t, .type "bool", _, rfl, .ty _, ty, kb, _, rfl, ?_⟩; exact k)
theorem scNum : FnScope ["most", "thing"] ["most", "thing"] (defScope sNumber) := ⟨rfl, rfl, rfl, by decide +kernel, rfl, by decide +kernel, by decide +kernel⟩
theorem ok_number {f : Addr} {fd : FuncData} (F : L2.Fun K "is_number" "is_number" sNumber f fd) (cI : Cal P w K mg base 1 "is_integer" (spInteger K) []) : FnOk P w K mg base CX0 2 f fd ["most", "thing"] (spNumber K) := by
  refine F.ok scNum (fun vs H Q E h => ?_) (fun cdv A outer s H vs Q E hr h => ?_)
  · obtain ⟨m, x, rfl, _⟩ := h
    rfl
  · obtain ⟨m, x, rfl, th, k⟩ := h
    refine ⟨_, pss_one (ps_ret (pe_and (C8.pe_c cI hr (by decide) (by rfl) (pa_cons (pv 1) pa_nil)) (pe_one (pe_chain op_le op_le pe_int (pv 1) (pv 0))))), ?_⟩
    refine ⟨_, rfl, x, rfl, th, _, rfl, ?_⟩
    cases x with
    | int i =>
      refine iteT ⟨_, rfl, _, _, rfl, rfl, _, rfl, ?_⟩
      by_cases h0 : (0 : Int) ≤ i
      · rw [decide_eq_true h0]
        refine iteT ⟨_, rfl, _, _, rfl, rfl, ?_⟩
        have e : numV m (.int i) = decide (i ≤ m) := by simp [numV, h0]
        rw [e] at k
        exact k
      · rw [decide_eq_false h0]
        have e : numV m (.int i) = false := by simp [numV, h0]
        rw [e] at k
        exact iteF k
    | _ => exact iteF k
theorem scArr : FnScope ["many", "thing", "place"] ["many", "thing"] (defScope sArrow) := ⟨rfl, rfl, rfl, by decide +kernel, rfl, by decide +kernel, by decide +kernel⟩
theorem ok_arrow {f : Addr} {fd : FuncData} (F : L2.Fun K "is_arrow" "is_arrow" sArrow f fd) (T : Gb mg) (cN : Cal P w K mg base 2 "is_number" (spNumber K) []) : FnOk P w K mg base CX0 3 f fd ["many", "thing"] (spArrow K) := by
  refine F.ok scArr (fun vs H Q E h => ?_) (fun cdv A outer s H vs Q E hr h => ?_)
  · obtain ⟨m, x, rfl, _⟩ := h
    rfl
  · obtain ⟨m, x, rfl, th, k⟩ := h
    unfold Th at th
    obtain ⟨t, ty, ki, kb, kt⟩ := th
    refine ⟨_, pss_cons (ps_if (PW.pt (pw_or (pt_not (pt_val (pe_callB call_isi (by rfl) T.isi (by decide +kernel) (pa_cons (pv 1) (pa_cons (pe_bltn (v := .ty "tuple") (by rfl) T.tup (by decide +kernel) rfl) pa_nil)))))
        (pw_or1 (pt_cmpR op_ne (pe_callB call_len_seq (by rfl) T.len PySem.boot_len (pa_cons (pv 1) pa_nil)) pe_int (nomark _))))) (pss_one (ps_ret pe_bl)) pss_nil)
      (pss_one (ps_ret (pe_callB (cr_all rfl) (by rfl) T.all (by decide +kernel) (pa_cons (pe_lc (own := [("place", 2)]) (g := gName 2) (tt := tYes) rfl scArr.nd (pi_tup (pv 1)) (blkOk_by (N := ["many", "thing", "place"]) (sc := defScope sArrow) (by decide +kernel)) (fun _ _ _ _ _ => pg_name (i := 2) scArr.nd rfl (Or.inl rfl)) (fun _ _ _ _ _ => pts_nil)
        (fun _ _ _ _ _ => C8.pe_c cN hr (by decide) (by rfl) (pa_cons (pe_op op_sub (pv 0) pe_int) (pa_cons (pv 2) pa_nil)))) pa_nil)))), ?_⟩
    rcases kt with ⟨kt, nt⟩ | ⟨kt, a, xs, rfl, ha, it⟩
    · refine ⟨_, rfl, x, .ty "tuple", t, .type "tuple", _, rfl, .ty _, ty, kt, _, rfl, ?_⟩
      refine iteT (iteT ?_)
      refine k false H ⟨fun z => Bool.noConfusion z, fun ⟨a, p, q, e, ha, _⟩ => by obtain ⟨o, h1, h2⟩ := nt a e; rw [ha] at h1; cases h1; exact absurd rfl (h2 _)⟩ Ext.rfl'
    · refine ⟨_, rfl, _, .ty "tuple", t, .type "tuple", _, rfl, .ty _, ty, kt, _, rfl, ?_⟩
      refine iteF ?_
      refine ⟨_, rfl, a, xs, rfl, .inr (SqT.of ha), rfl, _, rfl, ?_⟩
      by_cases hl : xs.length = 2
      · have hl' : (!decide (V.int (xs.length : Int) = V.int 2)) = false := by rw [hl]; rfl
        rw [hl']
        refine iteF ?_
        refine ⟨_, rfl, a, rfl, ⟨_, SqT.of ha⟩, fun D hD => ?_⟩
        have hda : a ≠ D := ne_of_none ha hD
        refine lc_tup (K := K) (a := a) (xs := xs) (fun i H' => H' = upd H D (.lst (((xs.take i).map (numV (m - 1))).map V.bl))) (by simp) (fun i H' _ e => by subst e; exact SqT.of (by rw [upd_ne hda]; exact ha)) ?_ ?_
        · rintro i y H' hi rfl
          refine ⟨rfl, tyes_in ?_⟩
          have hy : y ∈ xs := List.mem_of_getElem? hi
          have it' : ∀ y ∈ xs, Th K H 0 y := it
          have ty0 : Th K (upd H D (.lst (((xs.take i).map (numV (m - 1))).map V.bl))) 0 y := (it' y hy).ext (Ext.upd hD)
          refine ⟨_, rfl, _, _, rfl, rfl, _, rfl, m - 1, y, rfl, ty0, _, upd_same, small1000 (by simp; omega), ?_⟩
          rw [upd_upd, List.take_succ, hi]
          simp
        · rintro H' rfl
          refine ⟨D, (xs.take xs.length).map (numV (m - 1)), rfl, SqL.of upd_same, ?_⟩
          refine k _ _ ?_ (Ext.upd hD)
          match xs, hl with
          | [u, v], _ =>
            show (numV (m - 1) u && (numV (m - 1) v && true)) = true ↔ _
            rw [Bool.and_true, Bool.and_eq_true, numV_true, numV_true]
            constructor
            · rintro ⟨⟨p, rfl, hp⟩, ⟨q, rfl, hq⟩⟩
              exact ⟨a, p, q, rfl, ha, hp.1, by omega, hq.1, by omega⟩
            · rintro ⟨b, p, q, e, hb, h1, h2, h3, h4⟩
              cases e
              rw [ha] at hb
              cases hb
              exact ⟨⟨p, rfl, h1, by omega⟩, ⟨q, rfl, h3, by omega⟩⟩
      · have hl' : (!decide (V.int (xs.length : Int) = V.int 2)) = true := by
          have : ¬ (V.int (xs.length : Int) = V.int 2) := fun z => hl (by injection z with z; omega)
          simp [this]
        rw [hl']
        refine iteT ?_
        refine k false H ⟨fun z => Bool.noConfusion z, fun ⟨b, p, q, e, hb, _⟩ => ?_⟩ Ext.rfl'
        cases e
        rw [ha] at hb
        cases hb
        exact absurd rfl hl
end
end R23

set_option Elab.async false
set_option linter.all false
set_option maxRecDepth 100000
set_option maxHeartbeats 4000000
/-! enumerate over a tuple that is tracked: the iterator (by the library's WalksT.enumerateD over Draws.tuple), the rule of the layer, the loop. -/
namespace R23
open PySem L2 PyProof.Rows
open PySem.Sem (wp)
theorem en_new (l : Addr) (us : Array Value) (n : Nat) (dd : Option Addr) (sl : Array (Option Value)) :
    Meets (Builtin.«enumerate.__new__» ⟨[.type "enumerate", .ref l], []⟩) fun _ R s => s.heap.get? l = some { cls := .type "tuple", dict := dd, data := .seq us n, slots := sl } ∧
      R (.ok (.ret (.ref (s.heap.objs.size + 1)))) { s with heap := (s.heap.push { cls := .type "tuple_iterator", data := .fields #[.ref l, .int 0 0] }).push { cls := .type "enumerate", data := .fields #[.none, .bool false, .ref s.heap.objs.size, rawInt 0, .none, .none] } } := by
  refine .of_wp fun prog w A R s hh => ?_
  rcases s with ⟨hp, gs, dr, tk, os⟩
  rcases hh with ⟨there, hR⟩
  have isT : Heap.IsTuple (Shared.heap ⟨hp, gs, dr, tk, os⟩) l us := ⟨_, there, rfl, n, rfl⟩
  have same := sub_enumerate
  have big : (hp.push { cls := .type "tuple_iterator", data := .fields #[.ref l, .int 0 0] }).objs.size = hp.objs.size + 1 := Heap.size_push ..
  have hR' : R (.ok (.ret (.ref (hp.push { cls := .type "tuple_iterator", data := .fields #[.ref l, .int 0 0] }).objs.size))) ⟨(hp.push { cls := .type "tuple_iterator", data := .fields #[.ref l, .int 0 0] }).push { cls := .type "enumerate", data := .fields #[.none, .bool false, .ref hp.objs.size, rawInt 0, .none, .none] }, gs, dr, tk, os⟩ := by
    rw [big]; exact hR
  wp_walk using AutoSeq1.wpAny_loadPart' there
  refine wpAny_stack_any fun st => wpAny_pure ?_
  split
  · rename_i c _ _ _ _ _
    cases (c == Value.type "enumerate") <;>
    · wp_walk using AutoSeq1.wpAny_loadPart' there, wpAny_pyIter_tuple isT
      exact ⟨_, rfl, hR'⟩
  · wp_walk using AutoSeq1.wpAny_loadPart' there, wpAny_pyIter_tuple isT
    exact ⟨_, rfl, hR'⟩
theorem call_en {prog : Program} {w : World} {A : Around} {E : Value → Shared → Prop} {s : Shared} {l : Addr} {us : Array Value} {Q : Value → Shared → Prop} (isT : s.heap.IsTuple l us)
    (h : ∀ h' : Heap, IsEnum h' (s.heap.objs.size + 1) s.heap.objs.size 0 .none → h'.IsTupleIter s.heap.objs.size l 0 → (∀ b o, s.heap.get? b = some o → h'.get? b = some o) → Q (.ref (s.heap.objs.size + 1)) { s with heap := h' }) :
    wpAny (model prog w) A (call (.type "enumerate") [.ref l]) Q E s := by
  rcases isT with ⟨⟨c, dd, dt, sl⟩, there, hc, n, hd⟩
  obtain rfl : c = .type "tuple" := hc
  obtain rfl : dt = .seq us n := hd
  refine callType_new F.called_enumerate (by decide) (F.typeCall_enumerate_1 _) (F.newCall_enumerate_1 _) (fun obj => F.args_object_init_2 obj _) F.entry_enumerate_new (en_new l us n dd sl) ⟨there, ?_⟩
  have big : (s.heap.push { cls := .type "tuple_iterator", data := .fields #[.ref l, .int 0 0] }).objs.size = s.heap.objs.size + 1 := Heap.size_push ..
  have en : IsEnum ((s.heap.push { cls := .type "tuple_iterator", data := .fields #[.ref l, .int 0 0] }).push { cls := .type "enumerate", data := .fields #[.none, .bool false, .ref s.heap.objs.size, rawInt 0, .none, .none] }) (s.heap.objs.size + 1) s.heap.objs.size 0 .none := by
    rw [← big]
    exact Heap.get?_push_size _ rfl
  exact ⟨⟨_, en, rfl⟩, h _ en ⟨_, Heap.get?_push_of_some _ (Heap.get?_push_size _ rfl), rfl, rfl⟩ fun b o z => Heap.get?_push_of_some _ (Heap.get?_push_of_some _ z)⟩
/-- the items of the tracked tuple at a, each in a new pair with its number -/
def ItEn (a : Addr) : It where
  go := fun i H => ∃ (xs : List V) (x : V), H a = some (.tup xs) ∧ xs[i]? = some x
  yld := fun i H v H' => ∃ (p : Addr) (x : V), v = .ref p ∧ H p = none ∧ H' = upd H p (.tup [.int (i : Nat), x]) ∧ ∀ xs, H a = some (.tup xs) → xs[i]? = some x
  stop := fun i H => ∃ xs : List V, H a = some (.tup xs) ∧ xs.length = i
def enAt (a e it : Addr) (i : Nat) (h : Heap) : Prop := (∃ old, IsEnum h e it (i : Int) old) ∧ h.IsTupleIter it a i ∧ e ≠ it
section
variable {X : Cx} {pins : List (Addr × Obj)} {σ : L2.St} {H : Hp} {s : Shared} {a e it : Addr} {xs : List V}
/-- the library's walk, at a state that the layer knows -/
theorem en_walk (hc : X.calm = true) (I : Inv X pins σ H s) (hf : ∀ b ∈ [e, it], FpOk X pins H b) (hne : e ≠ it) (hq : H a = some (.tup xs)) :
    ∃ its : List Value, Vals xs its ∧ s.heap.IsTuple a its.toArray ∧ WalksT X.prog X.w X.A e (e :: [it, a]) [e, it] its.toArray.size (fun i vals => ∃ t x, its.toArray[i]? = some x ∧ vals = #[.int i t, x])
      (fun i h => (∃ old, IsEnum h e it i old) ∧ (h.IsTupleIter it a i ∧ h.IsTuple a its.toArray)) (fun i T h => (∃ x, IsEnumOut h e it ((i : Int) + 1) x T) ∧ (h.IsTupleIter it a (i + 1) ∧ h.IsTuple a its.toArray) ∧ T ≠ e ∧ T ≠ it) := by
  obtain ⟨its, rv, p, _⟩ := I.tuple (SqT.of hq)
  have un : ∀ b ∈ [e, it], b ≠ a := fun b hb z => by
    have n := (hf b hb).1
    rw [z, hq] at n
    cases n
  refine ⟨its, rv, p, WalksT.enumerateD (Draws.tuple (A := X.A.in1) (I.ok.hd hc) it a (Ne.symm (un it (by simp))) its.toArray) e hne ?_ (by simp)⟩
  intro z
  rcases List.mem_cons.mp z with z | z
  · exact hne z
  · exact un e (by simp) (List.mem_singleton.mp z)
end
theorem en_turn {P : Program} {w : World} {K : PySem.W.Frag} {elts : List Expr} {kk : Nat} {tpos : Pos} (a e it : Addr) : Turn P w K (.Tuple elts kk tpos) (ItEn a) [e, it] e (enAt a e it) := by
  refine ⟨by simp, fun i h st b hb => ?_, fun i h h' st k => ⟨?_, ?_, st.2.2⟩, ?_, ?_, fun A i s Q E st q => ?_⟩
  · rcases st with ⟨⟨old, en⟩, ⟨ob, there, _, dt⟩, _⟩
    rcases List.mem_cons.mp hb with z | z
    · subst z
      exact ⟨_, en, fun v q => by cases q⟩
    · rw [List.mem_singleton.mp z]
      exact ⟨ob, there, fun v q => by rw [dt] at q; cases q⟩
  · exact st.1.imp fun old en => k e (by simp) _ en
  · exact st.2.1.at fun ob z => k it (by simp) ob z
  · intro X eP eW eK hc i pins s σ H E I hf st go
    subst eP eW eK
    obtain ⟨xs, x, hq, hx⟩ := go
    obtain ⟨its, rv, isT, W⟩ := en_walk hc I hf st.2.2 hq
    obtain ⟨u, hu, ru⟩ := rv.get hx
    have lt : i < its.toArray.size := by simpa using (List.getElem?_eq_some_iff.mp hu).1
    refine W.item i s _ E lt ⟨st.1, st.2.1, isT⟩ fun T vals h1 tk pt big hT mid keep1 => ⟨_, rfl, ?_⟩
    obtain ⟨t, y, hy, rfl⟩ := pt
    obtain rfl : y = u := by
      have hu' : its.toArray[i]? = some u := by simpa using hu
      exact Option.some.inj (hy.symm.trans hu')
    refine W.go elts kk tpos i T { s with heap := h1, toks := tk } _ E mid fun h2 st2 keep2 => ?_
    have nT : T ∉ [e, it] := W.apart i T h1 mid
    have hT2 : h2.IsTuple T #[.int (i : Nat) t, y] := hT.at fun ob z => keep2 T ob nT z
    have J : Inv X pins σ (upd H T (.tup [.int (i : Nat), x])) { s with heap := h2, toks := tk } :=
      I.turnedNew (ch := [e, it]) (fun b ob hb z => keep2 b ob hb (keep1 b ob hb z)) hf big ⟨by show 2 ≤ sizeLine; decide, [.int i t, y], .cons ⟨_, rfl⟩ (.cons ru .nil), hT2⟩
    refine ⟨.ref T, _, J, rfl, ⟨T, x, rfl, I.hok.fresh big, rfl, fun ys hy => by rw [hq] at hy; cases hy; exact hx⟩, ⟨st2.1, st2.2.1, st.2.2⟩, fun b hb => ?_⟩
    have nb : b ≠ T := fun z => nT (by rw [← z]; exact hb)
    rw [upd_ne nb]
    exact (hf b hb).1
  · intro X eP eW eK hc i pins s σ H E I hf st stop
    subst eP eW eK
    obtain ⟨xs, hq, hl⟩ := stop
    obtain ⟨its, rv, isT, W⟩ := en_walk hc I hf st.2.2 hq
    have ei : its.toArray.size = i := by
      rw [← hl, rv.length]
      simp
    refine W.done s _ E ?_ fun h1 tk keep => ⟨rfl, ?_⟩
    · rw [ei]
      exact ⟨st.1, st.2.1, isT⟩
    · exact I.turnedL (ch := [e, it]) keep hf
  · exact wpAny_pyIter_enum st.1.choose_spec q
def iEn (ta : TA) : TI := fun σ H R => ta σ H fun vs H1 => ∃ (a : Addr) (xs : List V), vs = [.ref a] ∧ H1 a = some (.tup xs) ∧ R (ItEn a) H1
/-- for .., .. in enumerate(a tuple) -/
theorem pi_en {X : Cx} {e : Expr} {ta : TA} {p pos tpos : Pos} {elts : List Expr} {kk : Nat} (hg : Gl X "enumerate") (hm : X.mg "enumerate" = none) (ha : PA X [e] ta) (hs : starEach [e] X.env = [(false, eval e X.env)] := by rfl) :
    PI X (.Tuple elts kk tpos) (.Call (.Name "enumerate" p) [e] [] pos) (iEn ta) := by
  constructor
  intro pins s σ H R I h
  refine Call_ (ld_blt I hg hm boot_enumerate (PyProof.Rows.callWith_type1 (thn (ha.run pos pins s σ H _ I h) ?_) hs rfl))
  rintro us s1 ⟨vs, H1, I1, r, a, xs, rfl, hq, q⟩
  match us, r with
  | [u], .cons ru .nil =>
    obtain rfl : u = Value.ref a := ru
    obtain ⟨its, rv, isT, _⟩ := I1.tuple (SqT.of hq)
    refine call_en isT fun h1 en ti keep => wpAny_pyIter_enum en ?_
    refine ⟨_, [s1.heap.objs.size + 1, s1.heap.objs.size], _, _, H1, rfl, I1.kept (t' := s1.toks) keep, en_turn a _ _, ⟨⟨.none, en⟩, ti, Nat.succ_ne_self _⟩, fun b hb => ?_, q⟩
    have big : s1.heap.objs.size ≤ b := by
      rcases List.mem_cons.mp hb with z | z
      · rw [z]; exact Nat.le_succ _
      · rw [List.mem_singleton.mp z]; exact Nat.le_refl _
    exact I1.fpOk big (I1.hok.fresh big)
/-- the loop by an invariant of its own -/
theorem for_en {a : Addr} {xs : List V} {g : TG} {tb : TS} {D : Ends} {σ : L2.St} {H : Hp} (Pv : Nat → L2.St → Hp → Prop) (h0 : Pv 0 σ H) (hl : ∀ i σ H, Pv i σ H → H a = some (.tup xs))
    (hs : ∀ (i : Nat) x σ H p, xs[i]? = some x → Pv i σ H → H p = Option.none → g (.ref p) σ (upd H p (.tup [.int (i : Nat), x])) fun σ2 H2 => tb { D with nx := Pv (i + 1), ct := Pv (i + 1), bk := D.nx } σ2 H2) (hd : ∀ σ H, Pv xs.length σ H → D.nx σ H) :
    ∃ W : Nat → Nat → L2.St → Hp → Prop, (∃ m, W 0 m σ H) ∧ ∀ i m σ H, W i m σ H → ((ItEn a).stop i H ∧ D.nx σ H) ∨ ((ItEn a).go i H ∧ ∃ N : L2.St → Hp → Prop, (∀ σ' H', N σ' H' → ∃ m', m' < m ∧ W (i + 1) m' σ' H') ∧ ∀ x H', (ItEn a).yld i H x H' → g x σ H' fun σ2 H2 => tb { D with nx := N, ct := N, bk := D.nx } σ2 H2) := by
  refine ⟨fun i m σ H => i + m = xs.length ∧ Pv i σ H, ⟨_, Nat.zero_add _, h0⟩, ?_⟩
  intro i m σ H ⟨em, p⟩
  have q := hl i σ H p
  cases m with
  | zero =>
    have ei : i = xs.length := em
    rw [ei] at p ⊢
    exact .inl ⟨⟨xs, q, rfl⟩, hd σ H p⟩
  | succ m =>
    have lt : i < xs.length := by omega
    have hx : xs[i]? = some xs[i] := List.getElem?_eq_getElem lt
    refine .inr ⟨⟨xs, _, q, hx⟩, Pv (i + 1), fun σ' H' p' => ⟨m, Nat.lt_succ_self m, by omega, p'⟩, ?_⟩
    rintro y H' ⟨t, x, rfl, nt, rfl, hy⟩
    obtain rfl : x = xs[i] := Option.some.inj ((hy xs q).symm.trans hx)
    exact hs i _ σ H t hx p nt
end R23

set_option Elab.async false
set_option linter.all false
set_option maxRecDepth 100000
set_option maxHeartbeats 4000000
namespace R23
open PySem L2 K9M
abbrev sWebI : Stmt := inClass (top 13) 0
/-- what is tracked but for the pot -/
def Off (a : Addr) (H : Hp) : Hp := fun b => if b = a then none else match H b with
  | some (.tbl _) => none
  | o => o
theorem off_at {a b : Addr} {H : Hp} {o : HO} (h : b ≠ a) (e : H b = some o) (nt : ∀ ps, o ≠ .tbl ps) : Off a H b = some o := by
  unfold Off
  rw [if_neg h, e]
  cases o with
  | tbl ps => exact absurd rfl (nt ps)
  | _ => rfl
theorem off_some {a b : Addr} {H : Hp} {o : HO} (h : Off a H b = some o) : b ≠ a ∧ H b = some o ∧ ∀ ps, o ≠ .tbl ps := by
  unfold Off at h
  by_cases e : b = a
  · rw [if_pos e] at h; cases h
  · rw [if_neg e] at h
    cases q : H b with
    | none => rw [q] at h; cases h
    | some u =>
      rw [q] at h
      cases u with
      | tbl ps => cases h
      | _ => cases h; exact ⟨e, rfl, fun _ z => nomatch z⟩
theorem Off.ext {a : Addr} {H H' : Hp} (g : ∀ b o, b ≠ a → H b = some o → H' b = some o) : Ext (Off a H) (Off a H') := fun b o h => by
  obtain ⟨n, e, nt⟩ := off_some h
  exact off_at n (g b o n e) nt
theorem Go.off {a : Addr} {H H' : Hp} (g : Go a H H') : Ext (Off a H) (Off a H') := Off.ext g.2
theorem Go.of_ext {a : Addr} {H H' : Hp} (p : PotAt H a) (e : Ext H H') : Go a H H' := by
  obtain ⟨c, ns, i, z, s, n, h1, h2⟩ := p
  exact ⟨⟨c, ns, i, z, s, n, e _ _ h1, e _ _ h2⟩, fun b o _ h => e b o h, fun c xs h => ⟨xs, e _ _ h⟩⟩
theorem pot_no {H : Hp} {a b : Addr} {o : HO} (p : PotAt H a) (h : H b = some o) (no : ∀ xs, o ≠ .lst xs) : b ≠ a := by
  obtain ⟨c, ns, i, z, s, n, h1, h2⟩ := p
  intro e
  rw [e, h1] at h
  cases h
  exact no _ rfl
/-! ### kinds of things -/
section
variable {K : PySem.W.Frag} {S : Hp} {n : Nat}
theorem Th.plain {x : V} {t : Value} (ty : TyX K S x t) (h1 : PySem.W.kitOne K t (.type "int") = some (isI x || isB x)) (h2 : PySem.W.kitOne K t (.type "bool") = some (isB x)) (h3 : PySem.W.kitOne K t (.type "tuple") = some false)
    (h : ∀ a, x = .ref a → ∃ o, S a = some o ∧ ∀ xs, o ≠ .tup xs) : Th K S n x := by
  unfold Th
  exact ⟨t, ty, h1, h2, .inl ⟨h3, h⟩⟩
theorem Th.non : Th K S n .non := Th.plain (.base .non) (kit_ty (by decide +kernel)) (kit_ty (by decide +kernel)) (kit_ty (by decide +kernel)) fun _ h => nomatch h
theorem Th.bl (b : Bool) : Th K S n (.bl b) := Th.plain (.base (.bl b)) (kit_ty (show kitB "bool" "int" = some true by decide +kernel)) (kit_ty (show kitB "bool" "bool" = some true by decide +kernel)) (kit_ty (by decide +kernel)) fun _ h => nomatch h
theorem Th.int (i : Int) : Th K S n (.int i) := Th.plain (.base (.int i)) (kit_ty (show kitB "int" "int" = some true by decide +kernel)) (kit_ty (show kitB "int" "bool" = some false by decide +kernel)) (kit_ty (by decide +kernel)) fun _ h => nomatch h
theorem Th.str (z : Str) : Th K S n (.str z) := Th.plain (.base (.str z)) (kit_ty (show kitB "str" "int" = some false by decide +kernel)) (kit_ty (show kitB "str" "bool" = some false by decide +kernel)) (kit_ty (by decide +kernel)) fun _ h => nomatch h
theorem Th.lst {p : Addr} {xs : List V} (h : S p = some (.lst xs)) : Th K S n (.ref p) :=
  Th.plain (.base (.lst h)) (kit_ty (show kitB "list" "int" = some false by decide +kernel)) (kit_ty (show kitB "list" "bool" = some false by decide +kernel)) (kit_ty (by decide +kernel)) fun a e => by cases e; exact ⟨_, h, fun _ z => nomatch z⟩
theorem Th.dct {p : Addr} {kvs : List (Key × V)} (h : S p = some (.dK kvs)) : Th K S n (.ref p) :=
  Th.plain (.base (.dK h)) (kit_ty (show kitB "dict" "int" = some false by decide +kernel)) (kit_ty (show kitB "dict" "bool" = some false by decide +kernel)) (kit_ty (by decide +kernel)) fun a e => by cases e; exact ⟨_, h, fun _ z => nomatch z⟩
theorem Th.tup {p : Addr} {xs : List V} (h : S p = some (.tup xs)) (it : ∀ y ∈ xs, Th K S n y) : Th K S (n + 1) (.ref p) := by
  unfold Th
  exact ⟨_, .base (.tup h), kit_ty (show kitB "tuple" "int" = some false by decide +kernel), kit_ty (show kitB "tuple" "bool" = some false by decide +kernel), .inr ⟨kit_ty (by decide +kernel), p, xs, rfl, h, it⟩⟩
end
theorem Th.tup0 {K : PySem.W.Frag} {S : Hp} {p : Addr} {xs : List V} (h : S p = some (.tup xs)) : Th K S 0 (.ref p) := by
  unfold Th
  exact ⟨_, .base (.tup h), kit_ty (show kitB "tuple" "int" = some false by decide +kernel), kit_ty (show kitB "tuple" "bool" = some false by decide +kernel), .inr ⟨kit_ty (by decide +kernel), p, xs, rfl, h, True.intro⟩⟩
theorem off_le {a : Addr} {H : Hp} : Ext (Off a H) H := fun b o h => (off_some h).2.1
/-- .. over the making of lambdas, too -/
theorem off_extN {a : Addr} {H H' : Hp} (e : LamX.ExtN H H') : Ext (Off a H) H' := fun b o h => e b o (off_some h).2.1 (off_some h).2.2
def spAny : Sp := fun vs H Q _ => ∃ (a l : Addr) (xs : List V), vs = [.ref a, .ref l] ∧ PotAt H a ∧ l ≠ a ∧ H l = some (.lst xs) ∧ xs ≠ [] ∧ xs.length ≤ 1000 ∧ ∀ (x : V) (H' : Hp), x ∈ xs → Go a H H' → Q x H'
/-- a tuple of tuples of ints stands at b -/
def TT (H : Hp) (b : Addr) (ll : List (List Int)) : Prop := ∃ as : List Addr, H b = some (.tup (as.map V.ref)) ∧ Paired (fun a l => H a = some (.tup (l.map V.int))) as ll
theorem Paired.imp' {α β : Type} {F G : α → β → Prop} (h : ∀ a b, F a b → G a b) : ∀ {l : List α} {k : List β}, Paired F l k → Paired G l k
  | _, _, .nil => .nil
  | _, _, .cons a r => .cons (h _ _ a) (Paired.imp' h r)
theorem TT.ext {H H' : Hp} {b : Addr} {ll : List (List Int)} (e : Ext H H') (h : TT H b ll) : TT H' b ll := by
  obtain ⟨as, h1, h2⟩ := h
  exact ⟨as, e _ _ h1, Paired.imp' (fun a l h => e _ _ h) h2⟩
/-! ### lists of arrows -/
def ArrL (m : Int) (l : List Int) : Prop := ∃ p q : Int, l = [p, q] ∧ 0 ≤ p ∧ p < m ∧ 0 ≤ q ∧ q < m
/-- the tuples at these places are these -/
abbrev PT2 (S : Hp) (as : List Addr) (ll : List (List Int)) : Prop := Paired (fun a l => S a = some (.tup (l.map V.int))) as ll
theorem PT2.len {S : Hp} : ∀ {as : List Addr} {ll : List (List Int)}, PT2 S as ll → as.length = ll.length
  | _, _, .nil => rfl
  | _, _, .cons _ r => congrArg (· + 1) (PT2.len r)
theorem PT2.get {S : Hp} : ∀ {as : List Addr} {ll : List (List Int)} {i : Nat} {a : Addr}, PT2 S as ll → as[i]? = some a → ∃ l, ll[i]? = some l ∧ S a = some (.tup (l.map V.int))
  | _, _, i, _, .nil, h => by simp at h
  | _, _, 0, _, .cons x _, h => by cases h; exact ⟨_, rfl, x⟩
  | _, _, i + 1, _, .cons _ r, h => PT2.get (i := i) r (by simpa using h)
theorem PT2.put {S : Hp} {b : Addr} {l : List Int} (h : S b = some (.tup (l.map V.int))) : ∀ {as : List Addr} {ll : List (List Int)} {i : Nat}, PT2 S as ll → PT2 S (as.set i b) (ll.set i l)
  | _, _, i, .nil => by simpa using (Paired.nil)
  | _, _, 0, .cons _ r => .cons h r
  | _, _, i + 1, .cons x r => .cons x (PT2.put h r)
theorem PT2.snoc {S : Hp} {b : Addr} {l : List Int} {as : List Addr} {ll : List (List Int)} (r : PT2 S as ll) (h : S b = some (.tup (l.map V.int))) : PT2 S (as ++ [b]) (ll ++ [l]) := Paired.snoc r h
theorem PT2.mono {S S' : Hp} {as : List Addr} {ll : List (List Int)} (e : ∀ b xs, S b = some (.tup xs) → S' b = some (.tup xs)) (r : PT2 S as ll) : PT2 S' as ll := Paired.imp' (fun a l h => e _ _ h) r
theorem PT2.th {K : PySem.W.Frag} {S : Hp} {n : Nat} {as : List Addr} {ll : List (List Int)} (r : PT2 S as ll) : ∀ y ∈ as.map V.ref, Th K S (n + 1) y := by
  intro y hy
  obtain ⟨a, ha, rfl⟩ := List.mem_map.mp hy
  obtain ⟨i, hi⟩ := List.mem_iff_getElem?.mp ha
  obtain ⟨l, _, h⟩ := r.get hi
  refine Th.tup h fun z hz => ?_
  obtain ⟨k, _, rfl⟩ := List.mem_map.mp hz
  exact Th.int k
theorem PT2.arr {S : Hp} {m : Int} {as : List Addr} {ll : List (List Int)} (r : PT2 S as ll) (h : ∀ l ∈ ll, ArrL m l) {i : Nat} {y : V} (hy : (as.map V.ref)[i]? = some y) : isArr S m y := by
  rw [List.getElem?_map] at hy
  cases e : as[i]? with
  | none => rw [e] at hy; cases hy
  | some a =>
    rw [e] at hy
    cases hy
    obtain ⟨l, hl, ha⟩ := r.get e
    obtain ⟨p, q, rfl, b⟩ := h l (List.mem_of_getElem? hl)
    exact ⟨a, p, q, rfl, ha, b⟩
def arL (a : Nat × Nat) : List Int := [(a.1 : Int), (a.2 : Int)]
/-- of arrows, the i-th one -/
theorem TT.arrow {H : Hp} {as : List Addr} {A : Ar} (h : PT2 H as (A.map arL)) {i : Nat} {x : V} (hx : (as.map V.ref)[i]? = some x) : ∃ (c : Addr) (a : Nat × Nat), x = .ref c ∧ A[i]? = some a ∧ H c = some (.tup [.int (a.1 : Int), .int (a.2 : Int)]) := by
  rw [List.getElem?_map] at hx
  cases e : as[i]? with
  | none => rw [e] at hx; cases hx
  | some c =>
    rw [e] at hx
    cases hx
    obtain ⟨l, hl, hc⟩ := h.get e
    rw [List.getElem?_map] at hl
    cases e2 : A[i]? with
    | none => rw [e2] at hl; cases hl
    | some a =>
      rw [e2] at hl
      cases hl
      exact ⟨c, a, rfl, rfl, hc⟩
/-- a Web's attributes, in the order in which they are stored -/
def wf (m : Int) (y : V) : List (Str × V) := [("many", V.int m), ("arrows", y)]
structure WebC (K : PySem.W.Frag) (mg : Str → Option Value) (C : Addr) : Prop where
  cl : Cls K C
  nM : NoAttr K C "many"
  nA : NoAttr K C "arrows"
  mgC : mg "Web" = some (.ref C)
  mp : ∃ t, mg "MOST_PLACES" = some (.int 8 t)
  ma : ∃ t, mg "MOST_ARROWS" = some (.int 12 t)
theorem isArr.ext {H H' : Hp} {m : Int} {x : V} (e : Ext H H') (h : isArr H m x) : isArr H' m x := by
  obtain ⟨a, p, q, ex, ha, r⟩ := h
  exact ⟨a, p, q, ex, e _ _ ha, r⟩
/-- a Web stands at p, of so many places, with the arrows at b -/
def WebAt (C : Addr) (H : Hp) (p : Addr) (m : Int) (b : Addr) : Prop := ∃ dx, H p = some (.ins C dx (wf m (.ref b)))
theorem wf_many (m : Int) (y : V) : (wf m y).lookup ("many" : Str) = some (.int m) := by rfl
theorem wf_arrows (m : Int) (y : V) : (wf m y).lookup ("arrows" : Str) = some y := by rfl
/-- arrows of m places stand at b -/
def AT (H : Hp) (m : Int) (b : Addr) (ll : List (List Int)) : Prop := TT H b ll ∧ ll.length ≤ 12 ∧ ∀ l ∈ ll, ArrL m l
theorem AT.ext {H H' : Hp} {m : Int} {b : Addr} {ll : List (List Int)} (e : Ext H H') (h : AT H m b ll) : AT H' m b ll := ⟨h.1.ext e, h.2⟩
theorem AT.th {K : PySem.W.Frag} {H : Hp} {m : Int} {b : Addr} {ll : List (List Int)} (h : AT H m b ll) : Th K H 2 (.ref b) := by
  obtain ⟨⟨as, hb, pt⟩, _⟩ := h
  exact Th.tup hb (PT2.th pt)
theorem AT.arr {H : Hp} {m : Int} {b : Addr} {ll : List (List Int)} (h : AT H m b ll) {xs : List V} (hb : H b = some (.tup xs)) : xs.length ≤ 12 ∧ ∀ z ∈ xs, isArr H m z := by
  obtain ⟨⟨as, hb', pt⟩, hl, ar⟩ := h
  rw [hb] at hb'
  cases hb'
  refine ⟨by rw [List.length_map, PT2.len pt]; exact hl, fun z hz => ?_⟩
  obtain ⟨i, hi⟩ := List.mem_iff_getElem?.mp hz
  exact PT2.arr pt ar hi
theorem WebAt.ext {C p b : Addr} {m : Int} {H H' : Hp} (e : Ext H H') (h : WebAt C H p m b) : WebAt C H' p m b := h.imp fun _ h => e _ _ h
def spWebR (CW : Addr) : Sp := fun vs H Q _ => ∃ (p dx b : Addr) (m : Int) (ll : List (List Int)), vs = [.ref p, .int m, .ref b] ∧ H p = some (.ins CW dx []) ∧ 1 ≤ m ∧ m ≤ 8 ∧ AT H m b ll ∧
  ∀ H' : Hp, H' p = some (.ins CW dx (wf m (.ref b))) → (∀ c o, c ≠ p → H c = some o → H' c = some o) → Q .non H'
theorem mk_webR {CW : Addr} {H : Hp} {m : Int} {b : Addr} {ll : List (List Int)} {Q : Addr → Hp → Prop} (h1 : 1 ≤ m) (h8 : m ≤ 8) (at' : AT H m b ll) (k : ∀ (o : Addr) (H' : Hp), WebAt CW H' o m b → Ext H H' → Q o H') :
    ∀ x dx, H x = none → H dx = none → dx ≠ x → spWebR CW (.ref x :: ([.int m, .ref b] ++ [])) (upd (upd H dx (.own x)) x (.ins CW dx [])) (fun v H2 => v = .non ∧ Q x H2) E0 := by
  intro x dx nx ndx ne
  have e1 : Ext H (upd (upd H dx (.own x)) x (.ins CW dx [])) := (Ext.upd ndx).trans (Ext.upd (by rw [upd_ne ne.symm]; exact nx))
  exact ⟨x, dx, b, m, ll, rfl, upd_same, h1, h8, at'.ext e1, fun H' hw kp => ⟨rfl, k x H' ⟨dx, hw⟩ fun c u hc => kp c u (ne_of_none hc nx) (e1 _ _ hc)⟩⟩
section
variable {P : Program} {w : World} {K : PySem.W.Frag} {mg : Str → Option Value} {base : Heap}
theorem scAny : FnScope ["purse", "some"] ["purse", "some"] (defScope sAny) := ⟨rfl, rfl, rfl, by decide +kernel, rfl, by decide +kernel, by decide +kernel⟩
theorem ok_any {f : Addr} {fd : FuncData} (F : L2.Fun K "_law_one" "_law_one" sAny f fd) (T : Gb mg) (cD : Cal P w K mg base 1 "_law_part" spDraw []) : FnOk P w K mg base CX0 2 f fd ["purse", "some"] spAny := by
  refine F.ok scAny (fun vs H Q E h => ?_) (fun cdv A outer s H vs Q E hr h => ?_)
  · obtain ⟨a, l, xs, rfl, _⟩ := h
    rfl
  · obtain ⟨a, l, xs, rfl, pot, nl, hl, ne, len, k⟩ := h
    refine ⟨_, pss_one (ps_ret (pe_ix ix_list (pv 1) (C8.pe_c cD hr (by decide) (by rfl) (pa_cons (pv 0) (pa_cons (pe_callB call_len_seq (by rfl) T.len PySem.boot_len (pa_cons (pv 1) pa_nil)) pa_nil))) (fun _ _ => rfl))), ?_⟩
    have pos : 0 < xs.length := List.length_pos_iff.mpr ne
    refine ⟨_, rfl, _, rfl, _, rfl, l, xs, rfl, .inl (SqL.of hl), a, _, rfl, pot, by omega, by omega, fun r H' h0 hlt go => ?_⟩
    have lt : r.toNat < xs.length := by omega
    refine ⟨l, xs, r, xs[r.toNat], rfl, rfl, SqL.of (go.2 _ _ nl hl), at_of (j := r.toNat) (by omega) (List.getElem?_eq_getElem lt), ?_⟩
    exact k _ _ (List.getElem_mem lt) go
theorem scWebI : FnScope ["self", "many", "arrows", "at", "arrow"] ["self", "many", "arrows"] (defScope sWebI) := ⟨rfl, rfl, rfl, by decide +kernel, rfl, by decide +kernel, by decide +kernel⟩
theorem ok_webR {f CW : Addr} {fd : FuncData} (F : L2.Fun K "__init__" "Web.__init__" sWebI f fd) (T : Gb mg) (W : WebC K mg CW) (cN : Cal P w K mg base 2 "is_number" (spNumber K) []) (cA : Cal P w K mg base 3 "is_arrow" (spArrow K) []) :
    FnOk P w K mg base CX0 4 f fd ["self", "many", "arrows"] (spWebR CW) := by
  obtain ⟨t8, h8⟩ := W.mp
  obtain ⟨t12, h12⟩ := W.ma
  refine F.ok scWebI (fun vs H Q E h => ?_) (fun cdv A outer s H vs Q E hr h => ?_)
  · obtain ⟨p, dx, b, m, ll, rfl, _⟩ := h
    rfl
  · obtain ⟨p, dx, b, m, ll, rfl, hp, hm1, hm8, att, k⟩ := h
    obtain ⟨as, hb, pt⟩ := id att.1
    obtain ⟨hl, az⟩ := att.arr hb
    have hnum : numV 8 (.int m) = true := numV_true.mpr ⟨m, rfl, by omega, hm8⟩
    refine ⟨_, pss_cons (ps_if (PW.pt (pw_or (pt_not (pt_val (C8.pe_c cN hr (by decide) (by rfl) (pa_cons (pe_glob (v := .int 8) rfl h8 ⟨_, rfl⟩) (pa_cons (pv 1) pa_nil))))) (pw_or1 (pt_cmpR op_eq (pv 1) pe_int (nomark _))))) (pss_one ps_never) pss_nil)
      (pss_cons (ps_if (PW.pt (pw_or (pt_not (pt_val (pe_callB call_isi (by rfl) T.isi (by decide +kernel) (pa_cons (pv 2) (pa_cons (pe_bltn (v := .ty "tuple") (by rfl) T.tup (by decide +kernel) rfl) pa_nil)))))
          (pw_or1 (pt_cmpR op_gt (pe_callB call_len_seq (by rfl) T.len PySem.boot_len (pa_cons (pv 2) pa_nil)) (pe_glob (v := .int 12) rfl h12 ⟨_, rfl⟩) (nomark _))))) (pss_one ps_never) pss_nil)
      (pss_cons (ps_for PassesOwn.never rfl (pi_en (by rfl) T.enum (pa_cons (pv 2) pa_nil)) (pg_tup rfl (pgs_cons (pg_name (i := 3) scWebI.nd rfl (Or.inl rfl)) (pgs_cons (pg_name (i := 4) scWebI.nd rfl (Or.inl rfl)) pgs_nil)))
        (pss_one (ps_if (pt_not (pt_val (C8.pe_c cA hr (by decide) (by rfl) (pa_cons (pv 1) (pa_cons (pv 4) pa_nil))))) (pss_one ps_never) pss_nil)))
      (pss_cons (ps_fld (pv 0) (pv 1) rfl) (pss_one (ps_fld (pv 0) (pv 2) rfl))))), ?_⟩
    refine ⟨_, rfl, 8, .int m, rfl, Th.int m, _, rfl, ?_⟩
    rw [hnum]
    refine iteF ⟨_, rfl, rfl, _, rfl, ?_⟩
    have hm0 : decide (V.int m = V.int 0) = false := decide_eq_false fun q => by injection q with q; omega
    rw [hm0]
    refine iteF ?_
    refine ⟨_, rfl, _, .ty "tuple", .type "tuple", .type "tuple", true, rfl, .ty _, .base (.tup hb), kit_ty (by decide +kernel), _, rfl, ?_⟩
    refine iteF ⟨_, rfl, b, _, rfl, .inr (SqT.of hb), _, _, rfl, rfl, _, rfl, ?_⟩
    have h12' : decide ((12 : Int) < ((as.map V.ref).length : Int)) = false := decide_eq_false (by omega)
    rw [h12']
    refine iteF ?_
    refine ⟨_, rfl, b, _, rfl, hb, for_en (a := b) (xs := as.map V.ref) (fun i σ' H' => (∃ u v, σ' = [some (.ref p), some (.int m), some (.ref b), u, v]) ∧ Ext H H') ⟨⟨_, _, rfl⟩, Ext.rfl'⟩ (fun i σ' H' h => h.2 _ _ hb) ?_ ?_⟩
    · rintro i x σ' H' q hx ⟨⟨u, v, rfl⟩, ex⟩ nq
      have e2 : Ext H (upd H' q (.tup [.int (i : Nat), x])) := ex.trans (Ext.upd nq)
      have hxm := List.mem_of_getElem? hx
      refine ⟨q, _, rfl, SqT.of upd_same, rfl, _, _, rfl, _, _, rfl, rfl, ?_⟩
      refine ⟨_, rfl, _, rfl, m, x, rfl, (PT2.th (n := 0) pt x hxm).ext e2, fun b' H2 hb' e3 => ?_⟩
      have z : b' = true := hb'.mpr ((az x hxm).ext e2)
      subst z
      exact ⟨_, rfl, iteF ⟨⟨_, _, rfl⟩, e2.trans e3⟩⟩
    · rintro σ' H2 ⟨⟨u, v, rfl⟩, e2⟩
      refine ⟨_, rfl, _, rfl, p, CW, dx, [], rfl, e2 _ _ hp, W.cl, W.nM, (by show 0 < 1000; decide), _, rfl, _, rfl, p, CW, dx, _, rfl, upd_same, W.cl, W.nA, (by show 1 < 1000; decide), ?_⟩
      refine k _ ?_ (fun c o nc e => ?_)
      · rw [upd_same]
        rfl
      · rw [upd_ne nc, upd_ne nc]
        exact e2 _ _ e
end
end R23

set_option Elab.async false
set_option linter.all false
set_option maxRecDepth 100000
set_option maxHeartbeats 4000000
namespace R23
open PySem L2
theorem none_back {H H1 : Hp} {a : Addr} (e : Ext H H1) (na : H1 a = none) : H a = none := by
  cases q : H a with
  | none => rfl
  | some u => rw [e _ _ q] at na; cases na
abbrev sPurse : Stmt := top 31
abbrev sMixed : Stmt := top 34
abbrev sAnyW : Stmt := top 37
theorem lst_ne {H : Hp} {f b : Addr} {xs ys : List V} (hf : H f = some (.lst xs)) (hb : H b = some (.tup ys)) : b ≠ f := fun e => by
  rw [e, hf] at hb
  cases hb
theorem Go.tup {a b : Addr} {H H' : Hp} {xs : List V} (p : PotAt H a) (g : Go a H H') (h : H b = some (.tup xs)) : H' b = some (.tup xs) := g.2 _ _ (pot_no p h fun _ z => nomatch z) h
/-- a store at a thing that is new since -/
theorem Go.put {a d : Addr} {H H' : Hp} {o : HO} (p : PotAt H a) (g : Go a H H') (nd : H d = none) : Go a H (upd H' d o) := by
  obtain ⟨c, ns, i, z, s, n, h1, h2⟩ := p
  obtain ⟨ys, h3⟩ := g.cell c _ h1
  obtain ⟨c', ns', i', z', s', n', h4, h5⟩ := g.1
  have ec : c' = c := by
    rw [h3] at h4
    cases h4
    rfl
  subst ec
  have nad : a ≠ d := ne_of_none h1 nd
  have ncd : c' ≠ d := ne_of_none h2 nd
  exact ⟨⟨c', ns', i', z', s', n', by rw [upd_ne nad]; exact h4, by rw [upd_ne ncd]; exact h5⟩, fun b o' nb hb => by rw [upd_ne (ne_of_none hb nd)]; exact g.2 b o' nb hb, fun c xs hc => by rw [upd_ne nad]; exact g.cell c xs hc⟩
/-- arrows in a list that is being made -/
def ArrList (a : Addr) (m : Int) (D : Addr) (k : Nat) (H : Hp) : Prop := D ≠ a ∧ ∃ (as : List Addr) (ll : List (List Int)), H D = some (.lst (as.map V.ref)) ∧ PT2 H as ll ∧ (∀ l ∈ ll, ArrL m l) ∧ as.length = k
theorem ArrList.nil {a : Addr} {m : Int} {D : Addr} {H : Hp} (p : PotAt H a) (nD : H D = none) : ArrList a m D 0 (upd H D (.lst [])) := ⟨(p.ne nD).symm, [], [], upd_same, .nil, (fun l h => by cases h), rfl⟩
theorem ArrList.go {a : Addr} {m : Int} {D : Addr} {k : Nat} {H H' : Hp} (p : PotAt H a) (g : Go a H H') (h : ArrList a m D k H) : ArrList a m D k H' := by
  obtain ⟨nD, as, ll, hD, pt, ar, le⟩ := h
  exact ⟨nD, as, ll, g.2 _ _ nD hD, pt.mono fun b xs z => g.tup p z, ar, le⟩
theorem ArrList.push {a : Addr} {m : Int} {D t : Addr} {k : Nat} {H : Hp} {p q : Int} (h : ArrList a m D k H) (ht : H t = some (.tup [.int p, .int q])) (hp : 0 ≤ p ∧ p < m ∧ 0 ≤ q ∧ q < m) :
    ∃ acc, H D = some (.lst acc) ∧ acc.length = k ∧ ArrList a m D (k + 1) (upd H D (.lst (acc ++ [.ref t]))) := by
  obtain ⟨nD, as, ll, hD, pt, ar, le⟩ := h
  refine ⟨_, hD, by rw [List.length_map, le], nD, as ++ [t], ll ++ [[p, q]], by rw [upd_same, List.map_append]; rfl, ?_, fun l hl => ?_, by rw [List.length_append, le]; rfl⟩
  · exact (PT2.snoc (l := [p, q]) pt ht).mono fun b xs z => by rw [upd_ne (lst_ne hD z)]; exact z
  · rcases List.mem_append.mp hl with z | z
    · exact ar l z
    · rw [List.mem_singleton.mp z]
      exact ⟨p, q, rfl, hp⟩
def spPurse (K : PySem.W.Frag) : Sp := fun vs H Q _ => ∃ (s : Addr) (ns : List Int), vs = [.ref s] ∧ SqL K H s (ns.map V.int) ∧ ns.length ≤ 63 ∧ ∀ (r : Addr) (H' : Hp), Ext H H' → PotAt H' r → Q (.ref r) H'
def spMixed : Sp := fun vs H Q _ => ∃ (a l : Addr) (xs : List V), vs = [.ref a, .ref l] ∧ PotAt H a ∧ l ≠ a ∧ H l = some (.lst xs) ∧ xs.length ≤ 1000 ∧
  ∀ (r : Addr) (ys : List V) (H' : Hp), Go a H H' → H r = none → r ≠ a → H' r = some (.lst ys) → ys.Perm xs → Q (.ref r) H'
def spAnyW : Sp := fun vs H Q _ => ∃ a : Addr, vs = [.ref a] ∧ PotAt H a ∧ ∀ (r b : Addr) (m : Int) (ll : List (List Int)) (H' : Hp), Go a H H' → H' r = some (.tup [.int m, .ref b]) → 1 ≤ m → m ≤ 6 → AT H' m b ll → Q (.ref r) H'
theorem erase_perm {α : Type} : ∀ {l : List α} {i : Nat} {x : α}, l[i]? = some x → (x :: l.eraseIdx i).Perm l
  | [], i, x, h => by simp at h
  | y :: l, 0, x, h => by
    have e : y = x := by simpa using h
    subst e
    exact List.Perm.refl _
  | y :: l, i + 1, x, h => by
    have ih := erase_perm (l := l) (i := i) (x := x) (by simpa using h)
    exact (List.Perm.swap y x _).trans (ih.cons y)
theorem at_arrows {m : Int} {H : Hp} {a D t : Addr} {k : Nat} (h : ArrList a m D k H) (hk : k ≤ 12) (nt : H t = none) {xs : List V} (hx : H D = some (.lst xs)) : ∃ ll, AT (upd H t (.tup xs)) m t ll := by
  obtain ⟨nD, as, ll, hD, pt, ar, le⟩ := h
  rw [hD] at hx
  cases hx
  exact ⟨ll, ⟨as, upd_same, pt.mono fun b xs z => Ext.upd nt _ _ z⟩, by rw [← PT2.len pt, le]; exact hk, ar⟩
/-- a list of the same arrows in another order -/
theorem PT2.of_mem {H : Hp} {m : Int} {as : List Addr} {ll : List (List Int)} (pt : PT2 H as ll) (ar : ∀ l ∈ ll, ArrL m l) : ∀ {ys : List V}, (∀ y ∈ ys, y ∈ as.map V.ref) → ∃ (bs : List Addr) (kk : List (List Int)), ys = bs.map V.ref ∧ PT2 H bs kk ∧ ∀ l ∈ kk, ArrL m l
  | [], _ => ⟨[], [], rfl, .nil, fun l h => by cases h⟩
  | y :: ys, h => by
    obtain ⟨bs, kk, rfl, p, q⟩ := PT2.of_mem pt ar (ys := ys) fun z hz => h z (List.mem_cons_of_mem _ hz)
    obtain ⟨b, hb, rfl⟩ := List.mem_map.mp (h y List.mem_cons_self)
    obtain ⟨i, hi⟩ := List.mem_iff_getElem?.mp hb
    obtain ⟨l, hl, hb'⟩ := pt.get hi
    refine ⟨b :: bs, l :: kk, rfl, .cons hb' p, fun z hz => ?_⟩
    rcases List.mem_cons.mp hz with rfl | hz
    · exact ar _ (List.mem_of_getElem? hl)
    · exact q z hz
section
variable {P : Program} {w : World} {K : PySem.W.Frag} {mg : Str → Option Value} {base : Heap}
theorem scPurse : FnScope ["script", "cell"] ["script"] (defScope sPurse) := ⟨rfl, rfl, rfl, by decide +kernel, rfl, by decide +kernel, by decide +kernel⟩
theorem ok_purse {f : Addr} {fd : FuncData} (F : L2.Fun K "_law_purse" "_law_purse" sPurse f fd) (T : Gb mg) : FnOk P w K mg base CX0 1 f fd ["script"] (spPurse K) := by
  refine F.ok scPurse (fun vs H Q E h => ?_) (fun cdv A outer s H vs Q E hr h => ?_)
  · obtain ⟨a, ns, rfl, _⟩ := h
    rfl
  · obtain ⟨a, ns, rfl, hS, hlen, k⟩ := h
    refine ⟨_, pss_one (ps_ret (pe_lst (pa_cons (pe_lc (own := [("cell", 1)]) (g := gName 1) (tt := tYes) rfl scPurse.nd (pi_list (pe_slice sl_list (pv 0) po_none (po_some pe_int))) (blkOk_by (N := ["script", "cell"]) (sc := defScope sPurse) (by decide +kernel))
        (fun _ _ _ _ _ => pg_name (i := 1) scPurse.nd rfl (Or.inl rfl)) (fun _ _ _ _ _ => pts_nil) (fun _ _ _ _ _ => pe_callB call_abs (by rfl) T.abs (by decide +kernel) (pa_cons (pe_callTy call_int1 (by rfl) T.int (by decide +kernel) (pa_cons (pv 1) pa_nil)) pa_nil)))
      (pa_cons pe_int (pa_cons pe_int (pa_cons (pe_op op_add pe_int (pe_op op_mul pe_int (pe_callB call_len_seq (by rfl) T.len PySem.boot_len (pa_cons (pe_slice sl_list (pv 0) po_none (po_some pe_int)) pa_nil)))) (pa_cons pe_int pa_nil))))))), ?_⟩
    have all : ∀ y ∈ cutV (ns.map V.int) Option.none (some 70), ∃ i, y = V.int i := fun y hy => by
      have hy := List.mem_of_mem_drop (List.mem_of_mem_take hy)
      obtain ⟨i, _, rfl⟩ := List.mem_map.mp hy
      exact ⟨i, rfl⟩
    have cl : (cutV (ns.map V.int) Option.none (some 70)).length ≤ 63 := Nat.le_trans (cutV_length _ _ _) (by rw [List.length_map]; exact hlen)
    refine ⟨_, rfl, 70, rfl, a, _, rfl, hS, fun l nl => ?_⟩
    generalize cutV (ns.map V.int) Option.none (some 70) = xs at *
    refine ⟨l, rfl, ⟨_, SqL.of upd_same⟩, fun D nD => lc_list (K := K) (a := l) (xs := xs) (fun i H' => ∃ cs : List Int, H' = upd (upd H l (.lst xs)) D (.lst (cs.map V.int)) ∧ cs.length = i) ⟨[], rfl, rfl⟩ (fun i H' _ ⟨cs, e, _⟩ => by rw [e]; exact SqL.of (Ext.upd nD _ _ upd_same)) ?_ ?_⟩
    · rintro i y H' hy ⟨cs, rfl, hc⟩
      obtain ⟨z, rfl⟩ := all y (List.mem_of_getElem? hy)
      have hi := (List.getElem?_eq_some_iff.mp hy).1
      refine ⟨rfl, tyes_in ⟨_, rfl, .inl ⟨_, rfl, _, rfl, ?_⟩⟩⟩
      refine ⟨_, upd_same, by rw [List.length_map]; exact small1000 (by omega), cs ++ [if z < 0 then -z else z], ?_, by rw [List.length_append, hc]; rfl⟩
      rw [upd_upd, List.map_append]
      rfl
    · rintro H' ⟨cs, rfl, hc⟩
      have e1 : Ext H (upd (upd H l (.lst xs)) D (.lst (cs.map V.int))) := (Ext.upd nl).trans (Ext.upd nD)
      have gD : (upd (upd H l (.lst xs)) D (.lst (cs.map V.int))) D = some (.lst (cs.map V.int)) := upd_same
      generalize upd (upd H l (.lst xs)) D (.lst (cs.map V.int)) = H1 at *
      refine ⟨_, rfl, 70, rfl, a, _, rfl, hS.ext e1, fun l2 nl2 => ?_⟩
      refine ⟨l2, _, rfl, .inl (SqL.of upd_same), _, _, rfl, rfl, .inl ⟨by decide, by decide⟩, _, _, rfl, rfl, by show 5 ≤ sizeLine; decide, fun r nr => ?_⟩
      have e2 := Ext.upd (o := .lst (cutV (ns.map V.int) Option.none (some 70))) nl2
      exact k r _ ((e1.trans e2).trans (Ext.upd nr)) ⟨D, cs, 0, 0, _, 0, upd_same, Ext.upd nr _ _ (e2 _ _ gD)⟩
theorem scMixed : FnScope ["purse", "some", "left", "found"] ["purse", "some"] (defScope sMixed) := ⟨rfl, rfl, rfl, by decide +kernel, rfl, by decide +kernel, by decide +kernel⟩
theorem ok_mixed {f : Addr} {fd : FuncData} (F : L2.Fun K "_law_mixed" "_law_mixed" sMixed f fd) (T : Gb mg) (cD : Cal P w K mg base 1 "_law_part" spDraw []) : FnOk P w K mg base CX0 2 f fd ["purse", "some"] spMixed := by
  refine F.ok scMixed (fun vs H Q E h => ?_) (fun cdv A outer s H vs Q E hr h => ?_)
  · obtain ⟨a, l, xs, rfl, _⟩ := h
    rfl
  · obtain ⟨a, l, xs, rfl, pot, nl, hl, len, k⟩ := h
    refine ⟨_, pss_cons (ps_par (i := 2) (j := 3) rfl scMixed.nd rfl rfl (by decide) rfl rfl (pa_cons (pe_callTy call_list_of (by rfl) T.list (by decide +kernel) (pa_cons (pv 1) pa_nil)) (pa_cons (pe_lst pa_nil) pa_nil)) (by rfl))
      (pss_cons (ps_while PassesOwn.never (pt_cmpR op_gt (pe_callB call_len_seq (by rfl) T.len PySem.boot_len (pa_cons (pv 2) pa_nil)) pe_int (nomark _))
        (pss_one (ps_expr (pe_bm PySem.F.plainAttrs_list PySem.F.slot_list_append PySem.F.type_list_append mt_append (pv 3) (pa_cons (pe_bm PySem.F.plainAttrs_list PySem.F.slot_list_pop PySem.F.type_list_pop mt_popAt (pv 2)
          (pa_cons (C8.pe_c cD hr (by decide) (by rfl) (pa_cons (pv 0) (pa_cons (pe_callB call_len_seq (by rfl) T.len PySem.boot_len (pa_cons (pv 2) pa_nil)) pa_nil))) pa_nil)) pa_nil)))))
      (pss_one (ps_ret (pv 3)))), ?_⟩
    refine ⟨_, rfl, l, xs, rfl, .inl (SqL.of hl), fun d nd => ⟨Nat.zero_le _, fun g ng => ⟨_, _, rfl, ?_⟩⟩⟩
    have nd0 : H d = none := nd
    have ng0 : H g = none := none_back (Ext.upd nd) ng
    have ndg : d ≠ g := ne_of_none upd_same ng
    have nda : d ≠ a := (pot.ne nd0).symm
    have nga : g ≠ a := (pot.ne ng0).symm
    refine ⟨fun m σ' H' => σ' = [some (.ref a), some (.ref l), some (.ref d), some (.ref g)] ∧ Go a H H' ∧ ∃ ds gs, H' d = some (.lst ds) ∧ H' g = some (.lst gs) ∧ (gs ++ ds).Perm xs ∧ ds.length = m, ⟨xs.length, rfl, ?_, xs, [], ?_, upd_same, by simp, rfl⟩, ?_⟩
    · exact Go.put pot (Go.new pot nd0) ng0
    · rw [upd_ne ndg, upd_same]
    · rintro m σ' H' ⟨rfl, go, ds, gs, hd, hg, pm, rfl⟩
      have hlen := pm.length_eq
      rw [List.length_append] at hlen
      refine ⟨_, rfl, d, ds, rfl, .inl (SqL.of hd), _, _, rfl, rfl, _, rfl, ?_⟩
      refine ite2 (fun z => ?_) (fun z => ?_)
      · have pos : 0 < ds.length := by have := of_decide_eq_true z; omega
        refine ⟨fun σ' H' => ∃ m', m' < ds.length ∧ σ' = [some (.ref a), some (.ref l), some (.ref d), some (.ref g)] ∧ Go a H H' ∧ ∃ ds gs, H' d = some (.lst ds) ∧ H' g = some (.lst gs) ∧ (gs ++ ds).Perm xs ∧ ds.length = m', fun σ' H' q => q, ?_⟩
        refine ⟨_, rfl, .inl ⟨rfl, _, SqL.of hg⟩, _, rfl, .inl ⟨rfl, _, SqL.of hd⟩, _, rfl, _, rfl, d, ds, rfl, .inl (SqL.of hd), ?_⟩
        refine ⟨a, _, rfl, go.1, by omega, by omega, fun r H2 h0 hlt g2 => ?_⟩
        have lt : r.toNat < ds.length := by omega
        have hy : ds[r.toNat]? = some ds[r.toNat] := List.getElem?_eq_getElem lt
        have hd2 := g2.2 _ _ nda hd
        have hg2 := g2.2 _ _ nga hg
        refine ⟨d, ds, r, r.toNat, _, rfl, rfl, hd2, by omega, by omega, ?_, hy, ?_⟩
        · unfold seqIndex?
          have c1 : ¬ r < 0 := by omega
          simp only [c1, if_false]
          rw [if_pos (by simp; omega)]
        generalize ds[r.toNat] = y at *
        have g3 := go.trans g2
        refine ⟨g, gs, y, rfl, rfl, by rw [upd_ne ndg.symm]; exact hg2, small1000 (by omega), ?_⟩
        have el : (ds.eraseIdx r.toNat).length = ds.length - 1 := by rw [List.length_eraseIdx, if_pos lt]
        refine ⟨(ds.eraseIdx r.toNat).length, by omega, rfl, Go.put pot (Go.put pot g3 nd0) ng0, _, _, ?_, upd_same, ?_, rfl⟩
        · rw [upd_ne ndg, upd_same]
        · rw [List.append_assoc]
          exact ((erase_perm hy).append_left gs).trans pm
      · have e0 : ds = [] := by
          have : ¬ (0 : Int) < (ds.length : Int) := fun q => z (decide_eq_true q)
          exact List.length_eq_zero_iff.mp (by omega)
        subst e0
        rw [List.append_nil] at pm
        exact ⟨_, rfl, k g gs H' go ng0 nga hg pm⟩
abbrev anyN : List Str := ["purse", "many", "some", "place", "other", "arrow"]
theorem scAnyW : FnScope anyN ["purse"] (defScope sAnyW) := ⟨rfl, rfl, rfl, by decide +kernel, rfl, by decide +kernel, by decide +kernel⟩
theorem ok_anyW {f : Addr} {fd : FuncData} (F : L2.Fun K "_law_any_web" "_law_any_web" sAnyW f fd) (T : Gb mg) (cD : Cal P w K mg base 1 "_law_part" spDraw []) (cX : Cal P w K mg base 2 "_law_mixed" spMixed []) : FnOk P w K mg base CX0 3 f fd ["purse"] spAnyW := by
  refine F.ok scAnyW (fun vs H Q E h => ?_) (fun cdv A outer s H vs Q E hr h => ?_)
  · obtain ⟨a, rfl, _⟩ := h
    rfl
  · obtain ⟨a, rfl, pot, k⟩ := h
    refine ⟨_, pss_cons (ps_set (i := 1) scAnyW.nd rfl (Or.inr rfl) (pe_op op_add pe_int (C8.pe_c cD hr (by decide) (by rfl) (pa_cons (pv 0) (pa_cons pe_int pa_nil)))))
      (pss_cons (ps_if (pt_cmpR op_eq (C8.pe_c cD hr (by decide) (by rfl) (pa_cons (pv 0) (pa_cons pe_int pa_nil))) pe_int (nomark _))
        (pss_cons (ps_setLc (i := 2) (own := [("arrow", 5)]) (g := gName 5) (tt := tYes) rfl scAnyW.nd rfl rfl (sw_true rfl rfl rfl (by decide +kernel)) (pi_range1 (by rfl) T.rng (pa_cons (C8.pe_c cD hr (by decide) (by rfl) (pa_cons (pv 0) (pa_cons (pe_op op_add (pv 1) pe_int) pa_nil))) pa_nil)) (blkOk_by (N := anyN) (sc := defScope sAnyW) (by decide +kernel))
            (fun _ _ _ _ _ => pg_name (i := 5) scAnyW.nd rfl (Or.inl rfl)) (fun _ _ _ _ _ => pts_nil) (fun _ _ _ _ _ => pe_tup (pa_cons (C8.pe_c cD hr (by decide) (by rfl) (pa_cons (pv 0) (pa_cons (pv 1) pa_nil))) (pa_cons (C8.pe_c cD hr (by decide) (by rfl) (pa_cons (pv 0) (pa_cons (pv 1) pa_nil))) pa_nil))))
          (pss_one (ps_ret (pe_tup (pa_cons (pv 1) (pa_cons (pe_callTy call_tuple_of (by rfl) T.tup (by decide +kernel) (pa_cons (pv 2) pa_nil)) pa_nil)))))) pss_nil)
      (pss_cons (ps_set (i := 2) scAnyW.nd rfl (Or.inl rfl) (pe_lst pa_nil))
      (pss_cons (ps_for PassesOwn.never rfl (pi_range2 (by rfl) T.rng (pa_cons pe_int (pa_cons (pv 1) pa_nil))) (pg_name (i := 3) scAnyW.nd rfl (Or.inl rfl))
        (pss_cons (ps_set (i := 4) scAnyW.nd rfl (Or.inl rfl) (C8.pe_c cD hr (by decide) (by rfl) (pa_cons (pv 0) (pa_cons (pv 3) pa_nil))))
        (pss_one (ps_if (pt_cmpR op_gt (C8.pe_c cD hr (by decide) (by rfl) (pa_cons (pv 0) (pa_cons pe_int pa_nil))) pe_int (nomark _))
          (pss_one (ps_expr (pe_bm PySem.F.plainAttrs_list PySem.F.slot_list_append PySem.F.type_list_append mt_append (pv 2) (pa_cons (pe_ifExp (pt_cmpR op_eq (C8.pe_c cD hr (by decide) (by rfl) (pa_cons (pv 0) (pa_cons pe_int pa_nil))) pe_int (nomark _)) (pe_tup (pa_cons (pv 3) (pa_cons (pv 4) pa_nil))) (pe_tup (pa_cons (pv 4) (pa_cons (pv 3) pa_nil)))) pa_nil)))) pss_nil))))
      (C8.pss_cut (ps_if (pt_cmpR op_eq (C8.pe_c cD hr (by decide) (by rfl) (pa_cons (pv 0) (pa_cons pe_int pa_nil))) pe_int (nomark _))
        (pss_one (ps_expr (pe_bm PySem.F.plainAttrs_list PySem.F.slot_list_append PySem.F.type_list_append mt_append (pv 2) (pa_cons (pe_tup (pa_cons (C8.pe_c cD hr (by decide) (by rfl) (pa_cons (pv 0) (pa_cons (pv 1) pa_nil))) (pa_cons (C8.pe_c cD hr (by decide) (by rfl) (pa_cons (pv 0) (pa_cons (pv 1) pa_nil))) pa_nil))) pa_nil)))) pss_nil)
      (pss_one (ps_ret (pe_tup (pa_cons (pv 1) (pa_cons (pe_callTy call_tuple_of (by rfl) T.tup (by decide +kernel) (pa_cons (C8.pe_c cX hr (by decide) (by rfl) (pa_cons (pv 0) (pa_cons (pv 2) pa_nil))) pa_nil)) pa_nil))))))))), ?_⟩
    refine ⟨_, rfl, a, 6, rfl, pot, by decide, by decide, fun r1 H1 a1 b1 g1 => ⟨_, _, rfl, rfl, ?_⟩⟩
    obtain ⟨m, em⟩ : ∃ m, m = 1 + r1 := ⟨_, rfl⟩
    have hm1 : 1 ≤ m := by omega
    have hm6 : m ≤ 6 := by omega
    show gName 1 (V.int (1 + r1)) _ _ _
    rw [← em]
    refine ⟨_, rfl, a, 3, rfl, g1.1, by decide, by decide, fun r2 H2 a2 b2 g2 => ⟨rfl, _, rfl, ?_⟩⟩
    have go2 := g1.trans g2
    -- the arrows as a tuple
    have last : ∀ (D t : Addr) (xs : List V) (j : Nat) (H3 : Hp), Go a H H3 → ArrList a m D j H3 → j ≤ 12 → H3 D = some (.lst xs) → H3 t = Option.none → ∀ u, (upd H3 t (.tup xs)) u = Option.none → Q (.ref u) (upd (upd H3 t (.tup xs)) u (.tup [.int m, .ref t])) := by
      intro D t xs j H3 go al hj hx nt u nu
      obtain ⟨ll, at'⟩ := at_arrows al hj nt hx
      have g4 := (Go.new (o := .tup xs) go.1 nt)
      have g5 := Go.new (o := .tup [.int m, .ref t]) g4.1 nu
      exact k u t m ll _ (go.trans (g4.trans g5)) upd_same hm1 hm6 (at'.ext (Ext.upd nu))
    refine ite2 (fun _ => ?_) (fun _ => ?_)
    · refine ⟨_, rfl, _, rfl, _, _, rfl, rfl, a, m + 2, rfl, go2.1, by omega, by omega, fun r3 H3 a3 b3 g3 => ?_⟩
      refine ⟨r3, rfl, by omega, by omega, fun D nD => ?_⟩
      have go3 := go2.trans g3
      refine lc_range (lo := 0) (n := r3.toNat) (fun i H' => Go a H3 H' ∧ ArrList a m D i H') ⟨Go.new go3.1 nD, ArrList.nil go3.1 nD⟩ ?_ ?_
      · rintro i H' hi ⟨go, al⟩
        refine ⟨rfl, tyes_in ?_⟩
        refine ⟨_, rfl, _, rfl, a, m, rfl, go.1, by omega, by omega, fun p H4 p0 pm g4 => ?_⟩
        refine ⟨_, rfl, _, rfl, a, m, rfl, g4.1, by omega, by omega, fun q H5 q0 qm g5 => ?_⟩
        refine ⟨by show 2 ≤ sizeLine; decide, fun t nt => ?_⟩
        have g6 := Go.new (o := .tup [.int p, .int q]) g5.1 nt
        have al' := ((al.go go.1 g4).go g4.1 g5).go g5.1 g6
        obtain ⟨acc, e1, e2, e3⟩ := al'.push (t := t) upd_same ⟨p0, pm, q0, qm⟩
        refine ⟨acc, e1, small1000 (by omega), Go.put go3.1 (go.trans (g4.trans (g5.trans g6))) nD, e3⟩
      · rintro H' ⟨go, al⟩
        obtain ⟨nDa, as, ll, hD, pt, ar, le⟩ := id al
        refine ⟨_, rfl, _, rfl, D, _, rfl, .inl ⟨SqL.of hD, fun t nt => ⟨by show 2 ≤ sizeLine; decide, fun u nu => ?_⟩⟩⟩
        exact last D t _ _ H' (go3.trans go) al (by omega) hD nt u nu
    · refine ⟨Nat.zero_le _, fun D nD => ?_⟩
      refine ⟨_, rfl, 1, m, rfl, ⟨by decide, by decide, by omega, by omega⟩, for_range (lo := 1) (n := (m - 1).toNat) (fun i σ' H' => (∃ v3 v4 : Option V, σ' = [some (.ref a), some (.int m), some (.ref D), v3, v4, Option.none]) ∧ Go a H2 H' ∧ ∃ j, j ≤ i ∧ ArrList a m D j H') ?_ ?_ ?_⟩
      · exact ⟨⟨_, _, rfl⟩, Go.new go2.1 nD, 0, Nat.le_refl _, ArrList.nil go2.1 nD⟩
      · rintro i σ' H' hi ⟨⟨v3, v4, rfl⟩, go, j, hj, al⟩
        refine ⟨_, rfl, _, rfl, a, 1 + (i : Int), rfl, go.1, by omega, by omega, fun r4 H4 a4 b4 g4 => ?_⟩
        refine ⟨_, rfl, a, 6, rfl, g4.1, by decide, by decide, fun r5 H5 a5 b5 g5 => ⟨_, _, rfl, rfl, _, rfl, ?_⟩⟩
        have al5 := (al.go go.1 g4).go g4.1 g5
        have go5 := go.trans (g4.trans g5)
        refine ite2 (fun _ => ?_) (fun _ => ?_)
        · obtain ⟨nDa, as, ll, hD, pt, ar, le⟩ := id al5
          refine ⟨_, rfl, .inl ⟨rfl, _, SqL.of hD⟩, _, rfl, a, 2, rfl, go5.1, by decide, by decide, fun r6 H6 a6 b6 g6 => ⟨rfl, _, rfl, ?_⟩⟩
          have al6 := al5.go go5.1 g6
          have go6 := go5.trans g6
          have push : ∀ (p q : Int) (t : Addr), H6 t = Option.none → 0 ≤ p ∧ p < m ∧ 0 ≤ q ∧ q < m → ∃ l xs y, V.ref D = .ref l ∧ [V.ref t] = [y] ∧ (upd H6 t (.tup [.int p, .int q])) l = some (.lst xs) ∧ xs.length < sizeLine ∧
              ((∃ v3 v4 : Option V, [some (.ref a), some (.int m), some (.ref D), some (.int (1 + (i : Int))), some (.int r4), Option.none] = [some (.ref a), some (.int m), some (.ref D), v3, v4, Option.none]) ∧ Go a H2 (upd (upd H6 t (.tup [.int p, .int q])) l (.lst (xs ++ [y]))) ∧ ∃ j, j ≤ i + 1 ∧ ArrList a m D j (upd (upd H6 t (.tup [.int p, .int q])) l (.lst (xs ++ [y])))) := by
            intro p q t nt hb
            have g7 := Go.new (o := .tup [.int p, .int q]) go6.1 nt
            obtain ⟨acc, e1, e2, e3⟩ := (al6.go go6.1 g7).push (t := t) upd_same hb
            exact ⟨D, acc, _, rfl, rfl, e1, small1000 (by omega), ⟨_, _, rfl⟩, Go.put go2.1 (go6.trans g7) nD, j + 1, by omega, e3⟩
          refine ite2 (fun _ => ?_) (fun _ => ?_)
          · exact ⟨_, rfl, _, rfl, by show 2 ≤ sizeLine; decide, fun t nt => push _ _ t nt ⟨by omega, by omega, by omega, by omega⟩⟩
          · exact ⟨_, rfl, _, rfl, by show 2 ≤ sizeLine; decide, fun t nt => push _ _ t nt ⟨by omega, by omega, by omega, by omega⟩⟩
        · exact ⟨⟨_, _, rfl⟩, go5, j, by omega, al5⟩
      · rintro σ' H3 ⟨⟨v3, v4, rfl⟩, go, j, hj, al⟩
        refine ⟨fun σ' H' => σ' = [some (.ref a), some (.int m), some (.ref D), v3, v4, Option.none] ∧ Go a H2 H' ∧ ∃ j, j ≤ 7 ∧ ArrList a m D j H', ?_, ?_⟩
        · refine ⟨_, rfl, a, 4, rfl, go.1, by decide, by decide, fun r4 H4 a4 b4 g4 => ⟨rfl, _, rfl, ?_⟩⟩
          have al4 := al.go go.1 g4
          have go4 := go.trans g4
          refine ite2 (fun _ => ?_) (fun _ => ⟨rfl, go4, j, by omega, al4⟩)
          obtain ⟨nDa, as, ll, hD, pt, ar, le⟩ := id al4
          refine ⟨_, rfl, .inl ⟨rfl, _, SqL.of hD⟩, _, rfl, _, rfl, a, m, rfl, go4.1, by omega, by omega, fun p H5 p0 pm g5 => ?_⟩
          refine ⟨_, rfl, _, rfl, a, m, rfl, g5.1, by omega, by omega, fun q H6 q0 qm g6 => ?_⟩
          refine ⟨by show 2 ≤ sizeLine; decide, fun t nt => ?_⟩
          have g7 := Go.new (o := .tup [.int p, .int q]) g6.1 nt
          obtain ⟨acc, e1, e2, e3⟩ := (((al4.go go4.1 g5).go g5.1 g6).go g6.1 g7).push (t := t) upd_same ⟨p0, pm, q0, qm⟩
          exact ⟨D, acc, _, rfl, rfl, e1, small1000 (by omega), rfl, Go.put go2.1 (go4.trans (g5.trans (g6.trans g7))) nD, j + 1, by omega, e3⟩
        · rintro σ' H4 ⟨rfl, go4, j, hj, al4⟩
          obtain ⟨nDa, as, ll, hD, pt, ar, le⟩ := id al4
          refine ⟨_, rfl, _, rfl, _, rfl, a, D, _, rfl, go4.1, nDa, hD, by rw [List.length_map]; omega, fun r ys H5 g5 nr nra hr5 pm => ?_⟩
          refine ⟨r, ys, rfl, .inl ⟨SqL.of hr5, fun t nt => ⟨by show 2 ≤ sizeLine; decide, fun u nu => ?_⟩⟩⟩
          obtain ⟨bs, kk, rfl, pb, ab⟩ := PT2.of_mem (pt.mono fun b xs z => g5.tup go4.1 z) ar (ys := ys) fun y hy => pm.mem_iff.mp hy
          have le2 := pm.length_eq
          rw [List.length_map, List.length_map] at le2
          exact last r t _ j H5 (go2.trans (go4.trans g5)) ⟨nra, bs, kk, hr5, pb, ab, by omega⟩ (by omega) hr5 nt u nu
end
end R23

set_option Elab.async false
set_option linter.all false
set_option maxRecDepth 100000
set_option maxHeartbeats 4000000
set_option pp.maxSteps 60
/-! parts. -/
namespace R23
open PySem L2 K9M
abbrev sParts : Stmt := top 15
/-- the labels of the places as a list -/
def lab (M : Nat) (f : Nat → Int) : List V := (List.range M).map fun i => V.int (f i)
theorem lab_len {M : Nat} {f : Nat → Int} : (lab M f).length = M := by
  unfold lab
  rw [List.length_map, List.length_range]
theorem lab_get {M : Nat} {f : Nat → Int} {i : Nat} (h : i < M) : (lab M f)[i]? = some (V.int (f i)) := by
  unfold lab
  rw [List.getElem?_map, List.getElem?_range h]
  rfl
theorem lab_at {M : Nat} {f : Nat → Int} {i : Nat} {z : Int} (h : i < M) (e : z = (i : Int)) : atI (lab M f) z = some (V.int (f i)) := at_of e (lab_get h)
theorem lab_set {M : Nat} {f : Nat → Int} {p : Nat} {k : Int} : (lab M f).set p (V.int k) = lab M (fun i => if i = p then k else f i) := by
  apply List.ext_getElem?
  intro i
  by_cases h : i < M
  · rw [lab_get h]
    by_cases e : i = p
    · subst e
      rw [List.getElem?_set_self (by rw [lab_len]; exact h), if_pos rfl]
    · rw [List.getElem?_set_ne (fun z => e z.symm), lab_get h, if_neg e]
  · rw [List.getElem?_eq_none (by rw [List.length_set, lab_len]; omega), List.getElem?_eq_none (by rw [lab_len]; omega)]
theorem lab_take {M : Nat} {f : Nat → Int} {j : Nat} (h : j < M) : (lab M f).take (j + 1) = (lab M f).take j ++ [V.int (f j)] := by
  rw [List.take_succ, lab_get h]
  rfl
theorem lab_own {M : Nat} : rgV 0 (M : Int) = lab M own := by
  unfold rgV lab own
  have e : ((M : Int) - 0).toNat = M := by omega
  rw [e]
  congr 1
  funext i
  rw [Int.zero_add]
theorem fold_take {α β : Type} {st : β → α → β} {l : List α} {i : Nat} {a : α} {b : β} (h : l[i]? = some a) : (l.take (i + 1)).foldl st b = st ((l.take i).foldl st b) a := by
  rw [List.take_succ, h, List.foldl_append]
  rfl
/-- the lots of the first places -/
def lotsTo (M : Nat) (f : Nat → Int) (i : Nat) : List (List Int) := (((List.range i).filter fun c => decide (f c = (c : Int))).map fun c : Nat => (c : Int)).map (lot M f)
theorem lotsTo_all (M : Nat) (A : Ar) : lotsTo M (fin1 A) M = lots M A := rfl
theorem lotsTo_succ (M : Nat) (f : Nat → Int) (i : Nat) : lotsTo M f (i + 1) = if f i = (i : Int) then lotsTo M f i ++ [lot M f (i : Int)] else lotsTo M f i := by
  unfold lotsTo
  rw [List.range_succ, List.filter_append]
  by_cases h : f i = (i : Int)
  · rw [if_pos h, List.filter_cons_of_pos (by simpa using h)]
    simp
  · rw [if_neg h, List.filter_cons_of_neg (by simpa using h)]
    simp
/-- the places of a label, up to the j-th -/
def lotTo (f : Nat → Int) (c : Int) (j : Nat) : List V := ((List.range j).filter fun i => decide (f i = c)).map fun i : Nat => V.int (i : Int)
theorem lotTo_all (M : Nat) (f : Nat → Int) (c : Int) : lotTo f c M = (lot M f c).map V.int := by
  unfold lotTo lot
  rw [List.map_map]
  rfl
theorem lotTo_succ (f : Nat → Int) (c : Int) (j : Nat) : lotTo f c (j + 1) = if f j = c then lotTo f c j ++ [V.int (j : Int)] else lotTo f c j := by
  unfold lotTo
  rw [List.range_succ, List.filter_append]
  by_cases h : f j = c
  · rw [if_pos h, List.filter_cons_of_pos (by simpa using h)]
    simp
  · rw [if_neg h, List.filter_cons_of_neg (by simpa using h)]
    simp
theorem lotTo_len (f : Nat → Int) (c : Int) (j : Nat) : (lotTo f c j).length ≤ j := by
  unfold lotTo
  rw [List.length_map]
  exact Nat.le_trans (List.length_filter_le _ _) (by rw [List.length_range]; exact Nat.le_refl _)
def spParts (CW : Addr) : Sp := fun vs H Q _ => ∃ (p b : Addr) (M : Nat) (A : Ar), vs = [.ref p] ∧ WebAt CW H p (M : Int) b ∧ TT H b (A.map arL) ∧ M ≤ 8 ∧ A.length ≤ 12 ∧ Inside M A ∧ ∀ (r : Addr) (H' : Hp), Ext H H' → TT H' r (lots M A) → Q (.ref r) H'
section
variable {P : Program} {w : World} {K : PySem.W.Frag} {mg : Str → Option Value} {base : Heap}
theorem scParts : FnScope ["web", "leasts", "begin", "end", "kept", "gone", "least", "lots", "place"] ["web"] (defScope sParts) := ⟨rfl, rfl, rfl, by decide +kernel, rfl, by decide +kernel, by decide +kernel⟩
theorem ok_parts {f CW : Addr} {fd : FuncData} (F : L2.Fun K "parts" "parts" sParts f fd) (T : Gb mg) (W : WebC K mg CW) : FnOk P w K mg base CX0 1 f fd ["web"] (spParts CW) := by
  refine F.ok scParts (fun vs H Q E h => ?_) (fun cdv A outer s H vs Q E hr h => ?_)
  · obtain ⟨p, b, M, A, rfl, _⟩ := h
    rfl
  · obtain ⟨p, b, M, Ars, rfl, ⟨dx, hp⟩, ⟨as, hb, pt⟩, hM, hL, ins, k⟩ := h
    refine ⟨_, pss_cons (ps_set (i := 1) scParts.nd rfl (Or.inr rfl) (pe_listRg rfl (by rfl) T.list (prg_1 (by rfl) T.rng (pe_fld (pv 0) rfl))))
      (pss_cons (ps_for PassesOwn.never rfl (pi_tup (pe_fld (pv 0) rfl)) (pg_tup rfl (pgs_cons (pg_name (i := 2) scParts.nd rfl (Or.inl rfl)) (pgs_cons (pg_name (i := 3) scParts.nd rfl (Or.inl rfl)) pgs_nil)))
        (pss_cons (ps_set (i := 4) scParts.nd rfl (Or.inr rfl) (pe_callB (call_min2 rfl) (by rfl) T.min (by decide +kernel) (pa_cons (pe_ix ix_list (pv 1) (pv 2) (fun _ _ => rfl)) (pa_cons (pe_ix ix_list (pv 1) (pv 3) (fun _ _ => rfl)) pa_nil))))
        (pss_cons (ps_set (i := 5) scParts.nd rfl (Or.inr rfl) (pe_callB (call_max2 rfl) (by rfl) T.max (by decide +kernel) (pa_cons (pe_ix ix_list (pv 1) (pv 2) (fun _ _ => rfl)) (pa_cons (pe_ix ix_list (pv 1) (pv 3) (fun _ _ => rfl)) pa_nil))))
        (pss_one (ps_set (i := 1) scParts.nd rfl (Or.inr rfl) (pe_lc (own := [("least", 6)]) (g := gName 6) (tt := tYes) rfl scParts.nd (pi_list (pv 1)) (blkOk_by (N := ["web", "leasts", "begin", "end", "kept", "gone", "least", "lots", "place"]) (sc := defScope sParts) (by decide +kernel))
          (fun _ _ _ _ _ => pg_name (i := 6) scParts.nd rfl (Or.inl rfl)) (fun _ _ _ _ _ => pts_nil) (fun _ _ _ _ _ => pe_ifExp (pt_cmpR op_eq (pv 6) (pv 5) (nomark _)) (pv 4) (pv 6))))))))
      (pss_cons (ps_set (i := 7) scParts.nd rfl (Or.inl rfl) (pe_lst pa_nil))
      (pss_cons (ps_for PassesOwn.never rfl (pi_range1 (by rfl) T.rng (pa_cons (pe_fld (pv 0) rfl) pa_nil)) (pg_name (i := 6) scParts.nd rfl (Or.inr rfl))
        (pss_one (ps_if (pt_cmpR op_eq (pe_ix ix_list (pv 1) (pv 6) (fun _ _ => rfl)) (pv 6) (nomark _))
          (pss_one (ps_expr (pe_bm PySem.F.plainAttrs_list PySem.F.slot_list_append PySem.F.type_list_append mt_append (pv 7) (pa_cons (pe_callTy call_tuple_of (by rfl) T.tup (by decide +kernel) (pa_cons (pe_lc (own := [("place", 8)]) (g := gName 8) (tt := tTest (tOp rEq (tOp (rIxL K) (tVar 1) (tVar 8)) (tVar 6))) rfl scParts.nd (pi_range1 (by rfl) T.rng (pa_cons (pe_fld (pv 0) rfl) pa_nil))
            (blkOk_by (N := ["web", "leasts", "begin", "end", "kept", "gone", "least", "lots", "place"]) (sc := defScope sParts) (by decide +kernel)) (fun _ _ _ _ _ => pg_name (i := 8) scParts.nd rfl (Or.inl rfl)) (fun _ _ _ _ _ => pts_one (pt_cmpR op_eq (pe_ix ix_list (pv 1) (pv 8) (fun _ _ => rfl)) (pv 6) (nomark _))) (fun _ _ _ _ _ => pv 8)) pa_nil)) pa_nil)))) pss_nil)))
      (pss_one (ps_ret (pe_callTy call_tuple_of (by rfl) T.tup (by decide +kernel) (pa_cons (pv 7) pa_nil))))))), ?_⟩
    refine ⟨_, rfl, p, CW, dx, _, _, rfl, hp, W.cl, W.nM, wf_many _ _, (M : Int), rfl, RgOk.of_le (by omega) (by omega) (by omega) (by omega), fun d nd => ?_⟩
    rw [lab_own]
    have e0 : Ext H (upd H d (.lst (lab M own))) := Ext.upd nd
    refine ⟨_, rfl, p, CW, dx, _, _, rfl, e0 _ _ hp, W.cl, W.nA, wf_arrows _ _, b, rfl, ⟨_, SqT.of (e0 _ _ hb)⟩, for_tup (K := K) (a := b) (xs := as.map V.ref) (fun i σ' H' => (∃ (d : Addr) (v2 v3 v4 v5 : Option V), σ' = [some (.ref p), some (.ref d), v2, v3, v4, v5, Option.none, Option.none, Option.none] ∧ H' d = some (.lst (lab M ((Ars.take i).foldl step1 own)))) ∧ Ext H H')
      ⟨⟨d, _, _, _, _, rfl, upd_same⟩, e0⟩ (fun i σ' H' _ h => SqT.of (h.2 _ _ hb)) ?_ ?_⟩
    · rintro i x σ' H' hx ⟨⟨d, v2, v3, v4, v5, rfl, hd⟩, ex⟩
      obtain ⟨c, a, rfl, ha, hc⟩ := TT.arrow pt hx
      obtain ⟨ia, ib⟩ := ins a (List.mem_of_getElem? ha)
      refine ⟨c, _, rfl, SqT.of (ex _ _ hc), rfl, _, _, rfl, _, _, rfl, rfl, ?_⟩
      refine ⟨_, rfl, _, rfl, d, _, _, _, rfl, rfl, SqL.of hd, lab_at ia rfl, _, rfl, _, rfl, d, _, _, _, rfl, rfl, SqL.of hd, lab_at ib rfl, _, _, rfl, ?_⟩
      refine ⟨_, rfl, _, rfl, d, _, _, _, rfl, rfl, SqL.of hd, lab_at ia rfl, _, rfl, _, rfl, d, _, _, _, rfl, rfl, SqL.of hd, lab_at ib rfl, _, _, rfl, ?_⟩
      generalize hg : (Ars.take i).foldl step1 own = g at *
      refine ⟨_, rfl, d, rfl, ⟨_, SqL.of hd⟩, fun D nD => lc_list (K := K) (a := d) (xs := lab M g) (fun j H'' => H'' = upd H' D (.lst ((lab M (step1 g a)).take j))) (by simp) (fun j H'' _ e => by rw [e]; exact SqL.of (Ext.upd nD _ _ hd)) ?_ ?_⟩
      · rintro j y H'' hy rfl
        have hj : j < M := by have := (List.getElem?_eq_some_iff.mp hy).1; rw [lab_len] at this; exact this
        rw [lab_get hj] at hy
        cases hy
        refine ⟨rfl, tyes_in ⟨_, rfl, _, rfl, rfl, _, rfl, ?_⟩⟩
        have st : step1 g a j = if g j = mx (g a.1) (g a.2) then mn (g a.1) (g a.2) else g j := rfl
        refine ite2 (fun z => ?_) (fun z => ?_)
        · have z' : g j = mx (g a.1) (g a.2) := by have q := of_decide_eq_true z; injection q
          refine ⟨_, rfl, _, upd_same, Nat.lt_of_le_of_lt (List.length_take_le _ _) (small1000 (by omega)), ?_⟩
          rw [upd_upd, lab_take hj, st, if_pos z']
          rfl
        · have z' : ¬ g j = mx (g a.1) (g a.2) := fun q => z (decide_eq_true (congrArg V.int q))
          refine ⟨_, rfl, _, upd_same, Nat.lt_of_le_of_lt (List.length_take_le _ _) (small1000 (by omega)), ?_⟩
          rw [upd_upd, lab_take hj, st, if_neg z']
      · rintro H'' rfl
        refine ⟨⟨D, _, _, _, _, rfl, ?_⟩, ex.trans (Ext.upd nD)⟩
        rw [upd_same, fold_take ha, hg, List.take_of_length_le (by rw [lab_len, lab_len]; exact Nat.le_refl _)]
    · rintro σ' H1 ⟨⟨d, v2, v3, v4, v5, rfl, hd⟩, ex⟩
      have hlen : (as.map V.ref).length = Ars.length := by
        rw [List.length_map, PT2.len pt, List.length_map]
      rw [hlen, List.take_of_length_le (Nat.le_refl _)] at hd
      have hd : H1 d = some (.lst (lab M (fin1 Ars))) := hd
      refine ⟨Nat.zero_le _, fun L nL => ?_⟩
      have e1 : Ext H1 (upd H1 L (.lst [])) := Ext.upd nL
      refine ⟨_, rfl, p, CW, dx, _, _, rfl, e1 _ _ (ex _ _ hp), W.cl, W.nM, wf_many _ _, (M : Int), rfl, by omega, by omega, for_range (lo := 0) (n := M) (fun i σ' H' => (∃ (v6 : Option V), σ' = [some (.ref p), some (.ref d), v2, v3, v4, v5, v6, some (.ref L), Option.none]) ∧ Ext H1 H' ∧ ∃ ls, H' L = some (.lst (ls.map V.ref)) ∧ PT2 H' ls (lotsTo M (fin1 Ars) i) ∧ ls.length ≤ i) ?_ ?_ ?_⟩
      · exact ⟨⟨_, rfl⟩, e1, [], upd_same, .nil, Nat.le_refl _⟩
      · rintro i σ' H' hi ⟨⟨v6, rfl⟩, e2, ls, hL', pl, ll⟩
        have ndL : d ≠ L := ne_of_none hd nL
        refine ⟨_, rfl, _, rfl, d, _, _, _, rfl, rfl, SqL.of (e2 _ _ hd), lab_at hi (Int.zero_add _), _, rfl, rfl, _, rfl, ?_⟩
        refine ite2 (fun z => ?_) (fun z => ?_)
        · have z' : fin1 Ars i = (i : Int) := by have q := of_decide_eq_true z; injection q with q; omega
          refine ⟨_, rfl, .inl ⟨rfl, _, SqL.of hL'⟩, ?_⟩
          refine ⟨_, rfl, p, CW, dx, _, _, rfl, e2 _ _ (ex _ _ hp), W.cl, W.nM, wf_many _ _, (M : Int), rfl, by omega, by omega, fun D nD => lc_range (lo := 0) (n := M) (fun j H'' => H'' = upd H' D (.lst (lotTo (fin1 Ars) (i : Int) j))) rfl ?_ ?_⟩
          · rintro j H'' hj rfl
            refine ⟨rfl, _, rfl, _, rfl, d, _, _, _, rfl, rfl, SqL.of (Ext.upd nD _ _ (e2 _ _ hd)), lab_at hj (Int.zero_add _), _, rfl, rfl, _, rfl, ?_⟩
            have zi : (0 : Int) + (i : Int) = (i : Int) := Int.zero_add _
            refine ite2 (fun y => ?_) (fun y => ?_)
            · have y' : fin1 Ars j = (i : Int) := by have q := of_decide_eq_true y; injection q with q; omega
              refine ⟨_, rfl, _, upd_same, Nat.lt_of_le_of_lt (lotTo_len _ _ _) (small1000 (by omega)), ?_⟩
              rw [upd_upd, lotTo_succ, if_pos y', Int.zero_add]
            · have y' : ¬ fin1 Ars j = (i : Int) := fun q => y (decide_eq_true (by rw [zi, q]))
              show upd H' D _ = upd H' D _
              rw [lotTo_succ, if_neg y']
          · rintro H'' rfl
            refine ⟨D, _, rfl, .inl ⟨SqL.of upd_same, fun t nt => ?_⟩⟩
            have e3 : Ext H' (upd (upd H' D (.lst (lotTo (fin1 Ars) (i : Int) M))) t (.tup (lotTo (fin1 Ars) (i : Int) M))) := (Ext.upd nD).trans (Ext.upd nt)
            refine ⟨L, _, _, rfl, rfl, e3 _ _ hL', by rw [List.length_map]; exact small1000 (by omega), ?_⟩
            have ntL : t ≠ L := fun e => by rw [e, (Ext.upd nD) _ _ hL'] at nt; cases nt
            refine ⟨⟨_, rfl⟩, fun b o h => ?_, ls ++ [t], ?_, ?_, by rw [List.length_append]; exact Nat.succ_le_succ ll⟩
            · rw [upd_ne (ne_of_none h nL)]
              exact e3 _ _ (e2 _ _ h)
            · rw [upd_same, List.map_append]
              rfl
            · rw [lotsTo_succ, if_pos z']
              refine PT2.snoc (pl.mono fun b xs h => ?_) ?_
              · rw [upd_ne (lst_ne hL' h)]
                exact e3 _ _ h
              · rw [upd_ne ntL, upd_same, lotTo_all]
        · have z' : ¬ fin1 Ars i = (i : Int) := fun q => z (decide_eq_true (by rw [q, Int.zero_add]))
          refine ⟨⟨_, rfl⟩, e2, ls, hL', ?_, by omega⟩
          rw [lotsTo_succ, if_neg z']
          exact pl
      · rintro σ' H' ⟨⟨v6, rfl⟩, e2, ls, hL', pl, ll⟩
        refine ⟨_, rfl, L, _, rfl, .inl ⟨SqL.of hL', fun t nt => ?_⟩⟩
        refine k t _ (ex.trans (e2.trans (Ext.upd nt))) ⟨ls, upd_same, ?_⟩
        rw [lotsTo_all] at pl
        exact pl.mono fun b xs h => Ext.upd nt _ _ h
end
end R23

set_option Elab.async false
set_option linter.all false
set_option maxRecDepth 100000
set_option maxHeartbeats 4000000
set_option pp.maxSteps 60
/-! A comprehension over anything, its test told beforehand: what is made of each turn. -/
namespace R23
open PySem L2
theorem ref_get {as : List Addr} {j : Nat} {y : V} (h : (as.map V.ref)[j]? = some y) : ∃ b, as[j]? = some b ∧ y = .ref b := by
  rw [List.getElem?_map] at h
  cases e : as[j]? with
  | none => rw [e] at h; cases h
  | some b => rw [e] at h; cases h; exact ⟨b, rfl, rfl⟩
/-- tuples stay -/
def TExt (H H' : Hp) : Prop := ∀ b xs, H b = some (.tup xs) → H' b = some (.tup xs)
theorem TExt.of {H H' : Hp} (e : Ext H H') : TExt H H' := fun b xs h => e b _ h
theorem TExt.trans {H H1 H2 : Hp} (x : TExt H H1) (y : TExt H1 H2) : TExt H H2 := fun b xs h => y b xs (x b xs h)
theorem TExt.put {H : Hp} {l : Addr} {xs ys : List V} (h : H l = some (.lst xs)) : TExt H (upd H l (.lst ys)) := fun b zs hb => by
  rw [upd_ne (lst_ne h hb)]
  exact hb
theorem lc_gen {J : It} {n : Nat} {G : Hp → Prop} {Y : Nat → Hp → V → Hp → Prop} (w : Walk J n G Y) {g : TG} {tt : L2.TT} {te : TE} {vs : List Nat} {σ : L2.St} {H : Hp} {D : Addr} {Qd : Hp → Prop} (nD : H D = none) (n1000 : n ≤ 1000) (p : Nat → Bool) (Pr : Nat → V → Hp → Prop)
    (mono : ∀ i y H1 H2, TExt H1 H2 → Pr i y H1 → Pr i y H2) (hG : ∀ H', Ext H H' → G H')
    (hs : ∀ i x H1 H' (R : VK) (N : Hp → Prop), i < n → Ext H H1 → Y i H1 x H' → (p i = true → ∀ y H4, Ext H1 H4 → Pr i y H4 → R y H4) → (p i = false → ∀ H4, Ext H1 H4 → N H4) →
      g x (wipe σ vs) H' fun σ2 H2 => wipe σ2 vs = wipe σ vs ∧ tt σ2 H2 fun b H3 => if b = true then te σ2 H3 R else N H3)
    (hd : ∀ ys H', Ext H H' → H' D = some (.lst ys) → Paired (fun i y => Pr i y H') ((List.range n).filter p) ys → Qd H') :
    ∃ W : Nat → Nat → Hp → Prop, (∃ m, W 0 m (upd H D (.lst []))) ∧ ∀ i m H, W i m H →
      (J.stop i H ∧ Qd H) ∨ (J.go i H ∧ ∃ Nx : Hp → Prop, (∀ H', Nx H' → ∃ m', m' < m ∧ W (i + 1) m' H') ∧ ∀ x H', J.yld i H x H' → g x (wipe σ vs) H' fun σ2 H2 => wipe σ2 vs = wipe σ vs ∧ tt σ2 H2 fun b H3 =>
        if b = true then te σ2 H3 fun y H4 => ∃ acc, H4 D = some (.lst acc) ∧ acc.length < sizeLine ∧ Nx (upd H4 D (.lst (acc ++ [y]))) else Nx H3) := by
  refine lc_it w (fun i H' => Ext H H' ∧ ∃ ys, H' D = some (.lst ys) ∧ Paired (fun i y => Pr i y H') ((List.range i).filter p) ys) ⟨Ext.upd nD, [], upd_same, .nil⟩ (fun i H' _ z => hG H' z.1) ?_ ?_
  · rintro i x H1 H' hi ⟨e1, ys, hD, pr⟩ y
    have ly : ys.length ≤ i := by
      rw [← Paired.length pr]
      exact Nat.le_trans (List.length_filter_le _ _) (by rw [List.length_range]; exact Nat.le_refl _)
    refine hs i x H1 H' _ _ hi e1 y (fun hp z H4 e4 hz => ?_) (fun hp H4 e4 => ?_)
    · have hD4 := e4 _ _ hD
      have t4 : TExt H4 (upd H4 D (.lst (ys ++ [z]))) := TExt.put hD4
      refine ⟨ys, hD4, small1000 (by omega), fun b o hb => ?_, ys ++ [z], upd_same, ?_⟩
      · rw [upd_ne (ne_of_none hb nD)]
        exact e4 _ _ (e1 _ _ hb)
      · rw [List.range_succ, List.filter_append]
        have ef : [i].filter p = [i] := by rw [List.filter_cons, if_pos hp]; rfl
        rw [ef]
        exact Paired.snoc (Paired.imp' (fun j u q => mono _ _ _ _ ((TExt.of e4).trans t4) q) pr) (mono _ _ _ _ t4 hz)
    · refine ⟨e1.trans e4, ys, e4 _ _ hD, ?_⟩
      rw [List.range_succ, List.filter_append]
      have ef : [i].filter p = [] := by rw [List.filter_cons, if_neg (by rw [hp]; exact Bool.false_ne_true)]; rfl
      rw [ef, List.append_nil]
      exact Paired.imp' (fun j u q => mono _ _ _ _ (TExt.of e4) q) pr
  · rintro H' ⟨e, ys, hD, pr⟩
    exact hd ys H' e hD pr
/-- .. of flags -/
theorem flags_of {t : Nat → Bool} {n : Nat} {ys : List V} (h : Paired (fun i y => y = V.bl (t i)) ((List.range n).filter fun _ => true) ys) : ys = ((List.range n).map t).map V.bl := by
  rw [List.filter_eq_self.mpr fun _ _ => rfl] at h
  generalize List.range n = r at h
  induction h with
  | nil => rfl
  | cons a _ ih => rw [List.map_cons, List.map_cons, ← ih, a]
theorem vals_of {f : Nat → V} {n : Nat} {p : Nat → Bool} {ys : List V} (h : Paired (fun i y => y = f i) ((List.range n).filter p) ys) : ys = ((List.range n).filter p).map f := by
  generalize (List.range n).filter p = r at h
  induction h with
  | nil => rfl
  | cons a _ ih => rw [List.map_cons, ← ih, a]
theorem range_map {α β : Type} {ds : List α} {n : Nat} (f : α → β) (z : α) (h : n = ds.length) : (List.range n).map (fun i => f (ds.getD i z)) = ds.map f := by
  subst h
  refine List.ext_getElem (by simp) fun i h1 h2 => ?_
  simp at h1
  simp [List.getElem?_eq_getElem h1]
def rLenS (K : PySem.W.Frag) : List V → Hp → VK → Prop := fun xs H Q => ∃ p ys, xs = [.ref p] ∧ (SqL K H p ys ∨ SqT K H p ys) ∧ Q (.int ys.length) H
theorem call_lenS {X : Cx} : CallR X (.builtin "len") (rLenS X.K) := call_len_seq
end R23

set_option Elab.async false
set_option linter.all false
set_option maxRecDepth 100000
set_option maxHeartbeats 4000000
set_option pp.maxSteps 100
/-! The other ends of arrows, the places on a way. -/
namespace R23
open PySem L2 K9M M21
abbrev sOther : Stmt := top 21
abbrev sWayL : Stmt := top 22
abbrev nv (n : Nat) : V := V.int (n : Int)
/-- of arrows, a list of places stands at r -/
def spOther (CW : Addr) : Sp := fun vs H Q _ => ∃ (p b : Addr) (M : Int) (A : Ar) (q : Nat), vs = [.ref p, nv q] ∧ WebAt CW H p M b ∧ TT H b (A.map arL) ∧ A.length ≤ 12 ∧ ∀ (r : Addr) (H' : Hp), Ext H H' → H r = none → H' r = some (.lst ((ends A q).map nv)) → Q (.ref r) H'
def spWayL (CW : Addr) : Sp := fun vs H Q _ => ∃ (p b : Addr) (M : Int) (A : Ar) (ahead here n : Nat), vs = [.ref p, nv ahead, nv here] ∧ WebAt CW H p M b ∧ TT H b (A.map arL) ∧ A.length ≤ 12 ∧ WayS A ahead here n ∧ ∀ H', Ext H H' → Q (nv n) H'
theorem ends_snoc {A : Ar} {i : Nat} {a : Nat × Nat} (h : A[i]? = some a) (q : Nat) : ends (A.take (i + 1)) q = ends (A.take i) q ++ ((if a.1 = q then [a.2] else []) ++ (if a.2 = q then [a.1] else [])) := by
  rw [List.take_succ, h, ends_append]
  show ends (A.take i) q ++ ends [a] q = _
  rw [ends_cons]
  simp [ends]
theorem ends_len : ∀ (A : Ar) (q : Nat), (ends A q).length ≤ 2 * A.length
  | [], q => Nat.le_refl _
  | a :: A, q => by
    rw [ends_cons, List.length_append, List.length_append, List.length_cons]
    have := ends_len A q
    have h1 : (if a.1 = q then [a.2] else []).length ≤ 1 := by split <;> simp
    have h2 : (if a.2 = q then [a.1] else []).length ≤ 1 := by split <;> simp
    omega
theorem nv_get {l : List Nat} {i : Nat} {x : V} (h : (l.map nv)[i]? = some x) : ∃ n, l[i]? = some n ∧ x = nv n := by
  rw [List.getElem?_map] at h
  cases e : l[i]? with
  | none => rw [e] at h; cases h
  | some n => rw [e] at h; cases h; exact ⟨n, rfl, rfl⟩
theorem nv_eq {i j : Nat} : decide (nv i = nv j) = decide (i = j) := by
  by_cases h : i = j
  · rw [h, decide_eq_true rfl, decide_eq_true rfl]
  · rw [decide_eq_false h, decide_eq_false fun z => h (by injection z with z; omega)]
section
variable {P : Program} {w : World} {K : PySem.W.Frag} {mg : Str → Option Value} {base : Heap}
abbrev otherN : List Str := ["web", "place", "found", "begin", "end"]
theorem scOther : FnScope otherN ["web", "place"] (defScope sOther) := ⟨rfl, rfl, rfl, by decide +kernel, rfl, by decide +kernel, by decide +kernel⟩
theorem ok_other {f CW : Addr} {fd : FuncData} (F : L2.Fun K "other_ends" "other_ends" sOther f fd) (T : Gb mg) (W : WebC K mg CW) : FnOk P w K mg base CX0 1 f fd ["web", "place"] (spOther CW) := by
  refine F.ok scOther (fun vs H Q E h => ?_) (fun cdv A outer s H vs Q E hr h => ?_)
  · obtain ⟨p, b, M, A, q, rfl, _⟩ := h
    rfl
  · obtain ⟨p, b, M, Ars, q, rfl, ⟨dx, hp⟩, ⟨as, hb, pt⟩, hL, k⟩ := h
    refine ⟨_, pss_cons (ps_set (i := 2) scOther.nd rfl (Or.inl rfl) (pe_lst pa_nil))
      (pss_cons (ps_for PassesOwn.never rfl (pi_tup (pe_fld (pv 0) rfl)) (pg_tup rfl (pgs_cons (pg_name (i := 3) scOther.nd rfl (Or.inl rfl)) (pgs_cons (pg_name (i := 4) scOther.nd rfl (Or.inl rfl)) pgs_nil)))
      (C8.pss_cut (ps_if (pt_cmpR op_eq (pv 3) (pv 1) (nomark _)) (pss_one (ps_expr (pe_bm PySem.F.plainAttrs_list PySem.F.slot_list_append PySem.F.type_list_append mt_append (pv 2) (pa_cons (pv 4) pa_nil)))) pss_nil)
      (pss_one (ps_if (pt_cmpR op_eq (pv 4) (pv 1) (nomark _)) (pss_one (ps_expr (pe_bm PySem.F.plainAttrs_list PySem.F.slot_list_append PySem.F.type_list_append mt_append (pv 2) (pa_cons (pv 3) pa_nil)))) pss_nil))))
      (pss_one (ps_ret (pv 2)))), ?_⟩
    have hlen : (as.map V.ref).length = Ars.length := by rw [List.length_map, PT2.len pt, List.length_map]
    refine ⟨Nat.zero_le _, fun d nd => ?_⟩
    have e0 : Ext H (upd H d (.lst [])) := Ext.upd nd
    refine ⟨_, rfl, p, CW, dx, _, _, rfl, e0 _ _ hp, W.cl, W.nA, wf_arrows _ _, b, rfl, ⟨_, SqT.of (e0 _ _ hb)⟩, for_tup (K := K) (a := b) (xs := as.map V.ref) (fun i σ' H' => (∃ (v3 v4 : Option V), σ' = [some (.ref p), some (nv q), some (.ref d), v3, v4] ∧ H' d = some (.lst ((ends (Ars.take i) q).map nv))) ∧ Ext H H')
      ⟨⟨_, _, rfl, upd_same⟩, e0⟩ (fun i σ' H' _ h => SqT.of (h.2 _ _ hb)) ?_ ?_⟩
    · rintro i x σ' H' hx ⟨⟨v3, v4, rfl, hd⟩, ex⟩
      obtain ⟨c, a, rfl, ha, hc⟩ := TT.arrow pt hx
      have le1 := ends_len (Ars.take i) q
      have le2 : (Ars.take i).length ≤ 12 := by rw [List.length_take]; omega
      refine ⟨c, _, rfl, SqT.of (ex _ _ hc), rfl, _, _, rfl, _, _, rfl, rfl, ?_⟩
      refine ⟨fun σ' H'' => σ' = [some (.ref p), some (nv q), some (.ref d), some (nv a.1), some (nv a.2)] ∧ H'' d = some (.lst ((ends (Ars.take i) q ++ (if a.1 = q then [a.2] else [])).map nv)) ∧ Ext H H'', ?_, ?_⟩
      · refine ⟨_, rfl, _, rfl, rfl, _, rfl, ?_⟩
        rw [nv_eq]
        refine ite2 (fun z => ?_) (fun z => ?_)
        · have z := of_decide_eq_true z
          refine ⟨_, rfl, .inl ⟨rfl, _, SqL.of hd⟩, _, rfl, d, _, _, rfl, rfl, hd, by rw [List.length_map]; exact small1000 (by omega), rfl, ?_, fun b o h => ?_⟩
          · rw [upd_same, if_pos z, List.map_append]
            rfl
          · rw [upd_ne (ne_of_none h nd)]
            exact ex _ _ h
        · have z : ¬ a.1 = q := fun y => z (decide_eq_true y)
          refine ⟨rfl, ?_, ex⟩
          rw [if_neg z, List.append_nil]
          exact hd
      · rintro σ' H'' ⟨rfl, hd, ex⟩
        have le3 : (ends (Ars.take i) q ++ (if a.1 = q then [a.2] else [])).length ≤ 25 := by
          rw [List.length_append]
          have : (if a.1 = q then [a.2] else []).length ≤ 1 := by split <;> simp
          omega
        refine ⟨_, rfl, _, rfl, rfl, _, rfl, ?_⟩
        rw [nv_eq]
        refine ite2 (fun z => ?_) (fun z => ?_)
        · have z := of_decide_eq_true z
          refine ⟨_, rfl, .inl ⟨rfl, _, SqL.of hd⟩, _, rfl, d, _, _, rfl, rfl, hd, by rw [List.length_map]; exact small1000 (by omega), ⟨_, _, rfl, ?_⟩, fun b o h => ?_⟩
          · rw [upd_same, ends_snoc ha, if_pos z, ← List.append_assoc, List.map_append, List.map_append, List.map_append]
            rfl
          · rw [upd_ne (ne_of_none h nd)]
            exact ex _ _ h
        · have z : ¬ a.2 = q := fun y => z (decide_eq_true y)
          refine ⟨⟨_, _, rfl, ?_⟩, ex⟩
          rw [ends_snoc ha, if_neg z, List.append_nil]
          exact hd
    · rintro σ' H1 ⟨⟨v3, v4, rfl, hd⟩, ex⟩
      rw [hlen, List.take_of_length_le (Nat.le_refl _)] at hd
      exact ⟨_, rfl, k d H1 ex nd hd⟩
abbrev wayLN : List Str := ["web", "start", "place", "many", "onward", "other"]
theorem scWayL : FnScope wayLN ["web", "start", "place"] (defScope sWayL) := ⟨rfl, rfl, rfl, by decide +kernel, rfl, by decide +kernel, by decide +kernel⟩
/-- the ends but this one, gathered -/
theorem lc_ne {a c : Nat} {l : List Nat} {d D : Addr} {H1 : Hp} (i : Nat) {n : Nat} (h : l[i]? = some n) : ((l.take (i + 1)).filter fun q => decide (q ≠ c)) = ((l.take i).filter fun q => decide (q ≠ c)) ++ (if n = c then [] else [n]) := by
  rw [List.take_succ, h, List.filter_append]
  congr 1
  by_cases e : n = c
  · simp [e]
  · simp [e]
theorem ok_wayL {f CW : Addr} {fd : FuncData} (F : L2.Fun K "way_length" "way_length" sWayL f fd) (T : Gb mg) (cO : Cal P w K mg base 1 "other_ends" (spOther CW) []) : FnOk P w K mg base CX0 2 f fd ["web", "start", "place"] (spWayL CW) := by
  refine F.ok scWayL (fun vs H Q E h => ?_) (fun cdv A outer s H vs Q E hr h => ?_)
  · obtain ⟨p, b, M, A, ahead, here, n, rfl, _⟩ := h
    rfl
  · obtain ⟨p, b, M, Ars, ahead, here, n, rfl, hw, ht, hL, way, k⟩ := h
    refine ⟨_, pss_cons (ps_set (i := 3) scWayL.nd rfl (Or.inl rfl) pe_int)
      (pss_cons (ps_setLc (i := 4) (own := [("other", 5)]) (g := gName 5) rfl scWayL.nd rfl rfl (sw_true rfl rfl rfl (by decide +kernel)) (pi_list (C8.pe_c cO hr (by decide) (by rfl) (pa_cons (pv 0) (pa_cons (pv 2) pa_nil)))) (blkOk_by (N := wayLN) (sc := defScope sWayL) (by decide +kernel)) (fun _ _ _ _ _ => (pg_name (i := 5) scWayL.nd rfl (Or.inl rfl))) (fun _ _ _ _ _ => (pts_one (pt_cmpR op_ne (pv 5) (pv 1) (nomark _)))) (fun _ _ _ _ _ => (pv 5)))
      (pss_cons (ps_while PassesOwn.never (pt_cmpR op_gt (pe_callB call_len_seq (by rfl) T.len PySem.boot_len (pa_cons (pv 4) pa_nil)) pe_int (nomark _))
      (pss_cons (ps_asg (pe_tup (pa_cons (pv 2) (pa_cons (pe_ix ix_list (pv 4) pe_int (fun _ _ => rfl)) pa_nil))) (pg_tup rfl (pgs_cons (pg_name (i := 1) scWayL.nd rfl (Or.inr rfl)) (pgs_cons (pg_name (i := 2) scWayL.nd rfl (Or.inl rfl)) pgs_nil))))
      (pss_cons (ps_set (i := 3) scWayL.nd rfl (Or.inl rfl) (pe_op op_add (pv 3) pe_int))
      (pss_one (ps_setLc (i := 4) (own := [("other", 5)]) (g := gName 5) rfl scWayL.nd rfl rfl (sw_true rfl rfl rfl (by decide +kernel)) (pi_list (C8.pe_c cO hr (by decide) (by rfl) (pa_cons (pv 0) (pa_cons (pv 2) pa_nil)))) (blkOk_by (N := wayLN) (sc := defScope sWayL) (by decide +kernel)) (fun _ _ _ _ _ => (pg_name (i := 5) scWayL.nd rfl (Or.inl rfl))) (fun _ _ _ _ _ => (pts_one (pt_cmpR op_ne (pv 5) (pv 1) (nomark _)))) (fun _ _ _ _ _ => (pv 5)))))))
      (pss_one (ps_ret (pv 3))))), ?_⟩
    -- the comprehension, from any places
    have comp : ∀ (J : Hp) (st pl : Nat) (v3 v4 : Option V) (Q' : VK), Ext H J → (∀ r J', Ext J J' → J' r = some (.lst ((onward Ars st pl).map nv)) → Q' (.ref r) J') →
        tLc (iList K (tCall (spOther CW) [] C8.E0 (tCons (tVar 0) (tCons (tVar 2) tNil)))) (gName 5) (tTest (tOp rNe (tVar 5) (tVar 1))) (tVar 5) (List.map (fun x => x.snd) [(Str.ofString "other", 5)]) [some (.ref p), some (nv st), some (nv pl), v3, v4, Option.none] J Q' := by
      intro J st pl v3 v4 Q' xJ kQ
      refine ⟨_, rfl, _, rfl, p, b, M, Ars, pl, rfl, hw.ext xJ, ht.ext xJ, hL, fun r J1 x1 nr hr1 => ?_⟩
      refine ⟨r, rfl, ⟨_, SqL.of hr1⟩, fun D nD => lc_list (K := K) (a := r) (xs := (ends Ars pl).map nv) (fun i J' => J' = upd J1 D (.lst ((((ends Ars pl).take i).filter fun q => decide (q ≠ st)).map nv))) (by simp) (fun i J' _ e => by rw [e]; exact SqL.of (Ext.upd nD _ _ hr1)) ?_ ?_⟩
      · rintro i y J' hy rfl
        obtain ⟨n, hn, rfl⟩ := nv_get hy
        have el := ends_len Ars pl
        have fl : (((ends Ars pl).take i).filter fun q => decide (q ≠ st)).length ≤ 24 := Nat.le_trans (List.length_filter_le _ _) (by rw [List.length_take]; omega)
        refine ⟨rfl, _, rfl, _, rfl, rfl, _, rfl, ?_⟩
        rw [nv_eq]
        refine ite2 (fun z => ?_) (fun z => ?_)
        · have z : ¬ n = st := of_decide_eq_false (by simpa using z)
          refine ⟨_, rfl, _, upd_same, by rw [List.length_map]; exact small1000 (by omega), ?_⟩
          rw [upd_upd, lc_ne (d := D) (D := D) (H1 := J) (a := 0) i hn, if_neg z, List.map_append]
          rfl
        · have z : n = st := of_decide_eq_true (by simpa using z)
          show upd J1 D _ = upd J1 D _
          rw [lc_ne (d := D) (D := D) (H1 := J) (a := 0) i hn, if_pos z, List.append_nil]
      · rintro J' rfl
        refine kQ D _ (x1.trans (Ext.upd nD)) ?_
        rw [upd_same, List.length_map, List.take_of_length_le (Nat.le_refl _)]
        rfl
    dsimp only [tSeq, tAsg, tC, gName]
    refine comp H ahead here _ _ _ Ext.rfl' fun r H1 x1 hr1 => ?_
    refine ⟨fun m σ' J => ∃ (st pl : Nat) (c : Int) (o : Addr), σ' = [some (.ref p), some (nv st), some (nv pl), some (.int c), some (.ref o), Option.none] ∧ Ext H J ∧ J o = some (.lst ((onward Ars st pl).map nv)) ∧ WayS Ars st pl m ∧ c + (m : Int) = (n : Int) + 1, ⟨n, ahead, here, 1, r, rfl, x1, hr1, way, by omega⟩, ?_⟩
    rintro m σ' J ⟨st, pl, c, o, rfl, xJ, ho, wS, em⟩
    refine ⟨_, rfl, o, _, rfl, .inl (SqL.of ho), _, _, rfl, rfl, _, rfl, ?_⟩
    cases wS with
    | stop e =>
      rw [e]
      refine iteF ?_
      have ec : c = (n : Int) := by omega
      subst ec
      exact ⟨_, rfl, k J xJ⟩
    | step e w' =>
      rename_i x m'
      rw [e] at ho ⊢
      refine iteT ?_
      refine ⟨fun σ' J' => ∃ m2, m2 < m' + 1 ∧ ∃ (st pl : Nat) (c : Int) (o : Addr), σ' = [some (.ref p), some (nv st), some (nv pl), some (.int c), some (.ref o), Option.none] ∧ Ext H J' ∧ J' o = some (.lst ((onward Ars st pl).map nv)) ∧ WayS Ars st pl m2 ∧ c + (m2 : Int) = (n : Int) + 1, fun _ _ z => z, ?_⟩
      refine ⟨_, rfl, _, rfl, o, _, _, _, rfl, rfl, SqL.of ho, rfl, by show 2 ≤ sizeLine; decide, fun t nt => ?_⟩
      have x2 : Ext J (upd J t (.tup [nv pl, nv x])) := Ext.upd nt
      refine ⟨t, _, rfl, SqT.of upd_same, rfl, _, _, rfl, _, _, rfl, rfl, ?_⟩
      refine ⟨_, rfl, _, _, rfl, rfl, ?_⟩
      dsimp only [tSeq, tAsg, tC, gName]
      refine comp _ pl x _ _ _ (xJ.trans x2) fun r2 J2 x3 hr2 => ?_
      exact ⟨m', Nat.lt_succ_self _, pl, x, c + 1, r2, rfl, xJ.trans (x2.trans x3), hr2, w', by omega⟩
end
end R23

set_option Elab.async false
set_option linter.all false
set_option maxRecDepth 100000
set_option maxHeartbeats 4000000
set_option pp.maxSteps 100
/-! kind_of, kinds. -/
namespace R23
open PySem L2 K9M M21
abbrev sKindOf : Stmt := top 23
abbrev sKinds : Stmt := top 24
theorem hu_of {k : Nat} {A : Around} (hr : Room k A) : A.units + 1 < cLine := by have := hr.un; omega
def lett : Nat → Str
  | 0 => "A"
  | 1 => "D"
  | _ => "E"
/-- a kind stands at x: None, or a pair of a letter and a number -/
def KV (H : Hp) (x : V) : Option (Nat × Nat) → Prop
  | none => x = .non
  | some s => ∃ r, x = .ref r ∧ H r = some (.tup [.str (lett s.1), nv s.2])
theorem KV.ext {H H' : Hp} {x : V} {k : Option (Nat × Nat)} (e : Ext H H') (h : KV H x k) : KV H' x k := by
  cases k with
  | none => exact h
  | some s => obtain ⟨r, h1, h2⟩ := h; exact ⟨r, h1, e _ _ h2⟩
def spKindOf (CW : Addr) : Sp := fun vs H Q _ => ∃ (p b t : Addr) (M : Int) (A : Ar) (L : List Nat) (k : Option (Nat × Nat)), vs = [.ref p, .ref t] ∧ WebAt CW H p M b ∧ TT H b (A.map arL) ∧ A.length ≤ 12 ∧ H t = some (.tup (L.map nv)) ∧ L.Nodup ∧ L.length ≤ 8 ∧ KindR A L k ∧ ∀ x H', Ext H H' → KV H' x k → Q x H'
/-- how many ends each place has -/
def metK (A : Ar) (l : List Nat) : List (Key × V) := l.map fun p : Nat => ((Sum.inl (p : Int) : Key), nv (ends A p).length)
theorem met_get {A : Ar} : ∀ {l : List Nat} {p : Nat}, valV (metK A l) (Sum.inl (p : Int)) = if p ∈ l then some (nv (ends A p).length) else none
  | [], p => by simp [metK, valV_nil]
  | q :: l, p => by
    unfold metK
    rw [List.map_cons]
    by_cases e : q = p
    · subst e
      rw [valV_pos rfl, if_pos List.mem_cons_self]
    · rw [valV_neg (by intro z; injection z with z; omega)]
      have := met_get (A := A) (l := l) (p := p)
      unfold metK at this
      rw [this]
      by_cases m : p ∈ l
      · rw [if_pos m, if_pos (List.mem_cons_of_mem _ m)]
      · rw [if_neg m, if_neg fun z => (List.mem_cons.mp z).elim (fun y => e y.symm) m]
theorem nat_sum : ∀ l : List Nat, (l.map fun n : Nat => (n : Int)).sum = (l.sum : Int)
  | [] => rfl
  | x :: l => by rw [List.map_cons, List.sum_cons, List.sum_cons, nat_sum l]; omega
theorem nat_sorted {ns : List Int} {ws S : List Nat} (h1 : ns.Perm (ws.map fun n : Nat => (n : Int))) (h2 : ns.Pairwise (· ≤ ·)) (h3 : S.Perm ws) (h4 : S.Pairwise (· ≤ ·)) : ns = S.map fun n : Nat => (n : Int) := by
  refine List.Perm.eq_of_pairwise (le := (· ≤ ·)) (fun a b _ _ x y => by omega) h2 ?_ (h1.trans (h3.map _).symm)
  rw [List.pairwise_map]
  exact h4.imp fun h => by omega
theorem map_nv {l : List Nat} : (l.map fun n : Nat => (n : Int)).map V.int = l.map nv := by
  rw [List.map_map]
  rfl
section
variable {P : Program} {w : World} {K : PySem.W.Frag} {mg : Str → Option Value} {base : Heap}
abbrev kindOfN : List Str := ["web", "lot", "many", "met", "place", "forks", "short", "middle", "far"]
theorem scKindOf : FnScope kindOfN ["web", "lot"] (defScope sKindOf) := ⟨rfl, rfl, rfl, by decide +kernel, rfl, by decide +kernel, by decide +kernel⟩
theorem ok_kindOf {f CW : Addr} {fd : FuncData} (F : L2.Fun K "kind_of" "kind_of" sKindOf f fd) (T : Gb mg) (sm : mg "sum" = none) (cO : Cal P w K mg base 1 "other_ends" (spOther CW) []) (cY : Cal P w K mg base 2 "way_length" (spWayL CW) []) : FnOk P w K mg base CX0 3 f fd ["web", "lot"] (spKindOf CW) := by
  refine F.ok scKindOf (fun vs H Q E h => ?_) (fun cdv A outer s H vs Q E hr h => ?_)
  · obtain ⟨p, b, t, M, A, L, kd, rfl, _⟩ := h
    rfl
  · obtain ⟨p, b, t, M, Ars, L, kd, rfl, hw, ht, hL, hl, nd, l8, kr, k⟩ := h
    have hu1 := hu_of hr
    refine ⟨_, pss_cons (ps_set (i := 2) scKindOf.nd rfl (Or.inl rfl) (pe_callB call_len_seq (by rfl) T.len PySem.boot_len (pa_cons (pv 1) pa_nil)))
      (C8.pss_cut (ps_set (i := 3) scKindOf.nd rfl (Or.inr rfl) (pe_dc (own := [("place", 4)]) (g := gName 4) (tt := tYes) rfl scKindOf.nd (pi_tup (pv 1)) (blkOk_by (N := kindOfN) (sc := defScope sKindOf) (by decide +kernel)) (fun _ _ _ _ _ => (pg_name (i := 4) scKindOf.nd rfl (Or.inl rfl))) (fun _ _ _ _ _ => pts_nil) (fun _ _ _ _ _ => (pv 4)) (fun _ _ _ _ _ => (pe_callB (r := rLenS K) call_lenS (by rfl) T.len PySem.boot_len (pa_cons (C8.pe_c cO hr (by decide) (by rfl) (pa_cons (pv 0) (pa_cons (pv 4) pa_nil))) pa_nil)))))
      (pss_cons (ps_if (pt_cmpR op_ne (pe_callB (cr_sum rfl) (by rfl) sm (by decide +kernel) (pa_cons (pe_lc (own := [("place", 4)]) (g := gName 4) (tt := tYes) rfl scKindOf.nd (pi_tup (pv 1)) (blkOk_by (N := kindOfN) (sc := defScope sKindOf) (by decide +kernel)) (fun _ _ _ _ _ => (pg_name (i := 4) scKindOf.nd rfl (Or.inl rfl))) (fun _ _ _ _ _ => pts_nil) (fun _ _ _ _ _ => (pe_dget hu1 (pv 3) (pv 4) (fun _ _ => rfl)))) pa_nil)) (pe_op op_mul pe_int (pe_op op_sub (pv 2) pe_int)) (nomark _)) (pss_one (ps_ret pe_non)) pss_nil)
      (C8.pss_cut (ps_set (i := 5) scKindOf.nd rfl (Or.inr rfl) (pe_lc (own := [("place", 4)]) (g := gName 4) rfl scKindOf.nd (pi_tup (pv 1)) (blkOk_by (N := kindOfN) (sc := defScope sKindOf) (by decide +kernel)) (fun _ _ _ _ _ => (pg_name (i := 4) scKindOf.nd rfl (Or.inl rfl))) (fun _ _ _ _ _ => (pts_one (pt_cmpR op_gt (pe_dget hu1 (pv 3) (pv 4) (fun _ _ => rfl)) pe_int (nomark _)))) (fun _ _ _ _ _ => (pv 4))))
      (pss_cons (ps_if (pt_cmpR op_eq (pe_callB call_len_seq (by rfl) T.len PySem.boot_len (pa_cons (pv 5) pa_nil)) pe_int (nomark _)) (pss_one (ps_ret (pe_tup (pa_cons pe_str (pa_cons (pv 2) pa_nil))))) pss_nil)
      (pss_cons (ps_if (PW.pt (pw_or (pt_cmpR op_gt (pe_callB call_len_seq (by rfl) T.len PySem.boot_len (pa_cons (pv 5) pa_nil)) pe_int (nomark _)) (pw_or1 (pt_cmpR op_gt (pe_dget hu1 (pv 3) (pe_ix ix_list (pv 5) pe_int (fun _ _ => rfl)) (fun _ _ => rfl)) pe_int (nomark _))))) (pss_one (ps_ret pe_non)) pss_nil)
      (pss_cons (ps_asg (pe_callB (r := rSortedI K) cr_sortedI (by rfl) T.sorted (by decide +kernel) (pa_cons (pe_lc (own := [("place", 4)]) (g := gName 4) (tt := tYes) rfl scKindOf.nd (pi_list (C8.pe_c cO hr (by decide) (by rfl) (pa_cons (pv 0) (pa_cons (pe_ix ix_list (pv 5) pe_int (fun _ _ => rfl)) pa_nil)))) (blkOk_by (N := kindOfN) (sc := defScope sKindOf) (by decide +kernel)) (fun _ _ _ _ _ => (pg_name (i := 4) scKindOf.nd rfl (Or.inl rfl))) (fun _ _ _ _ _ => pts_nil) (fun _ _ _ _ _ => (C8.pe_c cY hr (by decide) (by rfl) (pa_cons (pv 0) (pa_cons (pe_ix (r := rIxL K) ix_list (pv 5) pe_int (fun _ _ => rfl)) (pa_cons (pv 4) pa_nil)))))) pa_nil)) (pg_lst rfl (pgs_cons (pg_name (i := 6) scKindOf.nd rfl (Or.inl rfl)) (pgs_cons (pg_name (i := 7) scKindOf.nd rfl (Or.inl rfl)) (pgs_cons (pg_name (i := 8) scKindOf.nd rfl (Or.inl rfl)) pgs_nil)))))
      (pss_cons (ps_if (PW.pt (pw_and (pt_cmpR op_eq (pv 6) pe_int (nomark _)) (pw_and1 (pt_cmpR op_eq (pv 7) pe_int (nomark _))))) (pss_one (ps_ret (pe_tup (pa_cons pe_str (pa_cons (pv 2) pa_nil))))) pss_nil)
      (pss_cons (ps_if (PW.pt (pw_and (pt_cmpR op_eq (pv 6) pe_int (nomark _)) (pw_and (pt_cmpR op_eq (pv 7) pe_int (nomark _)) (pw_and1 (pt_cmpR op_le (pv 8) pe_int (nomark _)))))) (pss_one (ps_ret (pe_tup (pa_cons pe_str (pa_cons (pv 2) pa_nil))))) pss_nil)
      (pss_one (ps_ret pe_non)))))))))), ?_⟩
    refine ⟨_, rfl, t, _, rfl, .inr (SqT.of hl), ?_⟩
    rw [List.length_map]
    refine ⟨fun σ' H' => ∃ d : Addr, σ' = [some (.ref p), some (.ref t), some (nv L.length), some (.ref d), Option.none, Option.none, Option.none, Option.none, Option.none] ∧ Ext H H' ∧ H' d = some (.dK (metK Ars L)), ?_, ?_⟩
    · refine ⟨_, rfl, t, rfl, ⟨_, SqT.of hl⟩, fun D nD => dc_tup (K := K) (a := t) (xs := L.map nv) (fun i H' => H' D = some (.dK (metK Ars (L.take i))) ∧ Ext H H') ⟨by rw [upd_same, List.take_zero]; rfl, Ext.upd nD⟩ (fun i H' _ z => SqT.of (z.2 _ _ hl)) ?_ ?_⟩
      · rintro i y H' hy ⟨hD, ex⟩
        obtain ⟨q, hq, rfl⟩ := nv_get hy
        refine ⟨rfl, tyes_in ?_⟩
        have pL := List.mem_of_getElem? hq
        refine ⟨_, rfl, _, rfl, _, rfl, p, b, M, Ars, q, rfl, hw.ext ex, ht.ext ex, hL, fun r J x2 nr hr2 => ?_⟩
        refine ⟨r, _, rfl, .inl (SqL.of hr2), _, Sum.inl (q : Int), rfl, x2 _ _ hD, ?_, ?_, ?_⟩
        · unfold metK
          rw [List.length_map, List.length_take]
          exact small1000 (by omega)
        · rw [upd_same, putK_new _ (by
            rw [met_get, if_neg]
            intro hm
            obtain ⟨j, hj⟩ := List.mem_iff_getElem?.mp hm
            rw [List.getElem?_take] at hj
            by_cases lt : j < i
            · rw [if_pos lt] at hj
              obtain ⟨j1, j2⟩ := List.getElem?_eq_some_iff.mp hj
              obtain ⟨i1, i2⟩ := List.getElem?_eq_some_iff.mp hq
              have := (List.nodup_iff_pairwise_ne.mp nd)
              exact (List.pairwise_iff_getElem.mp this j i j1 i1 lt) (j2.trans i2.symm)
            · rw [if_neg lt] at hj
              cases hj), List.take_succ, hq]
          unfold metK
          rw [List.map_append, List.length_map]
          rfl
        · intro c o hc
          rw [upd_ne (ne_of_none hc nD)]
          exact x2 _ _ (ex _ _ hc)
      · rintro H' ⟨hD, ex⟩
        rw [List.length_map, List.take_of_length_le (Nat.le_refl _)] at hD
        exact ⟨D, rfl, ex, hD⟩
    · rintro σ' H1 ⟨d, rfl, x1, hd⟩
      have get : ∀ (J : Hp) (q : Nat), Ext H1 J → q ∈ L → DGet J d (nv q) (some (nv (ends Ars q).length)) := fun J q x hq => .inl ⟨_, Sum.inl (q : Int), .inl (x _ _ hd), rfl, by rw [met_get, if_pos hq]⟩
      refine ⟨_, rfl, t, rfl, ⟨_, SqT.of (x1 _ _ hl)⟩, fun D nD => lc_tup (K := K) (a := t) (xs := L.map nv) (fun i J => J = upd H1 D (.lst ((L.take i).map fun q => nv (ends Ars q).length))) (by simp) (fun i J _ e => by rw [e]; exact SqT.of (Ext.upd nD _ _ (x1 _ _ hl))) ?_ ?_⟩
      · rintro i y J hy rfl
        obtain ⟨q, hq, rfl⟩ := nv_get hy
        refine ⟨rfl, tyes_in ⟨_, rfl, _, rfl, d, _, rfl, get _ q (Ext.upd nD) (List.mem_of_getElem? hq), ?_⟩⟩
        refine ⟨_, upd_same, by rw [List.length_map, List.length_take]; exact small1000 (by omega), ?_⟩
        rw [upd_upd, List.take_succ, hq, List.map_append]
        rfl
      rintro J rfl
      rw [List.length_map, List.take_of_length_le (Nat.le_refl _)]
      have xD : Ext H1 (upd H1 D (.lst (L.map fun q => nv (ends Ars q).length))) := Ext.upd nD
      refine ⟨D, (L.map fun q => (ends Ars q).length).map fun n : Nat => (n : Int), rfl, SqL.of (by rw [upd_same, map_nv, List.map_map]; rfl), ?_⟩
      rw [nat_sum]
      generalize upd H1 D (.lst (L.map fun q => nv (ends Ars q).length)) = H2 at *
      have x2 := x1.trans xD
      refine ⟨_, rfl, _, _, rfl, rfl, ?_⟩
      refine ⟨_, _, rfl, rfl, .inl (by decide), rfl, _, rfl, ?_⟩
      have eds : (!decide (V.int ((L.map fun q => (ends Ars q).length).sum : Int) = V.int (2 * ((L.length : Int) - 1)))) = !decide (degs Ars L + 2 = 2 * L.length) := by
        congr 1
        by_cases e : degs Ars L + 2 = 2 * L.length
        · rw [decide_eq_true e]
          refine decide_eq_true ?_
          unfold degs at e
          congr 1
          omega
        · rw [decide_eq_false e]
          refine decide_eq_false fun z => e ?_
          injection z with z
          unfold degs
          omega
      rw [eds]
      have fin : ∀ (J : Hp), Ext H J → kd = none → Q .non J := fun J xJ e => k _ J xJ (by rw [e]; exact rfl)
      by_cases e : degs Ars L + 2 = 2 * L.length
      rotate_left
      · rw [decide_eq_false e]
        refine iteT ?_
        cases kr with
        | ring _ => exact fin _ x2 rfl
        | line h _ => exact absurd h e
        | many h _ _ => exact absurd h e
        | star _ _ _ h _ _ _ _ _ => exact absurd h e
      rw [decide_eq_true e]
      refine iteF ?_
      refine ⟨fun σ' H' => ∃ o : Addr, σ' = [some (.ref p), some (.ref t), some (nv L.length), some (.ref d), Option.none, some (.ref o), Option.none, Option.none, Option.none] ∧ Ext H1 H' ∧ H' o = some (.lst ((forks Ars L).map nv)), ?_, ?_⟩
      · refine ⟨_, rfl, t, rfl, ⟨_, SqT.of (x2 _ _ hl)⟩, fun G nG => lc_tup (K := K) (a := t) (xs := L.map nv) (fun i J => J = upd H2 G (.lst (((L.take i).filter fun q => decide (2 < (ends Ars q).length)).map nv))) (by simp) (fun i J _ e => by rw [e]; exact SqT.of (Ext.upd nG _ _ (x2 _ _ hl))) ?_ ?_⟩
        · rintro i y J hy rfl
          obtain ⟨q, hq, rfl⟩ := nv_get hy
          refine ⟨rfl, _, rfl, _, rfl, d, _, rfl, get _ q (xD.trans (Ext.upd nG)) (List.mem_of_getElem? hq), _, _, rfl, rfl, _, rfl, ?_⟩
          have fl : ((L.take i).filter fun q => decide (2 < (ends Ars q).length)).length ≤ 8 := Nat.le_trans (List.length_filter_le _ _) (by rw [List.length_take]; omega)
          have sn : ((L.take (i + 1)).filter fun q => decide (2 < (ends Ars q).length)) = ((L.take i).filter fun q => decide (2 < (ends Ars q).length)) ++ (if 2 < (ends Ars q).length then [q] else []) := by
            rw [List.take_succ, hq, List.filter_append]
            congr 1
            by_cases z : 2 < (ends Ars q).length <;> simp [z]
          refine ite2 (fun z => ?_) (fun z => ?_)
          · have z : 2 < (ends Ars q).length := by have := of_decide_eq_true z; omega
            refine ⟨_, rfl, _, upd_same, by rw [List.length_map]; exact small1000 (by omega), ?_⟩
            rw [upd_upd, sn, if_pos z, List.map_append]
            rfl
          · have z : ¬ 2 < (ends Ars q).length := fun y => z (decide_eq_true (by omega))
            show upd H2 G _ = upd H2 G _
            rw [sn, if_neg z, List.append_nil]
        · rintro J rfl
          rw [List.length_map, List.take_of_length_le (Nat.le_refl _)]
          exact ⟨G, rfl, xD.trans (Ext.upd nG), upd_same⟩
      · rintro σ' H3 ⟨o, rfl, x3, ho⟩
        have x13 := x1.trans x3
        refine ⟨_, rfl, o, _, rfl, .inl (SqL.of ho), rfl, _, rfl, ?_⟩
        rw [List.length_map]
        cases kr with
        | ring h => exact absurd e h
        | line h f0 =>
          rw [f0]
          refine iteT ⟨_, rfl, by show 2 ≤ sizeLine; decide, fun r nr => ?_⟩
          exact k _ _ (x13.trans (Ext.upd nr)) ⟨r, rfl, upd_same⟩
        | many h ne no =>
          have l0 : (forks Ars L).length ≠ 0 := fun z => ne (List.length_eq_zero_iff.mp z)
          have dn : decide (V.int ((forks Ars L).length : Int) = V.int 0) = false := decide_eq_false fun z => by injection z with z; omega
          rw [dn]
          refine iteF ⟨_, rfl, o, _, rfl, .inl (SqL.of ho), _, _, rfl, rfl, _, rfl, ?_⟩
          rw [List.length_map]
          refine ite2 (fun _ => iteT (fin _ x13 rfl)) (fun z => ?_)
          have l1 : (forks Ars L).length = 1 := by
            have : ¬ (1 : Int) < ((forks Ars L).length : Int) := fun y => z (decide_eq_true y)
            omega
          obtain ⟨c, hc⟩ := List.length_eq_one_iff.mp l1
          have hm : c ∈ forks Ars L := by rw [hc]; exact List.mem_cons_self
          obtain ⟨cL, c2⟩ := List.mem_filter.mp hm
          have c2 := of_decide_eq_true c2
          have c3 := no c hc
          rw [hc] at ho
          refine ⟨_, rfl, _, rfl, o, _, _, _, rfl, rfl, SqL.of ho, rfl, d, _, rfl, get _ c x3 cL, _, _, rfl, rfl, _, rfl, ?_⟩
          rw [decide_eq_true (show (3 : Int) < ((ends Ars c).length : Int) by omega)]
          exact iteT (fin _ x13 rfl)
        | star c ws S h fc c3 tw pS sS =>
          rw [fc] at ho ⊢
          have cL : c ∈ L := (List.mem_filter.mp (show c ∈ forks Ars L by rw [fc]; exact List.mem_cons_self)).1
          refine iteF ⟨_, rfl, o, _, rfl, .inl (SqL.of ho), _, _, rfl, rfl, _, rfl, ?_⟩
          refine iteF ⟨_, rfl, _, rfl, o, _, _, _, rfl, rfl, SqL.of ho, rfl, d, _, rfl, get _ c x3 cL, _, _, rfl, rfl, _, rfl, ?_⟩
          rw [decide_eq_false (show ¬ (3 : Int) < ((ends Ars c).length : Int) by omega)]
          refine iteF ?_
          refine ⟨_, rfl, _, rfl, o, _, _, _, rfl, rfl, SqL.of ho, rfl, p, b, M, Ars, c, rfl, hw.ext x13, ht.ext x13, hL, fun r J x4 nr hr4 => ?_⟩
          have x14 := x13.trans x4
          refine ⟨r, rfl, ⟨_, SqL.of hr4⟩, fun G nG => lc_list (K := K) (a := r) (xs := (ends Ars c).map nv) (fun i J' => Ext J J' ∧ J' G = some (.lst ((ws.take i).map nv))) ⟨Ext.upd nG, upd_same⟩ (fun i J' _ z => SqL.of (z.1 _ _ hr4)) ?_ ?_⟩
          · rintro i y J' hy ⟨x5, hG⟩
            obtain ⟨q, hq, rfl⟩ := nv_get hy
            obtain ⟨n, hn, wn⟩ := tw.get hq
            refine ⟨rfl, tyes_in ?_⟩
            refine ⟨_, rfl, _, rfl, o, _, _, _, rfl, rfl, SqL.of (x5 _ _ (x4 _ _ ho)), rfl, _, rfl, p, b, M, Ars, c, q, n, rfl, hw.ext (x14.trans x5), ht.ext (x14.trans x5), hL, wn, fun J2 x6 => ?_⟩
            have lw : i < ws.length := (List.getElem?_eq_some_iff.mp hn).1
            have := tw.len
            refine ⟨_, x6 _ _ hG, by rw [List.length_map, List.length_take]; exact small1000 (by omega), fun b' o' hb' => ?_, ?_⟩
            · rw [upd_ne (ne_of_none hb' nG)]
              exact x6 _ _ (x5 _ _ hb')
            · rw [upd_same, List.take_succ, hn, List.map_append]
              rfl
          · rintro J' ⟨x5, hG⟩
            have lw : ((ends Ars c).map nv).length = ws.length := by rw [List.length_map]; exact tw.len
            rw [lw, List.take_of_length_le (Nat.le_refl _)] at hG
            have x15 := x14.trans x5
            refine ⟨G, ws.map fun n : Nat => (n : Int), rfl, SqL.of (by rw [hG, map_nv]), fun ns g2 pn sn ng2 => ?_⟩
            have en := nat_sorted pn sn pS sS
            subst en
            have x6 : Ext J' (upd J' g2 (.lst ((S.map fun n : Nat => (n : Int)).map V.int))) := Ext.upd ng2
            have hg2 := upd_same (H := J') (a := g2) (o := .lst ((S.map fun n : Nat => (n : Int)).map V.int))
            have lS : S.length = 3 := by rw [pS.length_eq, ← tw.len, c3]
            match S, lS, hg2, x6, fin, k with
            | [a1, a2, a3], _, hg2, x6, fin, k =>
            have x16 := x15.trans x6
            refine ⟨g2, _, rfl, SqL.of hg2, rfl, _, _, rfl, _, _, rfl, _, _, rfl, rfl, ?_⟩
            have d1 : ∀ u : Nat, decide (V.int (u : Int) = V.int 1) = decide (u = 1) := fun u => nv_eq (j := 1)
            have d2 : ∀ u : Nat, decide (V.int (u : Int) = V.int 2) = decide (u = 2) := fun u => nv_eq (j := 2)
            have kE : starK L.length [a1, a2, a3] = if a1 = 1 ∧ a2 = 1 then some (1, L.length) else if a1 = 1 ∧ a2 = 2 ∧ a3 ≤ 4 then some (2, L.length) else none := rfl
            rw [kE] at k fin
            refine ⟨_, rfl, rfl, _, rfl, ?_⟩
            rw [d1]
            by_cases h1 : a1 = 1
            · rw [decide_eq_true h1]
              refine iteT ⟨_, rfl, rfl, _, rfl, ?_⟩
              rw [d1]
              by_cases h2 : a2 = 1
              · rw [decide_eq_true h2]
                refine iteT ⟨_, rfl, by show 2 ≤ sizeLine; decide, fun r nr => ?_⟩
                rw [if_pos ⟨h1, h2⟩] at k
                exact k _ _ (x16.trans (Ext.upd nr)) ⟨r, rfl, upd_same⟩
              · rw [decide_eq_false h2]
                refine iteF ⟨_, rfl, rfl, _, rfl, ?_⟩
                rw [d1, decide_eq_true h1]
                refine iteT ⟨_, rfl, rfl, _, rfl, ?_⟩
                rw [d2]
                rw [if_neg fun z => h2 z.2] at k fin
                by_cases h3 : a2 = 2
                · rw [decide_eq_true h3]
                  refine iteT ⟨_, rfl, _, _, rfl, rfl, _, rfl, ?_⟩
                  by_cases h4 : a3 ≤ 4
                  · rw [decide_eq_true (show (a3 : Int) ≤ 4 by omega)]
                    refine iteT ⟨_, rfl, by show 2 ≤ sizeLine; decide, fun r nr => ?_⟩
                    rw [if_pos ⟨h1, h3, h4⟩] at k
                    exact k _ _ (x16.trans (Ext.upd nr)) ⟨r, rfl, upd_same⟩
                  · rw [decide_eq_false (show ¬ (a3 : Int) ≤ 4 by omega)]
                    refine iteF (fin _ x16 ?_)
                    rw [if_neg fun z => h4 z.2.2]
                · rw [decide_eq_false h3]
                  refine iteF (fin _ x16 ?_)
                  rw [if_neg fun z => h3 z.2.1]
            · rw [decide_eq_false h1]
              refine iteF ⟨_, rfl, rfl, _, rfl, ?_⟩
              rw [d1, decide_eq_false h1]
              refine iteF (fin _ x16 ?_)
              rw [if_neg fun z => h1 z.1, if_neg fun z => h1 z.1]
end
end R23

set_option Elab.async false
set_option linter.all false
set_option maxRecDepth 100000
set_option maxHeartbeats 4000000
set_option pp.maxSteps 100
/-! kinds. -/
namespace R23
open PySem L2 K9M M21
theorem KV.tx {H H' : Hp} {x : V} {k : Option (Nat × Nat)} (e : TExt H H') (h : KV H x k) : KV H' x k := by
  cases k with
  | none => exact h
  | some s => obtain ⟨r, h1, h2⟩ := h; exact ⟨r, h1, e _ _ h2⟩
theorem Two.snoc {α β : Type} {R : α → β → Prop} {l : List α} {k : List β} {a : α} {b : β} (h : Two R l k) (r : R a b) : Two R (l ++ [a]) (k ++ [b]) := by
  induction h with
  | nil => exact .cons r .nil
  | cons s _ ih => exact .cons s ih
/-- a list of kinds stands at r -/
def KVL (H : Hp) (r : Addr) (ks : List (Option (Nat × Nat))) : Prop := ∃ xs, H r = some (.lst xs) ∧ Two (KV H) xs ks
theorem KVL.ext {H H' : Hp} {r : Addr} {ks : List (Option (Nat × Nat))} (e : Ext H H') (h : KVL H r ks) : KVL H' r ks := by
  obtain ⟨xs, h1, h2⟩ := h
  exact ⟨xs, e _ _ h1, h2.imp fun _ _ z => z.ext e⟩
def spKinds (CW : Addr) : Sp := fun vs H Q _ => ∃ (p b : Addr) (M : Nat) (A : Ar) (ks : List (Option (Nat × Nat))), vs = [.ref p] ∧ WebAt CW H p (M : Int) b ∧ TT H b (A.map arL) ∧ M ≤ 8 ∧ A.length ≤ 12 ∧ Inside M A ∧ Two (KindR A) (lotsN M A) ks ∧ ∀ (r : Addr) (H' : Hp), Ext H H' → H r = none → KVL H' r ks → Q (.ref r) H'
theorem lot_small (m : Nat) (A : Ar) (c : Nat) : (lotN m A c).length ≤ m := Nat.le_trans (List.length_filter_le _ _) (by rw [List.length_range]; exact Nat.le_refl _)
theorem lots_small (m : Nat) (A : Ar) : (lotsN m A).length ≤ m := by
  unfold lotsN headsN
  rw [List.length_map]
  exact Nat.le_trans (List.length_filter_le _ _) (by rw [List.length_range]; exact Nat.le_refl _)
/-- the i-th of tuples of places -/
theorem lots_get {S : Hp} {as : List Addr} {ls : List (List Nat)} (pt : PT2 S as (ls.map fun l => l.map fun i : Nat => (i : Int))) {i : Nat} {x : V} (hx : (as.map V.ref)[i]? = some x) : ∃ a l, x = .ref a ∧ ls[i]? = some l ∧ S a = some (.tup (l.map nv)) := by
  rw [List.getElem?_map] at hx
  cases e : as[i]? with
  | none => rw [e] at hx; cases hx
  | some a =>
    rw [e] at hx
    cases hx
    obtain ⟨l, hl, ha⟩ := pt.get e
    rw [List.getElem?_map] at hl
    cases e2 : ls[i]? with
    | none => rw [e2] at hl; cases hl
    | some l' =>
      rw [e2] at hl
      cases hl
      rw [map_nv] at ha
      exact ⟨a, l', rfl, rfl, ha⟩
section
variable {P : Program} {w : World} {K : PySem.W.Frag} {mg : Str → Option Value} {base : Heap}
abbrev kindsN : List Str := ["web", "lot"]
theorem scKinds : FnScope kindsN ["web"] (defScope sKinds) := ⟨rfl, rfl, rfl, by decide +kernel, rfl, by decide +kernel, by decide +kernel⟩
theorem ok_kinds {f CW : Addr} {fd : FuncData} (F : L2.Fun K "kinds" "kinds" sKinds f fd) (T : Gb mg) (cP : Cal P w K mg base 1 "parts" (spParts CW) []) (cK : Cal P w K mg base 3 "kind_of" (spKindOf CW) []) : FnOk P w K mg base CX0 4 f fd ["web"] (spKinds CW) := by
  refine F.ok scKinds (fun vs H Q E h => ?_) (fun cdv A outer s H vs Q E hr h => ?_)
  · obtain ⟨p, b, M, A, ks, rfl, _⟩ := h
    rfl
  · obtain ⟨p, b, M, Ars, ks, rfl, hw, ht, hM, hL, ins, tw, k⟩ := h
    refine ⟨_, pss_one (ps_ret (pe_lc (own := [("lot", 1)]) (g := gName 1) (tt := tYes) rfl scKinds.nd (pi_tup (C8.pe_c cP hr (by decide) (by rfl) (pa_cons (pv 0) pa_nil))) (blkOk_by (N := kindsN) (sc := defScope sKinds) (by decide +kernel)) (fun _ _ _ _ _ => (pg_name (i := 1) scKinds.nd rfl (Or.inl rfl))) (fun _ _ _ _ _ => pts_nil) (fun _ _ _ _ _ => (C8.pe_c cK hr (by decide) (by rfl) (pa_cons (pv 0) (pa_cons (pv 1) pa_nil)))))), ?_⟩
    refine ⟨_, rfl, p, b, M, Ars, rfl, hw, ht, hM, hL, ins, fun r H1 x1 tr => ?_⟩
    rw [lots_are] at tr
    obtain ⟨as, hr1, pt⟩ := tr
    refine ⟨r, rfl, ⟨_, SqT.of hr1⟩, fun G nG => lc_tup (K := K) (a := r) (xs := as.map V.ref) (fun i J => Ext H1 J ∧ ∃ xs, J G = some (.lst xs) ∧ Two (KV J) xs (ks.take i)) ⟨Ext.upd nG, [], upd_same, by rw [List.take_zero]; exact .nil⟩ (fun i J _ z => SqT.of (z.1 _ _ hr1)) ?_ ?_⟩
    · rintro i y J hy ⟨x2, xs, hG, t2⟩
      obtain ⟨a, l, rfl, hl, ha⟩ := lots_get pt hy
      obtain ⟨kd, hk, kr⟩ := tw.get hl
      obtain ⟨c, _, ec⟩ := List.mem_map.mp (List.mem_of_getElem? hl)
      have x12 := x1.trans x2
      have il : i < (lotsN M Ars).length := (List.getElem?_eq_some_iff.mp hl).1
      have := lots_small M Ars
      have lx : xs.length ≤ 8 := by rw [t2.len, List.length_take]; omega
      refine ⟨rfl, tyes_in ?_⟩
      refine ⟨_, rfl, _, rfl, p, b, a, M, Ars, l, kd, rfl, hw.ext x12, ht.ext x12, hL, x2 _ _ ha, by rw [← ec]; exact nodup_of_up (lotN_up M Ars c), by rw [← ec]; exact Nat.le_trans (lot_small M Ars c) hM, kr, fun x J2 x3 kv => ?_⟩
      have tx : TExt J2 (upd J2 G (.lst (xs ++ [x]))) := TExt.put (x3 _ _ hG)
      refine ⟨xs, x3 _ _ hG, small1000 (by omega), fun b' o' hb' => ?_, xs ++ [x], upd_same, ?_⟩
      · rw [upd_ne (ne_of_none hb' nG)]
        exact x3 _ _ (x2 _ _ hb')
      · rw [List.take_succ, hk]
        exact Two.snoc (t2.imp fun _ _ z => (z.ext x3).tx tx) (kv.tx tx)
    · rintro J ⟨x2, xs, hG, t2⟩
      have ln : (as.map V.ref).length = ks.length := by rw [List.length_map, PT2.len pt, List.length_map]; exact tw.len
      rw [ln, List.take_of_length_le (Nat.le_refl _)] at t2
      exact k G J (x1.trans x2) (none_back x1 nG) ⟨xs, hG, t2⟩
end
end R23

set_option Elab.async false
set_option linter.all false
set_option maxRecDepth 100000
set_option maxHeartbeats 4000000
set_option pp.maxSteps 100
/-! _law_arms. -/
namespace R23
open PySem L2 K9M M21
abbrev sArms : Stmt := top 35
/-- a list of pairs of places stands at r -/
def PL (H : Hp) (r : Addr) (A : Ar) : Prop := ∃ as : List Addr, H r = some (.lst (as.map V.ref)) ∧ PT2 H as (A.map arL)
theorem PL.ext {H H' : Hp} {r : Addr} {A : Ar} (e : Ext H H') (h : PL H r A) : PL H' r A := by
  obtain ⟨as, h1, h2⟩ := h
  exact ⟨as, e _ _ h1, h2.mono fun b xs z => e _ _ z⟩
def spArms : Sp := fun vs H Q _ => ∃ s : Nat × Nat, vs = [.str (lett s.1), nv s.2] ∧ ShapeOk s ∧ ∀ (r : Addr) (H' : Hp), Ext H H' → H r = none → PL H' r (arms s.1 s.2) → Q (.ref r) H'
def pathA (n : Nat) : Ar := (List.range n).map fun i => (i, i + 1)
theorem path_snoc (i : Nat) : pathA (i + 1) = pathA i ++ [(i, i + 1)] := by
  unfold pathA
  rw [List.range_succ, List.map_append]
  rfl
section
variable {P : Program} {w : World} {K : PySem.W.Frag} {mg : Str → Option Value} {base : Heap}
abbrev armsN : List Str := ["kind", "many", "place", "pairs"]
theorem scArms : FnScope armsN ["kind", "many"] (defScope sArms) := ⟨rfl, rfl, rfl, by decide +kernel, rfl, by decide +kernel, by decide +kernel⟩
theorem ok_arms {f : Addr} {fd : FuncData} (F : L2.Fun K "_law_arms" "_law_arms" sArms f fd) (T : Gb mg) : FnOk P w K mg base CX0 1 f fd ["kind", "many"] spArms := by
  refine F.ok scArms (fun vs H Q E h => ?_) (fun cdv A outer s H vs Q E hr h => ?_)
  · obtain ⟨sh, rfl, _⟩ := h
    rfl
  · obtain ⟨⟨kd, n⟩, rfl, ok, k⟩ := h
    refine ⟨_, pss_cons (ps_if (pt_cmpR op_eq (pv 0) pe_str (nomark _)) (pss_one (ps_ret (pe_lc (own := [("place", 2)]) (g := gName 2) (tt := tYes) rfl scArms.nd (pi_range1 (by rfl) T.rng (pa_cons (pe_op op_sub (pv 1) pe_int) pa_nil)) (blkOk_by (N := armsN) (sc := defScope sArms) (by decide +kernel)) (fun _ _ _ _ _ => (pg_name (i := 2) scArms.nd rfl (Or.inl rfl))) (fun _ _ _ _ _ => pts_nil) (fun _ _ _ _ _ => (pe_tup (pa_cons (pv 2) (pa_cons (pe_op op_add (pv 2) pe_int) pa_nil))))))) pss_nil)
      (pss_cons (ps_setLc (i := 3) (own := [("place", 2)]) (g := gName 2) (tt := tYes) rfl scArms.nd rfl rfl (sw_true rfl rfl rfl (by decide +kernel)) (pi_range1 (by rfl) T.rng (pa_cons (pe_op op_sub (pv 1) pe_int) pa_nil)) (blkOk_by (N := armsN) (sc := defScope sArms) (by decide +kernel)) (fun _ _ _ _ _ => (pg_name (i := 2) scArms.nd rfl (Or.inl rfl))) (fun _ _ _ _ _ => pts_nil) (fun _ _ _ _ _ => (pe_tup (pa_cons (pv 2) (pa_cons (pe_op op_add (pv 2) pe_int) pa_nil)))))
      (pss_one (ps_ret (pe_op op_cat (pv 3) (pe_lst (pa_cons (pe_tup (pa_cons (pe_ifExp (pt_cmpR op_eq (pv 0) pe_str (nomark _)) (pe_op op_sub (pv 1) pe_int) pe_int) (pa_cons (pe_op op_sub (pv 1) pe_int) pa_nil))) pa_nil)))))), ?_⟩
    -- a path
    have path : ∀ (c : Int) (J : Hp) (N : Nat) (Q' : VK), (n : Int) - c = N → N ≤ 8 → (∀ (r : Addr) (J' : Hp), Ext J J' → J r = none → PL J' r (pathA N) → Q' (.ref r) J') →
        tLc (iRng1 (tCons (tOp (rI0 fun i j => V.int (i - j)) (tVar 1) (tC (V.int c))) tNil)) (gName 2) tYes (tTup (tCons (tVar 2) (tCons (tOp (rI0 fun i j => V.int (i + j)) (tVar 2) (tC (V.int 1))) tNil))) (List.map (fun x => x.snd) [(Str.ofString "place", 2)])
          [some (.str (lett kd)), some (nv n), Option.none, Option.none] J Q' := by
      intro c J N Q' eN hN kQ
      refine ⟨_, rfl, _, _, rfl, rfl, (N : Int), (by show [V.int ((n : Int) - c)] = _; rw [eN]), by omega, by omega, fun D nD => lc_range (lo := 0) (n := N) (fun i J' => Ext J J' ∧ ∃ as : List Addr, J' D = some (.lst (as.map V.ref)) ∧ PT2 J' as ((pathA i).map arL) ∧ as.length = i) ⟨Ext.upd nD, [], upd_same, .nil, rfl⟩ ?_ ?_⟩
      · rintro i J' hi ⟨x1, as, hD, pt, la⟩
        refine ⟨rfl, tyes_in ⟨_, rfl, _, rfl, _, _, rfl, rfl, by show 2 ≤ sizeLine; decide, fun t nt => ?_⟩⟩
        have x2 : Ext J' (upd J' t (.tup [V.int (0 + (i : Nat)), V.int (0 + (i : Nat) + 1)])) := Ext.upd nt
        refine ⟨_, x2 _ _ hD, by rw [List.length_map]; exact small1000 (by omega), fun b o hb => ?_, as ++ [t], by rw [upd_same, List.map_append]; rfl, ?_, by rw [List.length_append, la]; rfl⟩
        · rw [upd_ne (ne_of_none hb nD)]
          exact x2 _ _ (x1 _ _ hb)
        · rw [path_snoc, List.map_append]
          refine PT2.snoc (pt.mono fun b xs z => ?_) ?_
          · rw [upd_ne (lst_ne hD z)]
            exact x2 _ _ z
          · have ne : t ≠ D := fun e => by rw [e, hD] at nt; cases nt
            rw [upd_ne ne, upd_same, Int.zero_add]
            rfl
      · rintro J' ⟨x1, as, hD, pt, la⟩
        exact kQ D J' x1 nD ⟨as, hD, pt⟩
    -- the place that is beside the path
    have last : ∀ (J : Hp) (r : Addr) (u : Nat), Ext H J → H r = none → PL J r (pathA (n - 2)) → (pathA (n - 2)).length ≤ 8 → arms kd n = pathA (n - 2) ++ [(u, n - 1)] → 1 ≤ n →
        ∀ t l, J t = none → upd J t (.tup [nv u, V.int ((n : Int) - 1)]) l = none →
          ∃ xs zs, upd (upd J t (.tup [nv u, V.int ((n : Int) - 1)])) l (.lst [.ref t]) r = some (.lst xs) ∧ upd (upd J t (.tup [nv u, V.int ((n : Int) - 1)])) l (.lst [.ref t]) l = some (.lst zs) ∧ xs.length + zs.length ≤ sizeLine ∧
            ∀ c, upd (upd J t (.tup [nv u, V.int ((n : Int) - 1)])) l (.lst [.ref t]) c = none → Q (.ref c) (upd (upd (upd J t (.tup [nv u, V.int ((n : Int) - 1)])) l (.lst [.ref t])) c (.lst (xs ++ zs))) := by
      intro J r u xJ nr ⟨as, hr, pt⟩ l8 ea n1 t l nt nl
      have e1 : Ext J (upd J t (.tup [nv u, V.int ((n : Int) - 1)])) := Ext.upd nt
      have e2 : Ext (upd J t (.tup [nv u, V.int ((n : Int) - 1)])) (upd (upd J t (.tup [nv u, V.int ((n : Int) - 1)])) l (.lst [.ref t])) := Ext.upd nl
      have la : as.length ≤ 8 := by rw [PT2.len pt, List.length_map]; exact l8
      refine ⟨_, _, e2 _ _ (e1 _ _ hr), upd_same, by rw [List.length_map]; show as.length + 1 ≤ sizeLine; rw [sizeLine_eq]; omega, fun c nc => ?_⟩
      have e3 := Ext.upd (o := .lst (as.map V.ref ++ [.ref t])) nc
      refine k c _ (xJ.trans (e1.trans (e2.trans e3))) (none_back (xJ.trans (e1.trans e2)) nc) ⟨as ++ [t], by rw [upd_same, List.map_append]; rfl, ?_⟩
      show PT2 _ _ ((arms kd n).map arL)
      rw [ea, List.map_append]
      refine PT2.snoc (pt.mono fun b xs z => e3 _ _ (e2 _ _ (e1 _ _ z))) ?_
      rw [e3 _ _ (e2 _ _ upd_same)]
      show some (HO.tup [V.int (u : Int), V.int ((n : Int) - 1)]) = some (HO.tup [V.int (u : Int), V.int ((n - 1 : Nat) : Int)])
      rw [show ((n - 1 : Nat) : Int) = (n : Int) - 1 by omega]
    refine ⟨_, rfl, rfl, _, rfl, ?_⟩
    rcases ok with ⟨e, n1, n8⟩ | ⟨e, n1, n8⟩ | ⟨e, n1, n8⟩ <;> simp only at e n1 n8 <;> subst e
    · refine iteT ?_
      refine path 1 H (n - 1) _ (by omega) (by omega) fun r J x nr pl => k r J x nr pl
    · refine iteF ?_
      dsimp only [tSeq, tAsg, tC, gName, tNext]
      refine path 2 H (n - 2) _ (by omega) (by omega) fun r J x nr pl => ?_
      refine ⟨_, rfl, _, rfl, rfl, _, rfl, ?_⟩
      refine iteT ⟨_, rfl, _, _, rfl, rfl, _, rfl, _, _, rfl, rfl, by show 2 ≤ sizeLine; decide, fun a na => ⟨by show 1 ≤ sizeLine; decide, fun b nb => ?_⟩⟩
      have lp : (pathA (n - 2)).length ≤ 8 := by unfold pathA; rw [List.length_map, List.length_range]; omega
      have eu : (n : Int) - 3 = ((n - 3 : Nat) : Int) := by omega
      dsimp only at nb ⊢
      rw [eu] at nb ⊢
      obtain ⟨xs, zs, h1, h2, h3, h4⟩ := last J r (n - 3) x nr pl lp rfl (by omega) a b na nb
      exact ⟨r, b, xs, zs, rfl, rfl, h1, h2, h3, h4⟩
    · refine iteF ?_
      dsimp only [tSeq, tAsg, tC, gName, tNext]
      refine path 2 H (n - 2) _ (by omega) (by omega) fun r J x nr pl => ?_
      refine ⟨_, rfl, _, rfl, rfl, _, rfl, ?_⟩
      refine iteF ⟨_, rfl, _, _, rfl, rfl, by show 2 ≤ sizeLine; decide, fun a na => ⟨by show 1 ≤ sizeLine; decide, fun b nb => ?_⟩⟩
      have lp : (pathA (n - 2)).length ≤ 8 := by unfold pathA; rw [List.length_map, List.length_range]; omega
      obtain ⟨xs, zs, h1, h2, h3, h4⟩ := last J r 2 x nr pl lp rfl (by omega) a b na nb
      exact ⟨r, b, xs, zs, rfl, rfl, h1, h2, h3, h4⟩
end
end R23

set_option Elab.async false
set_option linter.all false
set_option maxRecDepth 100000
set_option maxHeartbeats 4000000
set_option pp.maxSteps 100
/-! _law_web_of. -/
namespace R23
open PySem L2 K9M M21
abbrev sWebOf : Stmt := top 36
theorem two_eq {α β : Type} {f : β → α} : ∀ {l : List α} {k : List β}, Two (fun y a => y = f a) l k → l = k.map f
  | _, _, .nil => rfl
  | _, _, .cons r t => by rw [List.map_cons, ← two_eq t, r]
theorem two_self {α β : Type} {f : β → α} : ∀ k : List β, Two (fun y a => y = f a) (k.map f) k
  | [] => .nil
  | b :: k => .cons rfl (two_self k)
theorem perm_back {α β : Type} {f : β → α} {l : List α} {k : List β} (p : l.Perm (k.map f)) : ∃ k' : List β, l = k'.map f ∧ k'.Perm k := by
  obtain ⟨k', t, q⟩ := Two.perm p.symm (two_self (f := f) k)
  exact ⟨k', two_eq t, q⟩
theorem two_of_pt {S : Hp} : ∀ {as : List Addr} {A : Ar}, PT2 S as (A.map arL) → Two (fun a x => S a = some (.tup [.int (x.1 : Int), .int (x.2 : Int)])) as A
  | [], [], _ => .nil
  | [], x :: A, h => by cases h
  | a :: as, [], h => by cases h
  | a :: as, x :: A, h => by
    cases h with
    | cons h t => exact .cons h (two_of_pt t)
theorem pt_of_two {S : Hp} : ∀ {as : List Addr} {A : Ar}, Two (fun a x => S a = some (.tup [.int (x.1 : Int), .int (x.2 : Int)])) as A → PT2 S as (A.map arL)
  | _, _, .nil => .nil
  | _, _, .cons h t => .cons h (pt_of_two t)
theorem PT2.perm {S : Hp} {as : List Addr} {A : Ar} {ys : List V} (pt : PT2 S as (A.map arL)) (p : ys.Perm (as.map V.ref)) : ∃ (bs : List Addr) (B : Ar), ys = bs.map V.ref ∧ PT2 S bs (B.map arL) ∧ B.Perm A := by
  obtain ⟨bs, rfl, q⟩ := perm_back p
  obtain ⟨B, t, r⟩ := Two.perm q.symm (two_of_pt pt)
  exact ⟨bs, B, rfl, pt_of_two t, r⟩
theorem pt_app {S : Hp} : ∀ {as bs : List Addr} {k l : List (List Int)}, PT2 S as k → PT2 S bs l → PT2 S (as ++ bs) (k ++ l)
  | _, _, _, _, .nil, h => h
  | _, _, _, _, .cons x t, h => .cons x (pt_app t h)
theorem rg_nv (M : Nat) : rgV 0 (M : Int) = (List.range M).map nv := by
  unfold rgV
  have e : ((M : Int) - 0).toNat = M := by omega
  rw [e]
  refine List.map_congr_left fun i _ => ?_
  rw [Int.zero_add]
theorem Turned.snoc {A B : Ar} (h : Turned A B) (a : Nat × Nat) : Turned (A ++ [a]) (B ++ [a]) ∧ Turned (A ++ [a]) (B ++ [flip a]) := by
  induction h with
  | nil => exact ⟨.keep a .nil, .turn a .nil⟩
  | keep b _ ih => exact ⟨.keep b ih.1, .keep b ih.2⟩
  | turn b _ ih => exact ⟨.turn b ih.1, .turn b ih.2⟩
theorem Turned.len {A B : Ar} (h : Turned A B) : A.length = B.length := by
  induction h with
  | nil => rfl
  | keep _ _ ih => rw [List.length_cons, List.length_cons, ih]
  | turn _ _ ih => rw [List.length_cons, List.length_cons, ih]
theorem arms_len {s : Nat × Nat} (h : ShapeOk s) : (arms s.1 s.2).length + 1 = s.2 := by
  have all : ∀ s ∈ allS, (arms s.1 s.2).length + 1 = s.2 := by decide +kernel
  exact all s (shape_in h)
theorem pairs_len : ∀ {o : Nat} {ss : List (Nat × Nat)}, (∀ s ∈ ss, ShapeOk s) → (pairsOf o ss).length ≤ total ss
  | o, [], _ => Nat.zero_le _
  | o, s :: ss, ok => by
    rw [pairsOf, List.length_append, total_cons]
    unfold shiftA
    rw [List.length_map]
    have := arms_len (ok s List.mem_cons_self)
    have := pairs_len (o := o + s.2) fun x hx => ok x (List.mem_cons_of_mem _ hx)
    omega
theorem total_take {ss : List (Nat × Nat)} : ∀ i : Nat, total (ss.take i) ≤ total ss := fun i => by
  have : total ss = total (ss.take i) + total (ss.drop i) := by
    conv => lhs; rw [← List.take_append_drop i ss]
    unfold total
    rw [List.map_append, List.sum_append]
  omega
theorem names_ok {m : Nat} {ns : List Nat} (p : ns.Perm (List.range m)) : (∀ i, i < m → ns.getD i 0 < m) ∧ (∀ i j, i < m → j < m → ns.getD i 0 = ns.getD j 0 → i = j) ∧ ∀ x, x < m → ∃ i, i < m ∧ x = ns.getD i 0 := by
  have len : ns.length = m := by rw [p.length_eq, List.length_range]
  have nd : ns.Nodup := p.nodup_iff.mpr List.nodup_range
  have get : ∀ i (h : i < m), ns.getD i 0 = ns[i]'(by omega) := fun i h => by
    rw [List.getD_eq_getElem?_getD, List.getElem?_eq_getElem (by omega)]
    rfl
  refine ⟨fun i h => ?_, fun i j hi hj e => ?_, fun x hx => ?_⟩
  · rw [get i h]
    exact List.mem_range.mp (p.mem_iff.mp (List.getElem_mem _))
  · rw [get i hi, get j hj] at e
    have nd := List.nodup_iff_pairwise_ne.mp nd
    rcases Nat.lt_trichotomy i j with z | z | z
    · exact absurd e (List.pairwise_iff_getElem.mp nd i j (by omega) (by omega) z)
    · exact z
    · exact absurd e.symm (List.pairwise_iff_getElem.mp nd j i (by omega) (by omega) z)
  · obtain ⟨i, hi, e⟩ := List.mem_iff_getElem.mp (p.mem_iff.mpr (List.mem_range.mpr hx))
    exact ⟨i, by omega, by rw [get i (by omega), e]⟩
def spWebOf : Sp := fun vs H Q _ => ∃ (a sh : Addr) (ss : List (Nat × Nat)), vs = [.ref a, .ref sh] ∧ PotAt H a ∧ sh ≠ a ∧ KVL H sh (ss.map some) ∧ (∀ s ∈ ss, ShapeOk s) ∧ total ss ≤ 8 ∧ ss.length ≤ 8 ∧
  ∀ (r b : Addr) (m : Nat) (A : Ar) (H' : Hp), Go a H H' → H' r = some (.tup [.int (m : Int), .ref b]) → TT H' b (A.map arL) → A.length ≤ 12 → m ≤ 8 → Built m A ss → Q (.ref r) H'
section
variable {P : Program} {w : World} {K : PySem.W.Frag} {mg : Str → Option Value} {base : Heap}
abbrev webOfN : List Str := ["purse", "shapes", "many", "pairs", "kind", "places", "one", "other", "names", "arrows", "arrow"]
theorem scWebOf : FnScope webOfN ["purse", "shapes"] (defScope sWebOf) := ⟨rfl, rfl, rfl, by decide +kernel, rfl, by decide +kernel, by decide +kernel⟩
theorem ok_webOf {f : Addr} {fd : FuncData} (F : L2.Fun K "_law_web_of" "_law_web_of" sWebOf f fd) (T : Gb mg) (cD : Cal P w K mg base 1 "_law_part" spDraw []) (cX : Cal P w K mg base 2 "_law_mixed" spMixed []) (cA : Cal P w K mg base 1 "_law_arms" spArms []) : FnOk P w K mg base CX0 3 f fd ["purse", "shapes"] spWebOf := by
  refine F.ok scWebOf (fun vs H Q E h => ?_) (fun cdv A outer s H vs Q E hr h => ?_)
  · obtain ⟨a, sh, ss, rfl, _⟩ := h
    rfl
  · obtain ⟨a, sh, ss, rfl, pot, nsa, ⟨xs, hsh, tw⟩, ok, tot8, ss8, k⟩ := h
    refine ⟨_, pss_cons (ps_asg (pe_tup (pa_cons pe_int (pa_cons (pe_lst pa_nil) pa_nil))) (pg_tup rfl (pgs_cons (pg_name (i := 2) scWebOf.nd rfl (Or.inr rfl)) (pgs_cons (pg_name (i := 3) scWebOf.nd rfl (Or.inl rfl)) pgs_nil))))
      (C8.pss_cut (ps_for PassesOwn.never rfl (pi_list (pv 1)) (pg_tup rfl (pgs_cons (pg_name (i := 4) scWebOf.nd rfl (Or.inl rfl)) (pgs_cons (pg_name (i := 5) scWebOf.nd rfl (Or.inl rfl)) pgs_nil)))
      (pss_cons (ps_set (i := 3) scWebOf.nd rfl (Or.inl rfl) (pe_op op_cat (pv 3) (pe_lc (own := [("one", 6), ("other", 7)]) (g := gTup K 2 (gCons (gName 6) (gCons (gName 7) gNil))) (tt := tYes) rfl scWebOf.nd (pi_list (C8.pe_c cA hr (by decide) (by rfl) (pa_cons (pv 4) (pa_cons (pv 5) pa_nil)))) (blkOk_by (N := webOfN) (sc := defScope sWebOf) (by decide +kernel)) (fun _ _ _ _ _ => (pg_tup rfl (pgs_cons (pg_name (i := 6) scWebOf.nd rfl (Or.inl rfl)) (pgs_cons (pg_name (i := 7) scWebOf.nd rfl (Or.inl rfl)) pgs_nil)))) (fun _ _ _ _ _ => pts_nil) (fun _ _ _ _ _ => (pe_tup (pa_cons (pe_op op_add (pv 6) (pv 2)) (pa_cons (pe_op op_add (pv 7) (pv 2)) pa_nil)))))))
      (pss_one (ps_set (i := 2) scWebOf.nd rfl (Or.inr rfl) (pe_op op_add (pv 2) (pv 5))))))
      (pss_cons (ps_par (i := 8) (j := 9) rfl scWebOf.nd rfl rfl (by decide) rfl rfl (pa_cons (C8.pe_c cX hr (by decide) (by rfl) (pa_cons (pv 0) (pa_cons (pe_listRg rfl (by rfl) T.list (prg_1 (by rfl) T.rng (pv 2))) pa_nil))) (pa_cons (pe_lst pa_nil) pa_nil)) (by rfl))
      (pss_cons (ps_for PassesOwn.never rfl (pi_list (C8.pe_c cX hr (by decide) (by rfl) (pa_cons (pv 0) (pa_cons (pv 3) pa_nil)))) (pg_tup rfl (pgs_cons (pg_name (i := 6) scWebOf.nd rfl (Or.inl rfl)) (pgs_cons (pg_name (i := 7) scWebOf.nd rfl (Or.inl rfl)) pgs_nil)))
      (pss_cons (ps_set (i := 10) scWebOf.nd rfl (Or.inl rfl) (pe_tup (pa_cons (pe_ix ix_list (pv 8) (pv 6) (fun _ _ => rfl)) (pa_cons (pe_ix ix_list (pv 8) (pv 7) (fun _ _ => rfl)) pa_nil))))
      (pss_one (ps_expr (pe_bm PySem.F.plainAttrs_list PySem.F.slot_list_append PySem.F.type_list_append mt_append (pv 9) (pa_cons (pe_ifExp (pt_cmpR op_eq (C8.pe_c cD hr (by decide) (by rfl) (pa_cons (pv 0) (pa_cons pe_int pa_nil))) pe_int (nomark _)) (pv 10) (pe_tup (pa_cons (pe_ix ix_tup (pv 10) pe_int (fun _ _ => rfl)) (pa_cons (pe_ix ix_tup (pv 10) pe_int (fun _ _ => rfl)) pa_nil)))) pa_nil))))))
      (pss_one (ps_ret (pe_tup (pa_cons (pv 2) (pa_cons (pe_callTy call_tuple_of (by rfl) T.tup (by decide +kernel) (pa_cons (pv 9) pa_nil)) pa_nil)))))))), ?_⟩
    refine ⟨Nat.zero_le _, fun l nl => ⟨by show 2 ≤ sizeLine; decide, fun t nt => ?_⟩⟩
    refine ⟨t, _, rfl, SqT.of upd_same, rfl, _, _, rfl, _, _, rfl, rfl, ?_⟩
    have e1 : Ext H (upd H l (.lst [])) := Ext.upd nl
    have e2 : Ext (upd H l (.lst [])) (upd (upd H l (.lst [])) t (.tup [.int 0, .ref l])) := Ext.upd nt
    refine ⟨fun σ' J => ∃ (o : Addr) (v4 v5 : Option V), σ' = [some (.ref a), some (.ref sh), some (nv (total ss)), some (.ref o), v4, v5, Option.none, Option.none, Option.none, Option.none, Option.none] ∧ Ext H J ∧ H o = none ∧ PL J o (pairsOf 0 ss), ?_, ?_⟩
    · refine ⟨_, rfl, sh, rfl, ⟨_, SqL.of ((e1.trans e2) _ _ hsh)⟩, for_list (K := K) (a := sh) (xs := xs) (fun i σ' J => (∃ (o : Addr) (v4 v5 : Option V), σ' = [some (.ref a), some (.ref sh), some (nv (total (ss.take i))), some (.ref o), v4, v5, Option.none, Option.none, Option.none, Option.none, Option.none] ∧ H o = none ∧ PL J o (pairsOf 0 (ss.take i))) ∧ Ext H J)
        ⟨⟨l, _, _, rfl, nl, [], e2 _ _ upd_same, .nil⟩, e1.trans e2⟩ (fun i σ' J _ h => SqL.of (h.2 _ _ hsh)) ?_ ?_⟩
      · rintro i x σ' J hx ⟨⟨o, v4, v5, rfl, no, as, ho, pt⟩, xJ⟩
        obtain ⟨kd, hk, kv⟩ := tw.get hx
        rw [List.getElem?_map] at hk
        cases es : ss[i]? with
        | none => rw [es] at hk; cases hk
        | some s0 =>
        rw [es] at hk
        cases hk
        obtain ⟨c, rfl, hc⟩ := kv
        have sok := ok s0 (List.mem_of_getElem? es)
        refine ⟨c, _, rfl, SqT.of (xJ _ _ hc), rfl, _, _, rfl, _, _, rfl, rfl, ?_⟩
        have ta : total (ss.take (i + 1)) = total (ss.take i) + s0.2 := by
          rw [List.take_succ, es]
          exact total_snoc s0 _
        have pa : pairsOf 0 (ss.take (i + 1)) = pairsOf 0 (ss.take i) ++ shiftA (total (ss.take i)) (arms s0.1 s0.2) := by
          rw [List.take_succ, es]
          have := pairs_snoc s0 0 (ss.take i)
          rw [Nat.zero_add] at this
          exact this
        have l1 := pairs_len (o := 0) (ss := ss.take i) fun x hx => ok x (List.mem_of_mem_take hx)
        have l2 := total_take (ss := ss) i
        have la : as.length ≤ 8 := by rw [PT2.len pt, List.length_map]; omega
        have l3 := total_take (ss := ss) (i + 1)
        have l4 := arms_len sok
        refine ⟨_, rfl, _, rfl, _, rfl, s0, rfl, sok, fun r J1 x1 nr ⟨bs, hr, pb⟩ => ?_⟩
        have lb : bs.length = (arms s0.1 s0.2).length := by rw [PT2.len pb, List.length_map]
        refine ⟨r, rfl, ⟨_, SqL.of hr⟩, fun G nG => lc_list (K := K) (a := r) (xs := bs.map V.ref) (fun j J' => Ext J1 J' ∧ ∃ cs : List Addr, J' G = some (.lst (cs.map V.ref)) ∧ PT2 J' cs ((shiftA (total (ss.take i)) ((arms s0.1 s0.2).take j)).map arL) ∧ cs.length = j)
          ⟨Ext.upd nG, [], upd_same, .nil, rfl⟩ (fun j J' _ z => SqL.of (z.1 _ _ hr)) ?_ ?_⟩
        · rintro j y J' hy ⟨x2, cs, hG, pc, lc⟩
          obtain ⟨q, ar, rfl, ha, hq⟩ := TT.arrow pb hy
          have jl : j < (arms s0.1 s0.2).length := (List.getElem?_eq_some_iff.mp ha).1
          refine ⟨q, _, rfl, SqT.of (x2 _ _ hq), rfl, _, _, rfl, _, _, rfl, rfl, rfl, tyes_in ?_⟩
          refine ⟨_, rfl, _, rfl, _, _, rfl, rfl, _, rfl, _, rfl, _, _, rfl, rfl, by show 2 ≤ sizeLine; decide, fun u nu => ?_⟩
          have x3 : Ext J' (upd J' u (.tup [V.int ((ar.1 : Int) + (total (ss.take i) : Int)), V.int ((ar.2 : Int) + (total (ss.take i) : Int))])) := Ext.upd nu
          refine ⟨_, x3 _ _ hG, by rw [List.length_map]; exact small1000 (by omega), fun b o hb => ?_, cs ++ [u], by rw [upd_same, List.map_append]; rfl, ?_, by rw [List.length_append, lc]; rfl⟩
          · rw [upd_ne (ne_of_none hb nG)]
            exact x3 _ _ (x2 _ _ hb)
          · have es : shiftA (total (ss.take i)) ((arms s0.1 s0.2).take (j + 1)) = shiftA (total (ss.take i)) ((arms s0.1 s0.2).take j) ++ [(ar.1 + total (ss.take i), ar.2 + total (ss.take i))] := by
              rw [List.take_succ, ha]
              unfold shiftA
              rw [List.map_append]
              rfl
            rw [es, List.map_append]
            refine PT2.snoc (pc.mono fun b xs z => ?_) ?_
            · rw [upd_ne (lst_ne hG z)]
              exact x3 _ _ z
            · have ne : u ≠ G := fun e => by rw [e, hG] at nu; cases nu
              rw [upd_ne ne, upd_same]
              show some (HO.tup [V.int ((ar.1 : Int) + (total (ss.take i) : Int)), V.int ((ar.2 : Int) + (total (ss.take i) : Int))]) = some (HO.tup [V.int ((ar.1 + total (ss.take i) : Nat) : Int), V.int ((ar.2 + total (ss.take i) : Nat) : Int)])
              rw [Int.natCast_add, Int.natCast_add]
        · rintro J' ⟨x2, cs, hG, pc, lc⟩
          have ln : (bs.map V.ref).length = (arms s0.1 s0.2).length := by rw [List.length_map, lb]
          rw [ln] at lc pc
          rw [List.take_of_length_le (Nat.le_refl _)] at pc
          have x12 := x1.trans x2
          refine ⟨o, G, _, _, rfl, rfl, x12 _ _ ho, hG, by rw [List.length_map, List.length_map, sizeLine_eq]; omega, fun v nv' => ?_⟩
          have x3 := Ext.upd (o := .lst (as.map V.ref ++ cs.map V.ref)) nv'
          have xA := xJ.trans (x12.trans x3)
          refine ⟨_, rfl, _, rfl, _, _, rfl, rfl, ?_⟩
          refine ⟨⟨v, some (.str (lett s0.1)), some (nv s0.2), ?_, none_back (xJ.trans x12) nv', as ++ cs, by rw [upd_same, List.map_append], ?_⟩, xA⟩
          · rw [ta]
            show _ = [some (V.ref a), some (V.ref sh), some (V.int ((total (ss.take i) + s0.2 : Nat) : Int)), some (V.ref v), some (.str (lett s0.1)), some (nv s0.2), Option.none, Option.none, Option.none, Option.none, Option.none]
            rw [Int.natCast_add]
            rfl
          · rw [pa, List.map_append]
            exact pt_app (pt.mono fun b xs z => x3 _ _ (x12 _ _ z)) (pc.mono fun b xs z => x3 _ _ z)
      · rintro σ' J ⟨⟨o, v4, v5, rfl, no, pl⟩, xJ⟩
        have ln : xs.length = ss.length := by rw [tw.len, List.length_map]
        rw [ln, List.take_of_length_le (Nat.le_refl _)] at pl ⊢
        exact ⟨o, v4, v5, rfl, xJ, no, pl⟩
    · rintro σ' J ⟨o, v4, v5, rfl, xJ, no, pl⟩
      have g0 := Go.of_ext pot xJ
      have noa : o ≠ a := (pot.ne no).symm
      refine ⟨_, rfl, _, rfl, (total ss : Int), rfl, RgOk.of_le (by omega) (by omega) (by omega) (by omega), fun d nd => ?_⟩
      rw [rg_nv]
      have x1 : Ext J (upd J d (.lst ((List.range (total ss)).map nv))) := Ext.upd nd
      have g1 := g0.trans (Go.new (o := .lst ((List.range (total ss)).map nv)) g0.1 nd)
      have hd0 := upd_same (H := J) (a := d) (o := .lst ((List.range (total ss)).map nv))
      have pl1 := pl.ext x1
      have nda : d ≠ a := (g0.1.ne nd).symm
      generalize upd J d (.lst ((List.range (total ss)).map nv)) = J1 at *
      refine ⟨a, d, _, rfl, g1.1, nda, hd0, by rw [List.length_map, List.length_range]; omega, fun nl ys J2 g2 nnl nla hnl pm => ?_⟩
      obtain ⟨ns, rfl, pn⟩ := perm_back pm
      obtain ⟨nm1, nm2, nm3⟩ := names_ok pn
      have ln : ns.length = total ss := by rw [pn.length_eq, List.length_range]
      have go2 := g1.trans g2
      refine ⟨Nat.zero_le _, fun ar nar => ⟨_, _, rfl, ?_⟩⟩
      have g3 := Go.new (o := .lst []) go2.1 nar
      have nra : ar ≠ a := (go2.1.ne nar).symm
      obtain ⟨as, ho, pt⟩ := pl1
      have ho2 := g2.2 _ _ noa ho
      have ho3 := g3.2 _ _ noa ho2
      have har3 := upd_same (H := J2) (a := ar) (o := .lst [])
      have hnl3 := g3.2 _ _ nla hnl
      have go3 := go2.trans g3
      have pt3 := (pt.mono (S' := J2) fun b xs z => g2.tup g1.1 z).mono (S' := upd J2 ar (.lst [])) fun b xs z => g3.tup go2.1 z
      have nlar : nl ≠ ar := ne_of_none hnl nar
      have las : as.length = (pairsOf 0 ss).length := by rw [PT2.len pt, List.length_map]
      have lp := pairs_len (o := 0) ok
      generalize upd J2 ar (.lst []) = J3 at *
      refine ⟨_, rfl, _, rfl, a, o, _, rfl, go3.1, noa, ho3, by rw [List.length_map]; omega, fun pr ys2 J4 g4 npr nprA hpr pm2 => ?_⟩
      obtain ⟨bs, B, rfl, pb, pB⟩ := (pt3.mono fun b xs z => g4.tup go3.1 z).perm pm2
      have go4 := go3.trans g4
      have har4 := g4.2 _ _ nra har3
      have hnl4 := g4.2 _ _ nla hnl3
      have lB : B.length ≤ 8 := by rw [pB.length_eq]; omega
      have inB : ∀ x ∈ B, x.1 < total ss ∧ x.2 < total ss := fun x hx => by
        have := pairs_in ok x (pB.mem_iff.mp hx)
        omega
      have nmG : ∀ i, i < total ss → atI (ns.map nv) (i : Int) = some (nv (ns.getD i 0)) := fun i hi => by
        refine atI_nat ?_
        rw [List.getElem?_map, List.getElem?_eq_getElem (by omega), List.getD_eq_getElem?_getD, List.getElem?_eq_getElem (by omega)]
        rfl
      have napr : ar ≠ pr := fun e => by rw [e] at har3; rw [har3] at npr; cases npr
      refine ⟨pr, rfl, ⟨_, SqL.of hpr⟩, for_list (K := K) (a := pr) (xs := bs.map V.ref) (fun i σ' J' => (∃ (v4 v5 v6 v7 v10 : Option V), σ' = [some (.ref a), some (.ref sh), some (nv (total ss)), some (.ref o), v4, v5, v6, v7, some (.ref nl), some (.ref ar), v10]) ∧ (Go a J2 J' ∧ TExt J4 J') ∧ J' nl = some (.lst (ns.map nv)) ∧ J' pr = some (.lst (bs.map V.ref)) ∧
        ∃ (cs : List Addr) (C : Ar), J' ar = some (.lst (cs.map V.ref)) ∧ PT2 J' cs (C.map arL) ∧ Turned ((B.take i).map fun x => (ns.getD x.1 0, ns.getD x.2 0)) C)
        ⟨⟨_, _, _, _, _, rfl⟩, ⟨g3.trans g4, fun _ _ z => z⟩, hnl4, hpr, [], [], har4, .nil, .nil⟩ (fun i σ' J' _ h => SqL.of h.2.2.2.1) ?_ ?_⟩
      · rintro i y σ' J' hy ⟨⟨v4, v5, v6, v7, v10, rfl⟩, ⟨go, tgo⟩, hnl5, hpr5, cs, C, har5, pc, tu⟩
        obtain ⟨q, x, rfl, hx, hq⟩ := TT.arrow pb hy
        obtain ⟨i1, i2⟩ := inB x (List.mem_of_getElem? hx)
        have hq5 := tgo _ _ hq
        have lC : C.length = i := by
          rw [← Turned.len tu, List.length_map, List.length_take]
          have := (List.getElem?_eq_some_iff.mp hx).1
          omega
        have lcs : cs.length = C.length := by rw [PT2.len pc, List.length_map]
        have il : i < B.length := (List.getElem?_eq_some_iff.mp hx).1
        refine ⟨q, _, rfl, SqT.of hq5, rfl, _, _, rfl, _, _, rfl, rfl, ?_⟩
        refine ⟨_, rfl, _, rfl, nl, _, _, _, rfl, rfl, SqL.of hnl5, nmG _ i1, _, rfl, _, rfl, nl, _, _, _, rfl, rfl, SqL.of hnl5, nmG _ i2, by show 2 ≤ sizeLine; decide, fun w1 nw1 => ?_⟩
        have p5 := go.1
        have g6 := Go.new (o := .tup [nv (ns.getD x.1 0), nv (ns.getD x.2 0)]) p5 nw1
        have go6 := go.trans g6
        have hw6 := upd_same (H := J') (a := w1) (o := .tup [nv (ns.getD x.1 0), nv (ns.getD x.2 0)])
        have har6 := g6.2 _ _ nra har5
        have hnl6 := g6.2 _ _ nla hnl5
        have hpr6 := g6.2 _ _ nprA hpr5
        have pc6 := pc.mono (S' := upd J' w1 (.tup [nv (ns.getD x.1 0), nv (ns.getD x.2 0)])) fun b xs z => g6.tup p5 z
        generalize upd J' w1 (.tup [nv (ns.getD x.1 0), nv (ns.getD x.2 0)]) = J6 at *
        refine ⟨_, rfl, .inl ⟨rfl, _, SqL.of har6⟩, _, rfl, a, 2, rfl, go6.1, by decide, by decide, fun r7 J7 a7 b7 g7 => ⟨rfl, _, rfl, ?_⟩⟩
        have go7 := go6.trans g7
        have hw7 := g7.tup go6.1 hw6
        have har7 := g7.2 _ _ nra har6
        have hnl7 := g7.2 _ _ nla hnl6
        have hpr7 := g7.2 _ _ nprA hpr6
        have pc7 := pc6.mono (S' := J7) fun b xs z => g7.tup go6.1 z
        have nlar : nl ≠ ar := nlar
        have st : (B.take (i + 1)).map (fun x => (ns.getD x.1 0, ns.getD x.2 0)) = (B.take i).map (fun x => (ns.getD x.1 0, ns.getD x.2 0)) ++ [(ns.getD x.1 0, ns.getD x.2 0)] := by
          rw [List.take_succ, hx, List.map_append]
          rfl
        -- an arrow more
        have push : ∀ (J8 : Hp) (c : Addr) (z : Nat × Nat), Go a J7 J8 → J8 c = some (.tup [nv z.1, nv z.2]) → (z = (ns.getD x.1 0, ns.getD x.2 0) ∨ z = flip (ns.getD x.1 0, ns.getD x.2 0)) →
            ∃ l xs y, V.ref ar = .ref l ∧ [V.ref c] = [y] ∧ J8 l = some (.lst xs) ∧ xs.length < sizeLine ∧
              ((∃ (u4 u5 u6 u7 u10 : Option V), [some (.ref a), some (.ref sh), some (nv (total ss)), some (.ref o), v4, v5, some (nv x.1), some (nv x.2), some (.ref nl), some (.ref ar), some (.ref w1)] = [some (.ref a), some (.ref sh), some (nv (total ss)), some (.ref o), u4, u5, u6, u7, some (.ref nl), some (.ref ar), u10]) ∧ (Go a J2 (upd J8 l (.lst (xs ++ [y]))) ∧ TExt J4 (upd J8 l (.lst (xs ++ [y])))) ∧ (upd J8 l (.lst (xs ++ [y]))) nl = some (.lst (ns.map nv)) ∧ (upd J8 l (.lst (xs ++ [y]))) pr = some (.lst (bs.map V.ref)) ∧
                ∃ (cs : List Addr) (C : Ar), (upd J8 l (.lst (xs ++ [y]))) ar = some (.lst (cs.map V.ref)) ∧ PT2 (upd J8 l (.lst (xs ++ [y]))) cs (C.map arL) ∧ Turned ((B.take (i + 1)).map fun x => (ns.getD x.1 0, ns.getD x.2 0)) C) := by
          intro J8 c z g8 hc hz
          have har8 := g8.2 _ _ nra har7
          have pc8 := pc7.mono (S' := J8) fun b xs z => g8.tup go7.1 z
          refine ⟨ar, _, _, rfl, rfl, har8, by rw [List.length_map]; exact small1000 (by omega), ⟨v4, v5, _, _, _, rfl⟩, ?_, ?_, ?_, cs ++ [c], C ++ [z], by rw [upd_same, List.map_append]; rfl, ?_, ?_⟩
          · have gx := go7.trans g8
            exact ⟨Go.put go2.1 gx nar, fun b xs z => TExt.put har8 _ _ (g8.tup go7.1 (g7.tup go6.1 (g6.tup p5 (tgo _ _ z))))⟩
          · rw [upd_ne nlar]
            exact g8.2 _ _ nla hnl7
          · rw [upd_ne napr.symm]
            exact g8.2 _ _ nprA hpr7
          · rw [List.map_append]
            exact (PT2.snoc (l := arL z) pc8 hc).mono fun b xs w => by rw [upd_ne (lst_ne har8 w)]; exact w
          · rw [st]
            rcases hz with rfl | rfl
            · exact (Turned.snoc tu _).1
            · exact (Turned.snoc tu _).2
        refine ite2 (fun _ => ?_) (fun _ => ?_)
        · obtain ⟨l, xs, y, q1, q2, q3, q4, q5⟩ := push J7 w1 _ (Go.refl go7.1) hw7 (.inl rfl)
          exact ⟨_, rfl, l, xs, y, q1, q2, q3, q4, q5⟩
        · refine ⟨_, rfl, w1, _, _, _, rfl, rfl, SqT.of hw7, rfl, _, rfl, w1, _, _, _, rfl, rfl, SqT.of hw7, rfl, by show 2 ≤ sizeLine; decide, fun w2 nw2 => ?_⟩
          obtain ⟨l, xs, y, q1, q2, q3, q4, q5⟩ := push _ w2 (flip (ns.getD x.1 0, ns.getD x.2 0)) (Go.new go7.1 nw2) upd_same (.inr rfl)
          exact ⟨l, xs, y, q1, q2, q3, q4, q5⟩
      · rintro σ' J5 ⟨⟨v4, v5, v6, v7, v10, rfl⟩, ⟨go, tgo⟩, hnl5, hpr5, cs, C, har5, pc, tu⟩
        have lbs : (bs.map V.ref).length = B.length := by rw [List.length_map, PT2.len pb, List.length_map]
        rw [lbs, List.take_of_length_le (Nat.le_refl _)] at tu
        have lC : C.length = B.length := by rw [← Turned.len tu, List.length_map]
        refine ⟨_, rfl, _, rfl, ar, _, rfl, .inl ⟨SqL.of har5, fun u nu => ⟨by show 2 ≤ sizeLine; decide, fun v nv' => ?_⟩⟩⟩
        have g6 := Go.new (o := .tup (cs.map V.ref)) go.1 nu
        have g7 := Go.new (o := .tup [nv (total ss), .ref u]) g6.1 nv'
        have e6 := Ext.upd (o := .tup (cs.map V.ref)) nu
        have e7 := Ext.upd (o := .tup [nv (total ss), .ref u]) nv'
        refine k v u (total ss) C _ (go2.trans (go.trans (g6.trans g7))) upd_same ⟨cs, e7 _ _ upd_same, pc.mono fun b xs z => e7 _ _ (e6 _ _ z)⟩ (by omega) tot8 ⟨ok, rfl, fun i => ns.getD i 0, B, nm1, nm2, nm3, pB, tu⟩
end
end R23

set_option Elab.async false
set_option linter.all false
set_option maxRecDepth 100000
set_option maxHeartbeats 4000000
set_option pp.maxSteps 100
/-! _law_hung. -/
namespace R23
open PySem L2 K9M M21
abbrev sHung : Stmt := top 38
/-- a list of lists of places stands at r -/
def LL (H : Hp) (r : Addr) (ls : List (List Nat)) : Prop := ∃ as : List Addr, H r = some (.lst (as.map V.ref)) ∧ Two (fun a l => H a = some (.lst (l.map nv))) as ls
theorem LL.ext {H H' : Hp} {r : Addr} {ls : List (List Nat)} (e : Ext H H') (h : LL H r ls) : LL H' r ls := by
  obtain ⟨as, h1, h2⟩ := h
  exact ⟨as, e _ _ h1, h2.imp fun _ _ z => e _ _ z⟩
def spHung : Sp := fun vs H Q _ => ∃ (b : Addr) (M : Nat) (A : Ar), vs = [nv M, .ref b] ∧ TT H b (A.map arL) ∧ M ≤ 8 ∧ A.length ≤ 12 ∧ Inside M A ∧ ∀ (r : Addr) (H' : Hp), Ext H H' → H r = none → LL H' r (lotsN M A) → Q (.ref r) H'
theorem inV_nv (n : Nat) : ∀ l : List Nat, inV (nv n) (l.map nv) = decide (n ∈ l)
  | [] => rfl
  | x :: r => by
    have ih := inV_nv n r
    unfold inV at ih ⊢
    rw [List.map_cons, List.any_cons, ih]
    have e0 : eqV (nv x) (nv n) = decide ((x : Int) = (n : Int)) := rfl
    rw [e0]
    by_cases e : n = x
    · subst e
      rw [decide_eq_true rfl, decide_eq_true List.mem_cons_self]
      rfl
    · rw [decide_eq_false (show ¬ (x : Int) = (n : Int) by omega), Bool.false_or]
      refine decide_eq_decide.mpr ?_
      rw [List.mem_cons]
      exact ⟨.inr, fun z => z.elim (fun z => absurd z e) id⟩
theorem flat_nv : ∀ l : List Nat, (l.map nv).all flatV = true
  | [] => rfl
  | _ :: r => by
    rw [List.map_cons, List.all_cons, flat_nv r]
    rfl
theorem len_lt {M : Nat} {l : List Nat} (nd : l.Nodup) (lt : ∀ p ∈ l, p < M) : l.length ≤ M := by
  have p : l.Perm ((List.range M).filter fun i => decide (i ∈ l)) := perm_of_mem nd (List.Pairwise.sublist List.filter_sublist List.nodup_range) fun x => by
    rw [List.mem_filter, List.mem_range, decide_eq_true_eq]
    exact ⟨fun h => ⟨lt x h, h⟩, fun h => h.2⟩
  rw [p.length_eq]
  exact Nat.le_trans (List.length_filter_le _ _) (by rw [List.length_range]; exact Nat.le_refl _)
theorem outs_snoc {A : Ar} {i : Nat} {a : Nat × Nat} (h : A[i]? = some a) (q : Nat) : outs (A.take (i + 1)) q = outs (A.take i) q ++ (if a.1 = q then [a.2] else []) := by
  unfold outs
  rw [List.take_succ, h, List.filter_append, List.map_append]
  congr 1
  by_cases e : a.1 = q <;> simp [e]
theorem ins_snoc {A : Ar} {i : Nat} {a : Nat × Nat} (h : A[i]? = some a) (q : Nat) : ins (A.take (i + 1)) q = ins (A.take i) q ++ (if a.2 = q then [a.1] else []) := by
  unfold ins
  rw [List.take_succ, h, List.filter_append, List.map_append]
  congr 1
  by_cases e : a.2 = q <;> simp [e]
theorem outs_len (A : Ar) (q : Nat) : (outs A q).length ≤ A.length := by
  unfold outs
  rw [List.length_map]
  exact List.length_filter_le _ _
theorem ins_len (A : Ar) (q : Nat) : (ins A q).length ≤ A.length := by
  unfold ins
  rw [List.length_map]
  exact List.length_filter_le _ _
/-- a lot that grows: from x on, with the ends at its first places -/
structure Grow (M : Nat) (A : Ar) (x : Nat) (l : List Nat) : Prop where
  hx : x ∈ l
  nd : l.Nodup
  lt : ∀ p ∈ l, p < M
  lab : ∀ p ∈ l, fin1 A p = fin1 A x
theorem Grow.add {M : Nat} {A : Ar} {x p q : Nat} {l : List Nat} (hA : Inside M A) (g : Grow M A x l) (hp : p ∈ l) (hq : q ∈ ends A p) (new : q ∉ l) : Grow M A x (l ++ [q]) := by
  have both : q < M ∧ fin1 A q = fin1 A p := by
    rcases mem_ends.mp hq with z | z
    · exact ⟨(hA _ z).2, (fin1_closed A _ z).symm⟩
    · exact ⟨(hA _ z).1, fin1_closed A _ z⟩
  refine ⟨List.mem_append_left _ g.hx, ?_, fun r hr => ?_, fun r hr => ?_⟩
  · rw [List.nodup_append]
    exact ⟨g.nd, List.nodup_cons.mpr ⟨fun h => (by cases h), List.nodup_nil⟩, fun a ha b hb e => new (by rw [List.mem_singleton.mp hb] at e; rw [← e]; exact ha)⟩
  · rcases List.mem_append.mp hr with z | z
    · exact g.lt r z
    · rw [List.mem_singleton.mp z]; exact both.1
  · rcases List.mem_append.mp hr with z | z
    · exact g.lab r z
    · rw [List.mem_singleton.mp z, both.2]; exact g.lab p hp
section
variable {P : Program} {w : World} {K : PySem.W.Frag} {mg : Str → Option Value} {base : Heap}
abbrev hungN : List Str := ["many", "arrows", "found", "left", "lot", "at", "near", "a", "b", "place"]
theorem scHung : FnScope hungN ["many", "arrows"] (defScope sHung) := ⟨rfl, rfl, rfl, by decide +kernel, rfl, by decide +kernel, by decide +kernel⟩
theorem ok_hung {f : Addr} {fd : FuncData} (F : L2.Fun K "_law_hung" "_law_hung" sHung f fd) (T : Gb mg) : FnOk P w K mg base CX0 1 f fd ["many", "arrows"] spHung := by
  refine F.ok scHung (fun vs H Q E h => ?_) (fun cdv A outer s H vs Q E hr h => ?_)
  · obtain ⟨b, M, A, rfl, _⟩ := h
    rfl
  · obtain ⟨b, M, Ars, rfl, ⟨as, hb, pt⟩, hM, hL, ins', k⟩ := h
    refine ⟨_, pss_cons (ps_par (i := 2) (j := 3) rfl scHung.nd rfl rfl (by decide) rfl rfl (pa_cons (pe_lst pa_nil) (pa_cons (pe_listRg rfl (by rfl) T.list (prg_1 (by rfl) T.rng (pv 0))) pa_nil)) (by rfl))
      (pss_cons (ps_while PassesOwn.never (pt_cmpR op_gt (pe_callB call_len_seq (by rfl) T.len PySem.boot_len (pa_cons (pv 3) pa_nil)) pe_int (nomark _))
      (pss_cons (ps_asg (pe_tup (pa_cons (pe_lst (pa_cons (pe_ix ix_list (pv 3) pe_int (fun _ _ => rfl)) pa_nil)) (pa_cons pe_int pa_nil))) (pg_tup rfl (pgs_cons (pg_name (i := 4) scHung.nd rfl (Or.inr rfl)) (pgs_cons (pg_name (i := 5) scHung.nd rfl (Or.inr rfl)) pgs_nil))))
      (pss_cons (ps_while PassesOwn.never (pt_cmpR op_lt (pv 5) (pe_callB call_len_seq (by rfl) T.len PySem.boot_len (pa_cons (pv 4) pa_nil)) (nomark _))
      (C8.pss_cut (ps_set (i := 6) scHung.nd rfl (Or.inl rfl) (pe_op op_cat (pe_lc (own := [("a", 7), ("b", 8)]) (g := gTup K 2 (gCons (gName 7) (gCons (gName 8) gNil))) rfl scHung.nd (pi_tup (pv 1)) (blkOk_by (N := hungN) (sc := defScope sHung) (by decide +kernel)) (fun _ _ _ _ _ => (pg_tup rfl (pgs_cons (pg_name (i := 7) scHung.nd rfl (Or.inl rfl)) (pgs_cons (pg_name (i := 8) scHung.nd rfl (Or.inl rfl)) pgs_nil)))) (fun _ _ _ _ _ => (pts_one (pt_cmpR op_eq (pv 7) (pe_ix (r := rIxL K) ix_list (pv 4) (pv 5) (fun _ _ => rfl)) (nomark _)))) (fun _ _ _ _ _ => (pv 8))) (pe_lc (own := [("a", 7), ("b", 8)]) (g := gTup K 2 (gCons (gName 7) (gCons (gName 8) gNil))) rfl scHung.nd (pi_tup (pv 1)) (blkOk_by (N := hungN) (sc := defScope sHung) (by decide +kernel)) (fun _ _ _ _ _ => (pg_tup rfl (pgs_cons (pg_name (i := 7) scHung.nd rfl (Or.inl rfl)) (pgs_cons (pg_name (i := 8) scHung.nd rfl (Or.inl rfl)) pgs_nil)))) (fun _ _ _ _ _ => (pts_one (pt_cmpR op_eq (pv 8) (pe_ix (r := rIxL K) ix_list (pv 4) (pv 5) (fun _ _ => rfl)) (nomark _)))) (fun _ _ _ _ _ => (pv 7)))))
      (pss_cons (ps_for PassesOwn.never rfl (pi_list (pv 6)) (pg_name (i := 9) scHung.nd rfl (Or.inl rfl))
      (pss_one (ps_if (pt_cmpR op_notIn_seq (pv 9) (pv 4) (by rfl)) (pss_one (ps_expr (pe_bm PySem.F.plainAttrs_list PySem.F.slot_list_append PySem.F.type_list_append mt_append (pv 4) (pa_cons (pv 9) pa_nil)))) pss_nil)))
      (pss_one (ps_set (i := 5) scHung.nd rfl (Or.inr rfl) (pe_op op_add (pv 5) pe_int))))))
      (pss_cons (ps_expr (pe_bm PySem.F.plainAttrs_list PySem.F.slot_list_append PySem.F.type_list_append mt_append (pv 2) (pa_cons (pe_callB cr_sortedI (by rfl) T.sorted (by decide +kernel) (pa_cons (pv 4) pa_nil)) pa_nil)))
      (pss_one (ps_setLc (i := 3) (own := [("place", 9)]) (g := gName 9) rfl scHung.nd rfl rfl (sw_true rfl rfl rfl (by decide +kernel)) (pi_list (pv 3)) (blkOk_by (N := hungN) (sc := defScope sHung) (by decide +kernel)) (fun _ _ _ _ _ => (pg_name (i := 9) scHung.nd rfl (Or.inl rfl))) (fun _ _ _ _ _ => (pts_one (pt_cmpR (r := rIn K true) op_notIn_seq (pv 9) (pv 4) (by rfl)))) (fun _ _ _ _ _ => (pv 9))))))))
      (pss_one (ps_ret (pv 2)))), ?_⟩
    refine ⟨Nat.zero_le _, fun fo nfo => ?_⟩
    have e0 : Ext H (upd H fo (.lst [])) := Ext.upd nfo
    refine ⟨_, rfl, (M : Int), rfl, RgOk.of_le (by omega) (by omega) (by omega) (by omega), fun d nd => ⟨_, _, rfl, ?_⟩⟩
    rw [rg_nv]
    have e1 : Ext (upd H fo (.lst [])) (upd (upd H fo (.lst [])) d (.lst ((List.range M).map nv))) := Ext.upd nd
    have hlen : (as.map V.ref).length = Ars.length := by rw [List.length_map, PT2.len pt, List.length_map]
    refine ⟨fun m σ' J => ∃ (j : Nat) (le : Addr) (v4 v5 v6 v9 : Option V), σ' = [some (nv M), some (.ref b), some (.ref fo), some (.ref le), v4, v5, v6, Option.none, Option.none, v9] ∧ Ext H J ∧ J le = some (.lst ((left M Ars j).map nv)) ∧ (∃ fs : List Addr, J fo = some (.lst (fs.map V.ref)) ∧ Two (fun a l => a ≠ fo ∧ J a = some (.lst (l.map nv))) fs ((lotsN M Ars).take j)) ∧ le ≠ fo ∧ m + j = (headsN M Ars).length,
      ⟨(headsN M Ars).length, 0, d, _, _, _, _, rfl, e0.trans e1, by rw [upd_same, left_zero], ⟨[], e1 _ _ upd_same, by rw [List.take_zero]; exact .nil⟩, (ne_of_none upd_same nd).symm, rfl⟩, ?_⟩
    rintro m σ' J ⟨j, le, v4, v5, v6, v9, rfl, xJ, hle, ⟨fs, hfo, tf⟩, leo, em⟩
    refine ⟨_, rfl, le, _, rfl, .inl (SqL.of hle), _, _, rfl, rfl, _, rfl, ?_⟩
    have lotsL : (lotsN M Ars).length = (headsN M Ars).length := by unfold lotsN; rw [List.length_map]
    match el : left M Ars j, hle with
    | [], hle =>
      refine iteF ?_
      have := left_nil el
      rw [List.take_of_length_le (by omega)] at tf
      exact ⟨_, rfl, k fo J xJ nfo ⟨fs, hfo, tf.imp fun _ _ z => z.2⟩⟩
    | x :: r, hle =>
      refine ite2 (fun _ => ?_) (fun z => absurd (decide_eq_true (show (0 : Int) < (((x :: r).map nv).length : Int) by rw [List.length_map, List.length_cons]; omega)) z)
      have hd := left_head ins' el
      have jl : j < (headsN M Ars).length := (List.getElem?_eq_some_iff.mp hd).1
      have lsx : (lotsN M Ars)[j]? = some (lotN M Ars x) := by unfold lotsN; rw [List.getElem?_map, hd]; rfl
      obtain ⟨xm, xf⟩ := mem_headsN.mp (List.mem_of_getElem? hd)
      refine ⟨fun σ' J => ∃ m', m' < m ∧ ∃ (j : Nat) (le : Addr) (v4 v5 v6 v9 : Option V), σ' = [some (nv M), some (.ref b), some (.ref fo), some (.ref le), v4, v5, v6, Option.none, Option.none, v9] ∧ Ext H J ∧ J le = some (.lst ((left M Ars j).map nv)) ∧ (∃ fs : List Addr, J fo = some (.lst (fs.map V.ref)) ∧ Two (fun a l => a ≠ fo ∧ J a = some (.lst (l.map nv))) fs ((lotsN M Ars).take j)) ∧ le ≠ fo ∧ m' + j = (headsN M Ars).length, fun _ _ z => z, ?_⟩
      refine ⟨_, rfl, le, _, _, nv x, rfl, rfl, SqL.of hle, at_of (j := 0) rfl rfl, by show 1 ≤ sizeLine; decide, fun o no => ⟨by show 2 ≤ sizeLine; decide, fun t nt => ⟨t, _, rfl, SqT.of upd_same, rfl, _, _, rfl, _, _, rfl, rfl, ?_⟩⟩⟩
      have f1 : Ext J (upd J o (.lst [nv x])) := Ext.upd no
      have f2 : Ext (upd J o (.lst [nv x])) (upd (upd J o (.lst [nv x])) t (.tup [.ref o, .int 0])) := Ext.upd nt
      have ho0 := f2 _ _ (upd_same (H := J) (a := o) (o := .lst [nv x]))
      have x0 := f1.trans f2
      generalize upd (upd J o (.lst [nv x])) t (.tup [.ref o, .int 0]) = J0 at *
      refine ⟨fun m2 σ' J' => ∃ (l : List Nat) (i : Nat) (v6 v9 : Option V), σ' = [some (nv M), some (.ref b), some (.ref fo), some (.ref le), some (.ref o), some (nv i), v6, Option.none, Option.none, v9] ∧ Ext J J' ∧ J' o = some (.lst (l.map nv)) ∧ Grow M Ars x l ∧ i ≤ l.length ∧ (∀ u p, u < i → l[u]? = some p → ∀ q ∈ ends Ars p, q ∈ l) ∧ m2 + i = M,
        ⟨M, [x], 0, _, _, rfl, x0, ho0, ⟨List.mem_cons_self, List.nodup_cons.mpr ⟨fun h => (by cases h), List.nodup_nil⟩, fun p hp => by rw [List.mem_singleton.mp hp]; exact xm, fun p hp => by rw [List.mem_singleton.mp hp]⟩, Nat.zero_le _, fun u p hu => absurd hu (Nat.not_lt_zero _), rfl⟩, ?_⟩
      rintro m2 σ' J' ⟨l, i, v6, v9, rfl, x2, ho2, gr, al, cl, em2⟩
      have lM := len_lt gr.nd gr.lt
      refine ⟨_, rfl, _, rfl, o, _, rfl, .inl (SqL.of ho2), _, _, rfl, rfl, _, rfl, ?_⟩
      rw [List.length_map]
      refine ite2 (fun z => ?_) (fun z => ?_)
      · have il : i < l.length := by have := of_decide_eq_true z; omega
        have hp := List.getElem?_eq_getElem il
        generalize l[i] = p at hp
        have pl := List.mem_of_getElem? hp
        refine ⟨fun σ' J' => ∃ m', m' < m2 ∧ ∃ (l : List Nat) (i : Nat) (v6 v9 : Option V), σ' = [some (nv M), some (.ref b), some (.ref fo), some (.ref le), some (.ref o), some (nv i), v6, Option.none, Option.none, v9] ∧ Ext J J' ∧ J' o = some (.lst (l.map nv)) ∧ Grow M Ars x l ∧ i ≤ l.length ∧ (∀ u p, u < i → l[u]? = some p → ∀ q ∈ ends Ars p, q ∈ l) ∧ m' + i = M, fun _ _ z => z, ?_⟩
        have atp : ∀ J3 : Hp, Ext J' J3 → SqL K J3 o (l.map nv) ∧ atI (l.map nv) (i : Int) = some (nv p) := fun J3 x3 => ⟨SqL.of (x3 _ _ ho2), atI_nat (by rw [List.getElem?_map, hp]; rfl)⟩
        refine ⟨fun σ' J3 => ∃ nr : Addr, σ' = [some (nv M), some (.ref b), some (.ref fo), some (.ref le), some (.ref o), some (nv i), some (.ref nr), Option.none, Option.none, v9] ∧ Ext J' J3 ∧ nr ≠ o ∧ J3 nr = some (.lst ((outs Ars p ++ ins Ars p).map nv)), ?_, ?_⟩
        · have hb2 := x2 _ _ (xJ _ _ hb)
          refine ⟨_, rfl, b, rfl, ⟨_, SqT.of hb2⟩, fun D1 n1 => lc_tup (K := K) (a := b) (xs := as.map V.ref) (fun u J3 => J3 = upd J' D1 (.lst ((outs (Ars.take u) p).map nv))) (by simp [outs]) (fun u J3 _ e => by rw [e]; exact SqT.of (Ext.upd n1 _ _ hb2)) ?_ ?_⟩
          · rintro u y J3 hy rfl
            obtain ⟨c, ar, rfl, ha, hc⟩ := TT.arrow pt hy
            have x3 : Ext J' (upd J' D1 (.lst ((outs (Ars.take u) p).map nv))) := Ext.upd n1
            obtain ⟨a1, a2⟩ := atp _ x3
            have ol := outs_len (Ars.take u) p
            rw [List.length_take] at ol
            refine ⟨c, _, rfl, SqT.of (x3 _ _ (x2 _ _ (xJ _ _ hc))), rfl, _, _, rfl, _, _, rfl, rfl, rfl, ?_⟩
            refine ⟨_, rfl, _, rfl, _, rfl, o, _, _, _, rfl, rfl, a1, a2, rfl, _, rfl, ?_⟩
            rw [nv_eq]
            refine ite2 (fun z => ?_) (fun z => ?_)
            · refine ⟨_, rfl, _, upd_same, by rw [List.length_map]; exact small1000 (by omega), ?_⟩
              rw [upd_upd, outs_snoc ha, if_pos (of_decide_eq_true z), List.map_append]
              rfl
            · show upd J' D1 _ = upd J' D1 _
              rw [outs_snoc ha, if_neg (fun y => z (decide_eq_true y)), List.append_nil]
          rintro J3 rfl
          rw [hlen, List.take_of_length_le (Nat.le_refl _)]
          have x3 : Ext J' (upd J' D1 (.lst ((outs Ars p).map nv))) := Ext.upd n1
          have h1 := upd_same (H := J') (a := D1) (o := .lst ((outs Ars p).map nv))
          generalize upd J' D1 (.lst ((outs Ars p).map nv)) = J3 at *
          have hb3 := x3 _ _ hb2
          refine ⟨_, rfl, b, rfl, ⟨_, SqT.of hb3⟩, fun D2 n2 => lc_tup (K := K) (a := b) (xs := as.map V.ref) (fun u J4 => J4 = upd J3 D2 (.lst ((ins (Ars.take u) p).map nv))) (by simp [ins]) (fun u J4 _ e => by rw [e]; exact SqT.of (Ext.upd n2 _ _ hb3)) ?_ ?_⟩
          · rintro u y J4 hy rfl
            obtain ⟨c, ar, rfl, ha, hc⟩ := TT.arrow pt hy
            have x4 : Ext J3 (upd J3 D2 (.lst ((ins (Ars.take u) p).map nv))) := Ext.upd n2
            obtain ⟨a1, a2⟩ := atp _ (x3.trans x4)
            have ol := ins_len (Ars.take u) p
            rw [List.length_take] at ol
            refine ⟨c, _, rfl, SqT.of (x4 _ _ (x3 _ _ (x2 _ _ (xJ _ _ hc)))), rfl, _, _, rfl, _, _, rfl, rfl, rfl, ?_⟩
            refine ⟨_, rfl, _, rfl, _, rfl, o, _, _, _, rfl, rfl, a1, a2, rfl, _, rfl, ?_⟩
            rw [nv_eq]
            refine ite2 (fun z => ?_) (fun z => ?_)
            · refine ⟨_, rfl, _, upd_same, by rw [List.length_map]; exact small1000 (by omega), ?_⟩
              rw [upd_upd, ins_snoc ha, if_pos (of_decide_eq_true z), List.map_append]
              rfl
            · show upd J3 D2 _ = upd J3 D2 _
              rw [ins_snoc ha, if_neg (fun y => z (decide_eq_true y)), List.append_nil]
          rintro J4 rfl
          rw [hlen, List.take_of_length_le (Nat.le_refl _)]
          have x4 : Ext J3 (upd J3 D2 (.lst ((ins Ars p).map nv))) := Ext.upd n2
          have l1 := outs_len Ars p
          have l2 := ins_len Ars p
          refine ⟨D1, D2, _, _, rfl, rfl, x4 _ _ h1, upd_same, by rw [List.length_map, List.length_map, sizeLine_eq]; omega, fun nr n3 => ?_⟩
          have x5 := Ext.upd (o := .lst ((outs Ars p).map nv ++ (ins Ars p).map nv)) n3
          refine ⟨nr, rfl, x3.trans (x4.trans x5), ?_, by rw [upd_same, List.map_append]⟩
          exact (ne_of_none (x4 _ _ (x3 _ _ ho2)) n3).symm
        · rintro σ' J3 ⟨nr, rfl, x3, nro, hnr⟩
          have lN : (outs Ars p ++ ins Ars p).length ≤ 24 := by
            rw [List.length_append]
            have l1 := outs_len Ars p
            have l2 := ins_len Ars p
            omega
          have hN : ∀ q, q ∈ outs Ars p ++ ins Ars p ↔ q ∈ ends Ars p := fun q => (ends_perm Ars p).mem_iff.symm
          generalize outs Ars p ++ ins Ars p = N at *
          refine ⟨_, rfl, nr, rfl, ⟨_, SqL.of hnr⟩, for_list (K := K) (a := nr) (xs := N.map nv) (fun u σ' J4 => (∃ (v9 : Option V), σ' = [some (nv M), some (.ref b), some (.ref fo), some (.ref le), some (.ref o), some (nv i), some (.ref nr), Option.none, Option.none, v9]) ∧ Ext J J4 ∧ J4 nr = some (.lst (N.map nv)) ∧ ∃ t, J4 o = some (.lst ((l ++ t).map nv)) ∧ Grow M Ars x (l ++ t) ∧ ∀ q ∈ N.take u, q ∈ l ++ t)
            ⟨⟨_, rfl⟩, x2.trans x3, hnr, [], by rw [List.append_nil]; exact x3 _ _ ho2, by rw [List.append_nil]; exact gr, fun q hq => by rw [List.take_zero] at hq; cases hq⟩ (fun u σ' J4 _ h => SqL.of h.2.2.1) ?_ ?_⟩
          · rintro u y σ' J4 hy ⟨⟨v9, rfl⟩, x4, hn4, t', ho4, gr4, all4⟩
            obtain ⟨q, hq, rfl⟩ := nv_get hy
            have lM4 := len_lt gr4.nd gr4.lt
            have hqe := (hN q).mp (List.mem_of_getElem? hq)
            refine ⟨_, rfl, _, rfl, o, _, rfl, .inl (SqL.of ho4), rfl, flat_nv _, _, rfl, ?_⟩
            rw [inV_nv]
            refine ite2 (fun z => ?_) (fun z => ?_)
            · have z : q ∉ l ++ t' := of_decide_eq_false (by simpa using z)
              refine ⟨_, rfl, .inl ⟨rfl, _, SqL.of ho4⟩, _, rfl, o, _, _, rfl, rfl, ho4, by rw [List.length_map]; exact small1000 (by omega), ⟨_, rfl⟩, fun c u hc => ?_, ?_, t' ++ [q], ?_, ?_, fun q' hq' => ?_⟩
              · rw [upd_ne (ne_of_none hc no)]
                exact x4 _ _ hc
              · rw [upd_ne nro]
                exact hn4
              · rw [upd_same, ← List.append_assoc, List.map_append (l₁ := l ++ t')]
                rfl
              · rw [← List.append_assoc]
                exact gr4.add ins' (List.mem_append_left _ pl) hqe z
              · rw [← List.append_assoc]
                rw [List.take_succ, hq] at hq'
                rcases List.mem_append.mp hq' with y | y
                · exact List.mem_append_left _ (all4 q' y)
                · exact List.mem_append_right _ y
            · have z : q ∈ l ++ t' := by
                refine Classical.byContradiction fun y => z ?_
                rw [decide_eq_false y]
                rfl
              refine ⟨⟨_, rfl⟩, x4, hn4, t', ho4, gr4, fun q' hq' => ?_⟩
              rw [List.take_succ, hq] at hq'
              rcases List.mem_append.mp hq' with y | y
              · exact all4 q' y
              · have : q' = q := List.mem_singleton.mp y
                rw [this]
                exact z
          · rintro σ' J4 ⟨⟨v9, rfl⟩, x4, hn4, t', ho4, gr4, all4⟩
            rw [List.length_map, List.take_of_length_le (Nat.le_refl _)] at all4
            refine ⟨_, rfl, _, _, rfl, rfl, M - (i + 1), by omega, l ++ t', i + 1, _, _, rfl, x4, ho4, gr4, by rw [List.length_append]; omega, fun u p' hu hp' q hq => ?_, by omega⟩
            rw [List.getElem?_append_left (by omega)] at hp'
            by_cases e : u = i
            · subst e
              rw [hp] at hp'
              cases hp'
              exact all4 q ((hN q).mpr hq)
            · exact List.mem_append_left _ (cl u p' (by omega) hp' q hq)
      · have il : i = l.length := by
          have : ¬ (i : Int) < (l.length : Int) := fun y => z (decide_eq_true y)
          omega
        have lp := hung_lot ins' gr.hx gr.nd gr.lt gr.lab (fun p hp q hq => by
          obtain ⟨u, hu⟩ := List.mem_iff_getElem?.mp hp
          exact cl u p (by have := (List.getElem?_eq_some_iff.mp hu).1; omega) hu q hq) xf
        have hfo2 := x2 _ _ hfo
        refine ⟨_, rfl, .inl ⟨rfl, _, SqL.of hfo2⟩, _, rfl, o, l.map fun n : Nat => (n : Int), rfl, SqL.of (by rw [ho2, map_nv]), fun ns g pn sn ng => ?_⟩
        have en := nat_sorted pn sn lp.symm ((lotN_up M Ars x).imp fun h => Nat.le_of_lt h)
        subst en
        rw [map_nv]
        have x3 : Ext J' (upd J' g (.lst ((lotN M Ars x).map nv))) := Ext.upd ng
        have hg := upd_same (H := J') (a := g) (o := .lst ((lotN M Ars x).map nv))
        generalize upd J' g (.lst ((lotN M Ars x).map nv)) = J3 at *
        have hfo3 := x3 _ _ hfo2
        have fl : fs.length = j := by rw [tf.len, List.length_take]; omega
        have hsm := lots_small M Ars
        have gfo : g ≠ fo := fun e => by rw [e] at ng; rw [hfo2] at ng; cases ng
        refine ⟨fo, _, _, rfl, rfl, hfo3, by rw [List.length_map]; exact small1000 (by omega), ?_⟩
        have x03 : Ext J J3 := x2.trans x3
        have hle5 : (upd J3 fo (.lst (fs.map V.ref ++ [.ref g]))) le = some (.lst ((x :: r).map nv)) := by rw [upd_ne leo]; exact x03 _ _ hle
        have ho5 : (upd J3 fo (.lst (fs.map V.ref ++ [.ref g]))) o = some (.lst (l.map nv)) := by
          rw [upd_ne (fun e => by rw [e] at no; rw [hfo] at no; cases no)]
          exact x3 _ _ ho2
        have xH5 : Ext H (upd J3 fo (.lst (fs.map V.ref ++ [.ref g]))) := fun c u hc => by
          rw [upd_ne (ne_of_none hc nfo)]
          exact x03 _ _ (xJ _ _ hc)
        have hfo5 := upd_same (H := J3) (a := fo) (o := .lst (fs.map V.ref ++ [.ref g]))
        have tf5 : Two (fun a l => a ≠ fo ∧ (upd J3 fo (.lst (fs.map V.ref ++ [.ref g]))) a = some (.lst (l.map nv))) (fs ++ [g]) ((lotsN M Ars).take (j + 1)) := by
          rw [List.take_succ, lsx]
          refine Two.snoc (tf.imp fun a l z => ⟨z.1, by rw [upd_ne z.1]; exact x03 _ _ z.2⟩) ⟨gfo, by rw [upd_ne gfo]; exact hg⟩
        generalize upd J3 fo (.lst (fs.map V.ref ++ [.ref g])) = J5 at *
        refine ⟨_, rfl, le, rfl, ⟨_, SqL.of hle5⟩, fun D nD => lc_list (K := K) (a := le) (xs := (x :: r).map nv) (fun u K' => K' = upd J5 D (.lst ((((x :: r).take u).filter fun q => decide (q ∉ l)).map nv))) (by simp) (fun u K' _ e => by rw [e]; exact SqL.of (Ext.upd nD _ _ hle5)) ?_ ?_⟩
        · rintro u y K' hy rfl
          obtain ⟨q, hq, rfl⟩ := nv_get hy
          have lr : (x :: r).length ≤ M := by
            rw [← el]
            unfold left
            exact Nat.le_trans (List.length_filter_le _ _) (by rw [List.length_range]; exact Nat.le_refl _)
          have fl2 : (((x :: r).take u).filter fun q => decide (q ∉ l)).length ≤ M := Nat.le_trans (List.length_filter_le _ _) (by rw [List.length_take]; omega)
          have sn : ((x :: r).take (u + 1)).filter (fun q => decide (q ∉ l)) = ((x :: r).take u).filter (fun q => decide (q ∉ l)) ++ (if q ∉ l then [q] else []) := by
            rw [List.take_succ, hq, List.filter_append]
            congr 1
            by_cases z : q ∈ l <;> simp [z]
          refine ⟨rfl, _, rfl, _, rfl, o, _, rfl, .inl (SqL.of (Ext.upd nD _ _ ho5)), rfl, flat_nv _, _, rfl, ?_⟩
          rw [inV_nv]
          refine ite2 (fun z => ?_) (fun z => ?_)
          · have z : q ∉ l := of_decide_eq_false (by simpa using z)
            refine ⟨_, rfl, _, upd_same, by rw [List.length_map]; exact small1000 (by omega), ?_⟩
            rw [upd_upd, sn, if_pos z, List.map_append]
            rfl
          · have z : ¬ q ∉ l := fun y => z (by rw [decide_eq_false y]; rfl)
            show upd J5 D _ = upd J5 D _
            rw [sn, if_neg z, List.append_nil]
        · rintro K' rfl
          rw [List.length_map, List.take_of_length_le (Nat.le_refl _)]
          have xD : Ext J5 (upd J5 D (.lst (((x :: r).filter fun q => decide (q ∉ l)).map nv))) := Ext.upd nD
          refine ⟨m - 1, by omega, j + 1, D, _, _, _, _, rfl, xH5.trans xD, ?_, ⟨fs ++ [g], by rw [xD _ _ hfo5, List.map_append]; rfl, tf5.imp fun a l z => ⟨z.1, xD _ _ z.2⟩⟩, (ne_of_none hfo5 nD).symm, by omega⟩
          rw [upd_same, left_next hd, el]
          congr 3
          refine List.filter_congr fun q _ => decide_eq_decide.mpr ?_
          rw [lp.mem_iff]
end
end R23

set_option Elab.async false
set_option linter.all false
set_option maxRecDepth 100000
set_option maxHeartbeats 4000000
set_option pp.maxSteps 100
/-! _law_way. -/
namespace R23
open PySem L2 K9M M21
abbrev sWay : Stmt := top 39
/-- a dict of the other ends at places, in some order -/
def NearD (H : Hp) (d : Addr) (A : Ar) (L : List Nat) : Prop := ∃ kvs, H d = some (.dK kvs) ∧ kvs.length ≤ L.length ∧ ∀ p ∈ L, ∃ (o : Addr) (l : List Nat), valV kvs (Sum.inl (p : Int)) = some (.ref o) ∧ H o = some (.lst (l.map nv)) ∧ l.Perm (ends A p)
theorem NearD.ext {H H' : Hp} {d : Addr} {A : Ar} {L : List Nat} (e : Ext H H') (h : NearD H d A L) : NearD H' d A L := by
  obtain ⟨kvs, h1, hl, h2⟩ := h
  refine ⟨kvs, e _ _ h1, hl, fun p hp => ?_⟩
  obtain ⟨o, l, h3, h4, h5⟩ := h2 p hp
  exact ⟨o, l, h3, e _ _ h4, h5⟩
theorem NearD.get {H : Hp} {d : Addr} {A : Ar} {L : List Nat} (h : NearD H d A L) {p : Nat} (hp : p ∈ L) : ∃ (o : Addr) (l : List Nat), DGet H d (nv p) (some (.ref o)) ∧ H o = some (.lst (l.map nv)) ∧ l.Perm (ends A p) := by
  obtain ⟨kvs, h1, _, h2⟩ := h
  obtain ⟨o, l, h3, h4, h5⟩ := h2 p hp
  exact ⟨o, l, .inl ⟨kvs, Sum.inl (p : Int), .inl h1, rfl, h3.symm⟩, h4, h5⟩
def spWay : Sp := fun vs H Q _ => ∃ (d : Addr) (A : Ar) (L : List Nat) (c x n : Nat), vs = [.ref d, nv c, nv x] ∧ NearD H d A L ∧ A.length ≤ 12 ∧ (∀ p ∈ L, ∀ q ∈ ends A p, q ∈ L) ∧ x ∈ L ∧ WayS A c x n ∧ ∀ H', Ext H H' → Q (nv n) H'
theorem onward_near {A : Ar} {l : List Nat} {st pl : Nat} (p : l.Perm (ends A pl)) : (l.filter fun q => decide (q ≠ st)).Perm (onward A st pl) := p.filter _
section
variable {P : Program} {w : World} {K : PySem.W.Frag} {mg : Str → Option Value} {base : Heap}
abbrev wayN : List Str := ["near", "center", "first", "ahead", "here", "many", "further", "place"]
theorem scWay : FnScope wayN ["near", "center", "first"] (defScope sWay) := ⟨rfl, rfl, rfl, by decide +kernel, rfl, by decide +kernel, by decide +kernel⟩
theorem ok_way {f : Addr} {fd : FuncData} (F : L2.Fun K "_law_way" "_law_way" sWay f fd) (T : Gb mg) : FnOk P w K mg base CX0 1 f fd ["near", "center", "first"] spWay := by
  refine F.ok scWay (fun vs H Q E h => ?_) (fun cdv A outer s H vs Q E hr h => ?_)
  · obtain ⟨d, A, L, c, x, n, rfl, _⟩ := h
    rfl
  · obtain ⟨d, Ars, L, c, x, n, rfl, nr, hL, cl, xL, way, k⟩ := h
    have hu1 := hu_of hr
    refine ⟨_, pss_cons (ps_asg (pe_tup (pa_cons (pv 1) (pa_cons (pv 2) (pa_cons pe_int pa_nil)))) (pg_tup rfl (pgs_cons (pg_name (i := 3) scWay.nd rfl (Or.inr rfl)) (pgs_cons (pg_name (i := 4) scWay.nd rfl (Or.inl rfl)) (pgs_cons (pg_name (i := 5) scWay.nd rfl (Or.inl rfl)) pgs_nil)))))
      (pss_cons (ps_setLc (i := 6) (own := [("place", 7)]) (g := gName 7) rfl scWay.nd rfl rfl (sw_true rfl rfl rfl (by decide +kernel)) (pi_list (pe_dget hu1 (pv 0) (pv 4) (fun _ _ => rfl))) (blkOk_by (N := wayN) (sc := defScope sWay) (by decide +kernel)) (fun _ _ _ _ _ => (pg_name (i := 7) scWay.nd rfl (Or.inl rfl))) (fun _ _ _ _ _ => (pts_one (pt_cmpR op_ne (pv 7) (pv 3) (nomark _)))) (fun _ _ _ _ _ => (pv 7)))
      (pss_cons (ps_while PassesOwn.never (pt_cmpR op_gt (pe_callB call_len_seq (by rfl) T.len PySem.boot_len (pa_cons (pv 6) pa_nil)) pe_int (nomark _))
      (pss_cons (ps_asg (pe_tup (pa_cons (pv 4) (pa_cons (pe_ix ix_list (pv 6) pe_int (fun _ _ => rfl)) (pa_cons (pe_op op_add (pv 5) pe_int) pa_nil)))) (pg_tup rfl (pgs_cons (pg_name (i := 3) scWay.nd rfl (Or.inr rfl)) (pgs_cons (pg_name (i := 4) scWay.nd rfl (Or.inl rfl)) (pgs_cons (pg_name (i := 5) scWay.nd rfl (Or.inl rfl)) pgs_nil)))))
      (pss_one (ps_setLc (i := 6) (own := [("place", 7)]) (g := gName 7) rfl scWay.nd rfl rfl (sw_true rfl rfl rfl (by decide +kernel)) (pi_list (pe_dget hu1 (pv 0) (pv 4) (fun _ _ => rfl))) (blkOk_by (N := wayN) (sc := defScope sWay) (by decide +kernel)) (fun _ _ _ _ _ => (pg_name (i := 7) scWay.nd rfl (Or.inl rfl))) (fun _ _ _ _ _ => (pts_one (pt_cmpR op_ne (pv 7) (pv 3) (nomark _)))) (fun _ _ _ _ _ => (pv 7))))))
      (pss_one (ps_ret (pv 5))))), ?_⟩
    -- the comprehension, from any places
    have comp : ∀ (J : Hp) (st pl : Nat) (v5 v6 : Option V) (Q' : VK), Ext H J → pl ∈ L → (∀ (r : Addr) (l : List Nat) (J' : Hp), Ext J J' → J' r = some (.lst (l.map nv)) → l.Perm (onward Ars st pl) → Q' (.ref r) J') →
        tLc (iList K (tDGet (tVar 0) (tVar 4))) (gName 7) (tTest (tOp rNe (tVar 7) (tVar 3))) (tVar 7) (List.map (fun x => x.snd) [(Str.ofString "place", 7)]) [some (.ref d), some (nv c), some (nv x), some (nv st), some (nv pl), v5, v6, Option.none] J Q' := by
      intro J st pl v5 v6 Q' xJ hpl kQ
      obtain ⟨o, l, g, ho, pm⟩ := (nr.ext xJ).get hpl
      have ll : l.length ≤ 24 := by
        have := ends_len Ars pl
        rw [pm.length_eq]
        omega
      refine ⟨_, rfl, _, rfl, d, _, rfl, g, ?_⟩
      refine ⟨o, rfl, ⟨_, SqL.of ho⟩, fun D nD => lc_list (K := K) (a := o) (xs := l.map nv) (fun i J' => J' = upd J D (.lst (((l.take i).filter fun q => decide (q ≠ st)).map nv))) (by simp) (fun i J' _ e => by rw [e]; exact SqL.of (Ext.upd nD _ _ ho)) ?_ ?_⟩
      · rintro i y J' hy rfl
        obtain ⟨n, hn, rfl⟩ := nv_get hy
        have fl : ((l.take i).filter fun q => decide (q ≠ st)).length ≤ 24 := Nat.le_trans (List.length_filter_le _ _) (by rw [List.length_take]; omega)
        refine ⟨rfl, _, rfl, _, rfl, rfl, _, rfl, ?_⟩
        rw [nv_eq]
        refine ite2 (fun z => ?_) (fun z => ?_)
        · have z : ¬ n = st := of_decide_eq_false (by simpa using z)
          refine ⟨_, rfl, _, upd_same, by rw [List.length_map]; exact small1000 (by omega), ?_⟩
          rw [upd_upd, lc_ne (d := D) (D := D) (H1 := J) (a := 0) i hn, if_neg z, List.map_append]
          rfl
        · have z : n = st := of_decide_eq_true (by simpa using z)
          show upd J D _ = upd J D _
          rw [lc_ne (d := D) (D := D) (H1 := J) (a := 0) i hn, if_pos z, List.append_nil]
      · rintro J' rfl
        refine kQ D (l.filter fun q => decide (q ≠ st)) _ (Ext.upd nD) ?_ (onward_near pm)
        rw [upd_same, List.length_map, List.take_of_length_le (Nat.le_refl _)]
    refine ⟨_, rfl, _, rfl, by show 3 ≤ sizeLine; decide, fun t nt => ⟨t, _, rfl, SqT.of upd_same, rfl, _, _, rfl, _, _, rfl, _, _, rfl, rfl, ?_⟩⟩
    have x0 : Ext H (upd H t (.tup [nv c, nv x, .int 1])) := Ext.upd nt
    dsimp only [tSeq, tAsg, tC, gName]
    refine comp _ c x _ _ _ x0 xL fun r l H1 x1 hr1 pm => ?_
    refine ⟨fun m σ' J => ∃ (st pl : Nat) (c' : Int) (o : Addr) (l : List Nat), σ' = [some (.ref d), some (nv c), some (nv x), some (nv st), some (nv pl), some (.int c'), some (.ref o), Option.none] ∧ Ext H J ∧ J o = some (.lst (l.map nv)) ∧ l.Perm (onward Ars st pl) ∧ pl ∈ L ∧ WayS Ars st pl m ∧ c' + (m : Int) = (n : Int) + 1, ⟨n, c, x, 1, r, l, rfl, x0.trans x1, hr1, pm, xL, way, by omega⟩, ?_⟩
    rintro m σ' J ⟨st, pl, c', o, l, rfl, xJ, ho, pm, plL, wS, em⟩
    refine ⟨_, rfl, o, _, rfl, .inl (SqL.of ho), _, _, rfl, rfl, _, rfl, ?_⟩
    cases wS with
    | stop e =>
      rw [e] at pm
      have := pm.eq_nil
      subst this
      refine iteF ?_
      have ec : c' = (n : Int) := by omega
      subst ec
      exact ⟨_, rfl, k J xJ⟩
    | step e w' =>
      rename_i y m'
      rw [e] at pm
      have := List.perm_singleton.mp pm
      subst this
      refine iteT ?_
      have yL : y ∈ L := cl pl plL y (by
        have : y ∈ onward Ars st pl := by rw [e]; exact List.mem_cons_self
        exact (List.mem_filter.mp this).1)
      refine ⟨fun σ' J' => ∃ m2, m2 < m' + 1 ∧ ∃ (st pl : Nat) (c' : Int) (o : Addr) (l : List Nat), σ' = [some (.ref d), some (nv c), some (nv x), some (nv st), some (nv pl), some (.int c'), some (.ref o), Option.none] ∧ Ext H J' ∧ J' o = some (.lst (l.map nv)) ∧ l.Perm (onward Ars st pl) ∧ pl ∈ L ∧ WayS Ars st pl m2 ∧ c' + (m2 : Int) = (n : Int) + 1, fun _ _ z => z, ?_⟩
      refine ⟨_, rfl, _, rfl, o, _, _, nv y, rfl, rfl, SqL.of ho, rfl, _, rfl, _, _, rfl, rfl, by show 3 ≤ sizeLine; decide, fun t2 nt2 => ⟨t2, _, rfl, SqT.of upd_same, rfl, _, _, rfl, _, _, rfl, _, _, rfl, rfl, ?_⟩⟩
      have x2 : Ext J (upd J t2 (.tup [nv pl, nv y, .int (c' + 1)])) := Ext.upd nt2
      dsimp only [tSeq, tAsg, tC, gName]
      refine comp _ pl y _ _ _ (xJ.trans x2) yL fun r2 l2 J2 x3 hr2 pm2 => ?_
      exact ⟨m', Nat.lt_succ_self _, pl, y, c' + 1, r2, l2, rfl, xJ.trans (x2.trans x3), hr2, pm2, yL, w', by omega⟩
end
end R23

set_option Elab.async false
set_option linter.all false
set_option maxRecDepth 100000
set_option maxHeartbeats 4000000
set_option pp.maxSteps 100
/-! _law_kind. -/
namespace R23
open PySem L2 K9M M21
abbrev sKind : Stmt := top 40
def spKind : Sp := fun vs H Q _ => ∃ (lt b : Addr) (A : Ar) (L : List Nat) (k : Option (Nat × Nat)), vs = [.ref lt, .ref b] ∧ H lt = some (.lst (L.map nv)) ∧ TT H b (A.map arL) ∧ A.length ≤ 12 ∧ L.Nodup ∧ L.length ≤ 8 ∧ Shut A L ∧ KindR A L k ∧ ∀ x H', Ext H H' → KV H' x k → Q x H'
theorem inner_outs {A : Ar} {L : List Nat} {p : Nat} (hp : p ∈ L) : outs (inner A L) p = outs A p := by
  unfold outs inner
  rw [List.filter_filter]
  congr 1
  refine List.filter_congr fun a _ => ?_
  by_cases e : a.1 = p
  · simp [e, hp]
  · simp [e]
theorem inner_ins {A : Ar} {L : List Nat} {p : Nat} (sh : Shut A L) (hp : p ∈ L) : ins (inner A L) p = ins A p := by
  unfold ins inner
  rw [List.filter_filter]
  congr 1
  refine List.filter_congr fun a ha => ?_
  by_cases e : a.2 = p
  · have : a.1 ∈ L := (sh a ha).mpr (by rw [e]; exact hp)
    simp [e, this]
  · simp [e]
theorem inner_snoc {A : Ar} {L : List Nat} {i : Nat} {a : Nat × Nat} (h : A[i]? = some a) : inner (A.take (i + 1)) L = inner (A.take i) L ++ (if a.1 ∈ L then [a] else []) := by
  unfold inner
  rw [List.take_succ, h, List.filter_append]
  congr 1
  by_cases e : a.1 ∈ L <;> simp [e]
theorem shut_ends {A : Ar} {L : List Nat} (sh : Shut A L) : ∀ p ∈ L, ∀ q ∈ ends A p, q ∈ L := fun p hp q hq => by
  rcases mem_ends.mp hq with z | z
  · exact (sh _ z).mp hp
  · exact (sh _ z).mpr hp
theorem eqv_two (u v i j : Int) : PyData.eqv (.list [.int u, .int v]) (.list [.int i, .int j]) = decide (u = i ∧ v = j) := by
  simp [PyData.eqv, PyData.eqvAll, Bool.decide_and]
  rfl
section
variable {P : Program} {w : World} {K : PySem.W.Frag} {mg : Str → Option Value} {base : Heap}
abbrev kindN : List Str := ["lot", "arrows", "some", "many", "arrow", "near", "place", "a", "b", "centers", "ways", "first"]
theorem scKind : FnScope kindN ["lot", "arrows"] (defScope sKind) := ⟨rfl, rfl, rfl, by decide +kernel, rfl, by decide +kernel, by decide +kernel⟩
theorem ok_kind {f : Addr} {fd : FuncData} (F : L2.Fun K "_law_kind" "_law_kind" sKind f fd) (T : Gb mg) (any' : mg "any" = none) (cY : Cal P w K mg base 1 "_law_way" spWay []) : FnOk P w K mg base CX0 2 f fd ["lot", "arrows"] spKind := by
  refine F.ok scKind (fun vs H Q E h => ?_) (fun cdv A outer s H vs Q E hr h => ?_)
  · obtain ⟨lt, b, A, L, kd, rfl, _⟩ := h
    rfl
  · obtain ⟨lt, b, Ars, L, kd, rfl, hl, ⟨as, hb, pt⟩, hL, nd, l8, sh, kr, k⟩ := h
    have hu1 := hu_of hr
    have hlen : (as.map V.ref).length = Ars.length := by rw [List.length_map, PT2.len pt, List.length_map]
    refine ⟨_, C8.pss_cut (ps_par (i := 2) (j := 3) rfl scKind.nd rfl rfl (by decide) rfl rfl (pa_cons (pe_lc (own := [("arrow", 4)]) (g := gName 4) rfl scKind.nd (pi_tup (pv 1)) (blkOk_by (N := kindN) (sc := defScope sKind) (by decide +kernel)) (fun _ _ _ _ _ => (pg_name (i := 4) scKind.nd rfl (Or.inl rfl))) (fun _ _ _ _ _ => (pts_one (pt_cmpR (r := rIn K false) op_in_seq (pe_ix (r := rIxT K) ix_tup (pv 4) pe_int (fun _ _ => rfl)) (pv 0) (by rfl)))) (fun _ _ _ _ _ => (pv 4))) (pa_cons (pe_callB call_len_seq (by rfl) T.len PySem.boot_len (pa_cons (pv 0) pa_nil)) pa_nil)) (by rfl))
      (pss_cons (ps_if (pt_cmpR op_ne (pe_callB call_len_seq (by rfl) T.len PySem.boot_len (pa_cons (pv 2) pa_nil)) (pe_op op_sub (pv 3) pe_int) (nomark _)) (pss_one (ps_ret pe_non)) pss_nil)
      (pss_cons (ps_set (i := 5) scKind.nd rfl (Or.inr rfl) pe_dnewK)
      (C8.pss_cut (ps_for PassesOwn.never rfl (pi_list (pv 0)) (pg_name (i := 6) scKind.nd rfl (Or.inr rfl))
      (pss_one (ps_dput hu1 (pv 5) (pv 6) (pe_op op_cat (pe_lc (own := [("a", 7), ("b", 8)]) (g := gTup K 2 (gCons (gName 7) (gCons (gName 8) gNil))) rfl scKind.nd (pi_list (pv 2)) (blkOk_by (N := kindN) (sc := defScope sKind) (by decide +kernel)) (fun _ _ _ _ _ => (pg_tup rfl (pgs_cons (pg_name (i := 7) scKind.nd rfl (Or.inl rfl)) (pgs_cons (pg_name (i := 8) scKind.nd rfl (Or.inl rfl)) pgs_nil)))) (fun _ _ _ _ _ => (pts_one (pt_cmpR op_eq (pv 7) (pv 6) (nomark _)))) (fun _ _ _ _ _ => (pv 8))) (pe_lc (own := [("a", 7), ("b", 8)]) (g := gTup K 2 (gCons (gName 7) (gCons (gName 8) gNil))) rfl scKind.nd (pi_list (pv 2)) (blkOk_by (N := kindN) (sc := defScope sKind) (by decide +kernel)) (fun _ _ _ _ _ => (pg_tup rfl (pgs_cons (pg_name (i := 7) scKind.nd rfl (Or.inl rfl)) (pgs_cons (pg_name (i := 8) scKind.nd rfl (Or.inl rfl)) pgs_nil)))) (fun _ _ _ _ _ => (pts_one (pt_cmpR op_eq (pv 8) (pv 6) (nomark _)))) (fun _ _ _ _ _ => (pv 7)))) rfl)))
      (C8.pss_cut (ps_set (i := 9) scKind.nd rfl (Or.inr rfl) (pe_lc (own := [("place", 6)]) (g := gName 6) rfl scKind.nd (pi_list (pv 0)) (blkOk_by (N := kindN) (sc := defScope sKind) (by decide +kernel)) (fun _ _ _ _ _ => (pg_name (i := 6) scKind.nd rfl (Or.inl rfl))) (fun _ _ _ _ _ => (pts_one (pt_cmpR op_eq (pe_callB (r := rLenS K) call_lenS (by rfl) T.len PySem.boot_len (pa_cons (pe_dget hu1 (pv 5) (pv 6) (fun _ _ => rfl)) pa_nil)) pe_int (nomark _)))) (fun _ _ _ _ _ => (pv 6))))
      (pss_cons (ps_if (PW.pt (pw_or (pt_cmpR op_gt (pe_callB call_len_seq (by rfl) T.len PySem.boot_len (pa_cons (pv 9) pa_nil)) pe_int (nomark _)) (pw_or1 (pt_val (pe_callB (cr_any rfl) (by rfl) any' (by decide +kernel) (pa_cons (pe_lc (own := [("place", 6)]) (g := gName 6) (tt := tYes) rfl scKind.nd (pi_list (pv 0)) (blkOk_by (N := kindN) (sc := defScope sKind) (by decide +kernel)) (fun _ _ _ _ _ => (pg_name (i := 6) scKind.nd rfl (Or.inl rfl))) (fun _ _ _ _ _ => pts_nil) (fun _ _ _ _ _ => (pe_cmpR op_gt (pe_callB (r := rLenS K) call_lenS (by rfl) T.len PySem.boot_len (pa_cons (pe_dget hu1 (pv 5) (pv 6) (fun _ _ => rfl)) pa_nil)) pe_int (nomark _)))) pa_nil)))))) (pss_one (ps_ret pe_non)) pss_nil)
      (pss_cons (ps_if (pt_cmpR op_eq (pe_callB call_len_seq (by rfl) T.len PySem.boot_len (pa_cons (pv 9) pa_nil)) pe_int (nomark _)) (pss_one (ps_ret (pe_tup (pa_cons pe_str (pa_cons (pv 3) pa_nil))))) pss_nil)
      (pss_cons (ps_set (i := 10) scKind.nd rfl (Or.inl rfl) (pe_callB cr_sortedI (by rfl) T.sorted (by decide +kernel) (pa_cons (pe_lc (own := [("first", 11)]) (g := gName 11) (tt := tYes) rfl scKind.nd (pi_list (pe_dget hu1 (pv 5) (pe_ix ix_list (pv 9) pe_int (fun _ _ => rfl)) (fun _ _ => rfl))) (blkOk_by (N := kindN) (sc := defScope sKind) (by decide +kernel)) (fun _ _ _ _ _ => (pg_name (i := 11) scKind.nd rfl (Or.inl rfl))) (fun _ _ _ _ _ => pts_nil) (fun _ _ _ _ _ => (C8.pe_c cY hr (by decide) (by rfl) (pa_cons (pv 5) (pa_cons (pe_ix (r := rIxL K) ix_list (pv 9) pe_int (fun _ _ => rfl)) (pa_cons (pv 11) pa_nil)))))) pa_nil)))
      (pss_cons (ps_if (pt_cmpR (op_eqD hr.units) (pe_slice sl_list (pv 10) po_none (po_some pe_int)) (pe_lst (pa_cons pe_int (pa_cons pe_int pa_nil))) (nomark _)) (pss_one (ps_ret (pe_tup (pa_cons pe_str (pa_cons (pv 3) pa_nil))))) pss_nil)
      (pss_one (ps_ret (pe_ifExp (PW.pt (pw_and (pt_cmpR (op_eqD hr.units) (pe_slice sl_list (pv 10) po_none (po_some pe_int)) (pe_lst (pa_cons pe_int (pa_cons pe_int pa_nil))) (nomark _)) (pw_and1 (pt_cmpR op_lt (pe_ix ix_list (pv 10) pe_int (fun _ _ => rfl)) pe_int (nomark _))))) (pe_tup (pa_cons pe_str (pa_cons (pv 3) pa_nil))) pe_non))))))))))), ?_⟩
    refine ⟨fun σ' J => ∃ o : Addr, σ' = [some (.ref lt), some (.ref b), some (.ref o), some (nv L.length), Option.none, Option.none, Option.none, Option.none, Option.none, Option.none, Option.none, Option.none] ∧ Ext H J ∧ ∃ cs : List Addr, J o = some (.lst (cs.map V.ref)) ∧ PT2 J cs ((inner Ars L).map arL), ?_, ?_⟩
    · refine ⟨_, rfl, b, rfl, ⟨_, SqT.of hb⟩, fun D nD => lc_tup (K := K) (a := b) (xs := as.map V.ref) (fun i J => Ext H J ∧ ∃ cs : List Addr, J D = some (.lst (cs.map V.ref)) ∧ PT2 J cs ((inner (Ars.take i) L).map arL)) ⟨Ext.upd nD, [], upd_same, .nil⟩ (fun i J _ z => SqT.of (z.1 _ _ hb)) ?_ ?_⟩
      · rintro i y J hy ⟨xJ, cs, hD, pc⟩
        obtain ⟨c, ar, rfl, ha, hc⟩ := TT.arrow pt hy
        have il : i < Ars.length := (List.getElem?_eq_some_iff.mp ha).1
        have lc : cs.length ≤ 12 := by
          rw [PT2.len pc, List.length_map]
          unfold inner
          exact Nat.le_trans (List.length_filter_le _ _) (by rw [List.length_take]; omega)
        refine ⟨rfl, _, rfl, c, _, _, nv ar.1, rfl, rfl, SqT.of (xJ _ _ hc), rfl, _, rfl, lt, _, rfl, .inl (SqL.of (xJ _ _ hl)), rfl, flat_nv _, _, rfl, ?_⟩
        rw [show (if false = true then !inV (nv ar.1) (L.map nv) else inV (nv ar.1) (L.map nv)) = decide (ar.1 ∈ L) from inV_nv _ _]
        refine ite2 (fun z => ?_) (fun z => ?_)
        · refine ⟨_, rfl, _, hD, by rw [List.length_map]; exact small1000 (by omega), fun e o he => ?_, cs ++ [c], by rw [upd_same, List.map_append]; rfl, ?_⟩
          · rw [upd_ne (ne_of_none he nD)]
            exact xJ _ _ he
          · rw [inner_snoc ha, if_pos (of_decide_eq_true z), List.map_append]
            exact (PT2.snoc (l := arL ar) pc (xJ _ _ hc)).mono fun b xs w => by rw [upd_ne (lst_ne hD w)]; exact w
        · refine ⟨xJ, cs, hD, ?_⟩
          rw [inner_snoc ha, if_neg (fun y => z (decide_eq_true y)), List.append_nil]
          exact pc
      · rintro J ⟨xJ, cs, hD, pc⟩
        rw [hlen, List.take_of_length_le (Nat.le_refl _)] at pc
        refine ⟨_, rfl, lt, _, rfl, .inl (SqL.of (xJ _ _ hl)), _, _, rfl, D, ?_, xJ, cs, hD, pc⟩
        rw [List.length_map]
        rfl
    rintro σ' J ⟨o, rfl, xJ, cs, ho, pc⟩
    have lcs : cs.length = (inner Ars L).length := by rw [PT2.len pc, List.length_map]
    have sd := sum_degrees nd sh
    refine ⟨_, rfl, o, _, rfl, .inl (SqL.of ho), _, rfl, _, _, rfl, rfl, rfl, _, rfl, ?_⟩
    rw [List.length_map, lcs]
    have eds : (!decide (V.int ((inner Ars L).length : Int) = V.int ((L.length : Int) - 1))) = !decide (degs Ars L + 2 = 2 * L.length) := by
      congr 1
      unfold degs
      by_cases e : (L.map fun p => (ends Ars p).length).sum + 2 = 2 * L.length
      · rw [decide_eq_true e]
        refine decide_eq_true ?_
        congr 1
        omega
      · rw [decide_eq_false e]
        refine decide_eq_false fun z => e ?_
        injection z with z
        omega
    rw [eds]
    have fin : ∀ (J : Hp), Ext H J → kd = none → Q .non J := fun J xJ e => k _ J xJ (by rw [e]; exact rfl)
    by_cases e : degs Ars L + 2 = 2 * L.length
    rotate_left
    · rw [decide_eq_false e]
      refine iteT ?_
      cases kr with
      | ring _ => exact fin _ xJ rfl
      | line h _ => exact absurd h e
      | many h _ _ => exact absurd h e
      | star _ _ _ h _ _ _ _ _ => exact absurd h e
    rw [decide_eq_true e]
    refine iteF ?_
    intro d n0
    have x0 : Ext J (upd J d (.dK [])) := Ext.upd n0
    have hd0 := upd_same (H := J) (a := d) (o := .dK [])
    refine ⟨fun σ' J1 => ∃ v6 : Option V, σ' = [some (.ref lt), some (.ref b), some (.ref o), some (nv L.length), Option.none, some (.ref d), v6, Option.none, Option.none, Option.none, Option.none, Option.none] ∧ Ext J J1 ∧ NearD J1 d Ars L, ?_, ?_⟩
    · refine ⟨_, rfl, lt, rfl, ⟨_, SqL.of (x0 _ _ (xJ _ _ hl))⟩, for_list (K := K) (a := lt) (xs := L.map nv) (fun i σ' J1 => (∃ v6 : Option V, σ' = [some (.ref lt), some (.ref b), some (.ref o), some (nv L.length), Option.none, some (.ref d), v6, Option.none, Option.none, Option.none, Option.none, Option.none]) ∧ Ext J J1 ∧ ∃ kvs, J1 d = some (.dK kvs) ∧ kvs.length ≤ i ∧ ∀ p ∈ L.take i, ∃ (o : Addr) (l : List Nat), valV kvs (Sum.inl (p : Int)) = some (.ref o) ∧ J1 o = some (.lst (l.map nv)) ∧ l.Perm (ends Ars p))
        ⟨⟨_, rfl⟩, x0, [], hd0, Nat.le_refl _, fun p hp => by rw [List.take_zero] at hp; cases hp⟩ (fun i σ' J1 _ h => SqL.of (h.2.1 _ _ (xJ _ _ hl))) ?_ ?_⟩
      · rintro i y σ' J1 hy ⟨⟨v6, rfl⟩, x1, kvs, hd, lk, all⟩
        obtain ⟨p, hp, rfl⟩ := nv_get hy
        have pL := List.mem_of_getElem? hp
        have il : i < L.length := (List.getElem?_eq_some_iff.mp hp).1
        have pc1 := pc.mono (S' := J1) fun b xs z => x1 _ _ z
        have ho1 := x1 _ _ ho
        have lin : (inner Ars L).length ≤ 12 := by unfold inner; exact Nat.le_trans (List.length_filter_le _ _) hL
        refine ⟨_, rfl, o, rfl, ⟨_, SqL.of ho1⟩, fun D1 n1 => lc_list (K := K) (a := o) (xs := cs.map V.ref) (fun u J3 => J3 = upd J1 D1 (.lst ((outs ((inner Ars L).take u) p).map nv))) (by simp [outs]) (fun u J3 _ e => by rw [e]; exact SqL.of (Ext.upd n1 _ _ ho1)) ?_ ?_⟩
        · rintro u y J3 hy rfl
          obtain ⟨c, ar, rfl, ha, hc⟩ := TT.arrow pc1 hy
          have x3 : Ext J1 (upd J1 D1 (.lst ((outs ((inner Ars L).take u) p).map nv))) := Ext.upd n1
          have ol := outs_len ((inner Ars L).take u) p
          rw [List.length_take] at ol
          refine ⟨c, _, rfl, SqT.of (x3 _ _ hc), rfl, _, _, rfl, _, _, rfl, rfl, rfl, ?_⟩
          refine ⟨_, rfl, _, rfl, rfl, _, rfl, ?_⟩
          rw [nv_eq]
          refine ite2 (fun z => ?_) (fun z => ?_)
          · refine ⟨_, rfl, _, upd_same, by rw [List.length_map]; exact small1000 (by omega), ?_⟩
            rw [upd_upd, outs_snoc ha, if_pos (of_decide_eq_true z), List.map_append]
            rfl
          · show upd J1 D1 _ = upd J1 D1 _
            rw [outs_snoc ha, if_neg (fun y => z (decide_eq_true y)), List.append_nil]
        rintro J3 rfl
        rw [List.length_map, lcs, List.take_of_length_le (Nat.le_refl _)]
        have x3 : Ext J1 (upd J1 D1 (.lst ((outs (inner Ars L) p).map nv))) := Ext.upd n1
        have h1 := upd_same (H := J1) (a := D1) (o := .lst ((outs (inner Ars L) p).map nv))
        generalize upd J1 D1 (.lst ((outs (inner Ars L) p).map nv)) = J3 at *
        have ho3 := x3 _ _ ho1
        have pc3 := pc1.mono (S' := J3) fun b xs z => x3 _ _ z
        refine ⟨_, rfl, o, rfl, ⟨_, SqL.of ho3⟩, fun D2 n2 => lc_list (K := K) (a := o) (xs := cs.map V.ref) (fun u J4 => J4 = upd J3 D2 (.lst ((ins ((inner Ars L).take u) p).map nv))) (by simp [ins]) (fun u J4 _ e => by rw [e]; exact SqL.of (Ext.upd n2 _ _ ho3)) ?_ ?_⟩
        · rintro u y J4 hy rfl
          obtain ⟨c, ar, rfl, ha, hc⟩ := TT.arrow pc3 hy
          have x4 : Ext J3 (upd J3 D2 (.lst ((ins ((inner Ars L).take u) p).map nv))) := Ext.upd n2
          have ol := ins_len ((inner Ars L).take u) p
          rw [List.length_take] at ol
          refine ⟨c, _, rfl, SqT.of (x4 _ _ hc), rfl, _, _, rfl, _, _, rfl, rfl, rfl, ?_⟩
          refine ⟨_, rfl, _, rfl, rfl, _, rfl, ?_⟩
          rw [nv_eq]
          refine ite2 (fun z => ?_) (fun z => ?_)
          · refine ⟨_, rfl, _, upd_same, by rw [List.length_map]; exact small1000 (by omega), ?_⟩
            rw [upd_upd, ins_snoc ha, if_pos (of_decide_eq_true z), List.map_append]
            rfl
          · show upd J3 D2 _ = upd J3 D2 _
            rw [ins_snoc ha, if_neg (fun y => z (decide_eq_true y)), List.append_nil]
        rintro J4 rfl
        rw [List.length_map, lcs, List.take_of_length_le (Nat.le_refl _), inner_ins sh pL]
        rw [inner_outs pL] at h1
        have x4 : Ext J3 (upd J3 D2 (.lst ((ins Ars p).map nv))) := Ext.upd n2
        have l1 := outs_len Ars p
        have l2 := ins_len Ars p
        refine ⟨D1, D2, _, _, rfl, rfl, x4 _ _ h1, upd_same, by rw [List.length_map, List.length_map, sizeLine_eq]; omega, fun nr n3 => ?_⟩
        have x5 := Ext.upd (o := .lst ((outs Ars p).map nv ++ (ins Ars p).map nv)) n3
        have x15 := x3.trans (x4.trans x5)
        have hnr := upd_same (H := upd J3 D2 (.lst ((ins Ars p).map nv))) (a := nr) (o := .lst ((outs Ars p).map nv ++ (ins Ars p).map nv))
        generalize upd (upd J3 D2 (.lst ((ins Ars p).map nv))) nr (.lst ((outs Ars p).map nv ++ (ins Ars p).map nv)) = J5 at *
        have hd5 := x15 _ _ hd
        have nrd : nr ≠ d := fun e => by rw [e, hd5] at hnr; cases hnr
        refine ⟨_, rfl, _, rfl, d, _, rfl, .inl ⟨kvs, Sum.inl (p : Int), hd5, rfl, small1000 (by omega), rfl⟩, ⟨_, rfl⟩, fun c u hc => ?_, _, upd_same, ?_, fun q hq => ?_⟩
        · rw [upd_ne (ne_of_none hc n0)]
          exact x15 _ _ (x1 _ _ hc)
        · have := DSub.putK_len kvs (Sum.inl (p : Int)) (.ref nr)
          omega
        · rw [valV_put]
          by_cases e : q = p
          · subst e
            refine ⟨nr, outs Ars q ++ ins Ars q, if_pos rfl, ?_, (ends_perm Ars q).symm⟩
            rw [upd_ne nrd, hnr, List.map_append]
          · rw [List.take_succ, hp] at hq
            have hq : q ∈ L.take i := by
              rcases List.mem_append.mp hq with z | z
              · exact z
              · exact absurd (List.mem_singleton.mp z) e
            obtain ⟨o', l, h3, h4, h5⟩ := all q hq
            refine ⟨o', l, ?_, ?_, h5⟩
            · rw [if_neg (by intro z; injection z with z; omega)]
              exact h3
            · rw [upd_ne (fun z => by rw [z, hd] at h4; cases h4)]
              exact x15 _ _ h4
      · rintro σ' J1 ⟨⟨v6, rfl⟩, x1, kvs, hd, lk, all⟩
        rw [List.length_map] at lk
        rw [List.length_map, List.take_of_length_le (Nat.le_refl _)] at all
        exact ⟨v6, rfl, x1, kvs, hd, lk, all⟩
    · rintro σ' J1 ⟨v6, rfl, x1, nrD⟩
      refine ⟨fun σ' J2 => ∃ c0 : Addr, σ' = [some (.ref lt), some (.ref b), some (.ref o), some (nv L.length), Option.none, some (.ref d), v6, Option.none, Option.none, some (.ref c0), Option.none, Option.none] ∧ Ext J1 J2 ∧ J2 c0 = some (.lst ((L.filter fun p => decide ((ends Ars p).length = 3)).map nv)), ?_, ?_⟩
      · have hl1 := x1 _ _ (xJ _ _ hl)
        refine ⟨_, rfl, lt, rfl, ⟨_, SqL.of hl1⟩, fun G nG => lc_list (K := K) (a := lt) (xs := L.map nv) (fun i J2 => J2 = upd J1 G (.lst (((L.take i).filter fun p => decide ((ends Ars p).length = 3)).map nv))) (by simp) (fun i J2 _ e => by rw [e]; exact SqL.of (Ext.upd nG _ _ hl1)) ?_ ?_⟩
        · rintro i y J2 hy rfl
          obtain ⟨q, hq, rfl⟩ := nv_get hy
          obtain ⟨o', l, g, h, pm⟩ := (nrD.ext (Ext.upd nG)).get (List.mem_of_getElem? hq)
          refine ⟨rfl, _, rfl, _, rfl, d, _, rfl, g, o', _, rfl, .inl (SqL.of h), rfl, _, rfl, ?_⟩
          rw [List.length_map, pm.length_eq]
          have fl : ((L.take i).filter fun p => decide ((ends Ars p).length = 3)).length ≤ 8 := Nat.le_trans (List.length_filter_le _ _) (by rw [List.length_take]; omega)
          have sn : ((L.take (i + 1)).filter fun p => decide ((ends Ars p).length = 3)) = ((L.take i).filter fun p => decide ((ends Ars p).length = 3)) ++ (if (ends Ars q).length = 3 then [q] else []) := by
            rw [List.take_succ, hq, List.filter_append]
            congr 1
            by_cases z : (ends Ars q).length = 3 <;> simp [z]
          have d3 : decide (V.int ((ends Ars q).length : Int) = V.int 3) = decide ((ends Ars q).length = 3) := nv_eq (j := 3)
          rw [d3]
          refine ite2 (fun z => ?_) (fun z => ?_)
          · refine ⟨_, rfl, _, upd_same, by rw [List.length_map]; exact small1000 (by omega), ?_⟩
            rw [upd_upd, sn, if_pos (of_decide_eq_true z), List.map_append]
            rfl
          · show upd J1 G _ = upd J1 G _
            rw [sn, if_neg (fun y => z (decide_eq_true y)), List.append_nil]
        · rintro J2 rfl
          rw [List.length_map, List.take_of_length_le (Nat.le_refl _)]
          exact ⟨G, rfl, Ext.upd nG, upd_same⟩
      · rintro σ' J2 ⟨c0, rfl, x2, hc0⟩
        have x12 := x1.trans x2
        have xA := xJ.trans x12
        have nrD2 := nrD.ext x2
        have hl2 := xA _ _ hl
        -- whether some place has more than three
        have anyC : ∀ (Q' : VK), (∀ J3, Ext J2 J3 → Q' (.bl (L.any fun p => decide (3 < (ends Ars p).length))) J3) →
            tCB (rAny K) (tCons (tLc (iList K (tVar 0)) (gName 6) tYes (tOp (rI0 fun i j => V.bl (decide (j < i))) (tCB (rLenS K) (tCons (tDGet (tVar 5) (tVar 6)) tNil)) (tC (V.int 3))) (List.map (fun x => x.snd) [(Str.ofString "place", 6)])) tNil)
              [some (.ref lt), some (.ref b), some (.ref o), some (nv L.length), Option.none, some (.ref d), v6, Option.none, Option.none, some (.ref c0), Option.none, Option.none] J2 Q' := by
          intro Q' kQ
          refine ⟨_, rfl, lt, rfl, ⟨_, SqL.of hl2⟩, fun G nG => lc_list (K := K) (a := lt) (xs := L.map nv) (fun i J3 => J3 = upd J2 G (.lst (((L.take i).map fun p => decide (3 < (ends Ars p).length)).map V.bl))) (by simp) (fun i J3 _ e => by rw [e]; exact SqL.of (Ext.upd nG _ _ hl2)) ?_ ?_⟩
          · rintro i y J3 hy rfl
            obtain ⟨q, hq, rfl⟩ := nv_get hy
            obtain ⟨o', l, g, h, pm⟩ := (nrD2.ext (Ext.upd nG)).get (List.mem_of_getElem? hq)
            refine ⟨rfl, tyes_in ⟨_, rfl, _, rfl, d, _, rfl, g, o', _, rfl, .inl (SqL.of h), _, _, rfl, rfl, ?_⟩⟩
            rw [List.length_map, pm.length_eq]
            refine ⟨_, upd_same, by rw [List.length_map, List.length_map, List.length_take]; exact small1000 (by omega), ?_⟩
            have d3 : decide ((3 : Int) < ((ends Ars q).length : Int)) = decide (3 < (ends Ars q).length) := decide_eq_decide.mpr (by omega)
            rw [upd_upd, List.take_succ, hq, List.map_append, List.map_append]
            show upd J2 G (.lst (_ ++ [V.bl (decide ((3 : Int) < ((ends Ars q).length : Int)))])) = _
            rw [d3]
            rfl
          · rintro J3 rfl
            rw [List.length_map, List.take_of_length_le (Nat.le_refl _)]
            refine ⟨G, _, rfl, SqL.of upd_same, ?_⟩
            have := kQ _ (Ext.upd (o := .lst ((L.map fun p => decide (3 < (ends Ars p).length)).map V.bl)) nG)
            rw [List.any_map]
            exact this
        refine ⟨_, rfl, c0, _, rfl, .inl (SqL.of hc0), _, _, rfl, rfl, _, rfl, ?_⟩
        rw [List.length_map]
        cases kr with
        | ring h => exact absurd e h
        | line h f0 =>
          have no2 : ∀ p ∈ L, ¬ 2 < (ends Ars p).length := fun p hp z => by
            have : p ∈ forks Ars L := List.mem_filter.mpr ⟨hp, decide_eq_true z⟩
            rw [f0] at this
            cases this
          have c00 : (L.filter fun p => decide ((ends Ars p).length = 3)) = [] := List.filter_eq_nil_iff.mpr fun p hp z => no2 p hp (by have := of_decide_eq_true z; omega)
          rw [c00] at hc0 ⊢
          refine iteF ?_
          refine anyC _ fun J3 x3 => ⟨_, rfl, ?_⟩
          have a0 : (L.any fun p => decide (3 < (ends Ars p).length)) = false := List.any_eq_false.mpr fun p hp z => no2 p hp (by have := of_decide_eq_true z; omega)
          rw [a0]
          refine iteF ⟨_, rfl, c0, _, rfl, .inl (SqL.of (x3 _ _ hc0)), rfl, _, rfl, ?_⟩
          refine iteT ⟨_, rfl, by show 2 ≤ sizeLine; decide, fun r nr => ?_⟩
          exact k _ _ (xA.trans (x3.trans (Ext.upd nr))) ⟨r, rfl, upd_same⟩
        | many h ne no =>
          refine ite2 (fun _ => iteT (fin _ xA rfl)) (fun z => ?_)
          refine anyC _ fun J3 x3 => ⟨_, rfl, ?_⟩
          have a0 : (L.any fun p => decide (3 < (ends Ars p).length)) = true := by
            refine Classical.byContradiction fun y => ?_
            have y' : ∀ p ∈ L, ¬ 3 < (ends Ars p).length := fun p hp q => y (List.any_eq_true.mpr ⟨p, hp, decide_eq_true q⟩)
            have ef : forks Ars L = L.filter fun p => decide ((ends Ars p).length = 3) := List.filter_congr fun p hp => decide_eq_decide.mpr (by have := y' p hp; omega)
            have l0 : (forks Ars L).length ≠ 0 := fun z => ne (List.length_eq_zero_iff.mp z)
            have l1 : ¬ (1 : Int) < ((L.filter fun p => decide ((ends Ars p).length = 3)).length : Int) := fun q => z (decide_eq_true q)
            rw [← ef] at l1
            obtain ⟨c, hc⟩ := List.length_eq_one_iff.mp (show (forks Ars L).length = 1 by omega)
            have hm : c ∈ L.filter fun p => decide ((ends Ars p).length = 3) := by rw [← ef, hc]; exact List.mem_cons_self
            exact no c hc (of_decide_eq_true (List.mem_filter.mp hm).2)
          rw [a0]
          exact iteT (fin _ (xA.trans x3) rfl)
        | star c ws S h fc c3 tw pS sS =>
          have hm : c ∈ forks Ars L := by rw [fc]; exact List.mem_cons_self
          have cL : c ∈ L := (List.mem_filter.mp hm).1
          have ef : (L.filter fun p => decide ((ends Ars p).length = 3)) = [c] := by
            rw [← fc]
            refine List.filter_congr fun p hp => decide_eq_decide.mpr ⟨fun z => by omega, fun z => ?_⟩
            have : p ∈ forks Ars L := List.mem_filter.mpr ⟨hp, decide_eq_true z⟩
            rw [fc] at this
            rw [List.mem_singleton.mp this]
            exact c3
          rw [ef] at hc0 ⊢
          refine iteF ?_
          refine anyC _ fun J3 x3 => ⟨_, rfl, ?_⟩
          have a0 : (L.any fun p => decide (3 < (ends Ars p).length)) = false := List.any_eq_false.mpr fun p hp z => by
            have z := of_decide_eq_true z
            have : p ∈ forks Ars L := List.mem_filter.mpr ⟨hp, decide_eq_true (by omega)⟩
            rw [fc] at this
            rw [List.mem_singleton.mp this] at z
            omega
          rw [a0]
          refine iteF ⟨_, rfl, c0, _, rfl, .inl (SqL.of (x3 _ _ hc0)), rfl, _, rfl, ?_⟩
          refine iteF ?_
          have hc3 := x3 _ _ hc0
          obtain ⟨o', l, g, h', pm⟩ := (nrD2.ext x3).get cL
          obtain ⟨ws', tw', pw⟩ := Two.perm pm.symm tw
          have ll : l.length = 3 := by rw [pm.length_eq, c3]
          refine ⟨_, rfl, _, rfl, c0, _, _, nv c, rfl, rfl, SqL.of hc3, rfl, d, _, rfl, g, o', rfl, ⟨_, SqL.of h'⟩, fun G nG => lc_list (K := K) (a := o') (xs := l.map nv) (fun i J' => Ext J3 J' ∧ J' G = some (.lst ((ws'.take i).map nv))) ⟨Ext.upd nG, upd_same⟩ (fun i J' _ z => SqL.of (z.1 _ _ h')) ?_ ?_⟩
          · rintro i y J' hy ⟨x5, hG⟩
            obtain ⟨q, hq, rfl⟩ := nv_get hy
            obtain ⟨n, hn, wn⟩ := tw'.get hq
            have qL : q ∈ L := shut_ends sh c cL q (pm.mem_iff.mp (List.mem_of_getElem? hq))
            refine ⟨rfl, tyes_in ?_⟩
            refine ⟨_, rfl, _, rfl, c0, _, _, nv c, rfl, rfl, SqL.of (x5 _ _ hc3), rfl, _, rfl, d, Ars, L, c, q, n, rfl, nrD2.ext (x3.trans x5), hL, shut_ends sh, qL, wn, fun J5 x6 => ?_⟩
            have lw : i < ws'.length := (List.getElem?_eq_some_iff.mp hn).1
            have := tw'.len
            refine ⟨_, x6 _ _ hG, by rw [List.length_map, List.length_take]; exact small1000 (by omega), fun b' o' hb' => ?_, ?_⟩
            · rw [upd_ne (ne_of_none hb' nG)]
              exact x6 _ _ (x5 _ _ hb')
            · rw [upd_same, List.take_succ, hn, List.map_append]
              rfl
          · rintro J' ⟨x5, hG⟩
            have lw : (l.map nv).length = ws'.length := by rw [List.length_map]; exact tw'.len
            rw [lw, List.take_of_length_le (Nat.le_refl _)] at hG
            refine ⟨G, ws'.map fun n : Nat => (n : Int), rfl, SqL.of (by rw [hG, map_nv]), fun ns g2 pn sn ng2 => ?_⟩
            have en := nat_sorted (pn.trans (pw.map _)) sn pS sS
            subst en
            have x6 : Ext J' (upd J' g2 (.lst ((S.map fun n : Nat => (n : Int)).map V.int))) := Ext.upd ng2
            have hg2 := upd_same (H := J') (a := g2) (o := .lst ((S.map fun n : Nat => (n : Int)).map V.int))
            have lS : S.length = 3 := by rw [pS.length_eq, ← tw.len, c3]
            generalize upd J' g2 (.lst ((S.map fun n : Nat => (n : Int)).map V.int)) = J6 at *
            match S, lS, hg2, fin, k with
            | [a1, a2, a3], _, hg2, fin, k =>
            have x16 := xA.trans (x3.trans (x5.trans x6))
            have kE : starK L.length [a1, a2, a3] = if a1 = 1 ∧ a2 = 1 then some (1, L.length) else if a1 = 1 ∧ a2 = 2 ∧ a3 ≤ 4 then some (2, L.length) else none := rfl
            rw [kE] at k fin
            refine ⟨_, rfl, 2, rfl, g2, _, rfl, SqL.of hg2, fun p1 np1 => ⟨by show 2 ≤ sizeLine; decide, fun p2 np2 => ?_⟩⟩
            have y1 := Ext.upd (o := .lst [nv a1, nv a2]) np1
            have y2 := Ext.upd (o := .lst [.int 1, .int 1]) np2
            refine ⟨.list [.int a1, .int a2], .list [.int 1, .int 1], .lst (SqL.of (y2 _ _ upd_same)) (.cons (.int _) (.cons (.int _) .nil)), .lst (SqL.of upd_same) (.cons (.int _) (.cons (.int _) .nil)), by rfl, by rfl, _, rfl, ?_⟩
            rw [eqv_two]
            have x18 := x16.trans (y1.trans y2)
            have hg8 := y2 _ _ (y1 _ _ hg2)
            generalize upd (upd J6 p1 (.lst [nv a1, nv a2])) p2 (.lst [.int 1, .int 1]) = J8 at *
            by_cases h1 : a1 = 1 ∧ a2 = 1
            · rw [decide_eq_true (show (a1 : Int) = 1 ∧ (a2 : Int) = 1 by omega)]
              refine iteT ⟨_, rfl, by show 2 ≤ sizeLine; decide, fun r nr => ?_⟩
              rw [if_pos h1] at k
              exact k _ _ (x18.trans (Ext.upd nr)) ⟨r, rfl, upd_same⟩
            · rw [decide_eq_false (show ¬ ((a1 : Int) = 1 ∧ (a2 : Int) = 1) by omega)]
              rw [if_neg h1] at k fin
              refine iteF ⟨_, rfl, 2, rfl, g2, _, rfl, SqL.of hg8, fun p3 np3 => ⟨by show 2 ≤ sizeLine; decide, fun p4 np4 => ?_⟩⟩
              have y3 := Ext.upd (o := .lst [nv a1, nv a2]) np3
              have y4 := Ext.upd (o := .lst [.int 1, .int 2]) np4
              refine ⟨.list [.int a1, .int a2], .list [.int 1, .int 2], .lst (SqL.of (y4 _ _ upd_same)) (.cons (.int _) (.cons (.int _) .nil)), .lst (SqL.of upd_same) (.cons (.int _) (.cons (.int _) .nil)), by rfl, by rfl, _, rfl, ?_⟩
              rw [eqv_two]
              have x20 := x18.trans (y3.trans y4)
              have hg10 := y4 _ _ (y3 _ _ hg8)
              generalize upd (upd J8 p3 (.lst [nv a1, nv a2])) p4 (.lst [.int 1, .int 2]) = J10 at *
              by_cases h2 : a1 = 1 ∧ a2 = 2
              · rw [decide_eq_true (show (a1 : Int) = 1 ∧ (a2 : Int) = 2 by omega)]
                refine iteT ⟨_, rfl, g2, _, _, nv a3, rfl, rfl, SqL.of hg10, rfl, _, _, rfl, rfl, _, rfl, ?_⟩
                by_cases h3 : a3 ≤ 4
                · rw [decide_eq_true (show (a3 : Int) < 5 by omega)]
                  refine iteT ⟨_, rfl, by show 2 ≤ sizeLine; decide, fun r nr => ?_⟩
                  rw [if_pos ⟨h2.1, h2.2, h3⟩] at k
                  exact k _ _ (x20.trans (Ext.upd nr)) ⟨r, rfl, upd_same⟩
                · rw [decide_eq_false (show ¬ (a3 : Int) < 5 by omega)]
                  refine iteF (fin _ x20 ?_)
                  rw [if_neg fun z => h3 z.2.2]
              · rw [decide_eq_false (show ¬ ((a1 : Int) = 1 ∧ (a2 : Int) = 2) by omega)]
                refine iteF (fin _ x20 ?_)
                rw [if_neg fun z => h2 ⟨z.1, z.2.1⟩]
end
end R23

set_option Elab.async false
set_option linter.all false
set_option maxRecDepth 100000
set_option maxHeartbeats 4000000
set_option pp.maxSteps 100
/-! Rows that are right: is_row, euler, form. -/
namespace R23
open PySem L2 K9M M21 M22
abbrev sRow : Stmt := top 18
abbrev sEul : Stmt := top 19
abbrev sForm : Stmt := top 20
def Small (r : Nat → Int) : Prop := ∀ p, -1000 ≤ r p ∧ r p ≤ 1000
def spRow (CW : Addr) : Sp := fun vs H Q _ => ∃ (p b t : Addr) (M : Nat) (r : Nat → Int), vs = [.ref p, .ref t] ∧ WebAt CW H p (M : Int) b ∧ M ≤ 8 ∧ H t = some (.tup (lab M r)) ∧ Small r ∧ ∀ H' : Hp, Ext H H' → Q (.bl true) H'
def sqs (r : Nat → Int) (M : Nat) : List Int := (List.range M).map fun p => r p * r p
def alongs (A : Ar) (r : Nat → Int) : List Int := A.map fun a => r a.1 * r a.2
def spEul (CW : Addr) : Sp := fun vs H Q _ => ∃ (p b t : Addr) (M : Nat) (A : Ar) (r : Nat → Int), vs = [.ref p, .ref t, .ref t] ∧ WebAt CW H p (M : Int) b ∧ M ≤ 8 ∧ TT H b (A.map arL) ∧ A.length ≤ 12 ∧ Inside M A ∧ H t = some (.tup (lab M r)) ∧ Small r ∧
  ∀ H' : Hp, Ext H H' → Q (.int ((sqs r M).sum - (alongs A r).sum)) H'
def spForm (CW : Addr) : Sp := fun vs H Q E => ∃ p t : Addr, vs = [.ref p, .ref t] ∧ spEul CW [.ref p, .ref t, .ref t] H Q E
structure FormC (mg : Str → Option Value) : Prop where
  mi : ∃ t, mg "MOST_ITEM" = some (.int 1000 t)
  sum : mg "sum" = none
  zip : mg "zip" = none
theorem lc_zipT {K : PySem.W.Frag} {a b : Addr} {xs ys : List V} {g : TG} {tt : L2.TT} {te : TE} {vs : List Nat} {τ : L2.St} {H1 : Hp} {D : Addr} {Qd : Hp → Prop} (len : xs.length = ys.length) (Pv : Nat → Hp → Prop) (h0 : Pv 0 (upd H1 D (.lst []))) (hq : ∀ i H, Pv i H → SqT K H a xs ∧ SqT K H b ys)
    (hs : ∀ i x y t H, xs[i]? = some x → ys[i]? = some y → Pv i H → H t = none → g (.ref t) (wipe τ vs) (upd H t (.tup [x, y])) fun σ2 H2 => wipe σ2 vs = wipe τ vs ∧ tt σ2 H2 fun c H3 =>
      if c = true then te σ2 H3 fun z H4 => ∃ acc, H4 D = some (.lst acc) ∧ acc.length < sizeLine ∧ Pv (i + 1) (upd H4 D (.lst (acc ++ [z]))) else Pv (i + 1) H3) (hd : ∀ H, Pv xs.length H → Qd H) :
    ∃ W : Nat → Nat → Hp → Prop, (∃ m, W 0 m (upd H1 D (.lst []))) ∧ ∀ i m H, W i m H →
      ((RZ.ItzT K a b).stop i H ∧ Qd H) ∨ ((RZ.ItzT K a b).go i H ∧ ∃ Nx : Hp → Prop, (∀ H', Nx H' → ∃ m', m' < m ∧ W (i + 1) m' H') ∧ ∀ x H', (RZ.ItzT K a b).yld i H x H' → g x (wipe τ vs) H' fun σ2 H2 => wipe σ2 vs = wipe τ vs ∧ tt σ2 H2 fun c H3 =>
        if c = true then te σ2 H3 fun z H4 => ∃ acc, H4 D = some (.lst acc) ∧ acc.length < sizeLine ∧ Nx (upd H4 D (.lst (acc ++ [z]))) else Nx H3) := by
  refine ⟨fun i m H => m + i = xs.length ∧ Pv i H, ⟨xs.length, rfl, h0⟩, ?_⟩
  rintro i m H ⟨em, p⟩
  obtain ⟨qa, qb⟩ := hq i H p
  cases m with
  | zero =>
    have e : i = xs.length := by omega
    subst e
    exact .inl ⟨⟨xs, ys, qa, qb, .inl (Nat.le_refl _)⟩, hd H p⟩
  | succ k =>
    have la : i < xs.length := by omega
    have lb : i < ys.length := by omega
    have ea : xs[i]? = some xs[i] := List.getElem?_eq_getElem la
    have eb : ys[i]? = some ys[i] := List.getElem?_eq_getElem lb
    refine .inr ⟨⟨xs, ys, _, _, qa, qb, ea, eb⟩, Pv (i + 1), fun H' p' => ⟨k, Nat.lt_succ_self k, by omega, p'⟩, fun v H' y => ?_⟩
    obtain ⟨t, x', y', rfl, nt, rfl, f1, f2⟩ := y
    exact hs i x' y' t H (f1 xs qa) (f2 ys qb) p nt
theorem lab_mem {M : Nat} {r : Nat → Int} {i : Nat} {y : V} (h : (lab M r)[i]? = some y) : i < M ∧ y = V.int (r i) := by
  have hi : i < M := by
    have := (List.getElem?_eq_some_iff.mp h).1
    rw [lab_len] at this
    exact this
  rw [lab_get hi] at h
  cases h
  exact ⟨hi, rfl⟩
section
variable {P : Program} {w : World} {K : PySem.W.Frag} {mg : Str → Option Value} {base : Heap}
theorem scRow : FnScope ["web", "thing", "item"] ["web", "thing"] (defScope sRow) := ⟨rfl, rfl, rfl, by decide +kernel, rfl, by decide +kernel, by decide +kernel⟩
theorem ok_row {f CW : Addr} {fd : FuncData} (F : L2.Fun K "is_row" "is_row" sRow f fd) (T : Gb mg) (W : WebC K mg CW) (M : FormC mg) (cI : Cal P w K mg base 1 "is_integer" (spInteger K) []) : FnOk P w K mg base CX0 2 f fd ["web", "thing"] (spRow CW) := by
  obtain ⟨t1, h1⟩ := M.mi
  refine F.ok scRow (fun vs H Q E h => ?_) (fun cdv A outer s H vs Q E hr h => ?_)
  · obtain ⟨p, b, t, M, r, rfl, _⟩ := h
    rfl
  · obtain ⟨p, b, a, M, r, rfl, ⟨dx, hp⟩, hm8, ha, sm, k⟩ := h
    refine ⟨_, pss_cons (ps_if (PW.pt (pw_or (pt_not (pt_val (pe_callB call_isi (by rfl) T.isi (by decide +kernel) (pa_cons (pv 1) (pa_cons (pe_bltn (v := .ty "tuple") (by rfl) T.tup (by decide +kernel) rfl) pa_nil)))))
        (pw_or1 (pt_cmpR op_ne (pe_callB call_len_seq (by rfl) T.len PySem.boot_len (pa_cons (pv 1) pa_nil)) (pe_fld (pv 0) rfl) (nomark _))))) (pss_one (ps_ret pe_bl)) pss_nil)
      (pss_one (ps_ret (pe_callB (cr_all rfl) (by rfl) T.all (by decide +kernel) (pa_cons (pe_lc (own := [("item", 2)]) (g := gName 2) (tt := tYes) rfl scRow.nd (pi_tup (pv 1)) (blkOk_by (N := ["web", "thing", "item"]) (sc := defScope sRow) (by decide +kernel)) (fun _ _ _ _ _ => pg_name (i := 2) scRow.nd rfl (Or.inl rfl)) (fun _ _ _ _ _ => pts_nil)
        (fun _ _ _ _ _ => pe_and (C8.pe_c cI hr (by decide) (by rfl) (pa_cons (pv 2) pa_nil)) (pe_one (pe_chain op_le op_le (pe_un un_neg (pe_glob (v := .int 1000) rfl h1 ⟨_, rfl⟩)) (pv 2) (pe_glob (v := .int 1000) rfl h1 ⟨_, rfl⟩))))) pa_nil)))), ?_⟩
    refine ⟨_, rfl, _, .ty "tuple", .type "tuple", .type "tuple", true, rfl, .ty _, .base (.tup ha), kit_ty (by decide +kernel), _, rfl, ?_⟩
    refine iteF ⟨_, rfl, a, _, rfl, .inr (SqT.of ha), _, rfl, p, CW, dx, _, _, rfl, hp, W.cl, W.nM, wf_many _ _, rfl, _, rfl, ?_⟩
    have hl' : (!decide (V.int ((lab M r).length : Int) = V.int (M : Int))) = false := by rw [lab_len]; simp
    rw [hl']
    refine iteF ?_
    refine ⟨_, rfl, a, rfl, ⟨_, SqT.of ha⟩, fun D hD => ?_⟩
    have hda : a ≠ D := ne_of_none ha hD
    refine lc_tup (K := K) (a := a) (xs := lab M r) (fun i H' => H' = upd H D (.lst ((List.replicate i true).map V.bl))) rfl (fun i H' _ e => by subst e; exact SqT.of (by rw [upd_ne hda]; exact ha)) ?_ ?_
    · rintro i y H' hi rfl
      obtain ⟨im, rfl⟩ := lab_mem hi
      obtain ⟨b1, b2⟩ := sm i
      refine ⟨rfl, tyes_in ⟨_, rfl, _, rfl, Th.int _, _, rfl, ?_⟩⟩
      refine iteT ⟨1000, rfl, _, rfl, _, _, rfl, rfl, _, rfl, ?_⟩
      rw [decide_eq_true b1]
      refine iteT ⟨_, _, rfl, rfl, ?_⟩
      dsimp only
      rw [decide_eq_true b2]
      refine ⟨_, upd_same, small1000 (by simp; omega), ?_⟩
      rw [upd_upd, List.replicate_succ', List.map_append]
      rfl
    · rintro H' rfl
      refine ⟨D, List.replicate (lab M r).length true, rfl, SqL.of upd_same, ?_⟩
      have e : (List.replicate (lab M r).length true).all id = true := by simp
      first
        | (rw [e]; exact k _ (Ext.upd hD))
        | (have := k _ (Ext.upd (o := .lst ((List.replicate (lab M r).length true).map V.bl)) hD); simpa using this)
abbrev eulN : List Str := ["web", "one", "other", "along", "begin", "end", "item", "more"]
theorem scEul : FnScope eulN ["web", "one", "other"] (defScope sEul) := ⟨rfl, rfl, rfl, by decide +kernel, rfl, by decide +kernel, by decide +kernel⟩
theorem ok_eul {f CW : Addr} {fd : FuncData} (F : L2.Fun K "euler" "euler" sEul f fd) (T : Gb mg) (W : WebC K mg CW) (M : FormC mg)
    (cR : Cal P w K mg base 2 "is_row" (spRow CW) []) : FnOk P w K mg base CX0 3 f fd ["web", "one", "other"] (spEul CW) := by
  refine F.ok scEul (fun vs H Q E h => ?_) (fun cdv A outer s H vs Q E hr h => ?_)
  · obtain ⟨p, b, t, M, A, r, rfl, _⟩ := h
    rfl
  · obtain ⟨p, b, c, M', Ars, r, rfl, hw, hm8, tt, hL, ins, hc, sm, k⟩ := h
    refine ⟨_, pss_cons (ps_if (PW.pt (pw_or (pt_not (pt_val (C8.pe_c cR hr (by decide) (by rfl) (pa_cons (pv 0) (pa_cons (pv 1) pa_nil))))) (pw_or1 (pt_not (pt_val (C8.pe_c cR hr (by decide) (by rfl) (pa_cons (pv 0) (pa_cons (pv 2) pa_nil)))))))) (pss_one ps_never) pss_nil)
      (pss_cons (ps_set (i := 3) scEul.nd rfl (Or.inl rfl) (pe_callB (cr_sum rfl) (by rfl) M.sum (by decide +kernel) (pa_cons (pe_lc (own := [("begin", 4), ("end", 5)]) (g := gTup K 2 (gCons (gName 4) (gCons (gName 5) gNil))) (tt := tYes) (te := tOp (rI CMul fun i j => .int (i * j)) (tOp (rIxT K) (tVar 1) (tVar 4)) (tOp (rIxT K) (tVar 2) (tVar 5))) rfl scEul.nd (pi_tup (pe_fld (pv 0) rfl)) (blkOk_by (N := eulN) (sc := defScope sEul) (by decide +kernel))
          (fun _ _ _ _ _ => pg_tup rfl (pgs_cons (pg_name (i := 4) scEul.nd rfl (Or.inl rfl)) (pgs_cons (pg_name (i := 5) scEul.nd rfl (Or.inl rfl)) pgs_nil))) (fun _ _ _ _ _ => pts_nil)
          (fun _ _ _ _ _ => pe_op op_mul (pe_ix ix_tup (pv 1) (pv 4) (fun _ _ => rfl)) (pe_ix ix_tup (pv 2) (pv 5) (fun _ _ => rfl)))) pa_nil)))
      (pss_one (ps_ret (pe_op op_sub (pe_callB (cr_sum rfl) (by rfl) M.sum (by decide +kernel) (pa_cons (pe_lc (own := [("item", 6), ("more", 7)]) (g := gTup K 2 (gCons (gName 6) (gCons (gName 7) gNil))) (tt := tYes) rfl scEul.nd (RZ.pi_zipA (by rfl) M.zip (pa_cons (pv 1) (pa_cons (pv 2) pa_nil))) (blkOk_by (N := eulN) (sc := defScope sEul) (by decide +kernel))
          (fun _ _ _ _ _ => pg_tup rfl (pgs_cons (pg_name (i := 6) scEul.nd rfl (Or.inl rfl)) (pgs_cons (pg_name (i := 7) scEul.nd rfl (Or.inl rfl)) pgs_nil))) (fun _ _ _ _ _ => pts_nil)
          (fun _ _ _ _ _ => pe_op op_mul (pv 6) (pv 7))) pa_nil)) (pv 3))))), ?_⟩
    refine ⟨_, rfl, _, rfl, p, b, c, M', r, rfl, hw, hm8, hc, sm, fun H1 e1 => ⟨_, rfl, ?_⟩⟩
    refine iteF ⟨_, rfl, _, rfl, p, b, c, M', r, rfl, hw.ext e1, hm8, e1 _ _ hc, sm, fun H2 e2 => ⟨_, rfl, iteF ?_⟩⟩
    have ex := e1.trans e2
    obtain ⟨dx, hp⟩ := hw.ext ex
    obtain ⟨as, hb, pt⟩ := tt.ext ex
    have hc2 := ex _ _ hc
    clear e1 e2
    refine ⟨_, rfl, p, CW, dx, _, _, rfl, hp, W.cl, W.nA, wf_arrows _ _, b, rfl, ⟨_, SqT.of hb⟩, fun D nD => ?_⟩
    refine lc_tup (K := K) (a := b) (xs := as.map V.ref) (fun i H'' => H'' = upd H2 D (.lst (((alongs Ars r).take i).map V.int))) (by simp) (fun i H'' _ e => by rw [e]; exact SqT.of (Ext.upd nD _ _ hb)) ?_ ?_
    · rintro i z H'' hz rfl
      obtain ⟨q, a, rfl, ha, hq⟩ := TT.arrow pt hz
      obtain ⟨ia, ib⟩ := ins a (List.mem_of_getElem? ha)
      have up : Ext H2 (upd H2 D (.lst (((alongs Ars r).take i).map V.int))) := Ext.upd nD
      refine ⟨q, _, rfl, SqT.of (up _ _ hq), rfl, _, _, rfl, _, _, rfl, rfl, rfl, tyes_in ?_⟩
      obtain ⟨l1, l2⟩ := sm a.1
      refine ⟨_, rfl, _, rfl, c, _, _, _, rfl, rfl, SqT.of (up _ _ hc2), lab_at ia rfl, _, rfl, _, rfl, c, _, _, _, rfl, rfl, SqT.of (up _ _ hc2), lab_at ib rfl, _, _, rfl, rfl, .inl ⟨by omega, by omega⟩, ?_⟩
      refine ⟨_, upd_same, small1000 (by unfold alongs; rw [List.length_map, List.length_take, List.length_map]; omega), ?_⟩
      rw [upd_upd]
      have ha' : (alongs Ars r)[i]? = some (r a.1 * r a.2) := by unfold alongs; rw [List.getElem?_map, ha]; rfl
      rw [List.take_succ, ha', List.map_append]
      rfl
    · rintro H'' rfl
      have len : (as.map V.ref).length = (alongs Ars r).length := by unfold alongs; rw [List.length_map, PT2.len pt, List.length_map, List.length_map]
      rw [len, List.take_of_length_le (Nat.le_refl _)]
      refine ⟨D, _, rfl, SqL.of upd_same, ?_⟩
      have e2 : Ext H2 (upd H2 D (.lst ((alongs Ars r).map V.int))) := Ext.upd nD
      have hc3 := e2 _ _ hc2
      have ex3 := ex.trans e2
      generalize upd H2 D (.lst ((alongs Ars r).map V.int)) = H3 at *
      refine ⟨_, rfl, _, rfl, c, c, _, _, rfl, .inr ⟨SqT.of hc3, SqT.of hc3, fun D2 nD2 => ?_⟩⟩
      refine lc_zipT (K := K) (a := c) (b := c) (xs := lab M' r) (ys := lab M' r) rfl (fun i H' => Ext H3 H' ∧ H' D2 = some (.lst ((sqs r i).map V.int))) ⟨Ext.upd nD2, upd_same⟩ (fun i H' q => ⟨SqT.of (q.1 _ _ hc3), SqT.of (q.1 _ _ hc3)⟩) ?_ ?_
      · rintro i u v t H' hu hv ⟨ex', hD2⟩ nt
        obtain ⟨im, rfl⟩ := lab_mem hu
        obtain ⟨_, rfl⟩ := lab_mem hv
        have bn := sm i
        refine ⟨t, _, rfl, SqT.of upd_same, rfl, _, _, rfl, _, _, rfl, rfl, rfl, tyes_in ?_⟩
        refine ⟨_, rfl, _, rfl, _, _, rfl, rfl, .inl ⟨by omega, by omega⟩, ?_⟩
        have hD3 := Ext.upd (o := .tup [.int (r i), .int (r i)]) nt _ _ hD2
        refine ⟨_, hD3, small1000 (by unfold sqs; rw [List.length_map, List.length_map, List.length_range]; omega), fun b' o eo => ?_, ?_⟩
        · rw [upd_ne (ne_of_none eo nD2)]
          exact Ext.upd nt _ _ (ex' _ _ eo)
        · unfold sqs
          rw [upd_same, List.range_succ, List.map_append, List.map_append]
          rfl
      · rintro H' ⟨ex', hD2⟩
        rw [lab_len] at hD2
        refine ⟨D2, _, rfl, SqL.of hD2, _, rfl, _, _, rfl, rfl, ?_⟩
        exact k H' (ex3.trans ex')
theorem scForm : FnScope ["web", "row"] ["web", "row"] (defScope sForm) := ⟨rfl, rfl, rfl, by decide +kernel, rfl, by decide +kernel, by decide +kernel⟩
theorem ok_form {f CW : Addr} {fd : FuncData} (F : L2.Fun K "form" "form" sForm f fd) (cE : Cal P w K mg base 3 "euler" (spEul CW) []) :
    FnOk P w K mg base CX0 4 f fd ["web", "row"] (spForm CW) := by
  refine F.ok scForm (fun vs H Q E h => ?_) (fun cdv A outer s H vs Q E hr h => ?_)
  · obtain ⟨p, t, rfl, _⟩ := h
    rfl
  · obtain ⟨p, t, rfl, p', b, t', M, A', r, ev, h1, h2, h3, h4, h5, h6, h7, k⟩ := h
    exact ⟨_, pss_one (ps_ret (C8.pe_c cE hr (by decide) (by rfl) (pa_cons (pv 0) (pa_cons (pv 1) (pa_cons (pv 1) pa_nil))))), _, rfl, _, rfl, _, rfl, p', b, t', M, A', r, ev, h1, h2, h3, h4, h5, h6, h7, k⟩
end
end R23

set_option Elab.async false
set_option linter.all false
set_option maxRecDepth 100000
set_option maxHeartbeats 4000000
set_option pp.maxSteps 100
/-! Tuples many times, put together, cut. -/
namespace R23
open PySem PySem.Spec PyProof.Rows L2
open AutoSeq1 (wpAny_loadPart')
theorem tuple_mul1 (l : Addr) (items : Array Value) (n : Nat) (dd : Option Addr) (sl : Array (Option Value)) (u : Tok) :
    Meets (Builtin.«tuple.__mul__» ⟨[.ref l, .int 1 u], []⟩) (fun _ R s => s.heap.get? l = some { cls := .type "tuple", dict := dd, data := .seq items n, slots := sl } ∧ R (.ok (.ret (Value.ref l))) s) :=
  .of_wp fun prog w A R s h => by
    obtain ⟨hp, g, d, tk, os⟩ := s
    obtain ⟨hl, h⟩ := h
    have f1 := AutoSeq1.idx_int
    have c1 : (items.isEmpty || (1 : Int) == 1) = true := by rw [beq_self_eq_true, Bool.or_true]
    wp_walk using wpAny_loadPart' hl
    repeat (first
      | (refine wpAny_ite_false (by decide) ?_; wp_walk using wpAny_loadPart' hl)
      | (refine wpAny_ite_true (decide_eq_true c1) ?_; wp_walk using wpAny_loadPart' hl))
    exact ⟨_, rfl, h⟩
theorem tuple_mul0 (l : Addr) (items : Array Value) (n : Nat) (dd : Option Addr) (sl : Array (Option Value)) (u : Tok) (hne : items.isEmpty = false) :
    Meets (Builtin.«tuple.__mul__» ⟨[.ref l, .int 0 u], []⟩) (fun _ R s => s.heap.get? l = some { cls := .type "tuple", dict := dd, data := .seq items n, slots := sl } ∧
      R (.ok (.ret (Value.ref s.heap.objs.size))) { s with heap := s.heap.push { cls := Value.type "tuple", data := Data.seq #[] }, toks := s.toks }) :=
  .of_wp fun prog w A R s h => by
    obtain ⟨hp, g, d, tk, os⟩ := s
    obtain ⟨hl, h⟩ := h
    have f1 := AutoSeq1.idx_int
    have c1 : (items.isEmpty || (0 : Int) == 1) = false := by rw [hne]; rfl
    have c2 : (decide ((0 : Int) ≤ 0) || items.isEmpty) = true := by rw [decide_eq_true (by decide)]; rfl
    wp_walk using wpAny_loadPart' hl
    repeat (first
      | (refine wpAny_ite_false (decide_eq_false (by rw [c1]; exact Bool.false_ne_true)) ?_; wp_walk using wpAny_loadPart' hl)
      | (refine wpAny_ite_true (decide_eq_true c2) ?_; wp_walk using wpAny_loadPart' hl)
      | (refine wpAny_ite_false (decide_eq_false (Nat.not_lt.mpr (Nat.zero_le _))) ?_; wp_walk using wpAny_loadPart' hl)
      | (refine wpAny_ite_false (by decide) ?_; wp_walk using wpAny_loadPart' hl))
    exact ⟨_, rfl, h⟩
/-- t * k, k not negative -/
def rRepA (K : PySem.W.Frag) : R2 := fun x y H Q => ∃ (l : Addr) (k : Int) (xs : List V), x = .ref l ∧ y = .int k ∧ H l = some (.tup xs) ∧ xs ≠ [] ∧ 0 ≤ k ∧ k ≤ 1000 ∧ xs.length ≤ 1000 ∧ ∀ (p : Addr) (H' : Hp), Ext H H' → H' p = some (.tup (List.replicate k.toNat xs).flatten) → Q (.ref p) H'
theorem op_repA {X : Cx} : OpR X (binaryOp .Mult) (rRepA X.K) := by
  intro pins s σ H x y v u Q I rx ry h
  obtain ⟨l, k, xs, rfl, rfl, hT, hne, k0, k1, hz, q⟩ := h
  by_cases two : 2 ≤ k
  · exact op_repT pins s σ H _ _ v u Q I rx ry ⟨l, k, xs, rfl, rfl, SqT.of hT, hne, two, k1, hz, fun p np => q p _ (Ext.upd np) upd_same⟩
  cases rx
  obtain ⟨t, rfl⟩ := ry
  obtain ⟨its, r, ⟨⟨cls, dd, data, sl⟩, ho, hc, n, hd⟩, hs⟩ := I.tuple (SqT.of hT)
  simp only at hc hd
  subst hc hd
  have hle : its.length = xs.length := r.length.symm
  have hi : its.toArray.isEmpty = false := by
    cases its with
    | nil => exact absurd (List.eq_nil_of_length_eq_zero hle.symm) hne
    | cons a b => rfl
  have k01 : k = 0 ∨ k = 1 := by omega
  rcases k01 with rfl | rfl
  · refine wpAny_binaryOp_repeat_ref (T := "tuple") (U := "int") (by decide) ⟨_, ho, rfl⟩ (fun s' => typeIs_int s' 0 t) noFill_tuple_mul F.fills_int_mul F.slot_int_rmul repeat_tuple F.slot_int_index.lookup
      (call_meets F.slot_int_rmul (typeIs_int s 0 t) F.entry_int_rmul (F.args_int_rmul_2 _ _) (int_rmul_tuple 0 t l its.toArray n dd sl)
        ⟨ho, rfl, ⟨_, ho, rfl⟩, call_meets F.slot_tuple_mul ⟨_, ho, rfl⟩ F.entry_tuple_mul (F.args_tuple_mul_2 _ _) (tuple_mul0 l its.toArray n dd sl t hi) ⟨ho, ?_⟩⟩)
    exact ⟨.ref s.heap.objs.size, _, I.laid (t' := s.toks) (o := .tup []) (fun b ob q => Heap.get?_push_of_some _ q) (Nat.le_refl _) ⟨Nat.zero_le _, [], .nil, ⟨_, Heap.get?_push_size _ rfl, rfl, _, rfl⟩⟩, rfl, q _ _ (Ext.upd (I.hok.fresh (Nat.le_refl _))) upd_same⟩
  · refine wpAny_binaryOp_repeat_ref (T := "tuple") (U := "int") (by decide) ⟨_, ho, rfl⟩ (fun s' => typeIs_int s' 1 t) noFill_tuple_mul F.fills_int_mul F.slot_int_rmul repeat_tuple F.slot_int_index.lookup
      (call_meets F.slot_int_rmul (typeIs_int s 1 t) F.entry_int_rmul (F.args_int_rmul_2 _ _) (int_rmul_tuple 1 t l its.toArray n dd sl)
        ⟨ho, rfl, ⟨_, ho, rfl⟩, call_meets F.slot_tuple_mul ⟨_, ho, rfl⟩ F.entry_tuple_mul (F.args_tuple_mul_2 _ _) (tuple_mul1 l its.toArray n dd sl t) ⟨ho, ?_⟩⟩)
    exact ⟨.ref l, H, I, rfl, q l H Ext.rfl' (by
      have e : (List.replicate (1 : Int).toNat xs).flatten = xs := by
        show (List.replicate 1 xs).flatten = xs
        rw [List.replicate_one, List.flatten_cons, List.flatten_nil, List.append_nil]
      rw [e]
      exact hT)⟩
/-- t + u -/
def rCatX : R2 := fun x y H Q => ∃ a b xs ys, x = .ref a ∧ y = .ref b ∧ H a = some (.tup xs) ∧ H b = some (.tup ys) ∧ xs.length + ys.length ≤ 1000 ∧ ∀ (p : Addr) (H' : Hp), Ext H H' → H' p = some (.tup (xs ++ ys)) → Q (.ref p) H'
theorem op_catX {X : Cx} : OpR X (binaryOp .Add) rCatX := by
  intro pins s σ H x y v u Q I rx ry h
  obtain ⟨a, b, xs, ys, rfl, rfl, ha, hb, hz, q⟩ := h
  refine op_catA pins s σ H _ _ v u Q I rx ry ⟨a, b, xs, ys, rfl, rfl, SqT.of ha, SqT.of hb, (by rw [sizeLine_eq]; omega), fun e => ?_, fun _ e => ?_, fun _ _ p np => ?_⟩
  · subst e
    exact q b H Ext.rfl' hb
  · subst e
    exact q a H Ext.rfl' (by rw [List.append_nil]; exact ha)
  · exact q p _ (Ext.upd np) upd_same
/-- t[lo:hi] -/
def rSlX' : V → Option Int → Option Int → Hp → VK → Prop := fun x lo hi H Q => ∃ a xs, x = .ref a ∧ H a = some (.tup xs) ∧ ∀ (p : Addr) (H' : Hp), Ext H H' → H' p = some (.tup (cutV xs lo hi)) → Q (.ref p) H'
theorem sl_tupX {X : Cx} : SlR X rSlX' := by
  intro pins s σ H x v vl vu lo hi sl Q I rx hs pl pu h
  obtain ⟨a, xs, rfl, hx, q⟩ := h
  refine sl_tupA pins s σ H _ v vl vu lo hi sl Q I rx hs pl pu ⟨a, xs, rfl, SqT.of hx, fun e => ?_, fun _ p np => ?_⟩
  · refine q a H Ext.rfl' ?_
    have : cutV xs lo hi = xs := by
      unfold cutV
      rw [e.1, e.2, List.drop_zero, Nat.sub_zero, List.take_of_length_le (Nat.le_refl _)]
    rw [this]
    exact hx
  · exact q p _ (Ext.upd np) upd_same
theorem cut_to (xs : List V) (k : Nat) : cutV xs none (some (k : Int)) = xs.take k := by
  unfold cutV
  rw [HT.sIx_nat, HT.sIx_none, List.drop_zero, Nat.sub_zero]
  by_cases h : k ≤ xs.length
  · rw [Nat.min_eq_left h]
  · rw [Nat.min_eq_right (by omega), List.take_of_length_le (Nat.le_refl _), List.take_of_length_le (by omega)]
theorem cut_from (xs : List V) (k : Nat) : cutV xs (some (k : Int)) none = xs.drop k := by
  unfold cutV
  rw [HT.sIx_nat, HT.sIx_none]
  by_cases h : k ≤ xs.length
  · rw [Nat.min_eq_left h, List.take_of_length_le (by rw [List.length_drop]; exact Nat.le_refl _)]
  · rw [Nat.min_eq_right (by omega), Nat.sub_self, List.take_zero, List.drop_eq_nil_of_le (by omega)]
end R23

set_option Elab.async false
set_option linter.all false
set_option maxRecDepth 100000
set_option maxHeartbeats 4000000
set_option pp.maxSteps 100
/-! unit_rows, surplus, raised. -/
namespace R23
open PySem L2 K9M M21 M22
abbrev sUnit : Stmt := top 9
abbrev sSur : Stmt := top 26
abbrev sRai : Stmt := top 27
def unit (i j : Nat) : Int := if j = i then 1 else 0
def unitL (M i : Nat) : List Int := (List.range M).map (unit i)
theorem unit_lab (M i : Nat) : (unitL M i).map V.int = lab M (unit i) := by
  unfold unitL lab
  rw [List.map_map]
  rfl
def spUnit : Sp := fun vs H Q _ => ∃ M : Nat, vs = [nv M] ∧ M ≤ 8 ∧ ∀ (r : Addr) (H' : Hp), Ext H H' → TT H' r ((List.range M).map (unitL M)) → Q (.ref r) H'
def spSur (CW : Addr) : Sp := fun vs H Q _ => ∃ (p b t : Addr) (M : Nat) (A : Ar) (r : Nat → Int) (q : Nat), vs = [.ref p, .ref t, nv q] ∧ WebAt CW H p (M : Int) b ∧ TT H b (A.map arL) ∧ A.length ≤ 12 ∧ Inside M A ∧ q < M ∧ H t = some (.tup (lab M r)) ∧
  ∀ H' : Hp, Ext H H' → Q (.int (sur A r q)) H'
def upTo (r : Nat → Int) (p : Nat) (k : Int) : Nat → Int := fun i => if i = p then r p + k else r i
def spRai : Sp := fun vs H Q _ => ∃ (t : Addr) (M p : Nat) (r : Nat → Int) (k : Int), vs = [.ref t, nv p, .int k] ∧ H t = some (.tup (lab M r)) ∧ p < M ∧ M ≤ 8 ∧ ∀ (c : Addr) (H' : Hp), Ext H H' → H' c = some (.tup (lab M (upTo r p k))) → Q (.ref c) H'
theorem rep1 {α : Type} (x : α) : ∀ n : Nat, (List.replicate n [x]).flatten = List.replicate n x
  | 0 => rfl
  | n + 1 => by rw [List.replicate_succ, List.flatten_cons, rep1 x n]; rfl
theorem unit_is {M i : Nat} (h : i < M) : List.replicate i (V.int 0) ++ [V.int 1] ++ List.replicate (M - i - 1) (V.int 0) = lab M (unit i) := by
  rw [List.append_assoc]
  refine List.ext_getElem (by rw [lab_len]; simp; omega) fun j h1 h2 => ?_
  rw [lab_len] at h2
  have e := lab_get (f := unit i) h2
  rw [List.getElem?_eq_getElem (by rw [lab_len]; exact h2)] at e
  rw [Option.some.inj e]
  unfold unit
  rw [List.getElem_append]
  split
  · rename_i z
    simp at z
    rw [List.getElem_replicate, if_neg (by omega)]
  · rename_i z
    simp at z
    by_cases e : j = i
    · subst e
      simp
    · rw [if_neg e]
      simp [List.getElem_cons]
      intro z2
      omega
theorem lab_up {M p : Nat} {r : Nat → Int} {k : Int} (h : p < M) : (lab M r).take p ++ [V.int (r p + k)] ++ (lab M r).drop (p + 1) = lab M (upTo r p k) := by
  have e := lab_set (M := M) (f := r) (p := p) (k := r p + k)
  rw [List.set_eq_take_append_cons_drop, if_pos (by rw [lab_len]; exact h)] at e
  rw [List.append_assoc]
  exact e
section
variable {P : Program} {w : World} {K : PySem.W.Frag} {mg : Str → Option Value} {base : Heap}
abbrev unitN : List Str := ["size", "at"]
theorem scUnit : FnScope unitN ["size"] (defScope sUnit) := ⟨rfl, rfl, rfl, by decide +kernel, rfl, by decide +kernel, by decide +kernel⟩
theorem ok_unit {f : Addr} {fd : FuncData} (F : L2.Fun K "unit_rows" "unit_rows" sUnit f fd) (T : Gb mg) : FnOk P w K mg base CX0 1 f fd ["size"] spUnit := by
  refine F.ok scUnit (fun vs H Q E h => ?_) (fun cdv A outer s H vs Q E hr h => ?_)
  · obtain ⟨M, rfl, _⟩ := h
    rfl
  · obtain ⟨M, rfl, m8, k⟩ := h
    refine ⟨_, pss_one (ps_ret (pe_callTy call_tuple_of (by rfl) T.tup (by decide +kernel) (pa_cons (pe_lc (own := [("at", 1)]) (g := gName 1) (tt := tYes) rfl scUnit.nd (pi_range1 (by rfl) T.rng (pa_cons (pv 0) pa_nil)) (blkOk_by (N := unitN) (sc := defScope sUnit) (by decide +kernel)) (fun _ _ _ _ _ => (pg_name (i := 1) scUnit.nd rfl (Or.inl rfl))) (fun _ _ _ _ _ => pts_nil) (fun _ _ _ _ _ => (pe_op (r := rCatX) op_catX (pe_op (r := rCatX) op_catX (pe_op (r := rRepA K) op_repA (pe_tup (pa_cons pe_int pa_nil)) (pv 1)) (pe_tup (pa_cons pe_int pa_nil))) (pe_op (r := rRepA K) op_repA (pe_tup (pa_cons pe_int pa_nil)) (pe_op op_sub (pe_op op_sub (pv 0) (pv 1)) pe_int))))) pa_nil))), ?_⟩
    refine ⟨_, rfl, (M : Int), rfl, by omega, by omega, fun D nD => lc_range (lo := 0) (n := M) (fun i J' => Ext H J' ∧ ∃ as : List Addr, J' D = some (.lst (as.map V.ref)) ∧ PT2 J' as ((List.range i).map (unitL M)) ∧ as.length = i) ⟨Ext.upd nD, [], upd_same, .nil, rfl⟩ ?_ ?_⟩
    · rintro i J' hi ⟨x1, as, hD, pt, la⟩
      refine ⟨rfl, tyes_in ⟨by show 1 ≤ sizeLine; decide, fun a na => ⟨_, rfl, a, _, [V.int 0], rfl, rfl, upd_same, by simp, by omega, by omega, by decide, fun p1 J1 y1 h1 => ⟨by show 1 ≤ sizeLine; decide, fun b nb => ⟨p1, b, _, _, rfl, rfl, (Ext.upd nb) _ _ h1, upd_same, ?_, fun p2 J2 y2 h2 =>
        ⟨by show 1 ≤ sizeLine; decide, fun c nc => ⟨_, rfl, _, rfl, _, _, rfl, rfl, _, _, rfl, rfl, c, _, [V.int 0], rfl, rfl, upd_same, by simp, by omega, by omega, by decide, fun p3 J3 y3 h3 => ⟨p2, p3, _, _, rfl, rfl, y3 _ _ ((Ext.upd nc) _ _ h2), h3, ?_, fun p4 J4 y4 h4 => ?_⟩⟩⟩⟩⟩⟩⟩⟩
      · rw [rep1]; simp; omega
      · rw [rep1, rep1]; simp; omega
      · have y : Ext J' J4 := (Ext.upd na).trans (y1.trans ((Ext.upd nb).trans (y2.trans ((Ext.upd nc).trans (y3.trans y4)))))
        rw [rep1, rep1, show (0 + (i : Int)).toNat = i by omega, show ((M : Int) - (0 + (i : Int)) - 1).toNat = M - i - 1 by omega] at h4
        have h4' := h4.trans (congrArg (fun z => some (HO.tup z)) (unit_is hi))
        refine ⟨_, y _ _ hD, by rw [List.length_map]; exact small1000 (by omega), fun b o hb => ?_, as ++ [p4], by rw [upd_same, List.map_append]; rfl, ?_, by rw [List.length_append, la]; rfl⟩
        · rw [upd_ne (ne_of_none hb nD)]
          exact y _ _ (x1 _ _ hb)
        · rw [List.range_succ, List.map_append]
          refine PT2.snoc (pt.mono fun b xs z => ?_) ?_
          · rw [upd_ne (lst_ne hD z)]
            exact y _ _ z
          · have ne : p4 ≠ D := fun e => by rw [e, y _ _ hD] at h4; cases h4
            rw [upd_ne ne, h4', unit_lab]
    · rintro J' ⟨x1, as, hD, pt, la⟩
      refine ⟨D, _, rfl, .inl ⟨SqL.of hD, fun l nl => ?_⟩⟩
      have e := Ext.upd (o := .tup (as.map V.ref)) nl
      exact k l _ (x1.trans e) ⟨as, upd_same, pt.mono fun b xs z => e _ _ z⟩
abbrev surN : List Str := ["web", "row", "place", "other"]
theorem scSur : FnScope surN ["web", "row", "place"] (defScope sSur) := ⟨rfl, rfl, rfl, by decide +kernel, rfl, by decide +kernel, by decide +kernel⟩
theorem ok_sur {f CW : Addr} {fd : FuncData} (F : L2.Fun K "surplus" "surplus" sSur f fd) (T : Gb mg) (sm : mg "sum" = none) (cO : Cal P w K mg base 1 "other_ends" (spOther CW) []) : FnOk P w K mg base CX0 2 f fd ["web", "row", "place"] (spSur CW) := by
  refine F.ok scSur (fun vs H Q E h => ?_) (fun cdv A outer s H vs Q E hr h => ?_)
  · obtain ⟨p, b, t, M, A, r, q, rfl, _⟩ := h
    rfl
  · obtain ⟨p, b, t, M, Ars, r, q, rfl, hw, tt, hL, ins, hq, ht, k⟩ := h
    refine ⟨_, pss_one (ps_ret (pe_op op_sub (pe_callB (cr_sum rfl) (by rfl) sm (by decide +kernel) (pa_cons (pe_lc (own := [("other", 3)]) (g := gName 3) (tt := tYes) rfl scSur.nd (pi_list (C8.pe_c cO hr (by decide) (by rfl) (pa_cons (pv 0) (pa_cons (pv 2) pa_nil)))) (blkOk_by (N := surN) (sc := defScope sSur) (by decide +kernel)) (fun _ _ _ _ _ => (pg_name (i := 3) scSur.nd rfl (Or.inl rfl))) (fun _ _ _ _ _ => pts_nil) (fun _ _ _ _ _ => (pe_ix (r := rIxT K) ix_tup (pv 1) (pv 3) (fun _ _ => rfl)))) pa_nil)) (pe_op op_mul pe_int (pe_ix ix_tup (pv 1) (pv 2) (fun _ _ => rfl))))), ?_⟩
    refine ⟨_, rfl, _, rfl, p, b, M, Ars, q, rfl, hw, tt, hL, fun d J x nd hd => ⟨d, rfl, ⟨_, SqL.of hd⟩, fun D nD => lc_list (K := K) (a := d) (xs := (ends Ars q).map nv) (fun i J' => Ext J J' ∧ J' D = some (.lst ((((ends Ars q).map r).take i).map V.int))) ⟨Ext.upd nD, upd_same⟩ (fun i J' _ z => SqL.of (z.1 _ _ hd)) ?_ ?_⟩⟩
    · rintro i y J' hy ⟨x2, hD⟩
      obtain ⟨n, hn, rfl⟩ := nv_get hy
      have nM : n < M := by
        rcases mem_ends.mp (List.mem_of_getElem? hn) with z | z
        · exact (ins _ z).2
        · exact (ins _ z).1
      have le := ends_len Ars q
      refine ⟨rfl, tyes_in ⟨_, rfl, _, rfl, t, _, _, _, rfl, rfl, SqT.of (x2 _ _ (x _ _ ht)), lab_at nM rfl, _, hD, small1000 (by rw [List.length_map, List.length_take, List.length_map]; omega), fun b o hb => ?_, ?_⟩⟩
      · rw [upd_ne (ne_of_none hb nD)]
        exact x2 _ _ hb
      · have e : ((ends Ars q).map r)[i]? = some (r n) := by rw [List.getElem?_map, hn]; rfl
        rw [upd_same, List.take_succ, e, List.map_append]
        rfl
    · rintro J' ⟨x2, hD⟩
      rw [List.length_map, List.take_of_length_le (by rw [List.length_map]; exact Nat.le_refl _)] at hD
      exact ⟨D, _, rfl, SqL.of hD, _, rfl, _, rfl, t, _, _, _, rfl, rfl, SqT.of (x2 _ _ (x _ _ ht)), lab_at hq rfl, _, _, rfl, rfl, .inl ⟨by omega, by omega⟩, _, _, rfl, rfl, k J' (x.trans x2)⟩
abbrev raiN : List Str := ["row", "place", "number"]
theorem scRai : FnScope raiN ["row", "place", "number"] (defScope sRai) := ⟨rfl, rfl, rfl, by decide +kernel, rfl, by decide +kernel, by decide +kernel⟩
theorem ok_rai {f : Addr} {fd : FuncData} (F : L2.Fun K "raised" "raised" sRai f fd) : FnOk P w K mg base CX0 1 f fd ["row", "place", "number"] spRai := by
  refine F.ok scRai (fun vs H Q E h => ?_) (fun cdv A outer s H vs Q E hr h => ?_)
  · obtain ⟨t, M, p, r, k, rfl, _⟩ := h
    rfl
  · obtain ⟨t, M, p, r, n, rfl, ht, hp, m8, k⟩ := h
    refine ⟨_, pss_one (ps_ret (pe_op (r := rCatX) op_catX (pe_op (r := rCatX) op_catX (pe_slice (r := rSlX') sl_tupX (pv 0) po_none (po_some (pv 1))) (pe_tup (pa_cons (pe_op op_add (pe_ix ix_tup (pv 0) (pv 1) (fun _ _ => rfl)) (pv 2)) pa_nil))) (pe_slice (r := rSlX') sl_tupX (pv 0) (po_some (pe_op op_add (pv 1) pe_int)) po_none))), ?_⟩
    refine ⟨_, rfl, _, rfl, (p : Int), rfl, t, _, rfl, ht, fun a J1 x1 h1 => ?_⟩
    refine ⟨_, rfl, _, rfl, t, _, _, _, rfl, rfl, SqT.of (x1 _ _ ht), lab_at hp rfl, _, rfl, _, _, rfl, rfl, by show 1 ≤ sizeLine; decide, fun b nb => ⟨a, b, _, _, rfl, rfl, (Ext.upd nb) _ _ h1, upd_same, ?_, fun c J2 x2 h2 => ?_⟩⟩
    · rw [cut_to, List.length_take, lab_len]
      show _ + 1 ≤ 1000
      omega
    · refine ⟨_, rfl, _, rfl, _, _, rfl, rfl, ((p : Int) + 1), rfl, t, _, rfl, x2 _ _ ((Ext.upd nb) _ _ (x1 _ _ ht)), fun d J3 x3 h3 => ⟨c, d, _, _, rfl, rfl, x3 _ _ h2, h3, ?_, fun e J4 x4 h4 => ?_⟩⟩
      · rw [cut_to, show (p : Int) + 1 = ((p + 1 : Nat) : Int) by omega, cut_from, List.length_append, List.length_take, List.length_drop, lab_len]
        show _ + 1 + _ ≤ 1000
        omega
      · rw [cut_to, show (p : Int) + 1 = ((p + 1 : Nat) : Int) by omega, cut_from, lab_up hp] at h4
        exact k e J4 (x1.trans ((Ext.upd nb).trans (x2.trans (x3.trans x4)))) h4
end
end R23

set_option Elab.async false
set_option linter.all false
set_option maxRecDepth 100000
set_option maxHeartbeats 4000000
set_option pp.maxSteps 100
/-! Kinds as data; least_endless. -/
namespace R23
open PySem L2 K9M M21 M22
abbrev sLea : Stmt := top 25
def kD : Option (Nat × Nat) → PyData
  | none => .none
  | some s => .tuple [.str (lett s.1), .int (s.2 : Int)]
theorem kv_dp {K : PySem.W.Frag} {H : Hp} {x : V} {k : Option (Nat × Nat)} (h : KV H x k) : Dp K H x (kD k) := by
  cases k with
  | none => cases h; exact .non
  | some s =>
    obtain ⟨r, rfl, hr⟩ := h
    exact .tup (SqT.of hr) (.cons (.str _) (.cons (.int _) .nil))
theorem kvs_dp {K : PySem.W.Frag} {H : Hp} : ∀ {xs : List V} {ks : List (Option (Nat × Nat))}, Two (KV H) xs ks → DpAll K H xs (ks.map kD)
  | _, _, .nil => .nil
  | _, _, .cons h t => .cons (kv_dp h) (kvs_dp t)
theorem kvl_dp {K : PySem.W.Frag} {H : Hp} {r : Addr} {ks : List (Option (Nat × Nat))} (h : KVL H r ks) : Dp K H (.ref r) (.list (ks.map kD)) := by
  obtain ⟨xs, h1, h2⟩ := h
  exact .lst (SqL.of h1) (kvs_dp h2)
theorem kD_depth (k : Option (Nat × Nat)) : (kD k).depth ≤ 1 := by
  cases k with
  | none => show 0 ≤ 1; decide
  | some s => show (1 : Nat) ≤ 1; decide
theorem lett_ok : ∀ n, PyData.strOk (lett n) = true
  | 0 => by decide +kernel
  | 1 => by decide +kernel
  | _ + 2 => by show PyData.strOk "E" = true; decide +kernel
theorem kD_lay (k : Option (Nat × Nat)) : (kD k).canLay0 = true := by
  cases k with
  | none => rfl
  | some s =>
    show (PyData.strOk (lett s.1) && (true && true)) = true
    rw [lett_ok]
    rfl
theorem kDs_shaped (ks : List (Option (Nat × Nat))) : SeqAt.shaped (.list (ks.map kD)) = true := by
  have h1 : ∀ ks : List (Option (Nat × Nat)), PyData.canLayAll0 (ks.map kD) = true := fun ks => by
    induction ks with
    | nil => rfl
    | cons k ks ih =>
      show (PyData.canLay0 (kD k) && PyData.canLayAll0 (ks.map kD)) = true
      rw [kD_lay, ih]
      rfl
  have h2 : ∀ ks : List (Option (Nat × Nat)), PyData.depthAll (ks.map kD) ≤ 1 := fun ks => by
    induction ks with
    | nil => show 0 ≤ 1; decide
    | cons k ks ih =>
      show max (kD k).depth (PyData.depthAll (ks.map kD)) ≤ 1
      have := kD_depth k
      omega
  show (PyData.canLayAll0 (ks.map kD) && decide (PyData.depthAll (ks.map kD) + 1 ≤ 64)) = true
  rw [h1, decide_eq_true (by have := h2 ks; omega)]
  rfl
theorem hu65 {k : Nat} {A : Around} (hr : Room k A) : A.units + 65 < cLine := by have := hr.un; omega
theorem any_kD : ∀ ks : List (Option (Nat × Nat)), ((ks.map kD).any fun z => PyData.eqv z .none) = ks.any Option.isNone
  | [] => rfl
  | none :: ks => by
    rw [List.map_cons, List.any_cons, List.any_cons, any_kD ks]
    rfl
  | some s :: ks => by
    rw [List.map_cons, List.any_cons, List.any_cons, any_kD ks]
    rfl
theorem two_back {α β : Type} {R : α → β → Prop} : ∀ {l : List α} {k : List β}, Two R l k → ∀ b ∈ k, ∃ a ∈ l, R a b
  | _, _, .nil, b, h => by cases h
  | _, _, .cons r t, b, h => by
    rcases List.mem_cons.mp h with rfl | h
    · exact ⟨_, List.mem_cons_self, r⟩
    · obtain ⟨a, ha, q⟩ := two_back t b h
      exact ⟨a, List.mem_cons_of_mem _ ha, q⟩
theorem two_on {α β : Type} {R : α → β → Prop} : ∀ {l : List α} {k : List β}, Two R l k → ∀ a ∈ l, ∃ b ∈ k, R a b
  | _, _, .nil, b, h => by cases h
  | _, _, .cons r t, b, h => by
    rcases List.mem_cons.mp h with rfl | h
    · exact ⟨_, List.mem_cons_self, r⟩
    · obtain ⟨a, ha, q⟩ := two_on t b h
      exact ⟨a, List.mem_cons_of_mem _ ha, q⟩
theorem has_none {m : Nat} {A : Ar} {ks : List (Option (Nat × Nat))} (tk : Two (KindR A) (lotsN m A) ks) : ks.any Option.isNone = true ↔ HasBad m A := by
  constructor
  · intro h
    obtain ⟨k, hk, e⟩ := List.any_eq_true.mp h
    obtain ⟨l, hl, r⟩ := two_back tk k hk
    obtain ⟨c, hc, rfl⟩ := List.mem_map.mp hl
    cases k with
    | none => exact ⟨c, hc, r⟩
    | some s => cases e
  · rintro ⟨c, hc, r⟩
    obtain ⟨k, hk, r'⟩ := two_on tk (lotN m A c) (List.mem_map_of_mem hc)
    rw [kind_uniq r' r] at hk
    exact List.any_eq_true.mpr ⟨none, hk, rfl⟩
theorem del_snoc {p i : Nat} {A : Ar} {a : Nat × Nat} (h : A[i]? = some a) : M22.del p (A.take (i + 1)) = M22.del p (A.take i) ++ (if p ∉ [a.1, a.2] then [a] else []) := by
  unfold M22.del
  rw [List.take_succ, h, List.filter_append]
  congr 1
  show List.filter _ [a] = _
  by_cases e : p ∈ [a.1, a.2]
  · rw [if_neg (fun z => z e), List.filter_eq_nil_iff.mpr]
    intro x hx z
    have ex : x = a := List.mem_singleton.mp hx
    subst ex
    have := of_decide_eq_true z
    simp at e
    omega
  · rw [if_pos e, List.filter_eq_self.mpr]
    intro x hx
    have ex : x = a := List.mem_singleton.mp hx
    subst ex
    simp at e
    exact decide_eq_true ⟨fun z => e.1 z.symm, fun z => e.2 z.symm⟩
theorem least_len {m : Nat} {A : Ar} : ∀ p, (leastTo m A p).length ≤ A.length
  | 0 => Nat.le_refl _
  | p + 1 => by
    by_cases b : HasBad m (M22.del p (leastTo m A p))
    · rw [leastTo_pos b]
      exact Nat.le_trans (List.length_filter_le _ _) (least_len p)
    · rw [leastTo_neg b]
      exact least_len p
theorem least_in {m : Nat} {A : Ar} (h : Inside m A) (p : Nat) : Inside m (leastTo m A p) := by
  have := leastTo_sub m A 0 p
  rw [Nat.zero_add] at this
  exact this.inside h
theorem arrL_of {m : Int} {A : Ar} (h : Inside m.toNat A) : ∀ l ∈ A.map arL, ArrL m l := fun l hl => by
  obtain ⟨a, ha, rfl⟩ := List.mem_map.mp hl
  have := h a ha
  exact ⟨a.1, a.2, rfl, by omega, by omega, by omega, by omega⟩
theorem at_of_tt {M : Nat} {H : Hp} {b : Addr} {A : Ar} (h : TT H b (A.map arL)) (l : A.length ≤ 12) (i : Inside M A) : AT H (M : Int) b (A.map arL) := ⟨h, by rw [List.length_map]; exact l, arrL_of (m := (M : Int)) i⟩
def rTupS (K : PySem.W.Frag) : List V → Hp → VK → Prop := fun xs H Q => ∃ p ys, xs = [.ref p] ∧ ((SqL K H p ys ∧ ∀ l, H l = none → Q (.ref l) (upd H l (.tup ys))) ∨ (SqT K H p ys ∧ Q (.ref p) H))
theorem call_tupS {X : Cx} : CallR X (.type "tuple") (rTupS X.K) := call_tuple_of
def spLea (CW : Addr) : Sp := fun vs H Q _ => ∃ (p b : Addr) (M : Nat) (A : Ar), vs = [.ref p] ∧ WebAt CW H p (M : Int) b ∧ TT H b (A.map arL) ∧ 1 ≤ M ∧ M ≤ 8 ∧ A.length ≤ 12 ∧ Inside M A ∧
  ∀ (p' b' : Addr) (H' : Hp), Ext H H' → WebAt CW H' p' (M : Int) b' → TT H' b' ((leastTo M A M).map arL) → Q (.ref p') H'
section
variable {P : Program} {w : World} {K : PySem.W.Frag} {mg : Str → Option Value} {base : Heap}
abbrev leaN : List Str := ["web", "place", "arrows", "arrow", "fewer"]
theorem scLea : FnScope leaN ["web"] (defScope sLea) := ⟨rfl, rfl, rfl, by decide +kernel, rfl, by decide +kernel, by decide +kernel⟩
theorem ok_lea {f fW CW : Addr} {fd fdW : FuncData} (F : L2.Fun K "least_endless" "least_endless" sLea f fd) (T : Gb mg) (W : WebC K mg CW) (cK : Cal P w K mg base 4 "kinds" (spKinds CW) [])
    (MW : Mk K CW fW) (FW : FnOk P w K mg base CX0 4 fW fdW ["self", "many", "arrows"] (spWebR CW)) (bW : Binds K fdW ["self", "many", "arrows"] []) : FnOk P w K mg base CX0 6 f fd ["web"] (spLea CW) := by
  refine F.ok scLea (fun vs H Q E h => ?_) (fun cdv A outer s H vs Q E hr h => ?_)
  · obtain ⟨p, b, M, A, rfl, _⟩ := h
    rfl
  · obtain ⟨p, b, M, Ars, rfl, hw, tt, hm1, hm8, hL, ins, k⟩ := h
    obtain ⟨dx, hp⟩ := id hw
    refine ⟨_, pss_cons (ps_for PassesOwn.never rfl (pi_range1 (by rfl) T.rng (pa_cons (pe_fld (pv 0) rfl) pa_nil)) (pg_name (i := 1) scLea.nd rfl (Or.inr rfl))
      (C8.pss_cut (ps_setLc (i := 2) (own := [("arrow", 3)]) (g := gName 3) rfl scLea.nd rfl rfl (sw_true rfl rfl rfl (by decide +kernel)) (pi_tup (pe_fld (pv 0) rfl)) (blkOk_by (N := leaN) (sc := defScope sLea) (by decide +kernel)) (fun _ _ _ _ _ => (pg_name (i := 3) scLea.nd rfl (Or.inl rfl))) (fun _ _ _ _ _ => (pts_one (pt_cmpR (r := rIn K true) op_notIn_seq (pv 1) (pv 3) (by rfl)))) (fun _ _ _ _ _ => (pv 3)))
      (pss_cons (ps_set (i := 4) scLea.nd rfl (Or.inl rfl) (pe_make MW FW (hr.mono (by decide)) (by rfl) W.mgC bW .nil pass0 (pa_cons (pe_fld (pv 0) rfl) (pa_cons (pe_callTy (r := rTupS K) call_tupS (by rfl) T.tup (by decide +kernel) (pa_cons (pv 2) pa_nil)) pa_nil))))
      (pss_one (ps_if (pt_cmpR (op_inD (hu65 hr)) pe_non (C8.pe_c cK hr (by decide) (by rfl) (pa_cons (pv 4) pa_nil)) (by rfl)) (pss_one (ps_set (i := 0) scLea.nd rfl (Or.inl rfl) (pv 4))) pss_nil)))))
      (pss_one (ps_ret (pv 0))), ?_⟩
    refine ⟨_, rfl, p, CW, dx, _, _, rfl, hp, W.cl, W.nM, wf_many _ _, (M : Int), rfl, by omega, by omega, for_range (lo := 0) (n := M) (fun i σ' J => ∃ (p1 b1 : Addr) (v1 v2 v4 : Option V), σ' = [some (.ref p1), v1, v2, Option.none, v4] ∧ Ext H J ∧ WebAt CW J p1 (M : Int) b1 ∧ TT J b1 ((leastTo M Ars i).map arL)) ⟨p, b, _, _, _, rfl, Ext.rfl', hw, tt⟩ ?_ ?_⟩
    · rintro i σ' J hi ⟨p1, b1, v1, v2, v4, rfl, xJ, hw1, tt1⟩
      rw [show (0 : Int) + (i : Int) = (i : Int) from Int.zero_add _]
      have lX := Nat.le_trans (least_len (m := M) (A := Ars) i) hL
      have iX := least_in ins i
      have pos := @leastTo_pos M i Ars
      have neg := @leastTo_neg M i Ars
      generalize leastTo M Ars i = X at *
      obtain ⟨dx1, hp1⟩ := id hw1
      obtain ⟨as, hb, pt⟩ := id tt1
      have hlen : (as.map V.ref).length = X.length := by rw [List.length_map, PT2.len pt, List.length_map]
      refine ⟨fun σ' J' => ∃ D : Addr, σ' = [some (.ref p1), some (nv i), some (.ref D), Option.none, v4] ∧ Ext J J' ∧ ∃ cs : List Addr, J' D = some (.lst (cs.map V.ref)) ∧ PT2 J' cs ((M22.del i X).map arL), ?_, ?_⟩
      · dsimp only [tAsg, gName]
        refine ⟨_, rfl, p1, CW, dx1, _, _, rfl, hp1, W.cl, W.nA, wf_arrows _ _, b1, rfl, ⟨_, SqT.of hb⟩, fun D nD => lc_tup (K := K) (a := b1) (xs := as.map V.ref) (fun j J' => Ext J J' ∧ ∃ cs : List Addr, J' D = some (.lst (cs.map V.ref)) ∧ PT2 J' cs ((M22.del i (X.take j)).map arL)) ⟨Ext.upd nD, [], upd_same, .nil⟩ (fun j J' _ z => SqT.of (z.1 _ _ hb)) ?_ ?_⟩
        · rintro j y J' hy ⟨x1, cs, hD, pc⟩
          obtain ⟨c, a, rfl, ha, hc⟩ := TT.arrow pt hy
          have lc : cs.length ≤ 12 := by
            rw [PT2.len pc, List.length_map]
            exact Nat.le_trans (List.length_filter_le _ _) (by rw [List.length_take]; omega)
          refine ⟨rfl, _, rfl, _, rfl, c, _, rfl, .inr (SqT.of (x1 _ _ hc)), rfl, flat_nv [a.1, a.2], _, rfl, ?_⟩
          rw [show (if true = true then !inV (nv i) [V.int (a.1 : Int), V.int (a.2 : Int)] else inV (nv i) [V.int (a.1 : Int), V.int (a.2 : Int)]) = !decide (i ∈ [a.1, a.2]) from congrArg not (inV_nv i [a.1, a.2])]
          refine ite2 (fun z => ?_) (fun z => ?_)
          · have z : i ∉ [a.1, a.2] := fun q => by rw [decide_eq_true q] at z; cases z
            refine ⟨_, rfl, _, hD, by rw [List.length_map]; exact small1000 (by omega), fun e o he => ?_, cs ++ [c], by rw [upd_same, List.map_append]; rfl, ?_⟩
            · rw [upd_ne (ne_of_none he nD)]
              exact x1 _ _ he
            · rw [del_snoc ha, if_pos z, List.map_append]
              exact (PT2.snoc (l := arL a) pc (x1 _ _ hc)).mono fun b xs w => by rw [upd_ne (lst_ne hD w)]; exact w
          · have z : ¬ i ∉ [a.1, a.2] := fun q => z (by rw [decide_eq_false q]; rfl)
            refine ⟨x1, cs, hD, ?_⟩
            rw [del_snoc ha, if_neg z, List.append_nil]
            exact pc
        · rintro J' ⟨x1, cs, hD, pc⟩
          rw [hlen, List.take_of_length_le (Nat.le_refl _)] at pc
          exact ⟨D, rfl, x1, cs, hD, pc⟩
      · rintro σ' J1 ⟨D, rfl, x1, cs, hD, pc⟩
        obtain ⟨ks, tk⟩ := lots_kinds (del_inside (p := i) iX)
        refine ⟨_, rfl, p1, CW, dx1, _, _, rfl, x1 _ _ hp1, W.cl, W.nM, wf_many _ _, _, rfl, D, _, rfl, .inl ⟨SqL.of hD, fun u nu => ?_⟩⟩
        have x2 := Ext.upd (o := .tup (cs.map V.ref)) nu
        have tu : TT (upd J1 u (.tup (cs.map V.ref))) u ((M22.del i X).map arL) := ⟨cs, upd_same, pc.mono fun b xs z => x2 _ _ z⟩
        generalize upd J1 u (.tup (cs.map V.ref)) = J2 at *
        have lD : (M22.del i X).length ≤ 12 := Nat.le_trans (List.length_filter_le _ _) lX
        have iD := del_inside (p := i) iX
        refine mk_webR (by omega) (by omega) (at_of_tt tu lD iD) fun p2 J3 hw3 x3 => ?_
        have tt3 := tu.ext x3
        refine ⟨_, rfl, p2, u, M, M22.del i X, ks, rfl, hw3, tt3, hm8, lD, iD, tk, fun r J4 x4 nr kl => ?_⟩
        refine ⟨.none, _, .non, kvl_dp kl, by rfl, kDs_shaped _, _, rfl, ?_⟩
        have xA := x1.trans (x2.trans (x3.trans x4))
        rw [any_kD]
        refine ite2 (fun z => ?_) (fun z => ?_)
        · refine ⟨_, rfl, p2, u, _, _, _, rfl, xJ.trans xA, hw3.ext x4, ?_⟩
          rw [pos ((has_none tk).mp z)]
          exact tt3.ext x4
        · refine ⟨p1, b1, _, _, _, rfl, xJ.trans xA, hw1.ext xA, ?_⟩
          rw [neg fun q => z ((has_none tk).mpr q)]
          exact tt1.ext xA
    · rintro σ' J ⟨p1, b1, v1, v2, v4, rfl, xJ, hw1, tt1⟩
      exact ⟨_, rfl, k p1 b1 J xJ hw1 tt1⟩
end
end R23

set_option Elab.async false
set_option linter.all false
set_option maxRecDepth 100000
set_option maxHeartbeats 4000000
set_option pp.maxSteps 100
/-! endless. -/
namespace R23
open PySem L2 K9M M21 M22
abbrev sEnd : Stmt := top 28
def spEnd (CW : Addr) : Sp := fun vs H Q _ => ∃ (p b : Addr) (M : Nat) (A : Ar), vs = [.ref p] ∧ WebAt CW H p (M : Int) b ∧ TT H b (A.map arL) ∧ 1 ≤ M ∧ M ≤ 8 ∧ A.length ≤ 12 ∧ Inside M A ∧
  (∀ H' : Hp, ¬ HasBad M A → Ext H H' → Q .non H') ∧ (∀ (t : Addr) (r : Nat → Int) (H' : Hp), HasBad M A → Ext H H' → H' t = some (.tup (lab M r)) → Grown M A r → Q (.ref t) H')
theorem sum_up {r : Nat → Int} {p : Nat} : ∀ M : Nat, ((List.range M).map (upTo r p 1)).sum = ((List.range M).map r).sum + if p < M then 1 else 0
  | 0 => by simp
  | M + 1 => by
    rw [List.range_succ, List.map_append, List.map_append, List.sum_append, List.sum_append, sum_up M]
    simp only [List.map_cons, List.map_nil, List.sum_cons, List.sum_nil]
    unfold upTo
    by_cases h : p < M
    · rw [if_pos h, if_neg (show ¬ M = p by omega), if_pos (show p < M + 1 by omega)]
      omega
    · by_cases e : M = p
      · rw [if_neg h, if_pos e, if_pos (show p < M + 1 by omega), e]
        omega
      · rw [if_neg h, if_neg e, if_neg (show ¬ p < M + 1 by omega)]
        omega
theorem sum_le {r : Nat → Int} {δ : Nat → Nat} (h : ∀ p, r p ≤ δ p) : ∀ M : Nat, ((List.range M).map r).sum ≤ ((List.range M).map fun p => (δ p : Int)).sum
  | 0 => by simp
  | M + 1 => by
    rw [List.range_succ, List.map_append, List.map_append, List.sum_append, List.sum_append]
    have := sum_le h M
    simp only [List.map_cons, List.map_nil, List.sum_cons, List.sum_nil]
    have := h M
    omega
section
variable {P : Program} {w : World} {K : PySem.W.Frag} {mg : Str → Option Value} {base : Heap}
abbrev endN : List Str := ["web", "least", "places", "row", "place"]
theorem scEnd : FnScope endN ["web"] (defScope sEnd) := ⟨rfl, rfl, rfl, by decide +kernel, rfl, by decide +kernel, by decide +kernel⟩
theorem ok_end {f CW : Addr} {fd : FuncData} (F : L2.Fun K "endless" "endless" sEnd f fd) (T : Gb mg) (any' : mg "any" = none) (W : WebC K mg CW) (cK : Cal P w K mg base 4 "kinds" (spKinds CW) []) (cL : Cal P w K mg base 6 "least_endless" (spLea CW) []) (cU : Cal P w K mg base 1 "unit_rows" spUnit [])
    (cS : Cal P w K mg base 2 "surplus" (spSur CW) []) (cR : Cal P w K mg base 1 "raised" spRai []) : FnOk P w K mg base CX0 7 f fd ["web"] (spEnd CW) := by
  refine F.ok scEnd (fun vs H Q E h => ?_) (fun cdv A outer s H vs Q E hr h => ?_)
  · obtain ⟨p, b, M, A, rfl, _⟩ := h
    rfl
  · obtain ⟨p, b, M, Ars, rfl, hw, tt, hm1, hm8, hL, ins, kN, kY⟩ := h
    obtain ⟨ks, tk⟩ := lots_kinds ins
    refine ⟨_, pss_cons (ps_if (pt_cmpR (op_notInD (hu65 hr)) pe_non (C8.pe_c cK hr (by decide) (by rfl) (pa_cons (pv 0) pa_nil)) (by rfl)) (pss_one (ps_ret pe_non)) pss_nil)
      (pss_cons (ps_set (i := 1) scEnd.nd rfl (Or.inr rfl) (C8.pe_c cL hr (by decide) (by rfl) (pa_cons (pv 0) pa_nil)))
      (pss_cons (ps_set (i := 2) scEnd.nd rfl (Or.inl rfl) (pe_listRg rfl (by rfl) T.list (prg_1 (by rfl) T.rng (pe_fld (pv 0) rfl))))
      (pss_cons (ps_set (i := 3) scEnd.nd rfl (Or.inr rfl) (pe_ix ix_tup (C8.pe_c cU hr (by decide) (by rfl) (pa_cons (pe_fld (pv 0) rfl) pa_nil)) (pe_ix ix_tup (pe_ix ix_tup (pe_fld (pv 1) rfl) pe_int (fun _ _ => rfl)) pe_int (fun _ _ => rfl)) (fun _ _ => rfl)))
      (pss_cons (ps_while PassesOwn.never (pt_val (pe_callB (cr_any rfl) (by rfl) any' (by decide +kernel) (pa_cons (pe_lc (own := [("place", 4)]) (g := gName 4) (tt := tYes) rfl scEnd.nd (pi_list (pv 2)) (blkOk_by (N := endN) (sc := defScope sEnd) (by decide +kernel)) (fun _ _ _ _ _ => (pg_name (i := 4) scEnd.nd rfl (Or.inl rfl))) (fun _ _ _ _ _ => pts_nil) (fun _ _ _ _ _ => (pe_cmpR op_lt (C8.pe_c cS hr (by decide) (by rfl) (pa_cons (pv 1) (pa_cons (pv 3) (pa_cons (pv 4) pa_nil)))) pe_int (nomark _)))) pa_nil)))
      (pss_one (ps_for PassesOwn.never rfl (pi_list (pv 2)) (pg_name (i := 4) scEnd.nd rfl (Or.inl rfl))
      (pss_one (ps_if (pt_cmpR op_gt (C8.pe_c cS hr (by decide) (by rfl) (pa_cons (pv 1) (pa_cons (pv 3) (pa_cons (pv 4) pa_nil)))) pe_int (nomark _)) (pss_cons (ps_set (i := 3) scEnd.nd rfl (Or.inr rfl) (C8.pe_c cR hr (by decide) (by rfl) (pa_cons (pv 3) (pa_cons (pv 4) (pa_cons pe_int pa_nil)))))
      (pss_one ps_break)) pss_nil)))))
      (pss_one (ps_ret (pv 3))))))), ?_⟩
    refine ⟨_, rfl, p, b, M, Ars, ks, rfl, hw, tt, hm8, hL, ins, tk, fun r0 J0 x0 nr kl => ?_⟩
    refine ⟨.none, _, .non, kvl_dp kl, by rfl, kDs_shaped _, _, rfl, ?_⟩
    rw [any_kD]
    refine ite2 (fun z => kN J0 (fun q => by rw [(has_none tk).mpr q] at z; cases z) x0) (fun z => ?_)
    have hb : HasBad M Ars := (has_none tk).mp (by
      cases e : ks.any Option.isNone with
      | true => rfl
      | false => exact absurd (by rw [e]; rfl) z)
    refine ⟨_, rfl, p, b, M, Ars, rfl, hw.ext x0, tt.ext x0, hm1, hm8, hL, ins, fun ls lb J1 x1 hwl ttl => ?_⟩
    obtain ⟨h, lst⟩ := lst_is ins hb
    have lX := Nat.le_trans (least_len (m := M) (A := Ars) M) hL
    generalize leastTo M Ars M = X at *
    have iX := lst.least.ins
    obtain ⟨δ, nu⟩ := lst.least.null hm8
    have x01 := x0.trans x1
    obtain ⟨dx, hp⟩ := hw.ext x01
    refine ⟨_, rfl, p, CW, dx, _, _, rfl, hp, W.cl, W.nM, wf_many _ _, (M : Int), rfl, RgOk.of_le (by omega) (by omega) (by omega) (by omega), fun d nd => ?_⟩
    rw [rg_nv]
    have x2 := Ext.upd (o := .lst ((List.range M).map nv)) nd
    have hd2 := upd_same (H := J1) (a := d) (o := .lst ((List.range M).map nv))
    have hw2 := hwl.ext x2
    have tt2 := ttl.ext x2
    have hp2 := x2 _ _ hp
    have x02 := x01.trans x2
    clear hwl ttl
    generalize upd J1 d (.lst ((List.range M).map nv)) = J2 at *
    obtain ⟨dx2, hl2⟩ := id hw2
    obtain ⟨as, hb2, pt⟩ := id tt2
    refine ⟨_, rfl, p, CW, dx, _, _, rfl, hp2, W.cl, W.nM, wf_many _ _, M, rfl, hm8, fun ut J3 x3 tu => ?_⟩
    have hw3 := hw2.ext x3
    have tt3 := tt2.ext x3
    have x03 := x02.trans x3
    have hd3 := x3 _ _ hd2
    -- the first arrow
    have hh : h ∈ lotN M X h := mem_lot_self lst.least.head
    have ne : X ≠ [] := fun e => bad_ends lst.least.ins lst.least.bad hh (by rw [e]; rfl)
    obtain ⟨a, ha⟩ : ∃ a, X[0]? = some a := by
      cases X with
      | nil => exact absurd rfl ne
      | cons a _ => exact ⟨a, rfl⟩
    have aX := List.mem_of_getElem? ha
    have aL : a.1 ∈ lotN M X h := lst.all _ fun e => by
      have : a.2 ∈ ends X a.1 := mem_ends.mpr (.inl aX)
      rw [e] at this
      cases this
    have aM : a.1 < M := lst.least.lt aL
    obtain ⟨c, hc, hca⟩ : ∃ c, as[0]? = some c ∧ J2 c = some (.tup [.int (a.1 : Int), .int (a.2 : Int)]) := by
      have l0 : 0 < as.length := by
        rw [PT2.len pt, List.length_map]
        exact List.length_pos_iff.mpr ne
      obtain ⟨c, a', e, ha', hc⟩ := TT.arrow (i := 0) (x := V.ref (as[0])) pt (by rw [List.getElem?_map, List.getElem?_eq_getElem l0]; rfl)
      rw [ha] at ha'
      cases ha'
      injection e with e
      exact ⟨c, by rw [List.getElem?_eq_getElem l0, e], hc⟩
    obtain ⟨us, hut, pu⟩ := tu
    have lus : us.length = M := by rw [PT2.len pu, List.length_map, List.length_range]
    obtain ⟨u, hu, hua⟩ : ∃ u, us[a.1]? = some u ∧ J3 u = some (.tup (lab M (unit a.1))) := by
      have la : a.1 < us.length := by omega
      obtain ⟨l, hl, hx⟩ := PT2.get pu (List.getElem?_eq_getElem la)
      rw [List.getElem?_map, List.getElem?_range aM] at hl
      cases hl
      rw [unit_lab] at hx
      exact ⟨_, List.getElem?_eq_getElem la, hx⟩
    refine ⟨_, rfl, ls, CW, dx2, _, _, rfl, x3 _ _ hl2, W.cl, W.nA, wf_arrows _ _, lb, _, 0, .ref c, rfl, rfl, SqT.of (x3 _ _ hb2), atI_nat (j := 0) (by rw [List.getElem?_map, hc]; rfl), c, _, _, _, rfl, rfl, SqT.of (x3 _ _ hca), rfl, ut, _, _, .ref u, rfl, rfl, SqT.of hut, atI_nat (by rw [List.getElem?_map, hu]; rfl), ?_⟩
    -- the rows on the way
    refine ⟨fun m σ' J => ∃ (t : Addr) (r : Nat → Int) (v4 : Option V), σ' = [some (.ref p), some (.ref ls), some (.ref d), some (.ref t), v4] ∧ Ext J3 J ∧ J t = some (.tup (lab M r)) ∧ (∀ q, 0 ≤ r q ∧ r q ≤ δ q) ∧ (∃ q, r q ≠ 0) ∧ (m : Int) + ((List.range M).map r).sum = ((List.range M).map fun q => (δ q : Int)).sum, ?_, ?_⟩
    · have le : ∀ q, 0 ≤ unit a.1 q ∧ unit a.1 q ≤ δ q := fun q => by
        unfold unit
        by_cases e : q = a.1
        · rw [if_pos e]
          have := nu.pos a.1 aL
          rw [e]
          omega
        · rw [if_neg e]
          omega
      have := sum_le (r := unit a.1) (δ := δ) (fun q => (le q).2) M
      exact ⟨(((List.range M).map fun q => (δ q : Int)).sum - ((List.range M).map (unit a.1)).sum).toNat, u, unit a.1, _, rfl, Ext.rfl', hua, le, ⟨a.1, by unfold unit; rw [if_pos rfl]; decide⟩, by omega⟩
    · rintro m σ' J ⟨t, r, v4, rfl, xJ, ht, hr', nz, em⟩
      have hwJ := hw3.ext xJ
      have ttJ := tt3.ext xJ
      have hdJ := xJ _ _ hd3
      have out : ∀ q, q ∉ lotN M X h → sur X r q = 0 := fun q hq => by
        have e : ends X q = [] := Classical.byContradiction fun z => hq (lst.all q z)
        have e2 := hr' q
        rw [nu.off q hq] at e2
        unfold sur
        rw [e]
        show (0 : Int) - 2 * r q = 0
        omega
      refine ⟨_, rfl, d, rfl, ⟨_, SqL.of hdJ⟩, fun D nD => lc_list (K := K) (a := d) (xs := (List.range M).map nv) (fun i J' => Ext J J' ∧ J' D = some (.lst (((List.range i).map fun q => decide (sur X r q < 0)).map V.bl))) ⟨Ext.upd nD, upd_same⟩ (fun i J' _ z => SqL.of (z.1 _ _ hdJ)) ?_ ?_⟩
      · rintro i y J' hy ⟨x4, hD⟩
        obtain ⟨n, hn, rfl⟩ := nv_get hy
        have iM : i < M := by
          have := (List.getElem?_eq_some_iff.mp hn).1
          rw [List.length_range] at this
          exact this
        rw [List.getElem?_range iM] at hn
        cases hn
        refine ⟨rfl, tyes_in ⟨_, rfl, _, rfl, _, rfl, ls, lb, t, M, X, r, i, rfl, hwJ.ext x4, ttJ.ext x4, lX, iX, iM, x4 _ _ ht, fun J5 x5 => ⟨_, _, rfl, rfl, _, x5 _ _ hD, ?_, fun b o hb => ?_, ?_⟩⟩⟩
        · rw [List.length_map, List.length_map, List.length_range]
          exact small1000 (by omega)
        · rw [upd_ne (ne_of_none hb nD)]
          exact x5 _ _ (x4 _ _ hb)
        · rw [upd_same, List.range_succ, List.map_append, List.map_append]
          rfl
      · rintro J' ⟨x4, hD⟩
        rw [List.length_map, List.length_range] at hD
        refine ⟨D, _, rfl, SqL.of hD, _, rfl, ?_⟩
        refine ite2 (fun z => ?_) (fun z => ?_)
        · obtain ⟨_, hq, z⟩ := List.any_eq_true.mp z
          obtain ⟨q, hq, rfl⟩ := List.mem_map.mp hq
          have z : sur X r q < 0 := of_decide_eq_true z
          have qL : q ∈ lotN M X h := Classical.byContradiction fun n => by rw [out q n] at z; omega
          obtain ⟨⟨q2, q2L, pos⟩, under⟩ := nu.run r hr' ⟨q, qL, z⟩
          refine ⟨fun σ' J => ∃ m', m' < m ∧ ∃ (t : Addr) (r : Nat → Int) (v4 : Option V), σ' = [some (.ref p), some (.ref ls), some (.ref d), some (.ref t), v4] ∧ Ext J3 J ∧ J t = some (.tup (lab M r)) ∧ (∀ q, 0 ≤ r q ∧ r q ≤ δ q) ∧ (∃ q, r q ≠ 0) ∧ (m' : Int) + ((List.range M).map r).sum = ((List.range M).map fun q => (δ q : Int)).sum, fun _ _ z => z, ?_⟩
          refine ⟨_, rfl, d, rfl, ⟨_, SqL.of (x4 _ _ hdJ)⟩, for_list (K := K) (a := d) (xs := (List.range M).map nv) (fun i σ' J5 => (∃ v4 : Option V, σ' = [some (.ref p), some (.ref ls), some (.ref d), some (.ref t), v4]) ∧ Ext J J5 ∧ ∀ q, q < i → ¬ 0 < sur X r q) ⟨⟨_, rfl⟩, x4, fun q hq => absurd hq (Nat.not_lt_zero q)⟩ (fun i σ' J5 _ z => SqL.of (z.2.1 _ _ hdJ)) ?_ ?_⟩
          · rintro i y σ' J5 hy ⟨⟨v5, rfl⟩, x5, no⟩
            obtain ⟨n, hn, rfl⟩ := nv_get hy
            have iM : i < M := by
              have := (List.getElem?_eq_some_iff.mp hn).1
              rw [List.length_range] at this
              exact this
            rw [List.getElem?_range iM] at hn
            cases hn
            refine ⟨_, rfl, _, rfl, _, rfl, ls, lb, t, M, X, r, i, rfl, hwJ.ext x5, ttJ.ext x5, lX, iX, iM, x5 _ _ ht, fun J6 x6 => ⟨_, _, rfl, rfl, _, rfl, ?_⟩⟩
            have x56 := x5.trans x6
            refine ite2 (fun z => ?_) (fun z => ?_)
            · have z : 0 < sur X r i := of_decide_eq_true z
              have iL : i ∈ lotN M X h := Classical.byContradiction fun n => by rw [out i n] at z; omega
              have lt := under i iL z
              refine ⟨_, rfl, _, rfl, t, M, i, r, 1, rfl, x56 _ _ ht, iM, hm8, fun t2 J7 x7 ht2 => ?_⟩
              have le : ∀ q, 0 ≤ upTo r i 1 q ∧ upTo r i 1 q ≤ δ q := fun q => by
                have := hr' q
                unfold upTo
                by_cases e : q = i
                · rw [if_pos e, e]
                  have := hr' i
                  omega
                · rw [if_neg e]
                  omega
              have s1 := sum_le (r := upTo r i 1) (δ := δ) (fun q => (le q).2) M
              have s2 := sum_up (r := r) (p := i) M
              rw [if_pos iM] at s2
              refine ⟨m - 1, by omega, t2, upTo r i 1, _, rfl, xJ.trans (x56.trans x7), ht2, le, ⟨i, ?_⟩, by omega⟩
              unfold upTo
              rw [if_pos rfl]
              have := hr' i
              omega
            · have z : ¬ 0 < sur X r i := fun q => z (decide_eq_true q)
              refine ⟨⟨_, rfl⟩, x56, fun q hq => ?_⟩
              by_cases e : q = i
              · rw [e]
                exact z
              · exact no q (by omega)
          · rintro σ' J5 ⟨_, _, no⟩
            rw [List.length_map, List.length_range] at no
            exact absurd pos (no q2 (lst.least.lt q2L))
        · refine ⟨_, rfl, kY t r J' hb (x03.trans (xJ.trans x4)) (x4 _ _ ht) (grown ins lst nu hr' nz fun q hq => ?_)⟩
          refine Int.not_lt.mp fun neg => z (List.any_eq_true.mpr ⟨true, List.mem_map.mpr ⟨q, List.mem_range.mpr hq, decide_eq_true neg⟩, rfl⟩)
end
end R23

set_option Elab.async false
set_option linter.all false
set_option maxRecDepth 100000
set_option maxHeartbeats 4000000
set_option pp.maxSteps 100
/-! max of a tuple of numbers. -/
namespace R23
open PySem L2 PySem.Spec PyProof.Rows
section
variable {prog : Program} {w : World} {A : Around} {E : Value → Shared → Prop} {s : Shared} {l : Addr} {xs : Array (Int × Tok)} {its : List Value} {ns : List Int} {Q : Value → Shared → Prop}
theorem max_intTup (hh : A.handled = none) (hl : s.heap.IsTuple l (intItems xs)) (hne : 0 < xs.size)
    (h : ∀ v h' tk, (intItems xs)[argBest (fun i j => decide (numAt xs i > numAt xs j)) (xs.size - 1)]? = some v → (∀ b o, s.heap.get? b = some o → h'.get? b = some o) → Q v { s with heap := h', toks := tk }) :
    wpAny (model prog w) A (call (.builtin "max") [.ref l]) Q E s := by
  have hlt : l < s.heap.objs.size := by obtain ⟨_, e, _⟩ := hl; exact Heap.lt_size e
  refine call_max_walk (wpAny_pyIter_tuple hl ?_)
  refine ⟨_, _, _, _, _, _, _, rfl, Walks.tuple (A := A.in1) hh _ l (Nat.ne_of_lt hlt) (intItems xs), ⟨⟨_, Heap.get?_push_size _ rfl, rfl, rfl⟩, hl.push _⟩, (fun b hb => ?_), by simpa [intItems] using hne, CmpOf.ints_gt (numAt xs) (fun _ _ => intItems_at), fun v h' tk hP hk => ?_⟩
  · show b < (s.heap.push _).objs.size
    rw [Heap.size_push]
    rcases List.mem_cons.mp hb with rfl | hb
    · exact Nat.lt_succ_self _
    · rcases List.mem_cons.mp hb with rfl | hb
      · exact Nat.lt_succ_of_lt hlt
      · cases hb
  · refine h v h' tk (by simpa [intItems] using hP) fun b o e => ?_
    refine hk b o (fun hm => ?_) (Heap.get?_push_of_some _ e)
    rcases List.mem_cons.mp hm with e1 | hm
    · exact absurd (e1 ▸ Heap.lt_size e) (Nat.lt_irrefl _)
    · cases hm
theorem max_rawT (hh : A.handled = none) (hl : s.heap.IsTuple l its.toArray) (hi : IntsAre its ns) (hne : 0 < ns.length)
    (h : ∀ h' tk M t', (∀ b o, s.heap.get? b = some o → h'.get? b = some o) → M ∈ ns → (∀ a, a ∈ ns → a ≤ M) → Q (.int M t') { s with heap := h', toks := tk }) : wpAny (model prog w) A (call (.builtin "max") [.ref l]) Q E s := by
  obtain ⟨xs, e⟩ := hi.allInts.items
  have hn : numsOf (intItems xs).toList = ns := by rw [← e]; exact hi.numsOf
  rw [nums_intItems] at hn
  subst hn
  rw [e] at hl
  have hsz : 0 < xs.size := by simpa using hne
  refine max_intTup hh hl hsz fun v h' tk hv hk => ?_
  obtain ⟨t, rfl⟩ := intItems_at hv
  obtain ⟨h1, h2⟩ := argBest_gt (numAt xs) (xs.size - 1)
  refine h h' tk _ t hk ?_ fun a ha => ?_
  · rw [numAt_eq]; exact PySem.getD_mem (by rw [List.length_map, Array.length_toList]; omega)
  · obtain ⟨j, hj, rfl⟩ := mem_getD ha
    rw [List.length_map, Array.length_toList] at hj
    rw [← numAt_eq]; exact h2 j (by omega)
end
/-- max(t), of a tuple of numbers -/
def rMaxT (K : PySem.W.Frag) : List V → Hp → VK → Prop := fun vs H Q => ∃ (a : Addr) (ns : List Int), vs = [V.ref a] ∧ SqT K H a (ns.map V.int) ∧ 0 < ns.length ∧ ∀ m, m ∈ ns → (∀ y, y ∈ ns → y ≤ m) → Q (.int m) H
theorem cr_maxT {X : Cx} (hc : X.calm = true) : CallR X (.builtin "max") (rMaxT X.K) := by
  intro pins s σ H vs us Q I r h
  obtain ⟨a, ns, rfl, hs, hne, q⟩ := h
  obtain ⟨its, rv, hl, _⟩ := I.tuple hs
  rw [Vals.ref1 r]
  exact max_rawT (I.ok.hd hc) (by first | exact hl | exact hl.isTuple | exact IsTup.isTuple hl) rv.ints hne fun h' tk m t' hk h1 h2 => ⟨.int _, H, I.kept hk, ⟨_, rfl⟩, q m h1 h2⟩
end R23

set_option Elab.async false
set_option linter.all false
set_option maxRecDepth 100000
set_option maxHeartbeats 4000000
set_option pp.maxSteps 60
/-! sorted(d), d a dict whose keys are tuples of numbers: its keys, ascending. -/
namespace R23
open PySem L2 PySem.Spec PyProof.Rows
open Classical in
/-- the numbers of the tuple that stands at b -/
noncomputable def rowK (H : Hp) (b : Addr) : List Int := if h : ∃ ns : List Int, ns ≠ [] ∧ H b = some (.tup (ns.map V.int)) then h.choose else [0]
theorem int_inj : ∀ {a b : List Int}, a.map V.int = b.map V.int → a = b
  | [], [], _ => rfl
  | [], _ :: _, h => by cases h
  | _ :: _, [], h => by cases h
  | x :: a, y :: b, h => by
    rw [List.map_cons, List.map_cons] at h
    injection h with h1 h2
    injection h1 with h1
    rw [h1, int_inj h2]
theorem rowK_of {H : Hp} {b : Addr} {ns : List Int} (ne : ns ≠ []) (h : H b = some (.tup (ns.map V.int))) : rowK H b = ns := by
  have e : ∃ ns : List Int, ns ≠ [] ∧ H b = some (.tup (ns.map V.int)) := ⟨ns, ne, h⟩
  unfold rowK
  rw [dif_pos e]
  have c := h.symm.trans e.choose_spec.2
  injection c with c
  injection c with c
  exact (int_inj c).symm
theorem rowK_ne (H : Hp) (b : Addr) : rowK H b ≠ [] := by
  unfold rowK
  split
  · rename_i h
    exact h.choose_spec.1
  · simp
noncomputable def encK (H : Hp) (b : Addr) : PyData := .tuple ((rowK H b).map .int)
theorem ints_reads {h : Heap} : ∀ {ns : List Int} {its : List Value}, Vals (ns.map V.int) its → ReadsAll h its (ns.map .int) []
  | [], _, .nil => .nil
  | n :: ns, _, .cons r t => by
    obtain ⟨k, rfl⟩ := r
    exact ReadsAll.cons (.int n k) (ints_reads t)
theorem there_ob {P : Program} {w : World} {H : Hp} {h : Heap} {a : Addr} {o : HO} (x : ObjOk P w H h a o) : ∃ ob, h.get? a = some ob := by
  cases o with
  | lst xs => obtain ⟨_, _, _, _, e⟩ := x; exact ⟨_, e⟩
  | tup xs => obtain ⟨_, _, _, ob, e, _⟩ := x; exact ⟨_, e⟩
  | dK kvs => obtain ⟨_, _, _, _, ob, _, _, e, _⟩ := x; exact ⟨_, e⟩
  | dT kvs => obtain ⟨_, _, _, _, ob, _, _, e, _⟩ := x; exact ⟨_, e⟩
  | set S n => obtain ⟨ob, _, _, _, e, _⟩ := x; exact ⟨_, e⟩
  | ins C dx fs => obtain ⟨_, _, _, e, _⟩ := x; exact ⟨_, e⟩
  | own y => obtain ⟨_, e⟩ := x; exact ⟨_, e⟩
  | xd fs => obtain ⟨_, ⟨_, _, _, e, _⟩, _⟩ := x; exact ⟨_, e⟩
  | rng lo hi => obtain ⟨_, _, _, e⟩ := x; exact ⟨_, e⟩
  | frz ob u => exact ⟨_, x.1⟩
  | tbl ps => exact ⟨_, show h.get? a = some _ from x⟩
  | met f y => exact ⟨_, show h.get? a = some _ from x⟩
  | ext φ => obtain ⟨_, ⟨_, e⟩, _⟩ := x; exact ⟨_, e⟩
theorem each_refs : ∀ bs : List Addr, PySem.W.EachIs (fun v b => v = Value.ref b) (bs.map Value.ref) bs
  | [] => .nil
  | b :: bs => .cons rfl (each_refs bs)
theorem of_each_refs : ∀ {out : List Value} {bs : List Addr}, PySem.W.EachIs (fun v b => v = Value.ref b) out bs → out = bs.map Value.ref
  | _, _, .nil => rfl
  | _, _, .cons r t => by rw [List.map_cons, ← of_each_refs t, r]
theorem each_of_mem {R : Value → Addr → Prop} : ∀ {bs : List Addr}, (∀ b ∈ bs, R (.ref b) b) → PySem.W.EachIs R (bs.map Value.ref) bs
  | [], _ => .nil
  | b :: bs, h => .cons (h b List.mem_cons_self) (each_of_mem fun c hc => h c (List.mem_cons_of_mem _ hc))
def rSortedDI : List V → Hp → VK → Prop := fun vs H Q => ∃ (a : Addr) (kvs : List (List Key × V)), vs = [.ref a] ∧ H a = some (.dT kvs) ∧ (∀ kv ∈ kvs, ∃ ns : List Int, ns ≠ [] ∧ kv.1 = ns.map .inl) ∧
  ∀ (bs : List Addr) (p : Addr), IsKeys H kvs bs → H p = Option.none → Q (.ref p) (upd H p (.lst ((bs.mergeSort (PySem.W.dataLe false (encK H))).map V.ref)))
theorem cr_sortedDI {X : Cx} (hc : X.calm = true) (hu : X.A.units + 64 < cLine) : CallR X (.builtin "sorted") rSortedDI := by
  rintro pins s σ H vs us Q I r ⟨a, kvs, rfl, ha, two, q⟩
  obtain ⟨u, rfl, rx⟩ := vals1 r
  cases rx
  obtain ⟨z, hs, ks, pr, o, es, ep, ho, hx, hdt, he, hn⟩ := (show ObjOk X.prog X.w H s.heap a (.dT kvs) from I.hok a _ ha)
  have l1 : es.size = ks.length := size_of_entries he
  have l2 : kvs.length = ks.length := Paired.length pr
  have isk := isKeys_of pr
  obtain ⟨bs, hbs⟩ : ∃ bs, bs = ks.map fun x => x.2.1 := ⟨_, rfl⟩
  rw [← hbs] at isk
  have lb : bs.length = ks.length := by rw [hbs, List.length_map]
  have rows : ∀ b ∈ bs, ∃ ns : List Int, ns ≠ [] ∧ H b = some (.tup (ns.map V.int)) := by
    have : ∀ {l : List (List Key × V)} {m : List Addr}, IsKeys H l m → (∀ kv ∈ l, ∃ ns : List Int, ns ≠ [] ∧ kv.1 = ns.map .inl) → ∀ b ∈ m, ∃ ns : List Int, ns ≠ [] ∧ H b = some (.tup (ns.map V.int)) := by
      intro l m q
      unfold IsKeys at q
      induction q with
      | nil => intro _ b hb; exact nomatch hb
      | cons h t ih =>
        intro hl b hb
        rcases List.mem_cons.mp hb with e | hb
        · subst e
          obtain ⟨ns, ne, e⟩ := hl _ List.mem_cons_self
          rw [e, List.map_map] at h
          exact ⟨ns, ne, h⟩
        · exact ih (fun kv hkv => hl kv (List.mem_cons_of_mem _ hkv)) b hb
    exact this isk two
  refine Calls.call_function_entry kind_sorted plain_sorted entry_sorted (args_sorted1 _) ?_
  unfold Builtin.«sorted»
  refine wpAny_bind (m := checkCount "sorted" 1 1 _) (wpAny_pure ?_)
  refine wpAny_bind (PySem.W.kdu_collect (L2.kdl_raw hs hx hdt) (I.ok.hd hc) ho (by omega) fun h' tk acc kp it => ?_)
  have ea : acc.toList = bs.map Value.ref := by
    rw [hbs, List.map_map]
    have hl : acc.toList.length = ks.length := by rw [Array.length_toList, it.1]; exact l1
    apply List.ext_getElem?
    intro j
    rw [List.getElem?_map]
    cases hj : acc.toList[j]? with
    | none =>
      have h1 := List.getElem?_eq_none_iff.mp hj
      rw [List.getElem?_eq_none (by omega)]
      rfl
    | some v =>
      obtain ⟨en, hen, hv⟩ := it.2 j v (by rw [← Array.getElem?_toList]; exact hj)
      have qe := entry_at he j
      rw [hen] at qe
      cases hb : ks[j]? with
      | none =>
        rw [hb] at qe
        exact nomatch (show some en = none from qe)
      | some b =>
        rw [hb] at qe
        have e2 : en = entryOfKey (tupleKind (mixKind X.prog X.w)) b := Option.some.inj qe
        rw [hv, e2]
        rfl
  rw [ea]
  have hz : (bs.map Value.ref).length ≤ sizeLine := by rw [List.length_map]; omega
  refine wpAny_bind (wpAny_newList ?_ hz)
  have hoL : (h'.push (seqObj "list" (bs.map Value.ref).toArray 0)).get? h'.objs.size = some (seqObj "list" (bs.map Value.ref).toArray 0) := Heap.get?_push_size _ rfl
  have er : PySem.W.EachIs (fun v b => ∃ as, Reads (h'.push (seqObj "list" (bs.map Value.ref).toArray 0)) v (encK H b) as ∧ h'.objs.size ∉ as) (bs.map Value.ref) bs := each_of_mem fun b hb => by
    obtain ⟨ns, ne, hH⟩ := rows b hb
    obtain ⟨_, its, rv, o', h1, h2, n, h3⟩ := (show ObjOk X.prog X.w H s.heap b (.tup (ns.map V.int)) from I.hok b _ hH)
    refine ⟨[], ?_, fun h => nomatch h⟩
    unfold encK
    rw [rowK_of ne hH]
    exact .tuple (Heap.get?_push_of_some _ (kp _ _ h1)) h2 h3 (by rw [List.toList_toArray]; exact ints_reads rv)
  have dep : ∀ b, (encK H b).depth ≤ 1 := fun b => by
    unfold encK
    simp only [PyData.depth]
    rw [PySem.W.depth_ints]
    exact Nat.le_refl _
  refine wpAny_bind (wpAny_holding (PySem.W.list_sort_data (enc := encK H) hoL (each_refs bs) er (PySem.W.AllAlike.of fun b b' => ?_) (PySem.W.Sortable.tuples fun b => ?_) (by rw [List.length_map] at hz; exact hz) (fun b _ => ?_) fun out len eo => ?_))
  · unfold encK
    simp [PySem.W.alike, PySem.W.alike_ints]
  · unfold encK
    have := rowK_ne H b
    cases e : rowK H b with
    | nil => exact absurd e this
    | cons x r => exact ⟨_, _, rfl⟩
  · have := dep b
    show X.A.units + 1 + 1 + _ < cLine
    omega
  · have eo := of_each_refs eo
    subst eo
    obtain ⟨n, hn⟩ := sortedHeap_at (out := ((bs.mergeSort (PySem.W.dataLe false (encK H))).map Value.ref).toArray) hoL
    have hg : s.heap.get? h'.objs.size = Option.none := by
      cases e : s.heap.get? h'.objs.size with
      | none => rfl
      | some ob => exact absurd (Heap.lt_size (kp _ _ e)) (Nat.lt_irrefl _)
    have hf : H h'.objs.size = Option.none := by
      cases e : H h'.objs.size with
      | none => rfl
      | some u =>
        obtain ⟨ob, e2⟩ := there_ob (I.hok _ _ e)
        rw [hg] at e2
        cases e2
    refine wpAny_pure ⟨_, rfl, .ref h'.objs.size, upd H h'.objs.size (.lst ((bs.mergeSort (PySem.W.dataLe false (encK H))).map V.ref)), ?_, rfl, q bs _ isk hf⟩
    refine I.laidN (fun b ob e => ?_) hg hf ⟨?_, _, n, ?_, hn⟩
    · have lt := Heap.lt_size (kp _ _ e)
      rw [sortedHeap_old (Nat.ne_of_lt lt) (by rw [size_push']; exact Nat.lt_succ_of_lt lt)]
      exact Heap.get?_push_of_some _ (kp _ _ e)
    · rw [List.length_map, List.length_mergeSort]
      rw [List.length_map] at hz
      exact hz
    · exact L2.vals_refs _
end R23

set_option Elab.async false
set_option linter.all false
set_option maxRecDepth 100000
set_option maxHeartbeats 4000000
set_option pp.maxSteps 100
/-! _law_euler. -/
namespace R23
open PySem L2 K9M M21 M22
abbrev sLEu : Stmt := top 42
def spLEu : Sp := fun vs H Q _ => ∃ (b t : Addr) (M : Nat) (A : Ar) (r : Nat → Int), vs = [.ref b, .ref t, .ref t] ∧ M ≤ 8 ∧ TT H b (A.map arL) ∧ A.length ≤ 12 ∧ Inside M A ∧ H t = some (.tup (lab M r)) ∧ Small r ∧ ∀ H' : Hp, Ext H H' → Q (.int (qf M A r)) H'
section
variable {P : Program} {w : World} {K : PySem.W.Frag} {mg : Str → Option Value} {base : Heap}
abbrev leuN : List Str := ["arrows","one","other","more","less","a","b"]
theorem scLEu : FnScope leuN ["arrows", "one", "other"] (defScope sLEu) := ⟨rfl, rfl, rfl, by decide +kernel, rfl, by decide +kernel, by decide +kernel⟩
theorem ok_leu {f : Addr} {fd : FuncData} (F : L2.Fun K "_law_euler" "_law_euler" sLEu f fd) (T : Gb mg) (M : FormC mg) : FnOk P w K mg base CX0 1 f fd ["arrows", "one", "other"] spLEu := by
  refine F.ok scLEu (fun vs H Q E h => ?_) (fun cdv A outer s H vs Q E hr h => ?_)
  · obtain ⟨b, t, M, A, r, rfl, _⟩ := h
    rfl
  · obtain ⟨b, c, M', Ars, r, rfl, hm8, ⟨as, hb, pt⟩, hL, ins, hc, sm, k⟩ := h
    refine ⟨_, pss_one (ps_ret (pe_op op_sub (pe_callB (cr_sum rfl) (by rfl) M.sum (by decide +kernel) (pa_cons (pe_lc (own := [("more", 3), ("less", 4)]) (g := gTup K 2 (gCons (gName 3) (gCons (gName 4) gNil))) (tt := tYes) rfl scLEu.nd (RZ.pi_zipA (by rfl) M.zip (pa_cons (pv 1) (pa_cons (pv 2) pa_nil))) (blkOk_by (N := leuN) (sc := defScope sLEu) (by decide +kernel)) (fun _ _ _ _ _ => (pg_tup rfl (pgs_cons (pg_name (i := 3) scLEu.nd rfl (Or.inl rfl)) (pgs_cons (pg_name (i := 4) scLEu.nd rfl (Or.inl rfl)) pgs_nil)))) (fun _ _ _ _ _ => pts_nil) (fun _ _ _ _ _ => (pe_op op_mul (pv 3) (pv 4)))) pa_nil)) (pe_callB (cr_sum rfl) (by rfl) M.sum (by decide +kernel) (pa_cons (pe_lc (own := [("a", 5), ("b", 6)]) (g := gTup K 2 (gCons (gName 5) (gCons (gName 6) gNil))) (tt := tYes) rfl scLEu.nd (pi_tup (pv 0)) (blkOk_by (N := leuN) (sc := defScope sLEu) (by decide +kernel)) (fun _ _ _ _ _ => (pg_tup rfl (pgs_cons (pg_name (i := 5) scLEu.nd rfl (Or.inl rfl)) (pgs_cons (pg_name (i := 6) scLEu.nd rfl (Or.inl rfl)) pgs_nil)))) (fun _ _ _ _ _ => pts_nil) (fun _ _ _ _ _ => (pe_op op_mul (pe_ix (r := rIxT K) ix_tup (pv 1) (pv 5) (fun _ _ => rfl)) (pe_ix (r := rIxT K) ix_tup (pv 2) (pv 6) (fun _ _ => rfl))))) pa_nil)))), ?_⟩
    refine ⟨_, rfl, _, rfl, c, c, _, _, rfl, .inr ⟨SqT.of hc, SqT.of hc, fun D2 nD2 => ?_⟩⟩
    refine lc_zipT (K := K) (a := c) (b := c) (xs := lab M' r) (ys := lab M' r) rfl (fun i H' => Ext H H' ∧ H' D2 = some (.lst ((sqs r i).map V.int))) ⟨Ext.upd nD2, upd_same⟩ (fun i H' q => ⟨SqT.of (q.1 _ _ hc), SqT.of (q.1 _ _ hc)⟩) ?_ ?_
    · rintro i u v t H' hu hv ⟨ex', hD2⟩ nt
      obtain ⟨im, rfl⟩ := lab_mem hu
      obtain ⟨_, rfl⟩ := lab_mem hv
      have bn := sm i
      refine ⟨t, _, rfl, SqT.of upd_same, rfl, _, _, rfl, _, _, rfl, rfl, rfl, tyes_in ?_⟩
      refine ⟨_, rfl, _, rfl, _, _, rfl, rfl, .inl ⟨by omega, by omega⟩, ?_⟩
      have hD3 := Ext.upd (o := .tup [.int (r i), .int (r i)]) nt _ _ hD2
      refine ⟨_, hD3, small1000 (by unfold sqs; rw [List.length_map, List.length_map, List.length_range]; omega), fun b' o eo => ?_, ?_⟩
      · rw [upd_ne (ne_of_none eo nD2)]
        exact Ext.upd nt _ _ (ex' _ _ eo)
      · unfold sqs
        rw [upd_same, List.range_succ, List.map_append, List.map_append]
        rfl
    · rintro H2 ⟨ex, hD2⟩
      rw [lab_len] at hD2
      refine ⟨D2, _, rfl, SqL.of hD2, ?_⟩
      have hb2 := ex _ _ hb
      refine ⟨_, rfl, b, rfl, ⟨_, SqT.of hb2⟩, fun D nD => ?_⟩
      refine lc_tup (K := K) (a := b) (xs := as.map V.ref) (fun i H'' => Ext H2 H'' ∧ H'' D = some (.lst (((alongs Ars r).take i).map V.int))) ⟨Ext.upd nD, upd_same⟩ (fun i H'' _ e => SqT.of (e.1 _ _ hb2)) ?_ ?_
      · rintro i z H'' hz ⟨up, hD⟩
        obtain ⟨q, a, rfl, ha, hq⟩ := TT.arrow pt hz
        obtain ⟨ia, ib⟩ := ins a (List.mem_of_getElem? ha)
        have up' := ex.trans up
        refine ⟨q, _, rfl, SqT.of (up' _ _ hq), rfl, _, _, rfl, _, _, rfl, rfl, rfl, tyes_in ?_⟩
        obtain ⟨l1, l2⟩ := sm a.1
        refine ⟨_, rfl, _, rfl, c, _, _, _, rfl, rfl, SqT.of (up' _ _ hc), lab_at ia rfl, _, rfl, _, rfl, c, _, _, _, rfl, rfl, SqT.of (up' _ _ hc), lab_at ib rfl, _, _, rfl, rfl, .inl ⟨by omega, by omega⟩, ?_⟩
        refine ⟨_, hD, small1000 (by unfold alongs; rw [List.length_map, List.length_take, List.length_map]; omega), fun b' o eo => ?_, ?_⟩
        · rw [upd_ne (ne_of_none eo nD)]
          exact up _ _ eo
        · have ha' : (alongs Ars r)[i]? = some (r a.1 * r a.2) := by unfold alongs; rw [List.getElem?_map, ha]; rfl
          rw [upd_same, List.take_succ, ha', List.map_append]
          rfl
      · rintro H3 ⟨up, hD⟩
        have len : (as.map V.ref).length = (alongs Ars r).length := by unfold alongs; rw [List.length_map, PT2.len pt, List.length_map, List.length_map]
        rw [len, List.take_of_length_le (Nat.le_refl _)] at hD
        exact ⟨D, _, rfl, SqL.of hD, _, _, rfl, rfl, k H3 (ex.trans up)⟩
end
end R23

set_option Elab.async false
set_option linter.all false
set_option maxRecDepth 100000
set_option maxHeartbeats 4000000
/-! Errors without fields. -/
namespace R23
open PySem L2
abbrev sWE : Stmt := inClass (top 4) 0
section
open PySem.Spec PyProof.Rows
structure ExIs (K : PySem.W.Frag) (C : Addr) : Prop where
  cls : (PySem.W.clsIn K C).isSome = true
  ga : PySem.W.findIn K (.ref C) "__getattribute__" = some (some (.builtin "BaseException.__getattribute__"))
  gt : PySem.W.findIn K (.ref C) "__getattr__" = some none
  sb : PySem.W.subIn K (.ref C) (.type "BaseException") = some true
  ha : PySem.W.findIn K (.ref C) "__class__" = some (some (.builtin "object.__class__"))
  hn : PySem.W.specialIn K (.builtin "object.__class__") "__get__" = some (some (.builtin "getset_descriptor.__get__"))
  ht : PySem.W.takesIn K (.builtin "object.__class__") = some true
  hm : PySem.W.mroIn K C (.type "object") = some true
variable {X : Cx} {pins : List (Addr × Obj)} {σ : L2.St} {H : Hp} {s : Shared} {a C : Addr} {fs : List (Str × V)}
/-- an exception made and kept -/
def tExv (C : Addr) (sp : Sp) (t : TA) : TE := fun σ H Q => t σ H fun vs H1 => vs.length ≤ 1000 ∧ ∀ a, H1 a = none → sp (.ref a :: vs) (upd H1 a (exo a C none)) (fun v H2 => v = .non ∧ Q (.ref a) H2) E0
variable {CX : CXT} {x : Str} {fI : Addr} {k : Nat} {fd : FuncData} {ps : List Str} {sp : Sp} {e : Expr} {es : List Expr} {ta : TA} {p pos : Pos}
theorem run_exv (T : OexC X.K C) (hi : PySem.W.findIn X.K (.ref C) "__init__" = some (some (.ref fI))) (ht : PySem.W.typeIn X.K (.ref fI) = some (.type "function"))
    (G : FnOk X.prog X.w X.K X.mg X.base CX k fI fd ps sp) (hr : Room (k + 1) X.A) (hb : Binds X.K fd ps []) (hx : Passes CX X E0) {vs : List V} {us : List Value} {H1 : Hp} {s1 : Shared} {Q : VK} (I1 : Inv X pins σ H1 s1) (r1 : Vals vs us) (hz : vs.length ≤ 1000)
    (q1 : ∀ a, H1 a = none → sp (.ref a :: vs) (upd H1 a (exo a C none)) (fun v H2 => v = .non ∧ Q (.ref a) H2) E0) : wpAny (model X.prog X.w) X.A (call (.ref C) us) (EP X pins σ Q) X.xe s1 := by
  obtain ⟨_, _, _, _, bm, _, _, _, _, _, _, _, _, _, _, inCls, mroOk⟩ := T.cls
  obtain ⟨h0, gs, dr, tk, os⟩ := s1
  let o := h0.objs.size + 1
  let h1 := (h0.push (PySem.W.kdv_tup us)).push (PySem.HandSPX.excO C h0.objs.size)
  have new : H1 o = none := I1.hok.fresh (Nat.le_succ _)
  have old : ∀ b u, h0.get? b = some u → h1.get? b = some u := fun b u q => Heap.get?_push_of_some _ (Heap.get?_push_of_some _ q)
  have there : h1.get? o = some (PySem.HandSPX.excO C h0.objs.size) := by
    show ((h0.push (PySem.W.kdv_tup us)).push (PySem.HandSPX.excO C h0.objs.size)).get? (h0.objs.size + 1) = _
    heap_get
  have J : Inv X pins σ (upd H1 o (exo o C none)) ⟨h1, gs, dr, tk, os⟩ := I1.laid (t' := tk) old (Nat.le_succ _) (exo_ok there)
  have asked := q1 o new
  have rr : Vals (V.ref o :: vs) (Value.ref o :: us) := .cons rfl r1
  have len : (Value.ref o :: us).length = ps.length := rr.length ▸ G.len _ _ _ _ asked
  have bound := hb _ (Value.ref o :: us) J.kIn (by rw [List.append_nil]; exact len)
  rw [List.append_nil] at bound
  have few : us.length ≤ sizeLine := by
    have q : us.length = vs.length := (Paired.length r1).symm
    rw [q, sizeLine_eq]
    omega
  have body := G.run _ X.stack _ _ ⟨Value.ref o :: us, []⟩ _ _ _ E0 (hr.make C us []) (J.env0.make C us []) bound rr asked
  refine wpAny_call (PySem.HandSPX.call_own F.excBase_ValueError (fun Y => PySem.HandSPX.refsVE_contains Y bm mroOk) (I1.kIn _ _ inCls) (PySem.W.looks_findIn I1.kIn hi) (fun self => PySem.W.bind_fn I1.kIn self ht) few (codeAny_mono body ?_))
  intro out s2 z
  match out, z with
  | .error er, z => exact hx pins σ _ _ er s2 J z
  | .ok (.ret u), z =>
    obtain ⟨v, H2, J2, rv, ev, qq⟩ := J.after z
    subst ev
    exact ⟨rv, .ref o, H2, J2, rfl, qq⟩
  | .ok .next, z => exact z.elim
  | .ok .brk, z => exact z.elim
  | .ok .cont, z => exact z.elim
theorem pe_exv0 (T : OexC X.K C) (iC : PySem.W.findIn X.K (.ref C) "__init__" = some (some (.ref fI))) (tI : PySem.W.typeIn X.K (.ref fI) = some (.type "function"))
    (F1 : FnOk X.prog X.w X.K X.mg X.base CX k fI fd ps sp) (hr : Room (k + 1) X.A) (hb : Binds X.K fd ps []) (hx : Passes CX X E0) (hg : Gl X x) (hm : X.mg x = some (.ref C))
    (hdb : (x == ("__debug__" : Str)) = false := by decide) :
    PE X (.Call (.Name x p) [] [] pos) (tExv C sp tNil) := by
  refine ⟨fun pins s σ H Q I h => ?_⟩
  refine wpAny_Call_Name_kw (ld_glob I hg hm ?_ hdb)
  obtain ⟨hz, q1⟩ := h
  exact PySem.W.callWith_K0 I.kIn T.kC (run_exv (us := []) T iC tI F1 hr hb hx I .nil hz q1)
/-- raising an exception without fields that has just been made -/
theorem pmk_v {X : Cx} {e : Expr} {te : TE} (none' : X.ex = []) (he : PE X e te) :
    PMk X e (fun τ H Q => te τ H fun x J => ∃ a C, x = .ref a ∧ J a = some (exo a C none) ∧ X.H_0 a = none ∧ OexC X.K C ∧ Q (.ref C) none (delH J a)) := by
  intro pins s τ H Q I want
  refine thn (he.run pins s τ H _ I want) fun u s1 ⟨v, J, I1, r, a, C, ex, ha, h0, T, z⟩ => ?_
  subst ex
  obtain rfl : u = Value.ref a := r
  obtain ⟨t1, there⟩ := exo_at I1.hok ha
  obtain ⟨G, le, gone, I2⟩ := I1.untrack ha (fr0_none h0) none'
  exact ⟨a, _, _, { s1 with heap := G }, delH J a, .ref C, none, rfl, I2, le, gone, there, ⟨rfl, rfl⟩, rfl, rfl, delH_same, rfl, I1.bare, raises_own T.exC T.tyC, z⟩
theorem ps_raise_v {X : Cx} {pos : Pos} (H0 : Hp) (K0 : PySem.W.Frag) {W : WX} {e : Expr} {te : TE} (tk : Takes X W) (e0 : X.H_0 = H0) (eK : X.K = K0) (he : PE X e te) (calm : X.calm = true := by rfl) (none' : X.ex = [] := by rfl) :
    PS X (.Raise (some e) none pos) (fun _ τ H => te τ H fun x J => ∃ a C, x = .ref a ∧ J a = some (exo a C none) ∧ H0 a = none ∧ OexC K0 C ∧ W (.ref C) none τ (delH J a)) := by
  subst e0 eK
  exact ps_raise calm tk (pmk_v none' he)
end
def spF0 : Sp := fun vs H Q _ => ∃ a : Addr, vs = [.ref a] ∧ Q .non H
/-- an error class without fields: what the top has written of it -/
structure ErrC (K : PySem.W.Frag) (mg : Str → Option Value) (x : Str) (C fI : Addr) : Prop where
  ex : OexC K C
  iC : PySem.W.findIn K (.ref C) "__init__" = some (some (.ref fI))
  tI : PySem.W.typeIn K (.ref fI) = some (.type "function")
  gC : mg x = some (.ref C)
  is : ExIs K C
theorem ext_delH {H H1 : Hp} {a : Addr} {o : HO} (e : Ext H H1) (na : H1 a = none) : Ext H (delH (upd H1 a o) a) := fun b u h => by
  have h1 := e _ _ h
  have ne := ne_of_none h1 na
  unfold delH
  rw [if_neg ne, upd_ne ne]
  exact h1
section
variable {P : Program} {w : World} {K : PySem.W.Frag} {mg : Str → Option Value} {base : Heap}
theorem scWE : FnScope ["self"] ["self"] (defScope sWE) := ⟨rfl, rfl, rfl, by decide +kernel, rfl, by decide +kernel, by decide +kernel⟩
theorem ok_we {f : Addr} {fd : FuncData} (F : L2.Fun K "__init__" "WebError.__init__" sWE f fd) : FnOk P w K mg base CX0 1 f fd ["self"] spF0 := by
  refine F.ok scWE (fun vs H Q E h => ?_) (fun cdv A outer s H vs Q E hr h => ?_)
  · obtain ⟨a, rfl, _⟩ := h
    rfl
  · obtain ⟨a, rfl, k⟩ := h
    exact ⟨_, pss_one ps_pass, k⟩
/-- a raise of a class without fields -/
theorem raise0 {C : Addr} {x : Str} {fI : Addr} (N : ErrC K mg x C fI) {H H1 : Hp} {E : XK} {τ : L2.St} (e : Ext H H1) (k : ∀ H', Ext H H' → E (.ref C) none H') :
    tExv C spF0 tNil τ H1 (fun x J => ∃ a C', x = .ref a ∧ J a = some (exo a C' none) ∧ H a = none ∧ OexC K C' ∧ E (.ref C') none (delH J a)) :=
  ⟨Nat.zero_le _, fun a na => ⟨a, rfl, rfl, a, C, rfl, upd_same, none_back e na, N.ex, k _ (ext_delH e na)⟩⟩
end
end R23

set_option Elab.async false
set_option linter.all false
set_option maxRecDepth 100000
set_option maxHeartbeats 4000000
set_option pp.maxSteps 100
/-! rows. -/
namespace R23
open PySem L2 K9M M21 M22
abbrev sRows : Stmt := top 29
/-- the numbers of a row, as a dict's key -/
def keyR (M : Nat) (r : Nat → Int) : List Key := (List.range M).map fun i => .inl (r i)
theorem keyR_lab (M : Nat) (r : Nat → Int) : (keyR M r).map kV = lab M r := by
  unfold keyR lab
  rw [List.map_map]
  rfl
theorem keyR_inj {M : Nat} {A : Ar} {r s : Nat → Int} (R : Root M A r) (S : Root M A s) (h : keyR M r = keyR M s) : r = s := by
  funext i
  by_cases hi : i < M
  · have e : ∀ r : Nat → Int, (keyR M r)[i]? = some (.inl (r i)) := fun r => by
      unfold keyR
      rw [List.getElem?_map, List.getElem?_range hi]
      rfl
    have := e r
    rw [h, e s] at this
    injection this with this
    injection this with this
    exact this.symm
  · rw [R.off i (by omega), S.off i (by omega)]
def kvR (M : Nat) (r : Nat → Int) : List Key × V := (keyR M r, .bl true)
theorem val_kvR {M : Nat} {A : Ar} {r : Nat → Int} (R : Root M A r) : ∀ {F : List (Nat → Int)}, (∀ s ∈ F, Root M A s) → ((valV (F.map (kvR M)) (keyR M r)).isSome = true ↔ r ∈ F)
  | [], _ => by
    simp [valV]
  | s :: F, h => by
    have S := h s List.mem_cons_self
    rw [List.map_cons]
    by_cases e : keyR M s = keyR M r
    · rw [valV_pos (p := kvR M s) e]
      have := keyR_inj S R e
      subst this
      simp
    · rw [valV_neg (p := kvR M s) e, val_kvR R (F := F) fun t ht => h t (List.mem_cons_of_mem _ ht)]
      rw [List.mem_cons]
      exact ⟨.inr, fun z => z.elim (fun z => absurd (by rw [z]) e) id⟩
/-- rows that are told: sorted, each once, those whose form is 1 -/
def RowsAt (K : PySem.W.Frag) (H : Hp) (t : Addr) (M : Nat) (A : Ar) : Prop := ∃ (H0 : Hp) (bs : List Addr) (F : List (Nat → Int)), Ext H0 H ∧ H t = some (.lst ((bs.mergeSort (PySem.W.dataLe false (encK H0))).map V.ref)) ∧ Two (fun b r => H0 b = some (.tup (lab M r))) bs F ∧ F.Nodup ∧ ∀ r, r ∈ F ↔ Root M A r
def spRows (K : PySem.W.Frag) (CW CE : Addr) : Sp := fun vs H Q E => ∃ (p b : Addr) (M : Nat) (A : Ar), vs = [.ref p] ∧ WebAt CW H p (M : Int) b ∧ TT H b (A.map arL) ∧ 1 ≤ M ∧ M ≤ 8 ∧ A.length ≤ 12 ∧ Inside M A ∧
  (∀ H' : Hp, HasBad M A → Ext H H' → E (.ref CE) none H') ∧ ∀ (t : Addr) (H' : Hp), ¬ HasBad M A → Ext H H' → H t = none → RowsAt K H' t M A → Q (.ref t) H'
theorem two_concat {α β : Type} {R : α → β → Prop} : ∀ {l : List α} {a : α} {k : List β}, Two R (l ++ [a]) k → ∃ k' b, k = k' ++ [b] ∧ Two R l k' ∧ R a b
  | [], a, _, .cons r .nil => ⟨[], _, rfl, .nil, r⟩
  | x :: l, a, _, .cons r t => by
    obtain ⟨k', b, e, t', q⟩ := two_concat t
    exact ⟨_ :: k', b, by rw [e]; rfl, .cons r t', q⟩
theorem two_app {α β : Type} {R : α → β → Prop} : ∀ {l m : List α} {k n : List β}, Two R l k → Two R m n → Two R (l ++ m) (k ++ n)
  | _, _, _, _, .nil, h => h
  | _, _, _, _, .cons r t, h => .cons r (two_app t h)
theorem unit_is_R (p : Nat) : unit p = unitR p := rfl
/-- how far the search has come -/
structure Far (M : Nat) (A : Ar) (Fs Rs : List (Nat → Int)) : Prop where
  nd : Fs.Nodup
  fs : ∀ r ∈ Fs, Root M A r
  rs : ∀ r ∈ Rs, Root M A r
  us : ∀ p, p < M → unitR p ∈ Fs ∨ unitR p ∈ Rs
  on : ∀ r ∈ Fs, ∀ p, p < M → M22.sur A r p = 1 → bump r p 1 ∈ Fs ∨ bump r p 1 ∈ Rs
def nexts (M : Nat) (A : Ar) (r : Nat → Int) : List Nat := (List.range M).filter fun p => decide (M22.sur A r p = 1)
theorem Far.old {M : Nat} {A : Ar} {Fs Rs : List (Nat → Int)} {r : Nat → Int} (f : Far M A Fs (Rs ++ [r])) (h : r ∈ Fs) : Far M A Fs Rs := by
  have mv : ∀ s, s ∈ Fs ∨ s ∈ Rs ++ [r] → s ∈ Fs ∨ s ∈ Rs := fun s z => z.elim .inl fun z => (List.mem_append.mp z).elim .inr fun z => .inl (by rw [List.mem_singleton.mp z]; exact h)
  exact ⟨f.nd, f.fs, fun s hs => f.rs s (List.mem_append_left _ hs), fun p hp => mv _ (f.us p hp), fun s hs p hp e => mv _ (f.on s hs p hp e)⟩
theorem Far.new {M : Nat} {A : Ar} {Fs Rs : List (Nat → Int)} {r : Nat → Int} (nl : NoLoop A) (ab : Above M A) (hA : Inside M A) (f : Far M A Fs (Rs ++ [r])) (h : r ∉ Fs) : Far M A (Fs ++ [r]) (Rs ++ (nexts M A r).map fun p => bump r p 1) := by
  have R : Root M A r := f.rs r (List.mem_append_right _ List.mem_cons_self)
  have mv : ∀ s, s ∈ Fs ∨ s ∈ Rs ++ [r] → s ∈ Fs ++ [r] ∨ s ∈ Rs ++ (nexts M A r).map fun p => bump r p 1 := fun s z => z.elim (fun z => .inl (List.mem_append_left _ z)) fun z => (List.mem_append.mp z).elim (fun z => .inr (List.mem_append_left _ z)) fun z => .inl (List.mem_append_right _ z)
  have mn : ∀ p, p < M → M22.sur A r p = 1 → p ∈ nexts M A r := fun p hp e => List.mem_filter.mpr ⟨List.mem_range.mpr hp, decide_eq_true e⟩
  refine ⟨?_, fun s hs => ?_, fun s hs => ?_, fun p hp => mv _ (f.us p hp), fun s hs p hp e => ?_⟩
  · rw [List.nodup_append]
    exact ⟨f.nd, List.nodup_cons.mpr ⟨fun h => (by cases h), List.nodup_nil⟩, fun a ha b hb e => h (by rw [List.mem_singleton.mp hb] at e; rw [← e]; exact ha)⟩
  · rcases List.mem_append.mp hs with z | z
    · exact f.fs s z
    · rw [List.mem_singleton.mp z]
      exact R
  · rcases List.mem_append.mp hs with z | z
    · exact f.rs s (List.mem_append_left _ z)
    · obtain ⟨p, hp, rfl⟩ := List.mem_map.mp z
      obtain ⟨h1, h2⟩ := List.mem_filter.mp hp
      exact (Up.up r p ((root_iff hA nl ab r).mp R) (List.mem_range.mp h1) (of_decide_eq_true h2)).root nl
  · rcases List.mem_append.mp hs with z | z
    · exact mv _ (f.on s z p hp e)
    · rw [List.mem_singleton.mp z] at e ⊢
      exact .inr (List.mem_append_right _ (List.mem_map.mpr ⟨p, mn p hp e, rfl⟩))
theorem Far.done {M : Nat} {A : Ar} {Fs : List (Nat → Int)} (nl : NoLoop A) (ab : Above M A) (hA : Inside M A) (f : Far M A Fs []) : ∀ r, r ∈ Fs ↔ Root M A r := fun r => by
  refine ⟨f.fs r, fun R => ?_⟩
  have u := (root_iff hA nl ab r).mp R
  clear R
  induction u with
  | unit p hp => exact (f.us p hp).elim id fun z => nomatch z
  | up r p u hp s ih => exact (f.on r ih p hp s).elim id fun z => nomatch z
theorem Far.start {M : Nat} {A : Ar} (nl : NoLoop A) : Far M A [] ((List.range M).map unitR) := ⟨List.nodup_nil, fun r h => by (cases h), fun r h => by
  obtain ⟨p, hp, rfl⟩ := List.mem_map.mp h
  exact (Up.unit p (List.mem_range.mp hp)).root nl, fun p hp => .inr (List.mem_map_of_mem (List.mem_range.mpr hp)), fun r h => by (cases h)⟩
theorem Far.few {M : Nat} {A : Ar} {Fs Rs : List (Nat → Int)} (ab : Above M A) (f : Far M A Fs Rs) : Fs.length ≤ 2 ^ M := roots_few ab f.nd f.fs
section
variable {P : Program} {w : World} {K : PySem.W.Frag} {mg : Str → Option Value} {base : Heap}
abbrev rowsN : List Str := ["web","found","waiting","row","places","place"]
theorem scRows : FnScope rowsN ["web"] (defScope sRows) := ⟨rfl, rfl, rfl, by decide +kernel, rfl, by decide +kernel, by decide +kernel⟩
theorem ok_rows {f fI CW CE : Addr} {fd fdI : FuncData} (F : L2.Fun K "rows" "rows" sRows f fd) (T : Gb mg) (W : WebC K mg CW) (N : ErrC K mg "Endless" CE fI) (FI : FnOk P w K mg base CX0 1 fI fdI ["self"] spF0) (bI : Binds K fdI ["self"] [])
    (cEn : Cal P w K mg base 7 "endless" (spEnd CW) []) (cU : Cal P w K mg base 1 "unit_rows" spUnit []) (cS : Cal P w K mg base 2 "surplus" (spSur CW) []) (cR : Cal P w K mg base 1 "raised" spRai []) : FnOk P w K mg base (L2.CX P w) 8 f fd ["web"] (spRows K CW CE) := by
  refine F.okX scRows (fun vs H Q E h => ?_) (fun cdv A outer s H vs Q E hr h => ?_)
  · obtain ⟨p, b, M, A, rfl, _⟩ := h
    rfl
  · obtain ⟨p, b, M, Ars, rfl, hw, tt, hm1, hm8, hL, ins, kE, kQ⟩ := h
    have hr2 : Room 2 _ := hr.mono (by decide)
    refine ⟨_, C8.pss_cut (ps_if (pt_cmpR op_notN (C8.pe_c cEn hr (by decide) (by rfl) (pa_cons (pv 0) pa_nil)) pe_non (nomark _)) (pss_one (ps_raise_v H K (takes_of rfl rfl rfl rfl) rfl rfl (pe_exv0 N.ex N.iC N.tI FI hr2 bI pass0 (by rfl) N.gC))) pss_nil)
      (pss_cons (ps_set (i := 1) scRows.nd rfl (Or.inl rfl) pe_dnewT)
      (pss_cons (ps_set (i := 2) scRows.nd rfl (Or.inl rfl) (pe_callTy call_list_of (by rfl) T.list (by decide +kernel) (pa_cons (C8.pe_c cU hr (by decide) (by rfl) (pa_cons (pe_fld (pv 0) rfl) pa_nil)) pa_nil)))
      (pss_cons (ps_while (passes_of rfl) (pt_cmpR op_gt (pe_callB call_len_seq (by rfl) T.len PySem.boot_len (pa_cons (pv 2) pa_nil)) pe_int (nomark _))
      (pss_cons (ps_set (i := 3) scRows.nd rfl (Or.inr rfl) (pe_bm0 PySem.F.plainAttrs_list PySem.F.slot_list_pop PySem.F.type_list_pop mt_pop (pv 2)))
      (pss_one (ps_if (pt_cmp (pc_dnotin (hu_of hr) (pv 3) (pv 1)) (by rfl)) (pss_cons (ps_dput (hu_of hr) (pv 1) (pv 3) pe_bl rfl)
      (pss_cons (ps_setLc (i := 4) (own := [("place", 5)]) (g := gName 5) rfl scRows.nd rfl rfl (sw_true rfl rfl rfl (by decide +kernel)) (pi_range1 (by rfl) T.rng (pa_cons (pe_fld (pv 0) rfl) pa_nil)) (blkOk_by (N := rowsN) (sc := defScope sRows) (by decide +kernel)) (fun _ _ _ _ _ => (pg_name (i := 5) scRows.nd rfl (Or.inl rfl))) (fun _ _ _ _ _ => (pts_one (pt_cmpR op_eq (C8.pe_c cS hr (by decide) (by rfl) (pa_cons (pv 0) (pa_cons (pv 3) (pa_cons (pv 5) pa_nil)))) pe_int (nomark _)))) (fun _ _ _ _ _ => (pv 5)))
      (pss_one (ps_expr (pe_bm PySem.F.plainAttrs_list PySem.F.slot_list_extend PySem.F.type_list_extend mt_extend (pv 2) (pa_cons (pe_lc (own := [("place", 5)]) (g := gName 5) (tt := tYes) rfl scRows.nd (pi_list (pv 4)) (blkOk_by (N := rowsN) (sc := defScope sRows) (by decide +kernel)) (fun _ _ _ _ _ => (pg_name (i := 5) scRows.nd rfl (Or.inl rfl))) (fun _ _ _ _ _ => pts_nil) (fun _ _ _ _ _ => (C8.pe_c cR hr (by decide) (by rfl) (pa_cons (pv 3) (pa_cons (pv 5) (pa_cons pe_int pa_nil)))))) pa_nil)))))) pss_nil))))
      (pss_one (ps_ret (pe_callB (cr_sortedDI rfl hr.units) (by rfl) T.sorted (by decide +kernel) (pa_cons (pv 1) pa_nil))))))), ?_⟩
    -- whether it is endless
    refine ⟨fun σ' J => σ' = [some (.ref p), Option.none, Option.none, Option.none, Option.none, Option.none] ∧ Ext H J ∧ ¬ HasBad M Ars, ?_, ?_⟩
    · refine ⟨_, rfl, p, b, M, Ars, rfl, hw, tt, hm1, hm8, hL, ins, fun J nb x => ?_, fun t r J hb x ht gr => ?_⟩
      · exact ⟨rfl, _, rfl, iteF ⟨rfl, x, nb⟩⟩
      · exact ⟨rfl, _, rfl, iteT (raise0 N x fun H' e => kE H' hb e)⟩
    rintro σ' J0 ⟨rfl, x0, nb⟩
    obtain ⟨ab, nl⟩ := finite_above ins nb
    intro d nd
    have x1 := Ext.upd (o := .dT []) nd
    have hd1 := upd_same (H := J0) (a := d) (o := .dT [])
    have x01 := x0.trans x1
    generalize upd J0 d (.dT []) = J1 at *
    obtain ⟨dx, hp⟩ := hw.ext x01
    refine ⟨_, rfl, p, CW, dx, _, _, rfl, hp, W.cl, W.nM, wf_many _ _, M, rfl, hm8, fun ut J2 x2 ⟨us, hut, pu⟩ => ⟨ut, _, rfl, .inr (SqT.of hut), fun wl nwl => ?_⟩⟩
    have x3 := Ext.upd (o := .lst (us.map V.ref)) nwl
    have hwl3 := upd_same (H := J2) (a := wl) (o := .lst (us.map V.ref))
    have hd2 := x2 _ _ hd1
    have hd3 := x3 _ _ hd2
    have ndw : d ≠ wl := ne_of_none hd2 nwl
    have nHd : H d = none := none_back x0 nd
    have nHw : H wl = none := none_back (x01.trans x2) nwl
    have x03 := x01.trans (x2.trans x3)
    have tu : Two (fun a r => upd J2 wl (.lst (us.map V.ref)) a = some (.tup (lab M r))) us ((List.range M).map unitR) := by
      have : ∀ {as : List Addr} {ps : List Nat}, PT2 J2 as (ps.map (unitL M)) → Two (fun a r => J2 a = some (.tup (lab M r))) as (ps.map unitR) := by
        intro as ps
        induction ps generalizing as with
        | nil => intro h; cases h; exact .nil
        | cons q ps ih =>
          intro h
          cases h with
          | cons h t => rw [unit_lab] at h; exact .cons h (ih t)
      exact (this pu).imp fun _ _ z => x3 _ _ z
    generalize upd J2 wl (.lst (us.map V.ref)) = J3 at *
    refine ⟨fun m σ' J => ∃ (Fs Rs : List (Nat → Int)) (ws : List Addr) (v3 v4 : Option V), σ' = [some (.ref p), some (.ref d), some (.ref wl), v3, v4, Option.none] ∧ Ext H J ∧ J d = some (.dT (Fs.map (kvR M))) ∧ J wl = some (.lst (ws.map V.ref)) ∧ Two (fun a r => J a = some (.tup (lab M r))) ws Rs ∧ Far M Ars Fs Rs ∧ Rs.length + Fs.length ≤ M + 9 * Fs.length ∧ m + 10 * Fs.length = 10 * 2 ^ M + Rs.length,
      ⟨10 * 2 ^ M + M, [], (List.range M).map unitR, us, _, _, rfl, x03, hd3, hwl3, tu, Far.start nl, by rw [List.length_map, List.length_range]; exact Nat.le_refl _, by rw [List.length_map, List.length_range]; rfl⟩, ?_⟩
    rintro m σ' J ⟨Fs, Rs, ws, v3, v4, rfl, xJ, hd, hwl, tw, far, few, em⟩
    have f2 := far.few ab
    have p2 : 2 ^ M ≤ 256 := by
      have : 2 ^ M ≤ 2 ^ 8 := Nat.pow_le_pow_right (by decide) hm8
      omega
    refine ⟨_, rfl, wl, _, rfl, .inl (SqL.of hwl), _, _, rfl, rfl, _, rfl, ?_⟩
    rcases List.eq_nil_or_concat ws with e | ⟨ws', a, e⟩
    · subst e
      cases tw
      refine iteF ?_
      refine ⟨_, rfl, d, _, rfl, hd, fun kv hkv => ?_, fun bs q isk nq => ?_⟩
      · obtain ⟨r, hr, rfl⟩ := List.mem_map.mp hkv
        refine ⟨(List.range M).map r, fun e => ?_, ?_⟩
        · have := congrArg List.length e
          rw [List.length_map, List.length_range] at this
          simp at this
          omega
        · show keyR M r = _
          unfold keyR
          rw [List.map_map]
          rfl
      · have x9 := Ext.upd (o := .lst ((bs.mergeSort (PySem.W.dataLe false (encK J))).map V.ref)) nq
        refine kQ q _ nb (xJ.trans x9) (none_back xJ nq) ⟨J, bs, Fs, x9, upd_same, ?_, far.nd, far.done nl ab ins⟩
        have : ∀ {F : List (Nat → Int)} {bs : List Addr}, IsKeys J (F.map (kvR M)) bs → Two (fun b r => J b = some (.tup (lab M r))) bs F := by
          intro F
          induction F with
          | nil => intro bs h; cases h; exact .nil
          | cons r F ih =>
            intro bs h
            cases h with
            | cons h t => exact .cons (by rw [← keyR_lab]; exact h) (ih t)
        exact this isk
    · have e : ws = ws' ++ [a] := by rw [e]; exact List.concat_eq_append ..
      subst e
      obtain ⟨Rs', r, rfl, tw', ha⟩ := two_concat tw
      refine ite2 (fun _ => ?_) (fun z => absurd (decide_eq_true (show (0 : Int) < (((ws' ++ [a]).map V.ref).length : Int) by rw [List.length_map, List.length_append]; show (0 : Int) < ((ws'.length + 1 : Nat) : Int); omega)) z)
      refine ⟨fun σ' J => ∃ m', m' < m ∧ ∃ (Fs Rs : List (Nat → Int)) (ws : List Addr) (v3 v4 : Option V), σ' = [some (.ref p), some (.ref d), some (.ref wl), v3, v4, Option.none] ∧ Ext H J ∧ J d = some (.dT (Fs.map (kvR M))) ∧ J wl = some (.lst (ws.map V.ref)) ∧ Two (fun a r => J a = some (.tup (lab M r))) ws Rs ∧ Far M Ars Fs Rs ∧ Rs.length + Fs.length ≤ M + 9 * Fs.length ∧ m' + 10 * Fs.length = 10 * 2 ^ M + Rs.length, fun _ _ z => z, ?_⟩
      have lw : ws'.length = Rs'.length := tw'.len
      rw [List.length_append] at few em
      have few : Rs'.length + 1 + Fs.length ≤ M + 9 * Fs.length := few
      have em : m + 10 * Fs.length = 10 * 2 ^ M + (Rs'.length + 1) := em
      refine ⟨_, rfl, .inl ⟨rfl, _, SqL.of hwl⟩, wl, _, V.ref a, rfl, rfl, hwl, by simp, ?_⟩
      rw [show ((ws' ++ [a]).map V.ref).dropLast = ws'.map V.ref by simp]
      have tx := TExt.put (ys := ws'.map V.ref) hwl
      have xJ1 : Ext H (upd J wl (.lst (ws'.map V.ref))) := fun b o hb => by
        rw [upd_ne (ne_of_none hb nHw)]
        exact xJ _ _ hb
      have hd1 : upd J wl (.lst (ws'.map V.ref)) d = some (.dT (Fs.map (kvR M))) := by rw [upd_ne ndw]; exact hd
      have hwl1 := upd_same (H := J) (a := wl) (o := .lst (ws'.map V.ref))
      have tw1 := tw'.imp (S := fun a r => upd J wl (.lst (ws'.map V.ref)) a = some (.tup (lab M r))) fun _ _ z => tx _ _ z
      have ha1 := tx _ _ ha
      generalize upd J wl (.lst (ws'.map V.ref)) = K1 at *
      have R : Root M Ars r := far.rs r (List.mem_append_right _ List.mem_cons_self)
      have hk1 : K1 a = some (.tup ((keyR M r).map kV)) := by rw [keyR_lab]; exact ha1
      refine ⟨_, rfl, _, rfl, d, _, rfl, DGet.t hd1 hk1, ?_⟩
      by_cases old : r ∈ Fs
      · rw [(val_kvR R far.fs).mpr old]
        refine ⟨false, rfl, iteF ?_⟩
        exact ⟨m - 1, by omega, Fs, Rs', ws', _, _, rfl, xJ1, hd1, hwl1, tw1, far.old old, by omega, by omega⟩
      · have no : (valV (Fs.map (kvR M)) (keyR M r)) = none := by
          cases e : valV (Fs.map (kvR M)) (keyR M r) with
          | none => rfl
          | some v => exact absurd ((val_kvR R far.fs).mp (by rw [e]; rfl)) old
        rw [no]
        refine ⟨true, rfl, iteT ?_⟩
        refine ⟨_, rfl, _, rfl, d, _, rfl, .inr ⟨_, keyR M r, a, hd1, rfl, hk1, by rw [List.length_map, sizeLine_eq]; omega, rfl⟩, ?_⟩
        rw [putK_new _ no]
        have ek : Fs.map (kvR M) ++ [(keyR M r, V.bl true)] = (Fs ++ [r]).map (kvR M) := by
          rw [List.map_append]
          rfl
        rw [ek]
        have tx2 : TExt K1 (upd K1 d (.dT ((Fs ++ [r]).map (kvR M)))) := fun b xs hb => by
          rw [upd_ne (fun e => by rw [e, hd1] at hb; cases hb)]
          exact hb
        have xJ2 : Ext H (upd K1 d (.dT ((Fs ++ [r]).map (kvR M)))) := fun b o hb => by
          rw [upd_ne (ne_of_none hb nHd)]
          exact xJ1 _ _ hb
        have hwl2 : upd K1 d (.dT ((Fs ++ [r]).map (kvR M))) wl = some (.lst (ws'.map V.ref)) := by rw [upd_ne ndw.symm]; exact hwl1
        have hd2' := upd_same (H := K1) (a := d) (o := .dT ((Fs ++ [r]).map (kvR M)))
        have tw2 := tw1.imp (S := fun a r' => upd K1 d (.dT ((Fs ++ [r]).map (kvR M))) a = some (.tup (lab M r'))) fun _ _ z => tx2 _ _ z
        have ha2 := tx2 _ _ ha1
        generalize upd K1 d (.dT ((Fs ++ [r]).map (kvR M))) = K2 at *
        obtain ⟨dx2, hp2⟩ := hw.ext xJ2
        have far2 := far.new nl ab ins old
        have f3 := far2.few ab
        rw [List.length_append] at f3
        have f3 : Fs.length + 1 ≤ 2 ^ M := f3
        dsimp only [tAsg, gName]
        refine ⟨_, rfl, p, CW, dx2, _, _, rfl, hp2, W.cl, W.nM, wf_many _ _, (M : Int), rfl, by omega, by omega, fun D nD => lc_range (lo := 0) (n := M) (fun i J' => Ext K2 J' ∧ J' D = some (.lst ((nexts i Ars r).map nv))) ⟨Ext.upd nD, upd_same⟩ ?_ ?_⟩
        · rintro i J' hi ⟨x4, hD⟩
          rw [show (0 : Int) + (i : Int) = (i : Int) from Int.zero_add _]
          have ln : (nexts i Ars r).length ≤ i := Nat.le_trans (List.length_filter_le _ _) (by rw [List.length_range]; exact Nat.le_refl _)
          have st : nexts (i + 1) Ars r = nexts i Ars r ++ (if M22.sur Ars r i = 1 then [i] else []) := by
            unfold nexts
            rw [List.range_succ, List.filter_append]
            congr 1
            by_cases e : M22.sur Ars r i = 1 <;> simp [e]
          refine ⟨rfl, _, rfl, _, rfl, _, rfl, p, b, a, M, Ars, r, i, rfl, hw.ext (xJ2.trans x4), tt.ext (xJ2.trans x4), hL, ins, hi, x4 _ _ ha2, fun J5 x5 => ⟨rfl, _, rfl, ?_⟩⟩
          refine ite2 (fun z => ?_) (fun z => ?_)
          · have z : M22.sur Ars r i = 1 := by
              have := of_decide_eq_true z
              injection this
            refine ⟨_, rfl, _, x5 _ _ hD, by rw [List.length_map]; exact small1000 (by omega), fun b' o' hb' => ?_, ?_⟩
            · rw [upd_ne (ne_of_none hb' nD)]
              exact x5 _ _ (x4 _ _ hb')
            · rw [upd_same, st, if_pos z, List.map_append]
              rfl
          · refine ⟨x4.trans x5, ?_⟩
            rw [st, if_neg (fun e => z (decide_eq_true (by rw [e]))), List.append_nil]
            exact x5 _ _ hD
        rintro K3 ⟨x4, hD⟩
        have nsub : ∀ q ∈ nexts M Ars r, q < M := fun q hq => List.mem_range.mp (List.mem_filter.mp hq).1
        have n8 : (nexts M Ars r).length ≤ M := Nat.le_trans (List.length_filter_le _ _) (by rw [List.length_range]; exact Nat.le_refl _)
        refine ⟨_, rfl, .inl ⟨rfl, _, SqL.of (x4 _ _ hwl2)⟩, _, rfl, D, rfl, ⟨_, SqL.of hD⟩, fun G nG => lc_list (K := K) (a := D) (xs := (nexts M Ars r).map nv) (fun i J' => Ext K3 J' ∧ ∃ cs : List Addr, J' G = some (.lst (cs.map V.ref)) ∧ Two (fun c s => J' c = some (.tup (lab M s))) cs (((nexts M Ars r).take i).map fun p => bump r p 1)) ⟨Ext.upd nG, [], upd_same, .nil⟩ (fun i J' _ z => SqL.of (z.1 _ _ hD)) ?_ ?_⟩
        · rintro i y J' hy ⟨x5, cs, hG, tc⟩
          obtain ⟨q, hq, rfl⟩ := nv_get hy
          have lc : cs.length ≤ 8 := by
            rw [tc.len, List.length_map, List.length_take]
            omega
          refine ⟨rfl, tyes_in ⟨_, rfl, _, rfl, a, M, q, r, 1, rfl, x5 _ _ (x4 _ _ ha2), nsub q (List.mem_of_getElem? hq), hm8, fun c J5 x6 hc => ?_⟩⟩
          have tx6 := TExt.put (ys := cs.map V.ref ++ [.ref c]) (x6 _ _ hG)
          refine ⟨_, x6 _ _ hG, by rw [List.length_map]; exact small1000 (by omega), fun b' o' hb' => ?_, cs ++ [c], by rw [upd_same, List.map_append]; rfl, ?_⟩
          · rw [upd_ne (ne_of_none hb' nG)]
            exact x6 _ _ (x5 _ _ hb')
          · rw [List.take_succ, hq, List.map_append]
            exact two_app (tc.imp fun _ _ z => tx6 _ _ (x6 _ _ z)) (.cons (tx6 _ _ hc) .nil)
        rintro K4 ⟨x5, cs, hG, tc⟩
        rw [List.length_map, List.take_of_length_le (Nat.le_refl _)] at tc
        have lcs : cs.length = (nexts M Ars r).length := by rw [tc.len, List.length_map]
        have hwl4 := x5 _ _ (x4 _ _ hwl2)
        have tx7 := TExt.put (ys := ws'.map V.ref ++ cs.map V.ref) hwl4
        refine ⟨wl, G, _, _, rfl, rfl, hwl4, hG, by rw [List.length_map, List.length_map, sizeLine_eq]; omega, m + (nexts M Ars r).length - 11, by omega, Fs ++ [r], Rs' ++ (nexts M Ars r).map fun p => bump r p 1, ws' ++ cs, _, _, rfl, fun b' o' hb' => ?_, ?_, by rw [upd_same, List.map_append], ?_, far2, ?_, ?_⟩
        · rw [upd_ne (ne_of_none hb' nHw)]
          exact x5 _ _ (x4 _ _ (xJ2 _ _ hb'))
        · rw [upd_ne ndw]
          exact x5 _ _ (x4 _ _ hd2')
        · exact two_app (tw2.imp fun _ _ z => tx7 _ _ (x5 _ _ (x4 _ _ z))) (tc.imp fun _ _ z => tx7 _ _ z)
        · rw [List.length_append, List.length_append, List.length_map]
          show Rs'.length + _ + (Fs.length + 1) ≤ M + 9 * (Fs.length + 1)
          omega
        · rw [List.length_append, List.length_append, List.length_map]
          show _ + 10 * (Fs.length + 1) = _
          omega
end
end R23

set_option Elab.async false
set_option linter.all false
set_option maxRecDepth 100000
set_option maxHeartbeats 4000000
set_option pp.maxSteps 100
/-! What is told: the rows in their order. -/
namespace R23
open PySem L2 K9M M21 M22
theorem leK_eq (H : Hp) : PySem.W.dataLe false (encK H) = fun p q => decide (rowK H p ≤ rowK H q) := by
  funext p q
  show (!PySem.W.dataLt (.tuple ((rowK H q).map .int)) (.tuple ((rowK H p).map .int))) = _
  rw [PySem.W.dataLt_tuple]
  show (!PySem.W.rowLt ((rowK H q).map .int) ((rowK H p).map .int)) = _
  rw [PySem.W.dataLt_ints]
  by_cases h : rowK H q < rowK H p
  · have h' : ¬ rowK H p ≤ rowK H q := fun r => List.not_lt.mpr r h
    simp [h, h']
  · have h' : rowK H p ≤ rowK H q := List.not_lt.mp h
    simp [h, h']
/-- the numbers of a row, in a list -/
def rowL (M : Nat) (r : Nat → Int) : List Int := (List.range M).map r
theorem rowL_lab (M : Nat) (r : Nat → Int) : (rowL M r).map V.int = lab M r := by
  unfold rowL lab
  rw [List.map_map]
  rfl
/-- just the rows with form 1, ascending, each once -/
structure Told1 (M : Nat) (A : Ar) (Ls : List (List Int)) : Prop where
  up : Ls.Pairwise (· ≤ ·)
  nd : Ls.Nodup
  mem : ∀ l, l ∈ Ls ↔ ∃ r, Root M A r ∧ l = rowL M r
theorem Told1.uniq {M : Nat} {A : Ar} {k l : List (List Int)} (h : Told1 M A k) (h' : Told1 M A l) : k = l := by
  have p : k.Perm l := (List.perm_ext_iff_of_nodup h.nd h'.nd).mpr fun x => (h.mem x).trans (h'.mem x).symm
  exact p.eq_of_pairwise (fun a b _ _ h1 h2 => List.le_antisymm h1 h2) h.up h'.up
theorem told1 {K : PySem.W.Frag} {H : Hp} {t : Addr} {M : Nat} {A : Ar} (m1 : 1 ≤ M) (h : RowsAt K H t M A) : ∃ (cs : List Addr) (Ls : List (List Int)), H t = some (.lst (cs.map V.ref)) ∧ Two (fun c l => H c = some (.tup (l.map V.int))) cs Ls ∧ Told1 M A Ls := by
  obtain ⟨H0, bs, F, x, ht, tw, nd, mem⟩ := h
  have ne : ∀ r : Nat → Int, rowL M r ≠ [] := fun r e => by
    have := congrArg List.length e
    unfold rowL at this
    rw [List.length_map, List.length_range] at this
    simp at this
    omega
  have rk : ∀ {b : Addr} {r : Nat → Int}, H0 b = some (.tup (lab M r)) → rowK H0 b = rowL M r := fun {b r} e => rowK_of (ne r) (by rw [rowL_lab]; exact e)
  have mp : bs.map (rowK H0) = F.map (rowL M) := by
    clear nd mem ht
    induction tw with
    | nil => rfl
    | cons h _ ih => rw [List.map_cons, List.map_cons, ih, rk h]
  have all : ∀ b ∈ bs, H0 b = some (.tup ((rowK H0 b).map V.int)) := fun b hb => by
    obtain ⟨r, _, e⟩ := two_on tw b hb
    rw [rk e, rowL_lab]
    exact e
  have pm := List.mergeSort_perm bs (PySem.W.dataLe false (encK H0))
  have srt : (bs.mergeSort (PySem.W.dataLe false (encK H0))).Pairwise fun a b => rowK H0 a ≤ rowK H0 b := by
    have := List.pairwise_mergeSort (le := PySem.W.dataLe false (encK H0)) (by
      rw [leK_eq]
      intro a b c h1 h2
      exact decide_eq_true (List.le_trans (of_decide_eq_true h1) (of_decide_eq_true h2))) (by
      rw [leK_eq]
      intro a b
      rcases List.le_total (rowK H0 a) (rowK H0 b) with h | h
      · simp [h]
      · simp [h]) bs
    rw [leK_eq] at this ⊢
    exact this.imp fun h => of_decide_eq_true h
  generalize bs.mergeSort (PySem.W.dataLe false (encK H0)) = cs at *
  have pl : (cs.map (rowK H0)).Perm (F.map (rowL M)) := by
    rw [← mp]
    exact pm.map _
  refine ⟨cs, cs.map (rowK H0), ht, ?_, ?_, ?_, fun l => ?_⟩
  · have : ∀ {l : List Addr}, (∀ c ∈ l, H0 c = some (.tup ((rowK H0 c).map V.int))) → Two (fun c l => H c = some (.tup (l.map V.int))) l (l.map (rowK H0)) := by
      intro l
      induction l with
      | nil => intro _; exact .nil
      | cons c l ih => intro h; exact .cons (x _ _ (h c List.mem_cons_self)) (ih fun d hd => h d (List.mem_cons_of_mem _ hd))
    exact this fun c hc => all c (pm.mem_iff.mp hc)
  · rw [List.pairwise_map]
    exact srt
  · refine pl.nodup_iff.mpr ?_
    unfold List.Nodup
    rw [List.pairwise_map]
    refine List.Pairwise.imp_of_mem (fun {a b} ha hb n e => n ?_) nd
    have R := (mem a).mp ha
    have S := (mem b).mp hb
    exact keyR_inj R S (by
      unfold keyR
      unfold rowL at e
      have := congrArg (List.map (Sum.inl : Int → Key)) e
      rw [List.map_map, List.map_map] at this
      exact this)
  · rw [pl.mem_iff]
    constructor
    · intro h
      obtain ⟨r, hr, rfl⟩ := List.mem_map.mp h
      exact ⟨r, (mem r).mp hr, rfl⟩
    · rintro ⟨r, R, rfl⟩
      exact List.mem_map_of_mem ((mem r).mpr R)
end R23

set_option Elab.async false
set_option linter.all false
set_option maxRecDepth 100000
set_option maxHeartbeats 4000000
set_option pp.maxSteps 100
/-! _law_finite. -/
namespace R23
open PySem L2 K9M M21 M22
abbrev sFin : Stmt := top 41
def spFin : Sp := fun vs H Q _ => ∃ (a : Addr) (mo : Nat), vs = [.ref a, nv mo] ∧ PotAt H a ∧ 1 ≤ mo ∧ mo ≤ 8 ∧
  ∀ (r b : Addr) (m : Nat) (A : Ar) (ss : List (Nat × Nat)) (H' : Hp), Go a H H' → H' r = some (.tup [.int (m : Int), .ref b]) → TT H' b (A.map arL) → A.length ≤ 12 → 1 ≤ m → m ≤ 8 → Built m A ss → Q (.ref r) H'
theorem len_total : ∀ {ss : List (Nat × Nat)}, (∀ s ∈ ss, ShapeOk s) → ss.length ≤ total ss
  | [], _ => Nat.zero_le _
  | s :: ss, ok => by
    rw [List.length_cons, total_cons]
    have := shape_pos (ok s List.mem_cons_self)
    have := len_total (ss := ss) fun x hx => ok x (List.mem_cons_of_mem _ hx)
    omega
/-- all of these are shapes of at most so many places -/
def Shs (J : Hp) (xs : List V) (n : Nat) : Prop := ∀ x ∈ xs, ∃ s, KV J x (some s) ∧ ShapeOk s ∧ s.2 ≤ n
theorem Shs.ext {J J' : Hp} {xs : List V} {n : Nat} (e : Ext J J') (h : Shs J xs n) : Shs J' xs n := fun x hx => by
  obtain ⟨s, kv, r⟩ := h x hx
  exact ⟨s, kv.ext e, r⟩
theorem Shs.app {J : Hp} {xs ys : List V} {n : Nat} (h : Shs J xs n) (h' : Shs J ys n) : Shs J (xs ++ ys) n := fun x hx => (List.mem_append.mp hx).elim (h x) (h' x)
theorem Shs.rep {J : Hp} {x : V} {n k : Nat} (h : 0 < k → Shs J [x] n) : Shs J (List.replicate k [x]).flatten n ∧ (List.replicate k [x]).flatten.length = k := by
  rw [rep1]
  refine ⟨fun y hy => ?_, List.length_replicate⟩
  have e := List.eq_of_mem_replicate hy
  rw [e]
  refine h (Nat.pos_of_ne_zero fun z => ?_) x List.mem_cons_self
  rw [z] at hy
  cases hy
section
variable {P : Program} {w : World} {K : PySem.W.Frag} {mg : Str → Option Value} {base : Heap}
abbrev finN : List Str := ["purse","most","left","shapes","some","many"]
theorem scFin : FnScope finN ["purse", "most"] (defScope sFin) := ⟨rfl, rfl, rfl, by decide +kernel, rfl, by decide +kernel, by decide +kernel⟩
theorem ok_fin {f : Addr} {fd : FuncData} (F : L2.Fun K "_law_finite" "_law_finite" sFin f fd) (T : Gb mg) (cD : Cal P w K mg base 1 "_law_part" spDraw []) (cO : Cal P w K mg base 2 "_law_one" spAny []) (cW : Cal P w K mg base 3 "_law_web_of" spWebOf []) : FnOk P w K mg base CX0 4 f fd ["purse", "most"] spFin := by
  refine F.ok scFin (fun vs H Q E h => ?_) (fun cdv A outer s H vs Q E hr h => ?_)
  · obtain ⟨a, mo, rfl, _⟩ := h
    rfl
  · obtain ⟨a, mo, rfl, pot, mo1, mo8, k⟩ := h
    refine ⟨_, pss_cons (ps_par (i := 2) (j := 3) rfl scFin.nd rfl rfl (by decide) rfl rfl (pa_cons (pv 1) (pa_cons (pe_lst pa_nil) pa_nil)) (by rfl))
      (pss_cons (ps_while PassesOwn.never (PW.pt (pw_and (pt_cmpR op_gt (pv 2) pe_int (nomark _)) (pw_and1 (PW.pt (pw_or (pt_cmpR (op_eqD hr.units) (pv 3) (pe_lst pa_nil) (nomark _)) (pw_or1 (pt_cmpR op_eq (C8.pe_c cD hr (by decide) (by rfl) (pa_cons (pv 0) (pa_cons pe_int pa_nil))) pe_int (nomark _))))))))
      (C8.pss_cut (ps_set (i := 4) scFin.nd rfl (Or.inl rfl) (pe_op op_cat (pe_lc (own := [("many", 5)]) (g := gName 5) (tt := tYes) rfl scFin.nd (pi_range2 (by rfl) T.rng (pa_cons pe_int (pa_cons (pe_op op_add (pv 2) pe_int) pa_nil))) (blkOk_by (N := finN) (sc := defScope sFin) (by decide +kernel)) (fun _ _ _ _ _ => (pg_name (i := 5) scFin.nd rfl (Or.inl rfl))) (fun _ _ _ _ _ => pts_nil) (fun _ _ _ _ _ => (pe_tup (pa_cons pe_str (pa_cons (pv 5) pa_nil))))) (pe_lc (own := [("many", 5)]) (g := gName 5) (tt := tYes) rfl scFin.nd (pi_range2 (by rfl) T.rng (pa_cons pe_int (pa_cons (pe_op op_add (pv 2) pe_int) pa_nil))) (blkOk_by (N := finN) (sc := defScope sFin) (by decide +kernel)) (fun _ _ _ _ _ => (pg_name (i := 5) scFin.nd rfl (Or.inl rfl))) (fun _ _ _ _ _ => pts_nil) (fun _ _ _ _ _ => (pe_tup (pa_cons pe_str (pa_cons (pv 5) pa_nil)))))))
      (C8.pss_cut (ps_set (i := 4) scFin.nd rfl (Or.inl rfl) (pe_op op_cat (pe_op op_cat (pv 4) (pe_op op_rep (pe_lst (pa_cons (pe_tup (pa_cons pe_str (pa_cons (pv 2) pa_nil))) pa_nil)) pe_int)) (pe_op op_rep (pe_lst (pa_cons (pe_tup (pa_cons pe_str (pa_cons (pv 2) pa_nil))) pa_nil)) (pe_op op_mul pe_int (pe_callTy call_int1 (by rfl) T.int (by decide +kernel) (pa_cons (pe_cmpR op_gt (pv 2) pe_int (nomark _)) pa_nil))))))
      (pss_cons (ps_expr (pe_bm PySem.F.plainAttrs_list PySem.F.slot_list_append PySem.F.type_list_append mt_append (pv 3) (pa_cons (C8.pe_c cO hr (by decide) (by rfl) (pa_cons (pv 0) (pa_cons (pe_op op_cat (pv 4) (pe_lc (own := [("many", 5)]) (g := gName 5) (tt := tYes) rfl scFin.nd (pi_range2 (by rfl) T.rng (pa_cons pe_int (pa_cons (pe_op op_add (pv 2) pe_int) pa_nil))) (blkOk_by (N := finN) (sc := defScope sFin) (by decide +kernel)) (fun _ _ _ _ _ => (pg_name (i := 5) scFin.nd rfl (Or.inl rfl))) (fun _ _ _ _ _ => pts_nil) (fun _ _ _ _ _ => (pe_tup (pa_cons pe_str (pa_cons (pv 5) pa_nil)))))) pa_nil))) pa_nil)))
      (pss_one (ps_set (i := 2) scFin.nd rfl (Or.inl rfl) (pe_op op_sub (pv 2) (pe_ix ix_tup (pe_ix ix_list (pv 3) (pe_un un_neg pe_int) (fun _ _ => rfl)) pe_int (fun _ _ => rfl)))))))))
      (pss_one (ps_ret (C8.pe_c cW hr (by decide) (by rfl) (pa_cons (pv 0) (pa_cons (pv 3) pa_nil)))))), ?_⟩
    refine ⟨_, rfl, Nat.zero_le _, fun fo nfo => ⟨_, _, rfl, ?_⟩⟩
    have g0 := Go.new (o := .lst []) pot nfo
    have nfa : fo ≠ a := (pot.ne nfo).symm
    refine ⟨fun m σ' J => ∃ (ss : List (Nat × Nat)) (v4 : Option V), σ' = [some (.ref a), some (nv mo), some (.int ((mo : Int) - (total ss : Int))), some (.ref fo), v4, Option.none] ∧ Go a H J ∧ KVL J fo (ss.map some) ∧ (∀ s ∈ ss, ShapeOk s) ∧ total ss ≤ mo ∧ m + total ss = mo, ⟨mo, [], _, by show _ = [_, _, some (V.int ((mo : Int) - ((0 : Nat) : Int))), _, _, _]; rw [show (mo : Int) - ((0 : Nat) : Int) = (mo : Int) by omega]; rfl, g0, ⟨[], upd_same, .nil⟩, fun s hs => (by cases hs), Nat.zero_le _, rfl⟩, ?_⟩
    rintro m σ' J ⟨ss, v4, rfl, go, kl, ok, t8, em⟩
    refine ⟨_, rfl, _, _, rfl, rfl, _, rfl, ?_⟩
    have last : ∀ (J' : Hp) (R : VK), Go a J J' → ss ≠ [] → R = Q → tCall spWebOf [] C8.E0 (tCons (tVar 0) (tCons (tVar 3) tNil)) [some (.ref a), some (nv mo), some (.int ((mo : Int) - (total ss : Int))), some (.ref fo), v4, Option.none] J' R := fun J' R g ne e => by
      subst e
      obtain ⟨xs, h1, h2⟩ := kl
      have lt := len_total ok
      have l1 : 0 < ss.length := List.length_pos_iff.mpr ne
      refine ⟨_, rfl, _, rfl, a, fo, ss, rfl, g.1, nfa, ⟨xs, g.2 _ _ nfa h1, h2.imp fun _ _ z => z.tx fun b xs z => g.tup go.1 z⟩, ok, by omega, by omega, fun r b m' A J2 g2 hr2 tt lA m8 bu => ?_⟩
      exact k r b m' A ss J2 (go.trans (g.trans g2)) hr2 tt lA (by rw [bu.tot]; omega) m8 bu
    have test : ∀ R : Bool → Hp → Prop, (∀ J', Go a J J' → R true J') → (∀ J', Go a J J' → ss ≠ [] → R false J') →
        tOr (tTest (tOp (rEqD K) (tVar 3) (tLst tNil))) (tTest (tOp rEq (tCall spDraw [] C8.E0 (tCons (tVar 0) (tCons (tC (V.int 3)) tNil))) (tC (V.int 0))))
          [some (.ref a), some (nv mo), some (.int ((mo : Int) - (total ss : Int))), some (.ref fo), v4, Option.none] J R := by
      intro R rT rF
      refine ⟨_, rfl, Nat.zero_le _, fun q nq => ?_⟩
      have gq := Go.new (o := .lst []) go.1 nq
      refine ⟨.list ((ss.map some).map kD), .list [], kvl_dp (kl.ext (Ext.upd nq)), .lst (SqL.of upd_same) .nil, kDs_shaped _, by rfl, _, rfl, ?_⟩
      cases ss with
      | nil => exact iteT (rT _ gq)
      | cons s0 ss =>
        refine iteF ⟨_, rfl, a, 3, rfl, gq.1, by decide, by decide, fun r5 H5 a5 b5 g5 => ⟨rfl, _, rfl, ?_⟩⟩
        cases decide (V.int r5 = V.int 0) with
        | true => exact rT _ (gq.trans g5)
        | false => exact rF _ (gq.trans g5) (by simp)
    refine ite2 (fun z => test _ (fun J1 g1 => iteT ?_) (fun J1 g1 ne => iteF (last J1 _ g1 ne rfl))) (fun z => iteF (last J _ (Go.refl go.1) (fun e => ?_) rfl))
    rotate_left
    · subst e
      refine z (decide_eq_true ?_)
      show (0 : Int) < (mo : Int) - ((0 : Nat) : Int)
      omega
    have lt8 : total ss < mo := by have := of_decide_eq_true z; omega
    have go1 := go.trans g1
    have kl1 : KVL J1 fo (ss.map some) := by
      obtain ⟨xs, h1, h2⟩ := kl
      exact ⟨xs, g1.2 _ _ nfa h1, h2.imp fun _ _ z => z.tx fun b xs z => g1.tup go.1 z⟩
    refine ⟨fun σ' J => ∃ m', m' < m ∧ ∃ (ss : List (Nat × Nat)) (v4 : Option V), σ' = [some (.ref a), some (nv mo), some (.int ((mo : Int) - (total ss : Int))), some (.ref fo), v4, Option.none] ∧ Go a H J ∧ KVL J fo (ss.map some) ∧ (∀ s ∈ ss, ShapeOk s) ∧ total ss ≤ mo ∧ m' + total ss = mo, fun _ _ z => z, ?_⟩
    -- shapes of a letter
    have comp : ∀ (κ lo : Nat) (zs : Str) (w4 : Option V) (J2 : Hp) (Q' : VK), zs = lett κ → lo ≤ 6 → 1 ≤ lo → (∀ n, lo ≤ n → n ≤ 8 → ShapeOk (κ, n)) → (∀ (r : Addr) (xs : List V) (J' : Hp), Ext J2 J' → J' r = some (.lst xs) → Shs J' xs (mo - total ss) → xs.length = ((mo : Int) - (total ss : Int) + 1 - (lo : Int)).toNat → Q' (.ref r) J') →
        tLc (iRng2 (tCons (tC (V.int (lo : Int))) (tCons (tOp (rI0 fun i j => V.int (i + j)) (tVar 2) (tC (V.int 1))) tNil))) (gName 5) tYes (tTup (tCons (tC (V.str zs)) (tCons (tVar 5) tNil))) (List.map (fun x => x.snd) [(Str.ofString "many", 5)])
          [some (.ref a), some (nv mo), some (.int ((mo : Int) - (total ss : Int))), some (.ref fo), w4, Option.none] J2 Q' := by
      intro κ lo zs w4 J2 Q' ez l6 l1 sok kQ
      refine ⟨_, rfl, _, _, rfl, rfl, (lo : Int), (mo : Int) - (total ss : Int) + 1, rfl, ⟨by omega, by omega, by omega, by omega⟩, fun D nD => lc_range (lo := (lo : Int)) (n := ((mo : Int) - (total ss : Int) + 1 - (lo : Int)).toNat) (fun i J' => Ext J2 J' ∧ ∃ xs, J' D = some (.lst xs) ∧ xs.length = i ∧ Shs J' xs (mo - total ss)) ⟨Ext.upd nD, [], upd_same, rfl, fun x hx => by cases hx⟩ ?_ ?_⟩
      · rintro i J' hi ⟨x1, xs, hD, lx, all⟩
        refine ⟨rfl, tyes_in ⟨_, rfl, by show 2 ≤ sizeLine; decide, fun t nt => ?_⟩⟩
        have x2 : Ext J' (upd J' t (.tup [.str zs, .int ((lo : Int) + (i : Nat))])) := Ext.upd nt
        have hD2 := x2 _ _ hD
        have tx := TExt.put (ys := xs ++ [.ref t]) hD2
        refine ⟨_, hD2, small1000 (by omega), fun b o hb => ?_, xs ++ [.ref t], upd_same, by rw [List.length_append, lx]; rfl, fun x hx => ?_⟩
        · rw [upd_ne (ne_of_none hb nD)]
          exact x2 _ _ (x1 _ _ hb)
        · rcases List.mem_append.mp hx with z | z
          · obtain ⟨s, h1, h2⟩ := all x z
            exact ⟨s, (h1.ext x2).tx tx, h2⟩
          · rw [List.mem_singleton.mp z]
            refine ⟨(κ, lo + i), ⟨t, rfl, ?_⟩, sok _ (by omega) (by omega), by show lo + i ≤ _; omega⟩
            rw [tx _ _ (upd_same (H := J') (a := t)), ez, show (lo : Int) + (i : Nat) = ((lo + i : Nat) : Int) by omega]
      · rintro J' ⟨x1, xs, hD, lx, all⟩
        exact kQ D xs J' x1 hD all lx
    refine ⟨fun σ' J2 => ∃ (sm : Addr) (xs : List V), σ' = [some (.ref a), some (nv mo), some (.int ((mo : Int) - (total ss : Int))), some (.ref fo), some (.ref sm), Option.none] ∧ Ext J1 J2 ∧ J2 sm = some (.lst xs) ∧ xs ≠ [] ∧ xs.length ≤ 16 ∧ Shs J2 xs (mo - total ss), ?_, ?_⟩
    · dsimp only [tAsg, tOp]
      refine comp 0 1 "A" _ J1 _ rfl (by decide) (by decide) (fun n h1 h2 => .inl ⟨rfl, h1, h2⟩) fun r1 xs J2 x1 h1 a1 lx => ?_
      refine comp 1 4 "D" _ J2 _ rfl (by decide) (by decide) (fun n h1 h2 => .inr (.inl ⟨rfl, h1, h2⟩)) fun r2 ys J3 x2 h2 a2 ly => ?_
      refine ⟨r1, r2, _, _, rfl, rfl, x2 _ _ h1, h2, by rw [sizeLine_eq]; omega, fun sm ns => ?_⟩
      have x3 := Ext.upd (o := .lst (xs ++ ys)) ns
      refine ⟨sm, xs ++ ys, rfl, x1.trans (x2.trans x3), upd_same, fun z => ?_, by rw [List.length_append]; omega, (a1.ext (x2.trans x3)).app (a2.ext x3)⟩
      have := congrArg List.length z
      rw [List.length_append] at this
      simp only [List.length_nil] at this
      omega
    rintro σ' J2 ⟨sm, xs, rfl, x2, hsm, ne, lx, all⟩
    have eL : (mo : Int) - (total ss : Int) = ((mo - total ss : Nat) : Int) := by omega
    refine ⟨fun σ' J2 => ∃ (sm : Addr) (xs : List V), σ' = [some (.ref a), some (nv mo), some (.int ((mo : Int) - (total ss : Int))), some (.ref fo), some (.ref sm), Option.none] ∧ Ext J1 J2 ∧ J2 sm = some (.lst xs) ∧ xs ≠ [] ∧ xs.length ≤ 21 ∧ Shs J2 xs (mo - total ss), ?_, ?_⟩
    · refine ⟨_, rfl, _, rfl, by show 2 ≤ sizeLine; decide, fun t nt => ⟨by show 1 ≤ sizeLine; decide, fun l nl => ⟨l, 2, [.ref t], rfl, rfl, upd_same, by decide, by decide, by show 1 * 2 ≤ sizeLine; decide, fun p np => ?_⟩⟩⟩
      have y1 := Ext.upd (o := .tup [V.str "A", V.int ((mo : Int) - (total ss : Int))]) nt
      have h1 := upd_same (H := J2) (a := t) (o := .tup [V.str "A", V.int ((mo : Int) - (total ss : Int))])
      generalize upd J2 t (.tup [V.str "A", V.int ((mo : Int) - (total ss : Int))]) = A1 at *
      have y2 := Ext.upd (o := .lst [V.ref t]) nl
      generalize upd A1 l (.lst [V.ref t]) = A2 at *
      have y3 := Ext.upd (o := .lst (List.replicate (2 : Int).toNat [V.ref t]).flatten) np
      have h3 := upd_same (H := A2) (a := p) (o := .lst (List.replicate (2 : Int).toNat [V.ref t]).flatten)
      have ka : Shs A1 [V.ref t] (mo - total ss) := fun x hx => by
        rw [List.mem_singleton.mp hx]
        exact ⟨(0, mo - total ss), ⟨t, rfl, by rw [h1, eL]; rfl⟩, .inl ⟨rfl, by show 1 ≤ mo - total ss; omega, by show mo - total ss ≤ 8; omega⟩, Nat.le_refl _⟩
      obtain ⟨kr, kl'⟩ := Shs.rep (J := A1) (x := V.ref t) (n := mo - total ss) (k := (2 : Int).toNat) fun _ => ka
      generalize (List.replicate (2 : Int).toNat [V.ref t]).flatten = zs at *
      have kl' : zs.length = 2 := kl'
      generalize upd A2 p (.lst zs) = A3 at *
      refine ⟨sm, p, _, _, rfl, rfl, y3 _ _ (y2 _ _ (y1 _ _ hsm)), h3, by rw [sizeLine_eq]; omega, fun q1 nq1 => ?_⟩
      have y4 := Ext.upd (o := .lst (xs ++ zs)) nq1
      have h4 := upd_same (H := A3) (a := q1) (o := .lst (xs ++ zs))
      have k4 : Shs (upd A3 q1 (.lst (xs ++ zs))) (xs ++ zs) (mo - total ss) := (all.ext (y1.trans (y2.trans (y3.trans y4)))).app (kr.ext (y2.trans (y3.trans y4)))
      generalize upd A3 q1 (.lst (xs ++ zs)) = A4 at *
      refine ⟨_, rfl, by show 2 ≤ sizeLine; decide, fun t2 nt2 => ⟨by show 1 ≤ sizeLine; decide, fun l2 nl2 => ?_⟩⟩
      have z1 := Ext.upd (o := .tup [V.str "D", V.int ((mo : Int) - (total ss : Int))]) nt2
      have g1' := upd_same (H := A4) (a := t2) (o := .tup [V.str "D", V.int ((mo : Int) - (total ss : Int))])
      generalize upd A4 t2 (.tup [V.str "D", V.int ((mo : Int) - (total ss : Int))]) = B1 at *
      have z2 := Ext.upd (o := .lst [V.ref t2]) nl2
      have g2' := upd_same (H := B1) (a := l2) (o := .lst [V.ref t2])
      generalize upd B1 l2 (.lst [V.ref t2]) = B2 at *
      have kb : 4 ≤ mo - total ss → Shs B1 [V.ref t2] (mo - total ss) := fun h4 x hx => by
        rw [List.mem_singleton.mp hx]
        exact ⟨(1, mo - total ss), ⟨t2, rfl, by rw [g1', eL]; rfl⟩, .inr (.inl ⟨rfl, h4, by show mo - total ss ≤ 8; omega⟩), Nat.le_refl _⟩
      have fin : ∀ k : Int, (0 ≤ k ∧ k ≤ 3) → (0 < k.toNat → 4 ≤ mo - total ss) → rRep (.ref l2) (.int k) B2 fun v H3 => ∃ lq p2 ys zs, V.ref q1 = .ref lq ∧ v = .ref p2 ∧ H3 lq = some (.lst ys) ∧ H3 p2 = some (.lst zs) ∧ ys.length + zs.length ≤ sizeLine ∧ ∀ q, H3 q = none → (fun σ' J2 => ∃ (sm : Addr) (xs : List V), σ' = [some (.ref a), some (nv mo), some (.int ((mo : Int) - (total ss : Int))), some (.ref fo), some (.ref sm), Option.none] ∧ Ext J1 J2 ∧ J2 sm = some (.lst xs) ∧ xs ≠ [] ∧ xs.length ≤ 21 ∧ Shs J2 xs (mo - total ss)) [some (.ref a), some (nv mo), some (.int ((mo : Int) - (total ss : Int))), some (.ref fo), some (.ref q), Option.none] (upd H3 q (.lst (ys ++ zs))) := by
        intro k hk h4'
        refine ⟨l2, k, _, rfl, rfl, g2', by omega, by omega, by rw [sizeLine_eq]; show 1 * k.toNat ≤ _; omega, fun p2 np2 => ?_⟩
        obtain ⟨kr2, kl2⟩ := Shs.rep (J := B1) (x := V.ref t2) (n := mo - total ss) (k := k.toNat) fun h => kb (h4' h)
        have z3 := Ext.upd (o := .lst (List.replicate k.toNat [V.ref t2]).flatten) np2
        have g3' := upd_same (H := B2) (a := p2) (o := .lst (List.replicate k.toNat [V.ref t2]).flatten)
        generalize (List.replicate k.toNat [V.ref t2]).flatten = us at *
        generalize upd B2 p2 (.lst us) = B3 at *
        have z13 := z1.trans (z2.trans z3)
        refine ⟨q1, p2, _, _, rfl, rfl, z13 _ _ h4, g3', by rw [List.length_append, sizeLine_eq]; omega, fun q nq => ?_⟩
        have z4 := Ext.upd (o := .lst (xs ++ zs ++ us)) nq
        refine ⟨q, xs ++ zs ++ us, rfl, x2.trans (y1.trans (y2.trans (y3.trans (y4.trans (z13.trans z4))))), upd_same, fun z => ?_, by rw [List.length_append, List.length_append]; omega, (k4.ext (z13.trans z4)).app (kr2.ext (z2.trans (z3.trans z4)))⟩
        exact ne (List.append_eq_nil_iff.mp (List.append_eq_nil_iff.mp z).1).1
      refine ⟨_, rfl, _, _, rfl, rfl, .inr ⟨_, rfl, _, _, rfl, rfl, .inl ⟨by omega, by omega⟩, ?_⟩⟩
      refine fin _ ?_ ?_
      · by_cases big : (3 : Int) < (mo : Int) - (total ss : Int) <;> simp [big]
      · intro h
        by_cases big : (3 : Int) < (mo : Int) - (total ss : Int)
        · omega
        · simp [big] at h
    rintro σ' J3 ⟨sm2, xs2, rfl, x3, hsm2, ne2, lx2, all2⟩
    have g3 := Go.of_ext go1.1 x3
    have kl3 := kl1.ext x3
    obtain ⟨us, hf3, tw3⟩ := kl3
    refine ⟨_, rfl, .inl ⟨rfl, _, SqL.of hf3⟩, ?_⟩
    dsimp only [tCall, tCons, tOp, tVar]
    refine ⟨_, rfl, _, rfl, ?_⟩
    refine comp 2 6 "E" _ J3 _ rfl (by decide) (by decide) (fun n h1 h2 => .inr (.inr ⟨rfl, h1, h2⟩)) fun r3 zs J4 x4 h4 a4 lz => ?_
    refine ⟨sm2, r3, _, _, rfl, rfl, x4 _ _ hsm2, h4, by rw [sizeLine_eq]; omega, fun q nq => ?_⟩
    have x5 := Ext.upd (o := .lst (xs2 ++ zs)) nq
    have h5 := upd_same (H := J4) (a := q) (o := .lst (xs2 ++ zs))
    have x35 := x3.trans (x4.trans x5)
    have x45 := x4.trans x5
    have g5 := Go.of_ext go1.1 x35
    have nqa : q ≠ a := ((Go.of_ext go1.1 (x3.trans x4)).1.ne nq).symm
    have all5 : Shs (upd J4 q (.lst (xs2 ++ zs))) (xs2 ++ zs) (mo - total ss) := (all2.ext x45).app (a4.ext x5)
    have hf5 := x45 _ _ hf3
    have tw5 := tw3.imp (S := KV (upd J4 q (.lst (xs2 ++ zs)))) fun _ _ z => z.ext x45
    generalize upd J4 q (.lst (xs2 ++ zs)) = J5 at *
    refine ⟨a, q, _, rfl, g5.1, nqa, h5, fun z => ne2 (List.append_eq_nil_iff.mp z).1, by rw [List.length_append]; omega, fun x J6 hx g6 => ?_⟩
    obtain ⟨s1, ⟨c, rfl, hc⟩, ok1, le1⟩ := all5 x hx
    have hc6 := g6.tup g5.1 hc
    have go6 := go1.trans (g5.trans g6)
    have hf6 := g6.2 _ _ nfa hf5
    have tw6 := tw5.imp (S := KV J6) fun _ _ z => z.tx fun b xs z => g6.tup g5.1 z
    have lu : us.length = ss.length := by rw [tw3.len, List.length_map]
    have ls := len_total ok
    have pos := shape_pos ok1
    refine ⟨fo, us, _, rfl, rfl, hf6, small1000 (by omega), ?_⟩
    have tx := TExt.put (ys := us ++ [.ref c]) hf6
    refine ⟨_, rfl, _, rfl, 1, rfl, fo, _, _, .ref c, rfl, rfl, SqL.of upd_same, ?_, c, _, _, nv s1.2, rfl, rfl, SqT.of (tx _ _ hc6), rfl, _, _, rfl, rfl, ?_⟩
    · exact atI_last _ _
    · refine ⟨mo - total (ss ++ [s1]), by rw [total_snoc]; omega, ss ++ [s1], some (.ref sm2), ?_, Go.put pot go6 nfo, ⟨us ++ [.ref c], upd_same, ?_⟩, fun s hs => ?_, by rw [total_snoc]; omega, by rw [total_snoc]; omega⟩
      · rw [total_snoc]
        show _ = [some (V.ref a), some (nv mo), some (V.int ((mo : Int) - ((total ss + s1.2 : Nat) : Int))), some (V.ref fo), some (V.ref sm2), Option.none]
        rw [show (mo : Int) - ((total ss + s1.2 : Nat) : Int) = (mo : Int) - (total ss : Int) - (s1.2 : Int) by omega]
        rfl
      · rw [List.map_append]
        exact Two.snoc (tw6.imp fun _ _ z => z.tx tx) ⟨c, rfl, tx _ _ hc6⟩
      · rcases List.mem_append.mp hs with z | z
        · exact ok s z
        · rw [List.mem_singleton.mp z]
          exact ok1
end
end R23

set_option Elab.async false
set_option linter.all false
set_option maxRecDepth 100000
set_option maxHeartbeats 4000000
set_option pp.maxSteps 100
/-! sorted of a list of rows; the search by mirrors. -/
namespace R23
open PySem L2 PySem.Spec PyProof.Rows K9M M21 M22
/-- sorted(xs), the items tuples of numbers: a new list -/
def rSortR (K : PySem.W.Frag) : List V → Hp → VK → Prop := fun vs H Q => ∃ (a : Addr) (cs : List Addr), vs = [.ref a] ∧ SqL K H a (cs.map V.ref) ∧ (∀ c ∈ cs, ∃ ns : List Int, ns ≠ [] ∧ H c = some (.tup (ns.map V.int))) ∧
  ∀ p, H p = none → Q (.ref p) (upd H p (.lst ((cs.mergeSort (PySem.W.dataLe false (encK H))).map V.ref)))
theorem vals_refs_of : ∀ {cs : List Addr} {us : List Value}, Vals (cs.map V.ref) us → us = cs.map Value.ref
  | [], _, .nil => rfl
  | c :: cs, _, .cons r t => by
    rw [List.map_cons, ← vals_refs_of (cs := cs) t]
    cases r
    rfl
theorem encK_depth (H : Hp) (b : Addr) : (encK H b).depth ≤ 1 := by
  unfold encK
  simp only [PyData.depth]
  rw [PySem.W.depth_ints]
  exact Nat.le_refl _
theorem map_alike {H : Hp} : ∀ cs : List Addr, PySem.W.AllAlike (cs.map (encK H)) := fun cs => PySem.W.AllAlike.of fun b b' => by
  unfold encK
  simp [PySem.W.alike, PySem.W.alike_ints]
section
variable {X : Cx}
theorem cr_sortRows (hu : X.A.units + 64 < cLine) : CallR X (.builtin "sorted") (rSortR X.K) := by
  intro pins s σ H xs us Q I r h
  obtain ⟨a, cs, rfl, hs, rows, q⟩ := h
  obtain ⟨its, rv, hl, hz⟩ := I.list hs
  obtain ⟨u, rfl, ru⟩ := vals1 r
  obtain rfl : u = Value.ref a := ru
  obtain rfl := vals_refs_of rv
  refine PySem.W.sorted_data (bs := cs) (enc := encK H) (R := fun v b => v = Value.ref b) hl.isList (each_refs cs) (each_of_mem fun b hb => ?_) (PySem.W.AllAlike.of fun b b' => ?_) (PySem.W.Sortable.tuples fun b => ?_) ?_ (fun b _ => ?_) fun out len eo => ?_
  · obtain ⟨ns, ne, hH⟩ := rows b hb
    obtain ⟨_, its, rv, o', h1, h2, n, h3⟩ := (show ObjOk X.prog X.w H s.heap b (.tup (ns.map V.int)) from I.hok b _ hH)
    refine ⟨[], ?_⟩
    unfold encK
    rw [rowK_of ne hH]
    exact .tuple h1 h2 h3 (by rw [List.toList_toArray]; exact ints_reads rv)
  · unfold encK
    simp [PySem.W.alike, PySem.W.alike_ints]
  · unfold encK
    have := rowK_ne H b
    cases e : rowK H b with
    | nil => exact absurd e this
    | cons x r => exact ⟨_, _, rfl⟩
  · rw [List.length_map] at hz
    exact hz
  · have := encK_depth H b
    omega
  · have eo := of_each_refs eo
    subst eo
    obtain ⟨n, hn⟩ := sortedAll_at s.heap (cs.map Value.ref) ((cs.mergeSort (PySem.W.dataLe false (encK H))).map Value.ref).toArray
    have le : s.heap.objs.size ≤ s.heap.objs.size + 1 := Nat.le_succ _
    refine ⟨.ref (s.heap.objs.size + 1), upd H (s.heap.objs.size + 1) (.lst ((cs.mergeSort (PySem.W.dataLe false (encK H))).map V.ref)), I.laid (t' := s.toks) (fun b o e => sortedAll_old e) le ⟨?_, _, n, L2.vals_refs _, hn⟩, rfl, q _ (I.hok.fresh le)⟩
    rw [List.length_map, List.length_mergeSort]
    rw [List.length_map] at hz
    exact hz
end
/-- rows as data -/
def rD (l : List Int) : PyData := .tuple (l.map .int)
theorem rD_eqv (l k : List Int) : PyData.eqv (rD l) (rD k) = decide (l = k) := by
  show PyData.eqvAll (l.map .int) (k.map .int) = _
  induction l generalizing k with
  | nil => cases k <;> simp [PyData.eqvAll]
  | cons a l ih =>
    cases k with
    | nil => simp [PyData.eqvAll]
    | cons b k =>
      rw [List.map_cons, List.map_cons]
      show (PyData.eqv (.int a) (.int b) && PyData.eqvAll (l.map .int) (k.map .int)) = _
      rw [ih k]
      have : PyData.eqv (.int a) (.int b) = decide (a = b) := rfl
      rw [this]
      by_cases h : a = b <;> by_cases h2 : l = k <;> simp [h, h2]
theorem dp_row {K : PySem.W.Frag} {H : Hp} {c : Addr} {l : List Int} (h : H c = some (.tup (l.map V.int))) : Dp K H (.ref c) (rD l) := by
  refine .tup (SqT.of h) ?_
  clear h
  induction l with
  | nil => exact .nil
  | cons a l ih => exact .cons (.int a) ih
theorem rD_lay (l : List Int) : PyData.canLayAll0 (l.map .int) = true := by
  induction l with
  | nil => rfl
  | cons a l ih =>
    show (true && PyData.canLayAll0 (l.map .int)) = true
    rw [ih]
    rfl
theorem rD_shaped (l : List Int) : SeqAt.shaped (rD l) = true := by
  unfold SeqAt.shaped rD
  simp [PyData.canLay0, PyData.depth, rD_lay, PySem.W.depth_ints]
theorem rDs_lay : ∀ ls : List (List Int), PyData.canLayAll0 (ls.map rD) = true
  | [] => rfl
  | l :: ls => by
    show ((rD l).canLay0 && PyData.canLayAll0 (ls.map rD)) = true
    rw [rDs_lay ls]
    unfold rD
    simp [PyData.canLay0, rD_lay]
theorem rDs_depth : ∀ ls : List (List Int), PyData.depthAll (ls.map rD) ≤ 1
  | [] => by simp [PyData.depthAll]
  | l :: ls => by
    have := rDs_depth ls
    have e : (rD l).depth = 1 := by
      unfold rD
      simp only [PyData.depth]
      rw [PySem.W.depth_ints]
    show max (rD l).depth (PyData.depthAll (ls.map rD)) ≤ 1
    rw [e]
    omega
theorem rDs_shaped (ls : List (List Int)) : SeqAt.shaped (.list (ls.map rD)) = true := by
  have := rDs_depth ls
  unfold SeqAt.shaped
  simp [PyData.canLay0, PyData.depth, rDs_lay]
  omega
theorem dp_rows {K : PySem.W.Frag} {H : Hp} : ∀ {cs : List Addr} {ls : List (List Int)}, Two (fun c l => H c = some (.tup (l.map V.int))) cs ls → DpAll K H (cs.map V.ref) (ls.map rD)
  | _, _, .nil => .nil
  | _, _, .cons h t => .cons (dp_row h) (dp_rows t)
theorem rows_any (ls : List (List Int)) (l : List Int) : ((ls.map rD).any fun z => PyData.eqv z (rD l)) = decide (l ∈ ls) := by
  rw [List.any_map]
  induction ls with
  | nil => rfl
  | cons k ls ih =>
    rw [List.any_cons, ih]
    show (PyData.eqv (rD k) (rD l) || _) = _
    rw [rD_eqv]
    by_cases h : k = l
    · subst h
      simp
    · have h' : ¬ l = k := fun z => h z.symm
      simp [h, h']
theorem _root_.M21.Two.at_right {α β : Type} {R : α → β → Prop} {l : List α} {k : List β} (h : Two R l k) : ∀ {i : Nat} {b : β}, k[i]? = some b → ∃ a, l[i]? = some a ∧ R a b := by
  induction h with
  | nil => intro i b e; cases e
  | cons r t ih =>
    intro i b e
    cases i with
    | zero =>
      cases e
      exact ⟨_, rfl, r⟩
    | succ i => exact ih e
/-! ### the search by mirrors -/
structure Mir (M : Nat) (A : Ar) (Fs : List (Nat → Int)) (k : Nat) : Prop where
  nd : Fs.Nodup
  fs : ∀ r ∈ Fs, Root M A r
  us : ∀ p, p < M → unitR p ∈ Fs
  on : ∀ i r, i < k → Fs[i]? = some r → ∀ p, p < M → M22.sur A r p = 1 → bump r p 1 ∈ Fs
theorem Mir.add {M : Nat} {A : Ar} {Fs : List (Nat → Int)} {k : Nat} (m : Mir M A Fs k) (hk : k ≤ Fs.length) {s : Nat → Int} (S : Root M A s) (h : s ∉ Fs) : Mir M A (Fs ++ [s]) k := by
  refine ⟨?_, fun r hr => ?_, fun p hp => List.mem_append_left _ (m.us p hp), fun i r hi hr p hp e => ?_⟩
  · rw [List.nodup_append]
    exact ⟨m.nd, List.nodup_cons.mpr ⟨fun h => (by cases h), List.nodup_nil⟩, fun a ha b hb e => h (by rw [List.mem_singleton.mp hb] at e; rw [← e]; exact ha)⟩
  · rcases List.mem_append.mp hr with z | z
    · exact m.fs r z
    · rw [List.mem_singleton.mp z]
      exact S
  · rw [List.getElem?_append_left (by omega)] at hr
    exact List.mem_append_left _ (m.on i r hi hr p hp e)
theorem Mir.next {M : Nat} {A : Ar} {Fs : List (Nat → Int)} {k : Nat} (m : Mir M A Fs k) {r : Nat → Int} (hr : Fs[k]? = some r) (all : ∀ p, p < M → M22.sur A r p = 1 → bump r p 1 ∈ Fs) : Mir M A Fs (k + 1) := by
  refine ⟨m.nd, m.fs, m.us, fun i s hi hs => ?_⟩
  by_cases e : i = k
  · subst e
    rw [hr] at hs
    cases hs
    exact all
  · exact m.on i s (by omega) hs
theorem Mir.done {M : Nat} {A : Ar} {Fs : List (Nat → Int)} (nl : NoLoop A) (ab : Above M A) (hA : Inside M A) (m : Mir M A Fs Fs.length) : ∀ r, r ∈ Fs ↔ Root M A r := fun r => by
  refine ⟨m.fs r, fun R => ?_⟩
  have u := (root_iff hA nl ab r).mp R
  clear R
  induction u with
  | unit p hp => exact m.us p hp
  | up r p u hp s ih =>
    obtain ⟨i, hi⟩ := List.getElem?_of_mem ih
    exact m.on i r (List.getElem?_eq_some_iff.mp hi).1 hi p hp s
theorem unitR_inj {p q : Nat} (h : unitR p = unitR q) : p = q := by
  have := congrFun h p
  unfold unitR at this
  rw [if_pos rfl] at this
  by_cases e : p = q
  · exact e
  · rw [if_neg e] at this
    cases this
theorem Mir.start {M : Nat} {A : Ar} (nl : NoLoop A) : Mir M A ((List.range M).map unitR) 0 := by
  refine ⟨?_, fun r h => ?_, fun p hp => List.mem_map_of_mem (List.mem_range.mpr hp), fun i r h => absurd h (Nat.not_lt_zero _)⟩
  · unfold List.Nodup
    rw [List.pairwise_map]
    exact List.nodup_range.imp fun h e => h (unitR_inj e)
  · obtain ⟨p, hp, rfl⟩ := List.mem_map.mp h
    exact (Up.unit p (List.mem_range.mp hp)).root nl
theorem refl_root {M : Nat} {A : Ar} (nl : NoLoop A) {r : Nat → Int} (R : Root M A r) {p : Nat} (hp : p < M) (lo : 0 ≤ r p + M22.sur A r p) : Root M A (bump r p (M22.sur A r p)) := by
  refine ⟨fun i => ?_, fun i hi => ?_, ?_⟩
  · unfold M22.bump
    have := R.lo i
    split <;> omega
  · unfold M22.bump
    rw [if_neg (by omega)]
    exact R.off i hi
  · rw [qf_bump nl _ hp, R.one]
    omega
end R23

set_option Elab.async false
set_option linter.all false
set_option maxRecDepth 100000
set_option maxHeartbeats 4000000
set_option pp.maxSteps 100
/-! _law_roots. -/
namespace R23
open PySem L2 K9M M21 M22
abbrev sRoo : Stmt := top 43
def spRoo : Sp := fun vs H Q _ => ∃ (b : Addr) (M : Nat) (A : Ar), vs = [nv M, .ref b] ∧ TT H b (A.map arL) ∧ 1 ≤ M ∧ M ≤ 8 ∧ A.length ≤ 12 ∧ Inside M A ∧ ¬ HasBad M A ∧ ∀ (t : Addr) (H' : Hp), Ext H H' → H t = none → (∀ K : PySem.W.Frag, RowsAt K H' t M A) → Q (.ref t) H'
theorem rowL_inj {M : Nat} {A : Ar} {r s : Nat → Int} (R : Root M A r) (S : Root M A s) (h : rowL M r = rowL M s) : r = s := keyR_inj R S (by
  unfold keyR
  unfold rowL at h
  have := congrArg (List.map (Sum.inl : Int → Key)) h
  rw [List.map_map, List.map_map] at this
  exact this)
theorem rowL_ne {M : Nat} (h : 1 ≤ M) (r : Nat → Int) : rowL M r ≠ [] := fun e => by
  have := congrArg List.length e
  unfold rowL at this
  rw [List.length_map, List.length_range] at this
  simp at this
  omega
theorem lab_snoc (j : Nat) (f : Nat → Int) : lab (j + 1) f = lab j f ++ [V.int (f j)] := by
  unfold lab
  rw [List.range_succ, List.map_append]
  rfl
theorem in_rows {M : Nat} {A : Ar} {s : Nat → Int} (S : Root M A s) {Fs : List (Nat → Int)} (all : ∀ r ∈ Fs, Root M A r) : decide (rowL M s ∈ Fs.map (rowL M)) = true ↔ s ∈ Fs := by
  rw [decide_eq_true_eq]
  constructor
  · intro h
    obtain ⟨r, hr, e⟩ := List.mem_map.mp h
    rw [← rowL_inj (all r hr) S e]
    exact hr
  · exact List.mem_map_of_mem
theorem two_rows {J : Hp} {M : Nat} : ∀ {cs : List Addr} {Fs : List (Nat → Int)}, Two (fun c r => J c = some (.tup (lab M r))) cs Fs → Two (fun c l => J c = some (.tup (l.map V.int))) cs (Fs.map (rowL M))
  | _, _, .nil => .nil
  | _, _, .cons h t => .cons (by rw [rowL_lab]; exact h) (two_rows t)
section
variable {P : Program} {w : World} {K : PySem.W.Frag} {mg : Str → Option Value} {base : Heap}
abbrev rooN : List Str := ["many","arrows","found","at","place","row","near","a","b","other"]
theorem scRoo : FnScope rooN ["many", "arrows"] (defScope sRoo) := ⟨rfl, rfl, rfl, by decide +kernel, rfl, by decide +kernel, by decide +kernel⟩
theorem ok_roo {f : Addr} {fd : FuncData} (F : L2.Fun K "_law_roots" "_law_roots" sRoo f fd) (T : Gb mg) (sm : mg "sum" = none) : FnOk P w K mg base CX0 2 f fd ["many", "arrows"] spRoo := by
  refine F.ok scRoo (fun vs H Q E h => ?_) (fun cdv A outer s H vs Q E hr h => ?_)
  · obtain ⟨b, M, A, rfl, _⟩ := h
    rfl
  · obtain ⟨b, M, Ars, rfl, tt, hm1, hm8, hL, ins', nb, kQ⟩ := h
    obtain ⟨as, hb, pt⟩ := id tt
    have hlen : (as.map V.ref).length = Ars.length := by rw [List.length_map, PT2.len pt, List.length_map]
    obtain ⟨ab, nl⟩ := finite_above ins' nb
    have p2 : 2 ^ M ≤ 256 := by
      have : 2 ^ M ≤ 2 ^ 8 := Nat.pow_le_pow_right (by decide) hm8
      omega
    refine ⟨_, pss_cons (ps_setLc (i := 2) (own := [("place", 4)]) (g := gName 4) (tt := tYes) rfl scRoo.nd rfl rfl (sw_true rfl rfl rfl (by decide +kernel)) (pi_range1 (by rfl) T.rng (pa_cons (pv 0) pa_nil)) (blkOk_by (N := rooN) (sc := defScope sRoo) (by decide +kernel)) (fun _ _ _ _ _ => (pg_name (i := 4) scRoo.nd rfl (Or.inr rfl))) (fun _ _ _ _ _ => pts_nil) (fun _ _ _ _ _ => (pe_callTy (r := rTupS K) call_tupS (by rfl) T.tup (by decide +kernel) (pa_cons (pe_lc (own := [("at", 3)]) (g := gName 3) (tt := tYes) rfl scRoo.nd (pi_range1 (by rfl) T.rng (pa_cons (pv 0) pa_nil)) (blkOk_by (by first | kernel_rfl | rfl)) (fun _ _ _ _ _ => (pg_name (i := 3) scRoo.nd rfl (Or.inl rfl))) (fun _ _ _ _ _ => pts_nil) (fun _ _ _ _ _ => (pe_callTy call_int1 (by rfl) T.int (by decide +kernel) (pa_cons (pe_cmpR op_eq (pv 3) (pv 4) (nomark _)) pa_nil)))) pa_nil))))
      (pss_cons (ps_set (i := 3) scRoo.nd rfl (Or.inl rfl) pe_int)
      (pss_cons (ps_while PassesOwn.never (pt_cmpR op_lt (pv 3) (pe_callB call_len_seq (by rfl) T.len PySem.boot_len (pa_cons (pv 2) pa_nil)) (nomark _))
      (pss_cons (ps_asg (pe_tup (pa_cons (pe_ix ix_list (pv 2) (pv 3) (fun _ _ => rfl)) (pa_cons (pe_op op_add (pv 3) pe_int) pa_nil))) (pg_tup rfl (pgs_cons (pg_name (i := 5) scRoo.nd rfl (Or.inr rfl)) (pgs_cons (pg_name (i := 3) scRoo.nd rfl (Or.inl rfl)) pgs_nil))))
      (pss_one (ps_for PassesOwn.never rfl (pi_range1 (by rfl) T.rng (pa_cons (pv 0) pa_nil)) (pg_name (i := 4) scRoo.nd rfl (Or.inr rfl))
      (pss_cons (ps_set (i := 6) scRoo.nd rfl (Or.inl rfl) (pe_op op_add (pe_callB (cr_sum rfl) (by rfl) sm (by decide +kernel) (pa_cons (pe_lc (own := [("a", 7), ("b", 8)]) (g := gTup K 2 (gCons (gName 7) (gCons (gName 8) gNil))) rfl scRoo.nd (pi_tup (pv 1)) (blkOk_by (N := rooN) (sc := defScope sRoo) (by decide +kernel)) (fun _ _ _ _ _ => (pg_tup rfl (pgs_cons (pg_name (i := 7) scRoo.nd rfl (Or.inl rfl)) (pgs_cons (pg_name (i := 8) scRoo.nd rfl (Or.inl rfl)) pgs_nil)))) (fun _ _ _ _ _ => (pts_one (pt_cmpR op_eq (pv 7) (pv 4) (nomark _)))) (fun _ _ _ _ _ => (pe_ix (r := rIxT K) ix_tup (pv 5) (pv 8) (fun _ _ => rfl)))) pa_nil)) (pe_callB (cr_sum rfl) (by rfl) sm (by decide +kernel) (pa_cons (pe_lc (own := [("a", 7), ("b", 8)]) (g := gTup K 2 (gCons (gName 7) (gCons (gName 8) gNil))) rfl scRoo.nd (pi_tup (pv 1)) (blkOk_by (N := rooN) (sc := defScope sRoo) (by decide +kernel)) (fun _ _ _ _ _ => (pg_tup rfl (pgs_cons (pg_name (i := 7) scRoo.nd rfl (Or.inl rfl)) (pgs_cons (pg_name (i := 8) scRoo.nd rfl (Or.inl rfl)) pgs_nil)))) (fun _ _ _ _ _ => (pts_one (pt_cmpR op_eq (pv 8) (pv 4) (nomark _)))) (fun _ _ _ _ _ => (pe_ix (r := rIxT K) ix_tup (pv 5) (pv 7) (fun _ _ => rfl)))) pa_nil))))
      (C8.pss_cut (ps_set (i := 9) scRoo.nd rfl (Or.inl rfl) (pe_op (r := rCatX) op_catX (pe_op (r := rCatX) op_catX (pe_slice sl_tupX (pv 5) po_none (po_some (pv 4))) (pe_tup (pa_cons (pe_op op_sub (pv 6) (pe_ix ix_tup (pv 5) (pv 4) (fun _ _ => rfl))) pa_nil))) (pe_slice sl_tupX (pv 5) (po_some (pe_op op_add (pv 4) pe_int)) po_none)))
      (pss_one (ps_if (PW.pt (pw_and (pt_cmpR op_ge (pe_ix ix_tup (pv 9) (pv 4) (fun _ _ => rfl)) pe_int (nomark _)) (pw_and (pt_cmpR op_gt (pe_callB (r := rMaxT K) (cr_maxT rfl) (by rfl) T.max (by decide +kernel) (pa_cons (pv 9) pa_nil)) pe_int (nomark _)) (pw_and1 (pt_cmpR (op_notInD (hu65 hr)) (pv 9) (pv 2) (by rfl)))))) (pss_one (ps_expr (pe_bm PySem.F.plainAttrs_list PySem.F.slot_list_append PySem.F.type_list_append mt_append (pv 2) (pa_cons (pv 9) pa_nil)))) pss_nil))))))))
      (pss_one (ps_ret (pe_callB (cr_sortRows hr.units) (by rfl) T.sorted (by decide +kernel) (pa_cons (pv 2) pa_nil)))))), ?_⟩
    dsimp only [tAsg, gName]
    -- the unit rows
    refine ⟨_, rfl, (M : Int), rfl, by omega, by omega, fun fo nfo => lc_range (lo := 0) (n := M) (fun i J => Ext H J ∧ ∃ cs : List Addr, J fo = some (.lst (cs.map V.ref)) ∧ Two (fun c r => J c = some (.tup (lab M r))) cs ((List.range i).map unitR)) ⟨Ext.upd nfo, [], upd_same, .nil⟩ ?_ ?_⟩
    · rintro i J hi ⟨xJ, cs, hD, tw⟩
      rw [show (0 : Int) + (i : Int) = (i : Int) from Int.zero_add _]
      have lc : cs.length = i := by rw [tw.len, List.length_map, List.length_range]
      refine ⟨rfl, tyes_in ⟨_, rfl, (M : Int), rfl, by omega, by omega, fun D nD => lc_range (lo := 0) (n := M) (fun j J2 => Ext J J2 ∧ J2 D = some (.lst (lab j (unitR i)))) ⟨Ext.upd nD, upd_same⟩ ?_ ?_⟩⟩
      · rintro j J2 hj ⟨x2, hD2⟩
        rw [show (0 : Int) + (j : Int) = (j : Int) from Int.zero_add _]
        refine ⟨rfl, tyes_in ⟨_, rfl, _, rfl, rfl, .inr ⟨_, rfl, ?_⟩⟩⟩
        refine ⟨_, hD2, small1000 (by rw [lab_len]; omega), fun b o hb' => ?_, ?_⟩
        · rw [upd_ne (ne_of_none hb' nD)]
          exact x2 _ _ hb'
        · rw [upd_same, lab_snoc]
          congr 4
          unfold unitR
          by_cases e : j = i
          · rw [if_pos e, e]
            simp
          · rw [if_neg e]
            simp [e]
            omega
      · rintro J2 ⟨x2, hD2⟩
        refine ⟨D, _, rfl, .inl ⟨SqL.of hD2, fun t nt => ?_⟩⟩
        have e := Ext.upd (o := .tup (lab M (unitR i))) nt
        have ne : t ≠ fo := (ne_of_none (x2 _ _ hD) nt).symm
        refine ⟨_, e _ _ (x2 _ _ hD), by rw [List.length_map]; exact small1000 (by omega), fun b o hb' => ?_, cs ++ [t], by rw [upd_same, List.map_append]; rfl, ?_⟩
        · rw [upd_ne (ne_of_none hb' nfo)]
          exact e _ _ (x2 _ _ (xJ _ _ hb'))
        · rw [List.range_succ, List.map_append]
          refine two_app (tw.imp fun a r z => ?_) (.cons ?_ .nil)
          · rw [upd_ne (lst_ne hD z)]
            exact e _ _ (x2 _ _ z)
          · rw [upd_ne ne, upd_same]
    rintro J1 ⟨x1, cs, hfo, tw⟩
    have start := Mir.start (M := M) (A := Ars) nl
    -- the search
    refine ⟨fun m σ' J => ∃ (k : Nat) (Fs : List (Nat → Int)) (cs : List Addr) (v4 v5 v6 v9 : Option V), σ' = [some (nv M), some (.ref b), some (.ref fo), some (nv k), v4, v5, v6, Option.none, Option.none, v9] ∧ Ext H J ∧ J fo = some (.lst (cs.map V.ref)) ∧ Two (fun c r => J c = some (.tup (lab M r))) cs Fs ∧ Mir M Ars Fs k ∧ k ≤ Fs.length ∧ m + k = 2 ^ M,
      ⟨2 ^ M, 0, _, cs, _, _, _, _, rfl, x1, hfo, tw, start, Nat.zero_le _, rfl⟩, ?_⟩
    rintro m σ' J ⟨k, Fs, cs, v4, v5, v6, v9, rfl, xJ, hfo, tw, mir, kl, em⟩
    have lcs : cs.length = Fs.length := tw.len
    have fw := roots_few ab mir.nd mir.fs
    refine ⟨_, rfl, _, rfl, fo, _, rfl, .inl (SqL.of hfo), _, _, rfl, rfl, _, rfl, ?_⟩
    refine ite2 (fun z => ?_) (fun z => ?_)
    rotate_left
    · -- all looked at
      have ek : k = Fs.length := by
        have : ¬ (k : Int) < ((cs.map V.ref).length : Int) := fun y => z (decide_eq_true y)
        rw [List.length_map] at this
        omega
      subst ek
      refine ⟨_, rfl, fo, cs, rfl, SqL.of hfo, fun c hc => ?_, fun q nq => ?_⟩
      · obtain ⟨r, _, e⟩ := two_on tw c hc
        exact ⟨rowL M r, rowL_ne hm1 r, by rw [rowL_lab]; exact e⟩
      · have x9 := Ext.upd (o := .lst ((cs.mergeSort (PySem.W.dataLe false (encK J))).map V.ref)) nq
        exact kQ q _ (xJ.trans x9) (none_back xJ nq) fun K => ⟨J, cs, Fs, x9, upd_same, tw, mir.nd, mir.done nl ab ins'⟩
    have klt : k < Fs.length := by
      have := of_decide_eq_true z
      rw [List.length_map] at this
      omega
    obtain ⟨r, hr⟩ : ∃ r, Fs[k]? = some r := ⟨_, List.getElem?_eq_getElem klt⟩
    obtain ⟨rr, hrr, hrow⟩ := tw.at_right hr
    have R : Root M Ars r := mir.fs r (List.mem_of_getElem? hr)
    refine ⟨fun σ' J => ∃ m', m' < m ∧ ∃ (k : Nat) (Fs : List (Nat → Int)) (cs : List Addr) (v4 v5 v6 v9 : Option V), σ' = [some (nv M), some (.ref b), some (.ref fo), some (nv k), v4, v5, v6, Option.none, Option.none, v9] ∧ Ext H J ∧ J fo = some (.lst (cs.map V.ref)) ∧ Two (fun c r => J c = some (.tup (lab M r))) cs Fs ∧ Mir M Ars Fs k ∧ k ≤ Fs.length ∧ m' + k = 2 ^ M, fun _ _ z => z, ?_⟩
    refine ⟨_, rfl, _, rfl, fo, _, _, _, rfl, rfl, SqL.of hfo, at_of (j := k) rfl (by rw [List.getElem?_map, hrr]; rfl), _, rfl, _, _, rfl, rfl, by show 2 ≤ sizeLine; decide, fun t nt => ?_⟩
    have xt := Ext.upd (o := .tup [V.ref rr, V.int ((k : Int) + 1)]) nt
    refine ⟨t, _, rfl, SqT.of upd_same, rfl, _, _, rfl, _, _, rfl, rfl, ?_⟩
    have xJ0 := xJ.trans xt
    have hfo0 := xt _ _ hfo
    have hrow0 := xt _ _ hrow
    have tw0 := tw.imp (S := fun c r => upd J t (.tup [V.ref rr, V.int ((k : Int) + 1)]) c = some (.tup (lab M r))) fun _ _ z => xt _ _ z
    generalize upd J t (.tup [V.ref rr, V.int ((k : Int) + 1)]) = J0 at *
    refine ⟨_, rfl, (M : Int), rfl, by omega, by omega, for_range (lo := 0) (n := M) (fun i σ' J => ∃ (Fs : List (Nat → Int)) (cs : List Addr) (v4 v6 v9 : Option V), σ' = [some (nv M), some (.ref b), some (.ref fo), some (nv (k + 1)), v4, some (.ref rr), v6, Option.none, Option.none, v9] ∧ Ext H J ∧ J rr = some (.tup (lab M r)) ∧ J fo = some (.lst (cs.map V.ref)) ∧ Two (fun c r => J c = some (.tup (lab M r))) cs Fs ∧ Mir M Ars Fs k ∧ k < Fs.length ∧ Fs[k]? = some r ∧ ∀ q, q < i → M22.sur Ars r q = 1 → bump r q 1 ∈ Fs) ⟨Fs, cs, _, _, _, rfl, xJ0, hrow0, hfo0, tw0, mir, klt, hr, fun q h => absurd h (Nat.not_lt_zero _)⟩ ?_ ?_⟩
    rotate_left
    · rintro σ' J9 ⟨Fs, cs, v4, v6, v9, rfl, x9, _, hfo9, tw9, mir9, klt9, hr9, on9⟩
      exact ⟨m - 1, by omega, k + 1, Fs, cs, _, _, _, _, rfl, x9, hfo9, tw9, mir9.next hr9 on9, klt9, by omega⟩
    clear hfo0 hrow0 tw0 xJ0 xt nt hrow hrr tw hr mir klt fw lcs hfo xJ
    rintro i σ' J hi ⟨Fs, cs, v4, v6, v9, rfl, xJ, hrow, hfo, tw, mir, klt, hr, on⟩
    have lcs : cs.length = Fs.length := tw.len
    have fw := roots_few ab mir.nd mir.fs
    rw [show (0 : Int) + (i : Int) = (i : Int) from Int.zero_add _]
    have hbJ := xJ _ _ hb
    refine ⟨_, rfl, b, rfl, ⟨_, SqT.of hbJ⟩, fun D nD => lc_tup (K := K) (a := b) (xs := as.map V.ref) (fun u J3 => Ext J J3 ∧ J3 D = some (.lst (((outs (Ars.take u) i).map r).map V.int))) ⟨Ext.upd nD, upd_same⟩ (fun u J3 _ z => SqT.of (z.1 _ _ hbJ)) ?_ ?_⟩
    · rintro u y J3 hy ⟨x3, hD⟩
      obtain ⟨c, ar, rfl, ha, hc⟩ := TT.arrow pt hy
      obtain ⟨ia, ib⟩ := ins' ar (List.mem_of_getElem? ha)
      have ol := outs_len (Ars.take u) i
      rw [List.length_take] at ol
      refine ⟨c, _, rfl, SqT.of (x3 _ _ (xJ _ _ hc)), rfl, _, _, rfl, _, _, rfl, rfl, rfl, ?_⟩
      refine ⟨_, rfl, _, rfl, rfl, _, rfl, ?_⟩
      rw [nv_eq]
      refine ite2 (fun z => ?_) (fun z => ?_)
      · refine ⟨_, rfl, _, rfl, rr, _, _, _, rfl, rfl, SqT.of (x3 _ _ hrow), lab_at ib rfl, _, hD, by rw [List.length_map, List.length_map]; exact small1000 (by omega), fun b o hb' => ?_, ?_⟩
        · rw [upd_ne (ne_of_none hb' nD)]
          exact x3 _ _ hb'
        · rw [upd_same, outs_snoc ha, if_pos (of_decide_eq_true z), List.map_append, List.map_append]
          rfl
      · refine ⟨x3, ?_⟩
        rw [outs_snoc ha, if_neg (fun y => z (decide_eq_true y)), List.append_nil]
        exact hD
    rintro J3 ⟨x3, hD⟩
    rw [hlen, List.take_of_length_le (Nat.le_refl _)] at hD
    have xJ3 := xJ.trans x3
    have hb3 := xJ3 _ _ hb
    refine ⟨D, _, rfl, SqL.of hD, ?_⟩
    clear nD
    refine ⟨_, rfl, b, rfl, ⟨_, SqT.of hb3⟩, fun D2 nD => lc_tup (K := K) (a := b) (xs := as.map V.ref) (fun u J4 => Ext J3 J4 ∧ J4 D2 = some (.lst (((ins (Ars.take u) i).map r).map V.int))) ⟨Ext.upd nD, upd_same⟩ (fun u J4 _ z => SqT.of (z.1 _ _ hb3)) ?_ ?_⟩
    · rintro u y J4 hy ⟨x4, hD⟩
      obtain ⟨c, ar, rfl, ha, hc⟩ := TT.arrow pt hy
      obtain ⟨ia, ib⟩ := ins' ar (List.mem_of_getElem? ha)
      have ol := ins_len (Ars.take u) i
      rw [List.length_take] at ol
      refine ⟨c, _, rfl, SqT.of (x4 _ _ (xJ3 _ _ hc)), rfl, _, _, rfl, _, _, rfl, rfl, rfl, ?_⟩
      refine ⟨_, rfl, _, rfl, rfl, _, rfl, ?_⟩
      rw [nv_eq]
      refine ite2 (fun z => ?_) (fun z => ?_)
      · refine ⟨_, rfl, _, rfl, rr, _, _, _, rfl, rfl, SqT.of (x4 _ _ (x3 _ _ hrow)), lab_at ia rfl, _, hD, by rw [List.length_map, List.length_map]; exact small1000 (by omega), fun b o hb' => ?_, ?_⟩
        · rw [upd_ne (ne_of_none hb' nD)]
          exact x4 _ _ hb'
        · rw [upd_same, ins_snoc ha, if_pos (of_decide_eq_true z), List.map_append, List.map_append]
          rfl
      · refine ⟨x4, ?_⟩
        rw [ins_snoc ha, if_neg (fun y => z (decide_eq_true y)), List.append_nil]
        exact hD
    rintro J4 ⟨x4, hD4⟩
    rw [hlen, List.take_of_length_le (Nat.le_refl _)] at hD4
    have x34 := x3.trans x4
    refine ⟨D2, _, rfl, SqL.of hD4, _, _, rfl, rfl, ?_⟩
    have su : ((outs Ars i).map r).sum + ((ins Ars i).map r).sum - r i = r i + M22.sur Ars r i := by
      unfold M22.sur
      rw [isum_perm ((ends_perm Ars i).map r), List.map_append, List.sum_append]
      omega
    clear hD hD4 nD
    have hrow4 := x34 _ _ hrow
    have fo4 := x34 _ _ hfo
    have tw4 := tw.imp (S := fun c r => J4 c = some (.tup (lab M r))) fun _ _ z => x34 _ _ z
    have xJ4 := xJ.trans x34
    clear hbJ hb3 xJ3 x3 x4 x34 hrow hfo tw xJ
    -- the row mirrored at i
    generalize hs : bump r i (M22.sur Ars r i) = s
    refine ⟨fun σ' J5 => ∃ (o : Addr) (v6 : Option V), σ' = [some (nv M), some (.ref b), some (.ref fo), some (nv (k + 1)), some (nv i), some (.ref rr), v6, Option.none, Option.none, some (.ref o)] ∧ Ext J4 J5 ∧ J5 o = some (.tup (lab M s)), ?_, ?_⟩
    · refine ⟨_, rfl, _, rfl, (i : Int), rfl, rr, _, rfl, hrow4, fun a J1 x1 h1 => ?_⟩
      refine ⟨_, rfl, _, rfl, _, rfl, rr, _, _, _, rfl, rfl, SqT.of (x1 _ _ hrow4), lab_at hi rfl, _, _, rfl, rfl, by show 1 ≤ sizeLine; decide, fun c nc => ⟨a, c, _, _, rfl, rfl, (Ext.upd nc) _ _ h1, upd_same, ?_, fun d J2 x2 h2 => ?_⟩⟩
      · rw [cut_to, List.length_take, lab_len]
        show _ + 1 ≤ 1000
        omega
      · refine ⟨_, rfl, _, rfl, _, _, rfl, rfl, ((i : Int) + 1), rfl, rr, _, rfl, x2 _ _ ((Ext.upd nc) _ _ (x1 _ _ hrow4)), fun e J3 x3 h3 => ⟨d, e, _, _, rfl, rfl, x3 _ _ h2, h3, ?_, fun g J6 x6 h6 => ?_⟩⟩
        · rw [cut_to, show (i : Int) + 1 = ((i + 1 : Nat) : Int) by omega, cut_from, List.length_append, List.length_take, List.length_drop, lab_len]
          show _ + 1 + _ ≤ 1000
          omega
        · rw [cut_to, show (i : Int) + 1 = ((i + 1 : Nat) : Int) by omega, cut_from] at h6
          dsimp only at h6
          rw [su] at h6
          refine ⟨g, _, rfl, x1.trans ((Ext.upd nc).trans (x2.trans (x3.trans x6))), ?_⟩
          rw [h6, ← hs]
          exact congrArg (fun z => some (HO.tup z)) (lab_up hi)
    rintro σ' J5 ⟨o, v6', rfl, x5, ho⟩
    have hrow5 := x5 _ _ hrow4
    have fo5 := x5 _ _ fo4
    have tw5 := tw4.imp (S := fun c r => J5 c = some (.tup (lab M r))) fun _ _ z => x5 _ _ z
    have xJ5 := xJ4.trans x5
    have si : s i = r i + M22.sur Ars r i := by
      rw [← hs]
      unfold M22.bump
      rw [if_pos rfl]
    have ri := R.lo i
    have same : (∀ q, q < i + 1 → M22.sur Ars r q = 1 → bump r q 1 ∈ Fs) → ∃ (Fs : List (Nat → Int)) (cs : List Addr) (v4 v6 v9 : Option V), [some (nv M), some (V.ref b), some (.ref fo), some (nv (k + 1)), some (nv i), some (.ref rr), v6', Option.none, Option.none, some (.ref o)] = [some (nv M), some (V.ref b), some (.ref fo), some (nv (k + 1)), v4, some (.ref rr), v6, Option.none, Option.none, v9] ∧ Ext H J5 ∧ J5 rr = some (.tup (lab M r)) ∧ J5 fo = some (.lst (cs.map V.ref)) ∧ Two (fun c r => J5 c = some (.tup (lab M r))) cs Fs ∧ Mir M Ars Fs k ∧ k < Fs.length ∧ Fs[k]? = some r ∧ ∀ q, q < i + 1 → M22.sur Ars r q = 1 → bump r q 1 ∈ Fs :=
      fun on' => ⟨Fs, cs, _, _, _, rfl, xJ5, hrow5, fo5, tw5, mir, klt, hr, on'⟩
    refine ⟨_, rfl, _, rfl, o, _, _, _, rfl, rfl, SqT.of ho, lab_at hi rfl, _, _, rfl, rfl, _, rfl, ?_⟩
    refine ite2 (fun z => ?_) (fun z => iteF (same fun q hq e => ?_))
    rotate_left
    · by_cases eq : q = i
      · subst eq
        exact absurd (decide_eq_true (by omega)) z
      · exact on q (by omega) e
    have z : 0 ≤ s i := of_decide_eq_true z
    have S : Root M Ars s := by
      rw [← hs]
      exact refl_root nl R hi (by omega)
    obtain ⟨p0, p0M, p0r⟩ := S.ne
    refine ⟨_, rfl, o, (List.range M).map s, rfl, SqT.of (by rw [ho]; unfold lab; rw [List.map_map]; rfl), by rw [List.length_map, List.length_range]; omega, fun mx hm mxl => ⟨_, _, rfl, rfl, _, rfl, ?_⟩⟩
    have mpos : 0 < mx := Int.lt_of_lt_of_le p0r (mxl _ (List.mem_map_of_mem (List.mem_range.mpr p0M)))
    refine ite2 (fun _ => ?_) (fun z => absurd (decide_eq_true mpos) z)
    refine ⟨_, rfl, _, rfl, rD (rowL M s), (Fs.map (rowL M)).map rD, dp_row (by rw [rowL_lab]; exact ho), .lst (SqL.of fo5) (dp_rows (two_rows tw5)), rD_shaped _, rDs_shaped _, ?_⟩
    rw [rows_any]
    by_cases old : s ∈ Fs
    · rw [(in_rows S mir.fs).mpr old]
      refine ⟨_, rfl, iteF (same fun q hq e => ?_)⟩
      by_cases eq : q = i
      · subst eq
        rw [← e, hs]
        exact old
      · exact on q (by omega) e
    have no : decide (rowL M s ∈ Fs.map (rowL M)) = false := by
      cases e : decide (rowL M s ∈ Fs.map (rowL M)) with
      | false => rfl
      | true => exact absurd ((in_rows S mir.fs).mp e) old
    rw [no]
    refine ⟨_, rfl, iteT ?_⟩
    have tx := TExt.put (ys := cs.map V.ref ++ [.ref o]) fo5
    refine ⟨_, rfl, .inl ⟨rfl, _, SqL.of fo5⟩, _, rfl, fo, _, _, rfl, rfl, fo5, by rw [List.length_map]; exact small1000 (by omega), ?_⟩
    refine ⟨Fs ++ [s], cs ++ [o], _, _, _, rfl, fun b' o' hb' => ?_, tx _ _ hrow5, by rw [upd_same, List.map_append]; rfl, two_app (tw5.imp fun _ _ z => tx _ _ z) (.cons (tx _ _ ho) .nil), mir.add (by omega) S old, by rw [List.length_append]; omega, by rw [List.getElem?_append_left klt]; exact hr, fun q hq e => ?_⟩
    · rw [upd_ne (ne_of_none hb' nfo)]
      exact xJ5 _ _ hb'
    · by_cases eq : q = i
      · subst eq
        rw [← e, hs]
        exact List.mem_append_right _ List.mem_cons_self
      · exact List.mem_append_left _ (on q (by omega) e)
end
end R23

set_option Elab.async false
set_option linter.all false
set_option maxRecDepth 100000
set_option maxHeartbeats 4000000
set_option pp.maxSteps 100
/-! _law_searched. -/
namespace R23
open PySem L2 K9M M21 M22
abbrev sSea : Stmt := top 45
/-- all rows with items from 0 to 6 -/
def exts (l : List Int) : List (List Int) := (List.range 7).map fun j : Nat => l ++ [(j : Int)]
def allR : Nat → List (List Int)
  | 0 => [[]]
  | i + 1 => (allR i).flatMap exts
theorem allR_mem : ∀ {i : Nat} {l : List Int}, l ∈ allR i ↔ l.length = i ∧ ∀ x ∈ l, 0 ≤ x ∧ x ≤ 6
  | 0, l => by
    show l ∈ [[]] ↔ _
    rw [List.mem_singleton]
    constructor
    · rintro rfl
      exact ⟨rfl, fun x h => nomatch h⟩
    · rintro ⟨h, _⟩
      exact List.eq_nil_of_length_eq_zero h
  | i + 1, l => by
    show l ∈ (allR i).flatMap exts ↔ _
    rw [List.mem_flatMap]
    constructor
    · rintro ⟨k, hk, hl⟩
      obtain ⟨h1, h2⟩ := allR_mem.mp hk
      obtain ⟨j, hj, rfl⟩ := List.mem_map.mp hl
      have := List.mem_range.mp hj
      refine ⟨by rw [List.length_append, h1]; rfl, fun x hx => ?_⟩
      rcases List.mem_append.mp hx with z | z
      · exact h2 x z
      · rw [List.mem_singleton.mp z]
        omega
    · rintro ⟨h1, h2⟩
      rcases List.eq_nil_or_concat l with e | ⟨k, a, e⟩
      · rw [e] at h1
        cases h1
      · rw [List.concat_eq_append] at e
        subst e
        rw [List.length_append] at h1
        have h1 : k.length + 1 = i + 1 := h1
        refine ⟨k, allR_mem.mpr ⟨by omega, fun x hx => h2 x (List.mem_append_left _ hx)⟩, List.mem_map.mpr ⟨a.toNat, List.mem_range.mpr ?_, ?_⟩⟩
        · have := h2 a (List.mem_append_right _ List.mem_cons_self)
          omega
        · have := h2 a (List.mem_append_right _ List.mem_cons_self)
          rw [Int.toNat_of_nonneg this.1]
theorem allR_len : ∀ i : Nat, (allR i).length = 7 ^ i
  | 0 => rfl
  | i + 1 => by
    show ((allR i).flatMap exts).length = _
    rw [List.length_flatMap, Nat.pow_succ, ← allR_len i]
    have : (allR i).map (fun l => (exts l).length) = (allR i).map fun _ => 7 := List.map_congr_left fun l _ => by
      unfold exts
      rw [List.length_map, List.length_range]
    rw [this, List.map_const']
    simp
theorem lt_app : ∀ {l k : List Int}, l < k → l.length = k.length → ∀ (x y : Int), l ++ [x] < k ++ [y]
  | [], [], h, _, _, _ => absurd h (List.lt_irrefl _)
  | [], _ :: _, _, e, _, _ => by cases e
  | _ :: _, [], _, e, _, _ => by cases e
  | a :: l, b :: k, h, e, x, y => by
    rw [List.cons_lt_cons_iff] at h
    rw [List.cons_append, List.cons_append, List.cons_lt_cons_iff]
    rcases h with h | ⟨h1, h2⟩
    · exact .inl h
    · exact .inr ⟨h1, lt_app h2 (by simpa using e) x y⟩
theorem app_lt : ∀ (l : List Int) {x y : Int}, x < y → l ++ [x] < l ++ [y]
  | [], x, y, h => by
    show [x] < [y]
    rw [List.cons_lt_cons_iff]
    exact .inl h
  | a :: l, x, y, h => by
    rw [List.cons_append, List.cons_append, List.cons_lt_cons_iff]
    exact .inr ⟨rfl, app_lt l h⟩
theorem allR_up : ∀ i : Nat, (allR i).Pairwise (· < ·)
  | 0 => List.pairwise_singleton _ _
  | i + 1 => by
    show ((allR i).flatMap exts).Pairwise _
    rw [List.pairwise_flatMap]
    refine ⟨fun l _ => ?_, (allR_up i).imp_of_mem fun {l k} hl hk h x hx y hy => ?_⟩
    · unfold exts
      rw [List.pairwise_map]
      exact (List.pairwise_lt_range (n := 7)).imp fun h => app_lt l (by omega)
    · obtain ⟨a, _, rfl⟩ := List.mem_map.mp hx
      obtain ⟨b, _, rfl⟩ := List.mem_map.mp hy
      exact lt_app h (by rw [(allR_mem.mp hl).1, (allR_mem.mp hk).1]) _ _
/-- a list as a row -/
def fnOf (l : List Int) : Nat → Int := fun i => l.getD i 0
theorem fnOf_lab {M : Nat} {l : List Int} (h : l.length = M) : l.map V.int = lab M (fnOf l) := by
  subst h
  refine List.ext_getElem (by rw [lab_len, List.length_map]) fun j h1 h2 => ?_
  rw [lab_len] at h2
  have e := lab_get (f := fnOf l) h2
  rw [List.getElem?_eq_getElem (by rw [lab_len]; exact h2)] at e
  rw [Option.some.inj e, List.getElem_map]
  unfold fnOf
  rw [List.getD_eq_getElem?_getD, List.getElem?_eq_getElem h2]
  rfl
theorem fnOf_rowL {M : Nat} {l : List Int} (h : l.length = M) : rowL M (fnOf l) = l := by
  have := fnOf_lab h
  rw [← rowL_lab] at this
  exact (int_inj this).symm
/-- those whose form is 1 -/
def oneR (M : Nat) (A : Ar) : List (List Int) := (allR M).filter fun l => decide (qf M A (fnOf l) = 1)
theorem root_fnOf {M : Nat} {A : Ar} {r : Nat → Int} (R : Root M A r) : fnOf (rowL M r) = r := by
  funext i
  unfold fnOf rowL
  rw [List.getD_eq_getElem?_getD, List.getElem?_map]
  by_cases h : i < M
  · rw [List.getElem?_range h]
    rfl
  · rw [List.getElem?_eq_none (by rw [List.length_range]; omega), R.off i (by omega)]
    rfl
theorem oneR_told {M : Nat} {A : Ar} (hA : Inside M A) (nb : ¬ HasBad M A) (m4 : M ≤ 4) : Told1 M A (oneR M A) := by
  refine ⟨?_, ?_, fun l => ?_⟩
  · exact ((allR_up M).filter _).imp fun h => List.le_of_lt h
  · exact ((allR_up M).filter _).imp fun h e => by
      rw [e] at h
      exact List.lt_irrefl _ h
  · unfold oneR
    rw [List.mem_filter, allR_mem, decide_eq_true_eq]
    constructor
    · rintro ⟨⟨h1, h2⟩, h3⟩
      refine ⟨fnOf l, ⟨fun p => ?_, fun p hp => ?_, h3⟩, (fnOf_rowL h1).symm⟩
      · unfold fnOf
        rw [List.getD_eq_getElem?_getD]
        cases e : l[p]? with
        | none => exact Int.le_refl _
        | some x => exact (h2 x (List.mem_of_getElem? e)).1
      · unfold fnOf
        rw [List.getD_eq_getElem?_getD, List.getElem?_eq_none (by omega)]
        rfl
    · rintro ⟨r, R, rfl⟩
      refine ⟨⟨by unfold rowL; rw [List.length_map, List.length_range], fun x hx => ?_⟩, by rw [root_fnOf R]; exact R.one⟩
      obtain ⟨p, _, rfl⟩ := List.mem_map.mp hx
      exact ⟨R.lo p, R.small hA nb m4 p⟩
theorem filter_snoc {α : Type} {f : α → Bool} {l : List α} {i : Nat} {a : α} (h : l[i]? = some a) : (l.take (i + 1)).filter f = (l.take i).filter f ++ (if f a = true then [a] else []) := by
  rw [List.take_succ, h, List.filter_append]
  congr 1
  show List.filter f [a] = _
  rw [List.filter_cons]
  rfl
def spSea : Sp := fun vs H Q _ => ∃ (b : Addr) (M : Nat) (A : Ar), vs = [nv M, .ref b] ∧ TT H b (A.map arL) ∧ M ≤ 4 ∧ A.length ≤ 12 ∧ Inside M A ∧ ∀ (t : Addr) (cs : List Addr) (H' : Hp), Ext H H' → H t = none → H' t = some (.lst (cs.map V.ref)) → Two (fun c l => H' c = some (.tup (l.map V.int))) cs (oneR M A) → Q (.ref t) H'
theorem small_fnOf {M i : Nat} {l : List Int} (h : l ∈ allR i) : Small (fnOf l) := fun p => by
  obtain ⟨_, h2⟩ := allR_mem.mp h
  unfold fnOf
  rw [List.getD_eq_getElem?_getD]
  cases e : l[p]? with
  | none => exact ⟨by decide, by decide⟩
  | some x =>
    have := h2 x (List.mem_of_getElem? e)
    exact ⟨by show -1000 ≤ x; omega, by show x ≤ 1000; omega⟩
theorem small2401 {n : Nat} (h : n ≤ 5000) : n + 1 ≤ sizeLine := by
  rw [sizeLine_eq]
  omega
section
variable {P : Program} {w : World} {K : PySem.W.Frag} {mg : Str → Option Value} {base : Heap}
abbrev seaN : List Str := ["many","arrows","found","place","longer","row","item"]
theorem scSea : FnScope seaN ["many", "arrows"] (defScope sSea) := ⟨rfl, rfl, rfl, by decide +kernel, rfl, by decide +kernel, by decide +kernel⟩
theorem ok_sea {f : Addr} {fd : FuncData} (F : L2.Fun K "_law_searched" "_law_searched" sSea f fd) (T : Gb mg) (cE : Cal P w K mg base 1 "_law_euler" spLEu []) : FnOk P w K mg base CX0 3 f fd ["many", "arrows"] spSea := by
  refine F.ok scSea (fun vs H Q E h => ?_) (fun cdv A outer s H vs Q E hr h => ?_)
  · obtain ⟨b, M, A, rfl, _⟩ := h
    rfl
  · obtain ⟨b, M, Ars, rfl, tt, hm4, hL, ins, kQ⟩ := h
    obtain ⟨as, hb, pt⟩ := id tt
    have p4 : ∀ i, i ≤ M → 7 ^ i ≤ 2401 := fun i hi => by
      have : 7 ^ i ≤ 7 ^ 4 := Nat.pow_le_pow_right (by decide) (by omega)
      omega
    refine ⟨_, pss_cons (ps_set (i := 2) scSea.nd rfl (Or.inl rfl) (pe_lst (pa_cons (pe_tup pa_nil) pa_nil)))
      (pss_cons (ps_for PassesOwn.never rfl (pi_range1 (by rfl) T.rng (pa_cons (pv 0) pa_nil)) (pg_name (i := 3) scSea.nd rfl (Or.inl rfl))
      (pss_cons (ps_set (i := 4) scSea.nd rfl (Or.inl rfl) (pe_lst pa_nil))
      (pss_cons (ps_for PassesOwn.never rfl (pi_list (pv 2)) (pg_name (i := 5) scSea.nd rfl (Or.inr rfl))
      (pss_one (ps_expr (pe_bm PySem.F.plainAttrs_list PySem.F.slot_list_extend PySem.F.type_list_extend mt_extend (pv 4) (pa_cons (pe_lc (own := [("item", 6)]) (g := gName 6) (tt := tYes) rfl scSea.nd (pi_range1 (by rfl) T.rng (pa_cons pe_int pa_nil)) (blkOk_by (N := seaN) (sc := defScope sSea) (by decide +kernel)) (fun _ _ _ _ _ => (pg_name (i := 6) scSea.nd rfl (Or.inl rfl))) (fun _ _ _ _ _ => pts_nil) (fun _ _ _ _ _ => (pe_op (r := rCatX) op_catX (pv 5) (pe_tup (pa_cons (pv 6) pa_nil))))) pa_nil)))))
      (pss_one (ps_set (i := 2) scSea.nd rfl (Or.inl rfl) (pv 4))))))
      (pss_one (ps_ret (pe_lc (own := [("row", 5)]) (g := gName 5) rfl scSea.nd (pi_list (pv 2)) (blkOk_by (N := seaN) (sc := defScope sSea) (by decide +kernel)) (fun _ _ _ _ _ => (pg_name (i := 5) scSea.nd rfl (Or.inl rfl))) (fun _ _ _ _ _ => (pts_one (pt_cmpR op_eq (C8.pe_c cE hr (by decide) (by rfl) (pa_cons (pv 1) (pa_cons (pv 5) (pa_cons (pv 5) pa_nil)))) pe_int (nomark _)))) (fun _ _ _ _ _ => (pv 5)))))), ?_⟩
    -- [()]
    refine ⟨Nat.zero_le _, fun e ne => ⟨by show 1 ≤ sizeLine; decide, fun fo nfo => ?_⟩⟩
    have y1 := Ext.upd (o := .tup []) ne
    have h1 := upd_same (H := H) (a := e) (o := .tup [])
    generalize upd H e (.tup []) = H1 at *
    have y2 := Ext.upd (o := .lst [V.ref e]) nfo
    have h2 := upd_same (H := H1) (a := fo) (o := .lst [V.ref e])
    have h12 := y2 _ _ h1
    generalize upd H1 fo (.lst [V.ref e]) = H2 at *
    refine ⟨_, rfl, (M : Int), rfl, by omega, by omega, for_range (lo := 0) (n := M) (fun i σ' J => ∃ (fo : Addr) (cs : List Addr) (v3 v4 v5 : Option V), σ' = [some (nv M), some (.ref b), some (.ref fo), v3, v4, v5, Option.none] ∧ Ext H J ∧ H fo = none ∧ J fo = some (.lst (cs.map V.ref)) ∧ Two (fun c l => J c = some (.tup (l.map V.int))) cs (allR i)) ⟨fo, [e], _, _, _, rfl, y1.trans y2, none_back y1 nfo, h2, .cons h12 .nil⟩ ?_ ?_⟩
    · rintro i σ' J hi ⟨fo, cs, v3, v4, v5, rfl, xJ, nfo, hfo, tw⟩
      have lcs : cs.length = 7 ^ i := by rw [tw.len, allR_len]
      have b1 := p4 (i + 1) hi
      rw [Nat.pow_succ] at b1
      rw [show (0 : Int) + (i : Int) = (i : Int) from Int.zero_add _]
      refine ⟨Nat.zero_le _, fun lo nlo => ?_⟩
      have y3 := Ext.upd (o := .lst []) nlo
      have h3 := upd_same (H := J) (a := lo) (o := .lst [])
      have hfo3 := y3 _ _ hfo
      have tw3 := tw.imp (S := fun (c : Addr) (l : List Int) => upd J lo (.lst []) c = some (.tup (l.map V.int))) fun _ _ z => y3 _ _ z
      have nl : H lo = none := none_back xJ nlo
      have nfl : lo ≠ fo := (ne_of_none hfo nlo).symm
      have xJ3 := xJ.trans y3
      generalize upd J lo (.lst []) = J3 at *
      refine ⟨_, rfl, fo, rfl, ⟨_, SqL.of hfo3⟩, for_list (K := K) (a := fo) (xs := cs.map V.ref) (fun u σ' J => ∃ (ds : List Addr) (v5 : Option V), σ' = [some (nv M), some (.ref b), some (.ref fo), some (nv i), some (.ref lo), v5, Option.none] ∧ Ext H J ∧ J fo = some (.lst (cs.map V.ref)) ∧ J lo = some (.lst (ds.map V.ref)) ∧ Two (fun c l => J c = some (.tup (l.map V.int))) cs (allR i) ∧ Two (fun c l => J c = some (.tup (l.map V.int))) ds (((allR i).take u).flatMap exts)) ⟨[], _, rfl, xJ3, hfo3, h3, tw3, .nil⟩ (fun u σ' J _ ⟨_, _, _, _, z, _⟩ => SqL.of z) ?_ ?_⟩
      · rintro u y σ' J hy ⟨ds, v5, rfl, xJ, hfo, hlo, tw, td⟩
        obtain ⟨c, hc, rfl⟩ := ref_get hy
        obtain ⟨l, hl, hcl⟩ := tw.get hc
        have lm := List.mem_of_getElem? hl
        obtain ⟨l1, l2⟩ := allR_mem.mp lm
        have ld : ds.length ≤ 2401 := by
          have e := td.len
          have : (((allR i).take u).flatMap exts).length ≤ ((allR i).flatMap exts).length := by
            conv => rhs; rw [← List.take_append_drop u (allR i), List.flatMap_append, List.length_append]
            omega
          have e2 : ((allR i).flatMap exts).length = 7 ^ (i + 1) := allR_len (i + 1)
          have := p4 (i + 1) hi
          omega
        refine ⟨_, rfl, .inl ⟨rfl, _, SqL.of hlo⟩, (7 : Int), rfl, by decide, by decide, fun D nD => lc_range (lo := 0) (n := 7) (fun j J2 => Ext J J2 ∧ ∃ es : List Addr, J2 D = some (.lst (es.map V.ref)) ∧ Two (fun c l => J2 c = some (.tup (l.map V.int))) es ((List.range j).map fun q : Nat => l ++ [(q : Int)])) ⟨Ext.upd nD, [], upd_same, .nil⟩ ?_ ?_⟩
        · rintro j J2 hj ⟨x2, es, hD, te⟩
          rw [show (0 : Int) + (j : Int) = (j : Int) from Int.zero_add _]
          have le : es.length = j := by rw [te.len, List.length_map, List.length_range]
          refine ⟨rfl, tyes_in ⟨_, rfl, _, rfl, by show 1 ≤ sizeLine; decide, fun t nt => ?_⟩⟩
          have y := Ext.upd (o := .tup [V.int (j : Int)]) nt
          refine ⟨c, t, _, _, rfl, rfl, y _ _ (x2 _ _ hcl), upd_same, by rw [List.length_map]; show l.length + 1 ≤ 1000; omega, fun p J4 x4 h4 => ?_⟩
          have tx := TExt.put (ys := es.map V.ref ++ [.ref p]) (x4 _ _ (y _ _ hD))
          refine ⟨_, x4 _ _ (y _ _ hD), by rw [List.length_map]; exact small1000 (by omega), fun b o hb' => ?_, es ++ [p], by rw [upd_same, List.map_append]; rfl, ?_⟩
          · rw [upd_ne (ne_of_none hb' nD)]
            exact x4 _ _ (y _ _ (x2 _ _ hb'))
          · rw [List.range_succ, List.map_append]
            refine two_app (te.imp fun _ _ z => tx _ _ (x4 _ _ (y _ _ z))) (.cons (tx _ _ ?_) .nil)
            rw [h4, List.map_append]
            rfl
        rintro J2 ⟨x2, es, hD, te⟩
        have les : es.length = 7 := by rw [te.len, List.length_map, List.length_range]
        have tx := TExt.put (ys := ds.map V.ref ++ es.map V.ref) (x2 _ _ hlo)
        refine ⟨lo, D, _, _, rfl, rfl, x2 _ _ hlo, hD, by rw [List.length_map, List.length_map, sizeLine_eq]; omega, ds ++ es, _, rfl, fun b' o' hb' => ?_, ?_, by rw [upd_same, List.map_append], ?_, ?_⟩
        · rw [upd_ne (ne_of_none hb' nl)]
          exact x2 _ _ (xJ _ _ hb')
        · rw [upd_ne nfl.symm]
          exact x2 _ _ hfo
        · exact tw.imp fun _ _ z => tx _ _ (x2 _ _ z)
        · rw [List.take_succ, hl, List.flatMap_append]
          refine two_app (td.imp fun _ _ z => tx _ _ (x2 _ _ z)) ?_
          rw [show (some l).toList.flatMap exts = exts l by simp]
          exact te.imp fun _ _ z => tx _ _ z
      · rintro σ' J ⟨ds, v5, rfl, xJ, hfo, hlo, tw, td⟩
        rw [List.length_map, lcs, ← allR_len i, List.take_of_length_le (Nat.le_refl _)] at td
        exact ⟨_, rfl, lo, ds, _, _, _, rfl, xJ, nl, hlo, td⟩
    rintro σ' J ⟨fo, cs, v3, v4, v5, rfl, xJ, nfo, hfo, tw⟩
    have lcs : cs.length = 7 ^ M := by rw [tw.len, allR_len]
    have bM := p4 M (Nat.le_refl _)
    refine ⟨_, rfl, fo, rfl, ⟨_, SqL.of hfo⟩, fun G nG => lc_list (K := K) (a := fo) (xs := cs.map V.ref) (fun u J' => Ext J J' ∧ ∃ ds : List Addr, J' G = some (.lst (ds.map V.ref)) ∧ ds.length ≤ u ∧ Two (fun c l => J' c = some (.tup (l.map V.int))) ds (((allR M).take u).filter fun l => decide (qf M Ars (fnOf l) = 1))) ⟨Ext.upd nG, [], upd_same, Nat.le_refl _, .nil⟩ (fun u J' _ z => SqL.of (z.1 _ _ hfo)) ?_ ?_⟩
    · rintro u y J' hy ⟨x2, ds, hG, ld, td⟩
      have hu : u < 2402 := by
        have := (List.getElem?_eq_some_iff.mp hy).1
        rw [List.length_map] at this
        omega
      obtain ⟨c, hc, rfl⟩ := ref_get hy
      obtain ⟨l, hl, hcl⟩ := tw.get hc
      have lm := List.mem_of_getElem? hl
      obtain ⟨l1, l2⟩ := allR_mem.mp lm
      refine ⟨rfl, _, rfl, _, rfl, _, rfl, b, c, M, Ars, fnOf l, rfl, by omega, tt.ext (xJ.trans x2), hL, ins, by rw [← fnOf_lab l1]; exact x2 _ _ hcl, small_fnOf (M := M) lm, fun J3 x3 => ⟨rfl, _, rfl, ?_⟩⟩
      have hG3 := x3 _ _ hG
      refine ite2 (fun z => ?_) (fun z => ?_)
      · have z : qf M Ars (fnOf l) = 1 := by
          have := of_decide_eq_true z
          injection this
        have tx := TExt.put (ys := ds.map V.ref ++ [.ref c]) hG3
        refine ⟨_, rfl, _, hG3, by rw [List.length_map]; exact small2401 (by omega), fun b' o' hb' => ?_, ds ++ [c], by rw [upd_same, List.map_append]; rfl, by rw [List.length_append]; exact Nat.succ_le_succ ld, ?_⟩
        · rw [upd_ne (ne_of_none hb' nG)]
          exact x3 _ _ (x2 _ _ hb')
        · rw [filter_snoc hl, if_pos (decide_eq_true z)]
          exact two_app (td.imp fun _ _ z => tx _ _ (x3 _ _ z)) (.cons (tx _ _ (x3 _ _ (x2 _ _ hcl))) .nil)
      · refine ⟨x2.trans x3, ds, hG3, Nat.le_succ_of_le ld, ?_⟩
        rw [filter_snoc hl, if_neg (fun y => z (decide_eq_true (by rw [of_decide_eq_true y]))), List.append_nil]
        exact td.imp fun _ _ z => x3 _ _ z
    rintro J' ⟨x2, ds, hG, ld, td⟩
    rw [List.length_map, lcs, ← allR_len M, List.take_of_length_le (Nat.le_refl _)] at td
    exact kQ G ds J' (xJ.trans x2) (none_back xJ nG) hG td
end
end R23

set_option Elab.async false
set_option linter.all false
set_option maxRecDepth 100000
set_option maxHeartbeats 4000000
set_option pp.maxSteps 60
/-! What a lambda's call tells: _law_word. -/
namespace R23
open PySem L2 LamX K9M M21 M22
abbrev sWord : Stmt := top 44
theorem kit_same {K : PySem.W.Frag} {C : Addr} : PySem.W.kitOne K (.ref C) (.ref C) = some true := by
  unfold PySem.W.kitOne
  rw [if_pos (beq_self_eq_true _)]
section
open PySem.Spec PyProof.Rows
/-- isinstance of a caught exception that has no dict -/
def rIsX0 (K : PySem.W.Frag) (C a : Addr) (cls : Value) (d : Option Addr) : List V → Hp → VK → Prop := fun xs H Q => ∃ (c : V) (cv : Value) (b : Bool), xs = [.ref a, c] ∧ ClsV c cv ∧ cls = .ref C ∧ d = none ∧ PySem.W.kitOne K (.ref C) cv = some b ∧ Q (.bl b) H
variable {X : Cx} {a C : Addr} {oe : Obj} {cls : Value} {d : Option Addr} {pn : List (Addr × Obj)}
theorem call_isX0 (T : ExIs X.K C) (hz : Zc cls d oe) (hf : ∃ vs, oe.data = .fields vs) : CallR (X.suite a ((a, oe) :: pn)) (.builtin "isinstance") (rIsX0 X.K C a cls d) := by
  rintro pins s σ H xs us Q I r ⟨c, cv, b, rfl, hc, rfl, rfl, e, q⟩
  obtain ⟨u1, u2, rfl, r1, r2⟩ := vals2 r
  obtain rfl : u1 = Value.ref a := r1
  obtain rfl := hc.eq r2
  obtain ⟨there, _⟩ := I.pin (a, oe) (List.mem_append_left _ List.mem_cons_self)
  obtain ⟨vs, dt⟩ := hf
  have J : PySem.W.InstAt s.heap a oe C none := ⟨there, hz.1, by unfold PySem.W.notCls; rw [dt] <;> rfl, by rw [hz.2]; trivial⟩
  exact PySem.W.kia_one (PySem.W.kitx_exc T.cls T.ga T.gt T.sb T.ha T.hn T.ht T.hm) I.kIn J e (fun z => nomatch z) fun tk => ⟨.bl b, H, I.tok tk, rfl, q⟩
/-- list.count of flat items -/
def rCntF (K : PySem.W.Frag) : V → List V → Hp → VK → Prop := fun x xs H Q => ∃ (l : Addr) (ys : List V) (y : V), x = .ref l ∧ xs = [y] ∧ SqL K H l ys ∧ flatV y = true ∧ ys.all flatV = true ∧ Q (.int ((ys.countP fun z => eqV z y) : Nat)) H
theorem count_eqU {x : V} : ∀ {xs : List V} {us : List Value}, Vals xs us → xs.all flatV = true → us.countP (eqU x) = xs.countP fun y => eqV y x
  | _, _, .nil, _ => rfl
  | y :: xs, u :: us, .cons r t, f => by
    rw [List.all_cons, Bool.and_eq_true] at f
    rw [List.countP_cons, List.countP_cons, count_eqU t f.2, eqU_of r f.1]
theorem mt_countF : MtR X "list.count" (rCntF X.K) := by
  rintro pins s σ H x xs v us Q I rx rxs ⟨l, ys, y, rfl, rfl, hs, fy, fys, q⟩
  obtain rfl : v = Value.ref l := rx
  obtain ⟨u, rfl, ru⟩ := rxs.one
  obtain ⟨its, rv, ⟨⟨cls', dd, data, sl⟩, n, ho, hc, hdn, hd⟩, hlen⟩ := I.list hs
  obtain rfl : cls' = _ := hc
  obtain rfl : data = _ := hd
  have all : ∀ w ∈ its.toArray, SeqAt.EqAt X.A.in1 s w u (eqU y w) := fun w hw => mem_eqAt ru fy rv fys w (by simpa using hw)
  refine call_meets PySem.F.slot_list_count ⟨_, ho, rfl⟩ PySem.F.entry_list_count (PySem.F.args_list_count_2 _ _) (SeqAt.list_countAt l its.toArray n dd sl u (eqU y)) ⟨ho, all, ?_⟩
  have e : its.toArray.toList.countP (eqU y) = ys.countP fun z => eqV z y := count_eqU rv fys
  exact ⟨.int ((ys.countP fun z => eqV z y) : Nat), H, I.tok _, ⟨s.toks, by rw [e]⟩, q⟩
/-- a block whose reading may know how many slots there are -/
theorem pss_len {st : List Stmt} {t : TS} (n : Nat) (hn : X.N.length = n) (h : PSs X st t) : PSs X st (fun D σ H => σ.length = n → t D σ H) := ⟨fun pins s σ H D I hw => h.run pins s σ H D I (hw (I.len.trans hn))⟩
end
/-- what _law_word makes of a call: "let", or "endless" for an Endless -/
def TTword (CN : Addr) : (XK → Hp → VK → Prop) → Hp → VK → Prop := fun tl H Q => tl (fun cls d H' => cls = .ref CN ∧ d = none ∧ ∀ H'', Ext H' H'' → Q (.str "endless") H'') H (fun _ H' => ∃ v, some (some (V.str "let")) = some (some v) ∧ Q v H')
structure WordC (K : PySem.W.Frag) (mg : Str → Option Value) (CN CE fI : Addr) : Prop where
  n : ErrC K mg "Endless" CN fI
  mE : mg "WebError" = some (.ref CE)
  eE : PySem.W.exmOne K (.ref CN) (.ref CE) = some true
  kV : PySem.W.kitOne K (.ref CN) (.type "ValueError") = some true
abbrev wordN : List Str := ["call", "word", "error", "flags", "names"]
theorem scWord : FnScope wordN ["call"] (defScope sWord) := ⟨rfl, rfl, rfl, by decide +kernel, rfl, by decide +kernel, by decide +kernel⟩
theorem five {σ : L2.St} (h : σ.length = 5) : ∃ x0 x1 x2 x3 x4, σ = [x0, x1, x2, x3, x4] := by
  match σ, h with
  | [x0, x1, x2, x3, x4], _ => exact ⟨_, _, _, _, _, rfl⟩
theorem word_gives {X : Cx} {g CN CE fI : Addr} {cdg : Value} {q : Str} (T : Gb X.mg) (C : WordC X.K X.mg CN CE fI) : GivesTo X wordN "_law_word" (defScope sWord) g cdg (defBody sWord) "call" q (TTword CN) := by
  intro f c' s H Q tl act hc h
  refine ⟨_, pss_cons (ps_set (i := 1) scWord.nd rfl (Or.inl rfl) pe_str)
    (pss_cons (ps_try_as (X := (cxOf C8.CX0 X.prog X.w X.K X.mg X.base wordN "_law_word" (defScope sWord) g cdg X.A X.stack s H C8.E0).nox) (c := .ref CE) (i := 2)
        (tb := fun W D σ H => ∃ Ech : XK, (∀ cls d σ' H', Ech cls d H' → W cls d σ' H') ∧ σ[0]? = some (some (.ref f)) ∧ H c' = some (CodeO c' q) ∧ tl Ech H (fun _ H' => D.nx σ H'))
        rfl rfl scWord.nd rfl rfl ⟨rfl, by decide, .inl C.mE⟩ L2.takes0 (fun W pn xe tk _ => ⟨fun pins s' σ H' D I h' => ?_⟩)
        (fun a oe cls d pn hz hf => pss_len 5 rfl (pss_cons (ps_set (i := 3) scWord.nd rfl (Or.inl rfl) (pe_lst (pa_cons (pe_callB (call_isX0 C.n.is hz hf) (by rfl) T.isi (by decide +kernel) (pa_cons (pv 2) (pa_cons (pe_glob (v := .ref CN) rfl C.n.gC rfl) pa_nil))) pa_nil)))
          (pss_cons (ps_set (i := 4) scWord.nd rfl (Or.inl rfl) (pe_lst (pa_cons pe_str pa_nil)))
          (pss_one (ps_set (i := 1) scWord.nd rfl (Or.inl rfl) (pe_ifExp (PW.pt (pw_and (pt_cmpR (ta := tBM X.K "list" (rCntF X.K) (tVar 3) (tCons (tC (.bl true)) tNil)) op_eq (pe_bm PySem.F.plainAttrs_list PySem.F.slot_list_count PySem.F.type_list_count mt_countF (pv 3) (pa_cons pe_bl pa_nil)) pe_int (nomark _))
              (pw_and1 (pt_val (pe_callB (call_isX0 C.n.is hz hf) (by rfl) T.isi (by decide +kernel) (pa_cons (pv 2) (pa_cons (pe_bltn (v := .ty "ValueError") (by rfl) T.ve (by decide +kernel) rfl) pa_nil)))))))
            (pe_ix (r := rIxL X.K) (ta := tVar 4) (tb := tBM X.K "list" (rIndex X.K) (tVar 3) (tCons (tC (.bl true)) tNil)) ix_list (pv 4) (pe_bm PySem.F.plainAttrs_list PySem.F.slot_list_index PySem.F.type_list_index mt_index (pv 3) (pa_cons pe_bl pa_nil)) (fun _ _ => rfl)) pe_str)))))))
    (pss_one (ps_ret (pv 1)))), ?_⟩
  · obtain ⟨Ech, hW, h1, h2, h3⟩ := h'
    exact (pss_one (ps_expr (act W pn xe Ech _ _ tk hW))).run pins s' σ H' D I ⟨h1, h2, h3⟩
  · refine ⟨fun cls d H' => cls = .ref CN ∧ d = none ∧ ∀ H'', Ext H' H'' → Q (.str "endless") H'', ?_, rfl, hc, h⟩
    rintro cls d σ' H' ⟨rfl, rfl, k⟩
    refine ⟨true, C.eE, fun _ a na hl => ?_, fun z => nomatch z⟩
    rw [List.length_set] at hl
    obtain ⟨x0, x1, x2, x3, x4, rfl⟩ := five hl
    refine ⟨_, rfl, .ref CN, .ref CN, true, rfl, .own CN, rfl, rfl, kit_same, by show 1 ≤ sizeLine; decide, fun l nl => ?_⟩
    refine ⟨by show 1 ≤ sizeLine; decide, fun l2 nl2 => ?_⟩
    have hl1 : (upd (upd H' l (.lst [.bl true])) l2 (.lst [.str "endless"])) l = some (.lst [.bl true]) := Ext.upd nl2 _ _ upd_same
    refine ⟨_, rfl, .inl ⟨rfl, _, SqL.of hl1⟩, l, _, .bl true, rfl, rfl, SqL.of hl1, rfl, rfl, rfl, _, rfl, ?_⟩
    refine iteT ⟨_, rfl, .ty "ValueError", .type "ValueError", true, rfl, .ty "ValueError", rfl, rfl, C.kV, _, rfl, ?_⟩
    refine iteT ⟨_, rfl, _, rfl, .inl ⟨rfl, _, SqL.of hl1⟩, l, _, .bl true, 0, .bl true, rfl, rfl, SqL.of hl1, rfl, rfl, rfl, rfl, fun m z' hm => absurd hm (Nat.not_lt_zero m), ?_⟩
    refine ⟨l2, _, _, _, rfl, rfl, SqL.of upd_same, rfl, ?_⟩
    exact ⟨_, rfl, k _ ((Ext.upd nl).trans (Ext.upd nl2))⟩
end R23

set_option Elab.async false
set_option linter.all false
set_option maxRecDepth 100000
set_option maxHeartbeats 8000000
set_option pp.maxSteps 100
/-! The law. -/
namespace R23
open PySem L2 LamX K9M M21 M22
abbrev sLaw : Stmt := top 46
abbrev lamQ : Str := (("law" : Str) ++ ".<locals>.") ++ "<lambda>"
theorem arrows_of {m : Int} : ∀ {ll : List (List Int)}, (∀ l ∈ ll, ArrL m l) → ∃ A : Ar, ll = A.map arL ∧ Inside m.toNat A
  | [], _ => ⟨[], rfl, fun a ha => by cases ha⟩
  | l :: ll, h => by
    obtain ⟨p, q, rfl, h1, h2, h3, h4⟩ := h l List.mem_cons_self
    obtain ⟨A, rfl, ins⟩ := arrows_of (m := m) (ll := ll) fun k hk => h k (List.mem_cons_of_mem _ hk)
    refine ⟨(p.toNat, q.toNat) :: A, ?_, fun a ha => ?_⟩
    · have e1 : ((p.toNat : Nat) : Int) = p := by omega
      have e2 : ((q.toNat : Nat) : Int) = q := by omega
      show [p, q] :: _ = [((p.toNat : Nat) : Int), ((q.toNat : Nat) : Int)] :: _
      rw [e1, e2]
    · rcases List.mem_cons.mp ha with rfl | ha
      · exact ⟨by show p.toNat < m.toNat; omega, by show q.toNat < m.toNat; omega⟩
      · exact ins a ha
theorem TT.go {J J' : Hp} {b a : Addr} {ll : List (List Int)} (g : Go a J J') (pot : PotAt J a) (h : TT J b ll) : TT J' b ll := by
  obtain ⟨as, h1, h2⟩ := h
  exact ⟨as, g.tup pot h1, PT2.mono (fun b xs z => g.tup pot z) h2⟩
theorem PotAt.extN {H H' : Hp} {a : Addr} (e : ExtN H H') (p : PotAt H a) : PotAt H' a := by
  obtain ⟨c, ns, i, z, s, n, h1, h2⟩ := p
  exact ⟨c, ns, i, z, s, n, e _ _ h1 (fun _ z => nomatch z), e _ _ h2 (fun _ z => nomatch z)⟩
theorem TT.extN {H H' : Hp} {b : Addr} {ll : List (List Int)} (e : ExtN H H') (h : TT H b ll) : TT H' b ll := by
  obtain ⟨as, h1, h2⟩ := h
  exact ⟨as, e _ _ h1 (fun _ z => nomatch z), PT2.mono (fun c xs z => e _ _ z (fun _ y => by cases y)) h2⟩
theorem Tabs.go {a : Addr} {T : List (Addr × Str)} {H H' : Hp} (p : PotAt H a) (g : Go a H H') (t : Tabs T H) : Tabs T H' := fun q hq => by
  obtain ⟨ps, h1, h2, h3⟩ := t q hq
  refine ⟨ps, g.2 _ _ (pot_no p h1 fun _ z => nomatch z) h1, h2, fun pos cv hc => ?_⟩
  obtain ⟨c, e1, e2⟩ := h3 pos cv hc
  exact ⟨c, e1, g.2 _ _ (pot_no p e2 fun _ z => nomatch z) e2⟩
theorem Tabs.put {T : List (Addr × Str)} {H : Hp} {l : Addr} {xs ys : List V} (hl : H l = some (.lst xs)) (t : Tabs T H) : Tabs T (upd H l (.lst ys)) := fun q hq => by
  obtain ⟨ps, h1, h2, h3⟩ := t q hq
  have n1 : q.1 ≠ l := fun e => by rw [e, hl] at h1; cases h1
  refine ⟨ps, by rw [upd_ne n1]; exact h1, h2, fun pos cv hc => ?_⟩
  obtain ⟨c, e1, e2⟩ := h3 pos cv hc
  have n2 : c ≠ l := fun e => by rw [e, hl] at e2; cases e2
  exact ⟨c, e1, by rw [upd_ne n2]; exact e2⟩
theorem decI {i j : Int} : decide (V.int i = V.int j) = decide (i = j) := by
  by_cases h : i = j
  · rw [h]; simp
  · rw [decide_eq_false h, decide_eq_false fun z => h (by injection z)]
theorem built_finite {m : Nat} {A : Ar} {ss : List (Nat × Nat)} (h : Built m A ss) : ¬ HasBad m A := fun b => by
  obtain ⟨ks, tk, _⟩ := built_kinds h
  have all : ∀ {ls : List (List Nat)} {ks : List (Nat × Nat)}, Two (fun l s => KindR A l (some s)) ls ks → Two (KindR A) ls (ks.map some) := by
    intro ls ks h
    induction h with
    | nil => exact .nil
    | cons r _ ih => exact .cons r ih
  have t2 : Two (KindR A) (lotsN m A) (ks.map some) := all tk
  have := (has_none t2).mpr b
  rw [List.any_map] at this
  obtain ⟨s, _, e⟩ := List.any_eq_true.mp this
  cases e
theorem rDs_self : ∀ ls : List (List Int), PyData.eqvAll (ls.map rD) (ls.map rD) = true
  | [] => rfl
  | l :: ls => by
    show (PyData.eqv (rD l) (rD l) && PyData.eqvAll (ls.map rD) (ls.map rD)) = true
    rw [rDs_self ls, rD_eqv]
    simp
/-- rows stand in a list at t -/
def RowsL (H : Hp) (t : Addr) (ls : List (List Int)) : Prop := ∃ cs : List Addr, H t = some (.lst (cs.map V.ref)) ∧ Two (fun c l => H c = some (.tup (l.map V.int))) cs ls
theorem RowsL.ext {H H' : Hp} {t : Addr} {ls : List (List Int)} (x : Ext H H') (h : RowsL H t ls) : RowsL H' t ls := by
  obtain ⟨cs, h1, h2⟩ := h
  exact ⟨cs, x _ _ h1, h2.imp fun _ _ z => x _ _ z⟩
theorem same_rows {K : PySem.W.Frag} {H : Hp} {p q : Addr} {ls : List (List Int)} {Q : VK} (h1 : RowsL H p ls) (h2 : RowsL H q ls) (h : Q (.bl false) H) : rNeD K (.ref p) (.ref q) H Q := by
  obtain ⟨cs, a1, a2⟩ := h1
  obtain ⟨ds, b1, b2⟩ := h2
  refine ⟨.list (ls.map rD), .list (ls.map rD), .lst (SqL.of a1) (dp_rows a2), .lst (SqL.of b1) (dp_rows b2), rDs_shaped _, rDs_shaped _, ?_⟩
  have e : PyData.eqv (.list (ls.map rD)) (.list (ls.map rD)) = true := rDs_self ls
  rw [e]
  exact h
theorem RowsL.ne_pot {H : Hp} {t r : Addr} {ls : List (List Int)} (p : PotAt H r) (h : RowsL H t ls) : t ≠ r := fun e => by
  obtain ⟨cs, h1, _⟩ := h
  obtain ⟨c, ns, i, z, s, n, h2, _⟩ := p
  rw [e, h2] at h1
  injection h1 with h1
  injection h1 with h1
  match cs, h1 with
  | [], h1 => cases h1
  | [_], h1 => cases h1
  | _ :: _ :: _, h1 =>
    injection h1 with _ h1
    injection h1 with h1
    cases h1
theorem RowsL.go {H H' : Hp} {t r : Addr} {ls : List (List Int)} (p : PotAt H r) (g : Go r H H') (h : RowsL H t ls) : RowsL H' t ls := by
  have ne := h.ne_pot p
  obtain ⟨cs, h1, h2⟩ := h
  exact ⟨cs, g.2 _ _ ne h1, h2.imp fun _ _ z => g.tup p z⟩
theorem RowsL.put {H : Hp} {t u : Addr} {ls : List (List Int)} {xs ys : List V} (ne : t ≠ u) (hu : H u = some (.lst xs)) (h : RowsL H t ls) : RowsL (upd H u (.lst ys)) t ls := by
  obtain ⟨cs, h1, h2⟩ := h
  exact ⟨cs, by rw [upd_ne ne]; exact h1, h2.imp fun _ _ z => TExt.put hu _ _ z⟩
theorem _root_.R23.Told1.ne {M : Nat} {A : Ar} {ls : List (List Int)} (h : Told1 M A ls) (m1 : 1 ≤ M) (nl : NoLoop A) : ls ≠ [] := fun e => by
  have := (h.mem (rowL M (unitR 0))).mpr ⟨_, (Up.unit 0 m1).root nl, rfl⟩
  rw [e] at this
  cases this
theorem _root_.R23.Told1.few {M : Nat} {A : Ar} {ls : List (List Int)} (h : Told1 M A ls) (ab : Above M A) : ls.length ≤ 2 ^ M := by
  have := roots_few ab (l := ls.map fnOf) (by
    unfold List.Nodup
    rw [List.pairwise_map]
    refine List.Pairwise.imp_of_mem (fun {a b} ha hb ne e => ne ?_) h.nd
    obtain ⟨r, R, rfl⟩ := (h.mem a).mp ha
    obtain ⟨s, S, rfl⟩ := (h.mem b).mp hb
    rw [root_fnOf R, root_fnOf S] at e
    rw [e]) fun r hr => by
      obtain ⟨l, hl, rfl⟩ := List.mem_map.mp hr
      obtain ⟨s, S, rfl⟩ := (h.mem l).mp hl
      rw [root_fnOf S]
      exact S
  rw [List.length_map] at this
  exact this
theorem _root_.M22.Root.le_small {M : Nat} {A : Ar} {r : Nat → Int} (R : Root M A r) (ab : Above M A) (hA : Inside M A) (nl : NoLoop A) (m8 : M ≤ 8) : Small r := fun p => by
  have lo := R.lo p
  have su := R.sum_le hA nl ab
  have p2 : (2 : Int) ^ M ≤ 256 := by
    have : (2 ^ M : Nat) ≤ 2 ^ 8 := Nat.pow_le_pow_right (by decide) m8
    have e : ((2 ^ M : Nat) : Int) = (2 : Int) ^ M := by rw [Int.natCast_pow]; rfl
    omega
  by_cases hp : p < M
  · have := nodup_sum R.lo (l := [p]) (k := List.range M) (List.nodup_cons.mpr ⟨fun h => (by cases h), List.nodup_nil⟩) fun x hx => by
      rw [List.mem_singleton.mp hx]
      exact List.mem_range.mpr hp
    simp only [List.map_cons, List.map_nil, List.sum_cons, List.sum_nil] at this
    omega
  · rw [R.off p (by omega)]
    omega
/-- what the law's turn stands on -/
structure Lw (CW PL r p b : Addr) (M : Nat) (A : Ar) (H : Hp) : Prop where
  pot : PotAt H r
  tab : Tabs [(PL, lamQ)] H
  web : WebAt CW H p (M : Int) b
  arr : TT H b (A.map arL)
theorem Lw.ext {CW PL r p b : Addr} {M : Nat} {A : Ar} {H H' : Hp} (x : Ext H H') (h : Lw CW PL r p b M A H) : Lw CW PL r p b M A H' := ⟨(Go.of_ext h.pot x).1, h.tab.ext x, h.web.ext x, h.arr.ext x⟩
theorem Lw.go {CW PL r p b : Addr} {M : Nat} {A : Ar} {H H' : Hp} (g : Go r H H') (h : Lw CW PL r p b M A H) : Lw CW PL r p b M A H' :=
  ⟨g.1, Tabs.go h.pot g h.tab, h.web.imp (fun _ z => g.2 _ _ (pot_no h.pot z (fun _ y => by cases y)) z), TT.go g h.pot h.arr⟩
theorem Lw.put {CW PL r p b u : Addr} {M : Nat} {A : Ar} {H : Hp} {xs ys : List V} (hu : H u = some (.lst xs)) (ne : r ≠ u) (nc : ∀ (c : Addr) (ns : List Int), H c = some (.lst (ns.map V.int)) → c ≠ u) (h : Lw CW PL r p b M A H) : Lw CW PL r p b M A (upd H u (.lst ys)) := by
  refine ⟨?_, Tabs.put hu h.tab, h.web.imp (fun _ z => ?_), ?_⟩
  · obtain ⟨c, ns, i, z, s, n, h1, h2⟩ := h.pot
    exact ⟨c, ns, i, z, s, n, by rw [upd_ne ne]; exact h1, by rw [upd_ne (nc c ns h2)]; exact h2⟩
  · rw [upd_ne (fun e => by rw [e, hu] at z; cases z)]
    exact z
  · obtain ⟨as, h1, h2⟩ := h.arr
    exact ⟨as, TExt.put hu _ _ h1, PT2.mono (fun b xs z => TExt.put hu _ _ z) h2⟩
theorem menu_mem {k : Nat} {x : V} (h : x ∈ [V.int 2, .int 3, .int 3, .int 4, .int 4, .int 5, .int 5, .int 6, .int 7] ++ (List.replicate k [V.int 8]).flatten) : ∃ mo : Nat, x = nv mo ∧ 1 ≤ mo ∧ mo ≤ 8 := by
  rcases List.mem_append.mp h with h | h
  · simp only [List.mem_cons, List.not_mem_nil, or_false] at h
    rcases h with h | h | h | h | h | h | h | h | h <;> subst h
    · exact ⟨2, rfl, by decide, by decide⟩
    · exact ⟨3, rfl, by decide, by decide⟩
    · exact ⟨3, rfl, by decide, by decide⟩
    · exact ⟨4, rfl, by decide, by decide⟩
    · exact ⟨4, rfl, by decide, by decide⟩
    · exact ⟨5, rfl, by decide, by decide⟩
    · exact ⟨5, rfl, by decide, by decide⟩
    · exact ⟨6, rfl, by decide, by decide⟩
    · exact ⟨7, rfl, by decide, by decide⟩
  · rw [rep1] at h
    exact ⟨8, List.eq_of_mem_replicate h, by decide, by decide⟩
def spLaw (K : PySem.W.Frag) (PL : Addr) : Sp := fun vs H Q _ => ∃ (a : Addr) (ns : List Int), vs = [.ref a] ∧ SqL K H a (ns.map V.int) ∧ ns.length ≤ 63 ∧ H PL = some (.tbl #[]) ∧ ∀ H', Q (.bl true) H'
abbrev lawN : List Str := ["script","purse","turn","many","arrows","web","due","told","row","is_finite","lot"]
section
variable {P : Program} {w : World} {K : PySem.W.Frag} {mg : Str → Option Value} {base : Heap}
theorem scLaw : FnScope lawN ["script"] (defScope sLaw) := ⟨rfl, rfl, rfl, by decide +kernel, rfl, by decide +kernel, by decide +kernel⟩
/-- a def whose code object is known -/
theorem fn_at {x qual : Str} {st : Stmt} {f : Addr} {N ps : List Str} {k : Nat} {sp : Sp} {oc : Value} {od an : Option Addr} {osl : Array (Option Value)} {kV doc pm cdv ct : Value} (lk : K.lookup f = some ⟨oc, od, .func (PySem.W.fnOf x qual (defArgs st) (defBody st) (defScope st) .none kV doc pm an cdv ct), osl⟩)
    (hcd : PySem.W.codeIn K cdv qual = true) (S : FnScope N ps (defScope st)) (len : ∀ vs H Q E, sp vs H Q E → vs.length = ps.length)
    (body : ∀ (A : Around) (outer : List Env) (s : Shared) (H : Hp) (vs : List V) (Q : VK) (E : XK), Room k (A.deeper (PyProof.Rows.envOfC qual (defScope st) s.heap.objs.size f cdv)) → sp vs H Q E → ∃ t, PSs (cxOf CX0 P w K mg base N qual (defScope st) f cdv A outer s H E).nox (defBody st) t ∧ t { nx := fun _ H' => Q .non H', rt := Q } (L2.start N vs) H) :
    FnOk P w K mg base CX0 (k + 1) f (PySem.W.fnOf x qual (defArgs st) (defBody st) (defScope st) .none kV doc pm an cdv ct) ps sp :=
  fn_of lk hcd S len fun A outer s H vs Q E hr h => (body A outer s H vs Q E hr h).imp fun _ z => ⟨z.1.nox, z.2⟩
theorem ok_law {f fw fW fR CW CN CE fI cL PL : Addr} {fdW fdR : FuncData} {oc ow : Value} {od an odw anw : Option Addr} {osl slw : Array (Option Value)} {kV doc pm ct kVw docw pmw cdvw ctw : Value}
    (lk : K.lookup f = some ⟨oc, od, .func (PySem.W.fnOf "law" "law" (defArgs sLaw) (defBody sLaw) (defScope sLaw) .none kV doc pm an (.ref cL) ct), osl⟩) (hcd : PySem.W.codeIn K (.ref cL) "law" = true) (TB : TabB base mg cL PL)
    (T : Gb mg) (W : WebC K mg CW) (WC : WordC K mg CN CE fI)
    (cPu : Cal P w K mg base 1 "_law_purse" (spPurse K) []) (cF : Cal P w K mg base 4 "_law_finite" spFin []) (cO : Cal P w K mg base 2 "_law_one" spAny []) (cS : Cal P w K mg base 3 "_law_searched" spSea []) (cR : Cal P w K mg base 2 "_law_roots" spRoo []) (cFo : Cal P w K mg base 4 "form" (spForm CW) [])
    (cAW : Cal P w K mg base 3 "_law_any_web" spAnyW []) (cK : Cal P w K mg base 2 "_law_kind" spKind []) (cH : Cal P w K mg base 1 "_law_hung" spHung [])
    (MW : Mk K CW fW) (FW : FnOk P w K mg base CX0 4 fW fdW ["self", "many", "arrows"] (spWebR CW)) (bW : Binds K fdW ["self", "many", "arrows"] [])
    (FR : FnOk P w K mg base (L2.CX P w) 8 fR fdR ["web"] (spRows K CW CN)) (mR : mg "rows" = some (.ref fR)) (kR : PySem.W.keepIn K (.ref fR) = true) (bR : Binds K fdR ["web"] [])
    (lw : K.lookup fw = some ⟨ow, odw, .func (PySem.W.fnOf "_law_word" "_law_word" (defArgs sWord) (defBody sWord) (defScope sWord) .none kVw docw pmw anw cdvw ctw), slw⟩) (cdw : PySem.W.codeIn K cdvw "_law_word" = true) (mw : mg "_law_word" = some (.ref fw)) (kw : PySem.W.keepIn K (.ref fw) = true)
    (bw : Binds K (PySem.W.fnOf "_law_word" "_law_word" (defArgs sWord) (defBody sWord) (defScope sWord) .none kVw docw pmw anw cdvw ctw) ["call"] []) :
    FnOk P w K mg base CX0 11 f (PySem.W.fnOf "law" "law" (defArgs sLaw) (defBody sLaw) (defScope sLaw) .none kV doc pm an (.ref cL) ct) ["script"] (spLaw K PL) := by
  refine fn_at lk hcd scLaw (fun vs H Q E h => ?_) (fun A outer s H vs Q E hr h => ?_)
  · obtain ⟨a, ns, rfl, _⟩ := h
    rfl
  · obtain ⟨s0, ns, rfl, hS, hlen, hPL, k⟩ := h
    refine ⟨_, pss_cons (ps_set (i := 1) scLaw.nd rfl (Or.inl rfl) (C8.pe_c cPu hr (by decide) (by rfl) (pa_cons (pv 0) pa_nil)))
      (pss_cons (ps_for PassesOwn.never rfl (pi_range1 (by rfl) T.rng (pa_cons pe_int pa_nil)) (pg_name (i := 2) scLaw.nd rfl (Or.inl rfl))
      (pss_cons (ps_asg (C8.pe_c cF hr (by decide) (by rfl) (pa_cons (pv 1) (pa_cons (C8.pe_c cO hr (by decide) (by rfl) (pa_cons (pv 1) (pa_cons (pe_op op_cat (pe_lst (pa_cons pe_int (pa_cons pe_int (pa_cons pe_int (pa_cons pe_int (pa_cons pe_int (pa_cons pe_int (pa_cons pe_int (pa_cons pe_int (pa_cons pe_int pa_nil)))))))))) (pe_op op_rep (pe_lst (pa_cons pe_int pa_nil)) (pe_callTy call_int1 (by rfl) T.int (by decide +kernel) (pa_cons (pe_cmpR op_eq (pv 2) pe_int (nomark _)) pa_nil)))) pa_nil))) pa_nil))) (pg_tup rfl (pgs_cons (pg_name (i := 3) scLaw.nd rfl (Or.inr rfl)) (pgs_cons (pg_name (i := 4) scLaw.nd rfl (Or.inr rfl)) pgs_nil))))
      (pss_cons (ps_set (i := 5) scLaw.nd rfl (Or.inl rfl) (pe_make MW FW (hr.mono (by decide)) (by rfl) W.mgC bW .nil pass0 (pa_cons (pv 3) (pa_cons (pv 4) pa_nil))))
      (C8.pss_cut (ps_set (i := 6) scLaw.nd rfl (Or.inl rfl) (pe_ifExp (pt_cmpR op_lt (pv 3) pe_int (nomark _)) (C8.pe_c cS hr (by decide) (by rfl) (pa_cons (pv 3) (pa_cons (pv 4) pa_nil))) (C8.pe_c cR hr (by decide) (by rfl) (pa_cons (pv 3) (pa_cons (pv 4) pa_nil)))))
      (C8.pss_cut (ps_set (i := 7) scLaw.nd rfl (Or.inl rfl) (pe_call FR (hr.mono (by decide)) (by rfl) mR kR bR .nil passL (pa_cons (pv 5) pa_nil)))
      (C8.pss_cut (ps_if (PW.pt (pw_or (pt_not (pt_val (pe_callB call_isi (by rfl) T.isi (by decide +kernel) (pa_cons (pv 7) (pa_cons (pe_bltn (v := .ty "list") (by rfl) T.list (by decide +kernel) rfl) pa_nil))))) (pw_or (pt_cmpR (op_neD hr.units) (pv 7) (pv 6) (nomark _)) (pw_or1 (pt_not (pt_val (pe_callB (cr_all rfl) (by rfl) T.all (by decide +kernel) (pa_cons (pe_lc (own := [("row", 8)]) (g := gName 8) (tt := tYes) rfl scLaw.nd (pi_list (pv 7)) (blkOk_by (N := lawN) (sc := defScope sLaw) (by decide +kernel)) (fun _ _ _ _ _ => (pg_name (i := 8) scLaw.nd rfl (Or.inl rfl))) (fun _ _ _ _ _ => pts_nil) (fun _ _ _ _ _ => (pe_callB (r := rIsi K) call_isi (by rfl) T.isi (by decide +kernel) (pa_cons (pv 8) (pa_cons (pe_bltn (v := .ty "tuple") (by rfl) T.tup (by decide +kernel) rfl) pa_nil))))) pa_nil)))))))) (pss_one (ps_ret pe_bl)) pss_nil)
      (C8.pss_cut (ps_if (pt_cmpR op_ne (C8.pe_c cFo hr (by decide) (by rfl) (pa_cons (pv 5) (pa_cons (C8.pe_c cO hr (by decide) (by rfl) (pa_cons (pv 1) (pa_cons (pv 7) pa_nil))) pa_nil))) pe_int (nomark _)) (pss_one (ps_ret pe_bl)) pss_nil)
      (C8.pss_cut (ps_expr (pe_bm PySem.F.plainAttrs_list PySem.F.slot_list_append PySem.F.type_list_append mt_append (pv 7) (pa_cons pe_non pa_nil)))
      (C8.pss_cut (ps_if (pt_cmpR (op_neD hr.units) (pe_call FR (hr.mono (by decide)) (by rfl) mR kR bR .nil passL (pa_cons (pv 5) pa_nil)) (pv 6) (nomark _)) (pss_one (ps_ret pe_bl)) pss_nil)
      (C8.pss_cut (ps_asg (C8.pe_c cAW hr (by decide) (by rfl) (pa_cons (pv 1) pa_nil)) (pg_tup rfl (pgs_cons (pg_name (i := 3) scLaw.nd rfl (Or.inr rfl)) (pgs_cons (pg_name (i := 4) scLaw.nd rfl (Or.inr rfl)) pgs_nil))))
      (C8.pss_cut (ps_set (i := 9) scLaw.nd rfl (Or.inl rfl) (pe_callB (cr_all rfl) (by rfl) T.all (by decide +kernel) (pa_cons (pe_lc (own := [("lot", 10)]) (g := gName 10) (tt := tYes) rfl scLaw.nd (pi_list (C8.pe_c cH hr (by decide) (by rfl) (pa_cons (pv 3) (pa_cons (pv 4) pa_nil)))) (blkOk_by (N := lawN) (sc := defScope sLaw) (by decide +kernel)) (fun _ _ _ _ _ => (pg_name (i := 10) scLaw.nd rfl (Or.inl rfl))) (fun _ _ _ _ _ => pts_nil) (fun _ _ _ _ _ => (pe_cmpR op_notN (C8.pe_c cK hr (by decide) (by rfl) (pa_cons (pv 10) (pa_cons (pv 4) pa_nil))) pe_non (nomark _)))) pa_nil)))
      (pss_one (ps_if (pt_cmpR op_ne (pe_lamcall (T := [(PL, lamQ)]) (TT := TTword CN) (a := "call") (k := 8) (t := fun E => tCall (spRows K CW CN) [] E (tCons (tMake CW (spWebR CW) [] E0 (tCons (tVar 3) (tCons (tVar 4) tNil))) tNil)) (by rfl) mw kw lw cdw bw scWord rfl (Or.inl rfl) (word_gives T WC) TB rfl (List.mem_singleton.mpr rfl) (fun p hp _ => by rw [List.mem_singleton.mp hp] <;> rfl) hr (lamS_by (sc := defScope sLaw) (by decide +kernel)) rfl (fun _ _ _ _ _ => rfl)
          (fun A outer s H E f c' hr' => pe_call FR hr' (by rfl) mR kR bR .nil (passes_call (takes_of rfl rfl rfl rfl) (fun _ _ _ _ h => h)) (pa_cons (pe_make MW FW (hr'.mono (by decide)) (by rfl) W.mgC bW .nil pass0 (pa_cons (pv 3) (pa_cons (pv 4) pa_nil))) pa_nil))) (pe_ifExp (pt_val (pv 9)) pe_str pe_str) (nomark _)) (pss_one (ps_ret pe_bl)) pss_nil)))))))))))))
      (pss_one (ps_ret pe_bl))), ?_⟩
    refine ⟨_, rfl, s0, ns, rfl, hS, hlen, fun r H1 e1 pot => ?_⟩
    have tb1 : Tabs [(PL, lamQ)] H1 := fun q hq => by
      rw [List.mem_singleton.mp hq]
      exact TabS.nil (e1 _ _ hPL)
    refine ⟨3, rfl, by decide, by decide, for_range (lo := 0) (n := 3) (fun i σ' H' => (∃ v2 v3 v4 v5 v6 v7 v9 : Option V, σ' = [some (.ref s0), some (.ref r), v2, v3, v4, v5, v6, v7, Option.none, v9, Option.none]) ∧ PotAt H' r ∧ Tabs [(PL, lamQ)] H') ⟨⟨_, _, _, _, _, _, _, rfl⟩, pot, tb1⟩ ?_ (fun σ' H' _ => k H')⟩
    clear tb1 pot hPL hS e1
    rintro i σ' H' hi ⟨⟨v2, v3, v4, v5, v6, v7, v9, rfl⟩, pot, tb⟩
    -- the menu, many and arrows
    refine ⟨_, rfl, _, rfl, by show 9 ≤ sizeLine; decide, fun l nl => ⟨by show 1 ≤ sizeLine; decide, fun l2 nl2 => ?_⟩⟩
    have y1 := Ext.upd (o := .lst [V.int 2, .int 3, .int 3, .int 4, .int 4, .int 5, .int 5, .int 6, .int 7]) nl
    have h1 := upd_same (H := H') (a := l) (o := .lst [V.int 2, .int 3, .int 3, .int 4, .int 4, .int 5, .int 5, .int 6, .int 7])
    generalize upd H' l (.lst [V.int 2, .int 3, .int 3, .int 4, .int 4, .int 5, .int 5, .int 6, .int 7]) = A1 at *
    have y2 := Ext.upd (o := .lst [V.int 8]) nl2
    have h2 := upd_same (H := A1) (a := l2) (o := .lst [V.int 8])
    generalize upd A1 l2 (.lst [V.int 8]) = A2 at *
    refine ⟨_, rfl, rfl, .inr ⟨_, rfl, l2, _, _, rfl, rfl, h2, ?_, ?_, ?_, fun l3 nl3 => ?_⟩⟩
    · split <;> decide
    · split <;> decide
    · show 1 * _ ≤ sizeLine
      split <;> decide
    have kk1 : (if decide (V.int (0 + (i : Int)) = V.int 0) = true then (1 : Int) else 0) ≤ 1 := by split <;> decide
    generalize (if decide (V.int (0 + (i : Int)) = V.int 0) = true then (1 : Int) else 0) = kk at *
    have y3 := Ext.upd (o := .lst (List.replicate kk.toNat [V.int 8]).flatten) nl3
    have h3 := upd_same (H := A2) (a := l3) (o := .lst (List.replicate kk.toNat [V.int 8]).flatten)
    generalize upd A2 l3 (.lst (List.replicate kk.toNat [V.int 8]).flatten) = A3 at *
    refine ⟨l, l3, _, _, rfl, rfl, y3 _ _ (y2 _ _ h1), h3, by rw [rep1, List.length_replicate]; show 9 + _ ≤ sizeLine; rw [sizeLine_eq]; omega, fun q nq => ?_⟩
    have y4 := Ext.upd (o := .lst ([V.int 2, .int 3, .int 3, .int 4, .int 4, .int 5, .int 5, .int 6, .int 7] ++ (List.replicate kk.toNat [V.int 8]).flatten)) nq
    have h4 := upd_same (H := A3) (a := q) (o := .lst ([V.int 2, .int 3, .int 3, .int 4, .int 4, .int 5, .int 5, .int 6, .int 7] ++ (List.replicate kk.toNat [V.int 8]).flatten))
    have g4 : Go r H' (upd A3 q (.lst ([V.int 2, .int 3, .int 3, .int 4, .int 4, .int 5, .int 5, .int 6, .int 7] ++ (List.replicate kk.toNat [V.int 8]).flatten))) := Go.of_ext pot (y1.trans (y2.trans (y3.trans y4)))
    have qr : q ≠ r := (PotAt.ne (Go.of_ext pot (y1.trans (y2.trans y3))).1 nq).symm
    refine ⟨r, q, _, rfl, g4.1, qr, h4, by simp, by rw [List.length_append, rep1, List.length_replicate]; show 9 + _ ≤ 1000; omega, fun x J hx g => ?_⟩
    obtain ⟨mo, rfl, mo1, mo8⟩ := menu_mem hx
    refine ⟨r, mo, rfl, g.1, mo1, mo8, fun t b M Ars ss J2 g2 ht tt al m1 m8 bu => ?_⟩
    have ins := bu.inside
    have nb := built_finite bu
    obtain ⟨ab, nl⟩ := finite_above ins nb
    refine ⟨t, _, rfl, SqT.of ht, rfl, _, _, rfl, _, _, rfl, rfl, ?_⟩
    have go2 : Go r H' J2 := g4.trans (g.trans g2)
    refine ⟨_, rfl, _, rfl, ?_⟩
    refine mk_webR (by omega) (by omega) (at_of_tt tt al ins) fun p J3 hw e3 => ?_
    have go3 : Go r H' J3 := go2.trans (Go.of_ext go2.1 e3)
    have lw3 : Lw CW PL r p b M Ars J3 := ⟨go3.1, Tabs.go pot go3 tb, hw, tt.ext e3⟩
    clear go3 go2 g4 g2 g
    -- due
    refine ⟨fun σ'' J => ∃ (u : Addr) (ls : List (List Int)), σ'' = [some (.ref s0), some (.ref r), some (.int (0 + (i : Nat))), some (nv M), some (.ref b), some (.ref p), some (.ref u), v7, Option.none, v9, Option.none] ∧ Lw CW PL r p b M Ars J ∧ RowsL J u ls ∧ Told1 M Ars ls, ?_, ?_⟩
    · refine ⟨_, rfl, _, _, rfl, rfl, _, rfl, ?_⟩
      refine ite2 (fun z => ?_) (fun z => ?_)
      · have z : (M : Int) < 5 := of_decide_eq_true z
        refine ⟨_, rfl, _, rfl, b, M, Ars, rfl, lw3.arr, by omega, al, ins, fun u cs J4 x4 nu hu tw => ?_⟩
        exact ⟨u, _, rfl, lw3.ext x4, ⟨cs, hu, tw⟩, oneR_told ins nb (by omega)⟩
      · refine ⟨_, rfl, _, rfl, b, M, Ars, rfl, lw3.arr, m1, m8, al, ins, nb, fun u J4 x4 nu ra => ?_⟩
        obtain ⟨cs, ls, hu, tw, t1⟩ := told1 m1 (ra K)
        exact ⟨u, ls, rfl, lw3.ext x4, ⟨cs, hu, tw⟩, t1⟩
    rintro σ'' J4 ⟨u, ls, rfl, lw4, ru4, t1⟩
    have few := t1.few ab
    have ne := t1.ne m1 nl
    have p2 : 2 ^ M ≤ 256 := by
      have : 2 ^ M ≤ 2 ^ 8 := Nat.pow_le_pow_right (by decide) m8
      omega
    -- told
    refine ⟨fun σ'' J => ∃ tl : Addr, σ'' = [some (.ref s0), some (.ref r), some (.int (0 + (i : Nat))), some (nv M), some (.ref b), some (.ref p), some (.ref u), some (.ref tl), Option.none, v9, Option.none] ∧ Lw CW PL r p b M Ars J ∧ RowsL J u ls ∧ RowsL J tl ls ∧ tl ≠ u, ?_, ?_⟩
    · refine ⟨_, rfl, p, b, M, Ars, rfl, lw4.web, lw4.arr, m1, m8, al, ins, fun J5 bad _ => absurd bad nb, fun tl J5 _ x5 nt ra => ?_⟩
      obtain ⟨cs, ls2, hu, tw, t2⟩ := told1 m1 ra
      cases t1.uniq t2
      obtain ⟨_, h4, _⟩ := id ru4
      exact ⟨tl, rfl, lw4.ext x5, ru4.ext x5, ⟨cs, hu, tw⟩, (ne_of_none h4 nt).symm⟩
    rintro σ'' J5 ⟨tl, rfl, lw5, ru5, rt5, ntu⟩
    -- a list of tuples, these
    refine ⟨fun σ'' J => σ'' = [some (.ref s0), some (.ref r), some (.int (0 + (i : Nat))), some (nv M), some (.ref b), some (.ref p), some (.ref u), some (.ref tl), Option.none, v9, Option.none] ∧ Lw CW PL r p b M Ars J ∧ RowsL J u ls ∧ RowsL J tl ls, ?_, ?_⟩
    · obtain ⟨cs, htl, tw⟩ := id rt5
      have lcs := tw.len
      refine ⟨_, rfl, _, .ty "list", .type "list", .type "list", true, rfl, .ty _, .base (.lst htl), kit_ty (by decide +kernel), _, rfl, ?_⟩
      refine iteF ⟨_, rfl, _, rfl, same_rows rt5 ru5 ⟨_, rfl, ?_⟩⟩
      refine iteF ⟨_, rfl, tl, rfl, ⟨_, SqL.of htl⟩, fun D nD => lc_list (K := K) (a := tl) (xs := cs.map V.ref) (fun i J => Ext J5 J ∧ J D = some (.lst ((List.replicate i true).map V.bl))) ⟨Ext.upd nD, upd_same⟩ (fun i J _ z => SqL.of (z.1 _ _ htl)) ?_ ?_⟩
      · rintro i y J hy ⟨xJ, hD⟩
        have ilt := (List.getElem?_eq_some_iff.mp hy).1
        rw [List.length_map] at ilt
        obtain ⟨c, hc, rfl⟩ := ref_get hy
        obtain ⟨l, hl, hcl⟩ := tw.get hc
        refine ⟨rfl, tyes_in ⟨_, rfl, _, .ty "tuple", .type "tuple", .type "tuple", true, rfl, .ty _, .base (.tup (xJ _ _ hcl)), kit_ty (by decide +kernel), ?_⟩⟩
        refine ⟨_, hD, small1000 (by rw [List.length_map, List.length_replicate]; omega), fun b' o hb' => ?_, ?_⟩
        · rw [upd_ne (ne_of_none hb' nD)]
          exact xJ _ _ hb'
        · rw [upd_same, List.replicate_succ', List.map_append]
          rfl
      rintro J ⟨xJ, hD⟩
      refine ⟨D, _, rfl, SqL.of hD, _, rfl, ?_⟩
      have ef : (List.replicate (cs.map V.ref).length true).all id = true := by simp
      rw [ef]
      exact iteF ⟨rfl, lw5.ext xJ, ru5.ext xJ, rt5.ext xJ⟩
    rintro σ'' J6 ⟨rfl, lw6, ru6, rt6⟩
    -- the form of one of them
    refine ⟨fun σ'' J => σ'' = [some (.ref s0), some (.ref r), some (.int (0 + (i : Nat))), some (nv M), some (.ref b), some (.ref p), some (.ref u), some (.ref tl), Option.none, v9, Option.none] ∧ Lw CW PL r p b M Ars J ∧ RowsL J u ls ∧ RowsL J tl ls, ?_, ?_⟩
    · obtain ⟨cs, htl, tw⟩ := id rt6
      have lcs := tw.len
      refine ⟨_, rfl, _, rfl, _, rfl, r, tl, _, rfl, lw6.pot, rt6.ne_pot lw6.pot, htl, fun e => ne ?_, by rw [List.length_map]; omega, fun x J hx g => ?_⟩
      · have := congrArg List.length e
        rw [List.length_map, lcs] at this
        exact List.eq_nil_of_length_eq_zero this
      obtain ⟨c, hc, rfl⟩ := List.mem_map.mp hx
      obtain ⟨l, hl, hcl⟩ := two_on tw c hc
      obtain ⟨f, R, rfl⟩ := (t1.mem l).mp hl
      have lw7 := lw6.go g
      refine ⟨p, c, rfl, p, b, c, M, Ars, f, rfl, lw7.web, m8, lw7.arr, al, ins, by rw [← rowL_lab]; exact g.tup lw6.pot hcl, R.le_small ab ins nl m8, fun J7 x7 => ?_⟩
      refine ⟨rfl, _, rfl, ?_⟩
      have e1 : (sqs f M).sum - (alongs Ars f).sum = 1 := R.one
      rw [e1]
      exact iteF ⟨rfl, lw7.ext x7, (ru6.go lw6.pot g).ext x7, (rt6.go lw6.pot g).ext x7⟩
    rintro σ'' J7 ⟨rfl, lw7, ru7, rt7⟩
    -- the list is written to
    refine ⟨fun σ'' J => σ'' = [some (.ref s0), some (.ref r), some (.int (0 + (i : Nat))), some (nv M), some (.ref b), some (.ref p), some (.ref u), some (.ref tl), Option.none, v9, Option.none] ∧ Lw CW PL r p b M Ars J ∧ RowsL J u ls, ?_, ?_⟩
    · obtain ⟨cs, htl, tw⟩ := id rt7
      have lcs := tw.len
      refine ⟨_, rfl, .inl ⟨rfl, _, SqL.of htl⟩, tl, _, V.non, rfl, rfl, htl, small1000 (by rw [List.length_map]; omega), rfl, lw7.put htl (rt7.ne_pot lw7.pot).symm (fun c ks hc e => ?_) , ru7.put ntu.symm htl⟩
      rw [e, htl] at hc
      injection hc with hc
      injection hc with hc
      match cs, hc, lcs with
      | [], _, lcs => exact ne (List.eq_nil_of_length_eq_zero lcs.symm)
      | a :: cs, hc, _ =>
        match ks, hc with
        | [], hc => cases hc
        | k :: ks, hc =>
          injection hc with hc
          cases hc
    rintro σ'' J8 ⟨rfl, lw8, ru8⟩
    -- told again
    refine ⟨fun σ'' J => σ'' = [some (.ref s0), some (.ref r), some (.int (0 + (i : Nat))), some (nv M), some (.ref b), some (.ref p), some (.ref u), some (.ref tl), Option.none, v9, Option.none] ∧ Lw CW PL r p b M Ars J, ?_, ?_⟩
    · refine ⟨_, rfl, p, b, M, Ars, rfl, lw8.web, lw8.arr, m1, m8, al, ins, fun J5 bad _ => absurd bad nb, fun t2 J5 _ x5 nt ra => ?_⟩
      obtain ⟨cs, ls2, hu, tw, t2'⟩ := told1 m1 ra
      cases t1.uniq t2'
      refine ⟨_, rfl, same_rows ⟨cs, hu, tw⟩ (ru8.ext x5) ⟨_, rfl, ?_⟩⟩
      exact iteF ⟨rfl, lw8.ext x5⟩
    rintro σ'' J9 ⟨rfl, lw9⟩
    -- another web
    have pot9 := lw9.pot
    have tb9 := lw9.tab
    refine ⟨fun σ'' J => ∃ (b2 : Addr) (M2 : Nat) (A2 : Ar), σ'' = [some (.ref s0), some (.ref r), some (.int (0 + (i : Nat))), some (nv M2), some (.ref b2), some (.ref p), some (.ref u), some (.ref tl), Option.none, v9, Option.none] ∧ PotAt J r ∧ Tabs [(PL, lamQ)] J ∧ TT J b2 (A2.map arL) ∧ 1 ≤ M2 ∧ M2 ≤ 8 ∧ A2.length ≤ 12 ∧ Inside M2 A2, ?_, ?_⟩
    · refine ⟨_, rfl, r, rfl, pot9, fun q b2 m2 ll J g hq hm1 hm6 at2 => ?_⟩
      obtain ⟨A2, rfl, ins2⟩ := arrows_of at2.2.2
      have al2 : A2.length ≤ 12 := by have := at2.2.1; rw [List.length_map] at this; exact this
      refine ⟨q, _, rfl, SqT.of hq, rfl, _, _, rfl, _, _, rfl, rfl, b2, m2.toNat, A2, ?_, g.1, Tabs.go pot9 g tb9, at2.1, by omega, by omega, al2, ins2⟩
      show _ = [_, _, _, some (V.int ((m2.toNat : Nat) : Int)), _, _, _, _, _, _, _]
      rw [Int.toNat_of_nonneg (by omega)]
      rfl
    clear lw9 lw8 ru8 lw7 ru7 rt7 lw6 ru6 rt6 lw5 ru5 rt5 lw4 ru4 lw3 tt hw
    rintro σ'' J10 ⟨b2, M2, A2, rfl, pot10, tb10, tt10, n1, n8, al2, ins2⟩
    -- whether it is finite
    refine ⟨fun σ'' J => ∃ c : Bool, σ'' = [some (.ref s0), some (.ref r), some (.int (0 + (i : Nat))), some (nv M2), some (.ref b2), some (.ref p), some (.ref u), some (.ref tl), Option.none, some (.bl c), Option.none] ∧ PotAt J r ∧ Tabs [(PL, lamQ)] J ∧ TT J b2 (A2.map arL) ∧ (c = true ↔ ¬ HasBad M2 A2), ?_, ?_⟩
    · obtain ⟨ks, tk⟩ := lots_kinds ins2
      refine ⟨_, rfl, _, rfl, b2, M2, A2, rfl, tt10, n8, al2, ins2, fun rl J1 x1 nr ⟨as, hr1, tw⟩ => ?_⟩
      refine ⟨rl, rfl, ⟨_, SqL.of hr1⟩, fun G nG => lc_list (K := K) (a := rl) (xs := as.map V.ref) (fun i J3 => Ext J1 J3 ∧ J3 G = some (.lst (((ks.take i).map Option.isSome).map V.bl))) ⟨Ext.upd nG, upd_same⟩ (fun i J3 _ z => SqL.of (z.1 _ _ hr1)) ?_ ?_⟩
      · rintro i y J3 hy ⟨x3, hG⟩
        obtain ⟨c, ea, rfl⟩ := ref_get hy
        obtain ⟨l, hl, hc⟩ := tw.get ea
        obtain ⟨kd, hk, kr⟩ := tk.get hl
        obtain ⟨h, _, eh⟩ := List.mem_map.mp (List.mem_of_getElem? hl)
        have il : i < (lotsN M2 A2).length := (List.getElem?_eq_some_iff.mp hl).1
        have := lots_small M2 A2
        refine ⟨rfl, tyes_in ?_⟩
        refine ⟨_, rfl, _, rfl, c, b2, A2, l, kd, rfl, x3 _ _ hc, tt10.ext (x1.trans x3), al2, by rw [← eh]; exact nodup_of_up (lotN_up M2 A2 h), by rw [← eh]; exact Nat.le_trans (lot_small M2 A2 h) n8, by rw [← eh]; exact lot_shut ins2 h, kr, fun x J4 x4 kv => ?_⟩
        have ex : (!decide (x = V.non)) = kd.isSome := by
          cases kd with
          | none =>
            have : x = .non := kv
            rw [this]
            rfl
          | some s =>
            obtain ⟨rr, rfl, _⟩ := kv
            rfl
        refine ⟨rfl, ?_⟩
        rw [ex]
        refine ⟨_, x4 _ _ hG, small1000 (by rw [List.length_map, List.length_map, List.length_take]; omega), fun b' o' hb' => ?_, ?_⟩
        · rw [upd_ne (ne_of_none hb' nG)]
          exact x4 _ _ (x3 _ _ hb')
        · rw [upd_same, List.take_succ, hk, List.map_append, List.map_append]
          rfl
      · rintro J3 ⟨x3, hG⟩
        have ln : (as.map V.ref).length = ks.length := by rw [List.length_map, tw.len, tk.len]
        rw [ln, List.take_of_length_le (Nat.le_refl _)] at hG
        have x13 := x1.trans x3
        refine ⟨G, _, rfl, SqL.of hG, _, rfl, (Go.of_ext pot10 x13).1, tb10.ext x13, tt10.ext x13, ?_⟩
        rw [← has_none tk, List.all_map]
        rw [List.all_eq_true, List.any_eq_true]
        constructor
        · rintro h ⟨kd, hk, e⟩
          have := h kd hk
          cases kd with
          | none => cases this
          | some s => cases e
        · intro h kd hk
          cases kd with
          | none => exact absurd ⟨none, hk, rfl⟩ h
          | some s => rfl
    rintro σ'' J11 ⟨c, rfl, pot11, tb11, tt11, ce⟩
    -- what the call tells
    refine ⟨tb11, fun J12 eN tb12 => ?_⟩
    have tt12 := TT.extN eN tt11
    have pot12 := PotAt.extN eN pot11
    refine ⟨_, rfl, _, rfl, ?_⟩
    refine mk_webR (by omega) (by omega) (at_of_tt tt12 al2 ins2) fun p2 J13 hw2 x13 => ?_
    refine ⟨p2, b2, M2, A2, rfl, hw2, tt12.ext x13, n1, n8, al2, ins2, fun J14 bad x14 => ⟨rfl, rfl, fun J15 x15 => ?_⟩, fun t J14 nbad x14 _ _ => ⟨_, rfl, ?_⟩⟩
    · have cf : c = false := by
        cases c with
        | false => rfl
        | true => exact absurd bad (ce.mp rfl)
      subst cf
      have xx := x13.trans (x14.trans x15)
      refine ⟨_, rfl, _, rfl, iteF ?_⟩
      refine ⟨rfl, _, rfl, ?_⟩
      rw [decide_eq_true (rfl : V.str "endless" = V.str "endless")]
      exact iteF ⟨⟨_, _, _, _, _, _, _, rfl⟩, (Go.of_ext pot12 xx).1, tb12.ext xx⟩
    · have cf : c = true := ce.mpr nbad
      subst cf
      have xx := x13.trans x14
      refine ⟨_, rfl, _, rfl, iteT ?_⟩
      refine ⟨rfl, _, rfl, ?_⟩
      rw [decide_eq_true (rfl : V.str "let" = V.str "let")]
      exact iteF ⟨⟨_, _, _, _, _, _, _, rfl⟩, (Go.of_ext pot12 xx).1, tb12.ext xx⟩
end
end R23

set_option Elab.async false
set_option linter.all false
set_option maxRecDepth 100000
set_option maxHeartbeats 8000000
namespace R23
open PySem L2 LamX
theorem exm_self {K : PySem.W.Frag} {S : Addr} (h1 : PySem.W.subIn K (.ref S) (.type "BaseException") = some true) (h2 : PySem.W.isClsIn K S = true) (h3 : PySem.W.typeIn K (.ref S) = some (.type "type")) (h4 : PySem.W.subIn K (.ref S) (.ref S) = some true) :
    PySem.W.exmOne K (.ref S) (.ref S) = some true := by
  have h2' : (PySem.W.clsIn K S).isSome = true := h2
  unfold PySem.W.exmOne PySem.W.kitCls
  simp only [h1, h2', h3, h4, beq_self_eq_true, Bool.and_self, if_true]
theorem kit_ref {K : PySem.W.Frag} {t : Value} {C : Addr} {b : Bool} (h2 : PySem.W.isClsIn K C = true) (h3 : PySem.W.typeIn K (.ref C) = some (.type "type")) (h4 : PySem.W.subIn K (.ref C) (.ref C) = some true) (h5 : PySem.W.subIn K t (.ref C) = some b) :
    PySem.W.kitOne K t (.ref C) = some b := by
  have h2' : (PySem.W.clsIn K C).isSome = true := h2
  unfold PySem.W.kitOne PySem.W.kitCls
  by_cases e : (t == .ref C) = true
  · have e' := beq_iff_eq.mp e
    subst e'
    rw [h4] at h5
    rw [if_pos e, ← h5]
  · rw [if_neg e]
    simp only [h2', h3, h5, beq_self_eq_true, Bool.and_self, if_true]
theorem kit_tyc {K : PySem.W.Frag} {C : Addr} {s : String} {b : Bool} (h : PySem.W.kitMeta s = true) (h5 : PySem.W.subIn K (.ref C) (.type s) = some b) : PySem.W.kitOne K (.ref C) (.type s) = some b := by
  unfold PySem.W.kitOne PySem.W.kitCls
  rw [if_neg (by intro z; exact nomatch beq_iff_eq.mp z)]
  simp only [h, h5, if_true]
theorem exm_ref {K : PySem.W.Frag} {t : Value} {S : Addr} {b : Bool} (h1 : PySem.W.subIn K (.ref S) (.type "BaseException") = some true) (h2 : PySem.W.isClsIn K S = true) (h3 : PySem.W.typeIn K (.ref S) = some (.type "type")) (h4 : PySem.W.subIn K t (.ref S) = some b) :
    PySem.W.exmOne K t (.ref S) = some b := by
  have h2' : (PySem.W.clsIn K S).isSome = true := h2
  unfold PySem.W.exmOne PySem.W.kitCls
  simp only [h1, h2', h3, h4, beq_self_eq_true, Bool.and_self, if_true]
theorem all_mk {l : PySem.W.OpenLaw} {w : World} {K : PySem.W.Frag} {h : Heap} {mg : Str → Option Value} {fa : Addr} {CW CN CE f1 f2 f9 f14 f15 f18 f19 f20 f21 f22 f23 f24 f25 f26 f27 f28 f29 f31 f32 f33 f34 f35 f36 f37 f38 f39 f40 f41 f42 f43 f44 f45 f46 fW fI cL PL : Addr} (X : K.In h) (G : h.Ns mainGlobals mg) (hfa : mg "law" = some (.ref fa))
    {oc1 kV1 dc1 pm1 cd1 ct1 : Value} {od1 an1 : Option Addr} {sl1 : Array (Option Value)}
    {oc2 kV2 dc2 pm2 cd2 ct2 : Value} {od2 an2 : Option Addr} {sl2 : Array (Option Value)}
    {oc9 kV9 dc9 pm9 cd9 ct9 : Value} {od9 an9 : Option Addr} {sl9 : Array (Option Value)}
    {oc14 kV14 dc14 pm14 cd14 ct14 : Value} {od14 an14 : Option Addr} {sl14 : Array (Option Value)}
    {oc15 kV15 dc15 pm15 cd15 ct15 : Value} {od15 an15 : Option Addr} {sl15 : Array (Option Value)}
    {oc18 kV18 dc18 pm18 cd18 ct18 : Value} {od18 an18 : Option Addr} {sl18 : Array (Option Value)}
    {oc19 kV19 dc19 pm19 cd19 ct19 : Value} {od19 an19 : Option Addr} {sl19 : Array (Option Value)}
    {oc20 kV20 dc20 pm20 cd20 ct20 : Value} {od20 an20 : Option Addr} {sl20 : Array (Option Value)}
    {oc21 kV21 dc21 pm21 cd21 ct21 : Value} {od21 an21 : Option Addr} {sl21 : Array (Option Value)}
    {oc22 kV22 dc22 pm22 cd22 ct22 : Value} {od22 an22 : Option Addr} {sl22 : Array (Option Value)}
    {oc23 kV23 dc23 pm23 cd23 ct23 : Value} {od23 an23 : Option Addr} {sl23 : Array (Option Value)}
    {oc24 kV24 dc24 pm24 cd24 ct24 : Value} {od24 an24 : Option Addr} {sl24 : Array (Option Value)}
    {oc25 kV25 dc25 pm25 cd25 ct25 : Value} {od25 an25 : Option Addr} {sl25 : Array (Option Value)}
    {oc26 kV26 dc26 pm26 cd26 ct26 : Value} {od26 an26 : Option Addr} {sl26 : Array (Option Value)}
    {oc27 kV27 dc27 pm27 cd27 ct27 : Value} {od27 an27 : Option Addr} {sl27 : Array (Option Value)}
    {oc28 kV28 dc28 pm28 cd28 ct28 : Value} {od28 an28 : Option Addr} {sl28 : Array (Option Value)}
    {oc29 kV29 dc29 pm29 cd29 ct29 : Value} {od29 an29 : Option Addr} {sl29 : Array (Option Value)}
    {oc31 kV31 dc31 pm31 cd31 ct31 : Value} {od31 an31 : Option Addr} {sl31 : Array (Option Value)}
    {oc32 kV32 dc32 pm32 cd32 ct32 : Value} {od32 an32 : Option Addr} {sl32 : Array (Option Value)}
    {oc33 kV33 dc33 pm33 cd33 ct33 : Value} {od33 an33 : Option Addr} {sl33 : Array (Option Value)}
    {oc34 kV34 dc34 pm34 cd34 ct34 : Value} {od34 an34 : Option Addr} {sl34 : Array (Option Value)}
    {oc35 kV35 dc35 pm35 cd35 ct35 : Value} {od35 an35 : Option Addr} {sl35 : Array (Option Value)}
    {oc36 kV36 dc36 pm36 cd36 ct36 : Value} {od36 an36 : Option Addr} {sl36 : Array (Option Value)}
    {oc37 kV37 dc37 pm37 cd37 ct37 : Value} {od37 an37 : Option Addr} {sl37 : Array (Option Value)}
    {oc38 kV38 dc38 pm38 cd38 ct38 : Value} {od38 an38 : Option Addr} {sl38 : Array (Option Value)}
    {oc39 kV39 dc39 pm39 cd39 ct39 : Value} {od39 an39 : Option Addr} {sl39 : Array (Option Value)}
    {oc40 kV40 dc40 pm40 cd40 ct40 : Value} {od40 an40 : Option Addr} {sl40 : Array (Option Value)}
    {oc41 kV41 dc41 pm41 cd41 ct41 : Value} {od41 an41 : Option Addr} {sl41 : Array (Option Value)}
    {oc42 kV42 dc42 pm42 cd42 ct42 : Value} {od42 an42 : Option Addr} {sl42 : Array (Option Value)}
    {oc43 kV43 dc43 pm43 cd43 ct43 : Value} {od43 an43 : Option Addr} {sl43 : Array (Option Value)}
    {oc44 kV44 dc44 pm44 cd44 ct44 : Value} {od44 an44 : Option Addr} {sl44 : Array (Option Value)}
    {oc45 kV45 dc45 pm45 cd45 ct45 : Value} {od45 an45 : Option Addr} {sl45 : Array (Option Value)}
    {oc46 kV46 dc46 pm46 ct46 : Value} {od46 an46 : Option Addr} {sl46 : Array (Option Value)}
    {ocW kVW dcW pmW cdW ctW : Value} {odW anW : Option Addr} {slW : Array (Option Value)}
    {ocI kVI dcI pmI cdI ctI : Value} {odI anI : Option Addr} {slI : Array (Option Value)}
    {tMOST_PLACES}
    {tMOST_ARROWS}
    {tMOST_ITEM}
    {nmCN qCN : Str} {NCN : Addr} {bsCN bmCN : List Value} {snCN : List Str} {subCN : List Value} {abCN : Bool} {colCN : Option Bool} {ddCN : Option Addr} {m0CN m1CN m2CN m3CN m5CN : Option Value}
    (gCW : PySem.W.nsIn K mainGlobals "Web" = some (some (.ref CW)))
    (gCN : PySem.W.nsIn K mainGlobals "Endless" = some (some (.ref CN)))
    (gCE : PySem.W.nsIn K mainGlobals "WebError" = some (some (.ref CE)))
    (a1 : PySem.W.nsIn K mainGlobals "is_integer" = some (some (.ref f1)))
    (l1 : K.lookup f1 = some ⟨oc1, od1, .func (PySem.W.fnOf "is_integer" "is_integer" (defArgs sInteger) (defBody sInteger) (defScope sInteger) .none kV1 dc1 pm1 an1 cd1 ct1), sl1⟩)
    (c1 : PySem.W.codeIn K cd1 "is_integer" = true)
    (k1 : PySem.W.keepIn K (.ref f1) = true)
    (a2 : PySem.W.nsIn K mainGlobals "is_number" = some (some (.ref f2)))
    (l2 : K.lookup f2 = some ⟨oc2, od2, .func (PySem.W.fnOf "is_number" "is_number" (defArgs sNumber) (defBody sNumber) (defScope sNumber) .none kV2 dc2 pm2 an2 cd2 ct2), sl2⟩)
    (c2 : PySem.W.codeIn K cd2 "is_number" = true)
    (k2 : PySem.W.keepIn K (.ref f2) = true)
    (a9 : PySem.W.nsIn K mainGlobals "unit_rows" = some (some (.ref f9)))
    (l9 : K.lookup f9 = some ⟨oc9, od9, .func (PySem.W.fnOf "unit_rows" "unit_rows" (defArgs sUnit) (defBody sUnit) (defScope sUnit) .none kV9 dc9 pm9 an9 cd9 ct9), sl9⟩)
    (c9 : PySem.W.codeIn K cd9 "unit_rows" = true)
    (k9 : PySem.W.keepIn K (.ref f9) = true)
    (a14 : PySem.W.nsIn K mainGlobals "is_arrow" = some (some (.ref f14)))
    (l14 : K.lookup f14 = some ⟨oc14, od14, .func (PySem.W.fnOf "is_arrow" "is_arrow" (defArgs sArrow) (defBody sArrow) (defScope sArrow) .none kV14 dc14 pm14 an14 cd14 ct14), sl14⟩)
    (c14 : PySem.W.codeIn K cd14 "is_arrow" = true)
    (k14 : PySem.W.keepIn K (.ref f14) = true)
    (a15 : PySem.W.nsIn K mainGlobals "parts" = some (some (.ref f15)))
    (l15 : K.lookup f15 = some ⟨oc15, od15, .func (PySem.W.fnOf "parts" "parts" (defArgs sParts) (defBody sParts) (defScope sParts) .none kV15 dc15 pm15 an15 cd15 ct15), sl15⟩)
    (c15 : PySem.W.codeIn K cd15 "parts" = true)
    (k15 : PySem.W.keepIn K (.ref f15) = true)
    (a18 : PySem.W.nsIn K mainGlobals "is_row" = some (some (.ref f18)))
    (l18 : K.lookup f18 = some ⟨oc18, od18, .func (PySem.W.fnOf "is_row" "is_row" (defArgs sRow) (defBody sRow) (defScope sRow) .none kV18 dc18 pm18 an18 cd18 ct18), sl18⟩)
    (c18 : PySem.W.codeIn K cd18 "is_row" = true)
    (k18 : PySem.W.keepIn K (.ref f18) = true)
    (a19 : PySem.W.nsIn K mainGlobals "euler" = some (some (.ref f19)))
    (l19 : K.lookup f19 = some ⟨oc19, od19, .func (PySem.W.fnOf "euler" "euler" (defArgs sEul) (defBody sEul) (defScope sEul) .none kV19 dc19 pm19 an19 cd19 ct19), sl19⟩)
    (c19 : PySem.W.codeIn K cd19 "euler" = true)
    (k19 : PySem.W.keepIn K (.ref f19) = true)
    (a20 : PySem.W.nsIn K mainGlobals "form" = some (some (.ref f20)))
    (l20 : K.lookup f20 = some ⟨oc20, od20, .func (PySem.W.fnOf "form" "form" (defArgs sForm) (defBody sForm) (defScope sForm) .none kV20 dc20 pm20 an20 cd20 ct20), sl20⟩)
    (c20 : PySem.W.codeIn K cd20 "form" = true)
    (k20 : PySem.W.keepIn K (.ref f20) = true)
    (a21 : PySem.W.nsIn K mainGlobals "other_ends" = some (some (.ref f21)))
    (l21 : K.lookup f21 = some ⟨oc21, od21, .func (PySem.W.fnOf "other_ends" "other_ends" (defArgs sOther) (defBody sOther) (defScope sOther) .none kV21 dc21 pm21 an21 cd21 ct21), sl21⟩)
    (c21 : PySem.W.codeIn K cd21 "other_ends" = true)
    (k21 : PySem.W.keepIn K (.ref f21) = true)
    (a22 : PySem.W.nsIn K mainGlobals "way_length" = some (some (.ref f22)))
    (l22 : K.lookup f22 = some ⟨oc22, od22, .func (PySem.W.fnOf "way_length" "way_length" (defArgs sWayL) (defBody sWayL) (defScope sWayL) .none kV22 dc22 pm22 an22 cd22 ct22), sl22⟩)
    (c22 : PySem.W.codeIn K cd22 "way_length" = true)
    (k22 : PySem.W.keepIn K (.ref f22) = true)
    (a23 : PySem.W.nsIn K mainGlobals "kind_of" = some (some (.ref f23)))
    (l23 : K.lookup f23 = some ⟨oc23, od23, .func (PySem.W.fnOf "kind_of" "kind_of" (defArgs sKindOf) (defBody sKindOf) (defScope sKindOf) .none kV23 dc23 pm23 an23 cd23 ct23), sl23⟩)
    (c23 : PySem.W.codeIn K cd23 "kind_of" = true)
    (k23 : PySem.W.keepIn K (.ref f23) = true)
    (a24 : PySem.W.nsIn K mainGlobals "kinds" = some (some (.ref f24)))
    (l24 : K.lookup f24 = some ⟨oc24, od24, .func (PySem.W.fnOf "kinds" "kinds" (defArgs sKinds) (defBody sKinds) (defScope sKinds) .none kV24 dc24 pm24 an24 cd24 ct24), sl24⟩)
    (c24 : PySem.W.codeIn K cd24 "kinds" = true)
    (k24 : PySem.W.keepIn K (.ref f24) = true)
    (a25 : PySem.W.nsIn K mainGlobals "least_endless" = some (some (.ref f25)))
    (l25 : K.lookup f25 = some ⟨oc25, od25, .func (PySem.W.fnOf "least_endless" "least_endless" (defArgs sLea) (defBody sLea) (defScope sLea) .none kV25 dc25 pm25 an25 cd25 ct25), sl25⟩)
    (c25 : PySem.W.codeIn K cd25 "least_endless" = true)
    (k25 : PySem.W.keepIn K (.ref f25) = true)
    (a26 : PySem.W.nsIn K mainGlobals "surplus" = some (some (.ref f26)))
    (l26 : K.lookup f26 = some ⟨oc26, od26, .func (PySem.W.fnOf "surplus" "surplus" (defArgs sSur) (defBody sSur) (defScope sSur) .none kV26 dc26 pm26 an26 cd26 ct26), sl26⟩)
    (c26 : PySem.W.codeIn K cd26 "surplus" = true)
    (k26 : PySem.W.keepIn K (.ref f26) = true)
    (a27 : PySem.W.nsIn K mainGlobals "raised" = some (some (.ref f27)))
    (l27 : K.lookup f27 = some ⟨oc27, od27, .func (PySem.W.fnOf "raised" "raised" (defArgs sRai) (defBody sRai) (defScope sRai) .none kV27 dc27 pm27 an27 cd27 ct27), sl27⟩)
    (c27 : PySem.W.codeIn K cd27 "raised" = true)
    (k27 : PySem.W.keepIn K (.ref f27) = true)
    (a28 : PySem.W.nsIn K mainGlobals "endless" = some (some (.ref f28)))
    (l28 : K.lookup f28 = some ⟨oc28, od28, .func (PySem.W.fnOf "endless" "endless" (defArgs sEnd) (defBody sEnd) (defScope sEnd) .none kV28 dc28 pm28 an28 cd28 ct28), sl28⟩)
    (c28 : PySem.W.codeIn K cd28 "endless" = true)
    (k28 : PySem.W.keepIn K (.ref f28) = true)
    (a29 : PySem.W.nsIn K mainGlobals "rows" = some (some (.ref f29)))
    (l29 : K.lookup f29 = some ⟨oc29, od29, .func (PySem.W.fnOf "rows" "rows" (defArgs sRows) (defBody sRows) (defScope sRows) .none kV29 dc29 pm29 an29 cd29 ct29), sl29⟩)
    (c29 : PySem.W.codeIn K cd29 "rows" = true)
    (k29 : PySem.W.keepIn K (.ref f29) = true)
    (a31 : PySem.W.nsIn K mainGlobals "_law_purse" = some (some (.ref f31)))
    (l31 : K.lookup f31 = some ⟨oc31, od31, .func (PySem.W.fnOf "_law_purse" "_law_purse" (defArgs sPurse) (defBody sPurse) (defScope sPurse) .none kV31 dc31 pm31 an31 cd31 ct31), sl31⟩)
    (c31 : PySem.W.codeIn K cd31 "_law_purse" = true)
    (k31 : PySem.W.keepIn K (.ref f31) = true)
    (a32 : PySem.W.nsIn K mainGlobals "_law_part" = some (some (.ref f32)))
    (l32 : K.lookup f32 = some ⟨oc32, od32, .func (PySem.W.fnOf "_law_part" "_law_part" (defArgs sDraw) (defBody sDraw) (defScope sDraw) .none kV32 dc32 pm32 an32 cd32 ct32), sl32⟩)
    (c32 : PySem.W.codeIn K cd32 "_law_part" = true)
    (k32 : PySem.W.keepIn K (.ref f32) = true)
    (a33 : PySem.W.nsIn K mainGlobals "_law_one" = some (some (.ref f33)))
    (l33 : K.lookup f33 = some ⟨oc33, od33, .func (PySem.W.fnOf "_law_one" "_law_one" (defArgs sAny) (defBody sAny) (defScope sAny) .none kV33 dc33 pm33 an33 cd33 ct33), sl33⟩)
    (c33 : PySem.W.codeIn K cd33 "_law_one" = true)
    (k33 : PySem.W.keepIn K (.ref f33) = true)
    (a34 : PySem.W.nsIn K mainGlobals "_law_mixed" = some (some (.ref f34)))
    (l34 : K.lookup f34 = some ⟨oc34, od34, .func (PySem.W.fnOf "_law_mixed" "_law_mixed" (defArgs sMixed) (defBody sMixed) (defScope sMixed) .none kV34 dc34 pm34 an34 cd34 ct34), sl34⟩)
    (c34 : PySem.W.codeIn K cd34 "_law_mixed" = true)
    (k34 : PySem.W.keepIn K (.ref f34) = true)
    (a35 : PySem.W.nsIn K mainGlobals "_law_arms" = some (some (.ref f35)))
    (l35 : K.lookup f35 = some ⟨oc35, od35, .func (PySem.W.fnOf "_law_arms" "_law_arms" (defArgs sArms) (defBody sArms) (defScope sArms) .none kV35 dc35 pm35 an35 cd35 ct35), sl35⟩)
    (c35 : PySem.W.codeIn K cd35 "_law_arms" = true)
    (k35 : PySem.W.keepIn K (.ref f35) = true)
    (a36 : PySem.W.nsIn K mainGlobals "_law_web_of" = some (some (.ref f36)))
    (l36 : K.lookup f36 = some ⟨oc36, od36, .func (PySem.W.fnOf "_law_web_of" "_law_web_of" (defArgs sWebOf) (defBody sWebOf) (defScope sWebOf) .none kV36 dc36 pm36 an36 cd36 ct36), sl36⟩)
    (c36 : PySem.W.codeIn K cd36 "_law_web_of" = true)
    (k36 : PySem.W.keepIn K (.ref f36) = true)
    (a37 : PySem.W.nsIn K mainGlobals "_law_any_web" = some (some (.ref f37)))
    (l37 : K.lookup f37 = some ⟨oc37, od37, .func (PySem.W.fnOf "_law_any_web" "_law_any_web" (defArgs sAnyW) (defBody sAnyW) (defScope sAnyW) .none kV37 dc37 pm37 an37 cd37 ct37), sl37⟩)
    (c37 : PySem.W.codeIn K cd37 "_law_any_web" = true)
    (k37 : PySem.W.keepIn K (.ref f37) = true)
    (a38 : PySem.W.nsIn K mainGlobals "_law_hung" = some (some (.ref f38)))
    (l38 : K.lookup f38 = some ⟨oc38, od38, .func (PySem.W.fnOf "_law_hung" "_law_hung" (defArgs sHung) (defBody sHung) (defScope sHung) .none kV38 dc38 pm38 an38 cd38 ct38), sl38⟩)
    (c38 : PySem.W.codeIn K cd38 "_law_hung" = true)
    (k38 : PySem.W.keepIn K (.ref f38) = true)
    (a39 : PySem.W.nsIn K mainGlobals "_law_way" = some (some (.ref f39)))
    (l39 : K.lookup f39 = some ⟨oc39, od39, .func (PySem.W.fnOf "_law_way" "_law_way" (defArgs sWay) (defBody sWay) (defScope sWay) .none kV39 dc39 pm39 an39 cd39 ct39), sl39⟩)
    (c39 : PySem.W.codeIn K cd39 "_law_way" = true)
    (k39 : PySem.W.keepIn K (.ref f39) = true)
    (a40 : PySem.W.nsIn K mainGlobals "_law_kind" = some (some (.ref f40)))
    (l40 : K.lookup f40 = some ⟨oc40, od40, .func (PySem.W.fnOf "_law_kind" "_law_kind" (defArgs sKind) (defBody sKind) (defScope sKind) .none kV40 dc40 pm40 an40 cd40 ct40), sl40⟩)
    (c40 : PySem.W.codeIn K cd40 "_law_kind" = true)
    (k40 : PySem.W.keepIn K (.ref f40) = true)
    (a41 : PySem.W.nsIn K mainGlobals "_law_finite" = some (some (.ref f41)))
    (l41 : K.lookup f41 = some ⟨oc41, od41, .func (PySem.W.fnOf "_law_finite" "_law_finite" (defArgs sFin) (defBody sFin) (defScope sFin) .none kV41 dc41 pm41 an41 cd41 ct41), sl41⟩)
    (c41 : PySem.W.codeIn K cd41 "_law_finite" = true)
    (k41 : PySem.W.keepIn K (.ref f41) = true)
    (a42 : PySem.W.nsIn K mainGlobals "_law_euler" = some (some (.ref f42)))
    (l42 : K.lookup f42 = some ⟨oc42, od42, .func (PySem.W.fnOf "_law_euler" "_law_euler" (defArgs sLEu) (defBody sLEu) (defScope sLEu) .none kV42 dc42 pm42 an42 cd42 ct42), sl42⟩)
    (c42 : PySem.W.codeIn K cd42 "_law_euler" = true)
    (k42 : PySem.W.keepIn K (.ref f42) = true)
    (a43 : PySem.W.nsIn K mainGlobals "_law_roots" = some (some (.ref f43)))
    (l43 : K.lookup f43 = some ⟨oc43, od43, .func (PySem.W.fnOf "_law_roots" "_law_roots" (defArgs sRoo) (defBody sRoo) (defScope sRoo) .none kV43 dc43 pm43 an43 cd43 ct43), sl43⟩)
    (c43 : PySem.W.codeIn K cd43 "_law_roots" = true)
    (k43 : PySem.W.keepIn K (.ref f43) = true)
    (a44 : PySem.W.nsIn K mainGlobals "_law_word" = some (some (.ref f44)))
    (l44 : K.lookup f44 = some ⟨oc44, od44, .func (PySem.W.fnOf "_law_word" "_law_word" (defArgs sWord) (defBody sWord) (defScope sWord) .none kV44 dc44 pm44 an44 cd44 ct44), sl44⟩)
    (c44 : PySem.W.codeIn K cd44 "_law_word" = true)
    (k44 : PySem.W.keepIn K (.ref f44) = true)
    (a45 : PySem.W.nsIn K mainGlobals "_law_searched" = some (some (.ref f45)))
    (l45 : K.lookup f45 = some ⟨oc45, od45, .func (PySem.W.fnOf "_law_searched" "_law_searched" (defArgs sSea) (defBody sSea) (defScope sSea) .none kV45 dc45 pm45 an45 cd45 ct45), sl45⟩)
    (c45 : PySem.W.codeIn K cd45 "_law_searched" = true)
    (k45 : PySem.W.keepIn K (.ref f45) = true)
    (a46 : PySem.W.nsIn K mainGlobals "law" = some (some (.ref f46)))
    (l46 : K.lookup f46 = some ⟨oc46, od46, .func (PySem.W.fnOf "law" "law" (defArgs sLaw) (defBody sLaw) (defScope sLaw) .none kV46 dc46 pm46 an46 (.ref cL) ct46), sl46⟩)
    (c46 : PySem.W.codeIn K (.ref cL) "law" = true)
    (k46 : PySem.W.keepIn K (.ref f46) = true)
    (aW : PySem.W.findIn K (.ref CW) "__init__" = some (some (.ref fW)))
    (iW : PySem.W.isFn K (.ref fW) = true)
    (lW : K.lookup fW = some ⟨ocW, odW, .func (PySem.W.fnOf "__init__" "Web.__init__" (defArgs sWebI) (defBody sWebI) (defScope sWebI) .none kVW dcW pmW anW cdW ctW), slW⟩)
    (cW : PySem.W.codeIn K cdW "Web.__init__" = true)
    (kW : PySem.W.keepIn K (.ref fW) = true)
    (tW : PySem.W.typeIn K (.ref fW) = some (.type "function"))
    (aI : PySem.W.findIn K (.ref CN) "__init__" = some (some (.ref fI)))
    (iI : PySem.W.isFn K (.ref fI) = true)
    (lI : K.lookup fI = some ⟨ocI, odI, .func (PySem.W.fnOf "__init__" "WebError.__init__" (defArgs sWE) (defBody sWE) (defScope sWE) .none kVI dcI pmI anI cdI ctI), slI⟩)
    (cI : PySem.W.codeIn K cdI "WebError.__init__" = true)
    (kI : PySem.W.keepIn K (.ref fI) = true)
    (tI : PySem.W.typeIn K (.ref fI) = some (.type "function"))
    (hn : PySem.W.specialIn K (.builtin "object.__class__") "__get__" = some (some (.builtin "getset_descriptor.__get__")))
    (ht : PySem.W.takesIn K (.builtin "object.__class__") = some true)
    (pgCW : PySem.W.plainGet K CW Str.empty = true)
    (hdCW : PySem.W.hasDictIn K CW = true)
    (poCW : PySem.W.plainOver K CW = true)
    (saCW : PySem.W.findIn K (.ref CW) "__setattr__" = some (some (.builtin "object.__setattr__")))
    (mkCW : PySem.W.makesIn K CW = true)
    (kcCW : PySem.W.keepIn K (.ref CW) = true)
    (haCW : PySem.W.findIn K (.ref CW) "__class__" = some (some (.builtin "object.__class__")))
    (hmCW : PySem.W.mroIn K CW (.type "object") = some true)
    (icCW : PySem.W.isClsIn K CW = true)
    (tcCW : PySem.W.typeIn K (.ref CW) = some (.type "type"))
    (scCW : PySem.W.subIn K (.ref CW) (.ref CW) = some true)
    (nCWmany : PySem.W.findIn K (.ref CW) "many" = some none)
    (nCWarrows : PySem.W.findIn K (.ref CW) "arrows" = some none)
    (vMOST_PLACES : PySem.W.nsIn K mainGlobals "MOST_PLACES" = some (some (.int 8 tMOST_PLACES)))
    (vMOST_ARROWS : PySem.W.nsIn K mainGlobals "MOST_ARROWS" = some (some (.int 12 tMOST_ARROWS)))
    (vMOST_ITEM : PySem.W.nsIn K mainGlobals "MOST_ITEM" = some (some (.int 1000 tMOST_ITEM)))
    (xLCN : K.lookup CN = some (excClassObj nmCN qCN CN NCN bsCN bmCN true snCN subCN abCN colCN ddCN m0CN m1CN m2CN m3CN m5CN "ValueError.__new__"))
    (xbCN : PySem.HandSPX.refsVE bmCN = true)
    (seCN : PySem.W.findIn K (.ref CN) "__setattr__" = some (some (.builtin "object.__setattr__")))
    (keCN : PySem.W.keepIn K (.ref CN) = true)
    (heCN : PySem.W.hasDictIn K CN = true)
    (gaCN : PySem.W.findIn K (.ref CN) "__getattribute__" = some (some (.builtin "BaseException.__getattribute__")))
    (ggCN : PySem.W.findIn K (.ref CN) "__getattr__" = some none)
    (hxCN : PySem.W.findIn K (.ref CN) "__class__" = some (some (.builtin "object.__class__")))
    (myCN : PySem.W.mroIn K CN (.type "object") = some true)
    (exCN : PySem.W.subIn K (.ref CN) (.type "BaseException") = some true)
    (ieCN : PySem.W.isClsIn K CN = true)
    (teCN : PySem.W.typeIn K (.ref CN) = some (.type "type"))
    (ssCN : PySem.W.subIn K (.ref CN) (.ref CN) = some true)
    (exCE : PySem.W.subIn K (.ref CE) (.type "BaseException") = some true)
    (ieCE : PySem.W.isClsIn K CE = true)
    (teCE : PySem.W.typeIn K (.ref CE) = some (.type "type"))
    (ssCE : PySem.W.subIn K (.ref CE) (.ref CE) = some true)
    (sNE : PySem.W.subIn K (.ref CN) (.ref CE) = some true)
    (sNV : PySem.W.subIn K (.ref CN) (.type "ValueError") = some true)
    (zlen : PySem.W.nsIn K mainGlobals "len" = some none)
    (zint : PySem.W.nsIn K mainGlobals "int" = some none)
    (zbool : PySem.W.nsIn K mainGlobals "bool" = some none)
    (zisinstance : PySem.W.nsIn K mainGlobals "isinstance" = some none)
    (ztuple : PySem.W.nsIn K mainGlobals "tuple" = some none)
    (zall : PySem.W.nsIn K mainGlobals "all" = some none)
    (zenumerate : PySem.W.nsIn K mainGlobals "enumerate" = some none)
    (zlist : PySem.W.nsIn K mainGlobals "list" = some none)
    (zrange : PySem.W.nsIn K mainGlobals "range" = some none)
    (zmin : PySem.W.nsIn K mainGlobals "min" = some none)
    (zmax : PySem.W.nsIn K mainGlobals "max" = some none)
    (zsorted : PySem.W.nsIn K mainGlobals "sorted" = some none)
    (zset : PySem.W.nsIn K mainGlobals "set" = some none)
    (zstr : PySem.W.nsIn K mainGlobals "str" = some none)
    (zabs : PySem.W.nsIn K mainGlobals "abs" = some none)
    (zValueError : PySem.W.nsIn K mainGlobals "ValueError" = some none)
    (zsum : PySem.W.nsIn K mainGlobals "sum" = some none)
    (zany : PySem.W.nsIn K mainGlobals "any" = some none)
    (zzip : PySem.W.nsIn K mainGlobals "zip" = some none)
    (hP : h.get? PL = some { cls := .none, data := .fields #[] })
    (nP : K.lookup PL = none)
    (hC : PySem.W.codeHdIn K cL PL = true) :
    LawAtS l w K CX0 11 63 "script" mg fa h := by
  have e := hfa.symm.trans (PySem.W.mg_of X G a46)
  cases e
  have F1 := fun_mk (st := sInteger) l1 c1 k1
  have b1 := F1.binds (ps := ["thing"]) fun _ _ _ _ _ _ us hl => match us, hl with | [_], _ => rfl
  have F2 := fun_mk (st := sNumber) l2 c2 k2
  have b2 := F2.binds (ps := ["most", "thing"]) fun _ _ _ _ _ _ us hl => match us, hl with | [_, _], _ => rfl
  have F9 := fun_mk (st := sUnit) l9 c9 k9
  have b9 := F9.binds (ps := ["size"]) fun _ _ _ _ _ _ us hl => match us, hl with | [_], _ => rfl
  have F14 := fun_mk (st := sArrow) l14 c14 k14
  have b14 := F14.binds (ps := ["many", "thing"]) fun _ _ _ _ _ _ us hl => match us, hl with | [_, _], _ => rfl
  have F15 := fun_mk (st := sParts) l15 c15 k15
  have b15 := F15.binds (ps := ["web"]) fun _ _ _ _ _ _ us hl => match us, hl with | [_], _ => rfl
  have F18 := fun_mk (st := sRow) l18 c18 k18
  have b18 := F18.binds (ps := ["web", "thing"]) fun _ _ _ _ _ _ us hl => match us, hl with | [_, _], _ => rfl
  have F19 := fun_mk (st := sEul) l19 c19 k19
  have b19 := F19.binds (ps := ["web", "one", "other"]) fun _ _ _ _ _ _ us hl => match us, hl with | [_, _, _], _ => rfl
  have F20 := fun_mk (st := sForm) l20 c20 k20
  have b20 := F20.binds (ps := ["web", "row"]) fun _ _ _ _ _ _ us hl => match us, hl with | [_, _], _ => rfl
  have F21 := fun_mk (st := sOther) l21 c21 k21
  have b21 := F21.binds (ps := ["web", "place"]) fun _ _ _ _ _ _ us hl => match us, hl with | [_, _], _ => rfl
  have F22 := fun_mk (st := sWayL) l22 c22 k22
  have b22 := F22.binds (ps := ["web", "start", "place"]) fun _ _ _ _ _ _ us hl => match us, hl with | [_, _, _], _ => rfl
  have F23 := fun_mk (st := sKindOf) l23 c23 k23
  have b23 := F23.binds (ps := ["web", "lot"]) fun _ _ _ _ _ _ us hl => match us, hl with | [_, _], _ => rfl
  have F24 := fun_mk (st := sKinds) l24 c24 k24
  have b24 := F24.binds (ps := ["web"]) fun _ _ _ _ _ _ us hl => match us, hl with | [_], _ => rfl
  have F25 := fun_mk (st := sLea) l25 c25 k25
  have b25 := F25.binds (ps := ["web"]) fun _ _ _ _ _ _ us hl => match us, hl with | [_], _ => rfl
  have F26 := fun_mk (st := sSur) l26 c26 k26
  have b26 := F26.binds (ps := ["web", "row", "place"]) fun _ _ _ _ _ _ us hl => match us, hl with | [_, _, _], _ => rfl
  have F27 := fun_mk (st := sRai) l27 c27 k27
  have b27 := F27.binds (ps := ["row", "place", "number"]) fun _ _ _ _ _ _ us hl => match us, hl with | [_, _, _], _ => rfl
  have F28 := fun_mk (st := sEnd) l28 c28 k28
  have b28 := F28.binds (ps := ["web"]) fun _ _ _ _ _ _ us hl => match us, hl with | [_], _ => rfl
  have F29 := fun_mk (st := sRows) l29 c29 k29
  have b29 := F29.binds (ps := ["web"]) fun _ _ _ _ _ _ us hl => match us, hl with | [_], _ => rfl
  have F31 := fun_mk (st := sPurse) l31 c31 k31
  have b31 := F31.binds (ps := ["script"]) fun _ _ _ _ _ _ us hl => match us, hl with | [_], _ => rfl
  have F32 := fun_mk (st := sDraw) l32 c32 k32
  have b32 := F32.binds (ps := ["purse", "many"]) fun _ _ _ _ _ _ us hl => match us, hl with | [_, _], _ => rfl
  have F33 := fun_mk (st := sAny) l33 c33 k33
  have b33 := F33.binds (ps := ["purse", "some"]) fun _ _ _ _ _ _ us hl => match us, hl with | [_, _], _ => rfl
  have F34 := fun_mk (st := sMixed) l34 c34 k34
  have b34 := F34.binds (ps := ["purse", "some"]) fun _ _ _ _ _ _ us hl => match us, hl with | [_, _], _ => rfl
  have F35 := fun_mk (st := sArms) l35 c35 k35
  have b35 := F35.binds (ps := ["kind", "many"]) fun _ _ _ _ _ _ us hl => match us, hl with | [_, _], _ => rfl
  have F36 := fun_mk (st := sWebOf) l36 c36 k36
  have b36 := F36.binds (ps := ["purse", "shapes"]) fun _ _ _ _ _ _ us hl => match us, hl with | [_, _], _ => rfl
  have F37 := fun_mk (st := sAnyW) l37 c37 k37
  have b37 := F37.binds (ps := ["purse"]) fun _ _ _ _ _ _ us hl => match us, hl with | [_], _ => rfl
  have F38 := fun_mk (st := sHung) l38 c38 k38
  have b38 := F38.binds (ps := ["many", "arrows"]) fun _ _ _ _ _ _ us hl => match us, hl with | [_, _], _ => rfl
  have F39 := fun_mk (st := sWay) l39 c39 k39
  have b39 := F39.binds (ps := ["near", "center", "first"]) fun _ _ _ _ _ _ us hl => match us, hl with | [_, _, _], _ => rfl
  have F40 := fun_mk (st := sKind) l40 c40 k40
  have b40 := F40.binds (ps := ["lot", "arrows"]) fun _ _ _ _ _ _ us hl => match us, hl with | [_, _], _ => rfl
  have F41 := fun_mk (st := sFin) l41 c41 k41
  have b41 := F41.binds (ps := ["purse", "most"]) fun _ _ _ _ _ _ us hl => match us, hl with | [_, _], _ => rfl
  have F42 := fun_mk (st := sLEu) l42 c42 k42
  have b42 := F42.binds (ps := ["arrows", "one", "other"]) fun _ _ _ _ _ _ us hl => match us, hl with | [_, _, _], _ => rfl
  have F43 := fun_mk (st := sRoo) l43 c43 k43
  have b43 := F43.binds (ps := ["many", "arrows"]) fun _ _ _ _ _ _ us hl => match us, hl with | [_, _], _ => rfl
  have F44 := fun_mk (st := sWord) l44 c44 k44
  have b44 := F44.binds (ps := ["call"]) fun _ _ _ _ _ _ us hl => match us, hl with | [_], _ => rfl
  have F45 := fun_mk (st := sSea) l45 c45 k45
  have b45 := F45.binds (ps := ["many", "arrows"]) fun _ _ _ _ _ _ us hl => match us, hl with | [_, _], _ => rfl
  have F46 := fun_mk (st := sLaw) l46 c46 k46
  have b46 := F46.binds (ps := ["script"]) fun _ _ _ _ _ _ us hl => match us, hl with | [_], _ => rfl
  have FW := fun_mk (st := sWebI) lW cW kW
  have bW := FW.binds (ps := ["self", "many", "arrows"]) fun _ _ _ _ _ _ us hl => match us, hl with | [_, _, _], _ => rfl
  have FI := fun_mk (st := sWE) lI cI kI
  have bI := FI.binds (ps := ["self"]) fun _ _ _ _ _ _ us hl => match us, hl with | [_], _ => rfl
  have nn : ∀ {x : Str}, PySem.W.nsIn K mainGlobals x = some none → mg x = none := fun z => PySem.W.mg_none_of X G z
  have T : Gb mg := ⟨nn zlen, nn zint, nn zbool, nn zisinstance, nn ztuple, nn zall, nn zenumerate, nn zlist, nn zrange, nn zmin, nn zmax, nn zsorted, nn zset, nn zstr, nn zabs, nn zValueError⟩
  have nA : mg "any" = none := nn zany
  have sm : mg "sum" = none := nn zsum
  have M : FormC mg := ⟨⟨tMOST_ITEM, PySem.W.mg_of X G vMOST_ITEM⟩, nn zsum, nn zzip⟩
  have W : WebC K mg CW := ⟨⟨pgCW, hdCW, poCW, saCW⟩, nCWmany, nCWarrows, PySem.W.mg_of X G gCW, ⟨tMOST_PLACES, PySem.W.mg_of X G vMOST_PLACES⟩, ⟨tMOST_ARROWS, PySem.W.mg_of X G vMOST_ARROWS⟩⟩
  have MW : Mk K CW fW := ⟨mkCW, aW, iW, kcCW⟩
  have N : ErrC K mg "Endless" CN fI := ⟨⟨⟨nmCN, qCN, NCN, bsCN, bmCN, snCN, subCN, abCN, colCN, ddCN, m0CN, m1CN, m2CN, m3CN, m5CN, xLCN, xbCN⟩, seCN, exCN, teCN, keCN⟩, aI, tI, PySem.W.mg_of X G gCN, ⟨ieCN, gaCN, ggCN, exCN, hxCN, hn, ht, myCN⟩⟩
  have WC : WordC K mg CN CE fI := ⟨N, PySem.W.mg_of X G gCE, exm_ref exCE ieCE teCE sNE, kit_tyc (by decide +kernel) sNV⟩
  refine ⟨PySem.W.fnOf "law" "law" (defArgs sLaw) (defBody sLaw) (defScope sLaw) .none kV46 dc46 pm46 an46 (.ref cL) ct46, [(cL, PL)], spLaw K PL, fun p hp => by rw [List.mem_singleton.mp hp]; exact hP, fun p hp => by rw [List.mem_singleton.mp hp]; exact nP, fun p hp => by rw [List.mem_singleton.mp hp]; exact PySem.W.codeHd_of_K X hC, fun s v => .of_eq rfl, fun H a ns hl _ hT hS => ⟨a, ns, rfl, hS, hl, hT _ (List.mem_singleton.mpr rfl), fun _ => rfl⟩, fun base _ _ hTB => ?_⟩
  have TB := hTB (cL, PL) (List.mem_singleton.mpr rfl)
  have GI : FnOk l.prog w K mg base CX0 1 fI _ ["self"] spF0 := ok_we FI
  have cInt : Cal l.prog w K mg base 1 "is_integer" (spInteger K) [] := ⟨⟨f1, _, _, [], ok_integer F1 T, PySem.W.mg_of X G a1, k1, b1, .nil⟩⟩
  have cNum : Cal l.prog w K mg base 2 "is_number" (spNumber K) [] := ⟨⟨f2, _, _, [], ok_number F2 cInt, PySem.W.mg_of X G a2, k2, b2, .nil⟩⟩
  have cArr : Cal l.prog w K mg base 3 "is_arrow" (spArrow K) [] := ⟨⟨f14, _, _, [], ok_arrow F14 T cNum, PySem.W.mg_of X G a14, k14, b14, .nil⟩⟩
  have GW : FnOk l.prog w K mg base CX0 4 fW _ ["self", "many", "arrows"] (spWebR CW) := ok_webR FW T W cNum cArr
  have cUn : Cal l.prog w K mg base 1 "unit_rows" spUnit [] := ⟨⟨f9, _, _, [], ok_unit F9 T, PySem.W.mg_of X G a9, k9, b9, .nil⟩⟩
  have cPa : Cal l.prog w K mg base 1 "parts" (spParts CW) [] := ⟨⟨f15, _, _, [], ok_parts F15 T W, PySem.W.mg_of X G a15, k15, b15, .nil⟩⟩
  have cOE : Cal l.prog w K mg base 1 "other_ends" (spOther CW) [] := ⟨⟨f21, _, _, [], ok_other F21 T W, PySem.W.mg_of X G a21, k21, b21, .nil⟩⟩
  have cWL : Cal l.prog w K mg base 2 "way_length" (spWayL CW) [] := ⟨⟨f22, _, _, [], ok_wayL F22 T cOE, PySem.W.mg_of X G a22, k22, b22, .nil⟩⟩
  have cKO : Cal l.prog w K mg base 3 "kind_of" (spKindOf CW) [] := ⟨⟨f23, _, _, [], ok_kindOf F23 T sm cOE cWL, PySem.W.mg_of X G a23, k23, b23, .nil⟩⟩
  have cKs : Cal l.prog w K mg base 4 "kinds" (spKinds CW) [] := ⟨⟨f24, _, _, [], ok_kinds F24 T cPa cKO, PySem.W.mg_of X G a24, k24, b24, .nil⟩⟩
  have cRo : Cal l.prog w K mg base 2 "is_row" (spRow CW) [] := ⟨⟨f18, _, _, [], ok_row F18 T W M cInt, PySem.W.mg_of X G a18, k18, b18, .nil⟩⟩
  have cEu : Cal l.prog w K mg base 3 "euler" (spEul CW) [] := ⟨⟨f19, _, _, [], ok_eul F19 T W M cRo, PySem.W.mg_of X G a19, k19, b19, .nil⟩⟩
  have cFo : Cal l.prog w K mg base 4 "form" (spForm CW) [] := ⟨⟨f20, _, _, [], ok_form F20 cEu, PySem.W.mg_of X G a20, k20, b20, .nil⟩⟩
  have cLe : Cal l.prog w K mg base 6 "least_endless" (spLea CW) [] := ⟨⟨f25, _, _, [], ok_lea F25 T W cKs MW GW bW, PySem.W.mg_of X G a25, k25, b25, .nil⟩⟩
  have cSu : Cal l.prog w K mg base 2 "surplus" (spSur CW) [] := ⟨⟨f26, _, _, [], ok_sur F26 T sm cOE, PySem.W.mg_of X G a26, k26, b26, .nil⟩⟩
  have cRa : Cal l.prog w K mg base 1 "raised" spRai [] := ⟨⟨f27, _, _, [], ok_rai F27, PySem.W.mg_of X G a27, k27, b27, .nil⟩⟩
  have cEn : Cal l.prog w K mg base 7 "endless" (spEnd CW) [] := ⟨⟨f28, _, _, [], ok_end F28 T nA W cKs cLe cUn cSu cRa, PySem.W.mg_of X G a28, k28, b28, .nil⟩⟩
  have cPu : Cal l.prog w K mg base 1 "_law_purse" (spPurse K) [] := ⟨⟨f31, _, _, [], ok_purse F31 T, PySem.W.mg_of X G a31, k31, b31, .nil⟩⟩
  have cD : Cal l.prog w K mg base 1 "_law_part" spDraw [] := ⟨⟨f32, _, _, [], ok_draw F32 ⟨T.len, T.int⟩, PySem.W.mg_of X G a32, k32, b32, .nil⟩⟩
  have cOn : Cal l.prog w K mg base 2 "_law_one" spAny [] := ⟨⟨f33, _, _, [], ok_any F33 T cD, PySem.W.mg_of X G a33, k33, b33, .nil⟩⟩
  have cX : Cal l.prog w K mg base 2 "_law_mixed" spMixed [] := ⟨⟨f34, _, _, [], ok_mixed F34 T cD, PySem.W.mg_of X G a34, k34, b34, .nil⟩⟩
  have cAr : Cal l.prog w K mg base 1 "_law_arms" spArms [] := ⟨⟨f35, _, _, [], ok_arms F35 T, PySem.W.mg_of X G a35, k35, b35, .nil⟩⟩
  have cWO : Cal l.prog w K mg base 3 "_law_web_of" spWebOf [] := ⟨⟨f36, _, _, [], ok_webOf F36 T cD cX cAr, PySem.W.mg_of X G a36, k36, b36, .nil⟩⟩
  have cAW : Cal l.prog w K mg base 3 "_law_any_web" spAnyW [] := ⟨⟨f37, _, _, [], ok_anyW F37 T cD cX, PySem.W.mg_of X G a37, k37, b37, .nil⟩⟩
  have cHu : Cal l.prog w K mg base 1 "_law_hung" spHung [] := ⟨⟨f38, _, _, [], ok_hung F38 T, PySem.W.mg_of X G a38, k38, b38, .nil⟩⟩
  have cWy : Cal l.prog w K mg base 1 "_law_way" spWay [] := ⟨⟨f39, _, _, [], ok_way F39 T, PySem.W.mg_of X G a39, k39, b39, .nil⟩⟩
  have cKi : Cal l.prog w K mg base 2 "_law_kind" spKind [] := ⟨⟨f40, _, _, [], ok_kind F40 T nA cWy, PySem.W.mg_of X G a40, k40, b40, .nil⟩⟩
  have cFi : Cal l.prog w K mg base 4 "_law_finite" spFin [] := ⟨⟨f41, _, _, [], ok_fin F41 T cD cOn cWO, PySem.W.mg_of X G a41, k41, b41, .nil⟩⟩
  have cLE : Cal l.prog w K mg base 1 "_law_euler" spLEu [] := ⟨⟨f42, _, _, [], ok_leu F42 T M, PySem.W.mg_of X G a42, k42, b42, .nil⟩⟩
  have cRt : Cal l.prog w K mg base 2 "_law_roots" spRoo [] := ⟨⟨f43, _, _, [], ok_roo F43 T sm, PySem.W.mg_of X G a43, k43, b43, .nil⟩⟩
  have cSe : Cal l.prog w K mg base 3 "_law_searched" spSea [] := ⟨⟨f45, _, _, [], ok_sea F45 T cLE, PySem.W.mg_of X G a45, k45, b45, .nil⟩⟩
  have GR : FnOk l.prog w K mg base (L2.CX l.prog w) 8 f29 _ ["web"] (spRows K CW CN) := ok_rows F29 T W N GI bI cEn cUn cSu cRa
  exact ok_law l46 c46 TB T W WC cPu cFi cOn cSe cRt cFo cAW cKi cHu MW GW bW GR (PySem.W.mg_of X G a29) k29 b29 l44 c44 (PySem.W.mg_of X G a44) k44 b44
theorem walk {l : PySem.W.OpenLaw} {q : Program} {loose : List Str} {XP : (Str → Option Value) → Heap → Prop} {YP : World → Heap → Prop} {d : DefRec} {K : Params → PySem.W.Frag} (hn : l.most = some 63) (hdf : d.params.defaults = []) (hY : ∀ (w : World) (h : Heap), YP w h → (K w.params).In h)
    (F : ∀ (w : World) (mg : Str → Option Value) (fa : Addr) (h : Heap), YP w h → (K w.params).In h → h.Ns mainGlobals mg → mg d.name = some (.ref fa) → LawAtS l w (K w.params) CX0 11 63 "script" mg fa h) :
    PySem.W.WalkO q loose XP YP l.row.toRowW d [] (fun f vs => PySem.call f vs) :=
  walk_ofTs (n := 63) (k := 11) (x := "script") (CX := fun _ => CX0) hn (by decide) hdf ⟨rfl, by decide, by decide⟩ hY F fun _ _ _ _ _ z => z
end R23

set_option Elab.async false
set_option linter.all false
open PySem PySem.W PyProof.Rows
set_option maxRecDepth 100000 in
set_option maxHeartbeats 0 in
theorem PySem.Challenge.cw_mapwebs_k23_whole_rows_of_finite_webs_holds : PySem.Challenge.rw_mapwebs_k23_whole_rows_of_finite_webs.Holds := by
  w_on; o_law; k_head; (case hw => w_witness2)
  k_fill
  refine R23.walk (l := PySem.Challenge.rw_mapwebs_k23_whole_rows_of_finite_webs) rfl rfl (fun w h Y => PySem.W.km_in_of Y) ?F
  case F =>
    intro w mg fa h Y KX G hmg
    have hT := PySem.W.km_tabs_of Y
    refine' R23.all_mk KX G hmg ?gCW ?gCN ?gCE ?a1 ?l1 ?c1 ?k1 ?a2 ?l2 ?c2 ?k2 ?a9 ?l9 ?c9 ?k9 ?a14 ?l14 ?c14 ?k14 ?a15 ?l15 ?c15 ?k15 ?a18 ?l18 ?c18 ?k18 ?a19 ?l19 ?c19 ?k19 ?a20 ?l20 ?c20 ?k20 ?a21 ?l21 ?c21 ?k21 ?a22 ?l22 ?c22 ?k22 ?a23 ?l23 ?c23 ?k23 ?a24 ?l24 ?c24 ?k24 ?a25 ?l25 ?c25 ?k25 ?a26 ?l26 ?c26 ?k26 ?a27 ?l27 ?c27 ?k27 ?a28 ?l28 ?c28 ?k28 ?a29 ?l29 ?c29 ?k29 ?a31 ?l31 ?c31 ?k31 ?a32 ?l32 ?c32 ?k32 ?a33 ?l33 ?c33 ?k33 ?a34 ?l34 ?c34 ?k34 ?a35 ?l35 ?c35 ?k35 ?a36 ?l36 ?c36 ?k36 ?a37 ?l37 ?c37 ?k37 ?a38 ?l38 ?c38 ?k38 ?a39 ?l39 ?c39 ?k39 ?a40 ?l40 ?c40 ?k40 ?a41 ?l41 ?c41 ?k41 ?a42 ?l42 ?c42 ?k42 ?a43 ?l43 ?c43 ?k43 ?a44 ?l44 ?c44 ?k44 ?a45 ?l45 ?c45 ?k45 ?a46 ?l46 ?c46 ?k46 ?aW ?iW ?lW ?cW ?kW ?tW ?aI ?iI ?lI ?cI ?kI ?tI ?hn ?ht ?pgCW ?hdCW ?poCW ?saCW ?mkCW ?kcCW ?haCW ?hmCW ?icCW ?tcCW ?scCW ?nCWmany ?nCWarrows ?vMOST_PLACES ?vMOST_ARROWS ?vMOST_ITEM ?xLCN ?xbCN ?seCN ?keCN ?heCN ?gaCN ?ggCN ?hxCN ?myCN ?exCN ?ieCN ?teCN ?ssCN ?exCE ?ieCE ?teCE ?ssCE ?sNE ?sNV ?zlen ?zint ?zbool ?zisinstance ?ztuple ?zall ?zenumerate ?zlist ?zrange ?zmin ?zmax ?zsorted ?zset ?zstr ?zabs ?zValueError ?zsum ?zany ?zzip ?hP ?nP ?hC
    (case gCW => k_is)
    (case gCN => k_is)
    (case gCE => k_is)
    (case a1 => k_is)
    (case l1 => k_is)
    (case c1 => k_is)
    (case k1 => k_is)
    (case a2 => k_is)
    (case l2 => k_is)
    (case c2 => k_is)
    (case k2 => k_is)
    (case a9 => k_is)
    (case l9 => k_is)
    (case c9 => k_is)
    (case k9 => k_is)
    (case a14 => k_is)
    (case l14 => k_is)
    (case c14 => k_is)
    (case k14 => k_is)
    (case a15 => k_is)
    (case l15 => k_is)
    (case c15 => k_is)
    (case k15 => k_is)
    (case a18 => k_is)
    (case l18 => k_is)
    (case c18 => k_is)
    (case k18 => k_is)
    (case a19 => k_is)
    (case l19 => k_is)
    (case c19 => k_is)
    (case k19 => k_is)
    (case a20 => k_is)
    (case l20 => k_is)
    (case c20 => k_is)
    (case k20 => k_is)
    (case a21 => k_is)
    (case l21 => k_is)
    (case c21 => k_is)
    (case k21 => k_is)
    (case a22 => k_is)
    (case l22 => k_is)
    (case c22 => k_is)
    (case k22 => k_is)
    (case a23 => k_is)
    (case l23 => k_is)
    (case c23 => k_is)
    (case k23 => k_is)
    (case a24 => k_is)
    (case l24 => k_is)
    (case c24 => k_is)
    (case k24 => k_is)
    (case a25 => k_is)
    (case l25 => k_is)
    (case c25 => k_is)
    (case k25 => k_is)
    (case a26 => k_is)
    (case l26 => k_is)
    (case c26 => k_is)
    (case k26 => k_is)
    (case a27 => k_is)
    (case l27 => k_is)
    (case c27 => k_is)
    (case k27 => k_is)
    (case a28 => k_is)
    (case l28 => k_is)
    (case c28 => k_is)
    (case k28 => k_is)
    (case a29 => k_is)
    (case l29 => k_is)
    (case c29 => k_is)
    (case k29 => k_is)
    (case a31 => k_is)
    (case l31 => k_is)
    (case c31 => k_is)
    (case k31 => k_is)
    (case a32 => k_is)
    (case l32 => k_is)
    (case c32 => k_is)
    (case k32 => k_is)
    (case a33 => k_is)
    (case l33 => k_is)
    (case c33 => k_is)
    (case k33 => k_is)
    (case a34 => k_is)
    (case l34 => k_is)
    (case c34 => k_is)
    (case k34 => k_is)
    (case a35 => k_is)
    (case l35 => k_is)
    (case c35 => k_is)
    (case k35 => k_is)
    (case a36 => k_is)
    (case l36 => k_is)
    (case c36 => k_is)
    (case k36 => k_is)
    (case a37 => k_is)
    (case l37 => k_is)
    (case c37 => k_is)
    (case k37 => k_is)
    (case a38 => k_is)
    (case l38 => k_is)
    (case c38 => k_is)
    (case k38 => k_is)
    (case a39 => k_is)
    (case l39 => k_is)
    (case c39 => k_is)
    (case k39 => k_is)
    (case a40 => k_is)
    (case l40 => k_is)
    (case c40 => k_is)
    (case k40 => k_is)
    (case a41 => k_is)
    (case l41 => k_is)
    (case c41 => k_is)
    (case k41 => k_is)
    (case a42 => k_is)
    (case l42 => k_is)
    (case c42 => k_is)
    (case k42 => k_is)
    (case a43 => k_is)
    (case l43 => k_is)
    (case c43 => k_is)
    (case k43 => k_is)
    (case a44 => k_is)
    (case l44 => k_is)
    (case c44 => k_is)
    (case k44 => k_is)
    (case a45 => k_is)
    (case l45 => k_is)
    (case c45 => k_is)
    (case k45 => k_is)
    (case a46 => k_is)
    (case l46 => k_is)
    (case c46 => k_is)
    (case k46 => k_is)
    (case aW => k_is)
    (case iW => k_is)
    (case lW => k_is)
    (case cW => k_is)
    (case kW => k_is)
    (case tW => k_is)
    (case aI => k_is)
    (case iI => k_is)
    (case lI => k_is)
    (case cI => k_is)
    (case kI => k_is)
    (case tI => k_is)
    (case hn => k_is)
    (case ht => k_is)
    (case pgCW => k_is)
    (case hdCW => k_is)
    (case poCW => k_is)
    (case saCW => k_is)
    (case mkCW => k_is)
    (case kcCW => k_is)
    (case haCW => k_is)
    (case hmCW => k_is)
    (case icCW => k_is)
    (case tcCW => k_is)
    (case scCW => first | rfl | k_is)
    (case nCWmany => k_is)
    (case nCWarrows => k_is)
    (case vMOST_PLACES => k_is)
    (case vMOST_ARROWS => k_is)
    (case vMOST_ITEM => k_is)
    (case xLCN => k_is)
    (case xbCN => decide +kernel)
    (case seCN => k_is)
    (case keCN => k_is)
    (case heCN => k_is)
    (case gaCN => k_is)
    (case ggCN => k_is)
    (case hxCN => k_is)
    (case myCN => k_is)
    (case exCN => k_is)
    (case ieCN => k_is)
    (case teCN => k_is)
    (case ssCN => first | rfl | k_is)
    (case exCE => k_is)
    (case ieCE => k_is)
    (case teCE => k_is)
    (case ssCE => first | rfl | k_is)
    (case sNE => k_is)
    (case sNV => k_is)
    (case zlen => k_is)
    (case zint => k_is)
    (case zbool => k_is)
    (case zisinstance => k_is)
    (case ztuple => k_is)
    (case zall => k_is)
    (case zenumerate => k_is)
    (case zlist => k_is)
    (case zrange => k_is)
    (case zmin => k_is)
    (case zmax => k_is)
    (case zsorted => k_is)
    (case zset => k_is)
    (case zstr => k_is)
    (case zabs => k_is)
    (case zValueError => k_is)
    (case zsum => k_is)
    (case zany => k_is)
    (case zzip => k_is)
    (case hP => exact hT _ (List.Mem.head _))
    (case nP => first | rfl | decide +kernel | k_is)
    (case hC => first | kernel_rfl | rfl | k_is)
