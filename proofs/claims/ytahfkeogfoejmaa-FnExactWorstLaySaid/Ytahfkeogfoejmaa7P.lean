/- The plain mathematics of ropes (chapter 7). -/
import Derived.Test.Ytahfkeogfoejmaa6P
namespace Go.Proofs.Ytahfkeogfoejmaa
open Go.RowKit
set_option linter.unusedVariables false

/-- A valid rope. -/
def RV (xs : List Int) : Prop := xs.length ≤ 24 ∧ ∀ i, i < xs.length → 0 ≤ nth xs i ∧ nth xs i ≤ 9
noncomputable def rvB (xs : List Int) : Bool := tr (RV xs)
theorem rvB_t {xs : List Int} (h : RV xs) : rvB xs = true := tr_true h
theorem rvB_f {xs : List Int} (h : ¬ RV xs) : rvB xs = false := tr_false h
theorem rvB_iff {xs : List Int} : rvB xs = true ↔ RV xs := by unfold rvB tr; exact @decide_eq_true_iff _ (Classical.propDecidable _)
theorem RV.take {xs : List Int} (h : RV xs) (n : Nat) : RV (xs.take n) :=
  ⟨by have := h.1; simp; omega, fun i hi => by
    have hi2 : i < n ∧ i < xs.length := by simp at hi; omega
    rw [nth_take xs hi2.1]; exact h.2 i hi2.2⟩
theorem RV.drop {xs : List Int} (h : RV xs) (n : Nat) : RV (xs.drop n) :=
  ⟨by have := h.1; simp; omega, fun i hi => by
    have hi2 : n + i < xs.length := by simp at hi; omega
    rw [nth_drop]; exact h.2 _ hi2⟩
theorem sm_mono {xs : List Int} (h : ∀ i, i < xs.length → 0 ≤ nth xs i) : ∀ k j, j ≤ k → k ≤ xs.length → sm xs j ≤ sm xs k := by
  intro k
  induction k with
  | zero => intro j hj _; obtain rfl : j = 0 := by omega
            exact Int.le_refl _
  | succ k ih =>
    intro j hj hk
    by_cases e : j = k + 1
    · subst e; exact Int.le_refl _
    · have := ih j (by omega) (by omega)
      have h2 := h k (by omega)
      show _ ≤ sm xs k + nth xs k
      omega
theorem RV.mono {xs : List Int} (h : RV xs) : ∀ k j, j ≤ k → k ≤ xs.length → sm xs j ≤ sm xs k := sm_mono fun i hi => (h.2 i hi).1
theorem RV.bd {xs : List Int} (h : RV xs) (k : Nat) (hk : k ≤ xs.length) : 0 ≤ sm xs k ∧ sm xs k ≤ 216 := by
  have := sm_bd (xs := xs) (lo := 0) (hi := 9) k (fun i hi => h.2 i (by omega))
  have := h.1
  omega

/-- Places one behind the other: from k up to e, at most four. -/
def Win (xs : List Int) (k e : Nat) : Prop := k ≤ e ∧ e ≤ xs.length ∧ e ≤ k + 4
/-- `WorstLay`. -/
def WS (xs : List Int) (r : Int) : Prop := (RV xs ∧ (∃ k e, Win xs k e ∧ sm xs e - sm xs k = r) ∧ ∀ k e, Win xs k e → sm xs e - sm xs k ≤ r) ∨ (r = -1 ∧ ¬ RV xs)
noncomputable def wst (xs : List Int) : Int := the (WS xs)
theorem wst_eq {xs : List Int} {r : Int} (h : WS xs r) : wst xs = r := by
  refine the_eq h fun s hs => ?_
  rcases h with ⟨hv, ⟨k, e, hw, h1⟩, h2⟩ | ⟨rfl, hn⟩
  · rcases hs with ⟨_, ⟨k', e', hw', g1⟩, g2⟩ | ⟨rfl, hm⟩
    · have := h2 _ _ hw'; have := g2 _ _ hw; omega
    · exact absurd hv hm
  · rcases hs with ⟨hv, _⟩ | ⟨rfl, hm⟩
    · exact absurd hv hn
    · rfl
theorem wst_bad {xs : List Int} (h : ¬ RV xs) : wst xs = -1 := wst_eq (.inr ⟨rfl, h⟩)
/-- A greatest value of a function over the pairs up to a number that are meant. -/
theorem greatest_win (f : Nat → Nat → Int) (P : Nat → Nat → Prop) (n : Nat) (h0 : ∃ k e, k ≤ n ∧ e ≤ n ∧ P k e) : ∃ k e, (k ≤ n ∧ e ≤ n ∧ P k e) ∧ ∀ i j, i ≤ n → j ≤ n → P i j → f i j ≤ f k e := by
  have key : ∀ m : Nat, (∃ k e, k ≤ n ∧ e ≤ n ∧ P k e ∧ k * (n + 1) + e < m) → ∃ k e, (k ≤ n ∧ e ≤ n ∧ P k e) ∧ ∀ i j, i ≤ n → j ≤ n → P i j → i * (n + 1) + j < m → f i j ≤ f k e := by
    intro m
    induction m with
    | zero => rintro ⟨_, _, _, _, _, h⟩; omega
    | succ m ih =>
      rintro ⟨k0, e0, hk0, he0, hp0, hm0⟩
      by_cases g : ∃ k e, k ≤ n ∧ e ≤ n ∧ P k e ∧ k * (n + 1) + e < m
      · obtain ⟨k, e, hk, hall⟩ := ih g
        by_cases c : ∃ i j, i ≤ n ∧ j ≤ n ∧ P i j ∧ i * (n + 1) + j = m ∧ f k e < f i j
        · obtain ⟨i, j, hi, hj, hp, hm, hlt⟩ := c
          refine ⟨i, j, ⟨hi, hj, hp⟩, fun i' j' hi' hj' hp' hm' => ?_⟩
          by_cases e' : i' * (n + 1) + j' = m
          · have : i' = i := by
              have h1 : (i' * (n + 1) + j') / (n + 1) = i' := by rw [Nat.mul_comm, Nat.mul_add_div (by omega), Nat.div_eq_of_lt (by omega)]; omega
              have h2 : (i * (n + 1) + j) / (n + 1) = i := by rw [Nat.mul_comm, Nat.mul_add_div (by omega), Nat.div_eq_of_lt (by omega)]; omega
              rw [← h1, ← h2, e', hm]
            subst this
            obtain rfl : j' = j := by omega
            exact Int.le_refl _
          · have := hall i' j' hi' hj' hp' (by omega); omega
        · refine ⟨k, e, hk, fun i' j' hi' hj' hp' hm' => ?_⟩
          by_cases e' : i' * (n + 1) + j' = m
          · by_cases l : f k e < f i' j'
            · exact absurd ⟨i', j', hi', hj', hp', e', l⟩ c
            · omega
          · exact hall i' j' hi' hj' hp' (by omega)
      · refine ⟨k0, e0, ⟨hk0, he0, hp0⟩, fun i j hi hj hp hm => ?_⟩
        have hij : i * (n + 1) + j = m := by
          by_cases l : i * (n + 1) + j < m
          · exact absurd ⟨i, j, hi, hj, hp, l⟩ g
          · omega
        have hk0m : k0 * (n + 1) + e0 = m := by
          by_cases l : k0 * (n + 1) + e0 < m
          · exact absurd ⟨k0, e0, hk0, he0, hp0, l⟩ g
          · omega
        have : i = k0 := by
          have h1 : (i * (n + 1) + j) / (n + 1) = i := by rw [Nat.mul_comm, Nat.mul_add_div (by omega), Nat.div_eq_of_lt (by omega)]; omega
          have h2 : (k0 * (n + 1) + e0) / (n + 1) = k0 := by rw [Nat.mul_comm, Nat.mul_add_div (by omega), Nat.div_eq_of_lt (by omega)]; omega
          rw [← h1, ← h2, hij, hk0m]
        subst this
        obtain rfl : j = e0 := by omega
        exact Int.le_refl _
  obtain ⟨k, e, hk, he, hp⟩ := h0
  have hb : ∀ i j, i ≤ n → j ≤ n → i * (n + 1) + j < (n + 1) * (n + 1) := fun i j hi hj => by
    have : i * (n + 1) ≤ n * (n + 1) := Nat.mul_le_mul_right _ hi
    have e2 : (n + 1) * (n + 1) = n * (n + 1) + (n + 1) := by rw [Nat.add_mul, Nat.one_mul]
    omega
  obtain ⟨a, b, h1, h2⟩ := key ((n + 1) * (n + 1)) ⟨k, e, hk, he, hp, hb k e hk he⟩
  exact ⟨a, b, h1, fun i j hi hj hp => h2 i j hi hj hp (hb i j hi hj)⟩
theorem wst_ok {xs : List Int} (h : RV xs) : (∃ k e, Win xs k e ∧ sm xs e - sm xs k = wst xs) ∧ ∀ k e, Win xs k e → sm xs e - sm xs k ≤ wst xs := by
  obtain ⟨k, e, ⟨_, _, hw⟩, hall⟩ := greatest_win (fun k e => sm xs e - sm xs k) (Win xs) xs.length ⟨0, 0, by omega, by omega, by omega, by omega, by omega⟩
  have hw2 : ∀ i j, Win xs i j → sm xs j - sm xs i ≤ sm xs e - sm xs k := fun i j hij => hall i j (by have := hij.1; have := hij.2.1; omega) hij.2.1 hij
  have he : wst xs = sm xs e - sm xs k := wst_eq (.inl ⟨h, ⟨k, e, hw, rfl⟩, hw2⟩)
  rw [he]
  exact ⟨⟨k, e, hw, rfl⟩, hw2⟩
theorem wst_bd (xs : List Int) : -1 ≤ wst xs ∧ wst xs ≤ 36 := by
  by_cases h : RV xs
  · obtain ⟨⟨k, e, hw, h1⟩, h2⟩ := wst_ok h
    have h0 := h2 0 0 ⟨by omega, by omega, by omega⟩
    have hb : ∀ d, k + d ≤ xs.length → sm xs (k + d) - sm xs k ≤ 9 * d := by
      intro d
      induction d with
      | zero => intro _; show sm xs k - sm xs k ≤ 0; omega
      | succ d ih =>
        intro hd
        have := ih (by omega)
        have := h.2 (k + d) (by omega)
        show sm xs (k + d) + nth xs (k + d) - sm xs k ≤ 9 * ((d + 1 : Nat) : Int)
        omega
    obtain ⟨w1, w2, w3⟩ := hw
    obtain ⟨d, rfl⟩ : ∃ d, e = k + d := ⟨e - k, by omega⟩
    have := hb d w2
    omega
  · rw [wst_bad h]; omega
theorem wst_nn {xs : List Int} (h : RV xs) : 0 ≤ wst xs := by
  have := (wst_ok h).2 0 0 ⟨by omega, by omega, by omega⟩
  omega
theorem wst_neg {xs : List Int} (h : wst xs < 0) : wst xs = -1 ∧ ¬ RV xs := by
  have := wst_bd xs
  exact ⟨by omega, fun g => by have := wst_nn g; omega⟩
theorem wst_rv {xs : List Int} (h : ¬ wst xs < 0) : RV xs := Classical.byContradiction fun g => h (by rw [wst_bad g]; omega)
theorem wst_take {xs : List Int} (h : RV xs) (n : Nat) : wst (xs.take n) ≤ wst xs := by
  obtain ⟨⟨k, e, ⟨w1, w2, w3⟩, h1⟩, _⟩ := wst_ok (h.take n)
  have w4 : e ≤ n ∧ e ≤ xs.length := by simp at w2; omega
  rw [sm_take xs n e w4.1, sm_take xs n k (by omega)] at h1
  rw [← h1]
  exact (wst_ok h).2 k e ⟨w1, w4.2, w3⟩
theorem nth_rev (xs : List Int) {i : Nat} (h : i < xs.length) : nth xs.reverse i = nth xs (xs.length - 1 - i) := by
  unfold nth
  simp only [List.getD]
  rw [List.getElem?_reverse h]
theorem sm_rev (xs : List Int) : ∀ k, k ≤ xs.length → sm xs.reverse k = sm xs xs.length - sm xs (xs.length - k) := by
  intro k
  induction k with
  | zero => intro _; show (0 : Int) = sm xs xs.length - sm xs xs.length; omega
  | succ k ih =>
    intro hk
    have e : xs.length - k = (xs.length - (k + 1)) + 1 := by omega
    have e2 : xs.length - 1 - k = xs.length - (k + 1) := by omega
    have h2 := ih (by omega)
    rw [e] at h2
    show sm xs.reverse k + nth xs.reverse k = _
    rw [nth_rev xs (by omega), h2, e2]
    show _ - (sm xs (xs.length - (k + 1)) + nth xs (xs.length - (k + 1))) + _ = _
    omega
theorem RV.rev {xs : List Int} (h : RV xs) : RV xs.reverse :=
  ⟨by have := h.1; simp; omega, fun i hi => by
    have hi2 : i < xs.length := by simpa using hi
    rw [nth_rev xs hi2]; exact h.2 _ (by omega)⟩
theorem wst_rev {xs : List Int} (h : RV xs) : wst xs.reverse = wst xs := by
  obtain ⟨⟨k, e, ⟨w1, w2, w3⟩, h1⟩, h2⟩ := wst_ok h
  refine wst_eq (.inl ⟨h.rev, ⟨xs.length - e, xs.length - k, ⟨by omega, by simp, by omega⟩, ?_⟩, ?_⟩)
  · rw [sm_rev xs _ (by omega), sm_rev xs _ (by omega), show xs.length - (xs.length - k) = k by omega, show xs.length - (xs.length - e) = e by omega]
    omega
  · rintro i j ⟨v1, v2, v3⟩
    have v4 : j ≤ xs.length := by simpa using v2
    rw [sm_rev xs _ (by omega), sm_rev xs _ (by omega)]
    have := h2 (xs.length - j) (xs.length - i) ⟨by omega, by omega, by omega⟩
    omega
/-- With one more broken wire in one place. -/
theorem nth_put (xs : List Int) (k : Nat) (v : Int) (hk : k < xs.length) (i : Nat) : nth (xs.set k v) i = if i = k then v else nth xs i := by
  unfold nth
  simp only [List.getD, List.getElem?_set]
  by_cases e : k = i
  · subst e; simp [hk]
  · rw [if_neg e, if_neg (fun g => e g.symm)]
theorem RV.more {xs : List Int} (h : RV xs) {k : Nat} (hk : k < xs.length) (h9 : nth xs k + 1 ≤ 9) : RV (xs.set k (nth xs k + 1)) :=
  ⟨by simpa using h.1, fun i hi => by
    have hi2 : i < xs.length := by simpa using hi
    rw [nth_put xs k _ hk]
    have := h.2 i hi2
    split
    · have := h.2 k hk; omega
    · exact this⟩
theorem wst_more {xs : List Int} (h : RV xs) {k : Nat} (hk : k < xs.length) (h9 : nth xs k + 1 ≤ 9) : wst xs ≤ wst (xs.set k (nth xs k + 1)) := by
  have hs : ∀ i, sm (xs.set k (nth xs k + 1)) i = sm xs i + (if k < i then 1 else 0) := by
    intro i
    induction i with
    | zero => simp [sm]
    | succ i ih =>
      show sm _ i + nth _ i = (sm xs i + nth xs i) + _
      rw [ih, nth_put xs k _ hk]
      by_cases e : i = k
      · subst e; simp; omega
      · rw [if_neg e]
        by_cases l : k < i
        · rw [if_pos l, if_pos (by omega)]; omega
        · rw [if_neg l, if_neg (by omega)]; omega
  obtain ⟨⟨a, e, ⟨w1, w2, w3⟩, h1⟩, _⟩ := wst_ok h
  have := (wst_ok (h.more hk h9)).2 a e ⟨w1, by simpa using w2, w3⟩
  rw [hs, hs] at this
  rw [← h1]
  by_cases l : k < e
  · rw [if_pos l] at this; split at this <;> omega
  · rw [if_neg l, if_neg (by omega)] at this; omega

/-- `Discard`. -/
noncomputable def dcB (xs : List Int) (m : Int) : Bool := tr (RV xs ∧ m < wst xs)
theorem dcB_t {xs : List Int} {m : Int} (h : RV xs) (g : m < wst xs) : dcB xs m = true := tr_true ⟨h, g⟩
theorem dcB_f {xs : List Int} {m : Int} (g : ¬ m < wst xs) : dcB xs m = false := tr_false fun h => g h.2
theorem dcB_bad {xs : List Int} {m : Int} (h : ¬ RV xs) : dcB xs m = false := tr_false fun g => h g.1

/-- The arguments that are valid for `Holds`. -/
def HV (a b t m : Int) : Prop := (1 ≤ a ∧ a ≤ 200) ∧ (1 ≤ b ∧ b ≤ 200) ∧ (1 ≤ m ∧ m ≤ 200) ∧ (m ≤ t ∧ t ≤ 200)
def HD (a b t m : Int) : Prop := HV a b t m ∧ max a b * m ≤ min a b * t
noncomputable def hdB (a b t m : Int) : Bool := tr (HD a b t m)
theorem hdB_t {a b t m : Int} (h : HV a b t m) (g : max a b * m ≤ min a b * t) : hdB a b t m = true := tr_true ⟨h, g⟩
theorem hdB_f {a b t m : Int} (g : ¬ max a b * m ≤ min a b * t) : hdB a b t m = false := tr_false fun h => g h.2
theorem hdB_bad {a b t m : Int} (h : ¬ HV a b t m) : hdB a b t m = false := tr_false fun g => h g.1
theorem hdB_iff {a b t m : Int} : hdB a b t m = true ↔ HD a b t m := by unfold hdB tr; exact @decide_eq_true_iff _ (Classical.propDecidable _)
theorem mul_200 {x y : Int} (h : 0 ≤ x ∧ x ≤ 200) (k : 0 ≤ y ∧ y ≤ 200) : 0 ≤ x * y ∧ x * y ≤ 40000 := by
  refine ⟨Int.mul_nonneg h.1 k.1, ?_⟩
  have := Int.mul_le_mul h.2 k.2 k.1 (by omega : (0 : Int) ≤ 200)
  omega
theorem HV.bd {a b t m : Int} (h : HV a b t m) : (0 ≤ max a b * m ∧ max a b * m ≤ 40000) ∧ 0 ≤ min a b * t ∧ min a b * t ≤ 40000 := by
  obtain ⟨h1, h2, h3, h4⟩ := h
  exact ⟨mul_200 (by omega) (by omega), mul_200 (by omega) (by omega)⟩
theorem hdB_comm (a b t m : Int) : hdB b a t m = hdB a b t m := by
  unfold hdB
  refine tr_iff ⟨?_, ?_⟩
  · rintro ⟨⟨h1, h2, h3⟩, g⟩; exact ⟨⟨h2, h1, h3⟩, by rw [Int.max_comm, Int.min_comm]; exact g⟩
  · rintro ⟨⟨h1, h2, h3⟩, g⟩; exact ⟨⟨h2, h1, h3⟩, by rw [Int.max_comm, Int.min_comm]; exact g⟩
theorem hdB_same {a b t m : Int} (h : HV a b t m) : hdB a a t m = true := by
  obtain ⟨h1, h2, h3, h4⟩ := h
  refine hdB_t ⟨h1, h1, h3, h4⟩ ?_
  rw [Int.max_self, Int.min_self]
  exact Int.mul_le_mul_of_nonneg_left h4.1 (by omega)
theorem hdB_top {a b t m : Int} (h : HD a b t m) (ht : t ≠ 200) : hdB a b (t + 1) m = true := by
  obtain ⟨⟨h1, h2, h3, h4⟩, g⟩ := h
  refine hdB_t ⟨h1, h2, h3, by omega, by omega⟩ ?_
  rw [Int.mul_add]
  omega
theorem hdB_bottom {a b t m : Int} (h : HD a b t m) (hm : m ≠ 1) : hdB a b t (m - 1) = true := by
  obtain ⟨⟨h1, h2, h3, h4⟩, g⟩ := h
  refine hdB_t ⟨h1, h2, ⟨by omega, by omega⟩, by omega, by omega⟩ ?_
  rw [Int.mul_sub]
  omega

/-- `MostLoad`. -/
def MO (c t m r : Int) : Prop := ((1 ≤ c ∧ c ≤ 160) ∧ (-1 ≤ r ∧ r ≤ 40) ∧ (∀ l, 0 ≤ l → l ≤ r → hdB (c + l) (c + 20) t m = true) ∧ (r = 40 ∨ hdB (c + r + 1) (c + 20) t m = false)) ∨ (r = -1 ∧ ¬ (1 ≤ c ∧ c ≤ 160))
noncomputable def mo (c t m : Int) : Int := the (MO c t m)
theorem mo_eq {c t m r : Int} (h : MO c t m r) : mo c t m = r := by
  refine the_eq h fun s hs => ?_
  rcases h with ⟨hv, h1, h2, h3⟩ | ⟨rfl, hn⟩
  · rcases hs with ⟨_, g1, g2, g3⟩ | ⟨rfl, hm⟩
    · rcases Int.lt_trichotomy r s with l | l | l
      · rcases h3 with h3 | h3
        · omega
        · have := g2 (r + 1) (by omega) (by omega)
          rw [show c + (r + 1) = c + r + 1 by omega, h3] at this
          exact absurd this (by simp)
      · omega
      · rcases g3 with g3 | g3
        · omega
        · have := h2 (s + 1) (by omega) (by omega)
          rw [show c + (s + 1) = c + s + 1 by omega, g3] at this
          exact absurd this (by simp)
    · exact absurd hv hm
  · rcases hs with ⟨hv, _⟩ | ⟨rfl, hm⟩
    · exact absurd hv hn
    · rfl
theorem mo_bad {c t m : Int} (h : ¬ (1 ≤ c ∧ c ≤ 160)) : mo c t m = -1 := mo_eq (.inr ⟨rfl, h⟩)
theorem mo_ok {c t m : Int} (h : 1 ≤ c ∧ c ≤ 160) : (-1 ≤ mo c t m ∧ mo c t m ≤ 40) ∧ (∀ l, 0 ≤ l → l ≤ mo c t m → hdB (c + l) (c + 20) t m = true) ∧ (mo c t m = 40 ∨ hdB (c + mo c t m + 1) (c + 20) t m = false) := by
  have key : ∀ n : Nat, n ≤ 41 → ∃ r : Int, (-1 ≤ r ∧ r ≤ (n : Int) - 1) ∧ (∀ l, 0 ≤ l → l ≤ r → hdB (c + l) (c + 20) t m = true) ∧ (r = (n : Int) - 1 ∨ hdB (c + r + 1) (c + 20) t m = false) := by
    intro n
    induction n with
    | zero => intro _; exact ⟨-1, by omega, fun l h0 h1 => by omega, .inl (by omega)⟩
    | succ n ih =>
      intro hn
      obtain ⟨r, h1, h2, h3⟩ := ih (by omega)
      rcases h3 with h3 | h3
      · cases g : hdB (c + r + 1) (c + 20) t m
        · exact ⟨r, by omega, h2, .inr g⟩
        · refine ⟨r + 1, by omega, fun l h0 hl => ?_, .inl (by omega)⟩
          by_cases e : l = r + 1
          · subst e; rw [show c + (r + 1) = c + r + 1 by omega]; exact g
          · exact h2 l h0 (by omega)
      · exact ⟨r, by omega, h2, .inr h3⟩
  obtain ⟨r, h1, h2, h3⟩ := key 41 (by omega)
  have e : mo c t m = r := mo_eq (.inl ⟨h, by omega, h2, h3.imp (fun e => by omega) id⟩)
  rw [e]
  exact ⟨by omega, h2, h3.imp (fun e => by omega) id⟩
end Go.Proofs.Ytahfkeogfoejmaa
