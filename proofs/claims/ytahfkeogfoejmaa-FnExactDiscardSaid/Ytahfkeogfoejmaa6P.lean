/- The plain mathematics of loads (chapter 6). -/
import Derived.Test.YtahfkeogfoejmaaPre
namespace Go.Proofs.Ytahfkeogfoejmaa
open Go.RowKit
set_option linter.unusedVariables false

/-- The sum of the first n numbers of a list. -/
def sm (xs : List Int) : Nat → Int
  | 0 => 0
  | n + 1 => sm xs n + nth xs n
theorem sm_take (xs : List Int) (n : Nat) : ∀ k, k ≤ n → sm (xs.take n) k = sm xs k := by
  intro k
  induction k with
  | zero => intro _; rfl
  | succ k ih => intro hk; show sm _ k + nth _ k = sm _ k + nth _ k; rw [ih (by omega), nth_take xs (by omega)]
theorem sm_drop (xs : List Int) (n : Nat) : ∀ k, sm (xs.drop n) k = sm xs (n + k) - sm xs n := by
  intro k
  induction k with
  | zero => show (0 : Int) = sm xs n - sm xs n; omega
  | succ k ih => show sm _ k + nth _ k = (sm xs (n + k) + nth xs (n + k)) - sm xs n; rw [ih, nth_drop]; omega
theorem sm_bd {xs : List Int} {lo hi : Int} : ∀ k : Nat, (∀ i, i < k → lo ≤ nth xs i ∧ nth xs i ≤ hi) → lo * k ≤ sm xs k ∧ sm xs k ≤ hi * k := by
  intro k
  induction k with
  | zero => intro _; simp [sm]
  | succ k ih =>
    intro h
    have := ih (fun i hi => h i (by omega))
    have h2 := h k (by omega)
    have e1 : lo * ((k + 1 : Nat) : Int) = lo * k + lo := by rw [Int.natCast_add, Int.mul_add]; simp
    have e2 : hi * ((k + 1 : Nat) : Int) = hi * k + hi := by rw [Int.natCast_add, Int.mul_add]; simp
    rw [e1, e2]
    show _ ≤ sm xs k + nth xs k ∧ sm xs k + nth xs k ≤ _
    omega

/-- Weights that are valid for `LoadSum`. -/
def WV (xs : List Int) : Prop := xs.length ≤ 8 ∧ ∀ i, i < xs.length → 1 ≤ nth xs i ∧ nth xs i ≤ 40
theorem WV.sm {xs : List Int} (h : WV xs) : ∀ k, k ≤ xs.length → (k : Int) ≤ sm xs k ∧ sm xs k ≤ 40 * k := fun k hk => by
  have := sm_bd (xs := xs) (lo := 1) (hi := 40) k (fun i hi => h.2 i (by omega)); omega
theorem WV.up {xs : List Int} (h : WV xs) : ∀ k j, j ≤ k → k ≤ xs.length → Go.Proofs.Ytahfkeogfoejmaa.sm xs j + (k - j : Int) ≤ Go.Proofs.Ytahfkeogfoejmaa.sm xs k := by
  intro k
  induction k with
  | zero => intro j hj _; obtain rfl : j = 0 := by omega
            simp [Go.Proofs.Ytahfkeogfoejmaa.sm]
  | succ k ih =>
    intro j hj hk
    by_cases e : j = k + 1
    · subst e; omega
    · have := ih j (by omega) (by omega)
      have h2 := h.2 k (by omega)
      show _ ≤ Go.Proofs.Ytahfkeogfoejmaa.sm xs k + nth xs k
      omega
theorem WV.take {xs : List Int} (h : WV xs) (n : Nat) : WV (xs.take n) :=
  ⟨by have := h.1; simp; omega, fun i hi => by
    have hi2 : i < n ∧ i < xs.length := by simp at hi; omega
    rw [nth_take xs hi2.1]; exact h.2 i hi2.2⟩
theorem WV.drop {xs : List Int} (h : WV xs) (n : Nat) : WV (xs.drop n) :=
  ⟨by have := h.1; simp; omega, fun i hi => by
    have hi2 : n + i < xs.length := by simp at hi; omega
    rw [nth_drop]; exact h.2 _ hi2⟩
noncomputable def wvB (xs : List Int) : Bool := tr (WV xs)
theorem wvB_iff {xs : List Int} : wvB xs = true ↔ WV xs := by unfold wvB tr; exact @decide_eq_true_iff _ (Classical.propDecidable _)
/-- `LoadSum`. -/
noncomputable def ls (xs : List Int) : Int := if wvB xs = true then sm xs xs.length else -1
theorem ls_ok {xs : List Int} (h : WV xs) : ls xs = sm xs xs.length := by unfold ls; rw [if_pos (wvB_iff.2 h)]
theorem ls_bad {xs : List Int} (h : ¬ WV xs) : ls xs = -1 := by unfold ls; rw [if_neg (fun g => h (wvB_iff.1 g))]
theorem ls_bd (xs : List Int) : -1 ≤ ls xs ∧ ls xs ≤ 320 := by
  by_cases h : WV xs
  · rw [ls_ok h]; have := h.sm xs.length (Nat.le_refl _); have := h.1; omega
  · rw [ls_bad h]; omega
theorem ls_neg {xs : List Int} (h : ls xs < 0) : ls xs = -1 ∧ ¬ WV xs := by
  by_cases g : WV xs
  · have := ls_ok g; have := g.sm xs.length (Nat.le_refl _); omega
  · exact ⟨ls_bad g, g⟩
theorem ls_wv {xs : List Int} (h : ¬ ls xs < 0) : WV xs := Classical.byContradiction fun g => h (by rw [ls_bad g]; omega)
theorem ls_take {xs : List Int} (h : WV xs) {n : Nat} (hn : n ≤ xs.length) : ls (xs.take n) = sm xs n := by
  rw [ls_ok (h.take n), List.length_take, Nat.min_eq_left hn]; exact sm_take xs n n (Nat.le_refl _)
theorem ls_drop {xs : List Int} (h : WV xs) {n : Nat} (hn : n ≤ xs.length) : ls (xs.drop n) = sm xs xs.length - sm xs n := by
  rw [ls_ok (h.drop n), List.length_drop, sm_drop]; congr 2; omega
/-- `Overloaded`. -/
noncomputable def ovB (xs : List Int) : Bool := decide (40 < ls xs)
theorem ovB_t {xs : List Int} (h : 40 < ls xs) : ovB xs = true := decide_eq_true h
theorem ovB_f {xs : List Int} (h : ¬ 40 < ls xs) : ovB xs = false := decide_eq_false h
theorem ovB_take {xs : List Int} (h : WV xs) {n : Nat} (hn : n ≤ xs.length) : ovB (xs.take n) = decide (40 < sm xs n) := by unfold ovB; rw [ls_take h hn]
/-- `LoadFirst`. -/
def LF (xs : List Int) (r : Int) : Prop := (WV xs ∧ ∃ n : Nat, n ≤ xs.length ∧ r = n ∧ sm xs n ≤ 40 ∧ (n = xs.length ∨ 40 < sm xs (n + 1))) ∨ (r = -1 ∧ ¬ WV xs)
noncomputable def lf (xs : List Int) : Int := the (LF xs)
theorem lf_eq {xs : List Int} {r : Int} (h : LF xs r) : lf xs = r := by
  refine the_eq h fun s hs => ?_
  rcases h with ⟨hv, n, hn, rfl, h1, h2⟩ | ⟨rfl, hn⟩
  · rcases hs with ⟨_, m, hm, rfl, g1, g2⟩ | ⟨rfl, hm⟩
    · rcases Nat.lt_trichotomy m n with c | c | c
      · have := hv.up n (m + 1) (by omega) hn; omega
      · omega
      · have := hv.up m (n + 1) (by omega) hm; omega
    · exact absurd hv hm
  · rcases hs with ⟨hv, _⟩ | ⟨rfl, hm⟩
    · exact absurd hv hn
    · rfl
theorem lf_bad {xs : List Int} (h : ¬ WV xs) : lf xs = -1 := lf_eq (.inr ⟨rfl, h⟩)
theorem lf_ok {xs : List Int} (h : WV xs) : ∃ n : Nat, n ≤ xs.length ∧ lf xs = n ∧ sm xs n ≤ 40 ∧ (n = xs.length ∨ 40 < sm xs (n + 1)) := by
  have key : ∀ m : Nat, m ≤ xs.length → ∃ n : Nat, n ≤ m ∧ sm xs n ≤ 40 ∧ (n = m ∨ 40 < sm xs (n + 1)) := by
    intro m
    induction m with
    | zero => intro _; exact ⟨0, by omega, by simp [sm], .inl rfl⟩
    | succ m ih =>
      intro hm
      obtain ⟨n, hn, h1, h2⟩ := ih (by omega)
      rcases h2 with h2 | h2
      · subst h2
        by_cases c : sm xs (n + 1) ≤ 40
        · exact ⟨n + 1, by omega, c, .inl rfl⟩
        · exact ⟨n, by omega, h1, .inr (by omega)⟩
      · exact ⟨n, by omega, h1, .inr h2⟩
  obtain ⟨n, hn, h1, h2⟩ := key xs.length (Nat.le_refl _)
  exact ⟨n, hn, lf_eq (.inl ⟨h, n, hn, rfl, h1, h2⟩), h1, h2⟩

/-- The arguments that are valid for `TripWork`. -/
def TV (xs : List Int) (a b l : Int) : Prop := FV xs ∧ okF xs a ∧ okF xs b ∧ 0 ≤ l ∧ l ≤ 40
noncomputable def twB (xs : List Int) (a b l : Int) : Bool := tr (TV xs a b l)
theorem twB_t {xs : List Int} {a b l : Int} (h : TV xs a b l) : twB xs a b l = true := tr_true h
theorem twB_f {xs : List Int} {a b l : Int} (h : ¬ TV xs a b l) : twB xs a b l = false := tr_false h
theorem twB_iff {xs : List Int} {a b l : Int} : twB xs a b l = true ↔ TV xs a b l := by unfold twB tr; exact @decide_eq_true_iff _ (Classical.propDecidable _)
/-- `TripWork`. -/
noncomputable def tw (xs : List Int) (a b l : Int) : Int := if twB xs a b l = true then (l - 20) * (nth xs b.toNat - nth xs a.toNat) else 0
theorem tw_ok {xs : List Int} {a b l : Int} (h : TV xs a b l) : tw xs a b l = (l - 20) * (nth xs b.toNat - nth xs a.toNat) := by unfold tw; rw [if_pos (twB_t h)]
theorem tw_bad {xs : List Int} {a b l : Int} (h : ¬ TV xs a b l) : tw xs a b l = 0 := by unfold tw; rw [if_neg (fun g => h (twB_iff.1 g))]
theorem mul_bd {l d : Int} (h : -20 ≤ l ∧ l ≤ 20) (k : -60 ≤ d ∧ d ≤ 60) : -1200 ≤ l * d ∧ l * d ≤ 1200 := by
  have h1 : l.natAbs ≤ 20 := by omega
  have h2 : d.natAbs ≤ 60 := by omega
  have h3 : (l * d).natAbs ≤ 20 * 60 := by rw [Int.natAbs_mul]; exact Nat.mul_le_mul h1 h2
  omega
theorem TV.hb {xs : List Int} {a b l : Int} (h : TV xs a b l) : (0 ≤ nth xs a.toNat ∧ nth xs a.toNat ≤ 60) ∧ 0 ≤ nth xs b.toNat ∧ nth xs b.toNat ≤ 60 := by
  obtain ⟨hv, ⟨a0, a1⟩, ⟨b0, b1⟩, _⟩ := h
  exact ⟨⟨hv.ge _ (by omega), hv.le _ (by omega)⟩, hv.ge _ (by omega), hv.le _ (by omega)⟩
theorem tw_bd (xs : List Int) (a b l : Int) : -1200 ≤ tw xs a b l ∧ tw xs a b l ≤ 1200 := by
  by_cases h : TV xs a b l
  · rw [tw_ok h]; have := h.hb; have := h.2.2.2; exact mul_bd (by omega) (by omega)
  · rw [tw_bad h]; omega
theorem tw_back {xs : List Int} {a b l : Int} (h : TV xs a b l) : TV xs b a l ∧ tw xs b a l = -tw xs a b l := by
  have g : TV xs b a l := ⟨h.1, h.2.2.1, h.2.1, h.2.2.2⟩
  refine ⟨g, ?_⟩
  rw [tw_ok g, tw_ok h, ← Int.mul_neg]; congr 1; omega
theorem tw_half {xs : List Int} {a b l : Int} (h : TV xs a b l) : TV xs a b 20 ∧ tw xs a b 20 = 0 := by
  have g : TV xs a b 20 := ⟨h.1, h.2.1, h.2.2.1, by omega, by omega⟩
  refine ⟨g, ?_⟩
  rw [tw_ok g]; simp
theorem tw_other {xs : List Int} {a b l : Int} (h : TV xs a b l) : TV xs a b (40 - l) ∧ tw xs a b (40 - l) = -tw xs a b l := by
  have g : TV xs a b (40 - l) := ⟨h.1, h.2.1, h.2.2.1, by have := h.2.2.2; omega, by have := h.2.2.2; omega⟩
  refine ⟨g, ?_⟩
  rw [tw_ok g, tw_ok h, ← Int.neg_mul]; congr 1; omega

/-- The sum over the first n trips of a tour. -/
noncomputable def su (xs ss ls : List Int) : Nat → Int
  | 0 => 0
  | n + 1 => su xs ss ls n + tw xs (nth ss n) (nth ss (n + 1)) (nth ls n)
theorem su_bd (xs ss ls : List Int) : ∀ n : Nat, -1200 * (n : Int) ≤ su xs ss ls n ∧ su xs ss ls n ≤ 1200 * n := by
  intro n
  induction n with
  | zero => simp [su]
  | succ n ih => have := tw_bd xs (nth ss n) (nth ss (n + 1)) (nth ls n); show _ ≤ su xs ss ls n + _ ∧ su xs ss ls n + _ ≤ _; omega
/-- The arguments that are valid for `TourWork`. -/
def UV (xs ss ls : List Int) : Prop := ss.length = ls.length + 1 ∧ (FV xs ∧ okF xs (nth ss 0)) ∧ ∀ k, k < ls.length → TV xs (nth ss k) (nth ss (k + 1)) (nth ls k)
noncomputable def uvB (xs ss ls : List Int) : Bool := tr (UV xs ss ls)
theorem uvB_t {xs ss ls : List Int} (h : UV xs ss ls) : uvB xs ss ls = true := tr_true h
theorem uvB_f {xs ss ls : List Int} (h : ¬ UV xs ss ls) : uvB xs ss ls = false := tr_false h
theorem uvB_iff {xs ss ls : List Int} : uvB xs ss ls = true ↔ UV xs ss ls := by unfold uvB tr; exact @decide_eq_true_iff _ (Classical.propDecidable _)
/-- `TourWork`. -/
noncomputable def uw (xs ss ls : List Int) : Int := if uvB xs ss ls = true then su xs ss ls ls.length else 0
theorem uw_ok {xs ss ls : List Int} (h : UV xs ss ls) : uw xs ss ls = su xs ss ls ls.length := by unfold uw; rw [if_pos (uvB_t h)]
theorem uw_bad {xs ss ls : List Int} (h : ¬ UV xs ss ls) : uw xs ss ls = 0 := by unfold uw; rw [if_neg (fun g => h (uvB_iff.1 g))]
theorem su_take (xs ss ls : List Int) (n : Nat) : ∀ k, k ≤ n → su xs (ss.take (n + 1)) (ls.take n) k = su xs ss ls k := by
  intro k
  induction k with
  | zero => intro _; rfl
  | succ k ih =>
    intro hk
    show su _ _ _ k + tw _ _ _ _ = su _ _ _ k + tw _ _ _ _
    rw [ih (by omega), nth_take ss (by omega), nth_take ss (by omega), nth_take ls (by omega)]
theorem su_drop (xs ss ls : List Int) (n : Nat) : ∀ k, su xs (ss.drop n) (ls.drop n) k = su xs ss ls (n + k) - su xs ss ls n := by
  intro k
  induction k with
  | zero => show (0 : Int) = su xs ss ls n - su xs ss ls n; omega
  | succ k ih =>
    show su _ _ _ k + tw _ _ _ _ = (su xs ss ls (n + k) + tw xs (nth ss (n + k)) (nth ss (n + (k + 1))) (nth ls (n + k))) - su xs ss ls n
    rw [ih, nth_drop, nth_drop, nth_drop]; omega
theorem UV.take {xs ss ls : List Int} (h : UV xs ss ls) {n : Nat} (hn : n ≤ ls.length) : UV xs (ss.take (n + 1)) (ls.take n) ∧ uw xs (ss.take (n + 1)) (ls.take n) = su xs ss ls n := by
  have g : UV xs (ss.take (n + 1)) (ls.take n) := by
    refine ⟨by have := h.1; simp; omega, ⟨h.2.1.1, by rw [nth_take ss (by omega)]; exact h.2.1.2⟩, fun k hk => ?_⟩
    have hk2 : k < n := by simp at hk; omega
    rw [nth_take ss (by omega), nth_take ss (by omega), nth_take ls hk2]; exact h.2.2 k (by omega)
  refine ⟨g, ?_⟩
  rw [uw_ok g, List.length_take, Nat.min_eq_left hn]; exact su_take xs ss ls n n (Nat.le_refl _)
theorem UV.ok {xs ss ls : List Int} (h : UV xs ss ls) : ∀ k, k < ss.length → okF xs (nth ss k) := fun k hk => by
  cases k with
  | zero => exact h.2.1.2
  | succ k => exact (h.2.2 k (by have := h.1; omega)).2.2.1
theorem UV.drop {xs ss ls : List Int} (h : UV xs ss ls) {n : Nat} (hn : n ≤ ls.length) : UV xs (ss.drop n) (ls.drop n) ∧ uw xs (ss.drop n) (ls.drop n) = su xs ss ls ls.length - su xs ss ls n := by
  have g : UV xs (ss.drop n) (ls.drop n) := by
    refine ⟨by have := h.1; simp; omega, ⟨h.2.1.1, by rw [nth_drop]; exact h.ok _ (by have := h.1; omega)⟩, fun k hk => ?_⟩
    have hk2 : n + k < ls.length := by simp at hk; omega
    rw [nth_drop, nth_drop, nth_drop]; exact h.2.2 _ hk2
  refine ⟨g, ?_⟩
  rw [uw_ok g, List.length_drop, su_drop]; congr 2; omega
/-- A tour that ends where it began, with the same load all the way, costs nothing. -/
theorem UV.round {xs ss ls : List Int} {y : List Int} (h : UV xs ss ls) (hy : y.length = ss.length) (hy7 : ∀ k, k < y.length → nth y k = 7) : UV xs (ss ++ [nth ss 0]) y ∧ uw xs (ss ++ [nth ss 0]) y = 0 := by
  have h1 : 1 ≤ ss.length := by have := h.1; omega
  have e : ∀ k, k ≤ ss.length → okF xs (nth (ss ++ [nth ss 0]) k) ∧ (k < ss.length → nth (ss ++ [nth ss 0]) k = nth ss k) ∧ (k = ss.length → nth (ss ++ [nth ss 0]) k = nth ss 0) := fun k hk => by
    by_cases c : k < ss.length
    · have e2 : nth (ss ++ [nth ss 0]) k = nth ss k := by simp [nth, List.getD, List.getElem?_append, c]
      exact ⟨by rw [e2]; exact h.ok k c, fun _ => e2, fun x => by omega⟩
    · obtain rfl : k = ss.length := by omega
      have e2 : nth (ss ++ [nth ss 0]) ss.length = nth ss 0 := by simp [nth, List.getD]
      exact ⟨by rw [e2]; exact h.2.1.2, fun x => by omega, fun _ => e2⟩
  have t : ∀ k, k < y.length → TV xs (nth (ss ++ [nth ss 0]) k) (nth (ss ++ [nth ss 0]) (k + 1)) (nth y k) := fun k hk => by
    rw [hy7 k hk]; exact ⟨h.2.1.1, (e k (by omega)).1, (e (k + 1) (by omega)).1, by omega, by omega⟩
  have g : UV xs (ss ++ [nth ss 0]) y := ⟨by simp; omega, ⟨h.2.1.1, (e 0 (by omega)).1⟩, t⟩
  refine ⟨g, ?_⟩
  rw [uw_ok g]
  have key : ∀ k, k ≤ y.length → su xs (ss ++ [nth ss 0]) y k = -13 * (nth xs (nth (ss ++ [nth ss 0]) k).toNat - nth xs (nth (ss ++ [nth ss 0]) 0).toNat) := by
    intro k
    induction k with
    | zero => intro _; simp [su]
    | succ k ih =>
      intro hk
      show su _ _ _ k + tw _ _ _ _ = _
      rw [ih (by omega), tw_ok (t k (by omega)), hy7 k (by omega)]; omega
  rw [key _ (Nat.le_refl _), (e y.length (by omega)).2.2 hy, (e 0 (by omega)).2.1 (by omega)]; omega
end Go.Proofs.Ytahfkeogfoejmaa
