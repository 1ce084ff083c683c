/- What a car visits: the floors of its calls, sorted, each one once. -/
import Derived.Test.Yteeokegkbhpbcaa12P
import Derived.Lib.SlicesCompact
namespace Go.Proofs.Yteeokegkbhpbcaa
open Go.RowKit
set_option linter.unusedVariables false
set_option linter.unusedSimpArgs false
set_option maxRecDepth 100000

/-- The floors of those of the first k calls that are given to car c. -/
def pkU (ks gs : List Int) (c : Int) : Nat → List Int
  | 0 => []
  | k + 1 => if nth gs k = c then pkU ks gs c k ++ [nth ks k] else pkU ks gs c k
theorem pk_mem {ks gs : List Int} {c y : Int} : ∀ {n : Nat}, y ∈ pkU ks gs c n ↔ ∃ k, k < n ∧ nth gs k = c ∧ nth ks k = y
  | 0 => by simp [pkU]
  | n + 1 => by
    unfold pkU
    split
    · rename_i h
      rw [List.mem_append, pk_mem, List.mem_singleton]
      constructor
      · rintro (⟨k, hk, e⟩ | e)
        · exact ⟨k, by omega, e⟩
        · exact ⟨n, by omega, h, e.symm⟩
      · rintro ⟨k, hk, e⟩
        by_cases g : k = n
        · subst g; exact .inr e.2.symm
        · exact .inl ⟨k, by omega, e⟩
    · rename_i h
      rw [pk_mem]
      constructor
      · rintro ⟨k, hk, e⟩; exact ⟨k, by omega, e⟩
      · rintro ⟨k, hk, e⟩
        by_cases g : k = n
        · subst g; exact absurd e.1 h
        · exact ⟨k, by omega, e⟩
theorem pk_len {ks gs : List Int} {c : Int} : ∀ n : Nat, (pkU ks gs c n).length ≤ n
  | 0 => Nat.le_refl _
  | n + 1 => by
    have := pk_len (ks := ks) (gs := gs) (c := c) n
    unfold pkU
    split
    · simp; omega
    · omega
theorem cup_mem {d : Array Int} {y : Int} : ∀ {m : Nat}, m ≤ d.size → (y ∈ Lib.compactUpTo d m ↔ ∃ j, j < m ∧ d[j]! = y)
  | 0, _ => by simp [Lib.compactUpTo]
  | m + 1, h => by
    rw [Lib.compactUpTo_succ, List.mem_append, cup_mem (m := m) (by omega)]
    by_cases hk : Lib.keeps d m = true
    · rw [if_pos hk, List.mem_singleton]
      constructor
      · rintro (⟨j, hj, e⟩ | e)
        · exact ⟨j, by omega, e⟩
        · exact ⟨m, by omega, e.symm⟩
      · rintro ⟨j, hj, e⟩
        by_cases g : j = m
        · subst g; exact .inr e.symm
        · exact .inl ⟨j, by omega, e⟩
    · have h2 : m ≠ 0 ∧ d[m]! = d[m - 1]! := by
        simp only [Lib.keeps, decide_eq_true_eq] at hk
        exact ⟨fun e => hk (.inl e), Classical.not_not.1 fun e => hk (.inr e)⟩
      rw [if_neg hk]
      constructor
      · rintro (⟨j, hj, e⟩ | e)
        · exact ⟨j, by omega, e⟩
        · cases e
      · rintro ⟨j, hj, e⟩
        by_cases g : j = m
        · subst g; exact .inl ⟨j - 1, by omega, by rw [← h2.2]; exact e⟩
        · exact .inl ⟨j, by omega, e⟩
theorem cup_asc {d : Array Int} (hs : ∀ i j, i ≤ j → j < d.size → d[i]! ≤ d[j]!) : ∀ {m : Nat}, m ≤ d.size → (Lib.compactUpTo d m).Pairwise (· < ·)
  | 0, _ => by simp [Lib.compactUpTo]
  | m + 1, h => by
    rw [Lib.compactUpTo_succ]
    by_cases hk : Lib.keeps d m = true
    · rw [if_pos hk, List.pairwise_append]
      refine ⟨cup_asc hs (by omega), List.pairwise_singleton _ _, fun a ha b hb => ?_⟩
      rw [List.mem_singleton] at hb
      subst hb
      obtain ⟨j, hj, rfl⟩ := (cup_mem (by omega)).1 ha
      have h3 : m = 0 ∨ d[m]! ≠ d[m - 1]! := by simpa only [Lib.keeps, decide_eq_true_eq] using hk
      have h1 := hs j (m - 1) (by omega) (by omega)
      have h2 := hs (m - 1) m (by omega) (by omega)
      rcases h3 with e | e <;> omega
    · rw [if_neg hk, List.append_nil]; exact cup_asc hs (by omega)
theorem asc_ext : ∀ {a b : List Int}, a.Pairwise (· < ·) → b.Pairwise (· < ·) → (∀ y, y ∈ a ↔ y ∈ b) → a = b
  | [], [], _, _, _ => rfl
  | [], y :: b, _, _, h => absurd ((h y).2 (by simp)) (by simp)
  | y :: a, [], _, _, h => absurd ((h y).1 (by simp)) (by simp)
  | x :: a, y :: b, ha, hb, h => by
    rw [List.pairwise_cons] at ha hb
    have hxy : x = y := by
      rcases List.mem_cons.1 ((h x).1 (by simp)) with e | e
      · exact e
      · rcases List.mem_cons.1 ((h y).2 (by simp)) with e2 | e2
        · exact e2.symm
        · have := hb.1 x e; have := ha.1 y e2; omega
    subst hxy
    congr 1
    refine asc_ext ha.2 hb.2 fun z => ⟨fun hz => ?_, fun hz => ?_⟩
    · rcases List.mem_cons.1 ((h z).1 (by simp [hz])) with e | e
      · have := ha.1 z hz; omega
      · exact e
    · rcases List.mem_cons.1 ((h z).2 (by simp [hz])) with e | e
      · have := hb.1 z hz; omega
      · exact e
/-- A list sorted. -/
def srt (l : List Int) : List Int := l.mergeSort fun x y => decide (x ≤ y)
theorem srt_len (l : List Int) : (srt l).length = l.length := List.length_mergeSort l
theorem srt_mem {l : List Int} {y : Int} : y ∈ srt l ↔ y ∈ l := (List.mergeSort_perm l _).mem_iff
theorem srt_le (l : List Int) : ∀ i j, i ≤ j → j < (srt l).toArray.size → (srt l).toArray[i]! ≤ (srt l).toArray[j]! := by
  intro i j hij hj
  have hj2 : j < (srt l).length := by simpa using hj
  have h := List.pairwise_mergeSort (le := fun x y : Int => decide (x ≤ y)) (fun a b c h1 h2 => by simp only [decide_eq_true_eq] at *; omega) (fun a b => by simp only [Bool.or_eq_true, decide_eq_true_eq]; omega) l
  by_cases e : i = j
  · subst e; exact Int.le_refl _
  have h2 := List.pairwise_iff_getElem.1 h i j (by show i < (srt l).length; omega) hj2 (by omega)
  simp only [decide_eq_true_eq] at h2
  have e1 : (srt l).toArray[i]! = (srt l)[i]'(by omega) := by rw [getElem!_pos (srt l).toArray i (by simpa using (by omega : i < (srt l).length))]; simp
  have e2 : (srt l).toArray[j]! = (srt l)[j]'hj2 := by rw [getElem!_pos (srt l).toArray j hj]; simp
  rw [e1, e2]; exact h2
theorem cmp_mem {l : List Int} {y : Int} : y ∈ Lib.compact (srt l) ↔ y ∈ l := by
  unfold Lib.compact
  rw [cup_mem (by simp), ← srt_mem (l := l)]
  constructor
  · rintro ⟨j, hj, rfl⟩
    rw [getElem!_pos (srt l).toArray j (by simpa using hj)]
    simp
  · intro h
    obtain ⟨j, hj, rfl⟩ := List.mem_iff_getElem.1 h
    exact ⟨j, hj, by rw [getElem!_pos (srt l).toArray j (by simpa using hj)]; simp⟩
theorem cmp_asc (l : List Int) : (Lib.compact (srt l)).Pairwise (· < ·) := cup_asc (srt_le l) (by simp)
theorem cmp_len (l : List Int) : (Lib.compact (srt l)).length ≤ l.length := by
  unfold Lib.compact Lib.compactUpTo
  rw [List.length_map]
  refine Nat.le_trans (List.length_filter_le _ _) ?_
  rw [List.length_range, srt_len]; exact Nat.le_refl _
theorem vis_pk {xs ks gs : List Int} {c : Int} (ho : OkL xs ks) : Lib.compact (srt (pkU ks gs c ks.length)) = vis xs ks gs c := by
  refine asc_ext (cmp_asc _) (vis_asc _) fun y => ?_
  rw [cmp_mem, pk_mem]
  constructor
  · rintro ⟨k, hk, e, rfl⟩
    have h := ho _ (nthm hk)
    exact vis_mem.2 ⟨⟨h.1, h.2⟩, k, hk, e, rfl⟩
  · intro h
    exact (vis_mem.1 h).2
theorem vis_none {xs ks gs : List Int} {c : Int} (ho : OkL xs ks) (h : pkU ks gs c ks.length = []) : vis xs ks gs c = [] := by
  rw [← vis_pk ho, h]
  simp [srt, Lib.compact, Lib.compactUpTo]
end Go.Proofs.Yteeokegkbhpbcaa
