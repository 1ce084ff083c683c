/- The mathematics of counting lists up: the next list. -/
import Derived.Test.Yteeokegkbhpbcaa12P
namespace Go.Proofs.Yteeokegkbhpbcaa
open Go.RowKit
set_option linter.unusedVariables false
set_option linter.unusedSimpArgs false
set_option maxRecDepth 100000

/-- The next list, if there is one. -/
def nxt (n : Nat) : List Int → Option (List Int)
  | [] => none
  | c :: t => match nxt n t with
    | some t' => some (c :: t')
    | none => if c + 1 < n then some ((c + 1) :: List.replicate t.length 0) else none
theorem nxt_len {n : Nat} : ∀ {x y : List Int}, nxt n x = some y → y.length = x.length
  | [], y, h => by cases h
  | c :: t, y, h => by
    unfold nxt at h
    cases e : nxt n t with
    | some t' => rw [e] at h; simp at h; rw [← h]; simp [nxt_len e]
    | none =>
      rw [e] at h
      by_cases g : c + 1 < n
      · simp [g] at h; rw [← h]; simp
      · simp [g] at h
theorem nxt_none {n : Nat} : ∀ {x : List Int}, (∀ c, c ∈ x → ¬ c + 1 < (n : Int)) → nxt n x = none
  | [], _ => rfl
  | c :: t, h => by
    unfold nxt
    rw [nxt_none fun d hd => h d (by simp [hd])]
    simp [h c (by simp)]
theorem nxt_some {n : Nat} {c : Int} {v : List Int} (hc : c + 1 < (n : Int)) (hv : ∀ d, d ∈ v → ¬ d + 1 < (n : Int)) : ∀ u : List Int, nxt n (u ++ c :: v) = some (u ++ (c + 1) :: List.replicate v.length 0)
  | [] => by
    show nxt n (c :: v) = _
    unfold nxt
    rw [nxt_none hv]
    simp [hc]
  | d :: u => by
    show nxt n (d :: (u ++ c :: v)) = _
    unfold nxt
    rw [nxt_some hc hv u]
    rfl
/-- Each list is followed by the next one. -/
structure Chn (n : Nat) (L : List (List Int)) (a z : List Int) : Prop where
  hd : L.head? = some a
  lst : L.getLast? = some z
  stp : ∀ i x y, L[i]? = some x → L[i + 1]? = some y → nxt n x = some y
theorem Chn.app {n : Nat} {A B : List (List Int)} {a z b y : List Int} (h : Chn n A a z) (k : Chn n B b y) (e : nxt n z = some b) : Chn n (A ++ B) a y := by
  have hA : A ≠ [] := fun e => by have := h.hd; rw [e] at this; cases this
  have hB : B ≠ [] := fun e => by have := k.hd; rw [e] at this; cases this
  refine ⟨by rw [List.head?_append, h.hd]; rfl, by rw [List.getLast?_append, k.lst]; rfl, fun i x w h1 h2 => ?_⟩
  by_cases g : i + 1 < A.length
  · rw [List.getElem?_append_left (by omega)] at h1
    rw [List.getElem?_append_left g] at h2
    exact h.stp i x w h1 h2
  · by_cases g2 : i + 1 = A.length
    · rw [List.getElem?_append_left (by omega)] at h1
      rw [List.getElem?_append_right (by omega), g2, Nat.sub_self] at h2
      have h3 : x = z := by
        have := h.lst
        rw [List.getLast?_eq_getElem?, ← g2, Nat.add_sub_cancel, h1] at this
        simpa using this
      have h4 : w = b := by
        have := k.hd
        rw [List.head?_eq_getElem?, h2] at this
        simpa using this
      rw [h3, h4]; exact e
    · rw [List.getElem?_append_right (by omega)] at h1 h2
      exact k.stp (i - A.length) x w h1 (by rw [show i - A.length + 1 = i + 1 - A.length from by omega]; exact h2)
theorem Chn.cons {n : Nat} {A : List (List Int)} {a z : List Int} (h : Chn n A a z) (c : Int) : Chn n (A.map fun t => c :: t) (c :: a) (c :: z) := by
  refine ⟨by rw [List.head?_map, h.hd]; rfl, by rw [List.getLast?_map, h.lst]; rfl, fun i x y h1 h2 => ?_⟩
  rw [List.getElem?_map] at h1 h2
  obtain ⟨x', e1, rfl⟩ := Option.map_eq_some_iff.1 h1
  obtain ⟨y', e2, rfl⟩ := Option.map_eq_some_iff.1 h2
  have := h.stp i x' y' e1 e2
  unfold nxt
  rw [this]
theorem alw_chn {n : Nat} (hn : 0 < n) : ∀ k, ∃ z, Chn n (alw n k) (List.replicate k 0) z ∧ nxt n z = none
  | 0 => ⟨[], ⟨rfl, rfl, fun i x y h1 h2 => by simp [alw] at h2⟩, rfl⟩
  | k + 1 => by
    obtain ⟨z, hz, ez⟩ := alw_chn hn k
    have zl : (List.replicate k (0 : Int)).length = z.length := by
      have h1 : z ∈ alw n k := List.mem_of_getLast? hz.lst
      rw [List.length_replicate, (alw_ok.1 h1).2]
    have key : ∀ m, 0 < m → m ≤ n → Chn n ((List.range m).flatMap fun (c : Nat) => (alw n k).map fun t => (c : Int) :: t) (List.replicate (k + 1) 0) (((m - 1 : Nat) : Int) :: z) := by
      intro m
      induction m with
      | zero => intro h; omega
      | succ m ih =>
        intro _ hm
        have e : ((List.range (m + 1)).flatMap fun (c : Nat) => (alw n k).map fun t => (c : Int) :: t) = ((List.range m).flatMap fun (c : Nat) => (alw n k).map fun t => (c : Int) :: t) ++ (alw n k).map fun t => (m : Int) :: t := by
          rw [List.range_succ, List.flatMap_append]; simp
        rw [e]
        by_cases h0 : m = 0
        · subst h0
          exact hz.cons 0
        · refine (ih (by omega) (by omega)).app (hz.cons (m : Int)) ?_
          unfold nxt
          rw [ez]
          have h1 : ((m - 1 : Nat) : Int) + 1 = m := by omega
          simp only [h1]
          rw [if_pos (by omega), ← zl, List.length_replicate]
    refine ⟨((n - 1 : Nat) : Int) :: z, key n hn (Nat.le_refl _), ?_⟩
    unfold nxt
    rw [ez]
    simp only
    rw [if_neg (by omega)]
theorem alw_next {n k i : Nat} {x y : List Int} (hn : 0 < n) (hx : (alw n k)[i]? = some x) (e : nxt n x = some y) : (alw n k)[i + 1]? = some y := by
  obtain ⟨z, hz, ez⟩ := alw_chn hn k
  by_cases h : i + 1 < (alw n k).length
  · have h1 : (alw n k)[i + 1]? = some (alw n k)[i + 1] := List.getElem?_eq_getElem h
    have := hz.stp i x _ hx h1
    rw [e] at this
    rw [h1]; exact this.symm
  · exfalso
    have h2 : i < (alw n k).length := (List.getElem?_eq_some_iff.1 hx).1
    have h3 := hz.lst
    rw [List.getLast?_eq_getElem?, show (alw n k).length - 1 = i from by omega, hx] at h3
    have h4 : x = z := by simpa using h3
    rw [h4, ez] at e; cases e
theorem alw_end {n k i : Nat} {x : List Int} (hn : 0 < n) (hx : (alw n k)[i]? = some x) (e : nxt n x = none) : i + 1 = (alw n k).length := by
  obtain ⟨z, hz, ez⟩ := alw_chn hn k
  have h2 : i < (alw n k).length := (List.getElem?_eq_some_iff.1 hx).1
  by_cases h : i + 1 < (alw n k).length
  · have h1 : (alw n k)[i + 1]? = some (alw n k)[i + 1] := List.getElem?_eq_getElem h
    have := hz.stp i x _ hx h1
    rw [e] at this; cases this
  · omega
/-- The number that a list stands for. -/
def vl (n : Nat) : List Int → Nat
  | [] => 0
  | c :: t => c.toNat * n ^ t.length + vl n t
theorem vl_lt {n : Nat} : ∀ {x : List Int}, (∀ c, c ∈ x → 0 ≤ c ∧ c < (n : Int)) → vl n x < n ^ x.length
  | [], _ => by simp [vl]
  | c :: t, h => by
    have h1 := vl_lt (x := t) fun d hd => h d (by simp [hd])
    have h2 := h c (by simp)
    have h3 : (c.toNat + 1) * n ^ t.length ≤ n * n ^ t.length := Nat.mul_le_mul_right _ (by omega)
    simp only [vl, List.length_cons, Nat.pow_succ]
    rw [Nat.add_mul, Nat.one_mul] at h3
    rw [Nat.mul_comm (n ^ t.length) n]
    omega
theorem vl_zero (n : Nat) : ∀ k, vl n (List.replicate k 0) = 0
  | 0 => rfl
  | k + 1 => by
    have := vl_zero n k
    simp only [List.replicate_succ, vl, Int.toNat_zero, Nat.zero_mul, Nat.zero_add]
    exact this
theorem nxt_lt {n : Nat} : ∀ {x y : List Int}, (∀ c, c ∈ x → 0 ≤ c ∧ c < (n : Int)) → nxt n x = some y → vl n x < vl n y
  | [], y, _, h => by cases h
  | c :: t, y, hc, h => by
    have h0 := hc c (by simp)
    unfold nxt at h
    cases e : nxt n t with
    | some t' =>
      rw [e] at h
      have h1 := nxt_lt (fun d hd => hc d (by simp [hd])) e
      have h2 := nxt_len e
      simp at h; rw [← h]
      simp only [vl, h2]
      omega
    | none =>
      rw [e] at h
      by_cases g : c + 1 < n
      · simp [g] at h; rw [← h]
        have h1 := vl_lt (x := t) fun d hd => hc d (by simp [hd])
        simp only [vl, List.length_replicate, vl_zero]
        rw [show (c + 1).toNat = c.toNat + 1 from by omega, Nat.add_mul]
        omega
      · simp [g] at h
end Go.Proofs.Yteeokegkbhpbcaa
