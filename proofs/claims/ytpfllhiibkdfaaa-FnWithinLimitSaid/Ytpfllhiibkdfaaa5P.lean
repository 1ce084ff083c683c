/- The plain mathematics of limits (chapter 5). -/
import Derived.Test.Ytpfllhiibkdfaaa2F
import Derived.Test.Ytpfllhiibkdfaaa3P
namespace Go.Proofs.Ytpfllhiibkdfaaa
open Go.RowKit
set_option linter.unusedVariables false

/-- The greatest speed whose way to brake is at most the way to the end. -/
def slw (d : Int) : Int := if d < 1 then 1 else if d < 3 then 2 else if d < 6 then 3 else if d < 10 then 4 else 5
/-- The way to the end. -/
def way (a : Int) (u : Bool) : Int := if u = true then 60 - a else a
/-- `SpeedLimit`. -/
def sl (a : Int) (u : Bool) : Int := if inB 0 a 60 = true then slw (way a u) else -1
theorem sl_ok {a : Int} {u : Bool} (h : inB 0 a 60 = true) : sl a u = slw (way a u) := by unfold sl; rw [if_pos h]
theorem sl_bad {a : Int} {u : Bool} (h : inB 0 a 60 = false) : sl a u = -1 := by unfold sl; rw [if_neg (by rw [h]; simp)]
theorem slw_bd (d : Int) : 1 ≤ slw d ∧ slw d ≤ 5 := by unfold slw; omega
theorem sl_bd (a : Int) (u : Bool) : -1 ≤ sl a u ∧ sl a u ≤ 5 := by
  unfold sl; have := slw_bd (way a u); split <;> omega
theorem way_bd {a : Int} {u : Bool} (h : 0 ≤ a ∧ a ≤ 60) : 0 ≤ way a u ∧ way a u ≤ 60 := by unfold way; split <;> omega
/-- With it the way is long enough, with the next speed it is not. -/
theorem slw_fit {d : Int} (h : 0 ≤ d) : bw (slw d) ≤ d ∧ (slw d = 5 ∨ d < bw (slw d + 1)) ∧ ∀ k : Int, 0 ≤ k → k ≤ 5 → (bw k ≤ d ↔ k ≤ slw d) := by
  have e : bw 0 = 0 ∧ bw 1 = 0 ∧ bw 2 = 1 ∧ bw 3 = 3 ∧ bw 4 = 6 ∧ bw 5 = 10 := by decide
  obtain ⟨e0, e1, e2, e3, e4, e5⟩ := e
  have hs : slw d = 1 ∧ d < 1 ∨ slw d = 2 ∧ 1 ≤ d ∧ d < 3 ∨ slw d = 3 ∧ 3 ≤ d ∧ d < 6 ∨ slw d = 4 ∧ 6 ≤ d ∧ d < 10 ∨ slw d = 5 ∧ 10 ≤ d := by unfold slw; omega
  have hk : ∀ k : Int, 0 ≤ k → k ≤ 5 → (bw k = 0 ∧ (k = 0 ∨ k = 1)) ∨ (bw k = 1 ∧ k = 2) ∨ (bw k = 3 ∧ k = 3) ∨ (bw k = 6 ∧ k = 4) ∨ (bw k = 10 ∧ k = 5) := by
    intro k k0 k5
    rcases (by omega : k = 0 ∨ k = 1 ∨ k = 2 ∨ k = 3 ∨ k = 4 ∨ k = 5) with g | g | g | g | g | g <;> subst g <;> simp [e0, e1, e2, e3, e4, e5]
  refine ⟨?_, ?_, fun k k0 k5 => ?_⟩
  · rcases hs with ⟨s, x⟩ | ⟨s, x⟩ | ⟨s, x⟩ | ⟨s, x⟩ | ⟨s, x⟩ <;> rw [s] <;> omega
  · rcases hs with ⟨s, x⟩ | ⟨s, x⟩ | ⟨s, x⟩ | ⟨s, x⟩ | ⟨s, x⟩ <;> rw [s] <;> first | (left; rfl) | (right; simp only [Int.reduceAdd, e1, e2, e3, e4, e5]; omega)
  · have := hk k k0 k5; omega
/-- `WithinLimit`. -/
def wl (a s : Int) : Bool := decide ((0 ≤ a ∧ a ≤ 60 ∧ -5 ≤ s ∧ s ≤ 5) ∧ far s 0 ≤ sl a (decide (0 < s)))
theorem wl_t {a s : Int} (h : mvB a s = true) (k : far s 0 ≤ sl a (decide (0 < s))) : wl a s = true := decide_eq_true ⟨mvB_iff.1 h, k⟩
theorem wl_f {a s : Int} (k : ¬ far s 0 ≤ sl a (decide (0 < s))) : wl a s = false := decide_eq_false fun h => k h.2
theorem wl_bad {a s : Int} (h : mvB a s = false) : wl a s = false := decide_eq_false fun k => by rw [mvB_t k.1] at h; cases h
theorem wl_iff {a s : Int} : wl a s = true ↔ (0 ≤ a ∧ a ≤ 60 ∧ -5 ≤ s ∧ s ≤ 5) ∧ far s 0 ≤ sl a (decide (0 < s)) := by unfold wl; exact decide_eq_true_iff
/-- A car is within the limit exactly if it can stop at the end. -/
theorem wl_cs {a s : Int} (h : 0 ≤ a ∧ a ≤ 60 ∧ -5 ≤ s ∧ s ≤ 5) : wl a s = csB a s (if 0 < s then 60 else 0) := by
  obtain ⟨h1, h2, h3, h4⟩ := h
  by_cases c : 0 < s
  · rw [if_pos c]
    have fit := (slw_fit (way_bd (u := true) ⟨h1, h2⟩).1).2.2 s (by omega) h4
    have es : sl a (decide (0 < s)) = slw (60 - a) := by rw [decide_eq_true c, sl_ok (inB_t ⟨h1, h2⟩)]; rfl
    have fit' : bw s ≤ 60 - a ↔ s ≤ slw (60 - a) := fit
    have ef : far s 0 = s := by unfold far; omega
    by_cases k : bw s ≤ 60 - a
    · rw [wl_t (mvB_t ⟨h1, h2, h3, h4⟩) (by rw [es, ef]; exact fit'.1 k), csB_t ⟨⟨h1, h2, h3, h4⟩, by omega, fun _ => by omega, fun x => by omega⟩]
    · rw [wl_f (by rw [es, ef]; exact fun x => k (fit'.2 x)), csB_f (fun x => k (by have := x.2.2.1 c; omega))]
  · rw [if_neg c]
    have fit := (slw_fit (way_bd (u := false) ⟨h1, h2⟩).1).2.2 (-s) (by omega) (by omega)
    have es : sl a (decide (0 < s)) = slw a := by rw [decide_eq_false c, sl_ok (inB_t ⟨h1, h2⟩)]; rfl
    have fit' : bw (-s) ≤ a ↔ -s ≤ slw a := fit
    have en : bw (-s) = -bw s := by rcases sp_cases ⟨h3, h4⟩ with e | e | e | e | e | e | e | e | e | e | e <;> subst e <;> decide
    have ef : far s 0 = -s := by unfold far; omega
    have b0 : s = 0 → bw s = 0 := fun e => by subst e; decide
    by_cases k : bw (-s) ≤ a
    · rw [wl_t (mvB_t ⟨h1, h2, h3, h4⟩) (by rw [es, ef]; exact fit'.1 k), csB_t ⟨⟨h1, h2, h3, h4⟩, by omega, fun x => absurd x c, fun x => by omega⟩]
    · by_cases z : s = 0
      · have := b0 z; omega
      · rw [wl_f (by rw [es, ef]; exact fun x => k (fit'.2 x)), csB_f (fun x => k (by have := x.2.2.2 (by omega); omega))]
/-- Who can stop anywhere can stop at the end. -/
theorem cs_end {a s t : Int} (h : CS a s t) : csB a s (if 0 < s then 60 else 0) = true := by
  obtain ⟨h1, h2, h3, h4⟩ := h
  split
  · rename_i c; exact csB_t ⟨h1, by omega, fun _ => by have := h3 c; omega, fun x => by omega⟩
  · rename_i c; exact csB_t ⟨h1, by omega, fun x => absurd x c, fun x => by have := h4 x; omega⟩
/-- One that is within the limit stays so when it is driven to the end. -/
theorem wl_next {a s : Int} (h : wl a s = true) : wl (mst a s (if 0 < s then 60 else 0)).1 (mst a s (if 0 < s then 60 else 0)).2 = true := by
  have h1 := (wl_iff.1 h).1
  rw [wl_cs h1] at h
  have hc := csB_iff.1 h
  have n := cs_next hc
  rw [mst_ok (mvB_t h1) (inB_t hc.2.1), ms_next hc]
  have v := n.1.1
  rw [wl_cs v]
  exact cs_end n.1
/-- `GovernorStep`. -/
def gst (b : Bool) (s : Int) (r : Bool) : Bool := if 7 ≤ s ∨ s ≤ -7 then true else b && !(r && s == 0)
/-- `GovernorRun` over the first n speeds. -/
noncomputable def gru (b : Bool) (xs ys : List Int) : Nat → Bool
  | 0 => b
  | n + 1 => gst (gru b xs ys n) (nth xs n) (hasB ys n)
end Go.Proofs.Ytpfllhiibkdfaaa
