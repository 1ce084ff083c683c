/- The contracts of the lists' search, and of DoorStep, impl and spec. -/
import Derived.Test.Ytpfllhiibkdfaaa3A
import Derived.Test.YtpfllhiibkdfaaaB
namespace Go.Proofs.Ytpfllhiibkdfaaa
open Go.RowKit
set_option linter.unusedVariables false

theorem has_ix {xs : List Int} {v : Int} : (0 ≤ ix xs v ∧ hasB xs v = true) ∨ (¬ 0 ≤ ix xs v ∧ hasB xs v = false) := by
  rcases ix_cases xs v with ⟨k, hk, e, hn, hu⟩ | ⟨e, hn⟩
  · left; exact ⟨by omega, hasB_t k hk hn⟩
  · right; exact ⟨by omega, hasB_f hn⟩
theorem ix_nil (v : Int) : ix [] v = -1 := ix_eq (.inr ⟨rfl, by simp⟩)
theorem index_sl (a : Option Addr) (cap : Nat) (xs : List Int) (v : Int) (w : World) (hs : Sl w a xs) (hm : xs.length ≤ maxLen) :
    Calls Try.prog 52 #[.slice a xs.length cap, .int .i64 v] w (Ro w (.int .i64 (ix xs v))) := by
  rcases hs with rfl | ⟨b, off, rfl, hI⟩
  · have e : Hid _ := ix_nil v
    clear hm
    go_enter Try.func52, Try.ntmps52
    go_wp2_with fail
    go_loop [8] (fun vk => vk = .int .i64 0) (fun _ => 0)
    case atStart => rfl
    case round =>
      obtain rfl := hrel
      go_wp2_with fail
      go_ret
      exact Ro.i e.out ⟨0, rfl⟩
  · exact index_c b off cap xs v w hI hm
theorem contains_c (a : Option Addr) (cap : Nat) (xs : List Int) (v : Int) (w : World) (hs : Sl w a xs) (hm : xs.length ≤ maxLen) :
    Calls Try.prog 48 #[.slice a xs.length cap, .int .i64 v] w (Ro w (.bool (hasB xs v))) := by
  have HS : Hid _ := hs
  clear hs
  rcases has_ix (xs := xs) (v := v) with ⟨i, e⟩ | ⟨i, e⟩
  all_goals
    have E : Hid _ := e
    clear e
    go_enter Try.func48, Try.ntmps48
    go_wp2_with fail
    refine (index_sl a cap xs v _ HS.out hm).mono ?_
    rintro e' w1 ⟨rfl, n1, rfl⟩
    go_wp2_with fail
    go_ret
    exact Ro.b (by rw [E.out]; first | done | exact (decide_eq_true i).symm | exact (decide_eq_false (by omega)).symm) (by first | exact ⟨0, rfl⟩ | (simp only [World.drewN_drewN]; exact ⟨_, rfl⟩) | exact ⟨_, rfl⟩)
theorem St.b {w : World} {b b' : Bool} (h : b = b') : St w (.bool b) (.returned (.bool b')) w := ⟨by rw [h], rfl⟩
theorem l1Has_s (a : Option Addr) (cap : Nat) (xs : List Int) (v : Int) (w : World) (hs : Sl w a xs) (hm : xs.length ≤ maxLen) :
    Calls Try.prog 49 #[.slice a xs.length cap, .int .i64 v] w (St w (.bool (hasB xs v))) := by
  unfold maxLen at hm
  rcases hs with rfl | ⟨b, off, rfl, hI⟩
  · have e : Hid _ := hasB_nil v
    clear hm
    go_enter Try.func49, Try.ntmps49
    go_wp2_with fail
    go_loop [5] (fun vk => vk = .int .i64 0) (fun _ => 0)
    case atStart => rfl
    case round =>
      obtain rfl := hrel
      go_wp2_with fail
      go_ret
      exact St.b e.out
  · have HI : Hid _ := hI
    clear hI
    go_enter Try.func49, Try.ntmps49
    go_wp2_with fail
    go_loop [5] (fun vk => ∃ k : Nat, k ≤ xs.length ∧ vk = .int .i64 k ∧ ∀ j, j < k → nth xs j ≠ v) (fun vk => xs.length - (intOf vk).toNat)
    case atStart => exact ⟨0, by omega, rfl, by omega⟩
    case round =>
      obtain ⟨k, hk, rfl, hu⟩ := hrel
      have U : Hid _ := hu
      clear hu
      by_cases hlt : k < xs.length
      · have c0 : w.cell? ⟨b, off + k, none⟩ = some (.int .i64 (nth xs k)) := HI.out k hlt
        by_cases e : nth xs k = v
        · have t : (nth xs k == v) = true := by simp [e]
          have E : Hid _ := e
          clear e
          go_wp2_with fail
          go_ret
          exact St.b (hasB_t k hlt E.out)
        · have t : (nth xs k == v) = false := by simp [e]
          have E : Hid _ := e
          clear e
          go_wp2_with fail
          go_round
          case rel => exact ⟨k + 1, by omega, by go_num, fun j hj => by
            by_cases e : j = k
            · subst e; exact E.out
            · exact U.out j (by omega)⟩
          case measure => simp [intOf]; omega
      · obtain rfl : k = xs.length := by omega
        go_wp2_with fail
        go_ret
        exact St.b (hasB_f U.out)
theorem l1Has_c (a : Option Addr) (cap : Nat) (xs : List Int) (v : Int) (w : World) (hs : Sl w a xs) (hm : xs.length ≤ maxLen) :
    Calls Try.prog 49 #[.slice a xs.length cap, .int .i64 v] w (Ro w (.bool (hasB xs v))) := St.ro (l1Has_s a cap xs v w hs hm)

theorem ab_cases (a b : Bool) (g : Int) : (a = true ∧ (a = true ∨ (b = true ∧ 0 < g))) ∨ ((a = false ∧ b = true ∧ 0 < g) ∧ (a = true ∨ (b = true ∧ 0 < g))) ∨ ((a = false ∧ b = false) ∧ ¬ (a = true ∨ (b = true ∧ 0 < g))) ∨ ((a = false ∧ b = true ∧ ¬ 0 < g) ∧ ¬ (a = true ∨ (b = true ∧ 0 < g))) := by
  cases a
  · cases b
    · right; right; left; simp
    · by_cases k : 0 < g
      · right; left; simp [k]
      · right; right; right; simp [k]
  · left; simp
end Go.Proofs.Ytpfllhiibkdfaaa
