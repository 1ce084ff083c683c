/- The contracts of FloorAt, FloorBelow, FloorNear, FloorWay, impl and spec. -/
import Derived.Test.YteeokegkbhpbcaaA
namespace Go.Proofs.Yteeokegkbhpbcaa
open Go.RowKit
set_option linter.unusedVariables false
set_option linter.unusedSimpArgs false

set_option maxHeartbeats 400000 in
theorem index_c (b off cap : Nat) (xs : List Int) (a : Int) (w : World) (hc : Ints w b off xs) (hm : xs.length ≤ maxLen) :
    Calls Try.prog 52 #[.slice (some ⟨b, off, none⟩) xs.length cap, .int .i64 a] w (Ro w (.int .i64 (ix xs a))) := by
  unfold maxLen at hm
  go_enter Try.func52, Try.ntmps52
  go_wp2
  go_loop [8] (fun v => ∃ k : Nat, k ≤ xs.length ∧ v = .int .i64 k ∧ ∀ i, i < k → nth xs i ≠ a) (fun v => xs.length - (intOf v).toNat)
  case atStart => exact ⟨0, by omega, rfl, by omega⟩
  case round =>
    obtain ⟨k, hk2, rfl, hall⟩ := hrel
    have HA : Hid _ := hall
    clear hall
    by_cases hlt : k < xs.length
    · have c1 : w.cell? ⟨b, off + k, none⟩ = some (.int .i64 (nth xs k)) := hc k hlt
      by_cases ht : nth xs k = a
      · have t1 : (a == nth xs k) = true := by simp [ht]
        have HT : Hid _ := ht
        clear ht
        go_wp2
        go_ret
        exact Ro.i (ix_eq (.inl ⟨k, hlt, rfl, HT.out, HA.out⟩)) (by first | exact ⟨0, rfl⟩ | (simp only [World.drewN_drewN]; exact ⟨_, rfl⟩) | exact ⟨_, rfl⟩)
      · have t1 : (a == nth xs k) = false := by simp; omega
        go_wp2
        go_round
        case rel => exact ⟨k + 1, by omega, by go_num, fun i hi => by
          by_cases e : i = k
          · subst e; exact ht
          · exact HA.out i (by omega)⟩
        case measure => simp [intOf]; omega
    · obtain rfl : k = xs.length := by omega
      go_wp2
      go_ret
      exact Ro.i (ix_eq (.inr ⟨rfl, HA.out⟩)) (by first | exact ⟨0, rfl⟩ | (simp only [World.drewN_drewN]; exact ⟨_, rfl⟩) | exact ⟨_, rfl⟩)

theorem iFloorAt_c (b off cap : Nat) (xs : List Int) (a : Int) (w : World) (hc : Ints w b off xs) (hm : xs.length ≤ maxLen) :
    Calls Try.prog 39 #[.slice (some ⟨b, off, none⟩) xs.length cap, .int .i64 a] w (Ro w (.int .i64 (fa xs a))) := by
  by_cases hv : FV xs
  · have t1 := fvB_t hv
    have e : Hid _ := fa_ix (a := a) hv
    go_enter Try.func39, Try.ntmps39
    go_wp2_with (first | (go_at_call 51; refine (iFloorsValid_c _ _ _ _ _ hc hm).mono ?_; rintro e w' ⟨rfl, n1, rfl⟩) | (go_at_call 52; refine (index_c _ _ _ _ _ _ (hc.drewN _) hm).mono ?_; rintro e w' ⟨rfl, n2, rfl⟩))
    go_ret
    exact Ro.i e.out (by first | exact ⟨0, rfl⟩ | (simp only [World.drewN_drewN]; exact ⟨_, rfl⟩) | exact ⟨_, rfl⟩)
  · have t1 := fvB_f hv
    have e : Hid _ := fa_bad (a := a) hv
    go_enter Try.func39, Try.ntmps39
    go_wp2_with (first | (go_at_call 51; refine (iFloorsValid_c _ _ _ _ _ hc hm).mono ?_; rintro e w' ⟨rfl, n1, rfl⟩))
    go_ret
    exact Ro.i e.out (by first | exact ⟨0, rfl⟩ | (simp only [World.drewN_drewN]; exact ⟨_, rfl⟩) | exact ⟨_, rfl⟩)

end Go.Proofs.Yteeokegkbhpbcaa
