/- The contract of the laws' helper that adds up a list. -/
import Derived.Test.YtahfkeogfoejmaaD
import Derived.Test.YtahfkeogfoejmaaK
import Derived.Test.Ytahfkeogfoejmaa6P
namespace Go.Proofs.Ytahfkeogfoejmaa
open Go.RowKit
set_option linter.unusedVariables false

set_option maxHeartbeats 400000 in
theorem sumOf_c (b off len cap : Nat) (xs : List Int) (w : World) (hc : Ints w b off xs) (hl : xs.length = len) (hm : xs.length ≤ 1048576) (hb : ∀ i, i < xs.length → -1000000 ≤ nth xs i ∧ nth xs i ≤ 1000000) :
    Calls Try.prog 20 #[.slice (some ⟨b, off, none⟩) len cap] w (Ro w (.int .i64 (sm xs xs.length))) := by
  subst hl
  go_enter Try.func20, Try.ntmps20
  go_wp2
  go_loop [3, 4] (fun u v => ∃ k : Nat, k ≤ xs.length ∧ v = .int .i64 k ∧ u = .int .i64 (sm xs k)) (fun _ v => xs.length - (intOf v).toNat)
  case atStart => exact ⟨0, by omega, rfl, rfl⟩
  case round =>
    obtain ⟨k, hk2, rfl, rfl⟩ := hrel
    have bd := sm_bd k (fun i hi => hb i (by omega))
    have HB : Hid _ := hb
    have HS : Hid (sm xs (k + 1) = sm xs k + nth xs k) := (rfl : sm xs (k + 1) = sm xs k + nth xs k)
    clear hb
    by_cases hlt : k < xs.length
    · have c1 : w.cell? ⟨b, off + k, none⟩ = some (.int .i64 (nth xs k)) := hc k hlt
      have b1 := HB.out k hlt
      obtain ⟨b1, b2⟩ := b1
      obtain ⟨z, hz⟩ : ∃ z, sm xs k = z := ⟨_, rfl⟩
      rw [hz] at bd HS
      rw [hz]
      clear hz
      go_wp2
      go_round
      case rel => exact ⟨k + 1, by omega, by go_num, by rw [HS.out]⟩
      case measure => simp [intOf]; omega
    · obtain rfl : k = xs.length := by omega
      go_wp2
      go_ret
      exact Ro.i rfl (by first | exact ⟨0, rfl⟩ | (simp only [World.drewN_drewN]; exact ⟨_, rfl⟩) | exact ⟨_, rfl⟩)
end Go.Proofs.Ytahfkeogfoejmaa
