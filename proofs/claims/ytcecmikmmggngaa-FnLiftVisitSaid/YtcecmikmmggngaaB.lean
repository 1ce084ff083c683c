/- The contracts of FloorAt, FloorBelow, FloorNear, FloorWay, impl and spec. -/
import Derived.Test.YtcecmikmmggngaaA
namespace Go.Proofs.Ytcecmikmmggngaa
open Go.RowKit
set_option linter.unusedVariables false

set_option maxHeartbeats 400000 in
theorem index_c (b off cap : Nat) (xs : List Int) (a : Int) (w : World) (hc : Ints w b off xs) (hm : xs.length ≤ maxLen) :
    Calls Try.prog 40 #[.slice (some ⟨b, off, none⟩) xs.length cap, .int .i64 a] w (Ro w (.int .i64 (ix xs a))) := by
  unfold maxLen at hm
  go_enter Try.func40, Try.ntmps40
  go_wp2
  go_loop [8] (fun v => ∃ k : Nat, k ≤ xs.length ∧ v = .int .i64 k ∧ ∀ i, i < k → nth xs i ≠ a) (fun v => xs.length - (intOf v).toNat)
  case atStart => exact ⟨0, by omega, rfl, by omega⟩
  case round =>
    obtain ⟨k, hk2, rfl, hall⟩ := hrel
    have HA : Hid _ := hall
    clear hall
    by_cases hlt : k < xs.length
    · have c1 : w.cell? ⟨b, off + k, none⟩ = some (.int .i64 (nth xs k)) := hc k hlt
      by_cases ht : nth xs k = a
      · have t1 : (a == nth xs k) = true := by simp [ht]
        have HT : Hid _ := ht
        clear ht
        go_wp2
        go_ret
        exact Ro.i (ix_eq (.inl ⟨k, hlt, rfl, HT.out, HA.out⟩)) (by first | exact ⟨0, rfl⟩ | (simp only [World.drewN_drewN]; exact ⟨_, rfl⟩) | exact ⟨_, rfl⟩)
      · have t1 : (a == nth xs k) = false := by simp; omega
        go_wp2
        go_round
        case rel => exact ⟨k + 1, by omega, by go_num, fun i hi => by
          by_cases e : i = k
          · subst e; exact ht
          · exact HA.out i (by omega)⟩
        case measure => simp [intOf]; omega
    · obtain rfl : k = xs.length := by omega
      go_wp2
      go_ret
      exact Ro.i (ix_eq (.inr ⟨rfl, HA.out⟩)) (by first | exact ⟨0, rfl⟩ | (simp only [World.drewN_drewN]; exact ⟨_, rfl⟩) | exact ⟨_, rfl⟩)

theorem iFloorAt_c (b off cap : Nat) (xs : List Int) (a : Int) (w : World) (hc : Ints w b off xs) (hm : xs.length ≤ maxLen) :
    Calls Try.prog 15 #[.slice (some ⟨b, off, none⟩) xs.length cap, .int .i64 a] w (Ro w (.int .i64 (fa xs a))) := by
  by_cases hv : FV xs
  · have t1 := fvB_t hv
    have e : Hid _ := fa_ix (a := a) hv
    go_enter Try.func15, Try.ntmps15
    go_wp2_with (first | (go_at_call 31; refine (iFloorsValid_c _ _ _ _ _ hc hm).mono ?_; rintro e w' ⟨rfl, n1, rfl⟩) | (go_at_call 40; refine (index_c _ _ _ _ _ _ (hc.drewN _) hm).mono ?_; rintro e w' ⟨rfl, n2, rfl⟩))
    go_ret
    exact Ro.i e.out (by first | exact ⟨0, rfl⟩ | (simp only [World.drewN_drewN]; exact ⟨_, rfl⟩) | exact ⟨_, rfl⟩)
  · have t1 := fvB_f hv
    have e : Hid _ := fa_bad (a := a) hv
    go_enter Try.func15, Try.ntmps15
    go_wp2_with (first | (go_at_call 31; refine (iFloorsValid_c _ _ _ _ _ hc hm).mono ?_; rintro e w' ⟨rfl, n1, rfl⟩))
    go_ret
    exact Ro.i e.out (by first | exact ⟨0, rfl⟩ | (simp only [World.drewN_drewN]; exact ⟨_, rfl⟩) | exact ⟨_, rfl⟩)

set_option maxHeartbeats 400000 in
theorem sFloorAt_c (b off cap : Nat) (xs : List Int) (a : Int) (w : World) (hc : Ints w b off xs) (hm : xs.length ≤ maxLen) :
    Calls Try.prog 36 #[.slice (some ⟨b, off, none⟩) xs.length cap, .int .i64 a] w (Ro w (.int .i64 (fa xs a))) := by
  have hm2 := hm
  unfold maxLen at hm
  go_enter Try.func36, Try.ntmps36
  go_wp2
  obtain ⟨wo, hwo⟩ : ∃ wo : World, wo = w := ⟨_, rfl⟩
  go_loopw [5] (fun v wr => ∃ k n : Nat, k ≤ xs.length ∧ v = .int .i64 k ∧ wr = wo.drewN n ∧ (∀ i, i < k → nth xs i ≠ a)) (fun v _ => xs.length - (intOf v).toNat)
  case atStart => exact ⟨0, 0, by omega, rfl, by rw [hwo]; rfl, by omega⟩
  case round =>
    obtain ⟨k, n, hk2, rfl, hw, hall⟩ := hrel
    subst hwo
    replace hc : Ints wr b off xs := by rw [hw]; exact hc
    have HW : Hid _ := hw
    have HA : Hid _ := hall
    clear hw hall
    by_cases hlt : k < xs.length
    · have c1 : wr.cell? ⟨b, off + k, none⟩ = some (.int .i64 (nth xs k)) := hc k hlt
      by_cases hv : FV xs
      · have t1 := fvB_t hv
        by_cases ht : nth xs k = a
        · have t2 : (nth xs k == a) = true := by simp [ht]
          have HT : Hid _ := ht
          clear ht
          go_wp2_with (go_at_call 37; refine (sFloorsValid_c _ _ _ _ _ hc hm2).mono ?_; rintro e w' ⟨rfl, n1, rfl⟩)
          go_ret
          exact Ro.i (fa_at hv k hlt HT.out) (by rw [HW.out]; (try simp only [World.drewN_drewN]); exact ⟨_, rfl⟩)
        · have t2 : (nth xs k == a) = false := by simp [ht]
          have HT : Hid _ := ht
          clear ht
          go_wp2_with (go_at_call 37; refine (sFloorsValid_c _ _ _ _ _ hc hm2).mono ?_; rintro e w' ⟨rfl, n1, rfl⟩)
          go_roundw
          case rel => exact ⟨k + 1, _, by omega, by go_num, (by rw [HW.out]; first | exact World.drewN_drewN .. | (simp only [World.drewN_drewN]; rfl) | (simp only [World.drewN_drewN])), fun i hi => by
            by_cases e : i = k
            · subst e; exact HT.out
            · exact HA.out i (by omega)⟩
          case measure => simp [intOf]; omega
      · have t1 := fvB_f hv
        go_wp2_with (go_at_call 37; refine (sFloorsValid_c _ _ _ _ _ hc hm2).mono ?_; rintro e w' ⟨rfl, n1, rfl⟩)
        go_ret
        exact Ro.i (fa_bad hv) (by rw [HW.out]; (try simp only [World.drewN_drewN]); exact ⟨_, rfl⟩)
    · obtain rfl : k = xs.length := by omega
      go_wp2
      go_ret
      exact Ro.i (fa_no HA.out) (by rw [HW.out]; (try simp only [World.drewN_drewN]); exact ⟨_, rfl⟩)

end Go.Proofs.Ytcecmikmmggngaa
