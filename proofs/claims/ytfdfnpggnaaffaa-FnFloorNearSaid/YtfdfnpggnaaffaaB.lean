/- The contracts of FloorAt, FloorBelow, FloorNear, FloorWay, impl and spec. -/
import Derived.Test.YtfdfnpggnaaffaaA
namespace Go.Proofs.Ytfdfnpggnaaffaa
open Go.RowKit
set_option linter.unusedVariables false

set_option maxHeartbeats 400000 in
theorem index_c (b off cap : Nat) (xs : List Int) (a : Int) (w : World) (hc : Ints w b off xs) (hm : xs.length ≤ maxLen) :
    Calls Try.prog 35 #[.slice (some ⟨b, off, none⟩) xs.length cap, .int .i64 a] w (Ro w (.int .i64 (ix xs a))) := by
  unfold maxLen at hm
  go_enter Try.func35, Try.ntmps35
  go_wp2
  go_loop [8] (fun v => ∃ k : Nat, k ≤ xs.length ∧ v = .int .i64 k ∧ ∀ i, i < k → nth xs i ≠ a) (fun v => xs.length - (intOf v).toNat)
  case atStart => exact ⟨0, by omega, rfl, by omega⟩
  case round =>
    obtain ⟨k, hk2, rfl, hall⟩ := hrel
    have HA : Hid _ := hall
    clear hall
    by_cases hlt : k < xs.length
    · have c1 : w.cell? ⟨b, off + k, none⟩ = some (.int .i64 (nth xs k)) := hc k hlt
      by_cases ht : nth xs k = a
      · have t1 : (a == nth xs k) = true := by simp [ht]
        have HT : Hid _ := ht
        clear ht
        go_wp2
        go_ret
        exact Ro.i (ix_eq (.inl ⟨k, hlt, rfl, HT.out, HA.out⟩)) (by first | exact ⟨0, rfl⟩ | (simp only [World.drewN_drewN]; exact ⟨_, rfl⟩) | exact ⟨_, rfl⟩)
      · have t1 : (a == nth xs k) = false := by simp; omega
        go_wp2
        go_round
        case rel => exact ⟨k + 1, by omega, by go_num, fun i hi => by
          by_cases e : i = k
          · subst e; exact ht
          · exact HA.out i (by omega)⟩
        case measure => simp [intOf]; omega
    · obtain rfl : k = xs.length := by omega
      go_wp2
      go_ret
      exact Ro.i (ix_eq (.inr ⟨rfl, HA.out⟩)) (by first | exact ⟨0, rfl⟩ | (simp only [World.drewN_drewN]; exact ⟨_, rfl⟩) | exact ⟨_, rfl⟩)

theorem iFloorAt_c (b off cap : Nat) (xs : List Int) (a : Int) (w : World) (hc : Ints w b off xs) (hm : xs.length ≤ maxLen) :
    Calls Try.prog 18 #[.slice (some ⟨b, off, none⟩) xs.length cap, .int .i64 a] w (Ro w (.int .i64 (fa xs a))) := by
  by_cases hv : FV xs
  · have t1 := fvB_t hv
    have e : Hid _ := fa_ix (a := a) hv
    go_enter Try.func18, Try.ntmps18
    go_wp2_with (first | (go_at_call 14; refine (iFloorsValid_c _ _ _ _ _ hc hm).mono ?_; rintro e w' ⟨rfl, n1, rfl⟩) | (go_at_call 35; refine (index_c _ _ _ _ _ _ (hc.drewN _) hm).mono ?_; rintro e w' ⟨rfl, n2, rfl⟩))
    go_ret
    exact Ro.i e.out (by first | exact ⟨0, rfl⟩ | (simp only [World.drewN_drewN]; exact ⟨_, rfl⟩) | exact ⟨_, rfl⟩)
  · have t1 := fvB_f hv
    have e : Hid _ := fa_bad (a := a) hv
    go_enter Try.func18, Try.ntmps18
    go_wp2_with (first | (go_at_call 14; refine (iFloorsValid_c _ _ _ _ _ hc hm).mono ?_; rintro e w' ⟨rfl, n1, rfl⟩))
    go_ret
    exact Ro.i e.out (by first | exact ⟨0, rfl⟩ | (simp only [World.drewN_drewN]; exact ⟨_, rfl⟩) | exact ⟨_, rfl⟩)

set_option maxHeartbeats 400000 in
theorem sFloorAt_c (b off cap : Nat) (xs : List Int) (a : Int) (w : World) (hc : Ints w b off xs) (hm : xs.length ≤ maxLen) :
    Calls Try.prog 19 #[.slice (some ⟨b, off, none⟩) xs.length cap, .int .i64 a] w (Ro w (.int .i64 (fa xs a))) := by
  have hm2 := hm
  unfold maxLen at hm
  go_enter Try.func19, Try.ntmps19
  go_wp2
  obtain ⟨wo, hwo⟩ : ∃ wo : World, wo = w := ⟨_, rfl⟩
  go_loopw [5] (fun v wr => ∃ k n : Nat, k ≤ xs.length ∧ v = .int .i64 k ∧ wr = wo.drewN n ∧ (∀ i, i < k → nth xs i ≠ a)) (fun v _ => xs.length - (intOf v).toNat)
  case atStart => exact ⟨0, 0, by omega, rfl, by rw [hwo]; rfl, by omega⟩
  case round =>
    obtain ⟨k, n, hk2, rfl, hw, hall⟩ := hrel
    subst hwo
    replace hc : Ints wr b off xs := by rw [hw]; exact hc
    have HW : Hid _ := hw
    have HA : Hid _ := hall
    clear hw hall
    by_cases hlt : k < xs.length
    · have c1 : wr.cell? ⟨b, off + k, none⟩ = some (.int .i64 (nth xs k)) := hc k hlt
      by_cases hv : FV xs
      · have t1 := fvB_t hv
        by_cases ht : nth xs k = a
        · have t2 : (nth xs k == a) = true := by simp [ht]
          have HT : Hid _ := ht
          clear ht
          go_wp2_with (go_at_call 15; refine (sFloorsValid_c _ _ _ _ _ hc hm2).mono ?_; rintro e w' ⟨rfl, n1, rfl⟩)
          go_ret
          exact Ro.i (fa_at hv k hlt HT.out) (by rw [HW.out]; (try simp only [World.drewN_drewN]); exact ⟨_, rfl⟩)
        · have t2 : (nth xs k == a) = false := by simp [ht]
          have HT : Hid _ := ht
          clear ht
          go_wp2_with (go_at_call 15; refine (sFloorsValid_c _ _ _ _ _ hc hm2).mono ?_; rintro e w' ⟨rfl, n1, rfl⟩)
          go_roundw
          case rel => exact ⟨k + 1, _, by omega, by go_num, (by rw [HW.out]; first | exact World.drewN_drewN .. | (simp only [World.drewN_drewN]; rfl) | (simp only [World.drewN_drewN])), fun i hi => by
            by_cases e : i = k
            · subst e; exact HT.out
            · exact HA.out i (by omega)⟩
          case measure => simp [intOf]; omega
      · have t1 := fvB_f hv
        go_wp2_with (go_at_call 15; refine (sFloorsValid_c _ _ _ _ _ hc hm2).mono ?_; rintro e w' ⟨rfl, n1, rfl⟩)
        go_ret
        exact Ro.i (fa_bad hv) (by rw [HW.out]; (try simp only [World.drewN_drewN]); exact ⟨_, rfl⟩)
    · obtain rfl : k = xs.length := by omega
      go_wp2
      go_ret
      exact Ro.i (fa_no HA.out) (by rw [HW.out]; (try simp only [World.drewN_drewN]); exact ⟨_, rfl⟩)

set_option maxHeartbeats 400000 in
theorem iFloorBelow_c (b off cap : Nat) (xs : List Int) (a : Int) (w : World) (hc : Ints w b off xs) (hm : xs.length ≤ maxLen) :
    Calls Try.prog 21 #[.slice (some ⟨b, off, none⟩) xs.length cap, .int .i64 a] w (Ro w (.int .i64 (fb xs a))) := by
  have hm2 := hm
  unfold maxLen at hm
  by_cases hv : FV xs
  case neg =>
    have t1 := fvB_f hv
    go_enter Try.func21, Try.ntmps21
    go_wp2_with (go_at_call 14; refine (iFloorsValid_c _ _ _ _ _ hc hm2).mono ?_; rintro e w' ⟨rfl, n1, rfl⟩)
    go_ret
    exact Ro.i (fb_bad (fun h => hv h.1)) (by first | exact ⟨0, rfl⟩ | (simp only [World.drewN_drewN]; exact ⟨_, rfl⟩) | exact ⟨_, rfl⟩)
  have t1 := fvB_t hv
  by_cases ha : 0 ≤ a ∧ a ≤ 60
  case neg =>
    have t2 := inB_f ha
    have e : Hid _ := fb_bad (xs := xs) (a := a) (fun h => ha h.2)
    clear ha
    go_enter Try.func21, Try.ntmps21
    go_wp2_with (first | (go_at_call 14; refine (iFloorsValid_c _ _ _ _ _ hc hm2).mono ?_; rintro e w' ⟨rfl, n1, rfl⟩) | (go_at_call 36; refine (isStep_c _ _).mono ?_; rintro e w' ⟨rfl, n2, rfl⟩))
    go_ret
    exact Ro.i e.out (by first | exact ⟨0, rfl⟩ | (simp only [World.drewN_drewN]; exact ⟨_, rfl⟩) | exact ⟨_, rfl⟩)
  have t2 := inB_t ha
  have hz := hv.2.2.1
  have HZ : Hid _ := hz
  have HV : Hid _ := ha
  clear ha hz
  go_enter Try.func21, Try.ntmps21
  go_wp2_with (first | (go_at_call 14; refine (iFloorsValid_c _ _ _ _ _ hc hm2).mono ?_; rintro e w' ⟨rfl, n1, rfl⟩) | (go_at_call 36; refine (isStep_c _ _).mono ?_; rintro e w' ⟨rfl, n2, rfl⟩))
  go_loop [5, 18] (fun u v => ∃ k j : Nat, k ≤ xs.length ∧ v = .int .i64 k ∧ u = .int .i64 j ∧ j < xs.length ∧ nth xs j ≤ a ∧ (∀ i, j < i → i < k → a < nth xs i)) (fun _ v => xs.length - (intOf v).toNat)
  case atStart => exact ⟨0, 0, by omega, rfl, rfl, by have := hv.1; omega, by rw [HZ.out]; exact HV.out.1, by omega⟩
  case round =>
    obtain ⟨k, j, hk2, rfl, rfl, hj, hja, hall⟩ := hrel
    have HA : Hid _ := hall
    have HJ : Hid _ := hja
    clear hall hja
    by_cases hlt : k < xs.length
    · have c1 : w.cell? ⟨b, off + k, none⟩ = some (.int .i64 (nth xs k)) := hc k hlt
      by_cases ht : nth xs k ≤ a
      · go_wp2
        go_round
        case rel => exact ⟨k + 1, k, by omega, by go_num, rfl, hlt, ht, fun i hi hi2 => by omega⟩
        case measure => simp [intOf]; omega
      · go_wp2
        go_round
        case rel => exact ⟨k + 1, j, by omega, by go_num, rfl, hj, HJ.out, fun i hi hi2 => by
          by_cases e : i = k
          · subst e; omega
          · exact HA.out i hi (by omega)⟩
        case measure => simp [intOf]; omega
    · obtain rfl : k = xs.length := by omega
      go_wp2
      go_ret
      exact Ro.i (fb_eq (.inl ⟨hv, HV.out.1, HV.out.2, j, hj, rfl, HJ.out, HA.out⟩)) (by first | exact ⟨0, rfl⟩ | (simp only [World.drewN_drewN]; exact ⟨_, rfl⟩) | exact ⟨_, rfl⟩)

set_option maxHeartbeats 400000 in
theorem sFloorBelow_c (b off cap : Nat) (xs : List Int) (a : Int) (w : World) (hc : Ints w b off xs) (hm : xs.length ≤ maxLen) :
    Calls Try.prog 22 #[.slice (some ⟨b, off, none⟩) xs.length cap, .int .i64 a] w (Ro w (.int .i64 (fb xs a))) := by
  have hm2 := hm
  unfold maxLen at hm
  go_enter Try.func22, Try.ntmps22
  go_wp2
  obtain ⟨wo, hwo⟩ : ∃ wo : World, wo = w := ⟨_, rfl⟩
  go_loopw [5, 6] (fun u v wr => ∃ k n : Nat, ∃ j : Int, k ≤ xs.length ∧ v = .int .i64 k ∧ wr = wo.drewN n ∧ u = .int .i64 j ∧ ((k = 0 ∧ j = -1) ∨ (FV xs ∧ 0 ≤ a ∧ a ≤ 60 ∧ 0 ≤ j ∧ j < xs.length ∧ nth xs j.toNat ≤ a ∧ (∀ i, j < (i : Nat) → i < k → a < nth xs i)))) (fun _ v _ => xs.length - (intOf v).toNat)
  case atStart => exact ⟨0, 0, -1, by omega, rfl, by rw [hwo]; rfl, rfl, .inl ⟨rfl, rfl⟩⟩
  case round =>
    obtain ⟨k, n, j, hk2, rfl, hw, rfl, hall⟩ := hrel
    subst hwo
    replace hc : Ints wr b off xs := by rw [hw]; exact hc
    have HW : Hid _ := hw
    have HA : Hid _ := hall
    clear hw hall
    by_cases hlt : k < xs.length
    · have c1 : wr.cell? ⟨b, off + k, none⟩ = some (.int .i64 (nth xs k)) := hc k hlt
      by_cases hv : FV xs
      case neg =>
        have t1 := fvB_f hv
        have hj : j = -1 := by rcases HA.out with h | h; exact h.2; exact absurd h.1 hv
        go_wp2_with (go_at_call 15; refine (sFloorsValid_c _ _ _ _ _ hc hm2).mono ?_; rintro e w' ⟨rfl, n1, rfl⟩)
        go_ret
        exact Ro.i (fb_bad (fun h => hv h.1)) (by rw [HW.out]; (try simp only [World.drewN_drewN]); exact ⟨_, rfl⟩)
      have t1 := fvB_t hv
      by_cases ha : 0 ≤ a ∧ a ≤ 60
      case neg =>
        have t2 := inB_f ha
        obtain rfl : j = -1 := by rcases HA.out with h | h; exact h.2; exact absurd ⟨h.2.1, h.2.2.1⟩ ha
        have e : Hid _ := fb_bad (xs := xs) (a := a) (fun h => ha h.2)
        clear ha
        go_wp2_with (first | (go_at_call 15; refine (sFloorsValid_c _ _ _ _ _ hc hm2).mono ?_; rintro e w' ⟨rfl, n1, rfl⟩) | (go_at_call 33; refine (l1In_c _ _ _ _).mono ?_; rintro e w' ⟨rfl, n2, rfl⟩))
        go_ret
        exact Ro.i e.out (by rw [HW.out]; (try simp only [World.drewN_drewN]); exact ⟨_, rfl⟩)
      have t2 := inB_t ha
      have HB : Hid _ := ha
      clear ha
      by_cases ht : nth xs k ≤ a
      · go_wp2_with (first | (go_at_call 15; refine (sFloorsValid_c _ _ _ _ _ hc hm2).mono ?_; rintro e w' ⟨rfl, n1, rfl⟩) | (go_at_call 33; refine (l1In_c _ _ _ _).mono ?_; rintro e w' ⟨rfl, n2, rfl⟩))
        go_roundw
        case rel => exact ⟨k + 1, _, k, by omega, by go_num, (by rw [HW.out]; first | exact World.drewN_drewN .. | (simp only [World.drewN_drewN]; rfl) | (simp only [World.drewN_drewN])), rfl, .inr ⟨hv, HB.out.1, HB.out.2, by omega, by omega, by simpa using ht, fun i hi hi2 => by omega⟩⟩
        case measure => simp [intOf]; omega
      · go_wp2_with (first | (go_at_call 15; refine (sFloorsValid_c _ _ _ _ _ hc hm2).mono ?_; rintro e w' ⟨rfl, n1, rfl⟩) | (go_at_call 33; refine (l1In_c _ _ _ _).mono ?_; rintro e w' ⟨rfl, n2, rfl⟩))
        go_roundw
        case rel =>
          refine ⟨k + 1, _, j, by omega, by go_num, (by rw [HW.out]; first | exact World.drewN_drewN .. | (simp only [World.drewN_drewN]; rfl) | (simp only [World.drewN_drewN])), rfl, ?_⟩
          rcases HA.out with ⟨rfl, rfl⟩ | h
          · have := hv.2.2.1; have := HB.out; omega
          · refine .inr ⟨hv, HB.out.1, HB.out.2, h.2.2.2.1, h.2.2.2.2.1, h.2.2.2.2.2.1, fun i hi hi2 => ?_⟩
            by_cases e : i = k
            · subst e; omega
            · exact h.2.2.2.2.2.2 i hi (by omega)
        case measure => simp [intOf]; omega
    · obtain rfl : k = xs.length := by omega
      go_wp2
      go_ret
      refine Ro.i ?_ (by rw [HW.out]; (try simp only [World.drewN_drewN]); exact ⟨_, rfl⟩)
      rcases HA.out with ⟨h0, rfl⟩ | ⟨hv, h0, h6, hj, hj2, hn, hu⟩
      · exact fb_bad (fun h => by have := h.1.1; omega)
      · exact fb_eq (.inl ⟨hv, h0, h6, j.toNat, by omega, by omega, hn, fun i hi hi2 => hu i (by omega) hi2⟩)
end Go.Proofs.Ytfdfnpggnaaffaa
