/- The contracts of WorstLay and Discard, impl and spec. -/
import Derived.Test.Ytahfkeogfoejmaa7A
namespace Go.Proofs.Ytahfkeogfoejmaa
open Go.RowKit
set_option linter.unusedVariables false

set_option maxHeartbeats 1000000 in
theorem iWorstLay_c (b off len cap : Nat) (xs : List Int) (w : World) (hc : Ints w b off xs) (hl : xs.length = len) (hm : xs.length ≤ 1048576) :
    Calls Try.prog 18 #[.slice (some ⟨b, off, none⟩) len cap] w (Ro w (.int .i64 (wst xs))) := by
  have K := iRopeValid_c b off len cap xs w hc hl hm
  subst hl
  go_enter Try.func18, Try.ntmps18
  by_cases hv : RV xs
  case neg =>
    rw [rvB_f hv] at K
    go_wp2_with fail
    refine K.mono ?_
    rintro e w' ⟨rfl, n1, rfl⟩
    go_wp2_with fail
    go_ret
    exact Ro.i (wst_bad hv) (by first | exact ⟨0, rfl⟩ | (simp only [World.drewN_drewN]; exact ⟨_, rfl⟩) | exact ⟨_, rfl⟩)
  rw [rvB_t hv] at K
  go_wp2_with fail
  refine K.mono ?_
  rintro e w' ⟨rfl, n1, rfl⟩
  clear K
  go_wp2_with fail
  have HV : Hid _ := hv
  have hl24 := hv.1
  clear hv
  go_loop [3, 4, 12] (fun u s v => ∃ (k : Nat) (x : Int), k ≤ xs.length ∧ v = .int .i64 k ∧ u = .int .i64 x ∧ s = .int .i64 (sm xs k - sm xs (k - 4)) ∧ WE xs k x) (fun _ _ v => xs.length - (intOf v).toNat)
  case atStart => exact ⟨0, 0, by omega, rfl, rfl, rfl, WE.start xs⟩
  case round =>
    obtain ⟨k, x, hk2, rfl, rfl, rfl, hx⟩ := hrel
    obtain ⟨x0, x1⟩ := WE.bd HV.out hx
    have HX : Hid _ := hx
    clear hx
    by_cases hlt : k < xs.length
    · have c1 : w.cell? ⟨b, off + k, none⟩ = some (.int .i64 (nth xs k)) := hc k hlt
      obtain ⟨y0, y1⟩ := Win.bd HV.out (⟨by omega, by omega, by omega⟩ : Win xs (k - 4) k)
      obtain ⟨z0, z1⟩ := HV.out.2 k hlt
      have eS : sm xs (k + 1) = sm xs k + nth xs k := rfl
      obtain ⟨s, hs⟩ : ∃ s, sm xs k - sm xs (k - 4) = s := ⟨_, rfl⟩
      rw [hs] at y0 y1 ⊢
      by_cases h4 : 4 ≤ k
      · have hk4 : k - 4 < xs.length := by omega
        have c2 : w.cell? ⟨b, off + (k - 4), none⟩ = some (.int .i64 (nth xs (k - 4))) := hc (k - 4) hk4
        obtain ⟨v0, v1⟩ := HV.out.2 (k - 4) hk4
        have e4 : sm xs (k + 1 - 4) = sm xs (k - 4) + nth xs (k - 4) := by rw [show k + 1 - 4 = (k - 4) + 1 by omega]; rfl
        have eW : Hid (sm xs (k + 1) - sm xs (k + 1 - 4) = s + nth xs k - nth xs (k - 4)) := by show _ = _; rw [eS, e4, ← hs]; omega
        have ek : (k : Int) - 4 = ((k - 4 : Nat) : Int) := by omega
        have HE : Hid _ := ek
        have ekN : ((k : Int) - 4).toNat = k - 4 := by omega
        have ek0 : 0 ≤ (k : Int) - 4 := by omega
        have ekl : (k : Int) - 4 < (xs.length : Int) := by omega
        clear eS e4 hs ek
        rcases (by omega : s + nth xs k - nth xs (k - 4) ≤ x ∨ x < s + nth xs k - nth xs (k - 4)) with o | o
        · have o2 : Hid (WE xs (k + 1) x) := WE.stay HV.out HX.out (by rw [eW.out]; exact o)
          go_wp2
          all_goals
            go_round
            case rel => exact ⟨k + 1, _, by omega, by go_num, rfl, by rw [eW.out], by first | exact o2.out | (rw [show s + nth xs k - nth xs (k - 4) = x by omega]; exact o2.out)⟩
            case measure => simp [intOf]; omega
        · have o2 : Hid (WE xs (k + 1) (s + nth xs k - nth xs (k - 4))) := by have := WE.up HV.out HX.out (by omega) (by rw [eW.out]; omega); rw [eW.out] at this; exact this
          go_wp2
          all_goals
            go_round
            case rel => exact ⟨k + 1, _, by omega, by go_num, rfl, by rw [eW.out], o2.out⟩
            case measure => simp [intOf]; omega
      · have e0 : k - 4 = 0 := by omega
        have e1 : k + 1 - 4 = 0 := by omega
        have eW : Hid (sm xs (k + 1) - sm xs (k + 1 - 4) = s + nth xs k) := by show _ = _; rw [e0] at hs; rw [eS, e1, ← hs]; omega
        clear eS hs e0 e1
        rcases (by omega : s + nth xs k ≤ x ∨ x < s + nth xs k) with o | o
        · have o2 : Hid (WE xs (k + 1) x) := WE.stay HV.out HX.out (by rw [eW.out]; exact o)
          go_wp2
          all_goals
            go_round
            case rel => exact ⟨k + 1, _, by omega, by go_num, rfl, by rw [eW.out], by first | exact o2.out | (rw [show s + nth xs k = x by omega]; exact o2.out)⟩
            case measure => simp [intOf]; omega
        · have o2 : Hid (WE xs (k + 1) (s + nth xs k)) := by have := WE.up HV.out HX.out (by omega) (by rw [eW.out]; omega); rw [eW.out] at this; exact this
          go_wp2
          all_goals
            go_round
            case rel => exact ⟨k + 1, _, by omega, by go_num, rfl, by rw [eW.out], o2.out⟩
            case measure => simp [intOf]; omega
    · obtain rfl : k = xs.length := by omega
      go_wp2
      go_ret
      exact Ro.i (WE.done HV.out HX.out) (by first | exact ⟨0, rfl⟩ | (simp only [World.drewN_drewN]; exact ⟨_, rfl⟩) | exact ⟨_, rfl⟩)

set_option maxHeartbeats 1000000 in
theorem sWorstLay_c (b off len cap : Nat) (xs : List Int) (w : World) (hc : Ints w b off xs) (hl : xs.length = len) (hm : xs.length ≤ 1048576) :
    Calls Try.prog 19 #[.slice (some ⟨b, off, none⟩) len cap] w (Ro w (.int .i64 (wst xs))) := by
  have K := sRopeValid_c b off len cap xs w hc hl hm
  subst hl
  go_enter Try.func19, Try.ntmps19
  by_cases hv : RV xs
  case neg =>
    rw [rvB_f hv] at K
    go_wp2_with fail
    refine K.mono ?_
    rintro e w' ⟨rfl, n1, rfl⟩
    go_wp2_with fail
    go_ret
    exact Ro.i (wst_bad hv) (by first | exact ⟨0, rfl⟩ | (simp only [World.drewN_drewN]; exact ⟨_, rfl⟩) | exact ⟨_, rfl⟩)
  rw [rvB_t hv] at K
  go_wp2_with fail
  refine K.mono ?_
  rintro e w' ⟨rfl, n1, rfl⟩
  clear K
  go_wp2_with fail
  have HV : Hid _ := hv
  have hl24 := hv.1
  clear hv
  go_loop [3, 4] (fun u v => ∃ (k : Nat) (x : Int), k ≤ xs.length ∧ v = .int .i64 k ∧ u = .int .i64 x ∧ WA xs k x) (fun _ v => xs.length - (intOf v).toNat)
  case atStart => exact ⟨0, 0, by omega, rfl, rfl, WA.start xs⟩
  case round =>
    obtain ⟨k, x, hk2, rfl, rfl, hx⟩ := hrel
    obtain ⟨x0, x1⟩ := WA.bd HV.out hx
    have HX : Hid _ := hx
    clear hx
    by_cases hlt : k < xs.length
    · have hltI : (k : Int) < (xs.length : Int) := by omega
      go_wp2
      go_loop [5, 6] (fun s v => ∃ (j : Nat), k ≤ j ∧ j ≤ xs.length ∧ j ≤ k + 4 ∧ v = .int .i64 j ∧ s = .int .i64 (sm xs j - sm xs k)) (fun _ v => xs.length - (intOf v).toNat)
      case atStart => exact ⟨k, by omega, by omega, by omega, rfl, by simp⟩
      case round =>
        obtain ⟨j, hkj, hj, hj4, rfl, rfl⟩ := hrel
        obtain ⟨y0, y1⟩ := Win.bd HV.out (⟨hkj, hj, hj4⟩ : Win xs k j)
        by_cases hgo : j < xs.length ∧ j < k + 4
        · obtain ⟨g1, g2⟩ := hgo
          have c1 : w.cell? ⟨b, off + j, none⟩ = some (.int .i64 (nth xs j)) := hc j g1
          obtain ⟨z0, z1⟩ := HV.out.2 j g1
          have eS : Hid (sm xs (j + 1) - sm xs k = sm xs j - sm xs k + nth xs j) := by show sm xs j + nth xs j - sm xs k = _; omega
          obtain ⟨s, hs⟩ : ∃ s, sm xs j - sm xs k = s := ⟨_, rfl⟩
          rw [hs] at y0 y1 eS ⊢
          clear hs
          go_wp2
          go_round
          case rel => exact ⟨j + 1, by omega, by omega, by omega, by go_num, by rw [eS.out]⟩
          case measure => simp [intOf]; omega
        · have hend : Hid (j = xs.length ∨ j = k + 4) := by show _ ∨ _; omega
          have hgo2 : j = xs.length ∨ (j < xs.length ∧ j = k + 4) := by omega
          clear hgo
          have E : Hid (∀ x', (x' = x ∧ sm xs j - sm xs k ≤ x) ∨ (x' = sm xs j - sm xs k ∧ x ≤ sm xs j - sm xs k) → WA xs (k + 1) x') := by
            rintro x' (⟨rfl, h⟩ | ⟨rfl, h⟩)
            · exact WA.stay HV.out HX.out hend.out hj h
            · exact WA.up HV.out HX.out hend.out hj hkj hj4 h
          obtain ⟨s, hs⟩ : ∃ s, sm xs j - sm xs k = s := ⟨_, rfl⟩
          rw [hs] at y0 y1 E ⊢
          clear hs
          rcases hgo2 with g | ⟨g, g2⟩
          · have gI : ¬ ((j : Int) < (xs.length : Int)) := by omega
            go_wp2
            all_goals
              go_round
              case rel => exact ⟨k + 1, _, by omega, by go_num, rfl, E.out _ (by omega)⟩
              case measure => simp [intOf]; omega
          · have gI : ((j : Int) < (xs.length : Int)) := by omega
            have gJ : ¬ ((j : Int) < (k : Int) + 4) := by omega
            go_wp2
            all_goals
              go_round
              case rel => exact ⟨k + 1, _, by omega, by go_num, rfl, E.out _ (by omega)⟩
              case measure => simp [intOf]; omega
    · obtain rfl : k = xs.length := by omega
      go_wp2
      go_ret
      exact Ro.i (WA.done HV.out HX.out) (by first | exact ⟨0, rfl⟩ | (simp only [World.drewN_drewN]; exact ⟨_, rfl⟩) | exact ⟨_, rfl⟩)

theorem sDiscard_c (b off len cap : Nat) (xs : List Int) (m : Int) (w : World) (hc : Ints w b off xs) (hl : xs.length = len) (hm : xs.length ≤ 1048576) :
    Calls Try.prog 23 #[.slice (some ⟨b, off, none⟩) len cap, .int .i64 m] w (Ro w (.bool (dcB xs m))) := by
  have K : Hid _ := fun n => sRopeValid_c b off len cap xs (w.drewN n) hc hl hm
  have L : Hid _ := fun n => sWorstLay_c b off len cap xs (w.drewN n) hc hl hm
  have K0 : Hid _ := sRopeValid_c b off len cap xs w hc hl hm
  subst hl
  go_enter Try.func23, Try.ntmps23
  go_wp2_with fail
  refine Calls.mono K0.out ?_
  rintro e w' ⟨rfl, n1, rfl⟩
  by_cases hv : RV xs
  case neg =>
    have e := dcB_bad (m := m) hv
    rw [rvB_f hv]
    have E : Hid _ := e
    clear e hv
    go_wp2_with fail
    go_ret
    exact Ro.b E.out (by first | exact ⟨0, rfl⟩ | (simp only [World.drewN_drewN]; exact ⟨_, rfl⟩) | exact ⟨_, rfl⟩)
  rw [rvB_t hv]
  have HV : Hid _ := hv
  clear hv
  have L1 := L.out n1
  go_wp2_with fail
  refine L1.mono ?_
  rintro e w' ⟨rfl, n2, rfl⟩
  clear L1
  by_cases h : m < wst xs
  · have E : Hid _ := dcB_t HV.out h
    go_wp2_with fail
    go_ret
    exact Ro.b E.out (by first | exact ⟨0, rfl⟩ | (simp only [World.drewN_drewN]; exact ⟨_, rfl⟩) | exact ⟨_, rfl⟩)
  · have E : Hid _ := dcB_f (xs := xs) h
    go_wp2_with fail
    go_ret
    exact Ro.b (by rw [E.out, decide_eq_false (by omega)]) (by first | exact ⟨0, rfl⟩ | (simp only [World.drewN_drewN]; exact ⟨_, rfl⟩) | exact ⟨_, rfl⟩)

theorem iDiscard_c (b off len cap : Nat) (xs : List Int) (m : Int) (w : World) (hc : Ints w b off xs) (hl : xs.length = len) (hm : xs.length ≤ 1048576) :
    Calls Try.prog 22 #[.slice (some ⟨b, off, none⟩) len cap, .int .i64 m] w (Ro w (.bool (dcB xs m))) := by
  have L : Hid _ := fun n => iWorstLay_c b off len cap xs (w.drewN n) hc hl hm
  have K0 : Hid _ := iRopeValid_c b off len cap xs w hc hl hm
  subst hl
  go_enter Try.func22, Try.ntmps22
  go_wp2_with fail
  refine Calls.mono K0.out ?_
  rintro e w' ⟨rfl, n1, rfl⟩
  by_cases hv : RV xs
  case neg =>
    have e := dcB_bad (m := m) hv
    rw [rvB_f hv]
    have E : Hid _ := e
    clear e hv
    go_wp2_with fail
    go_ret
    exact Ro.b E.out (by first | exact ⟨0, rfl⟩ | (simp only [World.drewN_drewN]; exact ⟨_, rfl⟩) | exact ⟨_, rfl⟩)
  rw [rvB_t hv]
  have HV : Hid _ := hv
  clear hv
  have L1 := L.out n1
  go_wp2_with fail
  refine L1.mono ?_
  rintro e w' ⟨rfl, n2, rfl⟩
  clear L1
  by_cases h : m < wst xs
  · have E : Hid _ := dcB_t HV.out h
    go_wp2_with fail
    go_ret
    exact Ro.b E.out (by first | exact ⟨0, rfl⟩ | (simp only [World.drewN_drewN]; exact ⟨_, rfl⟩) | exact ⟨_, rfl⟩)
  · have E : Hid _ := dcB_f (xs := xs) h
    go_wp2_with fail
    go_ret
    exact Ro.b (by rw [E.out, decide_eq_false (by omega)]) (by first | exact ⟨0, rfl⟩ | (simp only [World.drewN_drewN]; exact ⟨_, rfl⟩) | exact ⟨_, rfl⟩)
end Go.Proofs.Ytahfkeogfoejmaa
