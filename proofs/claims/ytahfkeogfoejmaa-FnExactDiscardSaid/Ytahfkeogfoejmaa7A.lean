/- The contracts of RopeValid, WorstLay, Discard, impl and spec. -/
import Derived.Test.YtahfkeogfoejmaaD
import Derived.Test.YtahfkeogfoejmaaK
import Derived.Test.Ytahfkeogfoejmaa7P
namespace Go.Proofs.Ytahfkeogfoejmaa
open Go.RowKit
set_option linter.unusedVariables false

theorem RV.n {xs : List Int} (h : ∀ i, i < xs.length → 0 ≤ nth xs i ∧ nth xs i ≤ 9) (g : xs.length ≤ 24) : RV xs := ⟨g, h⟩
set_option maxHeartbeats 400000 in
theorem sRopeValid_c (b off len cap : Nat) (xs : List Int) (w : World) (hc : Ints w b off xs) (hl : xs.length = len) (hm : xs.length ≤ 1048576) :
    Calls Try.prog 15 #[.slice (some ⟨b, off, none⟩) len cap] w (Ro w (.bool (rvB xs))) := by
  subst hl
  go_enter Try.func15, Try.ntmps15
  go_wp2
  obtain ⟨wo, hwo⟩ : ∃ wo : World, wo = w := ⟨_, rfl⟩
  go_loopw [3] (fun v wr => ∃ k n : Nat, k ≤ xs.length ∧ v = .int .i64 k ∧ wr = wo.drewN n ∧ (∀ i, i < k → 0 ≤ nth xs i ∧ nth xs i ≤ 9)) (fun v _ => xs.length - (intOf v).toNat)
  case atStart => exact ⟨0, 0, by omega, rfl, by rw [hwo]; rfl, by omega⟩
  case round =>
    obtain ⟨k, n, hk2, rfl, hw, hall⟩ := hrel
    subst hwo
    replace hc : Ints wr b off xs := by rw [hw]; exact hc
    have HW : Hid _ := hw
    have HA : Hid _ := hall
    clear hw hall
    by_cases hlt : k < xs.length
    · have c1 : wr.cell? ⟨b, off + k, none⟩ = some (.int .i64 (nth xs k)) := hc k hlt
      by_cases ht : 0 ≤ nth xs k ∧ nth xs k ≤ 9
      · have t1 := inB_t ht
        obtain ⟨h1, h2⟩ := ht
        go_wp2_with (go_at_call 34; refine (l1In_c _ _ _ _).mono ?_; rintro e w' ⟨rfl, n1, rfl⟩)
        go_roundw
        case rel => exact ⟨k + 1, _, by omega, by go_num, (by rw [HW.out]; first | exact World.drewN_drewN .. | (simp only [World.drewN_drewN]; rfl) | (simp only [World.drewN_drewN])), fun i hi => by
          by_cases e : i = k
          · subst e; exact ⟨h1, h2⟩
          · exact HA.out i (by omega)⟩
        case measure => simp [intOf]; omega
      · have t1 := inB_f ht
        have hno : Hid (¬ RV xs) := fun h : RV xs => ht (h.2 k hlt)
        clear ht
        go_wp2_with (go_at_call 34; refine (l1In_c _ _ _ _).mono ?_; rintro e w' ⟨rfl, n1, rfl⟩)
        go_ret
        exact Ro.b (rvB_f hno.out) (by rw [HW.out]; (try simp only [World.drewN_drewN]); exact ⟨_, rfl⟩)
    · obtain rfl : k = xs.length := by omega
      by_cases h8 : xs.length ≤ 24
      · have hok : Hid (RV xs) := ⟨h8, HA.out⟩
        go_wp2
        go_ret
        exact Ro.b (by rw [rvB_t hok.out]; simp; omega) (by rw [HW.out]; (try simp only [World.drewN_drewN]); exact ⟨_, rfl⟩)
      · have hno : Hid (¬ RV xs) := fun h : RV xs => h8 h.1
        go_wp2
        go_ret
        exact Ro.b (by rw [rvB_f hno.out]; simp; omega) (by rw [HW.out]; (try simp only [World.drewN_drewN]); exact ⟨_, rfl⟩)

set_option maxHeartbeats 400000 in
theorem iRopeValid_c (b off len cap : Nat) (xs : List Int) (w : World) (hc : Ints w b off xs) (hl : xs.length = len) (hm : xs.length ≤ 1048576) :
    Calls Try.prog 14 #[.slice (some ⟨b, off, none⟩) len cap] w (Ro w (.bool (rvB xs))) := by
  subst hl
  go_enter Try.func14, Try.ntmps14
  by_cases h8 : 24 < xs.length
  · have hno : Hid (¬ RV xs) := fun h : RV xs => by have := h.1; omega
    go_wp2
    go_ret
    exact Ro.b (rvB_f hno.out) (by first | exact ⟨0, rfl⟩ | (simp only [World.drewN_drewN]; exact ⟨_, rfl⟩) | exact ⟨_, rfl⟩)
  go_wp2
  go_loop [10] (fun v => ∃ k : Nat, k ≤ xs.length ∧ v = .int .i64 k ∧ (∀ i, i < k → 0 ≤ nth xs i ∧ nth xs i ≤ 9)) (fun v => xs.length - (intOf v).toNat)
  case atStart => exact ⟨0, by omega, rfl, by omega⟩
  case round =>
    obtain ⟨k, hk2, rfl, hall⟩ := hrel
    have HA : Hid _ := hall
    clear hall
    by_cases hlt : k < xs.length
    · have c1 : w.cell? ⟨b, off + k, none⟩ = some (.int .i64 (nth xs k)) := hc k hlt
      by_cases h1 : 0 ≤ nth xs k
      · by_cases h2 : nth xs k ≤ 9
        · go_wp2
          go_round
          case rel => exact ⟨k + 1, by omega, by go_num, fun i hi => by
            by_cases e : i = k
            · subst e; exact ⟨h1, h2⟩
            · exact HA.out i (by omega)⟩
          case measure => simp [intOf]; omega
        · have hno : Hid (¬ RV xs) := fun h : RV xs => h2 (h.2 k hlt).2
          go_wp2
          go_ret
          exact Ro.b (rvB_f hno.out) (by first | exact ⟨0, rfl⟩ | (simp only [World.drewN_drewN]; exact ⟨_, rfl⟩) | exact ⟨_, rfl⟩)
      · have hno : Hid (¬ RV xs) := fun h : RV xs => h1 (h.2 k hlt).1
        go_wp2
        go_ret
        exact Ro.b (rvB_f hno.out) (by first | exact ⟨0, rfl⟩ | (simp only [World.drewN_drewN]; exact ⟨_, rfl⟩) | exact ⟨_, rfl⟩)
    · obtain rfl : k = xs.length := by omega
      have hok : Hid (RV xs) := ⟨by omega, HA.out⟩
      go_wp2
      go_ret
      exact Ro.b (rvB_t hok.out) (by first | exact ⟨0, rfl⟩ | (simp only [World.drewN_drewN]; exact ⟨_, rfl⟩) | exact ⟨_, rfl⟩)

/-- The worst so far: of the windows that begin before a place. -/
def WA (xs : List Int) (k : Nat) (x : Int) : Prop := (∃ a e, Win xs a e ∧ sm xs e - sm xs a = x) ∧ ∀ a e, Win xs a e → a < k → sm xs e - sm xs a ≤ x
/-- Of the windows that end before a place. -/
def WE (xs : List Int) (k : Nat) (x : Int) : Prop := (∃ a e, Win xs a e ∧ sm xs e - sm xs a = x) ∧ ∀ a e, Win xs a e → e ≤ k → sm xs e - sm xs a ≤ x
theorem win0 (xs : List Int) : Win xs 0 0 := ⟨by omega, by omega, by omega⟩
theorem WA.start (xs : List Int) : WA xs 0 0 := ⟨⟨0, 0, win0 xs, rfl⟩, fun a e _ h => by omega⟩
theorem WE.start (xs : List Int) : WE xs 0 0 := ⟨⟨0, 0, win0 xs, rfl⟩, fun a e hw h => by
  have := hw.1
  obtain rfl : e = 0 := by omega
  obtain rfl : a = 0 := by omega
  exact Int.le_refl _⟩
theorem Win.bd {xs : List Int} (hv : RV xs) {a e : Nat} (h : Win xs a e) : 0 ≤ sm xs e - sm xs a ∧ sm xs e - sm xs a ≤ 216 := by
  have := hv.mono e a h.1 h.2.1
  have := hv.bd e h.2.1
  have := hv.bd a (by have := h.1; have := h.2.1; omega)
  omega
theorem WA.bd {xs : List Int} {k : Nat} {x : Int} (hv : RV xs) (h : WA xs k x) : 0 ≤ x ∧ x ≤ 216 := by
  obtain ⟨⟨a, e, hw, rfl⟩, _⟩ := h; exact Win.bd hv hw
theorem WE.bd {xs : List Int} {k : Nat} {x : Int} (hv : RV xs) (h : WE xs k x) : 0 ≤ x ∧ x ≤ 216 := by
  obtain ⟨⟨a, e, hw, rfl⟩, _⟩ := h; exact Win.bd hv hw
/-- The greatest window that begins at a place. -/
theorem Win.most {xs : List Int} (hv : RV xs) {k j e : Nat} (hend : j = xs.length ∨ j = k + 4) (hj : j ≤ xs.length) (h : Win xs k e) : sm xs e ≤ sm xs j :=
  hv.mono j e (by have := h.2.1; have := h.2.2; omega) hj
theorem WA.stay {xs : List Int} {k j : Nat} {x : Int} (hv : RV xs) (h : WA xs k x) (hend : j = xs.length ∨ j = k + 4) (hj : j ≤ xs.length) (hle : sm xs j - sm xs k ≤ x) : WA xs (k + 1) x :=
  ⟨h.1, fun a e hw ha => by
    by_cases c : a = k
    · subst c; have := Win.most hv hend hj hw; omega
    · exact h.2 a e hw (by omega)⟩
theorem WA.up {xs : List Int} {k j : Nat} {x : Int} (hv : RV xs) (h : WA xs k x) (hend : j = xs.length ∨ j = k + 4) (hj : j ≤ xs.length) (hkj : k ≤ j) (hj4 : j ≤ k + 4) (hle : x ≤ sm xs j - sm xs k) : WA xs (k + 1) (sm xs j - sm xs k) :=
  ⟨⟨k, j, ⟨hkj, hj, hj4⟩, rfl⟩, fun a e hw ha => by
    by_cases c : a = k
    · subst c; have := Win.most hv hend hj hw; omega
    · have := h.2 a e hw (by omega); omega⟩
theorem WA.done {xs : List Int} {x : Int} (hv : RV xs) (h : WA xs xs.length x) : wst xs = x := wst_eq (.inl ⟨hv, h.1, fun a e hw => by
  by_cases c : a < xs.length
  · exact h.2 a e hw c
  · have h1 := hw.1
    have h2 := hw.2.1
    obtain rfl : e = a := by omega
    have := WA.bd hv h
    omega⟩)
theorem Win.last {xs : List Int} (hv : RV xs) {k a : Nat} (h : Win xs a k) : sm xs (k - 4) ≤ sm xs a := hv.mono a (k - 4) (by have := h.2.2; omega) (by have := h.1; have := h.2.1; omega)
theorem WE.stay {xs : List Int} {k : Nat} {x : Int} (hv : RV xs) (h : WE xs k x) (hle : sm xs (k + 1) - sm xs (k + 1 - 4) ≤ x) : WE xs (k + 1) x :=
  ⟨h.1, fun a e hw ha => by
    by_cases c : e = k + 1
    · subst c; have := Win.last hv hw; omega
    · exact h.2 a e hw (by omega)⟩
theorem WE.up {xs : List Int} {k : Nat} {x : Int} (hv : RV xs) (h : WE xs k x) (hk : k + 1 ≤ xs.length) (hle : x ≤ sm xs (k + 1) - sm xs (k + 1 - 4)) : WE xs (k + 1) (sm xs (k + 1) - sm xs (k + 1 - 4)) :=
  ⟨⟨k + 1 - 4, k + 1, ⟨by omega, hk, by omega⟩, rfl⟩, fun a e hw ha => by
    by_cases c : e = k + 1
    · subst c; have := Win.last hv hw; omega
    · have := h.2 a e hw (by omega); omega⟩
theorem WE.done {xs : List Int} {x : Int} (hv : RV xs) (h : WE xs xs.length x) : wst xs = x := wst_eq (.inl ⟨hv, h.1, fun a e hw => h.2 a e hw hw.2.1⟩)
end Go.Proofs.Ytahfkeogfoejmaa
