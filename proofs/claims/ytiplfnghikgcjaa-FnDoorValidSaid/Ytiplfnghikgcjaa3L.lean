/- The laws of chapter 3: the walks of DoorValid, DoorTicks. -/
import Derived.Test.Ytiplfnghikgcjaa3U
import Derived.Test.Ytiplfnghikgcjaa3X
import Derived.Test.YtiplfnghikgcjaaL
import Derived.Deep.RegionWith
namespace Go.Proofs.Ytiplfnghikgcjaa
open Go.RowKit
set_option linter.unusedVariables false

theorem fieldGap (a s : Int) (w : World) : (Instr.field 24 (Value.agg #[.int .i64 (a), .int .i64 (s)]) 0).run Try.prog w = .ok (.int .i64 a) w := rfl
set_option maxHeartbeats 400000 in
theorem DoorValid_w (a : Option Addr) (n cap : Nat) (w : World) (hb : Byt w a n) (hn : n ≤ cap) (hcap : cap ≤ maxLen) :
    Calls Try.prog 3 #[.slice a n cap] w (LawOk w) := by
  have hcap' := hcap
  unfold maxLen at hcap'
  by_cases hbig : 1048576 < n
  · go_enter Try.func3, Try.ntmps3
    go_wp2
    go_ret
    exact LawOk.mk (Below.refl _ _)
  go_enter Try.func3, Try.ntmps3
  go_wp2_with fail
  refine (DrawDoorValid_c a n cap _ hb hn hcap).mono ?_
  rintro e w1 ⟨x, s, rfl, x0, x1, s0, s1, hB⟩
  have M2 : Hid _ := Box.new w1 x s 24
  have T1 : Hid (Below w.heap.size w (w1.alloc (.cells #[.int .i64 x, .int .i64 s] 24))) := Below.al hB _
  clear hB
  go_wp2_with fail
  refine (iDoorValid_c x s _).mono ?_
  rintro e w2 ⟨rfl, hb2⟩
  have M3 : Hid _ := Box.below M2.out hb2
  have T2 : Hid (Below w.heap.size w w2) := below_next T1.out hb2
  clear hb2
  obtain ⟨⟨c0, c1⟩, f0, f1⟩ := M3.out
  go_wp2_with fail
  refine (sDoorValid_c x s _).mono ?_
  rintro e w3 ⟨rfl, hb2⟩
  have M4 : Hid _ := Box.below M3.out hb2
  have T3 : Hid (Below w.heap.size w w3) := below_next T2.out hb2
  clear hb2 c0 c1 f0 f1
  obtain ⟨⟨c0, c1⟩, f0, f1⟩ := M4.out
  have hneg : dvB 1 1 = false := by decide
  cases hv : dvB x s
  · go_wp2_with fail
    refine (iDoorValid_c 1 1 _).mono ?_
    rintro e w4 ⟨rfl, hb2⟩
    have T4 : Hid (Below w.heap.size w w4) := below_next T3.out hb2
    clear hb2
    go_wp2_with fail
    refine (alive_c _).mono ?_
    rintro e' w9 ⟨rfl, hB9⟩
    have T9 : Hid (Below w.heap.size w w9) := below_next T4.out hB9
    clear hB9
    go_wp2_with fail
    go_ret
    exact LawOk.mk T9.out
  · have hz : dvB x 0 = true := dvB_t (by have := dvB_iff.1 hv; unfold DV at *; omega)
    go_wp2_with fail
    refine (iDoorValid_c x 0 _).mono ?_
    rintro e w4 ⟨rfl, hb2⟩
    have T4 : Hid (Below w.heap.size w w4) := below_next T3.out hb2
    clear hb2
    go_wp2_with fail
    refine (iDoorValid_c 1 1 _).mono ?_
    rintro e w5 ⟨rfl, hb2⟩
    have T5 : Hid (Below w.heap.size w w5) := below_next T4.out hb2
    clear hb2
    go_wp2_with fail
    refine (alive_c _).mono ?_
    rintro e' w9 ⟨rfl, hB9⟩
    have T9 : Hid (Below w.heap.size w w9) := below_next T5.out hB9
    clear hB9
    go_wp2_with fail
    go_ret
    exact LawOk.mk T9.out

set_option maxHeartbeats 400000 in
theorem DoorTicks_w (a : Option Addr) (n cap : Nat) (w : World) (hb : Byt w a n) (hn : n ≤ cap) (hcap : cap ≤ maxLen) :
    Calls Try.prog 6 #[.slice a n cap] w (LawOk w) := by
  have hcap' := hcap
  unfold maxLen at hcap'
  by_cases hbig : 1048576 < n
  · go_enter Try.func6, Try.ntmps6
    go_wp2
    go_ret
    exact LawOk.mk (Below.refl _ _)
  go_enter Try.func6, Try.ntmps6
  go_wp2_with fail
  refine (DrawDoorTicks_c a n cap _ hb hn hcap).mono ?_
  rintro e w1 ⟨x, s, rfl, x0, x1, s0, s1, hB⟩
  have M2 : Hid _ := Box.new w1 x s 24
  have T1 : Hid (Below w.heap.size w (w1.alloc (.cells #[.int .i64 x, .int .i64 s] 24))) := Below.al hB _
  clear hB
  go_wp2_with fail
  refine (iDoorTicks_c x s _).mono ?_
  rintro e w2 ⟨rfl, hb2⟩
  have M3 : Hid _ := Box.below M2.out hb2
  have T2 : Hid (Below w.heap.size w w2) := below_next T1.out hb2
  clear hb2
  obtain ⟨⟨c0, c1⟩, f0, f1⟩ := M3.out
  go_wp2_with fail
  refine (sDoorTicks_c x s _).mono ?_
  rintro e w3 ⟨rfl, hb2⟩
  have M4 : Hid _ := Box.below M3.out hb2
  have T3 : Hid (Below w.heap.size w w3) := below_next T2.out hb2
  clear hb2 c0 c1 f0 f1
  obtain ⟨⟨c0, c1⟩, f0, f1⟩ := M4.out
  cases hv : dvB x s
  · have e0 := dtk_bad hv
    rw [e0]
    clear e0
    go_wp2_with fail
    refine (alive_c _).mono ?_
    rintro e' w9 ⟨rfl, hB9⟩
    have T9 : Hid (Below w.heap.size w w9) := below_next T3.out hB9
    clear hB9
    go_wp2_with fail
    go_ret
    exact LawOk.mk T9.out
  · have e0 := dtk_ok hv
    have V := dvB_iff.1 hv
    have HV : Hid _ := V
    obtain ⟨k1, k2, k3, k4, k5⟩ := V
    clear k5
    rw [e0]
    clear e0
    have nn : ¬ (x + s) < 0 := by omega
    have E1 : drun x s (x + s) [] [] = (0, 0) := by rw [drun_ok hv (inB_t (by omega)), drn_end HV.out (by omega)]
    have K1 : ∀ w, Calls Try.prog 19 #[(Value.agg #[.int .i64 (x), .int .i64 (s)]), .int .i64 (x + s), .slice none 0 0, .slice none 0 0] w (Mk w (Value.agg #[.int .i64 (0), .int .i64 (0)])) := fun w => by
      have := iDoorRun_c x s (x + s) none 0 [] none 0 [] w (.inl rfl) (by simp) (.inl rfl) (by simp) (by omega)
      rw [E1] at this; exact this
    have HK1 : Hid _ := K1
    clear E1 K1
    go_wp2_with fail
    refine (HK1.out _).mono ?_
    rintro e w4 ⟨rfl, hb2⟩
    have M5 : Hid _ := Box.below M4.out hb2
    have T4 : Hid (Below w.heap.size w w4) := below_next T3.out hb2
    clear hb2 c0 c1 f0 f1
    by_cases h0 : x + s = 0
    · have t0 : (x + s == 0) = true := by simp [h0]
      clear h0
      go_wp2_with fail
      go_ret
      exact LawOk.mk T4.out
    · have t0 : (x + s == 0) = false := by simp [h0]
      obtain ⟨⟨c0, c1⟩, f0, f1⟩ := M5.out
      have E2 : 0 < (drun x s (x + s - 1) [] []).1 := by rw [drun_ok hv (inB_t (by omega))]; exact drn_before HV.out (by omega)
      have H2 : Hid _ := iDoorRun_c x s (x + s - 1) none 0 [] none 0 [] w4 (.inl rfl) (by simp) (.inl rfl) (by simp) (by omega)
      obtain ⟨y, hy⟩ : ∃ y, (drun x s (x + s - 1) [] []).1 = y := ⟨_, rfl⟩
      rw [hy] at E2
      have HY : Hid _ := hy
      clear h0 hy
      go_wp2_with fail
      refine Calls.mono H2.out ?_
      rintro e w5 ⟨rfl, hb2⟩
      rw [HY.out]
      have T5 : Hid (Below w.heap.size w w5) := below_next T4.out hb2
      clear hb2 c0 c1 f0 f1
      have fd := fieldGap
      go_wp2_with fail
      go_ret
      exact LawOk.mk T5.out
end Go.Proofs.Ytiplfnghikgcjaa
