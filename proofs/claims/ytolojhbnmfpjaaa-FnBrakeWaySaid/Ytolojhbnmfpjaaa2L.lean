/- The laws of chapter 2: the walks of MotionValid, BrakeWay, CanStop. -/
import Derived.Test.Ytolojhbnmfpjaaa2U
import Derived.Test.Ytolojhbnmfpjaaa2X
import Derived.Test.YtolojhbnmfpjaaaL
namespace Go.Proofs.Ytolojhbnmfpjaaa
open Go.RowKit
set_option linter.unusedVariables false

theorem bw_down {s : Int} (h : 1 ≤ s) (k : s ≤ 5) : bw s = bw (s - 1) + s - 1 := by
  rcases sp_cases ⟨by omega, k⟩ with e | e | e | e | e | e | e | e | e | e | e <;> subst e <;> first | decide | omega

set_option maxHeartbeats 400000 in
theorem BrakeWay_w (a : Option Addr) (n cap : Nat) (w : World) (hb : Byt w a n) (hn : n ≤ cap) (hcap : cap ≤ maxLen) :
    Calls Try.prog 4 #[.slice a n cap] w (LawOk w) := by
  have hcap' := hcap
  unfold maxLen at hcap'
  by_cases hbig : 1048576 < n
  · go_enter Try.func4, Try.ntmps4
    go_wp2
    go_ret
    exact LawOk.mk (Below.refl _ _)
  go_enter Try.func4, Try.ntmps4
  go_wp2_with fail
  refine (DrawBrakeWay_c a n cap _ hb hn hcap).mono ?_
  rintro e w1 ⟨s, rfl, s0, s1, hB⟩
  have T1 : Hid (Below w.heap.size w w1) := hB
  clear hB
  have b1 := (bw_bd s).1
  have b2 := (bw_bd s).2
  go_wp2_with fail
  refine (iBrakeWay_c s _).mono ?_
  rintro e w2 ⟨rfl, n2, rfl⟩
  go_wp2_with fail
  refine (sBrakeWay_c s _).mono ?_
  rintro e w2 ⟨rfl, n3, rfl⟩
  have T2 : Hid (Below w.heap.size w ((w1.drewN n2).drewN n3)) := Below.dr (Below.dr T1.out _) _
  by_cases h : -5 ≤ s ∧ s ≤ 5
  case neg =>
    have e0 : (bw s == 0) = true := by rw [bw_bad h]; rfl
    have H : Hid _ := h
    rcases (by omega : s < -5 ∨ 5 < s) with g | g
    all_goals
      go_wp2_with fail
      refine (alive_c _).mono ?_
      rintro e' w9 ⟨rfl, hB9⟩
      have T9 : Hid (Below w.heap.size w w9) := below_next (by have HZ := T1.out; exact (by repeat (first | exact Below.refl _ _ | refine Below.al ?_ _ | refine Below.dr ?_ _ | refine Below.dw ?_ | refine Below.st ?_ (by first | exact Nat.le_refl _ | exact Nat.le_add_right _ _ | (simp; omega)) _ | (refine below_next ?_ (by assumption))))) hB9
      clear hB9
      go_wp2_with fail
      go_ret
      exact LawOk.mk T9.out
  obtain ⟨h1, h2⟩ := h
  have e0 : (bw (-s) == -bw s) = true := by rw [bw_neg]; simp
  by_cases g : 1 ≤ s
  · have e1 : (bw s == bw (s - 1) + s - 1) = true := by rw [← bw_down g h2]; simp
    have b3 := (bw_bd (s - 1)).1
    have b4 := (bw_bd (s - 1)).2
    have g2 : ¬ s < 1 := by omega
    go_wp2_with fail
    refine (iBrakeWay_c (-s) _).mono ?_
    rintro e w2 ⟨rfl, n4, rfl⟩
    go_wp2_with fail
    refine (iBrakeWay_c (s - 1) _).mono ?_
    rintro e w2 ⟨rfl, n5, rfl⟩
    go_wp2_with fail
    go_ret
    exact LawOk.mk (by have HZ := T1.out; exact (by repeat (first | exact Below.refl _ _ | refine Below.al ?_ _ | refine Below.dr ?_ _ | refine Below.dw ?_ | refine Below.st ?_ (by first | exact Nat.le_refl _ | exact Nat.le_add_right _ _ | (simp; omega)) _ | (refine below_next ?_ (by assumption)))))
  · have g2 : s < 1 := by omega
    go_wp2_with fail
    refine (iBrakeWay_c (-s) _).mono ?_
    rintro e w2 ⟨rfl, n4, rfl⟩
    go_wp2_with fail
    go_ret
    exact LawOk.mk (by have HZ := T1.out; exact (by repeat (first | exact Below.refl _ _ | refine Below.al ?_ _ | refine Below.dr ?_ _ | refine Below.dw ?_ | refine Below.st ?_ (by first | exact Nat.le_refl _ | exact Nat.le_add_right _ _ | (simp; omega)) _ | (refine below_next ?_ (by assumption)))))

set_option maxHeartbeats 400000 in
theorem MotionValid_w (a : Option Addr) (n cap : Nat) (w : World) (hb : Byt w a n) (hn : n ≤ cap) (hcap : cap ≤ maxLen) :
    Calls Try.prog 3 #[.slice a n cap] w (LawOk w) := by
  have hcap' := hcap
  unfold maxLen at hcap'
  by_cases hbig : 1048576 < n
  · go_enter Try.func3, Try.ntmps3
    go_wp2
    go_ret
    exact LawOk.mk (Below.refl _ _)
  go_enter Try.func3, Try.ntmps3
  go_wp2_with fail
  refine (DrawMotionValid_c a n cap _ hb hn hcap).mono ?_
  rintro e w1 ⟨x, s, rfl, x0, x1, s0, s1, hB⟩
  have M2 : Hid _ := Box.new w1 x s 24
  have T1 : Hid (Below w.heap.size w (w1.alloc (.cells #[.int .i64 x, .int .i64 s] 24))) := Below.al hB _
  clear hB
  go_wp2_with fail
  refine (iMotionValid_c x s _).mono ?_
  rintro e w2 ⟨rfl, hb2⟩
  have M3 : Hid _ := Box.below M2.out hb2
  have T2 : Hid (Below w.heap.size w w2) := below_next T1.out hb2
  clear hb2
  obtain ⟨⟨c0, c1⟩, f0, f1⟩ := M3.out
  go_wp2_with fail
  refine (sMotionValid_c x s _).mono ?_
  rintro e w3 ⟨rfl, hb2⟩
  have M4 : Hid _ := Box.below M3.out hb2
  have T3 : Hid (Below w.heap.size w w3) := below_next T2.out hb2
  clear hb2 c0 c1 f0 f1
  obtain ⟨⟨c0, c1⟩, f0, f1⟩ := M4.out
  have hneg : mvB (-1) s = false := mvB_f (fun h => by have := h.1; omega)
  cases hv : mvB x s
  · go_wp2_with fail
    refine (iMotionValid_c (-1) s _).mono ?_
    rintro e w4 ⟨rfl, hb2⟩
    have T4 : Hid (Below w.heap.size w w4) := below_next T3.out hb2
    clear hb2
    go_wp2_with fail
    refine (alive_c _).mono ?_
    rintro e' w9 ⟨rfl, hB9⟩
    have T9 : Hid (Below w.heap.size w w9) := below_next T4.out hB9
    clear hB9
    go_wp2_with fail
    go_ret
    exact LawOk.mk T9.out
  · have hz : mvB x 0 = true := mvB_t (by have := mvB_iff.1 hv; omega)
    go_wp2_with fail
    refine (iMotionValid_c x 0 _).mono ?_
    rintro e w4 ⟨rfl, hb2⟩
    have M5 : Hid _ := Box.below M4.out hb2
    have T4 : Hid (Below w.heap.size w w4) := below_next T3.out hb2
    clear hb2 c0 c1 f0 f1
    obtain ⟨⟨c0, c1⟩, f0, f1⟩ := M5.out
    go_wp2_with fail
    refine (iMotionValid_c (-1) s _).mono ?_
    rintro e w5 ⟨rfl, hb2⟩
    have T5 : Hid (Below w.heap.size w w5) := below_next T4.out hb2
    clear hb2
    go_wp2_with fail
    refine (alive_c _).mono ?_
    rintro e' w9 ⟨rfl, hB9⟩
    have T9 : Hid (Below w.heap.size w w9) := below_next T5.out hB9
    clear hB9
    go_wp2_with fail
    go_ret
    exact LawOk.mk T9.out

/-- What a car that can stop does, for the law. -/
theorem cs_law {a s t : Int} (h : CS a s t) : csB (mst a s t).1 (mst a s t).2 t = true ∧ (t < a ∨ (mst a s t).1 ≤ t) ∧ (a < t ∨ t ≤ (mst a s t).1) ∧ (s = 0 ∨ 0 ≤ (t - a) * s) ∧ -400 ≤ (t - a) * s ∧ (t - a) * s ≤ 400 := by
  have n := cs_next h
  rw [mst_ok (mvB_t h.1) (inB_t h.2.1), ms_next h]
  refine ⟨csB_t n.1, ?_, ?_, ?_, ?_⟩
  · have n1 := n.2; show t < a ∨ a + ns a s t ≤ t; generalize ns a s t = m at *; omega
  · have n1 := n.2; show a < t ∨ t ≤ a + ns a s t; generalize ns a s t = m at *; omega
  · have n1 := n.2
    rcases Int.lt_trichotomy t a with g | g | g
    · right; exact Int.mul_nonneg_of_nonpos_of_nonpos (by omega) (n1.2.2.2.2.2.2.1 g).2
    · right; subst g; simp
    · right; exact Int.mul_nonneg (by omega) (n1.2.2.2.2.2.1 g).2
  · have hs := h.1
    have ht := h.2.1
    rcases sp_cases hs.2.2 with e | e | e | e | e | e | e | e | e | e | e <;> subst e <;> omega

set_option maxHeartbeats 1000000 in
theorem CanStop_w (a : Option Addr) (n cap : Nat) (w : World) (hb : Byt w a n) (hn : n ≤ cap) (hcap : cap ≤ maxLen) :
    Calls Try.prog 5 #[.slice a n cap] w (LawOk w) := by
  have hcap' := hcap
  unfold maxLen at hcap'
  by_cases hbig : 1048576 < n
  · go_enter Try.func5, Try.ntmps5
    go_wp2
    go_ret
    exact LawOk.mk (Below.refl _ _)
  go_enter Try.func5, Try.ntmps5
  go_wp2_with fail
  refine (DrawCanStop_c a n cap _ hb hn hcap).mono ?_
  rintro e w1 ⟨x, s, t, rfl, x0, x1, s0, s1, t0, t1, hB⟩
  have M2 : Hid _ := Box.new w1 x s 24
  have T1 : Hid (Below w.heap.size w (w1.alloc (.cells #[.int .i64 x, .int .i64 s] 24))) := Below.al hB _
  clear hB
  go_wp2_with fail
  refine (iCanStop_c x s t _).mono ?_
  rintro e w2 ⟨rfl, hb2⟩
  have M3 : Hid _ := Box.below M2.out hb2
  have T2 : Hid (Below w.heap.size w w2) := below_next T1.out hb2
  clear hb2
  obtain ⟨⟨c0, c1⟩, f0, f1⟩ := M3.out
  go_wp2_with fail
  refine (sCanStop_c x s t _).mono ?_
  rintro e w3 ⟨rfl, hb2⟩
  have M4 : Hid _ := Box.below M3.out hb2
  have T3 : Hid (Below w.heap.size w w3) := below_next T2.out hb2
  clear hb2 c0 c1 f0 f1
  obtain ⟨⟨c0, c1⟩, f0, f1⟩ := M4.out
  cases hv : csB x s t
  · go_wp2_with fail
    refine (alive_c _).mono ?_
    rintro e' w9 ⟨rfl, hB9⟩
    have T9 : Hid (Below w.heap.size w w9) := below_next T3.out hB9
    clear hB9
    go_wp2_with fail
    go_ret
    exact LawOk.mk T9.out
  · have L := cs_law (csB_iff.1 hv)
    obtain ⟨l1, l2, l3, l4, l5, l6⟩ := L
    go_wp2_with fail
    refine (iMotionStep_c x s t _).mono ?_
    rintro e w4 ⟨rfl, hb2⟩
    obtain ⟨y, hy⟩ : ∃ y, (mst x s t).1 = y := ⟨_, rfl⟩
    obtain ⟨z, hz⟩ : ∃ z, (mst x s t).2 = z := ⟨_, rfl⟩
    rw [hy] at l2 l3
    rw [hy, hz] at l1
    rw [hy, hz]
    have M5 : Hid _ := Box.al (Box.below M4.out hb2) (.cells #[.int .i64 y, .int .i64 z] 24)
    have N5 : Hid _ := Box.new w4 y z 24
    have T4 : Hid (Below w.heap.size w (w4.alloc (.cells #[.int .i64 y, .int .i64 z] 24))) := Below.al (below_next T3.out hb2) _
    clear hb2 c0 c1 f0 f1 hy hz
    go_wp2_with fail
    refine (iCanStop_c y z t _).mono ?_
    rintro e w5 ⟨rfl, hb2⟩
    have M6 : Hid _ := Box.below M5.out hb2
    have N6 : Hid _ := Box.below N5.out hb2
    have T5 : Hid (Below w.heap.size w w5) := below_next T4.out hb2
    clear hb2
    obtain ⟨⟨c0, c1⟩, f0, f1⟩ := M6.out
    obtain ⟨⟨d0, d1⟩, e0, e1⟩ := N6.out
    have cases2 : (t < x ∧ ¬ x < t ∧ t ≤ y) ∨ (x < t ∧ ¬ t < x ∧ y ≤ t) ∨ (¬ t < x ∧ ¬ x < t ∧ y ≤ t ∧ t ≤ y) := by omega
    by_cases s00 : s = 0
    · have sb : (s == 0) = true := by simp [s00]
      have S0 : Hid _ := s00
      clear s00 l4
      rcases cases2 with ⟨g1, g2, g3⟩ | ⟨g1, g2, g3⟩ | ⟨g1, g2, g3, g4⟩
      all_goals
        go_wp2_with fail
        all_goals
          go_ret
          exact LawOk.mk T5.out
    · have sb : (s == 0) = false := by simp [s00]
      have l7 : 0 ≤ (t - x) * s := by omega
      clear s00 l4
      rcases cases2 with ⟨g1, g2, g3⟩ | ⟨g1, g2, g3⟩ | ⟨g1, g2, g3, g4⟩
      all_goals
        go_wp2_with fail
        all_goals
          go_ret
          exact LawOk.mk T5.out
end Go.Proofs.Ytolojhbnmfpjaaa
