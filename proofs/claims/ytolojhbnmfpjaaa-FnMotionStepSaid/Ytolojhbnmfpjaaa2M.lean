/- The law of MotionStep: the walk. -/
import Derived.Test.Ytolojhbnmfpjaaa2U
import Derived.Test.Ytolojhbnmfpjaaa2X
import Derived.Test.YtolojhbnmfpjaaaL
import Derived.Deep.RegionWith
namespace Go.Proofs.Ytolojhbnmfpjaaa
open Go.RowKit
set_option linter.unusedVariables false

/-- What a valid car does in a tick, for the law. -/
theorem step_law {a s t : Int} (h : mvB a s = true) (k : inB 0 t 60 = true) : mvB (mst a s t).1 (mst a s t).2 = true ∧ (((mst a s t).2 = 0 ∧ ((mst a s t).1 = 0 ∨ (mst a s t).1 = 60)) ∨ ((mst a s t).2 - s ≤ 1 ∧ -((mst a s t).2 - s) ≤ 1 ∧ (mst a s t).1 = a + (mst a s t).2)) := by
  have v := ms_valid h k
  rw [← mst_ok h k] at v
  refine ⟨v, ?_⟩
  rw [mst_ok h k]
  have h1 := mvB_iff.1 h
  have c := ns_cases (a := a) (t := t) h1.2.2
  have b : -1 ≤ ns a s t - s ∧ ns a s t - s ≤ 1 := by
    have := sgn_bd t a
    have q : -1 ≤ slow s - s ∧ slow s - s ≤ 1 := by have := sgn_bd s 0; unfold slow; omega
    rcases c with ⟨-, ⟨c, e⟩ | ⟨c, d, e⟩ | ⟨c, d, e⟩⟩ | ⟨c, e⟩ <;> rw [e] <;> omega
  unfold ms
  generalize ns a s t = m at *
  rcases (by omega : a + m < 0 ∨ 60 < a + m ∨ (0 ≤ a + m ∧ a + m ≤ 60)) with g | g | g
  · rw [kept_lo g]; left; exact ⟨rfl, .inl rfl⟩
  · rw [kept_hi g]; left; exact ⟨rfl, .inr rfl⟩
  · rw [kept_in g]; right; exact ⟨by simp only; omega, by simp only; omega, rfl⟩

set_option maxHeartbeats 2000000 in
theorem MotionStep_w (a : Option Addr) (n cap : Nat) (w : World) (hb : Byt w a n) (hn : n ≤ cap) (hcap : cap ≤ maxLen) :
    Calls Try.prog 6 #[.slice a n cap] w (LawOk w) := by
  have hcap' := hcap
  unfold maxLen at hcap'
  by_cases hbig : 1048576 < n
  · go_enter Try.func6, Try.ntmps6
    go_wp2
    go_ret
    exact LawOk.mk (Below.refl _ _)
  go_enter Try.func6, Try.ntmps6
  go_wp2_with fail
  refine (DrawMotionStep_c a n cap _ hb hn hcap).mono ?_
  rintro e w1 ⟨x, s, t, rfl, x0, x1, s0, s1, t0, t1, hB⟩
  have M2 : Hid _ := Box.new w1 x s 24
  have T1 : Hid (Below w.heap.size w (w1.alloc (.cells #[.int .i64 x, .int .i64 s] 24))) := Below.al hB _
  clear hB
  go_wp2_with fail
  refine (iMotionStep_c x s t _).mono ?_
  rintro e w2 ⟨rfl, hb2⟩
  obtain ⟨y, hy⟩ : ∃ y, (mst x s t).1 = y := ⟨_, rfl⟩
  obtain ⟨z, hz⟩ : ∃ z, (mst x s t).2 = z := ⟨_, rfl⟩
  rw [hy, hz]
  have HY : Hid _ := hy
  have HZ : Hid _ := hz
  have M3 : Hid _ := Box.dw (Box.al (Box.below M2.out hb2) (.cells #[.int .i64 y, .int .i64 z] 24))
  have N3 : Hid _ := Box.dw (Box.new w2 y z 24)
  have T2 : Hid (Below w.heap.size w (World.drew (w2.alloc (.cells #[.int .i64 y, .int .i64 z] 24)))) := Below.dw (Below.al (below_next T1.out hb2) _)
  clear hb2 hy hz
  go_wp2_with fail
  obtain ⟨⟨c0, c1⟩, f0, f1⟩ := M3.out
  obtain ⟨⟨d0, d1⟩, e0, e1⟩ := N3.out
  go_region_with (go_at_call 25; refine (sMotionStep_c x s t _).mono ?_; rintro e w3 ⟨rfl, hb2⟩; rw [HY.out, HZ.out]; have M4 : Hid _ := Box.below M3.out hb2; have N4 : Hid _ := Box.below N3.out hb2; have T3 : Hid (Below w.heap.size w w3) := below_next T2.out hb2; clear hb2; obtain ⟨⟨c0', c1'⟩, f0', f1'⟩ := M4.out; obtain ⟨⟨d0', d1'⟩, e0', e1'⟩ := N4.out)
  all_goals
    clear c0 c1 f0 f1 d0 d1 e0 e1
    go_wp2_with fail
    refine (sMotionValid_c x s _).mono ?_
    rintro e w4 ⟨rfl, hb2⟩
    have M5 : Hid _ := Box.below M4.out hb2
    have N5 : Hid _ := Box.below N4.out hb2
    have T4 : Hid (Below w.heap.size w w4) := below_next T3.out hb2
    clear hb2 c0' c1' f0' f1' d0' d1' e0' e1'
    obtain ⟨⟨c0, c1⟩, f0, f1⟩ := M5.out
    obtain ⟨⟨d0, d1⟩, e0, e1⟩ := N5.out
    cases hv : mvB x s
    · have hbad := mst_bad (a := x) (s := s) (t := t) (by rw [hv]; simp)
      have y0 : y = 0 := by rw [← HY.out, hbad]
      have z0 : z = 0 := by rw [← HZ.out, hbad]
      clear hbad
      subst y0 z0
      go_wp2_with fail
      refine (alive_c _).mono ?_
      rintro e' w9 ⟨rfl, hB9⟩
      have T9 : Hid (Below w.heap.size w w9) := below_next T4.out hB9
      clear hB9
      go_wp2_with fail
      go_ret
      exact LawOk.mk T9.out
    · by_cases ht : 0 ≤ t ∧ t ≤ 60
      case neg =>
        have hbad := mst_bad (a := x) (s := s) (t := t) (by rw [inB_f ht]; simp)
        have y0 : y = 0 := by rw [← HY.out, hbad]
        have z0 : z = 0 := by rw [← HZ.out, hbad]
        clear hbad
        subst y0 z0
        rcases (by omega : t < 0 ∨ (¬ t < 0 ∧ 60 < t)) with g | ⟨g, g2⟩
        all_goals
          go_wp2_with fail
          refine (alive_c _).mono ?_
          rintro e' w9 ⟨rfl, hB9⟩
          have T9 : Hid (Below w.heap.size w w9) := below_next T4.out hB9
          clear hB9
          go_wp2_with fail
          go_ret
          exact LawOk.mk T9.out
      have L := step_law hv (inB_t ht)
      rw [HY.out, HZ.out] at L
      obtain ⟨l1, l2⟩ := L
      have l3 := mvB_iff.1 l1
      obtain ⟨l4, l5, l6, l7⟩ := l3
      obtain ⟨ht0, ht1⟩ := ht
      rcases (by omega : (z = 0 ∧ y = 0) ∨ (z = 0 ∧ y = 60) ∨ (z ≠ 0 ∧ z - s ≤ 1 ∧ -(z - s) ≤ 1 ∧ y = x + z) ∨ (z = 0 ∧ y ≠ 0 ∧ y ≠ 60 ∧ z - s ≤ 1 ∧ -(z - s) ≤ 1 ∧ y = x + z)) with ⟨q1, q2⟩ | ⟨q1, q2⟩ | ⟨q1, q2, q3, q4⟩ | ⟨q1, q5, q6, q2, q3, q4⟩
      · subst q1 q2
        clear l2 HY HZ
        go_wp2_with fail
        refine (iMotionValid_c _ _ _).mono ?_
        rintro e w5 ⟨rfl, hb2⟩
        have T5 : Hid (Below w.heap.size w w5) := below_next T4.out hb2
        clear hb2
        go_wp2_with fail
        go_ret
        exact LawOk.mk T5.out
      · subst q1 q2
        clear l2 HY HZ
        go_wp2_with fail
        refine (iMotionValid_c _ _ _).mono ?_
        rintro e w5 ⟨rfl, hb2⟩
        have T5 : Hid (Below w.heap.size w w5) := below_next T4.out hb2
        clear hb2
        go_wp2_with fail
        go_ret
        exact LawOk.mk T5.out
      · have b1 : (z == 0) = false := by simp [q1]
        have b2 : (y == x + z) = true := by simp [q4]
        clear l2 HY HZ q1 q4
        go_wp2_with fail
        refine (iMotionValid_c _ _ _).mono ?_
        rintro e w5 ⟨rfl, hb2⟩
        have M6 : Hid _ := Box.below M5.out hb2
        have N6 : Hid _ := Box.below N5.out hb2
        have T5 : Hid (Below w.heap.size w w5) := below_next T4.out hb2
        clear hb2 c0 c1 f0 f1 d0 d1 e0 e1
        obtain ⟨⟨c0, c1⟩, f0, f1⟩ := M6.out
        obtain ⟨⟨d0, d1⟩, e0, e1⟩ := N6.out
        go_wp2_with fail
        go_ret
        exact LawOk.mk T5.out
      · have b3 : (y == 0) = false := by simp [q5]
        have b4 : (y == 60) = false := by simp [q6]
        have b2 : (y == x + 0) = true := by simp; omega
        have b5 : (y == x) = true := by simp; omega
        clear l2 HY HZ q4 q5 q6
        subst q1
        go_wp2_with fail
        refine (iMotionValid_c _ _ _).mono ?_
        rintro e w5 ⟨rfl, hb2⟩
        have M6 : Hid _ := Box.below M5.out hb2
        have N6 : Hid _ := Box.below N5.out hb2
        have T5 : Hid (Below w.heap.size w w5) := below_next T4.out hb2
        clear hb2 c0 c1 f0 f1 d0 d1 e0 e1
        obtain ⟨⟨c0, c1⟩, f0, f1⟩ := M6.out
        obtain ⟨⟨d0, d1⟩, e0, e1⟩ := N6.out
        go_wp2_with fail
        go_ret
        exact LawOk.mk T5.out
end Go.Proofs.Ytolojhbnmfpjaaa
