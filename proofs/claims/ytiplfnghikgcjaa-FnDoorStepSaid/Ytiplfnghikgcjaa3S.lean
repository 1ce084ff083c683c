/- The laws of chapter 3: the walk of DoorStep. -/
import Derived.Test.Ytiplfnghikgcjaa3U
import Derived.Test.Ytiplfnghikgcjaa3X
import Derived.Test.YtiplfnghikgcjaaL
import Derived.Deep.RegionWith
namespace Go.Proofs.Ytiplfnghikgcjaa
open Go.RowKit
set_option linter.unusedVariables false

set_option maxHeartbeats 2000000 in
theorem DoorStep_w (a : Option Addr) (n cap : Nat) (w : World) (hb : Byt w a n) (hn : n ≤ cap) (hcap : cap ≤ maxLen) :
    Calls Try.prog 4 #[.slice a n cap] w (LawOk w) := by
  have hcap' := hcap
  unfold maxLen at hcap'
  by_cases hbig : 1048576 < n
  · go_enter Try.func4, Try.ntmps4
    go_wp2
    go_ret
    exact LawOk.mk (Below.refl _ _)
  go_enter Try.func4, Try.ntmps4
  go_wp2_with fail
  refine (DrawDoorStep_c a n cap _ hb hn hcap).mono ?_
  rintro e w1 ⟨x, s, u, v, rfl, x0, x1, s0, s1, hB⟩
  have M2 : Hid _ := Box.new w1 x s 24
  have T1 : Hid (Below w.heap.size w (w1.alloc (.cells #[.int .i64 x, .int .i64 s] 24))) := Below.al hB _
  clear hB
  go_wp2_with fail
  refine (iDoorStep_c x s u v _).mono ?_
  rintro e w2 ⟨rfl, hb2⟩
  obtain ⟨y, hy⟩ : ∃ y, (dst x s u v).1 = y := ⟨_, rfl⟩
  obtain ⟨z, hz⟩ : ∃ z, (dst x s u v).2 = z := ⟨_, rfl⟩
  rw [hy, hz]
  have HY : Hid _ := hy
  have HZ : Hid _ := hz
  have M3 : Hid _ := Box.dw (Box.al (Box.below M2.out hb2) (.cells #[.int .i64 y, .int .i64 z] 24))
  have N3 : Hid _ := Box.dw (Box.new w2 y z 24)
  have T2 : Hid (Below w.heap.size w (World.drew (w2.alloc (.cells #[.int .i64 y, .int .i64 z] 24)))) := Below.dw (Below.al (below_next T1.out hb2) _)
  clear hb2 hy hz
  go_wp2_with fail
  obtain ⟨⟨c0, c1⟩, f0, f1⟩ := M3.out
  obtain ⟨⟨d0, d1⟩, e0, e1⟩ := N3.out
  go_region_with (go_at_call 17; refine (sDoorStep_c x s u v _).mono ?_; rintro e w3 ⟨rfl, hb2⟩; rw [HY.out, HZ.out]; have M4 : Hid _ := Box.below M3.out hb2; have N4 : Hid _ := Box.below N3.out hb2; have T3 : Hid (Below w.heap.size w w3) := below_next T2.out hb2; clear hb2; obtain ⟨⟨c0', c1'⟩, f0', f1'⟩ := M4.out; obtain ⟨⟨d0', d1'⟩, e0', e1'⟩ := N4.out)
  all_goals
    clear c0 c1 f0 f1 d0 d1 e0 e1
    go_wp2_with fail
    refine (sDoorValid_c x s _).mono ?_
    rintro e w4 ⟨rfl, hb2⟩
    have M5 : Hid _ := Box.below M4.out hb2
    have N5 : Hid _ := Box.below N4.out hb2
    have T4 : Hid (Below w.heap.size w w4) := below_next T3.out hb2
    clear hb2 c0' c1' f0' f1' d0' d1' e0' e1'
    obtain ⟨⟨c0, c1⟩, f0, f1⟩ := M5.out
    obtain ⟨⟨d0, d1⟩, e0, e1⟩ := N5.out
    cases hv : dvB x s
    · have hbad := dst_bad (a := u) (b := v) hv
      have y0 : y = 0 := by rw [← HY.out, hbad]
      have z0 : z = 0 := by rw [← HZ.out, hbad]
      clear hbad
      subst y0 z0
      go_wp2_with fail
      refine (alive_c _).mono ?_
      rintro e' w9 ⟨rfl, hB9⟩
      have T9 : Hid (Below w.heap.size w w9) := below_next T4.out hB9
      clear hB9
      go_wp2_with fail
      go_ret
      exact LawOk.mk T9.out
    · have V := dvB_iff.1 hv
      have L := ds_law (a := u) (b := v) V
      have L2 := ds_valid u v V
      rw [← dst_ok hv, HY.out, HZ.out] at L2
      rw [← dst_ok hv, HY.out] at L
      obtain ⟨l1, l2, l3, l4⟩ := L
      have l5 := dvB_t L2
      obtain ⟨k1, k2, k3, k4, k5⟩ := L2
      obtain ⟨j1, j2, j3, j4, j5⟩ := V
      clear k5 j5
      have q : (x < 4) ∨ (¬ x < 4 ∧ (y == 4) = true) ∨ (¬ x < 4 ∧ (y == 4) = false ∧ (s == 0) = true) := by
        rcases l4 with l | l | l
        · exact .inl l
        · by_cases g : x < 4
          · exact .inl g
          · exact .inr (.inl ⟨g, by simp [l]⟩)
        · by_cases g : x < 4
          · exact .inl g
          · by_cases g2 : y = 4
            · exact .inr (.inl ⟨g, by simp [g2]⟩)
            · exact .inr (.inr ⟨g, by simp [g2], by simp [l]⟩)
      clear l4
      have p : (u = false ∧ v = false) ∨ (u = true ∧ x ≤ y) ∨ (u = false ∧ v = true ∧ x ≤ y) := by
        rcases l1 with ⟨e, f⟩ | l
        · exact .inl ⟨e, f⟩
        · cases u
          · cases v
            · exact .inl ⟨rfl, rfl⟩
            · exact .inr (.inr ⟨rfl, rfl, l⟩)
          · exact .inr (.inl ⟨rfl, l⟩)
      clear l1 HY HZ
      rcases p with ⟨rfl, rfl⟩ | ⟨rfl, p⟩ | ⟨rfl, rfl, p⟩
      all_goals
        rcases q with q1 | ⟨q1, q2⟩ | ⟨q1, q2, q3⟩
        all_goals
          go_wp2_with fail
          refine (iDoorValid_c _ _ _).mono ?_
          rintro e w5 ⟨rfl, hb2⟩
          have M6 : Hid _ := Box.below M5.out hb2
          have N6 : Hid _ := Box.below N5.out hb2
          have T5 : Hid (Below w.heap.size w w5) := below_next T4.out hb2
          clear hb2 c0 c1 f0 f1 d0 d1 e0 e1
          obtain ⟨⟨c0, c1⟩, f0, f1⟩ := M6.out
          obtain ⟨⟨d0, d1⟩, e0, e1⟩ := N6.out
          go_wp2_with fail
          go_ret
          exact LawOk.mk T5.out
end Go.Proofs.Ytiplfnghikgcjaa
