/- The text of calls, by the model. -/
import Derived.Test.YtgenccbpkolmbaaDoor8J
namespace Go.Proofs.YtgenccbpkolmbaaDoor
open Go.RowKit
set_option linter.unusedVariables false

set_option maxHeartbeats 400000 in
theorem sCallsText_c (a1 : Option Addr) (n1 k1 : Nat) (a2 : Option Addr) (n2 k2 : Nat) (a3 : Option Addr) (n3 k3 : Nat) (x : Cs) (w : World) (hX : Cal w a1 n1 a2 n2 a3 n3 x) : Calls Tryd.prog 8 #[(.agg #[.slice a1 n1 k1, .slice a2 n2 k2, .slice a3 n3 k3])] w (Mk w (.string (ctx x))) := by
  have X0 := Lib.hid hX
  have l1 := hX.1.1
  have l2 := hX.2.1.1
  have l3 := hX.2.2.1
  clear hX
  obtain ⟨wn, hwn⟩ : ∃ wn, w.alloc (.cells #[.slice a1 n1 k1, .slice a2 n2 k2, .slice a3 n3 k3] 25) = wn := ⟨_, rfl⟩
  obtain ⟨g, hg⟩ : ∃ g, w.heap.size = g := ⟨_, rfl⟩
  have B0 := Lib.hid (show Bx wn g (.slice a1 n1 k1) (.slice a2 n2 k2) (.slice a3 n3 k3) from by rw [← hwn, ← hg]; exact Bx.new _ _ _ _ _)
  have T0 := Lib.hid (show Below w.heap.size w wn from by rw [← hwn]; exact Below.al (Below.refl _ _) _)
  have V := fun w' (h : Cal w' a1 n1 a2 n2 a3 n3 x) => sCallsValid_c a1 n1 k1 a2 n2 k2 a3 n3 k3 x w' h
  by_cases hv : CV x
  case neg =>
    rw [cvB_f hv] at V
    rw [ctx_f hv]
    have HV := Lib.hid V
    clear V l1 l2 l3
    have HG := Lib.hid hg
    have HWA := Lib.hid hwn
    clear hwn hg
    go_enter Tryd.func8, Tryd.ntmps8
    go_wp2_with fail
    rw [HWA.out, HG.out]
    refine (HV.out _ (Cal.below X0.out T0.out)).mono ?_
    rintro e w1 ⟨rfl, hb⟩
    have T1 := Lib.hid (below_next T0.out hb)
    clear hb
    go_wp2_with fail
    go_ret
    exact ⟨rfl, T1.out⟩
  rw [cvB_t hv] at V
  rw [ctx_t hv]
  obtain ⟨g1, g2, g3, g4, -⟩ := hv
  have HV := Lib.hid V
  clear V
  have K1 := fun w' (h : BS w' a1 n1 x.u) => l8Bits_c a1 n1 k1 x.u w' h (by omega)
  have K2 := fun w' (h : BS w' a2 n2 x.d) => l8Bits_c a2 n2 k2 x.d w' h (by omega)
  have K3 := fun w' (h : BS w' a3 n3 x.c) => l8Bits_c a3 n3 k3 x.c w' h (by omega)
  rw [← l1] at K1
  rw [← l2] at K2
  rw [← l3] at K3
  have s1 := tbs_size x.u x.u.length
  have s2 := tbs_size x.d x.d.length
  have s3 := tbs_size x.c x.c.length
  obtain ⟨t1, e1⟩ : ∃ t, tbs x.u x.u.length = t := ⟨_, rfl⟩
  obtain ⟨t2, e2⟩ : ∃ t, tbs x.d x.d.length = t := ⟨_, rfl⟩
  obtain ⟨t3, e3⟩ : ∃ t, tbs x.c x.c.length = t := ⟨_, rfl⟩
  rw [e1] at K1 s1 ⊢
  rw [e2] at K2 s2 ⊢
  rw [e3] at K3 s3 ⊢
  rw [l1] at K1
  rw [l2] at K2
  rw [l3] at K3
  have HK1 := Lib.hid K1
  have HK2 := Lib.hid K2
  have HK3 := Lib.hid K3
  have r1 : ¬ (9223372036854775807 < t1.size + 1) := by omega
  have r2 : ¬ (9223372036854775807 < t1.size + 1 + t2.size) := by omega
  have r3 : ¬ (9223372036854775807 < t1.size + 1 + t2.size + 1) := by omega
  have r4 : ¬ (9223372036854775807 < t1.size + 1 + t2.size + 1 + t3.size) := by omega
  clear K1 K2 K3 e1 e2 e3 l1 l2 l3 s1 s2 s3 g1 g2 g3 g4
  have HG := Lib.hid hg
  have HWA := Lib.hid hwn
  clear hwn hg
  go_enter Tryd.func8, Tryd.ntmps8
  go_wp2_with fail
  rw [HWA.out, HG.out]
  refine (HV.out _ (Cal.below X0.out T0.out)).mono ?_
  rintro e w1 ⟨rfl, hb⟩
  have X1 := Lib.hid (Cal.below X0.out (below_next T0.out hb))
  have T1 := Lib.hid (below_next T0.out hb)
  have B1 := Lib.hid (Bx.below B0.out hb)
  clear hb X0 T0 B0 HV
  go_wp2_with fail
  refine wp_region_quiet (C := fun w' => Below (World.heap (w1)).size (w1) w') (by kernel_rfl) (by kernel_rfl) (by first | exact ⟨rfl, rfl, rfl, Nat.le_refl _, fun _ _ => rfl⟩ | exact Below.dw (by repeat (first | exact Below.refl _ _ | refine Below.al ?_ _ | refine Below.dr ?_ _ | refine Below.dw ?_ | refine Below.st ?_ (by first | exact Nat.le_refl _ | exact Nat.le_add_right _ _ | (simp; omega)) _ | (refine below_next ?_ (by assumption))))) ?_
  simp only []
  repeat (go_big_quiet_step (first | (intro _; with_reducible exact rfl) | (intro hC; go_at_call 23; obtain ⟨⟨c0, c1, c2⟩, -⟩ := Bx.below B1.out hC; have Y1 := Lib.hid (BS.below X1.out.1 hC); have Y2 := Lib.hid (BS.below X1.out.2.1 hC); have Y3 := Lib.hid (BS.below X1.out.2.2 hC); (with_reducible refine Calls.mono (HK1.out _ Y1.out) ?_); (first | (rintro e wx ⟨rfl, hb⟩; exact ⟨rfl, below_next hC hb⟩) | (rintro e wx ⟨rfl, n, rfl⟩; exact ⟨rfl, Below.dr hC n⟩) | (rintro e wx ⟨rfl, rfl⟩; exact ⟨rfl, hC⟩))) | (intro hC; go_at_call 23; obtain ⟨⟨c0, c1, c2⟩, -⟩ := Bx.below B1.out hC; have Y1 := Lib.hid (BS.below X1.out.1 hC); have Y2 := Lib.hid (BS.below X1.out.2.1 hC); have Y3 := Lib.hid (BS.below X1.out.2.2 hC); (with_reducible refine Calls.mono (HK2.out _ Y2.out) ?_); (first | (rintro e wx ⟨rfl, hb⟩; exact ⟨rfl, below_next hC hb⟩) | (rintro e wx ⟨rfl, n, rfl⟩; exact ⟨rfl, Below.dr hC n⟩) | (rintro e wx ⟨rfl, rfl⟩; exact ⟨rfl, hC⟩))) | (intro hC; go_at_call 23; obtain ⟨⟨c0, c1, c2⟩, -⟩ := Bx.below B1.out hC; have Y1 := Lib.hid (BS.below X1.out.1 hC); have Y2 := Lib.hid (BS.below X1.out.2.1 hC); have Y3 := Lib.hid (BS.below X1.out.2.2 hC); (with_reducible refine Calls.mono (HK3.out _ Y3.out) ?_); (first | (rintro e wx ⟨rfl, hb⟩; exact ⟨rfl, below_next hC hb⟩) | (rintro e wx ⟨rfl, n, rfl⟩; exact ⟨rfl, Below.dr hC n⟩) | (rintro e wx ⟨rfl, rfl⟩; exact ⟨rfl, hC⟩))) | (intro hC; obtain ⟨⟨c0, c1, c2⟩, -⟩ := Bx.below B1.out hC; have Y1 := Lib.hid (BS.below X1.out.1 hC); have Y2 := Lib.hid (BS.below X1.out.2.1 hC); have Y3 := Lib.hid (BS.below X1.out.2.2 hC); go_simp; rfl)))
  refine wpQuiet_nil ?_
  intro wq hq
  have T2 := Lib.hid (below_next T1.out hq)
  clear hq
  go_wp2_with fail
  go_ret
  exact ⟨rfl, T2.out⟩
end Go.Proofs.YtgenccbpkolmbaaDoor
