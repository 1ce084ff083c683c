/- The helpers of the exact laws over calls: copies, comparisons, marks. -/
import Derived.Test.Ytfhhgddajmihjaa8M
namespace Go.Proofs.Ytfhhgddajmihjaa
open Go.RowKit
set_option linter.unusedVariables false
set_option linter.unusedSimpArgs false
set_option maxRecDepth 100000

theorem OwnB.of_row {w : World} {G n B : Nat} {xs : List Bool} (h : w.rowIs G 4 n (fun j => .bool (bn xs j))) (hl : xs.length = n) (hB : B ≤ G) (hm : n ≤ maxLen) : OwnB w B (.slice (Option.some ⟨G, 0, none⟩) n n) xs := by
  subst hl
  obtain ⟨c, h1, h2, h3⟩ := h
  refine ⟨by simp, .inr ⟨G, xs.length, c, rfl, hB, h1, Nat.le_refl _, hm, by omega, ?_⟩⟩
  apply List.ext_getElem?
  intro i
  simp only [Nat.mul_one, List.getElem?_take, List.getElem?_map, Array.getElem?_toList]
  split
  · rename_i g
    rw [h3 i g, List.getElem?_eq_getElem g]
    simp [bn_eq g]
  · rename_i g
    rw [List.getElem?_eq_none (by omega)]
    rfl
/-- What the guard on sizes leaves. -/
def sz (a b c : Nat) : Int := if a + b + c ≤ 1048576 then 1048576 - (a + b + c : Nat) else -1
set_option maxHeartbeats 1000000 in
theorem eqBoolS_c (a : Option Addr) (n cap : Nat) (xs : List Bool) (a' : Option Addr) (n' cap' : Nat) (ys : List Bool) (w : World) (hx : BS w a n xs) (hy : BS w a' n' ys) (hm : n ≤ 1048577) :
    Calls Try.prog 71 #[.slice a n cap, .slice a' n' cap'] w (Ro w (.bool (tr (xs = ys)))) := by
  obtain ⟨l1, hx⟩ := hx
  obtain ⟨l2, hy⟩ := hy
  have HX := Lib.hid hx
  have HY := Lib.hid hy
  clear hx hy
  by_cases hl : n = n'
  case neg =>
    have t : ((n : Int) != (n' : Int)) = true := by simp; omega
    have E := Lib.hid (tr_false (fun h : xs = ys => hl (by rw [← l1, ← l2, h])))
    clear hl l1 l2
    go_enter Try.func71, Try.ntmps71
    go_wp2_with fail
    go_ret
    exact Ro.b E.out (by first | exact ⟨0, rfl⟩ | (simp only [World.drewN_drewN]; exact ⟨_, rfl⟩) | exact ⟨_, rfl⟩)
  subst hl
  have L1 := Lib.hid l1
  have L2 := Lib.hid l2
  clear l1 l2
  go_enter Try.func71, Try.ntmps71
  go_wp2_with fail
  obtain ⟨wo, hwo⟩ : ∃ wo : World, wo = w := ⟨_, rfl⟩
  go_loopw [5] (fun v wr => ∃ k m : Nat, k ≤ n ∧ v = .int .i64 k ∧ wr = wo.drewN m ∧ ∀ i, i < k → bn xs i = bn ys i) (fun v _ => n - (intOf v).toNat)
  case atStart => exact ⟨0, 0, by omega, rfl, by rw [hwo]; rfl, by omega⟩
  case round =>
    obtain ⟨k, m, hk, rfl, hw, hall⟩ := hrel
    subst hwo
    have HA := Lib.hid hall
    have HW := Lib.hid hw
    clear hw hall
    by_cases hlt : k < n
    · rcases HX.out with h0 | ⟨b, off, rfl, hc⟩
      · omega
      rcases HY.out with h0 | ⟨b', off', rfl, hd⟩
      · omega
      have c1 : wr.cell? ⟨b, off + k, none⟩ = some (.bool (bn xs k)) := by rw [HW.out]; exact hc k hlt
      have c2 : wr.cell? ⟨b', off' + k, none⟩ = some (.bool (bn ys k)) := by rw [HW.out]; exact hd k hlt
      clear hc hd
      by_cases he : bn xs k = bn ys k
      · rw [he] at c1
        have HE := Lib.hid he
        clear he
        go_wp2_with fail
        go_quiet (fail)
        go_wp2_with fail
        go_roundw
        case rel => exact ⟨k + 1, _, by omega, by go_num, (by rw [HW.out]; first | exact World.drewN_drewN .. | (simp only [World.drewN_drewN]; rfl) | (simp only [World.drewN_drewN])), fun i hi => by
          by_cases e : i = k
          · subst e; exact HE.out
          · exact HA.out i (by omega)⟩
        case measure => simp [intOf]; omega
      · have E := Lib.hid (tr_false (fun h : xs = ys => he (by rw [h])))
        cases hp : bn xs k <;> cases hq : bn ys k
        · exact absurd (by rw [hp, hq]) he
        · rw [hp] at c1
          rw [hq] at c2
          clear he hp hq
          go_wp2_with fail
          go_quiet (fail)
          go_wp2_with fail
          go_ret
          exact Ro.b E.out (by rw [HW.out]; (try simp only [World.drewN_drewN]); exact ⟨_, rfl⟩)
        · rw [hp] at c1
          rw [hq] at c2
          clear he hp hq
          go_wp2_with fail
          go_quiet (fail)
          go_wp2_with fail
          go_ret
          exact Ro.b E.out (by rw [HW.out]; (try simp only [World.drewN_drewN]); exact ⟨_, rfl⟩)
        · exact absurd (by rw [hp, hq]) he
    · obtain rfl : k = n := by omega
      have E := Lib.hid (tr_true (bn_ext (xs := xs) (ys := ys) (by rw [L1.out, L2.out]) (fun i hi => HA.out i (by rw [← L1.out]; exact hi))))
      go_wp2_with fail
      go_ret
      exact Ro.b E.out (by rw [HW.out]; (try simp only [World.drewN_drewN]); exact ⟨_, rfl⟩)
set_option maxHeartbeats 1000000 in
theorem sameBools_c (a : Option Addr) (n cap : Nat) (xs : List Bool) (a' : Option Addr) (n' cap' : Nat) (ys : List Bool) (w : World) (hx : BS w a n xs) (hy : BS w a' n' ys) (hm : n ≤ 1048577) :
    Calls Try.prog 55 #[.slice a n cap, .slice a' n' cap'] w (Ro w (.bool (tr (xs = ys)))) := by
  obtain ⟨l1, hx⟩ := hx
  obtain ⟨l2, hy⟩ := hy
  have HX := Lib.hid hx
  have HY := Lib.hid hy
  clear hx hy
  by_cases hl : n = n'
  case neg =>
    have t : ((n : Int) != (n' : Int)) = true := by simp; omega
    have E := Lib.hid (tr_false (fun h : xs = ys => hl (by rw [← l1, ← l2, h])))
    clear hl l1 l2
    go_enter Try.func55, Try.ntmps55
    go_wp2_with fail
    go_ret
    exact Ro.b E.out (by first | exact ⟨0, rfl⟩ | (simp only [World.drewN_drewN]; exact ⟨_, rfl⟩) | exact ⟨_, rfl⟩)
  subst hl
  have L1 := Lib.hid l1
  have L2 := Lib.hid l2
  clear l1 l2
  go_enter Try.func55, Try.ntmps55
  go_wp2_with fail
  obtain ⟨wo, hwo⟩ : ∃ wo : World, wo = w := ⟨_, rfl⟩
  go_loopw [5] (fun v wr => ∃ k m : Nat, k ≤ n ∧ v = .int .i64 k ∧ wr = wo.drewN m ∧ ∀ i, i < k → bn xs i = bn ys i) (fun v _ => n - (intOf v).toNat)
  case atStart => exact ⟨0, 0, by omega, rfl, by rw [hwo]; rfl, by omega⟩
  case round =>
    obtain ⟨k, m, hk, rfl, hw, hall⟩ := hrel
    subst hwo
    have HA := Lib.hid hall
    have HW := Lib.hid hw
    clear hw hall
    by_cases hlt : k < n
    · rcases HX.out with h0 | ⟨b, off, rfl, hc⟩
      · omega
      rcases HY.out with h0 | ⟨b', off', rfl, hd⟩
      · omega
      have c1 : wr.cell? ⟨b, off + k, none⟩ = some (.bool (bn xs k)) := by rw [HW.out]; exact hc k hlt
      have c2 : wr.cell? ⟨b', off' + k, none⟩ = some (.bool (bn ys k)) := by rw [HW.out]; exact hd k hlt
      clear hc hd
      by_cases he : bn xs k = bn ys k
      · rw [he] at c1
        have HE := Lib.hid he
        clear he
        go_wp2_with fail
        go_quiet (fail)
        go_wp2_with fail
        go_roundw
        case rel => exact ⟨k + 1, _, by omega, by go_num, (by rw [HW.out]; first | exact World.drewN_drewN .. | (simp only [World.drewN_drewN]; rfl) | (simp only [World.drewN_drewN])), fun i hi => by
          by_cases e : i = k
          · subst e; exact HE.out
          · exact HA.out i (by omega)⟩
        case measure => simp [intOf]; omega
      · have E := Lib.hid (tr_false (fun h : xs = ys => he (by rw [h])))
        cases hp : bn xs k <;> cases hq : bn ys k
        · exact absurd (by rw [hp, hq]) he
        · rw [hp] at c1
          rw [hq] at c2
          clear he hp hq
          go_wp2_with fail
          go_quiet (fail)
          go_wp2_with fail
          go_ret
          exact Ro.b E.out (by rw [HW.out]; (try simp only [World.drewN_drewN]); exact ⟨_, rfl⟩)
        · rw [hp] at c1
          rw [hq] at c2
          clear he hp hq
          go_wp2_with fail
          go_quiet (fail)
          go_wp2_with fail
          go_ret
          exact Ro.b E.out (by rw [HW.out]; (try simp only [World.drewN_drewN]); exact ⟨_, rfl⟩)
        · exact absurd (by rw [hp, hq]) he
    · obtain rfl : k = n := by omega
      have E := Lib.hid (tr_true (bn_ext (xs := xs) (ys := ys) (by rw [L1.out, L2.out]) (fun i hi => HA.out i (by rw [← L1.out]; exact hi))))
      go_wp2_with fail
      go_ret
      exact Ro.b E.out (by rw [HW.out]; (try simp only [World.drewN_drewN]); exact ⟨_, rfl⟩)

theorem Bx.set0 {w : World} {b : Nat} {v1 v2 v3 : Value} (h : Bx w b v1 v2 v3) (u : Value) : Bx (w.setCell ⟨b, 0, none⟩ u) b u v2 v3 :=
  ⟨⟨World.cell?_setCell_same _ _ _ h.1.1, by rw [World.cell?_setCell_other _ _ _ _ (by simp)]; exact h.1.2.1, by rw [World.cell?_setCell_other _ _ _ _ (by simp)]; exact h.1.2.2⟩, fun i => by rw [World.frozen?_setCell]; exact h.2 i⟩
theorem Bx.set1 {w : World} {b : Nat} {v1 v2 v3 : Value} (h : Bx w b v1 v2 v3) (u : Value) : Bx (w.setCell ⟨b, 1, none⟩ u) b v1 u v3 :=
  ⟨⟨by rw [World.cell?_setCell_other _ _ _ _ (by simp)]; exact h.1.1, World.cell?_setCell_same _ _ _ h.1.2.1, by rw [World.cell?_setCell_other _ _ _ _ (by simp)]; exact h.1.2.2⟩, fun i => by rw [World.frozen?_setCell]; exact h.2 i⟩
theorem Bx.set2 {w : World} {b : Nat} {v1 v2 v3 : Value} (h : Bx w b v1 v2 v3) (u : Value) : Bx (w.setCell ⟨b, 2, none⟩ u) b v1 v2 u :=
  ⟨⟨by rw [World.cell?_setCell_other _ _ _ _ (by simp)]; exact h.1.1, by rw [World.cell?_setCell_other _ _ _ _ (by simp)]; exact h.1.2.1, World.cell?_setCell_same _ _ _ h.1.2.2⟩, fun i => by rw [World.frozen?_setCell]; exact h.2 i⟩
theorem cs_eq (x y : Cs) : (x = y) ↔ (x.u = y.u ∧ x.d = y.d ∧ x.c = y.c) := ⟨fun h => by subst h; exact ⟨rfl, rfl, rfl⟩, fun h => Cs.eq h.1 h.2.1 h.2.2⟩
set_option maxHeartbeats 1000000 in
theorem eqCalls_c (a1 : Option Addr) (n1 k1 : Nat) (a2 : Option Addr) (n2 k2 : Nat) (a3 : Option Addr) (n3 k3 : Nat) (x : Cs) (a4 : Option Addr) (n4 k4 : Nat) (a5 : Option Addr) (n5 k5 : Nat) (a6 : Option Addr) (n6 k6 : Nat) (y : Cs) (w : World) (hX : Cal w a1 n1 a2 n2 a3 n3 x) (hY : Cal w a4 n4 a5 n5 a6 n6 y) (m1 : n1 ≤ 1048577) (m2 : n2 ≤ 1048577) (m3 : n3 ≤ 1048577) :
    Calls Try.prog 37 #[(.agg #[.slice a1 n1 k1, .slice a2 n2 k2, .slice a3 n3 k3]), .agg #[.slice a4 n4 k4, .slice a5 n5 k5, .slice a6 n6 k6]] w (Mk w (.bool (tr (x = y)))) := by
  have X := Lib.hid (Cal.al (Cal.al hX (.cells #[.slice a1 n1 k1, .slice a2 n2 k2, .slice a3 n3 k3] 36)) (.cells #[.slice a4 n4 k4, .slice a5 n5 k5, .slice a6 n6 k6] 36))
  have Y := Lib.hid (Cal.al (Cal.al hY (.cells #[.slice a1 n1 k1, .slice a2 n2 k2, .slice a3 n3 k3] 36)) (.cells #[.slice a4 n4 k4, .slice a5 n5 k5, .slice a6 n6 k6] 36))
  have C := Lib.hid (Bx.al (Bx.new w (.slice a1 n1 k1) (.slice a2 n2 k2) (.slice a3 n3 k3) 36) (.cells #[.slice a4 n4 k4, .slice a5 n5 k5, .slice a6 n6 k6] 36))
  have D := Lib.hid (show Bx ((w.alloc (.cells #[.slice a1 n1 k1, .slice a2 n2 k2, .slice a3 n3 k3] 36)).alloc (.cells #[.slice a4 n4 k4, .slice a5 n5 k5, .slice a6 n6 k6] 36)) (w.heap.size + 1) (.slice a4 n4 k4) (.slice a5 n5 k5) (.slice a6 n6 k6) from by have h9 := Bx.new (w.alloc (.cells #[.slice a1 n1 k1, .slice a2 n2 k2, .slice a3 n3 k3] 36)) (.slice a4 n4 k4) (.slice a5 n5 k5) (.slice a6 n6 k6) 36; rw [World.size_alloc] at h9; exact h9)
  have HB := Lib.hid (Below.al (Below.al (Below.refl w.heap.size w) (.cells #[.slice a1 n1 k1, .slice a2 n2 k2, .slice a3 n3 k3] 36)) (.cells #[.slice a4 n4 k4, .slice a5 n5 k5, .slice a6 n6 k6] 36))
  clear hX hY
  by_cases h1 : x.u = y.u
  case neg =>
    have t := tr_false h1
    have E := Lib.hid (tr_false (fun h : x = y => h1 (by rw [h])))
    clear h1
    go_enter Try.func37, Try.ntmps37
    go_wp2_with fail
    obtain ⟨⟨c0, c1, c2⟩, -⟩ := C.out
    obtain ⟨⟨d0, d1, d2⟩, -⟩ := D.out
    obtain ⟨g, hg⟩ : ∃ g, w.heap.size = g := ⟨_, rfl⟩
    have HG := Lib.hid hg
    rw [hg] at c0 c1 c2 d0 d1 d2
    try rw [hg]
    clear hg
    generalize ((w.alloc (.cells #[.slice a1 n1 k1, .slice a2 n2 k2, .slice a3 n3 k3] 36)).alloc (.cells #[.slice a4 n4 k4, .slice a5 n5 k5, .slice a6 n6 k6] 36)) = W at *
    refine (eqBoolS_c a1 n1 k1 x.u a4 n4 k4 y.u _ X.out.1 Y.out.1 m1).mono ?_
    rintro e w1 ⟨rfl, j1, rfl⟩
    have X1 : Hid (Cal (W.drewN j1) a1 n1 a2 n2 a3 n3 x) := X
    have Y1 : Hid (Cal (W.drewN j1) a4 n4 a5 n5 a6 n6 y) := Y
    go_wp2_with fail
    go_ret
    exact Mk.b E.out (Below.dr HB.out _)
  have t1 := tr_true h1
  by_cases h2 : x.d = y.d
  case neg =>
    have t := tr_false h2
    have E := Lib.hid (tr_false (fun h : x = y => h2 (by rw [h])))
    clear h1 h2
    go_enter Try.func37, Try.ntmps37
    go_wp2_with fail
    obtain ⟨⟨c0, c1, c2⟩, -⟩ := C.out
    obtain ⟨⟨d0, d1, d2⟩, -⟩ := D.out
    obtain ⟨g, hg⟩ : ∃ g, w.heap.size = g := ⟨_, rfl⟩
    have HG := Lib.hid hg
    rw [hg] at c0 c1 c2 d0 d1 d2
    try rw [hg]
    clear hg
    generalize ((w.alloc (.cells #[.slice a1 n1 k1, .slice a2 n2 k2, .slice a3 n3 k3] 36)).alloc (.cells #[.slice a4 n4 k4, .slice a5 n5 k5, .slice a6 n6 k6] 36)) = W at *
    refine (eqBoolS_c a1 n1 k1 x.u a4 n4 k4 y.u _ X.out.1 Y.out.1 m1).mono ?_
    rintro e w1 ⟨rfl, j1, rfl⟩
    have X1 : Hid (Cal (W.drewN j1) a1 n1 a2 n2 a3 n3 x) := X
    have Y1 : Hid (Cal (W.drewN j1) a4 n4 a5 n5 a6 n6 y) := Y
    go_wp2_with fail
    refine (eqBoolS_c a2 n2 k2 x.d a5 n5 k5 y.d _ X1.out.2.1 Y1.out.2.1 m2).mono ?_
    rintro e w1 ⟨rfl, j2, rfl⟩
    have X2 : Hid (Cal (W.drewN (j1 + j2)) a1 n1 a2 n2 a3 n3 x) := X
    have Y2 : Hid (Cal (W.drewN (j1 + j2)) a4 n4 a5 n5 a6 n6 y) := Y
    go_wp2_with fail
    go_ret
    exact Mk.b E.out (Below.dr HB.out _)
  have t2 := tr_true h2
  by_cases h3 : x.c = y.c
  all_goals
    have E := Lib.hid (tr_iff (show (x = y) ↔ (x.c = y.c) from ⟨fun h => by rw [h], fun h => Cs.eq h1 h2 h⟩))
    first | (have t3 := tr_true h3; rw [t3] at E) | (have t3 := tr_false h3; rw [t3] at E)
    clear h1 h2 h3
    go_enter Try.func37, Try.ntmps37
    go_wp2_with fail
    obtain ⟨⟨c0, c1, c2⟩, -⟩ := C.out
    obtain ⟨⟨d0, d1, d2⟩, -⟩ := D.out
    obtain ⟨g, hg⟩ : ∃ g, w.heap.size = g := ⟨_, rfl⟩
    have HG := Lib.hid hg
    rw [hg] at c0 c1 c2 d0 d1 d2
    try rw [hg]
    clear hg
    generalize ((w.alloc (.cells #[.slice a1 n1 k1, .slice a2 n2 k2, .slice a3 n3 k3] 36)).alloc (.cells #[.slice a4 n4 k4, .slice a5 n5 k5, .slice a6 n6 k6] 36)) = W at *
    refine (eqBoolS_c a1 n1 k1 x.u a4 n4 k4 y.u _ X.out.1 Y.out.1 m1).mono ?_
    rintro e w1 ⟨rfl, j1, rfl⟩
    have X1 : Hid (Cal (W.drewN j1) a1 n1 a2 n2 a3 n3 x) := X
    have Y1 : Hid (Cal (W.drewN j1) a4 n4 a5 n5 a6 n6 y) := Y
    go_wp2_with fail
    refine (eqBoolS_c a2 n2 k2 x.d a5 n5 k5 y.d _ X1.out.2.1 Y1.out.2.1 m2).mono ?_
    rintro e w1 ⟨rfl, j2, rfl⟩
    have X2 : Hid (Cal (W.drewN (j1 + j2)) a1 n1 a2 n2 a3 n3 x) := X
    have Y2 : Hid (Cal (W.drewN (j1 + j2)) a4 n4 a5 n5 a6 n6 y) := Y
    go_wp2_with fail
    refine (eqBoolS_c a3 n3 k3 x.c a6 n6 k6 y.c (W.drewN (j1 + j2)) X2.out.2.2 Y2.out.2.2 m3).mono ?_
    rintro e w1 ⟨rfl, j3, rfl⟩
    go_wp2_with fail
    go_ret
    exact Mk.b E.out (Below.dr HB.out _)
set_option maxHeartbeats 1000000 in
theorem sameCalls_c (a1 : Option Addr) (n1 k1 : Nat) (a2 : Option Addr) (n2 k2 : Nat) (a3 : Option Addr) (n3 k3 : Nat) (x : Cs) (a4 : Option Addr) (n4 k4 : Nat) (a5 : Option Addr) (n5 k5 : Nat) (a6 : Option Addr) (n6 k6 : Nat) (y : Cs) (w : World) (hX : Cal w a1 n1 a2 n2 a3 n3 x) (hY : Cal w a4 n4 a5 n5 a6 n6 y) (m1 : n1 ≤ 1048577) (m2 : n2 ≤ 1048577) (m3 : n3 ≤ 1048577) :
    Calls Try.prog 19 #[(.agg #[.slice a1 n1 k1, .slice a2 n2 k2, .slice a3 n3 k3]), .agg #[.slice a4 n4 k4, .slice a5 n5 k5, .slice a6 n6 k6]] w (Mk w (.bool (tr (x = y)))) := by
  have X := Lib.hid (Cal.al (Cal.al hX (.cells #[.slice a1 n1 k1, .slice a2 n2 k2, .slice a3 n3 k3] 36)) (.cells #[.slice a4 n4 k4, .slice a5 n5 k5, .slice a6 n6 k6] 36))
  have Y := Lib.hid (Cal.al (Cal.al hY (.cells #[.slice a1 n1 k1, .slice a2 n2 k2, .slice a3 n3 k3] 36)) (.cells #[.slice a4 n4 k4, .slice a5 n5 k5, .slice a6 n6 k6] 36))
  have C := Lib.hid (Bx.al (Bx.new w (.slice a1 n1 k1) (.slice a2 n2 k2) (.slice a3 n3 k3) 36) (.cells #[.slice a4 n4 k4, .slice a5 n5 k5, .slice a6 n6 k6] 36))
  have D := Lib.hid (show Bx ((w.alloc (.cells #[.slice a1 n1 k1, .slice a2 n2 k2, .slice a3 n3 k3] 36)).alloc (.cells #[.slice a4 n4 k4, .slice a5 n5 k5, .slice a6 n6 k6] 36)) (w.heap.size + 1) (.slice a4 n4 k4) (.slice a5 n5 k5) (.slice a6 n6 k6) from by have h9 := Bx.new (w.alloc (.cells #[.slice a1 n1 k1, .slice a2 n2 k2, .slice a3 n3 k3] 36)) (.slice a4 n4 k4) (.slice a5 n5 k5) (.slice a6 n6 k6) 36; rw [World.size_alloc] at h9; exact h9)
  have HB := Lib.hid (Below.al (Below.al (Below.refl w.heap.size w) (.cells #[.slice a1 n1 k1, .slice a2 n2 k2, .slice a3 n3 k3] 36)) (.cells #[.slice a4 n4 k4, .slice a5 n5 k5, .slice a6 n6 k6] 36))
  clear hX hY
  by_cases h1 : x.u = y.u
  case neg =>
    have t := tr_false h1
    have E := Lib.hid (tr_false (fun h : x = y => h1 (by rw [h])))
    clear h1
    go_enter Try.func19, Try.ntmps19
    go_wp2_with fail
    obtain ⟨⟨c0, c1, c2⟩, -⟩ := C.out
    obtain ⟨⟨d0, d1, d2⟩, -⟩ := D.out
    obtain ⟨g, hg⟩ : ∃ g, w.heap.size = g := ⟨_, rfl⟩
    have HG := Lib.hid hg
    rw [hg] at c0 c1 c2 d0 d1 d2
    try rw [hg]
    clear hg
    generalize ((w.alloc (.cells #[.slice a1 n1 k1, .slice a2 n2 k2, .slice a3 n3 k3] 36)).alloc (.cells #[.slice a4 n4 k4, .slice a5 n5 k5, .slice a6 n6 k6] 36)) = W at *
    refine (sameBools_c a1 n1 k1 x.u a4 n4 k4 y.u _ X.out.1 Y.out.1 m1).mono ?_
    rintro e w1 ⟨rfl, j1, rfl⟩
    have X1 : Hid (Cal (W.drewN j1) a1 n1 a2 n2 a3 n3 x) := X
    have Y1 : Hid (Cal (W.drewN j1) a4 n4 a5 n5 a6 n6 y) := Y
    go_wp2_with fail
    go_ret
    exact Mk.b E.out (Below.dr HB.out _)
  have t1 := tr_true h1
  by_cases h2 : x.d = y.d
  case neg =>
    have t := tr_false h2
    have E := Lib.hid (tr_false (fun h : x = y => h2 (by rw [h])))
    clear h1 h2
    go_enter Try.func19, Try.ntmps19
    go_wp2_with fail
    obtain ⟨⟨c0, c1, c2⟩, -⟩ := C.out
    obtain ⟨⟨d0, d1, d2⟩, -⟩ := D.out
    obtain ⟨g, hg⟩ : ∃ g, w.heap.size = g := ⟨_, rfl⟩
    have HG := Lib.hid hg
    rw [hg] at c0 c1 c2 d0 d1 d2
    try rw [hg]
    clear hg
    generalize ((w.alloc (.cells #[.slice a1 n1 k1, .slice a2 n2 k2, .slice a3 n3 k3] 36)).alloc (.cells #[.slice a4 n4 k4, .slice a5 n5 k5, .slice a6 n6 k6] 36)) = W at *
    refine (sameBools_c a1 n1 k1 x.u a4 n4 k4 y.u _ X.out.1 Y.out.1 m1).mono ?_
    rintro e w1 ⟨rfl, j1, rfl⟩
    have X1 : Hid (Cal (W.drewN j1) a1 n1 a2 n2 a3 n3 x) := X
    have Y1 : Hid (Cal (W.drewN j1) a4 n4 a5 n5 a6 n6 y) := Y
    go_wp2_with fail
    refine (sameBools_c a2 n2 k2 x.d a5 n5 k5 y.d _ X1.out.2.1 Y1.out.2.1 m2).mono ?_
    rintro e w1 ⟨rfl, j2, rfl⟩
    have X2 : Hid (Cal (W.drewN (j1 + j2)) a1 n1 a2 n2 a3 n3 x) := X
    have Y2 : Hid (Cal (W.drewN (j1 + j2)) a4 n4 a5 n5 a6 n6 y) := Y
    go_wp2_with fail
    go_ret
    exact Mk.b E.out (Below.dr HB.out _)
  have t2 := tr_true h2
  by_cases h3 : x.c = y.c
  all_goals
    have E := Lib.hid (tr_iff (show (x = y) ↔ (x.c = y.c) from ⟨fun h => by rw [h], fun h => Cs.eq h1 h2 h⟩))
    first | (have t3 := tr_true h3; rw [t3] at E) | (have t3 := tr_false h3; rw [t3] at E)
    clear h1 h2 h3
    go_enter Try.func19, Try.ntmps19
    go_wp2_with fail
    obtain ⟨⟨c0, c1, c2⟩, -⟩ := C.out
    obtain ⟨⟨d0, d1, d2⟩, -⟩ := D.out
    obtain ⟨g, hg⟩ : ∃ g, w.heap.size = g := ⟨_, rfl⟩
    have HG := Lib.hid hg
    rw [hg] at c0 c1 c2 d0 d1 d2
    try rw [hg]
    clear hg
    generalize ((w.alloc (.cells #[.slice a1 n1 k1, .slice a2 n2 k2, .slice a3 n3 k3] 36)).alloc (.cells #[.slice a4 n4 k4, .slice a5 n5 k5, .slice a6 n6 k6] 36)) = W at *
    refine (sameBools_c a1 n1 k1 x.u a4 n4 k4 y.u _ X.out.1 Y.out.1 m1).mono ?_
    rintro e w1 ⟨rfl, j1, rfl⟩
    have X1 : Hid (Cal (W.drewN j1) a1 n1 a2 n2 a3 n3 x) := X
    have Y1 : Hid (Cal (W.drewN j1) a4 n4 a5 n5 a6 n6 y) := Y
    go_wp2_with fail
    refine (sameBools_c a2 n2 k2 x.d a5 n5 k5 y.d _ X1.out.2.1 Y1.out.2.1 m2).mono ?_
    rintro e w1 ⟨rfl, j2, rfl⟩
    have X2 : Hid (Cal (W.drewN (j1 + j2)) a1 n1 a2 n2 a3 n3 x) := X
    have Y2 : Hid (Cal (W.drewN (j1 + j2)) a4 n4 a5 n5 a6 n6 y) := Y
    go_wp2_with fail
    refine (sameBools_c a3 n3 k3 x.c a6 n6 k6 y.c (W.drewN (j1 + j2)) X2.out.2.2 Y2.out.2.2 m3).mono ?_
    rintro e w1 ⟨rfl, j3, rfl⟩
    go_wp2_with fail
    go_ret
    exact Mk.b E.out (Below.dr HB.out _)
end Go.Proofs.Ytfhhgddajmihjaa
