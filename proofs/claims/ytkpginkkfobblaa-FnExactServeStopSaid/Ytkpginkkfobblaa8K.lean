/- The helpers of the exact laws over calls: copies, comparisons, marks. -/
import Derived.Test.Ytkpginkkfobblaa8M
namespace Go.Proofs.Ytkpginkkfobblaa
open Go.RowKit
set_option linter.unusedVariables false

theorem OwnB.of_row {w : World} {G n B : Nat} {xs : List Bool} (h : w.rowIs G 4 n (fun j => .bool (bn xs j))) (hl : xs.length = n) (hB : B ≤ G) (hm : n ≤ maxLen) : OwnB w B (.slice (Option.some ⟨G, 0, none⟩) n n) xs := by
  subst hl
  obtain ⟨c, h1, h2, h3⟩ := h
  refine ⟨by simp, .inr ⟨G, xs.length, c, rfl, hB, h1, Nat.le_refl _, hm, by omega, ?_⟩⟩
  apply List.ext_getElem?
  intro i
  simp only [Nat.mul_one, List.getElem?_take, List.getElem?_map, Array.getElem?_toList]
  split
  · rename_i g
    rw [h3 i g, List.getElem?_eq_getElem g]
    simp [bn_eq g]
  · rename_i g
    rw [List.getElem?_eq_none (by omega)]
    rfl
set_option maxHeartbeats 400000 in
theorem toBoolS_c (a : Option Addr) (n cap : Nat) (xs : List Bool) (w : World) (hs : BS w a n xs) (hm : n ≤ 1048576) :
    Calls Try.prog 50 #[.slice a n cap] w fun e w' => ∃ G, e = .returned (.slice (some ⟨G, 0, none⟩) n n) ∧ w.heap.size ≤ G ∧ OwnB w' w.heap.size (.slice (some ⟨G, 0, none⟩) n n) xs ∧ Below w.heap.size w w' := by
  have hmk := run_make_row' (P := Try.prog) 23 4 (.bool false) 1 Try.underlying23 infoBool rfl .i64 .i64 n (by omega) (by omega)
  obtain ⟨hl, hs⟩ := hs
  have HL := Lib.hid hl
  have HSS := Lib.hid hs
  clear hl hs
  go_enter Try.func50, Try.ntmps50
  go_wp2
  have R0 := World.rowIs_made w (.bool false) n 4
  have B0 : Below w.heap.size w (w.alloc (.cells (madeCells #[.bool false] n) 4)) := (Below.refl _ _).alloc (Nat.le_refl _) _
  clear hmk
  generalize hw0 : w.alloc (.cells (madeCells #[.bool false] n) 4) = w0 at *
  clear hw0
  obtain ⟨G, hG⟩ : ∃ G, w.heap.size = G := ⟨_, rfl⟩
  have HG : Hid _ := hG
  rw [hG] at R0
  rw [hG]
  clear hG
  go_loopw [4] (fun v wr => ∃ k : Nat, k ≤ n ∧ v = .int .i64 k ∧ Below w.heap.size w wr ∧ wr.rowIs G 4 n (fun j => .bool (if j < k then bn xs j else false))) (fun v _ => n - (intOf v).toNat)
  case atStart => exact ⟨0, by omega, rfl, B0, R0.congr (fun i hi => by simp)⟩
  case round =>
    clear R0 B0
    obtain ⟨k, hk, rfl, hb, hr⟩ := hrel
    have hk63 : k ≤ 1048576 := by omega
    by_cases hlt : k < n
    · rcases HSS.out with h0 | ⟨b, off, rfl, hc⟩
      · omega
      · have c1 := cell_below (hc k hlt) hb
        have c2 : wr.cell? ⟨G, k, none⟩ = some (.bool (if k < k then bn xs k else false)) := hr.cell hlt
        have c3 : wr.frozen? ⟨G, k, none⟩ = false := hr.frozen k
        have hr2 := hr.set k (.bool (bn xs k))
        have hb2 := hb.setCell (p := ⟨G, k, none⟩) (by rw [HG.out]; exact Nat.le_refl _) (.bool (bn xs k))
        rw [if_neg (by omega)] at c2
        have HR := Lib.hid hr2
        have HB := Lib.hid hb2
        clear hr hb hr2 hb2 hc
        go_wp2
        go_roundw
        case rel => exact ⟨k + 1, by omega, by go_num, HB.out, World.rowIs.congr HR.out (fun i hi => by
          by_cases e : i = k
          · subst e; simp
          · simp only [e, if_false]; congr 1; by_cases e2 : i < k <;> simp [e2] <;> omega)⟩
        case measure => simp [intOf]; omega
    · obtain rfl : k = n := by omega
      have HR := Lib.hid hr
      have HB := Lib.hid hb
      clear hr hb
      go_wp2
      go_ret
      exact ⟨G, rfl, by rw [HG.out]; exact Nat.le_refl _, OwnB.of_row (World.rowIs.congr HR.out (fun j hj => by simp [hj])) HL.out (by rw [HG.out]; exact Nat.le_refl _) (by unfold maxLen; omega), HB.out⟩
/-- What the guard on sizes leaves. -/
def sz (a b c : Nat) : Int := if a + b + c ≤ 1048576 then 1048576 - (a + b + c : Nat) else -1
theorem szBoolS_c (a : Option Addr) (n cap : Nat) (l : Int) (w : World) (h0 : 0 ≤ l) (h1 : l ≤ 1048576) (hn : n ≤ maxLen) :
    Calls Try.prog 49 #[.slice a n cap, .int .i64 l] w (St w (.int .i64 (if (n : Int) ≤ l then l - n else -1))) := by
  unfold maxLen at hn
  by_cases h : (n : Int) ≤ l
  · have E := Lib.hid (if_pos h : (if (n : Int) ≤ l then l - (n : Int) else -1) = _)
    have h2 : ¬ (l - n : Int) < 0 := by omega
    go_enter Try.func49, Try.ntmps49
    go_wp2_with fail
    go_ret
    first | exact St.i E.out | exact St.i rfl
  · have E := Lib.hid (if_neg h : (if (n : Int) ≤ l then l - (n : Int) else -1) = _)
    have h2 : (l - n : Int) < 0 := by omega
    go_enter Try.func49, Try.ntmps49
    go_wp2_with fail
    go_ret
    first | exact St.i E.out | exact St.i rfl
set_option maxHeartbeats 1000000 in
theorem szCalls_c (a1 : Option Addr) (n1 k1 : Nat) (a2 : Option Addr) (n2 k2 : Nat) (a3 : Option Addr) (n3 k3 : Nat) (w : World) (m1 : n1 ≤ maxLen) (m2 : n2 ≤ maxLen) (m3 : n3 ≤ maxLen) :
    Calls Try.prog 24 #[(.agg #[.slice a1 n1 k1, .slice a2 n2 k2, .slice a3 n3 k3]), .int .i64 1048576] w (Mk w (.int .i64 (sz n1 n2 n3))) := by
  obtain ⟨⟨c0, c1, c2⟩, -⟩ := Bx.new w (.slice a1 n1 k1) (.slice a2 n2 k2) (.slice a3 n3 k3) 41
  have HB := Lib.hid (Below.al (Below.refl w.heap.size w) (.cells #[.slice a1 n1 k1, .slice a2 n2 k2, .slice a3 n3 k3] 41))
  have K1 := fun w' => szBoolS_c a1 n1 k1 1048576 w' (by omega) (by omega) m1
  by_cases h1 : (n1 : Int) ≤ 1048576
  case neg =>
    rw [if_neg h1] at K1
    have E := Lib.hid (show sz n1 n2 n3 = -1 from by unfold sz; rw [if_neg (by omega)])
    have H1 := Lib.hid K1
    clear K1 h1
    go_enter Try.func24, Try.ntmps24
    go_wp2_with fail
    refine (H1.out _).mono ?_
    rintro e w1 ⟨rfl, rfl⟩
    go_wp2_with fail
    go_ret
    exact Mk.i E.out HB.out
  rw [if_pos h1] at K1
  have K2 := fun w' => szBoolS_c a2 n2 k2 (1048576 - n1) w' (by omega) (by omega) m2
  by_cases h2 : (n2 : Int) ≤ 1048576 - n1
  case neg =>
    rw [if_neg h2] at K2
    have E := Lib.hid (show sz n1 n2 n3 = -1 from by unfold sz; rw [if_neg (by omega)])
    have g1 : ¬ ((1048576 : Int) - n1 < 0) := by omega
    have H1 := Lib.hid K1
    have H2 := Lib.hid K2
    clear K1 K2 h1 h2
    go_enter Try.func24, Try.ntmps24
    go_wp2_with fail
    refine (H1.out _).mono ?_
    rintro e w1 ⟨rfl, rfl⟩
    go_wp2_with fail
    refine (H2.out _).mono ?_
    rintro e w1 ⟨rfl, rfl⟩
    go_wp2_with fail
    go_ret
    exact Mk.i E.out HB.out
  rw [if_pos h2] at K2
  have K3 := fun w' => szBoolS_c a3 n3 k3 (1048576 - n1 - n2) w' (by omega) (by omega) m3
  have g1 : ¬ ((1048576 : Int) - n1 < 0) := by omega
  have g2 : ¬ ((1048576 : Int) - n1 - n2 < 0) := by omega
  by_cases h3 : (n3 : Int) ≤ 1048576 - n1 - n2
  · rw [if_pos h3] at K3
    have E := Lib.hid (show sz n1 n2 n3 = 1048576 - n1 - n2 - n3 from by unfold sz; rw [if_pos (by omega)]; omega)
    have g3 : ¬ ((1048576 : Int) - n1 - n2 - n3 < 0) := by omega
    have H1 := Lib.hid K1
    have H2 := Lib.hid K2
    have H3 := Lib.hid K3
    clear K1 K2 K3 h1 h2 h3
    go_enter Try.func24, Try.ntmps24
    go_wp2_with fail
    refine (H1.out _).mono ?_
    rintro e w1 ⟨rfl, rfl⟩
    go_wp2_with fail
    refine (H2.out _).mono ?_
    rintro e w1 ⟨rfl, rfl⟩
    go_wp2_with fail
    refine (H3.out _).mono ?_
    rintro e w1 ⟨rfl, rfl⟩
    go_wp2_with fail
    go_ret
    exact Mk.i E.out HB.out
  · rw [if_neg h3] at K3
    have E := Lib.hid (show sz n1 n2 n3 = -1 from by unfold sz; rw [if_neg (by omega)])
    have H1 := Lib.hid K1
    have H2 := Lib.hid K2
    have H3 := Lib.hid K3
    clear K1 K2 K3 h1 h2 h3
    go_enter Try.func24, Try.ntmps24
    go_wp2_with fail
    refine (H1.out _).mono ?_
    rintro e w1 ⟨rfl, rfl⟩
    go_wp2_with fail
    refine (H2.out _).mono ?_
    rintro e w1 ⟨rfl, rfl⟩
    go_wp2_with fail
    refine (H3.out _).mono ?_
    rintro e w1 ⟨rfl, rfl⟩
    go_wp2_with fail
    go_ret
    exact Mk.i E.out HB.out
set_option maxHeartbeats 1000000 in
theorem eqBoolS_c (a : Option Addr) (n cap : Nat) (xs : List Bool) (a' : Option Addr) (n' cap' : Nat) (ys : List Bool) (w : World) (hx : BS w a n xs) (hy : BS w a' n' ys) (hm : n ≤ 1048577) :
    Calls Try.prog 51 #[.slice a n cap, .slice a' n' cap'] w (Ro w (.bool (tr (xs = ys)))) := by
  obtain ⟨l1, hx⟩ := hx
  obtain ⟨l2, hy⟩ := hy
  have HX := Lib.hid hx
  have HY := Lib.hid hy
  clear hx hy
  by_cases hl : n = n'
  case neg =>
    have t : ((n : Int) != (n' : Int)) = true := by simp; omega
    have E := Lib.hid (tr_false (fun h : xs = ys => hl (by rw [← l1, ← l2, h])))
    clear hl l1 l2
    go_enter Try.func51, Try.ntmps51
    go_wp2_with fail
    go_ret
    exact Ro.b E.out (by first | exact ⟨0, rfl⟩ | (simp only [World.drewN_drewN]; exact ⟨_, rfl⟩) | exact ⟨_, rfl⟩)
  subst hl
  have L1 := Lib.hid l1
  have L2 := Lib.hid l2
  clear l1 l2
  go_enter Try.func51, Try.ntmps51
  go_wp2_with fail
  obtain ⟨wo, hwo⟩ : ∃ wo : World, wo = w := ⟨_, rfl⟩
  go_loopw [5] (fun v wr => ∃ k m : Nat, k ≤ n ∧ v = .int .i64 k ∧ wr = wo.drewN m ∧ ∀ i, i < k → bn xs i = bn ys i) (fun v _ => n - (intOf v).toNat)
  case atStart => exact ⟨0, 0, by omega, rfl, by rw [hwo]; rfl, by omega⟩
  case round =>
    obtain ⟨k, m, hk, rfl, hw, hall⟩ := hrel
    subst hwo
    have HA := Lib.hid hall
    have HW := Lib.hid hw
    clear hw hall
    by_cases hlt : k < n
    · rcases HX.out with h0 | ⟨b, off, rfl, hc⟩
      · omega
      rcases HY.out with h0 | ⟨b', off', rfl, hd⟩
      · omega
      have c1 : wr.cell? ⟨b, off + k, none⟩ = some (.bool (bn xs k)) := by rw [HW.out]; exact hc k hlt
      have c2 : wr.cell? ⟨b', off' + k, none⟩ = some (.bool (bn ys k)) := by rw [HW.out]; exact hd k hlt
      clear hc hd
      by_cases he : bn xs k = bn ys k
      · rw [he] at c1
        have HE := Lib.hid he
        clear he
        go_wp2_with fail
        go_quiet (fail)
        go_wp2_with fail
        go_roundw
        case rel => exact ⟨k + 1, _, by omega, by go_num, (by rw [HW.out]; first | exact World.drewN_drewN .. | (simp only [World.drewN_drewN]; rfl) | (simp only [World.drewN_drewN])), fun i hi => by
          by_cases e : i = k
          · subst e; exact HE.out
          · exact HA.out i (by omega)⟩
        case measure => simp [intOf]; omega
      · have E := Lib.hid (tr_false (fun h : xs = ys => he (by rw [h])))
        cases hp : bn xs k <;> cases hq : bn ys k
        · exact absurd (by rw [hp, hq]) he
        · rw [hp] at c1
          rw [hq] at c2
          clear he hp hq
          go_wp2_with fail
          go_quiet (fail)
          go_wp2_with fail
          go_ret
          exact Ro.b E.out (by rw [HW.out]; (try simp only [World.drewN_drewN]); exact ⟨_, rfl⟩)
        · rw [hp] at c1
          rw [hq] at c2
          clear he hp hq
          go_wp2_with fail
          go_quiet (fail)
          go_wp2_with fail
          go_ret
          exact Ro.b E.out (by rw [HW.out]; (try simp only [World.drewN_drewN]); exact ⟨_, rfl⟩)
        · exact absurd (by rw [hp, hq]) he
    · obtain rfl : k = n := by omega
      have E := Lib.hid (tr_true (bn_ext (xs := xs) (ys := ys) (by rw [L1.out, L2.out]) (fun i hi => HA.out i (by rw [← L1.out]; exact hi))))
      go_wp2_with fail
      go_ret
      exact Ro.b E.out (by rw [HW.out]; (try simp only [World.drewN_drewN]); exact ⟨_, rfl⟩)
set_option maxHeartbeats 1000000 in
theorem sameBools_c (a : Option Addr) (n cap : Nat) (xs : List Bool) (a' : Option Addr) (n' cap' : Nat) (ys : List Bool) (w : World) (hx : BS w a n xs) (hy : BS w a' n' ys) (hm : n ≤ 1048577) :
    Calls Try.prog 45 #[.slice a n cap, .slice a' n' cap'] w (Ro w (.bool (tr (xs = ys)))) := by
  obtain ⟨l1, hx⟩ := hx
  obtain ⟨l2, hy⟩ := hy
  have HX := Lib.hid hx
  have HY := Lib.hid hy
  clear hx hy
  by_cases hl : n = n'
  case neg =>
    have t : ((n : Int) != (n' : Int)) = true := by simp; omega
    have E := Lib.hid (tr_false (fun h : xs = ys => hl (by rw [← l1, ← l2, h])))
    clear hl l1 l2
    go_enter Try.func45, Try.ntmps45
    go_wp2_with fail
    go_ret
    exact Ro.b E.out (by first | exact ⟨0, rfl⟩ | (simp only [World.drewN_drewN]; exact ⟨_, rfl⟩) | exact ⟨_, rfl⟩)
  subst hl
  have L1 := Lib.hid l1
  have L2 := Lib.hid l2
  clear l1 l2
  go_enter Try.func45, Try.ntmps45
  go_wp2_with fail
  obtain ⟨wo, hwo⟩ : ∃ wo : World, wo = w := ⟨_, rfl⟩
  go_loopw [5] (fun v wr => ∃ k m : Nat, k ≤ n ∧ v = .int .i64 k ∧ wr = wo.drewN m ∧ ∀ i, i < k → bn xs i = bn ys i) (fun v _ => n - (intOf v).toNat)
  case atStart => exact ⟨0, 0, by omega, rfl, by rw [hwo]; rfl, by omega⟩
  case round =>
    obtain ⟨k, m, hk, rfl, hw, hall⟩ := hrel
    subst hwo
    have HA := Lib.hid hall
    have HW := Lib.hid hw
    clear hw hall
    by_cases hlt : k < n
    · rcases HX.out with h0 | ⟨b, off, rfl, hc⟩
      · omega
      rcases HY.out with h0 | ⟨b', off', rfl, hd⟩
      · omega
      have c1 : wr.cell? ⟨b, off + k, none⟩ = some (.bool (bn xs k)) := by rw [HW.out]; exact hc k hlt
      have c2 : wr.cell? ⟨b', off' + k, none⟩ = some (.bool (bn ys k)) := by rw [HW.out]; exact hd k hlt
      clear hc hd
      by_cases he : bn xs k = bn ys k
      · rw [he] at c1
        have HE := Lib.hid he
        clear he
        go_wp2_with fail
        go_quiet (fail)
        go_wp2_with fail
        go_roundw
        case rel => exact ⟨k + 1, _, by omega, by go_num, (by rw [HW.out]; first | exact World.drewN_drewN .. | (simp only [World.drewN_drewN]; rfl) | (simp only [World.drewN_drewN])), fun i hi => by
          by_cases e : i = k
          · subst e; exact HE.out
          · exact HA.out i (by omega)⟩
        case measure => simp [intOf]; omega
      · have E := Lib.hid (tr_false (fun h : xs = ys => he (by rw [h])))
        cases hp : bn xs k <;> cases hq : bn ys k
        · exact absurd (by rw [hp, hq]) he
        · rw [hp] at c1
          rw [hq] at c2
          clear he hp hq
          go_wp2_with fail
          go_quiet (fail)
          go_wp2_with fail
          go_ret
          exact Ro.b E.out (by rw [HW.out]; (try simp only [World.drewN_drewN]); exact ⟨_, rfl⟩)
        · rw [hp] at c1
          rw [hq] at c2
          clear he hp hq
          go_wp2_with fail
          go_quiet (fail)
          go_wp2_with fail
          go_ret
          exact Ro.b E.out (by rw [HW.out]; (try simp only [World.drewN_drewN]); exact ⟨_, rfl⟩)
        · exact absurd (by rw [hp, hq]) he
    · obtain rfl : k = n := by omega
      have E := Lib.hid (tr_true (bn_ext (xs := xs) (ys := ys) (by rw [L1.out, L2.out]) (fun i hi => HA.out i (by rw [← L1.out]; exact hi))))
      go_wp2_with fail
      go_ret
      exact Ro.b E.out (by rw [HW.out]; (try simp only [World.drewN_drewN]); exact ⟨_, rfl⟩)

theorem Bx.set0 {w : World} {b : Nat} {v1 v2 v3 : Value} (h : Bx w b v1 v2 v3) (u : Value) : Bx (w.setCell ⟨b, 0, none⟩ u) b u v2 v3 :=
  ⟨⟨World.cell?_setCell_same _ _ _ h.1.1, by rw [World.cell?_setCell_other _ _ _ _ (by simp)]; exact h.1.2.1, by rw [World.cell?_setCell_other _ _ _ _ (by simp)]; exact h.1.2.2⟩, fun i => by rw [World.frozen?_setCell]; exact h.2 i⟩
theorem Bx.set1 {w : World} {b : Nat} {v1 v2 v3 : Value} (h : Bx w b v1 v2 v3) (u : Value) : Bx (w.setCell ⟨b, 1, none⟩ u) b v1 u v3 :=
  ⟨⟨by rw [World.cell?_setCell_other _ _ _ _ (by simp)]; exact h.1.1, World.cell?_setCell_same _ _ _ h.1.2.1, by rw [World.cell?_setCell_other _ _ _ _ (by simp)]; exact h.1.2.2⟩, fun i => by rw [World.frozen?_setCell]; exact h.2 i⟩
theorem Bx.set2 {w : World} {b : Nat} {v1 v2 v3 : Value} (h : Bx w b v1 v2 v3) (u : Value) : Bx (w.setCell ⟨b, 2, none⟩ u) b v1 v2 u :=
  ⟨⟨by rw [World.cell?_setCell_other _ _ _ _ (by simp)]; exact h.1.1, by rw [World.cell?_setCell_other _ _ _ _ (by simp)]; exact h.1.2.1, World.cell?_setCell_same _ _ _ h.1.2.2⟩, fun i => by rw [World.frozen?_setCell]; exact h.2 i⟩
theorem cs_eq (x y : Cs) : (x = y) ↔ (x.u = y.u ∧ x.d = y.d ∧ x.c = y.c) := ⟨fun h => by subst h; exact ⟨rfl, rfl, rfl⟩, fun h => Cs.eq h.1 h.2.1 h.2.2⟩
set_option maxHeartbeats 1000000 in
theorem eqCalls_c (a1 : Option Addr) (n1 k1 : Nat) (a2 : Option Addr) (n2 k2 : Nat) (a3 : Option Addr) (n3 k3 : Nat) (x : Cs) (a4 : Option Addr) (n4 k4 : Nat) (a5 : Option Addr) (n5 k5 : Nat) (a6 : Option Addr) (n6 k6 : Nat) (y : Cs) (w : World) (hX : Cal w a1 n1 a2 n2 a3 n3 x) (hY : Cal w a4 n4 a5 n5 a6 n6 y) (m1 : n1 ≤ 1048577) (m2 : n2 ≤ 1048577) (m3 : n3 ≤ 1048577) :
    Calls Try.prog 28 #[(.agg #[.slice a1 n1 k1, .slice a2 n2 k2, .slice a3 n3 k3]), .agg #[.slice a4 n4 k4, .slice a5 n5 k5, .slice a6 n6 k6]] w (Mk w (.bool (tr (x = y)))) := by
  have X := Lib.hid (Cal.al (Cal.al hX (.cells #[.slice a1 n1 k1, .slice a2 n2 k2, .slice a3 n3 k3] 25)) (.cells #[.slice a4 n4 k4, .slice a5 n5 k5, .slice a6 n6 k6] 25))
  have Y := Lib.hid (Cal.al (Cal.al hY (.cells #[.slice a1 n1 k1, .slice a2 n2 k2, .slice a3 n3 k3] 25)) (.cells #[.slice a4 n4 k4, .slice a5 n5 k5, .slice a6 n6 k6] 25))
  have C := Lib.hid (Bx.al (Bx.new w (.slice a1 n1 k1) (.slice a2 n2 k2) (.slice a3 n3 k3) 25) (.cells #[.slice a4 n4 k4, .slice a5 n5 k5, .slice a6 n6 k6] 25))
  have D := Lib.hid (show Bx ((w.alloc (.cells #[.slice a1 n1 k1, .slice a2 n2 k2, .slice a3 n3 k3] 25)).alloc (.cells #[.slice a4 n4 k4, .slice a5 n5 k5, .slice a6 n6 k6] 25)) (w.heap.size + 1) (.slice a4 n4 k4) (.slice a5 n5 k5) (.slice a6 n6 k6) from by have h9 := Bx.new (w.alloc (.cells #[.slice a1 n1 k1, .slice a2 n2 k2, .slice a3 n3 k3] 25)) (.slice a4 n4 k4) (.slice a5 n5 k5) (.slice a6 n6 k6) 25; rw [World.size_alloc] at h9; exact h9)
  have HB := Lib.hid (Below.al (Below.al (Below.refl w.heap.size w) (.cells #[.slice a1 n1 k1, .slice a2 n2 k2, .slice a3 n3 k3] 25)) (.cells #[.slice a4 n4 k4, .slice a5 n5 k5, .slice a6 n6 k6] 25))
  clear hX hY
  by_cases h1 : x.u = y.u
  case neg =>
    have t := tr_false h1
    have E := Lib.hid (tr_false (fun h : x = y => h1 (by rw [h])))
    clear h1
    go_enter Try.func28, Try.ntmps28
    go_wp2_with fail
    obtain ⟨⟨c0, c1, c2⟩, -⟩ := C.out
    obtain ⟨⟨d0, d1, d2⟩, -⟩ := D.out
    obtain ⟨g, hg⟩ : ∃ g, w.heap.size = g := ⟨_, rfl⟩
    have HG := Lib.hid hg
    rw [hg] at c0 c1 c2 d0 d1 d2
    try rw [hg]
    clear hg
    generalize ((w.alloc (.cells #[.slice a1 n1 k1, .slice a2 n2 k2, .slice a3 n3 k3] 25)).alloc (.cells #[.slice a4 n4 k4, .slice a5 n5 k5, .slice a6 n6 k6] 25)) = W at *
    refine (eqBoolS_c a1 n1 k1 x.u a4 n4 k4 y.u _ X.out.1 Y.out.1 m1).mono ?_
    rintro e w1 ⟨rfl, j1, rfl⟩
    have X1 : Hid (Cal (W.drewN j1) a1 n1 a2 n2 a3 n3 x) := X
    have Y1 : Hid (Cal (W.drewN j1) a4 n4 a5 n5 a6 n6 y) := Y
    go_wp2_with fail
    go_ret
    exact Mk.b E.out (Below.dr HB.out _)
  have t1 := tr_true h1
  by_cases h2 : x.d = y.d
  case neg =>
    have t := tr_false h2
    have E := Lib.hid (tr_false (fun h : x = y => h2 (by rw [h])))
    clear h1 h2
    go_enter Try.func28, Try.ntmps28
    go_wp2_with fail
    obtain ⟨⟨c0, c1, c2⟩, -⟩ := C.out
    obtain ⟨⟨d0, d1, d2⟩, -⟩ := D.out
    obtain ⟨g, hg⟩ : ∃ g, w.heap.size = g := ⟨_, rfl⟩
    have HG := Lib.hid hg
    rw [hg] at c0 c1 c2 d0 d1 d2
    try rw [hg]
    clear hg
    generalize ((w.alloc (.cells #[.slice a1 n1 k1, .slice a2 n2 k2, .slice a3 n3 k3] 25)).alloc (.cells #[.slice a4 n4 k4, .slice a5 n5 k5, .slice a6 n6 k6] 25)) = W at *
    refine (eqBoolS_c a1 n1 k1 x.u a4 n4 k4 y.u _ X.out.1 Y.out.1 m1).mono ?_
    rintro e w1 ⟨rfl, j1, rfl⟩
    have X1 : Hid (Cal (W.drewN j1) a1 n1 a2 n2 a3 n3 x) := X
    have Y1 : Hid (Cal (W.drewN j1) a4 n4 a5 n5 a6 n6 y) := Y
    go_wp2_with fail
    refine (eqBoolS_c a2 n2 k2 x.d a5 n5 k5 y.d _ X1.out.2.1 Y1.out.2.1 m2).mono ?_
    rintro e w1 ⟨rfl, j2, rfl⟩
    have X2 : Hid (Cal (W.drewN (j1 + j2)) a1 n1 a2 n2 a3 n3 x) := X
    have Y2 : Hid (Cal (W.drewN (j1 + j2)) a4 n4 a5 n5 a6 n6 y) := Y
    go_wp2_with fail
    go_ret
    exact Mk.b E.out (Below.dr HB.out _)
  have t2 := tr_true h2
  by_cases h3 : x.c = y.c
  all_goals
    have E := Lib.hid (tr_iff (show (x = y) ↔ (x.c = y.c) from ⟨fun h => by rw [h], fun h => Cs.eq h1 h2 h⟩))
    first | (have t3 := tr_true h3; rw [t3] at E) | (have t3 := tr_false h3; rw [t3] at E)
    clear h1 h2 h3
    go_enter Try.func28, Try.ntmps28
    go_wp2_with fail
    obtain ⟨⟨c0, c1, c2⟩, -⟩ := C.out
    obtain ⟨⟨d0, d1, d2⟩, -⟩ := D.out
    obtain ⟨g, hg⟩ : ∃ g, w.heap.size = g := ⟨_, rfl⟩
    have HG := Lib.hid hg
    rw [hg] at c0 c1 c2 d0 d1 d2
    try rw [hg]
    clear hg
    generalize ((w.alloc (.cells #[.slice a1 n1 k1, .slice a2 n2 k2, .slice a3 n3 k3] 25)).alloc (.cells #[.slice a4 n4 k4, .slice a5 n5 k5, .slice a6 n6 k6] 25)) = W at *
    refine (eqBoolS_c a1 n1 k1 x.u a4 n4 k4 y.u _ X.out.1 Y.out.1 m1).mono ?_
    rintro e w1 ⟨rfl, j1, rfl⟩
    have X1 : Hid (Cal (W.drewN j1) a1 n1 a2 n2 a3 n3 x) := X
    have Y1 : Hid (Cal (W.drewN j1) a4 n4 a5 n5 a6 n6 y) := Y
    go_wp2_with fail
    refine (eqBoolS_c a2 n2 k2 x.d a5 n5 k5 y.d _ X1.out.2.1 Y1.out.2.1 m2).mono ?_
    rintro e w1 ⟨rfl, j2, rfl⟩
    have X2 : Hid (Cal (W.drewN (j1 + j2)) a1 n1 a2 n2 a3 n3 x) := X
    have Y2 : Hid (Cal (W.drewN (j1 + j2)) a4 n4 a5 n5 a6 n6 y) := Y
    go_wp2_with fail
    refine (eqBoolS_c a3 n3 k3 x.c a6 n6 k6 y.c (W.drewN (j1 + j2)) X2.out.2.2 Y2.out.2.2 m3).mono ?_
    rintro e w1 ⟨rfl, j3, rfl⟩
    go_wp2_with fail
    go_ret
    exact Mk.b E.out (Below.dr HB.out _)
set_option maxHeartbeats 1000000 in
theorem sameCalls_c (a1 : Option Addr) (n1 k1 : Nat) (a2 : Option Addr) (n2 k2 : Nat) (a3 : Option Addr) (n3 k3 : Nat) (x : Cs) (a4 : Option Addr) (n4 k4 : Nat) (a5 : Option Addr) (n5 k5 : Nat) (a6 : Option Addr) (n6 k6 : Nat) (y : Cs) (w : World) (hX : Cal w a1 n1 a2 n2 a3 n3 x) (hY : Cal w a4 n4 a5 n5 a6 n6 y) (m1 : n1 ≤ 1048577) (m2 : n2 ≤ 1048577) (m3 : n3 ≤ 1048577) :
    Calls Try.prog 17 #[(.agg #[.slice a1 n1 k1, .slice a2 n2 k2, .slice a3 n3 k3]), .agg #[.slice a4 n4 k4, .slice a5 n5 k5, .slice a6 n6 k6]] w (Mk w (.bool (tr (x = y)))) := by
  have X := Lib.hid (Cal.al (Cal.al hX (.cells #[.slice a1 n1 k1, .slice a2 n2 k2, .slice a3 n3 k3] 25)) (.cells #[.slice a4 n4 k4, .slice a5 n5 k5, .slice a6 n6 k6] 25))
  have Y := Lib.hid (Cal.al (Cal.al hY (.cells #[.slice a1 n1 k1, .slice a2 n2 k2, .slice a3 n3 k3] 25)) (.cells #[.slice a4 n4 k4, .slice a5 n5 k5, .slice a6 n6 k6] 25))
  have C := Lib.hid (Bx.al (Bx.new w (.slice a1 n1 k1) (.slice a2 n2 k2) (.slice a3 n3 k3) 25) (.cells #[.slice a4 n4 k4, .slice a5 n5 k5, .slice a6 n6 k6] 25))
  have D := Lib.hid (show Bx ((w.alloc (.cells #[.slice a1 n1 k1, .slice a2 n2 k2, .slice a3 n3 k3] 25)).alloc (.cells #[.slice a4 n4 k4, .slice a5 n5 k5, .slice a6 n6 k6] 25)) (w.heap.size + 1) (.slice a4 n4 k4) (.slice a5 n5 k5) (.slice a6 n6 k6) from by have h9 := Bx.new (w.alloc (.cells #[.slice a1 n1 k1, .slice a2 n2 k2, .slice a3 n3 k3] 25)) (.slice a4 n4 k4) (.slice a5 n5 k5) (.slice a6 n6 k6) 25; rw [World.size_alloc] at h9; exact h9)
  have HB := Lib.hid (Below.al (Below.al (Below.refl w.heap.size w) (.cells #[.slice a1 n1 k1, .slice a2 n2 k2, .slice a3 n3 k3] 25)) (.cells #[.slice a4 n4 k4, .slice a5 n5 k5, .slice a6 n6 k6] 25))
  clear hX hY
  by_cases h1 : x.u = y.u
  case neg =>
    have t := tr_false h1
    have E := Lib.hid (tr_false (fun h : x = y => h1 (by rw [h])))
    clear h1
    go_enter Try.func17, Try.ntmps17
    go_wp2_with fail
    obtain ⟨⟨c0, c1, c2⟩, -⟩ := C.out
    obtain ⟨⟨d0, d1, d2⟩, -⟩ := D.out
    obtain ⟨g, hg⟩ : ∃ g, w.heap.size = g := ⟨_, rfl⟩
    have HG := Lib.hid hg
    rw [hg] at c0 c1 c2 d0 d1 d2
    try rw [hg]
    clear hg
    generalize ((w.alloc (.cells #[.slice a1 n1 k1, .slice a2 n2 k2, .slice a3 n3 k3] 25)).alloc (.cells #[.slice a4 n4 k4, .slice a5 n5 k5, .slice a6 n6 k6] 25)) = W at *
    refine (sameBools_c a1 n1 k1 x.u a4 n4 k4 y.u _ X.out.1 Y.out.1 m1).mono ?_
    rintro e w1 ⟨rfl, j1, rfl⟩
    have X1 : Hid (Cal (W.drewN j1) a1 n1 a2 n2 a3 n3 x) := X
    have Y1 : Hid (Cal (W.drewN j1) a4 n4 a5 n5 a6 n6 y) := Y
    go_wp2_with fail
    go_ret
    exact Mk.b E.out (Below.dr HB.out _)
  have t1 := tr_true h1
  by_cases h2 : x.d = y.d
  case neg =>
    have t := tr_false h2
    have E := Lib.hid (tr_false (fun h : x = y => h2 (by rw [h])))
    clear h1 h2
    go_enter Try.func17, Try.ntmps17
    go_wp2_with fail
    obtain ⟨⟨c0, c1, c2⟩, -⟩ := C.out
    obtain ⟨⟨d0, d1, d2⟩, -⟩ := D.out
    obtain ⟨g, hg⟩ : ∃ g, w.heap.size = g := ⟨_, rfl⟩
    have HG := Lib.hid hg
    rw [hg] at c0 c1 c2 d0 d1 d2
    try rw [hg]
    clear hg
    generalize ((w.alloc (.cells #[.slice a1 n1 k1, .slice a2 n2 k2, .slice a3 n3 k3] 25)).alloc (.cells #[.slice a4 n4 k4, .slice a5 n5 k5, .slice a6 n6 k6] 25)) = W at *
    refine (sameBools_c a1 n1 k1 x.u a4 n4 k4 y.u _ X.out.1 Y.out.1 m1).mono ?_
    rintro e w1 ⟨rfl, j1, rfl⟩
    have X1 : Hid (Cal (W.drewN j1) a1 n1 a2 n2 a3 n3 x) := X
    have Y1 : Hid (Cal (W.drewN j1) a4 n4 a5 n5 a6 n6 y) := Y
    go_wp2_with fail
    refine (sameBools_c a2 n2 k2 x.d a5 n5 k5 y.d _ X1.out.2.1 Y1.out.2.1 m2).mono ?_
    rintro e w1 ⟨rfl, j2, rfl⟩
    have X2 : Hid (Cal (W.drewN (j1 + j2)) a1 n1 a2 n2 a3 n3 x) := X
    have Y2 : Hid (Cal (W.drewN (j1 + j2)) a4 n4 a5 n5 a6 n6 y) := Y
    go_wp2_with fail
    go_ret
    exact Mk.b E.out (Below.dr HB.out _)
  have t2 := tr_true h2
  by_cases h3 : x.c = y.c
  all_goals
    have E := Lib.hid (tr_iff (show (x = y) ↔ (x.c = y.c) from ⟨fun h => by rw [h], fun h => Cs.eq h1 h2 h⟩))
    first | (have t3 := tr_true h3; rw [t3] at E) | (have t3 := tr_false h3; rw [t3] at E)
    clear h1 h2 h3
    go_enter Try.func17, Try.ntmps17
    go_wp2_with fail
    obtain ⟨⟨c0, c1, c2⟩, -⟩ := C.out
    obtain ⟨⟨d0, d1, d2⟩, -⟩ := D.out
    obtain ⟨g, hg⟩ : ∃ g, w.heap.size = g := ⟨_, rfl⟩
    have HG := Lib.hid hg
    rw [hg] at c0 c1 c2 d0 d1 d2
    try rw [hg]
    clear hg
    generalize ((w.alloc (.cells #[.slice a1 n1 k1, .slice a2 n2 k2, .slice a3 n3 k3] 25)).alloc (.cells #[.slice a4 n4 k4, .slice a5 n5 k5, .slice a6 n6 k6] 25)) = W at *
    refine (sameBools_c a1 n1 k1 x.u a4 n4 k4 y.u _ X.out.1 Y.out.1 m1).mono ?_
    rintro e w1 ⟨rfl, j1, rfl⟩
    have X1 : Hid (Cal (W.drewN j1) a1 n1 a2 n2 a3 n3 x) := X
    have Y1 : Hid (Cal (W.drewN j1) a4 n4 a5 n5 a6 n6 y) := Y
    go_wp2_with fail
    refine (sameBools_c a2 n2 k2 x.d a5 n5 k5 y.d _ X1.out.2.1 Y1.out.2.1 m2).mono ?_
    rintro e w1 ⟨rfl, j2, rfl⟩
    have X2 : Hid (Cal (W.drewN (j1 + j2)) a1 n1 a2 n2 a3 n3 x) := X
    have Y2 : Hid (Cal (W.drewN (j1 + j2)) a4 n4 a5 n5 a6 n6 y) := Y
    go_wp2_with fail
    refine (sameBools_c a3 n3 k3 x.c a6 n6 k6 y.c (W.drewN (j1 + j2)) X2.out.2.2 Y2.out.2.2 m3).mono ?_
    rintro e w1 ⟨rfl, j3, rfl⟩
    go_wp2_with fail
    go_ret
    exact Mk.b E.out (Below.dr HB.out _)
set_option maxHeartbeats 2000000 in
theorem toCalls_c (a1 : Option Addr) (n1 k1 : Nat) (a2 : Option Addr) (n2 k2 : Nat) (a3 : Option Addr) (n3 k3 : Nat) (x : Cs) (w : World) (hX : Cal w a1 n1 a2 n2 a3 n3 x) (m1 : n1 ≤ 1048576) (m2 : n2 ≤ 1048576) (m3 : n3 ≤ 1048576) : Calls Try.prog 25 #[(.agg #[.slice a1 n1 k1, .slice a2 n2 k2, .slice a3 n3 k3])] w (NewC w x id) := by
  have X0 := Lib.hid hX
  obtain ⟨g, hg⟩ : ∃ g, w.heap.size = g := ⟨_, rfl⟩
  have HG := Lib.hid hg
  have Z : Array Value := #[.slice none 0 0, .slice none 0 0, .slice none 0 0]
  have C0 := Lib.hid (show Bx (((w.alloc (.cells #[.slice a1 n1 k1, .slice a2 n2 k2, .slice a3 n3 k3] 41)).alloc (.cells #[.slice none 0 0, .slice none 0 0, .slice none 0 0] 25)).alloc (.cells #[.slice none 0 0, .slice none 0 0, .slice none 0 0] 25)) g (.slice a1 n1 k1) (.slice a2 n2 k2) (.slice a3 n3 k3) from by rw [← hg]; exact Bx.al (Bx.al (Bx.new _ _ _ _ _) _) _)
  have B0 := Lib.hid (show Bx (((w.alloc (.cells #[.slice a1 n1 k1, .slice a2 n2 k2, .slice a3 n3 k3] 41)).alloc (.cells #[.slice none 0 0, .slice none 0 0, .slice none 0 0] 25)).alloc (.cells #[.slice none 0 0, .slice none 0 0, .slice none 0 0] 25)) (g + 1) (.slice none 0 0) (.slice none 0 0) (.slice none 0 0) from by
    have h9 := Bx.al (Bx.new (w.alloc (.cells #[.slice a1 n1 k1, .slice a2 n2 k2, .slice a3 n3 k3] 41)) (.slice none 0 0) (.slice none 0 0) (.slice none 0 0) 25) (.cells #[.slice none 0 0, .slice none 0 0, .slice none 0 0] 25)
    rw [World.size_alloc, hg] at h9; exact h9)
  have O0 := Lib.hid (show Bx (((w.alloc (.cells #[.slice a1 n1 k1, .slice a2 n2 k2, .slice a3 n3 k3] 41)).alloc (.cells #[.slice none 0 0, .slice none 0 0, .slice none 0 0] 25)).alloc (.cells #[.slice none 0 0, .slice none 0 0, .slice none 0 0] 25)) (g + 2) (.slice none 0 0) (.slice none 0 0) (.slice none 0 0) from by
    have h9 := Bx.new ((w.alloc (.cells #[.slice a1 n1 k1, .slice a2 n2 k2, .slice a3 n3 k3] 41)).alloc (.cells #[.slice none 0 0, .slice none 0 0, .slice none 0 0] 25)) (.slice none 0 0) (.slice none 0 0) (.slice none 0 0) 25
    rw [World.size_alloc, World.size_alloc, hg] at h9; exact h9)
  have HB0 := Lib.hid (Below.al (Below.al (Below.al (Below.refl w.heap.size w) (.cells #[.slice a1 n1 k1, .slice a2 n2 k2, .slice a3 n3 k3] 41)) (.cells #[.slice none 0 0, .slice none 0 0, .slice none 0 0] 25)) (.cells #[.slice none 0 0, .slice none 0 0, .slice none 0 0] 25))
  have hz := Lib.hid (show g + 2 < (((w.alloc (.cells #[.slice a1 n1 k1, .slice a2 n2 k2, .slice a3 n3 k3] 41)).alloc (.cells #[.slice none 0 0, .slice none 0 0, .slice none 0 0] 25)).alloc (.cells #[.slice none 0 0, .slice none 0 0, .slice none 0 0] 25)).heap.size from by rw [← hg]; simp)
  clear hX hg Z
  go_enter Try.func25, Try.ntmps25
  go_wp2_with fail
  rw [HG.out]
  generalize (((w.alloc (.cells #[.slice a1 n1 k1, .slice a2 n2 k2, .slice a3 n3 k3] 41)).alloc (.cells #[.slice none 0 0, .slice none 0 0, .slice none 0 0] 25)).alloc (.cells #[.slice none 0 0, .slice none 0 0, .slice none 0 0] 25)) = W0 at *
  refine (toBoolS_c a1 n1 k1 x.u W0 (BS.below X0.out.1 HB0.out) m1).mono ?_
  rintro e w1 ⟨G1, rfl, hG1, own1, hb⟩
  have HS1 := Lib.hid (Out.set (w := w1) (q := g + 2) (i := 0) (lo := g + 2) (hi := g + 3) (.slice (some ⟨G1, 0, none⟩) n1 n1) (Nat.le_refl _) (by omega))
  have HB1 := Lib.hid (Out.below (below_next HB0.out hb) HS1.out (by have := HG.out; omega))
  have C1 := Lib.hid (Bx.out (Bx.below C0.out hb) HS1.out (.inl (by omega)))
  have B1 := Lib.hid (Bx.out (Bx.below B0.out hb) HS1.out (.inl (by omega)))
  have OO := Bx.below O0.out hb
  have O1 := Lib.hid (Bx.set0 OO (.slice (some ⟨G1, 0, none⟩) n1 n1))
  have h0 := hz.out
  have S1 := Lib.hid (OwnB.block (w' := w1.setCell ⟨g + 2, 0, none⟩ (.slice (some ⟨G1, 0, none⟩) n1 n1)) own1 (fun k hk => HS1.out.block k (own1.lt k hk).2 (.inr (by have := own1.lt k hk; omega))))
  have z1 := Lib.hid (show W0.heap.size ≤ (w1.setCell ⟨g + 2, 0, none⟩ (.slice (some ⟨G1, 0, none⟩) n1 n1)).heap.size from by rw [World.size_setCell]; exact hb.size)
  obtain ⟨⟨c0, c1, c2⟩, hf⟩ := OO
  have f0 := hf 0
  clear hf own1 hb HS1 HB0 C0 B0 O0 h0
  obtain ⟨⟨e0, e1, e2⟩, -⟩ := C1.out
  go_wp2_with fail
  clear c0 c1 c2 f0 e0 e1 e2
  generalize w1.setCell ⟨g + 2, 0, none⟩ (.slice (some ⟨G1, 0, none⟩) n1 n1) = v1 at *
  refine (toBoolS_c a2 n2 k2 x.d v1 (BS.below X0.out.2.1 HB1.out) m2).mono ?_
  rintro e w2 ⟨G2, rfl, hG2, own2, hb⟩
  have HS2 := Lib.hid (Out.set (w := w2) (q := g + 2) (i := 1) (lo := g + 2) (hi := g + 3) (.slice (some ⟨G2, 0, none⟩) n2 n2) (Nat.le_refl _) (by omega))
  have HB2 := Lib.hid (Out.below (below_next HB1.out hb) HS2.out (by have := HG.out; omega))
  have C2 := Lib.hid (Bx.out (Bx.below C1.out hb) HS2.out (.inl (by omega)))
  have B2 := Lib.hid (Bx.out (Bx.below B1.out hb) HS2.out (.inl (by omega)))
  have OO := Bx.below O1.out hb
  have O2 := Lib.hid (Bx.set1 OO (.slice (some ⟨G2, 0, none⟩) n2 n2))
  have h0 := hz.out
  have h1 := z1.out
  have S1' := Lib.hid (OwnB.block (w' := w2.setCell ⟨g + 2, 1, none⟩ (.slice (some ⟨G2, 0, none⟩) n2 n2)) (S1.out.below hb) (fun k hk => HS2.out.block k ((S1.out.below hb).lt k hk).2 (.inr (by have := S1.out.lt k hk; omega))))
  have S2 := Lib.hid (OwnB.block (w' := w2.setCell ⟨g + 2, 1, none⟩ (.slice (some ⟨G2, 0, none⟩) n2 n2)) own2 (fun k hk => HS2.out.block k (own2.lt k hk).2 (.inr (by have := own2.lt k hk; omega))))
  have hl1 : G1 < v1.heap.size := (S1.out.lt G1 rfl).2
  have z2 := Lib.hid (show v1.heap.size ≤ (w2.setCell ⟨g + 2, 1, none⟩ (.slice (some ⟨G2, 0, none⟩) n2 n2)).heap.size from by rw [World.size_setCell]; exact hb.size)
  obtain ⟨⟨c0, c1, c2⟩, hf⟩ := OO
  have f1 := hf 1
  clear hf own2 hb HS2 HB1 C1 B1 O1 h0 h1 S1
  obtain ⟨⟨e0, e1, e2⟩, -⟩ := C2.out
  go_wp2_with fail
  clear c0 c1 c2 f1 e0 e1 e2
  generalize w2.setCell ⟨g + 2, 1, none⟩ (.slice (some ⟨G2, 0, none⟩) n2 n2) = v2 at *
  refine (toBoolS_c a3 n3 k3 x.c v2 (BS.below X0.out.2.2 HB2.out) m3).mono ?_
  rintro e w3 ⟨G3, rfl, hG3, own3, hb⟩
  have HS3 := Lib.hid (Out.set (w := w3) (q := g + 2) (i := 2) (lo := g + 2) (hi := g + 3) (.slice (some ⟨G3, 0, none⟩) n3 n3) (Nat.le_refl _) (by omega))
  have HB3 := Lib.hid (Out.below (below_next HB2.out hb) HS3.out (by have := HG.out; omega))
  have B3 := Lib.hid (Bx.out (Bx.below B2.out hb) HS3.out (.inl (by omega)))
  have OO := Bx.below O2.out hb
  have O3 := Lib.hid (Bx.set2 OO (.slice (some ⟨G3, 0, none⟩) n3 n3))
  have h0 := hz.out
  have h1 := z1.out
  have h2 := z2.out
  have P1 := Lib.hid (OwnB.block (w' := w3.setCell ⟨g + 2, 2, none⟩ (.slice (some ⟨G3, 0, none⟩) n3 n3)) (S1'.out.below hb) (fun k hk => HS3.out.block k ((S1'.out.below hb).lt k hk).2 (.inr (by have := S1'.out.lt k hk; omega))))
  have P2 := Lib.hid (OwnB.block (w' := w3.setCell ⟨g + 2, 2, none⟩ (.slice (some ⟨G3, 0, none⟩) n3 n3)) (S2.out.below hb) (fun k hk => HS3.out.block k ((S2.out.below hb).lt k hk).2 (.inr (by have := S2.out.lt k hk; omega))))
  have P3 := Lib.hid (OwnB.block (w' := w3.setCell ⟨g + 2, 2, none⟩ (.slice (some ⟨G3, 0, none⟩) n3 n3)) own3 (fun k hk => HS3.out.block k (own3.lt k hk).2 (.inr (by have := own3.lt k hk; omega))))
  have hl2 : G2 < v2.heap.size := (S2.out.lt G2 rfl).2
  obtain ⟨⟨c0, c1, c2⟩, hf⟩ := OO
  have f2 := hf 2
  have hgz := HG.out
  have N := Lib.hid (newC_end (w0 := w) (r := g + 1) (w := w3.setCell ⟨g + 2, 2, none⟩ (.slice (some ⟨G3, 0, none⟩) n3 n3)) (lo := g + 2) (hi := (w3.setCell ⟨g + 2, 2, none⟩ (.slice (some ⟨G3, 0, none⟩) n3 n3)).heap.size) (v1 := .slice (some ⟨G1, 0, none⟩) n1 n1) (v2 := .slice (some ⟨G2, 0, none⟩) n2 n2) (v3 := .slice (some ⟨G3, 0, none⟩) n3 n3) (x := x)
    ⟨⟨P1.out.mono (by omega), P2.out.mono (by omega), P3.out.mono (by omega)⟩, ⟨fun i j hi hj => (by cases hi; cases hj; show G1 ≠ G2; omega), fun i j hi hj => (by cases hi; cases hj; show G1 ≠ G3; omega), fun i j hi hj => (by cases hi; cases hj; show G2 ≠ G3; omega)⟩, Nat.le_refl _, by have := HS3.out.size; have := hb.size; omega,
      fun k hk => by rcases hk with hk | hk | hk; exact (P1.out.lt k hk).2; exact (P2.out.lt k hk).2; exact (P3.out.lt k hk).2⟩ HB3.out (by omega) (by omega) id)
  clear hf own3 hb HS3 HB2 C2 B2 O2 h0 h1 h2 S1' S2 P1 P2 P3 hgz
  obtain ⟨⟨y0, y1, y2⟩, -⟩ := O3.out
  obtain ⟨⟨b0, b1, b2⟩, bf⟩ := B3.out
  have bf0 := bf 0
  have bf1 := bf 1
  have bf2 := bf 2
  clear bf
  go_wp2_with fail
  clear c0 c1 c2
  have c0 := b0
  have c1 := b1
  have c2 := b2
  exact bodyPost_ret (v := .agg #[.slice (some ⟨G1, 0, none⟩) n1 n1, .slice (some ⟨G2, 0, none⟩) n2 n2, .slice (some ⟨G3, 0, none⟩) n3 n3]) (by simp [results, Try.results25, go_sem, c0, c1, c2]) rfl N.out
end Go.Proofs.Ytkpginkkfobblaa
