/- The law of HallFits: the walk. -/
import Derived.Test.Yteeokegkbhpbcaa13L
namespace Go.Proofs.Yteeokegkbhpbcaa
open Go.RowKit
set_option linter.unusedVariables false
set_option linter.unusedSimpArgs false
set_option maxRecDepth 100000

theorem tot_bd {xs : List Int} : ∀ k : Nat, k ≤ 1048577 → (∀ i, i < k → -1000000 ≤ nth xs i ∧ nth xs i ≤ 1000000) → -1000000 * (k : Int) ≤ totU (nth xs) k ∧ totU (nth xs) k ≤ 1000000 * (k : Int)
  | 0, _, _ => by unfold totU; omega
  | k + 1, hk, h => by
    have h1 := tot_bd (xs := xs) k (by omega) fun i hi => h i (by omega)
    have h2 := h k (by omega)
    unfold totU; omega
set_option maxHeartbeats 400000 in
theorem sumOf_r (b off len cap : Nat) (xs : List Int) (w : World) (hc : Ints w b off xs) (hl : xs.length = len) (hm : xs.length ≤ 1048576) (hb : ∀ i, i < xs.length → -1000000 ≤ nth xs i ∧ nth xs i ≤ 1000000) :
    Calls Try.prog 20 #[.slice (some ⟨b, off, none⟩) len cap] w (Ro w (.int .i64 (totU (nth xs) xs.length))) := by
  subst hl
  go_enter Try.func20, Try.ntmps20
  go_wp2
  go_loop [3, 4] (fun u v => ∃ k : Nat, k ≤ xs.length ∧ v = .int .i64 k ∧ u = .int .i64 (totU (nth xs) k)) (fun _ v => xs.length - (intOf v).toNat)
  case atStart => exact ⟨0, by omega, rfl, rfl⟩
  case round =>
    obtain ⟨k, hk2, rfl, rfl⟩ := hrel
    have bd := tot_bd k (by omega) (fun i hi => hb i (by omega))
    have HB : Hid _ := hb
    have HS : Hid (totU (nth xs) (k + 1) = totU (nth xs) k + nth xs k) := (rfl : totU (nth xs) (k + 1) = totU (nth xs) k + nth xs k)
    clear hb
    by_cases hlt : k < xs.length
    · have c1 : w.cell? ⟨b, off + k, none⟩ = some (.int .i64 (nth xs k)) := hc k hlt
      have b1 := HB.out k hlt
      obtain ⟨b1, b2⟩ := b1
      obtain ⟨z, hz⟩ : ∃ z, totU (nth xs) k = z := ⟨_, rfl⟩
      rw [hz] at bd HS
      rw [hz]
      clear hz
      go_wp2
      go_round
      case rel => exact ⟨k + 1, by omega, by go_num, by rw [HS.out]⟩
      case measure => simp [intOf]; omega
    · obtain rfl : k = xs.length := by omega
      go_wp2
      go_ret
      exact Ro.i rfl (by first | exact ⟨0, rfl⟩ | (simp only [World.drewN_drewN]; exact ⟨_, rfl⟩) | exact ⟨_, rfl⟩)
theorem sumOf_m (b len cap : Nat) (xs : List Int) (w : World) (hc : Ints w b 0 xs) (hl : xs.length = len) (hm : xs.length ≤ 1048576) (hb : ∀ i, i < xs.length → -1000000 ≤ nth xs i ∧ nth xs i ≤ 1000000) :
    Calls Try.prog 20 #[.slice (some ⟨b, 0, none⟩) len cap] w (Mk w (.int .i64 (totU (nth xs) xs.length))) :=
  (sumOf_r b 0 len cap xs w hc hl hm hb).mono fun e w2 hh => Ro.mk hh
theorem ints_take {w : World} {b m : Nat} {xs : List Int} (h : Ints w b 0 xs) : Ints w b 0 (xs.take m) := fun i hi => by
  rw [List.length_take] at hi
  rw [nth_take xs (by omega)]
  exact h i (by omega)
set_option maxHeartbeats 8000000 in
theorem HallFits_w (a : Option Addr) (n cap : Nat) (w : World) (hb : Byt w a n) (hn : n ≤ cap) (hcap : cap ≤ maxLen) :
    Calls Try.prog 4 #[.slice a n cap] w (LawOk w) := by
  have hcap' := hcap
  unfold maxLen at hcap'
  by_cases bign : 1048576 < n
  · go_enter Try.func4, Try.ntmps4
    go_wp2_with fail
    go_ret
    exact LawOk.mk (Below.refl _ _)
  go_enter Try.func4, Try.ntmps4
  go_wp2_with fail
  refine Calls.mono (DrawHallFits_c a n cap _ hb hn hcap) ?_
  rintro e wn ⟨b1, c1, gs, b2, c2, rs, b3, c3, ps, rfl, ⟨hgs, hrs, hps⟩, ⟨⟨k1, k2⟩, ⟨k3, k4⟩, ⟨k5, k6⟩⟩, ⟨hI1, hI2, hI3⟩, hB⟩
  unfold maxLen at k2 k4 k6
  have T := Lib.hid hB
  have Y := Lib.hid hI1
  have Z := Lib.hid hI2
  have G := Lib.hid hI3
  clear hB hI1 hI2 hI3 hb
  obtain ⟨N1, hN1⟩ : ∃ N1, gs.length = N1 := ⟨_, rfl⟩
  obtain ⟨N3, hN3⟩ : ∃ N3, ps.length = N3 := ⟨_, rfl⟩
  have KI := fun w' (h : Sl w' (some ⟨b1, 0, none⟩) gs) (h2 : Sl w' (some ⟨b2, 0, none⟩) rs) (h3 : Sl w' (some ⟨b3, 0, none⟩) ps) => iHallFits_c _ N1 c1 gs _ rs.length c2 rs _ N3 c3 ps w' h hN1 h2 rfl h3 hN3 (by omega) (by omega) (by omega) ⟨by omega, by omega⟩ ⟨k3, by omega⟩ ⟨by omega, by omega⟩
  have KS := fun w' (h : Sl w' (some ⟨b1, 0, none⟩) gs) (h2 : Sl w' (some ⟨b2, 0, none⟩) rs) (h3 : Sl w' (some ⟨b3, 0, none⟩) ps) => sHallFits_c _ N1 c1 gs _ rs.length c2 rs _ N3 c3 ps w' h hN1 h2 rfl h3 hN3 (by omega) (by omega) (by omega)
  rw [hN1, hN3]
  rw [hN1] at hgs k1
  rw [hN3] at hps k5
  by_cases hg : HFit gs rs ps
  case neg =>
    rw [show hfB gs rs ps = false from tr_false hg] at KI KS
    have HKI := Lib.hid KI
    have HKS := Lib.hid KS
    clear KI KS hg hN1 hN3
    go_wp2_with fail
    refine Calls.mono (HKI.out _ (Sl.of Y.out) (Sl.of Z.out) (Sl.of G.out)) ?_
    intro e wn hh
    obtain ⟨he, hb⟩ := (by first | exact hh | exact Ro.mk hh | exact St.mk hh | exact LawOk.mk' hh : Mk _ _ e wn)
    subst he
    have Tn : Hid (Below w.heap.size w wn) := below_next T.out hb
    have Yn : Hid _ := Ints.below Y.out hb
    have Zn : Hid _ := Ints.below Z.out hb
    have Gn : Hid _ := Ints.below G.out hb
    clear hb hh
    clear T Y Z G
    have T := Tn
    have Y := Yn
    have Z := Zn
    have G := Gn
    clear Tn Yn Zn Gn
    go_wp2_with fail
    refine Calls.mono (HKS.out _ (Sl.of Y.out) (Sl.of Z.out) (Sl.of G.out)) ?_
    intro e wn hh
    obtain ⟨he, hb⟩ := (by first | exact hh | exact Ro.mk hh | exact St.mk hh | exact LawOk.mk' hh : Mk _ _ e wn)
    subst he
    have Tn : Hid (Below w.heap.size w wn) := below_next T.out hb
    have Yn : Hid _ := Ints.below Y.out hb
    have Zn : Hid _ := Ints.below Z.out hb
    have Gn : Hid _ := Ints.below G.out hb
    clear hb hh
    clear T Y Z G
    have T := Tn
    have Y := Yn
    have Z := Zn
    have G := Gn
    clear Tn Yn Zn Gn
    go_wp2_with fail
    refine Calls.mono (alive_c _) ?_
    intro e wn hh
    obtain ⟨he, hb⟩ := (by first | exact hh | exact Ro.mk hh | exact St.mk hh | exact LawOk.mk' hh : Mk _ _ e wn)
    subst he
    have Tn : Hid (Below w.heap.size w wn) := below_next T.out hb
    have Yn : Hid _ := Ints.below Y.out hb
    have Zn : Hid _ := Ints.below Z.out hb
    have Gn : Hid _ := Ints.below G.out hb
    clear hb hh
    clear T Y Z G
    have T := Tn
    have Y := Yn
    have Z := Zn
    have G := Gn
    clear Tn Yn Zn Gn
    go_wp2_with fail
    go_ret
    first | exact LawOk.mk T.out | exact LawOk.mk (Below.dr T.out _)
  rw [show hfB gs rs ps = true from tr_true hg] at KI KS
  have hN13 : N3 = N1 := by rw [← hN1, ← hN3]; exact hg.2.1.2
  subst hN13
  have hsum := hf_sum hg
  rw [hN1] at hsum
  have hrb : ∀ i, i < rs.length → -1000000 ≤ nth rs i ∧ nth rs i ≤ 1000000 := fun i hi => by have := hg.1.2.1 i hi; omega
  have KU := fun w' (h : Ints w' b2 0 rs) => sumOf_m b2 rs.length c2 rs w' h rfl (by omega) hrb
  obtain ⟨U, hU⟩ : ∃ U, totU (nth rs) rs.length = U := ⟨_, rfl⟩
  rw [hU] at KU hsum
  have HKI := Lib.hid KI
  have HKS := Lib.hid KS
  have HKU := Lib.hid KU
  have HN1 := Lib.hid hN1
  have HN3 := Lib.hid hN3
  have HG := Lib.hid hg
  have hw : -9223372036854775808 ≤ (N3 : Int) - 1 ∧ (N3 : Int) - 1 ≤ 9223372036854775807 := by omega
  clear KI KS KU hg hN1 hN3 hU hrb
  go_wp2_with fail
  refine Calls.mono (HKI.out _ (Sl.of Y.out) (Sl.of Z.out) (Sl.of G.out)) ?_
  intro e wn hh
  obtain ⟨he, hb⟩ := (by first | exact hh | exact Ro.mk hh | exact St.mk hh | exact LawOk.mk' hh : Mk _ _ e wn)
  subst he
  have Tn : Hid (Below w.heap.size w wn) := below_next T.out hb
  have Yn : Hid _ := Ints.below Y.out hb
  have Zn : Hid _ := Ints.below Z.out hb
  have Gn : Hid _ := Ints.below G.out hb
  clear hb hh
  clear T Y Z G
  have T := Tn
  have Y := Yn
  have Z := Zn
  have G := Gn
  clear Tn Yn Zn Gn
  go_wp2_with fail
  refine Calls.mono (HKS.out _ (Sl.of Y.out) (Sl.of Z.out) (Sl.of G.out)) ?_
  intro e wn hh
  obtain ⟨he, hb⟩ := (by first | exact hh | exact Ro.mk hh | exact St.mk hh | exact LawOk.mk' hh : Mk _ _ e wn)
  subst he
  have Tn : Hid (Below w.heap.size w wn) := below_next T.out hb
  have Yn : Hid _ := Ints.below Y.out hb
  have Zn : Hid _ := Ints.below Z.out hb
  have Gn : Hid _ := Ints.below G.out hb
  clear hb hh
  clear T Y Z G
  have T := Tn
  have Y := Yn
  have Z := Zn
  have G := Gn
  clear Tn Yn Zn Gn
  clear HKI HKS
  go_upto_region 10 with fail
  by_cases h0 : N3 = 0
  · have hneg : (N3 : Int) - 1 < 0 := by omega
    clear h0
    refine wp_region_quiet (C := fun w' => Below (World.heap (wn)).size (wn) w') (by kernel_rfl) (by kernel_rfl) (by first | exact ⟨rfl, rfl, rfl, Nat.le_refl _, fun _ _ => rfl⟩ | exact Below.dw (by repeat (first | exact Below.refl _ _ | refine Below.al ?_ _ | refine Below.dr ?_ _ | refine Below.dw ?_ | refine Below.st ?_ (by first | exact Nat.le_refl _ | exact Nat.le_add_right _ _ | (simp; omega)) _ | (refine below_next ?_ (by assumption))))) ?_
    simp only []
    repeat (go_big_quiet_step (first | (intro _; with_reducible exact rfl) | (intro hC; go_at_call 20; have Z1 := Lib.hid (HKU.out _ (Ints.below Z.out hC)); (with_reducible refine Calls.mono (Z1.out) ?_); (first | (rintro e wx ⟨rfl, hb⟩; exact ⟨rfl, below_next hC hb⟩) | (rintro e wx ⟨rfl, n, rfl⟩; exact ⟨rfl, Below.dr hC n⟩) | (rintro e wx ⟨rfl, rfl⟩; exact ⟨rfl, hC⟩))) | (intro hC; have Z1 := Lib.hid (HKU.out _ (Ints.below Z.out hC)); go_simp; rfl)))
    refine wpQuiet_nil ?_
    intro wq hq
    have Tn := Lib.hid (below_next T.out hq)
    have Yn := Lib.hid (Ints.below Y.out hq)
    have Zn := Lib.hid (Ints.below Z.out hq)
    have Gn := Lib.hid (Ints.below G.out hq)
    clear hq
    clear T Y Z G
    have T := Tn
    have Y := Yn
    have Z := Zn
    have G := Gn
    clear Tn Yn Zn Gn
    obtain ⟨wn, hwq⟩ : ∃ w0, w0 = wq := ⟨_, rfl⟩
    subst hwq
    go_wp2_with fail
    go_ret
    first | exact LawOk.mk T.out | exact LawOk.mk (Below.dr T.out _)
  obtain ⟨m, rfl⟩ : ∃ m, N3 = m + 1 := ⟨N3 - 1, by omega⟩
  have em : ((m + 1 : Nat) : Int) - 1 = (m : Int) := by omega
  rw [em]
  have hm0 : ¬ (m : Int) < 0 := by omega
  have hsum2 : (m : Int) + 1 ≤ U := by omega
  have hmc1 : (m : Int) ≤ (c1 : Int) := by omega
  have hmc3 : (m : Int) ≤ (c3 : Int) := by omega
  have hmn : m ≤ c1 := by omega
  have hmn3 : m ≤ c3 := by omega
  have ht := hf_take HG.out (m := m) (by rw [HN1.out]; omega)
  have KF := fun w' (h : Sl w' (some ⟨b1, 0, none⟩) (gs.take m)) (h2 : Sl w' (some ⟨b2, 0, none⟩) rs) (h3 : Sl w' (some ⟨b3, 0, none⟩) (ps.take m)) => iHallFits_c _ m c1 (gs.take m) _ rs.length c2 rs _ m c3 (ps.take m) w' h (by rw [List.length_take, HN1.out]; omega) h2 rfl h3 (by rw [List.length_take, HN3.out]; omega) (by omega) (by omega) (by omega) ⟨by omega, by omega⟩ ⟨k3, by omega⟩ ⟨by omega, by omega⟩
  rw [show hfB (gs.take m) rs (ps.take m) = true from tr_true ht] at KF
  have HKF := Lib.hid KF
  clear KF ht em h0
  refine wp_region_quiet (C := fun w' => Below (World.heap (wn)).size (wn) w') (by kernel_rfl) (by kernel_rfl) (by first | exact ⟨rfl, rfl, rfl, Nat.le_refl _, fun _ _ => rfl⟩ | exact Below.dw (by repeat (first | exact Below.refl _ _ | refine Below.al ?_ _ | refine Below.dr ?_ _ | refine Below.dw ?_ | refine Below.st ?_ (by first | exact Nat.le_refl _ | exact Nat.le_add_right _ _ | (simp; omega)) _ | (refine below_next ?_ (by assumption))))) ?_
  simp only []
  repeat (go_big_quiet_step (first | (intro _; with_reducible exact rfl) | (intro hC; go_at_call 20; have Z1 := Lib.hid (HKU.out _ (Ints.below Z.out hC)); have Z2 := Lib.hid (HKF.out _ (Sl.of (ints_take (Ints.below Y.out hC))) (Sl.of (Ints.below Z.out hC)) (Sl.of (ints_take (Ints.below G.out hC)))); (with_reducible refine Calls.mono (Z1.out) ?_); (first | (rintro e wx ⟨rfl, hb⟩; exact ⟨rfl, below_next hC hb⟩) | (rintro e wx ⟨rfl, n, rfl⟩; exact ⟨rfl, Below.dr hC n⟩) | (rintro e wx ⟨rfl, rfl⟩; exact ⟨rfl, hC⟩))) | (intro hC; go_at_call 18; have Z1 := Lib.hid (HKU.out _ (Ints.below Z.out hC)); have Z2 := Lib.hid (HKF.out _ (Sl.of (ints_take (Ints.below Y.out hC))) (Sl.of (Ints.below Z.out hC)) (Sl.of (ints_take (Ints.below G.out hC)))); (with_reducible refine Calls.mono (Z2.out) ?_); (first | (rintro e wx ⟨rfl, hb⟩; exact ⟨rfl, below_next hC hb⟩) | (rintro e wx ⟨rfl, n, rfl⟩; exact ⟨rfl, Below.dr hC n⟩) | (rintro e wx ⟨rfl, rfl⟩; exact ⟨rfl, hC⟩))) | (intro hC; have Z1 := Lib.hid (HKU.out _ (Ints.below Z.out hC)); have Z2 := Lib.hid (HKF.out _ (Sl.of (ints_take (Ints.below Y.out hC))) (Sl.of (Ints.below Z.out hC)) (Sl.of (ints_take (Ints.below G.out hC)))); go_simp; rfl)))
  refine wpQuiet_nil ?_
  intro wq hq
  have Tn := Lib.hid (below_next T.out hq)
  have Yn := Lib.hid (Ints.below Y.out hq)
  have Zn := Lib.hid (Ints.below Z.out hq)
  have Gn := Lib.hid (Ints.below G.out hq)
  clear hq
  clear T Y Z G
  have T := Tn
  have Y := Yn
  have Z := Zn
  have G := Gn
  clear Tn Yn Zn Gn
  obtain ⟨wn, hwq⟩ : ∃ w0, w0 = wq := ⟨_, rfl⟩
  subst hwq
  go_wp2_with fail
  go_ret
  first | exact LawOk.mk T.out | exact LawOk.mk (Below.dr T.out _)
end Go.Proofs.Yteeokegkbhpbcaa
