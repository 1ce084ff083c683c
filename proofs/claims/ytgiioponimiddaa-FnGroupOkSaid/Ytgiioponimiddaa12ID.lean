/- The program's nearestCar, GroupNear. -/
import Derived.Test.Ytgiioponimiddaa12IA
import Derived.Test.Ytgiioponimiddaa12H
namespace Go.Proofs.Ytgiioponimiddaa
open Go.RowKit
set_option linter.unusedVariables false
set_option linter.unusedSimpArgs false
set_option maxRecDepth 100000

set_option maxHeartbeats 4000000 in
theorem nearestCar_c (b off cap : Nat) (xs : List Int) (a2 : Option Addr) (n2 c2 : Nat) (cs : List Int) (f : Int) (w : World) (hc : Ints w b off xs) (hs : Sl w a2 cs) (hl : cs.length = n2) (hm : xs.length ≤ 1048576) (hm2 : n2 ≤ 1048577) :
    Calls Try.prog 47 #[.slice (some ⟨b, off, none⟩) xs.length cap, .slice a2 n2 c2, .int .i64 f] w (Mk w (.int .i64 ((nbU (fun c => fw xs (nth cs c) f) n2 : Nat) : Int))) := by
  have hmm : xs.length ≤ maxLen := by unfold maxLen; omega
  have HL := Lib.hid hl
  clear hl
  refine at_base fun wn hwn => ?_
  have T := Lib.hid (show Below w.heap.size w wn from by rw [hwn]; exact Below.refl _ _)
  rw [← hwn] at hc
  have X := Lib.hid (show Ints wn b off xs from hc)
  clear hc
  rw [← hwn] at hs
  have Y := Lib.hid (show Sl wn a2 cs from hs)
  clear hs
  clear hwn
  go_enter Try.func47, Try.ntmps47
  go_wp2_with fail
  go_loopw [7, 12] (fun p r wr => ∃ (c m : Nat), c ≤ n2 ∧ p = .int .i64 m ∧ r = .int .i64 c ∧ m = nbU (fun c => fw xs (nth cs c) f) c ∧ Below w.heap.size w wr ∧ Ints wr b off xs ∧ Sl wr a2 cs) (fun p r _ => n2 - (intOf r).toNat)
  case atStart => exact ⟨0, 0, by omega, rfl, rfl, rfl, T.out, X.out, Y.out⟩
  case' round =>
    clear T X Y
    obtain ⟨c, m, hc9, rfl, rfl, hm9, h9T, h9X, h9Y⟩ := hrel
    obtain ⟨wn, hwq⟩ : ∃ w0 : World, w0 = wr := ⟨_, rfl⟩
    rw [← hwq] at h9T h9X h9Y ⊢
    clear hwq
    have T := Lib.hid h9T
    have X := Lib.hid h9X
    have Y := Lib.hid h9Y
    clear h9T h9X h9Y
    have hmc : m ≤ c := by rw [hm9]; exact nbU_le _ _
    have HM := Lib.hid hm9
    clear hm9
    by_cases hcl : c < n2
    case neg =>
      obtain rfl : c = n2 := by omega
      have E := Lib.hid (show ((nbU (fun c => fw xs (nth cs c) f) c : Nat) : Int) = (m : Int) from by rw [← HM.out])
      go_wp2_with fail
      go_ret
      exact Mk.i E.out T.out
    have hci : (c : Int) < n2 := by omega
    have hmi : (m : Int) < n2 := by omega
    obtain ⟨b2, o2, rfl, hI2⟩ := Sl.at Y.out (k := c) (by rw [HL.out]; exact hcl)
    have y1 := hI2 c (by rw [HL.out]; exact hcl)
    have Y1 := Lib.hid y1
    have Y2 := Lib.hid (hI2 m (by rw [HL.out]; omega))
    obtain ⟨D1, hD1⟩ : ∃ D, fw xs (nth cs c) f = D := ⟨_, rfl⟩
    obtain ⟨D2, hD2⟩ : ∃ D, fw xs (nth cs m) f = D := ⟨_, rfl⟩
    have K1 := fun w' (h : Ints w' b off xs) => iFloorWay_c b off cap xs (nth cs c) f w' h hmm
    have K2 := fun w' (h : Ints w' b off xs) => iFloorWay_c b off cap xs (nth cs m) f w' h hmm
    rw [hD1] at K1
    rw [hD2] at K2
    have H1 := Lib.hid K1
    have H2 := Lib.hid K2
    have HD1 := Lib.hid hD1
    have HD2 := Lib.hid hD2
    clear K1 K2 hD1 hD2 hI2
    go_upto_region 5 with fail
    clear y1
    by_cases hD : D1 < D2
    · have HN := Lib.hid (show c = nbU (fun c => fw xs (nth cs c) f) (c + 1) from by unfold nbU; rw [← HM.out, HD1.out, HD2.out, if_pos hD])
      refine wp_region_quiet (C := fun w' => Below (World.heap (wn)).size (wn) w') (by kernel_rfl) (by kernel_rfl) (by first | exact ⟨rfl, rfl, rfl, Nat.le_refl _, fun _ _ => rfl⟩ | exact Below.dw (by repeat (first | exact Below.refl _ _ | refine Below.al ?_ _ | refine Below.dr ?_ _ | refine Below.dw ?_ | refine Below.st ?_ (by first | exact Nat.le_refl _ | exact Nat.le_add_right _ _ | (simp; omega)) _ | (refine below_next ?_ (by assumption))))) ?_
      simp only []
      repeat (go_big_quiet_step (first | (intro _; with_reducible exact rfl) | (intro hC; go_at_call 20; have y2 := cell_below Y2.out hC; have Z1 := Lib.hid (H1.out _ (Ints.below X.out hC)); have Z2 := Lib.hid (H2.out _ (Ints.below X.out hC)); (with_reducible refine Calls.mono (Z1.out) ?_); (first | (rintro e wx ⟨rfl, hb⟩; exact ⟨rfl, below_next hC hb⟩) | (rintro e wx ⟨rfl, n, rfl⟩; exact ⟨rfl, Below.dr hC n⟩) | (rintro e wx ⟨rfl, rfl⟩; exact ⟨rfl, hC⟩))) | (intro hC; go_at_call 20; have y2 := cell_below Y2.out hC; have Z1 := Lib.hid (H1.out _ (Ints.below X.out hC)); have Z2 := Lib.hid (H2.out _ (Ints.below X.out hC)); (with_reducible refine Calls.mono (Z2.out) ?_); (first | (rintro e wx ⟨rfl, hb⟩; exact ⟨rfl, below_next hC hb⟩) | (rintro e wx ⟨rfl, n, rfl⟩; exact ⟨rfl, Below.dr hC n⟩) | (rintro e wx ⟨rfl, rfl⟩; exact ⟨rfl, hC⟩))) | (intro hC; have y2 := cell_below Y2.out hC; have Z1 := Lib.hid (H1.out _ (Ints.below X.out hC)); have Z2 := Lib.hid (H2.out _ (Ints.below X.out hC)); go_simp; rfl)))
      refine wpQuiet_nil ?_
      intro wq hq
      clear Y1 Y2
      have Tn := Lib.hid (below_next T.out hq)
      have Xn := Lib.hid (Ints.below X.out hq)
      have Yn := Lib.hid (Sl.below Y.out hq)
      clear hq
      clear T X Y
      have T := Tn
      have X := Xn
      have Y := Yn
      clear Tn Xn Yn
      obtain ⟨wn, hwq⟩ : ∃ w0, w0 = wq := ⟨_, rfl⟩
      subst hwq
      go_wp2_with fail
      go_roundw
      case rel => exact ⟨c + 1, c, by omega, rfl, by go_num, HN.out, T.out, X.out, Y.out⟩
      case measure => first | (simp [intOf]; done) | (simp [intOf]; omega) | omega
    · have hD3 : D2 ≤ D1 := by omega
      have HN := Lib.hid (show m = nbU (fun c => fw xs (nth cs c) f) (c + 1) from by unfold nbU; rw [← HM.out, HD1.out, HD2.out, if_neg hD])
      refine wp_region_quiet (C := fun w' => Below (World.heap (wn)).size (wn) w') (by kernel_rfl) (by kernel_rfl) (by first | exact ⟨rfl, rfl, rfl, Nat.le_refl _, fun _ _ => rfl⟩ | exact Below.dw (by repeat (first | exact Below.refl _ _ | refine Below.al ?_ _ | refine Below.dr ?_ _ | refine Below.dw ?_ | refine Below.st ?_ (by first | exact Nat.le_refl _ | exact Nat.le_add_right _ _ | (simp; omega)) _ | (refine below_next ?_ (by assumption))))) ?_
      simp only []
      repeat (go_big_quiet_step (first | (intro _; with_reducible exact rfl) | (intro hC; go_at_call 20; have y2 := cell_below Y2.out hC; have Z1 := Lib.hid (H1.out _ (Ints.below X.out hC)); have Z2 := Lib.hid (H2.out _ (Ints.below X.out hC)); (with_reducible refine Calls.mono (Z1.out) ?_); (first | (rintro e wx ⟨rfl, hb⟩; exact ⟨rfl, below_next hC hb⟩) | (rintro e wx ⟨rfl, n, rfl⟩; exact ⟨rfl, Below.dr hC n⟩) | (rintro e wx ⟨rfl, rfl⟩; exact ⟨rfl, hC⟩))) | (intro hC; go_at_call 20; have y2 := cell_below Y2.out hC; have Z1 := Lib.hid (H1.out _ (Ints.below X.out hC)); have Z2 := Lib.hid (H2.out _ (Ints.below X.out hC)); (with_reducible refine Calls.mono (Z2.out) ?_); (first | (rintro e wx ⟨rfl, hb⟩; exact ⟨rfl, below_next hC hb⟩) | (rintro e wx ⟨rfl, n, rfl⟩; exact ⟨rfl, Below.dr hC n⟩) | (rintro e wx ⟨rfl, rfl⟩; exact ⟨rfl, hC⟩))) | (intro hC; have y2 := cell_below Y2.out hC; have Z1 := Lib.hid (H1.out _ (Ints.below X.out hC)); have Z2 := Lib.hid (H2.out _ (Ints.below X.out hC)); go_simp; rfl)))
      refine wpQuiet_nil ?_
      intro wq hq
      clear Y1 Y2
      have Tn := Lib.hid (below_next T.out hq)
      have Xn := Lib.hid (Ints.below X.out hq)
      have Yn := Lib.hid (Sl.below Y.out hq)
      clear hq
      clear T X Y
      have T := Tn
      have X := Xn
      have Y := Yn
      clear Tn Xn Yn
      obtain ⟨wn, hwq⟩ : ∃ w0, w0 = wq := ⟨_, rfl⟩
      subst hwq
      go_wp2_with fail
      go_roundw
      case rel => exact ⟨c + 1, m, by omega, rfl, by go_num, HN.out, T.out, X.out, Y.out⟩
      case measure => first | (simp [intOf]; done) | (simp [intOf]; omega) | omega
set_option maxHeartbeats 4000000 in
theorem iGroupNear_c (b off cap : Nat) (xs : List Int) (a2 : Option Addr) (n2 c2 : Nat) (cs : List Int) (a3 : Option Addr) (n3 c3 : Nat) (ks : List Int) (w : World) (hc : Ints w b off xs) (hs : Sl w a2 cs) (hl : cs.length = n2) (hs3 : Sl w a3 ks) (hl3 : ks.length = n3) (hm : xs.length ≤ 1048576) (hm2 : n2 ≤ 1048577) (hm3 : n3 ≤ 1048577) :
    Calls Try.prog 21 #[.slice (some ⟨b, off, none⟩) xs.length cap, .slice a2 n2 c2, .slice a3 n3 c3] w (NewI w (nrv xs cs ks)) := by
  have hmm : xs.length ≤ maxLen := by unfold maxLen; omega
  have hmk := run_make_row' (P := Try.prog) 23 3 (.int .i64 0) 8 Try.underlying23 infoInt rfl .i64 .i64 n3
  obtain ⟨P, hP⟩ : ∃ P, gokB xs cs ks = P := ⟨_, rfl⟩
  have K0 := fun w' (h : Ints w' b off xs) (h2 : Sl w' a2 cs) (h3 : Sl w' a3 ks) => iGroupOk_c b off cap xs a2 n2 c2 cs a3 n3 c3 ks w' h h2 hl h3 hl3 hm hm2 hm3
  rw [hP] at K0
  have H0 := Lib.hid K0
  have HP := Lib.hid hP
  have HL := Lib.hid hl
  have HL3 := Lib.hid hl3
  have hbw := Ints.lt hc
  have HBY := Lib.hid (Sl.lt hs)
  have HBZ := Lib.hid (Sl.lt hs3)
  clear K0 hP hl hl3
  refine at_base fun wn hwn => ?_
  have T := Lib.hid (show Below w.heap.size w wn from by rw [hwn]; exact Below.refl _ _)
  rw [← hwn] at hc
  have X := Lib.hid (show Ints wn b off xs from hc)
  clear hc
  rw [← hwn] at hs
  have Y := Lib.hid (show Sl wn a2 cs from hs)
  clear hs
  rw [← hwn] at hs3
  have Z := Lib.hid (show Sl wn a3 ks from hs3)
  clear hs3
  clear hwn
  go_enter Try.func21, Try.ntmps21
  go_wp2_with fail
  refine Calls.mono (H0.out _ X.out Y.out Z.out) ?_
  intro e wn hh
  obtain ⟨he, hb⟩ := (by first | exact hh | exact Ro.mk hh | exact St.mk hh | exact LawOk.mk' hh : Mk _ _ e wn)
  subst he
  have Tn : Hid (Below w.heap.size w wn) := below_next T.out hb
  have Xn : Hid _ := Ints.below X.out hb
  have Yn : Hid _ := Sl.below Y.out hb
  have Zn : Hid _ := Sl.below Z.out hb
  clear hb hh
  clear T X Y Z
  have T := Tn
  have X := Xn
  have Y := Yn
  have Z := Zn
  clear Tn Xn Yn Zn
  cases P
  case false =>
    have E := Lib.hid (nrv_f (xs := xs) (cs := cs) (ks := ks) fun h => by have := tr_true h; rw [show tr (GOk xs cs ks) = false from HP.out] at this; cases this)
    go_wp2_with fail
    go_ret
    exact ⟨_, rfl, by rw [E.out]; exact own_nil _ _, T.out⟩
  have hgk : GOk xs cs ks := tr_t.1 HP.out
  have E := Lib.hid (nrv_t hgk)
  have hn0 : 0 < n2 := by rw [← HL.out]; exact hgk.2.1
  have hn35 : n3 ≤ 5 := by have := hgk.2.2.2.2; rw [HL3.out] at this; omega
  have hmk := hmk (by omega) (by omega)
  clear hgk
  go_upto_region 4 with fail
  obtain ⟨g, hg⟩ : ∃ g, wn.heap.size = g := ⟨_, rfl⟩
  have hTg : w.heap.size ≤ g := by rw [← hg]; exact T.out.size
  have O0 := Lib.hid (show OwnI (wn.alloc (.cells (madeCells #[.int .i64 0] n3) 3)) g (g + 1) (.slice (some ⟨g, 0, none⟩) n3 n3) (List.replicate n3 0) from by
    rw [← hg]
    exact ⟨own_made wn n3 (by omega), fun q hq => by simp [Value.ownBlock] at hq; omega, by omega, by simp⟩)
  have hB2 : Below wn.heap.size wn (wn.alloc (.cells (madeCells #[.int .i64 0] n3) 3)) := Below.al (Below.refl _ _) _
  rw [hg]
  generalize hw0 : wn.alloc (.cells (madeCells #[.int .i64 0] n3) 3) = wq at *
  clear hw0 hmk hg
  have Tn := Lib.hid (below_next T.out hB2)
  have Xn := Lib.hid (Ints.below X.out hB2)
  have Yn := Lib.hid (Sl.below Y.out hB2)
  have Zn := Lib.hid (Sl.below Z.out hB2)
  clear hB2
  clear T X Y Z
  have T := Tn
  have X := Xn
  have Y := Yn
  have Z := Zn
  clear Tn Xn Yn Zn
  obtain ⟨wn, hwq⟩ : ∃ w0, w0 = wq := ⟨_, rfl⟩
  subst hwq
  have O := O0
  clear O0
  go_wp2_with fail
  go_loopw [20] (fun u wr => ∃ (k : Nat), k ≤ n3 ∧ u = .int .i64 k ∧ Below w.heap.size w wr ∧ Ints wr b off xs ∧ Sl wr a2 cs ∧ Sl wr a3 ks ∧ OwnI wr g (g + 1) (.slice (some ⟨g, 0, none⟩) n3 n3) (nrU xs cs ks k ++ List.replicate (n3 - k) 0)) (fun u _ => n3 - (intOf u).toNat)
  case atStart => exact ⟨0, by omega, rfl, T.out, X.out, Y.out, Z.out, O.out⟩
  case' round =>
    clear T X Y Z O
    obtain ⟨k, hk, rfl, h9T, h9X, h9Y, h9Z, h9O⟩ := hrel
    obtain ⟨wn, hwq⟩ : ∃ w0 : World, w0 = wr := ⟨_, rfl⟩
    rw [← hwq] at h9T h9X h9Y h9Z h9O ⊢
    clear hwq
    have T := Lib.hid h9T
    have X := Lib.hid h9X
    have Y := Lib.hid h9Y
    have Z := Lib.hid h9Z
    have O := Lib.hid h9O
    clear h9T h9X h9Y h9Z h9O
    by_cases hlt : k < n3
    case neg =>
      obtain rfl : k = n3 := by omega
      go_wp2_with fail
      go_ret
      exact ⟨_, rfl, by have h9 := own_mono O.out.1 hTg; rw [Nat.sub_self, List.replicate_zero, List.append_nil] at h9; rw [E.out, HL3.out]; exact h9, T.out⟩
    have hki : (k : Int) < n3 := by omega
    obtain ⟨b3, o3, rfl, hI3⟩ := Sl.at Z.out (k := k) (by rw [HL3.out]; exact hlt)
    have y3 := hI3 k (by rw [HL3.out]; exact hlt)
    clear hI3
    have O3 := Lib.hid (show OwnI wn g (g + 1) (.slice (some ⟨g, 0, none⟩) n3 n3) (nrU xs cs ks k ++ (0 : Int) :: List.replicate (n3 - (k + 1)) 0) from by
      have h9 := O.out
      rw [show n3 - k = (n3 - (k + 1)) + 1 from by omega, List.replicate_succ] at h9
      exact h9)
    clear O
    have O := O3
    clear O3
    obtain ⟨M, hM⟩ : ∃ M : Nat, nbU (fun c => fw xs (nth cs c) (nth ks k)) n2 = M := ⟨_, rfl⟩
    have K1 := fun w' (h : Ints w' b off xs) (h2 : Sl w' a2 cs) => nearestCar_c b off cap xs a2 n2 c2 cs (nth ks k) w' h h2 HL.out hm hm2
    rw [hM] at K1
    have H1 := Lib.hid K1
    have HM := Lib.hid hM
    clear K1 hM
    go_wp2_with fail
    refine Calls.mono (H1.out _ X.out Y.out) ?_
    intro e wn hh
    obtain ⟨he, hb⟩ := (by first | exact hh | exact Ro.mk hh | exact St.mk hh | exact LawOk.mk' hh : Mk _ _ e wn)
    subst he
    have Tn : Hid (Below w.heap.size w wn) := below_next T.out hb
    have Xn : Hid _ := Ints.below X.out hb
    have Yn : Hid _ := Sl.below Y.out hb
    have Zn : Hid _ := Sl.below Z.out hb
    have On : Hid _ := OwnI.below O.out hb
    clear hb hh
    clear T X Y Z O
    have T := Tn
    have X := Xn
    have Y := Yn
    have Z := Zn
    have O := On
    clear Tn Xn Yn Zn On
    clear H1 y3
    have HUL := Lib.hid (nrU_len xs cs ks k)
    have y4 : wn.cell? ⟨g, k, none⟩ = some (.int .i64 (0 : Int)) := by
      have hul : (nrU xs cs ks k).length = k := HUL.out
      have h9 := OwnI.ints O.out k (by simp [hul])
      rw [Nat.zero_add] at h9
      rw [h9]
      congr 2
      simp [nth, List.getD, hul]
    have yf := OwnI.frz O.out k
    have OP := Lib.hid (OwnI.put (M : Int) O.out)
    have hset : Out g (g + 1) wn (wn.setCell ⟨g, k, none⟩ (.int .i64 (M : Int))) := Out.set _ (Nat.le_refl _) (by omega)
    have HO9 := Lib.hid hset
    clear hset
    go_wp2_with fail
    have e9 : (nrU xs cs ks k).length = k := HUL.out
    refine ⟨⟨k + 1, by omega, by go_num, Out.below T.out HO9.out hTg, Ints.out X.out HO9.out (fun h => .inl (by have := hbw h; omega)), Sl.out Y.out HO9.out (fun b q e h => .inl (by have := HBY.out b q e h; omega)), Sl.out Z.out HO9.out (fun b q e h => .inl (by have := HBZ.out b q e h; omega)), ?_⟩, by first | (simp [intOf]; done) | (simp [intOf]; omega) | omega⟩
    have h9 := OP.out
    rw [e9] at h9
    show OwnI _ g (g + 1) _ ((nrU xs cs ks k ++ [(nbU (fun c => fw xs (nth cs c) (nth ks k)) cs.length : Int)]) ++ _)
    rw [HL.out, HM.out, List.append_assoc]
    exact h9
end Go.Proofs.Ytgiioponimiddaa
