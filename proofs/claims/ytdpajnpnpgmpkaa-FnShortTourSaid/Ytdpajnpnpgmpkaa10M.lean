/- The law of ShortTour: the walk. -/
import Derived.Test.Ytdpajnpnpgmpkaa10L
namespace Go.Proofs.Ytdpajnpnpgmpkaa
open Go.RowKit
set_option linter.unusedVariables false

set_option maxHeartbeats 8000000 in
theorem ShortTour_w (a : Option Addr) (n cap : Nat) (w : World) (hb : Byt w a n) (hn : n ≤ cap) (hcap : cap ≤ maxLen) :
    Calls Try.prog 5 #[.slice a n cap] w (LawOk w) := by
  have hcap' := hcap
  unfold maxLen at hcap'
  by_cases bign : 1048576 < n
  · go_enter Try.func5, Try.ntmps5
    go_wp2_with fail
    go_ret
    exact LawOk.mk (Below.refl _ _)
  go_enter Try.func5, Try.ntmps5
  go_wp2_with fail
  refine (DrawShortTour_c a n cap _ hb hn hcap).mono ?_
  rintro e wn ⟨b, off, cp, xs, x, b2, c2, ys, rfl, hx, ⟨hx0, hx1⟩, hy, hyc, hym, hI, hI2, hB⟩
  have T : Hid _ := hB
  have X : Hid _ := hI
  have Y : Hid _ := hI2
  clear hB hb hI hI2
  have hym' := hym
  unfold maxLen at hym'
  obtain ⟨N, hN⟩ : ∃ N, ys.length = N := ⟨_, rfl⟩
  rw [hN] at hy hyc
  rw [hN]
  have HN := Lib.hid hN
  clear hN
  have hSL := stv_len xs x ys
  rw [HN.out] at hSL
  obtain ⟨L, hL⟩ : ∃ L, stv xs x ys = L := ⟨_, rfl⟩
  have KI := fun w' (h1 : Ints w' b off xs) (h2 : Sl w' (some ⟨b2, 0, none⟩) ys) => iShortTour_c b off cp xs x (some ⟨b2, 0, none⟩) N c2 ys w' h1 h2 HN.out (by omega) (by omega) (by omega) (by omega)
  have KS := fun w' (h1 : Ints w' b off xs) (h2 : Sl w' (some ⟨b2, 0, none⟩) ys) => sShortTour_c b off cp xs x (some ⟨b2, 0, none⟩) N c2 ys w' h1 h2 HN.out (by omega) (by omega)
  rw [hL] at KI KS hSL
  obtain ⟨NL, hNL⟩ : ∃ NL, L.length = NL := ⟨_, rfl⟩
  rw [hNL] at hSL
  have HKI := Lib.hid KI
  have HKS := Lib.hid KS
  have HL := Lib.hid hL
  have HNL := Lib.hid hNL
  clear KI KS hL hNL
  go_wp2_with fail
  obtain ⟨loG, hlo⟩ : ∃ lo, wn.heap.size = lo := ⟨_, rfl⟩
  have HLOG := Lib.hid hlo
  have hlTG : w.heap.size ≤ loG := by rw [← hlo]; exact T.out.size
  clear hlo
  refine Calls.mono (HKI.out _ X.out (.inr ⟨b2, 0, rfl, Y.out⟩)) ?_
  intro e wq hh
  obtain ⟨lo9, hiG, pG, uG, rfl, hlo9, hO, hb⟩ := NewI.get hh
  rw [HLOG.out] at hlo9
  subst hlo9
  clear hh
  have G0 := Lib.hid hO
  clear hO
  have Tn := Lib.hid (below_next T.out hb)
  have Xn := Lib.hid (Ints.below X.out hb)
  have Yn := Lib.hid (Ints.below Y.out hb)
  clear hb
  clear T X Y
  have T := Tn
  have X := Xn
  have Y := Yn
  clear Tn Xn Yn
  obtain ⟨wn, hwq⟩ : ∃ w0, w0 = wq := ⟨_, rfl⟩
  subst hwq
  have G := G0
  clear G0
  have hlhG := G.out.2.2.1
  rw [HNL.out] at G
  rw [HNL.out]
  go_wp2_with fail
  obtain ⟨loW, hlo⟩ : ∃ lo, wn.heap.size = lo := ⟨_, rfl⟩
  have HLOW := Lib.hid hlo
  have hlTW : w.heap.size ≤ loW := by rw [← hlo]; exact T.out.size
  have hlGW := G.out.2.2.2
  rw [hlo] at hlGW
  clear hlo
  refine Calls.mono (HKS.out _ X.out (.inr ⟨b2, 0, rfl, Y.out⟩)) ?_
  intro e wq hh
  obtain ⟨lo9, hiW, pW, uW, rfl, hlo9, hO, hb⟩ := NewI.get hh
  rw [HLOW.out] at hlo9
  subst hlo9
  clear hh
  have W0 := Lib.hid hO
  clear hO
  have Tn := Lib.hid (below_next T.out hb)
  have Xn := Lib.hid (Ints.below X.out hb)
  have Yn := Lib.hid (Ints.below Y.out hb)
  have Gn := Lib.hid (OwnI.below G.out hb)
  clear hb
  clear T X Y G
  have T := Tn
  have X := Xn
  have Y := Yn
  have G := Gn
  clear Tn Xn Yn Gn
  obtain ⟨wn, hwq⟩ : ∃ w0, w0 = wq := ⟨_, rfl⟩
  subst hwq
  have W := W0
  clear W0
  have hlhW := W.out.2.2.1
  rw [HNL.out] at W
  rw [HNL.out]
  go_wp2_with fail
  refine Calls.mono (sameInts_t pG NL uG L pW uW _ (OwnI.rd G.out) (OwnI.rd W.out) HNL.out (by omega)) ?_
  intro e wn hh
  obtain ⟨he, hb⟩ := (by first | exact hh | exact Ro.mk hh | exact St.mk hh | exact LawOk.mk' hh : Mk _ _ e wn)
  subst he
  have Tn : Hid (Below w.heap.size w wn) := below_next T.out hb
  have Xn : Hid _ := Ints.below X.out hb
  have Yn : Hid _ := Ints.below Y.out hb
  have Gn : Hid _ := OwnI.below G.out hb
  have Wn : Hid _ := OwnI.below W.out hb
  clear hb hh
  clear T X Y G W
  have T := Tn
  have X := Xn
  have Y := Yn
  have G := Gn
  have W := Wn
  clear Tn Xn Yn Gn Wn
  clear W
  clear HKI HKS
  by_cases hv : VO xs ys
  case neg =>
    obtain rfl : NL = 0 := by rw [← HNL.out, ← HL.out, stv_f (fun h => hv h.1)]; rfl
    have HV := Lib.hid hv
    clear hv
    go_wp2_with fail
    refine Calls.mono (sVisitsOk_f b off cp xs (some ⟨b2, 0, none⟩) N c2 ys _ X.out (.inr ⟨b2, 0, rfl, Y.out⟩) HN.out (by omega) (by omega) HV.out) ?_
    intro e wn hh
    obtain ⟨he, hb⟩ := (by first | exact hh | exact Ro.mk hh | exact St.mk hh | exact LawOk.mk' hh : Mk _ _ e wn)
    subst he
    have Tn : Hid (Below w.heap.size w wn) := below_next T.out hb
    have Xn : Hid _ := Ints.below X.out hb
    have Yn : Hid _ := Ints.below Y.out hb
    have Gn : Hid _ := OwnI.below G.out hb
    clear hb hh
    clear T X Y G
    have T := Tn
    have X := Xn
    have Y := Yn
    have G := Gn
    clear Tn Xn Yn Gn
    go_wp2_with fail
    refine Calls.mono (alive_c _) ?_
    intro e wn hh
    obtain ⟨he, hb⟩ := (by first | exact hh | exact Ro.mk hh | exact St.mk hh | exact LawOk.mk' hh : Mk _ _ e wn)
    subst he
    have Tn : Hid (Below w.heap.size w wn) := below_next T.out hb
    have Xn : Hid _ := Ints.below X.out hb
    have Yn : Hid _ := Ints.below Y.out hb
    have Gn : Hid _ := OwnI.below G.out hb
    clear hb hh
    clear T X Y G
    have T := Tn
    have X := Xn
    have Y := Yn
    have G := Gn
    clear Tn Xn Yn Gn
    go_wp2_with fail
    go_ret
    first | exact LawOk.mk T.out | exact LawOk.mk (Below.dr T.out _)
  have HV := Lib.hid hv
  by_cases hx : okF xs x
  case neg =>
    obtain rfl : NL = 0 := by rw [← HNL.out, ← HL.out, stv_f (fun h => hx h.2.1)]; rfl
    have hxx : x < 0 ∨ (¬ x < 0 ∧ x ≥ (xs.length : Int)) := by unfold okF at hx; omega
    clear hv hx
    go_wp2_with fail
    refine Calls.mono (sVisitsOk_t b off cp xs (some ⟨b2, 0, none⟩) N c2 ys _ X.out (.inr ⟨b2, 0, rfl, Y.out⟩) HN.out (by omega) (by omega) HV.out) ?_
    intro e wn hh
    obtain ⟨he, hb⟩ := (by first | exact hh | exact Ro.mk hh | exact St.mk hh | exact LawOk.mk' hh : Mk _ _ e wn)
    subst he
    have Tn : Hid (Below w.heap.size w wn) := below_next T.out hb
    have Xn : Hid _ := Ints.below X.out hb
    have Yn : Hid _ := Ints.below Y.out hb
    have Gn : Hid _ := OwnI.below G.out hb
    clear hb hh
    clear T X Y G
    have T := Tn
    have X := Xn
    have Y := Yn
    have G := Gn
    clear Tn Xn Yn Gn
    rcases hxx with h1 | ⟨h1, h2⟩
    · skip
      go_wp2_with fail
      refine Calls.mono (alive_c _) ?_
      intro e wn hh
      obtain ⟨he, hb⟩ := (by first | exact hh | exact Ro.mk hh | exact St.mk hh | exact LawOk.mk' hh : Mk _ _ e wn)
      subst he
      have Tn : Hid (Below w.heap.size w wn) := below_next T.out hb
      have Xn : Hid _ := Ints.below X.out hb
      have Yn : Hid _ := Ints.below Y.out hb
      have Gn : Hid _ := OwnI.below G.out hb
      clear hb hh
      clear T X Y G
      have T := Tn
      have X := Xn
      have Y := Yn
      have G := Gn
      clear Tn Xn Yn Gn
      go_wp2_with fail
      go_ret
      first | exact LawOk.mk T.out | exact LawOk.mk (Below.dr T.out _)
    · skip
      go_wp2_with fail
      refine Calls.mono (alive_c _) ?_
      intro e wn hh
      obtain ⟨he, hb⟩ := (by first | exact hh | exact Ro.mk hh | exact St.mk hh | exact LawOk.mk' hh : Mk _ _ e wn)
      subst he
      have Tn : Hid (Below w.heap.size w wn) := below_next T.out hb
      have Xn : Hid _ := Ints.below X.out hb
      have Yn : Hid _ := Ints.below Y.out hb
      have Gn : Hid _ := OwnI.below G.out hb
      clear hb hh
      clear T X Y G
      have T := Tn
      have X := Xn
      have Y := Yn
      have G := Gn
      clear Tn Xn Yn Gn
      go_wp2_with fail
      go_ret
      first | exact LawOk.mk T.out | exact LawOk.mk (Below.dr T.out _)
  by_cases hN0 : N = 0
  case pos =>
    obtain rfl : NL = 0 := by omega
    have h1 : ¬ x < 0 := by have := hx.1; omega
    have h2 : ¬ x ≥ (xs.length : Int) := by have := hx.2; omega
    subst hN0
    clear hv hx
    go_wp2_with fail
    refine Calls.mono (sVisitsOk_t b off cp xs (some ⟨b2, 0, none⟩) 0 c2 ys _ X.out (.inr ⟨b2, 0, rfl, Y.out⟩) HN.out (by omega) (by omega) HV.out) ?_
    intro e wn hh
    obtain ⟨he, hb⟩ := (by first | exact hh | exact Ro.mk hh | exact St.mk hh | exact LawOk.mk' hh : Mk _ _ e wn)
    subst he
    have Tn : Hid (Below w.heap.size w wn) := below_next T.out hb
    have Xn : Hid _ := Ints.below X.out hb
    have Yn : Hid _ := Ints.below Y.out hb
    have Gn : Hid _ := OwnI.below G.out hb
    clear hb hh
    clear T X Y G
    have T := Tn
    have X := Xn
    have Y := Yn
    have G := Gn
    clear Tn Xn Yn Gn
    go_wp2_with fail
    refine Calls.mono (alive_c _) ?_
    intro e wn hh
    obtain ⟨he, hb⟩ := (by first | exact hh | exact Ro.mk hh | exact St.mk hh | exact LawOk.mk' hh : Mk _ _ e wn)
    subst he
    have Tn : Hid (Below w.heap.size w wn) := below_next T.out hb
    have Xn : Hid _ := Ints.below X.out hb
    have Yn : Hid _ := Ints.below Y.out hb
    have Gn : Hid _ := OwnI.below G.out hb
    clear hb hh
    clear T X Y G
    have T := Tn
    have X := Xn
    have Y := Yn
    have G := Gn
    clear Tn Xn Yn Gn
    go_wp2_with fail
    go_ret
    first | exact LawOk.mk T.out | exact LawOk.mk (Below.dr T.out _)
  have hne : ys ≠ [] := fun e => hN0 (by rw [← HN.out, e]; rfl)
  have hLt : L = tor x (fdB xs x ys) ys := by rw [← HL.out]; exact stv_t ⟨hv, hx, hne⟩
  obtain rfl : NL = N := by rw [← HNL.out, hLt, tor_len, HN.out]
  have hway : tw xs x L = swf xs x ys := by rw [hLt, tw_ok hv.1 hx (fun y hy => hv.ok y (tor_mem.1 hy))]; exact tor_way hv hx hne
  have hdup : ∀ k, k < NL → hmB (L.take k) (nth L k) = false ∧ hmB ys (nth L k) = true := fun k hk => by
    have hk' : k < L.length := by rw [HNL.out]; exact hk
    constructor
    · refine hmB_f fun h => ?_
      obtain ⟨j, hj, e⟩ := in_nth h
      rw [List.length_take] at hj
      have hjk : j < k := by omega
      rw [nth_take _ hjk] at e
      have hp := tor_nodup (a := x) (f := fdB xs x ys) hv
      rw [← hLt, List.pairwise_iff_getElem] at hp
      have := hp j k (by omega) hk' hjk
      rw [nth_eq (by omega), nth_eq hk'] at e
      exact this e
    · refine hmB_t ?_
      have := nth_in hk'
      rw [hLt] at this ⊢
      exact tor_mem.1 this
  have h8 := hv.len8
  have hx8 := hv.1.2.1
  rw [HN.out] at h8
  -- numbers
  have hl0 : 0 < ys.length := by rw [HN.out]; omega
  have z0ok := hv.ok _ (nth_in hl0)
  have z1ok := hv.ok _ (nth_in (xs := ys) (k := NL - 1) (by rw [HN.out]; omega))
  obtain ⟨xn, rfl⟩ := Int.eq_ofNat_of_zero_le hx.1
  obtain ⟨z0, hz0⟩ := Int.eq_ofNat_of_zero_le z0ok.1
  obtain ⟨z1, hz1⟩ := Int.eq_ofNat_of_zero_le z1ok.1
  rw [hz0] at z0ok
  rw [hz1] at z1ok
  obtain ⟨ln, hln⟩ : ∃ l : Nat, (if (z0 : Int) < (xn : Int) then (z0 : Int) else (xn : Int)) = (l : Int) := by
    split
    · exact ⟨z0, rfl⟩
    · exact ⟨xn, rfl⟩
  obtain ⟨hn', hhn⟩ : ∃ l : Nat, (if (z1 : Int) > (xn : Int) then (z1 : Int) else (xn : Int)) = (l : Int) := by
    split
    · exact ⟨z1, rfl⟩
    · exact ⟨xn, rfl⟩
  have e1 : lo1 xn ys = ln := by unfold lo1; rw [hz0, ← hln]; split <;> omega
  have e2 : hi1 xn ys = hn' := by unfold hi1; rw [HN.out, hz1, ← hhn]; split <;> omega
  have lnok : okF xs (ln : Int) := by rw [← hln]; split <;> assumption
  have hnok : okF xs (hn' : Int) := by rw [← hhn]; split <;> assumption
  obtain ⟨H0, hH0⟩ : ∃ v, nth xs ln = v := ⟨_, rfl⟩
  obtain ⟨H1, hH1⟩ : ∃ v, nth xs hn' = v := ⟨_, rfl⟩
  obtain ⟨HX, hHX⟩ : ∃ v, nth xs xn = v := ⟨_, rfl⟩
  have b0 := hgt_bd hv.1 lnok
  have b1 := hgt_bd hv.1 hnok
  have bx := hgt_bd hv.1 hx
  obtain ⟨M, hM⟩ : ∃ M, (if H1 - HX < HX - H0 then H1 - HX else HX - H0) = M := ⟨_, rfl⟩
  have hsw : swf xs xn ys = (H1 - H0) + M := by
    unfold swf
    rw [e1, e2, ← hM]
    show (nth xs hn' - nth xs ln) + min (nth xs xn - nth xs ln) (nth xs hn' - nth xs xn) = _
    rw [hH0, hH1, hHX]
    split <;> omega
  rw [hsw] at hway
  have lnlt : ln < xs.length := by have := lnok.2; omega
  have hnlt : hn' < xs.length := by have := hnok.2; omega
  have xnlt : xn < xs.length := by have := hx.2; omega
  have xnlti : (xn : Int) < xs.length := by omega
  have lnlti : (ln : Int) < xs.length := by omega
  have hnlti : (hn' : Int) < xs.length := by omega
  rw [show hgt xs (ln : Int) = H0 from hH0] at b0
  rw [show hgt xs (hn' : Int) = H1 from hH1] at b1
  rw [show hgt xs (xn : Int) = HX from hHX] at bx
  have hMb : -60 ≤ M ∧ M ≤ 60 := by rw [← hM]; split <;> omega
  have KT := fun w' (h1 : Ints w' b off xs) (pL : Option Addr) (uL : Nat) (h2 : Sl w' pL L) => iTourWay_c b off cp xs xn pL NL uL L w' h1 h2 HNL.out (by omega) (by omega)
  rw [hway] at KT
  have HKT := Lib.hid KT
  have HDU := Lib.hid hdup
  have HMIN := Lib.hid hln
  have HMAX := Lib.hid hhn
  have HM := Lib.hid hM
  have HZ0 := Lib.hid hz0
  have HZ1 := Lib.hid hz1
  have HH0 := Lib.hid hH0
  have HH1 := Lib.hid hH1
  have HHX := Lib.hid hHX
  have W1 := Lib.hid (show IntKind.i64.wrap (H1 - H0) = H1 - H0 from by rw [IntKind.wrap_i64]; omega)
  have W2 := Lib.hid (show IntKind.i64.wrap (HX - H0) = HX - H0 from by rw [IntKind.wrap_i64]; omega)
  have W3 := Lib.hid (show IntKind.i64.wrap (H1 - HX) = H1 - HX from by rw [IntKind.wrap_i64]; omega)
  have hq1 : ¬ (xn : Int) < 0 := by omega
  have hq2 : ¬ (xn : Int) ≥ (xs.length : Int) := by omega
  have hq3 : ((NL : Int) == 0) = false := beq_false_of_ne (by omega)
  have hp0 : 0 < NL := by omega
  have hN1 : (1 : Int) ≤ NL := by omega
  have hNm : (NL : Int) - 1 < NL := by omega
  have hNm2 : NL - 1 < NL := by omega
  clear KT hdup hln hhn hM hz0 hz1 hH0 hH1 hHX hway hsw e1 e2 lnok hnok z0ok z1ok hLt hne hv hx hl0 h8 hx8
  go_wp2_with fail
  refine Calls.mono (sVisitsOk_t b off cp xs (some ⟨b2, 0, none⟩) NL c2 ys _ X.out (.inr ⟨b2, 0, rfl, Y.out⟩) HN.out (by omega) (by omega) HV.out) ?_
  intro e wn hh
  obtain ⟨he, hb⟩ := (by first | exact hh | exact Ro.mk hh | exact St.mk hh | exact LawOk.mk' hh : Mk _ _ e wn)
  subst he
  have Tn : Hid (Below w.heap.size w wn) := below_next T.out hb
  have Xn : Hid _ := Ints.below X.out hb
  have Yn : Hid _ := Ints.below Y.out hb
  have Gn : Hid _ := OwnI.below G.out hb
  clear hb hh
  clear T X Y G
  have T := Tn
  have X := Xn
  have Y := Yn
  have G := Gn
  clear Tn Xn Yn Gn
  obtain ⟨bG, uG', eG, -, hIG, -, huG, -⟩ := Own.opened G.out.1 (by rw [HNL.out]; omega)
  rw [HNL.out] at eG huG
  simp only [Value.slice.injEq] at eG
  obtain ⟨rfl, -, rfl⟩ := eG
  have LI := Lib.hid hIG
  clear hIG
  clear G
  go_wp2_with fail
  go_loopw [7] (fun v wr => ∃ k : Nat, k ≤ NL ∧ v = .int .i64 k ∧ Below w.heap.size w wr ∧ Ints wr b off xs ∧ Ints wr b2 0 ys ∧ Ints wr bG 0 L) (fun v _ => NL - (intOf v).toNat)
  case atStart => exact ⟨0, by omega, rfl, T.out, X.out, Y.out, LI.out⟩
  case' round =>
    clear T X Y LI
    obtain ⟨k, hk, rfl, h9T, h9X, h9Y, h9LI⟩ := hrel
    obtain ⟨wn, hwq⟩ : ∃ w0 : World, w0 = wr := ⟨_, rfl⟩
    rw [← hwq] at h9T h9X h9Y h9LI ⊢
    clear hwq
    have T := Lib.hid h9T
    have X := Lib.hid h9X
    have Y := Lib.hid h9Y
    have LI := Lib.hid h9LI
    clear h9T h9X h9Y h9LI
    by_cases hlt : k < NL
    case pos =>
      obtain ⟨d1, d2⟩ := HDU.out k hlt
      obtain ⟨v, hv⟩ : ∃ v, nth L k = v := ⟨_, rfl⟩
      rw [hv] at d1 d2
      have HVK := Lib.hid hv
      have K1 := fun w' (h : Ints w' bG 0 L) => hasInt_m (some ⟨bG, 0, none⟩) k uG (L.take k) v w' (.inr ⟨bG, 0, rfl, Ints.take h k⟩) (by rw [List.length_take, HNL.out]; omega) (by omega)
      have K2 := fun w' (h : Ints w' b2 0 ys) => hasInt_m (some ⟨b2, 0, none⟩) NL c2 ys v w' (.inr ⟨b2, 0, rfl, h⟩) HN.out (by omega)
      rw [d1] at K1
      rw [d2] at K2
      have HK1 := Lib.hid K1
      have HK2 := Lib.hid K2
      have hki : (k : Int) < NL := by omega
      have hku : k ≤ uG := by omega
      clear d1 d2 hv K1 K2
      go_wp2_with fail
      refine wp_region_growsG [63, 64, 65, 66, 67, 68, 69, 70, 71, 72, 73, 74, 75, 76, 77, 78, 79] [79] [] [] [(71, false)] [] [(6, tV (.slice (some ⟨bG, 0, none⟩) NL uG)), (5, tV (.slice (some ⟨b2, 0, none⟩) NL c2)), (7, tV (.int .i64 k))]
        [(63, tV (.slice (some ⟨bG, 0, none⟩) NL uG)), (64, tV (.int .i64 (k))), (65, tV (.slice (some ⟨bG, 0, none⟩) k uG)), (66, tV (.slice (some ⟨bG, 0, none⟩) NL uG)), (67, tV (.int .i64 (k))), (68, tV (.pointer (some ⟨bG, k, none⟩))), (69, tV (.int .i64 (v))), (70, tV (.bool false)), (71, tV (.bool false)), (72, tV (.slice (some ⟨b2, 0, none⟩) NL c2)), (73, tV (.slice (some ⟨bG, 0, none⟩) NL uG)), (74, tV (.int .i64 (k))), (75, tV (.pointer (some ⟨bG, k, none⟩))), (76, tV (.int .i64 (v))), (77, tV (.bool true)), (78, tV (.bool false)), (79, tV (.bool false))]
        (by kernel_rfl) (by kernel_rfl) (by kernel_rfl) (by kernel_rfl) ⟨fun v w h => h, trivial⟩ (by kernel_rfl) (by kernel_rfl) ⟨StW.g (StW.V _), StW.g (StW.V _), StW.g (StW.V _), StW.g (StW.V _), StW.g (StW.V _), StW.g (StW.V _), StW.g (StW.V _), StW.g (StW.V _), StW.g (StW.V _), StW.g (StW.V _), StW.g (StW.V _), StW.g (StW.V _), StW.g (StW.V _), StW.g (StW.V _), StW.g (StW.V _), StW.g (StW.V _), StW.g (StW.V _), StW.g (StW.V _), StW.g (StW.V _), StW.g (StW.V _), trivial⟩ ⟨.inr (StW.V _), .inr (StW.V _), .inr (StW.V _), .inr (StW.V _), .inr (StW.V _), .inr (StW.V _), .inr (StW.V _), .inr (StW.V _), .inr (StW.V _), .inr (StW.V _), .inr (StW.V _), .inr (StW.V _), .inr (StW.V _), .inr (StW.V _), .inr (StW.V _), .inr (StW.V _), .inr (StW.V _), .inr (StW.V _), .inr (StW.V _), .inr (StW.V _), trivial⟩ (by kernel_rfl) ⟨rfl, rfl, rfl, trivial⟩ ?hobA ?_
      case hobA =>
        refine ⟨?_, ?_, ?_, ?_, ?_, ?_, ?_, ?_, ?_, ?_, ?_, ?_, ?_, ?_, ?_, ?_, ?_, trivial⟩
        · refine obJ_on rfl ?_
          intro kk9 w vs hkk9 hC hL
          have u6 := hL 6 (List.mem_of_elem_eq_true (by kernel_rfl))
          replace u6 : vs 6 = .slice (some ⟨bG, 0, none⟩) NL uG := u6
          go_simp
          simp only [evOf_tmp, evOf_const, u6]
          go_simp
          exact bc_pure hC (by first | exact Grow.refl _ | exact .inr (Grow.refl _)) (show tV (.slice (some ⟨bG, 0, none⟩) NL uG) _ w from rfl)
        · refine obJ_on rfl ?_
          intro kk9 w vs hkk9 hC hL
          have u7 := hL 7 (List.mem_of_elem_eq_true (by kernel_rfl))
          replace u7 : vs 7 = .int .i64 k := u7
          go_simp
          simp only [evOf_tmp, evOf_const, u7]
          go_simp
          exact bc_pure hC (by first | exact Grow.refl _ | exact .inr (Grow.refl _)) (show tV (.int .i64 (k)) _ w from rfl)
        · refine obJ_on rfl ?_
          intro kk9 w vs hkk9 hC hL
          have u63 := hL 63 (List.mem_of_elem_eq_true (by kernel_rfl))
          replace u63 : vs 63 = .slice (some ⟨bG, 0, none⟩) NL uG := u63
          have u64 := hL 64 (List.mem_of_elem_eq_true (by kernel_rfl))
          replace u64 : vs 64 = .int .i64 (k) := u64
          go_simp
          simp only [evOf_tmp, evOf_const, u63, u64]
          go_simp
          exact bc_pure hC (by first | exact Grow.refl _ | exact .inr (Grow.refl _)) (show tV (.slice (some ⟨bG, 0, none⟩) k uG) _ w from rfl)
        · refine obJ_on rfl ?_
          intro kk9 w vs hkk9 hC hL
          have u6 := hL 6 (List.mem_of_elem_eq_true (by kernel_rfl))
          replace u6 : vs 6 = .slice (some ⟨bG, 0, none⟩) NL uG := u6
          go_simp
          simp only [evOf_tmp, evOf_const, u6]
          go_simp
          exact bc_pure hC (by first | exact Grow.refl _ | exact .inr (Grow.refl _)) (show tV (.slice (some ⟨bG, 0, none⟩) NL uG) _ w from rfl)
        · refine obJ_on rfl ?_
          intro kk9 w vs hkk9 hC hL
          have u7 := hL 7 (List.mem_of_elem_eq_true (by kernel_rfl))
          replace u7 : vs 7 = .int .i64 k := u7
          go_simp
          simp only [evOf_tmp, evOf_const, u7]
          go_simp
          exact bc_pure hC (by first | exact Grow.refl _ | exact .inr (Grow.refl _)) (show tV (.int .i64 (k)) _ w from rfl)
        · refine obJ_on rfl ?_
          intro kk9 w vs hkk9 hC hL
          have u66 := hL 66 (List.mem_of_elem_eq_true (by kernel_rfl))
          replace u66 : vs 66 = .slice (some ⟨bG, 0, none⟩) NL uG := u66
          have u67 := hL 67 (List.mem_of_elem_eq_true (by kernel_rfl))
          replace u67 : vs 67 = .int .i64 (k) := u67
          go_simp
          simp only [evOf_tmp, evOf_const, u66, u67]
          go_simp
          exact bc_pure hC (by first | exact Grow.refl _ | exact .inr (Grow.refl _)) (show tV (.pointer (some ⟨bG, k, none⟩)) _ w from rfl)
        · refine obJ_on rfl ?_
          intro kk9 w vs hkk9 hC hL
          have u68 := hL 68 (List.mem_of_elem_eq_true (by kernel_rfl))
          replace u68 : vs 68 = .pointer (some ⟨bG, k, none⟩) := u68
          have cc : w.cell? ⟨bG, k, none⟩ = some (.int .i64 v) := by have h9 := Ints.below LI.out hC k (by rw [HNL.out]; exact hlt); rw [HVK.out, Nat.zero_add] at h9; exact h9
          go_simp
          simp only [evOf_tmp, evOf_const, u68]
          go_simp
          exact bc_pure hC (by first | exact Grow.refl _ | exact .inr (Grow.refl _)) (show tV (.int .i64 (v)) _ w from rfl)
        · refine obJ_on rfl ?_
          intro kk9 w vs hkk9 hC hL
          have u65 := hL 65 (List.mem_of_elem_eq_true (by kernel_rfl))
          replace u65 : vs 65 = .slice (some ⟨bG, 0, none⟩) k uG := u65
          have u69 := hL 69 (List.mem_of_elem_eq_true (by kernel_rfl))
          replace u69 : vs 69 = .int .i64 (v) := u69
          go_simp
          simp only [evOf_tmp, evOf_const, u65, u69]
          exact bc_call hC (Calls.mono (HK1.out _ (Ints.below LI.out hC)) (fun e w2 hh => (by first | exact hh | exact Ro.mk hh | exact St.mk hh : Mk _ _ e w2))) (fun w' h => by first | exact h | exact .inr h) (fun w' => (show tV (.bool false) _ w' from rfl))
        · refine obJ_on rfl ?_
          intro kk9 w vs hkk9 hC hL
          have u70 := hL 70 (List.mem_of_elem_eq_true (by kernel_rfl))
          replace u70 : vs 70 = .bool false := u70
          go_simp
          simp only [evOf_tmp, evOf_const, u70]
          go_simp
          exact bc_pure hC (by first | exact Grow.refl _ | exact .inr (Grow.refl _)) (show tV (.bool false) _ w from rfl)
        · refine obJ_on rfl ?_
          intro kk9 w vs hkk9 hC hL
          have u5 := hL 5 (List.mem_of_elem_eq_true (by kernel_rfl))
          replace u5 : vs 5 = .slice (some ⟨b2, 0, none⟩) NL c2 := u5
          go_simp
          simp only [evOf_tmp, evOf_const, u5]
          go_simp
          exact bc_pure hC (by first | exact Grow.refl _ | exact .inr (Grow.refl _)) (show tV (.slice (some ⟨b2, 0, none⟩) NL c2) _ w from rfl)
        · refine obJ_on rfl ?_
          intro kk9 w vs hkk9 hC hL
          have u6 := hL 6 (List.mem_of_elem_eq_true (by kernel_rfl))
          replace u6 : vs 6 = .slice (some ⟨bG, 0, none⟩) NL uG := u6
          go_simp
          simp only [evOf_tmp, evOf_const, u6]
          go_simp
          exact bc_pure hC (by first | exact Grow.refl _ | exact .inr (Grow.refl _)) (show tV (.slice (some ⟨bG, 0, none⟩) NL uG) _ w from rfl)
        · refine obJ_on rfl ?_
          intro kk9 w vs hkk9 hC hL
          have u7 := hL 7 (List.mem_of_elem_eq_true (by kernel_rfl))
          replace u7 : vs 7 = .int .i64 k := u7
          go_simp
          simp only [evOf_tmp, evOf_const, u7]
          go_simp
          exact bc_pure hC (by first | exact Grow.refl _ | exact .inr (Grow.refl _)) (show tV (.int .i64 (k)) _ w from rfl)
        · refine obJ_on rfl ?_
          intro kk9 w vs hkk9 hC hL
          have u73 := hL 73 (List.mem_of_elem_eq_true (by kernel_rfl))
          replace u73 : vs 73 = .slice (some ⟨bG, 0, none⟩) NL uG := u73
          have u74 := hL 74 (List.mem_of_elem_eq_true (by kernel_rfl))
          replace u74 : vs 74 = .int .i64 (k) := u74
          go_simp
          simp only [evOf_tmp, evOf_const, u73, u74]
          go_simp
          exact bc_pure hC (by first | exact Grow.refl _ | exact .inr (Grow.refl _)) (show tV (.pointer (some ⟨bG, k, none⟩)) _ w from rfl)
        · refine obJ_on rfl ?_
          intro kk9 w vs hkk9 hC hL
          have u75 := hL 75 (List.mem_of_elem_eq_true (by kernel_rfl))
          replace u75 : vs 75 = .pointer (some ⟨bG, k, none⟩) := u75
          have cc : w.cell? ⟨bG, k, none⟩ = some (.int .i64 v) := by have h9 := Ints.below LI.out hC k (by rw [HNL.out]; exact hlt); rw [HVK.out, Nat.zero_add] at h9; exact h9
          go_simp
          simp only [evOf_tmp, evOf_const, u75]
          go_simp
          exact bc_pure hC (by first | exact Grow.refl _ | exact .inr (Grow.refl _)) (show tV (.int .i64 (v)) _ w from rfl)
        · refine obJ_on rfl ?_
          intro kk9 w vs hkk9 hC hL
          have u72 := hL 72 (List.mem_of_elem_eq_true (by kernel_rfl))
          replace u72 : vs 72 = .slice (some ⟨b2, 0, none⟩) NL c2 := u72
          have u76 := hL 76 (List.mem_of_elem_eq_true (by kernel_rfl))
          replace u76 : vs 76 = .int .i64 (v) := u76
          go_simp
          simp only [evOf_tmp, evOf_const, u72, u76]
          exact bc_call hC (Calls.mono (HK2.out _ (Ints.below Y.out hC)) (fun e w2 hh => (by first | exact hh | exact Ro.mk hh | exact St.mk hh : Mk _ _ e w2))) (fun w' h => by first | exact h | exact .inr h) (fun w' => (show tV (.bool true) _ w' from rfl))
        · refine obJ_on rfl ?_
          intro kk9 w vs hkk9 hC hL
          have u77 := hL 77 (List.mem_of_elem_eq_true (by kernel_rfl))
          replace u77 : vs 77 = .bool true := u77
          go_simp
          simp only [evOf_tmp, evOf_const, u77]
          go_simp
          exact bc_pure hC (by first | exact Grow.refl _ | exact .inr (Grow.refl _)) (show tV (.bool false) _ w from rfl)
        · refine obJ_on rfl ?_
          intro kk9 w vs hkk9 hC hL
          have u71 := hL 71 (List.mem_of_elem_eq_true (by kernel_rfl))
          replace u71 : vs 71 = .bool false := u71
          have u78 := hL 78 (List.mem_of_elem_eq_true (by kernel_rfl))
          replace u78 : vs 78 = .bool false := u78
          go_simp
          simp only [evOf_tmp, evOf_const, u71, u78]
          go_simp
          exact bc_pure hC (by first | exact Grow.refl _ | exact .inr (Grow.refl _)) (show tV (.bool false) _ w from rfl)
      intro vs wq hq hT
      have t79 : vs 79 = .bool false := hT 79 (by kernel_rfl)
      simp (decide := true) only [over, Nat.reduceAdd, if_true, if_false]
      rw [t79]
      clear hT t79
      have Tn := Lib.hid (below_next T.out hq)
      have Xn := Lib.hid (Ints.below X.out hq)
      have Yn := Lib.hid (Ints.below Y.out hq)
      have LIn := Lib.hid (Ints.below LI.out hq)
      clear hq
      clear T X Y LI
      have T := Tn
      have X := Xn
      have Y := Yn
      have LI := LIn
      clear Tn Xn Yn LIn
      obtain ⟨wn, hwq⟩ : ∃ w0, w0 = wq := ⟨_, rfl⟩
      subst hwq
      go_wp2_with fail
      go_roundw
      case rel => exact ⟨k + 1, by omega, by go_num, T.out, X.out, Y.out, LI.out⟩
      case measure => first | (simp [intOf]; done) | (simp [intOf]; omega) | omega
    obtain rfl : k = NL := by omega
    have y0 : wn.cell? ⟨b2, 0, none⟩ = some (.int .i64 (z0 : Int)) := by have h9 := Y.out 0 (by rw [HN.out]; exact hp0); rw [HZ0.out] at h9; exact h9
    have y1 : wn.cell? ⟨b2, k - 1, none⟩ = some (.int .i64 (z1 : Int)) := by have h9 := Y.out (k - 1) (by rw [HN.out]; exact hNm2); rw [HZ1.out, Nat.zero_add] at h9; exact h9
    go_wp2_with (first | (with_reducible refine wpList_min rfl rfl HMIN.out ?_) | (with_reducible refine wpList_max rfl rfl HMAX.out ?_))
    clear y0 y1
    refine wp_region_growsG [93, 94, 95, 96, 97, 98, 99, 100, 101, 10] [10] [] [] [] [] [(3, tV (.slice (some ⟨b, off, none⟩) xs.length cp)), (9, tV (.int .i64 hn')), (8, tV (.int .i64 ln))]
      [(93, tV (.slice (some ⟨b, off, none⟩) xs.length cp)), (94, tV (.int .i64 (hn'))), (95, tV (.pointer (some ⟨b, off + hn', none⟩))), (96, tV (.int .i64 (H1))), (97, tV (.slice (some ⟨b, off, none⟩) xs.length cp)), (98, tV (.int .i64 (ln))), (99, tV (.pointer (some ⟨b, off + ln, none⟩))), (100, tV (.int .i64 (H0))), (101, tV (.int .i64 (H1 - H0))), (10, tV (.int .i64 (H1 - H0)))]
      (by kernel_rfl) (by kernel_rfl) (by kernel_rfl) (by kernel_rfl) trivial (by kernel_rfl) (by kernel_rfl) ⟨StW.g (StW.V _), StW.g (StW.V _), StW.g (StW.V _), StW.g (StW.V _), StW.g (StW.V _), StW.g (StW.V _), StW.g (StW.V _), StW.g (StW.V _), StW.g (StW.V _), StW.g (StW.V _), StW.g (StW.V _), StW.g (StW.V _), StW.g (StW.V _), trivial⟩ ⟨.inr (StW.V _), .inr (StW.V _), .inr (StW.V _), .inr (StW.V _), .inr (StW.V _), .inr (StW.V _), .inr (StW.V _), .inr (StW.V _), .inr (StW.V _), .inr (StW.V _), .inr (StW.V _), .inr (StW.V _), .inr (StW.V _), trivial⟩ (by kernel_rfl) ⟨rfl, rfl, rfl, trivial⟩ ?hobB ?_
    case hobB =>
      refine ⟨?_, ?_, ?_, ?_, ?_, ?_, ?_, ?_, ?_, ?_, trivial⟩
      · refine obJ_on rfl ?_
        intro kk9 w vs hkk9 hC hL
        have u3 := hL 3 (List.mem_of_elem_eq_true (by kernel_rfl))
        replace u3 : vs 3 = .slice (some ⟨b, off, none⟩) xs.length cp := u3
        go_simp
        simp only [evOf_tmp, evOf_const, u3]
        go_simp
        exact bc_pure hC (by first | exact Grow.refl _ | exact .inr (Grow.refl _)) (show tV (.slice (some ⟨b, off, none⟩) xs.length cp) _ w from rfl)
      · refine obJ_on rfl ?_
        intro kk9 w vs hkk9 hC hL
        have u9 := hL 9 (List.mem_of_elem_eq_true (by kernel_rfl))
        replace u9 : vs 9 = .int .i64 hn' := u9
        go_simp
        simp only [evOf_tmp, evOf_const, u9]
        go_simp
        exact bc_pure hC (by first | exact Grow.refl _ | exact .inr (Grow.refl _)) (show tV (.int .i64 (hn')) _ w from rfl)
      · refine obJ_on rfl ?_
        intro kk9 w vs hkk9 hC hL
        have u93 := hL 93 (List.mem_of_elem_eq_true (by kernel_rfl))
        replace u93 : vs 93 = .slice (some ⟨b, off, none⟩) xs.length cp := u93
        have u94 := hL 94 (List.mem_of_elem_eq_true (by kernel_rfl))
        replace u94 : vs 94 = .int .i64 (hn') := u94
        go_simp
        simp only [evOf_tmp, evOf_const, u93, u94]
        go_simp
        exact bc_pure hC (by first | exact Grow.refl _ | exact .inr (Grow.refl _)) (show tV (.pointer (some ⟨b, off + hn', none⟩)) _ w from rfl)
      · refine obJ_on rfl ?_
        intro kk9 w vs hkk9 hC hL
        have u95 := hL 95 (List.mem_of_elem_eq_true (by kernel_rfl))
        replace u95 : vs 95 = .pointer (some ⟨b, off + hn', none⟩) := u95
        have cc : w.cell? ⟨b, off + hn', none⟩ = some (.int .i64 H1) := by have h9 := Ints.below X.out hC hn' hnlt; rw [HH1.out] at h9; exact h9
        go_simp
        simp only [evOf_tmp, evOf_const, u95]
        go_simp
        exact bc_pure hC (by first | exact Grow.refl _ | exact .inr (Grow.refl _)) (show tV (.int .i64 (H1)) _ w from rfl)
      · refine obJ_on rfl ?_
        intro kk9 w vs hkk9 hC hL
        have u3 := hL 3 (List.mem_of_elem_eq_true (by kernel_rfl))
        replace u3 : vs 3 = .slice (some ⟨b, off, none⟩) xs.length cp := u3
        go_simp
        simp only [evOf_tmp, evOf_const, u3]
        go_simp
        exact bc_pure hC (by first | exact Grow.refl _ | exact .inr (Grow.refl _)) (show tV (.slice (some ⟨b, off, none⟩) xs.length cp) _ w from rfl)
      · refine obJ_on rfl ?_
        intro kk9 w vs hkk9 hC hL
        have u8 := hL 8 (List.mem_of_elem_eq_true (by kernel_rfl))
        replace u8 : vs 8 = .int .i64 ln := u8
        go_simp
        simp only [evOf_tmp, evOf_const, u8]
        go_simp
        exact bc_pure hC (by first | exact Grow.refl _ | exact .inr (Grow.refl _)) (show tV (.int .i64 (ln)) _ w from rfl)
      · refine obJ_on rfl ?_
        intro kk9 w vs hkk9 hC hL
        have u97 := hL 97 (List.mem_of_elem_eq_true (by kernel_rfl))
        replace u97 : vs 97 = .slice (some ⟨b, off, none⟩) xs.length cp := u97
        have u98 := hL 98 (List.mem_of_elem_eq_true (by kernel_rfl))
        replace u98 : vs 98 = .int .i64 (ln) := u98
        go_simp
        simp only [evOf_tmp, evOf_const, u97, u98]
        go_simp
        exact bc_pure hC (by first | exact Grow.refl _ | exact .inr (Grow.refl _)) (show tV (.pointer (some ⟨b, off + ln, none⟩)) _ w from rfl)
      · refine obJ_on rfl ?_
        intro kk9 w vs hkk9 hC hL
        have u99 := hL 99 (List.mem_of_elem_eq_true (by kernel_rfl))
        replace u99 : vs 99 = .pointer (some ⟨b, off + ln, none⟩) := u99
        have cc : w.cell? ⟨b, off + ln, none⟩ = some (.int .i64 H0) := by have h9 := Ints.below X.out hC ln lnlt; rw [HH0.out] at h9; exact h9
        go_simp
        simp only [evOf_tmp, evOf_const, u99]
        go_simp
        exact bc_pure hC (by first | exact Grow.refl _ | exact .inr (Grow.refl _)) (show tV (.int .i64 (H0)) _ w from rfl)
      · refine obJ_on rfl ?_
        intro kk9 w vs hkk9 hC hL
        have u96 := hL 96 (List.mem_of_elem_eq_true (by kernel_rfl))
        replace u96 : vs 96 = .int .i64 (H1) := u96
        have u100 := hL 100 (List.mem_of_elem_eq_true (by kernel_rfl))
        replace u100 : vs 100 = .int .i64 (H0) := u100
        go_simp
        simp only [evOf_tmp, evOf_const, u96, u100]
        go_simp
        rw [W1.out]
        exact bc_pure hC (by first | exact Grow.refl _ | exact .inr (Grow.refl _)) (show tV (.int .i64 (H1 - H0)) _ w from rfl)
      · refine obJ_on rfl ?_
        intro kk9 w vs hkk9 hC hL
        have u101 := hL 101 (List.mem_of_elem_eq_true (by kernel_rfl))
        replace u101 : vs 101 = .int .i64 (H1 - H0) := u101
        go_simp
        simp only [evOf_tmp, evOf_const, u101]
        go_simp
        exact bc_pure hC (by first | exact Grow.refl _ | exact .inr (Grow.refl _)) (show tV (.int .i64 (H1 - H0)) _ w from rfl)
    intro vs wq hq hT
    have t10 : vs 10 = .int .i64 (H1 - H0) := hT 10 (by kernel_rfl)
    simp (decide := true) only [over, Nat.reduceAdd, if_true, if_false]
    rw [t10]
    clear hT t10
    have Tn := Lib.hid (below_next T.out hq)
    have Xn := Lib.hid (Ints.below X.out hq)
    have Yn := Lib.hid (Ints.below Y.out hq)
    have LIn := Lib.hid (Ints.below LI.out hq)
    clear hq
    clear T X Y LI
    have T := Tn
    have X := Xn
    have Y := Yn
    have LI := LIn
    clear Tn Xn Yn LIn
    obtain ⟨wn, hwq⟩ : ∃ w0, w0 = wq := ⟨_, rfl⟩
    subst hwq
    go_wp2_with fail
    refine wp_region_growsG [102, 103, 104, 105, 106, 107, 108, 109, 110, 111, 112, 113, 114, 115, 116, 117, 118, 119, 120, 11] [11] [] [] [] [] [(3, tV (.slice (some ⟨b, off, none⟩) xs.length cp)), (4, tV (.int .i64 xn)), (9, tV (.int .i64 hn')), (8, tV (.int .i64 ln))]
      [(102, tV (.slice (some ⟨b, off, none⟩) xs.length cp)), (103, tV (.int .i64 (xn))), (104, tV (.pointer (some ⟨b, off + xn, none⟩))), (105, tV (.int .i64 (HX))), (106, tV (.slice (some ⟨b, off, none⟩) xs.length cp)), (107, tV (.int .i64 (ln))), (108, tV (.pointer (some ⟨b, off + ln, none⟩))), (109, tV (.int .i64 (H0))), (110, tV (.int .i64 (HX - H0))), (111, tV (.slice (some ⟨b, off, none⟩) xs.length cp)), (112, tV (.int .i64 (hn'))), (113, tV (.pointer (some ⟨b, off + hn', none⟩))), (114, tV (.int .i64 (H1))), (115, tV (.slice (some ⟨b, off, none⟩) xs.length cp)), (116, tV (.int .i64 (xn))), (117, tV (.pointer (some ⟨b, off + xn, none⟩))), (118, tV (.int .i64 (HX))), (119, tV (.int .i64 (H1 - HX))), (120, tV (.int .i64 (M))), (11, tV (.int .i64 (M)))]
      (by kernel_rfl) (by kernel_rfl) (by kernel_rfl) (by kernel_rfl) trivial (by kernel_rfl) (by kernel_rfl) ⟨StW.g (StW.V _), StW.g (StW.V _), StW.g (StW.V _), StW.g (StW.V _), StW.g (StW.V _), StW.g (StW.V _), StW.g (StW.V _), StW.g (StW.V _), StW.g (StW.V _), StW.g (StW.V _), StW.g (StW.V _), StW.g (StW.V _), StW.g (StW.V _), StW.g (StW.V _), StW.g (StW.V _), StW.g (StW.V _), StW.g (StW.V _), StW.g (StW.V _), StW.g (StW.V _), StW.g (StW.V _), StW.g (StW.V _), StW.g (StW.V _), StW.g (StW.V _), StW.g (StW.V _), trivial⟩ ⟨.inr (StW.V _), .inr (StW.V _), .inr (StW.V _), .inr (StW.V _), .inr (StW.V _), .inr (StW.V _), .inr (StW.V _), .inr (StW.V _), .inr (StW.V _), .inr (StW.V _), .inr (StW.V _), .inr (StW.V _), .inr (StW.V _), .inr (StW.V _), .inr (StW.V _), .inr (StW.V _), .inr (StW.V _), .inr (StW.V _), .inr (StW.V _), .inr (StW.V _), .inr (StW.V _), .inr (StW.V _), .inr (StW.V _), .inr (StW.V _), trivial⟩ (by kernel_rfl) ⟨rfl, rfl, rfl, rfl, trivial⟩ ?hobC ?_
    case hobC =>
      refine ⟨?_, ?_, ?_, ?_, ?_, ?_, ?_, ?_, ?_, ?_, ?_, ?_, ?_, ?_, ?_, ?_, ?_, ?_, ?_, ?_, trivial⟩
      · refine obJ_on rfl ?_
        intro kk9 w vs hkk9 hC hL
        have u3 := hL 3 (List.mem_of_elem_eq_true (by kernel_rfl))
        replace u3 : vs 3 = .slice (some ⟨b, off, none⟩) xs.length cp := u3
        go_simp
        simp only [evOf_tmp, evOf_const, u3]
        go_simp
        exact bc_pure hC (by first | exact Grow.refl _ | exact .inr (Grow.refl _)) (show tV (.slice (some ⟨b, off, none⟩) xs.length cp) _ w from rfl)
      · refine obJ_on rfl ?_
        intro kk9 w vs hkk9 hC hL
        have u4 := hL 4 (List.mem_of_elem_eq_true (by kernel_rfl))
        replace u4 : vs 4 = .int .i64 xn := u4
        go_simp
        simp only [evOf_tmp, evOf_const, u4]
        go_simp
        exact bc_pure hC (by first | exact Grow.refl _ | exact .inr (Grow.refl _)) (show tV (.int .i64 (xn)) _ w from rfl)
      · refine obJ_on rfl ?_
        intro kk9 w vs hkk9 hC hL
        have u102 := hL 102 (List.mem_of_elem_eq_true (by kernel_rfl))
        replace u102 : vs 102 = .slice (some ⟨b, off, none⟩) xs.length cp := u102
        have u103 := hL 103 (List.mem_of_elem_eq_true (by kernel_rfl))
        replace u103 : vs 103 = .int .i64 (xn) := u103
        go_simp
        simp only [evOf_tmp, evOf_const, u102, u103]
        go_simp
        exact bc_pure hC (by first | exact Grow.refl _ | exact .inr (Grow.refl _)) (show tV (.pointer (some ⟨b, off + xn, none⟩)) _ w from rfl)
      · refine obJ_on rfl ?_
        intro kk9 w vs hkk9 hC hL
        have u104 := hL 104 (List.mem_of_elem_eq_true (by kernel_rfl))
        replace u104 : vs 104 = .pointer (some ⟨b, off + xn, none⟩) := u104
        have cc : w.cell? ⟨b, off + xn, none⟩ = some (.int .i64 HX) := by have h9 := Ints.below X.out hC xn xnlt; rw [HHX.out] at h9; exact h9
        go_simp
        simp only [evOf_tmp, evOf_const, u104]
        go_simp
        exact bc_pure hC (by first | exact Grow.refl _ | exact .inr (Grow.refl _)) (show tV (.int .i64 (HX)) _ w from rfl)
      · refine obJ_on rfl ?_
        intro kk9 w vs hkk9 hC hL
        have u3 := hL 3 (List.mem_of_elem_eq_true (by kernel_rfl))
        replace u3 : vs 3 = .slice (some ⟨b, off, none⟩) xs.length cp := u3
        go_simp
        simp only [evOf_tmp, evOf_const, u3]
        go_simp
        exact bc_pure hC (by first | exact Grow.refl _ | exact .inr (Grow.refl _)) (show tV (.slice (some ⟨b, off, none⟩) xs.length cp) _ w from rfl)
      · refine obJ_on rfl ?_
        intro kk9 w vs hkk9 hC hL
        have u8 := hL 8 (List.mem_of_elem_eq_true (by kernel_rfl))
        replace u8 : vs 8 = .int .i64 ln := u8
        go_simp
        simp only [evOf_tmp, evOf_const, u8]
        go_simp
        exact bc_pure hC (by first | exact Grow.refl _ | exact .inr (Grow.refl _)) (show tV (.int .i64 (ln)) _ w from rfl)
      · refine obJ_on rfl ?_
        intro kk9 w vs hkk9 hC hL
        have u106 := hL 106 (List.mem_of_elem_eq_true (by kernel_rfl))
        replace u106 : vs 106 = .slice (some ⟨b, off, none⟩) xs.length cp := u106
        have u107 := hL 107 (List.mem_of_elem_eq_true (by kernel_rfl))
        replace u107 : vs 107 = .int .i64 (ln) := u107
        go_simp
        simp only [evOf_tmp, evOf_const, u106, u107]
        go_simp
        exact bc_pure hC (by first | exact Grow.refl _ | exact .inr (Grow.refl _)) (show tV (.pointer (some ⟨b, off + ln, none⟩)) _ w from rfl)
      · refine obJ_on rfl ?_
        intro kk9 w vs hkk9 hC hL
        have u108 := hL 108 (List.mem_of_elem_eq_true (by kernel_rfl))
        replace u108 : vs 108 = .pointer (some ⟨b, off + ln, none⟩) := u108
        have cc : w.cell? ⟨b, off + ln, none⟩ = some (.int .i64 H0) := by have h9 := Ints.below X.out hC ln lnlt; rw [HH0.out] at h9; exact h9
        go_simp
        simp only [evOf_tmp, evOf_const, u108]
        go_simp
        exact bc_pure hC (by first | exact Grow.refl _ | exact .inr (Grow.refl _)) (show tV (.int .i64 (H0)) _ w from rfl)
      · refine obJ_on rfl ?_
        intro kk9 w vs hkk9 hC hL
        have u105 := hL 105 (List.mem_of_elem_eq_true (by kernel_rfl))
        replace u105 : vs 105 = .int .i64 (HX) := u105
        have u109 := hL 109 (List.mem_of_elem_eq_true (by kernel_rfl))
        replace u109 : vs 109 = .int .i64 (H0) := u109
        go_simp
        simp only [evOf_tmp, evOf_const, u105, u109]
        go_simp
        rw [W2.out]
        exact bc_pure hC (by first | exact Grow.refl _ | exact .inr (Grow.refl _)) (show tV (.int .i64 (HX - H0)) _ w from rfl)
      · refine obJ_on rfl ?_
        intro kk9 w vs hkk9 hC hL
        have u3 := hL 3 (List.mem_of_elem_eq_true (by kernel_rfl))
        replace u3 : vs 3 = .slice (some ⟨b, off, none⟩) xs.length cp := u3
        go_simp
        simp only [evOf_tmp, evOf_const, u3]
        go_simp
        exact bc_pure hC (by first | exact Grow.refl _ | exact .inr (Grow.refl _)) (show tV (.slice (some ⟨b, off, none⟩) xs.length cp) _ w from rfl)
      · refine obJ_on rfl ?_
        intro kk9 w vs hkk9 hC hL
        have u9 := hL 9 (List.mem_of_elem_eq_true (by kernel_rfl))
        replace u9 : vs 9 = .int .i64 hn' := u9
        go_simp
        simp only [evOf_tmp, evOf_const, u9]
        go_simp
        exact bc_pure hC (by first | exact Grow.refl _ | exact .inr (Grow.refl _)) (show tV (.int .i64 (hn')) _ w from rfl)
      · refine obJ_on rfl ?_
        intro kk9 w vs hkk9 hC hL
        have u111 := hL 111 (List.mem_of_elem_eq_true (by kernel_rfl))
        replace u111 : vs 111 = .slice (some ⟨b, off, none⟩) xs.length cp := u111
        have u112 := hL 112 (List.mem_of_elem_eq_true (by kernel_rfl))
        replace u112 : vs 112 = .int .i64 (hn') := u112
        go_simp
        simp only [evOf_tmp, evOf_const, u111, u112]
        go_simp
        exact bc_pure hC (by first | exact Grow.refl _ | exact .inr (Grow.refl _)) (show tV (.pointer (some ⟨b, off + hn', none⟩)) _ w from rfl)
      · refine obJ_on rfl ?_
        intro kk9 w vs hkk9 hC hL
        have u113 := hL 113 (List.mem_of_elem_eq_true (by kernel_rfl))
        replace u113 : vs 113 = .pointer (some ⟨b, off + hn', none⟩) := u113
        have cc : w.cell? ⟨b, off + hn', none⟩ = some (.int .i64 H1) := by have h9 := Ints.below X.out hC hn' hnlt; rw [HH1.out] at h9; exact h9
        go_simp
        simp only [evOf_tmp, evOf_const, u113]
        go_simp
        exact bc_pure hC (by first | exact Grow.refl _ | exact .inr (Grow.refl _)) (show tV (.int .i64 (H1)) _ w from rfl)
      · refine obJ_on rfl ?_
        intro kk9 w vs hkk9 hC hL
        have u3 := hL 3 (List.mem_of_elem_eq_true (by kernel_rfl))
        replace u3 : vs 3 = .slice (some ⟨b, off, none⟩) xs.length cp := u3
        go_simp
        simp only [evOf_tmp, evOf_const, u3]
        go_simp
        exact bc_pure hC (by first | exact Grow.refl _ | exact .inr (Grow.refl _)) (show tV (.slice (some ⟨b, off, none⟩) xs.length cp) _ w from rfl)
      · refine obJ_on rfl ?_
        intro kk9 w vs hkk9 hC hL
        have u4 := hL 4 (List.mem_of_elem_eq_true (by kernel_rfl))
        replace u4 : vs 4 = .int .i64 xn := u4
        go_simp
        simp only [evOf_tmp, evOf_const, u4]
        go_simp
        exact bc_pure hC (by first | exact Grow.refl _ | exact .inr (Grow.refl _)) (show tV (.int .i64 (xn)) _ w from rfl)
      · refine obJ_on rfl ?_
        intro kk9 w vs hkk9 hC hL
        have u115 := hL 115 (List.mem_of_elem_eq_true (by kernel_rfl))
        replace u115 : vs 115 = .slice (some ⟨b, off, none⟩) xs.length cp := u115
        have u116 := hL 116 (List.mem_of_elem_eq_true (by kernel_rfl))
        replace u116 : vs 116 = .int .i64 (xn) := u116
        go_simp
        simp only [evOf_tmp, evOf_const, u115, u116]
        go_simp
        exact bc_pure hC (by first | exact Grow.refl _ | exact .inr (Grow.refl _)) (show tV (.pointer (some ⟨b, off + xn, none⟩)) _ w from rfl)
      · refine obJ_on rfl ?_
        intro kk9 w vs hkk9 hC hL
        have u117 := hL 117 (List.mem_of_elem_eq_true (by kernel_rfl))
        replace u117 : vs 117 = .pointer (some ⟨b, off + xn, none⟩) := u117
        have cc : w.cell? ⟨b, off + xn, none⟩ = some (.int .i64 HX) := by have h9 := Ints.below X.out hC xn xnlt; rw [HHX.out] at h9; exact h9
        go_simp
        simp only [evOf_tmp, evOf_const, u117]
        go_simp
        exact bc_pure hC (by first | exact Grow.refl _ | exact .inr (Grow.refl _)) (show tV (.int .i64 (HX)) _ w from rfl)
      · refine obJ_on rfl ?_
        intro kk9 w vs hkk9 hC hL
        have u114 := hL 114 (List.mem_of_elem_eq_true (by kernel_rfl))
        replace u114 : vs 114 = .int .i64 (H1) := u114
        have u118 := hL 118 (List.mem_of_elem_eq_true (by kernel_rfl))
        replace u118 : vs 118 = .int .i64 (HX) := u118
        go_simp
        simp only [evOf_tmp, evOf_const, u114, u118]
        go_simp
        rw [W3.out]
        exact bc_pure hC (by first | exact Grow.refl _ | exact .inr (Grow.refl _)) (show tV (.int .i64 (H1 - HX)) _ w from rfl)
      · refine obJ_on rfl ?_
        intro kk9 w vs hkk9 hC hL
        have u110 := hL 110 (List.mem_of_elem_eq_true (by kernel_rfl))
        replace u110 : vs 110 = .int .i64 (HX - H0) := u110
        have u119 := hL 119 (List.mem_of_elem_eq_true (by kernel_rfl))
        replace u119 : vs 119 = .int .i64 (H1 - HX) := u119
        go_simp
        simp only [evOf_tmp, evOf_const, u110, u119]
        go_simp
        first | rw [HM.out] | rw [show min (HX - H0) (H1 - HX) = M from by rw [← HM.out]; split <;> omega]
        exact bc_pure hC (by first | exact Grow.refl _ | exact .inr (Grow.refl _)) (show tV (.int .i64 (M)) _ w from rfl)
      · refine obJ_on rfl ?_
        intro kk9 w vs hkk9 hC hL
        have u120 := hL 120 (List.mem_of_elem_eq_true (by kernel_rfl))
        replace u120 : vs 120 = .int .i64 (M) := u120
        go_simp
        simp only [evOf_tmp, evOf_const, u120]
        go_simp
        exact bc_pure hC (by first | exact Grow.refl _ | exact .inr (Grow.refl _)) (show tV (.int .i64 (M)) _ w from rfl)
    intro vs wq hq hT
    have t11 : vs 11 = .int .i64 M := hT 11 (by kernel_rfl)
    simp (decide := true) only [over, Nat.reduceAdd, if_true, if_false]
    rw [t11]
    clear hT t11
    have Tn := Lib.hid (below_next T.out hq)
    have Xn := Lib.hid (Ints.below X.out hq)
    have Yn := Lib.hid (Ints.below Y.out hq)
    have LIn := Lib.hid (Ints.below LI.out hq)
    clear hq
    clear T X Y LI
    have T := Tn
    have X := Xn
    have Y := Yn
    have LI := LIn
    clear Tn Xn Yn LIn
    obtain ⟨wn, hwq⟩ : ∃ w0, w0 = wq := ⟨_, rfl⟩
    subst hwq
    go_wp2_with fail
    refine Calls.mono (HKT.out _ X.out _ _ (.inr ⟨bG, 0, rfl, LI.out⟩)) ?_
    intro e wn hh
    obtain ⟨he, hb⟩ := (by first | exact hh | exact Ro.mk hh | exact St.mk hh | exact LawOk.mk' hh : Mk _ _ e wn)
    subst he
    have Tn : Hid (Below w.heap.size w wn) := below_next T.out hb
    have Xn : Hid _ := Ints.below X.out hb
    have Yn : Hid _ := Ints.below Y.out hb
    have LIn : Hid _ := Ints.below LI.out hb
    clear hb hh
    clear T X Y LI
    have T := Tn
    have X := Xn
    have Y := Yn
    have LI := LIn
    clear Tn Xn Yn LIn
    go_wp2_with fail
    go_ret
    first | exact LawOk.mk T.out | exact LawOk.mk (Below.dr T.out _)
end Go.Proofs.Ytdpajnpnpgmpkaa
