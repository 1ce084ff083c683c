/- The exact laws of chapter 13: the walks. -/
import Derived.Test.Yteeokegkbhpbcaa13L
import Derived.Test.YteeokegkbhpbcaaH
import Derived.Test.YteeokegkbhpbcaaI
namespace Go.Proofs.Yteeokegkbhpbcaa
open Go.RowKit
set_option linter.unusedVariables false
set_option linter.unusedSimpArgs false
set_option maxRecDepth 100000
set_option maxHeartbeats 8000000 in
theorem xHallBest_w (p : Option Addr) (cp : Nat) (xs : List Int) (q : Option Addr) (cq : Nat) (cs : List Int) (w : World) (hx : Sl w p xs) (hm : xs.length ≤ maxLen) (hy : Sl w q cs) (hn : cs.length ≤ maxLen) :
    Calls Try.prog 11 #[.slice p xs.length cp, .slice q cs.length cq] w (LawOk w) := by
  have HX0 := Lib.hid hx
  have HY0 := Lib.hid hy
  unfold maxLen at hm hn
  clear hx hy
  by_cases bigxs : 1048576 < xs.length
  · go_enter Try.func11, Try.ntmps11
    go_wp2_with fail
    go_ret
    exact LawOk.mk (Below.refl _ _)
  by_cases bigcs : 1048576 < cs.length
  · go_enter Try.func11, Try.ntmps11
    go_wp2_with fail
    go_ret
    exact LawOk.mk (Below.refl _ _)
  have hL8 : ((hbest xs cs).getD []).length ≤ xs.length := by
    cases e : hbest xs cs with
    | none => simp
    | some b => rw [Option.getD_some, (hbest_some e).fit.2.1.2]; exact Nat.le_refl _
  obtain ⟨L, hL⟩ : ∃ L, (hbest xs cs).getD [] = L := ⟨_, rfl⟩
  obtain ⟨F, hF⟩ : ∃ F, (hbest xs cs).isSome = F := ⟨_, rfl⟩
  have KS := fun a1 c1 a2 c2 w' (h1 : Sl w' a1 xs) (h2 : Sl w' a2 cs) => sHallBest_c a1 xs.length c1 xs a2 cs.length c2 cs w' h1 rfl h2 rfl (by omega) (by omega)
  have KI := fun a1 c1 a2 c2 w' (h1 : Sl w' a1 xs) (h2 : Sl w' a2 cs) (k1 : xs.length ≤ c1 ∧ c1 ≤ 9223372036854775807) (k2 : cs.length ≤ c2 ∧ c2 ≤ 9223372036854775807) => iHallBest_c a1 xs.length c1 xs a2 cs.length c2 cs w' h1 rfl h2 rfl (by omega) (by omega) k1 k2
  rw [hL, hF] at KS KI
  rw [hL] at hL8
  obtain ⟨n1, hn1⟩ : ∃ n, xs.length = n := ⟨_, rfl⟩
  obtain ⟨n2, hn2⟩ : ∃ n, cs.length = n := ⟨_, rfl⟩
  obtain ⟨N, hN⟩ : ∃ N, L.length = N := ⟨_, rfl⟩
  rw [hn1] at bigxs KS KI hL8
  rw [hn2] at bigcs KS KI
  rw [hN] at hL8
  have HKS := Lib.hid KS
  have HKI := Lib.hid KI
  have HN := Lib.hid hN
  have HN1 := Lib.hid hn1
  have HN2 := Lib.hid hn2
  obtain ⟨z1, hz1⟩ : ∃ z, 1 + n1 = z := ⟨_, rfl⟩
  obtain ⟨z2, hz2⟩ : ∃ z, z1 + n2 = z := ⟨_, rfl⟩
  obtain ⟨z4, hz4⟩ : ∃ z, 1 + N = z := ⟨_, rfl⟩
  have HZ1 := Lib.hid hz1
  have HZ2 := Lib.hid hz2
  have HZ4 := Lib.hid hz4
  have hzn2 : ¬ (z2 : Int) < 0 := by omega
  have hzn4 : ¬ (z4 : Int) < 0 := by omega
  have hk1 : z1 ≤ 3000000 := by omega
  have hk2 : z2 ≤ 5000000 := by omega
  rw [hn1, hn2]
  rw [hn1] at hm
  rw [hn2] at hn
  clear KS KI hL hF hN hn1 hn2 hz1 hz2 hz4
  refine at_base fun wn hwn => ?_
  have T := Lib.hid (show Below w.heap.size w wn from by rw [hwn]; exact Below.refl _ _)
  clear hwn
  go_enter Try.func11, Try.ntmps11

  go_wp2_with fail
  obtain ⟨loI, hlo⟩ : ∃ lo, wn.heap.size = lo := ⟨_, rfl⟩
  have HLOI := Lib.hid hlo
  have hlTI : w.heap.size ≤ loI := by rw [← hlo]; exact T.out.size
  clear hlo
  refine Calls.mono (toIntS_o p n1 cp xs _ (Sl.below HX0.out T.out) HN1.out (by omega)) ?_
  rintro e wq ⟨gI, rfl, hgl, hO, hb⟩
  rw [HLOI.out] at hgl hO
  have I0 := Lib.hid (show OwnI wq loI wq.heap.size (.slice (some ⟨gI, 0, none⟩) n1 n1) xs from ⟨hO, fun q hq => own_lt2 hO q hq, by have := hb.size; rw [HLOI.out] at this; exact this, Nat.le_refl _⟩)
  clear hgl hO
  have Tn := Lib.hid (below_next T.out hb)
  clear hb
  clear T
  have T := Tn
  clear Tn
  obtain ⟨wn, hwq⟩ : ∃ w0, w0 = wq := ⟨_, rfl⟩
  subst hwq
  obtain ⟨hiI, hhi⟩ : ∃ k, wn.heap.size = k := ⟨_, rfl⟩
  rw [hhi] at I0
  clear hhi
  have I := I0
  clear I0
  have hlhI := I.out.2.2.1
  go_wp2_with fail
  obtain ⟨loV, hlo⟩ : ∃ lo, wn.heap.size = lo := ⟨_, rfl⟩
  have HLOV := Lib.hid hlo
  have hlTV : w.heap.size ≤ loV := by rw [← hlo]; exact T.out.size
  have hlIV := I.out.2.2.2
  rw [hlo] at hlIV
  clear hlo
  refine Calls.mono (toIntS_o q n2 cq cs _ (Sl.below HY0.out T.out) HN2.out (by omega)) ?_
  rintro e wq ⟨gV, rfl, hgl, hO, hb⟩
  rw [HLOV.out] at hgl hO
  have V0 := Lib.hid (show OwnI wq loV wq.heap.size (.slice (some ⟨gV, 0, none⟩) n2 n2) cs from ⟨hO, fun q hq => own_lt2 hO q hq, by have := hb.size; rw [HLOV.out] at this; exact this, Nat.le_refl _⟩)
  clear hgl hO
  have Tn := Lib.hid (below_next T.out hb)
  have In := Lib.hid (OwnI.below I.out hb)
  clear hb
  clear T I
  have T := Tn
  have I := In
  clear Tn In
  obtain ⟨wn, hwq⟩ : ∃ w0, w0 = wq := ⟨_, rfl⟩
  subst hwq
  obtain ⟨hiV, hhi⟩ : ∃ k, wn.heap.size = k := ⟨_, rfl⟩
  rw [hhi] at V0
  clear hhi
  have V := V0
  clear V0
  have hlhV := V.out.2.2.1
  go_wp2_with fail
  obtain ⟨loW, hlo⟩ : ∃ lo, wn.heap.size = lo := ⟨_, rfl⟩
  have HLOW := Lib.hid hlo
  have hlTW : w.heap.size ≤ loW := by rw [← hlo]; exact T.out.size
  clear hlo
  refine Calls.mono (HKS.out _ _ _ _ _ (OwnI.rd I.out) (OwnI.rd V.out)) ?_
  intro e wq hh
  obtain ⟨lo9, hiW, pW, uW, rfl, hlo9, hO, hb, -⟩ := NewP.get hh
  rw [HLOW.out] at hlo9
  subst hlo9
  clear hh
  have W0 := Lib.hid hO
  clear hO
  have Tn := Lib.hid (below_next T.out hb)
  have In := Lib.hid (OwnI.below I.out hb)
  have Vn := Lib.hid (OwnI.below V.out hb)
  clear hb
  clear T I V
  have T := Tn
  have I := In
  have V := Vn
  clear Tn In Vn
  obtain ⟨wn, hwq⟩ : ∃ w0, w0 = wq := ⟨_, rfl⟩
  subst hwq
  have W := W0
  clear W0
  have hlhW := W.out.2.2.1
  rw [HN.out] at W
  rw [HN.out]
  clear I V
  go_wp2_with fail
  obtain ⟨loI, hlo⟩ : ∃ lo, wn.heap.size = lo := ⟨_, rfl⟩
  have HLOI := Lib.hid hlo
  have hlTI : w.heap.size ≤ loI := by rw [← hlo]; exact T.out.size
  have hlWI := W.out.2.2.2
  rw [hlo] at hlWI
  clear hlo
  refine Calls.mono (toIntS_o p n1 cp xs _ (Sl.below HX0.out T.out) HN1.out (by omega)) ?_
  rintro e wq ⟨gI, rfl, hgl, hO, hb⟩
  rw [HLOI.out] at hgl hO
  have I0 := Lib.hid (show OwnI wq loI wq.heap.size (.slice (some ⟨gI, 0, none⟩) n1 n1) xs from ⟨hO, fun q hq => own_lt2 hO q hq, by have := hb.size; rw [HLOI.out] at this; exact this, Nat.le_refl _⟩)
  clear hgl hO
  have Tn := Lib.hid (below_next T.out hb)
  have Wn := Lib.hid (OwnI.below W.out hb)
  clear hb
  clear T W
  have T := Tn
  have W := Wn
  clear Tn Wn
  obtain ⟨wn, hwq⟩ : ∃ w0, w0 = wq := ⟨_, rfl⟩
  subst hwq
  obtain ⟨hiI, hhi⟩ : ∃ k, wn.heap.size = k := ⟨_, rfl⟩
  rw [hhi] at I0
  clear hhi
  have I := I0
  clear I0
  have hlhI := I.out.2.2.1
  go_wp2_with fail
  obtain ⟨loV, hlo⟩ : ∃ lo, wn.heap.size = lo := ⟨_, rfl⟩
  have HLOV := Lib.hid hlo
  have hlTV : w.heap.size ≤ loV := by rw [← hlo]; exact T.out.size
  have hlWV := W.out.2.2.2
  rw [hlo] at hlWV
  have hlIV := I.out.2.2.2
  rw [hlo] at hlIV
  clear hlo
  refine Calls.mono (toIntS_o q n2 cq cs _ (Sl.below HY0.out T.out) HN2.out (by omega)) ?_
  rintro e wq ⟨gV, rfl, hgl, hO, hb⟩
  rw [HLOV.out] at hgl hO
  have V0 := Lib.hid (show OwnI wq loV wq.heap.size (.slice (some ⟨gV, 0, none⟩) n2 n2) cs from ⟨hO, fun q hq => own_lt2 hO q hq, by have := hb.size; rw [HLOV.out] at this; exact this, Nat.le_refl _⟩)
  clear hgl hO
  have Tn := Lib.hid (below_next T.out hb)
  have Wn := Lib.hid (OwnI.below W.out hb)
  have In := Lib.hid (OwnI.below I.out hb)
  clear hb
  clear T W I
  have T := Tn
  have W := Wn
  have I := In
  clear Tn Wn In
  obtain ⟨wn, hwq⟩ : ∃ w0, w0 = wq := ⟨_, rfl⟩
  subst hwq
  obtain ⟨hiV, hhi⟩ : ∃ k, wn.heap.size = k := ⟨_, rfl⟩
  rw [hhi] at V0
  clear hhi
  have V := V0
  clear V0
  have hlhV := V.out.2.2.1
  go_wp2_with fail
  obtain ⟨loG, hlo⟩ : ∃ lo, wn.heap.size = lo := ⟨_, rfl⟩
  have HLOG := Lib.hid hlo
  have hlTG : w.heap.size ≤ loG := by rw [← hlo]; exact T.out.size
  have hlWG := W.out.2.2.2
  rw [hlo] at hlWG
  have hlIG := I.out.2.2.2
  rw [hlo] at hlIG
  have hlVG := V.out.2.2.2
  rw [hlo] at hlVG
  clear hlo
  refine Calls.mono (HKI.out _ _ _ _ _ (OwnI.rd I.out) (OwnI.rd V.out) ⟨by omega, by omega⟩ ⟨by omega, by omega⟩) ?_
  intro e wq hh
  obtain ⟨lo9, hiG, pG, uG, rfl, hlo9, hO, hb, -⟩ := NewP.get hh
  rw [HLOG.out] at hlo9
  subst hlo9
  clear hh
  have G0 := Lib.hid hO
  clear hO
  have Tn := Lib.hid (below_next T.out hb)
  have Wn := Lib.hid (OwnI.below W.out hb)
  have In := Lib.hid (OwnI.below I.out hb)
  have Vn := Lib.hid (OwnI.below V.out hb)
  clear hb
  clear T W I V
  have T := Tn
  have W := Wn
  have I := In
  have V := Vn
  clear Tn Wn In Vn
  obtain ⟨wn, hwq⟩ : ∃ w0, w0 = wq := ⟨_, rfl⟩
  subst hwq
  have G := G0
  clear G0
  have hlhG := G.out.2.2.1
  rw [HN.out] at G
  rw [HN.out]
  go_wp2_with fail
  refine Calls.mono (eqIntS_t pG N uG L pW uW _ (OwnI.rd G.out) (OwnI.rd W.out) HN.out (by omega)) ?_
  intro e wn hh
  obtain ⟨he, hb⟩ := (by first | exact hh | exact Ro.mk hh | exact St.mk hh | exact LawOk.mk' hh : Mk _ _ e wn)
  subst he
  have Tn : Hid (Below w.heap.size w wn) := below_next T.out hb
  have Wn : Hid _ := OwnI.below W.out hb
  have In : Hid _ := OwnI.below I.out hb
  have Vn : Hid _ := OwnI.below V.out hb
  have Gn : Hid _ := OwnI.below G.out hb
  clear hb hh
  clear T W I V G
  have T := Tn
  have W := Wn
  have I := In
  have V := Vn
  have G := Gn
  clear Tn Wn In Vn Gn
  go_wp2_with fail
  obtain ⟨loJ, hlo⟩ : ∃ lo, wn.heap.size = lo := ⟨_, rfl⟩
  have HLOJ := Lib.hid hlo
  have hlTJ : w.heap.size ≤ loJ := by rw [← hlo]; exact T.out.size
  clear hlo
  refine Calls.mono (toIntS_o p n1 cp xs _ (Sl.below HX0.out T.out) HN1.out (by omega)) ?_
  rintro e wq ⟨gJ, rfl, hgl, hO, hb⟩
  rw [HLOJ.out] at hgl hO
  have J0 := Lib.hid (show OwnI wq loJ wq.heap.size (.slice (some ⟨gJ, 0, none⟩) n1 n1) xs from ⟨hO, fun q hq => own_lt2 hO q hq, by have := hb.size; rw [HLOJ.out] at this; exact this, Nat.le_refl _⟩)
  clear hgl hO
  have Tn := Lib.hid (below_next T.out hb)
  have Wn := Lib.hid (OwnI.below W.out hb)
  have In := Lib.hid (OwnI.below I.out hb)
  have Vn := Lib.hid (OwnI.below V.out hb)
  have Gn := Lib.hid (OwnI.below G.out hb)
  clear hb
  clear T W I V G
  have T := Tn
  have W := Wn
  have I := In
  have V := Vn
  have G := Gn
  clear Tn Wn In Vn Gn
  obtain ⟨wn, hwq⟩ : ∃ w0, w0 = wq := ⟨_, rfl⟩
  subst hwq
  obtain ⟨hiJ, hhi⟩ : ∃ k, wn.heap.size = k := ⟨_, rfl⟩
  rw [hhi] at J0
  clear hhi
  have J := J0
  clear J0
  have hlhJ := J.out.2.2.1
  go_wp2_with fail
  refine Calls.mono (eqIntS_t (some ⟨gI, 0, none⟩) n1 n1 xs (some ⟨gJ, 0, none⟩) n1 _ (OwnI.rd I.out) (OwnI.rd J.out) HN1.out (by omega)) ?_
  intro e wn hh
  obtain ⟨he, hb⟩ := (by first | exact hh | exact Ro.mk hh | exact St.mk hh | exact LawOk.mk' hh : Mk _ _ e wn)
  subst he
  have Tn : Hid (Below w.heap.size w wn) := below_next T.out hb
  have Wn : Hid _ := OwnI.below W.out hb
  have In : Hid _ := OwnI.below I.out hb
  have Vn : Hid _ := OwnI.below V.out hb
  have Gn : Hid _ := OwnI.below G.out hb
  have Jn : Hid _ := OwnI.below J.out hb
  clear hb hh
  clear T W I V G J
  have T := Tn
  have W := Wn
  have I := In
  have V := Vn
  have G := Gn
  have J := Jn
  clear Tn Wn In Vn Gn Jn
  clear J
  go_wp2_with fail
  obtain ⟨loJ, hlo⟩ : ∃ lo, wn.heap.size = lo := ⟨_, rfl⟩
  have HLOJ := Lib.hid hlo
  have hlTJ : w.heap.size ≤ loJ := by rw [← hlo]; exact T.out.size
  clear hlo
  refine Calls.mono (toIntS_o q n2 cq cs _ (Sl.below HY0.out T.out) HN2.out (by omega)) ?_
  rintro e wq ⟨gJ, rfl, hgl, hO, hb⟩
  rw [HLOJ.out] at hgl hO
  have J0 := Lib.hid (show OwnI wq loJ wq.heap.size (.slice (some ⟨gJ, 0, none⟩) n2 n2) cs from ⟨hO, fun q hq => own_lt2 hO q hq, by have := hb.size; rw [HLOJ.out] at this; exact this, Nat.le_refl _⟩)
  clear hgl hO
  have Tn := Lib.hid (below_next T.out hb)
  have Wn := Lib.hid (OwnI.below W.out hb)
  have In := Lib.hid (OwnI.below I.out hb)
  have Vn := Lib.hid (OwnI.below V.out hb)
  have Gn := Lib.hid (OwnI.below G.out hb)
  clear hb
  clear T W I V G
  have T := Tn
  have W := Wn
  have I := In
  have V := Vn
  have G := Gn
  clear Tn Wn In Vn Gn
  obtain ⟨wn, hwq⟩ : ∃ w0, w0 = wq := ⟨_, rfl⟩
  subst hwq
  obtain ⟨hiJ, hhi⟩ : ∃ k, wn.heap.size = k := ⟨_, rfl⟩
  rw [hhi] at J0
  clear hhi
  have J := J0
  clear J0
  have hlhJ := J.out.2.2.1
  go_wp2_with fail
  refine Calls.mono (eqIntS_t (some ⟨gV, 0, none⟩) n2 n2 cs (some ⟨gJ, 0, none⟩) n2 _ (OwnI.rd V.out) (OwnI.rd J.out) HN2.out (by omega)) ?_
  intro e wn hh
  obtain ⟨he, hb⟩ := (by first | exact hh | exact Ro.mk hh | exact St.mk hh | exact LawOk.mk' hh : Mk _ _ e wn)
  subst he
  have Tn : Hid (Below w.heap.size w wn) := below_next T.out hb
  have Wn : Hid _ := OwnI.below W.out hb
  have In : Hid _ := OwnI.below I.out hb
  have Vn : Hid _ := OwnI.below V.out hb
  have Gn : Hid _ := OwnI.below G.out hb
  have Jn : Hid _ := OwnI.below J.out hb
  clear hb hh
  clear T W I V G J
  have T := Tn
  have W := Wn
  have I := In
  have V := Vn
  have G := Gn
  have J := Jn
  clear Tn Wn In Vn Gn Jn
  clear J
  go_wp2_with fail
  refine Calls.mono (markIntS_c (some ⟨gI, 0, none⟩) n1 n1 1 xs loI loI hiI _ I.out.1 (OwnI.len I.out) (by omega) (by omega) I.out.2.1) ?_
  rintro e wq ⟨rfl, hO, ho⟩
  have I9 := Lib.hid (show OwnI wq loI hiI (.slice (some ⟨gI, 0, none⟩) n1 n1) (mki 1 n1) from ⟨hO, I.out.2.1, I.out.2.2.1, Nat.le_trans I.out.2.2.2 ho.size⟩)
  have V9 := Lib.hid (OwnI.out V.out ho (by omega))
  have G9 := Lib.hid (OwnI.out G.out ho (by omega))
  have W9 := Lib.hid (OwnI.out W.out ho (by omega))
  have T9 := Lib.hid (Out.below T.out ho (by omega))
  clear hO ho T I V G W
  have I := I9
  have V := V9
  have G := G9
  have W := W9
  have T := T9
  clear T9 I9 V9 G9 W9
  obtain ⟨wn, hwq⟩ : ∃ w9 : World, w9 = wq := ⟨_, rfl⟩
  subst hwq
  rw [HZ1.out]
  go_wp2_with fail
  refine Calls.mono (markIntS_c (some ⟨gV, 0, none⟩) n2 n2 z1 cs loV loV hiV _ V.out.1 (OwnI.len V.out) (by omega) (by omega) V.out.2.1) ?_
  rintro e wq ⟨rfl, hO, ho⟩
  have V9 := Lib.hid (show OwnI wq loV hiV (.slice (some ⟨gV, 0, none⟩) n2 n2) (mki z1 n2) from ⟨hO, V.out.2.1, V.out.2.2.1, Nat.le_trans V.out.2.2.2 ho.size⟩)
  have G9 := Lib.hid (OwnI.out G.out ho (by omega))
  have W9 := Lib.hid (OwnI.out W.out ho (by omega))
  have I9 := Lib.hid (OwnI.out I.out ho (by omega))
  have T9 := Lib.hid (Out.below T.out ho (by omega))
  clear hO ho T V G W I
  have V := V9
  have G := G9
  have W := W9
  have I := I9
  have T := T9
  clear T9 V9 G9 W9 I9
  obtain ⟨wn, hwq⟩ : ∃ w9 : World, w9 = wq := ⟨_, rfl⟩
  subst hwq
  rw [HZ2.out]
  clear I V
  go_wp2_with fail
  refine Calls.mono (eqIntS_t pG N uG L pW uW _ (OwnI.rd G.out) (OwnI.rd W.out) HN.out (by omega)) ?_
  intro e wn hh
  obtain ⟨he, hb⟩ := (by first | exact hh | exact Ro.mk hh | exact St.mk hh | exact LawOk.mk' hh : Mk _ _ e wn)
  subst he
  have Tn : Hid (Below w.heap.size w wn) := below_next T.out hb
  have Gn : Hid _ := OwnI.below G.out hb
  have Wn : Hid _ := OwnI.below W.out hb
  clear hb hh
  clear T G W
  have T := Tn
  have G := Gn
  have W := Wn
  clear Tn Gn Wn
  go_wp2_with fail
  refine Calls.mono (markIntS_c pG N uG 1 L loG loG hiG _ G.out.1 (OwnI.len G.out) (by omega) (by omega) G.out.2.1) ?_
  rintro e wq ⟨rfl, hO, ho⟩
  have G9 := Lib.hid (show OwnI wq loG hiG (.slice pG N uG) (mki 1 N) from ⟨hO, G.out.2.1, G.out.2.2.1, Nat.le_trans G.out.2.2.2 ho.size⟩)
  have W9 := Lib.hid (OwnI.out W.out ho (by omega))
  have T9 := Lib.hid (Out.below T.out ho (by omega))
  clear hO ho T G W
  have G := G9
  have W := W9
  have T := T9
  clear T9 G9 W9
  obtain ⟨wn, hwq⟩ : ∃ w9 : World, w9 = wq := ⟨_, rfl⟩
  subst hwq
  rw [HZ4.out]
  have HK1 := Lib.hid (heldIntS_c pG N uG 1 wn (OwnI.rd G.out) (by omega) (by omega))
  rw [HZ4.out] at HK1
  go_wp2_with fail
  refine Calls.mono (HK1.out) ?_
  intro e wn hh
  obtain ⟨he, hb⟩ := (by first | exact hh | exact Ro.mk hh | exact St.mk hh | exact LawOk.mk' hh : Mk _ _ e wn)
  subst he
  have Tn : Hid (Below w.heap.size w wn) := below_next T.out hb
  have Gn : Hid _ := OwnI.below G.out hb
  have Wn : Hid _ := OwnI.below W.out hb
  clear hb hh
  clear T G W
  have T := Tn
  have G := Gn
  have W := Wn
  clear Tn Gn Wn
  clear HK1
  go_wp2_with fail
  obtain ⟨loI, hlo⟩ : ∃ lo, wn.heap.size = lo := ⟨_, rfl⟩
  have HLOI := Lib.hid hlo
  have hlTI : w.heap.size ≤ loI := by rw [← hlo]; exact T.out.size
  have hlWI := W.out.2.2.2
  rw [hlo] at hlWI
  have hlGI := G.out.2.2.2
  rw [hlo] at hlGI
  clear hlo
  refine Calls.mono (toIntS_o p n1 cp xs _ (Sl.below HX0.out T.out) HN1.out (by omega)) ?_
  rintro e wq ⟨gI, rfl, hgl, hO, hb⟩
  rw [HLOI.out] at hgl hO
  have I0 := Lib.hid (show OwnI wq loI wq.heap.size (.slice (some ⟨gI, 0, none⟩) n1 n1) xs from ⟨hO, fun q hq => own_lt2 hO q hq, by have := hb.size; rw [HLOI.out] at this; exact this, Nat.le_refl _⟩)
  clear hgl hO
  have Tn := Lib.hid (below_next T.out hb)
  have Gn := Lib.hid (OwnI.below G.out hb)
  have Wn := Lib.hid (OwnI.below W.out hb)
  clear hb
  clear T G W
  have T := Tn
  have G := Gn
  have W := Wn
  clear Tn Gn Wn
  obtain ⟨wn, hwq⟩ : ∃ w0, w0 = wq := ⟨_, rfl⟩
  subst hwq
  obtain ⟨hiI, hhi⟩ : ∃ k, wn.heap.size = k := ⟨_, rfl⟩
  rw [hhi] at I0
  clear hhi
  have I := I0
  clear I0
  have hlhI := I.out.2.2.1
  go_wp2_with fail
  obtain ⟨loV, hlo⟩ : ∃ lo, wn.heap.size = lo := ⟨_, rfl⟩
  have HLOV := Lib.hid hlo
  have hlTV : w.heap.size ≤ loV := by rw [← hlo]; exact T.out.size
  have hlWV := W.out.2.2.2
  rw [hlo] at hlWV
  have hlGV := G.out.2.2.2
  rw [hlo] at hlGV
  have hlIV := I.out.2.2.2
  rw [hlo] at hlIV
  clear hlo
  refine Calls.mono (toIntS_o q n2 cq cs _ (Sl.below HY0.out T.out) HN2.out (by omega)) ?_
  rintro e wq ⟨gV, rfl, hgl, hO, hb⟩
  rw [HLOV.out] at hgl hO
  have V0 := Lib.hid (show OwnI wq loV wq.heap.size (.slice (some ⟨gV, 0, none⟩) n2 n2) cs from ⟨hO, fun q hq => own_lt2 hO q hq, by have := hb.size; rw [HLOV.out] at this; exact this, Nat.le_refl _⟩)
  clear hgl hO
  have Tn := Lib.hid (below_next T.out hb)
  have Gn := Lib.hid (OwnI.below G.out hb)
  have Wn := Lib.hid (OwnI.below W.out hb)
  have In := Lib.hid (OwnI.below I.out hb)
  clear hb
  clear T G W I
  have T := Tn
  have G := Gn
  have W := Wn
  have I := In
  clear Tn Gn Wn In
  obtain ⟨wn, hwq⟩ : ∃ w0, w0 = wq := ⟨_, rfl⟩
  subst hwq
  obtain ⟨hiV, hhi⟩ : ∃ k, wn.heap.size = k := ⟨_, rfl⟩
  rw [hhi] at V0
  clear hhi
  have V := V0
  clear V0
  have hlhV := V.out.2.2.1
  go_wp2_with fail
  obtain ⟨loH, hlo⟩ : ∃ lo, wn.heap.size = lo := ⟨_, rfl⟩
  have HLOH := Lib.hid hlo
  have hlTH : w.heap.size ≤ loH := by rw [← hlo]; exact T.out.size
  have hlWH := W.out.2.2.2
  rw [hlo] at hlWH
  have hlGH := G.out.2.2.2
  rw [hlo] at hlGH
  clear hlo
  refine Calls.mono (HKI.out _ _ _ _ _ (OwnI.rd I.out) (OwnI.rd V.out) ⟨by omega, by omega⟩ ⟨by omega, by omega⟩) ?_
  intro e wq hh
  obtain ⟨lo9, hiH, pH, uH, rfl, hlo9, hO, hb, -⟩ := NewP.get hh
  rw [HLOH.out] at hlo9
  subst hlo9
  clear hh
  have H0 := Lib.hid hO
  clear hO
  have Tn := Lib.hid (below_next T.out hb)
  have Gn := Lib.hid (OwnI.below G.out hb)
  have Wn := Lib.hid (OwnI.below W.out hb)
  have In := Lib.hid (OwnI.below I.out hb)
  have Vn := Lib.hid (OwnI.below V.out hb)
  clear hb
  clear T G W I V
  have T := Tn
  have G := Gn
  have W := Wn
  have I := In
  have V := Vn
  clear Tn Gn Wn In Vn
  obtain ⟨wn, hwq⟩ : ∃ w0, w0 = wq := ⟨_, rfl⟩
  subst hwq
  have H := H0
  clear H0
  have hlhH := H.out.2.2.1
  rw [HN.out] at H
  rw [HN.out]
  clear I V
  go_wp2_with fail
  refine Calls.mono (eqIntS_t pH N uH L pW uW _ (OwnI.rd H.out) (OwnI.rd W.out) HN.out (by omega)) ?_
  intro e wn hh
  obtain ⟨he, hb⟩ := (by first | exact hh | exact Ro.mk hh | exact St.mk hh | exact LawOk.mk' hh : Mk _ _ e wn)
  subst he
  have Tn : Hid (Below w.heap.size w wn) := below_next T.out hb
  have Gn : Hid _ := OwnI.below G.out hb
  have Wn : Hid _ := OwnI.below W.out hb
  have Hn : Hid _ := OwnI.below H.out hb
  clear hb hh
  clear T G W H
  have T := Tn
  have G := Gn
  have W := Wn
  have H := Hn
  clear Tn Gn Wn Hn
  clear H
  have HK1 := Lib.hid (heldIntS_c pG N uG 1 wn (OwnI.rd G.out) (by omega) (by omega))
  rw [HZ4.out] at HK1
  go_wp2_with fail
  refine Calls.mono (HK1.out) ?_
  intro e wn hh
  obtain ⟨he, hb⟩ := (by first | exact hh | exact Ro.mk hh | exact St.mk hh | exact LawOk.mk' hh : Mk _ _ e wn)
  subst he
  have Tn : Hid (Below w.heap.size w wn) := below_next T.out hb
  have Gn : Hid _ := OwnI.below G.out hb
  have Wn : Hid _ := OwnI.below W.out hb
  clear hb hh
  clear T G W
  have T := Tn
  have G := Gn
  have W := Wn
  clear Tn Gn Wn
  clear HK1
  go_wp2_with fail
  go_ret
  first | exact LawOk.mk T.out | exact LawOk.mk (Below.dr T.out _)
end Go.Proofs.Yteeokegkbhpbcaa
