/- The laws of VisitsOk and TourWay: the walks. -/
import Derived.Test.Ytdpajnpnpgmpkaa10U
import Derived.Test.Ytdpajnpnpgmpkaa10I
import Derived.Test.YtdpajnpnpgmpkaaL
import Derived.Test.YtdpajnpnpgmpkaaGG
import Derived.Deep.CutRange
namespace Go.Proofs.Ytdpajnpnpgmpkaa
open Go.RowKit
set_option linter.unusedVariables false

theorem iVisitsOk_t (b off cap : Nat) (xs : List Int) (a2 : Option Addr) (n2 c2 : Nat) (ys : List Int) (w : World) (hc : Ints w b off xs) (hs : Sl w a2 ys) (hl : ys.length = n2) (hm : xs.length ≤ 1048576) (hm2 : n2 ≤ 1048577) (h : VO xs ys) :
    Calls Try.prog 12 #[.slice (some ⟨b, off, none⟩) xs.length cap, .slice a2 n2 c2] w (Mk w (.bool true)) := by
  have := iVisitsOk_c b off cap xs a2 n2 c2 ys w hc hs hl hm hm2
  rwa [voB_t h] at this
theorem iVisitsOk_f (b off cap : Nat) (xs : List Int) (a2 : Option Addr) (n2 c2 : Nat) (ys : List Int) (w : World) (hc : Ints w b off xs) (hs : Sl w a2 ys) (hl : ys.length = n2) (hm : xs.length ≤ 1048576) (hm2 : n2 ≤ 1048577) (h : ¬ VO xs ys) :
    Calls Try.prog 12 #[.slice (some ⟨b, off, none⟩) xs.length cap, .slice a2 n2 c2] w (Mk w (.bool false)) := by
  have := iVisitsOk_c b off cap xs a2 n2 c2 ys w hc hs hl hm hm2
  rwa [voB_f h] at this
theorem vo_nil {xs : List Int} (h : FV xs) : VO xs [] := ⟨h, fun k hk => by simp at hk⟩
theorem vo_tail {xs ys : List Int} (h : VO xs ys) : VO xs (ys.drop 1) := by
  cases ys with
  | nil => exact h
  | cons y l => exact vo_cons h
theorem vo_twice {xs ys : List Int} (h0 : 0 < ys.length) : ¬ VO xs (ys ++ [nth ys (ys.length - 1)]) := fun h => by
  have h1 := (h.2 ys.length (by simp)).2.2 h0
  have e1 : nth (ys ++ [nth ys (ys.length - 1)]) ys.length = nth ys (ys.length - 1) := by
    generalize nth ys (ys.length - 1) = v
    simp [nth, List.getD]
  have e2 : nth (ys ++ [nth ys (ys.length - 1)]) (ys.length - 1) = nth ys (ys.length - 1) := by
    have key : ∀ v, nth (ys ++ [v]) (ys.length - 1) = nth ys (ys.length - 1) := fun v => by
      have : ys.length - 1 < ys.length := by omega
      simp [nth, List.getD, List.getElem?_append, this]
    exact key _
  rw [e1, e2] at h1
  omega

set_option maxHeartbeats 4000000 in
theorem VisitsOk_w (a : Option Addr) (n cap : Nat) (w : World) (hb : Byt w a n) (hn : n ≤ cap) (hcap : cap ≤ maxLen) :
    Calls Try.prog 3 #[.slice a n cap] w (LawOk w) := by
  obtain ⟨i0, hi, hz0, hz1, hz2⟩ := info_parts infoInt
  have hcap' := hcap
  unfold maxLen at hcap'
  by_cases bign : 1048576 < n
  · go_enter Try.func3, Try.ntmps3
    go_wp2_with fail
    go_ret
    exact LawOk.mk (Below.refl _ _)
  go_enter Try.func3, Try.ntmps3
  go_wp2_with fail
  refine (DrawVisitsOk_c a n cap _ hb hn hcap).mono ?_
  rintro e wn ⟨b, off, cp, xs, b2, c2, ys, rfl, hx, hy, hyc, hym, hI, hI2, hB⟩
  have T : Hid _ := hB
  have X : Hid _ := hI
  have Y : Hid _ := hI2
  clear hB hb hI hI2
  have hym' := hym
  unfold maxLen at hym'
  obtain ⟨N, hN⟩ : ∃ N, ys.length = N := ⟨_, rfl⟩
  rw [hN] at hy hyc
  rw [hN]
  have HN := Lib.hid hN
  clear hN
  by_cases hv : VO xs ys
  case neg =>
    have HV := Lib.hid hv
    have hpos : FV xs → 0 < N := fun h => by
      by_cases e : N = 0
      · have : ys = [] := List.length_eq_zero_iff.1 (by rw [HN.out, e])
        rw [this] at hv
        exact absurd (vo_nil h) hv
      · omega
    clear hv
    go_wp2_with fail
    refine Calls.mono (iVisitsOk_f b off cp xs (some ⟨b2, 0, none⟩) N c2 ys _ X.out (.inr ⟨b2, 0, rfl, Y.out⟩) HN.out (by omega) (by omega) HV.out) ?_
    intro e wn hh
    obtain ⟨he, hb⟩ := (by first | exact hh | exact Ro.mk hh | exact St.mk hh | exact LawOk.mk' hh : Mk _ _ e wn)
    subst he
    have Tn : Hid (Below w.heap.size w wn) := below_next T.out hb
    have Xn : Hid _ := Ints.below X.out hb
    have Yn : Hid _ := Ints.below Y.out hb
    clear hb hh
    clear T X Y
    have T := Tn
    have X := Xn
    have Y := Yn
    clear Tn Xn Yn
    go_wp2_with fail
    refine Calls.mono (sVisitsOk_f b off cp xs (some ⟨b2, 0, none⟩) N c2 ys _ X.out (.inr ⟨b2, 0, rfl, Y.out⟩) HN.out (by omega) (by omega) HV.out) ?_
    intro e wn hh
    obtain ⟨he, hb⟩ := (by first | exact hh | exact Ro.mk hh | exact St.mk hh | exact LawOk.mk' hh : Mk _ _ e wn)
    subst he
    have Tn : Hid (Below w.heap.size w wn) := below_next T.out hb
    have Xn : Hid _ := Ints.below X.out hb
    have Yn : Hid _ := Ints.below Y.out hb
    clear hb hh
    clear T X Y
    have T := Tn
    have X := Xn
    have Y := Yn
    clear Tn Xn Yn
    by_cases hf : FV xs
    · have hN0 := hpos hf
      have hNi : (0 : Int) < N := by omega
      have K := fun w' (h : Ints w' b off xs) => iFloorsValid_c b off cp xs w' h (by unfold maxLen; omega)
      rw [fvB_t hf] at K
      have HK := Lib.hid K
      clear K hf hpos
      go_wp2_with fail
      refine Calls.mono (HK.out _ X.out) ?_
      intro e wn hh
      obtain ⟨he, hb⟩ := (by first | exact hh | exact Ro.mk hh | exact St.mk hh | exact LawOk.mk' hh : Mk _ _ e wn)
      subst he
      have Tn : Hid (Below w.heap.size w wn) := below_next T.out hb
      have Xn : Hid _ := Ints.below X.out hb
      have Yn : Hid _ := Ints.below Y.out hb
      clear hb hh
      clear T X Y
      have T := Tn
      have X := Xn
      have Y := Yn
      clear Tn Xn Yn
      go_wp2_with fail
      refine Calls.mono (alive_c _) ?_
      intro e wn hh
      obtain ⟨he, hb⟩ := (by first | exact hh | exact Ro.mk hh | exact St.mk hh | exact LawOk.mk' hh : Mk _ _ e wn)
      subst he
      have Tn : Hid (Below w.heap.size w wn) := below_next T.out hb
      have Xn : Hid _ := Ints.below X.out hb
      have Yn : Hid _ := Ints.below Y.out hb
      clear hb hh
      clear T X Y
      have T := Tn
      have X := Xn
      have Y := Yn
      clear Tn Xn Yn
      go_wp2_with fail
      go_ret
      first | exact LawOk.mk T.out | exact LawOk.mk (Below.dr T.out _)
    · have K := fun w' (h : Ints w' b off xs) => iFloorsValid_c b off cp xs w' h (by unfold maxLen; omega)
      rw [fvB_f hf] at K
      have HK := Lib.hid K
      clear K hf hpos
      go_wp2_with fail
      refine Calls.mono (HK.out _ X.out) ?_
      intro e wn hh
      obtain ⟨he, hb⟩ := (by first | exact hh | exact Ro.mk hh | exact St.mk hh | exact LawOk.mk' hh : Mk _ _ e wn)
      subst he
      have Tn : Hid (Below w.heap.size w wn) := below_next T.out hb
      have Xn : Hid _ := Ints.below X.out hb
      have Yn : Hid _ := Ints.below Y.out hb
      clear hb hh
      clear T X Y
      have T := Tn
      have X := Xn
      have Y := Yn
      clear Tn Xn Yn
      go_wp2_with fail
      refine Calls.mono (alive_c _) ?_
      intro e wn hh
      obtain ⟨he, hb⟩ := (by first | exact hh | exact Ro.mk hh | exact St.mk hh | exact LawOk.mk' hh : Mk _ _ e wn)
      subst he
      have Tn : Hid (Below w.heap.size w wn) := below_next T.out hb
      have Xn : Hid _ := Ints.below X.out hb
      have Yn : Hid _ := Ints.below Y.out hb
      clear hb hh
      clear T X Y
      have T := Tn
      have X := Xn
      have Y := Yn
      clear Tn Xn Yn
      go_wp2_with fail
      go_ret
      first | exact LawOk.mk T.out | exact LawOk.mk (Below.dr T.out _)
  have HV := Lib.hid hv
  clear hv
  go_wp2_with fail
  refine Calls.mono (iVisitsOk_t b off cp xs (some ⟨b2, 0, none⟩) N c2 ys _ X.out (.inr ⟨b2, 0, rfl, Y.out⟩) HN.out (by omega) (by omega) HV.out) ?_
  intro e wn hh
  obtain ⟨he, hb⟩ := (by first | exact hh | exact Ro.mk hh | exact St.mk hh | exact LawOk.mk' hh : Mk _ _ e wn)
  subst he
  have Tn : Hid (Below w.heap.size w wn) := below_next T.out hb
  have Xn : Hid _ := Ints.below X.out hb
  have Yn : Hid _ := Ints.below Y.out hb
  clear hb hh
  clear T X Y
  have T := Tn
  have X := Xn
  have Y := Yn
  clear Tn Xn Yn
  go_wp2_with fail
  refine Calls.mono (sVisitsOk_t b off cp xs (some ⟨b2, 0, none⟩) N c2 ys _ X.out (.inr ⟨b2, 0, rfl, Y.out⟩) HN.out (by omega) (by omega) HV.out) ?_
  intro e wn hh
  obtain ⟨he, hb⟩ := (by first | exact hh | exact Ro.mk hh | exact St.mk hh | exact LawOk.mk' hh : Mk _ _ e wn)
  subst he
  have Tn : Hid (Below w.heap.size w wn) := below_next T.out hb
  have Xn : Hid _ := Ints.below X.out hb
  have Yn : Hid _ := Ints.below Y.out hb
  clear hb hh
  clear T X Y
  have T := Tn
  have X := Xn
  have Y := Yn
  clear Tn Xn Yn
  by_cases h0 : N = 0
  case pos =>
    subst h0
    go_wp2_with fail
    refine Calls.mono (alive_c _) ?_
    intro e wn hh
    obtain ⟨he, hb⟩ := (by first | exact hh | exact Ro.mk hh | exact St.mk hh | exact LawOk.mk' hh : Mk _ _ e wn)
    subst he
    have Tn : Hid (Below w.heap.size w wn) := below_next T.out hb
    have Xn : Hid _ := Ints.below X.out hb
    have Yn : Hid _ := Ints.below Y.out hb
    clear hb hh
    clear T X Y
    have T := Tn
    have X := Xn
    have Y := Yn
    clear Tn Xn Yn
    go_wp2_with fail
    go_ret
    first | exact LawOk.mk T.out | exact LawOk.mk (Below.dr T.out _)
  have h1 : 0 < N := by omega
  have h1i : (1 : Int) ≤ N := by omega
  have hNz : ((N : Int) == 0) = false := beq_false_of_ne (by omega)
  have hlen : 0 < ys.length := by rw [HN.out]; exact h1
  have HV1 := Lib.hid (vo_tail HV.out)
  have hv2 := vo_twice (xs := xs) (ys := ys) hlen
  rw [HN.out] at hv2
  obtain ⟨z, hz⟩ : ∃ z, nth ys (N - 1) = z := ⟨_, rfl⟩
  rw [hz] at hv2
  have HV2 := Lib.hid hv2
  have HZ := Lib.hid hz
  have HD := Lib.hid (show (ys.drop 1).length = N - 1 from by rw [List.length_drop, HN.out])
  have HA := Lib.hid (show (ys ++ [z]).length = N + 1 from by rw [List.length_append, HN.out]; rfl)
  have hy1 : 1 ≤ c2 := by omega
  clear hv2 hz h0
  obtain ⟨A, hA, hIA⟩ := Ints.cut Y.out (h := 1) (by rw [HN.out]; exact hyc) (by omega)
  have IA := Lib.hid hIA
  clear hIA
  go_wp2_with fail
  rcases hA with ⟨e1, rfl⟩ | ⟨e1, rfl⟩
  · subst e1
    obtain rfl : N = 1 := by omega
    refine wp_region_growsG [43, 44, 45, 46, 47, 48, 49, 50, 51, 52, 53, 54, 55, 56, 57, 58, 59, 60, 61, 62, 2] [2] [16] [51, 58, 59] [(47, true)] [] [(3, tV (.slice (some ⟨b, off, none⟩) xs.length cp)), (4, tV (.slice (some ⟨b2, 0, none⟩) 1 1))]
      [(43, tV (.slice (some ⟨b, off, none⟩) xs.length cp)), (44, tV (.slice (some ⟨b2, 0, none⟩) 1 1)), (45, tV (.slice (some ⟨b2, 0, none⟩) (0) (0))), (46, tV (.bool true)), (47, tV (.bool true)), (48, tV (.slice (some ⟨b, off, none⟩) xs.length cp)), (49, tE), (50, tV (.slice (some ⟨b2, 0, none⟩) 1 1)), (51, tO (World.heap wn).size (ys)), (52, tV (.slice (some ⟨b2, 0, none⟩) 1 1)), (53, tV (.slice (some ⟨b2, 0, none⟩) 1 1)), (54, tV (.int .i64 1)), (55, tV (.int .i64 0)), (56, tV (.pointer (some ⟨b2, 0, none⟩))), (57, tV (.int .i64 z)), (58, tN (World.heap wn).size (z)), (59, tO (World.heap wn).size (ys ++ [z])), (60, tV (.bool false)), (61, tV (.bool true)), (62, tV (.bool true)), (2, tV (.bool true))]
      (by kernel_rfl) (by kernel_rfl) (by kernel_rfl) (by kernel_rfl) ⟨fun v w h => h, trivial⟩ (by kernel_rfl) (by kernel_rfl) ⟨StW.g (StW.V _), StW.g (StW.V _), StW.g (StW.V _), StW.g (StW.V _), StW.g (StW.V _), StW.g (StW.V _), StW.g (StW.V _), StW.g (StW.V _), StW.g StW.E, StW.g (StW.V _), StGrow.O (World.heap wn).size _, StW.g (StW.V _), StW.g (StW.V _), StW.g (StW.V _), StW.g (StW.V _), StW.g (StW.V _), StW.g (StW.V _), StGrow.N (World.heap wn).size _, StGrow.O (World.heap wn).size _, StW.g (StW.V _), StW.g (StW.V _), StW.g (StW.V _), StW.g (StW.V _), trivial⟩ ⟨.inr (StW.V _), .inr (StW.V _), .inr (StW.V _), .inr (StW.V _), .inr (StW.V _), .inr (StW.V _), .inr (StW.V _), .inr (StW.V _), .inr StW.E, .inr (StW.V _), .inl rfl, .inr (StW.V _), .inr (StW.V _), .inr (StW.V _), .inr (StW.V _), .inr (StW.V _), .inr (StW.V _), .inl rfl, .inl rfl, .inr (StW.V _), .inr (StW.V _), .inr (StW.V _), .inr (StW.V _), trivial⟩ (by kernel_rfl) ⟨rfl, rfl, trivial⟩ ?hob0 ?_
    case hob0 =>
      refine ⟨?_, ?_, ?_, ?_, ?_, ?_, ?_, ?_, ?_, ?_, ?_, ?_, ?_, ?_, ?_, ?_, ?_, ?_, ?_, ?_, ?_, trivial⟩
      · refine obJ_on rfl ?_
        intro kk9 w vs hkk9 hC hL
        have u3 := hL 3 (List.mem_of_elem_eq_true (by kernel_rfl))
        replace u3 : vs 3 = .slice (some ⟨b, off, none⟩) xs.length cp := u3
        go_simp
        simp only [evOf_tmp, evOf_const, u3]
        go_simp
        exact bc_pure hC (by first | exact Grow.refl _ | exact .inr (Grow.refl _)) (show tV (.slice (some ⟨b, off, none⟩) xs.length cp) _ w from rfl)
      · refine obJ_on rfl ?_
        intro kk9 w vs hkk9 hC hL
        have u4 := hL 4 (List.mem_of_elem_eq_true (by kernel_rfl))
        replace u4 : vs 4 = .slice (some ⟨b2, 0, none⟩) 1 1 := u4
        go_simp
        simp only [evOf_tmp, evOf_const, u4]
        go_simp
        exact bc_pure hC (by first | exact Grow.refl _ | exact .inr (Grow.refl _)) (show tV (.slice (some ⟨b2, 0, none⟩) 1 1) _ w from rfl)
      · refine obJ_on rfl ?_
        intro kk9 w vs hkk9 hC hL
        have u44 := hL 44 (List.mem_of_elem_eq_true (by kernel_rfl))
        replace u44 : vs 44 = .slice (some ⟨b2, 0, none⟩) 1 1 := u44
        go_simp
        simp only [evOf_tmp, evOf_const, u44]
        go_simp
        exact bc_pure hC (by first | exact Grow.refl _ | exact .inr (Grow.refl _)) (show tV (.slice (some ⟨b2, 0, none⟩) (0) (0)) _ w from rfl)
      · refine obJ_on rfl ?_
        intro kk9 w vs hkk9 hC hL
        have u43 := hL 43 (List.mem_of_elem_eq_true (by kernel_rfl))
        replace u43 : vs 43 = .slice (some ⟨b, off, none⟩) xs.length cp := u43
        have u45 := hL 45 (List.mem_of_elem_eq_true (by kernel_rfl))
        replace u45 : vs 45 = .slice (some ⟨b2, 0, none⟩) (0) (0) := u45
        go_simp
        simp only [evOf_tmp, evOf_const, u43, u45]
        exact bc_call hC (Calls.mono (iVisitsOk_t b off cp xs (some ⟨b2, 0, none⟩) (0) (0) (ys.drop 1) _ (Ints.below X.out hC) (.inr ⟨b2, 0, rfl, Ints.below IA.out hC⟩) HD.out (by omega) (by omega) HV1.out) (fun e w2 hh => (by first | exact hh | exact Ro.mk hh | exact St.mk hh : Mk _ _ e w2))) (fun w' h => by first | exact h | exact .inr h) (fun w' => (show tV (.bool true) _ w' from rfl))
      · refine obJ_on rfl ?_
        intro kk9 w vs hkk9 hC hL
        have u46 := hL 46 (List.mem_of_elem_eq_true (by kernel_rfl))
        replace u46 : vs 46 = .bool true := u46
        go_simp
        simp only [evOf_tmp, evOf_const, u46]
        go_simp
        exact bc_pure hC (by first | exact Grow.refl _ | exact .inr (Grow.refl _)) (show tV (.bool true) _ w from rfl)
      · refine obJ_on rfl ?_
        intro kk9 w vs hkk9 hC hL
        have u3 := hL 3 (List.mem_of_elem_eq_true (by kernel_rfl))
        replace u3 : vs 3 = .slice (some ⟨b, off, none⟩) xs.length cp := u3
        go_simp
        simp only [evOf_tmp, evOf_const, u3]
        go_simp
        exact bc_pure hC (by first | exact Grow.refl _ | exact .inr (Grow.refl _)) (show tV (.slice (some ⟨b, off, none⟩) xs.length cp) _ w from rfl)
      · refine obJ_on rfl ?_
        intro kk9 w vs hkk9 hC hL
        go_simp
        exact bc_alloc hC (by first | exact Grow.al _ _ | exact .inr (Grow.al _ _)) (show tE _ (World.alloc w (.cells #[] 3)) from ⟨_, rfl⟩)
      · refine obJ_on rfl ?_
        intro kk9 w vs hkk9 hC hL
        have u4 := hL 4 (List.mem_of_elem_eq_true (by kernel_rfl))
        replace u4 : vs 4 = .slice (some ⟨b2, 0, none⟩) 1 1 := u4
        go_simp
        simp only [evOf_tmp, evOf_const, u4]
        go_simp
        exact bc_pure hC (by first | exact Grow.refl _ | exact .inr (Grow.refl _)) (show tV (.slice (some ⟨b2, 0, none⟩) 1 1) _ w from rfl)
      · refine obJ_on rfl ?_
        intro kk9 w vs hkk9 hC hL
        have u49 := hL 49 (List.mem_of_elem_eq_true (by kernel_rfl))
        replace u49 : tE (vs 49) w := u49
        have u50 := hL 50 (List.mem_of_elem_eq_true (by kernel_rfl))
        replace u50 : vs 50 = .slice (some ⟨b2, 0, none⟩) 1 1 := u50
        obtain ⟨h, u49⟩ := u49
        exact bc_append_new (xs := ys) (.tmp 49) (.tmp 50) rfl hC u49 (by rw [HN.out]; exact u50) (Ints.cells (Ints.below Y.out hC)) (by have := HN.out; omega) (by have := HN.out; omega) (fun w' h => by first | exact h | exact .inr h) (fun v w' h d hd => by cases hd; exact h)
      · refine obJ_on rfl ?_
        intro kk9 w vs hkk9 hC hL
        have u4 := hL 4 (List.mem_of_elem_eq_true (by kernel_rfl))
        replace u4 : vs 4 = .slice (some ⟨b2, 0, none⟩) 1 1 := u4
        go_simp
        simp only [evOf_tmp, evOf_const, u4]
        go_simp
        exact bc_pure hC (by first | exact Grow.refl _ | exact .inr (Grow.refl _)) (show tV (.slice (some ⟨b2, 0, none⟩) 1 1) _ w from rfl)
      · refine obJ_on rfl ?_
        intro kk9 w vs hkk9 hC hL
        have u4 := hL 4 (List.mem_of_elem_eq_true (by kernel_rfl))
        replace u4 : vs 4 = .slice (some ⟨b2, 0, none⟩) 1 1 := u4
        go_simp
        simp only [evOf_tmp, evOf_const, u4]
        go_simp
        exact bc_pure hC (by first | exact Grow.refl _ | exact .inr (Grow.refl _)) (show tV (.slice (some ⟨b2, 0, none⟩) 1 1) _ w from rfl)
      · refine obJ_on rfl ?_
        intro kk9 w vs hkk9 hC hL
        have u53 := hL 53 (List.mem_of_elem_eq_true (by kernel_rfl))
        replace u53 : vs 53 = .slice (some ⟨b2, 0, none⟩) 1 1 := u53
        go_simp
        simp only [evOf_tmp, evOf_const, u53]
        go_simp
        exact bc_pure hC (by first | exact Grow.refl _ | exact .inr (Grow.refl _)) (show tV (.int .i64 1) _ w from rfl)
      · refine obJ_on rfl ?_
        intro kk9 w vs hkk9 hC hL
        have u54 := hL 54 (List.mem_of_elem_eq_true (by kernel_rfl))
        replace u54 : vs 54 = .int .i64 1 := u54
        go_simp
        simp only [evOf_tmp, evOf_const, u54]
        go_simp
        exact bc_pure hC (by first | exact Grow.refl _ | exact .inr (Grow.refl _)) (show tV (.int .i64 0) _ w from rfl)
      · refine obJ_on rfl ?_
        intro kk9 w vs hkk9 hC hL
        have u52 := hL 52 (List.mem_of_elem_eq_true (by kernel_rfl))
        replace u52 : vs 52 = .slice (some ⟨b2, 0, none⟩) 1 1 := u52
        have u55 := hL 55 (List.mem_of_elem_eq_true (by kernel_rfl))
        replace u55 : vs 55 = .int .i64 0 := u55
        go_simp
        simp only [evOf_tmp, evOf_const, u52, u55]
        go_simp
        exact bc_pure hC (by first | exact Grow.refl _ | exact .inr (Grow.refl _)) (show tV (.pointer (some ⟨b2, 0, none⟩)) _ w from rfl)
      · refine obJ_on rfl ?_
        intro kk9 w vs hkk9 hC hL
        have u56 := hL 56 (List.mem_of_elem_eq_true (by kernel_rfl))
        replace u56 : vs 56 = .pointer (some ⟨b2, 0, none⟩) := u56
        have cc : w.cell? ⟨b2, 0, none⟩ = some (.int .i64 z) := by have h9 := Ints.below Y.out hC (1 - 1) (by rw [HN.out]; omega); rw [HZ.out, Nat.zero_add] at h9; exact h9
        go_simp
        simp only [evOf_tmp, evOf_const, u56]
        go_simp
        exact bc_pure hC (by first | exact Grow.refl _ | exact .inr (Grow.refl _)) (show tV (.int .i64 z) _ w from rfl)
      · refine obJ_on rfl ?_
        intro kk9 w vs hkk9 hC hL
        have u57 := hL 57 (List.mem_of_elem_eq_true (by kernel_rfl))
        replace u57 : vs 57 = .int .i64 z := u57
        go_simp
        simp only [evOf_tmp, u57]
        go_simp
        exact bc_alloc hC (by first | exact Grow.al _ _ | exact .inr (Grow.al _ _)) (show tN (World.heap wn).size (z) _ (World.alloc w (.cells #[.int .i64 (z)] 3)) from ⟨_, rfl, by rw [World.cell?_alloc_at _ _ _ _ rfl]; rfl⟩)
      · refine obJ_on rfl ?_
        intro kk9 w vs hkk9 hC hL
        have u51 := hL 51 (List.mem_of_elem_eq_true (by kernel_rfl))
        replace u51 : tO (World.heap wn).size (ys) (vs 51) w := u51
        have u58 := hL 58 (List.mem_of_elem_eq_true (by kernel_rfl))
        replace u58 : tN (World.heap wn).size (z) (vs 58) w := u58
        obtain ⟨h, u58, hc⟩ := u58
        exact bc_append_own (xs := [z]) (.tmp 51) (.tmp 58) rfl hC rfl u51 u58 (Ints.cells (ints_one hc)) (by simp; have := HN.out; omega) (fun w' => .inl rfl) (fun v w' h d hd => by cases hd; exact h)
      · refine obJ_on rfl ?_
        intro kk9 w vs hkk9 hC hL
        have u48 := hL 48 (List.mem_of_elem_eq_true (by kernel_rfl))
        replace u48 : vs 48 = .slice (some ⟨b, off, none⟩) xs.length cp := u48
        have u59 := hL 59 (List.mem_of_elem_eq_true (by kernel_rfl))
        replace u59 : tO (World.heap wn).size (ys ++ [z]) (vs 59) w := u59
        obtain ⟨bb59, cc59, e59, -, -, I59, -, -⟩ := Own.some u59.1 u59.2
        go_simp
        simp only [evOf_tmp, evOf_const, u48, e59]
        exact bc_call hC (Calls.mono (iVisitsOk_f b off cp xs (some ⟨bb59, 0, none⟩) _ cc59 (ys ++ [z]) _ (Ints.below X.out hC) (.inr ⟨bb59, 0, rfl, I59⟩) rfl (by omega) (by rw [HA.out]; omega) HV2.out) (fun e w2 hh => (by first | exact hh | exact Ro.mk hh | exact St.mk hh : Mk _ _ e w2))) (fun w' h => by first | exact h | exact .inr h) (fun w' => (show tV (.bool false) _ w' from rfl))
      · refine obJ_on rfl ?_
        intro kk9 w vs hkk9 hC hL
        have u60 := hL 60 (List.mem_of_elem_eq_true (by kernel_rfl))
        replace u60 : vs 60 = .bool false := u60
        go_simp
        simp only [evOf_tmp, evOf_const, u60]
        go_simp
        exact bc_pure hC (by first | exact Grow.refl _ | exact .inr (Grow.refl _)) (show tV (.bool true) _ w from rfl)
      · refine obJ_on rfl ?_
        intro kk9 w vs hkk9 hC hL
        have u47 := hL 47 (List.mem_of_elem_eq_true (by kernel_rfl))
        replace u47 : vs 47 = .bool true := u47
        have u61 := hL 61 (List.mem_of_elem_eq_true (by kernel_rfl))
        replace u61 : vs 61 = .bool true := u61
        go_simp
        simp only [evOf_tmp, evOf_const, u47, u61]
        go_simp
        exact bc_pure hC (by first | exact Grow.refl _ | exact .inr (Grow.refl _)) (show tV (.bool true) _ w from rfl)
      · refine obJ_on rfl ?_
        intro kk9 w vs hkk9 hC hL
        have u62 := hL 62 (List.mem_of_elem_eq_true (by kernel_rfl))
        replace u62 : vs 62 = .bool true := u62
        go_simp
        simp only [evOf_tmp, evOf_const, u62]
        go_simp
        exact bc_pure hC (by first | exact Grow.refl _ | exact .inr (Grow.refl _)) (show tV (.bool true) _ w from rfl)
    intro vs wq hq hT
    have t2 : vs 2 = .bool true := hT 2 (by kernel_rfl)
    simp (decide := true) only [over, Nat.reduceAdd, if_true, if_false]
    rw [t2]
    clear hT t2
    have Tn := Lib.hid (below_next T.out hq)
    have Xn := Lib.hid (Ints.below X.out hq)
    have Yn := Lib.hid (Ints.below Y.out hq)
    clear hq
    clear T X Y
    have T := Tn
    have X := Xn
    have Y := Yn
    clear Tn Xn Yn
    obtain ⟨wn, hwq⟩ : ∃ w0, w0 = wq := ⟨_, rfl⟩
    subst hwq
    go_wp2_with fail
    go_ret
    first | exact LawOk.mk T.out | exact LawOk.mk (Below.dr T.out _)
  · have e2 : ¬ c2 = 1 := e1
    have hNm : (N : Int) - 1 < N := by omega
    have HWR := Lib.hid (show IntKind.i64.wrap ((N : Int) - 1) = (N : Int) - 1 from by rw [IntKind.wrap_i64]; omega)
    refine wp_region_growsG [43, 44, 45, 46, 47, 48, 49, 50, 51, 52, 53, 54, 55, 56, 57, 58, 59, 60, 61, 62, 2] [2] [16] [51, 58, 59] [(47, true)] [] [(3, tV (.slice (some ⟨b, off, none⟩) xs.length cp)), (4, tV (.slice (some ⟨b2, 0, none⟩) N c2))]
      [(43, tV (.slice (some ⟨b, off, none⟩) xs.length cp)), (44, tV (.slice (some ⟨b2, 0, none⟩) N c2)), (45, tV (.slice (some ⟨b2, 1, none⟩) (N - 1) (c2 - 1))), (46, tV (.bool true)), (47, tV (.bool true)), (48, tV (.slice (some ⟨b, off, none⟩) xs.length cp)), (49, tE), (50, tV (.slice (some ⟨b2, 0, none⟩) N c2)), (51, tO (World.heap wn).size (ys)), (52, tV (.slice (some ⟨b2, 0, none⟩) N c2)), (53, tV (.slice (some ⟨b2, 0, none⟩) N c2)), (54, tV (.int .i64 N)), (55, tV (.int .i64 ((N : Int) - 1))), (56, tV (.pointer (some ⟨b2, N - 1, none⟩))), (57, tV (.int .i64 z)), (58, tN (World.heap wn).size (z)), (59, tO (World.heap wn).size (ys ++ [z])), (60, tV (.bool false)), (61, tV (.bool true)), (62, tV (.bool true)), (2, tV (.bool true))]
      (by kernel_rfl) (by kernel_rfl) (by kernel_rfl) (by kernel_rfl) ⟨fun v w h => h, trivial⟩ (by kernel_rfl) (by kernel_rfl) ⟨StW.g (StW.V _), StW.g (StW.V _), StW.g (StW.V _), StW.g (StW.V _), StW.g (StW.V _), StW.g (StW.V _), StW.g (StW.V _), StW.g (StW.V _), StW.g StW.E, StW.g (StW.V _), StGrow.O (World.heap wn).size _, StW.g (StW.V _), StW.g (StW.V _), StW.g (StW.V _), StW.g (StW.V _), StW.g (StW.V _), StW.g (StW.V _), StGrow.N (World.heap wn).size _, StGrow.O (World.heap wn).size _, StW.g (StW.V _), StW.g (StW.V _), StW.g (StW.V _), StW.g (StW.V _), trivial⟩ ⟨.inr (StW.V _), .inr (StW.V _), .inr (StW.V _), .inr (StW.V _), .inr (StW.V _), .inr (StW.V _), .inr (StW.V _), .inr (StW.V _), .inr StW.E, .inr (StW.V _), .inl rfl, .inr (StW.V _), .inr (StW.V _), .inr (StW.V _), .inr (StW.V _), .inr (StW.V _), .inr (StW.V _), .inl rfl, .inl rfl, .inr (StW.V _), .inr (StW.V _), .inr (StW.V _), .inr (StW.V _), trivial⟩ (by kernel_rfl) ⟨rfl, rfl, trivial⟩ ?hob1 ?_
    case hob1 =>
      refine ⟨?_, ?_, ?_, ?_, ?_, ?_, ?_, ?_, ?_, ?_, ?_, ?_, ?_, ?_, ?_, ?_, ?_, ?_, ?_, ?_, ?_, trivial⟩
      · refine obJ_on rfl ?_
        intro kk9 w vs hkk9 hC hL
        have u3 := hL 3 (List.mem_of_elem_eq_true (by kernel_rfl))
        replace u3 : vs 3 = .slice (some ⟨b, off, none⟩) xs.length cp := u3
        go_simp
        simp only [evOf_tmp, evOf_const, u3]
        go_simp
        exact bc_pure hC (by first | exact Grow.refl _ | exact .inr (Grow.refl _)) (show tV (.slice (some ⟨b, off, none⟩) xs.length cp) _ w from rfl)
      · refine obJ_on rfl ?_
        intro kk9 w vs hkk9 hC hL
        have u4 := hL 4 (List.mem_of_elem_eq_true (by kernel_rfl))
        replace u4 : vs 4 = .slice (some ⟨b2, 0, none⟩) N c2 := u4
        go_simp
        simp only [evOf_tmp, evOf_const, u4]
        go_simp
        exact bc_pure hC (by first | exact Grow.refl _ | exact .inr (Grow.refl _)) (show tV (.slice (some ⟨b2, 0, none⟩) N c2) _ w from rfl)
      · refine obJ_on rfl ?_
        intro kk9 w vs hkk9 hC hL
        have u44 := hL 44 (List.mem_of_elem_eq_true (by kernel_rfl))
        replace u44 : vs 44 = .slice (some ⟨b2, 0, none⟩) N c2 := u44
        go_simp
        simp only [evOf_tmp, evOf_const, u44]
        go_simp
        exact bc_pure hC (by first | exact Grow.refl _ | exact .inr (Grow.refl _)) (show tV (.slice (some ⟨b2, 1, none⟩) (N - 1) (c2 - 1)) _ w from rfl)
      · refine obJ_on rfl ?_
        intro kk9 w vs hkk9 hC hL
        have u43 := hL 43 (List.mem_of_elem_eq_true (by kernel_rfl))
        replace u43 : vs 43 = .slice (some ⟨b, off, none⟩) xs.length cp := u43
        have u45 := hL 45 (List.mem_of_elem_eq_true (by kernel_rfl))
        replace u45 : vs 45 = .slice (some ⟨b2, 1, none⟩) (N - 1) (c2 - 1) := u45
        go_simp
        simp only [evOf_tmp, evOf_const, u43, u45]
        exact bc_call hC (Calls.mono (iVisitsOk_t b off cp xs (some ⟨b2, 1, none⟩) (N - 1) (c2 - 1) (ys.drop 1) _ (Ints.below X.out hC) (.inr ⟨b2, 1, rfl, Ints.below IA.out hC⟩) HD.out (by omega) (by omega) HV1.out) (fun e w2 hh => (by first | exact hh | exact Ro.mk hh | exact St.mk hh : Mk _ _ e w2))) (fun w' h => by first | exact h | exact .inr h) (fun w' => (show tV (.bool true) _ w' from rfl))
      · refine obJ_on rfl ?_
        intro kk9 w vs hkk9 hC hL
        have u46 := hL 46 (List.mem_of_elem_eq_true (by kernel_rfl))
        replace u46 : vs 46 = .bool true := u46
        go_simp
        simp only [evOf_tmp, evOf_const, u46]
        go_simp
        exact bc_pure hC (by first | exact Grow.refl _ | exact .inr (Grow.refl _)) (show tV (.bool true) _ w from rfl)
      · refine obJ_on rfl ?_
        intro kk9 w vs hkk9 hC hL
        have u3 := hL 3 (List.mem_of_elem_eq_true (by kernel_rfl))
        replace u3 : vs 3 = .slice (some ⟨b, off, none⟩) xs.length cp := u3
        go_simp
        simp only [evOf_tmp, evOf_const, u3]
        go_simp
        exact bc_pure hC (by first | exact Grow.refl _ | exact .inr (Grow.refl _)) (show tV (.slice (some ⟨b, off, none⟩) xs.length cp) _ w from rfl)
      · refine obJ_on rfl ?_
        intro kk9 w vs hkk9 hC hL
        go_simp
        exact bc_alloc hC (by first | exact Grow.al _ _ | exact .inr (Grow.al _ _)) (show tE _ (World.alloc w (.cells #[] 3)) from ⟨_, rfl⟩)
      · refine obJ_on rfl ?_
        intro kk9 w vs hkk9 hC hL
        have u4 := hL 4 (List.mem_of_elem_eq_true (by kernel_rfl))
        replace u4 : vs 4 = .slice (some ⟨b2, 0, none⟩) N c2 := u4
        go_simp
        simp only [evOf_tmp, evOf_const, u4]
        go_simp
        exact bc_pure hC (by first | exact Grow.refl _ | exact .inr (Grow.refl _)) (show tV (.slice (some ⟨b2, 0, none⟩) N c2) _ w from rfl)
      · refine obJ_on rfl ?_
        intro kk9 w vs hkk9 hC hL
        have u49 := hL 49 (List.mem_of_elem_eq_true (by kernel_rfl))
        replace u49 : tE (vs 49) w := u49
        have u50 := hL 50 (List.mem_of_elem_eq_true (by kernel_rfl))
        replace u50 : vs 50 = .slice (some ⟨b2, 0, none⟩) N c2 := u50
        obtain ⟨h, u49⟩ := u49
        exact bc_append_new (xs := ys) (.tmp 49) (.tmp 50) rfl hC u49 (by rw [HN.out]; exact u50) (Ints.cells (Ints.below Y.out hC)) (by have := HN.out; omega) (by have := HN.out; omega) (fun w' h => by first | exact h | exact .inr h) (fun v w' h d hd => by cases hd; exact h)
      · refine obJ_on rfl ?_
        intro kk9 w vs hkk9 hC hL
        have u4 := hL 4 (List.mem_of_elem_eq_true (by kernel_rfl))
        replace u4 : vs 4 = .slice (some ⟨b2, 0, none⟩) N c2 := u4
        go_simp
        simp only [evOf_tmp, evOf_const, u4]
        go_simp
        exact bc_pure hC (by first | exact Grow.refl _ | exact .inr (Grow.refl _)) (show tV (.slice (some ⟨b2, 0, none⟩) N c2) _ w from rfl)
      · refine obJ_on rfl ?_
        intro kk9 w vs hkk9 hC hL
        have u4 := hL 4 (List.mem_of_elem_eq_true (by kernel_rfl))
        replace u4 : vs 4 = .slice (some ⟨b2, 0, none⟩) N c2 := u4
        go_simp
        simp only [evOf_tmp, evOf_const, u4]
        go_simp
        exact bc_pure hC (by first | exact Grow.refl _ | exact .inr (Grow.refl _)) (show tV (.slice (some ⟨b2, 0, none⟩) N c2) _ w from rfl)
      · refine obJ_on rfl ?_
        intro kk9 w vs hkk9 hC hL
        have u53 := hL 53 (List.mem_of_elem_eq_true (by kernel_rfl))
        replace u53 : vs 53 = .slice (some ⟨b2, 0, none⟩) N c2 := u53
        go_simp
        simp only [evOf_tmp, evOf_const, u53]
        go_simp
        exact bc_pure hC (by first | exact Grow.refl _ | exact .inr (Grow.refl _)) (show tV (.int .i64 N) _ w from rfl)
      · refine obJ_on rfl ?_
        intro kk9 w vs hkk9 hC hL
        have u54 := hL 54 (List.mem_of_elem_eq_true (by kernel_rfl))
        replace u54 : vs 54 = .int .i64 N := u54
        go_simp
        simp only [evOf_tmp, evOf_const, u54]
        go_simp
        rw [HWR.out]
        exact bc_pure hC (by first | exact Grow.refl _ | exact .inr (Grow.refl _)) (show tV (.int .i64 ((N : Int) - 1)) _ w from rfl)
      · refine obJ_on rfl ?_
        intro kk9 w vs hkk9 hC hL
        have u52 := hL 52 (List.mem_of_elem_eq_true (by kernel_rfl))
        replace u52 : vs 52 = .slice (some ⟨b2, 0, none⟩) N c2 := u52
        have u55 := hL 55 (List.mem_of_elem_eq_true (by kernel_rfl))
        replace u55 : vs 55 = .int .i64 ((N : Int) - 1) := u55
        go_simp
        simp only [evOf_tmp, evOf_const, u52, u55]
        go_simp
        exact bc_pure hC (by first | exact Grow.refl _ | exact .inr (Grow.refl _)) (show tV (.pointer (some ⟨b2, N - 1, none⟩)) _ w from rfl)
      · refine obJ_on rfl ?_
        intro kk9 w vs hkk9 hC hL
        have u56 := hL 56 (List.mem_of_elem_eq_true (by kernel_rfl))
        replace u56 : vs 56 = .pointer (some ⟨b2, N - 1, none⟩) := u56
        have cc : w.cell? ⟨b2, N - 1, none⟩ = some (.int .i64 z) := by have h9 := Ints.below Y.out hC (N - 1) (by rw [HN.out]; omega); rw [HZ.out, Nat.zero_add] at h9; exact h9
        go_simp
        simp only [evOf_tmp, evOf_const, u56]
        go_simp
        exact bc_pure hC (by first | exact Grow.refl _ | exact .inr (Grow.refl _)) (show tV (.int .i64 z) _ w from rfl)
      · refine obJ_on rfl ?_
        intro kk9 w vs hkk9 hC hL
        have u57 := hL 57 (List.mem_of_elem_eq_true (by kernel_rfl))
        replace u57 : vs 57 = .int .i64 z := u57
        go_simp
        simp only [evOf_tmp, u57]
        go_simp
        exact bc_alloc hC (by first | exact Grow.al _ _ | exact .inr (Grow.al _ _)) (show tN (World.heap wn).size (z) _ (World.alloc w (.cells #[.int .i64 (z)] 3)) from ⟨_, rfl, by rw [World.cell?_alloc_at _ _ _ _ rfl]; rfl⟩)
      · refine obJ_on rfl ?_
        intro kk9 w vs hkk9 hC hL
        have u51 := hL 51 (List.mem_of_elem_eq_true (by kernel_rfl))
        replace u51 : tO (World.heap wn).size (ys) (vs 51) w := u51
        have u58 := hL 58 (List.mem_of_elem_eq_true (by kernel_rfl))
        replace u58 : tN (World.heap wn).size (z) (vs 58) w := u58
        obtain ⟨h, u58, hc⟩ := u58
        exact bc_append_own (xs := [z]) (.tmp 51) (.tmp 58) rfl hC rfl u51 u58 (Ints.cells (ints_one hc)) (by simp; have := HN.out; omega) (fun w' => .inl rfl) (fun v w' h d hd => by cases hd; exact h)
      · refine obJ_on rfl ?_
        intro kk9 w vs hkk9 hC hL
        have u48 := hL 48 (List.mem_of_elem_eq_true (by kernel_rfl))
        replace u48 : vs 48 = .slice (some ⟨b, off, none⟩) xs.length cp := u48
        have u59 := hL 59 (List.mem_of_elem_eq_true (by kernel_rfl))
        replace u59 : tO (World.heap wn).size (ys ++ [z]) (vs 59) w := u59
        obtain ⟨bb59, cc59, e59, -, -, I59, -, -⟩ := Own.some u59.1 u59.2
        go_simp
        simp only [evOf_tmp, evOf_const, u48, e59]
        exact bc_call hC (Calls.mono (iVisitsOk_f b off cp xs (some ⟨bb59, 0, none⟩) _ cc59 (ys ++ [z]) _ (Ints.below X.out hC) (.inr ⟨bb59, 0, rfl, I59⟩) rfl (by omega) (by rw [HA.out]; omega) HV2.out) (fun e w2 hh => (by first | exact hh | exact Ro.mk hh | exact St.mk hh : Mk _ _ e w2))) (fun w' h => by first | exact h | exact .inr h) (fun w' => (show tV (.bool false) _ w' from rfl))
      · refine obJ_on rfl ?_
        intro kk9 w vs hkk9 hC hL
        have u60 := hL 60 (List.mem_of_elem_eq_true (by kernel_rfl))
        replace u60 : vs 60 = .bool false := u60
        go_simp
        simp only [evOf_tmp, evOf_const, u60]
        go_simp
        exact bc_pure hC (by first | exact Grow.refl _ | exact .inr (Grow.refl _)) (show tV (.bool true) _ w from rfl)
      · refine obJ_on rfl ?_
        intro kk9 w vs hkk9 hC hL
        have u47 := hL 47 (List.mem_of_elem_eq_true (by kernel_rfl))
        replace u47 : vs 47 = .bool true := u47
        have u61 := hL 61 (List.mem_of_elem_eq_true (by kernel_rfl))
        replace u61 : vs 61 = .bool true := u61
        go_simp
        simp only [evOf_tmp, evOf_const, u47, u61]
        go_simp
        exact bc_pure hC (by first | exact Grow.refl _ | exact .inr (Grow.refl _)) (show tV (.bool true) _ w from rfl)
      · refine obJ_on rfl ?_
        intro kk9 w vs hkk9 hC hL
        have u62 := hL 62 (List.mem_of_elem_eq_true (by kernel_rfl))
        replace u62 : vs 62 = .bool true := u62
        go_simp
        simp only [evOf_tmp, evOf_const, u62]
        go_simp
        exact bc_pure hC (by first | exact Grow.refl _ | exact .inr (Grow.refl _)) (show tV (.bool true) _ w from rfl)
    intro vs wq hq hT
    have t2 : vs 2 = .bool true := hT 2 (by kernel_rfl)
    simp (decide := true) only [over, Nat.reduceAdd, if_true, if_false]
    rw [t2]
    clear hT t2
    have Tn := Lib.hid (below_next T.out hq)
    have Xn := Lib.hid (Ints.below X.out hq)
    have Yn := Lib.hid (Ints.below Y.out hq)
    clear hq
    clear T X Y
    have T := Tn
    have X := Xn
    have Y := Yn
    clear Tn Xn Yn
    obtain ⟨wn, hwq⟩ : ∃ w0, w0 = wq := ⟨_, rfl⟩
    subst hwq
    go_wp2_with fail
    go_ret
    first | exact LawOk.mk T.out | exact LawOk.mk (Below.dr T.out _)
theorem lastOf_take {x : Int} {ys : List Int} {h : Nat} (hh : h < ys.length) : lastOf x (ys.take (h + 1)) = nth ys h := by
  rw [List.take_add_one, List.getElem?_eq_getElem hh]
  show lastOf x (ys.take h ++ [ys[h]]) = _
  rw [lastOf_app, nth_eq hh]
theorem okl_take {xs ys : List Int} (h : OkL xs ys) (k : Nat) : OkL xs (ys.take k) := fun y hy => h y (List.mem_of_mem_take hy)
theorem okl_drop {xs ys : List Int} (h : OkL xs ys) (k : Nat) : OkL xs (ys.drop k) := fun y hy => h y (List.mem_of_mem_drop hy)
theorem lastOf_ok {xs : List Int} : ∀ {ys : List Int} {a : Int}, okF xs a → OkL xs ys → okF xs (lastOf a ys)
  | [], a, ha, _ => ha
  | y :: l, a, _, h => lastOf_ok (ys := l) (h y (by simp)) fun z hz => h z (by simp [hz])
/-- What the law of TourWay asks of its parts. -/
theorem tw_parts {xs ys : List Int} {x : Int} (hw : FV xs ∧ okF xs x ∧ OkL xs ys) (h : Nat) : tw xs x (ys.take h) + tw xs (lastOf x (ys.take h)) (ys.drop h) = tw xs x ys ∧ 0 ≤ tw xs x (ys.take h) ∧ 0 ≤ tw xs (lastOf x (ys.take h)) (ys.drop h) := by
  obtain ⟨h1, h2, h3⟩ := hw
  have o1 := okl_take h3 h
  have o2 := okl_drop h3 h
  rw [tw_ok h1 h2 o1, tw_ok h1 (lastOf_ok h2 o1) o2, tw_ok h1 h2 h3]
  have := wsum_app xs (ys.take h) (ys.drop h) x
  rw [List.take_append_drop] at this
  exact ⟨this.symm, wsum_ge _ _ _, wsum_ge _ _ _⟩
theorem tw_top {xs ys : List Int} {x : Int} : tw xs x ys ≤ 60 * ys.length := by
  rcases tw_cases xs x ys with ⟨e, -⟩ | ⟨-, e, h1, h2, h3⟩
  · rw [e]; omega
  · rw [e]; exact wsum_top h1 ys x h2 h3
set_option maxHeartbeats 4000000 in
theorem TourWay_w (a : Option Addr) (n cap : Nat) (w : World) (hb : Byt w a n) (hn : n ≤ cap) (hcap : cap ≤ maxLen) :
    Calls Try.prog 4 #[.slice a n cap] w (LawOk w) := by
  have hcap' := hcap
  unfold maxLen at hcap'
  by_cases bign : 1048576 < n
  · go_enter Try.func4, Try.ntmps4
    go_wp2_with fail
    go_ret
    exact LawOk.mk (Below.refl _ _)
  go_enter Try.func4, Try.ntmps4
  go_wp2_with fail
  refine (DrawTourWay_c a n cap _ hb hn hcap).mono ?_
  rintro e wn ⟨b, off, cp, xs, x, b2, c2, ys, rfl, hx, ⟨hx0, hx1⟩, hy, hyc, hym, hI, hI2, hB⟩
  have T : Hid _ := hB
  have X : Hid _ := hI
  have Y : Hid _ := hI2
  clear hB hb hI hI2
  have hym' := hym
  unfold maxLen at hym'
  obtain ⟨N, hN⟩ : ∃ N, ys.length = N := ⟨_, rfl⟩
  rw [hN] at hy hyc
  rw [hN]
  have HN := Lib.hid hN
  clear hN
  have htop := tw_top (xs := xs) (x := x) (ys := ys)
  rw [HN.out] at htop
  have hcs := tw_cases xs x ys
  have KP := tw_parts (xs := xs) (x := x) (ys := ys)
  obtain ⟨W, hW⟩ : ∃ W, tw xs x ys = W := ⟨_, rfl⟩
  have KI := fun w' (h1 : Ints w' b off xs) (h2 : Sl w' (some ⟨b2, 0, none⟩) ys) => iTourWay_c b off cp xs x (some ⟨b2, 0, none⟩) N c2 ys w' h1 h2 HN.out (by omega) (by omega)
  have KS := fun w' (h1 : Ints w' b off xs) (h2 : Sl w' (some ⟨b2, 0, none⟩) ys) => sTourWay_c b off cp xs x (some ⟨b2, 0, none⟩) N c2 ys w' h1 h2 HN.out (by omega) (by omega)
  rw [hW] at KI KS hcs KP htop
  have HKI := Lib.hid KI
  have HKS := Lib.hid KS
  have HW := Lib.hid hW
  clear KI KS hW
  have hne : (W != W) = false := by simp
  go_wp2_with fail
  refine Calls.mono (HKI.out _ X.out (.inr ⟨b2, 0, rfl, Y.out⟩)) ?_
  intro e wn hh
  obtain ⟨he, hb⟩ := (by first | exact hh | exact Ro.mk hh | exact St.mk hh | exact LawOk.mk' hh : Mk _ _ e wn)
  subst he
  have Tn : Hid (Below w.heap.size w wn) := below_next T.out hb
  have Xn : Hid _ := Ints.below X.out hb
  have Yn : Hid _ := Ints.below Y.out hb
  clear hb hh
  clear T X Y
  have T := Tn
  have X := Xn
  have Y := Yn
  clear Tn Xn Yn
  go_wp2_with fail
  refine Calls.mono (HKS.out _ X.out (.inr ⟨b2, 0, rfl, Y.out⟩)) ?_
  intro e wn hh
  obtain ⟨he, hb⟩ := (by first | exact hh | exact Ro.mk hh | exact St.mk hh | exact LawOk.mk' hh : Mk _ _ e wn)
  subst he
  have Tn : Hid (Below w.heap.size w wn) := below_next T.out hb
  have Xn : Hid _ := Ints.below X.out hb
  have Yn : Hid _ := Ints.below Y.out hb
  clear hb hh
  clear T X Y
  have T := Tn
  have X := Xn
  have Y := Yn
  clear Tn Xn Yn
  clear HKI HKS hne
  rcases hcs with ⟨rfl, -⟩ | ⟨h0, hws, hok⟩
  · clear KP
    go_wp2_with fail
    refine Calls.mono (alive_c _) ?_
    intro e wn hh
    obtain ⟨he, hb⟩ := (by first | exact hh | exact Ro.mk hh | exact St.mk hh | exact LawOk.mk' hh : Mk _ _ e wn)
    subst he
    have Tn : Hid (Below w.heap.size w wn) := below_next T.out hb
    have Xn : Hid _ := Ints.below X.out hb
    have Yn : Hid _ := Ints.below Y.out hb
    clear hb hh
    clear T X Y
    have T := Tn
    have X := Xn
    have Y := Yn
    clear Tn Xn Yn
    go_wp2_with fail
    go_ret
    first | exact LawOk.mk T.out | exact LawOk.mk (Below.dr T.out _)
  have hge : ¬ W < 0 := by omega
  by_cases hN0 : N = 0
  · have hys : ys = [] := List.length_eq_zero_iff.1 (by rw [HN.out]; exact hN0)
    obtain rfl : W = 0 := by rw [hws, hys]; rfl
    subst hN0
    clear KP hws hok hys
    go_wp2_with fail
    go_ret
    first | exact LawOk.mk T.out | exact LawOk.mk (Below.dr T.out _)
  have hNz : ((N : Int) == 0) = false := beq_false_of_ne (by omega)
  obtain ⟨h, hh⟩ : ∃ h, N / 2 = h := ⟨_, rfl⟩
  have hhI : (N : Int) / 2 = (h : Int) := by omega
  have hhN : h < N := by omega
  have hhl : h ≤ N := by omega
  have hhc : h ≤ c2 := by omega
  have hcne : ¬ c2 = h := by omega
  have hh0 : (0 : Int) ≤ h := by omega
  obtain ⟨e1, e2, e3⟩ := KP hok h
  have t1 := tw_top (xs := xs) (x := x) (ys := ys.take h)
  obtain ⟨A, hA⟩ : ∃ A, lastOf x (ys.take h) = A := ⟨_, rfl⟩
  rw [hA] at e1 e3
  have t2 := tw_top (xs := xs) (x := A) (ys := ys.drop h)
  have l1 : (ys.take h).length = h := by rw [List.length_take, HN.out]; omega
  have l2 : (ys.drop h).length = N - h := by rw [List.length_drop, HN.out]
  rw [l1] at t1
  rw [l2] at t2
  have KT1 := fun w' (h1 : Ints w' b off xs) (h2 : Sl w' (some ⟨b2, 0, none⟩) (ys.take h)) => iTourWay_c b off cp xs x (some ⟨b2, 0, none⟩) h c2 (ys.take h) w' h1 h2 l1 (by omega) (by omega)
  have KT2 := fun w' (h1 : Ints w' b off xs) (h2 : Sl w' (some ⟨b2, h, none⟩) (ys.drop h)) => iTourWay_c b off cp xs A (some ⟨b2, h, none⟩) (N - h) (c2 - h) (ys.drop h) w' h1 h2 l2 (by omega) (by omega)
  obtain ⟨P, hP⟩ : ∃ P, tw xs x (ys.take h) = P := ⟨_, rfl⟩
  obtain ⟨Q, hQ⟩ : ∃ Q, tw xs A (ys.drop h) = Q := ⟨_, rfl⟩
  rw [hP] at e1 e2 t1 KT1
  rw [hQ] at e1 e3 t2 KT2
  obtain ⟨z, hz⟩ : ∃ z, nth ys (N - 1) = z := ⟨_, rfl⟩
  have hzm : z ∈ ys := by rw [← hz]; exact nth_in (by rw [HN.out]; omega)
  obtain ⟨F, hF⟩ : ∃ F, fw xs x z = F := ⟨_, rfl⟩
  have hFW : F ≤ W := by
    rw [← hF, fw_hg hok.1 hok.2.1 (hok.2.2 z hzm), hws]
    exact wsum_reach xs ys x z hzm
  have KF := fun w' (h1 : Ints w' b off xs) => iFloorWay_c b off cp xs x z w' h1 (by unfold maxLen; omega)
  rw [hF] at KF
  have HK1 := Lib.hid KT1
  have HK2 := Lib.hid KT2
  have HKF := Lib.hid KF
  have HA := Lib.hid hA
  have HZ := Lib.hid hz
  have HL1 := Lib.hid l1
  have HL2 := Lib.hid l2
  have hPQ : ((P + Q : Int) == W) = true := by simp [e1]
  have HS := Lib.hid (show IntKind.i64.wrap (P + Q) = P + Q from by rw [IntKind.wrap_i64]; omega)
  have HNW := Lib.hid (show IntKind.i64.wrap ((N : Int) - 1) = (N : Int) - 1 from by rw [IntKind.wrap_i64]; omega)
  have hNm : (N : Int) - 1 < N := by omega
  have hN1 : (1 : Int) ≤ N := by omega
  clear KT1 KT2 KF hP hQ hz hzm hF hA l1 l2 KP hws hok e1 t1 t2 htop hh
  by_cases hz0 : h = 0
  · have HA0 := Lib.hid (show A = x from by rw [← HA.out, hz0]; rfl)
    have hng : ¬ (0 : Int) < h := by omega
    have hng' : ¬ 0 < h := by omega
    clear hz0
    rw [HA0.out] at HK2
    go_wp2_with fail
    refine wp_region_growsG [51, 52, 53, 54, 55, 56, 57, 58, 59, 60, 61, 62, 63, 64, 65, 66, 67, 68, 69, 70, 71, 72, 73, 74, 75, 76, 77, 78, 2] [2] [] [] [(66, true)] [] [(3, tV (.slice (some ⟨b, off, none⟩) xs.length cp)), (4, tV (.int .i64 x)), (5, tV (.slice (some ⟨b2, 0, none⟩) N c2)), (6, tV (.int .i64 W)), (7, tV (.int .i64 h)), (8, tV (.int .i64 x))]
      [(51, tV (.slice (some ⟨b, off, none⟩) xs.length cp)), (52, tV (.int .i64 (x))), (53, tV (.slice (some ⟨b2, 0, none⟩) N c2)), (54, tV (.int .i64 (h))), (55, tV (.slice (some ⟨b2, 0, none⟩) h c2)), (56, tV (.int .i64 (P))), (57, tV (.slice (some ⟨b, off, none⟩) xs.length cp)), (58, tV (.int .i64 (x))), (59, tV (.slice (some ⟨b2, 0, none⟩) N c2)), (60, tV (.int .i64 (h))), (61, tV (.slice (some ⟨b2, h, none⟩) (N - h) (c2 - h))), (62, tV (.int .i64 (Q))), (63, tV (.int .i64 (P + Q))), (64, tV (.int .i64 (W))), (65, tV (.bool true)), (66, tV (.bool true)), (67, tV (.slice (some ⟨b, off, none⟩) xs.length cp)), (68, tV (.int .i64 (x))), (69, tV (.slice (some ⟨b2, 0, none⟩) N c2)), (70, tV (.slice (some ⟨b2, 0, none⟩) N c2)), (71, tV (.int .i64 (N))), (72, tV (.int .i64 ((N : Int) - 1))), (73, tV (.pointer (some ⟨b2, N - 1, none⟩))), (74, tV (.int .i64 (z))), (75, tV (.int .i64 (F))), (76, tV (.int .i64 (W))), (77, tV (.bool true)), (78, tV (.bool true)), (2, tV (.bool true))]
      (by kernel_rfl) (by kernel_rfl) (by kernel_rfl) (by kernel_rfl) ⟨fun v w h => h, trivial⟩ (by kernel_rfl) (by kernel_rfl) ⟨StW.g (StW.V _), StW.g (StW.V _), StW.g (StW.V _), StW.g (StW.V _), StW.g (StW.V _), StW.g (StW.V _), StW.g (StW.V _), StW.g (StW.V _), StW.g (StW.V _), StW.g (StW.V _), StW.g (StW.V _), StW.g (StW.V _), StW.g (StW.V _), StW.g (StW.V _), StW.g (StW.V _), StW.g (StW.V _), StW.g (StW.V _), StW.g (StW.V _), StW.g (StW.V _), StW.g (StW.V _), StW.g (StW.V _), StW.g (StW.V _), StW.g (StW.V _), StW.g (StW.V _), StW.g (StW.V _), StW.g (StW.V _), StW.g (StW.V _), StW.g (StW.V _), StW.g (StW.V _), StW.g (StW.V _), StW.g (StW.V _), StW.g (StW.V _), StW.g (StW.V _), StW.g (StW.V _), StW.g (StW.V _), trivial⟩ ⟨.inr (StW.V _), .inr (StW.V _), .inr (StW.V _), .inr (StW.V _), .inr (StW.V _), .inr (StW.V _), .inr (StW.V _), .inr (StW.V _), .inr (StW.V _), .inr (StW.V _), .inr (StW.V _), .inr (StW.V _), .inr (StW.V _), .inr (StW.V _), .inr (StW.V _), .inr (StW.V _), .inr (StW.V _), .inr (StW.V _), .inr (StW.V _), .inr (StW.V _), .inr (StW.V _), .inr (StW.V _), .inr (StW.V _), .inr (StW.V _), .inr (StW.V _), .inr (StW.V _), .inr (StW.V _), .inr (StW.V _), .inr (StW.V _), .inr (StW.V _), .inr (StW.V _), .inr (StW.V _), .inr (StW.V _), .inr (StW.V _), .inr (StW.V _), trivial⟩ (by kernel_rfl) ⟨rfl, rfl, rfl, rfl, rfl, rfl, trivial⟩ ?hobT0 ?_
    case hobT0 =>
      refine ⟨?_, ?_, ?_, ?_, ?_, ?_, ?_, ?_, ?_, ?_, ?_, ?_, ?_, ?_, ?_, ?_, ?_, ?_, ?_, ?_, ?_, ?_, ?_, ?_, ?_, ?_, ?_, ?_, ?_, trivial⟩
      · refine obJ_on rfl ?_
        intro kk9 w vs hkk9 hC hL
        have u3 := hL 3 (List.mem_of_elem_eq_true (by kernel_rfl))
        replace u3 : vs 3 = .slice (some ⟨b, off, none⟩) xs.length cp := u3
        go_simp
        simp only [evOf_tmp, evOf_const, u3]
        go_simp
        exact bc_pure hC (by first | exact Grow.refl _ | exact .inr (Grow.refl _)) (show tV (.slice (some ⟨b, off, none⟩) xs.length cp) _ w from rfl)
      · refine obJ_on rfl ?_
        intro kk9 w vs hkk9 hC hL
        have u4 := hL 4 (List.mem_of_elem_eq_true (by kernel_rfl))
        replace u4 : vs 4 = .int .i64 x := u4
        go_simp
        simp only [evOf_tmp, evOf_const, u4]
        go_simp
        exact bc_pure hC (by first | exact Grow.refl _ | exact .inr (Grow.refl _)) (show tV (.int .i64 (x)) _ w from rfl)
      · refine obJ_on rfl ?_
        intro kk9 w vs hkk9 hC hL
        have u5 := hL 5 (List.mem_of_elem_eq_true (by kernel_rfl))
        replace u5 : vs 5 = .slice (some ⟨b2, 0, none⟩) N c2 := u5
        go_simp
        simp only [evOf_tmp, evOf_const, u5]
        go_simp
        exact bc_pure hC (by first | exact Grow.refl _ | exact .inr (Grow.refl _)) (show tV (.slice (some ⟨b2, 0, none⟩) N c2) _ w from rfl)
      · refine obJ_on rfl ?_
        intro kk9 w vs hkk9 hC hL
        have u7 := hL 7 (List.mem_of_elem_eq_true (by kernel_rfl))
        replace u7 : vs 7 = .int .i64 h := u7
        go_simp
        simp only [evOf_tmp, evOf_const, u7]
        go_simp
        exact bc_pure hC (by first | exact Grow.refl _ | exact .inr (Grow.refl _)) (show tV (.int .i64 (h)) _ w from rfl)
      · refine obJ_on rfl ?_
        intro kk9 w vs hkk9 hC hL
        have u53 := hL 53 (List.mem_of_elem_eq_true (by kernel_rfl))
        replace u53 : vs 53 = .slice (some ⟨b2, 0, none⟩) N c2 := u53
        have u54 := hL 54 (List.mem_of_elem_eq_true (by kernel_rfl))
        replace u54 : vs 54 = .int .i64 (h) := u54
        go_simp
        simp only [evOf_tmp, evOf_const, u53, u54]
        go_simp
        exact bc_pure hC (by first | exact Grow.refl _ | exact .inr (Grow.refl _)) (show tV (.slice (some ⟨b2, 0, none⟩) h c2) _ w from rfl)
      · refine obJ_on rfl ?_
        intro kk9 w vs hkk9 hC hL
        have u51 := hL 51 (List.mem_of_elem_eq_true (by kernel_rfl))
        replace u51 : vs 51 = .slice (some ⟨b, off, none⟩) xs.length cp := u51
        have u52 := hL 52 (List.mem_of_elem_eq_true (by kernel_rfl))
        replace u52 : vs 52 = .int .i64 (x) := u52
        have u55 := hL 55 (List.mem_of_elem_eq_true (by kernel_rfl))
        replace u55 : vs 55 = .slice (some ⟨b2, 0, none⟩) h c2 := u55
        go_simp
        simp only [evOf_tmp, evOf_const, u51, u52, u55]
        exact bc_call hC (Calls.mono (HK1.out _ (Ints.below X.out hC) (.inr ⟨b2, 0, rfl, Ints.take (Ints.below Y.out hC) h⟩)) (fun e w2 hh => (by first | exact hh | exact Ro.mk hh | exact St.mk hh : Mk _ _ e w2))) (fun w' h => by first | exact h | exact .inr h) (fun w' => (show tV (.int .i64 (P)) _ w' from rfl))
      · refine obJ_on rfl ?_
        intro kk9 w vs hkk9 hC hL
        have u3 := hL 3 (List.mem_of_elem_eq_true (by kernel_rfl))
        replace u3 : vs 3 = .slice (some ⟨b, off, none⟩) xs.length cp := u3
        go_simp
        simp only [evOf_tmp, evOf_const, u3]
        go_simp
        exact bc_pure hC (by first | exact Grow.refl _ | exact .inr (Grow.refl _)) (show tV (.slice (some ⟨b, off, none⟩) xs.length cp) _ w from rfl)
      · refine obJ_on rfl ?_
        intro kk9 w vs hkk9 hC hL
        have u8 := hL 8 (List.mem_of_elem_eq_true (by kernel_rfl))
        replace u8 : vs 8 = .int .i64 x := u8
        go_simp
        simp only [evOf_tmp, evOf_const, u8]
        go_simp
        exact bc_pure hC (by first | exact Grow.refl _ | exact .inr (Grow.refl _)) (show tV (.int .i64 (x)) _ w from rfl)
      · refine obJ_on rfl ?_
        intro kk9 w vs hkk9 hC hL
        have u5 := hL 5 (List.mem_of_elem_eq_true (by kernel_rfl))
        replace u5 : vs 5 = .slice (some ⟨b2, 0, none⟩) N c2 := u5
        go_simp
        simp only [evOf_tmp, evOf_const, u5]
        go_simp
        exact bc_pure hC (by first | exact Grow.refl _ | exact .inr (Grow.refl _)) (show tV (.slice (some ⟨b2, 0, none⟩) N c2) _ w from rfl)
      · refine obJ_on rfl ?_
        intro kk9 w vs hkk9 hC hL
        have u7 := hL 7 (List.mem_of_elem_eq_true (by kernel_rfl))
        replace u7 : vs 7 = .int .i64 h := u7
        go_simp
        simp only [evOf_tmp, evOf_const, u7]
        go_simp
        exact bc_pure hC (by first | exact Grow.refl _ | exact .inr (Grow.refl _)) (show tV (.int .i64 (h)) _ w from rfl)
      · refine obJ_on rfl ?_
        intro kk9 w vs hkk9 hC hL
        have u59 := hL 59 (List.mem_of_elem_eq_true (by kernel_rfl))
        replace u59 : vs 59 = .slice (some ⟨b2, 0, none⟩) N c2 := u59
        have u60 := hL 60 (List.mem_of_elem_eq_true (by kernel_rfl))
        replace u60 : vs 60 = .int .i64 (h) := u60
        go_simp
        simp only [evOf_tmp, evOf_const, u59, u60]
        go_simp
        exact bc_pure hC (by first | exact Grow.refl _ | exact .inr (Grow.refl _)) (show tV (.slice (some ⟨b2, h, none⟩) (N - h) (c2 - h)) _ w from rfl)
      · refine obJ_on rfl ?_
        intro kk9 w vs hkk9 hC hL
        have u57 := hL 57 (List.mem_of_elem_eq_true (by kernel_rfl))
        replace u57 : vs 57 = .slice (some ⟨b, off, none⟩) xs.length cp := u57
        have u58 := hL 58 (List.mem_of_elem_eq_true (by kernel_rfl))
        replace u58 : vs 58 = .int .i64 (x) := u58
        have u61 := hL 61 (List.mem_of_elem_eq_true (by kernel_rfl))
        replace u61 : vs 61 = .slice (some ⟨b2, h, none⟩) (N - h) (c2 - h) := u61
        go_simp
        simp only [evOf_tmp, evOf_const, u57, u58, u61]
        exact bc_call hC (Calls.mono (HK2.out _ (Ints.below X.out hC) (.inr ⟨b2, h, rfl, Ints.drop0 (Ints.below Y.out hC) h⟩)) (fun e w2 hh => (by first | exact hh | exact Ro.mk hh | exact St.mk hh : Mk _ _ e w2))) (fun w' h => by first | exact h | exact .inr h) (fun w' => (show tV (.int .i64 (Q)) _ w' from rfl))
      · refine obJ_on rfl ?_
        intro kk9 w vs hkk9 hC hL
        have u56 := hL 56 (List.mem_of_elem_eq_true (by kernel_rfl))
        replace u56 : vs 56 = .int .i64 (P) := u56
        have u62 := hL 62 (List.mem_of_elem_eq_true (by kernel_rfl))
        replace u62 : vs 62 = .int .i64 (Q) := u62
        go_simp
        simp only [evOf_tmp, evOf_const, u56, u62]
        go_simp
        rw [HS.out]
        exact bc_pure hC (by first | exact Grow.refl _ | exact .inr (Grow.refl _)) (show tV (.int .i64 (P + Q)) _ w from rfl)
      · refine obJ_on rfl ?_
        intro kk9 w vs hkk9 hC hL
        have u6 := hL 6 (List.mem_of_elem_eq_true (by kernel_rfl))
        replace u6 : vs 6 = .int .i64 W := u6
        go_simp
        simp only [evOf_tmp, evOf_const, u6]
        go_simp
        exact bc_pure hC (by first | exact Grow.refl _ | exact .inr (Grow.refl _)) (show tV (.int .i64 (W)) _ w from rfl)
      · refine obJ_on rfl ?_
        intro kk9 w vs hkk9 hC hL
        have u63 := hL 63 (List.mem_of_elem_eq_true (by kernel_rfl))
        replace u63 : vs 63 = .int .i64 (P + Q) := u63
        have u64 := hL 64 (List.mem_of_elem_eq_true (by kernel_rfl))
        replace u64 : vs 64 = .int .i64 (W) := u64
        go_simp
        simp only [evOf_tmp, evOf_const, u63, u64]
        go_simp
        exact bc_pure hC (by first | exact Grow.refl _ | exact .inr (Grow.refl _)) (show tV (.bool true) _ w from rfl)
      · refine obJ_on rfl ?_
        intro kk9 w vs hkk9 hC hL
        have u65 := hL 65 (List.mem_of_elem_eq_true (by kernel_rfl))
        replace u65 : vs 65 = .bool true := u65
        go_simp
        simp only [evOf_tmp, evOf_const, u65]
        go_simp
        exact bc_pure hC (by first | exact Grow.refl _ | exact .inr (Grow.refl _)) (show tV (.bool true) _ w from rfl)
      · refine obJ_on rfl ?_
        intro kk9 w vs hkk9 hC hL
        have u3 := hL 3 (List.mem_of_elem_eq_true (by kernel_rfl))
        replace u3 : vs 3 = .slice (some ⟨b, off, none⟩) xs.length cp := u3
        go_simp
        simp only [evOf_tmp, evOf_const, u3]
        go_simp
        exact bc_pure hC (by first | exact Grow.refl _ | exact .inr (Grow.refl _)) (show tV (.slice (some ⟨b, off, none⟩) xs.length cp) _ w from rfl)
      · refine obJ_on rfl ?_
        intro kk9 w vs hkk9 hC hL
        have u4 := hL 4 (List.mem_of_elem_eq_true (by kernel_rfl))
        replace u4 : vs 4 = .int .i64 x := u4
        go_simp
        simp only [evOf_tmp, evOf_const, u4]
        go_simp
        exact bc_pure hC (by first | exact Grow.refl _ | exact .inr (Grow.refl _)) (show tV (.int .i64 (x)) _ w from rfl)
      · refine obJ_on rfl ?_
        intro kk9 w vs hkk9 hC hL
        have u5 := hL 5 (List.mem_of_elem_eq_true (by kernel_rfl))
        replace u5 : vs 5 = .slice (some ⟨b2, 0, none⟩) N c2 := u5
        go_simp
        simp only [evOf_tmp, evOf_const, u5]
        go_simp
        exact bc_pure hC (by first | exact Grow.refl _ | exact .inr (Grow.refl _)) (show tV (.slice (some ⟨b2, 0, none⟩) N c2) _ w from rfl)
      · refine obJ_on rfl ?_
        intro kk9 w vs hkk9 hC hL
        have u5 := hL 5 (List.mem_of_elem_eq_true (by kernel_rfl))
        replace u5 : vs 5 = .slice (some ⟨b2, 0, none⟩) N c2 := u5
        go_simp
        simp only [evOf_tmp, evOf_const, u5]
        go_simp
        exact bc_pure hC (by first | exact Grow.refl _ | exact .inr (Grow.refl _)) (show tV (.slice (some ⟨b2, 0, none⟩) N c2) _ w from rfl)
      · refine obJ_on rfl ?_
        intro kk9 w vs hkk9 hC hL
        have u70 := hL 70 (List.mem_of_elem_eq_true (by kernel_rfl))
        replace u70 : vs 70 = .slice (some ⟨b2, 0, none⟩) N c2 := u70
        go_simp
        simp only [evOf_tmp, evOf_const, u70]
        go_simp
        exact bc_pure hC (by first | exact Grow.refl _ | exact .inr (Grow.refl _)) (show tV (.int .i64 (N)) _ w from rfl)
      · refine obJ_on rfl ?_
        intro kk9 w vs hkk9 hC hL
        have u71 := hL 71 (List.mem_of_elem_eq_true (by kernel_rfl))
        replace u71 : vs 71 = .int .i64 (N) := u71
        go_simp
        simp only [evOf_tmp, evOf_const, u71]
        go_simp
        rw [HNW.out]
        exact bc_pure hC (by first | exact Grow.refl _ | exact .inr (Grow.refl _)) (show tV (.int .i64 ((N : Int) - 1)) _ w from rfl)
      · refine obJ_on rfl ?_
        intro kk9 w vs hkk9 hC hL
        have u69 := hL 69 (List.mem_of_elem_eq_true (by kernel_rfl))
        replace u69 : vs 69 = .slice (some ⟨b2, 0, none⟩) N c2 := u69
        have u72 := hL 72 (List.mem_of_elem_eq_true (by kernel_rfl))
        replace u72 : vs 72 = .int .i64 ((N : Int) - 1) := u72
        go_simp
        simp only [evOf_tmp, evOf_const, u69, u72]
        go_simp
        exact bc_pure hC (by first | exact Grow.refl _ | exact .inr (Grow.refl _)) (show tV (.pointer (some ⟨b2, N - 1, none⟩)) _ w from rfl)
      · refine obJ_on rfl ?_
        intro kk9 w vs hkk9 hC hL
        have u73 := hL 73 (List.mem_of_elem_eq_true (by kernel_rfl))
        replace u73 : vs 73 = .pointer (some ⟨b2, N - 1, none⟩) := u73
        have cc : w.cell? ⟨b2, N - 1, none⟩ = some (.int .i64 z) := by have h9 := Ints.below Y.out hC (N - 1) (by rw [HN.out]; omega); rw [HZ.out, Nat.zero_add] at h9; exact h9
        go_simp
        simp only [evOf_tmp, evOf_const, u73]
        go_simp
        exact bc_pure hC (by first | exact Grow.refl _ | exact .inr (Grow.refl _)) (show tV (.int .i64 (z)) _ w from rfl)
      · refine obJ_on rfl ?_
        intro kk9 w vs hkk9 hC hL
        have u67 := hL 67 (List.mem_of_elem_eq_true (by kernel_rfl))
        replace u67 : vs 67 = .slice (some ⟨b, off, none⟩) xs.length cp := u67
        have u68 := hL 68 (List.mem_of_elem_eq_true (by kernel_rfl))
        replace u68 : vs 68 = .int .i64 (x) := u68
        have u74 := hL 74 (List.mem_of_elem_eq_true (by kernel_rfl))
        replace u74 : vs 74 = .int .i64 (z) := u74
        go_simp
        simp only [evOf_tmp, evOf_const, u67, u68, u74]
        exact bc_call hC (Calls.mono (HKF.out _ (Ints.below X.out hC)) (fun e w2 hh => (by first | exact hh | exact Ro.mk hh | exact St.mk hh : Mk _ _ e w2))) (fun w' h => by first | exact h | exact .inr h) (fun w' => (show tV (.int .i64 (F)) _ w' from rfl))
      · refine obJ_on rfl ?_
        intro kk9 w vs hkk9 hC hL
        have u6 := hL 6 (List.mem_of_elem_eq_true (by kernel_rfl))
        replace u6 : vs 6 = .int .i64 W := u6
        go_simp
        simp only [evOf_tmp, evOf_const, u6]
        go_simp
        exact bc_pure hC (by first | exact Grow.refl _ | exact .inr (Grow.refl _)) (show tV (.int .i64 (W)) _ w from rfl)
      · refine obJ_on rfl ?_
        intro kk9 w vs hkk9 hC hL
        have u75 := hL 75 (List.mem_of_elem_eq_true (by kernel_rfl))
        replace u75 : vs 75 = .int .i64 (F) := u75
        have u76 := hL 76 (List.mem_of_elem_eq_true (by kernel_rfl))
        replace u76 : vs 76 = .int .i64 (W) := u76
        go_simp
        simp only [evOf_tmp, evOf_const, u75, u76]
        go_simp
        exact bc_pure hC (by first | exact Grow.refl _ | exact .inr (Grow.refl _)) (show tV (.bool true) _ w from rfl)
      · refine obJ_on rfl ?_
        intro kk9 w vs hkk9 hC hL
        have u66 := hL 66 (List.mem_of_elem_eq_true (by kernel_rfl))
        replace u66 : vs 66 = .bool true := u66
        have u77 := hL 77 (List.mem_of_elem_eq_true (by kernel_rfl))
        replace u77 : vs 77 = .bool true := u77
        go_simp
        simp only [evOf_tmp, evOf_const, u66, u77]
        go_simp
        exact bc_pure hC (by first | exact Grow.refl _ | exact .inr (Grow.refl _)) (show tV (.bool true) _ w from rfl)
      · refine obJ_on rfl ?_
        intro kk9 w vs hkk9 hC hL
        have u78 := hL 78 (List.mem_of_elem_eq_true (by kernel_rfl))
        replace u78 : vs 78 = .bool true := u78
        go_simp
        simp only [evOf_tmp, evOf_const, u78]
        go_simp
        exact bc_pure hC (by first | exact Grow.refl _ | exact .inr (Grow.refl _)) (show tV (.bool true) _ w from rfl)
    intro vs wq hq hT
    have t2 : vs 2 = .bool true := hT 2 (by kernel_rfl)
    simp (decide := true) only [over, Nat.reduceAdd, if_true, if_false]
    rw [t2]
    clear hT t2
    have Tn := Lib.hid (below_next T.out hq)
    have Xn := Lib.hid (Ints.below X.out hq)
    have Yn := Lib.hid (Ints.below Y.out hq)
    clear hq
    clear T X Y
    have T := Tn
    have X := Xn
    have Y := Yn
    clear Tn Xn Yn
    obtain ⟨wn, hwq⟩ : ∃ w0, w0 = wq := ⟨_, rfl⟩
    subst hwq
    go_wp2_with fail
    go_ret
    first | exact LawOk.mk T.out | exact LawOk.mk (Below.dr T.out _)
  · have hA1 : nth ys (h - 1) = A := by
      rw [← HA.out]
      have := lastOf_take (x := x) (ys := ys) (h := h - 1) (by rw [HN.out]; omega)
      rw [show h - 1 + 1 = h by omega] at this
      exact this.symm
    have hy1 : wn.cell? ⟨b2, h - 1, none⟩ = some (.int .i64 A) := by have h9 := Y.out (h - 1) (by rw [HN.out]; omega); rw [hA1, Nat.zero_add] at h9; exact h9
    have hjN : (h : Int) - 1 < N := by omega
    have hpo : (0 : Int) < h := by omega
    have hpn : 0 < h := by omega
    have h1i : (1 : Int) ≤ h := by omega
    clear hz0 hA1
    go_wp2_with fail
    clear hy1
    refine wp_region_growsG [51, 52, 53, 54, 55, 56, 57, 58, 59, 60, 61, 62, 63, 64, 65, 66, 67, 68, 69, 70, 71, 72, 73, 74, 75, 76, 77, 78, 2] [2] [] [] [(66, true)] [] [(3, tV (.slice (some ⟨b, off, none⟩) xs.length cp)), (4, tV (.int .i64 x)), (5, tV (.slice (some ⟨b2, 0, none⟩) N c2)), (6, tV (.int .i64 W)), (7, tV (.int .i64 h)), (8, tV (.int .i64 A))]
      [(51, tV (.slice (some ⟨b, off, none⟩) xs.length cp)), (52, tV (.int .i64 (x))), (53, tV (.slice (some ⟨b2, 0, none⟩) N c2)), (54, tV (.int .i64 (h))), (55, tV (.slice (some ⟨b2, 0, none⟩) h c2)), (56, tV (.int .i64 (P))), (57, tV (.slice (some ⟨b, off, none⟩) xs.length cp)), (58, tV (.int .i64 (A))), (59, tV (.slice (some ⟨b2, 0, none⟩) N c2)), (60, tV (.int .i64 (h))), (61, tV (.slice (some ⟨b2, h, none⟩) (N - h) (c2 - h))), (62, tV (.int .i64 (Q))), (63, tV (.int .i64 (P + Q))), (64, tV (.int .i64 (W))), (65, tV (.bool true)), (66, tV (.bool true)), (67, tV (.slice (some ⟨b, off, none⟩) xs.length cp)), (68, tV (.int .i64 (x))), (69, tV (.slice (some ⟨b2, 0, none⟩) N c2)), (70, tV (.slice (some ⟨b2, 0, none⟩) N c2)), (71, tV (.int .i64 (N))), (72, tV (.int .i64 ((N : Int) - 1))), (73, tV (.pointer (some ⟨b2, N - 1, none⟩))), (74, tV (.int .i64 (z))), (75, tV (.int .i64 (F))), (76, tV (.int .i64 (W))), (77, tV (.bool true)), (78, tV (.bool true)), (2, tV (.bool true))]
      (by kernel_rfl) (by kernel_rfl) (by kernel_rfl) (by kernel_rfl) ⟨fun v w h => h, trivial⟩ (by kernel_rfl) (by kernel_rfl) ⟨StW.g (StW.V _), StW.g (StW.V _), StW.g (StW.V _), StW.g (StW.V _), StW.g (StW.V _), StW.g (StW.V _), StW.g (StW.V _), StW.g (StW.V _), StW.g (StW.V _), StW.g (StW.V _), StW.g (StW.V _), StW.g (StW.V _), StW.g (StW.V _), StW.g (StW.V _), StW.g (StW.V _), StW.g (StW.V _), StW.g (StW.V _), StW.g (StW.V _), StW.g (StW.V _), StW.g (StW.V _), StW.g (StW.V _), StW.g (StW.V _), StW.g (StW.V _), StW.g (StW.V _), StW.g (StW.V _), StW.g (StW.V _), StW.g (StW.V _), StW.g (StW.V _), StW.g (StW.V _), StW.g (StW.V _), StW.g (StW.V _), StW.g (StW.V _), StW.g (StW.V _), StW.g (StW.V _), StW.g (StW.V _), trivial⟩ ⟨.inr (StW.V _), .inr (StW.V _), .inr (StW.V _), .inr (StW.V _), .inr (StW.V _), .inr (StW.V _), .inr (StW.V _), .inr (StW.V _), .inr (StW.V _), .inr (StW.V _), .inr (StW.V _), .inr (StW.V _), .inr (StW.V _), .inr (StW.V _), .inr (StW.V _), .inr (StW.V _), .inr (StW.V _), .inr (StW.V _), .inr (StW.V _), .inr (StW.V _), .inr (StW.V _), .inr (StW.V _), .inr (StW.V _), .inr (StW.V _), .inr (StW.V _), .inr (StW.V _), .inr (StW.V _), .inr (StW.V _), .inr (StW.V _), .inr (StW.V _), .inr (StW.V _), .inr (StW.V _), .inr (StW.V _), .inr (StW.V _), .inr (StW.V _), trivial⟩ (by kernel_rfl) ⟨rfl, rfl, rfl, rfl, rfl, rfl, trivial⟩ ?hobT1 ?_
    case hobT1 =>
      refine ⟨?_, ?_, ?_, ?_, ?_, ?_, ?_, ?_, ?_, ?_, ?_, ?_, ?_, ?_, ?_, ?_, ?_, ?_, ?_, ?_, ?_, ?_, ?_, ?_, ?_, ?_, ?_, ?_, ?_, trivial⟩
      · refine obJ_on rfl ?_
        intro kk9 w vs hkk9 hC hL
        have u3 := hL 3 (List.mem_of_elem_eq_true (by kernel_rfl))
        replace u3 : vs 3 = .slice (some ⟨b, off, none⟩) xs.length cp := u3
        go_simp
        simp only [evOf_tmp, evOf_const, u3]
        go_simp
        exact bc_pure hC (by first | exact Grow.refl _ | exact .inr (Grow.refl _)) (show tV (.slice (some ⟨b, off, none⟩) xs.length cp) _ w from rfl)
      · refine obJ_on rfl ?_
        intro kk9 w vs hkk9 hC hL
        have u4 := hL 4 (List.mem_of_elem_eq_true (by kernel_rfl))
        replace u4 : vs 4 = .int .i64 x := u4
        go_simp
        simp only [evOf_tmp, evOf_const, u4]
        go_simp
        exact bc_pure hC (by first | exact Grow.refl _ | exact .inr (Grow.refl _)) (show tV (.int .i64 (x)) _ w from rfl)
      · refine obJ_on rfl ?_
        intro kk9 w vs hkk9 hC hL
        have u5 := hL 5 (List.mem_of_elem_eq_true (by kernel_rfl))
        replace u5 : vs 5 = .slice (some ⟨b2, 0, none⟩) N c2 := u5
        go_simp
        simp only [evOf_tmp, evOf_const, u5]
        go_simp
        exact bc_pure hC (by first | exact Grow.refl _ | exact .inr (Grow.refl _)) (show tV (.slice (some ⟨b2, 0, none⟩) N c2) _ w from rfl)
      · refine obJ_on rfl ?_
        intro kk9 w vs hkk9 hC hL
        have u7 := hL 7 (List.mem_of_elem_eq_true (by kernel_rfl))
        replace u7 : vs 7 = .int .i64 h := u7
        go_simp
        simp only [evOf_tmp, evOf_const, u7]
        go_simp
        exact bc_pure hC (by first | exact Grow.refl _ | exact .inr (Grow.refl _)) (show tV (.int .i64 (h)) _ w from rfl)
      · refine obJ_on rfl ?_
        intro kk9 w vs hkk9 hC hL
        have u53 := hL 53 (List.mem_of_elem_eq_true (by kernel_rfl))
        replace u53 : vs 53 = .slice (some ⟨b2, 0, none⟩) N c2 := u53
        have u54 := hL 54 (List.mem_of_elem_eq_true (by kernel_rfl))
        replace u54 : vs 54 = .int .i64 (h) := u54
        go_simp
        simp only [evOf_tmp, evOf_const, u53, u54]
        go_simp
        exact bc_pure hC (by first | exact Grow.refl _ | exact .inr (Grow.refl _)) (show tV (.slice (some ⟨b2, 0, none⟩) h c2) _ w from rfl)
      · refine obJ_on rfl ?_
        intro kk9 w vs hkk9 hC hL
        have u51 := hL 51 (List.mem_of_elem_eq_true (by kernel_rfl))
        replace u51 : vs 51 = .slice (some ⟨b, off, none⟩) xs.length cp := u51
        have u52 := hL 52 (List.mem_of_elem_eq_true (by kernel_rfl))
        replace u52 : vs 52 = .int .i64 (x) := u52
        have u55 := hL 55 (List.mem_of_elem_eq_true (by kernel_rfl))
        replace u55 : vs 55 = .slice (some ⟨b2, 0, none⟩) h c2 := u55
        go_simp
        simp only [evOf_tmp, evOf_const, u51, u52, u55]
        exact bc_call hC (Calls.mono (HK1.out _ (Ints.below X.out hC) (.inr ⟨b2, 0, rfl, Ints.take (Ints.below Y.out hC) h⟩)) (fun e w2 hh => (by first | exact hh | exact Ro.mk hh | exact St.mk hh : Mk _ _ e w2))) (fun w' h => by first | exact h | exact .inr h) (fun w' => (show tV (.int .i64 (P)) _ w' from rfl))
      · refine obJ_on rfl ?_
        intro kk9 w vs hkk9 hC hL
        have u3 := hL 3 (List.mem_of_elem_eq_true (by kernel_rfl))
        replace u3 : vs 3 = .slice (some ⟨b, off, none⟩) xs.length cp := u3
        go_simp
        simp only [evOf_tmp, evOf_const, u3]
        go_simp
        exact bc_pure hC (by first | exact Grow.refl _ | exact .inr (Grow.refl _)) (show tV (.slice (some ⟨b, off, none⟩) xs.length cp) _ w from rfl)
      · refine obJ_on rfl ?_
        intro kk9 w vs hkk9 hC hL
        have u8 := hL 8 (List.mem_of_elem_eq_true (by kernel_rfl))
        replace u8 : vs 8 = .int .i64 A := u8
        go_simp
        simp only [evOf_tmp, evOf_const, u8]
        go_simp
        exact bc_pure hC (by first | exact Grow.refl _ | exact .inr (Grow.refl _)) (show tV (.int .i64 (A)) _ w from rfl)
      · refine obJ_on rfl ?_
        intro kk9 w vs hkk9 hC hL
        have u5 := hL 5 (List.mem_of_elem_eq_true (by kernel_rfl))
        replace u5 : vs 5 = .slice (some ⟨b2, 0, none⟩) N c2 := u5
        go_simp
        simp only [evOf_tmp, evOf_const, u5]
        go_simp
        exact bc_pure hC (by first | exact Grow.refl _ | exact .inr (Grow.refl _)) (show tV (.slice (some ⟨b2, 0, none⟩) N c2) _ w from rfl)
      · refine obJ_on rfl ?_
        intro kk9 w vs hkk9 hC hL
        have u7 := hL 7 (List.mem_of_elem_eq_true (by kernel_rfl))
        replace u7 : vs 7 = .int .i64 h := u7
        go_simp
        simp only [evOf_tmp, evOf_const, u7]
        go_simp
        exact bc_pure hC (by first | exact Grow.refl _ | exact .inr (Grow.refl _)) (show tV (.int .i64 (h)) _ w from rfl)
      · refine obJ_on rfl ?_
        intro kk9 w vs hkk9 hC hL
        have u59 := hL 59 (List.mem_of_elem_eq_true (by kernel_rfl))
        replace u59 : vs 59 = .slice (some ⟨b2, 0, none⟩) N c2 := u59
        have u60 := hL 60 (List.mem_of_elem_eq_true (by kernel_rfl))
        replace u60 : vs 60 = .int .i64 (h) := u60
        go_simp
        simp only [evOf_tmp, evOf_const, u59, u60]
        go_simp
        exact bc_pure hC (by first | exact Grow.refl _ | exact .inr (Grow.refl _)) (show tV (.slice (some ⟨b2, h, none⟩) (N - h) (c2 - h)) _ w from rfl)
      · refine obJ_on rfl ?_
        intro kk9 w vs hkk9 hC hL
        have u57 := hL 57 (List.mem_of_elem_eq_true (by kernel_rfl))
        replace u57 : vs 57 = .slice (some ⟨b, off, none⟩) xs.length cp := u57
        have u58 := hL 58 (List.mem_of_elem_eq_true (by kernel_rfl))
        replace u58 : vs 58 = .int .i64 (A) := u58
        have u61 := hL 61 (List.mem_of_elem_eq_true (by kernel_rfl))
        replace u61 : vs 61 = .slice (some ⟨b2, h, none⟩) (N - h) (c2 - h) := u61
        go_simp
        simp only [evOf_tmp, evOf_const, u57, u58, u61]
        exact bc_call hC (Calls.mono (HK2.out _ (Ints.below X.out hC) (.inr ⟨b2, h, rfl, Ints.drop0 (Ints.below Y.out hC) h⟩)) (fun e w2 hh => (by first | exact hh | exact Ro.mk hh | exact St.mk hh : Mk _ _ e w2))) (fun w' h => by first | exact h | exact .inr h) (fun w' => (show tV (.int .i64 (Q)) _ w' from rfl))
      · refine obJ_on rfl ?_
        intro kk9 w vs hkk9 hC hL
        have u56 := hL 56 (List.mem_of_elem_eq_true (by kernel_rfl))
        replace u56 : vs 56 = .int .i64 (P) := u56
        have u62 := hL 62 (List.mem_of_elem_eq_true (by kernel_rfl))
        replace u62 : vs 62 = .int .i64 (Q) := u62
        go_simp
        simp only [evOf_tmp, evOf_const, u56, u62]
        go_simp
        rw [HS.out]
        exact bc_pure hC (by first | exact Grow.refl _ | exact .inr (Grow.refl _)) (show tV (.int .i64 (P + Q)) _ w from rfl)
      · refine obJ_on rfl ?_
        intro kk9 w vs hkk9 hC hL
        have u6 := hL 6 (List.mem_of_elem_eq_true (by kernel_rfl))
        replace u6 : vs 6 = .int .i64 W := u6
        go_simp
        simp only [evOf_tmp, evOf_const, u6]
        go_simp
        exact bc_pure hC (by first | exact Grow.refl _ | exact .inr (Grow.refl _)) (show tV (.int .i64 (W)) _ w from rfl)
      · refine obJ_on rfl ?_
        intro kk9 w vs hkk9 hC hL
        have u63 := hL 63 (List.mem_of_elem_eq_true (by kernel_rfl))
        replace u63 : vs 63 = .int .i64 (P + Q) := u63
        have u64 := hL 64 (List.mem_of_elem_eq_true (by kernel_rfl))
        replace u64 : vs 64 = .int .i64 (W) := u64
        go_simp
        simp only [evOf_tmp, evOf_const, u63, u64]
        go_simp
        exact bc_pure hC (by first | exact Grow.refl _ | exact .inr (Grow.refl _)) (show tV (.bool true) _ w from rfl)
      · refine obJ_on rfl ?_
        intro kk9 w vs hkk9 hC hL
        have u65 := hL 65 (List.mem_of_elem_eq_true (by kernel_rfl))
        replace u65 : vs 65 = .bool true := u65
        go_simp
        simp only [evOf_tmp, evOf_const, u65]
        go_simp
        exact bc_pure hC (by first | exact Grow.refl _ | exact .inr (Grow.refl _)) (show tV (.bool true) _ w from rfl)
      · refine obJ_on rfl ?_
        intro kk9 w vs hkk9 hC hL
        have u3 := hL 3 (List.mem_of_elem_eq_true (by kernel_rfl))
        replace u3 : vs 3 = .slice (some ⟨b, off, none⟩) xs.length cp := u3
        go_simp
        simp only [evOf_tmp, evOf_const, u3]
        go_simp
        exact bc_pure hC (by first | exact Grow.refl _ | exact .inr (Grow.refl _)) (show tV (.slice (some ⟨b, off, none⟩) xs.length cp) _ w from rfl)
      · refine obJ_on rfl ?_
        intro kk9 w vs hkk9 hC hL
        have u4 := hL 4 (List.mem_of_elem_eq_true (by kernel_rfl))
        replace u4 : vs 4 = .int .i64 x := u4
        go_simp
        simp only [evOf_tmp, evOf_const, u4]
        go_simp
        exact bc_pure hC (by first | exact Grow.refl _ | exact .inr (Grow.refl _)) (show tV (.int .i64 (x)) _ w from rfl)
      · refine obJ_on rfl ?_
        intro kk9 w vs hkk9 hC hL
        have u5 := hL 5 (List.mem_of_elem_eq_true (by kernel_rfl))
        replace u5 : vs 5 = .slice (some ⟨b2, 0, none⟩) N c2 := u5
        go_simp
        simp only [evOf_tmp, evOf_const, u5]
        go_simp
        exact bc_pure hC (by first | exact Grow.refl _ | exact .inr (Grow.refl _)) (show tV (.slice (some ⟨b2, 0, none⟩) N c2) _ w from rfl)
      · refine obJ_on rfl ?_
        intro kk9 w vs hkk9 hC hL
        have u5 := hL 5 (List.mem_of_elem_eq_true (by kernel_rfl))
        replace u5 : vs 5 = .slice (some ⟨b2, 0, none⟩) N c2 := u5
        go_simp
        simp only [evOf_tmp, evOf_const, u5]
        go_simp
        exact bc_pure hC (by first | exact Grow.refl _ | exact .inr (Grow.refl _)) (show tV (.slice (some ⟨b2, 0, none⟩) N c2) _ w from rfl)
      · refine obJ_on rfl ?_
        intro kk9 w vs hkk9 hC hL
        have u70 := hL 70 (List.mem_of_elem_eq_true (by kernel_rfl))
        replace u70 : vs 70 = .slice (some ⟨b2, 0, none⟩) N c2 := u70
        go_simp
        simp only [evOf_tmp, evOf_const, u70]
        go_simp
        exact bc_pure hC (by first | exact Grow.refl _ | exact .inr (Grow.refl _)) (show tV (.int .i64 (N)) _ w from rfl)
      · refine obJ_on rfl ?_
        intro kk9 w vs hkk9 hC hL
        have u71 := hL 71 (List.mem_of_elem_eq_true (by kernel_rfl))
        replace u71 : vs 71 = .int .i64 (N) := u71
        go_simp
        simp only [evOf_tmp, evOf_const, u71]
        go_simp
        rw [HNW.out]
        exact bc_pure hC (by first | exact Grow.refl _ | exact .inr (Grow.refl _)) (show tV (.int .i64 ((N : Int) - 1)) _ w from rfl)
      · refine obJ_on rfl ?_
        intro kk9 w vs hkk9 hC hL
        have u69 := hL 69 (List.mem_of_elem_eq_true (by kernel_rfl))
        replace u69 : vs 69 = .slice (some ⟨b2, 0, none⟩) N c2 := u69
        have u72 := hL 72 (List.mem_of_elem_eq_true (by kernel_rfl))
        replace u72 : vs 72 = .int .i64 ((N : Int) - 1) := u72
        go_simp
        simp only [evOf_tmp, evOf_const, u69, u72]
        go_simp
        exact bc_pure hC (by first | exact Grow.refl _ | exact .inr (Grow.refl _)) (show tV (.pointer (some ⟨b2, N - 1, none⟩)) _ w from rfl)
      · refine obJ_on rfl ?_
        intro kk9 w vs hkk9 hC hL
        have u73 := hL 73 (List.mem_of_elem_eq_true (by kernel_rfl))
        replace u73 : vs 73 = .pointer (some ⟨b2, N - 1, none⟩) := u73
        have cc : w.cell? ⟨b2, N - 1, none⟩ = some (.int .i64 z) := by have h9 := Ints.below Y.out hC (N - 1) (by rw [HN.out]; omega); rw [HZ.out, Nat.zero_add] at h9; exact h9
        go_simp
        simp only [evOf_tmp, evOf_const, u73]
        go_simp
        exact bc_pure hC (by first | exact Grow.refl _ | exact .inr (Grow.refl _)) (show tV (.int .i64 (z)) _ w from rfl)
      · refine obJ_on rfl ?_
        intro kk9 w vs hkk9 hC hL
        have u67 := hL 67 (List.mem_of_elem_eq_true (by kernel_rfl))
        replace u67 : vs 67 = .slice (some ⟨b, off, none⟩) xs.length cp := u67
        have u68 := hL 68 (List.mem_of_elem_eq_true (by kernel_rfl))
        replace u68 : vs 68 = .int .i64 (x) := u68
        have u74 := hL 74 (List.mem_of_elem_eq_true (by kernel_rfl))
        replace u74 : vs 74 = .int .i64 (z) := u74
        go_simp
        simp only [evOf_tmp, evOf_const, u67, u68, u74]
        exact bc_call hC (Calls.mono (HKF.out _ (Ints.below X.out hC)) (fun e w2 hh => (by first | exact hh | exact Ro.mk hh | exact St.mk hh : Mk _ _ e w2))) (fun w' h => by first | exact h | exact .inr h) (fun w' => (show tV (.int .i64 (F)) _ w' from rfl))
      · refine obJ_on rfl ?_
        intro kk9 w vs hkk9 hC hL
        have u6 := hL 6 (List.mem_of_elem_eq_true (by kernel_rfl))
        replace u6 : vs 6 = .int .i64 W := u6
        go_simp
        simp only [evOf_tmp, evOf_const, u6]
        go_simp
        exact bc_pure hC (by first | exact Grow.refl _ | exact .inr (Grow.refl _)) (show tV (.int .i64 (W)) _ w from rfl)
      · refine obJ_on rfl ?_
        intro kk9 w vs hkk9 hC hL
        have u75 := hL 75 (List.mem_of_elem_eq_true (by kernel_rfl))
        replace u75 : vs 75 = .int .i64 (F) := u75
        have u76 := hL 76 (List.mem_of_elem_eq_true (by kernel_rfl))
        replace u76 : vs 76 = .int .i64 (W) := u76
        go_simp
        simp only [evOf_tmp, evOf_const, u75, u76]
        go_simp
        exact bc_pure hC (by first | exact Grow.refl _ | exact .inr (Grow.refl _)) (show tV (.bool true) _ w from rfl)
      · refine obJ_on rfl ?_
        intro kk9 w vs hkk9 hC hL
        have u66 := hL 66 (List.mem_of_elem_eq_true (by kernel_rfl))
        replace u66 : vs 66 = .bool true := u66
        have u77 := hL 77 (List.mem_of_elem_eq_true (by kernel_rfl))
        replace u77 : vs 77 = .bool true := u77
        go_simp
        simp only [evOf_tmp, evOf_const, u66, u77]
        go_simp
        exact bc_pure hC (by first | exact Grow.refl _ | exact .inr (Grow.refl _)) (show tV (.bool true) _ w from rfl)
      · refine obJ_on rfl ?_
        intro kk9 w vs hkk9 hC hL
        have u78 := hL 78 (List.mem_of_elem_eq_true (by kernel_rfl))
        replace u78 : vs 78 = .bool true := u78
        go_simp
        simp only [evOf_tmp, evOf_const, u78]
        go_simp
        exact bc_pure hC (by first | exact Grow.refl _ | exact .inr (Grow.refl _)) (show tV (.bool true) _ w from rfl)
    intro vs wq hq hT
    have t2 : vs 2 = .bool true := hT 2 (by kernel_rfl)
    simp (decide := true) only [over, Nat.reduceAdd, if_true, if_false]
    rw [t2]
    clear hT t2
    have Tn := Lib.hid (below_next T.out hq)
    have Xn := Lib.hid (Ints.below X.out hq)
    have Yn := Lib.hid (Ints.below Y.out hq)
    clear hq
    clear T X Y
    have T := Tn
    have X := Xn
    have Y := Yn
    clear Tn Xn Yn
    obtain ⟨wn, hwq⟩ : ∃ w0, w0 = wq := ⟨_, rfl⟩
    subst hwq
    go_wp2_with fail
    go_ret
    first | exact LawOk.mk T.out | exact LawOk.mk (Below.dr T.out _)
end Go.Proofs.Ytdpajnpnpgmpkaa
