/- The laws of GroupOk, GroupSum, GroupBest: the walks. -/
import Derived.Test.Ytgiioponimiddaa12I
import Derived.Test.Ytgiioponimiddaa12U
import Derived.Test.YtgiioponimiddaaL
namespace Go.Proofs.Ytgiioponimiddaa
open Go.RowKit
set_option linter.unusedVariables false
set_option linter.unusedSimpArgs false
set_option maxRecDepth 100000

set_option maxHeartbeats 4000000 in
theorem GroupOk_w (a : Option Addr) (n cap : Nat) (w : World) (hb : Byt w a n) (hn : n ≤ cap) (hcap : cap ≤ maxLen) :
    Calls Try.prog 3 #[.slice a n cap] w (LawOk w) := by
  have hcap' := hcap
  unfold maxLen at hcap'
  by_cases bign : 1048576 < n
  · go_enter Try.func3, Try.ntmps3
    go_wp2_with fail
    go_ret
    exact LawOk.mk (Below.refl _ _)
  go_enter Try.func3, Try.ntmps3
  go_wp2_with fail
  refine Calls.mono (DrawGroupOk_c a n cap _ hb hn hcap) ?_
  rintro e wn ⟨b, off, cp, xs, b1, c1, cs, b2, c2, ks, rfl, ⟨hx, hxc, hxm⟩, ⟨hcs, hks⟩, -, ⟨hI, hI1, hI2⟩, hB⟩
  have T := Lib.hid hB
  have X := Lib.hid hI
  have Y := Lib.hid (Sl.of hI1)
  have Z := Lib.hid (Sl.of hI2)
  clear hB hI hI1 hI2 hb
  obtain ⟨P, hP⟩ : ∃ P, gokB xs cs ks = P := ⟨_, rfl⟩
  have KI := fun w' (h : Ints w' b off xs) (h2 : Sl w' (some ⟨b1, 0, none⟩) cs) (h3 : Sl w' (some ⟨b2, 0, none⟩) ks) => iGroupOk_c b off cp xs _ cs.length c1 cs _ ks.length c2 ks w' h h2 rfl h3 rfl (by omega) (by omega) (by omega)
  have KS := fun w' (h : Ints w' b off xs) (h2 : Sl w' (some ⟨b1, 0, none⟩) cs) (h3 : Sl w' (some ⟨b2, 0, none⟩) ks) => sGroupOk_c b off cp xs _ cs.length c1 cs _ ks.length c2 ks w' h h2 rfl h3 rfl (by omega) (by omega) (by omega)
  have KN := fun w' (h : Ints w' b off xs) (h2 : Sl w' (some ⟨b1, 0, none⟩) cs) => iGroupOk_c b off cp xs _ cs.length c1 cs none 0 0 [] w' h h2 rfl (.inl rfl) rfl (by omega) (by omega) (by omega)
  have KC := fun w' (h : Ints w' b off xs) (h3 : Sl w' (some ⟨b2, 0, none⟩) ks) => iGroupOk_c b off cp xs none 0 0 [] _ ks.length c2 ks w' h (.inl rfl) rfl h3 rfl (by omega) (by omega) (by omega)
  rw [hP] at KI KS
  rw [show gokB xs [] ks = false from tr_false gok_cars] at KC
  have HKI := Lib.hid KI
  have HKS := Lib.hid KS
  have HKC := Lib.hid KC
  clear KI KS KC
  cases P
  case false =>
    clear KN hP
    go_wp2_with fail
    refine Calls.mono (HKI.out _ X.out Y.out Z.out) ?_
    intro e wn hh
    obtain ⟨he, hb⟩ := (by first | exact hh | exact Ro.mk hh | exact St.mk hh | exact LawOk.mk' hh : Mk _ _ e wn)
    subst he
    have Tn : Hid (Below w.heap.size w wn) := below_next T.out hb
    have Xn : Hid _ := Ints.below X.out hb
    have Yn : Hid _ := Sl.below Y.out hb
    have Zn : Hid _ := Sl.below Z.out hb
    clear hb hh
    clear T X Y Z
    have T := Tn
    have X := Xn
    have Y := Yn
    have Z := Zn
    clear Tn Xn Yn Zn
    go_wp2_with fail
    refine Calls.mono (HKS.out _ X.out Y.out Z.out) ?_
    intro e wn hh
    obtain ⟨he, hb⟩ := (by first | exact hh | exact Ro.mk hh | exact St.mk hh | exact LawOk.mk' hh : Mk _ _ e wn)
    subst he
    have Tn : Hid (Below w.heap.size w wn) := below_next T.out hb
    have Xn : Hid _ := Ints.below X.out hb
    have Yn : Hid _ := Sl.below Y.out hb
    have Zn : Hid _ := Sl.below Z.out hb
    clear hb hh
    clear T X Y Z
    have T := Tn
    have X := Xn
    have Y := Yn
    have Z := Zn
    clear Tn Xn Yn Zn
    go_wp2_with fail
    refine Calls.mono (HKC.out _ X.out Z.out) ?_
    intro e wn hh
    obtain ⟨he, hb⟩ := (by first | exact hh | exact Ro.mk hh | exact St.mk hh | exact LawOk.mk' hh : Mk _ _ e wn)
    subst he
    have Tn : Hid (Below w.heap.size w wn) := below_next T.out hb
    have Xn : Hid _ := Ints.below X.out hb
    have Yn : Hid _ := Sl.below Y.out hb
    have Zn : Hid _ := Sl.below Z.out hb
    clear hb hh
    clear T X Y Z
    have T := Tn
    have X := Xn
    have Y := Yn
    have Z := Zn
    clear Tn Xn Yn Zn
    go_wp2_with fail
    refine Calls.mono (alive_c _) ?_
    intro e wn hh
    obtain ⟨he, hb⟩ := (by first | exact hh | exact Ro.mk hh | exact St.mk hh | exact LawOk.mk' hh : Mk _ _ e wn)
    subst he
    have Tn : Hid (Below w.heap.size w wn) := below_next T.out hb
    have Xn : Hid _ := Ints.below X.out hb
    have Yn : Hid _ := Sl.below Y.out hb
    have Zn : Hid _ := Sl.below Z.out hb
    clear hb hh
    clear T X Y Z
    have T := Tn
    have X := Xn
    have Y := Yn
    have Z := Zn
    clear Tn Xn Yn Zn
    go_wp2_with fail
    go_ret
    first | exact LawOk.mk T.out | exact LawOk.mk (Below.dr T.out _)
  rw [show gokB xs cs [] = true from tr_true (gok_none (tr_t.1 hP))] at KN
  have HKN := Lib.hid KN
  clear KN hP
  go_wp2_with fail
  refine Calls.mono (HKI.out _ X.out Y.out Z.out) ?_
  intro e wn hh
  obtain ⟨he, hb⟩ := (by first | exact hh | exact Ro.mk hh | exact St.mk hh | exact LawOk.mk' hh : Mk _ _ e wn)
  subst he
  have Tn : Hid (Below w.heap.size w wn) := below_next T.out hb
  have Xn : Hid _ := Ints.below X.out hb
  have Yn : Hid _ := Sl.below Y.out hb
  have Zn : Hid _ := Sl.below Z.out hb
  clear hb hh
  clear T X Y Z
  have T := Tn
  have X := Xn
  have Y := Yn
  have Z := Zn
  clear Tn Xn Yn Zn
  go_wp2_with fail
  refine Calls.mono (HKS.out _ X.out Y.out Z.out) ?_
  intro e wn hh
  obtain ⟨he, hb⟩ := (by first | exact hh | exact Ro.mk hh | exact St.mk hh | exact LawOk.mk' hh : Mk _ _ e wn)
  subst he
  have Tn : Hid (Below w.heap.size w wn) := below_next T.out hb
  have Xn : Hid _ := Ints.below X.out hb
  have Yn : Hid _ := Sl.below Y.out hb
  have Zn : Hid _ := Sl.below Z.out hb
  clear hb hh
  clear T X Y Z
  have T := Tn
  have X := Xn
  have Y := Yn
  have Z := Zn
  clear Tn Xn Yn Zn
  go_wp2_with fail
  refine Calls.mono (HKN.out _ X.out Y.out) ?_
  intro e wn hh
  obtain ⟨he, hb⟩ := (by first | exact hh | exact Ro.mk hh | exact St.mk hh | exact LawOk.mk' hh : Mk _ _ e wn)
  subst he
  have Tn : Hid (Below w.heap.size w wn) := below_next T.out hb
  have Xn : Hid _ := Ints.below X.out hb
  have Yn : Hid _ := Sl.below Y.out hb
  have Zn : Hid _ := Sl.below Z.out hb
  clear hb hh
  clear T X Y Z
  have T := Tn
  have X := Xn
  have Y := Yn
  have Z := Zn
  clear Tn Xn Yn Zn
  go_wp2_with fail
  refine Calls.mono (HKC.out _ X.out Z.out) ?_
  intro e wn hh
  obtain ⟨he, hb⟩ := (by first | exact hh | exact Ro.mk hh | exact St.mk hh | exact LawOk.mk' hh : Mk _ _ e wn)
  subst he
  have Tn : Hid (Below w.heap.size w wn) := below_next T.out hb
  have Xn : Hid _ := Ints.below X.out hb
  have Yn : Hid _ := Sl.below Y.out hb
  have Zn : Hid _ := Sl.below Z.out hb
  clear hb hh
  clear T X Y Z
  have T := Tn
  have X := Xn
  have Y := Yn
  have Z := Zn
  clear Tn Xn Yn Zn
  go_wp2_with fail
  refine Calls.mono (alive_c _) ?_
  intro e wn hh
  obtain ⟨he, hb⟩ := (by first | exact hh | exact Ro.mk hh | exact St.mk hh | exact LawOk.mk' hh : Mk _ _ e wn)
  subst he
  have Tn : Hid (Below w.heap.size w wn) := below_next T.out hb
  have Xn : Hid _ := Ints.below X.out hb
  have Yn : Hid _ := Sl.below Y.out hb
  have Zn : Hid _ := Sl.below Z.out hb
  clear hb hh
  clear T X Y Z
  have T := Tn
  have X := Xn
  have Y := Yn
  have Z := Zn
  clear Tn Xn Yn Zn
  go_wp2_with fail
  go_ret
  first | exact LawOk.mk T.out | exact LawOk.mk (Below.dr T.out _)
set_option maxHeartbeats 4000000 in
theorem GroupSum_w (a : Option Addr) (n cap : Nat) (w : World) (hb : Byt w a n) (hn : n ≤ cap) (hcap : cap ≤ maxLen) :
    Calls Try.prog 5 #[.slice a n cap] w (LawOk w) := by
  have hcap' := hcap
  unfold maxLen at hcap'
  by_cases bign : 1048576 < n
  · go_enter Try.func5, Try.ntmps5
    go_wp2_with fail
    go_ret
    exact LawOk.mk (Below.refl _ _)
  go_enter Try.func5, Try.ntmps5
  go_wp2_with fail
  refine Calls.mono (DrawGroupSum_c a n cap _ hb hn hcap) ?_
  rintro e wn ⟨b, off, cp, xs, b1, c1, cs, b2, c2, ks, b3, c3, gs, rfl, ⟨hx, hxc, hxm⟩, ⟨hcs, hks, hgs⟩, ⟨hI, hI1, hI2, hI3⟩, hB⟩
  have T := Lib.hid hB
  have X := Lib.hid hI
  have Y := Lib.hid (Sl.of hI1)
  have Z := Lib.hid (Sl.of hI2)
  have G := Lib.hid (Sl.of hI3)
  clear hB hI hI1 hI2 hI3 hb
  have KI := fun w' (h : Ints w' b off xs) (h2 : Sl w' (some ⟨b1, 0, none⟩) cs) (h3 : Sl w' (some ⟨b2, 0, none⟩) ks) (h4 : Sl w' (some ⟨b3, 0, none⟩) gs) => iGroupSum_c b off cp xs _ cs.length c1 cs _ ks.length c2 ks _ gs.length c3 gs w' h h2 rfl h3 rfl h4 rfl (by omega) (by omega) (by omega) (by omega)
  have KS := fun w' (h : Ints w' b off xs) (h2 : Sl w' (some ⟨b1, 0, none⟩) cs) (h3 : Sl w' (some ⟨b2, 0, none⟩) ks) (h4 : Sl w' (some ⟨b3, 0, none⟩) gs) => sGroupSum_c b off cp xs _ cs.length c1 cs _ ks.length c2 ks _ gs.length c3 gs w' h h2 rfl h3 rfl h4 rfl (by omega) (by omega) (by omega) (by omega)
  by_cases hg : Gv xs cs ks gs
  case neg =>
    rw [gsv_f hg] at KI KS
    have HKI := Lib.hid KI
    have HKS := Lib.hid KS
    clear KI KS hg
    go_wp2_with fail
    refine Calls.mono (HKI.out _ X.out Y.out Z.out G.out) ?_
    intro e wn hh
    obtain ⟨he, hb⟩ := (by first | exact hh | exact Ro.mk hh | exact St.mk hh | exact LawOk.mk' hh : Mk _ _ e wn)
    subst he
    have Tn : Hid (Below w.heap.size w wn) := below_next T.out hb
    have Xn : Hid _ := Ints.below X.out hb
    have Yn : Hid _ := Sl.below Y.out hb
    have Zn : Hid _ := Sl.below Z.out hb
    have Gn : Hid _ := Sl.below G.out hb
    clear hb hh
    clear T X Y Z G
    have T := Tn
    have X := Xn
    have Y := Yn
    have Z := Zn
    have G := Gn
    clear Tn Xn Yn Zn Gn
    go_wp2_with fail
    refine Calls.mono (HKS.out _ X.out Y.out Z.out G.out) ?_
    intro e wn hh
    obtain ⟨he, hb⟩ := (by first | exact hh | exact Ro.mk hh | exact St.mk hh | exact LawOk.mk' hh : Mk _ _ e wn)
    subst he
    have Tn : Hid (Below w.heap.size w wn) := below_next T.out hb
    have Xn : Hid _ := Ints.below X.out hb
    have Yn : Hid _ := Sl.below Y.out hb
    have Zn : Hid _ := Sl.below Z.out hb
    have Gn : Hid _ := Sl.below G.out hb
    clear hb hh
    clear T X Y Z G
    have T := Tn
    have X := Xn
    have Y := Yn
    have Z := Zn
    have G := Gn
    clear Tn Xn Yn Zn Gn
    go_wp2_with fail
    refine Calls.mono (alive_c _) ?_
    intro e wn hh
    obtain ⟨he, hb⟩ := (by first | exact hh | exact Ro.mk hh | exact St.mk hh | exact LawOk.mk' hh : Mk _ _ e wn)
    subst he
    have Tn : Hid (Below w.heap.size w wn) := below_next T.out hb
    have Xn : Hid _ := Ints.below X.out hb
    have Yn : Hid _ := Sl.below Y.out hb
    have Zn : Hid _ := Sl.below Z.out hb
    have Gn : Hid _ := Sl.below G.out hb
    clear hb hh
    clear T X Y Z G
    have T := Tn
    have X := Xn
    have Y := Yn
    have Z := Zn
    have G := Gn
    clear Tn Xn Yn Zn Gn
    go_wp2_with fail
    go_ret
    first | exact LawOk.mk T.out | exact LawOk.mk (Below.dr T.out _)
  rw [gsv_t hg] at KI KS
  have KL := fun w' (h : Ints w' b off xs) (h2 : Sl w' (some ⟨b1, 0, none⟩) cs) (h3 : Sl w' (some ⟨b2, 0, none⟩) ks) (h4 : Sl w' (some ⟨b3, 0, none⟩) gs) => iGroupLongest_c b off cp xs _ cs.length c1 cs _ ks.length c2 ks _ gs.length c3 gs w' h h2 rfl h3 rfl h4 rfl (by omega) (by omega) (by omega) (by omega)
  rw [glv_t hg] at KL
  have KB := fun w' (h : Ints w' b off xs) (h2 : Sl w' (some ⟨b1, 0, none⟩) cs) (h3 : Sl w' (some ⟨b2, 0, none⟩) ks) => iGroupBest_c b off cp xs _ cs.length c1 cs _ ks.length c2 ks w' h h2 rfl h3 rfl (by omega) (by omega) (by omega)
  have hll := lng_gsum hg.1.1 hg.1.2.2.1.1 hg.1.2.2.2.1 hg.2
  have hbl := be_least hg.1 hg.2
  have hbg : gsv xs cs ks (bev xs cs ks) = gsum xs cs ks (bev xs cs ks) := gsv_t ⟨hg.1, be_gv hg.1⟩
  have hb0 : 0 ≤ gsum xs cs ks (bev xs cs ks) := (gsU_bd hg.1.1 hg.1.2.2.1.1 cs.length (Nat.le_refl _)).1
  have hLl : (bev xs cs ks).length = ks.length := (be_gv hg.1).2
  obtain ⟨L, hL⟩ : ∃ L, bev xs cs ks = L := ⟨_, rfl⟩
  obtain ⟨S, hS⟩ : ∃ S, gsum xs cs ks gs = S := ⟨_, rfl⟩
  obtain ⟨M, hM⟩ : ∃ M, lng xs cs ks gs ks.length = M := ⟨_, rfl⟩
  rw [hL] at KB hbl hbg hb0 hLl
  obtain ⟨D, hD⟩ : ∃ D, gsum xs cs ks L = D := ⟨_, rfl⟩
  rw [hS] at KI KS hll hbl
  rw [hM] at KL hll
  rw [hD] at hbl hbg hb0
  have KD := fun (w' : World) (a4 : Option Addr) (n4 c4 : Nat) (e4 : L.length = n4) (h : Ints w' b off xs) (h2 : Sl w' (some ⟨b1, 0, none⟩) cs) (h3 : Sl w' (some ⟨b2, 0, none⟩) ks) (h4 : Sl w' a4 L) => iGroupSum_c b off cp xs _ cs.length c1 cs _ ks.length c2 ks a4 n4 c4 L w' h h2 rfl h3 rfl h4 e4 (by omega) (by omega) (by omega) (by omega)
  rw [hbg] at KD
  have hS0 : ¬ S < 0 := by omega
  have hS1 : 0 ≤ S := by omega
  have HKI := Lib.hid KI
  have HKS := Lib.hid KS
  have HKL := Lib.hid KL
  have HKB := Lib.hid KB
  have HKD := Lib.hid KD
  have HLL := Lib.hid hLl
  clear KI KS KL KB KD hg hL hS hM hD hbg hLl
  go_wp2_with fail
  refine Calls.mono (HKI.out _ X.out Y.out Z.out G.out) ?_
  intro e wn hh
  obtain ⟨he, hb⟩ := (by first | exact hh | exact Ro.mk hh | exact St.mk hh | exact LawOk.mk' hh : Mk _ _ e wn)
  subst he
  have Tn : Hid (Below w.heap.size w wn) := below_next T.out hb
  have Xn : Hid _ := Ints.below X.out hb
  have Yn : Hid _ := Sl.below Y.out hb
  have Zn : Hid _ := Sl.below Z.out hb
  have Gn : Hid _ := Sl.below G.out hb
  clear hb hh
  clear T X Y Z G
  have T := Tn
  have X := Xn
  have Y := Yn
  have Z := Zn
  have G := Gn
  clear Tn Xn Yn Zn Gn
  go_wp2_with fail
  refine Calls.mono (HKS.out _ X.out Y.out Z.out G.out) ?_
  intro e wn hh
  obtain ⟨he, hb⟩ := (by first | exact hh | exact Ro.mk hh | exact St.mk hh | exact LawOk.mk' hh : Mk _ _ e wn)
  subst he
  have Tn : Hid (Below w.heap.size w wn) := below_next T.out hb
  have Xn : Hid _ := Ints.below X.out hb
  have Yn : Hid _ := Sl.below Y.out hb
  have Zn : Hid _ := Sl.below Z.out hb
  have Gn : Hid _ := Sl.below G.out hb
  clear hb hh
  clear T X Y Z G
  have T := Tn
  have X := Xn
  have Y := Yn
  have Z := Zn
  have G := Gn
  clear Tn Xn Yn Zn Gn
  clear HKI HKS
  go_wp2_with fail
  refine Calls.mono (HKB.out _ X.out Y.out Z.out) ?_
  intro e wq hh
  obtain ⟨lo9, hi9, p9, u9, rfl, -, hO, hb9⟩ := NewI.get hh
  have L9n := Lib.hid (OwnI.rd hO)
  clear hO hh HKB
  have Tn := Lib.hid (below_next T.out hb9)
  have Xn := Lib.hid (Ints.below X.out hb9)
  have Yn := Lib.hid (Sl.below Y.out hb9)
  have Zn := Lib.hid (Sl.below Z.out hb9)
  have Gn := Lib.hid (Sl.below G.out hb9)
  clear hb9
  clear T X Y Z G
  have T := Tn
  have X := Xn
  have Y := Yn
  have Z := Zn
  have G := Gn
  clear Tn Xn Yn Zn Gn
  obtain ⟨wn, hwq⟩ : ∃ w0, w0 = wq := ⟨_, rfl⟩
  subst hwq
  have L9 := L9n
  clear L9n
  go_wp2_with fail
  refine Calls.mono (HKD.out _ _ _ _ rfl X.out Y.out Z.out L9.out) ?_
  intro e wn hh
  obtain ⟨he, hb⟩ := (by first | exact hh | exact Ro.mk hh | exact St.mk hh | exact LawOk.mk' hh : Mk _ _ e wn)
  subst he
  have Tn : Hid (Below w.heap.size w wn) := below_next T.out hb
  have Xn : Hid _ := Ints.below X.out hb
  have Yn : Hid _ := Sl.below Y.out hb
  have Zn : Hid _ := Sl.below Z.out hb
  have Gn : Hid _ := Sl.below G.out hb
  have L9n : Hid _ := Sl.below L9.out hb
  clear hb hh
  clear T X Y Z G L9
  have T := Tn
  have X := Xn
  have Y := Yn
  have Z := Zn
  have G := Gn
  have L9 := L9n
  clear Tn Xn Yn Zn Gn L9n
  clear HKD
  go_wp2_with fail
  refine Calls.mono (HKL.out _ X.out Y.out Z.out G.out) ?_
  intro e wn hh
  obtain ⟨he, hb⟩ := (by first | exact hh | exact Ro.mk hh | exact St.mk hh | exact LawOk.mk' hh : Mk _ _ e wn)
  subst he
  have Tn : Hid (Below w.heap.size w wn) := below_next T.out hb
  have Xn : Hid _ := Ints.below X.out hb
  have Yn : Hid _ := Sl.below Y.out hb
  have Zn : Hid _ := Sl.below Z.out hb
  have Gn : Hid _ := Sl.below G.out hb
  have L9n : Hid _ := Sl.below L9.out hb
  clear hb hh
  clear T X Y Z G L9
  have T := Tn
  have X := Xn
  have Y := Yn
  have Z := Zn
  have G := Gn
  have L9 := L9n
  clear Tn Xn Yn Zn Gn L9n
  go_wp2_with fail
  go_ret
  first | exact LawOk.mk T.out | exact LawOk.mk (Below.dr T.out _)
set_option maxHeartbeats 8000000 in
theorem GroupBest_w (a : Option Addr) (n cap : Nat) (w : World) (hb : Byt w a n) (hn : n ≤ cap) (hcap : cap ≤ maxLen) :
    Calls Try.prog 6 #[.slice a n cap] w (LawOk w) := by
  have hcap' := hcap
  unfold maxLen at hcap'
  obtain ⟨i0, hi, hz0, hz1, hz2⟩ := info_parts infoInt
  by_cases bign : 1048576 < n
  · go_enter Try.func6, Try.ntmps6
    go_wp2_with fail
    go_ret
    exact LawOk.mk (Below.refl _ _)
  go_enter Try.func6, Try.ntmps6
  go_wp2_with fail
  refine Calls.mono (DrawGroupBest_c a n cap _ hb hn hcap) ?_
  rintro e wn ⟨b, off, cp, xs, b1, c1, cs, b2, c2, ks, rfl, ⟨hx, hxc, hxm⟩, ⟨hcs, hks⟩, ⟨⟨hcc, hcm⟩, -⟩, ⟨hI, hI1, hI2⟩, hB⟩
  have T := Lib.hid hB
  have X := Lib.hid hI
  have Y := Lib.hid hI1
  have Z := Lib.hid hI2
  clear hB hI hI1 hI2 hb
  obtain ⟨P, hP⟩ : ∃ P, gokB xs cs ks = P := ⟨_, rfl⟩
  obtain ⟨L, hL⟩ : ∃ L, bev xs cs ks = L := ⟨_, rfl⟩
  have hLn : L.length ≤ 5 := by
    rw [← hL]
    by_cases h : GOk xs cs ks
    · rw [(be_gv h).2]; exact hks
    · rw [bev_f h]; simp
  have KI := fun w' (h : Ints w' b off xs) (h2 : Sl w' (some ⟨b1, 0, none⟩) cs) (h3 : Sl w' (some ⟨b2, 0, none⟩) ks) => iGroupBest_c b off cp xs _ cs.length c1 cs _ ks.length c2 ks w' h h2 rfl h3 rfl (by omega) (by omega) (by omega)
  have KS := fun w' (h : Ints w' b off xs) (h2 : Sl w' (some ⟨b1, 0, none⟩) cs) (h3 : Sl w' (some ⟨b2, 0, none⟩) ks) => sGroupBest_c b off cp xs _ cs.length c1 cs _ ks.length c2 ks w' h h2 rfl h3 rfl (by omega) (by omega) (by omega)
  have KG := fun w' (h : Ints w' b off xs) (h2 : Sl w' (some ⟨b1, 0, none⟩) cs) (h3 : Sl w' (some ⟨b2, 0, none⟩) ks) => sGroupOk_c b off cp xs _ cs.length c1 cs _ ks.length c2 ks w' h h2 rfl h3 rfl (by omega) (by omega) (by omega)
  rw [hP] at KG
  rw [hL] at KI KS
  obtain ⟨NL, hNL⟩ : ∃ NL, L.length = NL := ⟨_, rfl⟩
  have HNL := Lib.hid hNL
  rw [hNL] at hLn
  have HKI := Lib.hid KI
  have HKS := Lib.hid KS
  have HKG := Lib.hid KG
  have HP := Lib.hid hP
  have HL := Lib.hid hL
  clear KI KS KG hNL hP hL
  go_wp2_with fail
  refine Calls.mono (HKI.out _ X.out (Sl.of Y.out) (Sl.of Z.out)) ?_
  intro e wq hh
  obtain ⟨lo9, hi9, p9, u9, rfl, -, hO, hb9⟩ := NewI.get hh
  have Gn := Lib.hid (OwnI.rd hO)
  clear hO hh HKI
  have Tn := Lib.hid (below_next T.out hb9)
  have Xn := Lib.hid (Ints.below X.out hb9)
  have Yn := Lib.hid (Ints.below Y.out hb9)
  have Zn := Lib.hid (Ints.below Z.out hb9)
  clear hb9
  clear T X Y Z
  have T := Tn
  have X := Xn
  have Y := Yn
  have Z := Zn
  clear Tn Xn Yn Zn
  obtain ⟨wn, hwq⟩ : ∃ w0, w0 = wq := ⟨_, rfl⟩
  subst hwq
  have G := Gn
  clear Gn
  rw [HNL.out]
  go_wp2_with fail
  refine Calls.mono (HKS.out _ X.out (Sl.of Y.out) (Sl.of Z.out)) ?_
  intro e wq hh
  obtain ⟨lo8, hi8, p8, u8, rfl, -, hO, hb9⟩ := NewI.get hh
  have Wn := Lib.hid (OwnI.rd hO)
  clear hO hh HKS
  have Tn := Lib.hid (below_next T.out hb9)
  have Xn := Lib.hid (Ints.below X.out hb9)
  have Yn := Lib.hid (Ints.below Y.out hb9)
  have Zn := Lib.hid (Ints.below Z.out hb9)
  have Gn := Lib.hid (Sl.below G.out hb9)
  clear hb9
  clear T X Y Z G
  have T := Tn
  have X := Xn
  have Y := Yn
  have Z := Zn
  have G := Gn
  clear Tn Xn Yn Zn Gn
  obtain ⟨wn, hwq⟩ : ∃ w0, w0 = wq := ⟨_, rfl⟩
  subst hwq
  have W := Wn
  clear Wn
  rw [HNL.out]
  go_wp2_with fail
  refine Calls.mono (sameInts_t p9 NL u9 L p8 u8 _ G.out W.out HNL.out (by omega)) ?_
  intro e wn hh
  obtain ⟨he, hb⟩ := (by first | exact hh | exact Ro.mk hh | exact St.mk hh | exact LawOk.mk' hh : Mk _ _ e wn)
  subst he
  have Tn : Hid (Below w.heap.size w wn) := below_next T.out hb
  have Xn : Hid _ := Ints.below X.out hb
  have Yn : Hid _ := Ints.below Y.out hb
  have Zn : Hid _ := Ints.below Z.out hb
  have Gn : Hid _ := Sl.below G.out hb
  clear hb hh
  clear T X Y Z G
  have T := Tn
  have X := Xn
  have Y := Yn
  have Z := Zn
  have G := Gn
  clear Tn Xn Yn Zn Gn
  clear W
  go_wp2_with fail
  refine Calls.mono (HKG.out _ X.out (Sl.of Y.out) (Sl.of Z.out)) ?_
  intro e wn hh
  obtain ⟨he, hb⟩ := (by first | exact hh | exact Ro.mk hh | exact St.mk hh | exact LawOk.mk' hh : Mk _ _ e wn)
  subst he
  have Tn : Hid (Below w.heap.size w wn) := below_next T.out hb
  have Xn : Hid _ := Ints.below X.out hb
  have Yn : Hid _ := Ints.below Y.out hb
  have Zn : Hid _ := Ints.below Z.out hb
  have Gn : Hid _ := Sl.below G.out hb
  clear hb hh
  clear T X Y Z G
  have T := Tn
  have X := Xn
  have Y := Yn
  have Z := Zn
  have G := Gn
  clear Tn Xn Yn Zn Gn
  clear HKG
  cases P
  case false =>
    obtain rfl : NL = 0 := by
      rw [← HNL.out, ← HL.out, bev_f fun h => by have := tr_true h; rw [show tr (GOk xs cs ks) = false from HP.out] at this; cases this]; rfl
    go_wp2_with fail
    refine Calls.mono (alive_c _) ?_
    intro e wn hh
    obtain ⟨he, hb⟩ := (by first | exact hh | exact Ro.mk hh | exact St.mk hh | exact LawOk.mk' hh : Mk _ _ e wn)
    subst he
    have Tn : Hid (Below w.heap.size w wn) := below_next T.out hb
    have Xn : Hid _ := Ints.below X.out hb
    have Yn : Hid _ := Ints.below Y.out hb
    have Zn : Hid _ := Ints.below Z.out hb
    have Gn : Hid _ := Sl.below G.out hb
    clear hb hh
    clear T X Y Z G
    have T := Tn
    have X := Xn
    have Y := Yn
    have Z := Zn
    have G := Gn
    clear Tn Xn Yn Zn Gn
    go_wp2_with fail
    go_ret
    first | exact LawOk.mk T.out | exact LawOk.mk (Below.dr T.out _)
  have hg : GOk xs cs ks := tr_t.1 HP.out
  have hgv := be_gv hg
  rw [HL.out] at hgv
  have hNk : NL = ks.length := by rw [← HNL.out]; exact hgv.2
  have KD := fun (w' : World) (a4 : Option Addr) (n4 c4 : Nat) (e4 : L.length = n4) (h : Ints w' b off xs) (h2 : Sl w' (some ⟨b1, 0, none⟩) cs) (h3 : Sl w' (some ⟨b2, 0, none⟩) ks) (h4 : Sl w' a4 L) => iGroupSum_c b off cp xs _ cs.length c1 cs _ ks.length c2 ks a4 n4 c4 L w' h h2 rfl h3 rfl h4 e4 (by omega) (by omega) (by omega) (by rw [← e4, hgv.2]; omega)
  rw [gsv_t ⟨hg, hgv⟩] at KD
  have hD0 : 0 ≤ gsum xs cs ks L := (gsU_bd hg.1 hg.2.2.1.1 cs.length (Nat.le_refl _)).1
  have q3 : ((NL : Int) == (ks.length : Int)) = true := by rw [hNk]; exact beq_self_eq_true _
  obtain ⟨D, hD⟩ : ∃ D, gsum xs cs ks L = D := ⟨_, rfl⟩
  rw [hD] at KD hD0
  have HKD := Lib.hid KD
  have HD := Lib.hid hD
  have HG := Lib.hid hg
  have HGV := Lib.hid hgv
  clear KD hD hg hgv hNk
  go_wp2_with fail
  refine Calls.mono (HKD.out _ _ _ _ HNL.out X.out (Sl.of Y.out) (Sl.of Z.out) G.out) ?_
  intro e wn hh
  obtain ⟨he, hb⟩ := (by first | exact hh | exact Ro.mk hh | exact St.mk hh | exact LawOk.mk' hh : Mk _ _ e wn)
  subst he
  have Tn : Hid (Below w.heap.size w wn) := below_next T.out hb
  have Xn : Hid _ := Ints.below X.out hb
  have Yn : Hid _ := Ints.below Y.out hb
  have Zn : Hid _ := Ints.below Z.out hb
  have Gn : Hid _ := Sl.below G.out hb
  clear hb hh
  clear T X Y Z G
  have T := Tn
  have X := Xn
  have Y := Yn
  have Z := Zn
  have G := Gn
  clear Tn Xn Yn Zn Gn
  clear HKD G
  have O0 : Hid _ := Own.none (w := wn)
  have X0 : Hid (Ints (wn.alloc (.cells #[] 3)) b1 0 cs) := Ints.al Y.out _
  have hWB := T.out.size
  have hltX := Ints.lt X.out
  have hltY := Ints.lt Y.out
  have hltZ := Ints.lt Z.out
  go_wp2_with ((at_builtin; refine wpList_append_wanted rfl _ _ 23 rfl (World.heap wn).size 3 i0 (.int .i64 0) 1 8 Try.underlying23 hi hz0 hz1 hz2 rfl (by decide) _ _ _ rfl O0.out ⟨b1, 0, none⟩ cs.length c1 (cs.map (Value.int .i64)) rfl (by simp) (Ints.cells X0.out) (by intro u hu; simp at hu; obtain ⟨a, _, rfl⟩ := hu; rfl) (by first | (unfold maxLen; simp; omega) | (simp; omega)) (by simp; omega) (by simp) ?_))
  intro v1 wp hown hgrow hnil hat
  obtain ⟨B, hB⟩ : ∃ B, (World.heap wn).size = B := ⟨_, rfl⟩
  have lt5 : ∀ i, (Value.slice (some ⟨(World.heap wn).size, 0, none⟩) 0 0).ownBlock = some i → B ≤ i := fun i e => by rw [← hB]; exact Own.lt O0.out i e
  rw [hB] at hown hWB hltX hltY hltZ
  have HB : Hid _ := hB
  have O : Hid (Own wp B v1 cs) := (by first | exact hown | exact Own.app0 hown)
  have N : Hid (v1 ≠ .slice none 0 0) := (by first | exact hnil | exact fun e => absurd (hnil.1 e).2 (by simp) | exact fun e => absurd (hnil.1 e).1 (by simp))
  have Tn : Hid (Below w.heap.size w wp) := Below.own (Below.al T.out _) hgrow (fun i e => by have := lt5 i e; omega)
  have Xn : Hid _ := Ints.gr (Ints.al X.out _) hgrow (fun i e h0 => by have := lt5 i e; omega)
  have Yn : Hid _ := Ints.gr (Ints.al Y.out _) hgrow (fun i e h0 => by have := lt5 i e; omega)
  have Zn : Hid _ := Ints.gr (Ints.al Z.out _) hgrow (fun i e h0 => by have := lt5 i e; omega)
  clear hown hgrow lt5 hnil hat hB O0 X0
  clear T X Y Z
  have T := Tn
  have X := Xn
  have Y := Yn
  have Z := Zn
  clear Tn Xn Yn Zn
  obtain ⟨wn, hwq⟩ : ∃ w0, w0 = wp := ⟨_, rfl⟩
  subst hwq
  have hbB : 0 < xs.length → b < B := hltX
  have hb1B : 0 < cs.length → b1 < B := hltY
  have hb2B : 0 < ks.length → b2 < B := hltZ
  go_wp2_with ((at_builtin; refine wpList_append_wanted rfl _ _ 23 rfl B 3 i0 (.int .i64 0) 1 8 Try.underlying23 hi hz0 hz1 hz2 rfl (by decide) _ _ _ rfl (Own.alloc O.out _) _ 1 1 [.int .i64 (0)] rfl rfl (cell_one_new _ _ _) (by intro u hu; simp at hu; subst hu; rfl) (by unfold maxLen; omega) (by omega) (Own.base (Own.alloc O.out _) N.out) ?_))
  intro v2 wn hown hgrow hnil hat
  have lt5 := Own.lt O.out
  have On : Hid (Own wn B v2 (cs ++ [0])) := Own.snoc hown
  have Nn : Hid (v2 ≠ .slice none 0 0) := (by first | exact hnil | exact fun e => absurd (hnil.1 e).2 (by simp) | exact fun e => absurd (hnil.1 e).1 (by simp))
  have Tn : Hid (Below w.heap.size w _) := Below.own (Below.al T.out _) hgrow (fun i e => by have := lt5 i e; omega)
  have Xn : Hid _ := Ints.gr (Ints.al X.out _) hgrow (fun i e h0 => by have := lt5 i e; omega)
  have Yn : Hid _ := Ints.gr (Ints.al Y.out _) hgrow (fun i e h0 => by have := lt5 i e; omega)
  have Zn : Hid _ := Ints.gr (Ints.al Z.out _) hgrow (fun i e h0 => by have := lt5 i e; omega)
  clear hown hgrow lt5 hnil hat
  clear O N T X Y Z
  have O := On
  have N := Nn
  have T := Tn
  have X := Xn
  have Y := Yn
  have Z := Zn
  clear On Nn Tn Xn Yn Zn
  have e5 : (cs ++ [(0 : Int)]).length = cs.length + 1 := by simp
  obtain ⟨b5, c5, h5, -, -, i5, -, -⟩ := Own.some O.out N.out
  rw [e5] at h5
  subst h5
  have M := Lib.hid (Sl.of i5)
  clear i5 O N
  by_cases h3 : cs.length < 3
  case neg =>
    have h3' : ¬ (cs.length : Int) < 3 := by omega
    clear e5
    go_wp2_with fail
    go_ret
    first | exact LawOk.mk T.out | exact LawOk.mk (Below.dr T.out _)
  have h3' : (cs.length : Int) < 3 := by omega
  have hg5 := gok_more HG.out (by omega)
  have KB := fun w' (h : Ints w' b off xs) (h2 : Sl w' (some ⟨b5, 0, none⟩) (cs ++ [0])) (h3 : Sl w' (some ⟨b2, 0, none⟩) ks) => iGroupBest_c b off cp xs _ (cs.length + 1) c5 (cs ++ [0]) _ ks.length c2 ks w' h h2 e5 h3 rfl (by omega) (by omega) (by omega)
  have hm2 : gsum xs (cs ++ [0]) ks (bev xs (cs ++ [0]) ks) ≤ D := by
    have hgv5 : GvOk (cs ++ [(0 : Int)]).length ks.length L := by
      refine ⟨fun k hk => ?_, HGV.out.2⟩
      have := HGV.out.1 k hk
      rw [e5]; omega
    have h := be_least hg5 hgv5
    rw [gsum_more HG.out.1 ⟨Int.le_refl _, by have := HG.out.1.1; omega⟩ HGV.out, HD.out] at h
    exact h
  have hgb := be_gv hg5
  obtain ⟨L2, hL2⟩ : ∃ L2, bev xs (cs ++ [0]) ks = L2 := ⟨_, rfl⟩
  rw [hL2] at KB hm2 hgb
  have hL2n := hgb.2
  have KE := fun (w' : World) (a4 : Option Addr) (n4 c4 : Nat) (e4 : L2.length = n4) (h : Ints w' b off xs) (h2 : Sl w' (some ⟨b5, 0, none⟩) (cs ++ [0])) (h3 : Sl w' (some ⟨b2, 0, none⟩) ks) (h4 : Sl w' a4 L2) => iGroupSum_c b off cp xs _ (cs.length + 1) c5 (cs ++ [0]) _ ks.length c2 ks a4 n4 c4 L2 w' h h2 e5 h3 rfl h4 e4 (by omega) (by omega) (by omega) (by omega)
  rw [gsv_t ⟨hg5, hgb⟩] at KE
  obtain ⟨D2, hD2⟩ : ∃ D2, gsum xs (cs ++ [0]) ks L2 = D2 := ⟨_, rfl⟩
  rw [hD2] at KE hm2
  have HKB := Lib.hid KB
  have HKE := Lib.hid KE
  clear KB KE hg5 hgb hL2 hL2n hD2 e5
  go_wp2_with fail
  refine Calls.mono (HKB.out _ X.out M.out (Sl.of Z.out)) ?_
  intro e wq hh
  obtain ⟨lo7, hi7, p7, u7, rfl, -, hO, hb9⟩ := NewI.get hh
  have Gn := Lib.hid (OwnI.rd hO)
  clear hO hh HKB
  have Tn := Lib.hid (below_next T.out hb9)
  have Xn := Lib.hid (Ints.below X.out hb9)
  have Yn := Lib.hid (Ints.below Y.out hb9)
  have Zn := Lib.hid (Ints.below Z.out hb9)
  have Mn := Lib.hid (Sl.below M.out hb9)
  clear hb9
  clear T X Y Z M
  have T := Tn
  have X := Xn
  have Y := Yn
  have Z := Zn
  have M := Mn
  clear Tn Xn Yn Zn Mn
  obtain ⟨wn, hwq⟩ : ∃ w0, w0 = wq := ⟨_, rfl⟩
  subst hwq
  have G := Gn
  clear Gn
  go_wp2_with fail
  refine Calls.mono (HKE.out _ _ _ _ rfl X.out M.out (Sl.of Z.out) G.out) ?_
  intro e wn hh
  obtain ⟨he, hb⟩ := (by first | exact hh | exact Ro.mk hh | exact St.mk hh | exact LawOk.mk' hh : Mk _ _ e wn)
  subst he
  have Tn : Hid (Below w.heap.size w wn) := below_next T.out hb
  have Xn : Hid _ := Ints.below X.out hb
  have Yn : Hid _ := Ints.below Y.out hb
  have Zn : Hid _ := Ints.below Z.out hb
  have Mn : Hid _ := Sl.below M.out hb
  have Gn : Hid _ := Sl.below G.out hb
  clear hb hh
  clear T X Y Z M G
  have T := Tn
  have X := Xn
  have Y := Yn
  have Z := Zn
  have M := Mn
  have G := Gn
  clear Tn Xn Yn Zn Mn Gn
  clear HKE
  go_wp2_with fail
  go_ret
  first | exact LawOk.mk T.out | exact LawOk.mk (Below.dr T.out _)
end Go.Proofs.Ytgiioponimiddaa
