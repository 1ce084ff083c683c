/- The laws of GroupLongest and GroupNear: the walks. -/
import Derived.Test.Ytgiioponimiddaa12I
import Derived.Test.Ytgiioponimiddaa12U
import Derived.Test.YtgiioponimiddaaL
namespace Go.Proofs.Ytgiioponimiddaa
open Go.RowKit
set_option linter.unusedVariables false
set_option linter.unusedSimpArgs false
set_option maxRecDepth 100000

/-- Whether there are no calls, or one of the first k is as far as G. -/
noncomputable def someU (xs cs ks gs : List Int) (G : Int) : Nat → Bool
  | 0 => decide (ks.length = 0)
  | k + 1 => someU xs cs ks gs G k || decide (fw xs (nth cs (nth gs k).toNat) (nth ks k) = G)
theorem someU_mono {xs cs ks gs : List Int} {G : Int} {k : Nat} : ∀ d, someU xs cs ks gs G k = true → someU xs cs ks gs G (k + d) = true
  | 0, h => h
  | d + 1, h => by
    have := someU_mono d h
    show (someU xs cs ks gs G (k + d) || _) = true
    rw [this]; rfl
theorem someU_all {xs cs ks gs : List Int} (h : Gv xs cs ks gs) : someU xs cs ks gs (lng xs cs ks gs ks.length) ks.length = true := by
  have at_k : ∀ k, k < ks.length → fw xs (nth cs (nth gs k).toNat) (nth ks k) = lng xs cs ks gs ks.length → someU xs cs ks gs (lng xs cs ks gs ks.length) ks.length = true := by
    intro k hk e
    have h1 : someU xs cs ks gs (lng xs cs ks gs ks.length) (k + 1) = true := by
      unfold someU
      rw [decide_eq_true e, Bool.or_true]
    have := someU_mono (ks.length - (k + 1)) h1
    rwa [show k + 1 + (ks.length - (k + 1)) = ks.length from by omega] at this
  by_cases h0 : ks.length = 0
  · rw [h0]; unfold someU; exact decide_eq_true h0
  · rcases lng_some (xs := xs) (cs := cs) (ks := ks) (gs := gs) (n := ks.length) with e | ⟨k, hk, e⟩
    · have hk : 0 < ks.length := by omega
      refine at_k 0 hk ?_
      have h1 := lng_all (xs := xs) (cs := cs) (ks := ks) (gs := gs) hk
      have g := h.2.1 0 (by rw [h.2.2]; exact hk)
      have ha := h.1.2.2.1.1 _ (nthm (show (nth gs 0).toNat < cs.length from by omega))
      have hb := h.1.2.2.2.1 _ (nthm hk)
      rw [fw_hg h.1.1 ha hb] at h1 ⊢
      have := far_ge (hgt xs (nth cs (nth gs 0).toNat)) (hgt xs (nth ks 0))
      omega
    · exact at_k k hk e
set_option maxHeartbeats 8000000 in
theorem GroupLongest_w (a : Option Addr) (n cap : Nat) (w : World) (hb : Byt w a n) (hn : n ≤ cap) (hcap : cap ≤ maxLen) :
    Calls Try.prog 4 #[.slice a n cap] w (LawOk w) := by
  have hcap' := hcap
  unfold maxLen at hcap'
  by_cases bign : 1048576 < n
  · go_enter Try.func4, Try.ntmps4
    go_wp2_with fail
    go_ret
    exact LawOk.mk (Below.refl _ _)
  go_enter Try.func4, Try.ntmps4
  go_wp2_with fail
  refine Calls.mono (DrawGroupLongest_c a n cap _ hb hn hcap) ?_
  rintro e wn ⟨b, off, cp, xs, b1, c1, cs, b2, c2, ks, b3, c3, gs, rfl, ⟨hx, hxc, hxm⟩, ⟨hcs, hks, hgs⟩, ⟨hI, hI1, hI2, hI3⟩, hB⟩
  have T := Lib.hid hB
  have X := Lib.hid hI
  have Y := Lib.hid hI1
  have Z := Lib.hid hI2
  have G := Lib.hid hI3
  clear hB hI hI1 hI2 hI3 hb
  have KI := fun w' (h : Ints w' b off xs) (h2 : Sl w' (some ⟨b1, 0, none⟩) cs) (h3 : Sl w' (some ⟨b2, 0, none⟩) ks) (h4 : Sl w' (some ⟨b3, 0, none⟩) gs) => iGroupLongest_c b off cp xs _ cs.length c1 cs _ ks.length c2 ks _ gs.length c3 gs w' h h2 rfl h3 rfl h4 rfl (by omega) (by omega) (by omega) (by omega)
  have KS := fun w' (h : Ints w' b off xs) (h2 : Sl w' (some ⟨b1, 0, none⟩) cs) (h3 : Sl w' (some ⟨b2, 0, none⟩) ks) (h4 : Sl w' (some ⟨b3, 0, none⟩) gs) => sGroupLongest_c b off cp xs _ cs.length c1 cs _ ks.length c2 ks _ gs.length c3 gs w' h h2 rfl h3 rfl h4 rfl (by omega) (by omega) (by omega) (by omega)
  by_cases hg : Gv xs cs ks gs
  case neg =>
    rw [glv_f hg] at KI KS
    have HKI := Lib.hid KI
    have HKS := Lib.hid KS
    clear KI KS hg
    go_wp2_with fail
    refine Calls.mono (HKI.out _ X.out (Sl.of Y.out) (Sl.of Z.out) (Sl.of G.out)) ?_
    intro e wn hh
    obtain ⟨he, hb⟩ := (by first | exact hh | exact Ro.mk hh | exact St.mk hh | exact LawOk.mk' hh : Mk _ _ e wn)
    subst he
    have Tn : Hid (Below w.heap.size w wn) := below_next T.out hb
    have Xn : Hid _ := Ints.below X.out hb
    have Yn : Hid _ := Ints.below Y.out hb
    have Zn : Hid _ := Ints.below Z.out hb
    have Gn : Hid _ := Ints.below G.out hb
    clear hb hh
    clear T X Y Z G
    have T := Tn
    have X := Xn
    have Y := Yn
    have Z := Zn
    have G := Gn
    clear Tn Xn Yn Zn Gn
    go_wp2_with fail
    refine Calls.mono (HKS.out _ X.out (Sl.of Y.out) (Sl.of Z.out) (Sl.of G.out)) ?_
    intro e wn hh
    obtain ⟨he, hb⟩ := (by first | exact hh | exact Ro.mk hh | exact St.mk hh | exact LawOk.mk' hh : Mk _ _ e wn)
    subst he
    have Tn : Hid (Below w.heap.size w wn) := below_next T.out hb
    have Xn : Hid _ := Ints.below X.out hb
    have Yn : Hid _ := Ints.below Y.out hb
    have Zn : Hid _ := Ints.below Z.out hb
    have Gn : Hid _ := Ints.below G.out hb
    clear hb hh
    clear T X Y Z G
    have T := Tn
    have X := Xn
    have Y := Yn
    have Z := Zn
    have G := Gn
    clear Tn Xn Yn Zn Gn
    go_wp2_with fail
    refine Calls.mono (alive_c _) ?_
    intro e wn hh
    obtain ⟨he, hb⟩ := (by first | exact hh | exact Ro.mk hh | exact St.mk hh | exact LawOk.mk' hh : Mk _ _ e wn)
    subst he
    have Tn : Hid (Below w.heap.size w wn) := below_next T.out hb
    have Xn : Hid _ := Ints.below X.out hb
    have Yn : Hid _ := Ints.below Y.out hb
    have Zn : Hid _ := Ints.below Z.out hb
    have Gn : Hid _ := Ints.below G.out hb
    clear hb hh
    clear T X Y Z G
    have T := Tn
    have X := Xn
    have Y := Yn
    have Z := Zn
    have G := Gn
    clear Tn Xn Yn Zn Gn
    go_wp2_with fail
    go_ret
    first | exact LawOk.mk T.out | exact LawOk.mk (Below.dr T.out _)
  rw [glv_t hg] at KI KS
  have hall := someU_all hg
  have hnl := nr_lng hg.1 hg.2
  have hnv := nr_gv hg.1
  have KN := fun w' (h : Ints w' b off xs) (h2 : Sl w' (some ⟨b1, 0, none⟩) cs) (h3 : Sl w' (some ⟨b2, 0, none⟩) ks) => iGroupNear_c b off cp xs _ cs.length c1 cs _ ks.length c2 ks w' h h2 rfl h3 rfl (by omega) (by omega) (by omega)
  have hG0 := lng_ge xs cs ks gs ks.length
  obtain ⟨L, hL⟩ : ∃ L, nrv xs cs ks = L := ⟨_, rfl⟩
  rw [hL] at KN hnl hnv
  have hLn := hnv.2
  have KD := fun (w' : World) (a4 : Option Addr) (n4 c4 : Nat) (e4 : L.length = n4) (h : Ints w' b off xs) (h2 : Sl w' (some ⟨b1, 0, none⟩) cs) (h3 : Sl w' (some ⟨b2, 0, none⟩) ks) (h4 : Sl w' a4 L) => iGroupLongest_c b off cp xs _ cs.length c1 cs _ ks.length c2 ks a4 n4 c4 L w' h h2 rfl h3 rfl h4 e4 (by omega) (by omega) (by omega) (by omega)
  rw [glv_t ⟨hg.1, hnv⟩] at KD
  have hM0 := lng_ge xs cs ks L ks.length
  obtain ⟨S, hS⟩ : ∃ S, lng xs cs ks gs ks.length = S := ⟨_, rfl⟩
  obtain ⟨M, hM⟩ : ∃ M, lng xs cs ks L ks.length = M := ⟨_, rfl⟩
  rw [hS] at KI KS hall hnl hG0
  rw [hM] at KD hnl hM0
  have hS0 : ¬ S < 0 := by omega
  have hgl := hg.2.2
  have HV := Lib.hid hg.2.1
  have HKI := Lib.hid KI
  have HKS := Lib.hid KS
  have HKN := Lib.hid KN
  have HKD := Lib.hid KD
  have HALL := Lib.hid hall
  have HGL := Lib.hid hgl
  clear KI KS KN KD hg hL hLn hnv hS hM hall hgl
  go_wp2_with fail
  refine Calls.mono (HKI.out _ X.out (Sl.of Y.out) (Sl.of Z.out) (Sl.of G.out)) ?_
  intro e wn hh
  obtain ⟨he, hb⟩ := (by first | exact hh | exact Ro.mk hh | exact St.mk hh | exact LawOk.mk' hh : Mk _ _ e wn)
  subst he
  have Tn : Hid (Below w.heap.size w wn) := below_next T.out hb
  have Xn : Hid _ := Ints.below X.out hb
  have Yn : Hid _ := Ints.below Y.out hb
  have Zn : Hid _ := Ints.below Z.out hb
  have Gn : Hid _ := Ints.below G.out hb
  clear hb hh
  clear T X Y Z G
  have T := Tn
  have X := Xn
  have Y := Yn
  have Z := Zn
  have G := Gn
  clear Tn Xn Yn Zn Gn
  go_wp2_with fail
  refine Calls.mono (HKS.out _ X.out (Sl.of Y.out) (Sl.of Z.out) (Sl.of G.out)) ?_
  intro e wn hh
  obtain ⟨he, hb⟩ := (by first | exact hh | exact Ro.mk hh | exact St.mk hh | exact LawOk.mk' hh : Mk _ _ e wn)
  subst he
  have Tn : Hid (Below w.heap.size w wn) := below_next T.out hb
  have Xn : Hid _ := Ints.below X.out hb
  have Yn : Hid _ := Ints.below Y.out hb
  have Zn : Hid _ := Ints.below Z.out hb
  have Gn : Hid _ := Ints.below G.out hb
  clear hb hh
  clear T X Y Z G
  have T := Tn
  have X := Xn
  have Y := Yn
  have Z := Zn
  have G := Gn
  clear Tn Xn Yn Zn Gn
  clear HKI HKS
  obtain ⟨Z0, hZ0⟩ : ∃ Z0 : Bool, ((ks.length : Int) == 0) = Z0 := ⟨_, rfl⟩
  have HZ0 := Lib.hid (show Z0 = someU xs cs ks gs S 0 from by
    rw [← hZ0]; unfold someU
    by_cases h : ks.length = 0
    · rw [decide_eq_true h, h]; rfl
    · rw [decide_eq_false h]; exact beq_false_of_ne (by omega))
  go_wp2_with fail
  clear hZ0
  go_loopw [8, 9] (fun q v wr => ∃ (k : Nat) (B : Bool), k ≤ ks.length ∧ q = .bool B ∧ v = .int .i64 k ∧ (B = someU xs cs ks gs S k) ∧ Below w.heap.size w wr ∧ Ints wr b off xs ∧ Ints wr b1 0 cs ∧ Ints wr b2 0 ks ∧ Ints wr b3 0 gs) (fun q v _ => ks.length - (intOf v).toNat)
  case atStart => exact ⟨0, Z0, by omega, rfl, rfl, HZ0.out, T.out, X.out, Y.out, Z.out, G.out⟩
  case' round =>
    clear T X Y Z G
    obtain ⟨k, B, hk, rfl, rfl, hB, h9T, h9X, h9Y, h9Z, h9G⟩ := hrel
    obtain ⟨wn, hwq⟩ : ∃ w0 : World, w0 = wr := ⟨_, rfl⟩
    rw [← hwq] at h9T h9X h9Y h9Z h9G ⊢
    clear hwq
    have T := Lib.hid h9T
    have X := Lib.hid h9X
    have Y := Lib.hid h9Y
    have Z := Lib.hid h9Z
    have G := Lib.hid h9G
    clear h9T h9X h9Y h9Z h9G
    have HB := Lib.hid hB
    clear hB HZ0
    by_cases hlt : k < ks.length
    case neg =>
      obtain hke : k = ks.length := by omega
      obtain rfl : B = true := by rw [HB.out, hke]; exact HALL.out
      have hki : ¬ (k : Int) < (ks.length : Int) := by omega
      clear hke
      go_wp2_with fail
      refine Calls.mono (HKN.out _ X.out (Sl.of Y.out) (Sl.of Z.out)) ?_
      intro e wq hh
      obtain ⟨lo9, hi9, p9, u9', rfl, -, hO, hb9⟩ := NewI.get hh
      have L9n := Lib.hid (OwnI.rd hO)
      clear hO hh HKN
      have Tn := Lib.hid (below_next T.out hb9)
      have Xn := Lib.hid (Ints.below X.out hb9)
      have Yn := Lib.hid (Ints.below Y.out hb9)
      have Zn := Lib.hid (Ints.below Z.out hb9)
      have Gn := Lib.hid (Ints.below G.out hb9)
      clear hb9
      clear T X Y Z G
      have T := Tn
      have X := Xn
      have Y := Yn
      have Z := Zn
      have G := Gn
      clear Tn Xn Yn Zn Gn
      obtain ⟨wn, hwq⟩ : ∃ w0, w0 = wq := ⟨_, rfl⟩
      subst hwq
      have L9 := L9n
      clear L9n
      go_wp2_with fail
      refine Calls.mono (HKD.out _ _ _ _ rfl X.out (Sl.of Y.out) (Sl.of Z.out) L9.out) ?_
      intro e wn hh
      obtain ⟨he, hb⟩ := (by first | exact hh | exact Ro.mk hh | exact St.mk hh | exact LawOk.mk' hh : Mk _ _ e wn)
      subst he
      have Tn : Hid (Below w.heap.size w wn) := below_next T.out hb
      have Xn : Hid _ := Ints.below X.out hb
      have Yn : Hid _ := Ints.below Y.out hb
      have Zn : Hid _ := Ints.below Z.out hb
      have Gn : Hid _ := Ints.below G.out hb
      have L9n : Hid _ := Sl.below L9.out hb
      clear hb hh
      clear T X Y Z G L9
      have T := Tn
      have X := Xn
      have Y := Yn
      have Z := Zn
      have G := Gn
      have L9 := L9n
      clear Tn Xn Yn Zn Gn L9n
      clear HKD
      go_wp2_with fail
      go_ret
      first | exact LawOk.mk T.out | exact LawOk.mk (Below.dr T.out _)
    have hki : (k : Int) < (ks.length : Int) := by omega
    obtain ⟨g0, g1⟩ := HV.out k (by rw [HGL.out]; exact hlt)
    obtain ⟨c, hce⟩ : ∃ c : Nat, nth gs k = c := ⟨(nth gs k).toNat, by omega⟩
    have hcn : c < cs.length := by omega
    have hci : (c : Int) < (cs.length : Int) := by omega
    have hkg : (k : Int) < (gs.length : Int) := by rw [HGL.out]; exact hki
    have Y1 := Lib.hid (show wn.cell? ⟨b1, c, none⟩ = some (.int .i64 (nth cs c)) from by have h9 := Y.out c hcn; rwa [Nat.zero_add] at h9)
    have Y2 := Lib.hid (show wn.cell? ⟨b2, k, none⟩ = some (.int .i64 (nth ks k)) from by have h9 := Z.out k hlt; rwa [Nat.zero_add] at h9)
    have Y3 := Lib.hid (show wn.cell? ⟨b3, k, none⟩ = some (.int .i64 (c : Int)) from by have h9 := G.out k (by rw [HGL.out]; exact hlt); rwa [Nat.zero_add, hce] at h9)
    obtain ⟨D, hD⟩ : ∃ D, fw xs (nth cs c) (nth ks k) = D := ⟨_, rfl⟩
    have K2 := fun w' (h : Ints w' b off xs) => iFloorWay_c b off cp xs (nth cs c) (nth ks k) w' h (by unfold maxLen; omega)
    rw [hD] at K2
    have H2 := Lib.hid K2
    have HS1 := Lib.hid (show someU xs cs ks gs S (k + 1) = (B || decide (D = S)) from by
      show (someU xs cs ks gs S k || decide (fw xs (nth cs (nth gs k).toNat) (nth ks k) = S)) = _
      rw [hce, Int.toNat_natCast, hD, ← HB.out])
    clear K2 hD g0 g1 hce
    go_upto_region 13 with fail
    cases B
    case true =>
      have HN := Lib.hid (show true = someU xs cs ks gs S (k + 1) from by rw [HS1.out]; rfl)
      refine wp_region_quiet (C := fun w' => Below (World.heap (wn)).size (wn) w') (by kernel_rfl) (by kernel_rfl) (by first | exact ⟨rfl, rfl, rfl, Nat.le_refl _, fun _ _ => rfl⟩ | exact Below.dw (by repeat (first | exact Below.refl _ _ | refine Below.al ?_ _ | refine Below.dr ?_ _ | refine Below.dw ?_ | refine Below.st ?_ (by first | exact Nat.le_refl _ | exact Nat.le_add_right _ _ | (simp; omega)) _ | (refine below_next ?_ (by assumption))))) ?_
      simp only []
      repeat (go_big_quiet_step (first | (intro _; with_reducible exact rfl) | (intro hC; go_at_call 20; have y1 := cell_below Y1.out hC; have y2 := cell_below Y2.out hC; have y3 := cell_below Y3.out hC; (refine Calls.mono (H2.out _ (Ints.below X.out hC)) ?_); (first | (rintro e wx ⟨rfl, hb⟩; exact ⟨rfl, below_next hC hb⟩) | (rintro e wx ⟨rfl, n, rfl⟩; exact ⟨rfl, Below.dr hC n⟩) | (rintro e wx ⟨rfl, rfl⟩; exact ⟨rfl, hC⟩))) | (intro hC; have y1 := cell_below Y1.out hC; have y2 := cell_below Y2.out hC; have y3 := cell_below Y3.out hC; go_simp; rfl)))
      refine wpQuiet_nil ?_
      intro wq hq
      have Tn := Lib.hid (below_next T.out hq)
      have Xn := Lib.hid (Ints.below X.out hq)
      have Yn := Lib.hid (Ints.below Y.out hq)
      have Zn := Lib.hid (Ints.below Z.out hq)
      have Gn := Lib.hid (Ints.below G.out hq)
      clear hq
      clear T X Y Z G
      have T := Tn
      have X := Xn
      have Y := Yn
      have Z := Zn
      have G := Gn
      clear Tn Xn Yn Zn Gn
      obtain ⟨wn, hwq⟩ : ∃ w0, w0 = wq := ⟨_, rfl⟩
      subst hwq
      go_wp2_with fail
      go_roundw
      case rel => exact ⟨k + 1, true, by omega, rfl, by go_num, HN.out, T.out, X.out, Y.out, Z.out, G.out⟩
      case measure => first | (simp [intOf]; done) | (simp [intOf]; omega) | omega
    by_cases he : D = S
    · have q4 : (D == S) = true := by rw [he]; exact beq_self_eq_true _
      have HN := Lib.hid (show true = someU xs cs ks gs S (k + 1) from by rw [HS1.out, decide_eq_true he]; rfl)
      clear he
      refine wp_region_quiet (C := fun w' => Below (World.heap (wn)).size (wn) w') (by kernel_rfl) (by kernel_rfl) (by first | exact ⟨rfl, rfl, rfl, Nat.le_refl _, fun _ _ => rfl⟩ | exact Below.dw (by repeat (first | exact Below.refl _ _ | refine Below.al ?_ _ | refine Below.dr ?_ _ | refine Below.dw ?_ | refine Below.st ?_ (by first | exact Nat.le_refl _ | exact Nat.le_add_right _ _ | (simp; omega)) _ | (refine below_next ?_ (by assumption))))) ?_
      simp only []
      repeat (go_big_quiet_step (first | (intro _; with_reducible exact rfl) | (intro hC; go_at_call 20; have y1 := cell_below Y1.out hC; have y2 := cell_below Y2.out hC; have y3 := cell_below Y3.out hC; (refine Calls.mono (H2.out _ (Ints.below X.out hC)) ?_); (first | (rintro e wx ⟨rfl, hb⟩; exact ⟨rfl, below_next hC hb⟩) | (rintro e wx ⟨rfl, n, rfl⟩; exact ⟨rfl, Below.dr hC n⟩) | (rintro e wx ⟨rfl, rfl⟩; exact ⟨rfl, hC⟩))) | (intro hC; have y1 := cell_below Y1.out hC; have y2 := cell_below Y2.out hC; have y3 := cell_below Y3.out hC; go_simp; rfl)))
      refine wpQuiet_nil ?_
      intro wq hq
      have Tn := Lib.hid (below_next T.out hq)
      have Xn := Lib.hid (Ints.below X.out hq)
      have Yn := Lib.hid (Ints.below Y.out hq)
      have Zn := Lib.hid (Ints.below Z.out hq)
      have Gn := Lib.hid (Ints.below G.out hq)
      clear hq
      clear T X Y Z G
      have T := Tn
      have X := Xn
      have Y := Yn
      have Z := Zn
      have G := Gn
      clear Tn Xn Yn Zn Gn
      obtain ⟨wn, hwq⟩ : ∃ w0, w0 = wq := ⟨_, rfl⟩
      subst hwq
      go_wp2_with fail
      go_roundw
      case rel => exact ⟨k + 1, true, by omega, rfl, by go_num, HN.out, T.out, X.out, Y.out, Z.out, G.out⟩
      case measure => first | (simp [intOf]; done) | (simp [intOf]; omega) | omega
    · have q4 : (D == S) = false := beq_false_of_ne he
      have HN := Lib.hid (show false = someU xs cs ks gs S (k + 1) from by rw [HS1.out, decide_eq_false he]; rfl)
      clear he
      refine wp_region_quiet (C := fun w' => Below (World.heap (wn)).size (wn) w') (by kernel_rfl) (by kernel_rfl) (by first | exact ⟨rfl, rfl, rfl, Nat.le_refl _, fun _ _ => rfl⟩ | exact Below.dw (by repeat (first | exact Below.refl _ _ | refine Below.al ?_ _ | refine Below.dr ?_ _ | refine Below.dw ?_ | refine Below.st ?_ (by first | exact Nat.le_refl _ | exact Nat.le_add_right _ _ | (simp; omega)) _ | (refine below_next ?_ (by assumption))))) ?_
      simp only []
      repeat (go_big_quiet_step (first | (intro _; with_reducible exact rfl) | (intro hC; go_at_call 20; have y1 := cell_below Y1.out hC; have y2 := cell_below Y2.out hC; have y3 := cell_below Y3.out hC; (refine Calls.mono (H2.out _ (Ints.below X.out hC)) ?_); (first | (rintro e wx ⟨rfl, hb⟩; exact ⟨rfl, below_next hC hb⟩) | (rintro e wx ⟨rfl, n, rfl⟩; exact ⟨rfl, Below.dr hC n⟩) | (rintro e wx ⟨rfl, rfl⟩; exact ⟨rfl, hC⟩))) | (intro hC; have y1 := cell_below Y1.out hC; have y2 := cell_below Y2.out hC; have y3 := cell_below Y3.out hC; go_simp; rfl)))
      refine wpQuiet_nil ?_
      intro wq hq
      have Tn := Lib.hid (below_next T.out hq)
      have Xn := Lib.hid (Ints.below X.out hq)
      have Yn := Lib.hid (Ints.below Y.out hq)
      have Zn := Lib.hid (Ints.below Z.out hq)
      have Gn := Lib.hid (Ints.below G.out hq)
      clear hq
      clear T X Y Z G
      have T := Tn
      have X := Xn
      have Y := Yn
      have Z := Zn
      have G := Gn
      clear Tn Xn Yn Zn Gn
      obtain ⟨wn, hwq⟩ : ∃ w0, w0 = wq := ⟨_, rfl⟩
      subst hwq
      go_wp2_with fail
      go_roundw
      case rel => exact ⟨k + 1, false, by omega, rfl, by go_num, HN.out, T.out, X.out, Y.out, Z.out, G.out⟩
      case measure => first | (simp [intOf]; done) | (simp [intOf]; omega) | omega
set_option maxHeartbeats 8000000 in
theorem GroupNear_w (a : Option Addr) (n cap : Nat) (w : World) (hb : Byt w a n) (hn : n ≤ cap) (hcap : cap ≤ maxLen) :
    Calls Try.prog 7 #[.slice a n cap] w (LawOk w) := by
  have hcap' := hcap
  unfold maxLen at hcap'
  by_cases bign : 1048576 < n
  · go_enter Try.func7, Try.ntmps7
    go_wp2_with fail
    go_ret
    exact LawOk.mk (Below.refl _ _)
  go_enter Try.func7, Try.ntmps7
  go_wp2_with fail
  refine Calls.mono (DrawGroupNear_c a n cap _ hb hn hcap) ?_
  rintro e wn ⟨b, off, cp, xs, b1, c1, cs, b2, c2, ks, rfl, ⟨hx, hxc, hxm⟩, ⟨hcs, hks⟩, -, ⟨hI, hI1, hI2⟩, hB⟩
  have T := Lib.hid hB
  have X := Lib.hid hI
  have Y := Lib.hid hI1
  have Z := Lib.hid hI2
  clear hB hI hI1 hI2 hb
  obtain ⟨P, hP⟩ : ∃ P, gokB xs cs ks = P := ⟨_, rfl⟩
  obtain ⟨L, hL⟩ : ∃ L, nrv xs cs ks = L := ⟨_, rfl⟩
  have hLn : L.length ≤ 5 := by
    rw [← hL]
    by_cases h : GOk xs cs ks
    · rw [(nr_gv h).2]; exact hks
    · rw [nrv_f h]; simp
  have KI := fun w' (h : Ints w' b off xs) (h2 : Sl w' (some ⟨b1, 0, none⟩) cs) (h3 : Sl w' (some ⟨b2, 0, none⟩) ks) => iGroupNear_c b off cp xs _ cs.length c1 cs _ ks.length c2 ks w' h h2 rfl h3 rfl (by omega) (by omega) (by omega)
  have KS := fun w' (h : Ints w' b off xs) (h2 : Sl w' (some ⟨b1, 0, none⟩) cs) (h3 : Sl w' (some ⟨b2, 0, none⟩) ks) => sGroupNear_c b off cp xs _ cs.length c1 cs _ ks.length c2 ks w' h h2 rfl h3 rfl (by omega) (by omega) (by omega)
  have KG := fun w' (h : Ints w' b off xs) (h2 : Sl w' (some ⟨b1, 0, none⟩) cs) (h3 : Sl w' (some ⟨b2, 0, none⟩) ks) => sGroupOk_c b off cp xs _ cs.length c1 cs _ ks.length c2 ks w' h h2 rfl h3 rfl (by omega) (by omega) (by omega)
  rw [hP] at KG
  rw [hL] at KI KS
  obtain ⟨NL, hNL⟩ : ∃ NL, L.length = NL := ⟨_, rfl⟩
  have HNL := Lib.hid hNL
  rw [hNL] at hLn
  have HKI := Lib.hid KI
  have HKS := Lib.hid KS
  have HKG := Lib.hid KG
  have HP := Lib.hid hP
  have HL := Lib.hid hL
  clear KI KS KG hNL hP hL
  go_wp2_with fail
  refine Calls.mono (HKI.out _ X.out (Sl.of Y.out) (Sl.of Z.out)) ?_
  intro e wq hh
  obtain ⟨lo9, hi9, p9, u9', rfl, -, hO, hb9⟩ := NewI.get hh
  have Gn := Lib.hid (OwnI.rd hO)
  clear hO hh HKI
  have Tn := Lib.hid (below_next T.out hb9)
  have Xn := Lib.hid (Ints.below X.out hb9)
  have Yn := Lib.hid (Ints.below Y.out hb9)
  have Zn := Lib.hid (Ints.below Z.out hb9)
  clear hb9
  clear T X Y Z
  have T := Tn
  have X := Xn
  have Y := Yn
  have Z := Zn
  clear Tn Xn Yn Zn
  obtain ⟨wn, hwq⟩ : ∃ w0, w0 = wq := ⟨_, rfl⟩
  subst hwq
  have G := Gn
  clear Gn
  rw [HNL.out]
  go_wp2_with fail
  refine Calls.mono (HKS.out _ X.out (Sl.of Y.out) (Sl.of Z.out)) ?_
  intro e wq hh
  obtain ⟨lo8, hi8, p8, u8', rfl, -, hO, hb9⟩ := NewI.get hh
  have Wn := Lib.hid (OwnI.rd hO)
  clear hO hh HKS
  have Tn := Lib.hid (below_next T.out hb9)
  have Xn := Lib.hid (Ints.below X.out hb9)
  have Yn := Lib.hid (Ints.below Y.out hb9)
  have Zn := Lib.hid (Ints.below Z.out hb9)
  have Gn := Lib.hid (Sl.below G.out hb9)
  clear hb9
  clear T X Y Z G
  have T := Tn
  have X := Xn
  have Y := Yn
  have Z := Zn
  have G := Gn
  clear Tn Xn Yn Zn Gn
  obtain ⟨wn, hwq⟩ : ∃ w0, w0 = wq := ⟨_, rfl⟩
  subst hwq
  have W := Wn
  clear Wn
  rw [HNL.out]
  go_wp2_with fail
  refine Calls.mono (sameInts_t p9 NL u9' L p8 u8' _ G.out W.out HNL.out (by omega)) ?_
  intro e wn hh
  obtain ⟨he, hb⟩ := (by first | exact hh | exact Ro.mk hh | exact St.mk hh | exact LawOk.mk' hh : Mk _ _ e wn)
  subst he
  have Tn : Hid (Below w.heap.size w wn) := below_next T.out hb
  have Xn : Hid _ := Ints.below X.out hb
  have Yn : Hid _ := Ints.below Y.out hb
  have Zn : Hid _ := Ints.below Z.out hb
  have Gn : Hid _ := Sl.below G.out hb
  clear hb hh
  clear T X Y Z G
  have T := Tn
  have X := Xn
  have Y := Yn
  have Z := Zn
  have G := Gn
  clear Tn Xn Yn Zn Gn
  clear W
  go_wp2_with fail
  refine Calls.mono (HKG.out _ X.out (Sl.of Y.out) (Sl.of Z.out)) ?_
  intro e wn hh
  obtain ⟨he, hb⟩ := (by first | exact hh | exact Ro.mk hh | exact St.mk hh | exact LawOk.mk' hh : Mk _ _ e wn)
  subst he
  have Tn : Hid (Below w.heap.size w wn) := below_next T.out hb
  have Xn : Hid _ := Ints.below X.out hb
  have Yn : Hid _ := Ints.below Y.out hb
  have Zn : Hid _ := Ints.below Z.out hb
  have Gn : Hid _ := Sl.below G.out hb
  clear hb hh
  clear T X Y Z G
  have T := Tn
  have X := Xn
  have Y := Yn
  have Z := Zn
  have G := Gn
  clear Tn Xn Yn Zn Gn
  clear HKG
  cases P
  case false =>
    obtain rfl : NL = 0 := by
      rw [← HNL.out, ← HL.out, nrv_f fun h => by have := tr_true h; rw [show tr (GOk xs cs ks) = false from HP.out] at this; cases this]; rfl
    go_wp2_with fail
    refine Calls.mono (alive_c _) ?_
    intro e wn hh
    obtain ⟨he, hb⟩ := (by first | exact hh | exact Ro.mk hh | exact St.mk hh | exact LawOk.mk' hh : Mk _ _ e wn)
    subst he
    have Tn : Hid (Below w.heap.size w wn) := below_next T.out hb
    have Xn : Hid _ := Ints.below X.out hb
    have Yn : Hid _ := Ints.below Y.out hb
    have Zn : Hid _ := Ints.below Z.out hb
    have Gn : Hid _ := Sl.below G.out hb
    clear hb hh
    clear T X Y Z G
    have T := Tn
    have X := Xn
    have Y := Yn
    have Z := Zn
    have G := Gn
    clear Tn Xn Yn Zn Gn
    go_wp2_with fail
    go_ret
    first | exact LawOk.mk T.out | exact LawOk.mk (Below.dr T.out _)
  have hg : GOk xs cs ks := tr_t.1 HP.out
  have hgv := nr_gv hg
  rw [HL.out] at hgv
  have hNk : NL = ks.length := by rw [← HNL.out]; exact hgv.2
  have hval : ∀ k, k < NL → nth L k = (nbU (fun c => fw xs (nth cs c) (nth ks k)) cs.length : Int) := fun k hk => by
    rw [← HL.out, nrv_t hg]; exact nrU_nth (by omega)
  have HVAL := Lib.hid hval
  have hc0 := hg.2.1
  have HNK := Lib.hid hNk
  have q3 : ((NL : Int) == (ks.length : Int)) = true := by rw [hNk]; exact beq_self_eq_true _
  clear hg hgv hval hNk
  go_wp2_with fail
  go_loopw [7] (fun v wr => ∃ k : Nat, k ≤ NL ∧ v = .int .i64 k ∧ Below w.heap.size w wr ∧ Ints wr b off xs ∧ Ints wr b1 0 cs ∧ Ints wr b2 0 ks ∧ Sl wr p9 L) (fun v _ => NL - (intOf v).toNat)
  case atStart => exact ⟨0, by omega, rfl, T.out, X.out, Y.out, Z.out, G.out⟩
  case' round =>
    clear T X Y Z G
    obtain ⟨k, hk, rfl, h9T, h9X, h9Y, h9Z, h9G⟩ := hrel
    obtain ⟨wn, hwq⟩ : ∃ w0 : World, w0 = wr := ⟨_, rfl⟩
    rw [← hwq] at h9T h9X h9Y h9Z h9G ⊢
    clear hwq
    have T := Lib.hid h9T
    have X := Lib.hid h9X
    have Y := Lib.hid h9Y
    have Z := Lib.hid h9Z
    have G := Lib.hid h9G
    clear h9T h9X h9Y h9Z h9G
    by_cases hlt : k < NL
    case neg =>
      obtain rfl : k = NL := by omega
      go_wp2_with fail
      go_ret
      first | exact LawOk.mk T.out | exact LawOk.mk (Below.dr T.out _)
    have hki : (k : Int) < (NL : Int) := by omega
    have hkk : k < ks.length := by rw [← HNK.out]; exact hlt
    have hkI : (k : Int) < (ks.length : Int) := by omega
    obtain ⟨m, hm⟩ : ∃ m, nbU (fun c => fw xs (nth cs c) (nth ks k)) cs.length = m := ⟨_, rfl⟩
    have hlm : nth L k = (m : Int) := by rw [HVAL.out k hlt, hm]
    have hmc : m < cs.length := by rw [← hm]; exact nbU_lt _ _ hc0
    have hle := nbU_least (fun c => fw xs (nth cs c) (nth ks k)) cs.length
    have hfi := nbU_first (fun c => fw xs (nth cs c) (nth ks k)) cs.length
    rw [hm] at hle hfi
    obtain ⟨bG, oG, rfl, hIG⟩ := Sl.at G.out (k := k) (by rw [HNL.out]; exact hlt)
    have hmI : (m : Int) < (cs.length : Int) := by omega
    have Y1 := Lib.hid (show wn.cell? ⟨b1, m, none⟩ = some (.int .i64 (nth cs m)) from by have h9 := Y.out m hmc; rwa [Nat.zero_add] at h9)
    have Y2 := Lib.hid (show wn.cell? ⟨b2, k, none⟩ = some (.int .i64 (nth ks k)) from by have h9 := Z.out k hkk; rwa [Nat.zero_add] at h9)
    have Y3 := Lib.hid (show wn.cell? ⟨bG, oG + k, none⟩ = some (.int .i64 (m : Int)) from by have h9 := hIG k (by rw [HNL.out]; exact hlt); rwa [hlm] at h9)
    obtain ⟨D, hD⟩ : ∃ D, fw xs (nth cs m) (nth ks k) = D := ⟨_, rfl⟩
    have K2 := fun w' (h : Ints w' b off xs) => iFloorWay_c b off cp xs (nth cs m) (nth ks k) w' h (by unfold maxLen; omega)
    rw [hD] at K2
    simp only [hD] at hle hfi
    have H2 := Lib.hid K2
    have HLE := Lib.hid hle
    have HFI := Lib.hid hfi
    have HLM := Lib.hid hlm
    clear K2 hm hD hle hfi hIG hlm
    go_upto_region 12 with fail
    refine wp_region_quiet (C := fun w' => Below (World.heap (wn)).size (wn) w') (by kernel_rfl) (by kernel_rfl) (by first | exact ⟨rfl, rfl, rfl, Nat.le_refl _, fun _ _ => rfl⟩ | exact Below.dw (by repeat (first | exact Below.refl _ _ | refine Below.al ?_ _ | refine Below.dr ?_ _ | refine Below.dw ?_ | refine Below.st ?_ (by first | exact Nat.le_refl _ | exact Nat.le_add_right _ _ | (simp; omega)) _ | (refine below_next ?_ (by assumption))))) ?_
    simp only []
    repeat (go_big_quiet_step (first | (intro _; with_reducible exact rfl) | (intro hC; go_at_call 20; have y1 := cell_below Y1.out hC; have y2 := cell_below Y2.out hC; have y3 := cell_below Y3.out hC; (refine Calls.mono (H2.out _ (Ints.below X.out hC)) ?_); (first | (rintro e wx ⟨rfl, hb⟩; exact ⟨rfl, below_next hC hb⟩) | (rintro e wx ⟨rfl, n, rfl⟩; exact ⟨rfl, Below.dr hC n⟩) | (rintro e wx ⟨rfl, rfl⟩; exact ⟨rfl, hC⟩))) | (intro hC; have y1 := cell_below Y1.out hC; have y2 := cell_below Y2.out hC; have y3 := cell_below Y3.out hC; go_simp; rfl)))
    refine wpQuiet_nil ?_
    intro wq hq
    have Tn := Lib.hid (below_next T.out hq)
    have Xn := Lib.hid (Ints.below X.out hq)
    have Yn := Lib.hid (Ints.below Y.out hq)
    have Zn := Lib.hid (Ints.below Z.out hq)
    have Gn := Lib.hid (Sl.below G.out hq)
    clear hq
    clear T X Y Z G
    have T := Tn
    have X := Xn
    have Y := Yn
    have Z := Zn
    have G := Gn
    clear Tn Xn Yn Zn Gn
    obtain ⟨wn, hwq⟩ : ∃ w0, w0 = wq := ⟨_, rfl⟩
    subst hwq
    go_wp2_with fail
    clear Y1 Y2 Y3
    go_loopw [9] (fun u wr => ∃ c : Nat, c ≤ cs.length ∧ u = .int .i64 c ∧ Below w.heap.size w wr ∧ Ints wr b off xs ∧ Ints wr b1 0 cs ∧ Ints wr b2 0 ks ∧ Sl wr (some ⟨bG, oG, none⟩) L) (fun u _ => cs.length - (intOf u).toNat)
    case atStart => exact ⟨0, by omega, rfl, T.out, X.out, Y.out, Z.out, G.out⟩
    case' round =>
      clear T X Y Z G
      obtain ⟨c, hcl, rfl, h9T, h9X, h9Y, h9Z, h9G⟩ := hrel
      obtain ⟨wn, hwq⟩ : ∃ w0 : World, w0 = wr := ⟨_, rfl⟩
      rw [← hwq] at h9T h9X h9Y h9Z h9G ⊢
      clear hwq
      have T := Lib.hid h9T
      have X := Lib.hid h9X
      have Y := Lib.hid h9Y
      have Z := Lib.hid h9Z
      have G := Lib.hid h9G
      clear h9T h9X h9Y h9Z h9G
      by_cases hct : c < cs.length
      case neg =>
        have hci : ¬ (c : Int) < (cs.length : Int) := by omega
        go_wp2_with fail
        go_roundw
        case rel => exact ⟨k + 1, by omega, by go_num, T.out, X.out, Y.out, Z.out, G.out⟩
        case measure => first | (simp [intOf]; done) | (simp [intOf]; omega) | omega
      have hci : (c : Int) < (cs.length : Int) := by omega
      have Y1 := Lib.hid (show wn.cell? ⟨b1, c, none⟩ = some (.int .i64 (nth cs c)) from by have h9 := Y.out c hct; rwa [Nat.zero_add] at h9)
      have Y2 := Lib.hid (show wn.cell? ⟨b2, k, none⟩ = some (.int .i64 (nth ks k)) from by have h9 := Z.out k hkk; rwa [Nat.zero_add] at h9)
      obtain ⟨E, hE⟩ : ∃ E, fw xs (nth cs c) (nth ks k) = E := ⟨_, rfl⟩
      have K3 := fun w' (h : Ints w' b off xs) => iFloorWay_c b off cp xs (nth cs c) (nth ks k) w' h (by unfold maxLen; omega)
      rw [hE] at K3
      have H3 := Lib.hid K3
      have hDE : ¬ E < D := by have := HLE.out c hct; rw [hE] at this; omega
      have hcm : c < m → (E == D) = false := fun h => beq_false_of_ne (by have := HFI.out c h; rw [hE] at this; omega)
      have HCM := Lib.hid hcm
      clear K3 hE hcm
      go_upto_region 16 with fail
      refine wp_region_quiet (C := fun w' => Below (World.heap (wn)).size (wn) w') (by kernel_rfl) (by kernel_rfl) (by first | exact ⟨rfl, rfl, rfl, Nat.le_refl _, fun _ _ => rfl⟩ | exact Below.dw (by repeat (first | exact Below.refl _ _ | refine Below.al ?_ _ | refine Below.dr ?_ _ | refine Below.dw ?_ | refine Below.st ?_ (by first | exact Nat.le_refl _ | exact Nat.le_add_right _ _ | (simp; omega)) _ | (refine below_next ?_ (by assumption))))) ?_
      simp only []
      repeat (go_big_quiet_step (first | (intro _; with_reducible exact rfl) | (intro hC; go_at_call 20; have y1 := cell_below Y1.out hC; have y2 := cell_below Y2.out hC; (refine Calls.mono (H3.out _ (Ints.below X.out hC)) ?_); (first | (rintro e wx ⟨rfl, hb⟩; exact ⟨rfl, below_next hC hb⟩) | (rintro e wx ⟨rfl, n, rfl⟩; exact ⟨rfl, Below.dr hC n⟩) | (rintro e wx ⟨rfl, rfl⟩; exact ⟨rfl, hC⟩))) | (intro hC; have y1 := cell_below Y1.out hC; have y2 := cell_below Y2.out hC; go_simp; rfl)))
      refine wpQuiet_nil ?_
      intro wq hq
      have Tn := Lib.hid (below_next T.out hq)
      have Xn := Lib.hid (Ints.below X.out hq)
      have Yn := Lib.hid (Ints.below Y.out hq)
      have Zn := Lib.hid (Ints.below Z.out hq)
      have Gn := Lib.hid (Sl.below G.out hq)
      clear hq
      clear T X Y Z G
      have T := Tn
      have X := Xn
      have Y := Yn
      have Z := Zn
      have G := Gn
      clear Tn Xn Yn Zn Gn
      obtain ⟨wn, hwq⟩ : ∃ w0, w0 = wq := ⟨_, rfl⟩
      subst hwq
      have y3 : wn.cell? ⟨bG, oG + k, none⟩ = some (.int .i64 (m : Int)) := by have h9 := Sl.cell G.out (k := k) (by rw [HNL.out]; exact hlt); rwa [HLM.out] at h9
      by_cases h9 : c < m
      · have q4 := HCM.out h9
        have h9i : (c : Int) < (m : Int) := by omega
        go_wp2_with fail
        go_roundw
        case rel => exact ⟨c + 1, by omega, by go_num, T.out, X.out, Y.out, Z.out, G.out⟩
        case measure => first | (simp [intOf]; done) | (simp [intOf]; omega) | omega
      · have h9i : ¬ (c : Int) < (m : Int) := by omega
        go_wp2_with fail
        go_roundw
        case rel => exact ⟨c + 1, by omega, by go_num, T.out, X.out, Y.out, Z.out, G.out⟩
        case measure => first | (simp [intOf]; done) | (simp [intOf]; omega) | omega
end Go.Proofs.Ytgiioponimiddaa
