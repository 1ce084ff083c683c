/- The law of TourWork: the walk. -/
import Derived.Test.Ytaipbfagiiclnaa6L
import Derived.Test.YtaipbfagiiclnaaGL
namespace Go.Proofs.Ytaipbfagiiclnaa
open Go.RowKit
set_option linter.unusedVariables false
attribute [local go_sem] evOf_tmp evOf_const evOf_func evOf_global

theorem Ints.one {w : World} {h : Nat} {x : Int} (hc : w.cell? ⟨h, 0, none⟩ = some (.int .i64 x)) : Ints w h 0 [x] := fun i hi => by
  have hi1 : i < 1 := hi
  obtain rfl : i = 0 := by omega
  exact hc
set_option maxHeartbeats 2000000 in
theorem TourWork_w (a : Option Addr) (n cap : Nat) (w : World) (hb : Byt w a n) (hn : n ≤ cap) (hcap : cap ≤ maxLen) :
    Calls Try.prog 7 #[.slice a n cap] w (LawOk w) := by
  obtain ⟨i0, hi, hz0, hz1, hz2⟩ := info_parts infoInt
  have hcap' := hcap
  unfold maxLen at hcap'
  by_cases bign : 1048576 < n
  · go_enter Try.func7, Try.ntmps7
    go_wp2_with fail
    go_ret
    exact LawOk.mk (Below.refl _ _)
  go_enter Try.func7, Try.ntmps7
  go_wp2_with fail
  refine (DrawTourWork_c a n cap _ hb hn hcap).mono ?_
  rintro e wn ⟨b, off, cp, xs, b1, c1, ss, b2, c2, ls, rfl, hx, hss, hls, ⟨hc1, hm1⟩, ⟨hc2, hm2⟩, hs1, hI, hI1, hI2, hB⟩
  have T : Hid _ := hB
  have X : Hid _ := hI
  have S : Hid _ := hI1
  have L : Hid _ := hI2
  clear hB hb hI hI1 hI2
  have hm : xs.length ≤ maxLen := by unfold maxLen; omega
  have hm1' := hm1
  have hm2' := hm2
  unfold maxLen at hm1' hm2'
  go_wp2_with fail
  refine Calls.mono (iTourWork_c b off cp xs b1 0 _ c1 ss b2 0 _ c2 ls _ X.out hm S.out rfl (by omega) L.out rfl (by omega)) ?_
  intro e wn hh
  obtain ⟨he, hb⟩ := (by first | exact hh | exact Ro.mk hh | exact St.mk hh | exact LawOk.mk' hh : Mk _ _ e wn)
  subst he
  have Tn : Hid (Below w.heap.size w wn) := below_next T.out hb
  have Xn : Hid _ := Ints.below X.out hb
  have Sn : Hid _ := Ints.below S.out hb
  have Ln : Hid _ := Ints.below L.out hb
  clear hb hh
  clear T X S L
  have T := Tn
  have X := Xn
  have S := Sn
  have L := Ln
  clear Tn Xn Sn Ln
  go_wp2_with fail
  refine Calls.mono (sTourWork_c b off cp xs b1 0 _ c1 ss b2 0 _ c2 ls _ X.out hm S.out rfl (by omega) L.out rfl (by omega)) ?_
  intro e wn hh
  obtain ⟨he, hb⟩ := (by first | exact hh | exact Ro.mk hh | exact St.mk hh | exact LawOk.mk' hh : Mk _ _ e wn)
  subst he
  have Tn : Hid (Below w.heap.size w wn) := below_next T.out hb
  have Xn : Hid _ := Ints.below X.out hb
  have Sn : Hid _ := Ints.below S.out hb
  have Ln : Hid _ := Ints.below L.out hb
  clear hb hh
  clear T X S L
  have T := Tn
  have X := Xn
  have S := Sn
  have L := Ln
  clear Tn Xn Sn Ln
  by_cases hv : UV xs ss ls
  case neg =>
    rw [uw_bad hv, uvB_f hv]
    clear hv
    go_wp2_with fail
    refine Calls.mono (alive_c _) ?_
    intro e wn hh
    obtain ⟨he, hb⟩ := (by first | exact hh | exact Ro.mk hh | exact St.mk hh | exact LawOk.mk' hh : Mk _ _ e wn)
    subst he
    have Tn : Hid (Below w.heap.size w wn) := below_next T.out hb
    have Xn : Hid _ := Ints.below X.out hb
    have Sn : Hid _ := Ints.below S.out hb
    have Ln : Hid _ := Ints.below L.out hb
    clear hb hh
    clear T X S L
    have T := Tn
    have X := Xn
    have S := Sn
    have L := Ln
    clear Tn Xn Sn Ln
    go_wp2_with fail
    go_ret
    first | exact LawOk.mk T.out | exact LawOk.mk (Below.dr T.out _)
  have hl := hv.1
  rw [uvB_t hv, uw_ok hv]
  obtain ⟨h, hh⟩ : ∃ h, ls.length / 2 = h := ⟨_, rfl⟩
  have hhI : (ls.length : Int) / 2 = (h : Int) := by omega
  have hhl : h ≤ ls.length := by omega
  have e1 := (UV.take hv hhl).2
  have f1 := uvB_t (UV.take hv hhl).1
  have e2 := (UV.drop hv hhl).2
  have f2 := uvB_t (UV.drop hv hhl).1
  have bz := su_bd xs ss ls ls.length
  have bp := su_bd xs ss ls h
  obtain ⟨z, hz⟩ : ∃ z, su xs ss ls ls.length = z := ⟨_, rfl⟩
  obtain ⟨p, hp⟩ : ∃ p, su xs ss ls h = p := ⟨_, rfl⟩
  obtain ⟨q, hq⟩ : ∃ q, z - p = q := ⟨_, rfl⟩
  rw [hz] at e2 bz ⊢
  rw [hp] at e1 e2 bp
  rw [hq] at e2
  have t2 : (p + q == z) = true := by rw [beq_iff_eq]; omega
  have hne1 : c1 ≠ h := by omega
  have K1 : Hid (∀ w', Ints w' b off xs → Ints w' b1 0 ss → Ints w' b2 0 ls → Calls Try.prog 28 #[.slice (some ⟨b, off, none⟩) xs.length cp, .slice (some ⟨b1, 0, none⟩) (h + 1) c1, .slice (some ⟨b2, 0, none⟩) h c2] w' (Ro w' (.tuple #[.int .i64 p, .bool true]))) := fun w' h1 h2 h3 => by
    have := iTourWork_c b off cp xs b1 0 (h + 1) c1 (ss.take (h + 1)) b2 0 h c2 (ls.take h) w' h1 hm (h2.take _) (by simp; omega) (by simp; omega) (h3.take _) (by simp; omega) (by simp; omega)
    rw [e1, f1] at this; exact this
  have K2 : Hid (∀ A, (c2 = h ∧ A = 0 ∨ c2 ≠ h ∧ A = 0 + h) → ∀ w', Ints w' b off xs → Ints w' b1 0 ss → Ints w' b2 0 ls → Calls Try.prog 28 #[.slice (some ⟨b, off, none⟩) xs.length cp, .slice (some ⟨b1, h, none⟩) (ss.length - h) (c1 - h), .slice (some ⟨b2, A, none⟩) (ls.length - h) (c2 - h)] w' (Ro w' (.tuple #[.int .i64 q, .bool true]))) := fun A hA w' h1 h2 h3 => by
    have h4 : Ints w' b2 A (ls.drop h) := by
      rcases hA with ⟨h5, rfl⟩ | ⟨_, rfl⟩
      · intro i hi; simp at hi; omega
      · exact h3.drop h
    have := iTourWork_c b off cp xs b1 h (ss.length - h) (c1 - h) (ss.drop h) b2 A (ls.length - h) (c2 - h) (ls.drop h) w' h1 hm (h2.drop0 _) (by simp) (by simp; omega) h4 (by simp) (by simp; omega)
    rw [e2, f2] at this; exact this
  have RV : Hid _ := fun y hy hy7 => UV.round (y := y) hv hy hy7
  clear e1 e2 f1 f2 hz hp hv
  have r1 : h + 1 ≤ c1 := by omega
  have r2 : h ≤ c2 := by omega
  have r3 : h ≤ ss.length := by omega
  clear hl
  go_wp2_with fail
  go_quiet ((go_at_call 28; (first | exact Calls.quiet_of (K1.out _ X.out S.out L.out) | exact quiet_sum (K1.out _ X.out S.out L.out))))
  have Tn : Hid (Below w.heap.size w (World.drewN wn nq)) := Below.dr T.out nq
  have Xn : Hid _ := Ints.below X.out (below_drewN' nq)
  have Sn : Hid _ := Ints.below S.out (below_drewN' nq)
  have Ln : Hid _ := Ints.below L.out (below_drewN' nq)
  clear T X S L
  generalize hwq : World.drewN wn nq = wq at *
  clear hwq
  have T := Tn
  have X := Xn
  have S := Sn
  have L := Ln
  clear Tn Xn Sn Ln
  obtain ⟨wn, hwq⟩ : ∃ w0, w0 = wq := ⟨_, rfl⟩
  subst hwq
  clear K1
  rcases Classical.em (c2 = h) with e | e
  all_goals
    first
      | (have K := K2.out 0 (.inl ⟨e, rfl⟩); have z1 : ls = [] := List.eq_nil_of_length_eq_zero (by omega); have z2 : h = 0 := (by omega); have z3 : c2 = 0 := (by omega); clear e; subst z1; subst z2; subst z3; simp only [Nat.sub_self, Nat.sub_zero, List.length_nil] at K; have HK : Hid _ := fun m => K (wn.drewN m) (Ints.below X.out (below_drewN' m)) (Ints.below S.out (below_drewN' m)) (Ints.below L.out (below_drewN' m)); clear K K2)
      | (have K := K2.out (0 + h) (.inr ⟨e, rfl⟩); simp only [Nat.zero_add] at K; have HK : Hid _ := fun m => K (wn.drewN m) (Ints.below X.out (below_drewN' m)) (Ints.below S.out (below_drewN' m)) (Ints.below L.out (below_drewN' m)); clear K K2)
    go_wp2_with fail
    go_quiet ((go_at_call 28; with_reducible exact Calls.quiet_of (HK.out _)))
    have Tn : Hid (Below w.heap.size w (World.drewN wn nq)) := Below.dr T.out nq
    have Xn : Hid _ := Ints.below X.out (below_drewN' nq)
    have Sn : Hid _ := Ints.below S.out (below_drewN' nq)
    have Ln : Hid _ := Ints.below L.out (below_drewN' nq)
    clear T X S L
    generalize hwq : World.drewN wn nq = wq at *
    clear hwq
    have T := Tn
    have X := Xn
    have S := Sn
    have L := Ln
    clear Tn Xn Sn Ln
    obtain ⟨wn, hwq⟩ : ∃ w0, w0 = wq := ⟨_, rfl⟩
    subst hwq
    clear HK
    clear L
    go_wp2_with fail
    refine wp_region_grows [84, 85, 86, 87, 88, 89, 90, 91, 15] [15] [7] [86, 90, 91, 15] [(4, tV (.slice (some ⟨b1, 0, none⟩) ss.length c1))] [(84, tE), (85, tV (.slice (some ⟨b1, 0, none⟩) ss.length c1)), (86, tO wn.heap.size ss), (87, tV (.slice (some ⟨b1, 0, none⟩) ss.length c1)), (88, tV (.pointer (some ⟨b1, 0, none⟩))), (89, tV (.int .i64 (nth ss 0))), (90, tN wn.heap.size (nth ss 0)), (91, tO wn.heap.size (ss ++ [nth ss 0])), (15, tO wn.heap.size (ss ++ [nth ss 0]))]
      (by kernel_rfl) (by kernel_rfl) (by kernel_rfl) (by kernel_rfl) (by kernel_rfl) ?hst ?hsx (by kernel_rfl) ⟨rfl, trivial⟩ ?hobs ?_
    case hst => exact ⟨StW.g (StW.V _), StW.g StW.E, StW.g (StW.V _), StGrow.O _ _, StW.g (StW.V _), StW.g (StW.V _), StW.g (StW.V _), StGrow.N wn.heap.size _, StGrow.O _ _, StGrow.O _ _, trivial⟩
    case hsx => exact ⟨.inr (StW.V _), .inr StW.E, .inr (StW.V _), .inl rfl, .inr (StW.V _), .inr (StW.V _), .inr (StW.V _), .inl rfl, .inl rfl, .inl rfl, trivial⟩
    case hobs =>
      refine ⟨?_, ?_, ?_, ?_, ?_, ?_, ?_, ?_, ?_, trivial⟩
      · intro k w vs hk hC hL
        go_simp
        exact bc_alloc hC (by first | exact Grow.al _ _ | exact .inr (Grow.al _ _)) (show tE _ (World.alloc w (.cells #[] 3)) from ⟨_, rfl⟩)
      · intro k w vs hk hC hL
        have ha := hL 4 (List.mem_of_elem_eq_true (by kernel_rfl))
        replace ha : tV (.slice (some ⟨b1, 0, none⟩) ss.length c1) (vs 4) w := ha
        go_simp
        exact bc_pure hC (by first | exact Grow.refl _ | exact .inr (Grow.refl _)) (show tV (.slice (some ⟨b1, 0, none⟩) ss.length c1) (vs 4) w from ha)
      · intro k w vs hk hC hL
        have ha := hL 84 (List.mem_of_elem_eq_true (by kernel_rfl))
        have hb := hL 85 (List.mem_of_elem_eq_true (by kernel_rfl))
        replace ha : tE (vs 84) w := ha
        replace hb : vs 85 = .slice (some ⟨b1, 0, none⟩) ss.length c1 := hb
        obtain ⟨h, ha⟩ := ha
        exact bc_append_new (.tmp 84) (.tmp 85) rfl hC ha hb (Ints.cells (Ints.below S.out hC)) (by omega) (by omega) (fun w' h => .inr h) (fun v w' h d hd => by cases hd; exact h)
      · intro k w vs hk hC hL
        have ha := hL 4 (List.mem_of_elem_eq_true (by kernel_rfl))
        replace ha : tV (.slice (some ⟨b1, 0, none⟩) ss.length c1) (vs 4) w := ha
        go_simp
        exact bc_pure hC (by first | exact Grow.refl _ | exact .inr (Grow.refl _)) (show tV (.slice (some ⟨b1, 0, none⟩) ss.length c1) (vs 4) w from ha)
      · intro k w vs hk hC hL
        have ha := hL 87 (List.mem_of_elem_eq_true (by kernel_rfl))
        replace ha : vs 87 = .slice (some ⟨b1, 0, none⟩) ss.length c1 := ha
        have h0 : 0 < ss.length := by omega
        go_simp
        exact bc_pure hC (by first | exact Grow.refl _ | exact .inr (Grow.refl _)) (show tV _ _ w from rfl)
      · intro k w vs hk hC hL
        have ha := hL 88 (List.mem_of_elem_eq_true (by kernel_rfl))
        replace ha : vs 88 = .pointer (some ⟨b1, 0, none⟩) := ha
        have cc := Ints.below S.out hC 0 (by omega)
        simp only [Nat.add_zero] at cc
        go_simp
        exact bc_pure hC (by first | exact Grow.refl _ | exact .inr (Grow.refl _)) (show tV _ _ w from rfl)
      · intro k w vs hk hC hL
        have ha := hL 89 (List.mem_of_elem_eq_true (by kernel_rfl))
        replace ha : vs 89 = .int .i64 (nth ss 0) := ha
        go_simp
        exact bc_alloc hC (by first | exact Grow.al _ _ | exact .inr (Grow.al _ _)) (show tN wn.heap.size (nth ss 0) _ (World.alloc w (.cells #[.int .i64 (nth ss 0)] 3)) from ⟨_, rfl, by rw [World.cell?_alloc_at _ _ _ _ rfl]; rfl⟩)
      · intro k w vs hk hC hL
        have ha := hL 86 (List.mem_of_elem_eq_true (by kernel_rfl))
        have hb := hL 90 (List.mem_of_elem_eq_true (by kernel_rfl))
        replace ha : tO wn.heap.size ss (vs 86) w := ha
        replace hb : tN wn.heap.size (nth ss 0) (vs 90) w := hb
        obtain ⟨h, hb, hc⟩ := hb
        exact bc_append_own (xs := [nth ss 0]) (.tmp 86) (.tmp 90) rfl hC rfl ha hb (Ints.cells (Ints.one hc)) (by simp; omega) (fun w' => .inl rfl) (fun v w' h d hd => by cases hd; exact h)
      · intro k w vs hk hC hL
        have ha := hL 91 (List.mem_of_elem_eq_true (by kernel_rfl))
        replace ha : tO wn.heap.size (ss ++ [nth ss 0]) (vs 91) w := ha
        go_simp
        exact bc_pure hC (by first | exact Grow.refl _ | exact .inr (Grow.refl _)) (show tO wn.heap.size (ss ++ [nth ss 0]) (vs 91) w from ha)
    intro vs wn hBl hT
    have O15 := hT 15 (by kernel_rfl)
    replace O15 : tO _ (ss ++ [nth ss 0]) (vs 15) wn := O15
    have Tn : Hid (Below w.heap.size w wn) := below_next T.out hBl
    have Xn : Hid _ := Ints.below X.out hBl
    simp (decide := true) only [over, Nat.reduceAdd, if_true, if_false]
    obtain ⟨b3, c3, e3, _, hb3, I3, hl3, hm3⟩ := Own.some O15.1 O15.2
    have N : Hid (Ints wn b3 0 (ss ++ [nth ss 0])) := I3
    rw [e3]
    clear hT O15 hBl T X S e3 I3
    have T := Tn
    have X := Xn
    clear Tn Xn
    have hwB := T.out.size
    have hbB := Ints.lt X.out
    have hWB := T.out.size
    obtain ⟨B, hB⟩ : ∃ B, Array.size (World.heap wn) = B := ⟨_, rfl⟩
    have HB : Hid _ := hB
    rw [hB] at hWB
    have Y : Hid (Own (wn.alloc (.cells #[] 3)) B (.slice (some ⟨B, 0, none⟩) 0 0) []) := by rw [← hB]; exact Own.none
    clear hB
    have Tn : Hid (Below w.heap.size w _) := Below.al T.out (.cells #[] 3)
    have Xn : Hid _ := Ints.below X.out ((Below.refl _ _).alloc (Nat.le_refl _) (.cells #[] 3))
    have Nn : Hid _ := Ints.below N.out ((Below.refl _ _).alloc (Nat.le_refl _) (.cells #[] 3))
    clear T X N
    have T := Tn
    have X := Xn
    have N := Nn
    clear Tn Xn Nn
    rw [HB.out] at hwB hbB hb3
    go_wp2_with fail
    rw [HB.out]
    simp only [List.length_nil, List.length_append, List.length_cons, Nat.zero_add, Int.natCast_zero, Int.zero_add]
    go_loopw [16, 17] (fun vy vk wr => ∃ (ys : List Int), vk = .int .i64 ys.length ∧ ys.length ≤ ss.length ∧ (∀ i, i < ys.length → nth ys i = 7) ∧ Own wr B vy ys ∧ vy ≠ .slice none 0 0 ∧ Ints wr b off xs ∧ Ints wr b3 0 (ss ++ [nth ss 0]) ∧ Below w.heap.size w wr) (fun _ vk _ => ss.length - (intOf vk).toNat)
    case atStart => exact ⟨[], rfl, by simp, by simp, Y.out, by simp, X.out, N.out, T.out⟩
    case round =>
      clear Y X N T
      obtain ⟨ys, rfl, hk, hy7, h1, h2, h3, h4, h5⟩ := hrel
      have Y : Hid _ := h1
      have NY : Hid _ := h2
      have X : Hid _ := h3
      have N : Hid _ := h4
      have T : Hid _ := h5
      have Y7 : Hid _ := hy7
      clear h1 h2 h3 h4 h5 hy7
      by_cases hlt : ys.length < ss.length
      · skip
        go_wp2_with ((at_builtin; refine wpList_append_own_at _ rfl _ _ 23 rfl B 3 i0 (.int .i64 0) 1 8 Try.underlying23 hi hz0 hz1 hz2 rfl (by decide) _ _ _ rfl (Own.alloc Y.out _) _ 1 1 [.int .i64 (7)] rfl rfl ?c1 ?c2 ?c3 ?c4 ?c5 ?_))
        case c1 => exact cell_one_new _ _ _
        case c2 => intro u hu; simp at hu; subst hu; rfl
        case c3 => unfold maxLen; omega
        case c4 => omega
        case c5 => exact Own.base (Own.alloc Y.out _) NY.out
        intro v1 wn hown hgrow hnil hat
        have lt5 := Own.lt Y.out
        have Yn : Hid (Own wn B v1 (ys ++ [7])) := Own.snoc hown
        have NYn : Hid (v1 ≠ .slice none 0 0) := (by first | exact hnil | exact fun e => absurd (hnil.1 e).2 (by simp) | exact fun e => absurd (hnil.1 e).1 (by simp))
        have Tn : Hid (Below w.heap.size w _) := Below.own (Below.al T.out _) hgrow (fun i e => by have := lt5 i e; omega)
        have Xn : Hid _ := Ints.gr (Ints.al X.out _) hgrow (fun i e h0 => by have := lt5 i e; omega)
        have Nn : Hid _ := Ints.gr (Ints.al N.out _) hgrow (fun i e h0 => by have := lt5 i e; omega)
        clear hown hgrow lt5 hnil hat
        clear Y NY T X N
        have Y := Yn
        have NY := NYn
        have T := Tn
        have X := Xn
        have N := Nn
        clear Yn NYn Tn Xn Nn
        go_wp2_with fail
        go_roundw
        case rel => exact ⟨ys ++ [7], by simp, by simp; omega, nth_snoc (P := fun x => x = 7) Y7.out rfl, Y.out, NY.out, X.out, N.out, T.out⟩
        case measure => simp [intOf]; omega
      · have hky : ys.length = ss.length := by omega
        have hltI : ¬ (ys.length : Int) < (ss.length : Int) := by omega
        obtain ⟨b4, c4, rfl, _, _, i4, l4, m4⟩ := Own.some Y.out NY.out
        have M : Hid _ := i4
        obtain ⟨rv1, rv2⟩ := RV.out ys hky Y7.out
        have f3 := uvB_t rv1
        have K : Hid _ := iTourWork_c b off cp xs b3 0 (ss.length + 1) c3 (ss ++ [nth ss 0]) b4 0 ys.length c4 ys wr X.out hm N.out (by simp) (by simp; omega) M.out rfl (by omega)
        rw [rv2, f3] at K
        clear i4 rv1 rv2 f3 hky
        clear Y
        go_wp2_with fail
        refine Calls.mono (K.out) ?_
        intro e wn hh
        obtain ⟨he, hb⟩ := (by first | exact hh | exact Ro.mk hh | exact St.mk hh | exact LawOk.mk' hh : Mk _ _ e wn)
        subst he
        have Tn : Hid (Below w.heap.size w wn) := below_next T.out hb
        have Xn : Hid _ := Ints.below X.out hb
        have Nn : Hid _ := Ints.below N.out hb
        clear hb hh
        clear T X N
        have T := Tn
        have X := Xn
        have N := Nn
        clear Tn Xn Nn
        go_wp2_with fail
        go_ret
        first | exact LawOk.mk T.out | exact LawOk.mk (Below.dr T.out _)
end Go.Proofs.Ytaipbfagiiclnaa
