/- The law of WorstLay: the walk. -/
import Derived.Test.Ytahfkeogfoejmaa7M
namespace Go.Proofs.Ytahfkeogfoejmaa
open Go.RowKit
set_option linter.unusedVariables false

theorem ext_nth {xs ys : List Int} (hl : ys.length = xs.length) (h : ∀ i, i < ys.length → nth ys i = nth xs i) : ys = xs := by
  refine List.ext_getElem hl fun i h1 h2 => ?_
  have := h i h1
  rwa [nth_eq h1, nth_eq h2] at this
theorem nth_app {xs : List Int} {x : Int} {i : Nat} (h : i ≤ xs.length) : nth (xs ++ [x]) i = if i = xs.length then x else nth xs i := by
  by_cases c : i = xs.length
  · subst c; simp [nth, List.getD]
  · rw [if_neg c]; simp [nth, List.getD, List.getElem?_append, show i < xs.length by omega]
set_option maxHeartbeats 2000000 in
theorem WorstLay_w (a : Option Addr) (n cap : Nat) (w : World) (hb : Byt w a n) (hn : n ≤ cap) (hcap : cap ≤ maxLen) :
    Calls Try.prog 4 #[.slice a n cap] w (LawOk w) := by
  obtain ⟨i0, hi, hz0, hz1, hz2⟩ := info_parts infoInt
  have hcap' := hcap
  unfold maxLen at hcap'
  by_cases bign : 1048576 < n
  · go_enter Try.func4, Try.ntmps4
    go_wp2_with fail
    go_ret
    exact LawOk.mk (Below.refl _ _)
  go_enter Try.func4, Try.ntmps4
  go_wp2_with fail
  refine (DrawWorstLay_c a n cap _ hb hn hcap).mono ?_
  rintro e wn ⟨b, cp, xs, rfl, hx, hcl, hcm, hI, hB⟩
  have T : Hid _ := hB
  have X : Hid _ := hI
  clear hB hb hI
  have hcm' := hcm
  unfold maxLen at hcm'
  go_wp2_with fail
  refine Calls.mono (iWorstLay_c b 0 _ cp xs _ X.out rfl (by omega)) ?_
  intro e wn hh
  obtain ⟨he, hb⟩ := (by first | exact hh | exact Ro.mk hh | exact St.mk hh | exact LawOk.mk' hh : Mk _ _ e wn)
  subst he
  have Tn : Hid (Below w.heap.size w wn) := below_next T.out hb
  have Xn : Hid _ := Ints.below X.out hb
  clear hb hh
  clear T X
  have T := Tn
  have X := Xn
  clear Tn Xn
  go_wp2_with fail
  refine Calls.mono (sWorstLay_c b 0 _ cp xs _ X.out rfl (by omega)) ?_
  intro e wn hh
  obtain ⟨he, hb⟩ := (by first | exact hh | exact Ro.mk hh | exact St.mk hh | exact LawOk.mk' hh : Mk _ _ e wn)
  subst he
  have Tn : Hid (Below w.heap.size w wn) := below_next T.out hb
  have Xn : Hid _ := Ints.below X.out hb
  clear hb hh
  clear T X
  have T := Tn
  have X := Xn
  clear Tn Xn
  by_cases hv : RV xs
  case neg =>
    rw [wst_bad hv]
    clear hv
    go_wp2_with fail
    refine Calls.mono (alive_c _) ?_
    intro e wn hh
    obtain ⟨he, hb⟩ := (by first | exact hh | exact Ro.mk hh | exact St.mk hh | exact LawOk.mk' hh : Mk _ _ e wn)
    subst he
    have Tn : Hid (Below w.heap.size w wn) := below_next T.out hb
    have Xn : Hid _ := Ints.below X.out hb
    clear hb hh
    clear T X
    have T := Tn
    have X := Xn
    clear Tn Xn
    go_wp2_with fail
    go_ret
    first | exact LawOk.mk T.out | exact LawOk.mk (Below.dr T.out _)
  have x0 := wst_nn hv
  have x1 := (wst_bd xs).2
  have HV : Hid _ := hv
  have HO : Hid _ := (wst_ok hv).2
  have HR : Hid _ := wst_rev hv
  have HT : Hid _ := wst_take hv (xs.length / 2)
  clear hv
  obtain ⟨x, hx'⟩ : ∃ x, wst xs = x := ⟨_, rfl⟩
  rw [hx'] at x0 x1 HO HR HT ⊢
  clear hx'
  have hbB := Ints.lt X.out
  have hWB := T.out.size
  obtain ⟨B, hB⟩ : ∃ B, Array.size (World.heap wn) = B := ⟨_, rfl⟩
  have HB : Hid _ := hB
  rw [hB] at hWB
  have Y : Hid (Own (wn.alloc (.cells #[] 3)) B (.slice (some ⟨B, 0, none⟩) 0 0) []) := by rw [← hB]; exact Own.none
  clear hB
  have Tn : Hid (Below w.heap.size w _) := Below.al T.out (.cells #[] 3)
  have Xn : Hid _ := Ints.below X.out ((Below.refl _ _).alloc (Nat.le_refl _) (.cells #[] 3))
  clear T X
  have T := Tn
  have X := Xn
  clear Tn Xn
  rw [HB.out] at hbB
  go_wp2_with fail
  rw [HB.out]
  go_loopw [5, 6] (fun vy vk wr => ∃ (ys : List Int) (z : Int), vk = .int .i64 z ∧ -1 ≤ z ∧ z + 1 + ys.length = xs.length ∧ (∀ i, i < ys.length → nth ys i = nth xs (xs.length - 1 - i)) ∧ Own wr B vy ys ∧ vy ≠ .slice none 0 0 ∧ Ints wr b 0 xs ∧ Below w.heap.size w wr) (fun _ vk _ => (intOf vk + 1).toNat)
  case atStart => exact ⟨[], _, rfl, by omega, by simp, by simp, Y.out, by simp, X.out, T.out⟩
  case round =>
    clear Y X T HB
    obtain ⟨ys, z, rfl, z0, hk, hys, h1, h2, h3, h4⟩ := hrel
    have Y : Hid _ := h1
    have NY : Hid _ := h2
    have X : Hid _ := h3
    have T : Hid _ := h4
    have YS : Hid _ := hys
    clear h1 h2 h3 h4 hys
    by_cases hz : 0 ≤ z
    · obtain ⟨j, rfl⟩ := Int.eq_ofNat_of_zero_le hz
      have hj : j < xs.length := by omega
      have hjI : (j : Int) < (xs.length : Int) := by omega
      have c1 : wr.cell? ⟨b, j, none⟩ = some (.int .i64 (nth xs j)) := by have := X.out j hj; simpa using this
      have hly25 : ys.length ≤ 25 := by omega
      go_wp2_with ((at_builtin; refine wpList_append_wanted rfl _ _ 23 rfl B 3 i0 (.int .i64 0) 1 8 Try.underlying23 hi hz0 hz1 hz2 rfl (by decide) _ _ _ rfl (Own.alloc Y.out _) _ 1 1 [.int .i64 ((nth xs j))] rfl rfl ?c1 ?c2 ?c3 ?c4 ?c5 ?_))
      case c1 => exact cell_one_new _ _ _
      case c2 => intro u hu; simp at hu; subst hu; rfl
      case c3 => unfold maxLen; omega
      case c4 => omega
      case c5 => exact Own.base (Own.alloc Y.out _) NY.out
      intro v1 wn hown hgrow hnil hat
      have lt5 := Own.lt Y.out
      have Yn : Hid (Own wn B v1 (ys ++ [(nth xs j)])) := Own.snoc hown
      have NYn : Hid (v1 ≠ .slice none 0 0) := (by first | exact hnil | exact fun e => absurd (hnil.1 e).2 (by simp) | exact fun e => absurd (hnil.1 e).1 (by simp))
      have Tn : Hid (Below w.heap.size w _) := Below.own (Below.al T.out _) hgrow (fun i e => by have := lt5 i e; omega)
      have Xn : Hid _ := Ints.gr (Ints.al X.out _) hgrow (fun i e h0 => by have := lt5 i e; omega)
      clear hown hgrow lt5 hnil hat
      clear Y NY T X
      have Y := Yn
      have NY := NYn
      have T := Tn
      have X := Xn
      clear Yn NYn Tn Xn
      go_wp2_with fail
      go_roundw
      case rel => exact ⟨ys ++ [nth xs j], j - 1, by go_num, by omega, by simp; omega, fun i hi => by
        have hi2 : i ≤ ys.length := by simp at hi; omega
        rw [nth_app hi2]
        split
        · rename_i e; first | (congr 1; omega) | (congr 1)
        · exact YS.out i (by omega), Y.out, NY.out, X.out, T.out⟩
      case measure => first | (simp [intOf]; done) | (simp [intOf]; omega)
    · obtain rfl : z = -1 := by omega
      have hly : ys.length = xs.length := by omega
      have hrev : ys = xs.reverse := ext_nth (by simpa using hly) (fun i hi => by rw [YS.out i hi, nth_rev xs (by omega)])
      obtain ⟨b3, c3, rfl, _, _, i3, l3, m3⟩ := Own.some Y.out NY.out
      have M : Hid _ := i3
      clear i3 Y NY YS hk
      have hyb : ys.length ≤ 25 := by omega
      go_wp2_with fail
      go_loopw [7] (fun v wr => ∃ k : Nat, v = .int .i64 k ∧ k ≤ xs.length ∧ Ints wr b3 0 ys ∧ Ints wr b 0 xs ∧ Below w.heap.size w wr) (fun v _ => xs.length - (intOf v).toNat)
      case atStart => exact ⟨0, rfl, by omega, M.out, X.out, T.out⟩
      case round =>
        clear M X T
        obtain ⟨k, rfl, hk, h1, h2, h3⟩ := hrel
        have M : Hid _ := h1
        have X : Hid _ := h2
        have T : Hid _ := h3
        clear h1 h2 h3
        by_cases hlt : k + 4 ≤ xs.length
        · have hltI : (k : Int) + 4 ≤ (xs.length : Int) := by omega
          have hne : cp ≠ k := by omega
          have hkc : k + 4 ≤ cp := by omega
          have K := sumOf_c b k 4 (cp - k) ((xs.drop k).take 4) wr (Ints.take (Ints.drop0 X.out k) 4) (by simp; omega) (by simp; omega) (fun i hi => by
            have hi2 : i < 4 := by simp at hi; omega
            rw [nth_take _ hi2, nth_drop]
            have := HV.out.2 (k + i) (by omega)
            omega)
          rw [show ((xs.drop k).take 4).length = 4 by simp; omega, sm_take _ 4 4 (by omega), sm_drop] at K
          have hs := HO.out k (k + 4) ⟨by omega, hlt, by omega⟩
          obtain ⟨s, hs'⟩ : ∃ s, sm xs (k + 4) - sm xs k = s := ⟨_, rfl⟩
          rw [hs'] at K hs
          have HK : Hid _ := K
          clear K hs'
          go_wp2_with fail
          refine Calls.mono HK.out ?_
          rintro e w' ⟨rfl, n1, rfl⟩
          go_wp2_with fail
          go_roundw
          case rel => exact ⟨k + 1, by go_num, by omega, Ints.drewN M.out _, Ints.drewN X.out _, Below.dr T.out _⟩
          case measure => simp [intOf]; omega
        · have hltI : ¬ (k : Int) + 4 ≤ (xs.length : Int) := by omega
          have K := iWorstLay_c b3 0 xs.length c3 ys wr M.out hly (by omega)
          have hR : wst ys = x := by rw [hrev]; exact HR.out
          rw [hR] at K
          have HK : Hid _ := K
          clear K hR hrev
          go_wp2_with fail
          refine Calls.mono (HK.out) ?_
          intro e wn hh
          obtain ⟨he, hb⟩ := (by first | exact hh | exact Ro.mk hh | exact St.mk hh | exact LawOk.mk' hh : Mk _ _ e wn)
          subst he
          have Tn : Hid (Below w.heap.size w wn) := below_next T.out hb
          have Xn : Hid _ := Ints.below X.out hb
          have Mn : Hid _ := Ints.below M.out hb
          clear hb hh
          clear T X M
          have T := Tn
          have X := Xn
          have M := Mn
          clear Tn Xn Mn
          have K := iWorstLay_c b 0 (xs.length / 2) cp (xs.take (xs.length / 2)) wn (Ints.take X.out _) (by simp; omega) (by simp; omega)
          have hT := HT.out
          obtain ⟨y, hy⟩ : ∃ y, wst (xs.take (xs.length / 2)) = y := ⟨_, rfl⟩
          rw [hy] at hT K
          obtain ⟨h, hh⟩ : ∃ h, xs.length / 2 = h := ⟨_, rfl⟩
          have hhI : (xs.length : Int) / 2 = (h : Int) := by omega
          have hhl : h ≤ xs.length := by omega
          have hhc : h ≤ cp := by omega
          rw [hh] at K
          have HK2 : Hid _ := K
          clear K hy hh
          go_wp2_with fail
          refine Calls.mono (HK2.out) ?_
          intro e wn hh
          obtain ⟨he, hb⟩ := (by first | exact hh | exact Ro.mk hh | exact St.mk hh | exact LawOk.mk' hh : Mk _ _ e wn)
          subst he
          have Tn : Hid (Below w.heap.size w wn) := below_next T.out hb
          have Xn : Hid _ := Ints.below X.out hb
          have Mn : Hid _ := Ints.below M.out hb
          clear hb hh
          clear T X M
          have T := Tn
          have X := Xn
          have M := Mn
          clear Tn Xn Mn
          go_wp2_with fail
          go_ret
          first | exact LawOk.mk T.out | exact LawOk.mk (Below.dr T.out _)
end Go.Proofs.Ytahfkeogfoejmaa
