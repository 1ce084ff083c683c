/- l20Put, and what the drawing functions of chapter 13 give. -/
import Derived.Test.Yteeokegkbhpbcaa13T
namespace Go.Proofs.Yteeokegkbhpbcaa
open Go.RowKit
set_option linter.unusedVariables false
set_option linter.unusedSimpArgs false
set_option maxRecDepth 100000

def DrawnHp (w : World) (g c : Nat) (e : Ending) (w' : World) : Prop := ∃ (b1 c1 : Nat) (gs : List Int) (b2 c2 : Nat) (rs : List Int) (b3 c3 : Nat) (ps : List Int) (c' : Nat), e = .returned (.tuple #[.slice (some ⟨b1, 0, none⟩) gs.length c1, .slice (some ⟨b2, 0, none⟩) rs.length c2, .slice (some ⟨b3, 0, none⟩) ps.length c3]) ∧ (gs.length ≤ 7 ∧ rs.length ≤ 3 ∧ ps.length ≤ 8) ∧ ((gs.length ≤ c1 ∧ c1 ≤ maxLen) ∧ (rs.length ≤ c2 ∧ c2 ≤ maxLen) ∧ (ps.length ≤ c3 ∧ c3 ≤ maxLen)) ∧ (Ints w' b1 0 gs ∧ Ints w' b2 0 rs ∧ Ints w' b3 0 ps) ∧ Rd w' g c' ∧ Fr w g w'
set_option maxHeartbeats 4000000 in
theorem l20Put_c (g c : Nat) (w : World) (hr : Rd w g c) (hc : c ≤ 1000) :
    Calls Try.prog 40 #[.pointer (some ⟨g, 0, none⟩)] w (DrawnHp w g c) := by
  obtain ⟨i0, hi, hz0, hz1, hz2⟩ := info_parts infoInt
  have HR : Hid _ := hr
  have hgw := hr.lt
  clear hr
  go_enter Try.func40, Try.ntmps40
  go_wp2_with fail
  refine (l20Hall_c g c 9 _ HR.out (by omega) (by omega) (by omega)).mono ?_
  rintro e wn ⟨b1, c1, cs, b2, c2, ks, c', rfl, ⟨hcs, hks⟩, hcaps, ⟨hb1g, hb2g⟩, ⟨hI1, hI2⟩, hr, hc', hf⟩
  have Y : Hid _ := hI1
  have Z : Hid _ := hI2
  have R : Hid _ := hr
  have F : Hid _ := hf
  have HC := Lib.hid hcaps
  clear hI1 hI2 hr hf HR hcaps
  obtain ⟨B, hB⟩ : ∃ B, (World.heap wn).size = B := ⟨_, rfl⟩
  have HB := Lib.hid hB
  have hgB : g < B := by rw [← hB]; exact Rd.lt R.out
  have hwB : w.heap.size ≤ B := by rw [← hB]; exact F.out.size
  have hb1B : 0 < cs.length → b1 < B := fun h => by rw [← hB]; exact Ints.lt Y.out h
  have hb2B : 0 < ks.length → b2 < B := fun h => by rw [← hB]; exact Ints.lt Z.out h
  have S := Lib.hid (show Own (wn.alloc (.cells #[] 3)) B (.slice (some ⟨B, 0, none⟩) 0 0) [] from by rw [← hB]; exact Own.none)
  have R1 := Lib.hid (Rd.alloc R.out (.cells #[] 3))
  have F1 := Lib.hid (Fr.alloc F.out (.cells #[] 3))
  have Y1 := Lib.hid (Ints.al Y.out (.cells #[] 3))
  have Z1 := Lib.hid (Ints.al Z.out (.cells #[] 3))
  clear hB R F Y Z
  go_wp2_with fail
  rw [HB.out]
  go_loopw [7, 8] (fun vs vk wr => ∃ (ss : List Int) (k c' : Nat), vk = .int .i64 k ∧ k ≤ cs.length ∧ ss.length = k ∧ Own wr B vs ss ∧ vs ≠ .slice none 0 0 ∧ Ints wr b1 0 cs ∧ Ints wr b2 0 ks ∧ Rd wr g c' ∧ c' ≤ c + 40 + k ∧ Fr w g wr) (fun _ vk _ => cs.length - (intOf vk).toNat)
  case atStart => exact ⟨[], 0, _, rfl, by omega, rfl, S.out, by simp, Y1.out, Z1.out, R1.out, by omega, F1.out⟩
  case round =>
    clear S Y1 Z1 R1 F1 HB
    obtain ⟨ss, k, c', rfl, hk, hss, h1, h3, h5, h6, h7, hc', h8⟩ := hrel
    have S : Hid _ := h1
    have NS : Hid _ := h3
    have Y : Hid _ := h5
    have Z : Hid _ := h6
    have R : Hid _ := h7
    have F : Hid _ := h8
    have HSS := Lib.hid hss
    have hsl : ss.length ≤ k := by omega
    clear h1 h3 h5 h6 h7 h8 hss
    obtain ⟨wn, hwq⟩ : ∃ w0 : World, w0 = wr := ⟨_, rfl⟩
    rw [← hwq] at S Y Z R F ⊢
    clear hwq
    by_cases hk1 : k < cs.length
    case pos =>
      have hkI : (k : Int) < (cs.length : Int) := by omega
      go_wp2_with fail
      all_goals
        refine (pick_c g _ _ _ R.out (by omega) (by omega)).mono ?_
        rintro e wn ⟨q, rfl, hq0, p1, v2, v3, v4⟩
        have Rn : Hid _ := v2
        have Fn : Hid (Fr w g wn) := Fr.trans F.out v3
        have Yn : Hid _ := Ints.fr Y.out v3 hb1g
        have Zn : Hid _ := Ints.fr Z.out v3 hb2g
        have Sn : Hid (Own wn B u7 ss) := Own.kept S.out v3 hgB
        clear v2 v3 v4 p1 R F Y Z S
        have R := Rn
        have F := Fn
        have Y := Yn
        have Z := Zn
        have S := Sn
        clear Rn Fn Yn Zn Sn
        go_wp2_with ((at_builtin; refine wpList_append_wanted rfl _ _ 23 rfl B 3 i0 (.int .i64 0) 1 8 Try.underlying23 hi hz0 hz1 hz2 rfl (by decide) _ _ _ rfl (Own.alloc S.out _) _ 1 1 [.int .i64 (q)] rfl rfl (cell_one_new _ _ _) (by intro u hu; simp at hu; subst hu; rfl) (by unfold maxLen; omega) (by omega) (Own.base (Own.alloc S.out _) NS.out) ?_))
        intro s2 wn hown hgrow hnil hat
        have lt5 := Own.lt S.out
        have Sn : Hid (Own wn B s2 (ss ++ [q])) := Own.snoc hown
        have NSn : Hid (s2 ≠ .slice none 0 0) := (by first | exact hnil | exact fun e => absurd (hnil.1 e).2 (by simp) | exact fun e => absurd (hnil.1 e).1 (by simp))
        have Rn : Hid _ := Rd.grown (Rd.alloc R.out _) hgrow (fun i e => by have := lt5 i e; omega)
        have Fn : Hid (Fr w g _) := Fr.own (Fr.alloc F.out _) hgrow (fun i e => by have := lt5 i e; omega)
        have Yn : Hid _ := Ints.gr (Ints.al Y.out _) hgrow (fun i e h0 => by have := lt5 i e; omega)
        have Zn : Hid _ := Ints.gr (Ints.al Z.out _) hgrow (fun i e h0 => by have := lt5 i e; omega)
        clear hown hgrow lt5 hnil hat
        clear S NS R F Y Z
        have S := Sn
        have NS := NSn
        have R := Rn
        have F := Fn
        have Y := Yn
        have Z := Zn
        clear Sn NSn Rn Fn Yn Zn
        go_wp2_with fail
        go_roundw
        case rel => exact ⟨ss ++ [q], k + 1, _, by go_num, by omega, by have := HSS.out; simp; omega, S.out, NS.out, Y.out, Z.out, R.out, by omega, F.out⟩
        case measure => first | (simp [intOf]; done) | (simp [intOf]; omega) | omega
    go_wp2_with fail
    refine (odd_c g _ (14) _ R.out (by omega) (by omega) (by omega)).mono ?_
    rintro e wn ⟨o, jo, rfl, hjo, v2, v3, v4⟩
    skip
    have Rn : Hid _ := v2
    have Fn : Hid (Fr w g _) := Fr.trans F.out v3
    have Yn : Hid _ := Ints.fr Y.out v3 hb1g
    have Zn : Hid _ := Ints.fr Z.out v3 hb2g
    have Sn : Hid _ := Own.kept S.out v3 hgB
    clear v3 v2 v4
    clear R F Y Z S
    have R := Rn
    have F := Fn
    have Y := Yn
    have Z := Zn
    have S := Sn
    clear Rn Fn Yn Zn Sn
    cases o
    case false =>
      obtain ⟨b3, c3, h3, -, -, i3, l3, m3⟩ := Own.some S.out NS.out
      have J3 := Lib.hid i3
      subst h3
      clear i3
      go_wp2_with fail
      exact bodyPost_ret (v := .tuple #[.slice (some ⟨b1, 0, none⟩) cs.length c1, .slice (some ⟨b2, 0, none⟩) ks.length c2, .slice (some ⟨b3, 0, none⟩) ss.length c3]) (by simp [results, Try.results40, go_sem]) rfl ⟨b1, c1, cs, b2, c2, ks, b3, c3, ss, _, rfl, ⟨hcs, hks, by omega⟩, ⟨HC.out.1, HC.out.2, l3, m3⟩, ⟨Y.out, Z.out, J3.out⟩, R.out, F.out⟩
    go_wp2_with fail
    refine (pick_c g _ (5) _ R.out (by omega) (by omega)).mono ?_
    rintro e wn ⟨p, rfl, hp0, p1, v2, v3, v4⟩
    have hp : p ≤ 4 := by omega
    skip
    have Rn : Hid _ := v2
    have Fn : Hid (Fr w g _) := Fr.trans F.out v3
    have Yn : Hid _ := Ints.fr Y.out v3 hb1g
    have Zn : Hid _ := Ints.fr Z.out v3 hb2g
    have Sn : Hid _ := Own.kept S.out v3 hgB
    clear v3 v2 v4 p1
    clear R F Y Z S
    have R := Rn
    have F := Fn
    have Y := Yn
    have Z := Zn
    have S := Sn
    clear Rn Fn Yn Zn Sn
    have hpw : -9223372036854775808 ≤ p - 1 ∧ p - 1 ≤ 9223372036854775807 := by omega
    go_wp2_with ((at_builtin; refine wpList_append_wanted rfl _ _ 23 rfl B 3 i0 (.int .i64 0) 1 8 Try.underlying23 hi hz0 hz1 hz2 rfl (by decide) _ _ _ rfl (Own.alloc S.out _) _ 1 1 [.int .i64 ((p - 1))] rfl rfl (cell_one_new _ _ _) (by intro u hu; simp at hu; subst hu; rfl) (by unfold maxLen; omega) (by omega) (Own.base (Own.alloc S.out _) NS.out) ?_))
    intro s2 wn hown hgrow hnil hat
    have lt5 := Own.lt S.out
    have Sn : Hid (Own wn B s2 (ss ++ [(p - 1)])) := Own.snoc hown
    have NSn : Hid (s2 ≠ .slice none 0 0) := (by first | exact hnil | exact fun e => absurd (hnil.1 e).2 (by simp) | exact fun e => absurd (hnil.1 e).1 (by simp))
    have Rn : Hid _ := Rd.grown (Rd.alloc R.out _) hgrow (fun i e => by have := lt5 i e; omega)
    have Fn : Hid (Fr w g _) := Fr.own (Fr.alloc F.out _) hgrow (fun i e => by have := lt5 i e; omega)
    have Yn : Hid _ := Ints.gr (Ints.al Y.out _) hgrow (fun i e h0 => by have := lt5 i e; omega)
    have Zn : Hid _ := Ints.gr (Ints.al Z.out _) hgrow (fun i e h0 => by have := lt5 i e; omega)
    clear hown hgrow lt5 hnil hat
    clear S NS R F Y Z
    have S := Sn
    have NS := NSn
    have R := Rn
    have F := Fn
    have Y := Yn
    have Z := Zn
    clear Sn NSn Rn Fn Yn Zn
    obtain ⟨b3, c3, h3, -, -, i3, l3, m3⟩ := Own.some S.out NS.out
    have J3 := Lib.hid i3
    subst h3
    clear i3
    go_wp2_with fail
    exact bodyPost_ret (v := .tuple #[.slice (some ⟨b1, 0, none⟩) cs.length c1, .slice (some ⟨b2, 0, none⟩) ks.length c2, .slice (some ⟨b3, 0, none⟩) (ss ++ [p - 1]).length c3]) (by simp [results, Try.results40, go_sem]) (by simp) ⟨b1, c1, cs, b2, c2, ks, b3, c3, ss ++ [p - 1], _, rfl, ⟨hcs, hks, by simp; omega⟩, ⟨HC.out.1, HC.out.2, l3, m3⟩, ⟨Y.out, Z.out, J3.out⟩, R.out, F.out⟩
/-- The arguments of a law over a hall. -/
def DrawnH (w : World) (e : Ending) (w' : World) : Prop := ∃ (b1 c1 : Nat) (gs : List Int) (b2 c2 : Nat) (rs : List Int), e = .returned (.tuple #[.slice (some ⟨b1, 0, none⟩) gs.length c1, .slice (some ⟨b2, 0, none⟩) rs.length c2]) ∧ (gs.length ≤ 7 ∧ rs.length ≤ 3) ∧ ((gs.length ≤ c1 ∧ c1 ≤ maxLen) ∧ (rs.length ≤ c2 ∧ c2 ≤ maxLen)) ∧ (Ints w' b1 0 gs ∧ Ints w' b2 0 rs) ∧ Below w.heap.size w w'
def DrawnHH (w : World) (e : Ending) (w' : World) : Prop := ∃ (b1 c1 : Nat) (gs : List Int) (b2 c2 : Nat) (rs : List Int) (b3 c3 : Nat) (ps : List Int), e = .returned (.tuple #[.slice (some ⟨b1, 0, none⟩) gs.length c1, .slice (some ⟨b2, 0, none⟩) rs.length c2, .slice (some ⟨b3, 0, none⟩) ps.length c3]) ∧ (gs.length ≤ 7 ∧ rs.length ≤ 3 ∧ ps.length ≤ 8) ∧ ((gs.length ≤ c1 ∧ c1 ≤ maxLen) ∧ (rs.length ≤ c2 ∧ c2 ≤ maxLen) ∧ (ps.length ≤ c3 ∧ c3 ≤ maxLen)) ∧ (Ints w' b1 0 gs ∧ Ints w' b2 0 rs ∧ Ints w' b3 0 ps) ∧ Below w.heap.size w w'
theorem DrawHallOk_c (a : Option Addr) (n cap : Nat) (w : World) (hb : Byt w a n) (hn : n ≤ cap) (hcap : cap ≤ maxLen) :
    Calls Try.prog 13 #[.slice a n cap] w (DrawnH w) := by
  go_enter Try.func13, Try.ntmps13
  go_wp2_with fail
  refine (open_c a n cap _ hb hn hcap).mono ?_
  rintro e w1 ⟨g, hg, rfl, hr, hB⟩
  have R : Hid _ := hr
  have T : Hid _ := hB
  clear hr hB
  go_wp2_with fail
  refine (l20Hall_c g 0 2 _ R.out (by omega) (by omega) (by omega)).mono ?_
  rintro e w2 ⟨b1, c1, cs, b2, c2, ks, c', rfl, h2, h3, -, h5, -, -, hf⟩
  have H5 := Lib.hid h5
  have HF := Lib.hid (show Below w.heap.size w w2 from Fr.below T.out hf hg)
  have H2 := Lib.hid h2
  have H3 := Lib.hid h3
  clear h2 h3 h5 hf R T
  go_wp2_with fail
  exact bodyPost_ret (v := .tuple #[.slice (some ⟨b1, 0, none⟩) cs.length c1, .slice (some ⟨b2, 0, none⟩) ks.length c2]) (by simp [results, Try.results13, go_sem]) rfl ⟨_, _, cs, _, _, ks, rfl, H2.out, H3.out, H5.out, HF.out⟩
theorem DrawHallBest_c (a : Option Addr) (n cap : Nat) (w : World) (hb : Byt w a n) (hn : n ≤ cap) (hcap : cap ≤ maxLen) :
    Calls Try.prog 26 #[.slice a n cap] w (DrawnH w) := by
  go_enter Try.func26, Try.ntmps26
  go_wp2_with fail
  refine (open_c a n cap _ hb hn hcap).mono ?_
  rintro e w1 ⟨g, hg, rfl, hr, hB⟩
  have R : Hid _ := hr
  have T : Hid _ := hB
  clear hr hB
  go_wp2_with fail
  refine (l20Hall_c g 0 9 _ R.out (by omega) (by omega) (by omega)).mono ?_
  rintro e w2 ⟨b1, c1, cs, b2, c2, ks, c', rfl, h2, h3, -, h5, -, -, hf⟩
  have H5 := Lib.hid h5
  have HF := Lib.hid (show Below w.heap.size w w2 from Fr.below T.out hf hg)
  have H2 := Lib.hid h2
  have H3 := Lib.hid h3
  clear h2 h3 h5 hf R T
  go_wp2_with fail
  exact bodyPost_ret (v := .tuple #[.slice (some ⟨b1, 0, none⟩) cs.length c1, .slice (some ⟨b2, 0, none⟩) ks.length c2]) (by simp [results, Try.results26, go_sem]) rfl ⟨_, _, cs, _, _, ks, rfl, H2.out, H3.out, H5.out, HF.out⟩
theorem DrawGoalMany_c (a : Option Addr) (n cap : Nat) (w : World) (hb : Byt w a n) (hn : n ≤ cap) (hcap : cap ≤ maxLen) :
    Calls Try.prog 29 #[.slice a n cap] w (DrawnH w) := by
  go_enter Try.func29, Try.ntmps29
  go_wp2_with fail
  refine (open_c a n cap _ hb hn hcap).mono ?_
  rintro e w1 ⟨g, hg, rfl, hr, hB⟩
  have R : Hid _ := hr
  have T : Hid _ := hB
  clear hr hB
  go_wp2_with fail
  refine (l20Hall_c g 0 9 _ R.out (by omega) (by omega) (by omega)).mono ?_
  rintro e w2 ⟨b1, c1, cs, b2, c2, ks, c', rfl, h2, h3, -, h5, -, -, hf⟩
  have H5 := Lib.hid h5
  have HF := Lib.hid (show Below w.heap.size w w2 from Fr.below T.out hf hg)
  have H2 := Lib.hid h2
  have H3 := Lib.hid h3
  clear h2 h3 h5 hf R T
  go_wp2_with fail
  exact bodyPost_ret (v := .tuple #[.slice (some ⟨b1, 0, none⟩) cs.length c1, .slice (some ⟨b2, 0, none⟩) ks.length c2]) (by simp [results, Try.results29, go_sem]) rfl ⟨_, _, cs, _, _, ks, rfl, H2.out, H3.out, H5.out, HF.out⟩
theorem DrawHallFits_c (a : Option Addr) (n cap : Nat) (w : World) (hb : Byt w a n) (hn : n ≤ cap) (hcap : cap ≤ maxLen) :
    Calls Try.prog 17 #[.slice a n cap] w (DrawnHH w) := by
  go_enter Try.func17, Try.ntmps17
  go_wp2_with fail
  refine (open_c a n cap _ hb hn hcap).mono ?_
  rintro e w1 ⟨g, hg, rfl, hr, hB⟩
  have R : Hid _ := hr
  have T : Hid _ := hB
  clear hr hB
  go_wp2_with fail
  refine (l20Put_c g 0 _ R.out (by omega)).mono ?_
  rintro e w2 ⟨b1, c1, cs, b2, c2, ks, b3, c3, gs, c', rfl, h2, h3, h5, -, hf⟩
  have H5 := Lib.hid h5
  have HF := Lib.hid (show Below w.heap.size w w2 from Fr.below T.out hf hg)
  have H2 := Lib.hid h2
  have H3 := Lib.hid h3
  clear h2 h3 h5 hf R T
  go_wp2_with fail
  exact bodyPost_ret (v := .tuple #[.slice (some ⟨b1, 0, none⟩) cs.length c1, .slice (some ⟨b2, 0, none⟩) ks.length c2, .slice (some ⟨b3, 0, none⟩) gs.length c3]) (by simp [results, Try.results17, go_sem]) rfl ⟨_, _, cs, _, _, ks, _, _, gs, rfl, H2.out, H3.out, H5.out, HF.out⟩
theorem DrawHallStops_c (a : Option Addr) (n cap : Nat) (w : World) (hb : Byt w a n) (hn : n ≤ cap) (hcap : cap ≤ maxLen) :
    Calls Try.prog 21 #[.slice a n cap] w (DrawnHH w) := by
  go_enter Try.func21, Try.ntmps21
  go_wp2_with fail
  refine (open_c a n cap _ hb hn hcap).mono ?_
  rintro e w1 ⟨g, hg, rfl, hr, hB⟩
  have R : Hid _ := hr
  have T : Hid _ := hB
  clear hr hB
  go_wp2_with fail
  refine (l20Put_c g 0 _ R.out (by omega)).mono ?_
  rintro e w2 ⟨b1, c1, cs, b2, c2, ks, b3, c3, gs, c', rfl, h2, h3, h5, -, hf⟩
  have H5 := Lib.hid h5
  have HF := Lib.hid (show Below w.heap.size w w2 from Fr.below T.out hf hg)
  have H2 := Lib.hid h2
  have H3 := Lib.hid h3
  clear h2 h3 h5 hf R T
  go_wp2_with fail
  exact bodyPost_ret (v := .tuple #[.slice (some ⟨b1, 0, none⟩) cs.length c1, .slice (some ⟨b2, 0, none⟩) ks.length c2, .slice (some ⟨b3, 0, none⟩) gs.length c3]) (by simp [results, Try.results21, go_sem]) rfl ⟨_, _, cs, _, _, ks, _, _, gs, rfl, H2.out, H3.out, H5.out, HF.out⟩
end Go.Proofs.Yteeokegkbhpbcaa
