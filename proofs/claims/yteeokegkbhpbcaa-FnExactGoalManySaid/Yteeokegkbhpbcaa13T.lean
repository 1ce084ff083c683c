/- What the drawing functions of chapter 13 give: the laws' arguments. -/
import Derived.Test.YteeokegkbhpbcaaT
import Derived.Test.YteeokegkbhpbcaaI
namespace Go.Proofs.Yteeokegkbhpbcaa
open Go.RowKit
set_option linter.unusedVariables false
set_option linter.unusedSimpArgs false
set_option maxRecDepth 100000

/-- Drawn riders and rooms, with the reader behind them. -/
def DrawnHl (w : World) (g c : Nat) (e : Ending) (w' : World) : Prop := ∃ (b1 c1 : Nat) (gs : List Int) (b2 c2 : Nat) (rs : List Int) (c' : Nat), e = .returned (.tuple #[.slice (some ⟨b1, 0, none⟩) gs.length c1, .slice (some ⟨b2, 0, none⟩) rs.length c2]) ∧ (gs.length ≤ 7 ∧ rs.length ≤ 3) ∧ ((gs.length ≤ c1 ∧ c1 ≤ maxLen) ∧ (rs.length ≤ c2 ∧ c2 ≤ maxLen)) ∧ (b1 ≠ g ∧ b2 ≠ g) ∧ (Ints w' b1 0 gs ∧ Ints w' b2 0 rs) ∧ Rd w' g c' ∧ c' ≤ c + 40 ∧ Fr w g w'
set_option maxHeartbeats 8000000 in
theorem l20Hall_c (g c : Nat) (n : Int) (w : World) (hr : Rd w g c) (hc : c ≤ 100000) (hn0 : 0 < n) (hn1 : n ≤ 100) :
    Calls Try.prog 35 #[.pointer (some ⟨g, 0, none⟩), .int .i64 n] w (DrawnHl w g c) := by
  obtain ⟨i0, hi, hz0, hz1, hz2⟩ := info_parts infoInt
  obtain ⟨B, hB⟩ : ∃ B, (World.heap w).size = B := ⟨_, rfl⟩
  have HB := Lib.hid hB
  have hgB : g < B := by rw [← hB]; exact Rd.lt hr
  have hwB : w.heap.size ≤ B := by rw [← hB]; exact Nat.le_refl _
  have S1 := Lib.hid (show Own (w.alloc (.cells #[] 3)) B (.slice (some ⟨B, 0, none⟩) 0 0) [] from by rw [← hB]; exact Own.none)
  have R1 := Lib.hid (Rd.alloc hr (.cells #[] 3))
  have F1 := Lib.hid (Fr.alloc (Fr.refl w g) (.cells #[] 3))
  clear hB hr
  go_enter Try.func35, Try.ntmps35
  go_wp2_with fail
  rw [HB.out]
  refine (pick_c g _ 7 _ R1.out (by omega) (by omega)).mono ?_
  rintro e wn ⟨k, rfl, hk0, p1, v2, v3, v4⟩
  have R : Hid _ := v2
  have F : Hid (Fr w g wn) := Fr.trans F1.out v3
  have S : Hid (Own wn B (.slice (some ⟨B, 0, none⟩) 0 0) []) := Own.kept S1.out v3 hgB
  have hk : k ≤ 6 := by omega
  clear v2 v3 v4 p1 R1 F1 S1 HB
  go_wp2_with fail
  go_loopw [6, 7] (fun vs vk wr => ∃ (ss : List Int) (k c' : Nat), vk = .int .i64 k ∧ k ≤ 6 ∧ ss.length + k ≤ 6 ∧ Own wr B vs ss ∧ vs ≠ .slice none 0 0 ∧ Rd wr g c' ∧ c' + k ≤ c + 20 ∧ Fr w g wr) (fun _ vk _ => (intOf vk).toNat)
  case atStart =>
    obtain ⟨k, rfl⟩ := Int.eq_ofNat_of_zero_le hk0
    exact ⟨[], k, _, rfl, by omega, by simp; omega, S.out, by simp, R.out, by omega, F.out⟩
  case round =>
    clear S R F hk0 hk
    obtain ⟨ss, k, c', rfl, hk, hss, h1, h3, h7, hc', h8⟩ := hrel
    have S : Hid _ := h1
    have NS : Hid _ := h3
    have R : Hid _ := h7
    have F : Hid _ := h8
    clear h1 h3 h7 h8
    obtain ⟨wn, hwq⟩ : ∃ w0 : World, w0 = wr := ⟨_, rfl⟩
    rw [← hwq] at S R F ⊢
    clear hwq
    by_cases hk1 : 0 < k
    case pos =>
      have hkI : (0 : Int) < (k : Int) := by omega
      go_wp2_with fail
      refine (pick_c g _ (4) _ R.out (by omega) (by omega)).mono ?_
      rintro e wn ⟨q, rfl, hq0, p1, v2, v3, v4⟩
      have hq : q ≤ 3 := by omega
      skip
      have Rn : Hid _ := v2
      have Fn : Hid (Fr w g _) := Fr.trans F.out v3
      have Sn : Hid _ := Own.kept S.out v3 hgB
      clear v3 v2 v4 p1
      clear R F S
      have R := Rn
      have F := Fn
      have S := Sn
      clear Rn Fn Sn
      go_wp2_with ((at_builtin; refine wpList_append_wanted rfl _ _ 23 rfl B 3 i0 (.int .i64 0) 1 8 Try.underlying23 hi hz0 hz1 hz2 rfl (by decide) _ _ _ rfl (Own.alloc S.out _) _ 1 1 [.int .i64 (q)] rfl rfl (cell_one_new _ _ _) (by intro u hu; simp at hu; subst hu; rfl) (by unfold maxLen; omega) (by omega) (Own.base (Own.alloc S.out _) NS.out) ?_))
      intro s2 wn hown hgrow hnil hat
      have lt5 := Own.lt S.out
      have Sn : Hid (Own wn B s2 (ss ++ [q])) := Own.snoc hown
      have NSn : Hid (s2 ≠ .slice none 0 0) := (by first | exact hnil | exact fun e => absurd (hnil.1 e).2 (by simp) | exact fun e => absurd (hnil.1 e).1 (by simp))
      have Rn : Hid _ := Rd.grown (Rd.alloc R.out _) hgrow (fun i e => by have := lt5 i e; omega)
      have Fn : Hid (Fr w g _) := Fr.own (Fr.alloc F.out _) hgrow (fun i e => by have := lt5 i e; omega)
      clear hown hgrow lt5 hnil hat
      clear S NS R F
      have S := Sn
      have NS := NSn
      have R := Rn
      have F := Fn
      clear Sn NSn Rn Fn
      go_wp2_with fail
      go_roundw
      case rel => exact ⟨ss ++ [q], k - 1, _, by go_num, by omega, by simp; omega, S.out, NS.out, R.out, by omega, F.out⟩
      case measure => simp [intOf]; omega
    obtain rfl : k = 0 := by omega
    obtain ⟨H, hH⟩ : ∃ H, (World.heap wn).size = H := ⟨_, rfl⟩
    have HH := Lib.hid hH
    have hBH : B ≤ H := by rw [← hH]; exact Own.base S.out NS.out
    have A1 := Lib.hid (show Apart u6 (.slice (some ⟨H, 0, none⟩) 0 0) from fun i j hi hj => by
      have := (own_lt2 S.out i hi).2
      simp [Value.ownBlock] at hj
      omega)
    have L0 := Lib.hid (show Own (wn.alloc (.cells #[] 3)) H (.slice (some ⟨H, 0, none⟩) 0 0) [] from by rw [← hH]; exact Own.none)
    have L1 := Lib.hid (Own.mono (A := B) L0.out hBH)
    have S1 := Lib.hid (Own.alloc S.out (.cells #[] 3))
    have R1 := Lib.hid (Rd.alloc R.out (.cells #[] 3))
    have F1 := Lib.hid (Fr.alloc F.out (.cells #[] 3))
    clear hH R F S L0
    go_wp2_with fail
    rw [HH.out]
    refine (pick_c g _ 3 _ R1.out (by omega) (by omega)).mono ?_
    rintro e wn ⟨m, rfl, hm0, p1, v2, v3, v4⟩
    have R : Hid _ := v2
    have F : Hid (Fr w g wn) := Fr.trans F1.out v3
    have S : Hid (Own wn B u6 ss) := Own.kept S1.out v3 hgB
    have L : Hid (Own wn B (.slice (some ⟨H, 0, none⟩) 0 0) []) := Own.kept L1.out v3 hgB
    have hm : m ≤ 2 := by omega
    have hmw : -9223372036854775808 ≤ 1 + m ∧ 1 + m ≤ 9223372036854775807 := by omega
    clear v2 v3 v4 p1 R1 F1 S1 L1 HH
    go_wp2_with fail
    go_loopw [8, 9] (fun vl vk wr => ∃ (ls : List Int) (k c' : Nat), vk = .int .i64 k ∧ k ≤ 3 ∧ ls.length + k ≤ 3 ∧ 1 ≤ ls.length + k ∧ Own wr B vl ls ∧ vl ≠ .slice none 0 0 ∧ Apart u6 vl ∧ Own wr B u6 ss ∧ Rd wr g c' ∧ c' + k ≤ c + 30 ∧ Fr w g wr) (fun _ vk _ => (intOf vk).toNat)
    case atStart =>
      obtain ⟨m, rfl⟩ := Int.eq_ofNat_of_zero_le hm0
      exact ⟨[], m + 1, _, by go_num, by omega, by simp; omega, by simp, L.out, by simp, A1.out, S.out, R.out, by omega, F.out⟩
    case round =>
      clear S L R F A1 hm0 hm hmw
      obtain ⟨ls, k, c', rfl, hk, hls, hl1, h1, h2, h3, h4, h7, hc', h8⟩ := hrel
      have L : Hid _ := h1
      have NL : Hid _ := h2
      have A : Hid _ := h3
      have S : Hid _ := h4
      have R : Hid _ := h7
      have F : Hid _ := h8
      clear h1 h2 h3 h4 h7 h8
      obtain ⟨wn, hwq⟩ : ∃ w0 : World, w0 = wr := ⟨_, rfl⟩
      rw [← hwq] at S L R F ⊢
      clear hwq
      by_cases hk1 : 0 < k
      case pos =>
        have hkI : (0 : Int) < (k : Int) := by omega
        go_wp2_with fail
        refine (pick_c g _ (5) _ R.out (by omega) (by omega)).mono ?_
        rintro e wn ⟨q, rfl, hq0, p1, v2, v3, v4⟩
        have hq : q ≤ 4 := by omega
        skip
        have Rn : Hid _ := v2
        have Fn : Hid (Fr w g _) := Fr.trans F.out v3
        have Sn : Hid _ := Own.kept S.out v3 hgB
        have Ln : Hid _ := Own.kept L.out v3 hgB
        clear v3 v2 v4 p1
        clear R F S L
        have R := Rn
        have F := Fn
        have S := Sn
        have L := Ln
        clear Rn Fn Sn Ln
        go_wp2_with ((at_builtin; refine wpList_append_wanted rfl _ _ 23 rfl B 3 i0 (.int .i64 0) 1 8 Try.underlying23 hi hz0 hz1 hz2 rfl (by decide) _ _ _ rfl (Own.alloc L.out _) _ 1 1 [.int .i64 (q)] rfl rfl (cell_one_new _ _ _) (by intro u hu; simp at hu; subst hu; rfl) (by unfold maxLen; omega) (by omega) (Own.base (Own.alloc L.out _) NL.out) ?_))
        intro s2 wn hown hgrow hnil hat
        have lt5 := Own.lt L.out
        have Ln : Hid (Own wn B s2 (ls ++ [q])) := Own.snoc hown
        have NLn : Hid (s2 ≠ .slice none 0 0) := (by first | exact hnil | exact fun e => absurd (hnil.1 e).2 (by simp) | exact fun e => absurd (hnil.1 e).1 (by simp))
        have Rn : Hid _ := Rd.grown (Rd.alloc R.out _) hgrow (fun i e => by have := lt5 i e; omega)
        have Fn : Hid (Fr w g _) := Fr.own (Fr.alloc F.out _) hgrow (fun i e => by have := lt5 i e; omega)
        have Sn : Hid _ := Own.apart (Own.alloc S.out _) A.out hgrow
        have An : Hid (Apart _ s2) := (by first | exact Apart.grown1 S.out A.out hat | exact Apart.grown (Own.alloc S.out _) A.out hat)
        clear hown hgrow lt5 hnil hat
        clear L NL R F S A
        have L := Ln
        have NL := NLn
        have R := Rn
        have F := Fn
        have S := Sn
        have A := An
        clear Ln NLn Rn Fn Sn An
        go_wp2_with fail
        go_roundw
        case rel => exact ⟨ls ++ [q], k - 1, _, by go_num, by omega, by simp; omega, by simp; omega, L.out, NL.out, A.out, S.out, R.out, by omega, F.out⟩
        case measure => simp [intOf]; omega
      obtain rfl : k = 0 := by omega
      go_wp2_with fail
      refine (odd_c g _ (n) _ R.out (by omega) (by omega) (by omega)).mono ?_
      rintro e wn ⟨o, jo, rfl, hjo, v2, v3, v4⟩
      skip
      have Rn : Hid _ := v2
      have Fn : Hid (Fr w g _) := Fr.trans F.out v3
      have Sn : Hid _ := Own.kept S.out v3 hgB
      have Ln : Hid _ := Own.kept L.out v3 hgB
      clear v3 v2 v4
      clear R F S L
      have R := Rn
      have F := Fn
      have S := Sn
      have L := Ln
      clear Rn Fn Sn Ln
      cases o
      case false =>
        obtain ⟨b1, c1, h1, hb1, -, i1, l1, m1⟩ := Own.some S.out NS.out
        obtain ⟨b2, c2, h2, hb2, -, i2, l2, m2⟩ := Own.some L.out NL.out
        have J1 := Lib.hid i1
        have J2 := Lib.hid i2
        subst h1 h2
        clear i1 i2
        go_wp2_with fail
        exact bodyPost_ret (v := .tuple #[.slice (some ⟨b1, 0, none⟩) ss.length c1, .slice (some ⟨b2, 0, none⟩) ls.length c2]) (by simp [results, Try.results35, go_sem]) rfl ⟨b1, c1, ss, b2, c2, ls, _, rfl, ⟨by omega, by omega⟩, ⟨⟨l1, m1⟩, ⟨l2, m2⟩⟩, ⟨by omega, by omega⟩, ⟨J1.out, J2.out⟩, R.out, by omega, F.out⟩
      go_wp2_with fail
      refine (pick_c g _ (3) _ R.out (by omega) (by omega)).mono ?_
      rintro e wn ⟨p, rfl, hp0, p1, v2, v3, v4⟩
      have hp : p ≤ 2 := by omega
      skip
      have Rn : Hid _ := v2
      have Fn : Hid (Fr w g _) := Fr.trans F.out v3
      have Sn : Hid _ := Own.kept S.out v3 hgB
      have Ln : Hid _ := Own.kept L.out v3 hgB
      clear v3 v2 v4 p1
      clear R F S L
      have R := Rn
      have F := Fn
      have S := Sn
      have L := Ln
      clear Rn Fn Sn Ln
      obtain hp | hp | hp : p = 0 ∨ p = 1 ∨ p = 2 := by omega
      · subst hp
        obtain ⟨b1, c1, h1, hb1, -, i1, l1, m1⟩ := Own.some S.out NS.out
        subst h1
        have hgn := Rd.lt R.out
        obtain ⟨G, hG⟩ : ∃ G, (World.heap wn).size = G := ⟨_, rfl⟩
        have HG := Lib.hid hG
        rw [hG] at hgn
        have E1 := Lib.hid (show Ints (wn.alloc (.cells #[] 3)) G 0 [] from fun i hi => by simp at hi)
        have R1 := Lib.hid (Rd.alloc R.out (.cells #[] 3))
        have F1 := Lib.hid (Fr.alloc F.out (.cells #[] 3))
        have J1 := Lib.hid (Ints.al i1 (.cells #[] 3))
        clear hG R F S L i1
        go_wp2_with fail
        rw [HG.out]
        exact bodyPost_ret (v := .tuple #[.slice (some ⟨b1, 0, none⟩) ss.length c1, .slice (some ⟨G, 0, none⟩) 0 0]) (by simp [results, Try.results35, go_sem]) rfl ⟨b1, c1, ss, G, 0, [], _, rfl, ⟨by omega, by simp⟩, ⟨⟨l1, m1⟩, ⟨by simp, by unfold maxLen; omega⟩⟩, ⟨by omega, by omega⟩, ⟨J1.out, E1.out⟩, R1.out, by omega, F1.out⟩
      · subst hp
        have hglH2 := Rd.lt R.out
        obtain ⟨H2, hH2⟩ : ∃ H2, Array.size (World.heap wn) = H2 := ⟨_, rfl⟩
        have HH2 : Hid _ := hH2
        rw [hH2] at hglH2
        have J : Hid (Ints (wn.alloc (.cells #[.int .i64 (-1), .int .i64 8] 3)) H2 0 [-1, 8]) := by rw [← hH2]; exact one_row wn (-1) 8
        have hH2g : H2 ≠ g := by omega
        clear hH2
        have Rn : Hid _ := Rd.alloc R.out (.cells #[.int .i64 (-1), .int .i64 8] 3)
        have Fn : Hid (Fr w g _) := Fr.alloc F.out (.cells #[.int .i64 (-1), .int .i64 8] 3)
        have Sn : Hid _ := Own.alloc S.out (.cells #[.int .i64 (-1), .int .i64 8] 3)
        have Ln : Hid _ := Own.alloc L.out (.cells #[.int .i64 (-1), .int .i64 8] 3)
        clear R F S L
        have R := Rn
        have F := Fn
        have S := Sn
        have L := Ln
        clear Rn Fn Sn Ln
        clear hglH2
        go_wp2_with fail
        rw [HH2.out]
        refine (pick_c g _ (2) _ R.out (by omega) (by omega)).mono ?_
        rintro e wn ⟨p, rfl, hp0, p1, v2, v3, v4⟩
        have hp : p ≤ 1 := by omega
        skip
        have Rn : Hid _ := v2
        have Fn : Hid (Fr w g _) := Fr.trans F.out v3
        have Sn : Hid _ := Own.kept S.out v3 hgB
        have Ln : Hid _ := Own.kept L.out v3 hgB
        have Jn : Hid _ := Ints.fr J.out v3 hH2g
        clear v3 v2 v4 p1
        clear R F S L J
        have R := Rn
        have F := Fn
        have S := Sn
        have L := Ln
        have J := Jn
        clear Rn Fn Sn Ln Jn
        obtain ⟨z, rfl⟩ := Int.eq_ofNat_of_zero_le hp0
        have hz : z < 2 := by omega
        have hzI : (z : Int) < 2 := by omega
        have c5 : wn.cell? ⟨H2, z, none⟩ = some (.int .i64 (nth [-1, 8] z)) := by have := J.out z hz; simpa using this
        obtain ⟨x, hx'⟩ : ∃ x, nth [-1, 8] z = x := ⟨_, rfl⟩
        rw [hx'] at c5
        clear hp0 J hx'
        replace A : Hid _ := Apart.symm A.out
        go_wp2_with ((at_builtin; refine wpList_append_wanted rfl _ _ 23 rfl B 3 i0 (.int .i64 0) 1 8 Try.underlying23 hi hz0 hz1 hz2 rfl (by decide) _ _ _ rfl (Own.alloc S.out _) _ 1 1 [.int .i64 (x)] rfl rfl (cell_one_new _ _ _) (by intro u hu; simp at hu; subst hu; rfl) (by unfold maxLen; omega) (by omega) (Own.base (Own.alloc S.out _) NS.out) ?_))
        intro s2 wn hown hgrow hnil hat
        have lt5 := Own.lt S.out
        have Sn : Hid (Own wn B s2 (ss ++ [x])) := Own.snoc hown
        have NSn : Hid (s2 ≠ .slice none 0 0) := (by first | exact hnil | exact fun e => absurd (hnil.1 e).2 (by simp) | exact fun e => absurd (hnil.1 e).1 (by simp))
        have Rn : Hid _ := Rd.grown (Rd.alloc R.out _) hgrow (fun i e => by have := lt5 i e; omega)
        have Fn : Hid (Fr w g _) := Fr.own (Fr.alloc F.out _) hgrow (fun i e => by have := lt5 i e; omega)
        have Ln : Hid _ := Own.apart (Own.alloc L.out _) A.out hgrow
        have An : Hid (Apart _ s2) := (by first | exact Apart.grown1 L.out A.out hat | exact Apart.grown (Own.alloc L.out _) A.out hat)
        clear hown hgrow lt5 hnil hat
        clear S NS R F L A
        have S := Sn
        have NS := NSn
        have R := Rn
        have F := Fn
        have L := Ln
        have A := An
        clear Sn NSn Rn Fn Ln An
        clear c5
        obtain ⟨b1, c1, h1, hb1, -, i1, l1, m1⟩ := Own.some S.out NS.out
        obtain ⟨b2, c2, h2, hb2, -, i2, l2, m2⟩ := Own.some L.out NL.out
        have J1 := Lib.hid i1
        have J2 := Lib.hid i2
        subst h1 h2
        clear i1 i2
        go_wp2_with fail
        exact bodyPost_ret (v := .tuple #[.slice (some ⟨b1, 0, none⟩) (ss ++ [x]).length c1, .slice (some ⟨b2, 0, none⟩) ls.length c2]) (by simp [results, Try.results35, go_sem]) (by simp) ⟨b1, c1, ss ++ [x], b2, c2, ls, _, rfl, ⟨by simp; omega, by omega⟩, ⟨⟨l1, m1⟩, ⟨l2, m2⟩⟩, ⟨by omega, by omega⟩, ⟨J1.out, J2.out⟩, R.out, by omega, F.out⟩
      · subst hp
        have hglH2 := Rd.lt R.out
        obtain ⟨H2, hH2⟩ : ∃ H2, Array.size (World.heap wn) = H2 := ⟨_, rfl⟩
        have HH2 : Hid _ := hH2
        rw [hH2] at hglH2
        have J : Hid (Ints (wn.alloc (.cells #[.int .i64 (-1), .int .i64 9] 3)) H2 0 [-1, 9]) := by rw [← hH2]; exact one_row wn (-1) 9
        have hH2g : H2 ≠ g := by omega
        clear hH2
        have Rn : Hid _ := Rd.alloc R.out (.cells #[.int .i64 (-1), .int .i64 9] 3)
        have Fn : Hid (Fr w g _) := Fr.alloc F.out (.cells #[.int .i64 (-1), .int .i64 9] 3)
        have Sn : Hid _ := Own.alloc S.out (.cells #[.int .i64 (-1), .int .i64 9] 3)
        have Ln : Hid _ := Own.alloc L.out (.cells #[.int .i64 (-1), .int .i64 9] 3)
        clear R F S L
        have R := Rn
        have F := Fn
        have S := Sn
        have L := Ln
        clear Rn Fn Sn Ln
        clear hglH2
        go_wp2_with fail
        rw [HH2.out]
        refine (pick_c g _ (2) _ R.out (by omega) (by omega)).mono ?_
        rintro e wn ⟨p, rfl, hp0, p1, v2, v3, v4⟩
        have hp : p ≤ 1 := by omega
        skip
        have Rn : Hid _ := v2
        have Fn : Hid (Fr w g _) := Fr.trans F.out v3
        have Sn : Hid _ := Own.kept S.out v3 hgB
        have Ln : Hid _ := Own.kept L.out v3 hgB
        have Jn : Hid _ := Ints.fr J.out v3 hH2g
        clear v3 v2 v4 p1
        clear R F S L J
        have R := Rn
        have F := Fn
        have S := Sn
        have L := Ln
        have J := Jn
        clear Rn Fn Sn Ln Jn
        obtain ⟨z, rfl⟩ := Int.eq_ofNat_of_zero_le hp0
        have hz : z < 2 := by omega
        have hzI : (z : Int) < 2 := by omega
        have c5 : wn.cell? ⟨H2, z, none⟩ = some (.int .i64 (nth [-1, 9] z)) := by have := J.out z hz; simpa using this
        obtain ⟨x, hx'⟩ : ∃ x, nth [-1, 9] z = x := ⟨_, rfl⟩
        rw [hx'] at c5
        clear hp0 J hx'
        have hll : 1 ≤ ls.length := by omega
        have hli : (0 : Int) < (ls.length : Int) := by omega
        obtain ⟨b2, c2, h2, hb2, i2, f2, l2, m2⟩ := Own.opened L.out hll
        subst h2
        obtain ⟨b1, c1, h1, hb1, -, i1, l1, m1⟩ := Own.some S.out NS.out
        have hst := Own.stored L.out 0 x
        have S2 := Lib.hid (Own.apart S.out A.out hst.2)
        have L2 := Lib.hid hst.1
        have R2 := Lib.hid (Rd.set (i := b2) (j := 0) R.out (.int .i64 x) (by omega))
        have F2 := Lib.hid (Fr.set (i := b2) (j := 0) F.out (.int .i64 x) (by omega))
        have y2 := i2 0 hll
        have yf := f2 0
        subst h1
        clear hst i1 i2 f2 R F S L
        go_wp2_with fail
        obtain ⟨b1', c1', h1', -, -, i1, -, -⟩ := Own.some S2.out (by simp)
        obtain ⟨b2', c2', h2', -, -, i2, -, -⟩ := Own.some L2.out (by simp)
        simp only [Value.slice.injEq, Option.some.injEq, Addr.mk.injEq, and_true, true_and] at h1' h2'
        obtain ⟨rfl, rfl⟩ := h1'
        obtain ⟨rfl, -, rfl⟩ := h2'
        exact bodyPost_ret (v := .tuple #[.slice (some ⟨b1, 0, none⟩) ss.length c1, .slice (some ⟨b2, 0, none⟩) (ls.set 0 x).length c2]) (by simp [results, Try.results35, go_sem]) (by simp) ⟨b1, c1, ss, b2, c2, ls.set 0 x, _, rfl, ⟨by omega, by simp; omega⟩, ⟨⟨l1, m1⟩, ⟨by simpa using l2, m2⟩⟩, ⟨by omega, by omega⟩, ⟨i1, i2⟩, R2.out, by omega, F2.out⟩
end Go.Proofs.Yteeokegkbhpbcaa
