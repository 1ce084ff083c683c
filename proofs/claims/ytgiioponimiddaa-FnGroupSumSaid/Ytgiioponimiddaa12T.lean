/- What the drawing functions of chapter 12 give: the laws' arguments. -/
import Derived.Test.YtgiioponimiddaaT
import Derived.Test.YtgiioponimiddaaI
namespace Go.Proofs.Ytgiioponimiddaa
open Go.RowKit
set_option linter.unusedVariables false
set_option linter.unusedSimpArgs false
set_option maxRecDepth 100000

/-- A drawn group, with the reader behind it. -/
def DrawnGp (w : World) (g c : Nat) (e : Ending) (w' : World) : Prop := ∃ (b off cap : Nat) (xs : List Int) (b1 c1 : Nat) (cs : List Int) (b2 c2 : Nat) (ks : List Int) (c' : Nat), e = .returned (.tuple #[.slice (some ⟨b, off, none⟩) xs.length cap, .slice (some ⟨b1, 0, none⟩) cs.length c1, .slice (some ⟨b2, 0, none⟩) ks.length c2]) ∧ (xs.length ≤ 9 ∧ xs.length ≤ cap ∧ cap ≤ maxLen) ∧ (cs.length ≤ 4 ∧ ks.length ≤ 5) ∧ ((cs.length ≤ c1 ∧ c1 ≤ maxLen) ∧ (ks.length ≤ c2 ∧ c2 ≤ maxLen)) ∧ (b ≠ g ∧ b1 ≠ g ∧ b2 ≠ g) ∧ (Ints w' b off xs ∧ Ints w' b1 0 cs ∧ Ints w' b2 0 ks) ∧ Rd w' g c' ∧ c' ≤ c + 40 ∧ Fr w g w'
set_option maxHeartbeats 8000000 in
theorem l20Group_c (g c : Nat) (n : Int) (w : World) (hr : Rd w g c) (hc : c ≤ 100000) (hn0 : 0 < n) (hn1 : n ≤ 100) :
    Calls Try.prog 35 #[.pointer (some ⟨g, 0, none⟩), .int .i64 n] w (DrawnGp w g c) := by
  obtain ⟨i0, hi, hz0, hz1, hz2⟩ := info_parts infoInt
  have hN : -9223372036854775808 ≤ 2 * n ∧ 2 * n ≤ 9223372036854775807 := by omega
  have HR : Hid _ := hr
  have hgw := hr.lt
  clear hr
  go_enter Try.func35, Try.ntmps35
  go_wp2_with fail
  refine (l20Floors_c g c (2 * n) _ HR.out hc (by omega) (by omega)).mono ?_
  rintro e wn ⟨b, off, cp, xs, c', rfl, hx, hcl, hcm, ⟨hbg, hbge⟩, hxb, hI, hr, hc', hf⟩
  have X : Hid _ := hI
  have R : Hid _ := hr
  have F : Hid _ := hf
  clear hI hr hf HR hxb hbge
  obtain ⟨B, hB⟩ : ∃ B, (World.heap wn).size = B := ⟨_, rfl⟩
  have HB := Lib.hid hB
  have hgB : g < B := by rw [← hB]; exact Rd.lt R.out
  have hwB : w.heap.size ≤ B := by rw [← hB]; exact F.out.size
  have hbB : 0 < xs.length → b < B := fun h => by rw [← hB]; exact Ints.lt X.out h
  have S1 := Lib.hid (show Own (wn.alloc (.cells #[] 3)) B (.slice (some ⟨B, 0, none⟩) 0 0) [] from by rw [← hB]; exact Own.none)
  have R1 := Lib.hid (Rd.alloc R.out (.cells #[] 3))
  have F1 := Lib.hid (Fr.alloc F.out (.cells #[] 3))
  have X1 := Lib.hid (Ints.al X.out (.cells #[] 3))
  clear hB R F X
  go_wp2_with fail
  rw [HB.out]
  refine (pick_c g _ 3 _ R1.out (by omega) (by omega)).mono ?_
  rintro e wn ⟨k, rfl, hk0, p1, v2, v3, v4⟩
  have R : Hid _ := v2
  have F : Hid (Fr w g wn) := Fr.trans F1.out v3
  have X : Hid _ := Ints.fr X1.out v3 hbg
  have S : Hid (Own wn B (.slice (some ⟨B, 0, none⟩) 0 0) []) := Own.kept S1.out v3 hgB
  have hk : k ≤ 2 := by omega
  have hkw : -9223372036854775808 ≤ 1 + k ∧ 1 + k ≤ 9223372036854775807 := by omega
  clear v2 v3 v4 p1 R1 F1 X1 S1 HB
  go_wp2_with fail
  go_loopw [8, 9] (fun vs vk wr => ∃ (ss : List Int) (k c' : Nat), vk = .int .i64 k ∧ k ≤ 3 ∧ ss.length + k ≤ 3 ∧ Own wr B vs ss ∧ vs ≠ .slice none 0 0 ∧ Ints wr b off xs ∧ Rd wr g c' ∧ c' + k ≤ c + 20 ∧ Fr w g wr) (fun _ vk _ => (intOf vk).toNat)
  case atStart =>
    obtain ⟨k, rfl⟩ := Int.eq_ofNat_of_zero_le hk0
    exact ⟨[], k + 1, _, by go_num, by omega, by simp; omega, S.out, by simp, X.out, R.out, by omega, F.out⟩
  case round =>
    clear S X R F hk0 hk hkw
    obtain ⟨ss, k, c', rfl, hk, hss, h1, h3, h6, h7, hc', h8⟩ := hrel
    have S : Hid _ := h1
    have NS : Hid _ := h3
    have X : Hid _ := h6
    have R : Hid _ := h7
    have F : Hid _ := h8
    clear h1 h3 h6 h7 h8
    obtain ⟨wn, hwq⟩ : ∃ w0 : World, w0 = wr := ⟨_, rfl⟩
    rw [← hwq] at S X R F ⊢
    clear hwq
    by_cases hk1 : 0 < k
    case pos =>
      have hkI : (0 : Int) < (k : Int) := by omega
      go_wp2_with fail
      all_goals
        refine (pick_c g _ _ _ R.out (by omega) (by omega)).mono ?_
        rintro e wn ⟨q, rfl, hq0, p1, v2, v3, v4⟩
        have Rn : Hid _ := v2
        have Fn : Hid (Fr w g wn) := Fr.trans F.out v3
        have Xn : Hid _ := Ints.fr X.out v3 hbg
        have Sn : Hid (Own wn B u8 ss) := Own.kept S.out v3 hgB
        clear v2 v3 v4 p1 R F X S
        have R := Rn
        have F := Fn
        have X := Xn
        have S := Sn
        clear Rn Fn Xn Sn
        go_wp2_with ((at_builtin; refine wpList_append_wanted rfl _ _ 23 rfl B 3 i0 (.int .i64 0) 1 8 Try.underlying23 hi hz0 hz1 hz2 rfl (by decide) _ _ _ rfl (Own.alloc S.out _) _ 1 1 [.int .i64 (q)] rfl rfl (cell_one_new _ _ _) (by intro u hu; simp at hu; subst hu; rfl) (by unfold maxLen; omega) (by omega) (Own.base (Own.alloc S.out _) NS.out) ?_))
        intro s2 wn hown hgrow hnil hat
        have lt5 := Own.lt S.out
        have Sn : Hid (Own wn B s2 (ss ++ [q])) := Own.snoc hown
        have NSn : Hid (s2 ≠ .slice none 0 0) := (by first | exact hnil | exact fun e => absurd (hnil.1 e).2 (by simp) | exact fun e => absurd (hnil.1 e).1 (by simp))
        have Rn : Hid _ := Rd.grown (Rd.alloc R.out _) hgrow (fun i e => by have := lt5 i e; omega)
        have Fn : Hid (Fr w g _) := Fr.own (Fr.alloc F.out _) hgrow (fun i e => by have := lt5 i e; omega)
        have Xn : Hid _ := Ints.gr (Ints.al X.out _) hgrow (fun i e h0 => by have := lt5 i e; omega)
        clear hown hgrow lt5 hnil hat
        clear S NS R F X
        have S := Sn
        have NS := NSn
        have R := Rn
        have F := Fn
        have X := Xn
        clear Sn NSn Rn Fn Xn
        go_wp2_with fail
        go_roundw
        case rel => exact ⟨ss ++ [q], k - 1, _, by go_num, by omega, by simp; omega, S.out, NS.out, X.out, R.out, by omega, F.out⟩
        case measure => simp [intOf]; omega
    obtain rfl : k = 0 := by omega
    obtain ⟨H, hH⟩ : ∃ H, (World.heap wn).size = H := ⟨_, rfl⟩
    have HH := Lib.hid hH
    have hBH : B ≤ H := by rw [← hH]; exact Own.base S.out NS.out
    have A1 := Lib.hid (show Apart u8 (.slice (some ⟨H, 0, none⟩) 0 0) from fun i j hi hj => by
      have := (own_lt2 S.out i hi).2
      simp [Value.ownBlock] at hj
      omega)
    have L0 := Lib.hid (show Own (wn.alloc (.cells #[] 3)) H (.slice (some ⟨H, 0, none⟩) 0 0) [] from by rw [← hH]; exact Own.none)
    have L1 := Lib.hid (Own.mono (A := B) L0.out hBH)
    have S1 := Lib.hid (Own.alloc S.out (.cells #[] 3))
    have R1 := Lib.hid (Rd.alloc R.out (.cells #[] 3))
    have F1 := Lib.hid (Fr.alloc F.out (.cells #[] 3))
    have X1 := Lib.hid (Ints.al X.out (.cells #[] 3))
    clear hH R F X S L0
    go_wp2_with fail
    rw [HH.out]
    refine (pick_c g _ 5 _ R1.out (by omega) (by omega)).mono ?_
    rintro e wn ⟨m, rfl, hm0, p1, v2, v3, v4⟩
    have R : Hid _ := v2
    have F : Hid (Fr w g wn) := Fr.trans F1.out v3
    have X : Hid _ := Ints.fr X1.out v3 hbg
    have S : Hid (Own wn B u8 ss) := Own.kept S1.out v3 hgB
    have L : Hid (Own wn B (.slice (some ⟨H, 0, none⟩) 0 0) []) := Own.kept L1.out v3 hgB
    have hm : m ≤ 4 := by omega
    clear v2 v3 v4 p1 R1 F1 X1 S1 L1 HH
    go_wp2_with fail
    go_loopw [10, 11] (fun vl vk wr => ∃ (ls : List Int) (k c' : Nat), vk = .int .i64 k ∧ k ≤ 4 ∧ ls.length + k ≤ 4 ∧ Own wr B vl ls ∧ vl ≠ .slice none 0 0 ∧ Apart u8 vl ∧ Own wr B u8 ss ∧ Ints wr b off xs ∧ Rd wr g c' ∧ c' + k ≤ c + 30 ∧ Fr w g wr) (fun _ vk _ => (intOf vk).toNat)
    case atStart =>
      obtain ⟨m, rfl⟩ := Int.eq_ofNat_of_zero_le hm0
      exact ⟨[], m, _, rfl, by omega, by simp; omega, L.out, by simp, A1.out, S.out, X.out, R.out, by omega, F.out⟩
    case round =>
      clear S L X R F A1 hm0 hm
      obtain ⟨ls, k, c', rfl, hk, hls, h1, h2, h3, h4, h6, h7, hc', h8⟩ := hrel
      have L : Hid _ := h1
      have NL : Hid _ := h2
      have A : Hid _ := h3
      have S : Hid _ := h4
      have X : Hid _ := h6
      have R : Hid _ := h7
      have F : Hid _ := h8
      clear h1 h2 h3 h4 h6 h7 h8
      obtain ⟨wn, hwq⟩ : ∃ w0 : World, w0 = wr := ⟨_, rfl⟩
      rw [← hwq] at S L X R F ⊢
      clear hwq
      by_cases hk1 : 0 < k
      case pos =>
        have hkI : (0 : Int) < (k : Int) := by omega
        go_wp2_with fail
        all_goals
          refine (pick_c g _ _ _ R.out (by omega) (by omega)).mono ?_
          rintro e wn ⟨q, rfl, hq0, p1, v2, v3, v4⟩
          have Rn : Hid _ := v2
          have Fn : Hid (Fr w g wn) := Fr.trans F.out v3
          have Xn : Hid _ := Ints.fr X.out v3 hbg
          have Sn : Hid (Own wn B u8 ss) := Own.kept S.out v3 hgB
          have Ln : Hid (Own wn B u10 ls) := Own.kept L.out v3 hgB
          clear v2 v3 v4 p1 R F X S L
          have R := Rn
          have F := Fn
          have X := Xn
          have S := Sn
          have L := Ln
          clear Rn Fn Xn Sn Ln
          go_wp2_with ((at_builtin; refine wpList_append_wanted rfl _ _ 23 rfl B 3 i0 (.int .i64 0) 1 8 Try.underlying23 hi hz0 hz1 hz2 rfl (by decide) _ _ _ rfl (Own.alloc L.out _) _ 1 1 [.int .i64 (q)] rfl rfl (cell_one_new _ _ _) (by intro u hu; simp at hu; subst hu; rfl) (by unfold maxLen; omega) (by omega) (Own.base (Own.alloc L.out _) NL.out) ?_))
          intro s2 wn hown hgrow hnil hat
          have lt5 := Own.lt L.out
          have Ln : Hid (Own wn B s2 (ls ++ [q])) := Own.snoc hown
          have NLn : Hid (s2 ≠ .slice none 0 0) := (by first | exact hnil | exact fun e => absurd (hnil.1 e).2 (by simp) | exact fun e => absurd (hnil.1 e).1 (by simp))
          have Rn : Hid _ := Rd.grown (Rd.alloc R.out _) hgrow (fun i e => by have := lt5 i e; omega)
          have Fn : Hid (Fr w g _) := Fr.own (Fr.alloc F.out _) hgrow (fun i e => by have := lt5 i e; omega)
          have Xn : Hid _ := Ints.gr (Ints.al X.out _) hgrow (fun i e h0 => by have := lt5 i e; omega)
          have Sn : Hid _ := Own.apart (Own.alloc S.out _) A.out hgrow
          have An : Hid (Apart _ s2) := (by first | exact Apart.grown1 S.out A.out hat | exact Apart.grown (Own.alloc S.out _) A.out hat)
          clear hown hgrow lt5 hnil hat
          clear L NL R F X S A
          have L := Ln
          have NL := NLn
          have R := Rn
          have F := Fn
          have X := Xn
          have S := Sn
          have A := An
          clear Ln NLn Rn Fn Xn Sn An
          go_wp2_with fail
          go_roundw
          case rel => exact ⟨ls ++ [q], k - 1, _, by go_num, by omega, by simp; omega, L.out, NL.out, A.out, S.out, X.out, R.out, by omega, F.out⟩
          case measure => simp [intOf]; omega
      obtain rfl : k = 0 := by omega
      go_wp2_with fail
      refine (odd_c g _ ((2 * n)) _ R.out (by omega) (by omega) (by omega)).mono ?_
      rintro e wn ⟨o, jo, rfl, hjo, v2, v3, v4⟩
      skip
      have Rn : Hid _ := v2
      have Fn : Hid (Fr w g _) := Fr.trans F.out v3
      have Xn : Hid _ := Ints.fr X.out v3 hbg
      have Sn : Hid _ := Own.kept S.out v3 hgB
      have Ln : Hid _ := Own.kept L.out v3 hgB
      clear v3 v2 v4
      clear R F X S L
      have R := Rn
      have F := Fn
      have X := Xn
      have S := Sn
      have L := Ln
      clear Rn Fn Xn Sn Ln
      cases o
      case false =>
        obtain ⟨b1, c1, h1, hb1, -, i1, l1, m1⟩ := Own.some S.out NS.out
        obtain ⟨b2, c2, h2, hb2, -, i2, l2, m2⟩ := Own.some L.out NL.out
        have J1 := Lib.hid i1
        have J2 := Lib.hid i2
        subst h1 h2
        clear i1 i2
        go_wp2_with fail
        exact bodyPost_ret (v := .tuple #[.slice (some ⟨b, off, none⟩) xs.length cp, .slice (some ⟨b1, 0, none⟩) ss.length c1, .slice (some ⟨b2, 0, none⟩) ls.length c2]) (by simp [results, Try.results35, go_sem]) rfl ⟨b, off, cp, xs, b1, c1, ss, b2, c2, ls, _, rfl, ⟨hx, hcl, hcm⟩, ⟨by omega, by omega⟩, ⟨⟨l1, m1⟩, ⟨l2, m2⟩⟩, ⟨hbg, by omega, by omega⟩, ⟨X.out, J1.out, J2.out⟩, R.out, by omega, F.out⟩
      go_wp2_with fail
      refine (pick_c g _ (3) _ R.out (by omega) (by omega)).mono ?_
      rintro e wn ⟨p, rfl, hp0, p1, v2, v3, v4⟩
      have hp : p ≤ 2 := by omega
      skip
      have Rn : Hid _ := v2
      have Fn : Hid (Fr w g _) := Fr.trans F.out v3
      have Xn : Hid _ := Ints.fr X.out v3 hbg
      have Sn : Hid _ := Own.kept S.out v3 hgB
      have Ln : Hid _ := Own.kept L.out v3 hgB
      clear v3 v2 v4 p1
      clear R F X S L
      have R := Rn
      have F := Fn
      have X := Xn
      have S := Sn
      have L := Ln
      clear Rn Fn Xn Sn Ln
      obtain hp | hp | hp : p = 0 ∨ p = 1 ∨ p = 2 := by omega
      · subst hp
        obtain ⟨b2, c2, h2, hb2, -, i2, l2, m2⟩ := Own.some L.out NL.out
        subst h2
        have hgn := Rd.lt R.out
        obtain ⟨G, hG⟩ : ∃ G, (World.heap wn).size = G := ⟨_, rfl⟩
        have HG := Lib.hid hG
        rw [hG] at hgn
        have E1 := Lib.hid (show Ints (wn.alloc (.cells #[] 3)) G 0 [] from fun i hi => by simp at hi)
        have R1 := Lib.hid (Rd.alloc R.out (.cells #[] 3))
        have F1 := Lib.hid (Fr.alloc F.out (.cells #[] 3))
        have X1 := Lib.hid (Ints.al X.out (.cells #[] 3))
        have J2 := Lib.hid (Ints.al i2 (.cells #[] 3))
        clear hG R F X S L i2
        go_wp2_with fail
        rw [HG.out]
        exact bodyPost_ret (v := .tuple #[.slice (some ⟨b, off, none⟩) xs.length cp, .slice (some ⟨G, 0, none⟩) 0 0, .slice (some ⟨b2, 0, none⟩) ls.length c2]) (by simp [results, Try.results35, go_sem]) rfl ⟨b, off, cp, xs, G, 0, [], b2, c2, ls, _, rfl, ⟨hx, hcl, hcm⟩, ⟨by simp, by omega⟩, ⟨⟨by simp, by unfold maxLen; omega⟩, ⟨l2, m2⟩⟩, ⟨hbg, by omega, by omega⟩, ⟨X1.out, E1.out, J2.out⟩, R1.out, by omega, F1.out⟩
      · subst hp
        go_wp2_with ((at_builtin; refine wpList_append_wanted rfl _ _ 23 rfl B 3 i0 (.int .i64 0) 1 8 Try.underlying23 hi hz0 hz1 hz2 rfl (by decide) _ _ _ rfl (Own.alloc L.out _) _ 1 1 [.int .i64 ((xs.length : Int))] rfl rfl (cell_one_new _ _ _) (by intro u hu; simp at hu; subst hu; rfl) (by unfold maxLen; omega) (by omega) (Own.base (Own.alloc L.out _) NL.out) ?_))
        intro s2 wn hown hgrow hnil hat
        have lt5 := Own.lt L.out
        have Ln : Hid (Own wn B s2 (ls ++ [(xs.length : Int)])) := Own.snoc hown
        have NLn : Hid (s2 ≠ .slice none 0 0) := (by first | exact hnil | exact fun e => absurd (hnil.1 e).2 (by simp) | exact fun e => absurd (hnil.1 e).1 (by simp))
        have Rn : Hid _ := Rd.grown (Rd.alloc R.out _) hgrow (fun i e => by have := lt5 i e; omega)
        have Fn : Hid (Fr w g _) := Fr.own (Fr.alloc F.out _) hgrow (fun i e => by have := lt5 i e; omega)
        have Xn : Hid _ := Ints.gr (Ints.al X.out _) hgrow (fun i e h0 => by have := lt5 i e; omega)
        have Sn : Hid _ := Own.apart (Own.alloc S.out _) A.out hgrow
        have An : Hid (Apart _ s2) := (by first | exact Apart.grown1 S.out A.out hat | exact Apart.grown (Own.alloc S.out _) A.out hat)
        clear hown hgrow lt5 hnil hat
        clear L NL R F X S A
        have L := Ln
        have NL := NLn
        have R := Rn
        have F := Fn
        have X := Xn
        have S := Sn
        have A := An
        clear Ln NLn Rn Fn Xn Sn An
        obtain ⟨b1, c1, h1, hb1, -, i1, l1, m1⟩ := Own.some S.out NS.out
        obtain ⟨b2, c2, h2, hb2, -, i2, l2, m2⟩ := Own.some L.out NL.out
        have J1 := Lib.hid i1
        have J2 := Lib.hid i2
        subst h1 h2
        clear i1 i2
        go_wp2_with fail
        exact bodyPost_ret (v := .tuple #[.slice (some ⟨b, off, none⟩) xs.length cp, .slice (some ⟨b1, 0, none⟩) ss.length c1, .slice (some ⟨b2, 0, none⟩) (ls ++ [(xs.length : Int)]).length c2]) (by simp [results, Try.results35, go_sem]) (by simp) ⟨b, off, cp, xs, b1, c1, ss, b2, c2, ls ++ [(xs.length : Int)], _, rfl, ⟨hx, hcl, hcm⟩, ⟨by omega, by simp; omega⟩, ⟨⟨l1, m1⟩, ⟨l2, m2⟩⟩, ⟨hbg, by omega, by omega⟩, ⟨X.out, J1.out, J2.out⟩, R.out, by omega, F.out⟩
      · subst hp
        replace A : Hid _ := Apart.symm A.out
        go_wp2_with ((at_builtin; refine wpList_append_wanted rfl _ _ 23 rfl B 3 i0 (.int .i64 0) 1 8 Try.underlying23 hi hz0 hz1 hz2 rfl (by decide) _ _ _ rfl (Own.alloc S.out _) _ 1 1 [.int .i64 ((-1))] rfl rfl (cell_one_new _ _ _) (by intro u hu; simp at hu; subst hu; rfl) (by unfold maxLen; omega) (by omega) (Own.base (Own.alloc S.out _) NS.out) ?_))
        intro s2 wn hown hgrow hnil hat
        have lt5 := Own.lt S.out
        have Sn : Hid (Own wn B s2 (ss ++ [(-1)])) := Own.snoc hown
        have NSn : Hid (s2 ≠ .slice none 0 0) := (by first | exact hnil | exact fun e => absurd (hnil.1 e).2 (by simp) | exact fun e => absurd (hnil.1 e).1 (by simp))
        have Rn : Hid _ := Rd.grown (Rd.alloc R.out _) hgrow (fun i e => by have := lt5 i e; omega)
        have Fn : Hid (Fr w g _) := Fr.own (Fr.alloc F.out _) hgrow (fun i e => by have := lt5 i e; omega)
        have Xn : Hid _ := Ints.gr (Ints.al X.out _) hgrow (fun i e h0 => by have := lt5 i e; omega)
        have Ln : Hid _ := Own.apart (Own.alloc L.out _) A.out hgrow
        have An : Hid (Apart _ s2) := (by first | exact Apart.grown1 L.out A.out hat | exact Apart.grown (Own.alloc L.out _) A.out hat)
        clear hown hgrow lt5 hnil hat
        clear S NS R F X L A
        have S := Sn
        have NS := NSn
        have R := Rn
        have F := Fn
        have X := Xn
        have L := Ln
        have A := An
        clear Sn NSn Rn Fn Xn Ln An
        obtain ⟨b1, c1, h1, hb1, -, i1, l1, m1⟩ := Own.some S.out NS.out
        obtain ⟨b2, c2, h2, hb2, -, i2, l2, m2⟩ := Own.some L.out NL.out
        have J1 := Lib.hid i1
        have J2 := Lib.hid i2
        subst h1 h2
        clear i1 i2
        go_wp2_with fail
        exact bodyPost_ret (v := .tuple #[.slice (some ⟨b, off, none⟩) xs.length cp, .slice (some ⟨b1, 0, none⟩) (ss ++ [-1]).length c1, .slice (some ⟨b2, 0, none⟩) ls.length c2]) (by simp [results, Try.results35, go_sem]) (by simp) ⟨b, off, cp, xs, b1, c1, ss ++ [-1], b2, c2, ls, _, rfl, ⟨hx, hcl, hcm⟩, ⟨by simp; omega, by omega⟩, ⟨⟨l1, m1⟩, ⟨l2, m2⟩⟩, ⟨hbg, by omega, by omega⟩, ⟨X.out, J1.out, J2.out⟩, R.out, by omega, F.out⟩
end Go.Proofs.Ytgiioponimiddaa
