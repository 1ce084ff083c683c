/- What the drawing functions of chapter 6 give: the laws' arguments. -/
import Derived.Test.Ytaipbfagiiclnaa6T
namespace Go.Proofs.Ytaipbfagiiclnaa
open Go.RowKit
set_option linter.unusedVariables false

def DrawnL (w : World) (e : Ending) (w' : World) : Prop := ∃ (b off cap : Nat) (xs : List Int), e = .returned (.slice (some ⟨b, off, none⟩) xs.length cap) ∧ xs.length ≤ 9 ∧ xs.length ≤ cap ∧ cap ≤ maxLen ∧ Ints w' b off xs ∧ Below w.heap.size w w'
theorem DrawLoadSum_c (a : Option Addr) (n cap : Nat) (w : World) (hb : Byt w a n) (hn : n ≤ cap) (hcap : cap ≤ maxLen) :
    Calls Try.prog 13 #[.slice a n cap] w (DrawnL w) := by
  go_enter Try.func13, Try.ntmps13
  go_wp2_with fail
  refine (open_c a n cap _ hb hn hcap).mono ?_
  rintro e w1 ⟨g, hg, rfl, hr, hB⟩
  go_wp2_with fail
  refine (l20Weights_c g 0 6 _ hr (by omega) (by omega) (by omega)).mono ?_
  rintro e w2 ⟨b2, o2, cap2, xs, rfl, hl, hcl, hcm, hs, hf⟩
  go_wp2_with fail
  go_ret
  exact ⟨_, _, _, xs, rfl, hl, hcl, hcm, hs, Fr.below hB hf hg⟩
theorem DrawOverloaded_c (a : Option Addr) (n cap : Nat) (w : World) (hb : Byt w a n) (hn : n ≤ cap) (hcap : cap ≤ maxLen) :
    Calls Try.prog 18 #[.slice a n cap] w (DrawnL w) := by
  go_enter Try.func18, Try.ntmps18
  go_wp2_with fail
  refine (open_c a n cap _ hb hn hcap).mono ?_
  rintro e w1 ⟨g, hg, rfl, hr, hB⟩
  go_wp2_with fail
  refine (l20Weights_c g 0 9 _ hr (by omega) (by omega) (by omega)).mono ?_
  rintro e w2 ⟨b2, o2, cap2, xs, rfl, hl, hcl, hcm, hs, hf⟩
  go_wp2_with fail
  go_ret
  exact ⟨_, _, _, xs, rfl, hl, hcl, hcm, hs, Fr.below hB hf hg⟩
theorem DrawLoadFirst_c (a : Option Addr) (n cap : Nat) (w : World) (hb : Byt w a n) (hn : n ≤ cap) (hcap : cap ≤ maxLen) :
    Calls Try.prog 21 #[.slice a n cap] w (DrawnL w) := by
  go_enter Try.func21, Try.ntmps21
  go_wp2_with fail
  refine (open_c a n cap _ hb hn hcap).mono ?_
  rintro e w1 ⟨g, hg, rfl, hr, hB⟩
  go_wp2_with fail
  refine (l20Weights_c g 0 9 _ hr (by omega) (by omega) (by omega)).mono ?_
  rintro e w2 ⟨b2, o2, cap2, xs, rfl, hl, hcl, hcm, hs, hf⟩
  go_wp2_with fail
  go_ret
  exact ⟨_, _, _, xs, rfl, hl, hcl, hcm, hs, Fr.below hB hf hg⟩
def DrawnTr (w : World) (e : Ending) (w' : World) : Prop := ∃ (b off cap : Nat) (xs : List Int) (x y l : Int), e = .returned (.tuple #[.slice (some ⟨b, off, none⟩) xs.length cap, .int .i64 x, .int .i64 y, .int .i64 l]) ∧ xs.length ≤ 9 ∧ -1 ≤ l ∧ l ≤ 41 ∧ Ints w' b off xs ∧ Below w.heap.size w w'
set_option maxHeartbeats 400000 in
theorem DrawTripWork_c (a : Option Addr) (n cap : Nat) (w : World) (hb : Byt w a n) (hn : n ≤ cap) (hcap : cap ≤ maxLen) :
    Calls Try.prog 24 #[.slice a n cap] w (DrawnTr w) := by
  go_enter Try.func24, Try.ntmps24
  go_wp2_with fail
  refine (open_c a n cap _ hb hn hcap).mono ?_
  rintro e wn ⟨g, hg, rfl, hr, hB⟩
  have R : Hid _ := hr
  have T : Hid _ := hB
  clear hr hB
  go_wp2_with fail
  refine (l20Floors_c g 0 12 _ R.out (by omega) (by omega) (by omega)).mono ?_
  rintro e wn ⟨b, off, cp, xs, c', rfl, hx, hcl, hcm, ⟨hbg, hbge⟩, hxb, hI, hr, hc, hf⟩
  have X : Hid _ := hI
  have Tn : Hid (Below w.heap.size w _) := Fr.below T.out hf hg
  have Rn : Hid _ := hr
  clear hr hf hI hxb R T hbge
  have R := Rn
  have T := Tn
  clear Rn Tn
  go_wp2_with fail
  refine (pick_c g _ ((xs.length + 1)) _ R.out (by omega) (by omega)).mono ?_
  rintro e wn ⟨p, rfl, hp0, p1, v2, v3, v4⟩
  have hp : p < (xs.length + 1) ∨ p = 0 := p1
  skip
  have Rn : Hid _ := v2
  have Tn : Hid (Below w.heap.size w _) := Fr.below T.out v3 hg
  have Xn : Hid _ := Ints.fr X.out v3 hbg
  clear v3 v2 v4 p1
  clear R T X
  have R := Rn
  have T := Tn
  have X := Xn
  clear Rn Tn Xn
  go_wp2_with fail
  all_goals
    refine (pick_c g _ _ _ R.out (by omega) (by omega)).mono ?_
    rintro e wn ⟨q, rfl, hq0, p1, v2, v3, v4⟩
    have Rn : Hid _ := v2
    have Tn : Hid (Below w.heap.size w _) := Fr.below T.out v3 hg
    have Xn : Hid _ := Ints.fr X.out v3 hbg
    clear v2 v3 v4 p1 R T X
    have R := Rn
    have T := Tn
    have X := Xn
    clear Rn Tn Xn
    go_wp2_with fail
    refine (pick_c g _ (42) _ R.out (by omega) (by omega)).mono ?_
    rintro e wn ⟨u, rfl, hu0, p1, v2, v3, v4⟩
    have hu : u ≤ 41 := by omega
    skip
    have Rn : Hid _ := v2
    have Tn : Hid (Below w.heap.size w _) := Fr.below T.out v3 hg
    have Xn : Hid _ := Ints.fr X.out v3 hbg
    clear v3 v2 v4 p1
    clear R T X
    have R := Rn
    have T := Tn
    have X := Xn
    clear Rn Tn Xn
    go_wp2_with fail
    refine (pick_c g _ (20) _ R.out (by omega) (by omega)).mono ?_
    rintro e wn ⟨v, rfl, hv0, p1, v2, v3, v4⟩
    have hv : v ≤ 19 := by omega
    skip
    have Rn : Hid _ := v2
    have Tn : Hid (Below w.heap.size w _) := Fr.below T.out v3 hg
    have Xn : Hid _ := Ints.fr X.out v3 hbg
    clear v3 v2 v4 p1
    clear R T X
    have R := Rn
    have T := Tn
    have X := Xn
    clear Rn Tn Xn
    go_wp2_with fail
    exact bodyPost_ret (v := .tuple #[.slice (some ⟨b, off, none⟩) xs.length cp, .int .i64 p, .int .i64 q, .int .i64 (u - v / 19)]) (by simp [results, Try.results24, go_sem]) rfl ⟨_, _, _, xs, _, _, _, rfl, hx, by omega, by omega, X.out, T.out⟩
def DrawnTo (w : World) (e : Ending) (w' : World) : Prop := ∃ (b off cap : Nat) (xs : List Int) (b1 c1 : Nat) (ss : List Int) (b2 c2 : Nat) (ls : List Int), e = .returned (.tuple #[.slice (some ⟨b, off, none⟩) xs.length cap, .slice (some ⟨b1, 0, none⟩) ss.length c1, .slice (some ⟨b2, 0, none⟩) ls.length c2]) ∧ xs.length ≤ 9 ∧ ss.length ≤ 7 ∧ ls.length ≤ 7 ∧ (ss.length ≤ c1 ∧ c1 ≤ maxLen) ∧ (ls.length ≤ c2 ∧ c2 ≤ maxLen) ∧ (1 ≤ ss.length) ∧ Ints w' b off xs ∧ Ints w' b1 0 ss ∧ Ints w' b2 0 ls ∧ Below w.heap.size w w'
set_option maxHeartbeats 2000000 in
theorem DrawTourWork_c (a : Option Addr) (n cap : Nat) (w : World) (hb : Byt w a n) (hn : n ≤ cap) (hcap : cap ≤ maxLen) :
    Calls Try.prog 27 #[.slice a n cap] w (DrawnTo w) := by
  obtain ⟨i0, hi, hz0, hz1, hz2⟩ := info_parts infoInt
  go_enter Try.func27, Try.ntmps27
  go_wp2_with fail
  refine (open_c a n cap _ hb hn hcap).mono ?_
  rintro e wn ⟨g, hg, rfl, hr, hB⟩
  have R : Hid _ := hr
  have T : Hid _ := hB
  clear hr hB
  go_wp2_with fail
  refine (l20Floors_c g 0 12 _ R.out (by omega) (by omega) (by omega)).mono ?_
  rintro e wn ⟨b, off, cp, xs, c', rfl, hx, hcl, hcm, ⟨hbg, hbge⟩, hxb, hI, hr, hc, hf⟩
  have X : Hid _ := hI
  have hbs := Ints.lt hI
  have Tn : Hid (Below w.heap.size w _) := Fr.below T.out hf hg
  have Rn : Hid _ := hr
  clear hr hf hI hxb R T hbge
  have R := Rn
  have T := Tn
  clear Rn Tn
  go_wp2_with fail
  all_goals
    refine (pick_c g _ _ _ R.out (by omega) (by omega)).mono ?_
    rintro e wm ⟨q, rfl, hq0, p1, v2, v3, v4⟩
    have Rn : Hid _ := v2
    have Tn : Hid (Below w.heap.size w _) := Fr.below T.out v3 hg
    have Xn : Hid _ := Ints.fr X.out v3 hbg
    have hg0 := Rd.lt R.out
    obtain ⟨B, hB⟩ : ∃ B, wm.heap.size = B := ⟨_, rfl⟩
    have hgB : g < B := by have := v3.size; omega
    have hwB : w.heap.size ≤ B := by omega
    have hbB : 0 < xs.length → b < B := fun h => by have := hbs h; have := v3.size; omega
    have S0 : Hid _ := Own.new (w := wm) q
    rw [hB] at S0
    have S1 : Hid (Own _ B (.slice (some ⟨B, 0, none⟩) 1 1) [q]) := Own.alloc S0.out (.cells #[] 3)
    have L1 : Hid _ := Own.none (w := wm.alloc (.cells #[.int .i64 q] 3))
    have e1 : (wm.alloc (.cells #[.int .i64 q] 3)).heap.size = B + 1 := by simp [hB]
    rw [e1] at L1
    have L2 : Hid (Own _ B (.slice (some ⟨B + 1, 0, none⟩) 0 0) []) := Own.mono L1.out (by omega)
    have R1 : Hid _ := Rd.alloc (Rd.alloc Rn.out (.cells #[.int .i64 q] 3)) (.cells #[] 3)
    have T1 : Hid (Below w.heap.size w _) := Below.al (Below.al Tn.out (.cells #[.int .i64 q] 3)) (.cells #[] 3)
    have X1 : Hid _ := Ints.al (Ints.al Xn.out (.cells #[.int .i64 q] 3)) (.cells #[] 3)
    have HB : Hid _ := hB
    clear v2 v3 v4 p1 R T X Rn Tn Xn hg0 hB S0 L1 e1 hbs
    go_wp2_with fail
    rw [HB.out]
    refine (pick_c g _ 7 _ R1.out (by omega) (by omega)).mono ?_
    rintro e wn ⟨k, rfl, hk0, p1, v2, v3, v4⟩
    have R : Hid _ := v2
    have T : Hid (Below w.heap.size w _) := Fr.below T1.out v3 hg
    have X : Hid _ := Ints.fr X1.out v3 hbg
    have S : Hid (Own wn B (.slice (some ⟨B, 0, none⟩) 1 1) [q]) := Own.kept S1.out v3 hgB
    have L : Hid (Own wn B (.slice (some ⟨B + 1, 0, none⟩) 0 0) []) := Own.kept L2.out v3 hgB
    have hk : k ≤ 6 := by omega
    clear v2 v3 v4 p1 R1 T1 X1 S1 L2 HB
    go_wp2_with fail
    go_loopw [7, 8, 9] (fun vs vl vk wr => ∃ (ss ls : List Int) (k c' : Nat), vk = .int .i64 k ∧ k ≤ 6 ∧ ss.length + k ≤ 7 ∧ ls.length + k ≤ 6 ∧ 1 ≤ ss.length ∧ Own wr B vs ss ∧ Own wr B vl ls ∧ vs ≠ .slice none 0 0 ∧ vl ≠ .slice none 0 0 ∧ Apart vl vs ∧ Ints wr b off xs ∧ Rd wr g c' ∧ c' + 2 * k ≤ 30 ∧ Below w.heap.size w wr) (fun _ _ vk _ => (intOf vk).toNat)
    case atStart =>
      obtain ⟨k, rfl⟩ := Int.eq_ofNat_of_zero_le hk0
      exact ⟨[q], [], k, _, rfl, by omega, by simp; omega, by simp; omega, by simp, S.out, L.out, by simp, by simp, fun i j hi hj => by simp [Value.ownBlock] at hi hj; omega, X.out, R.out, by omega, T.out⟩
    case round =>
      clear S L X R T hk0 hk
      obtain ⟨ss, ls, k, c', rfl, hk, hss, hls, hs1, h1, h2, h3, h4, h5, h6, h7, hc', h8⟩ := hrel
      have S : Hid _ := h1
      have L : Hid _ := h2
      have NS : Hid _ := h3
      have NL : Hid _ := h4
      have A : Hid _ := h5
      have X : Hid _ := h6
      have R : Hid _ := h7
      have T : Hid _ := h8
      clear h1 h2 h3 h4 h5 h6 h7 h8
      by_cases hk0 : 0 < k
      · have hkI : (0 : Int) < (k : Int) := by omega
        go_wp2_with fail
        all_goals
          refine (pick_c g _ _ _ R.out (by omega) (by omega)).mono ?_
          rintro e wn ⟨p, rfl, hq0, p1, v2, v3, v4⟩
          have Rn : Hid _ := v2
          have Tn : Hid (Below w.heap.size w _) := Fr.below T.out v3 hg
          have Xn : Hid _ := Ints.fr X.out v3 hbg
          have Sn : Hid _ := Own.kept S.out v3 hgB
          have Ln : Hid _ := Own.kept L.out v3 hgB
          clear v2 v3 v4 p1 R T X S L
          have R := Rn
          have T := Tn
          have X := Xn
          have S := Sn
          have L := Ln
          clear Rn Tn Xn Sn Ln
          go_wp2_with ((at_builtin; refine wpList_append_own_at _ rfl _ _ 23 rfl B 3 i0 (.int .i64 0) 1 8 Try.underlying23 hi hz0 hz1 hz2 rfl (by decide) _ _ _ rfl (Own.alloc S.out _) _ 1 1 [.int .i64 (p)] rfl rfl ?c1 ?c2 ?c3 ?c4 ?c5 ?_))
          case c1 => exact cell_one_new _ _ _
          case c2 => intro u hu; simp at hu; subst hu; rfl
          case c3 => unfold maxLen; omega
          case c4 => omega
          case c5 => exact Own.base (Own.alloc S.out _) NS.out
          intro v1 wn hown hgrow hnil hat
          have lt5 := Own.lt S.out
          have Sn : Hid (Own wn B v1 (ss ++ [p])) := Own.snoc hown
          have NSn : Hid (v1 ≠ .slice none 0 0) := (by first | exact hnil | exact fun e => absurd (hnil.1 e).2 (by simp) | exact fun e => absurd (hnil.1 e).1 (by simp))
          have Rn : Hid _ := Rd.grown (Rd.alloc R.out _) hgrow (fun i e => by have := lt5 i e; omega)
          have Tn : Hid (Below w.heap.size w _) := Below.own (Below.al T.out _) hgrow (fun i e => by have := lt5 i e; omega)
          have Xn : Hid _ := Ints.gr (Ints.al X.out _) hgrow (fun i e h0 => by have := lt5 i e; omega)
          have Ln : Hid _ := Own.apart (Own.alloc L.out _) A.out hgrow
          have An : Hid (Apart _ v1) := (by first | exact Apart.grown1 L.out A.out hat | exact Apart.grown (Own.alloc L.out _) A.out hat)
          clear hown hgrow lt5 hnil hat
          clear S NS R T X L A
          have S := Sn
          have NS := NSn
          have R := Rn
          have T := Tn
          have X := Xn
          have L := Ln
          have A := An
          clear Sn NSn Rn Tn Xn Ln An
          go_wp2_with fail
          refine (pick_c g _ (41) _ R.out (by omega) (by omega)).mono ?_
          rintro e wn ⟨y, rfl, hy0, p1, v2, v3, v4⟩
          have hy : y ≤ 40 := by omega
          skip
          have Rn : Hid _ := v2
          have Tn : Hid (Below w.heap.size w _) := Fr.below T.out v3 hg
          have Xn : Hid _ := Ints.fr X.out v3 hbg
          have Sn : Hid _ := Own.kept S.out v3 hgB
          have Ln : Hid _ := Own.kept L.out v3 hgB
          clear v3 v2 v4 p1
          clear R T X S L
          have R := Rn
          have T := Tn
          have X := Xn
          have S := Sn
          have L := Ln
          clear Rn Tn Xn Sn Ln
          replace A : Hid _ := Apart.symm A.out
          go_wp2_with ((at_builtin; refine wpList_append_own_at _ rfl _ _ 23 rfl B 3 i0 (.int .i64 0) 1 8 Try.underlying23 hi hz0 hz1 hz2 rfl (by decide) _ _ _ rfl (Own.alloc L.out _) _ 1 1 [.int .i64 (y)] rfl rfl ?c1 ?c2 ?c3 ?c4 ?c5 ?_))
          case c1 => exact cell_one_new _ _ _
          case c2 => intro u hu; simp at hu; subst hu; rfl
          case c3 => unfold maxLen; omega
          case c4 => omega
          case c5 => exact Own.base (Own.alloc L.out _) NL.out
          intro v2 wn hown hgrow hnil hat
          have lt5 := Own.lt L.out
          have Ln : Hid (Own wn B v2 (ls ++ [y])) := Own.snoc hown
          have NLn : Hid (v2 ≠ .slice none 0 0) := (by first | exact hnil | exact fun e => absurd (hnil.1 e).2 (by simp) | exact fun e => absurd (hnil.1 e).1 (by simp))
          have Rn : Hid _ := Rd.grown (Rd.alloc R.out _) hgrow (fun i e => by have := lt5 i e; omega)
          have Tn : Hid (Below w.heap.size w _) := Below.own (Below.al T.out _) hgrow (fun i e => by have := lt5 i e; omega)
          have Xn : Hid _ := Ints.gr (Ints.al X.out _) hgrow (fun i e h0 => by have := lt5 i e; omega)
          have Sn : Hid _ := Own.apart (Own.alloc S.out _) A.out hgrow
          have An : Hid (Apart _ v2) := (by first | exact Apart.grown1 S.out A.out hat | exact Apart.grown (Own.alloc S.out _) A.out hat)
          clear hown hgrow lt5 hnil hat
          clear L NL R T X S A
          have L := Ln
          have NL := NLn
          have R := Rn
          have T := Tn
          have X := Xn
          have S := Sn
          have A := An
          clear Ln NLn Rn Tn Xn Sn An
          go_wp2_with fail
          go_roundw
          case rel => exact ⟨ss ++ [p], ls ++ [y], k - 1, _, by go_num, by omega, by simp; omega, by simp; omega, by simp, S.out, L.out, NS.out, NL.out, Apart.symm A.out, X.out, R.out, by omega, T.out⟩
          case measure => simp [intOf]; omega
      · obtain rfl : k = 0 := by omega
        go_wp2_with fail
        refine (odd_c g _ (12) _ R.out (by omega) (by omega) (by omega)).mono ?_
        rintro e wn ⟨o, jo, rfl, hjo, v2, v3, v4⟩
        skip
        have Rn : Hid _ := v2
        have Tn : Hid (Below w.heap.size w _) := Fr.below T.out v3 hg
        have Xn : Hid _ := Ints.fr X.out v3 hbg
        have Sn : Hid _ := Own.kept S.out v3 hgB
        have Ln : Hid _ := Own.kept L.out v3 hgB
        clear v3 v2 v4
        clear R T X S L
        have R := Rn
        have T := Tn
        have X := Xn
        have S := Sn
        have L := Ln
        clear Rn Tn Xn Sn Ln
        cases o
        · obtain ⟨b1, c1, rfl, _, _, i1, l1, m1⟩ := Own.some S.out NS.out
          obtain ⟨b2, c2, rfl, _, _, i2, l2, m2⟩ := Own.some L.out NL.out
          have J1 : Hid _ := i1
          have J2 : Hid _ := i2
          clear i1 i2
          go_wp2_with fail
          go_ret3
          exact ⟨b, off, _, xs, b1, c1, ss, b2, c2, ls, rfl, hx, by omega, by omega, ⟨l1, m1⟩, ⟨l2, m2⟩, hs1, X.out, J1.out, J2.out, T.out⟩
        · skip
          go_wp2_with fail
          refine (pick_c g _ (60) _ R.out (by omega) (by omega)).mono ?_
          rintro e wn ⟨y, rfl, hy0, p1, v2, v3, v4⟩
          have hy : y ≤ 59 := by omega
          skip
          have Rn : Hid _ := v2
          have Tn : Hid (Below w.heap.size w _) := Fr.below T.out v3 hg
          have Xn : Hid _ := Ints.fr X.out v3 hbg
          have Sn : Hid _ := Own.kept S.out v3 hgB
          have Ln : Hid _ := Own.kept L.out v3 hgB
          clear v3 v2 v4 p1
          clear R T X S L
          have R := Rn
          have T := Tn
          have X := Xn
          have S := Sn
          have L := Ln
          clear Rn Tn Xn Sn Ln
          replace A : Hid _ := Apart.symm A.out
          go_wp2_with ((at_builtin; refine wpList_append_own_at _ rfl _ _ 23 rfl B 3 i0 (.int .i64 0) 1 8 Try.underlying23 hi hz0 hz1 hz2 rfl (by decide) _ _ _ rfl (Own.alloc L.out _) _ 1 1 [.int .i64 (y)] rfl rfl ?c1 ?c2 ?c3 ?c4 ?c5 ?_))
          case c1 => exact cell_one_new _ _ _
          case c2 => intro u hu; simp at hu; subst hu; rfl
          case c3 => unfold maxLen; omega
          case c4 => omega
          case c5 => exact Own.base (Own.alloc L.out _) NL.out
          intro v2 wn hown hgrow hnil hat
          have lt5 := Own.lt L.out
          have Ln : Hid (Own wn B v2 (ls ++ [y])) := Own.snoc hown
          have NLn : Hid (v2 ≠ .slice none 0 0) := (by first | exact hnil | exact fun e => absurd (hnil.1 e).2 (by simp) | exact fun e => absurd (hnil.1 e).1 (by simp))
          have Rn : Hid _ := Rd.grown (Rd.alloc R.out _) hgrow (fun i e => by have := lt5 i e; omega)
          have Tn : Hid (Below w.heap.size w _) := Below.own (Below.al T.out _) hgrow (fun i e => by have := lt5 i e; omega)
          have Xn : Hid _ := Ints.gr (Ints.al X.out _) hgrow (fun i e h0 => by have := lt5 i e; omega)
          have Sn : Hid _ := Own.apart (Own.alloc S.out _) A.out hgrow
          have An : Hid (Apart _ v2) := (by first | exact Apart.grown1 S.out A.out hat | exact Apart.grown (Own.alloc S.out _) A.out hat)
          clear hown hgrow lt5 hnil hat
          clear L NL R T X S A
          have L := Ln
          have NL := NLn
          have R := Rn
          have T := Tn
          have X := Xn
          have S := Sn
          have A := An
          clear Ln NLn Rn Tn Xn Sn An
          obtain ⟨b1, c1, rfl, _, _, i1, l1, m1⟩ := Own.some S.out NS.out
          obtain ⟨b2, c2, rfl, _, _, i2, l2, m2⟩ := Own.some L.out NL.out
          have J1 : Hid _ := i1
          have J2 : Hid _ := i2
          clear i1 i2
          go_wp2_with fail
          go_ret3
          exact ⟨b, off, _, xs, b1, c1, ss, b2, c2, ls ++ [y], rfl, hx, by omega, by simp; omega, ⟨l1, m1⟩, ⟨l2, m2⟩, hs1, X.out, J1.out, J2.out, T.out⟩
end Go.Proofs.Ytaipbfagiiclnaa
