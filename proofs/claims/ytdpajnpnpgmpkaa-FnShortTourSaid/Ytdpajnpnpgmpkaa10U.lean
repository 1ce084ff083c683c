/- What the drawing functions of chapter 10 give. -/
import Derived.Test.YtdpajnpnpgmpkaaT
import Derived.Test.YtdpajnpnpgmpkaaI
import Derived.Test.YtdpajnpnpgmpkaaK
namespace Go.Proofs.Ytdpajnpnpgmpkaa
open Go.RowKit
set_option linter.unusedVariables false

/-- A drawn list of any numbers, with the reader behind it. -/
def DrawnV (w : World) (g c n : Nat) (e : Ending) (w' : World) : Prop := ∃ (b cap : Nat) (xs : List Int) (c' : Nat), e = .returned (.slice (some ⟨b, 0, none⟩) xs.length cap) ∧ xs.length ≤ n ∧ xs.length ≤ cap ∧ cap ≤ maxLen ∧ (b ≠ g ∧ w.heap.size ≤ b) ∧ Ints w' b 0 xs ∧ Rd w' g c' ∧ c' ≤ c + n + 3 ∧ Fr w g w'
theorem DrawnV.own {w w' : World} {g c c' n B : Nat} {v : Value} {xs : List Int} (ho : Own w' B v xs) (hB : w.heap.size = B) (hgB : g < B) (hn : v ≠ .slice none 0 0) (hl : xs.length ≤ n) (hr : Rd w' g c') (hc : c' ≤ c + n + 3) (hf : Fr w g w') : DrawnV w g c n (.returned v) w' := by
  obtain ⟨b, cap, rfl, hb, _, hI, hcl, hcm⟩ := Own.some ho hn
  exact ⟨b, cap, xs, c', rfl, hl, hcl, hcm, ⟨by omega, by omega⟩, hI, hr, hc, hf⟩
set_option maxHeartbeats 1000000 in
theorem l20Visits_c (g c : Nat) (a : Option Addr) (n cap : Nat) (m : Int) (w : World) (hr : Rd w g c) (hc : c ≤ 100000) (hm0 : 0 < m) (hm1 : m ≤ 1000000) (hn : n ≤ 12) :
    Calls Try.prog 34 #[.pointer (some ⟨g, 0, none⟩), .slice a n cap, .int .i64 m] w (DrawnV w g c 13) := by
  obtain ⟨i0, hi, hz0, hz1, hz2⟩ := info_parts infoInt
  have HR : Hid _ := Rd.alloc hr (.cells #[] 3)
  have HF : Hid (Fr w g (w.alloc (.cells #[] 3))) := Fr.alloc (Fr.refl w g) _
  have hgl := hr.lt
  have HO := Own.none (w := w)
  obtain ⟨B, hB⟩ : ∃ B, w.heap.size = B := ⟨_, rfl⟩
  rw [hB] at HO hgl
  have HB : Hid _ := hB
  have HO' : Hid _ := HO
  clear HO hB hr
  go_enter Try.func34, Try.ntmps34
  go_wp2_with fail
  rw [HB.out]
  go_loopw [7, 8] (fun vo vk wr => ∃ (xs : List Int) (k c' : Nat), vk = .int .i64 k ∧ k ≤ n ∧ xs.length ≤ k ∧ Own wr B vo xs ∧ vo ≠ .slice none 0 0 ∧ Rd wr g c' ∧ c' ≤ c + k ∧ Fr w g wr) (fun _ vk _ => n - (intOf vk).toNat)
  case atStart =>
    exact ⟨[], 0, c, rfl, by omega, by simp, HO'.out, by simp, HR.out, by omega, HF.out⟩
  case round =>
    clear HO' HR HF
    obtain ⟨xs, k, c', rfl, hk, hx, ho, hn', hr, hc', hf⟩ := hrel
    have HOw : Hid _ := ho
    have HN : Hid _ := hn'
    have HRd : Hid _ := hr
    have HFr : Hid _ := hf
    clear ho hn' hr hf
    by_cases hk0 : k < n
    · have hkI : (k : Int) < (n : Int) := by omega
      go_wp2_with fail
      refine (pick_c g c' 2 _ HRd.out (by omega) (by omega)).mono ?_
      rintro e w2 ⟨q, rfl, q0, q1, q2, q3, q4⟩
      have O2 : Hid (Own w2 B u7 xs) := Own.kept HOw.out q3 hgl
      have F2 : Hid (Fr w g w2) := Fr.trans HFr.out q3
      have R2 : Hid _ := q2
      clear q1 q2 q3 q4
      by_cases e0 : q = 0
      · have t0 : (q == 0) = true := by simp [e0]
        clear e0
        have hbase : B ≤ (w2.alloc (.cells #[.int .i64 (k : Int)] 3)).heap.size := by rw [← HB.out, World.size_alloc]; have := F2.out.size; omega
        go_wp2_with ((at_builtin; refine wpList_append_wanted rfl _ _ 23 rfl B 3 i0 (.int .i64 0) 1 8 Try.underlying23 hi hz0 hz1 hz2 rfl (by decide) _ _ _ rfl (Own.alloc O2.out _) ⟨w2.heap.size, 0, none⟩ 1 1 [.int .i64 (k : Int)] rfl rfl (cell_one_new _ _ _) (by intro u hu; simp at hu; subst hu; rfl) (by unfold maxLen; omega) (by omega) hbase ?_))
        intro v' w3 hown hgrow hnil hat
        have O4 : Hid (Own w3 B v' (xs ++ [(k : Int)])) := Own.snoc hown
        have N4 : Hid (v' ≠ .slice none 0 0) := (by first | exact hnil | exact fun e => absurd (hnil.1 e).2 (by simp))
        have lt5 : ∀ i, u7.ownBlock = some i → B ≤ i := Own.lt O2.out
        have R4 : Hid (Rd w3 g _) := Rd.grown (Rd.alloc R2.out _) hgrow (fun i e => by have := lt5 i e; omega)
        have F4 : Hid (Fr w g w3) := Fr.own (Fr.alloc F2.out _) hgrow (fun i e => by rw [HB.out]; exact lt5 i e)
        clear hown hgrow lt5 hnil hat
        go_wp2_with fail
        go_roundw
        case rel => exact ⟨xs ++ [(k : Int)], k + 1, _, by go_num, by omega, by simp; omega, O4.out, N4.out, R4.out, by omega, F4.out⟩
        case measure => simp [intOf]; omega
      · have t0 : (q == 0) = false := by simp [e0]
        clear e0
        go_wp2_with fail
        go_roundw
        case rel => exact ⟨xs, k + 1, _, by go_num, by omega, by omega, O2.out, HN.out, R2.out, by omega, F2.out⟩
        case measure => simp [intOf]; omega
    · obtain rfl : k = n := by omega
      go_wp2_with fail
      refine (odd_c g c' m _ HRd.out (by omega) hm1 hm0).mono ?_
      rintro e w2 ⟨q, j, rfl, hj, q2, q3, q4⟩
      have O2 : Hid (Own w2 B u7 xs) := Own.kept HOw.out q3 hgl
      have F2 : Hid (Fr w g w2) := Fr.trans HFr.out q3
      have R2 : Hid _ := q2
      clear q2 q3 q4 HOw HRd HFr
      cases q
      · go_wp2_with fail
        go_ret
        exact DrawnV.own O2.out HB.out hgl HN.out (by omega) R2.out (by omega) F2.out
      · obtain ⟨H, hH⟩ : ∃ H, w2.heap.size = H := ⟨_, rfl⟩
        have HH : Hid _ := hH
        have J : Hid (Ints (w2.alloc (.cells #[.int .i64 0, .int .i64 (k : Int)] 3)) H 0 [0, (k : Int)]) := by rw [← hH]; exact one_row w2 0 k
        have hgH := Rd.lt R2.out
        have hHB : B ≤ H := by rw [← hH, ← HB.out]; exact F2.out.size
        rw [hH] at hgH
        have hgH' : H ≠ g := by omega
        have OA : Hid _ := Own.alloc O2.out (.cells #[.int .i64 0, .int .i64 (k : Int)] 3)
        have RA : Hid _ := Rd.alloc R2.out (.cells #[.int .i64 0, .int .i64 (k : Int)] 3)
        have FA : Hid (Fr w g _) := Fr.alloc F2.out (.cells #[.int .i64 0, .int .i64 (k : Int)] 3)
        clear hH O2 F2 R2
        go_wp2_with fail
        rw [HH.out]
        refine (pick_c g _ 2 _ RA.out (by omega) (by omega)).mono ?_
        rintro e w4 ⟨p, rfl, p0, p1, v2, v3, v4⟩
        obtain ⟨z, rfl⟩ := Int.eq_ofNat_of_zero_le p0
        have hz : z < 2 := by omega
        have hzI : (z : Int) < 2 := by omega
        have J4 := Ints.fr J.out v3 hgH'
        have c5 : w4.cell? ⟨H, z, none⟩ = some (.int .i64 (nth [0, (k : Int)] z)) := by have := J4 z hz; simpa using this
        obtain ⟨x, hx'⟩ : ∃ x, nth [0, (k : Int)] z = x := ⟨_, rfl⟩
        rw [hx'] at c5
        have O4 : Hid (Own w4 B u7 xs) := Own.kept OA.out v3 hgl
        have F4 : Hid (Fr w g w4) := Fr.trans FA.out v3
        have R4 : Hid _ := v2
        clear p0 p1 v2 v3 v4 J J4 RA FA OA hx'
        have hbase : B ≤ (w4.alloc (.cells #[.int .i64 x] 3)).heap.size := by rw [← HB.out, World.size_alloc]; have := F4.out.size; omega
        go_wp2_with ((at_builtin; refine wpList_append_wanted rfl _ _ 23 rfl B 3 i0 (.int .i64 0) 1 8 Try.underlying23 hi hz0 hz1 hz2 rfl (by decide) _ _ _ rfl (Own.alloc O4.out _) ⟨w4.heap.size, 0, none⟩ 1 1 [.int .i64 x] rfl rfl (cell_one_new _ _ _) (by intro u hu; simp at hu; subst hu; rfl) (by unfold maxLen; omega) (by omega) hbase ?_))
        intro v' w3 hown hgrow hnil hat
        have O5 : Hid (Own w3 B v' (xs ++ [x])) := Own.snoc hown
        have N5 : Hid (v' ≠ .slice none 0 0) := (by first | exact hnil | exact fun e => absurd (hnil.1 e).2 (by simp))
        have lt5 : ∀ i, u7.ownBlock = some i → B ≤ i := Own.lt O4.out
        have R5 : Hid (Rd w3 g _) := Rd.grown (Rd.alloc R4.out _) hgrow (fun i e => by have := lt5 i e; omega)
        have F5 : Hid (Fr w g w3) := Fr.own (Fr.alloc F4.out _) hgrow (fun i e => by rw [HB.out]; exact lt5 i e)
        clear hown hgrow lt5 hnil hat
        go_wp2_with fail
        go_ret
        exact DrawnV.own O5.out HB.out hgl N5.out (by simp; omega) R5.out (by omega) F5.out
def DrawnFV (w : World) (e : Ending) (w' : World) : Prop := ∃ (b off cap : Nat) (xs : List Int) (b2 c2 : Nat) (ys : List Int), e = .returned (.tuple #[.slice (some ⟨b, off, none⟩) xs.length cap, .slice (some ⟨b2, 0, none⟩) ys.length c2]) ∧ xs.length ≤ 12 ∧ ys.length ≤ 13 ∧ ys.length ≤ c2 ∧ c2 ≤ maxLen ∧ Ints w' b off xs ∧ Ints w' b2 0 ys ∧ Below w.heap.size w w'
def DrawnFiV (w : World) (e : Ending) (w' : World) : Prop := ∃ (b off cap : Nat) (xs : List Int) (x : Int) (b2 c2 : Nat) (ys : List Int), e = .returned (.tuple #[.slice (some ⟨b, off, none⟩) xs.length cap, .int .i64 x, .slice (some ⟨b2, 0, none⟩) ys.length c2]) ∧ xs.length ≤ 12 ∧ (-1000 ≤ x ∧ x ≤ 1000) ∧ ys.length ≤ 13 ∧ ys.length ≤ c2 ∧ c2 ≤ maxLen ∧ Ints w' b off xs ∧ Ints w' b2 0 ys ∧ Below w.heap.size w w'

set_option maxHeartbeats 1000000 in
theorem DrawVisitsOk_c (a : Option Addr) (n cap : Nat) (w : World) (hb : Byt w a n) (hn : n ≤ cap) (hcap : cap ≤ maxLen) :
    Calls Try.prog 11 #[.slice a n cap] w (DrawnFV w) := by
  go_enter Try.func11, Try.ntmps11
  go_wp2_with fail
  refine (open_c a n cap _ hb hn hcap).mono ?_
  rintro e wn ⟨g, hg, rfl, hr, hB⟩
  have R : Hid _ := hr
  have T : Hid _ := hB
  clear hr hB
  go_wp2_with fail
  refine (l20Floors_c g 0 9 _ R.out (by omega) (by omega) (by omega)).mono ?_
  rintro e wn ⟨b, off, cp, xs, c', rfl, hx, hcl, hcm, ⟨hbg, hbge⟩, hxb, hI, hr, hc, hf⟩
  have X : Hid _ := hI
  have Tn : Hid (Below w.heap.size w _) := Fr.below T.out hf hg
  have Rn : Hid _ := hr
  clear hr hf hI hxb R T hbge
  have R := Rn
  have T := Tn
  clear Rn Tn
  go_wp2_with fail
  refine (l20Visits_c g _ _ xs.length cp 3 _ R.out (by omega) (by omega) (by omega) (by omega)).mono ?_
  rintro e wn ⟨b2, c2, ys, c3, rfl, hy, hyc, hym, ⟨hb2g, hb2ge⟩, hI2, hr, hc3, hf⟩
  have Y : Hid _ := hI2
  have Xn : Hid _ := Ints.fr X.out hf hbg
  have Tn : Hid (Below w.heap.size w _) := Fr.below T.out hf hg
  clear hr hf hI2 R T X hb2ge
  have X := Xn
  have T := Tn
  clear Xn Tn
  go_wp2_with fail
  exact bodyPost_ret (v := .tuple #[.slice (some ⟨b, off, none⟩) xs.length cp, .slice (some ⟨b2, 0, none⟩) ys.length c2]) (by simp [results, Try.results11, go_sem]) rfl ⟨_, _, _, xs, _, _, ys, rfl, by omega, hy, hyc, hym, X.out, Y.out, T.out⟩
set_option maxHeartbeats 1000000 in
theorem DrawShortTour_c (a : Option Addr) (n cap : Nat) (w : World) (hb : Byt w a n) (hn : n ≤ cap) (hcap : cap ≤ maxLen) :
    Calls Try.prog 20 #[.slice a n cap] w (DrawnFiV w) := by
  go_enter Try.func20, Try.ntmps20
  go_wp2_with fail
  refine (open_c a n cap _ hb hn hcap).mono ?_
  rintro e wn ⟨g, hg, rfl, hr, hB⟩
  have R : Hid _ := hr
  have T : Hid _ := hB
  clear hr hB
  go_wp2_with fail
  refine (l20Floors_c g 0 12 _ R.out (by omega) (by omega) (by omega)).mono ?_
  rintro e wn ⟨b, off, cp, xs, c', rfl, hx, hcl, hcm, ⟨hbg, hbge⟩, hxb, hI, hr, hc, hf⟩
  have X : Hid _ := hI
  have Tn : Hid (Below w.heap.size w _) := Fr.below T.out hf hg
  have Rn : Hid _ := hr
  clear hr hf hI hxb R T hbge
  have R := Rn
  have T := Tn
  clear Rn Tn
  go_wp2_with fail
  all_goals
    refine (pick_c g _ _ _ R.out (by omega) (by omega)).mono ?_
    rintro e wn ⟨q, rfl, hq0, p1, v2, v3, v4⟩
    have hq12 : q ≤ 12 := by omega
    have Rn : Hid _ := v2
    have Tn : Hid (Below w.heap.size w _) := Fr.below T.out v3 hg
    have Xn : Hid _ := Ints.fr X.out v3 hbg
    clear v2 v3 v4 p1 R T X
    have R := Rn
    have T := Tn
    have X := Xn
    clear Rn Tn Xn
    go_wp2_with fail
    refine (pick_c g _ (20) _ R.out (by omega) (by omega)).mono ?_
    rintro e wn ⟨v, rfl, hv0, p1, v2, v3, v4⟩
    have hv : v ≤ 19 := by omega
    skip
    have Rn : Hid _ := v2
    have Tn : Hid (Below w.heap.size w _) := Fr.below T.out v3 hg
    have Xn : Hid _ := Ints.fr X.out v3 hbg
    clear v3 v2 v4 p1
    clear R T X
    have R := Rn
    have T := Tn
    have X := Xn
    clear Rn Tn Xn
    go_wp2_with fail
    refine (l20Visits_c g _ _ xs.length cp 12 _ R.out (by omega) (by omega) (by omega) (by omega)).mono ?_
    rintro e wn ⟨b2, c2, ys, c3, rfl, hy, hyc, hym, ⟨hb2g, hb2ge⟩, hI2, hr, hc3, hf⟩
    have Y : Hid _ := hI2
    have Xn : Hid _ := Ints.fr X.out hf hbg
    have Tn : Hid (Below w.heap.size w _) := Fr.below T.out hf hg
    clear hr hf hI2 R T X hb2ge
    have X := Xn
    have T := Tn
    clear Xn Tn
    go_wp2_with fail
    exact bodyPost_ret (v := .tuple #[.slice (some ⟨b, off, none⟩) xs.length cp, .int .i64 (q - v / 19), .slice (some ⟨b2, 0, none⟩) ys.length c2]) (by simp [results, Try.results20, go_sem]) rfl ⟨_, _, _, xs, _, _, _, ys, rfl, by omega, ⟨by omega, by omega⟩, hy, hyc, hym, X.out, Y.out, T.out⟩
set_option maxHeartbeats 1000000 in
theorem DrawShortWay_c (a : Option Addr) (n cap : Nat) (w : World) (hb : Byt w a n) (hn : n ≤ cap) (hcap : cap ≤ maxLen) :
    Calls Try.prog 25 #[.slice a n cap] w (DrawnFiV w) := by
  go_enter Try.func25, Try.ntmps25
  go_wp2_with fail
  refine (DrawShortTour_c a n cap _ hb hn hcap).mono ?_
  rintro e w1 ⟨b, off, cp, xs, x, b2, c2, ys, rfl, h⟩
  have H : Hid _ := h
  clear h
  go_wp2_with fail
  exact bodyPost_ret (v := .tuple #[.slice (some ⟨b, off, none⟩) xs.length cp, .int .i64 x, .slice (some ⟨b2, 0, none⟩) ys.length c2]) (by simp [results, Try.results25, go_sem]) rfl ⟨_, _, _, xs, _, _, _, ys, rfl, H.out⟩
set_option maxHeartbeats 1000000 in
theorem DrawTourWay_c (a : Option Addr) (n cap : Nat) (w : World) (hb : Byt w a n) (hn : n ≤ cap) (hcap : cap ≤ maxLen) :
    Calls Try.prog 16 #[.slice a n cap] w (DrawnFiV w) := by
  obtain ⟨i0, hi, hz0, hz1, hz2⟩ := info_parts infoInt
  go_enter Try.func16, Try.ntmps16
  go_wp2_with fail
  refine (open_c a n cap _ hb hn hcap).mono ?_
  rintro e wn ⟨g, hg, rfl, hr, hB⟩
  have R : Hid _ := hr
  have T : Hid _ := hB
  clear hr hB
  go_wp2_with fail
  refine (l20Floors_c g 0 12 _ R.out (by omega) (by omega) (by omega)).mono ?_
  rintro e wn ⟨b, off, cp, xs, c', rfl, hx, hcl, hcm, ⟨hbg, hbge⟩, hxb, hI, hr, hc, hf⟩
  have X : Hid _ := hI
  have Tn : Hid (Below w.heap.size w _) := Fr.below T.out hf hg
  have Rn : Hid _ := hr
  clear hr hf hI hxb R T hbge
  have R := Rn
  have T := Tn
  clear Rn Tn
  obtain ⟨B, hB⟩ : ∃ B, (World.heap wn).size = B := ⟨_, rfl⟩
  have HB := Lib.hid hB
  have hgB : g < B := by rw [← hB]; exact Rd.lt R.out
  have hwB : w.heap.size ≤ B := by omega
  have hbB : 0 < xs.length → b < B := fun h => by rw [← hB]; exact Ints.lt X.out h
  have S1 := Lib.hid (show Own (wn.alloc (.cells #[] 3)) B (.slice (some ⟨B, 0, none⟩) 0 0) [] from by rw [← hB]; exact Own.none)
  have R1 := Lib.hid (Rd.alloc R.out (.cells #[] 3))
  have T1 := Lib.hid (Below.al T.out (.cells #[] 3))
  have X1 := Lib.hid (Ints.al X.out (.cells #[] 3))
  clear hB R T X
  go_wp2_with fail
  rw [HB.out]
  refine (pick_c g _ 7 _ R1.out (by omega) (by omega)).mono ?_
  rintro e wn ⟨k, rfl, hk0, p1, v2, v3, v4⟩
  have R : Hid _ := v2
  have T : Hid (Below w.heap.size w _) := Fr.below T1.out v3 hg
  have X : Hid _ := Ints.fr X1.out v3 hbg
  have S : Hid (Own wn B (.slice (some ⟨B, 0, none⟩) 0 0) []) := Own.kept S1.out v3 hgB
  have hk : k ≤ 6 := by omega
  clear v2 v3 v4 p1 R1 T1 X1 S1 HB
  go_wp2_with fail
  go_loopw [7, 8] (fun vs vk wr => ∃ (ss : List Int) (k c' : Nat), vk = .int .i64 k ∧ k ≤ 6 ∧ ss.length + k ≤ 6 ∧ Own wr B vs ss ∧ vs ≠ .slice none 0 0 ∧ Ints wr b off xs ∧ Rd wr g c' ∧ c' + 2 * k ≤ 30 ∧ Below w.heap.size w wr) (fun _ vk _ => (intOf vk).toNat)
  case atStart =>
    obtain ⟨k, rfl⟩ := Int.eq_ofNat_of_zero_le hk0
    exact ⟨[], k, _, rfl, by omega, by simp; omega, S.out, by simp, X.out, R.out, by omega, T.out⟩
  case round =>
    clear S X R T hk0 hk
    obtain ⟨ss, k, c', rfl, hk, hss, h1, h3, h6, h7, hc', h8⟩ := hrel
    have S : Hid _ := h1
    have NS : Hid _ := h3
    have X : Hid _ := h6
    have R : Hid _ := h7
    have T : Hid _ := h8
    clear h1 h3 h6 h7 h8
    obtain ⟨wn, hwq⟩ : ∃ w0 : World, w0 = wr := ⟨_, rfl⟩
    rw [← hwq] at S X R T ⊢
    clear hwq
    by_cases hk1 : 0 < k
    · have hkI : (0 : Int) < (k : Int) := by omega
      go_wp2_with fail
      all_goals
        refine (pick_c g _ _ _ R.out (by omega) (by omega)).mono ?_
        rintro e wn ⟨q, rfl, hq0, p1, v2, v3, v4⟩
        have hq12 : q ≤ 12 := by omega
        have Rn : Hid _ := v2
        have Tn : Hid (Below w.heap.size w _) := Fr.below T.out v3 hg
        have Xn : Hid _ := Ints.fr X.out v3 hbg
        have Sn : Hid (Own wn B u7 ss) := Own.kept S.out v3 hgB
        clear v2 v3 v4 p1 R T X S
        have R := Rn
        have T := Tn
        have X := Xn
        have S := Sn
        clear Rn Tn Xn Sn
        go_wp2_with fail
        refine (pick_c g _ (40) _ R.out (by omega) (by omega)).mono ?_
        rintro e wn ⟨v, rfl, hv0, p1, v2, v3, v4⟩
        have hv : v ≤ 39 := by omega
        skip
        have Rn : Hid _ := v2
        have Tn : Hid (Below w.heap.size w _) := Fr.below T.out v3 hg
        have Xn : Hid _ := Ints.fr X.out v3 hbg
        have Sn : Hid _ := Own.kept S.out v3 hgB
        clear v3 v2 v4 p1
        clear R T X S
        have R := Rn
        have T := Tn
        have X := Xn
        have S := Sn
        clear Rn Tn Xn Sn
        go_wp2_with ((at_builtin; refine wpList_append_wanted rfl _ _ 23 rfl B 3 i0 (.int .i64 0) 1 8 Try.underlying23 hi hz0 hz1 hz2 rfl (by decide) _ _ _ rfl (Own.alloc S.out _) _ 1 1 [.int .i64 ((q + v / 39 * 9))] rfl rfl (cell_one_new _ _ _) (by intro u hu; simp at hu; subst hu; rfl) (by unfold maxLen; omega) (by omega) (Own.base (Own.alloc S.out _) NS.out) ?_))
        intro s2 wn hown hgrow hnil hat
        have lt5 := Own.lt S.out
        have Sn : Hid (Own wn B s2 (ss ++ [(q + v / 39 * 9)])) := Own.snoc hown
        have NSn : Hid (s2 ≠ .slice none 0 0) := (by first | exact hnil | exact fun e => absurd (hnil.1 e).2 (by simp) | exact fun e => absurd (hnil.1 e).1 (by simp))
        have Rn : Hid _ := Rd.grown (Rd.alloc R.out _) hgrow (fun i e => by have := lt5 i e; omega)
        have Tn : Hid (Below w.heap.size w _) := Below.own (Below.al T.out _) hgrow (fun i e => by have := lt5 i e; omega)
        have Xn : Hid _ := Ints.gr (Ints.al X.out _) hgrow (fun i e h0 => by have := lt5 i e; omega)
        clear hown hgrow lt5 hnil hat
        clear S NS R T X
        have S := Sn
        have NS := NSn
        have R := Rn
        have T := Tn
        have X := Xn
        clear Sn NSn Rn Tn Xn
        go_wp2_with fail
        go_roundw
        case rel => exact ⟨ss ++ [q + v / 39 * 9], k - 1, _, by go_num, by omega, by simp; omega, S.out, NS.out, X.out, R.out, by omega, T.out⟩
        case measure => simp [intOf]; omega
    · obtain rfl : k = 0 := by omega
      obtain ⟨b2, c2, rfl, hb2, hb2l, hI2, hyc, hym⟩ := Own.some S.out NS.out
      have Y := Lib.hid hI2
      have hb2g : b2 ≠ g := by omega
      clear hI2
      go_wp2_with fail
      all_goals
        refine (pick_c g _ _ _ R.out (by omega) (by omega)).mono ?_
        rintro e wn ⟨q, rfl, hq0, p1, v2, v3, v4⟩
        have hq12 : q ≤ 12 := by omega
        have Rn : Hid _ := v2
        have Tn : Hid (Below w.heap.size w _) := Fr.below T.out v3 hg
        have Xn : Hid _ := Ints.fr X.out v3 hbg
        have Yn : Hid _ := Ints.fr Y.out v3 hb2g
        clear v2 v3 v4 p1 R T X S Y
        have R := Rn
        have T := Tn
        have X := Xn
        have Y := Yn
        clear Rn Tn Xn Yn
        go_wp2_with fail
        refine (pick_c g _ (20) _ R.out (by omega) (by omega)).mono ?_
        rintro e wn ⟨v, rfl, hv0, p1, v2, v3, v4⟩
        have hv : v ≤ 19 := by omega
        skip
        have Rn : Hid _ := v2
        have Tn : Hid (Below w.heap.size w _) := Fr.below T.out v3 hg
        have Xn : Hid _ := Ints.fr X.out v3 hbg
        have Yn : Hid _ := Ints.fr Y.out v3 hb2g
        clear v3 v2 v4 p1
        clear R T X Y
        have R := Rn
        have T := Tn
        have X := Xn
        have Y := Yn
        clear Rn Tn Xn Yn
        go_wp2_with fail
        exact bodyPost_ret (v := .tuple #[.slice (some ⟨b, off, none⟩) xs.length cp, .int .i64 (q - v / 19), .slice (some ⟨b2, 0, none⟩) ss.length c2]) (by simp [results, Try.results16, go_sem]) rfl ⟨_, _, _, xs, _, _, _, ss, rfl, by omega, ⟨by omega, by omega⟩, by omega, hyc, hym, X.out, Y.out, T.out⟩
end Go.Proofs.Ytdpajnpnpgmpkaa
