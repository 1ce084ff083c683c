/- What the drawing functions of chapter 7 give: the laws' arguments. -/
import Derived.Test.Ytahfkeogfoejmaa7T
namespace Go.Proofs.Ytahfkeogfoejmaa
open Go.RowKit
set_option linter.unusedVariables false

def DrawnO (w : World) (e : Ending) (w' : World) : Prop := ∃ (b cap : Nat) (xs : List Int), e = .returned (.slice (some ⟨b, 0, none⟩) xs.length cap) ∧ xs.length ≤ 25 ∧ xs.length ≤ cap ∧ cap ≤ maxLen ∧ Ints w' b 0 xs ∧ Below w.heap.size w w'
theorem DrawRopeValid_c (a : Option Addr) (n cap : Nat) (w : World) (hb : Byt w a n) (hn : n ≤ cap) (hcap : cap ≤ maxLen) :
    Calls Try.prog 13 #[.slice a n cap] w (DrawnO w) := by
  go_enter Try.func13, Try.ntmps13
  go_wp2_with fail
  refine (open_c a n cap _ hb hn hcap).mono ?_
  rintro e w1 ⟨g, hg, rfl, hr, hB⟩
  go_wp2_with fail
  refine (l20Rope_c g 0 2 _ hr (by omega) (by omega) (by omega)).mono ?_
  rintro e w2 ⟨b2, cap2, xs, c', rfl, hl, hcl, hcm, hbg, hs, hr2, hc', hf⟩
  go_wp2_with fail
  go_ret
  exact ⟨_, _, xs, rfl, hl, hcl, hcm, hs, Fr.below hB hf hg⟩
theorem DrawWorstLay_c (a : Option Addr) (n cap : Nat) (w : World) (hb : Byt w a n) (hn : n ≤ cap) (hcap : cap ≤ maxLen) :
    Calls Try.prog 17 #[.slice a n cap] w (DrawnO w) := by
  go_enter Try.func17, Try.ntmps17
  go_wp2_with fail
  refine (open_c a n cap _ hb hn hcap).mono ?_
  rintro e w1 ⟨g, hg, rfl, hr, hB⟩
  go_wp2_with fail
  refine (l20Rope_c g 0 9 _ hr (by omega) (by omega) (by omega)).mono ?_
  rintro e w2 ⟨b2, cap2, xs, c', rfl, hl, hcl, hcm, hbg, hs, hr2, hc', hf⟩
  go_wp2_with fail
  go_ret
  exact ⟨_, _, xs, rfl, hl, hcl, hcm, hs, Fr.below hB hf hg⟩
def DrawnOm (w : World) (e : Ending) (w' : World) : Prop := ∃ (b cap : Nat) (xs : List Int) (m : Int), e = .returned (.tuple #[.slice (some ⟨b, 0, none⟩) xs.length cap, .int .i64 m]) ∧ xs.length ≤ 25 ∧ xs.length ≤ cap ∧ cap ≤ maxLen ∧ (0 ≤ m ∧ m ≤ 13) ∧ Ints w' b 0 xs ∧ Below w.heap.size w w'
theorem DrawDiscard_c (a : Option Addr) (n cap : Nat) (w : World) (hb : Byt w a n) (hn : n ≤ cap) (hcap : cap ≤ maxLen) :
    Calls Try.prog 21 #[.slice a n cap] w (DrawnOm w) := by
  go_enter Try.func21, Try.ntmps21
  go_wp2_with fail
  refine (open_c a n cap _ hb hn hcap).mono ?_
  rintro e wn ⟨g, hg, rfl, hr, hB⟩
  have R : Hid _ := hr
  have T : Hid _ := hB
  clear hr hB
  go_wp2_with fail
  refine (l20Rope_c g 0 9 _ R.out (by omega) (by omega) (by omega)).mono ?_
  rintro e wn ⟨b2, cap2, xs, c', rfl, hl, hcl, hcm, hbg, hs, hr2, hc', hf⟩
  have X : Hid _ := hs
  have Tn : Hid (Below w.heap.size w _) := Fr.below T.out hf hg
  have Rn : Hid _ := hr2
  clear hr2 hf hs R T
  have R := Rn
  have T := Tn
  clear Rn Tn
  go_wp2_with fail
  refine (pick_c g _ (14) _ R.out (by omega) (by omega)).mono ?_
  rintro e wn ⟨m, rfl, hm0, p1, v2, v3, v4⟩
  have hm : m ≤ 13 := by omega
  skip
  have Rn : Hid _ := v2
  have Tn : Hid (Below w.heap.size w _) := Fr.below T.out v3 hg
  have Xn : Hid _ := Ints.fr X.out v3 hbg
  clear v3 v2 v4 p1
  clear R T X
  have R := Rn
  have T := Tn
  have X := Xn
  clear Rn Tn Xn
  go_wp2_with fail
  exact bodyPost_ret (v := .tuple #[.slice (some ⟨b2, 0, none⟩) xs.length cap2, .int .i64 m]) (by simp [results, Try.results21, go_sem]) rfl ⟨_, _, xs, m, rfl, hl, hcl, hcm, ⟨hm0, hm⟩, X.out, T.out⟩
def DrawnH (w : World) (e : Ending) (w' : World) : Prop := ∃ (a b t m : Int), e = .returned (.tuple #[.int .i64 a, .int .i64 b, .int .i64 t, .int .i64 m]) ∧ (1 ≤ a ∧ a ≤ 120) ∧ (-199 ≤ b ∧ b ≤ 179) ∧ (-40 ≤ t ∧ t ≤ 79) ∧ (1 ≤ m ∧ m ≤ 40) ∧ Below w.heap.size w w'
set_option maxHeartbeats 400000 in
theorem DrawHolds_c (a : Option Addr) (n cap : Nat) (w : World) (hb : Byt w a n) (hn : n ≤ cap) (hcap : cap ≤ maxLen) :
    Calls Try.prog 24 #[.slice a n cap] w (DrawnH w) := by
  go_enter Try.func24, Try.ntmps24
  go_wp2_with fail
  refine (open_c a n cap _ hb hn hcap).mono ?_
  rintro e wn ⟨g, hg, rfl, hr, hB⟩
  have R : Hid _ := hr
  have T : Hid _ := hB
  clear hr hB
  go_wp2_with fail
  refine (pick_c g _ (120) _ R.out (by omega) (by omega)).mono ?_
  rintro e wn ⟨p, rfl, hp0, p1, v2, v3, v4⟩
  have hp : p ≤ 119 := by omega
  skip
  have Rn : Hid _ := v2
  have Tn : Hid (Below w.heap.size w _) := Fr.below T.out v3 hg
  clear v3 v2 v4 p1
  clear R T
  have R := Rn
  have T := Tn
  clear Rn Tn
  go_wp2_with fail
  refine (pick_c g _ (40) _ R.out (by omega) (by omega)).mono ?_
  rintro e wn ⟨q, rfl, hq0, p1, v2, v3, v4⟩
  have hq : q ≤ 39 := by omega
  skip
  have Rn : Hid _ := v2
  have Tn : Hid (Below w.heap.size w _) := Fr.below T.out v3 hg
  clear v3 v2 v4 p1
  clear R T
  have R := Rn
  have T := Tn
  clear Rn Tn
  go_wp2_with fail
  refine (pick_c g _ (60) _ R.out (by omega) (by omega)).mono ?_
  rintro e wn ⟨u, rfl, hu0, p1, v2, v3, v4⟩
  have hu : u ≤ 59 := by omega
  skip
  have Rn : Hid _ := v2
  have Tn : Hid (Below w.heap.size w _) := Fr.below T.out v3 hg
  clear v3 v2 v4 p1
  clear R T
  have R := Rn
  have T := Tn
  clear Rn Tn
  go_wp2_with fail
  refine (pick_c g _ (30) _ R.out (by omega) (by omega)).mono ?_
  rintro e wn ⟨v, rfl, hv0, p1, v2, v3, v4⟩
  have hv : v ≤ 29 := by omega
  skip
  have Rn : Hid _ := v2
  have Tn : Hid (Below w.heap.size w _) := Fr.below T.out v3 hg
  clear v3 v2 v4 p1
  clear R T
  have R := Rn
  have T := Tn
  clear Rn Tn
  go_wp2_with fail
  refine (pick_c g _ (40) _ R.out (by omega) (by omega)).mono ?_
  rintro e wn ⟨s, rfl, hs0, p1, v2, v3, v4⟩
  have hs : s ≤ 39 := by omega
  skip
  have Rn : Hid _ := v2
  have Tn : Hid (Below w.heap.size w _) := Fr.below T.out v3 hg
  clear v3 v2 v4 p1
  clear R T
  have R := Rn
  have T := Tn
  clear Rn Tn
  go_wp2_with fail
  refine (pick_c g _ (30) _ R.out (by omega) (by omega)).mono ?_
  rintro e wn ⟨t, rfl, ht0, p1, v2, v3, v4⟩
  have ht : t ≤ 29 := by omega
  skip
  have Rn : Hid _ := v2
  have Tn : Hid (Below w.heap.size w _) := Fr.below T.out v3 hg
  clear v3 v2 v4 p1
  clear R T
  have R := Rn
  have T := Tn
  clear Rn Tn
  go_wp2_with fail
  exact bodyPost_ret (v := .tuple #[.int .i64 (1 + p), .int .i64 (1 + p + u - v / 29 * 200), .int .i64 (1 + q + s - t / 29 * 41), .int .i64 (1 + q)]) (by simp [results, Try.results24, go_sem]) rfl ⟨_, _, _, _, rfl, by omega, by omega, by omega, by omega, T.out⟩
def DrawnM (w : World) (e : Ending) (w' : World) : Prop := ∃ (c t m : Int), e = .returned (.tuple #[.int .i64 c, .int .i64 t, .int .i64 m]) ∧ (1 ≤ c ∧ c ≤ 219) ∧ (10 ≤ t ∧ t ≤ 58) ∧ (10 ≤ m ∧ m ≤ 39) ∧ Below w.heap.size w w'
set_option maxHeartbeats 400000 in
theorem DrawMostLoad_c (a : Option Addr) (n cap : Nat) (w : World) (hb : Byt w a n) (hn : n ≤ cap) (hcap : cap ≤ maxLen) :
    Calls Try.prog 27 #[.slice a n cap] w (DrawnM w) := by
  go_enter Try.func27, Try.ntmps27
  go_wp2_with fail
  refine (open_c a n cap _ hb hn hcap).mono ?_
  rintro e wn ⟨g, hg, rfl, hr, hB⟩
  have R : Hid _ := hr
  have T : Hid _ := hB
  clear hr hB
  go_wp2_with fail
  refine (pick_c g _ (30) _ R.out (by omega) (by omega)).mono ?_
  rintro e wn ⟨p, rfl, hp0, p1, v2, v3, v4⟩
  have hp : p ≤ 29 := by omega
  skip
  have Rn : Hid _ := v2
  have Tn : Hid (Below w.heap.size w _) := Fr.below T.out v3 hg
  clear v3 v2 v4 p1
  clear R T
  have R := Rn
  have T := Tn
  clear Rn Tn
  go_wp2_with fail
  refine (pick_c g _ (120) _ R.out (by omega) (by omega)).mono ?_
  rintro e wn ⟨q, rfl, hq0, p1, v2, v3, v4⟩
  have hq : q ≤ 119 := by omega
  skip
  have Rn : Hid _ := v2
  have Tn : Hid (Below w.heap.size w _) := Fr.below T.out v3 hg
  clear v3 v2 v4 p1
  clear R T
  have R := Rn
  have T := Tn
  clear Rn Tn
  go_wp2_with fail
  refine (pick_c g _ (30) _ R.out (by omega) (by omega)).mono ?_
  rintro e wn ⟨u, rfl, hu0, p1, v2, v3, v4⟩
  have hu : u ≤ 29 := by omega
  skip
  have Rn : Hid _ := v2
  have Tn : Hid (Below w.heap.size w _) := Fr.below T.out v3 hg
  clear v3 v2 v4 p1
  clear R T
  have R := Rn
  have T := Tn
  clear Rn Tn
  go_wp2_with fail
  refine (pick_c g _ (20) _ R.out (by omega) (by omega)).mono ?_
  rintro e wn ⟨v, rfl, hv0, p1, v2, v3, v4⟩
  have hv : v ≤ 19 := by omega
  skip
  have Rn : Hid _ := v2
  have Tn : Hid (Below w.heap.size w _) := Fr.below T.out v3 hg
  clear v3 v2 v4 p1
  clear R T
  have R := Rn
  have T := Tn
  clear Rn Tn
  go_wp2_with fail
  exact bodyPost_ret (v := .tuple #[.int .i64 (1 + q + u / 29 * 99), .int .i64 (10 + p + v), .int .i64 (10 + p)]) (by simp [results, Try.results27, go_sem]) rfl ⟨_, _, _, rfl, by omega, by omega, by omega, T.out⟩
end Go.Proofs.Ytahfkeogfoejmaa
