/- What the drawing functions of chapter 5 give: the laws' arguments. -/
import Derived.Test.Ytpfllhiibkdfaaa5T
import Derived.Deep.RegionWith
namespace Go.Proofs.Ytpfllhiibkdfaaa
open Go.RowKit
set_option linter.unusedVariables false

set_option maxHeartbeats 1000000 in
theorem DrawWithinLimit_c (a : Option Addr) (n cap : Nat) (w : World) (hb : Byt w a n) (hn : n ≤ cap) (hcap : cap ≤ maxLen) :
    Calls Try.prog 16 #[.slice a n cap] w (DrawnC w) := by
  have HY : Hid _ := hb.below ((Below.refl _ _).alloc (Nat.le_refl _) (.cells #[.int .i64 0, .int .i64 0] 29))
  obtain ⟨B, hBB⟩ : ∃ B, w.heap.size = B := ⟨_, rfl⟩
  have HB : Hid _ := hBB
  have Q0 : Hid (Box (w.alloc (.cells #[.int .i64 0, .int .i64 0] 29)) B 0 0) := by rw [← hBB]; exact Box.new w 0 0 29
  have T0 : Hid (Below w.heap.size w (w.alloc (.cells #[.int .i64 0, .int .i64 0] 29))) := (by repeat (first | exact Below.refl _ _ | refine Below.al ?_ _ | refine Below.dr ?_ _ | refine Below.dw ?_ | refine Below.st ?_ (by first | exact Nat.le_refl _ | exact Nat.le_add_right _ _ | (simp; omega)) _ | (refine below_next ?_ (by assumption))))
  clear hb hBB
  go_enter Try.func16, Try.ntmps16
  go_wp2_with fail
  rw [HB.out]
  refine (open_c a n cap _ HY.out hn hcap).mono ?_
  rintro e wn ⟨g, hg, rfl, hr, hBl⟩
  have Q : Hid _ := Box.below Q0.out hBl
  have T : Hid (Below w.heap.size w wn) := below_next T0.out hBl
  have R : Hid _ := hr
  have hg1 : B < g := by have := HB.out; simp at hg; omega
  have hg2 : w.heap.size ≤ g := by have := HB.out; omega
  have hBg : B ≠ g := by omega
  clear hr hBl hg Q0 T0
  go_wp2_with fail
  refine (l20Motion_c g _ 9 _ R.out (by omega) (by omega) (by omega)).mono ?_
  rintro e wn ⟨x, s, c', rfl, x0, x1, s0, s1, hr, hc, hf⟩
  have v3 := hf
  have Rn : Hid _ := hr
  have Tn : Hid (Below w.heap.size w _) := Fr.below T.out v3 hg2
  have Qn : Hid _ := Box.fr Q.out v3 hBg
  clear v3 hr hf
  clear R T Q
  have R := Rn
  have T := Tn
  have Q := Qn
  clear Rn Tn Qn
  have hglG := Rd.lt R.out
  have hltQG := Box.lt Q.out
  obtain ⟨G, hG⟩ : ∃ G, Array.size (World.heap wn) = G := ⟨_, rfl⟩
  have HG : Hid _ := hG
  rw [hG] at hglG hltQG
  have M : Hid (Box (wn.alloc (.cells #[.int .i64 x, .int .i64 s] 29)) G x s) := by rw [← hG]; exact Box.new wn x s 29
  have hGg : G ≠ g := by omega
  clear hG
  have Rn : Hid _ := Rd.alloc R.out (.cells #[.int .i64 x, .int .i64 s] 29)
  have Tn : Hid (Below w.heap.size w _) := Below.al T.out (.cells #[.int .i64 x, .int .i64 s] 29)
  have Qn : Hid _ := Box.al Q.out (.cells #[.int .i64 x, .int .i64 s] 29)
  clear R T Q
  have R := Rn
  have T := Tn
  have Q := Qn
  clear Rn Tn Qn
  go_wp2_with fail
  rw [HG.out]
  refine (pick_c g _ (2) _ R.out (by omega) (by omega)).mono ?_
  rintro e wn ⟨u, rfl, hu0, p1, v2, v3, v4⟩
  have hu : u ≤ 1 := by omega
  skip
  have Rn : Hid _ := v2
  have Tn : Hid (Below w.heap.size w _) := Fr.below T.out v3 hg2
  have Qn : Hid _ := Box.fr Q.out v3 hBg
  have Mn : Hid _ := Box.fr M.out v3 hGg
  clear v3 v2 v4 p1
  clear R T Q M
  have R := Rn
  have T := Tn
  have Q := Qn
  have M := Mn
  clear Rn Tn Qn Mn
  by_cases ku : u = 0
  case neg =>
    have tu : (u == 0) = false := by simp [ku]
    clear ku
    obtain ⟨⟨d0, d1⟩, d2, d3⟩ := M.out
    obtain ⟨⟨c0, c1⟩, f0, f1⟩ := Q.out
    go_wp2_with fail
    exact bodyPost_ret (v := (Value.agg #[.int .i64 (x), .int .i64 (s)])) (by simp [results, Try.results16, go_sem, c0, c1]) rfl ⟨x, s, rfl, x0, x1, s0, s1, (by have HZ := T.out; have q1 := HB.out; exact Below.st (Below.st HZ (Nat.le_of_eq q1) _) (Nat.le_of_eq q1) _)⟩
  have tu : (u == 0) = true := by simp [ku]
  clear ku
  go_wp2_with fail
  refine (pick_c g _ (12) _ R.out (by omega) (by omega)).mono ?_
  rintro e wn ⟨p, rfl, hp0, p1, v2, v3, v4⟩
  have hp : p ≤ 11 := by omega
  skip
  have Rn : Hid _ := v2
  have Tn : Hid (Below w.heap.size w _) := Fr.below T.out v3 hg2
  have Qn : Hid _ := Box.fr Q.out v3 hBg
  have Mn : Hid _ := Box.fr M.out v3 hGg
  clear v3 v2 v4 p1
  clear R T Q M
  have R := Rn
  have T := Tn
  have Q := Qn
  have M := Mn
  clear Rn Tn Qn Mn
  go_wp2_with fail
  refine (pick_c g _ (12) _ R.out (by omega) (by omega)).mono ?_
  rintro e wn ⟨q, rfl, hq0, p1, v2, v3, v4⟩
  have hq : q ≤ 11 := by omega
  skip
  have Rn : Hid _ := v2
  have Tn : Hid (Below w.heap.size w _) := Fr.below T.out v3 hg2
  have Qn : Hid _ := Box.fr Q.out v3 hBg
  have Mn : Hid _ := Box.fr M.out v3 hGg
  clear v3 v2 v4 p1
  clear R T Q M
  have R := Rn
  have T := Tn
  have Q := Qn
  have M := Mn
  clear Rn Tn Qn Mn
  have hglH := Rd.lt R.out
  have hltQH := Box.lt Q.out
  have hltMH := Box.lt M.out
  obtain ⟨H, hH⟩ : ∃ H, Array.size (World.heap wn) = H := ⟨_, rfl⟩
  have HH : Hid _ := hH
  rw [hH] at hglH hltQH hltMH
  have N : Hid (Box (wn.alloc (.cells #[.int .i64 p, .int .i64 (60 - q)] 3)) H p (60 - q)) := by rw [← hH]; exact Box.new wn p (60 - q) 3
  have hHg : H ≠ g := by omega
  clear hH
  have Rn : Hid _ := Rd.alloc R.out (.cells #[.int .i64 p, .int .i64 (60 - q)] 3)
  have Tn : Hid (Below w.heap.size w _) := Below.al T.out (.cells #[.int .i64 p, .int .i64 (60 - q)] 3)
  have Qn : Hid _ := Box.al Q.out (.cells #[.int .i64 p, .int .i64 (60 - q)] 3)
  have Mn : Hid _ := Box.al M.out (.cells #[.int .i64 p, .int .i64 (60 - q)] 3)
  clear R T Q M
  have R := Rn
  have T := Tn
  have Q := Qn
  have M := Mn
  clear Rn Tn Qn Mn
  go_wp2_with fail
  rw [HH.out]
  refine (pick_c g _ (2) _ R.out (by omega) (by omega)).mono ?_
  rintro e wn ⟨z, rfl, hz0, p1, v2, v3, v4⟩
  have hz : z ≤ 1 := by omega
  skip
  have Rn : Hid _ := v2
  have Tn : Hid (Below w.heap.size w _) := Fr.below T.out v3 hg2
  have Qn : Hid _ := Box.fr Q.out v3 hBg
  have Mn : Hid _ := Box.fr M.out v3 hGg
  have Nn : Hid _ := Box.fr N.out v3 hHg
  clear v3 v2 v4 p1
  clear R T Q M N
  have R := Rn
  have T := Tn
  have Q := Qn
  have M := Mn
  have N := Nn
  clear Rn Tn Qn Mn Nn
  obtain ⟨y, hy⟩ : ∃ y, two p (60 - q) z = y := ⟨_, rfl⟩
  have n0 := box_two N.out hz0 hz
  rw [hy] at n0
  have hyb : 0 ≤ y ∧ y ≤ 60 := by rw [← hy]; unfold two; split <;> omega
  have hz2 : z < 2 := by omega
  clear hy
  obtain ⟨⟨c0, c1⟩, cf0, cf1⟩ := M.out
  go_wp2_with fail
  clear n0
  have Rn : Hid _ := Rd.set (i := G) (j := 0) R.out (.int .i64 (y)) (by omega)
  have Tn : Hid (Below w.heap.size w _) := Below.st (p := ⟨G, 0, none⟩) T.out (by show _ ≤ G; have := HB.out; omega) (.int .i64 (y))
  have Qn : Hid _ := Box.far (c := G) (j := 0) (v := .int .i64 (y)) Q.out (by omega)
  have Mn : Hid _ := Box.set0 (y) M.out
  have Nn : Hid _ := Box.far (c := G) (j := 0) (v := .int .i64 (y)) N.out (by omega)
  clear c0 c1 cf0 cf1
  clear R T Q M N
  have R := Rn
  have T := Tn
  have Q := Qn
  have M := Mn
  have N := Nn
  clear Rn Tn Qn Mn Nn
  go_wp2_with fail
  refine (pick_c g _ (11) _ R.out (by omega) (by omega)).mono ?_
  rintro e wn ⟨v, rfl, hv0, p1, v2, v3, v4⟩
  have hv : v ≤ 10 := by omega
  skip
  have Rn : Hid _ := v2
  have Tn : Hid (Below w.heap.size w _) := Fr.below T.out v3 hg2
  have Qn : Hid _ := Box.fr Q.out v3 hBg
  have Mn : Hid _ := Box.fr M.out v3 hGg
  have Nn : Hid _ := Box.fr N.out v3 hHg
  clear v3 v2 v4 p1
  clear R T Q M N
  have R := Rn
  have T := Tn
  have Q := Qn
  have M := Mn
  have N := Nn
  clear Rn Tn Qn Mn Nn
  obtain ⟨⟨d0, d1⟩, d2, d3⟩ := M.out
  obtain ⟨⟨c0, c1⟩, f0, f1⟩ := Q.out
  have hGB : ¬ G = B := by omega
  have hBG : ¬ B = G := by omega
  go_wp2_with fail
  exact bodyPost_ret (v := (Value.agg #[.int .i64 (y), .int .i64 (v - 5)])) (by simp [results, Try.results16, go_sem, c0, c1]) rfl ⟨y, v - 5, rfl, by omega, by omega, by omega, by omega, (by have HZ := T.out; have q1 := HB.out; exact Below.st (Below.st (Below.st HZ (by show _ ≤ G; omega) _) (Nat.le_of_eq q1) _) (Nat.le_of_eq q1) _)⟩
end Go.Proofs.Ytpfllhiibkdfaaa
