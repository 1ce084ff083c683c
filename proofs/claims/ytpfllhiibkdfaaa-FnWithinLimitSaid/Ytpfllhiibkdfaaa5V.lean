/- The drawing functions of chapter 5 that make lists. -/
import Derived.Test.Ytpfllhiibkdfaaa5U
import Derived.Test.YtpfllhiibkdfaaaGT
namespace Go.Proofs.Ytpfllhiibkdfaaa
open Go.RowKit
set_option linter.unusedVariables false
attribute [local go_sem] evOf_tmp evOf_const evOf_func evOf_global
def DrawnGS (w : World) (e : Ending) (w' : World) : Prop := ∃ (t : Bool) (s : Int) (r : Bool), e = .returned (.tuple #[.bool t, .int .i64 s, .bool r]) ∧ -7 ≤ s ∧ s ≤ 20 ∧ Below w.heap.size w w'
def DrawnSL (w : World) (e : Ending) (w' : World) : Prop := ∃ (s : Int) (r : Bool), e = .returned (.tuple #[.int .i64 s, .bool r]) ∧ -1 ≤ s ∧ s ≤ 61 ∧ Below w.heap.size w w'
set_option maxHeartbeats 1000000 in
theorem DrawSpeedLimit_c (a : Option Addr) (n cap : Nat) (w : World) (hb : Byt w a n) (hn : n ≤ cap) (hcap : cap ≤ maxLen) :
    Calls Try.prog 11 #[.slice a n cap] w (DrawnSL w) := by
  go_enter Try.func11, Try.ntmps11
  go_wp2_with fail
  refine (open_c a n cap _ hb hn hcap).mono ?_
  rintro e wn ⟨g, hg, rfl, hr, hB⟩
  have R : Hid _ := hr
  have T : Hid _ := hB
  clear hr hB
  go_wp2_with fail
  refine (pick_c g _ (2) _ R.out (by omega) (by omega)).mono ?_
  rintro e wn ⟨u, rfl, hu0, p1, v2, v3, v4⟩
  have hu : u ≤ 1 := by omega
  skip
  have Rn : Hid _ := v2
  have Tn : Hid (Below w.heap.size w _) := Fr.below T.out v3 hg
  clear v3 v2 v4 p1
  clear R T
  have R := Rn
  have T := Tn
  clear Rn Tn
  by_cases ku : u = 0
  case neg =>
    have tu : (u == 0) = false := by simp [ku]
    clear ku
    go_wp2_with fail
    refine (pick_c g _ (63) _ R.out (by omega) (by omega)).mono ?_
    rintro e wn ⟨p, rfl, hp0, p1, v2, v3, v4⟩
    have hp : p ≤ 62 := by omega
    skip
    have Rn : Hid _ := v2
    have Tn : Hid (Below w.heap.size w _) := Fr.below T.out v3 hg
    clear v3 v2 v4 p1
    clear R T
    have R := Rn
    have T := Tn
    clear Rn Tn
    go_wp2_with fail
    refine (pick_c g _ (2) _ R.out (by omega) (by omega)).mono ?_
    rintro e wn ⟨q, rfl, hq0, p1, v2, v3, v4⟩
    have hq : q ≤ 1 := by omega
    skip
    have Rn : Hid _ := v2
    have Tn : Hid (Below w.heap.size w _) := Fr.below T.out v3 hg
    clear v3 v2 v4 p1
    clear R T
    have R := Rn
    have T := Tn
    clear Rn Tn
    go_wp2_with fail
    go_ret2
    exact ⟨_, _, rfl, by omega, by omega, T.out⟩
  have tu : (u == 0) = true := by simp [ku]
  clear ku
  go_wp2_with fail
  refine wp_region_reads wn g 1 [10, 11, 12, 13, 14, 15, 16, 17, 18, 19, 20, 21, 22, 2, 3] [(4, tV (.pointer (some ⟨g, 0, none⟩)))] [(10, tV (.pointer (some ⟨g, 0, none⟩))), (11, tI 0 13), (12, tV (.pointer (some ⟨g, 0, none⟩))), (13, tI 0 13), (14, tI 47 60), (15, tS g 0 60 2), (16, tV (.pointer (some ⟨g, 0, none⟩))), (17, tI 0 1), (18, tC g 0 60), (19, tI 0 60), (20, tV (.pointer (some ⟨g, 0, none⟩))), (21, tI 0 1), (22, tB), (2, tI 0 60), (3, tB)] (by kernel_rfl) (by kernel_rfl) (by kernel_rfl) (by kernel_rfl) (by kernel_rfl) (by repeat (first | exact trivial | refine ⟨by first | exact Stb.V _ _ | exact Stb.I _ _ _ | exact Stb.B _ | exact Stb.S _ _ _ _ | exact Stb.C _ _ _ | exact Stb.A _, ?_⟩)) ?hpre R.out (Fr.refl _ _) ?hobs ?_
  case hpre => exact ⟨by first | rfl | exact ⟨_, rfl, by omega, by omega⟩ | exact ⟨_, rfl⟩, trivial⟩
  case hobs =>
    refine ⟨?_, ?_, ?_, ?_, ?_, ?_, ?_, ?_, ?_, ?_, ?_, ?_, ?_, ?_, ?_, trivial⟩
    · intro k w vs hk hC hL
      replace hk : k < 15 := hk
      have ha := hL 4 (List.mem_of_elem_eq_true (by kernel_rfl))
      replace ha : tV (.pointer (some ⟨g, 0, none⟩)) (vs 4) w := ha
      go_simp
      exact ob_pure hC (show tV (.pointer (some ⟨g, 0, none⟩)) (vs 4) w from ha)
    · intro k w vs hk hC hL
      replace hk : k < 15 := hk
      have ha := hL 10 (List.mem_of_elem_eq_true (by kernel_rfl))
      replace ha : tV (.pointer (some ⟨g, 0, none⟩)) (vs 10) w := ha
      replace ha : vs 10 = _ := ha
      go_simp
      exact ob_pick hC (by omega) (by omega) (by omega) (fun w' p p0 p1 => show tI 0 13 (.int .i64 p) w' from ⟨p, rfl, p0, by omega⟩)
    · intro k w vs hk hC hL
      replace hk : k < 15 := hk
      have ha := hL 4 (List.mem_of_elem_eq_true (by kernel_rfl))
      replace ha : tV (.pointer (some ⟨g, 0, none⟩)) (vs 4) w := ha
      go_simp
      exact ob_pure hC (show tV (.pointer (some ⟨g, 0, none⟩)) (vs 4) w from ha)
    · intro k w vs hk hC hL
      replace hk : k < 15 := hk
      have ha := hL 12 (List.mem_of_elem_eq_true (by kernel_rfl))
      replace ha : tV (.pointer (some ⟨g, 0, none⟩)) (vs 12) w := ha
      replace ha : vs 12 = _ := ha
      go_simp
      exact ob_pick hC (by omega) (by omega) (by omega) (fun w' p p0 p1 => show tI 0 13 (.int .i64 p) w' from ⟨p, rfl, p0, by omega⟩)
    · intro k w vs hk hC hL
      replace hk : k < 15 := hk
      have hb := hL 13 (List.mem_of_elem_eq_true (by kernel_rfl))
      replace hb : tI 0 13 (vs 13) w := hb
      obtain ⟨b, hb, b0, b1⟩ := hb
      go_simp
      exact ob_pure hC (show tI 47 60 _ w from ⟨_, rfl, by first | omega | (simp only [IntKind.wrap_i64]; omega) | (simp only [IntKind.wrap_i64, Int.tdiv_eq_ediv_of_nonneg, *]; omega), by first | omega | (simp only [IntKind.wrap_i64]; omega) | (simp only [IntKind.wrap_i64, Int.tdiv_eq_ediv_of_nonneg, *]; omega)⟩)
    · intro k w vs hk hC hL
      replace hk : k < 15 := hk
      have ha := hL 11 (List.mem_of_elem_eq_true (by kernel_rfl))
      replace ha : tI 0 13 (vs 11) w := ha
      obtain ⟨a, ha, a0, a1⟩ := ha
      have hb := hL 14 (List.mem_of_elem_eq_true (by kernel_rfl))
      replace hb : tI 47 60 (vs 14) w := hb
      obtain ⟨b, hb, b0, b1⟩ := hb
      have hlt := hC.lt
      go_simp
      exact ob_alloc hC (show tS g 0 60 2 _ (World.alloc w _) from ⟨_, [a, b], rfl, Nat.ne_of_gt hlt, rfl, ints_new _ w _, by simp; try omega⟩)
    · intro k w vs hk hC hL
      replace hk : k < 15 := hk
      have ha := hL 4 (List.mem_of_elem_eq_true (by kernel_rfl))
      replace ha : tV (.pointer (some ⟨g, 0, none⟩)) (vs 4) w := ha
      go_simp
      exact ob_pure hC (show tV (.pointer (some ⟨g, 0, none⟩)) (vs 4) w from ha)
    · intro k w vs hk hC hL
      replace hk : k < 15 := hk
      have ha := hL 16 (List.mem_of_elem_eq_true (by kernel_rfl))
      replace ha : tV (.pointer (some ⟨g, 0, none⟩)) (vs 16) w := ha
      replace ha : vs 16 = _ := ha
      go_simp
      exact ob_pick hC (by omega) (by omega) (by omega) (fun w' p p0 p1 => show tI 0 1 (.int .i64 p) w' from ⟨p, rfl, p0, by omega⟩)
    · intro k w vs hk hC hL
      replace hk : k < 15 := hk
      have ha := hL 15 (List.mem_of_elem_eq_true (by kernel_rfl))
      replace ha : tS g 0 60 2 (vs 15) w := ha
      obtain ⟨a, xsa, ha, nea, lxa, Ia, Ba⟩ := ha
      have hb := hL 17 (List.mem_of_elem_eq_true (by kernel_rfl))
      replace hb : tI 0 1 (vs 17) w := hb
      obtain ⟨b, hb, b0, b1⟩ := hb
      have hb2 : b < 2 := by omega
      have cc := ints_at Ia b0 (by omega)
      have bb := Ba _ (nth_mem xsa (i := b.toNat) (by omega))
      obtain ⟨z, hz⟩ : ∃ z, nth xsa b.toNat = z := ⟨_, rfl⟩
      rw [hz] at cc bb
      clear hz Ia Ba lxa
      go_simp
      exact ob_pure hC (show tC g 0 60 _ w from ⟨a, _, z, rfl, nea, cc, bb.1, bb.2⟩)
    · intro k w vs hk hC hL
      replace hk : k < 15 := hk
      have ha := hL 18 (List.mem_of_elem_eq_true (by kernel_rfl))
      replace ha : tC g 0 60 (vs 18) w := ha
      obtain ⟨a, oa, xa, ha, nea, ca, xa0, xa1⟩ := ha
      go_simp
      exact ob_pure hC (show tI 0 60 _ w from ⟨xa, rfl, xa0, xa1⟩)
    · intro k w vs hk hC hL
      replace hk : k < 15 := hk
      have ha := hL 4 (List.mem_of_elem_eq_true (by kernel_rfl))
      replace ha : tV (.pointer (some ⟨g, 0, none⟩)) (vs 4) w := ha
      go_simp
      exact ob_pure hC (show tV (.pointer (some ⟨g, 0, none⟩)) (vs 4) w from ha)
    · intro k w vs hk hC hL
      replace hk : k < 15 := hk
      have ha := hL 20 (List.mem_of_elem_eq_true (by kernel_rfl))
      replace ha : tV (.pointer (some ⟨g, 0, none⟩)) (vs 20) w := ha
      replace ha : vs 20 = _ := ha
      go_simp
      exact ob_pick hC (by omega) (by omega) (by omega) (fun w' p p0 p1 => show tI 0 1 (.int .i64 p) w' from ⟨p, rfl, p0, by omega⟩)
    · intro k w vs hk hC hL
      replace hk : k < 15 := hk
      have ha := hL 21 (List.mem_of_elem_eq_true (by kernel_rfl))
      replace ha : tI 0 1 (vs 21) w := ha
      obtain ⟨a, ha, a0, a1⟩ := ha
      go_simp
      exact ob_pure hC (show tB _ w from ⟨_, rfl⟩)
    · intro k w vs hk hC hL
      replace hk : k < 15 := hk
      have ha := hL 19 (List.mem_of_elem_eq_true (by kernel_rfl))
      replace ha : tI 0 60 (vs 19) w := ha
      go_simp
      exact ob_pure hC (show tI 0 60 (vs 19) w from ha)
    · intro k w vs hk hC hL
      replace hk : k < 15 := hk
      have ha := hL 22 (List.mem_of_elem_eq_true (by kernel_rfl))
      replace ha : tB (vs 22) w := ha
      go_simp
      exact ob_pure hC (show tB (vs 22) w from ha)
  intro vs wn hC hT
  obtain ⟨cR, hcR, v2, v3⟩ := hC
  replace hcR : cR ≤ 1 + 15 := hcR
  skip
  have Rn : Hid _ := v2
  have Tn : Hid (Below w.heap.size w _) := Fr.below T.out v3 hg
  clear v3 v2
  clear R T
  have R := Rn
  have T := Tn
  clear Rn Tn
  simp (decide := true) only [over, Nat.reduceAdd, if_true, if_false]
  have hx := hT 2
  replace hx : tI 0 60 (vs 2) wn := hx
  obtain ⟨x, hx, x0, x1⟩ := hx
  have hy := hT 3
  replace hy : tB (vs 3) wn := hy
  obtain ⟨y, hy⟩ := hy
  rw [hx, hy]
  clear hT
  go_wp2_with fail
  go_ret2
  exact ⟨_, _, rfl, by omega, by omega, T.out⟩
set_option maxHeartbeats 1000000 in
theorem DrawGovernorStep_c (a : Option Addr) (n cap : Nat) (w : World) (hb : Byt w a n) (hn : n ≤ cap) (hcap : cap ≤ maxLen) :
    Calls Try.prog 20 #[.slice a n cap] w (DrawnGS w) := by
  go_enter Try.func20, Try.ntmps20
  go_wp2_with fail
  refine (open_c a n cap _ hb hn hcap).mono ?_
  rintro e wn ⟨g, hg, rfl, hr, hB⟩
  have R : Hid _ := hr
  have T : Hid _ := hB
  clear hr hB
  go_wp2_with fail
  refine wp_region_reads wn g 0 [8, 9, 10, 11, 12, 13, 14, 15, 16, 17, 18, 2, 3, 4] [(5, tV (.pointer (some ⟨g, 0, none⟩)))] [(8, tV (.pointer (some ⟨g, 0, none⟩))), (9, tI 0 1), (10, tB), (11, tS g (-7) 20 7), (12, tV (.pointer (some ⟨g, 0, none⟩))), (13, tI 0 6), (14, tC g (-7) 20), (15, tI (-7) 20), (16, tV (.pointer (some ⟨g, 0, none⟩))), (17, tI 0 1), (18, tB), (2, tB), (3, tI (-7) 20), (4, tB)] (by kernel_rfl) (by kernel_rfl) (by kernel_rfl) (by kernel_rfl) (by kernel_rfl) (by repeat (first | exact trivial | refine ⟨by first | exact Stb.V _ _ | exact Stb.I _ _ _ | exact Stb.B _ | exact Stb.S _ _ _ _ | exact Stb.C _ _ _ | exact Stb.A _, ?_⟩)) ?hpre R.out (Fr.refl _ _) ?hobs ?_
  case hpre => exact ⟨by first | rfl | exact ⟨_, rfl, by omega, by omega⟩ | exact ⟨_, rfl⟩, trivial⟩
  case hobs =>
    refine ⟨?_, ?_, ?_, ?_, ?_, ?_, ?_, ?_, ?_, ?_, ?_, ?_, ?_, ?_, trivial⟩
    · intro k w vs hk hC hL
      replace hk : k < 14 := hk
      have ha := hL 5 (List.mem_of_elem_eq_true (by kernel_rfl))
      replace ha : tV (.pointer (some ⟨g, 0, none⟩)) (vs 5) w := ha
      go_simp
      exact ob_pure hC (show tV (.pointer (some ⟨g, 0, none⟩)) (vs 5) w from ha)
    · intro k w vs hk hC hL
      replace hk : k < 14 := hk
      have ha := hL 8 (List.mem_of_elem_eq_true (by kernel_rfl))
      replace ha : tV (.pointer (some ⟨g, 0, none⟩)) (vs 8) w := ha
      replace ha : vs 8 = _ := ha
      go_simp
      exact ob_pick hC (by omega) (by omega) (by omega) (fun w' p p0 p1 => show tI 0 1 (.int .i64 p) w' from ⟨p, rfl, p0, by omega⟩)
    · intro k w vs hk hC hL
      replace hk : k < 14 := hk
      have ha := hL 9 (List.mem_of_elem_eq_true (by kernel_rfl))
      replace ha : tI 0 1 (vs 9) w := ha
      obtain ⟨a, ha, a0, a1⟩ := ha
      go_simp
      exact ob_pure hC (show tB _ w from ⟨_, rfl⟩)
    · intro k w vs hk hC hL
      replace hk : k < 14 := hk
      have hlt := hC.lt
      go_simp
      exact ob_alloc hC (show tS g (-7) 20 7 _ (World.alloc w _) from ⟨_, [0, 0, 3, -6, 7, -7, 20], rfl, Nat.ne_of_gt hlt, rfl, ints_new _ w _, by simp; try omega⟩)
    · intro k w vs hk hC hL
      replace hk : k < 14 := hk
      have ha := hL 5 (List.mem_of_elem_eq_true (by kernel_rfl))
      replace ha : tV (.pointer (some ⟨g, 0, none⟩)) (vs 5) w := ha
      go_simp
      exact ob_pure hC (show tV (.pointer (some ⟨g, 0, none⟩)) (vs 5) w from ha)
    · intro k w vs hk hC hL
      replace hk : k < 14 := hk
      have ha := hL 12 (List.mem_of_elem_eq_true (by kernel_rfl))
      replace ha : tV (.pointer (some ⟨g, 0, none⟩)) (vs 12) w := ha
      replace ha : vs 12 = _ := ha
      go_simp
      exact ob_pick hC (by omega) (by omega) (by omega) (fun w' p p0 p1 => show tI 0 6 (.int .i64 p) w' from ⟨p, rfl, p0, by omega⟩)
    · intro k w vs hk hC hL
      replace hk : k < 14 := hk
      have ha := hL 11 (List.mem_of_elem_eq_true (by kernel_rfl))
      replace ha : tS g (-7) 20 7 (vs 11) w := ha
      obtain ⟨a, xsa, ha, nea, lxa, Ia, Ba⟩ := ha
      have hb := hL 13 (List.mem_of_elem_eq_true (by kernel_rfl))
      replace hb : tI 0 6 (vs 13) w := hb
      obtain ⟨b, hb, b0, b1⟩ := hb
      have hb2 : b < 7 := by omega
      have cc := ints_at Ia b0 (by omega)
      have bb := Ba _ (nth_mem xsa (i := b.toNat) (by omega))
      obtain ⟨z, hz⟩ : ∃ z, nth xsa b.toNat = z := ⟨_, rfl⟩
      rw [hz] at cc bb
      clear hz Ia Ba lxa
      go_simp
      exact ob_pure hC (show tC g (-7) 20 _ w from ⟨a, _, z, rfl, nea, cc, bb.1, bb.2⟩)
    · intro k w vs hk hC hL
      replace hk : k < 14 := hk
      have ha := hL 14 (List.mem_of_elem_eq_true (by kernel_rfl))
      replace ha : tC g (-7) 20 (vs 14) w := ha
      obtain ⟨a, oa, xa, ha, nea, ca, xa0, xa1⟩ := ha
      go_simp
      exact ob_pure hC (show tI (-7) 20 _ w from ⟨xa, rfl, xa0, xa1⟩)
    · intro k w vs hk hC hL
      replace hk : k < 14 := hk
      have ha := hL 5 (List.mem_of_elem_eq_true (by kernel_rfl))
      replace ha : tV (.pointer (some ⟨g, 0, none⟩)) (vs 5) w := ha
      go_simp
      exact ob_pure hC (show tV (.pointer (some ⟨g, 0, none⟩)) (vs 5) w from ha)
    · intro k w vs hk hC hL
      replace hk : k < 14 := hk
      have ha := hL 16 (List.mem_of_elem_eq_true (by kernel_rfl))
      replace ha : tV (.pointer (some ⟨g, 0, none⟩)) (vs 16) w := ha
      replace ha : vs 16 = _ := ha
      go_simp
      exact ob_pick hC (by omega) (by omega) (by omega) (fun w' p p0 p1 => show tI 0 1 (.int .i64 p) w' from ⟨p, rfl, p0, by omega⟩)
    · intro k w vs hk hC hL
      replace hk : k < 14 := hk
      have ha := hL 17 (List.mem_of_elem_eq_true (by kernel_rfl))
      replace ha : tI 0 1 (vs 17) w := ha
      obtain ⟨a, ha, a0, a1⟩ := ha
      go_simp
      exact ob_pure hC (show tB _ w from ⟨_, rfl⟩)
    · intro k w vs hk hC hL
      replace hk : k < 14 := hk
      have ha := hL 10 (List.mem_of_elem_eq_true (by kernel_rfl))
      replace ha : tB (vs 10) w := ha
      go_simp
      exact ob_pure hC (show tB (vs 10) w from ha)
    · intro k w vs hk hC hL
      replace hk : k < 14 := hk
      have ha := hL 15 (List.mem_of_elem_eq_true (by kernel_rfl))
      replace ha : tI (-7) 20 (vs 15) w := ha
      go_simp
      exact ob_pure hC (show tI (-7) 20 (vs 15) w from ha)
    · intro k w vs hk hC hL
      replace hk : k < 14 := hk
      have ha := hL 18 (List.mem_of_elem_eq_true (by kernel_rfl))
      replace ha : tB (vs 18) w := ha
      go_simp
      exact ob_pure hC (show tB (vs 18) w from ha)
  intro vs wn hC hT
  obtain ⟨cR, hcR, v2, v3⟩ := hC
  replace hcR : cR ≤ 0 + 14 := hcR
  skip
  have Rn : Hid _ := v2
  have Tn : Hid (Below w.heap.size w _) := Fr.below T.out v3 hg
  clear v3 v2
  clear R T
  have R := Rn
  have T := Tn
  clear Rn Tn
  simp (decide := true) only [over, Nat.reduceAdd, if_true, if_false]
  have ht := hT 2
  replace ht : tB (vs 2) wn := ht
  obtain ⟨t, ht⟩ := ht
  have hx := hT 3
  replace hx : tI (-7) 20 (vs 3) wn := hx
  obtain ⟨x, hx, x0, x1⟩ := hx
  have hr := hT 4
  replace hr : tB (vs 4) wn := hr
  obtain ⟨r, hr⟩ := hr
  rw [ht, hx, hr]
  clear hT
  go_wp2_with fail
  go_ret3
  exact ⟨_, _, _, rfl, by omega, by omega, T.out⟩
end Go.Proofs.Ytpfllhiibkdfaaa
