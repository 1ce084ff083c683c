/- The program's iterator over all ways to give the calls. -/
import Derived.Test.Ytgiioponimiddaa12H
import Derived.Test.Ytgiioponimiddaa12O
import Derived.Test.YtgiioponimiddaaVB
import Derived.TacticsInMore
import Derived.OwnWalkIn
import Derived.Shelf.Abstract
import Derived.Shelf.RegionOpen
import Derived.LoopNIn
import Derived.LoopIn
namespace Go.Proofs.Ytgiioponimiddaa
open Go.RowKit Go.Shelf
set_option linter.unusedVariables false
set_option linter.unusedSimpArgs false
set_option maxRecDepth 100000

set_option maxHeartbeats 4000000 in
theorem nextWay_c (n k m : Nat) (x : List Int) (w : World) (hO : OwnI w m (m + 1) (.slice (some ⟨m, 0, none⟩) k k) x) (hx : GvOk n k x) (hn4 : n ≤ 4) (hk : k ≤ 5) :
    Calls Try.prog 69 #[.slice (some ⟨m, 0, none⟩) k k, .int .i64 n] w fun e w' => e = .returned (.bool (nxt n x).isSome) ∧ ∃ y, OwnI w' m (m + 1) (.slice (some ⟨m, 0, none⟩) k k) y ∧ (∀ z, nxt n x = some z → y = z) ∧ Out m (m + 1) w w' := by
  have HO := Lib.hid hO
  have HG := Lib.hid hx
  have hxl : x.length = k := hx.2
  have hkw : -9223372036854775808 ≤ (k : Int) - 1 ∧ (k : Int) - 1 ≤ 9223372036854775807 := by omega
  have HR := Lib.hid (show Out m (m + 1) w w from Out.mk' (Below.refl _ _))
  clear hO hx
  go_enter Try.func69, Try.ntmps69
  go_wp2_with fail
  go_loopw [5] (fun v wr => ∃ (p : Nat) (z : Int), p ≤ k ∧ v = .int .i64 z ∧ z = (p : Int) - 1 ∧ (∀ c, c ∈ x.drop p → ¬ c + 1 < (n : Int)) ∧ Out m (m + 1) w wr ∧ OwnI wr m (m + 1) (.slice (some ⟨m, 0, none⟩) k k) (x.take p ++ List.replicate (k - p) 0)) (fun v _ => (intOf v + 1).toNat)
  case atStart => exact ⟨k, _, Nat.le_refl _, rfl, rfl, (fun c hc => by rw [List.drop_eq_nil_of_le (by omega)] at hc; cases hc), HR.out, by rw [List.take_of_length_le (by omega), Nat.sub_self]; simpa using HO.out⟩
  case round =>
    clear HO HR
    obtain ⟨p, z, hp, rfl, hz, hd, h1, h2⟩ := hrel
    have R2 := Lib.hid h1
    have O2 := Lib.hid h2
    have HD := Lib.hid hd
    clear h1 h2 hd
    cases p with
    | zero =>
      obtain rfl : z = -1 := by omega
      have e := nxt_none (n := n) (x := x) (by have := HD.out; rwa [List.drop_zero] at this)
      have HE := Lib.hid e
      clear e hz
      go_wp2_with fail
      go_ret
      refine ⟨by rw [HE.out]; rfl, List.take 0 x ++ List.replicate (k - 0) 0, O2.out, (fun z hz => ?_), R2.out⟩
      rw [HE.out] at hz; cases hz
    | succ r =>
      obtain rfl : z = (r : Int) := by omega
      clear hz
      have hrk : r < k := by omega
      have hrx : r < x.length := by omega
      obtain ⟨c, hc⟩ : ∃ c, nth x r = c := ⟨_, rfl⟩
      have htk : x.take (r + 1) = x.take r ++ [c] := by rw [List.take_add_one, List.getElem?_eq_getElem hrx, ← hc, nth_eq hrx]; rfl
      have hxe : x = x.take r ++ c :: x.drop (r + 1) := by
        conv => lhs; rw [← List.take_append_drop (r + 1) x, htk]
        simp
      have hut : (x.take r).length = r := by rw [List.length_take]; omega
      have hcb := HG.out.1 r hrx
      rw [hc] at hcb
      have O3 := Lib.hid (show OwnI wr m (m + 1) (.slice (some ⟨m, 0, none⟩) k k) (x.take r ++ c :: List.replicate (k - (r + 1)) 0) from by have h9 := O2.out; rw [htk, List.append_assoc] at h9; exact h9)
      have y1 : wr.cell? ⟨m, r, none⟩ = some (.int .i64 c) := by
        have h9 := OwnI.ints O3.out r (by simp; omega)
        rw [Nat.zero_add] at h9
        rw [h9]
        congr 2
        simp [nth, List.getD, hut]
      have yf := OwnI.frz O3.out r
      have hri : (r : Int) < k := by omega
      have hcw : -9223372036854775808 ≤ c + 1 ∧ c + 1 ≤ 9223372036854775807 := by omega
      have HXE := Lib.hid hxe
      have HUT := Lib.hid hut
      clear O2 hc htk hxe hut
      by_cases hc1 : c + 1 < (n : Int)
      case pos =>
        have hnx : nxt n x = some (x.take r ++ (c + 1) :: List.replicate (x.drop (r + 1)).length 0) := by
          conv => lhs; rw [HXE.out]
          exact nxt_some hc1 HD.out _
        have hdl : (x.drop (r + 1)).length = k - (r + 1) := by rw [List.length_drop, hxl]
        rw [hdl] at hnx
        have HN := Lib.hid hnx
        have OP := Lib.hid (OwnI.put (c + 1) O3.out)
        clear hnx hdl
        go_wp2_with fail
        go_ret
        refine ⟨by rw [HN.out]; rfl, x.take r ++ (c + 1) :: List.replicate (k - (r + 1)) 0, by have h9 := OP.out; rw [HUT.out] at h9; exact h9, (fun z hz => by rw [HN.out] at hz; exact Option.some.inj hz), Out.trans R2.out (Out.set _ (Nat.le_refl _) (by omega))⟩
      have OP := Lib.hid (OwnI.put 0 O3.out)
      have hrw : -9223372036854775808 ≤ (r : Int) - 1 ∧ (r : Int) - 1 ≤ 9223372036854775807 := by omega
      go_wp2_with fail
      go_roundw
      case rel =>
        refine ⟨r, (r : Int) - 1, by omega, by go_num, rfl, ?_, Out.trans R2.out (Out.set _ (Nat.le_refl _) (by omega)), ?_⟩
        · intro d hdm
          have h9 : x.drop r = c :: x.drop (r + 1) := by
            conv => lhs; rw [HXE.out]
            rw [List.drop_append, HUT.out]; simp
          rw [h9] at hdm
          rcases List.mem_cons.1 hdm with g | g
          · rw [g]; exact hc1
          · exact HD.out d g
        · have h9 := OP.out
          rw [HUT.out] at h9
          rw [show k - r = (k - (r + 1)) + 1 from by omega, List.replicate_succ]
          exact h9
      case measure => first | (simp [intOf]; done) | (simp [intOf]; omega) | omega
theorem ways_c (n m : Int) (w : World) : Calls Try.prog 51 #[.int .i64 n, .int .i64 m] w fun e w' => e = .returned (.func (.func 68) #[] #[.pointer (some ⟨w.heap.size + 1, 0, none⟩), .pointer (some ⟨w.heap.size, 0, none⟩)]) ∧ BoxV w' w.heap.size [.int .i64 n] ∧ BoxV w' (w.heap.size + 1) [.int .i64 m] ∧ Below w.heap.size w w' ∧ w'.heap.size = w.heap.size + 2 := by
  have hmf : ∀ (fn : Fn) (first cap : Array Value) (w : World), (Instr.makeFunc fn first cap).run Try.prog w = .ok (.func fn first cap) w := fun _ _ _ _ => rfl
  go_enter Try.func51, Try.ntmps51
  go_wp2_with fail
  go_ret
  refine ⟨rfl, ?_, ?_, ?_, ?_⟩
  · exact BoxV.al (BoxV.new w [.int .i64 n] 3 (by simp) rfl) _
  · exact BoxV.new _ [.int .i64 m] 3 (by simp) (by simp)
  · exact Below.al (Below.al (Below.refl _ _) _) _
  · simp
attribute [local go_sem] Oper.semAt_some
/-- The number for which the row in block m stands. -/
noncomputable def vw (n k m : Nat) (w : World) : Nat := vl n ((List.range k).map fun j => intOf ((w.cell? ⟨m, j, none⟩).getD undef))
theorem vw_eq {n k m : Nat} {w : World} {x : List Int} (h : Ints w m 0 x) (hl : x.length = k) : vw n k m w = vl n x := by
  unfold vw
  congr 1
  refine nth_ext (by simp [hl]) fun i hi => ?_
  have hi2 : i < k := by simpa using hi
  have h1 := h i (by omega)
  rw [Nat.zero_add] at h1
  simp [nth, List.getD, hi2, h1, intOf]
set_option maxHeartbeats 4000000 in
theorem ways_seq (n k : Nat) (q0 q1 c0 c1 : Nat) (w : World) (h0 : BoxV w q0 [.int .i64 n]) (h1 : BoxV w q1 [.int .i64 k]) (hn : 0 < n) (hn4 : n ≤ 4) (hk : k ≤ 5) (hq0 : c0 ≤ q0 ∧ q0 < c1) (hq1 : c0 ≤ q1 ∧ q1 < c1) :
    SeqR Try.prog 68 #[.pointer (some ⟨q1, 0, none⟩), .pointer (some ⟨q0, 0, none⟩)] 1 c0 c1 (alw n k) VI w := by
  intro l m J W hB hW hJ hY hJ0
  have hmk := run_make_row' (P := Try.prog) 23 3 (.int .i64 0) 8 Try.underlying23 infoInt rfl .i64 .i64 k (by omega) (by omega)
  have b0 := h0.below hB
  have b1 := h1.below hB
  have hq0m : q0 < m := by rw [← hW]; exact BoxV.lt b0
  have hq1m : q1 < m := by rw [← hW]; exact BoxV.lt b1
  have k1 := b1.c1.1
  have O1 := Lib.hid (show OwnI (W.alloc (.cells (madeCells #[.int .i64 0] k) 3)) m (m + 1) (.slice (some ⟨m, 0, none⟩) k k) (List.replicate k 0) from by
    rw [← hW]
    exact ⟨own_made W k (by omega), fun q hq => by simp [Value.ownBlock] at hq; omega, by omega, by simp⟩)
  have J1 := Lib.hid (hJ 0 W (W.alloc (.cells (madeCells #[.int .i64 0] k) 3)) hJ0 (Out.mk' (Below.al (Below.refl _ _) _)))
  have A0 := Lib.hid (BoxV.al b0 (.cells (madeCells #[.int .i64 0] k) 3))
  have A1 := Lib.hid (BoxV.al b1 (.cells (madeCells #[.int .i64 0] k) 3))
  have HW := Lib.hid hW
  have HJ := Lib.hid hJ
  have HY := Lib.hid hY
  clear h0 h1 hB b0 b1 hJ0 hW hJ hY
  refine callsIn_wide.2 ?_
  show Calls Try.prog 68 #[.func (.yield l) #[] #[], .pointer (some ⟨q1, 0, none⟩), .pointer (some ⟨q0, 0, none⟩)] W _
  go_enter Try.func68, Try.ntmps68
  go_wp2_with fail
  rw [HW.out]
  clear k1 hmk
  go_loopw [14] (fun v wr => ∃ (i : Nat) (x : List Int), (alw n k)[i]? = some x ∧ J i wr ∧ OwnI wr m (m + 1) (.slice (some ⟨m, 0, none⟩) k k) x ∧ BoxV wr q0 [.int .i64 n] ∧ BoxV wr q1 [.int .i64 k]) (fun _ wr => n ^ k - vw n k m wr)
  case atStart =>
    obtain ⟨t, ht⟩ := alw_hd hn k
    exact ⟨0, List.replicate k 0, by rw [ht]; rfl, J1.out, O1.out, A0.out, A1.out⟩
  case round =>
    clear J1 O1 A0 A1
    obtain ⟨i, x, hx, hJi, hO, hb0, hb1⟩ := hrel
    have hxg := alw_ok.1 (List.mem_of_getElem? hx)
    have hxI : Ints wr m 0 x := OwnI.ints hO
    have hvw := vw_eq (n := n) hxI hxg.2
    have V1 : VI m x wr (.slice (some ⟨m, 0, none⟩) k k) := ⟨m, k, by rw [hxg.2], by rw [hxg.2]; exact Nat.le_refl _, by unfold maxLen; omega, Nat.le_refl _, hxI⟩
    obtain ⟨fn, tmps, asg, bdy, hy, hR⟩ := HY.out i x wr _ hx hJi hO.2.2.2 V1
    have HX := Lib.hid hx
    have HG := Lib.hid hxg
    have HO := Lib.hid hO
    have HB0 := Lib.hid hb0
    have HB1 := Lib.hid hb1
    have HVW := Lib.hid hvw
    clear hx hJi hO hb0 hb1 hxg hxI hvw V1
    refine (wpIn_wide (n := 0)).1 ?_
    gi_wp2_with fail
    refine ⟨rfl, RoundIn.mono hR ?_⟩
    rintro e w2 ⟨rfl, hJ2, hk2⟩
    have b0 := BoxV.block HB0.out (hk2.2 q0 (.inr hq0))
    have b1 := BoxV.block HB1.out (hk2.2 q1 (.inr hq1))
    have O2 := Lib.hid (show OwnI w2 m (m + 1) (.slice (some ⟨m, 0, none⟩) k k) x from ⟨own_block HO.out.1 (fun q hq => hk2.2 q (.inl (by have := HO.out.2.1 q hq; omega))), HO.out.2.1, HO.out.2.2.1, Nat.le_trans HO.out.2.2.2 hk2.1⟩)
    have A0 := Lib.hid b0
    have A1 := Lib.hid b1
    have J2 := Lib.hid hJ2
    have k0 := b0.c1.1
    clear hJ2 hk2 b0 b1 HB0 HB1 HO hR hy
    gi_wp2_with fail
    clear k0
    refine ⟨trivial, rfl, CallsIn.mono (callsIn_wide.2 (nextWay_c n k m x w2 O2.out HG.out hn4 hk)) ?_⟩
    rintro e w3 ⟨rfl, y, hO3, hy, ho3⟩
    have J3 := Lib.hid (HJ.out _ _ _ J2.out ho3)
    have B0 := Lib.hid (BoxV.out A0.out ho3 (.inl hq0m))
    have B1 := Lib.hid (BoxV.out A1.out ho3 (.inl hq1m))
    have O3 := Lib.hid hO3
    have HYE := Lib.hid hy
    clear J2 A0 A1 O2 hO3 hy ho3
    cases hnx : nxt n x with
    | none =>
      have HEND := Lib.hid (alw_end hn HX.out hnx)
      clear hnx
      simp only [Option.isSome_none]
      gi_wp2_with fail
      go_end0
      refine ⟨⟨_, rfl⟩, ?_⟩
      rw [← HEND.out]
      exact J3.out
    | some z =>
      obtain rfl : y = z := HYE.out z hnx
      have hlt9 := nxt_lt (n := n) (x := x) (fun d hd => by obtain ⟨j, hj, rfl⟩ := mem_nth hd; exact HG.out.1 j hj) hnx
      have hxn9 := alw_next hn HX.out hnx
      have hyg := alw_ok.1 (List.mem_of_getElem? hxn9)
      have hvl9 := vl_lt (n := n) (x := y) (fun d hd => by obtain ⟨j, hj, rfl⟩ := mem_nth hd; exact hyg.1 j hj)
      rw [hyg.2] at hvl9
      have HN9 := Lib.hid hxn9
      have HYG := Lib.hid hyg
      have HLT := Lib.hid hlt9
      have HVL := Lib.hid hvl9
      clear hnx hlt9 hxn9 hyg hvl9
      simp only [Option.isSome_some]
      gi_wp2_with fail
      go_roundw
      case rel => exact ⟨i + 1, y, HN9.out, J3.out, O3.out, B0.out, B1.out⟩
      case measure =>
        rw [vw_eq (OwnI.ints O3.out) HYG.out.2, HVW.out]
        have h8 := HLT.out
        have h7 := HVL.out
        omega
end Go.Proofs.Ytgiioponimiddaa
