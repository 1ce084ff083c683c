/- The laws of chapter 4: the walk of LiftVisit. -/
import Derived.Test.Ytcecmikmmggngaa4I
import Derived.Test.Ytcecmikmmggngaa4U
import Derived.Test.YtcecmikmmggngaaL
import Derived.Deep.RegionHeld3
import Derived.Deep.CutRange
namespace Go.Proofs.Ytcecmikmmggngaa
open Go.RowKit
set_option linter.unusedVariables false

set_option maxHeartbeats 8000000 in
theorem LiftVisit_w (a : Option Addr) (n cap : Nat) (w : World) (hb : Byt w a n) (hn : n ≤ cap) (hcap : cap ≤ maxLen) :
    Calls Try.prog 6 #[.slice a n cap] w (LawOk w) := by
  have hcap' := hcap
  unfold maxLen at hcap'
  by_cases hbig : 1048576 < n
  · go_enter Try.func6, Try.ntmps6
    go_wp2
    go_ret
    exact LawOk.mk (Below.refl _ _)
  go_enter Try.func6, Try.ntmps6
  go_wp2_with fail
  refine (DrawLiftVisit_c a n cap _ hb hn hcap).mono ?_
  rintro e w1 ⟨b, off, cp, xs, x, s, g, o, t, rfl, hL, t0, t1, hcl, ⟨hcm, hbge⟩, hI, hB⟩
  have hm : xs.length ≤ maxLen := by have := hL.1; unfold maxLen; omega
  have hlen : xs.length ≤ 9 := hL.1
  have HL : Hid _ := hL
  have I1 : Hid (Ints (w1.alloc (.cells #[.int .i64 (x), .int .i64 (s), .int .i64 (g), .int .i64 (o)] 29)) b off xs) := Ints.below hI ((Below.refl _ _).alloc (Nat.le_refl _) _)
  obtain ⟨A, hA⟩ : ∃ A, w1.heap.size = A := ⟨_, rfl⟩
  have HA : Hid _ := hA
  have hbA : Hid (0 < xs.length → b < A) := (fun h => by have := Ints.lt hI h; omega : 0 < xs.length → b < A)
  have M1 : Hid (BoxV (w1.alloc (.cells #[.int .i64 (x), .int .i64 (s), .int .i64 (g), .int .i64 (o)] 29)) A (L4 x s g o)) := BoxV.new w1 _ 29 (by simp) hA
  have T1 : Hid (Below w.heap.size w (w1.alloc (.cells #[.int .i64 (x), .int .i64 (s), .int .i64 (g), .int .i64 (o)] 29))) := Below.al hB _
  have hwA : Hid (w.heap.size ≤ A) := (by rw [← hA]; exact hB.size : w.heap.size ≤ A)
  clear hB hI hA hL
  go_wp2_with fail
  rw [HA.out]
  refine (iLiftVisit_c b off cp xs x s g o t _ I1.out hm (by omega)).mono ?_
  rintro e w2 ⟨rfl, hb2⟩
  have M2 : Hid _ := BoxV.below M1.out hb2
  have I2 : Hid _ := Ints.below I1.out hb2
  have T2 : Hid (Below w.heap.size w w2) := below_next T1.out hb2
  clear hb2
  obtain ⟨⟨c0, c1, c2, c3⟩, f0, f1, f2, f3⟩ := BoxV.c4 M2.out
  go_wp2_with fail
  refine (sLiftVisit_c b off cp xs x s g o t _ I2.out hm).mono ?_
  rintro e w3 ⟨rfl, hb2⟩
  have M3 : Hid _ := BoxV.below M2.out hb2
  have I3 : Hid _ := Ints.below I2.out hb2
  have T3 : Hid (Below w.heap.size w w3) := below_next T2.out hb2
  clear hb2
  clear c0 c1 c2 c3 f0 f1 f2 f3
  by_cases hv : lvB xs x s g o = true ∧ tgB xs t = true
  case neg =>
    have e2 := lvis_bad hv
    clear hv
    rw [e2]
    clear e2
    go_wp2_with fail
    refine (alive_c _).mono ?_
    rintro e' w9 ⟨rfl, hB9⟩
    have T9 : Hid (Below w.heap.size w w9) := below_next T3.out hB9
    clear hB9
    go_wp2_with fail
    go_ret
    exact LawOk.mk T9.out
  obtain ⟨hv, ht⟩ := hv
  have V : Hid _ := lvB_iff.1 hv
  have HT : Hid _ := ht
  have VT1 := tgB_iff.1 ht
  obtain ⟨k, rfl⟩ := Int.eq_ofNat_of_zero_le VT1.1
  have hk : k < xs.length := by omega
  have hkI : (k : Int) < (xs.length : Int) := by omega
  obtain ⟨N, hN, hN5, hE, -⟩ := lvis_end V.out ht
  have HE : Hid _ := hE
  rw [hN]
  clear hv ht VT1 hN hE t0 t1
  have nn : ¬ (N : Int) < 0 := by omega
  obtain ⟨⟨c0, c1, c2, c3⟩, f0, f1, f2, f3⟩ := BoxV.c4 M3.out
  go_wp2_with fail
  clear c0 c1 c2 c3 f0 f1 f2 f3
  go_loopw [8] (fun vk wr => ∃ (j : Nat) (x' s' g' o' : Int), j ≤ N ∧ vk = .int .i64 j ∧ lit xs k j (x, s, g, o) = (x', s', g', o') ∧ LV xs x' s' g' o' ∧ BoxV wr A (L4 x' s' g' o') ∧ Ints wr b off xs ∧ Below w.heap.size w wr) (fun vk _ => (N - intOf vk).toNat)
  case atStart => exact ⟨0, x, s, g, o, by omega, rfl, rfl, V.out, M3.out, I3.out, T3.out⟩
  case round =>
    clear M1 M2 M3 I1 I2 I3 T1 T2 T3
    obtain ⟨j, x', s', g', o', hj, rfl, q1, q2, q3, q4, q5⟩ := hrel
    have Q1 : Hid _ := q1
    have Q2 : Hid _ := q2
    have Q3 : Hid _ := q3
    have Q4 : Hid _ := q4
    have Q5 : Hid _ := q5
    clear q1 q2 q3 q4 q5
    obtain ⟨⟨c0, c1, c2, c3⟩, f0, f1, f2, f3⟩ := BoxV.c4 Q3.out
    have c5 : wr.cell? ⟨b, off + k, none⟩ = some (.int .i64 (nth xs k)) := Q4.out k hk
    have hbA' : b ≠ A := by have := hbA.out (by omega); omega
    by_cases hlt : j < N
    · obtain ⟨hh, t1, t2⟩ : ∃ hh, hereB xs k (x', s', g', o') = hh ∧ (((x' == nth xs k) = true ∧ (s' == 0) = hh) ∨ ((x' == nth xs k) = false ∧ hh = false)) := by
        by_cases h1 : x' = nth xs k
        · by_cases h2 : s' = 0
          · exact ⟨true, hereB_t ⟨h1, h2⟩, .inl ⟨by simp [h1], by simp [h2]⟩⟩
          · exact ⟨false, hereB_f (fun h => h2 h.2), .inl ⟨by simp [h1], by simp [h2]⟩⟩
        · exact ⟨false, hereB_f (fun h => h1 h.1), .inr ⟨by simp [h1], rfl⟩⟩
      obtain ⟨x2, s2, g2, o2, e2, v2⟩ := ls_valid (u := hereB xs k (x', s', g', o')) (v := false) Q2.out HT.out
      have GS := lit_step Q1.out
      rw [e2] at GS
      rw [t1] at e2
      have K : ∀ w, Ints w b off xs → Calls Try.prog 17 #[.slice (some ⟨b, off, none⟩) xs.length cp, (Value.agg #[.int .i64 (x'), .int .i64 (s'), .int .i64 (g'), .int .i64 (o')]), .int .i64 k, .bool hh, .bool false] w (Mk w (Value.agg #[.int .i64 (x2), .int .i64 (s2), .int .i64 (g2), .int .i64 (o2)])) := fun w hI => by
        have := iLiftStep_c b off cp xs x' s' g' o' k hh false w hI hm (by omega)
        rw [lst_ok (lvB_t Q2.out) HT.out, e2] at this; exact this
      have INV : 0 < g2 → x2 = x ∨ x2 = nth xs k := by
        obtain ⟨a1, a2, a3, a4, b1, b2, b3⟩ := lit_inv V.out HT.out (j + 1)
        rw [GS] at b1
        simp only [Prod.mk.injEq] at b1
        obtain ⟨z1, z2, z3, z4⟩ := b1
        subst z1 z2 z3 z4
        exact b3
      have W3 : decide (0 < g2) = false ∨ (decide (0 < g2) = true ∧ (x2 != x) = false) ∨ (decide (0 < g2) = true ∧ (x2 != x) = true ∧ (x2 != nth xs k) = false) := by
        by_cases p0 : 0 < g2
        · by_cases p1 : x2 = x
          · exact .inr (.inl ⟨decide_eq_true p0, by simp [p1]⟩)
          · refine .inr (.inr ⟨decide_eq_true p0, by simp [p1], ?_⟩)
            rcases INV p0 with e | e
            · exact absurd e p1
            · simp [e]
        · exact .inl (decide_eq_false p0)
      have HK : Hid _ := K
      have HGS : Hid _ := GS
      have HV2 : Hid _ := v2
      have HW3 : Hid _ := W3
      clear K GS e2 v2 t1 INV W3
      go_upto_region 13 with fail
      go_cut [9] from 44 to 57 (fun vv wx => vv = .bool hh ∧ ∃ m, wx = wr.drewN m)
      case first =>
        rcases t2 with ⟨t2, t3⟩ | ⟨t2, rfl⟩
        all_goals
          go_quiet (fail)
          go_wp2_with fail
          go_meet
          case rel => exact ⟨rfl, _, rfl⟩
      case rest =>
        obtain ⟨rfl, m, rfl⟩ := hcut
        clear t2
        go_wp2_with fail
        refine (HK.out _ (Ints.drewN Q4.out m)).mono ?_
        rintro e' w5 ⟨rfl, hb2⟩
        have R3 : Hid (BoxV w5 A (L4 x' s' g' o')) := BoxV.bel hb2 Q3.out
        have R4 : Hid (Ints w5 b off xs) := Ints.bel hb2 Q4.out
        have R5 : Hid (Below w.heap.size w w5) := (by have HZ := Q5.out; exact (by repeat (first | exact Below.refl _ _ | refine Below.al ?_ _ | refine Below.dr ?_ _ | refine Below.dw ?_ | refine Below.st ?_ (by first | exact Nat.le_refl _ | exact Nat.le_add_right _ _ | (simp; omega)) _ | (refine below_next ?_ (by assumption)))))
        clear hb2 c0 c1 c2 c3 f0 f1 f2 f3 c5
        obtain ⟨⟨c0, c1, c2, c3⟩, f0, f1, f2, f3⟩ := BoxV.c4 R3.out
        have S3 : Hid _ := BoxV.all4 x2 s2 g2 o2 R3.out
        have S4 : Hid _ := Ints.far (u := .int .i64 o2) (j := 3) (Ints.far (u := .int .i64 g2) (j := 2) (Ints.far (u := .int .i64 s2) (j := 1) (Ints.far (u := .int .i64 x2) (j := 0) R4.out hbA') hbA') hbA') hbA'
        have S5 : Hid _ := Below.st (Below.st (Below.st (Below.st R5.out (p := ⟨A, 0, none⟩) hwA.out (.int .i64 x2)) (p := ⟨A, 1, none⟩) hwA.out (.int .i64 s2)) (p := ⟨A, 2, none⟩) hwA.out (.int .i64 g2)) (p := ⟨A, 3, none⟩) hwA.out (.int .i64 o2)
        go_wp2_with fail
        obtain ⟨W6, hW6⟩ : ∃ W6, (((w5.setCell ⟨A, 0, none⟩ (.int .i64 x2)).setCell ⟨A, 1, none⟩ (.int .i64 s2)).setCell ⟨A, 2, none⟩ (.int .i64 g2)).setCell ⟨A, 3, none⟩ (.int .i64 o2) = W6 := ⟨_, rfl⟩
        have U3 : Hid _ := S3.out
        have U4 : Hid _ := S4.out
        have U5 : Hid _ := S5.out
        rw [hW6] at U3 U4 U5 ⊢
        clear S3 S4 S5 hW6 R3 R4 R5 c0 c1 c2 c3 f0 f1 f2 f3
        obtain ⟨⟨c0, c1, c2, c3⟩, f0, f1, f2, f3⟩ := BoxV.c4 U3.out
        have c5 : W6.cell? ⟨b, off + k, none⟩ = some (.int .i64 (nth xs k)) := U4.out k hk
        rcases HW3.out with p0 | ⟨p0, p1⟩ | ⟨p0, p1, p2⟩
        all_goals
          go_quiet (fail)
          go_wp2_with fail
          go_roundw
          case rel => exact ⟨j + 1, x2, s2, g2, o2, by omega, by go_num, HGS.out, HV2.out, U3.out, U4.out, by have HZ := U5.out; exact (by repeat (first | exact Below.refl _ _ | refine Below.al ?_ _ | refine Below.dr ?_ _ | refine Below.dw ?_ | refine Below.st ?_ (by first | exact Nat.le_refl _ | exact Nat.le_add_right _ _ | (simp; omega)) _ | (refine below_next ?_ (by assumption))))⟩
          case measure => simp [intOf]; omega
    · obtain rfl : j = N := by omega
      have EE := HE.out
      rw [Q1.out] at EE
      obtain ⟨⟨z1, z2⟩, z3⟩ := EE
      have dv := Q2.out.2.2.1.2.1
      have z1' : x' = nth xs k := z1
      have z2' : s' = 0 := z2
      have z3' : 4 ≤ g' := z3
      have z4' : g' = 4 := by omega
      clear z1 z2 z3 Q1 HE dv z3'
      clear Q2
      subst z1' z2' z4'
      go_wp2_with fail
      go_quiet (fail)
      go_wp2_with fail
      go_ret
      exact LawOk.mk (by have HZ := Q5.out; exact (by repeat (first | exact Below.refl _ _ | refine Below.al ?_ _ | refine Below.dr ?_ _ | refine Below.dw ?_ | refine Below.st ?_ (by first | exact Nat.le_refl _ | exact Nat.le_add_right _ _ | (simp; omega)) _ | (refine below_next ?_ (by assumption)))))
end Go.Proofs.Ytcecmikmmggngaa
