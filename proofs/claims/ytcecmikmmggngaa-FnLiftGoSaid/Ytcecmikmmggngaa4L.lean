/- The laws of chapter 4: the walks of LiftValid, LiftGo. -/
import Derived.Test.Ytcecmikmmggngaa4I
import Derived.Test.Ytcecmikmmggngaa4U
import Derived.Test.YtcecmikmmggngaaL
import Derived.Deep.RegionHeld3
import Derived.Deep.CutRange
namespace Go.Proofs.Ytcecmikmmggngaa
open Go.RowKit
set_option linter.unusedVariables false

set_option maxHeartbeats 2000000 in
theorem LiftValid_w (a : Option Addr) (n cap : Nat) (w : World) (hb : Byt w a n) (hn : n ≤ cap) (hcap : cap ≤ maxLen) :
    Calls Try.prog 3 #[.slice a n cap] w (LawOk w) := by
  have hcap' := hcap
  unfold maxLen at hcap'
  by_cases hbig : 1048576 < n
  · go_enter Try.func3, Try.ntmps3
    go_wp2
    go_ret
    exact LawOk.mk (Below.refl _ _)
  go_enter Try.func3, Try.ntmps3
  go_wp2_with fail
  refine (DrawLiftValid_c a n cap _ hb hn hcap).mono ?_
  rintro e w1 ⟨b, off, cp, xs, x, s, g, o, rfl, hL, hcl, ⟨hcm, hbge⟩, hI, hB⟩
  have hm : xs.length ≤ maxLen := by have := hL.1; unfold maxLen; omega
  have hlen : xs.length ≤ 9 := hL.1
  have HL : Hid _ := hL
  have I1 : Hid (Ints (w1.alloc (.cells #[.int .i64 (x), .int .i64 (s), .int .i64 (g), .int .i64 (o)] 29)) b off xs) := Ints.below hI ((Below.refl _ _).alloc (Nat.le_refl _) _)
  obtain ⟨A, hA⟩ : ∃ A, w1.heap.size = A := ⟨_, rfl⟩
  have HA : Hid _ := hA
  have hbA : Hid (0 < xs.length → b < A) := (fun h => by have := Ints.lt hI h; omega : 0 < xs.length → b < A)
  have M1 : Hid (BoxV (w1.alloc (.cells #[.int .i64 (x), .int .i64 (s), .int .i64 (g), .int .i64 (o)] 29)) A (L4 x s g o)) := BoxV.new w1 _ 29 (by simp) hA
  have T1 : Hid (Below w.heap.size w (w1.alloc (.cells #[.int .i64 (x), .int .i64 (s), .int .i64 (g), .int .i64 (o)] 29))) := Below.al hB _
  have hwA : Hid (w.heap.size ≤ A) := (by rw [← hA]; exact hB.size : w.heap.size ≤ A)
  clear hB hI hA hL
  go_wp2_with fail
  rw [HA.out]
  refine (iLiftValid_c b off cp xs x s g o _ I1.out hm).mono ?_
  rintro e w2 ⟨rfl, hb2⟩
  have M2 : Hid _ := BoxV.below M1.out hb2
  have I2 : Hid _ := Ints.below I1.out hb2
  have T2 : Hid (Below w.heap.size w w2) := below_next T1.out hb2
  clear hb2
  obtain ⟨⟨c0, c1, c2, c3⟩, f0, f1, f2, f3⟩ := BoxV.c4 M2.out
  go_wp2_with fail
  refine (sLiftValid_c b off cp xs x s g o _ I2.out hm).mono ?_
  rintro e w3 ⟨rfl, hb2⟩
  have M3 : Hid _ := BoxV.below M2.out hb2
  have I3 : Hid _ := Ints.below I2.out hb2
  have T3 : Hid (Below w.heap.size w w3) := below_next T2.out hb2
  clear hb2
  clear c0 c1 c2 c3 f0 f1 f2 f3
  cases hv : lvB xs x s g o
  · go_wp2_with fail
    refine (alive_c _).mono ?_
    rintro e' w9 ⟨rfl, hB9⟩
    have T9 : Hid (Below w.heap.size w w9) := below_next T3.out hB9
    clear hB9
    go_wp2_with fail
    go_ret
    exact LawOk.mk T9.out
  · have V : Hid _ := lvB_iff.1 hv
    have e2 : lvB xs x s 0 0 = true := lvB_t ⟨V.out.1, V.out.2.1, ⟨by omega, by omega, by omega, by omega, .inl rfl⟩, .inl rfl⟩
    clear hv
    obtain ⟨⟨c0, c1, c2, c3⟩, f0, f1, f2, f3⟩ := BoxV.c4 M3.out
    go_wp2_with fail
    refine (iLiftValid_c b off cp xs x s 0 0 _ I3.out hm).mono ?_
    rintro e w4 ⟨rfl, hb2⟩
    have M4 : Hid _ := BoxV.below M3.out hb2
    have I4 : Hid _ := Ints.below I3.out hb2
    have T4 : Hid (Below w.heap.size w w4) := below_next T3.out hb2
    clear hb2
    clear c0 c1 c2 c3 f0 f1 f2 f3
    obtain ⟨⟨c0, c1, c2, c3⟩, f0, f1, f2, f3⟩ := BoxV.c4 M4.out
    by_cases hg : g = 0
    · have tg : (g == 0) = true := by simp [hg]
      clear hg
      go_wp2_with fail
      go_ret
      exact LawOk.mk T4.out
    · have tg : (g == 0) = false := by simp [hg]
      have ST : StF xs x s := V.out.2.2.2.elim (fun e => absurd e hg) id
      obtain ⟨st1, st2⟩ := ST
      have ts : (s == 0) = true := by simp [st1]
      clear hg st1
      go_wp2_with fail
      refine (iFloorAt_c b off cp xs x _ I4.out hm).mono ?_
      rintro e w5 ⟨rfl, n5, rfl⟩
      go_wp2_with fail
      go_ret
      exact LawOk.mk (Below.dr T4.out n5)

set_option maxHeartbeats 4000000 in
theorem LiftGo_w (a : Option Addr) (n cap : Nat) (w : World) (hb : Byt w a n) (hn : n ≤ cap) (hcap : cap ≤ maxLen) :
    Calls Try.prog 5 #[.slice a n cap] w (LawOk w) := by
  have hcap' := hcap
  unfold maxLen at hcap'
  by_cases hbig : 1048576 < n
  · go_enter Try.func5, Try.ntmps5
    go_wp2
    go_ret
    exact LawOk.mk (Below.refl _ _)
  go_enter Try.func5, Try.ntmps5
  go_wp2_with fail
  refine (DrawLiftGo_c a n cap _ hb hn hcap).mono ?_
  rintro e w1 ⟨b, off, cp, xs, x, s, g, o, t, rfl, hL, t0, t1, hcl, ⟨hcm, hbge⟩, hI, hB⟩
  have hm : xs.length ≤ maxLen := by have := hL.1; unfold maxLen; omega
  have hlen : xs.length ≤ 9 := hL.1
  have HL : Hid _ := hL
  have I1 : Hid (Ints (w1.alloc (.cells #[.int .i64 (x), .int .i64 (s), .int .i64 (g), .int .i64 (o)] 29)) b off xs) := Ints.below hI ((Below.refl _ _).alloc (Nat.le_refl _) _)
  obtain ⟨A, hA⟩ : ∃ A, w1.heap.size = A := ⟨_, rfl⟩
  have HA : Hid _ := hA
  have hbA : Hid (0 < xs.length → b < A) := (fun h => by have := Ints.lt hI h; omega : 0 < xs.length → b < A)
  have M1 : Hid (BoxV (w1.alloc (.cells #[.int .i64 (x), .int .i64 (s), .int .i64 (g), .int .i64 (o)] 29)) A (L4 x s g o)) := BoxV.new w1 _ 29 (by simp) hA
  have T1 : Hid (Below w.heap.size w (w1.alloc (.cells #[.int .i64 (x), .int .i64 (s), .int .i64 (g), .int .i64 (o)] 29))) := Below.al hB _
  have hwA : Hid (w.heap.size ≤ A) := (by rw [← hA]; exact hB.size : w.heap.size ≤ A)
  clear hB hI hA hL
  go_wp2_with fail
  rw [HA.out]
  refine (iLiftGo_c b off cp xs x s g o t _ I1.out hm (by omega)).mono ?_
  rintro e w2 ⟨rfl, hb2⟩
  have M2 : Hid _ := BoxV.below M1.out hb2
  have I2 : Hid _ := Ints.below I1.out hb2
  have T2 : Hid (Below w.heap.size w w2) := below_next T1.out hb2
  clear hb2
  obtain ⟨⟨c0, c1, c2, c3⟩, f0, f1, f2, f3⟩ := BoxV.c4 M2.out
  go_wp2_with fail
  refine (sLiftGo_c b off cp xs x s g o t _ I2.out hm).mono ?_
  rintro e w3 ⟨rfl, hb2⟩
  have M3 : Hid _ := BoxV.below M2.out hb2
  have I3 : Hid _ := Ints.below I2.out hb2
  have T3 : Hid (Below w.heap.size w w3) := below_next T2.out hb2
  clear hb2
  clear c0 c1 c2 c3 f0 f1 f2 f3
  by_cases hv : lvB xs x s g o = true ∧ tgB xs t = true
  case neg =>
    have e2 := lgo_bad hv
    clear hv
    rw [e2]
    clear e2
    go_wp2_with fail
    refine (alive_c _).mono ?_
    rintro e' w9 ⟨rfl, hB9⟩
    have T9 : Hid (Below w.heap.size w w9) := below_next T3.out hB9
    clear hB9
    go_wp2_with fail
    go_ret
    exact LawOk.mk T9.out
  obtain ⟨hv, ht⟩ := hv
  have V : Hid _ := lvB_iff.1 hv
  have HT : Hid _ := ht
  have VT1 := tgB_iff.1 ht
  obtain ⟨k, rfl⟩ := Int.eq_ofNat_of_zero_le VT1.1
  have hk : k < xs.length := by omega
  have hkI : (k : Int) < (xs.length : Int) := by omega
  obtain ⟨N, hN, hN5, hE⟩ := lgo_end V.out ht
  have HE : Hid _ := hE
  rw [hN]
  clear hv ht VT1 hN hE t0 t1
  have nn : ¬ (N : Int) < 0 := by omega
  go_wp2_with fail
  go_loopw [7] (fun vk wr => ∃ (j : Nat) (x' s' g' o' : Int), j ≤ N ∧ vk = .int .i64 j ∧ git xs k j (x, s, g, o) = (x', s', g', o') ∧ LV xs x' s' g' o' ∧ BoxV wr A (L4 x' s' g' o') ∧ Ints wr b off xs ∧ Below w.heap.size w wr) (fun vk _ => (N - intOf vk).toNat)
  case atStart => exact ⟨0, x, s, g, o, by omega, rfl, rfl, V.out, M3.out, I3.out, T3.out⟩
  case round =>
    clear M1 M2 M3 I1 I2 I3 T1 T2 T3
    obtain ⟨j, x', s', g', o', hj, rfl, q1, q2, q3, q4, q5⟩ := hrel
    have Q1 : Hid _ := q1
    have Q2 : Hid _ := q2
    have Q3 : Hid _ := q3
    have Q4 : Hid _ := q4
    have Q5 : Hid _ := q5
    clear q1 q2 q3 q4 q5
    obtain ⟨⟨c0, c1, c2, c3⟩, f0, f1, f2, f3⟩ := BoxV.c4 Q3.out
    by_cases hlt : j < N
    · obtain ⟨x2, s2, g2, o2, e2, v2⟩ := ls_valid (u := false) (v := false) Q2.out HT.out
      have GS := git_step Q1.out
      rw [e2] at GS
      have K : ∀ w, Ints w b off xs → Calls Try.prog 17 #[.slice (some ⟨b, off, none⟩) xs.length cp, (Value.agg #[.int .i64 (x'), .int .i64 (s'), .int .i64 (g'), .int .i64 (o')]), .int .i64 k, .bool false, .bool false] w (Mk w (Value.agg #[.int .i64 (x2), .int .i64 (s2), .int .i64 (g2), .int .i64 (o2)])) := fun w hI => by
        have := iLiftStep_c b off cp xs x' s' g' o' k false false w hI hm (by omega)
        rw [lst_ok (lvB_t Q2.out) HT.out, e2] at this; exact this
      have HK : Hid _ := K
      have HGS : Hid _ := GS
      have HV2 : Hid _ := v2
      clear K GS e2 v2
      go_wp2_with fail
      refine (HK.out _ Q4.out).mono ?_
      rintro e' w5 ⟨rfl, hb2⟩
      have R3 : Hid _ := BoxV.below Q3.out hb2
      have R4 : Hid _ := Ints.below Q4.out hb2
      have R5 : Hid (Below w.heap.size w w5) := below_next Q5.out hb2
      clear hb2 c0 c1 c2 c3 f0 f1 f2 f3
      obtain ⟨⟨c0, c1, c2, c3⟩, f0, f1, f2, f3⟩ := BoxV.c4 R3.out
      have hbA' : b ≠ A := by have := hbA.out (by omega); omega
      go_wp2_with fail
      go_roundw
      case rel => exact ⟨j + 1, x2, s2, g2, o2, by omega, by go_num, HGS.out, HV2.out, BoxV.all4 _ _ _ _ R3.out, Ints.far (Ints.far (Ints.far (Ints.far R4.out hbA') hbA') hbA') hbA', Below.st (Below.st (Below.st (Below.st R5.out hwA.out _) hwA.out _) hwA.out _) hwA.out _⟩
      case measure => simp [intOf]; omega
    · obtain rfl : j = N := by omega
      have EE := HE.out
      rw [Q1.out] at EE
      simp only [Prod.mk.injEq] at EE
      obtain ⟨z1, z2, z3, z4⟩ := EE
      have zz : x' = nth xs k := z1
      clear z1
      have c5 : wr.cell? ⟨b, off + k, none⟩ = some (.int .i64 (nth xs k)) := Q4.out k hk
      have HQ1 : Hid _ := Q1.out
      clear Q1 HE
      subst zz z2 z3 z4
      clear HQ1
      go_wp2_with fail
      go_quiet (fail)
      go_wp2_with fail
      go_ret
      exact LawOk.mk (by have HZ := Q5.out; exact (by repeat (first | exact Below.refl _ _ | refine Below.al ?_ _ | refine Below.dr ?_ _ | refine Below.dw ?_ | refine Below.st ?_ (by first | exact Nat.le_refl _ | exact Nat.le_add_right _ _ | (simp; omega)) _ | (refine below_next ?_ (by assumption)))))
end Go.Proofs.Ytcecmikmmggngaa
