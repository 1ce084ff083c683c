/- The laws of chapter 4: the walk of LiftStep. -/
import Derived.Test.Ytcecmikmmggngaa4I
import Derived.Test.Ytcecmikmmggngaa4U
import Derived.Test.YtcecmikmmggngaaL
import Derived.Deep.RegionWith
import Derived.Deep.RegionHeld3
import Derived.Deep.CutRange
namespace Go.Proofs.Ytcecmikmmggngaa
open Go.RowKit
set_option linter.unusedVariables false

set_option maxHeartbeats 8000000 in
theorem LiftStep_w (a : Option Addr) (n cap : Nat) (w : World) (hb : Byt w a n) (hn : n ≤ cap) (hcap : cap ≤ maxLen) :
    Calls Try.prog 4 #[.slice a n cap] w (LawOk w) := by
  have hcap' := hcap
  unfold maxLen at hcap'
  by_cases hbig : 1048576 < n
  · go_enter Try.func4, Try.ntmps4
    go_wp2
    go_ret
    exact LawOk.mk (Below.refl _ _)
  go_enter Try.func4, Try.ntmps4
  go_wp2_with fail
  refine (DrawLiftStep_c a n cap _ hb hn hcap).mono ?_
  rintro e w1 ⟨b, off, cp, xs, x, s, g, o, t, u, v, rfl, hL, t0, t1, hcl, ⟨hcm, hbge⟩, hI, hB⟩
  have hm : xs.length ≤ maxLen := by have := hL.1; unfold maxLen; omega
  have hlen : xs.length ≤ 9 := hL.1
  have HL : Hid _ := hL
  have I1 : Hid (Ints (w1.alloc (.cells #[.int .i64 (x), .int .i64 (s), .int .i64 (g), .int .i64 (o)] 29)) b off xs) := Ints.below hI ((Below.refl _ _).alloc (Nat.le_refl _) _)
  obtain ⟨A, hA⟩ : ∃ A, w1.heap.size = A := ⟨_, rfl⟩
  have HA : Hid _ := hA
  have hbA : Hid (0 < xs.length → b < A) := (fun h => by have := Ints.lt hI h; omega : 0 < xs.length → b < A)
  have M1 : Hid (BoxV (w1.alloc (.cells #[.int .i64 (x), .int .i64 (s), .int .i64 (g), .int .i64 (o)] 29)) A (L4 x s g o)) := BoxV.new w1 _ 29 (by simp) hA
  have T1 : Hid (Below w.heap.size w (w1.alloc (.cells #[.int .i64 (x), .int .i64 (s), .int .i64 (g), .int .i64 (o)] 29))) := Below.al hB _
  have hwA : Hid (w.heap.size ≤ A) := (by rw [← hA]; exact hB.size : w.heap.size ≤ A)
  clear hB hI hA hL
  go_wp2_with fail
  rw [HA.out]
  obtain ⟨y1, y2, y3, y4, hy⟩ : ∃ y1 y2 y3 y4, lst xs x s g o t u v = (y1, y2, y3, y4) := ⟨_, _, _, _, rfl⟩
  have KS : Hid (∀ w, Ints w b off xs → Calls Try.prog 18 #[.slice (some ⟨b, off, none⟩) xs.length cp, (Value.agg #[.int .i64 (x), .int .i64 (s), .int .i64 (g), .int .i64 (o)]), .int .i64 t, .bool u, .bool v] w (Mk w (Value.agg #[.int .i64 (y1), .int .i64 (y2), .int .i64 (y3), .int .i64 (y4)]))) := fun w h => by
    have := sLiftStep_c b off cp xs x s g o t u v w h hm; rw [hy] at this; exact this
  have KI : Hid (∀ w, Ints w b off xs → Calls Try.prog 17 #[.slice (some ⟨b, off, none⟩) xs.length cp, (Value.agg #[.int .i64 (x), .int .i64 (s), .int .i64 (g), .int .i64 (o)]), .int .i64 t, .bool u, .bool v] w (Mk w (Value.agg #[.int .i64 (y1), .int .i64 (y2), .int .i64 (y3), .int .i64 (y4)]))) := fun w h => by
    have := iLiftStep_c b off cp xs x s g o t u v w h hm (by omega); rw [hy] at this; exact this
  have HY : Hid _ := hy
  clear hy
  refine (KI.out _ I1.out).mono ?_
  rintro e w2 ⟨rfl, hb2⟩
  obtain ⟨C, hC⟩ : ∃ C, w2.heap.size = C := ⟨_, rfl⟩
  have HC : Hid _ := hC
  have N3 : Hid (BoxV (World.drew (w2.alloc (.cells #[.int .i64 (y1), .int .i64 (y2), .int .i64 (y3), .int .i64 (y4)] 29))) C (L4 y1 y2 y3 y4)) := BoxV.dw (BoxV.new w2 _ 29 (by simp) hC)
  have M3 : Hid (BoxV (World.drew (w2.alloc (.cells #[.int .i64 (y1), .int .i64 (y2), .int .i64 (y3), .int .i64 (y4)] 29))) A (L4 x s g o)) := BoxV.dw (BoxV.al (BoxV.below M1.out hb2) _)
  have I3 : Hid (Ints (World.drew (w2.alloc (.cells #[.int .i64 (y1), .int .i64 (y2), .int .i64 (y3), .int .i64 (y4)] 29))) b off xs) := (Ints.below (Ints.below I1.out hb2) ((Below.refl _ _).alloc (Nat.le_refl _) _) : Ints (w2.alloc (.cells #[.int .i64 (y1), .int .i64 (y2), .int .i64 (y3), .int .i64 (y4)] 29)) b off xs)
  have T3 : Hid (Below w.heap.size w (World.drew (w2.alloc (.cells #[.int .i64 (y1), .int .i64 (y2), .int .i64 (y3), .int .i64 (y4)] 29)))) := Below.dw (Below.al (below_next T1.out hb2) _)
  clear hb2 hC
  go_upto_region 5 with fail
  rw [HC.out]
  obtain ⟨⟨c0, c1, c2, c3⟩, f0, f1, f2, f3⟩ := BoxV.c4 M3.out
  obtain ⟨⟨d0, d1, d2, d3⟩, e0, e1, e2, e3⟩ := BoxV.c4 N3.out
  go_cut [33] from 26 to 33 (fun vv wx => vv = .bool false ∧ BoxV wx A (L4 x s g o) ∧ BoxV wx C (L4 y1 y2 y3 y4) ∧ Ints wx b off xs ∧ Below w.heap.size w wx)
  case first =>
    go_region_with (go_at_call 18; refine (KS.out _ I3.out).mono ?_; rintro e w3 ⟨rfl, hb2⟩; have M4 : Hid _ := BoxV.below M3.out hb2; have N4 : Hid _ := BoxV.below N3.out hb2; have I4 : Hid _ := Ints.below I3.out hb2; have T4 : Hid (Below w.heap.size w w3) := below_next T3.out hb2; clear hb2; clear c0 c1 c2 c3 f0 f1 f2 f3 d0 d1 d2 d3 e0 e1 e2 e3; obtain ⟨⟨c0, c1, c2, c3⟩, f0, f1, f2, f3⟩ := BoxV.c4 M4.out; obtain ⟨⟨d0, d1, d2, d3⟩, e0, e1, e2, e3⟩ := BoxV.c4 N4.out)
    all_goals
      go_wp2_with fail
      go_meet
      case rel => exact ⟨rfl, M4.out, N4.out, I4.out, T4.out⟩
  case rest =>
    clear c0 c1 c2 c3 f0 f1 f2 f3 d0 d1 d2 d3 e0 e1 e2 e3 M1 M3 N3 I1 I3 T1 T3
    obtain ⟨rfl, q1, q2, q3, q4⟩ := hcut
    have M4 : Hid _ := q1
    have N4 : Hid _ := q2
    have I4 : Hid _ := q3
    have T4 : Hid _ := q4
    clear q1 q2 q3 q4
    obtain ⟨⟨c0, c1, c2, c3⟩, f0, f1, f2, f3⟩ := BoxV.c4 M4.out
    go_wp2_with fail
    refine (sLiftValid_c b off cp xs x s g o _ I4.out hm).mono ?_
    rintro e w4 ⟨rfl, hb2⟩
    have M5 : Hid _ := BoxV.below M4.out hb2
    have N5 : Hid _ := BoxV.below N4.out hb2
    have I5 : Hid _ := Ints.below I4.out hb2
    have T5 : Hid (Below w.heap.size w w4) := below_next T4.out hb2
    clear hb2 c0 c1 c2 c3 f0 f1 f2 f3
    obtain ⟨⟨d0, d1, d2, d3⟩, e0, e1, e2, e3⟩ := BoxV.c4 N5.out
    cases hv : lvB xs x s g o
    · have hbad := lst_bad (xs := xs) (a := x) (s := s) (g := g) (o := o) (t := t) (u := u) (v := v) (by rw [hv]; simp)
      rw [HY.out] at hbad
      simp only [Prod.mk.injEq] at hbad
      obtain ⟨z1, z2, z3, z4⟩ := hbad
      subst z1 z2 z3 z4
      go_wp2_with fail
      refine (alive_c _).mono ?_
      rintro e' w9 ⟨rfl, hB9⟩
      have T9 : Hid (Below w.heap.size w w9) := below_next T5.out hB9
      clear hB9
      go_wp2_with fail
      go_ret
      exact LawOk.mk T9.out
    by_cases ht : 0 ≤ t ∧ t < xs.length
    case neg =>
      have htb : ¬ tgB xs t = true := fun e => ht (tgB_iff.1 e)
      have hbad := lst_bad (xs := xs) (a := x) (s := s) (g := g) (o := o) (t := t) (u := u) (v := v) (fun e => htb e.2)
      rw [HY.out] at hbad
      simp only [Prod.mk.injEq] at hbad
      obtain ⟨z1, z2, z3, z4⟩ := hbad
      subst z1 z2 z3 z4
      clear htb
      rcases (by omega : t < 0 ∨ (¬ t < 0 ∧ (xs.length : Int) ≤ t)) with q | ⟨q, q2⟩
      all_goals
        go_wp2_with fail
        refine (alive_c _).mono ?_
        rintro e' w9 ⟨rfl, hB9⟩
        have T9 : Hid (Below w.heap.size w w9) := below_next T5.out hB9
        clear hB9
        go_wp2_with fail
        go_ret
        exact LawOk.mk T9.out
    have htb : tgB xs t = true := tgB_iff.2 ht
    have V : Hid _ := lvB_iff.1 hv
    have hy2 := lst_ok (u := u) (v := v) hv htb
    rw [HY.out] at hy2
    have LW := ls_law V.out hy2.symm
    obtain ⟨a', s', g', o', e', v'⟩ := ls_valid u v V.out htb
    rw [← hy2] at e'
    simp only [Prod.mk.injEq] at e'
    obtain ⟨z1, z2, z3, z4⟩ := e'
    subst z1 z2 z3 z4
    have L2 := lvB_t v'
    obtain ⟨ht0, ht1⟩ := ht
    have g1 : ¬ t < 0 := by omega
    have g2 : ¬ (xs.length : Int) ≤ t := by omega
    have P : (y1 = x ∧ y2 = s ∧ (v = true → g ≤ y3)) ∨ (g = 0 ∧ y3 = 0 ∧ y1 ≠ x) ∨ (g = 0 ∧ y3 = 0 ∧ y1 = x ∧ y2 ≠ s) := by
      rcases LW with h | ⟨h1, h2⟩
      · exact .inl h
      · by_cases p1 : y1 = x
        · by_cases p2 : y2 = s
          · exact .inl ⟨p1, p2, fun _ => by omega⟩
          · exact .inr (.inr ⟨h1, h2, p1, p2⟩)
        · exact .inr (.inl ⟨h1, h2, p1⟩)
    clear LW hy2 HY v' htb hv V KS KI ht0 ht1
    rcases P with ⟨p1, p2, p3⟩ | ⟨p1, p2, p3⟩ | ⟨p1, p2, p3, p4⟩
    · have P3 : Hid _ := p3
      subst p1 p2
      have tg : (g == 0) = true ∨ (g == 0) = false := by cases (g == 0) <;> simp
      have vc : v = false ∨ (v = true ∧ g ≤ y3) := by
        cases v
        · exact .inl rfl
        · exact .inr ⟨rfl, P3.out rfl⟩
      clear p3 P3
      rcases vc with rfl | ⟨rfl, vc⟩
      all_goals
        rcases tg with tg | tg
        all_goals
          go_wp2_with fail
          refine (iLiftValid_c b off cp xs _ _ _ _ _ I5.out hm).mono ?_
          rintro e w5 ⟨rfl, hb2⟩
          have M6 : Hid _ := BoxV.below M5.out hb2
          have N6 : Hid _ := BoxV.below N5.out hb2
          have T6 : Hid (Below w.heap.size w w5) := below_next T5.out hb2
          clear hb2 d0 d1 d2 d3 e0 e1 e2 e3
          obtain ⟨⟨c0, c1, c2, c3⟩, f0, f1, f2, f3⟩ := BoxV.c4 M6.out
          obtain ⟨⟨d0, d1, d2, d3⟩, e0, e1, e2, e3⟩ := BoxV.c4 N6.out
          go_wp2_with fail
          go_ret
          exact LawOk.mk T6.out
    · subst p1 p2
      have t1 : (y1 == x) = false := by simp [p3]
      clear p3
      have vc : v = false ∨ v = true := by cases v <;> simp
      rcases vc with rfl | rfl
      all_goals
        go_wp2_with fail
        refine (iLiftValid_c b off cp xs _ _ _ _ _ I5.out hm).mono ?_
        rintro e w5 ⟨rfl, hb2⟩
        have M6 : Hid _ := BoxV.below M5.out hb2
        have N6 : Hid _ := BoxV.below N5.out hb2
        have T6 : Hid (Below w.heap.size w w5) := below_next T5.out hb2
        clear hb2 d0 d1 d2 d3 e0 e1 e2 e3
        obtain ⟨⟨c0, c1, c2, c3⟩, f0, f1, f2, f3⟩ := BoxV.c4 M6.out
        obtain ⟨⟨d0, d1, d2, d3⟩, e0, e1, e2, e3⟩ := BoxV.c4 N6.out
        go_wp2_with fail
        go_ret
        exact LawOk.mk T6.out
    · subst p1 p2 p3
      have t1 : (y2 == s) = false := by simp [p4]
      clear p4
      have vc : v = false ∨ v = true := by cases v <;> simp
      rcases vc with rfl | rfl
      all_goals
        go_wp2_with fail
        refine (iLiftValid_c b off cp xs _ _ _ _ _ I5.out hm).mono ?_
        rintro e w5 ⟨rfl, hb2⟩
        have M6 : Hid _ := BoxV.below M5.out hb2
        have N6 : Hid _ := BoxV.below N5.out hb2
        have T6 : Hid (Below w.heap.size w w5) := below_next T5.out hb2
        clear hb2 d0 d1 d2 d3 e0 e1 e2 e3
        obtain ⟨⟨c0, c1, c2, c3⟩, f0, f1, f2, f3⟩ := BoxV.c4 M6.out
        obtain ⟨⟨d0, d1, d2, d3⟩, e0, e1, e2, e3⟩ := BoxV.c4 N6.out
        go_wp2_with fail
        go_ret
        exact LawOk.mk T6.out
end Go.Proofs.Ytcecmikmmggngaa
