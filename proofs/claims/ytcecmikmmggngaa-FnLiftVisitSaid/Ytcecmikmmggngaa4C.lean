/- The contracts of chapter 4's functions of spec: LiftGo, LiftVisit. -/
import Derived.Test.Ytcecmikmmggngaa4B
import Derived.Test.Ytcecmikmmggngaa4Q
namespace Go.Proofs.Ytcecmikmmggngaa
open Go.RowKit
set_option linter.unusedVariables false

set_option maxHeartbeats 4000000 in
theorem sLiftGo_c (b off cap : Nat) (xs : List Int) (a s g o t : Int) (w : World) (hc : Ints w b off xs) (hm : xs.length ≤ maxLen) :
    Calls Try.prog 21 #[.slice (some ⟨b, off, none⟩) xs.length cap, (Value.agg #[.int .i64 (a), .int .i64 (s), .int .i64 (g), .int .i64 (o)]), .int .i64 t] w (Mk w (.int .i64 (lgo xs a s g o t))) := by
  have Q : Hid (BoxV (w.alloc (.cells #[.int .i64 (a), .int .i64 (s), .int .i64 (g), .int .i64 (o)] 29)) w.heap.size (L4 a s g o)) := BoxV.new w _ 29 (by simp) rfl
  have I0 : Hid (Ints (w.alloc (.cells #[.int .i64 (a), .int .i64 (s), .int .i64 (g), .int .i64 (o)] 29)) b off xs) := hc.below ((Below.refl _ _).alloc (Nat.le_refl _) _)
  have T0 : Hid (Below w.heap.size w (w.alloc (.cells #[.int .i64 (a), .int .i64 (s), .int .i64 (g), .int .i64 (o)] 29))) := (Below.refl _ _).alloc (Nat.le_refl _) _
  have hm' := hm
  unfold maxLen at hm'
  clear hc
  cases hv : lvB xs a s g o
  · have e : Hid _ := lgo_bad (xs := xs) (a := a) (s := s) (g := g) (o := o) (t := t) (by rw [hv]; simp)
    go_enter Try.func21, Try.ntmps21
    go_wp2_with fail
    refine (sLiftValid_c b off cap xs a s g o _ I0.out hm).mono ?_
    rintro e' w1 ⟨rfl, hb⟩
    have T1 : Hid (Below w.heap.size w w1) := below_next T0.out hb
    clear hb
    go_wp2_with fail
    go_ret
    exact Mk.i e.out T1.out
  cases ht : tgB xs t
  · have e : Hid _ := lgo_bad (xs := xs) (a := a) (s := s) (g := g) (o := o) (t := t) (by rw [ht]; simp)
    have t1 : inB 0 t (xs.length - 1) = false := ht
    go_enter Try.func21, Try.ntmps21
    go_wp2_with fail
    refine (sLiftValid_c b off cap xs a s g o _ I0.out hm).mono ?_
    rintro e' w1 ⟨rfl, hb⟩
    have T1 : Hid (Below w.heap.size w w1) := below_next T0.out hb
    clear hb
    go_wp2_with fail
    refine (l1In_c _ _ _ _).mono ?_
    rintro e' w2 ⟨rfl, n, rfl⟩
    go_wp2_with fail
    go_ret
    exact Mk.i e.out (Below.dr T1.out n)
  have t1 : inB 0 t (xs.length - 1) = true := ht
  have V : Hid _ := lvB_iff.1 hv
  have VT1 := tgB_iff.1 ht
  obtain ⟨k, rfl⟩ := Int.eq_ofNat_of_zero_le VT1.1
  have hk : k < xs.length := by omega
  have HV : Hid _ := hv
  have e : Hid (lgo xs a s g o k = dtk g o + mtk a s (nth xs k)) := (by
    have h2 : mtk a s (nth xs k) = mt a s (nth xs k) := mtk_ok (mvB_t V.out.2.1) (hgt_in (t := (k : Int)) V.out.1 ht)
    rw [lgo_ok hv ht, dtk_ok (dvB_t V.out.2.2.1), h2]; rfl : lgo xs a s g o k = dtk g o + mtk a s (nth xs k))
  have b1 := dtk_bd (g := g) (h := o)
  obtain ⟨b1, b2⟩ := b1
  have b3 : 0 ≤ mtk a s (nth xs k) ∧ mtk a s (nth xs k) ≤ 1005 := by
    obtain ⟨N, hN, hN5, -⟩ := mt_ok (mvB_t V.out.2.1) (hgt_in (t := (k : Int)) V.out.1 ht)
    have hN' : mtk a s (nth xs k) = N := hN
    omega
  obtain ⟨b3, b4⟩ := b3
  have hkI : (k : Int) < (xs.length : Int) := by omega
  clear hv ht VT1
  go_enter Try.func21, Try.ntmps21
  go_wp2_with fail
  refine (sLiftValid_c b off cap xs a s g o _ I0.out hm).mono ?_
  rintro e' w1 ⟨rfl, hb⟩
  have B1 : Hid _ := BoxV.bel hb Q.out
  have I1 : Hid _ := Ints.bel hb I0.out
  have T1 : Hid (Below w.heap.size w w1) := below_next T0.out hb
  clear hb
  obtain ⟨⟨c0, c1, c2, c3⟩, f0, f1, f2, f3⟩ := BoxV.c4 B1.out
  have c5 : w1.cell? ⟨b, off + k, none⟩ = some (.int .i64 (nth xs k)) := I1.out k hk
  rw [HV.out]
  go_wp2_with fail
  refine (l1In_c _ _ _ _).mono ?_
  rintro e' w2 ⟨rfl, n, rfl⟩
  go_wp2_with fail
  go_region_with (first | (go_at_call 51; refine (sDoorTicks_c g o _).mono ?_; rintro e wx ⟨rfl, hb⟩; (first | (have BD : Hid (BoxV wx w.heap.size (L4 a s g o)) := BoxV.bel hb B1.out; have ID : Hid (Ints wx b off xs) := Ints.bel hb I1.out; have TD : Hid (Below w.heap.size w wx) := (by have HZ := T1.out; exact (by repeat (first | exact Below.refl _ _ | refine Below.al ?_ _ | refine Below.dr ?_ _ | refine Below.dw ?_ | refine Below.st ?_ (by first | exact Nat.le_refl _ | exact Nat.le_add_right _ _ | (simp; omega)) _ | (refine below_next ?_ (by assumption)))))) | (have BD : Hid (BoxV wx w.heap.size (L4 a s g o)) := BoxV.bel hb BM.out; have ID : Hid (Ints wx b off xs) := Ints.bel hb IM.out; have TD : Hid (Below w.heap.size w wx) := (by have HZ := TM.out; exact (by repeat (first | exact Below.refl _ _ | refine Below.al ?_ _ | refine Below.dr ?_ _ | refine Below.dw ?_ | refine Below.st ?_ (by first | exact Nat.le_refl _ | exact Nat.le_add_right _ _ | (simp; omega)) _ | (refine below_next ?_ (by assumption))))))); clear hb; clear c0 c1 c2 c3 f0 f1 f2 f3 c5; obtain ⟨⟨c0, c1, c2, c3⟩, f0, f1, f2, f3⟩ := BoxV.c4 BD.out; have c5 : wx.cell? ⟨b, off + k, none⟩ = some (.int .i64 (nth xs k)) := ID.out k hk) | (go_at_call 52; refine (sMotionTicks_c a s (nth xs k) _).mono ?_; rintro e wx ⟨rfl, hb⟩; (first | (have BM : Hid (BoxV wx w.heap.size (L4 a s g o)) := BoxV.bel hb B1.out; have IM : Hid (Ints wx b off xs) := Ints.bel hb I1.out; have TM : Hid (Below w.heap.size w wx) := (by have HZ := T1.out; exact (by repeat (first | exact Below.refl _ _ | refine Below.al ?_ _ | refine Below.dr ?_ _ | refine Below.dw ?_ | refine Below.st ?_ (by first | exact Nat.le_refl _ | exact Nat.le_add_right _ _ | (simp; omega)) _ | (refine below_next ?_ (by assumption)))))) | (have BM : Hid (BoxV wx w.heap.size (L4 a s g o)) := BoxV.bel hb BD.out; have IM : Hid (Ints wx b off xs) := Ints.bel hb ID.out; have TM : Hid (Below w.heap.size w wx) := (by have HZ := TD.out; exact (by repeat (first | exact Below.refl _ _ | refine Below.al ?_ _ | refine Below.dr ?_ _ | refine Below.dw ?_ | refine Below.st ?_ (by first | exact Nat.le_refl _ | exact Nat.le_add_right _ _ | (simp; omega)) _ | (refine below_next ?_ (by assumption))))))); clear hb; clear c0 c1 c2 c3 f0 f1 f2 f3 c5; obtain ⟨⟨c0, c1, c2, c3⟩, f0, f1, f2, f3⟩ := BoxV.c4 BM.out; have c5 : wx.cell? ⟨b, off + k, none⟩ = some (.int .i64 (nth xs k)) := IM.out k hk))
  all_goals
    go_wp2_with fail
    go_ret
    exact Mk.i (by rw [e.out]; first | done | (rw [IntKind.wrap_i64]; omega)) (by first | (have HZ := TD.out; have HZ2 := TM.out; first | assumption | exact (by repeat (first | exact Below.refl _ _ | refine Below.al ?_ _ | refine Below.dr ?_ _ | refine Below.dw ?_ | refine Below.st ?_ (by first | exact Nat.le_refl _ | exact Nat.le_add_right _ _ | (simp; omega)) _ | (refine below_next ?_ (by assumption))))))
set_option maxHeartbeats 4000000 in
theorem sLiftVisit_c (b off cap : Nat) (xs : List Int) (a s g o t : Int) (w : World) (hc : Ints w b off xs) (hm : xs.length ≤ maxLen) :
    Calls Try.prog 24 #[.slice (some ⟨b, off, none⟩) xs.length cap, (Value.agg #[.int .i64 (a), .int .i64 (s), .int .i64 (g), .int .i64 (o)]), .int .i64 t] w (Mk w (.int .i64 (lvis xs a s g o t))) := by
  have Q : Hid (BoxV (w.alloc (.cells #[.int .i64 (a), .int .i64 (s), .int .i64 (g), .int .i64 (o)] 29)) w.heap.size (L4 a s g o)) := BoxV.new w _ 29 (by simp) rfl
  have I0 : Hid (Ints (w.alloc (.cells #[.int .i64 (a), .int .i64 (s), .int .i64 (g), .int .i64 (o)] 29)) b off xs) := hc.below ((Below.refl _ _).alloc (Nat.le_refl _) _)
  have T0 : Hid (Below w.heap.size w (w.alloc (.cells #[.int .i64 (a), .int .i64 (s), .int .i64 (g), .int .i64 (o)] 29))) := (Below.refl _ _).alloc (Nat.le_refl _) _
  have hm' := hm
  unfold maxLen at hm'
  have hlt := fun (k : Nat) (hk : k < xs.length) => Nat.ne_of_lt (Ints.lt hc hk)
  have HLT : Hid _ := hlt
  clear hc hlt
  by_cases hv : lvB xs a s g o = true ∧ tgB xs t = true
  case neg =>
    have e : Hid _ := lvis_bad hv
    have e2 := lgo_bad hv
    have K := sLiftGo_c b off cap xs a s g o t _ I0.out hm
    rw [e2] at K
    have HK : Hid _ := K
    clear hv e2 K
    go_enter Try.func24, Try.ntmps24
    go_wp2_with fail
    refine Calls.mono HK.out ?_
    rintro e' w1 ⟨rfl, hb⟩
    have T1 : Hid (Below w.heap.size w w1) := below_next T0.out hb
    clear hb
    go_wp2_with fail
    go_ret
    exact Mk.i e.out T1.out
  obtain ⟨hv, ht⟩ := hv
  have e : Hid _ := lvis_ok hv ht
  have V : Hid _ := lvB_iff.1 hv
  have HT : Hid _ := ht
  obtain ⟨N0, hN0, -⟩ := lgo_end V.out ht
  have K := sLiftGo_c b off cap xs a s g o t _ I0.out hm
  rw [hN0] at K
  have HK : Hid _ := K
  have VT1 := tgB_iff.1 ht
  obtain ⟨k, rfl⟩ := Int.eq_ofNat_of_zero_le VT1.1
  have hk : k < xs.length := by omega
  have hkI : (k : Int) < (xs.length : Int) := by omega
  have MB : Hid _ := mu_bd V.out HT.out
  have hbw : b ≠ w.heap.size := HLT.out k hk
  clear hv ht hN0 K VT1
  have hn0 : ¬ (N0 : Int) < 0 := by omega
  go_enter Try.func24, Try.ntmps24
  go_wp2_with fail
  refine Calls.mono HK.out ?_
  rintro e' w1 ⟨rfl, hb⟩
  have B1 : Hid _ := BoxV.bel hb Q.out
  have I1 : Hid _ := Ints.bel hb I0.out
  have T1 : Hid (Below w.heap.size w w1) := below_next T0.out hb
  clear hb Q HK
  go_wp2_with fail
  go_loopw [7] (fun vk wr => ∃ (j : Nat) (x y z u : Int), vk = .int .i64 j ∧ lit xs k j (a, s, g, o) = (x, y, z, u) ∧ LV xs x y z u ∧ j + mu xs k (x, y, z, u) ≤ 1017 ∧ BoxV wr w.heap.size (L4 x y z u) ∧ Ints wr b off xs ∧ Below w.heap.size w wr ∧ ∀ i, i < j → ¬ Open xs k (lit xs k i (a, s, g, o))) (fun vk _ => (1018 - intOf vk).toNat)
  case atStart => exact ⟨0, a, s, g, o, rfl, rfl, V.out, by have := MB.out; omega, B1.out, I1.out, T1.out, by omega⟩
  case round =>
    clear B1 I1 T1
    obtain ⟨j, x, y, z, u, rfl, q1, q2, q3, q4, q5, q6, q7⟩ := hrel
    have Q1 : Hid _ := q1
    have Q2 : Hid _ := q2
    have Q3 : Hid _ := q3
    have Q4 : Hid _ := q4
    have Q5 : Hid _ := q5
    have Q6 : Hid _ := q6
    have Q7 : Hid _ := q7
    have hj : j ≤ 1017 := by omega
    clear q1 q2 q3 q4 q5 q6 q7
    obtain ⟨⟨c0, c1, c2, c3⟩, f0, f1, f2, f3⟩ := BoxV.c4 Q4.out
    have c5 : wr.cell? ⟨b, off + k, none⟩ = some (.int .i64 (nth xs k)) := Q5.out k hk
    by_cases h1 : x = nth xs k
    case neg =>
      have t1 : (x != nth xs k) = true := by simp [h1]
      have t2 : (x == nth xs k) = false := by simp [h1]
      have NH : Hid (¬ Here xs k (x, y, z, u)) := (fun h => h1 h.1 : ¬ Here xs k (x, y, z, u))
      clear h1
      have hh : hereB xs k (x, y, z, u) = false := hereB_f NH.out
      have NO : Hid (¬ Open xs k (x, y, z, u)) := (fun h => NH.out h.1 : ¬ Open xs k (x, y, z, u))
      obtain ⟨x2, y2, z2, u2, e2, v2⟩ := ls_valid (u := hereB xs k (x, y, z, u)) (v := false) Q2.out HT.out
      have MS := mu_step Q2.out HT.out NO.out
      rw [e2] at MS
      have LS := lit_step Q1.out
      rw [e2] at LS
      have e3 := e2
      rw [hh] at e3
      have K : ∀ w, Ints w b off xs → Calls Try.prog 18 #[.slice (some ⟨b, off, none⟩) xs.length cap, (Value.agg #[.int .i64 (x), .int .i64 (y), .int .i64 (z), .int .i64 (u)]), .int .i64 k, .bool false, .bool false] w (Mk w (Value.agg #[.int .i64 (x2), .int .i64 (y2), .int .i64 (z2), .int .i64 (u2)])) := fun w hI => by
        have := sLiftStep_c b off cap xs x y z u k false false w hI hm
        rw [lst_ok (lvB_t Q2.out) HT.out, e3] at this; exact this
      have HK : Hid _ := K
      have HMS : Hid _ := MS
      have HLS : Hid _ := LS
      have HV2 : Hid _ := v2
      clear K MS LS e2 e3 v2 hh
      go_wp2_with fail
      go_quiet (fail)
      go_wp2_with fail
      go_quiet (fail)
      go_wp2_with fail
      refine (HK.out _ (Ints.drewN Q5.out _)).mono ?_
      rintro e' w3 ⟨rfl, hb⟩
      have R4 : Hid (BoxV w3 w.heap.size (L4 x y z u)) := BoxV.bel hb Q4.out
      have R5 : Hid (Ints w3 b off xs) := Ints.bel hb Q5.out
      have R6 : Hid (Below w.heap.size w w3) := (by have HZ := Q6.out; exact (by repeat (first | exact Below.refl _ _ | refine Below.al ?_ _ | refine Below.dr ?_ _ | refine Below.dw ?_ | refine Below.st ?_ (by first | exact Nat.le_refl _ | exact Nat.le_add_right _ _ | (simp; omega)) _ | (refine below_next ?_ (by assumption)))))
      clear hb c0 c1 c2 c3 f0 f1 f2 f3 c5
      obtain ⟨⟨c0, c1, c2, c3⟩, f0, f1, f2, f3⟩ := BoxV.c4 R4.out
      go_wp2_with fail
      go_roundw
      case rel => exact ⟨j + 1, x2, y2, z2, u2, by go_num, HLS.out, HV2.out, by have := HMS.out; have := Q3.out; omega, BoxV.all4 _ _ _ _ R4.out, Ints.far (Ints.far (Ints.far (Ints.far R5.out hbw) hbw) hbw) hbw, by have HZ := R6.out; exact (by repeat (first | exact Below.refl _ _ | refine Below.al ?_ _ | refine Below.dr ?_ _ | refine Below.dw ?_ | refine Below.st ?_ (by first | exact Nat.le_refl _ | exact Nat.le_add_right _ _ | (simp; omega)) _ | (refine below_next ?_ (by assumption)))), fun i hi => by
        by_cases c : i = j
        · subst c; rw [Q1.out]; exact NO.out
        · exact Q7.out i (by omega)⟩
      case measure => simp [intOf]; omega
    have t1 : (x != nth xs k) = false := by simp [h1]
    have t2 : (x == nth xs k) = true := by simp [h1]
    by_cases h2 : y = 0
    case neg =>
      have t3 : (y != 0) = true := by simp [h2]
      have t4 : (y == 0) = false := by simp [h2]
      have NH : Hid (¬ Here xs k (x, y, z, u)) := (fun h => h2 h.2 : ¬ Here xs k (x, y, z, u))
      clear h1 h2
      have hh : hereB xs k (x, y, z, u) = false := hereB_f NH.out
      have NO : Hid (¬ Open xs k (x, y, z, u)) := (fun h => NH.out h.1 : ¬ Open xs k (x, y, z, u))
      obtain ⟨x2, y2, z2, u2, e2, v2⟩ := ls_valid (u := hereB xs k (x, y, z, u)) (v := false) Q2.out HT.out
      have MS := mu_step Q2.out HT.out NO.out
      rw [e2] at MS
      have LS := lit_step Q1.out
      rw [e2] at LS
      have e3 := e2
      rw [hh] at e3
      have K : ∀ w, Ints w b off xs → Calls Try.prog 18 #[.slice (some ⟨b, off, none⟩) xs.length cap, (Value.agg #[.int .i64 (x), .int .i64 (y), .int .i64 (z), .int .i64 (u)]), .int .i64 k, .bool false, .bool false] w (Mk w (Value.agg #[.int .i64 (x2), .int .i64 (y2), .int .i64 (z2), .int .i64 (u2)])) := fun w hI => by
        have := sLiftStep_c b off cap xs x y z u k false false w hI hm
        rw [lst_ok (lvB_t Q2.out) HT.out, e3] at this; exact this
      have HK : Hid _ := K
      have HMS : Hid _ := MS
      have HLS : Hid _ := LS
      have HV2 : Hid _ := v2
      clear K MS LS e2 e3 v2 hh
      go_wp2_with fail
      go_quiet (fail)
      go_wp2_with fail
      go_quiet (fail)
      go_wp2_with fail
      refine (HK.out _ (Ints.drewN Q5.out _)).mono ?_
      rintro e' w3 ⟨rfl, hb⟩
      have R4 : Hid (BoxV w3 w.heap.size (L4 x y z u)) := BoxV.bel hb Q4.out
      have R5 : Hid (Ints w3 b off xs) := Ints.bel hb Q5.out
      have R6 : Hid (Below w.heap.size w w3) := (by have HZ := Q6.out; exact (by repeat (first | exact Below.refl _ _ | refine Below.al ?_ _ | refine Below.dr ?_ _ | refine Below.dw ?_ | refine Below.st ?_ (by first | exact Nat.le_refl _ | exact Nat.le_add_right _ _ | (simp; omega)) _ | (refine below_next ?_ (by assumption)))))
      clear hb c0 c1 c2 c3 f0 f1 f2 f3 c5
      obtain ⟨⟨c0, c1, c2, c3⟩, f0, f1, f2, f3⟩ := BoxV.c4 R4.out
      go_wp2_with fail
      go_roundw
      case rel => exact ⟨j + 1, x2, y2, z2, u2, by go_num, HLS.out, HV2.out, by have := HMS.out; have := Q3.out; omega, BoxV.all4 _ _ _ _ R4.out, Ints.far (Ints.far (Ints.far (Ints.far R5.out hbw) hbw) hbw) hbw, by have HZ := R6.out; exact (by repeat (first | exact Below.refl _ _ | refine Below.al ?_ _ | refine Below.dr ?_ _ | refine Below.dw ?_ | refine Below.st ?_ (by first | exact Nat.le_refl _ | exact Nat.le_add_right _ _ | (simp; omega)) _ | (refine below_next ?_ (by assumption)))), fun i hi => by
        by_cases c : i = j
        · subst c; rw [Q1.out]; exact NO.out
        · exact Q7.out i (by omega)⟩
      case measure => simp [intOf]; omega
    have t3 : (y != 0) = false := by simp [h2]
    have t4 : (y == 0) = true := by simp [h2]
    have NH : Hid (Here xs k (x, y, z, u)) := (⟨h1, h2⟩ : Here xs k (x, y, z, u))
    clear h1 h2
    by_cases h3 : z < 4
    case pos =>
      have t5 : decide (z < 4) = true := decide_eq_true h3
      have hh : hereB xs k (x, y, z, u) = true := hereB_t NH.out
      have NO : Hid (¬ Open xs k (x, y, z, u)) := (fun h => by have : 4 ≤ z := h.2; omega : ¬ Open xs k (x, y, z, u))
      obtain ⟨x2, y2, z2, u2, e2, v2⟩ := ls_valid (u := hereB xs k (x, y, z, u)) (v := false) Q2.out HT.out
      have MS := mu_step Q2.out HT.out NO.out
      rw [e2] at MS
      have LS := lit_step Q1.out
      rw [e2] at LS
      have e3 := e2
      rw [hh] at e3
      have K : ∀ w, Ints w b off xs → Calls Try.prog 18 #[.slice (some ⟨b, off, none⟩) xs.length cap, (Value.agg #[.int .i64 (x), .int .i64 (y), .int .i64 (z), .int .i64 (u)]), .int .i64 k, .bool true, .bool false] w (Mk w (Value.agg #[.int .i64 (x2), .int .i64 (y2), .int .i64 (z2), .int .i64 (u2)])) := fun w hI => by
        have := sLiftStep_c b off cap xs x y z u k true false w hI hm
        rw [lst_ok (lvB_t Q2.out) HT.out, e3] at this; exact this
      have HK : Hid _ := K
      have HMS : Hid _ := MS
      have HLS : Hid _ := LS
      have HV2 : Hid _ := v2
      clear K MS LS e2 e3 v2 hh
      go_wp2_with fail
      go_quiet (fail)
      go_wp2_with fail
      go_quiet (fail)
      go_wp2_with fail
      refine (HK.out _ (Ints.drewN Q5.out _)).mono ?_
      rintro e' w3 ⟨rfl, hb⟩
      have R4 : Hid (BoxV w3 w.heap.size (L4 x y z u)) := BoxV.bel hb Q4.out
      have R5 : Hid (Ints w3 b off xs) := Ints.bel hb Q5.out
      have R6 : Hid (Below w.heap.size w w3) := (by have HZ := Q6.out; exact (by repeat (first | exact Below.refl _ _ | refine Below.al ?_ _ | refine Below.dr ?_ _ | refine Below.dw ?_ | refine Below.st ?_ (by first | exact Nat.le_refl _ | exact Nat.le_add_right _ _ | (simp; omega)) _ | (refine below_next ?_ (by assumption)))))
      clear hb c0 c1 c2 c3 f0 f1 f2 f3 c5
      obtain ⟨⟨c0, c1, c2, c3⟩, f0, f1, f2, f3⟩ := BoxV.c4 R4.out
      go_wp2_with fail
      go_roundw
      case rel => exact ⟨j + 1, x2, y2, z2, u2, by go_num, HLS.out, HV2.out, by have := HMS.out; have := Q3.out; omega, BoxV.all4 _ _ _ _ R4.out, Ints.far (Ints.far (Ints.far (Ints.far R5.out hbw) hbw) hbw) hbw, by have HZ := R6.out; exact (by repeat (first | exact Below.refl _ _ | refine Below.al ?_ _ | refine Below.dr ?_ _ | refine Below.dw ?_ | refine Below.st ?_ (by first | exact Nat.le_refl _ | exact Nat.le_add_right _ _ | (simp; omega)) _ | (refine below_next ?_ (by assumption)))), fun i hi => by
        by_cases c : i = j
        · subst c; rw [Q1.out]; exact NO.out
        · exact Q7.out i (by omega)⟩
      case measure => simp [intOf]; omega
    have t5 : decide (z < 4) = false := decide_eq_false h3
    go_wp2_with fail
    go_quiet (fail)
    go_wp2_with fail
    go_ret
    exact Mk.i (by rw [e.out]; exact vt_eq ⟨j, rfl, by rw [Q1.out]; exact ⟨NH.out, by show 4 ≤ z; omega⟩, Q7.out⟩) (by have HZ := Q6.out; exact (by repeat (first | exact Below.refl _ _ | refine Below.al ?_ _ | refine Below.dr ?_ _ | refine Below.dw ?_ | refine Below.st ?_ (by first | exact Nat.le_refl _ | exact Nat.le_add_right _ _ | (simp; omega)) _ | (refine below_next ?_ (by assumption)))))
end Go.Proofs.Ytcecmikmmggngaa
