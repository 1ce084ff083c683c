/- The law of TripStops: the walk. -/
import Derived.Test.Ytfhhgddajmihjaa11MC
import Derived.Test.Ytfhhgddajmihjaa11MB
import Derived.Test.Ytfhhgddajmihjaa11MA
import Derived.Test.Ytfhhgddajmihjaa8M
import Derived.Test.YtfhhgddajmihjaaQT
namespace Go.Proofs.Ytfhhgddajmihjaa
open Go.RowKit
set_option linter.unusedVariables false
set_option linter.unusedSimpArgs false
set_option maxRecDepth 100000


theorem phi_cns : ∀ l : List Ri, (∀ r, r ∈ l → 0 ≤ r.s ∧ r.s ≤ 2) → phi l = 2 * (cns 0 l : Int) + (cns 1 l : Int)
  | [], _ => rfl
  | r :: l, h => by
    have h1 := phi_cns l fun q hq => h q (by simp [hq])
    have h2 := h r (by simp)
    unfold phi cns
    rw [h1]
    rcases (by omega : r.s = 0 ∨ r.s = 1 ∨ r.s = 2) with e | e | e <;> rw [e] <;> simp <;> omega
theorem ts_step {t : Tp} (h : TOk t) : (stB t = true → 0 < tsn 16 t ∧ tsT (stT t) = (tsn 16 t : Int) - 1) ∧ (stB t = false → tsn 16 t = 0) := by
  cases e : tnx t with
  | none =>
    rw [(stT_n h e).2]
    exact ⟨fun h => (by cases h), fun _ => tsn_none _ e⟩
  | some r =>
    rw [(stT_t h e).1, (stT_t h e).2]
    obtain ⟨-, h2, h3⟩ := stp_ok' h e
    have h4 := phi_16 h
    have h5 : tsn 16 t = 1 + tsn 15 (stp t r) := tsn_some 15 e
    have h6 : tsn 16 (stp t r) = tsn 15 (stp t r) := tsn_more 15 (stp t r) h2 (by omega)
    refine ⟨fun _ => ⟨by omega, ?_⟩, fun h => (by cases h)⟩
    rw [tsT_t h2]
    omega

set_option maxRecDepth 100000 in
set_option maxHeartbeats 16000000 in
theorem TripStops_w (a : Option Addr) (n cap : Nat) (w : World) (hb : Byt w a n) (hn : n ≤ cap) (hcap : cap ≤ maxLen) :
    Calls Try.prog 6 #[.slice a n cap] w (LawOk w) := by
  have hcap' := hcap
  unfold maxLen at hcap'
  by_cases bign : 1048576 < n
  · go_enter Try.func6, Try.ntmps6
    go_wp2_with fail
    go_ret
    exact LawOk.mk (Below.refl _ _)
  go_enter Try.func6, Try.ntmps6
  go_wp2_with fail
  refine Calls.mono (DrawTripStops_c a n cap _ hb hn hcap) ?_
  rintro e wn ⟨N, m, f, d, av, k, cv, l, rfl, hX, hk, hB⟩
  have T := Lib.hid hB
  have X := Lib.hid hX
  have HL := Lib.hid hX.2
  clear hB hX hb
  obtain ⟨h, hg⟩ : ∃ g, Array.size (World.heap wn) = g := ⟨_, rfl⟩
  have HGh := Lib.hid hg
  have hTh : w.heap.size ≤ h := by rw [← hg]; exact T.out.size
  have Tn := Lib.hid (show Below w.heap.size w (wn.alloc (.cells #[.int .i64 N, .int .i64 m, .int .i64 f, .int .i64 d, .slice av k cv] 27)) from (Below.al T.out (.cells #[.int .i64 N, .int .i64 m, .int .i64 f, .int .i64 d, .slice av k cv] 27)))
  have Xn := Lib.hid (Rid.below X.out (show Below wn.heap.size wn (wn.alloc (.cells #[.int .i64 N, .int .i64 m, .int .i64 f, .int .i64 d, .slice av k cv] 27)) from (Below.al (Below.refl _ _) (.cells #[.int .i64 N, .int .i64 m, .int .i64 f, .int .i64 d, .slice av k cv] 27))))
  have TB := Lib.hid (show BoxV (wn.alloc (.cells #[.int .i64 N, .int .i64 m, .int .i64 f, .int .i64 d, .slice av k cv] 27)) h [.int .i64 N, .int .i64 m, .int .i64 f, .int .i64 d, .slice av k cv] from by have h9 := (BoxV.new wn [.int .i64 N, .int .i64 m, .int .i64 f, .int .i64 d, .slice av k cv] 27 (by simp) rfl); simp only [World.size_alloc, hg, Nat.add_assoc, Nat.reduceAdd] at h9; exact h9)
  have HZh := Lib.hid (show ((wn.alloc (.cells #[.int .i64 N, .int .i64 m, .int .i64 f, .int .i64 d, .slice av k cv] 27))).heap.size = h + 1 from by simp only [World.size_alloc, hg, Nat.add_assoc, Nat.reduceAdd])
  clear hg
  clear T X
  have T := Tn
  have X := Xn
  clear Tn Xn
  have KI := fun w' (h : Rid w' av k l) => iTripStops_c N m f d av k cv l w' h (by omega)
  have KS := fun w' (h : Rid w' av k l) => sTripStops_c N m f d av k cv l w' h (by omega)
  by_cases ht : TOk ⟨N, m, f, d, l⟩
  case neg =>
    rw [tsT_f ht] at KI KS
    have HKI := Lib.hid KI
    have HKS := Lib.hid KS
    clear KI KS ht
    have c0 := (TB.out.2 0 _ rfl).1
    have c1 := (TB.out.2 1 _ rfl).1
    have c2 := (TB.out.2 2 _ rfl).1
    have c3 := (TB.out.2 3 _ rfl).1
    have c4 := (TB.out.2 4 _ rfl).1
    go_wp2_with fail
    rw [HGh.out]
    refine Calls.mono (HKI.out _ X.out) ?_
    intro e wn hh
    obtain ⟨he, hb⟩ := (by first | exact hh | exact Ro.mk hh | exact St.mk hh | exact LawOk.mk' hh : Mk _ _ e wn)
    subst he
    have Tn : Hid (Below w.heap.size w wn) := below_next T.out hb
    have Xn : Hid _ := Rid.below X.out hb
    have TBn : Hid _ := BoxV.below TB.out hb
    clear hb hh c0 c1 c2 c3 c4
    clear T X TB
    have T := Tn
    have X := Xn
    have TB := TBn
    clear Tn Xn TBn
    have c0 := (TB.out.2 0 _ rfl).1
    have c1 := (TB.out.2 1 _ rfl).1
    have c2 := (TB.out.2 2 _ rfl).1
    have c3 := (TB.out.2 3 _ rfl).1
    have c4 := (TB.out.2 4 _ rfl).1
    go_wp2_with fail
    refine Calls.mono (HKS.out _ X.out) ?_
    intro e wn hh
    obtain ⟨he, hb⟩ := (by first | exact hh | exact Ro.mk hh | exact St.mk hh | exact LawOk.mk' hh : Mk _ _ e wn)
    subst he
    have Tn : Hid (Below w.heap.size w wn) := below_next T.out hb
    have Xn : Hid _ := Rid.below X.out hb
    have TBn : Hid _ := BoxV.below TB.out hb
    clear hb hh c0 c1 c2 c3 c4
    clear T X TB
    have T := Tn
    have X := Xn
    have TB := TBn
    clear Tn Xn TBn
    go_wp2_with fail
    refine Calls.mono (alive_c _) ?_
    intro e wn hh
    obtain ⟨he, hb⟩ := (by first | exact hh | exact Ro.mk hh | exact St.mk hh | exact LawOk.mk' hh : Mk _ _ e wn)
    subst he
    have Tn : Hid (Below w.heap.size w wn) := below_next T.out hb
    have Xn : Hid _ := Rid.below X.out hb
    have TBn : Hid _ := BoxV.below TB.out hb
    clear hb hh
    clear T X TB
    have T := Tn
    have X := Xn
    have TB := TBn
    clear Tn Xn TBn
    go_wp2_with fail
    go_ret
    first | exact LawOk.mk T.out | exact LawOk.mk (Below.dr T.out _)
  have hst := ts_step ht
  have hN2 : tsn 16 ⟨N, m, f, d, l⟩ ≤ 16 := by have := tsn_le 16 _ ht; have := phi_16 ht; omega
  have hph : (tsn 16 ⟨N, m, f, d, l⟩ : Int) ≤ 2 * (cns 0 l : Int) + (cns 1 l : Int) := by
    have h1 := tsn_le 16 _ ht
    rw [phi_cns l (fun r hr => (ht.2.2.2.2.2.1 r hr).2.2.2.1)] at h1
    exact h1
  rw [tsT_t ht] at KI KS
  have KT := fun w' (h : Rid w' av k l) => iTripStep_c N m f d av k cv l w' h (by omega)
  have K0 := fun w' (h : Rid w' av k l) => inState_c N m f d 0 av k cv l w' h (by omega)
  have K1 := fun w' (h : Rid w' av k l) => inState_c N m f d 1 av k cv l w' h (by omega)
  have hc0 := cns_le 0 l
  have hc1 := cns_le 1 l
  rw [HL.out] at hc0 hc1
  have hyl : (stT ⟨N, m, f, d, l⟩).rs.length ≤ 8 := (stT_ok ht).2.2.2.2.1
  obtain ⟨y, hy⟩ : ∃ y, stT ⟨N, m, f, d, l⟩ = y := ⟨_, rfl⟩
  obtain ⟨b, hb2⟩ : ∃ b, stB ⟨N, m, f, d, l⟩ = b := ⟨_, rfl⟩
  obtain ⟨z, hz⟩ : ∃ z, tsn 16 ⟨N, m, f, d, l⟩ = z := ⟨_, rfl⟩
  obtain ⟨q0, hq0⟩ : ∃ q0, cns 0 l = q0 := ⟨_, rfl⟩
  obtain ⟨q1, hq1⟩ : ∃ q1, cns 1 l = q1 := ⟨_, rfl⟩
  rw [hy, hb2] at KT
  rw [hy, hb2, hz] at hst
  rw [hz] at KI KS hN2 hph
  rw [hq0] at K0 hc0 hph
  rw [hq1] at K1 hc1 hph
  rw [hy] at hyl
  obtain ⟨k2, hk2⟩ : ∃ k2, y.rs.length = k2 := ⟨_, rfl⟩
  rw [hk2] at hyl
  have Hk2 := Lib.hid hk2
  have KU := fun (w' : World) (a' : Option Addr) (c' : Nat) (h : Rid w' a' k2 y.rs) => iTripStops_c y.n y.m y.f y.d a' k2 c' y.rs w' h (by omega)
  have hz0 : ¬ (z : Int) < 0 := by omega
  have v1 : decide ((z : Int) ≤ 2 * (q0 : Int) + (q1 : Int)) = true := decide_eq_true hph
  have HST := Lib.hid hst
  have HKI := Lib.hid KI
  have HKS := Lib.hid KS
  have HKT := Lib.hid KT
  have HK0 := Lib.hid K0
  have HK1 := Lib.hid K1
  have HKU := Lib.hid KU
  clear KI KS KT K0 K1 KU hst hph ht hy hb2 hz hq0 hq1 hk2
  have c0 := (TB.out.2 0 _ rfl).1
  have c1 := (TB.out.2 1 _ rfl).1
  have c2 := (TB.out.2 2 _ rfl).1
  have c3 := (TB.out.2 3 _ rfl).1
  have c4 := (TB.out.2 4 _ rfl).1
  go_wp2_with fail
  rw [HGh.out]
  refine Calls.mono (HKI.out _ X.out) ?_
  intro e wn hh
  obtain ⟨he, hb⟩ := (by first | exact hh | exact Ro.mk hh | exact St.mk hh | exact LawOk.mk' hh : Mk _ _ e wn)
  subst he
  have Tn : Hid (Below w.heap.size w wn) := below_next T.out hb
  have Xn : Hid _ := Rid.below X.out hb
  have TBn : Hid _ := BoxV.below TB.out hb
  clear hb hh c0 c1 c2 c3 c4
  clear T X TB
  have T := Tn
  have X := Xn
  have TB := TBn
  clear Tn Xn TBn
  have c0 := (TB.out.2 0 _ rfl).1
  have c1 := (TB.out.2 1 _ rfl).1
  have c2 := (TB.out.2 2 _ rfl).1
  have c3 := (TB.out.2 3 _ rfl).1
  have c4 := (TB.out.2 4 _ rfl).1
  go_wp2_with fail
  refine Calls.mono (HKS.out _ X.out) ?_
  intro e wn hh
  obtain ⟨he, hb⟩ := (by first | exact hh | exact Ro.mk hh | exact St.mk hh | exact LawOk.mk' hh : Mk _ _ e wn)
  subst he
  have Tn : Hid (Below w.heap.size w wn) := below_next T.out hb
  have Xn : Hid _ := Rid.below X.out hb
  have TBn : Hid _ := BoxV.below TB.out hb
  clear hb hh c0 c1 c2 c3 c4
  clear T X TB
  have T := Tn
  have X := Xn
  have TB := TBn
  clear Tn Xn TBn
  clear HKI HKS
  have c0 := (TB.out.2 0 _ rfl).1
  have c1 := (TB.out.2 1 _ rfl).1
  have c2 := (TB.out.2 2 _ rfl).1
  have c3 := (TB.out.2 3 _ rfl).1
  have c4 := (TB.out.2 4 _ rfl).1

  go_wp2_with fail
  refine Calls.mono (HKT.out _ X.out) ?_
  intro e wq hh
  obtain ⟨v2, he, hO2, hb3⟩ := hh
  subst he
  obtain ⟨av2, cv2, hv, -, -⟩ := OwnR.open hO2
  subst hv
  have Y := Lib.hid (show Rid wq av2 k2 y.rs from by have h9 := OwnR.rid hO2; rw [Hk2.out] at h9; exact h9)
  clear hO2
  rw [Hk2.out]
  have Tn := Lib.hid (below_next T.out hb3)
  have Xn := Lib.hid (Rid.below X.out hb3)
  have TBn := Lib.hid (BoxV.below TB.out hb3)
  clear hb3
  clear T X TB
  have T := Tn
  have X := Xn
  have TB := TBn
  clear Tn Xn TBn
  obtain ⟨wn, hwq⟩ : ∃ w0, w0 = wq := ⟨_, rfl⟩
  subst hwq
  have hltTBHY := BoxV.lt TB.out
  have hWHY := T.out.size
  obtain ⟨HY, hHY⟩ : ∃ HY, Array.size (World.heap wn) = HY := ⟨_, rfl⟩
  have HHY : Hid _ := hHY
  rw [hHY] at hWHY hltTBHY
  have YB : Hid (BoxV (wn.alloc (.cells #[.int .i64 y.n, .int .i64 y.m, .int .i64 y.f, .int .i64 y.d, .slice av2 k2 cv2] 27)) HY [.int .i64 y.n, .int .i64 y.m, .int .i64 y.f, .int .i64 y.d, .slice av2 k2 cv2]) := by rw [← hHY]; exact BoxV.new _ _ _ (by simp) rfl
  clear hHY
  have Tn : Hid (Below w.heap.size w _) := Below.al T.out (.cells #[.int .i64 y.n, .int .i64 y.m, .int .i64 y.f, .int .i64 y.d, .slice av2 k2 cv2] 27)
  have Xn : Hid _ := Rid.below X.out ((Below.refl _ _).alloc (Nat.le_refl _) (.cells #[.int .i64 y.n, .int .i64 y.m, .int .i64 y.f, .int .i64 y.d, .slice av2 k2 cv2] 27))
  have TBn : Hid _ := BoxV.below TB.out ((Below.refl _ _).alloc (Nat.le_refl _) (.cells #[.int .i64 y.n, .int .i64 y.m, .int .i64 y.f, .int .i64 y.d, .slice av2 k2 cv2] 27))
  have Yn : Hid _ := Rid.below Y.out ((Below.refl _ _).alloc (Nat.le_refl _) (.cells #[.int .i64 y.n, .int .i64 y.m, .int .i64 y.f, .int .i64 y.d, .slice av2 k2 cv2] 27))
  clear T X TB Y
  have T := Tn
  have X := Xn
  have TB := TBn
  have Y := Yn
  clear Tn Xn TBn Yn
  go_upto_region 10 with fail
  rw [HHY.out]
  generalize wn.alloc _ = w0 at *
  obtain ⟨wn, hwq⟩ : ∃ w9 : World, w9 = w0 := ⟨_, rfl⟩
  subst hwq
  clear HHY

  cases b with
  | false =>
    have h0 := HST.out.2 rfl
    have v2 : decide (0 < (z : Int)) = false := decide_eq_false (by omega)
    have v3 : decide (0 < z) = false := decide_eq_false (by omega)
    clear h0
    have HZU := HKU
    refine wp_region_quiet (C := fun w' => Below (World.heap (wn)).size (wn) w') (by kernel_rfl) (by kernel_rfl) (by first | exact ⟨rfl, rfl, rfl, Nat.le_refl _, fun _ _ => rfl⟩ | exact Below.dw (by repeat (first | exact Below.refl _ _ | refine Below.al ?_ _ | refine Below.dr ?_ _ | refine Below.dw ?_ | refine Below.st ?_ (by first | exact Nat.le_refl _ | exact Nat.le_add_right _ _ | (simp; omega)) _ | (refine below_next ?_ (by assumption))))) ?_
    simp only []
    repeat (go_big_quiet_step (first | (intro _; with_reducible exact rfl) | (intro hC; go_at_call 21; have TB9 := BoxV.below TB.out hC; have c0 := (TB9.2 0 _ rfl).1; have c1 := (TB9.2 1 _ rfl).1; have c2 := (TB9.2 2 _ rfl).1; have c3 := (TB9.2 3 _ rfl).1; have c4 := (TB9.2 4 _ rfl).1; clear TB9; have YB9 := BoxV.below YB.out hC; have e0 := (YB9.2 0 _ rfl).1; have e1 := (YB9.2 1 _ rfl).1; have e2 := (YB9.2 2 _ rfl).1; have e3 := (YB9.2 3 _ rfl).1; have e4 := (YB9.2 4 _ rfl).1; clear YB9; have Z0 := Lib.hid (HK0.out _ (Rid.below X.out hC)); have Z1 := Lib.hid (HK1.out _ (Rid.below X.out hC)); have Z2 := Lib.hid (HZU.out _ av2 cv2 (Rid.below Y.out hC)); (with_reducible refine Calls.mono (Z0.out) ?_); (first | (rintro e wx ⟨rfl, hb⟩; exact ⟨rfl, below_next hC hb⟩) | (rintro e wx ⟨rfl, n, rfl⟩; exact ⟨rfl, Below.dr hC n⟩) | (rintro e wx ⟨rfl, rfl⟩; exact ⟨rfl, hC⟩))) | (intro hC; go_at_call 21; have TB9 := BoxV.below TB.out hC; have c0 := (TB9.2 0 _ rfl).1; have c1 := (TB9.2 1 _ rfl).1; have c2 := (TB9.2 2 _ rfl).1; have c3 := (TB9.2 3 _ rfl).1; have c4 := (TB9.2 4 _ rfl).1; clear TB9; have YB9 := BoxV.below YB.out hC; have e0 := (YB9.2 0 _ rfl).1; have e1 := (YB9.2 1 _ rfl).1; have e2 := (YB9.2 2 _ rfl).1; have e3 := (YB9.2 3 _ rfl).1; have e4 := (YB9.2 4 _ rfl).1; clear YB9; have Z0 := Lib.hid (HK0.out _ (Rid.below X.out hC)); have Z1 := Lib.hid (HK1.out _ (Rid.below X.out hC)); have Z2 := Lib.hid (HZU.out _ av2 cv2 (Rid.below Y.out hC)); (with_reducible refine Calls.mono (Z1.out) ?_); (first | (rintro e wx ⟨rfl, hb⟩; exact ⟨rfl, below_next hC hb⟩) | (rintro e wx ⟨rfl, n, rfl⟩; exact ⟨rfl, Below.dr hC n⟩) | (rintro e wx ⟨rfl, rfl⟩; exact ⟨rfl, hC⟩))) | (intro hC; go_at_call 29; have TB9 := BoxV.below TB.out hC; have c0 := (TB9.2 0 _ rfl).1; have c1 := (TB9.2 1 _ rfl).1; have c2 := (TB9.2 2 _ rfl).1; have c3 := (TB9.2 3 _ rfl).1; have c4 := (TB9.2 4 _ rfl).1; clear TB9; have YB9 := BoxV.below YB.out hC; have e0 := (YB9.2 0 _ rfl).1; have e1 := (YB9.2 1 _ rfl).1; have e2 := (YB9.2 2 _ rfl).1; have e3 := (YB9.2 3 _ rfl).1; have e4 := (YB9.2 4 _ rfl).1; clear YB9; have Z0 := Lib.hid (HK0.out _ (Rid.below X.out hC)); have Z1 := Lib.hid (HK1.out _ (Rid.below X.out hC)); have Z2 := Lib.hid (HZU.out _ av2 cv2 (Rid.below Y.out hC)); (with_reducible refine Calls.mono (Z2.out) ?_); (first | (rintro e wx ⟨rfl, hb⟩; exact ⟨rfl, below_next hC hb⟩) | (rintro e wx ⟨rfl, n, rfl⟩; exact ⟨rfl, Below.dr hC n⟩) | (rintro e wx ⟨rfl, rfl⟩; exact ⟨rfl, hC⟩))) | (intro hC; have TB9 := BoxV.below TB.out hC; have c0 := (TB9.2 0 _ rfl).1; have c1 := (TB9.2 1 _ rfl).1; have c2 := (TB9.2 2 _ rfl).1; have c3 := (TB9.2 3 _ rfl).1; have c4 := (TB9.2 4 _ rfl).1; clear TB9; have YB9 := BoxV.below YB.out hC; have e0 := (YB9.2 0 _ rfl).1; have e1 := (YB9.2 1 _ rfl).1; have e2 := (YB9.2 2 _ rfl).1; have e3 := (YB9.2 3 _ rfl).1; have e4 := (YB9.2 4 _ rfl).1; clear YB9; have Z0 := Lib.hid (HK0.out _ (Rid.below X.out hC)); have Z1 := Lib.hid (HK1.out _ (Rid.below X.out hC)); have Z2 := Lib.hid (HZU.out _ av2 cv2 (Rid.below Y.out hC)); go_simp; rfl)))
    refine wpQuiet_nil ?_
    intro wq hq
    have Tn := Lib.hid (below_next T.out hq)
    have Xn := Lib.hid (Rid.below X.out hq)
    have TBn := Lib.hid (BoxV.below TB.out hq)
    have Yn := Lib.hid (Rid.below Y.out hq)
    have YBn := Lib.hid (BoxV.below YB.out hq)
    clear hq
    clear T X TB Y YB
    have T := Tn
    have X := Xn
    have TB := TBn
    have Y := Yn
    have YB := YBn
    clear Tn Xn TBn Yn YBn
    obtain ⟨wn, hwq⟩ : ∃ w0, w0 = wq := ⟨_, rfl⟩
    subst hwq
    go_wp2_with fail
    go_ret
    first | exact LawOk.mk T.out | exact LawOk.mk (Below.dr T.out _)
  | true =>
    obtain ⟨h0, h1⟩ := HST.out.1 rfl
    have v2 : decide (0 < (z : Int)) = true := decide_eq_true (by omega)
    have HZU := Lib.hid (show ∀ (w' : World) (a' : Option Addr) (c' : Nat) (h : Rid w' a' k2 y.rs), Calls Try.prog 29 #[.agg #[.int .i64 y.n, .int .i64 y.m, .int .i64 y.f, .int .i64 y.d, .slice a' k2 c']] w' (Mk w' (.int .i64 ((z : Int) - 1))) from fun w' a' c' h => by
      have h9 := HKU.out w' a' c' h
      rw [show (⟨y.n, y.m, y.f, y.d, y.rs⟩ : Tp) = y from rfl, h1] at h9
      exact h9)
    clear h1
    refine wp_region_quiet (C := fun w' => Below (World.heap (wn)).size (wn) w') (by kernel_rfl) (by kernel_rfl) (by first | exact ⟨rfl, rfl, rfl, Nat.le_refl _, fun _ _ => rfl⟩ | exact Below.dw (by repeat (first | exact Below.refl _ _ | refine Below.al ?_ _ | refine Below.dr ?_ _ | refine Below.dw ?_ | refine Below.st ?_ (by first | exact Nat.le_refl _ | exact Nat.le_add_right _ _ | (simp; omega)) _ | (refine below_next ?_ (by assumption))))) ?_
    simp only []
    repeat (go_big_quiet_step (first | (intro _; with_reducible exact rfl) | (intro hC; go_at_call 21; have TB9 := BoxV.below TB.out hC; have c0 := (TB9.2 0 _ rfl).1; have c1 := (TB9.2 1 _ rfl).1; have c2 := (TB9.2 2 _ rfl).1; have c3 := (TB9.2 3 _ rfl).1; have c4 := (TB9.2 4 _ rfl).1; clear TB9; have YB9 := BoxV.below YB.out hC; have e0 := (YB9.2 0 _ rfl).1; have e1 := (YB9.2 1 _ rfl).1; have e2 := (YB9.2 2 _ rfl).1; have e3 := (YB9.2 3 _ rfl).1; have e4 := (YB9.2 4 _ rfl).1; clear YB9; have Z0 := Lib.hid (HK0.out _ (Rid.below X.out hC)); have Z1 := Lib.hid (HK1.out _ (Rid.below X.out hC)); have Z2 := Lib.hid (HZU.out _ av2 cv2 (Rid.below Y.out hC)); (with_reducible refine Calls.mono (Z0.out) ?_); (first | (rintro e wx ⟨rfl, hb⟩; exact ⟨rfl, below_next hC hb⟩) | (rintro e wx ⟨rfl, n, rfl⟩; exact ⟨rfl, Below.dr hC n⟩) | (rintro e wx ⟨rfl, rfl⟩; exact ⟨rfl, hC⟩))) | (intro hC; go_at_call 21; have TB9 := BoxV.below TB.out hC; have c0 := (TB9.2 0 _ rfl).1; have c1 := (TB9.2 1 _ rfl).1; have c2 := (TB9.2 2 _ rfl).1; have c3 := (TB9.2 3 _ rfl).1; have c4 := (TB9.2 4 _ rfl).1; clear TB9; have YB9 := BoxV.below YB.out hC; have e0 := (YB9.2 0 _ rfl).1; have e1 := (YB9.2 1 _ rfl).1; have e2 := (YB9.2 2 _ rfl).1; have e3 := (YB9.2 3 _ rfl).1; have e4 := (YB9.2 4 _ rfl).1; clear YB9; have Z0 := Lib.hid (HK0.out _ (Rid.below X.out hC)); have Z1 := Lib.hid (HK1.out _ (Rid.below X.out hC)); have Z2 := Lib.hid (HZU.out _ av2 cv2 (Rid.below Y.out hC)); (with_reducible refine Calls.mono (Z1.out) ?_); (first | (rintro e wx ⟨rfl, hb⟩; exact ⟨rfl, below_next hC hb⟩) | (rintro e wx ⟨rfl, n, rfl⟩; exact ⟨rfl, Below.dr hC n⟩) | (rintro e wx ⟨rfl, rfl⟩; exact ⟨rfl, hC⟩))) | (intro hC; go_at_call 29; have TB9 := BoxV.below TB.out hC; have c0 := (TB9.2 0 _ rfl).1; have c1 := (TB9.2 1 _ rfl).1; have c2 := (TB9.2 2 _ rfl).1; have c3 := (TB9.2 3 _ rfl).1; have c4 := (TB9.2 4 _ rfl).1; clear TB9; have YB9 := BoxV.below YB.out hC; have e0 := (YB9.2 0 _ rfl).1; have e1 := (YB9.2 1 _ rfl).1; have e2 := (YB9.2 2 _ rfl).1; have e3 := (YB9.2 3 _ rfl).1; have e4 := (YB9.2 4 _ rfl).1; clear YB9; have Z0 := Lib.hid (HK0.out _ (Rid.below X.out hC)); have Z1 := Lib.hid (HK1.out _ (Rid.below X.out hC)); have Z2 := Lib.hid (HZU.out _ av2 cv2 (Rid.below Y.out hC)); (with_reducible refine Calls.mono (Z2.out) ?_); (first | (rintro e wx ⟨rfl, hb⟩; exact ⟨rfl, below_next hC hb⟩) | (rintro e wx ⟨rfl, n, rfl⟩; exact ⟨rfl, Below.dr hC n⟩) | (rintro e wx ⟨rfl, rfl⟩; exact ⟨rfl, hC⟩))) | (intro hC; have TB9 := BoxV.below TB.out hC; have c0 := (TB9.2 0 _ rfl).1; have c1 := (TB9.2 1 _ rfl).1; have c2 := (TB9.2 2 _ rfl).1; have c3 := (TB9.2 3 _ rfl).1; have c4 := (TB9.2 4 _ rfl).1; clear TB9; have YB9 := BoxV.below YB.out hC; have e0 := (YB9.2 0 _ rfl).1; have e1 := (YB9.2 1 _ rfl).1; have e2 := (YB9.2 2 _ rfl).1; have e3 := (YB9.2 3 _ rfl).1; have e4 := (YB9.2 4 _ rfl).1; clear YB9; have Z0 := Lib.hid (HK0.out _ (Rid.below X.out hC)); have Z1 := Lib.hid (HK1.out _ (Rid.below X.out hC)); have Z2 := Lib.hid (HZU.out _ av2 cv2 (Rid.below Y.out hC)); go_simp; rfl)))
    refine wpQuiet_nil ?_
    intro wq hq
    have Tn := Lib.hid (below_next T.out hq)
    have Xn := Lib.hid (Rid.below X.out hq)
    have TBn := Lib.hid (BoxV.below TB.out hq)
    have Yn := Lib.hid (Rid.below Y.out hq)
    have YBn := Lib.hid (BoxV.below YB.out hq)
    clear hq
    clear T X TB Y YB
    have T := Tn
    have X := Xn
    have TB := TBn
    have Y := Yn
    have YB := YBn
    clear Tn Xn TBn Yn YBn
    obtain ⟨wn, hwq⟩ : ∃ w0, w0 = wq := ⟨_, rfl⟩
    subst hwq
    go_wp2_with fail
    go_ret
    first | exact LawOk.mk T.out | exact LawOk.mk (Below.dr T.out _)
end Go.Proofs.Ytfhhgddajmihjaa

namespace Go.Proofs.Ytfhhgddajmihjaa
open Go.RowKit
set_option linter.unusedVariables false
set_option linter.unusedSimpArgs false
set_option maxRecDepth 100000


/-- A fresh trip, by types. -/
def tT (t : Tp) (k : Nat) (v : Value) (w : World) : Prop := ∃ (a : Option Addr) (c : Nat), v = .agg #[.int .i64 t.n, .int .i64 t.m, .int .i64 t.f, .int .i64 t.d, .slice a k c] ∧ Rid w a k t.rs
theorem StGrow.T (t : Tp) (k : Nat) : StGrow (tT t k) := fun v w w' hr h => by
  obtain ⟨a, c, e, hC⟩ := h
  exact ⟨a, c, e, hC.below ⟨hr.os, hr.tape, hr.output, hr.size, fun k hk => hr.block k hk (fun e => by cases e)⟩⟩
theorem sameTrip_t (n m f d : Int) (a : Option Addr) (k c : Nat) (a' : Option Addr) (c' : Nat) (l : List Ri) (w : World) (hX : Rid w a k l) (hY : Rid w a' k l) (hk : k ≤ 1048577) :
    Calls Try.prog 27 #[.agg #[.int .i64 n, .int .i64 m, .int .i64 f, .int .i64 d, .slice a k c], .agg #[.int .i64 n, .int .i64 m, .int .i64 f, .int .i64 d, .slice a' k c']] w (Mk w (.bool true)) := by
  have K := sameTrip_c n m f d a k c l n m f d a' k c' l w hX hY hk
  rw [tr_true rfl] at K
  exact K
theorem cns_all {s : Int} : ∀ {l : List Ri}, (∀ r, r ∈ l → r.s = s) → cns s l = l.length
  | [], _ => rfl
  | r :: l, h => by
    have h1 := cns_all (s := s) (l := l) fun q hq => h q (by simp [hq])
    unfold cns
    rw [if_pos (h r (by simp)), h1, List.length_cons]
    omega
theorem te_end {t : Tp} (h : TOk t) : TOk (teT t) ∧ (teT t).rs.length = t.rs.length ∧ stB (teT t) = false ∧ cns 2 (teT t).rs = t.rs.length ∧ cm (tclT (teT t)) = 0 := by
  rw [teT_t h]
  obtain ⟨h1, h2, h3⟩ := ten_ok 16 t h
  have h4 := h3 (phi_16 h)
  obtain ⟨h5, h6⟩ := tnx_none h1 h4
  exact ⟨h1, h2, (stT_n h1 h4).2, by rw [cns_all h5]; exact h2, by rw [tclT_t h1]; exact h6⟩

set_option maxRecDepth 100000 in
set_option maxHeartbeats 16000000 in
theorem TripEnd_w (a : Option Addr) (n cap : Nat) (w : World) (hb : Byt w a n) (hn : n ≤ cap) (hcap : cap ≤ maxLen) :
    Calls Try.prog 7 #[.slice a n cap] w (LawOk w) := by
  have hcap' := hcap
  unfold maxLen at hcap'
  by_cases bign : 1048576 < n
  · go_enter Try.func7, Try.ntmps7
    go_wp2_with fail
    go_ret
    exact LawOk.mk (Below.refl _ _)
  go_enter Try.func7, Try.ntmps7
  go_wp2_with fail
  refine Calls.mono (DrawTripEnd_c a n cap _ hb hn hcap) ?_
  rintro e wn ⟨N, m, f, d, av, k, cv, l, rfl, hX, hk, hB⟩
  have T := Lib.hid hB
  have X := Lib.hid hX
  have HL := Lib.hid hX.2
  clear hB hX hb
  obtain ⟨h, hg⟩ : ∃ g, Array.size (World.heap wn) = g := ⟨_, rfl⟩
  have HGh := Lib.hid hg
  have hTh : w.heap.size ≤ h := by rw [← hg]; exact T.out.size
  have Tn := Lib.hid (show Below w.heap.size w (wn.alloc (.cells #[.int .i64 N, .int .i64 m, .int .i64 f, .int .i64 d, .slice av k cv] 27)) from (Below.al T.out (.cells #[.int .i64 N, .int .i64 m, .int .i64 f, .int .i64 d, .slice av k cv] 27)))
  have Xn := Lib.hid (Rid.below X.out (show Below wn.heap.size wn (wn.alloc (.cells #[.int .i64 N, .int .i64 m, .int .i64 f, .int .i64 d, .slice av k cv] 27)) from (Below.al (Below.refl _ _) (.cells #[.int .i64 N, .int .i64 m, .int .i64 f, .int .i64 d, .slice av k cv] 27))))
  have TB := Lib.hid (show BoxV (wn.alloc (.cells #[.int .i64 N, .int .i64 m, .int .i64 f, .int .i64 d, .slice av k cv] 27)) h [.int .i64 N, .int .i64 m, .int .i64 f, .int .i64 d, .slice av k cv] from by have h9 := (BoxV.new wn [.int .i64 N, .int .i64 m, .int .i64 f, .int .i64 d, .slice av k cv] 27 (by simp) rfl); simp only [World.size_alloc, hg, Nat.add_assoc, Nat.reduceAdd] at h9; exact h9)
  have HZh := Lib.hid (show ((wn.alloc (.cells #[.int .i64 N, .int .i64 m, .int .i64 f, .int .i64 d, .slice av k cv] 27))).heap.size = h + 1 from by simp only [World.size_alloc, hg, Nat.add_assoc, Nat.reduceAdd])
  clear hg
  clear T X
  have T := Tn
  have X := Xn
  clear Tn Xn
  have KI := fun w' (h : Rid w' av k l) => iTripEnd_c N m f d av k cv l w' h (by omega)
  have KS := fun w' (h : Rid w' av k l) => sTripEnd_c N m f d av k cv l w' h (by omega)
  have KV := fun w' (h : Rid w' av k l) => sTripValid_c N m f d av k cv l w' h (by omega)
  have hTE : TOk ⟨N, m, f, d, l⟩ → _ := fun h => te_end h
  have hTF : ¬ TOk ⟨N, m, f, d, l⟩ → _ := fun h => teT_f h
  have hyl : (teT ⟨N, m, f, d, l⟩).rs.length ≤ 9 := by
    by_cases g : TOk ⟨N, m, f, d, l⟩
    · have := (te_end g).2.1
      have e : l.length = k := HL.out
      simp only at this
      omega
    · rw [teT_f g]; simp
  obtain ⟨y, hy⟩ : ∃ y, teT ⟨N, m, f, d, l⟩ = y := ⟨_, rfl⟩
  rw [hy] at KI KS hTE hTF hyl
  obtain ⟨k2, hk2⟩ : ∃ k2, y.rs.length = k2 := ⟨_, rfl⟩
  rw [hk2] at hyl
  have Hk2 := Lib.hid hk2
  have HKI := Lib.hid KI
  have HKS := Lib.hid KS
  have HKV := Lib.hid KV
  have HTE := Lib.hid hTE
  have HTF := Lib.hid hTF
  have HT := Lib.hid (Classical.em (TOk ⟨N, m, f, d, l⟩))
  clear KI KS KV hTE hTF hy hk2
  have c0 := (TB.out.2 0 _ rfl).1
  have c1 := (TB.out.2 1 _ rfl).1
  have c2 := (TB.out.2 2 _ rfl).1
  have c3 := (TB.out.2 3 _ rfl).1
  have c4 := (TB.out.2 4 _ rfl).1

  go_wp2_with fail
  rw [HGh.out]
  refine Calls.mono (HKI.out _ X.out) ?_
  intro e wq hh
  obtain ⟨v2, he, hO2, hb3⟩ := hh
  subst he
  obtain ⟨av2, cv2, hv, -, -⟩ := OwnR.open hO2
  subst hv
  have Y := Lib.hid (show Rid wq av2 k2 y.rs from by have h9 := OwnR.rid hO2; rw [Hk2.out] at h9; exact h9)
  clear hO2
  rw [Hk2.out]
  have Tn := Lib.hid (below_next T.out hb3)
  have Xn := Lib.hid (Rid.below X.out hb3)
  have TBn := Lib.hid (BoxV.below TB.out hb3)
  clear hb3
  clear T X TB
  have T := Tn
  have X := Xn
  have TB := TBn
  clear Tn Xn TBn
  obtain ⟨wn, hwq⟩ : ∃ w0, w0 = wq := ⟨_, rfl⟩
  subst hwq
  have hltTBHY := BoxV.lt TB.out
  have hWHY := T.out.size
  obtain ⟨HY, hHY⟩ : ∃ HY, Array.size (World.heap wn) = HY := ⟨_, rfl⟩
  have HHY : Hid _ := hHY
  rw [hHY] at hWHY hltTBHY
  have YB : Hid (BoxV (wn.alloc (.cells #[.int .i64 y.n, .int .i64 y.m, .int .i64 y.f, .int .i64 y.d, .slice av2 k2 cv2] 27)) HY [.int .i64 y.n, .int .i64 y.m, .int .i64 y.f, .int .i64 y.d, .slice av2 k2 cv2]) := by rw [← hHY]; exact BoxV.new _ _ _ (by simp) rfl
  clear hHY
  have Tn : Hid (Below w.heap.size w _) := Below.al T.out (.cells #[.int .i64 y.n, .int .i64 y.m, .int .i64 y.f, .int .i64 y.d, .slice av2 k2 cv2] 27)
  have Xn : Hid _ := Rid.below X.out ((Below.refl _ _).alloc (Nat.le_refl _) (.cells #[.int .i64 y.n, .int .i64 y.m, .int .i64 y.f, .int .i64 y.d, .slice av2 k2 cv2] 27))
  have TBn : Hid _ := BoxV.below TB.out ((Below.refl _ _).alloc (Nat.le_refl _) (.cells #[.int .i64 y.n, .int .i64 y.m, .int .i64 y.f, .int .i64 y.d, .slice av2 k2 cv2] 27))
  have Yn : Hid _ := Rid.below Y.out ((Below.refl _ _).alloc (Nat.le_refl _) (.cells #[.int .i64 y.n, .int .i64 y.m, .int .i64 y.f, .int .i64 y.d, .slice av2 k2 cv2] 27))
  clear T X TB Y
  have T := Tn
  have X := Xn
  have TB := TBn
  have Y := Yn
  clear Tn Xn TBn Yn
  go_upto_region 5 with fail
  rw [HHY.out]
  generalize wn.alloc _ = w0 at *
  obtain ⟨wn, hwq⟩ : ∃ w9 : World, w9 = w0 := ⟨_, rfl⟩
  subst hwq
  clear HHY

  refine wp_region_tg [14, 15, 16, 17, 18]
    [(14, tV (.agg #[.int .i64 y.n, .int .i64 y.m, .int .i64 y.f, .int .i64 y.d, .slice av2 k2 cv2])), (15, tV (.agg #[.int .i64 N, .int .i64 m, .int .i64 f, .int .i64 d, .slice av k cv])), (16, tT y k2), (17, tV (.bool true)), (18, tV (.bool false))]
    (by kernel_rfl) (by kernel_rfl) (by kernel_rfl) (by kernel_rfl) (by kernel_rfl) (by kernel_rfl) ⟨StW.g (StW.V _), StW.g (StW.V _), StGrow.T _ _, StW.g (StW.V _), StW.g (StW.V _), trivial⟩ ?hob5 ?_
  case hob5 =>
    refine ⟨?_, ?_, ?_, ?_, ?_, trivial⟩
    · intro w1 vs hC hP hL
      refine ⟨fun hw => ?_, fun hw => ?_⟩
      · clear hw
        have u4 : vs 4 = .pointer (some ⟨HY, 0, none⟩) := hP 4 (by kernel_rfl)
        have YB9 := BoxV.below YB.out hC
        have e0 := (YB9.2 0 _ rfl).1
        have e1 := (YB9.2 1 _ rfl).1
        have e2 := (YB9.2 2 _ rfl).1
        have e3 := (YB9.2 3 _ rfl).1
        have e4 := (YB9.2 4 _ rfl).1
        clear YB9
        go_simp
        simp only [evOf_tmp, evOf_const, u4]
        go_simp
        exact oa_pure hC (show tV _ _ w1 from rfl)
      · exact absurd hw (fun e => (by cases (show true = false from e)))
    · intro w1 vs hC hP hL
      refine ⟨fun hw => ?_, fun hw => ?_⟩
      · clear hw
        have u3 : vs 3 = .pointer (some ⟨h, 0, none⟩) := hP 3 (by kernel_rfl)
        have TB9 := BoxV.below TB.out hC
        have c0 := (TB9.2 0 _ rfl).1
        have c1 := (TB9.2 1 _ rfl).1
        have c2 := (TB9.2 2 _ rfl).1
        have c3 := (TB9.2 3 _ rfl).1
        have c4 := (TB9.2 4 _ rfl).1
        clear TB9
        go_simp
        simp only [evOf_tmp, evOf_const, u3]
        go_simp
        exact oa_pure hC (show tV _ _ w1 from rfl)
      · exact absurd hw (fun e => (by cases (show true = false from e)))
    · intro w1 vs hC hP hL
      refine ⟨fun hw => ?_, fun hw => ?_⟩
      · clear hw
        have u15 : vs 15 = .agg #[.int .i64 N, .int .i64 m, .int .i64 f, .int .i64 d, .slice av k cv] := hL 15 (by kernel_rfl)
        go_simp
        simp only [evOf_tmp, u15]
        exact oa_call hC (Calls.mono (HKS.out _ (Rid.below X.out hC)) (fun e w2 hh => (by obtain ⟨v, he, hO, hb⟩ := hh; obtain ⟨a9, c9, rfl, -, -⟩ := OwnR.open hO; have h9 := OwnR.rid hO; rw [Hk2.out] at h9 he; exact ⟨_, he, (show tT _ _ _ w2 from ⟨a9, c9, rfl, h9⟩), hb⟩)))
      · exact absurd hw (fun e => (by cases (show true = false from e)))
    · intro w1 vs hC hP hL
      refine ⟨fun hw => ?_, fun hw => ?_⟩
      · clear hw
        have u14 : vs 14 = .agg #[.int .i64 y.n, .int .i64 y.m, .int .i64 y.f, .int .i64 y.d, .slice av2 k2 cv2] := hL 14 (by kernel_rfl)
        have u16 : tT y k2 (vs 16) w1 := hL 16 (by kernel_rfl)
        obtain ⟨p16, i16, u16, hF16⟩ := u16
        go_simp
        simp only [evOf_tmp, u14, u16]
        exact oa_call hC (Calls.mono (sameTrip_t y.n y.m y.f y.d _ _ _ _ _ y.rs _ (Rid.below Y.out hC) hF16 (by omega)) (fun e w2 hh => (by obtain ⟨he, hb⟩ := (by first | exact hh | exact Ro.mk hh | exact St.mk hh : Mk _ _ e w2); exact ⟨_, he, (show tV _ _ w2 from rfl), hb⟩)))
      · exact absurd hw (fun e => (by cases (show true = false from e)))
    · intro w1 vs hC hP hL
      refine ⟨fun hw => ?_, fun hw => ?_⟩
      · clear hw
        have u17 : vs 17 = .bool true := hL 17 (by kernel_rfl)
        go_simp
        simp only [evOf_tmp, evOf_const, u17]
        go_simp
        exact oa_pure hC (show tV _ _ w1 from rfl)
      · exact absurd hw (fun e => (by cases (show true = false from e)))
  intro vs wq hq hT
  have t1 : vs 18 = .bool false := hT 18 rfl
  simp (decide := true) only [over, Nat.reduceAdd, if_true, if_false]
  rw [t1]
  clear hT t1
  have Tn := Lib.hid (below_next T.out hq)
  have Xn := Lib.hid (Rid.below X.out hq)
  have TBn := Lib.hid (BoxV.below TB.out hq)
  have Yn := Lib.hid (Rid.below Y.out hq)
  have YBn := Lib.hid (BoxV.below YB.out hq)
  clear hq
  clear T X TB Y YB
  have T := Tn
  have X := Xn
  have TB := TBn
  have Y := Yn
  have YB := YBn
  clear Tn Xn TBn Yn YBn
  obtain ⟨wn, hwq⟩ : ∃ w0, w0 = wq := ⟨_, rfl⟩
  subst hwq

  rcases HT.out with ht | ht
  case inr =>
    have KV := HKV.out
    rw [tokB_f ht] at KV
    have HV := Lib.hid KV
    have e0 := HTF.out ht
    subst e0
    clear KV ht
    have c0 := (TB.out.2 0 _ rfl).1
    have c1 := (TB.out.2 1 _ rfl).1
    have c2 := (TB.out.2 2 _ rfl).1
    have c3 := (TB.out.2 3 _ rfl).1
    have c4 := (TB.out.2 4 _ rfl).1
    go_wp2_with fail
    refine Calls.mono (HV.out _ X.out) ?_
    intro e wn hh
    obtain ⟨he, hb⟩ := (by first | exact hh | exact Ro.mk hh | exact St.mk hh | exact LawOk.mk' hh : Mk _ _ e wn)
    subst he
    have Tn : Hid (Below w.heap.size w wn) := below_next T.out hb
    have Xn : Hid _ := Rid.below X.out hb
    have TBn : Hid _ := BoxV.below TB.out hb
    have Yn : Hid _ := Rid.below Y.out hb
    have YBn : Hid _ := BoxV.below YB.out hb
    clear hb hh c0 c1 c2 c3 c4
    clear T X TB Y YB
    have T := Tn
    have X := Xn
    have TB := TBn
    have Y := Yn
    have YB := YBn
    clear Tn Xn TBn Yn YBn
    have e0 := (YB.out.2 0 _ rfl).1
    have e1 := (YB.out.2 1 _ rfl).1
    have e2 := (YB.out.2 2 _ rfl).1
    have e3 := (YB.out.2 3 _ rfl).1
    have e4 := (YB.out.2 4 _ rfl).1
    go_wp2_with fail
    refine Calls.mono (alive_c _) ?_
    intro e wn hh
    obtain ⟨he, hb⟩ := (by first | exact hh | exact Ro.mk hh | exact St.mk hh | exact LawOk.mk' hh : Mk _ _ e wn)
    subst he
    have Tn : Hid (Below w.heap.size w wn) := below_next T.out hb
    have Xn : Hid _ := Rid.below X.out hb
    have TBn : Hid _ := BoxV.below TB.out hb
    have Yn : Hid _ := Rid.below Y.out hb
    have YBn : Hid _ := BoxV.below YB.out hb
    clear hb hh e0 e1 e2 e3 e4
    clear T X TB Y YB
    have T := Tn
    have X := Xn
    have TB := TBn
    have Y := Yn
    have YB := YBn
    clear Tn Xn TBn Yn YBn
    go_wp2_with fail
    go_ret
    first | exact LawOk.mk T.out | exact LawOk.mk (Below.dr T.out _)
  obtain ⟨g1, g2, g3, g4, g5⟩ := HTE.out ht
  have KV := HKV.out
  rw [tokB_t ht] at KV
  have HV := Lib.hid KV
  have hlk : l.length = k := HL.out
  replace g2 : y.rs.length = l.length := g2
  replace g4 : cns 2 y.rs = l.length := g4
  rw [hlk] at g2 g4
  rw [Hk2.out] at g2
  subst g2
  have KT := fun (w' : World) (h : Rid w' av2 k2 y.rs) => iTripStep_c y.n y.m y.f y.d av2 k2 cv2 y.rs w' h (by omega)
  have KW := fun (w' : World) (h : Rid w' av2 k2 y.rs) => iTripValid_c y.n y.m y.f y.d av2 k2 cv2 y.rs w' h (by omega)
  have KC := fun (w' : World) (h : Rid w' av2 k2 y.rs) => iTripCalls_c y.n y.m y.f y.d av2 k2 cv2 y.rs w' h (by omega)
  have K2 := fun (w' : World) (h : Rid w' av2 k2 y.rs) => inState_c y.n y.m y.f y.d 2 av2 k2 cv2 y.rs w' h (by omega)
  rw [show (⟨y.n, y.m, y.f, y.d, y.rs⟩ : Tp) = y from rfl] at KT KW KC
  rw [g3] at KT
  rw [tokB_t g1] at KW
  rw [g4] at K2
  have hxl : (stT y).rs.length ≤ 8 := (stT_ok g1).2.2.2.2.1
  obtain ⟨x, hx⟩ : ∃ x, stT y = x := ⟨_, rfl⟩
  obtain ⟨z, hz⟩ : ∃ z, tclT y = z := ⟨_, rfl⟩
  rw [hx] at KT hxl
  rw [hz] at KC g5
  obtain ⟨k3, hk3⟩ : ∃ k3, x.rs.length = k3 := ⟨_, rfl⟩
  have Hk3 := Lib.hid hk3
  have KM := fun (w' : World) (p1 p2 p3 : Option Addr) (m1 m2 m3 i1 i2 i3 : Nat) (g : Cal w' p1 m1 p2 m2 p3 m3 z) => iCallsMany_c p1 m1 i1 p2 m2 i2 p3 m3 i3 z w' g
  rw [g5] at KM
  have HKT := Lib.hid KT
  have HKW := Lib.hid KW
  have HKC := Lib.hid KC
  have HK2 := Lib.hid K2
  have HKM := Lib.hid KM
  clear KV KT KW KC K2 KM g1 g3 g4 g5 hx hz hk3 hxl ht hlk HTE HTF HT HKI HKS
  have c0 := (TB.out.2 0 _ rfl).1
  have c1 := (TB.out.2 1 _ rfl).1
  have c2 := (TB.out.2 2 _ rfl).1
  have c3 := (TB.out.2 3 _ rfl).1
  have c4 := (TB.out.2 4 _ rfl).1
  go_wp2_with fail
  refine Calls.mono (HV.out _ X.out) ?_
  intro e wn hh
  obtain ⟨he, hb⟩ := (by first | exact hh | exact Ro.mk hh | exact St.mk hh | exact LawOk.mk' hh : Mk _ _ e wn)
  subst he
  have Tn : Hid (Below w.heap.size w wn) := below_next T.out hb
  have Xn : Hid _ := Rid.below X.out hb
  have TBn : Hid _ := BoxV.below TB.out hb
  have Yn : Hid _ := Rid.below Y.out hb
  have YBn : Hid _ := BoxV.below YB.out hb
  clear hb hh c0 c1 c2 c3 c4
  clear T X TB Y YB
  have T := Tn
  have X := Xn
  have TB := TBn
  have Y := Yn
  have YB := YBn
  clear Tn Xn TBn Yn YBn
  have e0 := (YB.out.2 0 _ rfl).1
  have e1 := (YB.out.2 1 _ rfl).1
  have e2 := (YB.out.2 2 _ rfl).1
  have e3 := (YB.out.2 3 _ rfl).1
  have e4 := (YB.out.2 4 _ rfl).1

  go_wp2_with fail
  refine Calls.mono (HKT.out _ Y.out) ?_
  intro e wq hh
  obtain ⟨v2, he, hO2, hb3⟩ := hh
  subst he
  obtain ⟨av3, cv3, hv, -, -⟩ := OwnR.open hO2
  subst hv
  have U := Lib.hid (show Rid wq av3 k3 x.rs from by have h9 := OwnR.rid hO2; rw [Hk3.out] at h9; exact h9)
  clear hO2
  rw [Hk3.out]
  have Tn := Lib.hid (below_next T.out hb3)
  have Xn := Lib.hid (Rid.below X.out hb3)
  have TBn := Lib.hid (BoxV.below TB.out hb3)
  have Yn := Lib.hid (Rid.below Y.out hb3)
  have YBn := Lib.hid (BoxV.below YB.out hb3)
  clear hb3
  clear T X TB Y YB
  have T := Tn
  have X := Xn
  have TB := TBn
  have Y := Yn
  have YB := YBn
  clear Tn Xn TBn Yn YBn
  obtain ⟨wn, hwq⟩ : ∃ w0, w0 = wq := ⟨_, rfl⟩
  subst hwq
  have hltTBHU := BoxV.lt TB.out
  have hltYBHU := BoxV.lt YB.out
  have hWHU := T.out.size
  obtain ⟨HU, hHU⟩ : ∃ HU, Array.size (World.heap wn) = HU := ⟨_, rfl⟩
  have HHU : Hid _ := hHU
  rw [hHU] at hWHU hltTBHU hltYBHU
  have UB : Hid (BoxV (wn.alloc (.cells #[.int .i64 x.n, .int .i64 x.m, .int .i64 x.f, .int .i64 x.d, .slice av3 k3 cv3] 27)) HU [.int .i64 x.n, .int .i64 x.m, .int .i64 x.f, .int .i64 x.d, .slice av3 k3 cv3]) := by rw [← hHU]; exact BoxV.new _ _ _ (by simp) rfl
  clear hHU
  have Tn : Hid (Below w.heap.size w _) := Below.al T.out (.cells #[.int .i64 x.n, .int .i64 x.m, .int .i64 x.f, .int .i64 x.d, .slice av3 k3 cv3] 27)
  have Xn : Hid _ := Rid.below X.out ((Below.refl _ _).alloc (Nat.le_refl _) (.cells #[.int .i64 x.n, .int .i64 x.m, .int .i64 x.f, .int .i64 x.d, .slice av3 k3 cv3] 27))
  have TBn : Hid _ := BoxV.below TB.out ((Below.refl _ _).alloc (Nat.le_refl _) (.cells #[.int .i64 x.n, .int .i64 x.m, .int .i64 x.f, .int .i64 x.d, .slice av3 k3 cv3] 27))
  have Yn : Hid _ := Rid.below Y.out ((Below.refl _ _).alloc (Nat.le_refl _) (.cells #[.int .i64 x.n, .int .i64 x.m, .int .i64 x.f, .int .i64 x.d, .slice av3 k3 cv3] 27))
  have YBn : Hid _ := BoxV.below YB.out ((Below.refl _ _).alloc (Nat.le_refl _) (.cells #[.int .i64 x.n, .int .i64 x.m, .int .i64 x.f, .int .i64 x.d, .slice av3 k3 cv3] 27))
  have Un : Hid _ := Rid.below U.out ((Below.refl _ _).alloc (Nat.le_refl _) (.cells #[.int .i64 x.n, .int .i64 x.m, .int .i64 x.f, .int .i64 x.d, .slice av3 k3 cv3] 27))
  clear T X TB Y YB U
  have T := Tn
  have X := Xn
  have TB := TBn
  have Y := Yn
  have YB := YBn
  have U := Un
  clear Tn Xn TBn Yn YBn Un
  go_upto_region 10 with fail
  rw [HHU.out]
  generalize wn.alloc _ = w0 at *
  obtain ⟨wn, hwq⟩ : ∃ w9 : World, w9 = w0 := ⟨_, rfl⟩
  subst hwq
  clear HHU

  refine wp_region_tg [33, 34, 35, 36, 37, 38, 39, 40, 41, 42, 43, 44, 45, 46, 47, 48, 49, 50, 51, 52, 2]
    [(33, tV (.agg #[.int .i64 y.n, .int .i64 y.m, .int .i64 y.f, .int .i64 y.d, .slice av2 k2 cv2])), (34, tV (.bool true)), (35, tV (.bool true)), (36, tV (.bool false)), (37, tV (.bool true)), (38, tV (.bool true)), (39, tV (.bool true)), (40, tV (.agg #[.int .i64 y.n, .int .i64 y.m, .int .i64 y.f, .int .i64 y.d, .slice av2 k2 cv2])), (41, tV (.int .i64 (k2 : Int))), (42, tV (.pointer (some ⟨h, 4, none⟩))), (43, tV (.slice av k2 cv)), (44, tV (.int .i64 (k2 : Int))), (45, tV (.bool true)), (46, tV (.bool true)), (47, tV (.bool true)), (48, tV (.agg #[.int .i64 y.n, .int .i64 y.m, .int .i64 y.f, .int .i64 y.d, .slice av2 k2 cv2])), (49, tF z), (50, tV (.int .i64 0)), (51, tV (.bool true)), (52, tV (.bool true)), (2, tV (.bool true))]
    (by kernel_rfl) (by kernel_rfl) (by kernel_rfl) (by kernel_rfl) (by kernel_rfl) (by kernel_rfl) ⟨StW.g (StW.V _), StW.g (StW.V _), StW.g (StW.V _), StW.g (StW.V _), StW.g (StW.V _), StW.g (StW.V _), StW.g (StW.V _), StW.g (StW.V _), StW.g (StW.V _), StW.g (StW.V _), StW.g (StW.V _), StW.g (StW.V _), StW.g (StW.V _), StW.g (StW.V _), StW.g (StW.V _), StW.g (StW.V _), StGrow.F _, StW.g (StW.V _), StW.g (StW.V _), StW.g (StW.V _), StW.g (StW.V _), trivial⟩ ?hob10 ?_
  case hob10 =>
    refine ⟨?_, ?_, ?_, ?_, ?_, ?_, ?_, ?_, ?_, ?_, ?_, ?_, ?_, ?_, ?_, ?_, ?_, ?_, ?_, ?_, ?_, trivial⟩
    · intro w1 vs hC hP hL
      refine ⟨fun hw => ?_, fun hw => ?_⟩
      · clear hw
        have u4 : vs 4 = .pointer (some ⟨HY, 0, none⟩) := hP 4 (by kernel_rfl)
        have YB9 := BoxV.below YB.out hC
        have e0 := (YB9.2 0 _ rfl).1
        have e1 := (YB9.2 1 _ rfl).1
        have e2 := (YB9.2 2 _ rfl).1
        have e3 := (YB9.2 3 _ rfl).1
        have e4 := (YB9.2 4 _ rfl).1
        clear YB9
        go_simp
        simp only [evOf_tmp, evOf_const, u4]
        go_simp
        exact oa_pure hC (show tV _ _ w1 from rfl)
      · exact absurd hw (fun e => (by cases (show true = false from e)))
    · intro w1 vs hC hP hL
      refine ⟨fun hw => ?_, fun hw => ?_⟩
      · clear hw
        have u33 : vs 33 = .agg #[.int .i64 y.n, .int .i64 y.m, .int .i64 y.f, .int .i64 y.d, .slice av2 k2 cv2] := hL 33 (by kernel_rfl)
        go_simp
        simp only [evOf_tmp, u33]
        exact oa_call hC (Calls.mono (HKW.out _ (Rid.below Y.out hC)) (fun e w2 hh => (by obtain ⟨he, hb⟩ := (by first | exact hh | exact Ro.mk hh | exact St.mk hh : Mk _ _ e w2); exact ⟨_, he, (show tV _ _ w2 from rfl), hb⟩)))
      · exact absurd hw (fun e => (by cases (show true = false from e)))
    · intro w1 vs hC hP hL
      refine ⟨fun hw => ?_, fun hw => ?_⟩
      · clear hw
        have u34 : vs 34 = .bool true := hL 34 (by kernel_rfl)
        go_simp
        simp only [evOf_tmp, evOf_const, u34]
        go_simp
        exact oa_pure hC (show tV _ _ w1 from rfl)
      · exact absurd hw (fun e => (by cases (show true = false from e)))
    · intro w1 vs hC hP hL
      have ug : vs 35 = .bool true := hL 35 (by kernel_rfl)
      refine ⟨fun hw => ?_, fun hw => ?_⟩
      · clear hw
        have u6 : vs 6 = .bool false := hP 6 (by kernel_rfl)
        go_simp
        simp only [evOf_tmp, evOf_const, u6]
        go_simp
        exact oa_pure hC (show tV _ _ w1 from rfl)
      · exact absurd hw (by show ¬ wantV (some (_, _)) vs 35 = false; unfold wantV; rw [ug]; decide)
    · intro w1 vs hC hP hL
      have ug : vs 35 = .bool true := hL 35 (by kernel_rfl)
      refine ⟨fun hw => ?_, fun hw => ?_⟩
      · clear hw
        have u36 : vs 36 = .bool false := hL 36 (by kernel_rfl)
        go_simp
        simp only [evOf_tmp, evOf_const, u36]
        go_simp
        exact oa_pure hC (show tV _ _ w1 from rfl)
      · exact absurd hw (by show ¬ wantV (some (_, _)) vs 35 = false; unfold wantV; rw [ug]; decide)
    · intro w1 vs hC hP hL
      refine ⟨fun hw => ?_, fun hw => ?_⟩
      · clear hw
        have u35 : vs 35 = .bool true := hL 35 (by kernel_rfl)
        have u37 : vs 37 = .bool true := hL 37 (by kernel_rfl)
        go_simp
        simp only [evOf_tmp, evOf_const, u35, u37]
        go_simp
        exact oa_pure hC (show tV _ _ w1 from rfl)
      · exact absurd hw (fun e => (by cases (show true = false from e)))
    · intro w1 vs hC hP hL
      refine ⟨fun hw => ?_, fun hw => ?_⟩
      · clear hw
        have u38 : vs 38 = .bool true := hL 38 (by kernel_rfl)
        go_simp
        simp only [evOf_tmp, evOf_const, u38]
        go_simp
        exact oa_pure hC (show tV _ _ w1 from rfl)
      · exact absurd hw (fun e => (by cases (show true = false from e)))
    · intro w1 vs hC hP hL
      have ug : vs 39 = .bool true := hL 39 (by kernel_rfl)
      refine ⟨fun hw => ?_, fun hw => ?_⟩
      · clear hw
        have u4 : vs 4 = .pointer (some ⟨HY, 0, none⟩) := hP 4 (by kernel_rfl)
        have YB9 := BoxV.below YB.out hC
        have e0 := (YB9.2 0 _ rfl).1
        have e1 := (YB9.2 1 _ rfl).1
        have e2 := (YB9.2 2 _ rfl).1
        have e3 := (YB9.2 3 _ rfl).1
        have e4 := (YB9.2 4 _ rfl).1
        clear YB9
        go_simp
        simp only [evOf_tmp, evOf_const, u4]
        go_simp
        exact oa_pure hC (show tV _ _ w1 from rfl)
      · exact absurd hw (by show ¬ wantV (some (_, _)) vs 39 = false; unfold wantV; rw [ug]; decide)
    · intro w1 vs hC hP hL
      have ug : vs 39 = .bool true := hL 39 (by kernel_rfl)
      refine ⟨fun hw => ?_, fun hw => ?_⟩
      · clear hw
        have u40 : vs 40 = .agg #[.int .i64 y.n, .int .i64 y.m, .int .i64 y.f, .int .i64 y.d, .slice av2 k2 cv2] := hL 40 (by kernel_rfl)
        go_simp
        simp only [evOf_tmp, u40]
        exact oa_call hC (Calls.mono (HK2.out _ (Rid.below Y.out hC)) (fun e w2 hh => (by obtain ⟨he, hb⟩ := (by first | exact hh | exact Ro.mk hh | exact St.mk hh : Mk _ _ e w2); exact ⟨_, he, (show tV _ _ w2 from rfl), hb⟩)))
      · exact absurd hw (by show ¬ wantV (some (_, _)) vs 39 = false; unfold wantV; rw [ug]; decide)
    · intro w1 vs hC hP hL
      have ug : vs 39 = .bool true := hL 39 (by kernel_rfl)
      refine ⟨fun hw => ?_, fun hw => ?_⟩
      · clear hw
        have u3 : vs 3 = .pointer (some ⟨h, 0, none⟩) := hP 3 (by kernel_rfl)
        go_simp
        simp only [evOf_tmp, evOf_const, u3]
        go_simp
        exact oa_pure hC (show tV _ _ w1 from rfl)
      · exact absurd hw (by show ¬ wantV (some (_, _)) vs 39 = false; unfold wantV; rw [ug]; decide)
    · intro w1 vs hC hP hL
      have ug : vs 39 = .bool true := hL 39 (by kernel_rfl)
      refine ⟨fun hw => ?_, fun hw => ?_⟩
      · clear hw
        have u42 : vs 42 = .pointer (some ⟨h, 4, none⟩) := hL 42 (by kernel_rfl)
        have TB9 := BoxV.below TB.out hC
        have c0 := (TB9.2 0 _ rfl).1
        have c1 := (TB9.2 1 _ rfl).1
        have c2 := (TB9.2 2 _ rfl).1
        have c3 := (TB9.2 3 _ rfl).1
        have c4 := (TB9.2 4 _ rfl).1
        clear TB9
        go_simp
        simp only [evOf_tmp, evOf_const, u42]
        go_simp
        exact oa_pure hC (show tV _ _ w1 from rfl)
      · exact absurd hw (by show ¬ wantV (some (_, _)) vs 39 = false; unfold wantV; rw [ug]; decide)
    · intro w1 vs hC hP hL
      have ug : vs 39 = .bool true := hL 39 (by kernel_rfl)
      refine ⟨fun hw => ?_, fun hw => ?_⟩
      · clear hw
        have u43 : vs 43 = .slice av k2 cv := hL 43 (by kernel_rfl)
        go_simp
        simp only [evOf_tmp, evOf_const, u43]
        go_simp
        exact oa_pure hC (show tV _ _ w1 from rfl)
      · exact absurd hw (by show ¬ wantV (some (_, _)) vs 39 = false; unfold wantV; rw [ug]; decide)
    · intro w1 vs hC hP hL
      have ug : vs 39 = .bool true := hL 39 (by kernel_rfl)
      refine ⟨fun hw => ?_, fun hw => ?_⟩
      · clear hw
        have u41 : vs 41 = .int .i64 (k2 : Int) := hL 41 (by kernel_rfl)
        have u44 : vs 44 = .int .i64 (k2 : Int) := hL 44 (by kernel_rfl)
        go_simp
        simp only [evOf_tmp, evOf_const, u41, u44]
        go_simp
        exact oa_pure hC (show tV _ _ w1 from rfl)
      · exact absurd hw (by show ¬ wantV (some (_, _)) vs 39 = false; unfold wantV; rw [ug]; decide)
    · intro w1 vs hC hP hL
      refine ⟨fun hw => ?_, fun hw => ?_⟩
      · clear hw
        have u39 : vs 39 = .bool true := hL 39 (by kernel_rfl)
        have u45 : vs 45 = .bool true := hL 45 (by kernel_rfl)
        go_simp
        simp only [evOf_tmp, evOf_const, u39, u45]
        go_simp
        exact oa_pure hC (show tV _ _ w1 from rfl)
      · exact absurd hw (fun e => (by cases (show true = false from e)))
    · intro w1 vs hC hP hL
      refine ⟨fun hw => ?_, fun hw => ?_⟩
      · clear hw
        have u46 : vs 46 = .bool true := hL 46 (by kernel_rfl)
        go_simp
        simp only [evOf_tmp, evOf_const, u46]
        go_simp
        exact oa_pure hC (show tV _ _ w1 from rfl)
      · exact absurd hw (fun e => (by cases (show true = false from e)))
    · intro w1 vs hC hP hL
      have ug : vs 47 = .bool true := hL 47 (by kernel_rfl)
      refine ⟨fun hw => ?_, fun hw => ?_⟩
      · clear hw
        have u4 : vs 4 = .pointer (some ⟨HY, 0, none⟩) := hP 4 (by kernel_rfl)
        have YB9 := BoxV.below YB.out hC
        have e0 := (YB9.2 0 _ rfl).1
        have e1 := (YB9.2 1 _ rfl).1
        have e2 := (YB9.2 2 _ rfl).1
        have e3 := (YB9.2 3 _ rfl).1
        have e4 := (YB9.2 4 _ rfl).1
        clear YB9
        go_simp
        simp only [evOf_tmp, evOf_const, u4]
        go_simp
        exact oa_pure hC (show tV _ _ w1 from rfl)
      · exact absurd hw (by show ¬ wantV (some (_, _)) vs 47 = false; unfold wantV; rw [ug]; decide)
    · intro w1 vs hC hP hL
      have ug : vs 47 = .bool true := hL 47 (by kernel_rfl)
      refine ⟨fun hw => ?_, fun hw => ?_⟩
      · clear hw
        have u48 : vs 48 = .agg #[.int .i64 y.n, .int .i64 y.m, .int .i64 y.f, .int .i64 y.d, .slice av2 k2 cv2] := hL 48 (by kernel_rfl)
        go_simp
        simp only [evOf_tmp, u48]
        exact oa_call hC (Calls.mono (HKC.out _ (Rid.below Y.out hC)) (fun e w2 hh => (by obtain ⟨v1, v2, v3, lo, hi, rfl, hO, hb2, -, -⟩ := NewC.get hh; obtain ⟨q1, j1, q2, j2, q3, j3, rfl, rfl, rfl, hCC⟩ := OwnC.open hO; exact ⟨_, rfl, (show Fre _ _ w2 from ⟨q1, j1, q2, j2, q3, j3, rfl, hCC⟩), hb2⟩)))
      · exact absurd hw (by show ¬ wantV (some (_, _)) vs 47 = false; unfold wantV; rw [ug]; decide)
    · intro w1 vs hC hP hL
      have ug : vs 47 = .bool true := hL 47 (by kernel_rfl)
      refine ⟨fun hw => ?_, fun hw => ?_⟩
      · clear hw
        have u49 : Fre (vs 49) z w1 := hL 49 (by kernel_rfl)
        obtain ⟨p491, i491, p492, i492, p493, i493, u49, hF49⟩ := u49
        go_simp
        simp only [evOf_tmp, u49]
        exact oa_call hC (Calls.mono (HKM.out _ _ _ _ _ _ _ _ _ _ hF49) (fun e w2 hh => (by obtain ⟨he, hb⟩ := (by first | exact hh | exact Ro.mk hh | exact St.mk hh : Mk _ _ e w2); exact ⟨_, he, (show tV _ _ w2 from rfl), hb⟩)))
      · exact absurd hw (by show ¬ wantV (some (_, _)) vs 47 = false; unfold wantV; rw [ug]; decide)
    · intro w1 vs hC hP hL
      have ug : vs 47 = .bool true := hL 47 (by kernel_rfl)
      refine ⟨fun hw => ?_, fun hw => ?_⟩
      · clear hw
        have u50 : vs 50 = .int .i64 0 := hL 50 (by kernel_rfl)
        go_simp
        simp only [evOf_tmp, evOf_const, u50]
        go_simp
        exact oa_pure hC (show tV _ _ w1 from rfl)
      · exact absurd hw (by show ¬ wantV (some (_, _)) vs 47 = false; unfold wantV; rw [ug]; decide)
    · intro w1 vs hC hP hL
      refine ⟨fun hw => ?_, fun hw => ?_⟩
      · clear hw
        have u47 : vs 47 = .bool true := hL 47 (by kernel_rfl)
        have u51 : vs 51 = .bool true := hL 51 (by kernel_rfl)
        go_simp
        simp only [evOf_tmp, evOf_const, u47, u51]
        go_simp
        exact oa_pure hC (show tV _ _ w1 from rfl)
      · exact absurd hw (fun e => (by cases (show true = false from e)))
    · intro w1 vs hC hP hL
      refine ⟨fun hw => ?_, fun hw => ?_⟩
      · clear hw
        have u52 : vs 52 = .bool true := hL 52 (by kernel_rfl)
        go_simp
        simp only [evOf_tmp, evOf_const, u52]
        go_simp
        exact oa_pure hC (show tV _ _ w1 from rfl)
      · exact absurd hw (fun e => (by cases (show true = false from e)))
  intro vs wq hq hT
  have t1 : vs 2 = .bool true := hT 2 rfl
  simp (decide := true) only [over, Nat.reduceAdd, if_true, if_false]
  rw [t1]
  clear hT t1
  have Tn := Lib.hid (below_next T.out hq)
  have Xn := Lib.hid (Rid.below X.out hq)
  have TBn := Lib.hid (BoxV.below TB.out hq)
  have Yn := Lib.hid (Rid.below Y.out hq)
  have YBn := Lib.hid (BoxV.below YB.out hq)
  have Un := Lib.hid (Rid.below U.out hq)
  have UBn := Lib.hid (BoxV.below UB.out hq)
  clear hq
  clear T X TB Y YB U UB
  have T := Tn
  have X := Xn
  have TB := TBn
  have Y := Yn
  have YB := YBn
  have U := Un
  have UB := UBn
  clear Tn Xn TBn Yn YBn Un UBn
  obtain ⟨wn, hwq⟩ : ∃ w0, w0 = wq := ⟨_, rfl⟩
  subst hwq
  go_wp2_with fail
  go_ret
  first | exact LawOk.mk T.out | exact LawOk.mk (Below.dr T.out _)

end Go.Proofs.Ytfhhgddajmihjaa

namespace Go.Proofs.Ytfhhgddajmihjaa
open Go.RowKit
set_option linter.unusedVariables false
set_option linter.unusedSimpArgs false
set_option maxRecDepth 100000


theorem sameCalls_z (a1 : Option Addr) (n1 k1 : Nat) (a2 : Option Addr) (n2 k2 : Nat) (a3 : Option Addr) (n3 k3 : Nat) (a4 : Option Addr) (n4 k4 : Nat) (a5 : Option Addr) (n5 k5 : Nat) (a6 : Option Addr) (n6 k6 : Nat) (x : Cs) (w : World) (hX : Cal w a1 n1 a2 n2 a3 n3 x) (hY : Cal w a4 n4 a5 n5 a6 n6 x) (m1 : n1 ≤ 1048577) (m2 : n2 ≤ 1048577) (m3 : n3 ≤ 1048577) :
    Calls Try.prog 19 #[(.agg #[.slice a1 n1 k1, .slice a2 n2 k2, .slice a3 n3 k3]), .agg #[.slice a4 n4 k4, .slice a5 n5 k5, .slice a6 n6 k6]] w (Mk w (.bool true)) := by
  have K := sameCalls_c a1 n1 k1 a2 n2 k2 a3 n3 k3 x a4 n4 k4 a5 n5 k5 a6 n6 k6 x w hX hY m1 m2 m3
  rw [tr_true rfl] at K
  exact K
theorem cns_full {s : Int} : ∀ {l : List Ri}, cns s l = l.length → ∀ r, r ∈ l → r.s = s
  | [], _, r, h => by cases h
  | q :: l, h, r, hr => by
    have h1 := cns_le s l
    unfold cns at h
    rw [List.length_cons] at h
    have hq : q.s = s := by
      by_cases g : q.s = s
      · exact g
      · rw [if_neg g] at h; omega
    rw [if_pos hq] at h
    rcases List.mem_cons.1 hr with rfl | hr
    · exact hq
    · exact cns_full (by omega) r hr
/-- There are calls exactly if somebody has not arrived. -/
theorem tc_many {t : Tp} (h : TOk t) : 0 < cm (tcl t) ↔ cns 2 t.rs < t.rs.length := by
  have hle := cns_le 2 t.rs
  have hf := (fl_nat h).2
  cases e : tnx t with
  | none =>
    obtain ⟨h5, h6⟩ := tnx_none h e
    rw [h6, cns_all h5]
    constructor <;> intro h <;> omega
  | some r =>
    constructor
    · intro _
      by_cases g : cns 2 t.rs = t.rs.length
      · exfalso
        have hs := cns_full g
        obtain ⟨-, h2, h3⟩ := stp_ok' h e
        have h4 := phi_ge _ h2.2.2.2.2.2.1
        have h5 : ∀ l : List Ri, (∀ r, r ∈ l → r.s = 2) → phi l = 0 := by
          intro l
          induction l with
          | nil => intro _; rfl
          | cons q l ih => intro hl; unfold phi; rw [ih fun r hr => hl r (by simp [hr]), hl q (by simp)]; rfl
        rw [h5 _ hs] at h3
        omega
      · omega
    · intro _
      have e0 := e
      unfold tnx at e
      rcases nx_spec (tcl t) t.f.toNat (decide (t.d = 1)) hf with ⟨e2, -⟩ | ⟨k, u, e2, h1, h2⟩
      · rw [e] at e2; cases e2
      · have h3 := srv_cm (tcl_ok h) h1 h2
        have h4 := (cm_top (srv_ok u (tcl_ok h) h1)).1
        omega
/-- A full car has no call from a floor. -/
theorem tc_full {t : Tp} (h : TOk t) (hf : (ins t.rs : Int) = t.m) (j : Nat) : bn (tcl t).u j = false ∧ bn (tcl t).d j = false := by
  have hfb : fullB t = true := by unfold fullB; rw [decide_eq_true]; omega
  obtain ⟨-, h1, h2⟩ := tcl_at h j
  constructor
  · cases e : bn (tcl t).u j with
    | false => rfl
    | true => obtain ⟨r, _, _, g, _⟩ := h1.1 e; rw [hfb] at g; cases g
  · cases e : bn (tcl t).d j with
    | false => rfl
    | true => obtain ⟨r, _, _, g, _⟩ := h2.1 e; rw [hfb] at g; cases g

set_option maxRecDepth 100000 in
set_option maxHeartbeats 16000000 in
theorem TripCalls_w (a : Option Addr) (n cap : Nat) (w : World) (hb : Byt w a n) (hn : n ≤ cap) (hcap : cap ≤ maxLen) :
    Calls Try.prog 4 #[.slice a n cap] w (LawOk w) := by
  have hcap' := hcap
  unfold maxLen at hcap'
  by_cases bign : 1048576 < n
  · go_enter Try.func4, Try.ntmps4
    go_wp2_with fail
    go_ret
    exact LawOk.mk (Below.refl _ _)
  go_enter Try.func4, Try.ntmps4
  go_wp2_with fail
  refine Calls.mono (DrawTripCalls_c a n cap _ hb hn hcap) ?_
  rintro e wn ⟨N, m, f, d, av, k, cv, l, rfl, hX, hk, hB⟩
  have T := Lib.hid hB
  have X := Lib.hid hX
  have HL := Lib.hid hX.2
  clear hB hX hb
  obtain ⟨h, hg⟩ : ∃ g, Array.size (World.heap wn) = g := ⟨_, rfl⟩
  have HGh := Lib.hid hg
  have hTh : w.heap.size ≤ h := by rw [← hg]; exact T.out.size
  have Tn := Lib.hid (show Below w.heap.size w (wn.alloc (.cells #[.int .i64 N, .int .i64 m, .int .i64 f, .int .i64 d, .slice av k cv] 27)) from (Below.al T.out (.cells #[.int .i64 N, .int .i64 m, .int .i64 f, .int .i64 d, .slice av k cv] 27)))
  have Xn := Lib.hid (Rid.below X.out (show Below wn.heap.size wn (wn.alloc (.cells #[.int .i64 N, .int .i64 m, .int .i64 f, .int .i64 d, .slice av k cv] 27)) from (Below.al (Below.refl _ _) (.cells #[.int .i64 N, .int .i64 m, .int .i64 f, .int .i64 d, .slice av k cv] 27))))
  have TB := Lib.hid (show BoxV (wn.alloc (.cells #[.int .i64 N, .int .i64 m, .int .i64 f, .int .i64 d, .slice av k cv] 27)) h [.int .i64 N, .int .i64 m, .int .i64 f, .int .i64 d, .slice av k cv] from by have h9 := (BoxV.new wn [.int .i64 N, .int .i64 m, .int .i64 f, .int .i64 d, .slice av k cv] 27 (by simp) rfl); simp only [World.size_alloc, hg, Nat.add_assoc, Nat.reduceAdd] at h9; exact h9)
  have HZh := Lib.hid (show ((wn.alloc (.cells #[.int .i64 N, .int .i64 m, .int .i64 f, .int .i64 d, .slice av k cv] 27))).heap.size = h + 1 from by simp only [World.size_alloc, hg, Nat.add_assoc, Nat.reduceAdd])
  clear hg
  clear T X
  have T := Tn
  have X := Xn
  clear Tn Xn
  have KI := fun w' (h : Rid w' av k l) => iTripCalls_c N m f d av k cv l w' h (by omega)
  have KS := fun w' (h : Rid w' av k l) => sTripCalls_c N m f d av k cv l w' h (by omega)
  have KV := fun w' (h : Rid w' av k l) => sTripValid_c N m f d av k cv l w' h (by omega)
  by_cases ht : TOk ⟨N, m, f, d, l⟩
  case neg =>
    rw [tclT_f ht] at KI KS
    rw [tokB_f ht] at KV
    have t0 : (((cz).c.length : Int) == 0) = true := rfl
    have m1 : cz.u.length ≤ 1048577 := by decide
    have m2 : cz.d.length ≤ 1048577 := by decide
    have m3 : cz.c.length ≤ 1048577 := by decide
    obtain ⟨x, hx⟩ : ∃ x, cz = x := ⟨_, rfl⟩
    rw [hx] at KI KS t0 m1 m2 m3
    have HKI := Lib.hid KI
    have HKS := Lib.hid KS
    have HKV := Lib.hid KV
    clear KI KS KV ht hx
    have c0 := (TB.out.2 0 _ rfl).1
    have c1 := (TB.out.2 1 _ rfl).1
    have c2 := (TB.out.2 2 _ rfl).1
    have c3 := (TB.out.2 3 _ rfl).1
    have c4 := (TB.out.2 4 _ rfl).1
    go_wp2_with fail
    rw [HGh.out]
    refine Calls.mono (HKI.out _ X.out) ?_
    intro e wn hh
    obtain ⟨v1, v2, v3, loP, hiP, rfl, hO, hb, hlo, hhi⟩ := NewC.get hh
    have hTP : w.heap.size ≤ loP := by rw [← hlo]; exact T.out.size
    have hltTBP := BoxV.lt TB.out
    rw [hlo] at hltTBP
    have hlhP : loP ≤ hiP := by rw [← hlo, ← hhi]; exact hb.size
    obtain ⟨Pa, Pi, Pb, Pj, Pc, Pk, rfl, rfl, rfl, -⟩ := OwnC.open hO
    have Tn := Lib.hid (below_next T.out hb)
    have Xn := Lib.hid (Rid.below X.out hb)
    have TBn := Lib.hid (BoxV.below TB.out hb)
    have P := Lib.hid hO
    have HLOP := Lib.hid hlo
    clear hb hO hh hlo hhi c0 c1 c2 c3 c4
    clear T X TB
    have T := Tn
    have X := Xn
    have TB := TBn
    clear Tn Xn TBn
    have hltTBHP := BoxV.lt TB.out
    have hltPHP := P.out.2.2.1
    have hWHP := T.out.size
    obtain ⟨HP, hHP⟩ : ∃ HP, Array.size (World.heap wn) = HP := ⟨_, rfl⟩
    have HHP : Hid _ := hHP
    rw [hHP] at hWHP hltTBHP hltPHP
    have PB : Hid (Bx (wn.alloc (.cells #[.slice Pa x.u.length Pi, .slice Pb x.d.length Pj, .slice Pc x.c.length Pk] 36)) HP (.slice Pa x.u.length Pi) (.slice Pb x.d.length Pj) (.slice Pc x.c.length Pk)) := by rw [← hHP]; exact Bx.new _ _ _ _ _
    clear hHP
    have Tn : Hid (Below w.heap.size w _) := Below.al T.out (.cells #[.slice Pa x.u.length Pi, .slice Pb x.d.length Pj, .slice Pc x.c.length Pk] 36)
    have Xn : Hid _ := Rid.below X.out ((Below.refl _ _).alloc (Nat.le_refl _) (.cells #[.slice Pa x.u.length Pi, .slice Pb x.d.length Pj, .slice Pc x.c.length Pk] 36))
    have TBn : Hid _ := BoxV.below TB.out ((Below.refl _ _).alloc (Nat.le_refl _) (.cells #[.slice Pa x.u.length Pi, .slice Pb x.d.length Pj, .slice Pc x.c.length Pk] 36))
    have Pn : Hid _ := OwnC.below P.out ((Below.refl _ _).alloc (Nat.le_refl _) (.cells #[.slice Pa x.u.length Pi, .slice Pb x.d.length Pj, .slice Pc x.c.length Pk] 36))
    clear T X TB P
    have T := Tn
    have X := Xn
    have TB := TBn
    have P := Pn
    clear Tn Xn TBn Pn
    go_wp2_with fail
    rw [HHP.out]
    generalize wn.alloc (.cells #[.slice Pa x.u.length Pi, .slice Pb x.d.length Pj, .slice Pc x.c.length Pk] 36) = w0 at *
    obtain ⟨wn, hwq⟩ : ∃ w9 : World, w9 = w0 := ⟨_, rfl⟩
    subst hwq
    refine wp_region_tg [14, 15, 16, 17, 18]
      [(14, tV (.agg #[.slice Pa x.u.length Pi, .slice Pb x.d.length Pj, .slice Pc x.c.length Pk])), (15, tV (.agg #[.int .i64 N, .int .i64 m, .int .i64 f, .int .i64 d, .slice av k cv])), (16, tF x), (17, tV (.bool true)), (18, tV (.bool false))]
      (by kernel_rfl) (by kernel_rfl) (by kernel_rfl) (by kernel_rfl) (by kernel_rfl) (by kernel_rfl) ⟨StW.g (StW.V _), StW.g (StW.V _), StGrow.F _, StW.g (StW.V _), StW.g (StW.V _), trivial⟩ ?hob5 ?_
    case hob5 =>
      refine ⟨?_, ?_, ?_, ?_, ?_, trivial⟩
      · intro w1 vs hC hP hL
        refine ⟨fun hw => ?_, fun hw => ?_⟩
        · clear hw
          have u4 : vs 4 = .pointer (some ⟨HP, 0, none⟩) := hP 4 (by kernel_rfl)
          obtain ⟨⟨c0, c1, c2⟩, -⟩ := Bx.below PB.out hC
          go_simp
          simp only [evOf_tmp, evOf_const, u4]
          go_simp
          exact oa_pure hC (show tV _ _ w1 from rfl)
        · exact absurd hw (fun e => (by cases (show true = false from e)))
      · intro w1 vs hC hP hL
        refine ⟨fun hw => ?_, fun hw => ?_⟩
        · clear hw
          have u3 : vs 3 = .pointer (some ⟨h, 0, none⟩) := hP 3 (by kernel_rfl)
          have TB9 := BoxV.below TB.out hC
          have c0 := (TB9.2 0 _ rfl).1
          have c1 := (TB9.2 1 _ rfl).1
          have c2 := (TB9.2 2 _ rfl).1
          have c3 := (TB9.2 3 _ rfl).1
          have c4 := (TB9.2 4 _ rfl).1
          clear TB9
          go_simp
          simp only [evOf_tmp, evOf_const, u3]
          go_simp
          exact oa_pure hC (show tV _ _ w1 from rfl)
        · exact absurd hw (fun e => (by cases (show true = false from e)))
      · intro w1 vs hC hP hL
        refine ⟨fun hw => ?_, fun hw => ?_⟩
        · clear hw
          have u15 : vs 15 = .agg #[.int .i64 N, .int .i64 m, .int .i64 f, .int .i64 d, .slice av k cv] := hL 15 (by kernel_rfl)
          go_simp
          simp only [evOf_tmp, u15]
          exact oa_call hC (Calls.mono (HKS.out _ (Rid.below X.out hC)) (fun e w2 hh => (by obtain ⟨v1, v2, v3, lo, hi, rfl, hO, hb2, -, -⟩ := NewC.get hh; obtain ⟨q1, j1, q2, j2, q3, j3, rfl, rfl, rfl, hCC⟩ := OwnC.open hO; exact ⟨_, rfl, (show Fre _ _ w2 from ⟨q1, j1, q2, j2, q3, j3, rfl, hCC⟩), hb2⟩)))
        · exact absurd hw (fun e => (by cases (show true = false from e)))
      · intro w1 vs hC hP hL
        refine ⟨fun hw => ?_, fun hw => ?_⟩
        · clear hw
          have u14 : vs 14 = .agg #[.slice Pa x.u.length Pi, .slice Pb x.d.length Pj, .slice Pc x.c.length Pk] := hL 14 (by kernel_rfl)
          have u16 : Fre (vs 16) x w1 := hL 16 (by kernel_rfl)
          obtain ⟨p161, i161, p162, i162, p163, i163, u16, hF16⟩ := u16
          go_simp
          simp only [evOf_tmp, u14, u16]
          exact oa_call hC (Calls.mono (sameCalls_z _ _ _ _ _ _ _ _ _ _ _ _ _ _ _ _ _ _ x _ (OwnC.cal (OwnC.below P.out hC)) hF16 m1 m2 m3) (fun e w2 hh => (by obtain ⟨he, hb⟩ := (by first | exact hh | exact Ro.mk hh | exact St.mk hh : Mk _ _ e w2); exact ⟨_, he, (show tV _ _ w2 from rfl), hb⟩)))
        · exact absurd hw (fun e => (by cases (show true = false from e)))
      · intro w1 vs hC hP hL
        refine ⟨fun hw => ?_, fun hw => ?_⟩
        · clear hw
          have u17 : vs 17 = .bool true := hL 17 (by kernel_rfl)
          go_simp
          simp only [evOf_tmp, evOf_const, u17]
          go_simp
          exact oa_pure hC (show tV _ _ w1 from rfl)
        · exact absurd hw (fun e => (by cases (show true = false from e)))
    intro vs wq hq hT
    have t1 : vs 18 = .bool false := hT 18 rfl
    simp (decide := true) only [over, Nat.reduceAdd, if_true, if_false]
    rw [t1]
    clear hT t1
    have Tn := Lib.hid (below_next T.out hq)
    have Xn := Lib.hid (Rid.below X.out hq)
    have TBn := Lib.hid (BoxV.below TB.out hq)
    have Pn := Lib.hid (OwnC.below P.out hq)
    have PBn := Lib.hid (Bx.below PB.out hq)
    clear hq
    clear T X TB P PB
    have T := Tn
    have X := Xn
    have TB := TBn
    have P := Pn
    have PB := PBn
    clear Tn Xn TBn Pn PBn
    obtain ⟨wn, hwq⟩ : ∃ w0, w0 = wq := ⟨_, rfl⟩
    subst hwq
    have c0 := (TB.out.2 0 _ rfl).1
    have c1 := (TB.out.2 1 _ rfl).1
    have c2 := (TB.out.2 2 _ rfl).1
    have c3 := (TB.out.2 3 _ rfl).1
    have c4 := (TB.out.2 4 _ rfl).1
    go_wp2_with fail
    refine Calls.mono (HKV.out _ X.out) ?_
    intro e wn hh
    obtain ⟨he, hb⟩ := (by first | exact hh | exact Ro.mk hh | exact St.mk hh | exact LawOk.mk' hh : Mk _ _ e wn)
    subst he
    have Tn : Hid (Below w.heap.size w wn) := below_next T.out hb
    have Xn : Hid _ := Rid.below X.out hb
    have TBn : Hid _ := BoxV.below TB.out hb
    have Pn : Hid _ := OwnC.below P.out hb
    have PBn : Hid _ := Bx.below PB.out hb
    clear hb hh c0 c1 c2 c3 c4
    clear T X TB P PB
    have T := Tn
    have X := Xn
    have TB := TBn
    have P := Pn
    have PB := PBn
    clear Tn Xn TBn Pn PBn
    obtain ⟨⟨c0, c1, c2⟩, -⟩ := PB.out
    go_wp2_with fail
    refine Calls.mono (alive_c _) ?_
    intro e wn hh
    obtain ⟨he, hb⟩ := (by first | exact hh | exact Ro.mk hh | exact St.mk hh | exact LawOk.mk' hh : Mk _ _ e wn)
    subst he
    have Tn : Hid (Below w.heap.size w wn) := below_next T.out hb
    have Xn : Hid _ := Rid.below X.out hb
    have TBn : Hid _ := BoxV.below TB.out hb
    have Pn : Hid _ := OwnC.below P.out hb
    have PBn : Hid _ := Bx.below PB.out hb
    clear hb hh c0 c1 c2
    clear T X TB P PB
    have T := Tn
    have X := Xn
    have TB := TBn
    have P := Pn
    have PB := PBn
    clear Tn Xn TBn Pn PBn
    go_wp2_with fail
    go_ret
    first | exact LawOk.mk T.out | exact LawOk.mk (Below.dr T.out _)
  obtain ⟨n2, rfl⟩ : ∃ n' : Nat, N = n' := ⟨N.toNat, by have := ht.1.1; simp at this; omega⟩
  have hn1 : 1 ≤ n2 := by have := ht.1.1; simp at this; omega
  have hn8 : n2 ≤ 8 := by have := ht.1.2; simp at this; omega
  rw [tclT_t ht] at KI KS
  rw [tokB_t ht] at KV
  have hmany := tc_many ht
  have hfull := tc_full ht
  have hlen := tcl_len ⟨n2, m, f, d, l⟩
  have hcv := tcl_ok ht
  have hc2 := cns_le 2 l
  have K1 := fun w' (h : Rid w' av k l) => inState_c n2 m f d 1 av k cv l w' h (by omega)
  have K2 := fun w' (h : Rid w' av k l) => inState_c n2 m f d 2 av k cv l w' h (by omega)
  have hlk : l.length = k := HL.out
  replace hmany : 0 < cm (tcl ⟨n2, m, f, d, l⟩) ↔ cns 2 l < l.length := hmany
  replace hfull : (ins l : Int) = m → _ := hfull
  replace hlen : (tcl ⟨n2, m, f, d, l⟩).u.length = n2 ∧ (tcl ⟨n2, m, f, d, l⟩).d.length = n2 ∧ (tcl ⟨n2, m, f, d, l⟩).c.length = n2 := by simpa using hlen
  rw [hlk] at hmany hc2
  rw [cns_ins] at K1
  obtain ⟨x, hx⟩ : ∃ x, tcl ⟨n2, m, f, d, l⟩ = x := ⟨_, rfl⟩
  obtain ⟨q1, hq1⟩ : ∃ q, ins l = q := ⟨_, rfl⟩
  obtain ⟨q2, hq2⟩ : ∃ q, cns 2 l = q := ⟨_, rfl⟩
  rw [hx] at KI KS hmany hfull hlen hcv
  rw [hq1] at K1 hfull
  rw [hq2] at K2 hmany hc2
  have KC := fun (w' : World) (p1 p2 p3 : Option Addr) (m1 m2 m3 i1 i2 i3 : Nat) (g : Cal w' p1 m1 p2 m2 p3 m3 x) => iCallsValid_c p1 m1 i1 p2 m2 i2 p3 m3 i3 x w' g
  have KM := fun (w' : World) (p1 p2 p3 : Option Addr) (m1 m2 m3 i1 i2 i3 : Nat) (g : Cal w' p1 m1 p2 m2 p3 m3 x) => iCallsMany_c p1 m1 i1 p2 m2 i2 p3 m3 i3 x w' g
  rw [cvB_t hcv] at KC
  obtain ⟨M, hM⟩ : ∃ M, cm x = M := ⟨_, rfl⟩
  rw [hM] at KM hmany
  have HLN := Lib.hid hlen
  have HFU := Lib.hid hfull
  have HMA := Lib.hid hmany
  have HKI := Lib.hid KI
  have HKS := Lib.hid KS
  have HKV := Lib.hid KV
  have HK1 := Lib.hid K1
  have HK2 := Lib.hid K2
  have HKC := Lib.hid KC
  have HKM := Lib.hid KM
  clear KI KS KV K1 K2 KC KM ht hx hq1 hq2 hM hmany hfull hlen hcv hlk
  have c0 := (TB.out.2 0 _ rfl).1
  have c1 := (TB.out.2 1 _ rfl).1
  have c2 := (TB.out.2 2 _ rfl).1
  have c3 := (TB.out.2 3 _ rfl).1
  have c4 := (TB.out.2 4 _ rfl).1
  go_wp2_with fail
  rw [HGh.out]
  refine Calls.mono (HKI.out _ X.out) ?_
  intro e wn hh
  obtain ⟨v1, v2, v3, loP, hiP, rfl, hO, hb, hlo, hhi⟩ := NewC.get hh
  have hTP : w.heap.size ≤ loP := by rw [← hlo]; exact T.out.size
  have hltTBP := BoxV.lt TB.out
  rw [hlo] at hltTBP
  have hlhP : loP ≤ hiP := by rw [← hlo, ← hhi]; exact hb.size
  obtain ⟨Pa, Pi, Pb, Pj, Pc, Pk, rfl, rfl, rfl, -⟩ := OwnC.open hO
  have Tn := Lib.hid (below_next T.out hb)
  have Xn := Lib.hid (Rid.below X.out hb)
  have TBn := Lib.hid (BoxV.below TB.out hb)
  have P := Lib.hid hO
  have HLOP := Lib.hid hlo
  clear hb hO hh hlo hhi c0 c1 c2 c3 c4
  clear T X TB
  have T := Tn
  have X := Xn
  have TB := TBn
  clear Tn Xn TBn
  obtain ⟨p1, p2, p3, ⟨e1, e2, e3⟩, -, ⟨r1, r2, r3, r4, r5, r6⟩, -⟩ := OwnC.somes P.out (by rw [HLN.out.1]; omega) (by rw [HLN.out.2.1]; omega) (by rw [HLN.out.2.2]; omega)
  subst e1 e2 e3
  rw [HLN.out.1, HLN.out.2.1, HLN.out.2.2] at P
  rw [HLN.out.1, HLN.out.2.1, HLN.out.2.2]
  have hltTBHP := BoxV.lt TB.out
  have hltPHP := P.out.2.2.1
  have hWHP := T.out.size
  obtain ⟨HP, hHP⟩ : ∃ HP, Array.size (World.heap wn) = HP := ⟨_, rfl⟩
  have HHP : Hid _ := hHP
  rw [hHP] at hWHP hltTBHP hltPHP
  have PB : Hid (Bx (wn.alloc (.cells #[.slice (some ⟨p1, 0, none⟩) n2 Pi, .slice (some ⟨p2, 0, none⟩) n2 Pj, .slice (some ⟨p3, 0, none⟩) n2 Pk] 36)) HP (.slice (some ⟨p1, 0, none⟩) n2 Pi) (.slice (some ⟨p2, 0, none⟩) n2 Pj) (.slice (some ⟨p3, 0, none⟩) n2 Pk)) := by rw [← hHP]; exact Bx.new _ _ _ _ _
  clear hHP
  have Tn : Hid (Below w.heap.size w _) := Below.al T.out (.cells #[.slice (some ⟨p1, 0, none⟩) n2 Pi, .slice (some ⟨p2, 0, none⟩) n2 Pj, .slice (some ⟨p3, 0, none⟩) n2 Pk] 36)
  have Xn : Hid _ := Rid.below X.out ((Below.refl _ _).alloc (Nat.le_refl _) (.cells #[.slice (some ⟨p1, 0, none⟩) n2 Pi, .slice (some ⟨p2, 0, none⟩) n2 Pj, .slice (some ⟨p3, 0, none⟩) n2 Pk] 36))
  have TBn : Hid _ := BoxV.below TB.out ((Below.refl _ _).alloc (Nat.le_refl _) (.cells #[.slice (some ⟨p1, 0, none⟩) n2 Pi, .slice (some ⟨p2, 0, none⟩) n2 Pj, .slice (some ⟨p3, 0, none⟩) n2 Pk] 36))
  have Pn : Hid _ := OwnC.below P.out ((Below.refl _ _).alloc (Nat.le_refl _) (.cells #[.slice (some ⟨p1, 0, none⟩) n2 Pi, .slice (some ⟨p2, 0, none⟩) n2 Pj, .slice (some ⟨p3, 0, none⟩) n2 Pk] 36))
  clear T X TB P
  have T := Tn
  have X := Xn
  have TB := TBn
  have P := Pn
  clear Tn Xn TBn Pn
  go_wp2_with fail
  rw [HHP.out]
  generalize wn.alloc (.cells #[.slice (some ⟨p1, 0, none⟩) n2 Pi, .slice (some ⟨p2, 0, none⟩) n2 Pj, .slice (some ⟨p3, 0, none⟩) n2 Pk] 36) = w0 at *
  obtain ⟨wn, hwq⟩ : ∃ w9 : World, w9 = w0 := ⟨_, rfl⟩
  subst hwq
  refine wp_region_tg [14, 15, 16, 17, 18]
    [(14, tV (.agg #[.slice (some ⟨p1, 0, none⟩) n2 Pi, .slice (some ⟨p2, 0, none⟩) n2 Pj, .slice (some ⟨p3, 0, none⟩) n2 Pk])), (15, tV (.agg #[.int .i64 (n2 : Int), .int .i64 m, .int .i64 f, .int .i64 d, .slice av k cv])), (16, tF x), (17, tV (.bool true)), (18, tV (.bool false))]
    (by kernel_rfl) (by kernel_rfl) (by kernel_rfl) (by kernel_rfl) (by kernel_rfl) (by kernel_rfl) ⟨StW.g (StW.V _), StW.g (StW.V _), StGrow.F _, StW.g (StW.V _), StW.g (StW.V _), trivial⟩ ?hob5 ?_
  case hob5 =>
    refine ⟨?_, ?_, ?_, ?_, ?_, trivial⟩
    · intro w1 vs hC hP hL
      refine ⟨fun hw => ?_, fun hw => ?_⟩
      · clear hw
        have u4 : vs 4 = .pointer (some ⟨HP, 0, none⟩) := hP 4 (by kernel_rfl)
        obtain ⟨⟨c0, c1, c2⟩, -⟩ := Bx.below PB.out hC
        go_simp
        simp only [evOf_tmp, evOf_const, u4]
        go_simp
        exact oa_pure hC (show tV _ _ w1 from rfl)
      · exact absurd hw (fun e => (by cases (show true = false from e)))
    · intro w1 vs hC hP hL
      refine ⟨fun hw => ?_, fun hw => ?_⟩
      · clear hw
        have u3 : vs 3 = .pointer (some ⟨h, 0, none⟩) := hP 3 (by kernel_rfl)
        have TB9 := BoxV.below TB.out hC
        have c0 := (TB9.2 0 _ rfl).1
        have c1 := (TB9.2 1 _ rfl).1
        have c2 := (TB9.2 2 _ rfl).1
        have c3 := (TB9.2 3 _ rfl).1
        have c4 := (TB9.2 4 _ rfl).1
        clear TB9
        go_simp
        simp only [evOf_tmp, evOf_const, u3]
        go_simp
        exact oa_pure hC (show tV _ _ w1 from rfl)
      · exact absurd hw (fun e => (by cases (show true = false from e)))
    · intro w1 vs hC hP hL
      refine ⟨fun hw => ?_, fun hw => ?_⟩
      · clear hw
        have u15 : vs 15 = .agg #[.int .i64 (n2 : Int), .int .i64 m, .int .i64 f, .int .i64 d, .slice av k cv] := hL 15 (by kernel_rfl)
        go_simp
        simp only [evOf_tmp, u15]
        exact oa_call hC (Calls.mono (HKS.out _ (Rid.below X.out hC)) (fun e w2 hh => (by obtain ⟨v1, v2, v3, lo, hi, rfl, hO, hb2, -, -⟩ := NewC.get hh; obtain ⟨q1, j1, q2, j2, q3, j3, rfl, rfl, rfl, hCC⟩ := OwnC.open hO; exact ⟨_, rfl, (show Fre _ _ w2 from ⟨q1, j1, q2, j2, q3, j3, rfl, hCC⟩), hb2⟩)))
      · exact absurd hw (fun e => (by cases (show true = false from e)))
    · intro w1 vs hC hP hL
      refine ⟨fun hw => ?_, fun hw => ?_⟩
      · clear hw
        have u14 : vs 14 = .agg #[.slice (some ⟨p1, 0, none⟩) n2 Pi, .slice (some ⟨p2, 0, none⟩) n2 Pj, .slice (some ⟨p3, 0, none⟩) n2 Pk] := hL 14 (by kernel_rfl)
        have u16 : Fre (vs 16) x w1 := hL 16 (by kernel_rfl)
        obtain ⟨p161, i161, p162, i162, p163, i163, u16, hF16⟩ := u16
        go_simp
        simp only [evOf_tmp, u14, u16]
        exact oa_call hC (Calls.mono (sameCalls_z _ _ _ _ _ _ _ _ _ _ _ _ _ _ _ _ _ _ x _ (OwnC.cal (OwnC.below P.out hC)) hF16 (by omega) (by omega) (by omega)) (fun e w2 hh => (by obtain ⟨he, hb⟩ := (by first | exact hh | exact Ro.mk hh | exact St.mk hh : Mk _ _ e w2); exact ⟨_, he, (show tV _ _ w2 from rfl), hb⟩)))
      · exact absurd hw (fun e => (by cases (show true = false from e)))
    · intro w1 vs hC hP hL
      refine ⟨fun hw => ?_, fun hw => ?_⟩
      · clear hw
        have u17 : vs 17 = .bool true := hL 17 (by kernel_rfl)
        go_simp
        simp only [evOf_tmp, evOf_const, u17]
        go_simp
        exact oa_pure hC (show tV _ _ w1 from rfl)
      · exact absurd hw (fun e => (by cases (show true = false from e)))
  intro vs wq hq hT
  have t1 : vs 18 = .bool false := hT 18 rfl
  simp (decide := true) only [over, Nat.reduceAdd, if_true, if_false]
  rw [t1]
  clear hT t1
  have Tn := Lib.hid (below_next T.out hq)
  have Xn := Lib.hid (Rid.below X.out hq)
  have TBn := Lib.hid (BoxV.below TB.out hq)
  have Pn := Lib.hid (OwnC.below P.out hq)
  have PBn := Lib.hid (Bx.below PB.out hq)
  clear hq
  clear T X TB P PB
  have T := Tn
  have X := Xn
  have TB := TBn
  have P := Pn
  have PB := PBn
  clear Tn Xn TBn Pn PBn
  obtain ⟨wn, hwq⟩ : ∃ w0, w0 = wq := ⟨_, rfl⟩
  subst hwq
  have c0 := (TB.out.2 0 _ rfl).1
  have c1 := (TB.out.2 1 _ rfl).1
  have c2 := (TB.out.2 2 _ rfl).1
  have c3 := (TB.out.2 3 _ rfl).1
  have c4 := (TB.out.2 4 _ rfl).1
  go_wp2_with fail
  refine Calls.mono (HKV.out _ X.out) ?_
  intro e wn hh
  obtain ⟨he, hb⟩ := (by first | exact hh | exact Ro.mk hh | exact St.mk hh | exact LawOk.mk' hh : Mk _ _ e wn)
  subst he
  have Tn : Hid (Below w.heap.size w wn) := below_next T.out hb
  have Xn : Hid _ := Rid.below X.out hb
  have TBn : Hid _ := BoxV.below TB.out hb
  have Pn : Hid _ := OwnC.below P.out hb
  have PBn : Hid _ := Bx.below PB.out hb
  clear hb hh c0 c1 c2 c3 c4
  clear T X TB P PB
  have T := Tn
  have X := Xn
  have TB := TBn
  have P := Pn
  have PB := PBn
  clear Tn Xn TBn Pn PBn
  go_upto_region 9 with fail
  refine wp_region_quiet (C := fun w' => Below (World.heap (wn)).size (wn) w') (by kernel_rfl) (by kernel_rfl) (by first | exact ⟨rfl, rfl, rfl, Nat.le_refl _, fun _ _ => rfl⟩ | exact Below.dw (by repeat (first | exact Below.refl _ _ | refine Below.al ?_ _ | refine Below.dr ?_ _ | refine Below.dw ?_ | refine Below.st ?_ (by first | exact Nat.le_refl _ | exact Nat.le_add_right _ _ | (simp; omega)) _ | (refine below_next ?_ (by assumption))))) ?_
  simp only []
  repeat (go_big_quiet_step (first | (intro _; with_reducible exact rfl) | (intro hC; go_at_call 21; have TB9 := BoxV.below TB.out hC; have c0 := (TB9.2 0 _ rfl).1; have c1 := (TB9.2 1 _ rfl).1; have c2 := (TB9.2 2 _ rfl).1; have c3 := (TB9.2 3 _ rfl).1; have c4 := (TB9.2 4 _ rfl).1; clear TB9; (refine Calls.mono (HK1.out _ (Rid.below X.out hC)) ?_); (first | (rintro e wx ⟨rfl, hb⟩; exact ⟨rfl, below_next hC hb⟩) | (rintro e wx ⟨rfl, n, rfl⟩; exact ⟨rfl, Below.dr hC n⟩) | (rintro e wx ⟨rfl, rfl⟩; exact ⟨rfl, hC⟩))) | (intro hC; have TB9 := BoxV.below TB.out hC; have c0 := (TB9.2 0 _ rfl).1; have c1 := (TB9.2 1 _ rfl).1; have c2 := (TB9.2 2 _ rfl).1; have c3 := (TB9.2 3 _ rfl).1; have c4 := (TB9.2 4 _ rfl).1; clear TB9; go_simp; rfl)))
  refine wpQuiet_nil ?_
  intro wq hq
  have Tn := Lib.hid (below_next T.out hq)
  have Xn := Lib.hid (Rid.below X.out hq)
  have TBn := Lib.hid (BoxV.below TB.out hq)
  have Pn := Lib.hid (OwnC.below P.out hq)
  have PBn := Lib.hid (Bx.below PB.out hq)
  clear hq
  clear T X TB P PB
  have T := Tn
  have X := Xn
  have TB := TBn
  have P := Pn
  have PB := PBn
  clear Tn Xn TBn Pn PBn
  obtain ⟨wn, hwq⟩ : ∃ w0, w0 = wq := ⟨_, rfl⟩
  subst hwq
  obtain ⟨fu, hfu⟩ : ∃ fu, ((q1 : Int) == m) = fu := ⟨_, rfl⟩
  rw [hfu]
  have HFV := Lib.hid (show fu = true → ∀ j, bn x.u j = false ∧ bn x.d j = false from fun e => HFU.out (by rw [e] at hfu; simpa using hfu))
  clear hfu HFU
  obtain ⟨⟨e0, e1, e2⟩, -⟩ := PB.out
  go_wp2_with fail
  go_loopw [6] (fun v wr => ∃ j : Nat, j ≤ n2 ∧ v = .int .i64 j ∧ Below w.heap.size w wr ∧ Rid wr av k l ∧ BoxV wr h [.int .i64 (n2 : Int), .int .i64 m, .int .i64 f, .int .i64 d, .slice av k cv] ∧ OwnC wr loP hiP (.slice (some ⟨p1, 0, none⟩) n2 Pi) (.slice (some ⟨p2, 0, none⟩) n2 Pj) (.slice (some ⟨p3, 0, none⟩) n2 Pk) x ∧ Bx wr HP (.slice (some ⟨p1, 0, none⟩) n2 Pi) (.slice (some ⟨p2, 0, none⟩) n2 Pj) (.slice (some ⟨p3, 0, none⟩) n2 Pk)) (fun v _ => n2 - (intOf v).toNat)
  case atStart => exact ⟨0, by omega, rfl, T.out, X.out, TB.out, P.out, PB.out⟩
  case' round =>
    clear T X TB P PB e0 e1 e2
    obtain ⟨j, hj, rfl, h9T, h9X, h9TB, h9P, h9PB⟩ := hrel
    obtain ⟨wn, hwq⟩ : ∃ w0 : World, w0 = wr := ⟨_, rfl⟩
    rw [← hwq] at h9T h9X h9TB h9P h9PB ⊢
    clear hwq
    have T := Lib.hid h9T
    have X := Lib.hid h9X
    have TB := Lib.hid h9TB
    have P := Lib.hid h9P
    have PB := Lib.hid h9PB
    clear h9T h9X h9TB h9P h9PB
    by_cases hlt : j < n2
    case pos =>
      have hji : (j : Int) < (n2 : Int) := by omega
      obtain ⟨⟨e0, e1, e2⟩, -⟩ := PB.out
      cases fu with
      | false =>
        go_wp2_with fail
        go_roundw
        case rel => exact ⟨j + 1, by omega, by go_num, T.out, X.out, TB.out, P.out, PB.out⟩
        case measure => first | (simp [intOf]; done) | (simp [intOf]; omega) | omega
      | true =>
        have h9 := HFV.out rfl j
        obtain ⟨z1, z2, -⟩ := And.intro (BS.cell (OwnC.cal P.out).1 hlt) (And.intro (BS.cell (OwnC.cal P.out).2.1 hlt) (BS.cell (OwnC.cal P.out).2.2 hlt))
        simp only [Nat.zero_add] at z1 z2
        rw [h9.1] at z1
        rw [h9.2] at z2
        clear h9
        go_wp2_with fail
        go_roundw
        case rel => exact ⟨j + 1, by omega, by go_num, T.out, X.out, TB.out, P.out, PB.out⟩
        case measure => first | (simp [intOf]; done) | (simp [intOf]; omega) | omega
    obtain rfl : n2 = j := by omega
    obtain ⟨⟨e0, e1, e2⟩, -⟩ := PB.out
    go_wp2_with fail
    clear e0 e1 e2
    by_cases hM : 0 < M
    case pos =>
      have v1 : decide (0 < M) = true := decide_eq_true hM
      have h2 := HMA.out.1 hM
      have v2 : decide ((q2 : Int) < (k : Int)) = true := decide_eq_true (by omega)
      have v3 : decide (q2 < k) = true := decide_eq_true h2
      clear HMA hM h2
      refine wp_region_quiet (C := fun w' => Below (World.heap (wn)).size (wn) w') (by kernel_rfl) (by kernel_rfl) (by first | exact ⟨rfl, rfl, rfl, Nat.le_refl _, fun _ _ => rfl⟩ | exact Below.dw (by repeat (first | exact Below.refl _ _ | refine Below.al ?_ _ | refine Below.dr ?_ _ | refine Below.dw ?_ | refine Below.st ?_ (by first | exact Nat.le_refl _ | exact Nat.le_add_right _ _ | (simp; omega)) _ | (refine below_next ?_ (by assumption))))) ?_
      simp only []
      repeat (go_big_quiet_step (first | (intro _; with_reducible exact rfl) | (intro hC; go_at_call 22; obtain ⟨⟨e0, e1, e2⟩, -⟩ := Bx.below PB.out hC; have TB9 := BoxV.below TB.out hC; have c0 := (TB9.2 0 _ rfl).1; have c1 := (TB9.2 1 _ rfl).1; have c2 := (TB9.2 2 _ rfl).1; have c3 := (TB9.2 3 _ rfl).1; have c4 := (TB9.2 4 _ rfl).1; clear TB9; have Z0 := Lib.hid (HKC.out _ _ _ _ _ _ _ Pi Pj Pk (OwnC.cal (OwnC.below P.out hC))); have Z1 := Lib.hid (HKM.out _ _ _ _ _ _ _ Pi Pj Pk (OwnC.cal (OwnC.below P.out hC))); have Z2 := Lib.hid (HK2.out _ (Rid.below X.out hC)); (with_reducible refine Calls.mono (Z0.out) ?_); (first | (rintro e wx ⟨rfl, hb⟩; exact ⟨rfl, below_next hC hb⟩) | (rintro e wx ⟨rfl, n, rfl⟩; exact ⟨rfl, Below.dr hC n⟩) | (rintro e wx ⟨rfl, rfl⟩; exact ⟨rfl, hC⟩))) | (intro hC; go_at_call 23; obtain ⟨⟨e0, e1, e2⟩, -⟩ := Bx.below PB.out hC; have TB9 := BoxV.below TB.out hC; have c0 := (TB9.2 0 _ rfl).1; have c1 := (TB9.2 1 _ rfl).1; have c2 := (TB9.2 2 _ rfl).1; have c3 := (TB9.2 3 _ rfl).1; have c4 := (TB9.2 4 _ rfl).1; clear TB9; have Z0 := Lib.hid (HKC.out _ _ _ _ _ _ _ Pi Pj Pk (OwnC.cal (OwnC.below P.out hC))); have Z1 := Lib.hid (HKM.out _ _ _ _ _ _ _ Pi Pj Pk (OwnC.cal (OwnC.below P.out hC))); have Z2 := Lib.hid (HK2.out _ (Rid.below X.out hC)); (with_reducible refine Calls.mono (Z1.out) ?_); (first | (rintro e wx ⟨rfl, hb⟩; exact ⟨rfl, below_next hC hb⟩) | (rintro e wx ⟨rfl, n, rfl⟩; exact ⟨rfl, Below.dr hC n⟩) | (rintro e wx ⟨rfl, rfl⟩; exact ⟨rfl, hC⟩))) | (intro hC; go_at_call 21; obtain ⟨⟨e0, e1, e2⟩, -⟩ := Bx.below PB.out hC; have TB9 := BoxV.below TB.out hC; have c0 := (TB9.2 0 _ rfl).1; have c1 := (TB9.2 1 _ rfl).1; have c2 := (TB9.2 2 _ rfl).1; have c3 := (TB9.2 3 _ rfl).1; have c4 := (TB9.2 4 _ rfl).1; clear TB9; have Z0 := Lib.hid (HKC.out _ _ _ _ _ _ _ Pi Pj Pk (OwnC.cal (OwnC.below P.out hC))); have Z1 := Lib.hid (HKM.out _ _ _ _ _ _ _ Pi Pj Pk (OwnC.cal (OwnC.below P.out hC))); have Z2 := Lib.hid (HK2.out _ (Rid.below X.out hC)); (with_reducible refine Calls.mono (Z2.out) ?_); (first | (rintro e wx ⟨rfl, hb⟩; exact ⟨rfl, below_next hC hb⟩) | (rintro e wx ⟨rfl, n, rfl⟩; exact ⟨rfl, Below.dr hC n⟩) | (rintro e wx ⟨rfl, rfl⟩; exact ⟨rfl, hC⟩))) | (intro hC; obtain ⟨⟨e0, e1, e2⟩, -⟩ := Bx.below PB.out hC; have TB9 := BoxV.below TB.out hC; have c0 := (TB9.2 0 _ rfl).1; have c1 := (TB9.2 1 _ rfl).1; have c2 := (TB9.2 2 _ rfl).1; have c3 := (TB9.2 3 _ rfl).1; have c4 := (TB9.2 4 _ rfl).1; clear TB9; have Z0 := Lib.hid (HKC.out _ _ _ _ _ _ _ Pi Pj Pk (OwnC.cal (OwnC.below P.out hC))); have Z1 := Lib.hid (HKM.out _ _ _ _ _ _ _ Pi Pj Pk (OwnC.cal (OwnC.below P.out hC))); have Z2 := Lib.hid (HK2.out _ (Rid.below X.out hC)); go_simp; rfl)))
      refine wpQuiet_nil ?_
      intro wq hq
      have Tn := Lib.hid (below_next T.out hq)
      have Xn := Lib.hid (Rid.below X.out hq)
      have TBn := Lib.hid (BoxV.below TB.out hq)
      have Pn := Lib.hid (OwnC.below P.out hq)
      have PBn := Lib.hid (Bx.below PB.out hq)
      clear hq
      clear T X TB P PB
      have T := Tn
      have X := Xn
      have TB := TBn
      have P := Pn
      have PB := PBn
      clear Tn Xn TBn Pn PBn
      obtain ⟨wn, hwq⟩ : ∃ w0, w0 = wq := ⟨_, rfl⟩
      subst hwq
      go_wp2_with fail
      go_ret
      first | exact LawOk.mk T.out | exact LawOk.mk (Below.dr T.out _)
    have v1 : decide (0 < M) = false := decide_eq_false hM
    have h2 : ¬ q2 < k := fun h => hM (HMA.out.2 h)
    have v2 : decide ((q2 : Int) < (k : Int)) = false := decide_eq_false (by omega)
    have v3 : decide (q2 < k) = false := decide_eq_false h2
    clear HMA hM h2
    refine wp_region_quiet (C := fun w' => Below (World.heap (wn)).size (wn) w') (by kernel_rfl) (by kernel_rfl) (by first | exact ⟨rfl, rfl, rfl, Nat.le_refl _, fun _ _ => rfl⟩ | exact Below.dw (by repeat (first | exact Below.refl _ _ | refine Below.al ?_ _ | refine Below.dr ?_ _ | refine Below.dw ?_ | refine Below.st ?_ (by first | exact Nat.le_refl _ | exact Nat.le_add_right _ _ | (simp; omega)) _ | (refine below_next ?_ (by assumption))))) ?_
    simp only []
    repeat (go_big_quiet_step (first | (intro _; with_reducible exact rfl) | (intro hC; go_at_call 22; obtain ⟨⟨e0, e1, e2⟩, -⟩ := Bx.below PB.out hC; have TB9 := BoxV.below TB.out hC; have c0 := (TB9.2 0 _ rfl).1; have c1 := (TB9.2 1 _ rfl).1; have c2 := (TB9.2 2 _ rfl).1; have c3 := (TB9.2 3 _ rfl).1; have c4 := (TB9.2 4 _ rfl).1; clear TB9; have Z0 := Lib.hid (HKC.out _ _ _ _ _ _ _ Pi Pj Pk (OwnC.cal (OwnC.below P.out hC))); have Z1 := Lib.hid (HKM.out _ _ _ _ _ _ _ Pi Pj Pk (OwnC.cal (OwnC.below P.out hC))); have Z2 := Lib.hid (HK2.out _ (Rid.below X.out hC)); (with_reducible refine Calls.mono (Z0.out) ?_); (first | (rintro e wx ⟨rfl, hb⟩; exact ⟨rfl, below_next hC hb⟩) | (rintro e wx ⟨rfl, n, rfl⟩; exact ⟨rfl, Below.dr hC n⟩) | (rintro e wx ⟨rfl, rfl⟩; exact ⟨rfl, hC⟩))) | (intro hC; go_at_call 23; obtain ⟨⟨e0, e1, e2⟩, -⟩ := Bx.below PB.out hC; have TB9 := BoxV.below TB.out hC; have c0 := (TB9.2 0 _ rfl).1; have c1 := (TB9.2 1 _ rfl).1; have c2 := (TB9.2 2 _ rfl).1; have c3 := (TB9.2 3 _ rfl).1; have c4 := (TB9.2 4 _ rfl).1; clear TB9; have Z0 := Lib.hid (HKC.out _ _ _ _ _ _ _ Pi Pj Pk (OwnC.cal (OwnC.below P.out hC))); have Z1 := Lib.hid (HKM.out _ _ _ _ _ _ _ Pi Pj Pk (OwnC.cal (OwnC.below P.out hC))); have Z2 := Lib.hid (HK2.out _ (Rid.below X.out hC)); (with_reducible refine Calls.mono (Z1.out) ?_); (first | (rintro e wx ⟨rfl, hb⟩; exact ⟨rfl, below_next hC hb⟩) | (rintro e wx ⟨rfl, n, rfl⟩; exact ⟨rfl, Below.dr hC n⟩) | (rintro e wx ⟨rfl, rfl⟩; exact ⟨rfl, hC⟩))) | (intro hC; go_at_call 21; obtain ⟨⟨e0, e1, e2⟩, -⟩ := Bx.below PB.out hC; have TB9 := BoxV.below TB.out hC; have c0 := (TB9.2 0 _ rfl).1; have c1 := (TB9.2 1 _ rfl).1; have c2 := (TB9.2 2 _ rfl).1; have c3 := (TB9.2 3 _ rfl).1; have c4 := (TB9.2 4 _ rfl).1; clear TB9; have Z0 := Lib.hid (HKC.out _ _ _ _ _ _ _ Pi Pj Pk (OwnC.cal (OwnC.below P.out hC))); have Z1 := Lib.hid (HKM.out _ _ _ _ _ _ _ Pi Pj Pk (OwnC.cal (OwnC.below P.out hC))); have Z2 := Lib.hid (HK2.out _ (Rid.below X.out hC)); (with_reducible refine Calls.mono (Z2.out) ?_); (first | (rintro e wx ⟨rfl, hb⟩; exact ⟨rfl, below_next hC hb⟩) | (rintro e wx ⟨rfl, n, rfl⟩; exact ⟨rfl, Below.dr hC n⟩) | (rintro e wx ⟨rfl, rfl⟩; exact ⟨rfl, hC⟩))) | (intro hC; obtain ⟨⟨e0, e1, e2⟩, -⟩ := Bx.below PB.out hC; have TB9 := BoxV.below TB.out hC; have c0 := (TB9.2 0 _ rfl).1; have c1 := (TB9.2 1 _ rfl).1; have c2 := (TB9.2 2 _ rfl).1; have c3 := (TB9.2 3 _ rfl).1; have c4 := (TB9.2 4 _ rfl).1; clear TB9; have Z0 := Lib.hid (HKC.out _ _ _ _ _ _ _ Pi Pj Pk (OwnC.cal (OwnC.below P.out hC))); have Z1 := Lib.hid (HKM.out _ _ _ _ _ _ _ Pi Pj Pk (OwnC.cal (OwnC.below P.out hC))); have Z2 := Lib.hid (HK2.out _ (Rid.below X.out hC)); go_simp; rfl)))
    refine wpQuiet_nil ?_
    intro wq hq
    have Tn := Lib.hid (below_next T.out hq)
    have Xn := Lib.hid (Rid.below X.out hq)
    have TBn := Lib.hid (BoxV.below TB.out hq)
    have Pn := Lib.hid (OwnC.below P.out hq)
    have PBn := Lib.hid (Bx.below PB.out hq)
    clear hq
    clear T X TB P PB
    have T := Tn
    have X := Xn
    have TB := TBn
    have P := Pn
    have PB := PBn
    clear Tn Xn TBn Pn PBn
    obtain ⟨wn, hwq⟩ : ∃ w0, w0 = wq := ⟨_, rfl⟩
    subst hwq
    go_wp2_with fail
    go_ret
    first | exact LawOk.mk T.out | exact LawOk.mk (Below.dr T.out _)
end Go.Proofs.Ytfhhgddajmihjaa

namespace Go.Proofs.Ytfhhgddajmihjaa
open Go.RowKit
set_option linter.unusedVariables false
set_option linter.unusedSimpArgs false
set_option maxRecDepth 100000


theorem wpList_max9 {w : World} {ops : Array Oper} {rest : List Oper} {act : Act} {Q : Exit → Act → World → Prop} {d : Option Tmp} {s x : Operand} {ats : Array TypeId} {ty0 : TypeId} {ps : String} {af : Array Edge} {a b m : Int}
    (hs : act.eval s = .int .i64 a) (hx : act.eval x = .int .i64 b) (hm : (if b > a then b else a) = m) (hK : wpList Try.prog ops Q rest (act.put d (.int .i64 m)) w) :
    wpList Try.prog ops Q ({ dst := d, op := .call { callee := .builtin .max, args := #[s, x], argTypes := ats }, type := ty0, pos := ps, after := af, guard := none } :: rest) act w := by
  refine wpList_step fun K hK2 => ?_
  rw [if_pos (by rfl)]
  unfold Oper.wp execOp
  simp only [resolve, invoke, builtin, Sem.run_bind, Sem.run_pure, Result.andThen_ok, List.map_toArray, List.map_cons, List.map_nil, hs, hx, run_max_int2, hm]
  exact hK2 _ _ hK
/-- Who has gone in or out among the first. -/
def mvd (l l' : List Ri) : Nat → Bool
  | 0 => false
  | i + 1 => mvd l l' i || (rat l i).s != (rat l' i).s
theorem rat_cons0 (r : Ri) (l : List Ri) : rat (r :: l) 0 = r := rfl
theorem rat_consS (r : Ri) (l : List Ri) (i : Nat) : rat (r :: l) (i + 1) = rat l i := rfl
theorem mvd_cons (r r' : Ri) (l l' : List Ri) : ∀ i, mvd (r :: l) (r' :: l') (i + 1) = ((r.s != r'.s) || mvd l l' i)
  | 0 => by simp [mvd, rat_cons0]
  | i + 1 => by
    rw [mvd, mvd_cons r r' l l' i, rat_consS, rat_consS, mvd, Bool.or_assoc]
theorem mvd_phi : ∀ l l' : List Ri, l.length = l'.length → mvd l l' l.length = false → phi l = phi l'
  | [], [], _, _ => rfl
  | [], _ :: _, h, _ => by simp at h
  | _ :: _, [], h, _ => by simp at h
  | r :: l, r' :: l', h, hm => by
    rw [List.length_cons, mvd_cons] at hm
    rw [Bool.or_eq_false_iff] at hm
    have h1 := mvd_phi l l' (by simpa using h) hm.2
    have h2 : r.s = r'.s := by have := hm.1; simpa using this
    unfold phi
    rw [h1, h2]
theorem gin_at (m k D : Int) : ∀ (l : List Ri) (c i : Nat), i < l.length → rat (gin m k D c l) i = rat l i ∨ ((rat l i).s = 0 ∧ rat (gin m k D c l) i = ⟨(rat l i).a, (rat l i).b, 1⟩)
  | [], c, i, h => by simp at h
  | r :: l, c, 0, h => by
    unfold gin
    split
    · rename_i g; exact .inr ⟨g.1, rfl⟩
    · exact .inl rfl
  | r :: l, c, i + 1, h => by
    unfold gin
    split
    · rw [rat_consS, rat_consS]; exact gin_at m k D l _ i (by simpa using h)
    · rw [rat_consS, rat_consS]; exact gin_at m k D l _ i (by simpa using h)
theorem rat_map (g : Ri → Ri) {l : List Ri} {i : Nat} (h : i < l.length) : rat (l.map g) i = g (rat l i) := by
  rw [rat_eq h, rat_eq (by simpa using h)]; simp
/-- A rider behind a stop. -/
theorem goR_at {m k D : Int} {l : List Ri} {i : Nat} (h : i < l.length) (hs : 0 ≤ (rat l i).s ∧ (rat l i).s ≤ 2) : ∃ s', rat (goR m k D l) i = ⟨(rat l i).a, (rat l i).b, s'⟩ ∧ (rat l i).s ≤ s' := by
  unfold goR
  have h1 : i < (l.map (gout k)).length := by simpa using h
  have h2 : (gout k (rat l i)).a = (rat l i).a ∧ (gout k (rat l i)).b = (rat l i).b ∧ (rat l i).s ≤ (gout k (rat l i)).s := by
    unfold gout
    split
    · rename_i g; exact ⟨rfl, rfl, by show (rat l i).s ≤ 2; omega⟩
    · exact ⟨rfl, rfl, Int.le_refl _⟩
  rcases gin_at m k D (l.map (gout k)) (ins (l.map (gout k))) i h1 with e | ⟨e0, e⟩
  · rw [e, rat_map _ h]
    refine ⟨(gout k (rat l i)).s, ?_, h2.2.2⟩
    rw [← h2.1, ← h2.2.1]
  · rw [e, rat_map _ h]
    rw [rat_map _ h] at e0
    refine ⟨1, ?_, by omega⟩
    rw [h2.1, h2.2.1]
/-- What the law says of one stop. -/
theorem st_law {t : Tp} {r : Nat × Bool} (h : TOk t) (e : tnx t = some r) : (∀ i, i < t.rs.length → ∃ s', rat (stp t r).rs i = ⟨(rat t.rs i).a, (rat t.rs i).b, s'⟩ ∧ (rat t.rs i).s ≤ s') ∧
    (∀ i, i < t.rs.length → (rat t.rs i).s = 1 → (if (r.1 : Int) - (rat t.rs i).b > (rat t.rs i).b - r.1 then (r.1 : Int) - (rat t.rs i).b else (rat t.rs i).b - r.1) ≤ (if t.f - (rat t.rs i).b > (rat t.rs i).b - t.f then t.f - (rat t.rs i).b else (rat t.rs i).b - t.f)) ∧
    mvd t.rs (stp t r).rs t.rs.length = true ∧ (cns 1 (stp t r).rs : Int) ≤ t.m ∧ (r.1 : Int) < 8 := by
  obtain ⟨h1, h2, h3⟩ := stp_ok' h e
  refine ⟨fun i hi => goR_at hi (h.2.2.2.2.2.1 _ (rat_mem hi)).2.2.2.1, fun i hi hs => ?_, ?_, ?_, by have := h.1.2; omega⟩
  · obtain ⟨k, u⟩ := r
    obtain ⟨t1, t2, t3⟩ := tnx_in h e (rat_mem hi) hs
    rcases h.2.2.2.1 with hd | hd <;> rw [hd] at t2 t3 <;> (split <;> split <;> omega)
  · cases g : mvd t.rs (stp t r).rs t.rs.length with
    | true => rfl
    | false =>
      have := mvd_phi t.rs (stp t r).rs (by show t.rs.length = (goR _ _ _ _).length; rw [goR_len]) g
      omega
  · rw [cns_ins]; exact h2.2.2.2.2.2.2

set_option maxRecDepth 100000 in
set_option maxHeartbeats 16000000 in
theorem TripStep_w (a : Option Addr) (n cap : Nat) (w : World) (hb : Byt w a n) (hn : n ≤ cap) (hcap : cap ≤ maxLen) :
    Calls Try.prog 5 #[.slice a n cap] w (LawOk w) := by
  have hcap' := hcap
  unfold maxLen at hcap'
  by_cases bign : 1048576 < n
  · go_enter Try.func5, Try.ntmps5
    go_wp2_with fail
    go_ret
    exact LawOk.mk (Below.refl _ _)
  go_enter Try.func5, Try.ntmps5
  go_wp2_with fail
  refine Calls.mono (DrawTripStep_c a n cap _ hb hn hcap) ?_
  rintro e wn ⟨N, m, f, d, av, k, cv, l, rfl, hX, hk, hB⟩
  have T := Lib.hid hB
  have X := Lib.hid hX
  have HL := Lib.hid hX.2
  clear hB hX hb
  obtain ⟨h, hg⟩ : ∃ g, Array.size (World.heap wn) = g := ⟨_, rfl⟩
  have HGh := Lib.hid hg
  have hTh : w.heap.size ≤ h := by rw [← hg]; exact T.out.size
  have Tn := Lib.hid (show Below w.heap.size w (wn.alloc (.cells #[.int .i64 N, .int .i64 m, .int .i64 f, .int .i64 d, .slice av k cv] 27)) from (Below.al T.out (.cells #[.int .i64 N, .int .i64 m, .int .i64 f, .int .i64 d, .slice av k cv] 27)))
  have Xn := Lib.hid (Rid.below X.out (show Below wn.heap.size wn (wn.alloc (.cells #[.int .i64 N, .int .i64 m, .int .i64 f, .int .i64 d, .slice av k cv] 27)) from (Below.al (Below.refl _ _) (.cells #[.int .i64 N, .int .i64 m, .int .i64 f, .int .i64 d, .slice av k cv] 27))))
  have TB := Lib.hid (show BoxV (wn.alloc (.cells #[.int .i64 N, .int .i64 m, .int .i64 f, .int .i64 d, .slice av k cv] 27)) h [.int .i64 N, .int .i64 m, .int .i64 f, .int .i64 d, .slice av k cv] from by have h9 := (BoxV.new wn [.int .i64 N, .int .i64 m, .int .i64 f, .int .i64 d, .slice av k cv] 27 (by simp) rfl); simp only [World.size_alloc, hg, Nat.add_assoc, Nat.reduceAdd] at h9; exact h9)
  have HZh := Lib.hid (show ((wn.alloc (.cells #[.int .i64 N, .int .i64 m, .int .i64 f, .int .i64 d, .slice av k cv] 27))).heap.size = h + 1 from by simp only [World.size_alloc, hg, Nat.add_assoc, Nat.reduceAdd])
  clear hg
  clear T X
  have T := Tn
  have X := Xn
  clear Tn Xn
  have KI := fun w' (h : Rid w' av k l) => iTripStep_c N m f d av k cv l w' h (by omega)
  have KS := fun w' (h : Rid w' av k l) => sTripStep_c N m f d av k cv l w' h (by omega)
  have KV := fun w' (h : Rid w' av k l) => iTripValid_c N m f d av k cv l w' h (by omega)
  have hyl : (stT ⟨N, m, f, d, l⟩).rs.length ≤ 9 := by
    by_cases g : TOk ⟨N, m, f, d, l⟩
    · have := (stT_ok g).2.2.2.2.1; omega
    · rw [(stT_f g).1]; simp
  have hfin : stB ⟨N, m, f, d, l⟩ = false → stT ⟨N, m, f, d, l⟩ = ⟨N, m, f, d, l⟩ ∨ ¬ TOk ⟨N, m, f, d, l⟩ := fun hb => by
    by_cases g : TOk ⟨N, m, f, d, l⟩
    · cases e : tnx ⟨N, m, f, d, l⟩ with
      | none => exact .inl (stT_n g e).1
      | some r => rw [(stT_t g e).2] at hb; cases hb
    · exact .inr g
  have hgo : stB ⟨N, m, f, d, l⟩ = true → TOk ⟨N, m, f, d, l⟩ ∧ ∃ r, tnx ⟨N, m, f, d, l⟩ = some r ∧ stT ⟨N, m, f, d, l⟩ = stp ⟨N, m, f, d, l⟩ r := fun hb => by
    by_cases g : TOk ⟨N, m, f, d, l⟩
    · cases e : tnx ⟨N, m, f, d, l⟩ with
      | none => rw [(stT_n g e).2] at hb; cases hb
      | some r => exact ⟨g, r, rfl, (stT_t g e).1⟩
    · rw [(stT_f g).2] at hb; cases hb
  obtain ⟨y, hy⟩ : ∃ y, stT ⟨N, m, f, d, l⟩ = y := ⟨_, rfl⟩
  obtain ⟨b, hb2⟩ : ∃ b, stB ⟨N, m, f, d, l⟩ = b := ⟨_, rfl⟩
  rw [hy, hb2] at KI KS hfin hgo
  rw [hy] at hyl
  obtain ⟨k2, hk2⟩ : ∃ k2, y.rs.length = k2 := ⟨_, rfl⟩
  rw [hk2] at hyl
  have Hk2 := Lib.hid hk2
  have HKI := Lib.hid KI
  have HKS := Lib.hid KS
  have HKV := Lib.hid KV
  have HFI := Lib.hid hfin
  have HGO := Lib.hid hgo
  clear KI KS KV hy hb2 hk2 hfin hgo
  have c0 := (TB.out.2 0 _ rfl).1
  have c1 := (TB.out.2 1 _ rfl).1
  have c2 := (TB.out.2 2 _ rfl).1
  have c3 := (TB.out.2 3 _ rfl).1
  have c4 := (TB.out.2 4 _ rfl).1

  go_wp2_with fail
  rw [HGh.out]
  refine Calls.mono (HKI.out _ X.out) ?_
  intro e wq hh
  obtain ⟨v2, he, hO2, hb3⟩ := hh
  subst he
  obtain ⟨av2, cv2, hv, -, -⟩ := OwnR.open hO2
  subst hv
  have U := Lib.hid (show Rid wq av2 k2 y.rs from by have h9 := OwnR.rid hO2; rw [Hk2.out] at h9; exact h9)
  clear hO2
  rw [Hk2.out]
  have Tn := Lib.hid (below_next T.out hb3)
  have Xn := Lib.hid (Rid.below X.out hb3)
  have TBn := Lib.hid (BoxV.below TB.out hb3)
  clear hb3
  clear T X TB
  have T := Tn
  have X := Xn
  have TB := TBn
  clear Tn Xn TBn
  obtain ⟨wn, hwq⟩ : ∃ w0, w0 = wq := ⟨_, rfl⟩
  subst hwq
  have hltTBHX := BoxV.lt TB.out
  have hWHX := T.out.size
  obtain ⟨HX, hHX⟩ : ∃ HX, Array.size (World.heap wn) = HX := ⟨_, rfl⟩
  have HHX : Hid _ := hHX
  rw [hHX] at hWHX hltTBHX
  have XB : Hid (BoxV (wn.alloc (.cells #[.int .i64 y.n, .int .i64 y.m, .int .i64 y.f, .int .i64 y.d, .slice av2 k2 cv2] 27)) HX [.int .i64 y.n, .int .i64 y.m, .int .i64 y.f, .int .i64 y.d, .slice av2 k2 cv2]) := by rw [← hHX]; exact BoxV.new _ _ _ (by simp) rfl
  clear hHX
  have Tn : Hid (Below w.heap.size w _) := Below.al T.out (.cells #[.int .i64 y.n, .int .i64 y.m, .int .i64 y.f, .int .i64 y.d, .slice av2 k2 cv2] 27)
  have Xn : Hid _ := Rid.below X.out ((Below.refl _ _).alloc (Nat.le_refl _) (.cells #[.int .i64 y.n, .int .i64 y.m, .int .i64 y.f, .int .i64 y.d, .slice av2 k2 cv2] 27))
  have TBn : Hid _ := BoxV.below TB.out ((Below.refl _ _).alloc (Nat.le_refl _) (.cells #[.int .i64 y.n, .int .i64 y.m, .int .i64 y.f, .int .i64 y.d, .slice av2 k2 cv2] 27))
  have Un : Hid _ := Rid.below U.out ((Below.refl _ _).alloc (Nat.le_refl _) (.cells #[.int .i64 y.n, .int .i64 y.m, .int .i64 y.f, .int .i64 y.d, .slice av2 k2 cv2] 27))
  clear T X TB U
  have T := Tn
  have X := Xn
  have TB := TBn
  have U := Un
  clear Tn Xn TBn Un
  go_upto_region 5 with fail
  rw [HHX.out]
  generalize wn.alloc _ = w0 at *
  obtain ⟨wn, hwq⟩ : ∃ w9 : World, w9 = w0 := ⟨_, rfl⟩
  subst hwq
  clear HHX

  have c0 := (TB.out.2 0 _ rfl).1
  have c1 := (TB.out.2 1 _ rfl).1
  have c2 := (TB.out.2 2 _ rfl).1
  have c3 := (TB.out.2 3 _ rfl).1
  have c4 := (TB.out.2 4 _ rfl).1

  go_wp2_with fail
  refine Calls.mono (HKS.out _ X.out) ?_
  intro e wq hh
  obtain ⟨v2, he, hO2, hb3⟩ := hh
  subst he
  obtain ⟨av3, cv3, hv, -, -⟩ := OwnR.open hO2
  subst hv
  have Y := Lib.hid (show Rid wq av3 k2 y.rs from by have h9 := OwnR.rid hO2; rw [Hk2.out] at h9; exact h9)
  clear hO2
  rw [Hk2.out]
  have Tn := Lib.hid (below_next T.out hb3)
  have Xn := Lib.hid (Rid.below X.out hb3)
  have TBn := Lib.hid (BoxV.below TB.out hb3)
  have Un := Lib.hid (Rid.below U.out hb3)
  have XBn := Lib.hid (BoxV.below XB.out hb3)
  clear hb3
  clear T X TB U XB
  have T := Tn
  have X := Xn
  have TB := TBn
  have U := Un
  have XB := XBn
  clear Tn Xn TBn Un XBn
  obtain ⟨wn, hwq⟩ : ∃ w0, w0 = wq := ⟨_, rfl⟩
  subst hwq
  have hltTBHY := BoxV.lt TB.out
  have hltXBHY := BoxV.lt XB.out
  have hWHY := T.out.size
  obtain ⟨HY, hHY⟩ : ∃ HY, Array.size (World.heap wn) = HY := ⟨_, rfl⟩
  have HHY : Hid _ := hHY
  rw [hHY] at hWHY hltTBHY hltXBHY
  have YB : Hid (BoxV (wn.alloc (.cells #[.int .i64 y.n, .int .i64 y.m, .int .i64 y.f, .int .i64 y.d, .slice av3 k2 cv3] 27)) HY [.int .i64 y.n, .int .i64 y.m, .int .i64 y.f, .int .i64 y.d, .slice av3 k2 cv3]) := by rw [← hHY]; exact BoxV.new _ _ _ (by simp) rfl
  clear hHY
  have Tn : Hid (Below w.heap.size w _) := Below.al T.out (.cells #[.int .i64 y.n, .int .i64 y.m, .int .i64 y.f, .int .i64 y.d, .slice av3 k2 cv3] 27)
  have Xn : Hid _ := Rid.below X.out ((Below.refl _ _).alloc (Nat.le_refl _) (.cells #[.int .i64 y.n, .int .i64 y.m, .int .i64 y.f, .int .i64 y.d, .slice av3 k2 cv3] 27))
  have TBn : Hid _ := BoxV.below TB.out ((Below.refl _ _).alloc (Nat.le_refl _) (.cells #[.int .i64 y.n, .int .i64 y.m, .int .i64 y.f, .int .i64 y.d, .slice av3 k2 cv3] 27))
  have Un : Hid _ := Rid.below U.out ((Below.refl _ _).alloc (Nat.le_refl _) (.cells #[.int .i64 y.n, .int .i64 y.m, .int .i64 y.f, .int .i64 y.d, .slice av3 k2 cv3] 27))
  have XBn : Hid _ := BoxV.below XB.out ((Below.refl _ _).alloc (Nat.le_refl _) (.cells #[.int .i64 y.n, .int .i64 y.m, .int .i64 y.f, .int .i64 y.d, .slice av3 k2 cv3] 27))
  have Yn : Hid _ := Rid.below Y.out ((Below.refl _ _).alloc (Nat.le_refl _) (.cells #[.int .i64 y.n, .int .i64 y.m, .int .i64 y.f, .int .i64 y.d, .slice av3 k2 cv3] 27))
  clear T X TB U XB Y
  have T := Tn
  have X := Xn
  have TB := TBn
  have U := Un
  have XB := XBn
  have Y := Yn
  clear Tn Xn TBn Un XBn Yn
  go_upto_region 6 with fail
  rw [HHY.out]
  generalize wn.alloc _ = w0 at *
  obtain ⟨wn, hwq⟩ : ∃ w9 : World, w9 = w0 := ⟨_, rfl⟩
  subst hwq
  clear HHY

  have e0 := (XB.out.2 0 _ rfl).1
  have e1 := (XB.out.2 1 _ rfl).1
  have e2 := (XB.out.2 2 _ rfl).1
  have e3 := (XB.out.2 3 _ rfl).1
  have e4 := (XB.out.2 4 _ rfl).1
  have p0 := (YB.out.2 0 _ rfl).1
  have p1 := (YB.out.2 1 _ rfl).1
  have p2 := (YB.out.2 2 _ rfl).1
  have p3 := (YB.out.2 3 _ rfl).1
  have p4 := (YB.out.2 4 _ rfl).1
  go_wp2_with fail
  refine Calls.mono (sameTrip_t y.n y.m y.f y.d av2 k2 cv2 av3 cv3 y.rs _ U.out Y.out (by omega)) ?_
  intro e wn hh
  obtain ⟨he, hb⟩ := (by first | exact hh | exact Ro.mk hh | exact St.mk hh | exact LawOk.mk' hh : Mk _ _ e wn)
  subst he
  have Tn : Hid (Below w.heap.size w wn) := below_next T.out hb
  have Xn : Hid _ := Rid.below X.out hb
  have TBn : Hid _ := BoxV.below TB.out hb
  have Un : Hid _ := Rid.below U.out hb
  have XBn : Hid _ := BoxV.below XB.out hb
  have Yn : Hid _ := Rid.below Y.out hb
  have YBn : Hid _ := BoxV.below YB.out hb
  clear hb hh e0 e1 e2 e3 e4 p0 p1 p2 p3 p4
  clear T X TB U XB Y YB
  have T := Tn
  have X := Xn
  have TB := TBn
  have U := Un
  have XB := XBn
  have Y := Yn
  have YB := YBn
  clear Tn Xn TBn Un XBn Yn YBn
  clear Y YB
  cases b with
  | false =>
    have KE := fun w' (g1 : Rid w' av2 k2 y.rs) (g2 : Rid w' av k l) => sameTrip_c y.n y.m y.f y.d av2 k2 cv2 y.rs N m f d av k cv l w' g1 g2 (by omega)
    have hsb : tr ((⟨y.n, y.m, y.f, y.d, y.rs⟩ : Tp) = ⟨N, m, f, d, l⟩) = false → ¬ TOk ⟨N, m, f, d, l⟩ := fun hh => by
      rcases HFI.out rfl with e | e
      · rw [tr_true (show (⟨y.n, y.m, y.f, y.d, y.rs⟩ : Tp) = ⟨N, m, f, d, l⟩ from e)] at hh; cases hh
      · exact e
    obtain ⟨sb, hs⟩ : ∃ sb, tr ((⟨y.n, y.m, y.f, y.d, y.rs⟩ : Tp) = ⟨N, m, f, d, l⟩) = sb := ⟨_, rfl⟩
    rw [hs] at KE hsb
    have HKE := Lib.hid KE
    have HSB := Lib.hid hsb
    clear KE hsb hs HFI HGO HKI HKS
    have e0 := (XB.out.2 0 _ rfl).1
    have e1 := (XB.out.2 1 _ rfl).1
    have e2 := (XB.out.2 2 _ rfl).1
    have e3 := (XB.out.2 3 _ rfl).1
    have e4 := (XB.out.2 4 _ rfl).1
    have c0 := (TB.out.2 0 _ rfl).1
    have c1 := (TB.out.2 1 _ rfl).1
    have c2 := (TB.out.2 2 _ rfl).1
    have c3 := (TB.out.2 3 _ rfl).1
    have c4 := (TB.out.2 4 _ rfl).1
    cases sb with
    | true =>
      go_wp2_with fail
      refine Calls.mono (HKE.out _ U.out X.out) ?_
      intro e wn hh
      obtain ⟨he, hb⟩ := (by first | exact hh | exact Ro.mk hh | exact St.mk hh | exact LawOk.mk' hh : Mk _ _ e wn)
      subst he
      have Tn : Hid (Below w.heap.size w wn) := below_next T.out hb
      have Xn : Hid _ := Rid.below X.out hb
      have TBn : Hid _ := BoxV.below TB.out hb
      have Un : Hid _ := Rid.below U.out hb
      have XBn : Hid _ := BoxV.below XB.out hb
      clear hb hh e0 e1 e2 e3 e4 c0 c1 c2 c3 c4
      clear T X TB U XB
      have T := Tn
      have X := Xn
      have TB := TBn
      have U := Un
      have XB := XBn
      clear Tn Xn TBn Un XBn
      go_wp2_with fail
      refine Calls.mono (alive_c _) ?_
      intro e wn hh
      obtain ⟨he, hb⟩ := (by first | exact hh | exact Ro.mk hh | exact St.mk hh | exact LawOk.mk' hh : Mk _ _ e wn)
      subst he
      have Tn : Hid (Below w.heap.size w wn) := below_next T.out hb
      have Xn : Hid _ := Rid.below X.out hb
      have TBn : Hid _ := BoxV.below TB.out hb
      have Un : Hid _ := Rid.below U.out hb
      have XBn : Hid _ := BoxV.below XB.out hb
      clear hb hh
      clear T X TB U XB
      have T := Tn
      have X := Xn
      have TB := TBn
      have U := Un
      have XB := XBn
      clear Tn Xn TBn Un XBn
      go_wp2_with fail
      go_ret
      first | exact LawOk.mk T.out | exact LawOk.mk (Below.dr T.out _)
    | false =>
      have KV2 := HKV.out
      rw [tokB_f (HSB.out rfl)] at KV2
      have HV2 := Lib.hid KV2
      clear KV2
      have e0 := (XB.out.2 0 _ rfl).1
      have e1 := (XB.out.2 1 _ rfl).1
      have e2 := (XB.out.2 2 _ rfl).1
      have e3 := (XB.out.2 3 _ rfl).1
      have e4 := (XB.out.2 4 _ rfl).1
      have c0 := (TB.out.2 0 _ rfl).1
      have c1 := (TB.out.2 1 _ rfl).1
      have c2 := (TB.out.2 2 _ rfl).1
      have c3 := (TB.out.2 3 _ rfl).1
      have c4 := (TB.out.2 4 _ rfl).1
      go_wp2_with fail
      refine Calls.mono (HKE.out _ U.out X.out) ?_
      intro e wn hh
      obtain ⟨he, hb⟩ := (by first | exact hh | exact Ro.mk hh | exact St.mk hh | exact LawOk.mk' hh : Mk _ _ e wn)
      subst he
      have Tn : Hid (Below w.heap.size w wn) := below_next T.out hb
      have Xn : Hid _ := Rid.below X.out hb
      have TBn : Hid _ := BoxV.below TB.out hb
      have Un : Hid _ := Rid.below U.out hb
      have XBn : Hid _ := BoxV.below XB.out hb
      clear hb hh e0 e1 e2 e3 e4 c0 c1 c2 c3 c4
      clear T X TB U XB
      have T := Tn
      have X := Xn
      have TB := TBn
      have U := Un
      have XB := XBn
      clear Tn Xn TBn Un XBn
      have c0 := (TB.out.2 0 _ rfl).1
      have c1 := (TB.out.2 1 _ rfl).1
      have c2 := (TB.out.2 2 _ rfl).1
      have c3 := (TB.out.2 3 _ rfl).1
      have c4 := (TB.out.2 4 _ rfl).1
      go_wp2_with fail
      refine Calls.mono (HV2.out _ X.out) ?_
      intro e wn hh
      obtain ⟨he, hb⟩ := (by first | exact hh | exact Ro.mk hh | exact St.mk hh | exact LawOk.mk' hh : Mk _ _ e wn)
      subst he
      have Tn : Hid (Below w.heap.size w wn) := below_next T.out hb
      have Xn : Hid _ := Rid.below X.out hb
      have TBn : Hid _ := BoxV.below TB.out hb
      have Un : Hid _ := Rid.below U.out hb
      have XBn : Hid _ := BoxV.below XB.out hb
      clear hb hh c0 c1 c2 c3 c4
      clear T X TB U XB
      have T := Tn
      have X := Xn
      have TB := TBn
      have U := Un
      have XB := XBn
      clear Tn Xn TBn Un XBn
      go_wp2_with fail
      refine Calls.mono (alive_c _) ?_
      intro e wn hh
      obtain ⟨he, hb⟩ := (by first | exact hh | exact Ro.mk hh | exact St.mk hh | exact LawOk.mk' hh : Mk _ _ e wn)
      subst he
      have Tn : Hid (Below w.heap.size w wn) := below_next T.out hb
      have Xn : Hid _ := Rid.below X.out hb
      have TBn : Hid _ := BoxV.below TB.out hb
      have Un : Hid _ := Rid.below U.out hb
      have XBn : Hid _ := BoxV.below XB.out hb
      clear hb hh
      clear T X TB U XB
      have T := Tn
      have X := Xn
      have TB := TBn
      have U := Un
      have XB := XBn
      clear Tn Xn TBn Un XBn
      go_wp2_with fail
      go_ret
      first | exact LawOk.mk T.out | exact LawOk.mk (Below.dr T.out _)
  | true =>
    obtain ⟨ht, r, her, hyr⟩ := HGO.out rfl
    obtain ⟨s1, s2, s3, s4, s5⟩ := st_law ht her
    obtain ⟨-, hok, -⟩ := stp_ok' ht her
    have hKr : y.f = (r.1 : Int) ∧ y.m = m := by rw [hyr]; exact ⟨rfl, rfl⟩
    rw [← hyr] at s1 s3 s4 hok
    replace s1 : ∀ i, i < l.length → ∃ s', rat y.rs i = ⟨(rat l i).a, (rat l i).b, s'⟩ ∧ (rat l i).s ≤ s' := s1
    replace s2 : ∀ i, i < l.length → (rat l i).s = 1 → (if (r.1 : Int) - (rat l i).b > (rat l i).b - r.1 then (r.1 : Int) - (rat l i).b else (rat l i).b - r.1) ≤ (if f - (rat l i).b > (rat l i).b - f then f - (rat l i).b else (rat l i).b - f) := s2
    replace s3 : mvd l y.rs l.length = true := s3
    replace s4 : (cns 1 y.rs : Int) ≤ m := s4
    have hlk : l.length = k := HL.out
    have hkk : k2 = k := by
      rw [← Hk2.out, hyr]
      show (goR _ _ _ _).length = k
      rw [goR_len]; exact hlk
    subst hkk
    obtain ⟨F2, hF2⟩ : ∃ F2, (r.1 : Int) = F2 := ⟨_, rfl⟩
    rw [hF2] at s2 s5
    rw [hF2] at hKr
    have hF0 : 0 ≤ F2 := by omega
    have hf0 : 0 ≤ f := ht.2.2.1.1
    have hf8 : f < 8 := by have h7 := ht.2.2.1.2; have h6 := ht.1.2; simp only at h7 h6; omega
    rw [hlk] at s1 s2 s3
    have HS1 := Lib.hid s1
    have HS2 := Lib.hid s2
    have HS3 := Lib.hid s3
    have HRO := Lib.hid (show ∀ i, i < k2 → (0 ≤ (rat l i).b ∧ (rat l i).b < 8) from fun i hi => by
      have h7 := (ht.2.2.2.2.2.1 _ (rat_mem (l := l) (i := i) (by omega))).2.1
      have h6 := ht.1.2
      simp only at h7 h6
      omega)
    have KW := fun (w' : World) (h : Rid w' av2 k2 y.rs) => iTripValid_c y.n y.m y.f y.d av2 k2 cv2 y.rs w' h (by omega)
    have K1 := fun (w' : World) (h : Rid w' av2 k2 y.rs) => inState_c y.n y.m y.f y.d 1 av2 k2 cv2 y.rs w' h (by omega)
    rw [show (⟨y.n, y.m, y.f, y.d, y.rs⟩ : Tp) = y from rfl, tokB_t hok] at KW
    obtain ⟨q1, hq1⟩ : ∃ q, cns 1 y.rs = q := ⟨_, rfl⟩
    rw [hq1] at K1 s4
    rw [hKr.1, hKr.2] at KW K1 XB
    rw [hKr.1, hKr.2]
    have v9 : decide ((q1 : Int) ≤ m) = true := decide_eq_true s4
    have HKW := Lib.hid KW
    have HK1 := Lib.hid K1
    clear KW K1 s1 s2 s3 s4 hok hKr hq1 hF2 her hyr hlk ht HFI HGO HKI HKS HKV
    go_wp2_with fail
    go_loopw [8, 9] (fun u v wr => ∃ i : Nat, i ≤ k2 ∧ u = .bool (mvd l y.rs i) ∧ v = .int .i64 i ∧ Below w.heap.size w wr ∧ Rid wr av k2 l ∧ BoxV wr h [.int .i64 N, .int .i64 m, .int .i64 f, .int .i64 d, .slice av k2 cv] ∧ Rid wr av2 k2 y.rs ∧ BoxV wr HX [.int .i64 y.n, .int .i64 m, .int .i64 F2, .int .i64 y.d, .slice av2 k2 cv2]) (fun u v _ => k2 - (intOf v).toNat)
    case atStart => exact ⟨0, by omega, rfl, rfl, T.out, X.out, TB.out, U.out, XB.out⟩
    case' round =>
      clear T X TB U XB
      obtain ⟨i, hi, rfl, rfl, h9T, h9X, h9TB, h9U, h9XB⟩ := hrel
      obtain ⟨wn, hwq⟩ : ∃ w0 : World, w0 = wr := ⟨_, rfl⟩
      rw [← hwq] at h9T h9X h9TB h9U h9XB ⊢
      clear hwq
      have T := Lib.hid h9T
      have X := Lib.hid h9X
      have TB := Lib.hid h9TB
      have U := Lib.hid h9U
      have XB := Lib.hid h9XB
      clear h9T h9X h9TB h9U h9XB
      by_cases hlt : i < k2
      case neg =>
        obtain rfl : i = k2 := by omega
        rw [HS3.out]
        have c0 := (TB.out.2 0 _ rfl).1
        have c1 := (TB.out.2 1 _ rfl).1
        have c2 := (TB.out.2 2 _ rfl).1
        have c3 := (TB.out.2 3 _ rfl).1
        have c4 := (TB.out.2 4 _ rfl).1
        go_upto_region 23 with fail
        refine wp_region_quiet (C := fun w' => Below (World.heap (wn)).size (wn) w') (by kernel_rfl) (by kernel_rfl) (by first | exact ⟨rfl, rfl, rfl, Nat.le_refl _, fun _ _ => rfl⟩ | exact Below.dw (by repeat (first | exact Below.refl _ _ | refine Below.al ?_ _ | refine Below.dr ?_ _ | refine Below.dw ?_ | refine Below.st ?_ (by first | exact Nat.le_refl _ | exact Nat.le_add_right _ _ | (simp; omega)) _ | (refine below_next ?_ (by assumption))))) ?_
        simp only []
        repeat (go_big_quiet_step (first | (intro _; with_reducible exact rfl) | (intro hC; go_at_call 14; have XB9 := BoxV.below XB.out hC; have e0 := (XB9.2 0 _ rfl).1; have e1 := (XB9.2 1 _ rfl).1; have e2 := (XB9.2 2 _ rfl).1; have e3 := (XB9.2 3 _ rfl).1; have e4 := (XB9.2 4 _ rfl).1; clear XB9; (refine Calls.mono (HKW.out _ (Rid.below U.out hC)) ?_); (first | (rintro e wx ⟨rfl, hb⟩; exact ⟨rfl, below_next hC hb⟩) | (rintro e wx ⟨rfl, n, rfl⟩; exact ⟨rfl, Below.dr hC n⟩) | (rintro e wx ⟨rfl, rfl⟩; exact ⟨rfl, hC⟩))) | (intro hC; go_at_call 21; have XB9 := BoxV.below XB.out hC; have e0 := (XB9.2 0 _ rfl).1; have e1 := (XB9.2 1 _ rfl).1; have e2 := (XB9.2 2 _ rfl).1; have e3 := (XB9.2 3 _ rfl).1; have e4 := (XB9.2 4 _ rfl).1; clear XB9; (refine Calls.mono (HK1.out _ (Rid.below U.out hC)) ?_); (first | (rintro e wx ⟨rfl, hb⟩; exact ⟨rfl, below_next hC hb⟩) | (rintro e wx ⟨rfl, n, rfl⟩; exact ⟨rfl, Below.dr hC n⟩) | (rintro e wx ⟨rfl, rfl⟩; exact ⟨rfl, hC⟩))) | (intro hC; have XB9 := BoxV.below XB.out hC; have e0 := (XB9.2 0 _ rfl).1; have e1 := (XB9.2 1 _ rfl).1; have e2 := (XB9.2 2 _ rfl).1; have e3 := (XB9.2 3 _ rfl).1; have e4 := (XB9.2 4 _ rfl).1; clear XB9; go_simp; rfl)))
        refine wpQuiet_nil ?_
        intro wq hq
        have Tn := Lib.hid (below_next T.out hq)
        have Xn := Lib.hid (Rid.below X.out hq)
        have TBn := Lib.hid (BoxV.below TB.out hq)
        have Un := Lib.hid (Rid.below U.out hq)
        have XBn := Lib.hid (BoxV.below XB.out hq)
        clear hq
        clear T X TB U XB
        have T := Tn
        have X := Xn
        have TB := TBn
        have U := Un
        have XB := XBn
        clear Tn Xn TBn Un XBn
        obtain ⟨wn, hwq⟩ : ∃ w0, w0 = wq := ⟨_, rfl⟩
        subst hwq
        go_wp2_with fail
        go_ret
        first | exact LawOk.mk T.out | exact LawOk.mk (Below.dr T.out _)
      obtain ⟨bq, off, rfl⟩ := Rid.some X.out (by omega)
      obtain ⟨bp, ofp, rfl⟩ := Rid.some U.out (by omega)
      obtain ⟨y0, y1, y2⟩ := Rid.three X.out hlt
      have hii : (i : Int) < k2 := by omega
      obtain ⟨s2, g1, g2⟩ := HS1.out i hlt
      have g3 := HS2.out i hlt
      obtain ⟨g4, g5⟩ := HRO.out i hlt
      have hmn : mvd l y.rs (i + 1) = (mvd l y.rs i || (rat l i).s != (rat y.rs i).s) := rfl
      have HG1 := Lib.hid g1
      rw [g1] at hmn
      obtain ⟨⟨x, z, s⟩, hr⟩ : ∃ r, rat l i = r := ⟨_, rfl⟩
      rw [hr] at y0 y1 y2 g2 g3 g4 g5 hmn HG1
      replace g2 : s ≤ s2 := g2
      replace g4 : 0 ≤ z := g4
      replace g5 : z < 8 := g5
      replace hmn : mvd l y.rs (i + 1) = (mvd l y.rs i || s != s2) := hmn
      replace g3 : s = 1 → (if F2 - z > z - F2 then F2 - z else z - F2) ≤ (if f - z > z - f then f - z else z - f) := g3
      obtain ⟨M1, hM1⟩ : ∃ M, (if f - z > z - f then f - z else z - f) = M := ⟨_, rfl⟩
      obtain ⟨M2, hM2⟩ : ∃ M, (if F2 - z > z - F2 then F2 - z else z - F2) = M := ⟨_, rfl⟩
      rw [hM1, hM2] at g3
      have HM1 := Lib.hid hM1
      have HM2 := Lib.hid hM2
      have HG3 := Lib.hid g3
      have HMN := Lib.hid hmn
      obtain ⟨mv, hmv⟩ : ∃ mv, mvd l y.rs i = mv := ⟨_, rfl⟩
      rw [hmv] at HMN
      rw [hmv]
      have v0 : decide (s2 < s) = false := decide_eq_false (by omega)
      clear hr g1 g3 hM1 hM2 hmn hmv
      have c0 := (TB.out.2 0 _ rfl).1
      have c1 := (TB.out.2 1 _ rfl).1
      have c2 := (TB.out.2 2 _ rfl).1
      have c3 := (TB.out.2 3 _ rfl).1
      have c4 := (TB.out.2 4 _ rfl).1

      have hltTBHA := BoxV.lt TB.out
      have hltXBHA := BoxV.lt XB.out
      have hWHA := T.out.size
      obtain ⟨HA, hHA⟩ : ∃ HA, Array.size (World.heap wn) = HA := ⟨_, rfl⟩
      have HHA : Hid _ := hHA
      rw [hHA] at hWHA hltTBHA hltXBHA
      have AB : Hid (BoxV (wn.alloc (.cells #[.int .i64 x, .int .i64 z, .int .i64 s] 32)) HA [.int .i64 x, .int .i64 z, .int .i64 s]) := by rw [← hHA]; exact BoxV.new _ _ _ (by simp) rfl
      clear hHA
      have Tn : Hid (Below w.heap.size w _) := Below.al T.out (.cells #[.int .i64 x, .int .i64 z, .int .i64 s] 32)
      have Xn : Hid _ := Rid.below X.out ((Below.refl _ _).alloc (Nat.le_refl _) (.cells #[.int .i64 x, .int .i64 z, .int .i64 s] 32))
      have TBn : Hid _ := BoxV.below TB.out ((Below.refl _ _).alloc (Nat.le_refl _) (.cells #[.int .i64 x, .int .i64 z, .int .i64 s] 32))
      have Un : Hid _ := Rid.below U.out ((Below.refl _ _).alloc (Nat.le_refl _) (.cells #[.int .i64 x, .int .i64 z, .int .i64 s] 32))
      have XBn : Hid _ := BoxV.below XB.out ((Below.refl _ _).alloc (Nat.le_refl _) (.cells #[.int .i64 x, .int .i64 z, .int .i64 s] 32))
      clear T X TB U XB
      have T := Tn
      have X := Xn
      have TB := TBn
      have U := Un
      have XB := XBn
      clear Tn Xn TBn Un XBn
      go_upto_region 15 with fail
      rw [HHA.out]
      clear y0 y1 y2 c0 c1 c2 c3 c4
      generalize wn.alloc (.cells #[.int .i64 x, .int .i64 z, .int .i64 s] 32) = w0 at *
      obtain ⟨wn, hwq⟩ : ∃ w9 : World, w9 = w0 := ⟨_, rfl⟩
      subst hwq
      clear HHA
      obtain ⟨z0, z1, z2⟩ := Rid.three U.out hlt
      rw [HG1.out] at z0 z1 z2
      have e0 := (XB.out.2 0 _ rfl).1
      have e1 := (XB.out.2 1 _ rfl).1
      have e2 := (XB.out.2 2 _ rfl).1
      have e3 := (XB.out.2 3 _ rfl).1
      have e4 := (XB.out.2 4 _ rfl).1
      have hltTBHB := BoxV.lt TB.out
      have hltXBHB := BoxV.lt XB.out
      have hltABHB := BoxV.lt AB.out
      have hWHB := T.out.size
      obtain ⟨HB, hHB⟩ : ∃ HB, Array.size (World.heap wn) = HB := ⟨_, rfl⟩
      have HHB : Hid _ := hHB
      rw [hHB] at hWHB hltTBHB hltXBHB hltABHB
      have BB : Hid (BoxV (wn.alloc (.cells #[.int .i64 x, .int .i64 z, .int .i64 s2] 32)) HB [.int .i64 x, .int .i64 z, .int .i64 s2]) := by rw [← hHB]; exact BoxV.new _ _ _ (by simp) rfl
      clear hHB
      have Tn : Hid (Below w.heap.size w _) := Below.al T.out (.cells #[.int .i64 x, .int .i64 z, .int .i64 s2] 32)
      have Xn : Hid _ := Rid.below X.out ((Below.refl _ _).alloc (Nat.le_refl _) (.cells #[.int .i64 x, .int .i64 z, .int .i64 s2] 32))
      have TBn : Hid _ := BoxV.below TB.out ((Below.refl _ _).alloc (Nat.le_refl _) (.cells #[.int .i64 x, .int .i64 z, .int .i64 s2] 32))
      have Un : Hid _ := Rid.below U.out ((Below.refl _ _).alloc (Nat.le_refl _) (.cells #[.int .i64 x, .int .i64 z, .int .i64 s2] 32))
      have XBn : Hid _ := BoxV.below XB.out ((Below.refl _ _).alloc (Nat.le_refl _) (.cells #[.int .i64 x, .int .i64 z, .int .i64 s2] 32))
      have ABn : Hid _ := BoxV.below AB.out ((Below.refl _ _).alloc (Nat.le_refl _) (.cells #[.int .i64 x, .int .i64 z, .int .i64 s2] 32))
      clear T X TB U XB AB
      have T := Tn
      have X := Xn
      have TB := TBn
      have U := Un
      have XB := XBn
      have AB := ABn
      clear Tn Xn TBn Un XBn ABn
      go_upto_region 16 with fail
      rw [HHB.out]
      clear z0 z1 z2 e0 e1 e2 e3 e4
      generalize wn.alloc (.cells #[.int .i64 x, .int .i64 z, .int .i64 s2] 32) = w0 at *
      obtain ⟨wn, hwq⟩ : ∃ w9 : World, w9 = w0 := ⟨_, rfl⟩
      subst hwq
      clear HHB
      by_cases hs1 : s = 1
      case pos =>
        have v1 : (s == 1) = true := by simp [hs1]
        have v2 : decide (M1 < M2) = false := decide_eq_false (by have := HG3.out hs1; omega)
        clear hs1
        cases mv with
        | true =>
          have c0 := (TB.out.2 0 _ rfl).1
          have c1 := (TB.out.2 1 _ rfl).1
          have c2 := (TB.out.2 2 _ rfl).1
          have c3 := (TB.out.2 3 _ rfl).1
          have c4 := (TB.out.2 4 _ rfl).1
          have e0 := (XB.out.2 0 _ rfl).1
          have e1 := (XB.out.2 1 _ rfl).1
          have e2 := (XB.out.2 2 _ rfl).1
          have e3 := (XB.out.2 3 _ rfl).1
          have e4 := (XB.out.2 4 _ rfl).1
          have p0 := (AB.out.2 0 _ rfl).1
          have p1 := (AB.out.2 1 _ rfl).1
          have p2 := (AB.out.2 2 _ rfl).1
          have q0 := (BB.out.2 0 _ rfl).1
          have q1 := (BB.out.2 1 _ rfl).1
          have q2 := (BB.out.2 2 _ rfl).1
          clear AB BB
          go_wp2_with (first | (with_reducible refine wpList_max9 rfl rfl HM1.out ?_) | (with_reducible refine wpList_max9 rfl rfl HM2.out ?_))
          go_roundw
          case rel => exact ⟨i + 1, by omega, by rw [HMN.out]; rfl, by go_num, T.out, X.out, TB.out, U.out, XB.out⟩
          case measure => first | (simp [intOf]; done) | (simp [intOf]; omega) | omega
        | false =>
          by_cases hss : s = s2
          case pos =>
            have v3 : (s != s2) = false := by simp [hss]
            have HV3 := Lib.hid v3
            clear hss
            have c0 := (TB.out.2 0 _ rfl).1
            have c1 := (TB.out.2 1 _ rfl).1
            have c2 := (TB.out.2 2 _ rfl).1
            have c3 := (TB.out.2 3 _ rfl).1
            have c4 := (TB.out.2 4 _ rfl).1
            have e0 := (XB.out.2 0 _ rfl).1
            have e1 := (XB.out.2 1 _ rfl).1
            have e2 := (XB.out.2 2 _ rfl).1
            have e3 := (XB.out.2 3 _ rfl).1
            have e4 := (XB.out.2 4 _ rfl).1
            have p0 := (AB.out.2 0 _ rfl).1
            have p1 := (AB.out.2 1 _ rfl).1
            have p2 := (AB.out.2 2 _ rfl).1
            have q0 := (BB.out.2 0 _ rfl).1
            have q1 := (BB.out.2 1 _ rfl).1
            have q2 := (BB.out.2 2 _ rfl).1
            clear AB BB
            go_wp2_with (first | (with_reducible refine wpList_max9 rfl rfl HM1.out ?_) | (with_reducible refine wpList_max9 rfl rfl HM2.out ?_))
            go_roundw
            case rel => exact ⟨i + 1, by omega, by rw [HMN.out, HV3.out]; rfl, by go_num, T.out, X.out, TB.out, U.out, XB.out⟩
            case measure => first | (simp [intOf]; done) | (simp [intOf]; omega) | omega
          have v3 : (s != s2) = true := by rw [bne_iff_ne]; exact hss
          have HV3 := Lib.hid v3
          clear hss
          have c0 := (TB.out.2 0 _ rfl).1
          have c1 := (TB.out.2 1 _ rfl).1
          have c2 := (TB.out.2 2 _ rfl).1
          have c3 := (TB.out.2 3 _ rfl).1
          have c4 := (TB.out.2 4 _ rfl).1
          have e0 := (XB.out.2 0 _ rfl).1
          have e1 := (XB.out.2 1 _ rfl).1
          have e2 := (XB.out.2 2 _ rfl).1
          have e3 := (XB.out.2 3 _ rfl).1
          have e4 := (XB.out.2 4 _ rfl).1
          have p0 := (AB.out.2 0 _ rfl).1
          have p1 := (AB.out.2 1 _ rfl).1
          have p2 := (AB.out.2 2 _ rfl).1
          have q0 := (BB.out.2 0 _ rfl).1
          have q1 := (BB.out.2 1 _ rfl).1
          have q2 := (BB.out.2 2 _ rfl).1
          clear AB BB
          go_wp2_with (first | (with_reducible refine wpList_max9 rfl rfl HM1.out ?_) | (with_reducible refine wpList_max9 rfl rfl HM2.out ?_))
          go_roundw
          case rel => exact ⟨i + 1, by omega, by rw [HMN.out, HV3.out]; rfl, by go_num, T.out, X.out, TB.out, U.out, XB.out⟩
          case measure => first | (simp [intOf]; done) | (simp [intOf]; omega) | omega
      
      have v1 : (s == 1) = false := beq_false_of_ne hs1
      clear hs1
      cases mv with
      | true =>
        have c0 := (TB.out.2 0 _ rfl).1
        have c1 := (TB.out.2 1 _ rfl).1
        have c2 := (TB.out.2 2 _ rfl).1
        have c3 := (TB.out.2 3 _ rfl).1
        have c4 := (TB.out.2 4 _ rfl).1
        have e0 := (XB.out.2 0 _ rfl).1
        have e1 := (XB.out.2 1 _ rfl).1
        have e2 := (XB.out.2 2 _ rfl).1
        have e3 := (XB.out.2 3 _ rfl).1
        have e4 := (XB.out.2 4 _ rfl).1
        have p0 := (AB.out.2 0 _ rfl).1
        have p1 := (AB.out.2 1 _ rfl).1
        have p2 := (AB.out.2 2 _ rfl).1
        have q0 := (BB.out.2 0 _ rfl).1
        have q1 := (BB.out.2 1 _ rfl).1
        have q2 := (BB.out.2 2 _ rfl).1
        clear AB BB
        go_wp2_with (first | (with_reducible refine wpList_max9 rfl rfl HM1.out ?_) | (with_reducible refine wpList_max9 rfl rfl HM2.out ?_))
        go_roundw
        case rel => exact ⟨i + 1, by omega, by rw [HMN.out]; rfl, by go_num, T.out, X.out, TB.out, U.out, XB.out⟩
        case measure => first | (simp [intOf]; done) | (simp [intOf]; omega) | omega
      | false =>
        by_cases hss : s = s2
        case pos =>
          have v3 : (s != s2) = false := by simp [hss]
          have HV3 := Lib.hid v3
          clear hss
          have c0 := (TB.out.2 0 _ rfl).1
          have c1 := (TB.out.2 1 _ rfl).1
          have c2 := (TB.out.2 2 _ rfl).1
          have c3 := (TB.out.2 3 _ rfl).1
          have c4 := (TB.out.2 4 _ rfl).1
          have e0 := (XB.out.2 0 _ rfl).1
          have e1 := (XB.out.2 1 _ rfl).1
          have e2 := (XB.out.2 2 _ rfl).1
          have e3 := (XB.out.2 3 _ rfl).1
          have e4 := (XB.out.2 4 _ rfl).1
          have p0 := (AB.out.2 0 _ rfl).1
          have p1 := (AB.out.2 1 _ rfl).1
          have p2 := (AB.out.2 2 _ rfl).1
          have q0 := (BB.out.2 0 _ rfl).1
          have q1 := (BB.out.2 1 _ rfl).1
          have q2 := (BB.out.2 2 _ rfl).1
          clear AB BB
          go_wp2_with (first | (with_reducible refine wpList_max9 rfl rfl HM1.out ?_) | (with_reducible refine wpList_max9 rfl rfl HM2.out ?_))
          go_roundw
          case rel => exact ⟨i + 1, by omega, by rw [HMN.out, HV3.out]; rfl, by go_num, T.out, X.out, TB.out, U.out, XB.out⟩
          case measure => first | (simp [intOf]; done) | (simp [intOf]; omega) | omega
        have v3 : (s != s2) = true := by rw [bne_iff_ne]; exact hss
        have HV3 := Lib.hid v3
        clear hss
        have c0 := (TB.out.2 0 _ rfl).1
        have c1 := (TB.out.2 1 _ rfl).1
        have c2 := (TB.out.2 2 _ rfl).1
        have c3 := (TB.out.2 3 _ rfl).1
        have c4 := (TB.out.2 4 _ rfl).1
        have e0 := (XB.out.2 0 _ rfl).1
        have e1 := (XB.out.2 1 _ rfl).1
        have e2 := (XB.out.2 2 _ rfl).1
        have e3 := (XB.out.2 3 _ rfl).1
        have e4 := (XB.out.2 4 _ rfl).1
        have p0 := (AB.out.2 0 _ rfl).1
        have p1 := (AB.out.2 1 _ rfl).1
        have p2 := (AB.out.2 2 _ rfl).1
        have q0 := (BB.out.2 0 _ rfl).1
        have q1 := (BB.out.2 1 _ rfl).1
        have q2 := (BB.out.2 2 _ rfl).1
        clear AB BB
        go_wp2_with (first | (with_reducible refine wpList_max9 rfl rfl HM1.out ?_) | (with_reducible refine wpList_max9 rfl rfl HM2.out ?_))
        go_roundw
        case rel => exact ⟨i + 1, by omega, by rw [HMN.out, HV3.out]; rfl, by go_num, T.out, X.out, TB.out, U.out, XB.out⟩
        case measure => first | (simp [intOf]; done) | (simp [intOf]; omega) | omega
end Go.Proofs.Ytfhhgddajmihjaa
