/- The program's insideMany, dir, canRide, goesAlong. -/
import Derived.Test.Ytfhhgddajmihjaa11MA
import Derived.Test.Ytfhhgddajmihjaa9I
namespace Go.Proofs.Ytfhhgddajmihjaa
open Go.RowKit
set_option linter.unusedVariables false
set_option linter.unusedSimpArgs false
set_option maxRecDepth 100000

set_option maxHeartbeats 2000000 in
theorem insideMany_c (a : Option Addr) (k c : Nat) (l : List Ri) (w : World) (hX : Rid w a k l) (hk : k ≤ 1048577) :
    Calls Try.prog 47 #[.slice a k c] w (Mk w (.int .i64 (ins l : Nat))) := by
  have HL := Lib.hid hX.2
  refine at_base fun wn hwn => ?_
  have T := Lib.hid (show Below w.heap.size w wn from by rw [hwn]; exact Below.refl _ _)
  rw [← hwn] at hX
  have X := Lib.hid (show Rid wn a k l from hX)
  clear hX
  clear hwn
  go_enter Try.func47, Try.ntmps47
  go_wp2_with fail
  go_loopw [3, 8] (fun u v wr => ∃ i j : Nat, i ≤ k ∧ u = .int .i64 j ∧ v = .int .i64 i ∧ j = ins (l.take i) ∧ j ≤ i ∧ Below w.heap.size w wr ∧ Rid wr a k l) (fun u v _ => k - (intOf v).toNat)
  case atStart => exact ⟨0, 0, by omega, rfl, rfl, rfl, by omega, T.out, X.out⟩
  case' round =>
    clear T X
    obtain ⟨i, j, hi, rfl, rfl, hj, hji, h9T, h9X⟩ := hrel
    obtain ⟨wn, hwq⟩ : ∃ w0 : World, w0 = wr := ⟨_, rfl⟩
    rw [← hwq] at h9T h9X ⊢
    clear hwq
    have T := Lib.hid h9T
    have X := Lib.hid h9X
    clear h9T h9X
    have HJ := Lib.hid hj
    clear hj
    by_cases hlt : i < k
    case neg =>
      obtain rfl : i = k := by omega
      have E := Lib.hid (show ((ins l : Nat) : Int) = (j : Int) from by rw [HJ.out, List.take_of_length_le (by rw [HL.out]; exact Nat.le_refl _)])
      go_wp2_with fail
      go_ret
      exact Mk.i E.out T.out
    obtain ⟨b, off, rfl⟩ := Rid.some X.out (by omega)
    obtain ⟨y0, y1, y2⟩ := Rid.three X.out hlt
    have hin := ins_take (l := l) (i := i) (by rw [HL.out]; exact hlt)
    obtain ⟨⟨x, y, s⟩, hr⟩ : ∃ r, rat l i = r := ⟨_, rfl⟩
    rw [hr] at y0 y1 y2 hin
    have HIN := Lib.hid hin
    have hii : (i : Int) < k := by omega
    clear hr hin

    have hWHR := T.out.size
    obtain ⟨HR, hHR⟩ : ∃ HR, Array.size (World.heap wn) = HR := ⟨_, rfl⟩
    have HHR : Hid _ := hHR
    rw [hHR] at hWHR
    have RB : Hid (BoxV (wn.alloc (.cells #[.int .i64 x, .int .i64 y, .int .i64 s] 32)) HR [.int .i64 x, .int .i64 y, .int .i64 s]) := by rw [← hHR]; exact BoxV.new _ _ _ (by simp) rfl
    clear hHR
    have Tn : Hid (Below w.heap.size w _) := Below.al T.out (.cells #[.int .i64 x, .int .i64 y, .int .i64 s] 32)
    have Xn : Hid _ := Rid.below X.out ((Below.refl _ _).alloc (Nat.le_refl _) (.cells #[.int .i64 x, .int .i64 y, .int .i64 s] 32))
    clear T X
    have T := Tn
    have X := Xn
    clear Tn Xn
    go_upto_region 5 with fail
    rw [HHR.out]
    clear y0 y1 y2
    generalize wn.alloc (.cells #[.int .i64 x, .int .i64 y, .int .i64 s] 32) = w0 at *
    obtain ⟨wn, hwq⟩ : ∃ w9 : World, w9 = w0 := ⟨_, rfl⟩
    subst hwq
    clear HHR
    by_cases e : s = 1
    case pos =>
      have E := Lib.hid (show j + 1 = ins (l.take (i + 1)) from by rw [HIN.out, if_pos e, HJ.out])
      have t : (s == 1) = true := by simp [e]
      clear e
      have d0 := (RB.out.2 0 _ rfl).1
      have d1 := (RB.out.2 1 _ rfl).1
      have d2 := (RB.out.2 2 _ rfl).1
      clear RB
      go_wp2_with fail
      go_roundw
      case rel => exact ⟨i + 1, j + 1, by omega, by go_num, by go_num, E.out, by omega, T.out, X.out⟩
      case measure => first | (simp [intOf]; done) | (simp [intOf]; omega) | omega
    have E := Lib.hid (show j = ins (l.take (i + 1)) from by rw [HIN.out, if_neg e, HJ.out]; rfl)
    have t : (s == 1) = false := by simp [e]
    clear e
    have d0 := (RB.out.2 0 _ rfl).1
    have d1 := (RB.out.2 1 _ rfl).1
    have d2 := (RB.out.2 2 _ rfl).1
    clear RB
    go_wp2_with fail
    go_roundw
    case rel => exact ⟨i + 1, j, by omega, rfl, by go_num, E.out, by omega, T.out, X.out⟩
    case measure => first | (simp [intOf]; done) | (simp [intOf]; omega) | omega
/-- The direction of a rider, 0 for one who goes nowhere. -/
def cdir (r : Ri) : Int := sgn r.b r.a
theorem cdir_ne {r : Ri} (h : r.a ≠ r.b) : cdir r = rdir r := by
  unfold cdir sgn rdir
  by_cases g : r.b > r.a
  · rw [if_pos g, if_neg (by omega), if_pos g]
  · rw [if_neg g, if_pos (by omega), if_neg g]
theorem cdir_eq {r : Ri} (h : r.a = r.b) : cdir r = 0 := by unfold cdir sgn; rw [if_neg (by omega), if_neg (by omega)]
theorem dir_c (r : Ri) (w : World) : Calls Try.prog 53 #[.agg #[.int .i64 r.a, .int .i64 r.b, .int .i64 r.s]] w (Mk w (.int .i64 (cdir r))) := by
  obtain ⟨x, y, s⟩ := r
  refine at_base fun wn hwn => ?_
  have T := Lib.hid (show Below w.heap.size w wn from by rw [hwn]; exact Below.refl _ _)
  clear hwn
  obtain ⟨g, hg⟩ : ∃ g, Array.size (World.heap wn) = g := ⟨_, rfl⟩
  have HGg := Lib.hid hg
  have hTg : w.heap.size ≤ g := by rw [← hg]; exact T.out.size
  have Tn := Lib.hid (show Below w.heap.size w (wn.alloc (.cells #[.int .i64 x, .int .i64 y, .int .i64 s] 32)) from (Below.al T.out (.cells #[.int .i64 x, .int .i64 y, .int .i64 s] 32)))
  have RB := Lib.hid (show BoxV (wn.alloc (.cells #[.int .i64 x, .int .i64 y, .int .i64 s] 32)) g [.int .i64 x, .int .i64 y, .int .i64 s] from by have h9 := (BoxV.new wn [.int .i64 x, .int .i64 y, .int .i64 s] 32 (by simp) rfl); simp only [World.size_alloc, hg, Nat.add_assoc, Nat.reduceAdd] at h9; exact h9)
  have HZg := Lib.hid (show ((wn.alloc (.cells #[.int .i64 x, .int .i64 y, .int .i64 s] 32))).heap.size = g + 1 from by simp only [World.size_alloc, hg, Nat.add_assoc, Nat.reduceAdd])
  clear hg
  clear T
  have T := Tn
  clear Tn
  go_enter Try.func53, Try.ntmps53
  have c0 := (RB.out.2 0 _ rfl).1
  have c1 := (RB.out.2 1 _ rfl).1
  have c2 := (RB.out.2 2 _ rfl).1
  go_wp2_with fail
  rw [HGg.out]
  refine Calls.mono (compare_s _ _ _) ?_
  intro e wn hh
  obtain ⟨he, hb⟩ := (by first | exact hh | exact Ro.mk hh | exact St.mk hh | exact LawOk.mk' hh : Mk _ _ e wn)
  subst he
  have Tn : Hid (Below w.heap.size w wn) := below_next T.out hb
  have RBn : Hid _ := BoxV.below RB.out hb
  clear hb hh c0 c1 c2
  clear T RB
  have T := Tn
  have RB := RBn
  clear Tn RBn
  go_wp2_with fail
  go_ret
  exact Mk.i rfl T.out
/-- A rider of a building. -/
def CR (n : Nat) (r : Ri) : Prop := (0 ≤ r.a ∧ r.a < n) ∧ (0 ≤ r.b ∧ r.b < n) ∧ r.a ≠ r.b ∧ 0 ≤ r.s ∧ r.s ≤ 2
noncomputable def crB (n : Nat) (r : Ri) : Bool := tr (CR n r)
theorem crB_t {n : Nat} {r : Ri} (h : CR n r) : crB n r = true := tr_true h
theorem crB_f {n : Nat} {r : Ri} (h : ¬ CR n r) : crB n r = false := tr_false h
theorem pl_dir {n : Nat} {f : Int} {r : Ri} : PL n f (cdir r) ↔ (0 ≤ f ∧ f < n) ∧ r.a ≠ r.b := by
  unfold PL
  constructor
  · rintro ⟨h1, h2, h3⟩
    refine ⟨⟨h1, h2⟩, fun e => ?_⟩
    rw [cdir_eq e] at h3
    omega
  · rintro ⟨⟨h1, h2⟩, h3⟩
    refine ⟨h1, h2, ?_⟩
    rw [cdir_ne h3]
    unfold rdir
    split <;> simp
set_option maxHeartbeats 4000000 in
theorem canRide_c (n : Nat) (r : Ri) (w : World) (h8 : n ≤ 8) : Calls Try.prog 45 #[.agg #[.int .i64 r.a, .int .i64 r.b, .int .i64 r.s], .int .i64 n] w (Mk w (.bool (crB n r))) := by
  have KD := fun w' => dir_c r w'
  have P1 := pl_dir (n := n) (f := r.a) (r := r)
  have P2 := pl_dir (n := n) (f := r.b) (r := r)
  have hE1 : CR n r → crB n r = true := crB_t
  have hE0 : ¬ CR n r → crB n r = false := crB_f
  unfold CR at hE1 hE0
  obtain ⟨b, hb⟩ : ∃ b, crB n r = b := ⟨_, rfl⟩
  obtain ⟨e, he⟩ : ∃ e, cdir r = e := ⟨_, rfl⟩
  rw [hb] at hE1 hE0
  rw [he] at KD P1 P2
  rw [hb]
  obtain ⟨x, y, s⟩ := r
  simp only at KD P1 P2 hE1 hE0
  have HD := Lib.hid KD
  have HQ1 := Lib.hid P1
  have HQ2 := Lib.hid P2
  have HE1 := Lib.hid hE1
  have HE0 := Lib.hid hE0
  clear KD P1 P2 hE1 hE0 hb he
  refine at_base fun wn hwn => ?_
  have T := Lib.hid (show Below w.heap.size w wn from by rw [hwn]; exact Below.refl _ _)
  clear hwn
  obtain ⟨g, hg⟩ : ∃ g, Array.size (World.heap wn) = g := ⟨_, rfl⟩
  have HGg := Lib.hid hg
  have hTg : w.heap.size ≤ g := by rw [← hg]; exact T.out.size
  have Tn := Lib.hid (show Below w.heap.size w (wn.alloc (.cells #[.int .i64 x, .int .i64 y, .int .i64 s] 32)) from (Below.al T.out (.cells #[.int .i64 x, .int .i64 y, .int .i64 s] 32)))
  have RB := Lib.hid (show BoxV (wn.alloc (.cells #[.int .i64 x, .int .i64 y, .int .i64 s] 32)) g [.int .i64 x, .int .i64 y, .int .i64 s] from by have h9 := (BoxV.new wn [.int .i64 x, .int .i64 y, .int .i64 s] 32 (by simp) rfl); simp only [World.size_alloc, hg, Nat.add_assoc, Nat.reduceAdd] at h9; exact h9)
  have HZg := Lib.hid (show ((wn.alloc (.cells #[.int .i64 x, .int .i64 y, .int .i64 s] 32))).heap.size = g + 1 from by simp only [World.size_alloc, hg, Nat.add_assoc, Nat.reduceAdd])
  clear hg
  clear T
  have T := Tn
  clear Tn
  go_enter Try.func45, Try.ntmps45
  by_cases h1 : PL n x e
  case neg =>
    have H1 := Lib.hid h1
    have H2 := 0
    have HE := Lib.hid (HE0.out (fun g => H1.out (HQ1.out.2 ⟨g.1, g.2.2.1⟩)))
    clear h1
    have E := Lib.hid (show b = false from HE.out)
    go_wp2_with fail
    rw [HGg.out]
    generalize wn.alloc (.cells #[.int .i64 x, .int .i64 y, .int .i64 s] 32) = w0 at *
    obtain ⟨wn, hwq⟩ : ∃ w9 : World, w9 = w0 := ⟨_, rfl⟩
    subst hwq
    refine wp_region_quiet (C := fun w' => Below (World.heap (wn)).size (wn) w') (by kernel_rfl) (by kernel_rfl) (by first | exact ⟨rfl, rfl, rfl, Nat.le_refl _, fun _ _ => rfl⟩ | exact Below.dw (by repeat (first | exact Below.refl _ _ | refine Below.al ?_ _ | refine Below.dr ?_ _ | refine Below.dw ?_ | refine Below.st ?_ (by first | exact Nat.le_refl _ | exact Nat.le_add_right _ _ | (simp; omega)) _ | (refine below_next ?_ (by assumption))))) ?_
    simp only []
    repeat (go_big_quiet_step (first | (intro _; with_reducible exact rfl) | (intro hC; go_at_call 53; have RB9 := BoxV.below RB.out hC; have c0 := (RB9.2 0 _ rfl).1; have c1 := (RB9.2 1 _ rfl).1; have c2 := (RB9.2 2 _ rfl).1; clear RB9; (refine Calls.mono (HD.out _) ?_); (first | (rintro e wx ⟨rfl, hb⟩; exact ⟨rfl, below_next hC hb⟩) | (rintro e wx ⟨rfl, n, rfl⟩; exact ⟨rfl, Below.dr hC n⟩) | (rintro e wx ⟨rfl, rfl⟩; exact ⟨rfl, hC⟩))) | (intro hC; go_at_call 44; have RB9 := BoxV.below RB.out hC; have c0 := (RB9.2 0 _ rfl).1; have c1 := (RB9.2 1 _ rfl).1; have c2 := (RB9.2 2 _ rfl).1; clear RB9; (with_reducible refine Calls.mono (isPlace_f n x e _ h8 H1.out) ?_); (first | (rintro e wx ⟨rfl, hb⟩; exact ⟨rfl, below_next hC hb⟩) | (rintro e wx ⟨rfl, n, rfl⟩; exact ⟨rfl, Below.dr hC n⟩) | (rintro e wx ⟨rfl, rfl⟩; exact ⟨rfl, hC⟩))) | (intro hC; go_at_call 44; have RB9 := BoxV.below RB.out hC; have c0 := (RB9.2 0 _ rfl).1; have c1 := (RB9.2 1 _ rfl).1; have c2 := (RB9.2 2 _ rfl).1; clear RB9; (with_reducible refine Calls.mono (isPlace_f n x e _ h8 H1.out) ?_); (first | (rintro e wx ⟨rfl, hb⟩; exact ⟨rfl, below_next hC hb⟩) | (rintro e wx ⟨rfl, n, rfl⟩; exact ⟨rfl, Below.dr hC n⟩) | (rintro e wx ⟨rfl, rfl⟩; exact ⟨rfl, hC⟩))) | (intro hC; have RB9 := BoxV.below RB.out hC; have c0 := (RB9.2 0 _ rfl).1; have c1 := (RB9.2 1 _ rfl).1; have c2 := (RB9.2 2 _ rfl).1; clear RB9; go_simp; rfl)))
    refine wpQuiet_nil ?_
    intro wq hq
    have Tn := Lib.hid (below_next T.out hq)
    have RBn := Lib.hid (BoxV.below RB.out hq)
    clear hq
    clear T RB
    have T := Tn
    have RB := RBn
    clear Tn RBn
    obtain ⟨wn, hwq⟩ : ∃ w0, w0 = wq := ⟨_, rfl⟩
    subst hwq
    go_wp2_with fail
    go_ret
    exact Mk.b E.out T.out
  have H1 := Lib.hid h1
  clear h1
  by_cases h2 : PL n y e
  case neg =>
    have H2 := Lib.hid h2
    have HE := Lib.hid (HE0.out (fun g => H2.out (HQ2.out.2 ⟨g.2.1, g.2.2.1⟩)))
    clear h2
    have E := Lib.hid (show b = false from HE.out)
    go_wp2_with fail
    rw [HGg.out]
    generalize wn.alloc (.cells #[.int .i64 x, .int .i64 y, .int .i64 s] 32) = w0 at *
    obtain ⟨wn, hwq⟩ : ∃ w9 : World, w9 = w0 := ⟨_, rfl⟩
    subst hwq
    refine wp_region_quiet (C := fun w' => Below (World.heap (wn)).size (wn) w') (by kernel_rfl) (by kernel_rfl) (by first | exact ⟨rfl, rfl, rfl, Nat.le_refl _, fun _ _ => rfl⟩ | exact Below.dw (by repeat (first | exact Below.refl _ _ | refine Below.al ?_ _ | refine Below.dr ?_ _ | refine Below.dw ?_ | refine Below.st ?_ (by first | exact Nat.le_refl _ | exact Nat.le_add_right _ _ | (simp; omega)) _ | (refine below_next ?_ (by assumption))))) ?_
    simp only []
    repeat (go_big_quiet_step (first | (intro _; with_reducible exact rfl) | (intro hC; go_at_call 53; have RB9 := BoxV.below RB.out hC; have c0 := (RB9.2 0 _ rfl).1; have c1 := (RB9.2 1 _ rfl).1; have c2 := (RB9.2 2 _ rfl).1; clear RB9; (refine Calls.mono (HD.out _) ?_); (first | (rintro e wx ⟨rfl, hb⟩; exact ⟨rfl, below_next hC hb⟩) | (rintro e wx ⟨rfl, n, rfl⟩; exact ⟨rfl, Below.dr hC n⟩) | (rintro e wx ⟨rfl, rfl⟩; exact ⟨rfl, hC⟩))) | (intro hC; go_at_call 44; have RB9 := BoxV.below RB.out hC; have c0 := (RB9.2 0 _ rfl).1; have c1 := (RB9.2 1 _ rfl).1; have c2 := (RB9.2 2 _ rfl).1; clear RB9; (with_reducible refine Calls.mono (isPlace_t n x e _ h8 H1.out) ?_); (first | (rintro e wx ⟨rfl, hb⟩; exact ⟨rfl, below_next hC hb⟩) | (rintro e wx ⟨rfl, n, rfl⟩; exact ⟨rfl, Below.dr hC n⟩) | (rintro e wx ⟨rfl, rfl⟩; exact ⟨rfl, hC⟩))) | (intro hC; go_at_call 44; have RB9 := BoxV.below RB.out hC; have c0 := (RB9.2 0 _ rfl).1; have c1 := (RB9.2 1 _ rfl).1; have c2 := (RB9.2 2 _ rfl).1; clear RB9; (with_reducible refine Calls.mono (isPlace_f n y e _ h8 H2.out) ?_); (first | (rintro e wx ⟨rfl, hb⟩; exact ⟨rfl, below_next hC hb⟩) | (rintro e wx ⟨rfl, n, rfl⟩; exact ⟨rfl, Below.dr hC n⟩) | (rintro e wx ⟨rfl, rfl⟩; exact ⟨rfl, hC⟩))) | (intro hC; have RB9 := BoxV.below RB.out hC; have c0 := (RB9.2 0 _ rfl).1; have c1 := (RB9.2 1 _ rfl).1; have c2 := (RB9.2 2 _ rfl).1; clear RB9; go_simp; rfl)))
    refine wpQuiet_nil ?_
    intro wq hq
    have Tn := Lib.hid (below_next T.out hq)
    have RBn := Lib.hid (BoxV.below RB.out hq)
    clear hq
    clear T RB
    have T := Tn
    have RB := RBn
    clear Tn RBn
    obtain ⟨wn, hwq⟩ : ∃ w0, w0 = wq := ⟨_, rfl⟩
    subst hwq
    go_wp2_with fail
    go_ret
    exact Mk.b E.out T.out
  have H2 := Lib.hid h2
  clear h2
  by_cases h3 : 0 ≤ s
  case neg =>
    have v3 : decide (0 ≤ s) = false := decide_eq_false h3
    have HE := Lib.hid (HE0.out (fun g => h3 g.2.2.2.1))
    clear h3
    have E := Lib.hid (show b = false from HE.out)
    go_wp2_with fail
    rw [HGg.out]
    generalize wn.alloc (.cells #[.int .i64 x, .int .i64 y, .int .i64 s] 32) = w0 at *
    obtain ⟨wn, hwq⟩ : ∃ w9 : World, w9 = w0 := ⟨_, rfl⟩
    subst hwq
    refine wp_region_quiet (C := fun w' => Below (World.heap (wn)).size (wn) w') (by kernel_rfl) (by kernel_rfl) (by first | exact ⟨rfl, rfl, rfl, Nat.le_refl _, fun _ _ => rfl⟩ | exact Below.dw (by repeat (first | exact Below.refl _ _ | refine Below.al ?_ _ | refine Below.dr ?_ _ | refine Below.dw ?_ | refine Below.st ?_ (by first | exact Nat.le_refl _ | exact Nat.le_add_right _ _ | (simp; omega)) _ | (refine below_next ?_ (by assumption))))) ?_
    simp only []
    repeat (go_big_quiet_step (first | (intro _; with_reducible exact rfl) | (intro hC; go_at_call 53; have RB9 := BoxV.below RB.out hC; have c0 := (RB9.2 0 _ rfl).1; have c1 := (RB9.2 1 _ rfl).1; have c2 := (RB9.2 2 _ rfl).1; clear RB9; (refine Calls.mono (HD.out _) ?_); (first | (rintro e wx ⟨rfl, hb⟩; exact ⟨rfl, below_next hC hb⟩) | (rintro e wx ⟨rfl, n, rfl⟩; exact ⟨rfl, Below.dr hC n⟩) | (rintro e wx ⟨rfl, rfl⟩; exact ⟨rfl, hC⟩))) | (intro hC; go_at_call 44; have RB9 := BoxV.below RB.out hC; have c0 := (RB9.2 0 _ rfl).1; have c1 := (RB9.2 1 _ rfl).1; have c2 := (RB9.2 2 _ rfl).1; clear RB9; (with_reducible refine Calls.mono (isPlace_t n x e _ h8 H1.out) ?_); (first | (rintro e wx ⟨rfl, hb⟩; exact ⟨rfl, below_next hC hb⟩) | (rintro e wx ⟨rfl, n, rfl⟩; exact ⟨rfl, Below.dr hC n⟩) | (rintro e wx ⟨rfl, rfl⟩; exact ⟨rfl, hC⟩))) | (intro hC; go_at_call 44; have RB9 := BoxV.below RB.out hC; have c0 := (RB9.2 0 _ rfl).1; have c1 := (RB9.2 1 _ rfl).1; have c2 := (RB9.2 2 _ rfl).1; clear RB9; (with_reducible refine Calls.mono (isPlace_t n y e _ h8 H2.out) ?_); (first | (rintro e wx ⟨rfl, hb⟩; exact ⟨rfl, below_next hC hb⟩) | (rintro e wx ⟨rfl, n, rfl⟩; exact ⟨rfl, Below.dr hC n⟩) | (rintro e wx ⟨rfl, rfl⟩; exact ⟨rfl, hC⟩))) | (intro hC; have RB9 := BoxV.below RB.out hC; have c0 := (RB9.2 0 _ rfl).1; have c1 := (RB9.2 1 _ rfl).1; have c2 := (RB9.2 2 _ rfl).1; clear RB9; go_simp; rfl)))
    refine wpQuiet_nil ?_
    intro wq hq
    have Tn := Lib.hid (below_next T.out hq)
    have RBn := Lib.hid (BoxV.below RB.out hq)
    clear hq
    clear T RB
    have T := Tn
    have RB := RBn
    clear Tn RBn
    obtain ⟨wn, hwq⟩ : ∃ w0, w0 = wq := ⟨_, rfl⟩
    subst hwq
    go_wp2_with fail
    go_ret
    exact Mk.b E.out T.out
  have v3 : decide (0 ≤ s) = true := decide_eq_true h3
  have H3 := Lib.hid h3
  clear h3
  by_cases h4 : s ≤ 2
  case neg =>
    have v4 : decide (s ≤ 2) = false := decide_eq_false h4
    have HE := Lib.hid (HE0.out (fun g => h4 g.2.2.2.2))
    clear h4
    have E := Lib.hid (show b = false from HE.out)
    go_wp2_with fail
    rw [HGg.out]
    generalize wn.alloc (.cells #[.int .i64 x, .int .i64 y, .int .i64 s] 32) = w0 at *
    obtain ⟨wn, hwq⟩ : ∃ w9 : World, w9 = w0 := ⟨_, rfl⟩
    subst hwq
    refine wp_region_quiet (C := fun w' => Below (World.heap (wn)).size (wn) w') (by kernel_rfl) (by kernel_rfl) (by first | exact ⟨rfl, rfl, rfl, Nat.le_refl _, fun _ _ => rfl⟩ | exact Below.dw (by repeat (first | exact Below.refl _ _ | refine Below.al ?_ _ | refine Below.dr ?_ _ | refine Below.dw ?_ | refine Below.st ?_ (by first | exact Nat.le_refl _ | exact Nat.le_add_right _ _ | (simp; omega)) _ | (refine below_next ?_ (by assumption))))) ?_
    simp only []
    repeat (go_big_quiet_step (first | (intro _; with_reducible exact rfl) | (intro hC; go_at_call 53; have RB9 := BoxV.below RB.out hC; have c0 := (RB9.2 0 _ rfl).1; have c1 := (RB9.2 1 _ rfl).1; have c2 := (RB9.2 2 _ rfl).1; clear RB9; (refine Calls.mono (HD.out _) ?_); (first | (rintro e wx ⟨rfl, hb⟩; exact ⟨rfl, below_next hC hb⟩) | (rintro e wx ⟨rfl, n, rfl⟩; exact ⟨rfl, Below.dr hC n⟩) | (rintro e wx ⟨rfl, rfl⟩; exact ⟨rfl, hC⟩))) | (intro hC; go_at_call 44; have RB9 := BoxV.below RB.out hC; have c0 := (RB9.2 0 _ rfl).1; have c1 := (RB9.2 1 _ rfl).1; have c2 := (RB9.2 2 _ rfl).1; clear RB9; (with_reducible refine Calls.mono (isPlace_t n x e _ h8 H1.out) ?_); (first | (rintro e wx ⟨rfl, hb⟩; exact ⟨rfl, below_next hC hb⟩) | (rintro e wx ⟨rfl, n, rfl⟩; exact ⟨rfl, Below.dr hC n⟩) | (rintro e wx ⟨rfl, rfl⟩; exact ⟨rfl, hC⟩))) | (intro hC; go_at_call 44; have RB9 := BoxV.below RB.out hC; have c0 := (RB9.2 0 _ rfl).1; have c1 := (RB9.2 1 _ rfl).1; have c2 := (RB9.2 2 _ rfl).1; clear RB9; (with_reducible refine Calls.mono (isPlace_t n y e _ h8 H2.out) ?_); (first | (rintro e wx ⟨rfl, hb⟩; exact ⟨rfl, below_next hC hb⟩) | (rintro e wx ⟨rfl, n, rfl⟩; exact ⟨rfl, Below.dr hC n⟩) | (rintro e wx ⟨rfl, rfl⟩; exact ⟨rfl, hC⟩))) | (intro hC; have RB9 := BoxV.below RB.out hC; have c0 := (RB9.2 0 _ rfl).1; have c1 := (RB9.2 1 _ rfl).1; have c2 := (RB9.2 2 _ rfl).1; clear RB9; go_simp; rfl)))
    refine wpQuiet_nil ?_
    intro wq hq
    have Tn := Lib.hid (below_next T.out hq)
    have RBn := Lib.hid (BoxV.below RB.out hq)
    clear hq
    clear T RB
    have T := Tn
    have RB := RBn
    clear Tn RBn
    obtain ⟨wn, hwq⟩ : ∃ w0, w0 = wq := ⟨_, rfl⟩
    subst hwq
    go_wp2_with fail
    go_ret
    exact Mk.b E.out T.out
  have v4 : decide (s ≤ 2) = true := decide_eq_true h4
  have HE := Lib.hid (HE1.out ⟨(HQ1.out.1 H1.out).1, (HQ2.out.1 H2.out).1, (HQ1.out.1 H1.out).2, H3.out, h4⟩)
  clear h4
  have E := Lib.hid (show b = true from HE.out)
  go_wp2_with fail
  rw [HGg.out]
  generalize wn.alloc (.cells #[.int .i64 x, .int .i64 y, .int .i64 s] 32) = w0 at *
  obtain ⟨wn, hwq⟩ : ∃ w9 : World, w9 = w0 := ⟨_, rfl⟩
  subst hwq
  refine wp_region_quiet (C := fun w' => Below (World.heap (wn)).size (wn) w') (by kernel_rfl) (by kernel_rfl) (by first | exact ⟨rfl, rfl, rfl, Nat.le_refl _, fun _ _ => rfl⟩ | exact Below.dw (by repeat (first | exact Below.refl _ _ | refine Below.al ?_ _ | refine Below.dr ?_ _ | refine Below.dw ?_ | refine Below.st ?_ (by first | exact Nat.le_refl _ | exact Nat.le_add_right _ _ | (simp; omega)) _ | (refine below_next ?_ (by assumption))))) ?_
  simp only []
  repeat (go_big_quiet_step (first | (intro _; with_reducible exact rfl) | (intro hC; go_at_call 53; have RB9 := BoxV.below RB.out hC; have c0 := (RB9.2 0 _ rfl).1; have c1 := (RB9.2 1 _ rfl).1; have c2 := (RB9.2 2 _ rfl).1; clear RB9; (refine Calls.mono (HD.out _) ?_); (first | (rintro e wx ⟨rfl, hb⟩; exact ⟨rfl, below_next hC hb⟩) | (rintro e wx ⟨rfl, n, rfl⟩; exact ⟨rfl, Below.dr hC n⟩) | (rintro e wx ⟨rfl, rfl⟩; exact ⟨rfl, hC⟩))) | (intro hC; go_at_call 44; have RB9 := BoxV.below RB.out hC; have c0 := (RB9.2 0 _ rfl).1; have c1 := (RB9.2 1 _ rfl).1; have c2 := (RB9.2 2 _ rfl).1; clear RB9; (with_reducible refine Calls.mono (isPlace_t n x e _ h8 H1.out) ?_); (first | (rintro e wx ⟨rfl, hb⟩; exact ⟨rfl, below_next hC hb⟩) | (rintro e wx ⟨rfl, n, rfl⟩; exact ⟨rfl, Below.dr hC n⟩) | (rintro e wx ⟨rfl, rfl⟩; exact ⟨rfl, hC⟩))) | (intro hC; go_at_call 44; have RB9 := BoxV.below RB.out hC; have c0 := (RB9.2 0 _ rfl).1; have c1 := (RB9.2 1 _ rfl).1; have c2 := (RB9.2 2 _ rfl).1; clear RB9; (with_reducible refine Calls.mono (isPlace_t n y e _ h8 H2.out) ?_); (first | (rintro e wx ⟨rfl, hb⟩; exact ⟨rfl, below_next hC hb⟩) | (rintro e wx ⟨rfl, n, rfl⟩; exact ⟨rfl, Below.dr hC n⟩) | (rintro e wx ⟨rfl, rfl⟩; exact ⟨rfl, hC⟩))) | (intro hC; have RB9 := BoxV.below RB.out hC; have c0 := (RB9.2 0 _ rfl).1; have c1 := (RB9.2 1 _ rfl).1; have c2 := (RB9.2 2 _ rfl).1; clear RB9; go_simp; rfl)))
  refine wpQuiet_nil ?_
  intro wq hq
  have Tn := Lib.hid (below_next T.out hq)
  have RBn := Lib.hid (BoxV.below RB.out hq)
  clear hq
  clear T RB
  have T := Tn
  have RB := RBn
  clear Tn RBn
  obtain ⟨wn, hwq⟩ : ∃ w0, w0 = wq := ⟨_, rfl⟩
  subst hwq
  go_wp2_with fail
  go_ret
  exact Mk.b E.out T.out
/-- Who can be in a car there. -/
def GA (f d : Int) (r : Ri) : Prop := 0 ≤ (f - r.a) * d ∧ 0 < (r.b - f) * d
noncomputable def gaB (f d : Int) (r : Ri) : Bool := tr (GA f d r)
theorem gaB_t {f d : Int} {r : Ri} (h : GA f d r) : gaB f d r = true := tr_true h
theorem gaB_f {f d : Int} {r : Ri} (h : ¬ GA f d r) : gaB f d r = false := tr_false h
set_option maxHeartbeats 2000000 in
theorem goesAlong_u (r : Ri) (f : Int) (w : World) (ha : 0 ≤ r.a ∧ r.a < 8) (hb : 0 ≤ r.b ∧ r.b < 8) (hf : 0 ≤ f ∧ f < 8) : Calls Try.prog 46 #[.agg #[.int .i64 r.a, .int .i64 r.b, .int .i64 r.s], .agg #[.int .i64 f, .int .i64 (1)]] w (Mk w (.bool (gaB f (1) r))) := by
  have hE1 : GA f (1) r → gaB f (1) r = true := gaB_t
  have hE0 : ¬ GA f (1) r → gaB f (1) r = false := gaB_f
  unfold GA at hE1 hE0
  obtain ⟨b, hb0⟩ : ∃ b, gaB f (1) r = b := ⟨_, rfl⟩
  rw [hb0] at hE1 hE0
  rw [hb0]
  obtain ⟨x, y, s⟩ := r
  simp only at hE1 hE0 ha hb
  have HE1 := Lib.hid hE1
  have HE0 := Lib.hid hE0
  clear hE1 hE0 hb0
  obtain ⟨a0, a1⟩ := ha
  obtain ⟨b0, b1⟩ := hb
  obtain ⟨f0, f1⟩ := hf
  refine at_base fun wn hwn => ?_
  have T := Lib.hid (show Below w.heap.size w wn from by rw [hwn]; exact Below.refl _ _)
  clear hwn
  obtain ⟨g, hg⟩ : ∃ g, Array.size (World.heap wn) = g := ⟨_, rfl⟩
  have HGg := Lib.hid hg
  have hTg : w.heap.size ≤ g := by rw [← hg]; exact T.out.size
  have Tn := Lib.hid (show Below w.heap.size w ((wn.alloc (.cells #[.int .i64 x, .int .i64 y, .int .i64 s] 32)).alloc (.cells #[.int .i64 (f), .int .i64 (1)] 24)) from (Below.al (Below.al T.out (.cells #[.int .i64 x, .int .i64 y, .int .i64 s] 32)) (.cells #[.int .i64 (f), .int .i64 (1)] 24)))
  have RB := Lib.hid (show BoxV ((wn.alloc (.cells #[.int .i64 x, .int .i64 y, .int .i64 s] 32)).alloc (.cells #[.int .i64 (f), .int .i64 (1)] 24)) g [.int .i64 x, .int .i64 y, .int .i64 s] from by have h9 := (BoxV.al (BoxV.new wn [.int .i64 x, .int .i64 y, .int .i64 s] 32 (by simp) rfl) (.cells #[.int .i64 (f), .int .i64 (1)] 24)); simp only [World.size_alloc, hg, Nat.add_assoc, Nat.reduceAdd] at h9; exact h9)
  have PB := Lib.hid (show Box ((wn.alloc (.cells #[.int .i64 x, .int .i64 y, .int .i64 s] 32)).alloc (.cells #[.int .i64 (f), .int .i64 (1)] 24)) (g + 1) (f) (1) from by have h9 := (Box.new (wn.alloc (.cells #[.int .i64 x, .int .i64 y, .int .i64 s] 32)) (f) (1) 24); simp only [World.size_alloc, hg, Nat.add_assoc, Nat.reduceAdd] at h9; exact h9)
  have HZg := Lib.hid (show (((wn.alloc (.cells #[.int .i64 x, .int .i64 y, .int .i64 s] 32)).alloc (.cells #[.int .i64 (f), .int .i64 (1)] 24))).heap.size = g + 2 from by simp only [World.size_alloc, hg, Nat.add_assoc, Nat.reduceAdd])
  clear hg
  clear T
  have T := Tn
  clear Tn
  go_enter Try.func46, Try.ntmps46
  by_cases h1 : 0 ≤ (f - x) * (1)
  case neg =>
    have E := Lib.hid (show b = false from HE0.out (fun g => h1 g.1))
    have v1 : (f - x) * (1) < 0 := by omega
    clear h1
    have c0 := (RB.out.2 0 _ rfl).1
    have c1 := (RB.out.2 1 _ rfl).1
    have c2 := (RB.out.2 2 _ rfl).1
    obtain ⟨⟨d0, d1⟩, df0, df1⟩ := PB.out
    go_wp2_with fail
    go_ret
    exact Mk.b E.out T.out
  by_cases h2 : 0 < (y - f) * (1)
  case neg =>
    have E := Lib.hid (show b = false from HE0.out (fun g => h2 g.2))
    have c0 := (RB.out.2 0 _ rfl).1
    have c1 := (RB.out.2 1 _ rfl).1
    have c2 := (RB.out.2 2 _ rfl).1
    obtain ⟨⟨d0, d1⟩, df0, df1⟩ := PB.out
    go_wp2_with fail
    go_ret
    exact Mk.b (by rw [E.out]; symm; exact decide_eq_false (by omega)) T.out
  have E := Lib.hid (show b = true from HE1.out ⟨h1, h2⟩)
  have c0 := (RB.out.2 0 _ rfl).1
  have c1 := (RB.out.2 1 _ rfl).1
  have c2 := (RB.out.2 2 _ rfl).1
  obtain ⟨⟨d0, d1⟩, df0, df1⟩ := PB.out
  go_wp2_with fail
  go_ret
  exact Mk.b (by rw [E.out]; symm; exact decide_eq_true (by omega)) T.out
set_option maxHeartbeats 2000000 in
theorem goesAlong_d (r : Ri) (f : Int) (w : World) (ha : 0 ≤ r.a ∧ r.a < 8) (hb : 0 ≤ r.b ∧ r.b < 8) (hf : 0 ≤ f ∧ f < 8) : Calls Try.prog 46 #[.agg #[.int .i64 r.a, .int .i64 r.b, .int .i64 r.s], .agg #[.int .i64 f, .int .i64 (-1)]] w (Mk w (.bool (gaB f (-1) r))) := by
  have hE1 : GA f (-1) r → gaB f (-1) r = true := gaB_t
  have hE0 : ¬ GA f (-1) r → gaB f (-1) r = false := gaB_f
  unfold GA at hE1 hE0
  obtain ⟨b, hb0⟩ : ∃ b, gaB f (-1) r = b := ⟨_, rfl⟩
  rw [hb0] at hE1 hE0
  rw [hb0]
  obtain ⟨x, y, s⟩ := r
  simp only at hE1 hE0 ha hb
  have HE1 := Lib.hid hE1
  have HE0 := Lib.hid hE0
  clear hE1 hE0 hb0
  obtain ⟨a0, a1⟩ := ha
  obtain ⟨b0, b1⟩ := hb
  obtain ⟨f0, f1⟩ := hf
  refine at_base fun wn hwn => ?_
  have T := Lib.hid (show Below w.heap.size w wn from by rw [hwn]; exact Below.refl _ _)
  clear hwn
  obtain ⟨g, hg⟩ : ∃ g, Array.size (World.heap wn) = g := ⟨_, rfl⟩
  have HGg := Lib.hid hg
  have hTg : w.heap.size ≤ g := by rw [← hg]; exact T.out.size
  have Tn := Lib.hid (show Below w.heap.size w ((wn.alloc (.cells #[.int .i64 x, .int .i64 y, .int .i64 s] 32)).alloc (.cells #[.int .i64 (f), .int .i64 (-1)] 24)) from (Below.al (Below.al T.out (.cells #[.int .i64 x, .int .i64 y, .int .i64 s] 32)) (.cells #[.int .i64 (f), .int .i64 (-1)] 24)))
  have RB := Lib.hid (show BoxV ((wn.alloc (.cells #[.int .i64 x, .int .i64 y, .int .i64 s] 32)).alloc (.cells #[.int .i64 (f), .int .i64 (-1)] 24)) g [.int .i64 x, .int .i64 y, .int .i64 s] from by have h9 := (BoxV.al (BoxV.new wn [.int .i64 x, .int .i64 y, .int .i64 s] 32 (by simp) rfl) (.cells #[.int .i64 (f), .int .i64 (-1)] 24)); simp only [World.size_alloc, hg, Nat.add_assoc, Nat.reduceAdd] at h9; exact h9)
  have PB := Lib.hid (show Box ((wn.alloc (.cells #[.int .i64 x, .int .i64 y, .int .i64 s] 32)).alloc (.cells #[.int .i64 (f), .int .i64 (-1)] 24)) (g + 1) (f) (-1) from by have h9 := (Box.new (wn.alloc (.cells #[.int .i64 x, .int .i64 y, .int .i64 s] 32)) (f) (-1) 24); simp only [World.size_alloc, hg, Nat.add_assoc, Nat.reduceAdd] at h9; exact h9)
  have HZg := Lib.hid (show (((wn.alloc (.cells #[.int .i64 x, .int .i64 y, .int .i64 s] 32)).alloc (.cells #[.int .i64 (f), .int .i64 (-1)] 24))).heap.size = g + 2 from by simp only [World.size_alloc, hg, Nat.add_assoc, Nat.reduceAdd])
  clear hg
  clear T
  have T := Tn
  clear Tn
  go_enter Try.func46, Try.ntmps46
  by_cases h1 : 0 ≤ (f - x) * (-1)
  case neg =>
    have E := Lib.hid (show b = false from HE0.out (fun g => h1 g.1))
    have v1 : (f - x) * (-1) < 0 := by omega
    clear h1
    have c0 := (RB.out.2 0 _ rfl).1
    have c1 := (RB.out.2 1 _ rfl).1
    have c2 := (RB.out.2 2 _ rfl).1
    obtain ⟨⟨d0, d1⟩, df0, df1⟩ := PB.out
    go_wp2_with fail
    go_ret
    exact Mk.b E.out T.out
  by_cases h2 : 0 < (y - f) * (-1)
  case neg =>
    have E := Lib.hid (show b = false from HE0.out (fun g => h2 g.2))
    have c0 := (RB.out.2 0 _ rfl).1
    have c1 := (RB.out.2 1 _ rfl).1
    have c2 := (RB.out.2 2 _ rfl).1
    obtain ⟨⟨d0, d1⟩, df0, df1⟩ := PB.out
    go_wp2_with fail
    go_ret
    exact Mk.b (by rw [E.out]; symm; exact decide_eq_false (by omega)) T.out
  have E := Lib.hid (show b = true from HE1.out ⟨h1, h2⟩)
  have c0 := (RB.out.2 0 _ rfl).1
  have c1 := (RB.out.2 1 _ rfl).1
  have c2 := (RB.out.2 2 _ rfl).1
  obtain ⟨⟨d0, d1⟩, df0, df1⟩ := PB.out
  go_wp2_with fail
  go_ret
  exact Mk.b (by rw [E.out]; symm; exact decide_eq_true (by omega)) T.out
theorem goesAlong_c (r : Ri) (f d : Int) (w : World) (ha : 0 ≤ r.a ∧ r.a < 8) (hb : 0 ≤ r.b ∧ r.b < 8) (hf : 0 ≤ f ∧ f < 8) (hd : d = 1 ∨ d = -1) : Calls Try.prog 46 #[.agg #[.int .i64 r.a, .int .i64 r.b, .int .i64 r.s], .agg #[.int .i64 f, .int .i64 d]] w (Mk w (.bool (gaB f d r))) := by
  rcases hd with rfl | rfl
  · exact goesAlong_u r f w ha hb hf
  · exact goesAlong_d r f w ha hb hf
end Go.Proofs.Ytfhhgddajmihjaa

namespace Go.Proofs.Ytfhhgddajmihjaa
open Go.RowKit
set_option linter.unusedVariables false
set_option linter.unusedSimpArgs false
set_option maxRecDepth 100000

theorem rok_iff {n : Nat} {f d : Int} {r : Ri} (hd : d = 1 ∨ d = -1) : ROk n f d r ↔ CR n r ∧ (r.s = 1 → GA f d r) := by
  unfold ROk CR GA
  constructor
  · rintro ⟨h1, h2, h3, ⟨h4, h5⟩, h6⟩
    refine ⟨⟨h1, h2, h3, h4, h5⟩, fun e => ?_⟩
    obtain ⟨-, g2, g3⟩ := h6 e
    rcases hd with rfl | rfl <;> omega
  · rintro ⟨⟨h1, h2, h3, h4, h5⟩, h6⟩
    refine ⟨h1, h2, h3, ⟨h4, h5⟩, fun e => ?_⟩
    obtain ⟨g1, g2⟩ := h6 e
    unfold rdir
    rcases hd with rfl | rfl
    · rw [if_pos (by omega)]; omega
    · rw [if_neg (by omega)]; omega
set_option maxHeartbeats 4000000 in
theorem iTripValid_n (n : Nat) (m f d : Int) (a : Option Addr) (k c : Nat) (l : List Ri) (w : World) (hX : Rid w a k l) (h1 : 1 ≤ n) (h8 : n ≤ 8) (hm : 1 ≤ m ∧ m ≤ 8) (hp : PL n f d) (hk : k ≤ 8) :
    Calls Try.prog 14 #[.agg #[.int .i64 n, .int .i64 m, .int .i64 f, .int .i64 d, .slice a k c]] w (Mk w (.bool (tokB ⟨n, m, f, d, l⟩))) := by
  have HL := Lib.hid hX.2
  have hf : 0 ≤ f ∧ f < 8 := by have := hp.1; have := hp.2.1; omega
  have HT := Lib.hid (tok_of (n := n) (m := m) (f := f) (d := d) (l := l) (by omega) hm (by have := hp.1; have := hp.2.1; omega) hp.2.2 (by rw [hX.2]; exact hk))
  have HP := Lib.hid hp
  have HDD := Lib.hid hp.2.2
  have HFF := Lib.hid hf
  have h1i : 1 ≤ (n : Int) := by omega
  have h8i : (n : Int) ≤ 8 := by omega
  obtain ⟨m1, m8⟩ := hm
  have hki : (k : Int) ≤ 8 := by omega
  clear hp hf
  refine at_base fun wn hwn => ?_
  have T := Lib.hid (show Below w.heap.size w wn from by rw [hwn]; exact Below.refl _ _)
  rw [← hwn] at hX
  have X := Lib.hid (show Rid wn a k l from hX)
  clear hX
  clear hwn
  obtain ⟨g, hg⟩ : ∃ g, Array.size (World.heap wn) = g := ⟨_, rfl⟩
  have HGg := Lib.hid hg
  have hTg : w.heap.size ≤ g := by rw [← hg]; exact T.out.size
  have Tn := Lib.hid (show Below w.heap.size w (wn.alloc (.cells #[.int .i64 n, .int .i64 m, .int .i64 f, .int .i64 d, .slice a k c] 27)) from (Below.al T.out (.cells #[.int .i64 n, .int .i64 m, .int .i64 f, .int .i64 d, .slice a k c] 27)))
  have Xn := Lib.hid (Rid.below X.out (show Below wn.heap.size wn (wn.alloc (.cells #[.int .i64 n, .int .i64 m, .int .i64 f, .int .i64 d, .slice a k c] 27)) from (Below.al (Below.refl _ _) (.cells #[.int .i64 n, .int .i64 m, .int .i64 f, .int .i64 d, .slice a k c] 27))))
  have TB := Lib.hid (show BoxV (wn.alloc (.cells #[.int .i64 n, .int .i64 m, .int .i64 f, .int .i64 d, .slice a k c] 27)) g [.int .i64 n, .int .i64 m, .int .i64 f, .int .i64 d, .slice a k c] from by have h9 := (BoxV.new wn [.int .i64 n, .int .i64 m, .int .i64 f, .int .i64 d, .slice a k c] 27 (by simp) rfl); simp only [World.size_alloc, hg, Nat.add_assoc, Nat.reduceAdd] at h9; exact h9)
  have HZg := Lib.hid (show ((wn.alloc (.cells #[.int .i64 n, .int .i64 m, .int .i64 f, .int .i64 d, .slice a k c] 27))).heap.size = g + 1 from by simp only [World.size_alloc, hg, Nat.add_assoc, Nat.reduceAdd])
  clear hg
  clear T X
  have T := Tn
  have X := Xn
  clear Tn Xn
  go_enter Try.func14, Try.ntmps14
  have c0 := (TB.out.2 0 _ rfl).1
  have c1 := (TB.out.2 1 _ rfl).1
  have c2 := (TB.out.2 2 _ rfl).1
  have c3 := (TB.out.2 3 _ rfl).1
  have c4 := (TB.out.2 4 _ rfl).1
  go_wp2_with fail
  rw [HGg.out]
  refine Calls.mono (isPlace_t n f d _ h8 HP.out) ?_
  intro e wn hh
  obtain ⟨he, hb⟩ := (by first | exact hh | exact Ro.mk hh | exact St.mk hh | exact LawOk.mk' hh : Mk _ _ e wn)
  subst he
  have Tn : Hid (Below w.heap.size w wn) := below_next T.out hb
  have Xn : Hid _ := Rid.below X.out hb
  have TBn : Hid _ := BoxV.below TB.out hb
  clear hb hh c0 c1 c2 c3 c4
  clear T X TB
  have T := Tn
  have X := Xn
  have TB := TBn
  clear Tn Xn TBn
  have c0 := (TB.out.2 0 _ rfl).1
  have c1 := (TB.out.2 1 _ rfl).1
  have c2 := (TB.out.2 2 _ rfl).1
  have c3 := (TB.out.2 3 _ rfl).1
  have c4 := (TB.out.2 4 _ rfl).1
  go_wp2_with fail
  go_loopw [40] (fun v wr => ∃ i : Nat, i ≤ k ∧ v = .int .i64 i ∧ (∀ j, j < i → ROk n f d (rat l j)) ∧ Below w.heap.size w wr ∧ Rid wr a k l ∧ BoxV wr g [.int .i64 n, .int .i64 m, .int .i64 f, .int .i64 d, .slice a k c]) (fun v _ => k - (intOf v).toNat)
  case atStart => exact ⟨0, by omega, rfl, (fun j hj => by omega), T.out, X.out, TB.out⟩
  case' round =>
    clear T X TB c0 c1 c2 c3 c4
    obtain ⟨i, hi, rfl, hall, h9T, h9X, h9TB⟩ := hrel
    obtain ⟨wn, hwq⟩ : ∃ w0 : World, w0 = wr := ⟨_, rfl⟩
    rw [← hwq] at h9T h9X h9TB ⊢
    clear hwq
    have T := Lib.hid h9T
    have X := Lib.hid h9X
    have TB := Lib.hid h9TB
    clear h9T h9X h9TB
    have HA := Lib.hid hall
    clear hall
    by_cases hlt : i < k
    case neg =>
      obtain rfl : i = k := by omega
      have HA2 := Lib.hid (show ∀ j, j < l.length → ROk n f d (rat l j) from fun j hj => HA.out j (by rw [← HL.out]; exact hj))
      have K := fun w' (h : Rid w' a i l) => insideMany_c a i c l w' h (by omega)
      obtain ⟨z, hz⟩ : ∃ z : Nat, ins l = z := ⟨_, rfl⟩
      rw [hz] at K
      have HK := Lib.hid K
      have HZ := Lib.hid hz
      clear K hz
      go_upto_region 9 with fail
      refine wp_region_quiet (C := fun w' => Below (World.heap (wn)).size (wn) w') (by kernel_rfl) (by kernel_rfl) (by first | exact ⟨rfl, rfl, rfl, Nat.le_refl _, fun _ _ => rfl⟩ | exact Below.dw (by repeat (first | exact Below.refl _ _ | refine Below.al ?_ _ | refine Below.dr ?_ _ | refine Below.dw ?_ | refine Below.st ?_ (by first | exact Nat.le_refl _ | exact Nat.le_add_right _ _ | (simp; omega)) _ | (refine below_next ?_ (by assumption))))) ?_
      simp only []
      repeat (go_big_quiet_step (first | (intro _; with_reducible exact rfl) | (intro hC; go_at_call 47; have TB9 := BoxV.below TB.out hC; have c0 := (TB9.2 0 _ rfl).1; have c1 := (TB9.2 1 _ rfl).1; have c2 := (TB9.2 2 _ rfl).1; have c3 := (TB9.2 3 _ rfl).1; have c4 := (TB9.2 4 _ rfl).1; clear TB9; (refine Calls.mono (HK.out _ (Rid.below X.out hC)) ?_); (first | (rintro e wx ⟨rfl, hb⟩; exact ⟨rfl, below_next hC hb⟩) | (rintro e wx ⟨rfl, n, rfl⟩; exact ⟨rfl, Below.dr hC n⟩) | (rintro e wx ⟨rfl, rfl⟩; exact ⟨rfl, hC⟩))) | (intro hC; have TB9 := BoxV.below TB.out hC; have c0 := (TB9.2 0 _ rfl).1; have c1 := (TB9.2 1 _ rfl).1; have c2 := (TB9.2 2 _ rfl).1; have c3 := (TB9.2 3 _ rfl).1; have c4 := (TB9.2 4 _ rfl).1; clear TB9; go_simp; rfl)))
      refine wpQuiet_nil ?_
      intro wq hq
      have Tn := Lib.hid (below_next T.out hq)
      have Xn := Lib.hid (Rid.below X.out hq)
      have TBn := Lib.hid (BoxV.below TB.out hq)
      clear hq
      clear T X TB
      have T := Tn
      have X := Xn
      have TB := TBn
      clear Tn Xn TBn
      obtain ⟨wn, hwq⟩ : ∃ w0, w0 = wq := ⟨_, rfl⟩
      subst hwq
      have E := Lib.hid (show tokB ⟨n, m, f, d, l⟩ = decide ((z : Int) ≤ m) from by
        by_cases g : (z : Int) ≤ m
        · rw [decide_eq_true g]; exact tokB_t (HT.out.2 ⟨HA2.out, by rw [HZ.out]; exact g⟩)
        · rw [decide_eq_false g]; exact tokB_f (fun h => g (by have := (HT.out.1 h).2; rwa [HZ.out] at this)))
      go_wp2_with fail
      go_ret
      exact Mk.b E.out T.out
    have HF := Lib.hid (show ¬ (CR n (rat l i) ∧ ((rat l i).s = 1 → GA f d (rat l i))) → tokB ⟨n, m, f, d, l⟩ = false from fun h => tokB_f (fun g => h ((rok_iff HDD.out).1 ((HT.out.1 g).1 i (by rw [HL.out]; exact hlt)))))
    have HN := Lib.hid (show CR n (rat l i) ∧ ((rat l i).s = 1 → GA f d (rat l i)) → ∀ j, j < i + 1 → ROk n f d (rat l j) from fun h j hj => by
      by_cases e : j = i
      · subst e; exact (rok_iff HDD.out).2 h
      · exact HA.out j (by omega))
    obtain ⟨b, off, rfl⟩ := Rid.some X.out (by omega)
    obtain ⟨y0, y1, y2⟩ := Rid.three X.out hlt
    have KR := fun w' => canRide_c n (rat l i) w' h8
    have KG := fun w' ha hb => goesAlong_c (rat l i) f d w' ha hb HFF.out HDD.out
    have hii : (i : Int) < k := by omega
    obtain ⟨⟨x, y, s⟩, hr⟩ : ∃ r, rat l i = r := ⟨_, rfl⟩
    rw [hr] at y0 y1 y2 KR KG HF HN
    simp only at KR KG HF HN
    clear hr HA
    have c0 := (TB.out.2 0 _ rfl).1
    have c1 := (TB.out.2 1 _ rfl).1
    have c2 := (TB.out.2 2 _ rfl).1
    have c3 := (TB.out.2 3 _ rfl).1
    have c4 := (TB.out.2 4 _ rfl).1
    have hltTBHR := BoxV.lt TB.out
    have hWHR := T.out.size
    obtain ⟨HR, hHR⟩ : ∃ HR, Array.size (World.heap wn) = HR := ⟨_, rfl⟩
    have HHR : Hid _ := hHR
    rw [hHR] at hWHR hltTBHR
    have RB : Hid (BoxV (wn.alloc (.cells #[.int .i64 x, .int .i64 y, .int .i64 s] 32)) HR [.int .i64 x, .int .i64 y, .int .i64 s]) := by rw [← hHR]; exact BoxV.new _ _ _ (by simp) rfl
    clear hHR
    have Tn : Hid (Below w.heap.size w _) := Below.al T.out (.cells #[.int .i64 x, .int .i64 y, .int .i64 s] 32)
    have Xn : Hid _ := Rid.below X.out ((Below.refl _ _).alloc (Nat.le_refl _) (.cells #[.int .i64 x, .int .i64 y, .int .i64 s] 32))
    have TBn : Hid _ := BoxV.below TB.out ((Below.refl _ _).alloc (Nat.le_refl _) (.cells #[.int .i64 x, .int .i64 y, .int .i64 s] 32))
    clear T X TB
    have T := Tn
    have X := Xn
    have TB := TBn
    clear Tn Xn TBn
    go_upto_region 6 with fail
    rw [HHR.out]
    clear y0 y1 y2
    generalize wn.alloc (.cells #[.int .i64 x, .int .i64 y, .int .i64 s] 32) = w0 at *
    obtain ⟨wn, hwq⟩ : ∃ w9 : World, w9 = w0 := ⟨_, rfl⟩
    subst hwq
    clear HHR
    clear c0 c1 c2 c3 c4
    by_cases hc : CR n ⟨x, y, s⟩
    case neg =>
      have E := Lib.hid (HF.out (fun g => hc g.1))
      rw [crB_f hc] at KR
      have HKR := Lib.hid KR
      clear KR KG hc
      have c0 := (TB.out.2 0 _ rfl).1
      have c1 := (TB.out.2 1 _ rfl).1
      have c2 := (TB.out.2 2 _ rfl).1
      have c3 := (TB.out.2 3 _ rfl).1
      have c4 := (TB.out.2 4 _ rfl).1
      have d0 := (RB.out.2 0 _ rfl).1
      have d1 := (RB.out.2 1 _ rfl).1
      have d2 := (RB.out.2 2 _ rfl).1
      go_wp2_with fail
      refine Calls.mono (HKR.out _) ?_
      intro e wn hh
      obtain ⟨he, hb⟩ := (by first | exact hh | exact Ro.mk hh | exact St.mk hh | exact LawOk.mk' hh : Mk _ _ e wn)
      subst he
      have Tn : Hid (Below w.heap.size w wn) := below_next T.out hb
      have Xn : Hid _ := Rid.below X.out hb
      have TBn : Hid _ := BoxV.below TB.out hb
      have RBn : Hid _ := BoxV.below RB.out hb
      clear hb hh c0 c1 c2 c3 c4 d0 d1 d2
      clear T X TB RB
      have T := Tn
      have X := Xn
      have TB := TBn
      have RB := RBn
      clear Tn Xn TBn RBn
      go_wp2_with fail
      go_ret
      exact Mk.b E.out T.out
    have HC := Lib.hid hc
    rw [crB_t hc] at KR
    have HKR := Lib.hid KR
    have KG2 := fun w' => KG w' (show 0 ≤ x ∧ x < 8 from by have h7 := hc.1; have : 0 ≤ x := h7.1; have : x < n := h7.2; omega) (show 0 ≤ y ∧ y < 8 from by have h7 := hc.2.1; have : 0 ≤ y := h7.1; have : y < n := h7.2; omega)
    have HKG := Lib.hid KG2
    clear KR KG KG2 hc
    by_cases h9 : s = 1
    case neg =>
      have v1 : (s == 1) = false := beq_false_of_ne h9
      have E := Lib.hid (HN.out ⟨HC.out, fun g => absurd g h9⟩)
      clear h9
      have c0 := (TB.out.2 0 _ rfl).1
      have c1 := (TB.out.2 1 _ rfl).1
      have c2 := (TB.out.2 2 _ rfl).1
      have c3 := (TB.out.2 3 _ rfl).1
      have c4 := (TB.out.2 4 _ rfl).1
      have d0 := (RB.out.2 0 _ rfl).1
      have d1 := (RB.out.2 1 _ rfl).1
      have d2 := (RB.out.2 2 _ rfl).1
      go_wp2_with fail
      refine Calls.mono (HKR.out _) ?_
      intro e wn hh
      obtain ⟨he, hb⟩ := (by first | exact hh | exact Ro.mk hh | exact St.mk hh | exact LawOk.mk' hh : Mk _ _ e wn)
      subst he
      have Tn : Hid (Below w.heap.size w wn) := below_next T.out hb
      have Xn : Hid _ := Rid.below X.out hb
      have TBn : Hid _ := BoxV.below TB.out hb
      have RBn : Hid _ := BoxV.below RB.out hb
      clear hb hh c0 c1 c2 c3 c4 d0 d1 d2
      clear T X TB RB
      have T := Tn
      have X := Xn
      have TB := TBn
      have RB := RBn
      clear Tn Xn TBn RBn
      have c0 := (TB.out.2 0 _ rfl).1
      have c1 := (TB.out.2 1 _ rfl).1
      have c2 := (TB.out.2 2 _ rfl).1
      have c3 := (TB.out.2 3 _ rfl).1
      have c4 := (TB.out.2 4 _ rfl).1
      have d0 := (RB.out.2 0 _ rfl).1
      have d1 := (RB.out.2 1 _ rfl).1
      have d2 := (RB.out.2 2 _ rfl).1
      clear RB
      go_wp2_with fail
      go_roundw
      case rel => exact ⟨i + 1, by omega, by go_num, E.out, T.out, X.out, TB.out⟩
      case measure => first | (simp [intOf]; done) | (simp [intOf]; omega) | omega
    have v1 : (s == 1) = true := by simp [h9]
    by_cases hg : GA f d ⟨x, y, s⟩
    case neg =>
      have E := Lib.hid (HF.out (fun g => hg (g.2 h9)))
      have K2 := HKG.out
      rw [gaB_f hg] at K2
      have HKG2 := Lib.hid K2
      clear K2 HKG h9 hg
      have c0 := (TB.out.2 0 _ rfl).1
      have c1 := (TB.out.2 1 _ rfl).1
      have c2 := (TB.out.2 2 _ rfl).1
      have c3 := (TB.out.2 3 _ rfl).1
      have c4 := (TB.out.2 4 _ rfl).1
      have d0 := (RB.out.2 0 _ rfl).1
      have d1 := (RB.out.2 1 _ rfl).1
      have d2 := (RB.out.2 2 _ rfl).1
      go_wp2_with fail
      refine Calls.mono (HKR.out _) ?_
      intro e wn hh
      obtain ⟨he, hb⟩ := (by first | exact hh | exact Ro.mk hh | exact St.mk hh | exact LawOk.mk' hh : Mk _ _ e wn)
      subst he
      have Tn : Hid (Below w.heap.size w wn) := below_next T.out hb
      have Xn : Hid _ := Rid.below X.out hb
      have TBn : Hid _ := BoxV.below TB.out hb
      have RBn : Hid _ := BoxV.below RB.out hb
      clear hb hh c0 c1 c2 c3 c4 d0 d1 d2
      clear T X TB RB
      have T := Tn
      have X := Xn
      have TB := TBn
      have RB := RBn
      clear Tn Xn TBn RBn
      have c0 := (TB.out.2 0 _ rfl).1
      have c1 := (TB.out.2 1 _ rfl).1
      have c2 := (TB.out.2 2 _ rfl).1
      have c3 := (TB.out.2 3 _ rfl).1
      have c4 := (TB.out.2 4 _ rfl).1
      have d0 := (RB.out.2 0 _ rfl).1
      have d1 := (RB.out.2 1 _ rfl).1
      have d2 := (RB.out.2 2 _ rfl).1
      go_wp2_with fail
      refine Calls.mono (HKG2.out _) ?_
      intro e wn hh
      obtain ⟨he, hb⟩ := (by first | exact hh | exact Ro.mk hh | exact St.mk hh | exact LawOk.mk' hh : Mk _ _ e wn)
      subst he
      have Tn : Hid (Below w.heap.size w wn) := below_next T.out hb
      have Xn : Hid _ := Rid.below X.out hb
      have TBn : Hid _ := BoxV.below TB.out hb
      have RBn : Hid _ := BoxV.below RB.out hb
      clear hb hh c0 c1 c2 c3 c4 d0 d1 d2
      clear T X TB RB
      have T := Tn
      have X := Xn
      have TB := TBn
      have RB := RBn
      clear Tn Xn TBn RBn
      go_wp2_with fail
      go_ret
      exact Mk.b E.out T.out
    have E := Lib.hid (HN.out ⟨HC.out, fun _ => hg⟩)
    have K2 := HKG.out
    rw [gaB_t hg] at K2
    have HKG2 := Lib.hid K2
    clear K2 HKG h9 hg
    have c0 := (TB.out.2 0 _ rfl).1
    have c1 := (TB.out.2 1 _ rfl).1
    have c2 := (TB.out.2 2 _ rfl).1
    have c3 := (TB.out.2 3 _ rfl).1
    have c4 := (TB.out.2 4 _ rfl).1
    have d0 := (RB.out.2 0 _ rfl).1
    have d1 := (RB.out.2 1 _ rfl).1
    have d2 := (RB.out.2 2 _ rfl).1
    go_wp2_with fail
    refine Calls.mono (HKR.out _) ?_
    intro e wn hh
    obtain ⟨he, hb⟩ := (by first | exact hh | exact Ro.mk hh | exact St.mk hh | exact LawOk.mk' hh : Mk _ _ e wn)
    subst he
    have Tn : Hid (Below w.heap.size w wn) := below_next T.out hb
    have Xn : Hid _ := Rid.below X.out hb
    have TBn : Hid _ := BoxV.below TB.out hb
    have RBn : Hid _ := BoxV.below RB.out hb
    clear hb hh c0 c1 c2 c3 c4 d0 d1 d2
    clear T X TB RB
    have T := Tn
    have X := Xn
    have TB := TBn
    have RB := RBn
    clear Tn Xn TBn RBn
    have c0 := (TB.out.2 0 _ rfl).1
    have c1 := (TB.out.2 1 _ rfl).1
    have c2 := (TB.out.2 2 _ rfl).1
    have c3 := (TB.out.2 3 _ rfl).1
    have c4 := (TB.out.2 4 _ rfl).1
    have d0 := (RB.out.2 0 _ rfl).1
    have d1 := (RB.out.2 1 _ rfl).1
    have d2 := (RB.out.2 2 _ rfl).1
    go_wp2_with fail
    refine Calls.mono (HKG2.out _) ?_
    intro e wn hh
    obtain ⟨he, hb⟩ := (by first | exact hh | exact Ro.mk hh | exact St.mk hh | exact LawOk.mk' hh : Mk _ _ e wn)
    subst he
    have Tn : Hid (Below w.heap.size w wn) := below_next T.out hb
    have Xn : Hid _ := Rid.below X.out hb
    have TBn : Hid _ := BoxV.below TB.out hb
    have RBn : Hid _ := BoxV.below RB.out hb
    clear hb hh c0 c1 c2 c3 c4 d0 d1 d2
    clear T X TB RB
    have T := Tn
    have X := Xn
    have TB := TBn
    have RB := RBn
    clear Tn Xn TBn RBn
    have c0 := (TB.out.2 0 _ rfl).1
    have c1 := (TB.out.2 1 _ rfl).1
    have c2 := (TB.out.2 2 _ rfl).1
    have c3 := (TB.out.2 3 _ rfl).1
    have c4 := (TB.out.2 4 _ rfl).1
    have d0 := (RB.out.2 0 _ rfl).1
    have d1 := (RB.out.2 1 _ rfl).1
    have d2 := (RB.out.2 2 _ rfl).1
    clear RB
    go_wp2_with fail
    go_roundw
    case rel => exact ⟨i + 1, by omega, by go_num, E.out, T.out, X.out, TB.out⟩
    case measure => first | (simp [intOf]; done) | (simp [intOf]; omega) | omega
set_option maxHeartbeats 4000000 in
theorem iTripValid_c (n m f d : Int) (a : Option Addr) (k c : Nat) (l : List Ri) (w : World) (hX : Rid w a k l) (hk : k ≤ 1048577) :
    Calls Try.prog 14 #[.agg #[.int .i64 n, .int .i64 m, .int .i64 f, .int .i64 d, .slice a k c]] w (Mk w (.bool (tokB ⟨n, m, f, d, l⟩))) := by
  have HF := Lib.hid (show ¬ TOk ⟨n, m, f, d, l⟩ → tokB ⟨n, m, f, d, l⟩ = false from tokB_f)
  by_cases h1 : 1 ≤ n
  case neg =>
    have E := Lib.hid (HF.out (fun g => h1 g.1.1))
    have v1 : n < 1 := by omega
    clear h1 hX
    refine at_base fun wn hwn => ?_
    have T := Lib.hid (show Below w.heap.size w wn from by rw [hwn]; exact Below.refl _ _)
    clear hwn
    obtain ⟨g, hg⟩ : ∃ g, Array.size (World.heap wn) = g := ⟨_, rfl⟩
    have HGg := Lib.hid hg
    have hTg : w.heap.size ≤ g := by rw [← hg]; exact T.out.size
    have Tn := Lib.hid (show Below w.heap.size w (wn.alloc (.cells #[.int .i64 n, .int .i64 m, .int .i64 f, .int .i64 d, .slice a k c] 27)) from (Below.al T.out (.cells #[.int .i64 n, .int .i64 m, .int .i64 f, .int .i64 d, .slice a k c] 27)))
    have TB := Lib.hid (show BoxV (wn.alloc (.cells #[.int .i64 n, .int .i64 m, .int .i64 f, .int .i64 d, .slice a k c] 27)) g [.int .i64 n, .int .i64 m, .int .i64 f, .int .i64 d, .slice a k c] from by have h9 := (BoxV.new wn [.int .i64 n, .int .i64 m, .int .i64 f, .int .i64 d, .slice a k c] 27 (by simp) rfl); simp only [World.size_alloc, hg, Nat.add_assoc, Nat.reduceAdd] at h9; exact h9)
    have HZg := Lib.hid (show ((wn.alloc (.cells #[.int .i64 n, .int .i64 m, .int .i64 f, .int .i64 d, .slice a k c] 27))).heap.size = g + 1 from by simp only [World.size_alloc, hg, Nat.add_assoc, Nat.reduceAdd])
    clear hg
    clear T
    have T := Tn
    clear Tn
    go_enter Try.func14, Try.ntmps14
    have c0 := (TB.out.2 0 _ rfl).1
    have c1 := (TB.out.2 1 _ rfl).1
    have c2 := (TB.out.2 2 _ rfl).1
    have c3 := (TB.out.2 3 _ rfl).1
    have c4 := (TB.out.2 4 _ rfl).1
    go_wp2_with fail
    go_ret
    exact Mk.b E.out T.out
  by_cases h8 : n ≤ 8
  case neg =>
    have E := Lib.hid (HF.out (fun g => h8 g.1.2))
    have v1 : 8 < n := by omega
    clear h8 hX
    refine at_base fun wn hwn => ?_
    have T := Lib.hid (show Below w.heap.size w wn from by rw [hwn]; exact Below.refl _ _)
    clear hwn
    obtain ⟨g, hg⟩ : ∃ g, Array.size (World.heap wn) = g := ⟨_, rfl⟩
    have HGg := Lib.hid hg
    have hTg : w.heap.size ≤ g := by rw [← hg]; exact T.out.size
    have Tn := Lib.hid (show Below w.heap.size w (wn.alloc (.cells #[.int .i64 n, .int .i64 m, .int .i64 f, .int .i64 d, .slice a k c] 27)) from (Below.al T.out (.cells #[.int .i64 n, .int .i64 m, .int .i64 f, .int .i64 d, .slice a k c] 27)))
    have TB := Lib.hid (show BoxV (wn.alloc (.cells #[.int .i64 n, .int .i64 m, .int .i64 f, .int .i64 d, .slice a k c] 27)) g [.int .i64 n, .int .i64 m, .int .i64 f, .int .i64 d, .slice a k c] from by have h9 := (BoxV.new wn [.int .i64 n, .int .i64 m, .int .i64 f, .int .i64 d, .slice a k c] 27 (by simp) rfl); simp only [World.size_alloc, hg, Nat.add_assoc, Nat.reduceAdd] at h9; exact h9)
    have HZg := Lib.hid (show ((wn.alloc (.cells #[.int .i64 n, .int .i64 m, .int .i64 f, .int .i64 d, .slice a k c] 27))).heap.size = g + 1 from by simp only [World.size_alloc, hg, Nat.add_assoc, Nat.reduceAdd])
    clear hg
    clear T
    have T := Tn
    clear Tn
    go_enter Try.func14, Try.ntmps14
    have c0 := (TB.out.2 0 _ rfl).1
    have c1 := (TB.out.2 1 _ rfl).1
    have c2 := (TB.out.2 2 _ rfl).1
    have c3 := (TB.out.2 3 _ rfl).1
    have c4 := (TB.out.2 4 _ rfl).1
    go_wp2_with fail
    go_ret
    exact Mk.b E.out T.out
  by_cases m1 : 1 ≤ m
  case neg =>
    have E := Lib.hid (HF.out (fun g => m1 g.2.1.1))
    have v1 : m < 1 := by omega
    clear m1 hX
    refine at_base fun wn hwn => ?_
    have T := Lib.hid (show Below w.heap.size w wn from by rw [hwn]; exact Below.refl _ _)
    clear hwn
    obtain ⟨g, hg⟩ : ∃ g, Array.size (World.heap wn) = g := ⟨_, rfl⟩
    have HGg := Lib.hid hg
    have hTg : w.heap.size ≤ g := by rw [← hg]; exact T.out.size
    have Tn := Lib.hid (show Below w.heap.size w (wn.alloc (.cells #[.int .i64 n, .int .i64 m, .int .i64 f, .int .i64 d, .slice a k c] 27)) from (Below.al T.out (.cells #[.int .i64 n, .int .i64 m, .int .i64 f, .int .i64 d, .slice a k c] 27)))
    have TB := Lib.hid (show BoxV (wn.alloc (.cells #[.int .i64 n, .int .i64 m, .int .i64 f, .int .i64 d, .slice a k c] 27)) g [.int .i64 n, .int .i64 m, .int .i64 f, .int .i64 d, .slice a k c] from by have h9 := (BoxV.new wn [.int .i64 n, .int .i64 m, .int .i64 f, .int .i64 d, .slice a k c] 27 (by simp) rfl); simp only [World.size_alloc, hg, Nat.add_assoc, Nat.reduceAdd] at h9; exact h9)
    have HZg := Lib.hid (show ((wn.alloc (.cells #[.int .i64 n, .int .i64 m, .int .i64 f, .int .i64 d, .slice a k c] 27))).heap.size = g + 1 from by simp only [World.size_alloc, hg, Nat.add_assoc, Nat.reduceAdd])
    clear hg
    clear T
    have T := Tn
    clear Tn
    go_enter Try.func14, Try.ntmps14
    have c0 := (TB.out.2 0 _ rfl).1
    have c1 := (TB.out.2 1 _ rfl).1
    have c2 := (TB.out.2 2 _ rfl).1
    have c3 := (TB.out.2 3 _ rfl).1
    have c4 := (TB.out.2 4 _ rfl).1
    go_wp2_with fail
    go_ret
    exact Mk.b E.out T.out
  by_cases m8 : m ≤ 8
  case neg =>
    have E := Lib.hid (HF.out (fun g => m8 g.2.1.2))
    have v1 : 8 < m := by omega
    clear m8 hX
    refine at_base fun wn hwn => ?_
    have T := Lib.hid (show Below w.heap.size w wn from by rw [hwn]; exact Below.refl _ _)
    clear hwn
    obtain ⟨g, hg⟩ : ∃ g, Array.size (World.heap wn) = g := ⟨_, rfl⟩
    have HGg := Lib.hid hg
    have hTg : w.heap.size ≤ g := by rw [← hg]; exact T.out.size
    have Tn := Lib.hid (show Below w.heap.size w (wn.alloc (.cells #[.int .i64 n, .int .i64 m, .int .i64 f, .int .i64 d, .slice a k c] 27)) from (Below.al T.out (.cells #[.int .i64 n, .int .i64 m, .int .i64 f, .int .i64 d, .slice a k c] 27)))
    have TB := Lib.hid (show BoxV (wn.alloc (.cells #[.int .i64 n, .int .i64 m, .int .i64 f, .int .i64 d, .slice a k c] 27)) g [.int .i64 n, .int .i64 m, .int .i64 f, .int .i64 d, .slice a k c] from by have h9 := (BoxV.new wn [.int .i64 n, .int .i64 m, .int .i64 f, .int .i64 d, .slice a k c] 27 (by simp) rfl); simp only [World.size_alloc, hg, Nat.add_assoc, Nat.reduceAdd] at h9; exact h9)
    have HZg := Lib.hid (show ((wn.alloc (.cells #[.int .i64 n, .int .i64 m, .int .i64 f, .int .i64 d, .slice a k c] 27))).heap.size = g + 1 from by simp only [World.size_alloc, hg, Nat.add_assoc, Nat.reduceAdd])
    clear hg
    clear T
    have T := Tn
    clear Tn
    go_enter Try.func14, Try.ntmps14
    have c0 := (TB.out.2 0 _ rfl).1
    have c1 := (TB.out.2 1 _ rfl).1
    have c2 := (TB.out.2 2 _ rfl).1
    have c3 := (TB.out.2 3 _ rfl).1
    have c4 := (TB.out.2 4 _ rfl).1
    go_wp2_with fail
    go_ret
    exact Mk.b E.out T.out
  obtain ⟨n, rfl⟩ : ∃ n' : Nat, n = n' := ⟨n.toNat, by omega⟩
  have g8 : n ≤ 8 := by omega
  by_cases hp : PL n f d
  case neg =>
    have HP := Lib.hid hp
    have E := Lib.hid (HF.out (fun g => hp ⟨g.2.2.1.1, g.2.2.1.2, g.2.2.2.1⟩))
    clear hp hX
    refine at_base fun wn hwn => ?_
    have T := Lib.hid (show Below w.heap.size w wn from by rw [hwn]; exact Below.refl _ _)
    clear hwn
    obtain ⟨g, hg⟩ : ∃ g, Array.size (World.heap wn) = g := ⟨_, rfl⟩
    have HGg := Lib.hid hg
    have hTg : w.heap.size ≤ g := by rw [← hg]; exact T.out.size
    have Tn := Lib.hid (show Below w.heap.size w (wn.alloc (.cells #[.int .i64 n, .int .i64 m, .int .i64 f, .int .i64 d, .slice a k c] 27)) from (Below.al T.out (.cells #[.int .i64 n, .int .i64 m, .int .i64 f, .int .i64 d, .slice a k c] 27)))
    have TB := Lib.hid (show BoxV (wn.alloc (.cells #[.int .i64 n, .int .i64 m, .int .i64 f, .int .i64 d, .slice a k c] 27)) g [.int .i64 n, .int .i64 m, .int .i64 f, .int .i64 d, .slice a k c] from by have h9 := (BoxV.new wn [.int .i64 n, .int .i64 m, .int .i64 f, .int .i64 d, .slice a k c] 27 (by simp) rfl); simp only [World.size_alloc, hg, Nat.add_assoc, Nat.reduceAdd] at h9; exact h9)
    have HZg := Lib.hid (show ((wn.alloc (.cells #[.int .i64 n, .int .i64 m, .int .i64 f, .int .i64 d, .slice a k c] 27))).heap.size = g + 1 from by simp only [World.size_alloc, hg, Nat.add_assoc, Nat.reduceAdd])
    clear hg
    clear T
    have T := Tn
    clear Tn
    go_enter Try.func14, Try.ntmps14
    have c0 := (TB.out.2 0 _ rfl).1
    have c1 := (TB.out.2 1 _ rfl).1
    have c2 := (TB.out.2 2 _ rfl).1
    have c3 := (TB.out.2 3 _ rfl).1
    have c4 := (TB.out.2 4 _ rfl).1
    go_wp2_with fail
    rw [HGg.out]
    refine Calls.mono (isPlace_f n f d _ g8 HP.out) ?_
    intro e wn hh
    obtain ⟨he, hb⟩ := (by first | exact hh | exact Ro.mk hh | exact St.mk hh | exact LawOk.mk' hh : Mk _ _ e wn)
    subst he
    have Tn : Hid (Below w.heap.size w wn) := below_next T.out hb
    have TBn : Hid _ := BoxV.below TB.out hb
    clear hb hh c0 c1 c2 c3 c4
    clear T TB
    have T := Tn
    have TB := TBn
    clear Tn TBn
    have c0 := (TB.out.2 0 _ rfl).1
    have c1 := (TB.out.2 1 _ rfl).1
    have c2 := (TB.out.2 2 _ rfl).1
    have c3 := (TB.out.2 3 _ rfl).1
    have c4 := (TB.out.2 4 _ rfl).1
    go_wp2_with fail
    go_ret
    exact Mk.b E.out T.out
  by_cases k8 : k ≤ 8
  case neg =>
    have HP := Lib.hid hp
    have E := Lib.hid (HF.out (fun g => k8 (by have := g.2.2.2.2.1; rwa [hX.2] at this)))
    have v1 : 8 < (k : Int) := by omega
    clear hp hX k8
    refine at_base fun wn hwn => ?_
    have T := Lib.hid (show Below w.heap.size w wn from by rw [hwn]; exact Below.refl _ _)
    clear hwn
    obtain ⟨g, hg⟩ : ∃ g, Array.size (World.heap wn) = g := ⟨_, rfl⟩
    have HGg := Lib.hid hg
    have hTg : w.heap.size ≤ g := by rw [← hg]; exact T.out.size
    have Tn := Lib.hid (show Below w.heap.size w (wn.alloc (.cells #[.int .i64 n, .int .i64 m, .int .i64 f, .int .i64 d, .slice a k c] 27)) from (Below.al T.out (.cells #[.int .i64 n, .int .i64 m, .int .i64 f, .int .i64 d, .slice a k c] 27)))
    have TB := Lib.hid (show BoxV (wn.alloc (.cells #[.int .i64 n, .int .i64 m, .int .i64 f, .int .i64 d, .slice a k c] 27)) g [.int .i64 n, .int .i64 m, .int .i64 f, .int .i64 d, .slice a k c] from by have h9 := (BoxV.new wn [.int .i64 n, .int .i64 m, .int .i64 f, .int .i64 d, .slice a k c] 27 (by simp) rfl); simp only [World.size_alloc, hg, Nat.add_assoc, Nat.reduceAdd] at h9; exact h9)
    have HZg := Lib.hid (show ((wn.alloc (.cells #[.int .i64 n, .int .i64 m, .int .i64 f, .int .i64 d, .slice a k c] 27))).heap.size = g + 1 from by simp only [World.size_alloc, hg, Nat.add_assoc, Nat.reduceAdd])
    clear hg
    clear T
    have T := Tn
    clear Tn
    go_enter Try.func14, Try.ntmps14
    have c0 := (TB.out.2 0 _ rfl).1
    have c1 := (TB.out.2 1 _ rfl).1
    have c2 := (TB.out.2 2 _ rfl).1
    have c3 := (TB.out.2 3 _ rfl).1
    have c4 := (TB.out.2 4 _ rfl).1
    go_wp2_with fail
    rw [HGg.out]
    refine Calls.mono (isPlace_t n f d _ g8 HP.out) ?_
    intro e wn hh
    obtain ⟨he, hb⟩ := (by first | exact hh | exact Ro.mk hh | exact St.mk hh | exact LawOk.mk' hh : Mk _ _ e wn)
    subst he
    have Tn : Hid (Below w.heap.size w wn) := below_next T.out hb
    have TBn : Hid _ := BoxV.below TB.out hb
    clear hb hh c0 c1 c2 c3 c4
    clear T TB
    have T := Tn
    have TB := TBn
    clear Tn TBn
    have c0 := (TB.out.2 0 _ rfl).1
    have c1 := (TB.out.2 1 _ rfl).1
    have c2 := (TB.out.2 2 _ rfl).1
    have c3 := (TB.out.2 3 _ rfl).1
    have c4 := (TB.out.2 4 _ rfl).1
    go_wp2_with fail
    go_ret
    exact Mk.b E.out T.out
  exact iTripValid_n n m f d a k c l w hX (by omega) g8 ⟨m1, m8⟩ hp k8
end Go.Proofs.Ytfhhgddajmihjaa

namespace Go.Proofs.Ytfhhgddajmihjaa
open Go.RowKit
set_option linter.unusedVariables false
set_option linter.unusedSimpArgs false
set_option maxRecDepth 100000

theorem rw3_cn (n : Nat) : rw3 (cn n) = fun _ => false := by
  funext i
  unfold rw3 cn
  split
  · exact bn_rep _ _
  split
  · exact bn_rep _ _
  · exact bn_rep _ _
set_option maxHeartbeats 2000000 in
theorem iTripCalls_f (n m f d : Int) (a : Option Addr) (k c : Nat) (l : List Ri) (w : World) (hX : Rid w a k l) (hk : k ≤ 1048577) (h : ¬ TOk ⟨n, m, f, d, l⟩) :
    Calls Try.prog 18 #[.agg #[.int .i64 n, .int .i64 m, .int .i64 f, .int .i64 d, .slice a k c]] w (NewC w cz id) := by
  have X0 := Lib.hid hX
  have KV := fun w' (g : Rid w' a k l) => iTripValid_c n m f d a k c l w' g hk
  rw [tokB_f h] at KV
  have HV := Lib.hid KV
  clear hX h KV
  refine at_base fun wn hwn => ?_
  have T := Lib.hid (show Below w.heap.size w wn from by rw [hwn]; exact Below.refl _ _)
  clear hwn
  obtain ⟨g, hg⟩ : ∃ g, Array.size (World.heap wn) = g := ⟨_, rfl⟩
  have HGg := Lib.hid hg
  have hTg : w.heap.size ≤ g := by rw [← hg]; exact T.out.size
  have Tn := Lib.hid (show Below w.heap.size w ((wn.alloc (.cells #[.int .i64 n, .int .i64 m, .int .i64 f, .int .i64 d, .slice a k c] 27)).alloc (.cells #[.slice none 0 0, .slice none 0 0, .slice none 0 0] 36)) from (Below.al (Below.al T.out (.cells #[.int .i64 n, .int .i64 m, .int .i64 f, .int .i64 d, .slice a k c] 27)) (.cells #[.slice none 0 0, .slice none 0 0, .slice none 0 0] 36)))
  have TB := Lib.hid (show BoxV ((wn.alloc (.cells #[.int .i64 n, .int .i64 m, .int .i64 f, .int .i64 d, .slice a k c] 27)).alloc (.cells #[.slice none 0 0, .slice none 0 0, .slice none 0 0] 36)) g [.int .i64 n, .int .i64 m, .int .i64 f, .int .i64 d, .slice a k c] from by have h9 := (BoxV.al (BoxV.new wn [.int .i64 n, .int .i64 m, .int .i64 f, .int .i64 d, .slice a k c] 27 (by simp) rfl) (.cells #[.slice none 0 0, .slice none 0 0, .slice none 0 0] 36)); simp only [World.size_alloc, hg, Nat.add_assoc, Nat.reduceAdd] at h9; exact h9)
  have RR := Lib.hid (show Bx ((wn.alloc (.cells #[.int .i64 n, .int .i64 m, .int .i64 f, .int .i64 d, .slice a k c] 27)).alloc (.cells #[.slice none 0 0, .slice none 0 0, .slice none 0 0] 36)) (g + 1) (.slice none 0 0) (.slice none 0 0) (.slice none 0 0) from by have h9 := (Bx.new (wn.alloc (.cells #[.int .i64 n, .int .i64 m, .int .i64 f, .int .i64 d, .slice a k c] 27)) (.slice none 0 0) (.slice none 0 0) (.slice none 0 0) 36); simp only [World.size_alloc, hg, Nat.add_assoc, Nat.reduceAdd] at h9; exact h9)
  have HZg := Lib.hid (show (((wn.alloc (.cells #[.int .i64 n, .int .i64 m, .int .i64 f, .int .i64 d, .slice a k c] 27)).alloc (.cells #[.slice none 0 0, .slice none 0 0, .slice none 0 0] 36))).heap.size = g + 2 from by simp only [World.size_alloc, hg, Nat.add_assoc, Nat.reduceAdd])
  clear hg
  clear T
  have T := Tn
  clear Tn
  go_enter Try.func18, Try.ntmps18
  have c0 := (TB.out.2 0 _ rfl).1
  have c1 := (TB.out.2 1 _ rfl).1
  have c2 := (TB.out.2 2 _ rfl).1
  have c3 := (TB.out.2 3 _ rfl).1
  have c4 := (TB.out.2 4 _ rfl).1
  go_wp2_with fail
  rw [HGg.out]
  refine Calls.mono (HV.out _ (Rid.below X0.out T.out)) ?_
  intro e wn hh
  obtain ⟨he, hb⟩ := (by first | exact hh | exact Ro.mk hh | exact St.mk hh | exact LawOk.mk' hh : Mk _ _ e wn)
  subst he
  have Tn : Hid (Below w.heap.size w wn) := below_next T.out hb
  have TBn : Hid _ := BoxV.below TB.out hb
  have RRn : Hid _ := Bx.below RR.out hb
  clear hb hh c0 c1 c2 c3 c4
  clear T TB RR
  have T := Tn
  have TB := TBn
  have RR := RRn
  clear Tn TBn RRn
  obtain ⟨⟨c0, c1, c2⟩, hf⟩ := RR.out
  have f0 := hf 0
  have f1 := hf 1
  have f2 := hf 2
  clear hf
  go_wp2_with fail
  have N := newC_zero (r := g + 1) T.out (by omega) id
  exact bodyPost_ret (v := .agg #[.slice none 0 0, .slice none 0 0, .slice none 0 0]) (by simp [results, Try.results18, go_sem, c0, c1, c2]) rfl N
set_option maxRecDepth 100000 in
set_option maxHeartbeats 8000000 in
theorem iTripCalls_t (n : Nat) (m f d : Int) (a : Option Addr) (k c : Nat) (l : List Ri) (w : World) (hX : Rid w a k l) (hk : k ≤ 1048577) (h : TOk ⟨n, m, f, d, l⟩) :
    Calls Try.prog 18 #[.agg #[.int .i64 n, .int .i64 m, .int .i64 f, .int .i64 d, .slice a k c]] w (NewC w (tcl ⟨n, m, f, d, l⟩) id) := by
  have HL := Lib.hid hX.2
  have X0 := Lib.hid hX
  have h1 : 1 ≤ n := by have := h.1.1; simp at this; omega
  have h8 : n ≤ 8 := by have := h.1.2; simp at this; omega
  have KV := fun w' (g : Rid w' a k l) => iTripValid_c n m f d a k c l w' g hk
  rw [tokB_t h] at KV
  have HV := Lib.hid KV
  have KI := fun w' (g : Rid w' a k l) => insideMany_c a k c l w' g hk
  have hmz : (ins l : Int) ≤ m := h.2.2.2.2.2.2
  obtain ⟨fl, hfl⟩ : ∃ fl, fullB ⟨n, m, f, d, l⟩ = fl := ⟨_, rfl⟩
  have hfl2 : fl = decide (m ≤ (ins l : Int)) := hfl.symm
  obtain ⟨z, hz⟩ : ∃ z : Nat, ins l = z := ⟨_, rfl⟩
  rw [hz] at KI hfl2 hmz
  have HI := Lib.hid KI
  have HFE := Lib.hid (show ((z : Int) == m) = fl from by
    rw [hfl2]
    by_cases g : (z : Int) = m
    · rw [decide_eq_true (by omega)]; simp [g]
    · rw [decide_eq_false (by omega)]; exact beq_false_of_ne g)
  obtain ⟨z0, hz0⟩ : ∃ z0, cn n = z0 := ⟨_, rfl⟩
  have HRW := Lib.hid (show rw3 z0 = fun _ => false from by rw [← hz0]; exact rw3_cn n)
  have HLY := Lib.hid (show ∀ i, ((l.take i).foldl (rcall fl) z0).u.length = n ∧ ((l.take i).foldl (rcall fl) z0).d.length = n ∧ ((l.take i).foldl (rcall fl) z0).c.length = n from fun i => by
    rw [← hz0]; have := fold_len fl (l.take i) (cn n); simpa [cn] using this)
  have hE : (l.take k).foldl (rcall fl) z0 = tcl ⟨n, m, f, d, l⟩ := by
    rw [← hz0]; unfold tcl; rw [hfl, List.take_of_length_le (by rw [HL.out]; exact Nat.le_refl _)]; rfl
  obtain ⟨Y, hY⟩ : ∃ Y, tcl ⟨n, m, f, d, l⟩ = Y := ⟨_, rfl⟩
  rw [hY] at hE
  rw [hY]
  have E := Lib.hid hE
  have HY := Lib.hid (show csOf (rw3 Y) n = Y from by
    have := HLY.out k
    rw [hE] at this
    exact csOf_rw3 h8 this.1 this.2.1 this.2.2)
  have HRR := Lib.hid (show ∀ i, i < k → ROk n f d (rat l i) from fun i hi => h.2.2.2.2.2.1 _ (rat_mem (by rw [HL.out]; exact hi)))
  clear hX h KV KI hfl hfl2 hz hz0 hE hY hmz
  refine at_base fun wn hwn => ?_
  have T := Lib.hid (show Below w.heap.size w wn from by rw [hwn]; exact Below.refl _ _)
  clear hwn
  obtain ⟨g, hg⟩ : ∃ g, Array.size (World.heap wn) = g := ⟨_, rfl⟩
  have HGg := Lib.hid hg
  have hTg : w.heap.size ≤ g := by rw [← hg]; exact T.out.size
  have Tn := Lib.hid (show Below w.heap.size w ((wn.alloc (.cells #[.int .i64 n, .int .i64 m, .int .i64 f, .int .i64 d, .slice a k c] 27)).alloc (.cells #[.slice none 0 0, .slice none 0 0, .slice none 0 0] 36)) from (Below.al (Below.al T.out (.cells #[.int .i64 n, .int .i64 m, .int .i64 f, .int .i64 d, .slice a k c] 27)) (.cells #[.slice none 0 0, .slice none 0 0, .slice none 0 0] 36)))
  have TB := Lib.hid (show BoxV ((wn.alloc (.cells #[.int .i64 n, .int .i64 m, .int .i64 f, .int .i64 d, .slice a k c] 27)).alloc (.cells #[.slice none 0 0, .slice none 0 0, .slice none 0 0] 36)) g [.int .i64 n, .int .i64 m, .int .i64 f, .int .i64 d, .slice a k c] from by have h9 := (BoxV.al (BoxV.new wn [.int .i64 n, .int .i64 m, .int .i64 f, .int .i64 d, .slice a k c] 27 (by simp) rfl) (.cells #[.slice none 0 0, .slice none 0 0, .slice none 0 0] 36)); simp only [World.size_alloc, hg, Nat.add_assoc, Nat.reduceAdd] at h9; exact h9)
  have RR := Lib.hid (show Bx ((wn.alloc (.cells #[.int .i64 n, .int .i64 m, .int .i64 f, .int .i64 d, .slice a k c] 27)).alloc (.cells #[.slice none 0 0, .slice none 0 0, .slice none 0 0] 36)) (g + 1) (.slice none 0 0) (.slice none 0 0) (.slice none 0 0) from by have h9 := (Bx.new (wn.alloc (.cells #[.int .i64 n, .int .i64 m, .int .i64 f, .int .i64 d, .slice a k c] 27)) (.slice none 0 0) (.slice none 0 0) (.slice none 0 0) 36); simp only [World.size_alloc, hg, Nat.add_assoc, Nat.reduceAdd] at h9; exact h9)
  have HZg := Lib.hid (show (((wn.alloc (.cells #[.int .i64 n, .int .i64 m, .int .i64 f, .int .i64 d, .slice a k c] 27)).alloc (.cells #[.slice none 0 0, .slice none 0 0, .slice none 0 0] 36))).heap.size = g + 2 from by simp only [World.size_alloc, hg, Nat.add_assoc, Nat.reduceAdd])
  clear hg
  clear T
  have T := Tn
  clear Tn
  go_enter Try.func18, Try.ntmps18
  have c0 := (TB.out.2 0 _ rfl).1
  have c1 := (TB.out.2 1 _ rfl).1
  have c2 := (TB.out.2 2 _ rfl).1
  have c3 := (TB.out.2 3 _ rfl).1
  have c4 := (TB.out.2 4 _ rfl).1
  go_wp2_with fail
  rw [HGg.out]
  refine Calls.mono (HV.out _ (Rid.below X0.out T.out)) ?_
  intro e wn hh
  obtain ⟨he, hb⟩ := (by first | exact hh | exact Ro.mk hh | exact St.mk hh | exact LawOk.mk' hh : Mk _ _ e wn)
  subst he
  have Tn : Hid (Below w.heap.size w wn) := below_next T.out hb
  have TBn : Hid _ := BoxV.below TB.out hb
  have RRn : Hid _ := Bx.below RR.out hb
  clear hb hh c0 c1 c2 c3 c4
  clear T TB RR
  have T := Tn
  have TB := TBn
  have RR := RRn
  clear Tn TBn RRn
  go_upto_region 3 with fail
  refine wp_region_quiet (C := fun w' => Below (World.heap (wn)).size (wn) w') (by kernel_rfl) (by kernel_rfl) (by first | exact ⟨rfl, rfl, rfl, Nat.le_refl _, fun _ _ => rfl⟩ | exact Below.dw (by repeat (first | exact Below.refl _ _ | refine Below.al ?_ _ | refine Below.dr ?_ _ | refine Below.dw ?_ | refine Below.st ?_ (by first | exact Nat.le_refl _ | exact Nat.le_add_right _ _ | (simp; omega)) _ | (refine below_next ?_ (by assumption))))) ?_
  simp only []
  repeat (go_big_quiet_step (first | (intro _; with_reducible exact rfl) | (intro hC; go_at_call 47; have TB9 := BoxV.below TB.out hC; have c0 := (TB9.2 0 _ rfl).1; have c1 := (TB9.2 1 _ rfl).1; have c2 := (TB9.2 2 _ rfl).1; have c3 := (TB9.2 3 _ rfl).1; have c4 := (TB9.2 4 _ rfl).1; clear TB9; (refine Calls.mono (HI.out _ (Rid.below X0.out (below_next T.out hC))) ?_); (first | (rintro e wx ⟨rfl, hb⟩; exact ⟨rfl, below_next hC hb⟩) | (rintro e wx ⟨rfl, n, rfl⟩; exact ⟨rfl, Below.dr hC n⟩) | (rintro e wx ⟨rfl, rfl⟩; exact ⟨rfl, hC⟩))) | (intro hC; have TB9 := BoxV.below TB.out hC; have c0 := (TB9.2 0 _ rfl).1; have c1 := (TB9.2 1 _ rfl).1; have c2 := (TB9.2 2 _ rfl).1; have c3 := (TB9.2 3 _ rfl).1; have c4 := (TB9.2 4 _ rfl).1; clear TB9; go_simp; rfl)))
  refine wpQuiet_nil ?_
  intro wq hq
  have Tn := Lib.hid (below_next T.out hq)
  have TBn := Lib.hid (BoxV.below TB.out hq)
  have RRn := Lib.hid (Bx.below RR.out hq)
  clear hq
  clear T TB RR
  have T := Tn
  have TB := TBn
  have RR := RRn
  clear Tn TBn RRn
  obtain ⟨wn, hwq⟩ : ∃ w0, w0 = wq := ⟨_, rfl⟩
  subst hwq
  rw [HFE.out]
  have hltTBG := BoxV.lt TB.out
  have hltRRG := Bx.lt RR.out
  have hWG := T.out.size
  obtain ⟨G, hG⟩ : ∃ G, Array.size (World.heap wn) = G := ⟨_, rfl⟩
  have HG : Hid _ := hG
  rw [hG] at hWG hltTBG hltRRG
  have R0 : Hid (Rw (wn.alloc (.cells #[.bool false, .bool false, .bool false, .bool false, .bool false, .bool false, .bool false, .bool false, .bool false, .bool false, .bool false, .bool false, .bool false, .bool false, .bool false, .bool false, .bool false, .bool false, .bool false, .bool false, .bool false, .bool false, .bool false, .bool false] 68)) G 68 24 (fun _ => false)) := by rw [← hG]; exact Rw.new24 wn
  clear hG
  have Tn : Hid (Below w.heap.size w _) := Below.al T.out (.cells #[.bool false, .bool false, .bool false, .bool false, .bool false, .bool false, .bool false, .bool false, .bool false, .bool false, .bool false, .bool false, .bool false, .bool false, .bool false, .bool false, .bool false, .bool false, .bool false, .bool false, .bool false, .bool false, .bool false, .bool false] 68)
  have TBn : Hid _ := BoxV.below TB.out ((Below.refl _ _).alloc (Nat.le_refl _) (.cells #[.bool false, .bool false, .bool false, .bool false, .bool false, .bool false, .bool false, .bool false, .bool false, .bool false, .bool false, .bool false, .bool false, .bool false, .bool false, .bool false, .bool false, .bool false, .bool false, .bool false, .bool false, .bool false, .bool false, .bool false] 68))
  have RRn : Hid _ := Bx.below RR.out ((Below.refl _ _).alloc (Nat.le_refl _) (.cells #[.bool false, .bool false, .bool false, .bool false, .bool false, .bool false, .bool false, .bool false, .bool false, .bool false, .bool false, .bool false, .bool false, .bool false, .bool false, .bool false, .bool false, .bool false, .bool false, .bool false, .bool false, .bool false, .bool false, .bool false] 68))
  clear T TB RR
  have T := Tn
  have TB := TBn
  have RR := RRn
  clear Tn TBn RRn
  go_upto_region 5 with fail
  rw [HG.out]
  generalize wn.alloc (.cells #[.bool false, .bool false, .bool false, .bool false, .bool false, .bool false, .bool false, .bool false, .bool false, .bool false, .bool false, .bool false, .bool false, .bool false, .bool false, .bool false, .bool false, .bool false, .bool false, .bool false, .bool false, .bool false, .bool false, .bool false] 68) = w0 at *
  obtain ⟨wn, hwq⟩ : ∃ w9 : World, w9 = w0 := ⟨_, rfl⟩
  subst hwq
  clear HG
  have R := Lib.hid (show Rw wn G 68 24 (rw3 ((l.take 0).foldl (rcall fl) z0)) from by
    rw [List.take_zero, List.foldl_nil, HRW.out]; exact R0.out)
  clear R0
  have c0 := (TB.out.2 0 _ rfl).1
  have c1 := (TB.out.2 1 _ rfl).1
  have c2 := (TB.out.2 2 _ rfl).1
  have c3 := (TB.out.2 3 _ rfl).1
  have c4 := (TB.out.2 4 _ rfl).1
  go_wp2_with fail
  go_loopw [20] (fun v wr => ∃ i : Nat, i ≤ k ∧ v = .int .i64 i ∧ Below w.heap.size w wr ∧ BoxV wr g [.int .i64 n, .int .i64 m, .int .i64 f, .int .i64 d, .slice a k c] ∧ Bx wr (g + 1) (.slice none 0 0) (.slice none 0 0) (.slice none 0 0) ∧ Rw wr G 68 24 (rw3 ((l.take i).foldl (rcall fl) z0))) (fun v _ => k - (intOf v).toNat)
  case atStart => exact ⟨0, by omega, rfl, T.out, TB.out, RR.out, R.out⟩
  case' round =>
    clear T TB RR R c0 c1 c2 c3 c4
    obtain ⟨i, hi, rfl, h9T, h9TB, h9RR, h9R⟩ := hrel
    obtain ⟨wn, hwq⟩ : ∃ w0 : World, w0 = wr := ⟨_, rfl⟩
    rw [← hwq] at h9T h9TB h9RR h9R ⊢
    clear hwq
    have T := Lib.hid h9T
    have TB := Lib.hid h9TB
    have RR := Lib.hid h9RR
    have R := Lib.hid h9R
    clear h9T h9TB h9RR h9R
    by_cases hlt : i < k
    case neg =>
      obtain rfl : i = k := by omega
      rw [E.out] at R
      have R9 := Lib.hid (show wn.rowIs G 68 24 (fun i => .bool (rw3 Y i)) from R.out)
      have hGl := Rw.lt R.out
      have c0 := (TB.out.2 0 _ rfl).1
      have c1 := (TB.out.2 1 _ rfl).1
      have c2 := (TB.out.2 2 _ rfl).1
      have c3 := (TB.out.2 3 _ rfl).1
      have c4 := (TB.out.2 4 _ rfl).1
      clear R
      go_wp2_with (with_reducible refine wpList_load_arr R9.out rfl ?_)
      clear c0 c1 c2 c3 c4 TB E HLY
      have K := calls_c (rw3 Y) n wn h1 h8
      rw [HY.out] at K
      refine K.mono ?_
      rintro e w9 ⟨v1, v2, v3, rfl, hO, hb⟩
      obtain ⟨b1, t1', b2, t2', b3, t3', rfl, rfl, rfl, -⟩ := hO.open
      obtain ⟨⟨c0, c1, c2⟩, hf⟩ := Bx.below RR.out hb
      have f0 := hf 0
      have f1 := hf 1
      have f2 := hf 2
      have N := Lib.hid (newC_end (w0 := w) (r := g + 1) hO (below_next T.out hb) (by omega) (by omega) id)
      clear hf hb hO K
      go_wp2_with fail
      exact bodyPost_ret (v := .agg #[.slice b1 _ t1', .slice b2 _ t2', .slice b3 _ t3']) (by simp [results, Try.results18, go_sem, c0, c1, c2]) rfl N.out
    obtain ⟨bq, off, rfl⟩ := Rid.some X0.out (by omega)
    obtain ⟨y0, y1, y2⟩ := Rid.three (Rid.below X0.out T.out) hlt
    have hii : (i : Int) < k := by omega
    have hro := HRR.out i hlt
    have hfo := fold_take (full := fl) (z := z0) (l := l) (i := i) (by rw [HL.out]; exact hlt)
    obtain ⟨⟨x, y, s⟩, hr⟩ : ∃ r, rat l i = r := ⟨_, rfl⟩
    rw [hr] at y0 y1 y2 hro hfo
    obtain ⟨⟨hx0, hx1⟩, ⟨hy0, hy1⟩, hxy, ⟨hs0, hs1⟩, -⟩ := hro
    simp only at hx0 hx1 hy0 hy1 hs0 hs1 hxy
    obtain ⟨x, rfl⟩ : ∃ x' : Nat, x = x' := ⟨x.toNat, by omega⟩
    obtain ⟨y, rfl⟩ : ∃ y' : Nat, y = y' := ⟨y.toNat, by omega⟩
    have HXY := Lib.hid hxy
    have hxn : x < n := by omega
    have hyn : y < n := by omega
    have hx8 : (x : Int) < 8 := by omega
    have hy8 : (y : Int) < 8 := by omega
    have hly := HLY.out i
    obtain ⟨u, hu⟩ : ∃ u, (l.take i).foldl (rcall fl) z0 = u := ⟨_, rfl⟩
    rw [hu] at hfo hly R
    have HFO := Lib.hid hfo
    have HLU := Lib.hid hly
    clear hr hfo hly hu hxy hx1 hy1
    have cc4 := (TB.out.2 4 _ rfl).1
    have hltTBHR := BoxV.lt TB.out
    have hltRRHR := Bx.lt RR.out
    have hltRHR := Rw.lt R.out
    have hWHR := T.out.size
    obtain ⟨HR, hHR⟩ : ∃ HR, Array.size (World.heap wn) = HR := ⟨_, rfl⟩
    have HHR : Hid _ := hHR
    rw [hHR] at hWHR hltTBHR hltRRHR hltRHR
    have RB : Hid (BoxV (wn.alloc (.cells #[.int .i64 x, .int .i64 y, .int .i64 s] 32)) HR [.int .i64 x, .int .i64 y, .int .i64 s]) := by rw [← hHR]; exact BoxV.new _ _ _ (by simp) rfl
    clear hHR
    have Tn : Hid (Below w.heap.size w _) := Below.al T.out (.cells #[.int .i64 x, .int .i64 y, .int .i64 s] 32)
    have TBn : Hid _ := BoxV.below TB.out ((Below.refl _ _).alloc (Nat.le_refl _) (.cells #[.int .i64 x, .int .i64 y, .int .i64 s] 32))
    have RRn : Hid _ := Bx.below RR.out ((Below.refl _ _).alloc (Nat.le_refl _) (.cells #[.int .i64 x, .int .i64 y, .int .i64 s] 32))
    have Rn : Hid _ := Rw.below R.out ((Below.refl _ _).alloc (Nat.le_refl _) (.cells #[.int .i64 x, .int .i64 y, .int .i64 s] 32))
    clear T TB RR R
    have T := Tn
    have TB := TBn
    have RR := RRn
    have R := Rn
    clear Tn TBn RRn Rn
    go_upto_region 8 with fail
    rw [HHR.out]
    clear y0 y1 y2 cc4
    generalize wn.alloc (.cells #[.int .i64 x, .int .i64 y, .int .i64 s] 32) = w0 at *
    obtain ⟨wn, hwq⟩ : ∃ w9 : World, w9 = w0 := ⟨_, rfl⟩
    subst hwq
    clear HHR
    have hltG := Rw.lt R.out
    by_cases h1 : s = 1
    case pos =>
      subst h1
      have HE9 := Lib.hid (show rcall fl u ⟨x, y, 1⟩ = cput u 2 y true from by simp [rcall])
      have d0 := (RB.out.2 0 _ rfl).1
      have d1 := (RB.out.2 1 _ rfl).1
      have d2 := (RB.out.2 2 _ rfl).1
      have ho := Out.set (w := wn) (q := G) (i := 16 + y) (lo := G) (hi := G + 1) (.bool true) (Nat.le_refl _) (by omega)
      have cc := Rw.cell R.out (i := 16 + y) (by omega)
      have ff := World.rowIs.frozen (show World.rowIs _ _ _ _ _ from R.out) (16 + y)
      have R2 := Lib.hid (show Rw (wn.setCell ⟨G, 16 + y, none⟩ (.bool true)) G 68 24 (rw3 ((l.take (i + 1)).foldl (rcall fl) z0)) from World.rowIs.congr (World.rowIs.set (show World.rowIs _ _ _ _ _ from R.out) (16 + y) (.bool true)) fun i' hi' => by
        have h9 := rw3_put (x := u) (k := 2) (j := y) (n := n) true (by omega) (by omega) h8 HLU.out.1 HLU.out.2.1 HLU.out.2.2 i' hi'
        rw [HFO.out, HE9.out, show rw3 (cput u 2 y true) i' = rw3 (cput u ((2 : Nat) : Int) y true) i' from rfl, ← h9]
        by_cases e : i' = 16 + y
        · rw [if_pos e, if_pos (by omega)]
        · rw [if_neg e, if_neg (by omega)])
      have TB2 := Lib.hid (BoxV.out TB.out ho (.inl (by omega)))
      have RR2 := Lib.hid (Bx.out RR.out ho (.inl (by omega)))
      have T2 := Lib.hid (Out.below T.out ho (by omega))
      clear ho T TB RR R RB
      go_wp2_with fail
      exact ⟨⟨i + 1, by omega, by go_num, T2.out, TB2.out, RR2.out, R2.out⟩, by first | (simp [intOf]; done) | (simp [intOf]; omega) | omega⟩
    have v1 : (s == 1) = false := beq_false_of_ne h1
    have HS1 := Lib.hid h1
    clear h1
    by_cases h0 : s = 0
    case neg =>
      have v2 : (s == 0) = false := beq_false_of_ne h0
      have E9 := Lib.hid (show rcall fl u ⟨x, y, s⟩ = u from by have := HS1.out; simp [rcall, this, h0])
      clear h0
      have d0 := (RB.out.2 0 _ rfl).1
      have d1 := (RB.out.2 1 _ rfl).1
      have d2 := (RB.out.2 2 _ rfl).1
      have RX := Lib.hid (show Rw wn G 68 24 (rw3 ((l.take (i + 1)).foldl (rcall fl) z0)) from by rw [HFO.out, E9.out]; exact R.out)
      clear R RB
      have R := RX
      clear RX
      go_wp2_with fail
      go_roundw
      case rel => exact ⟨i + 1, by omega, by go_num, T.out, TB.out, RR.out, R.out⟩
      case measure => first | (simp [intOf]; done) | (simp [intOf]; omega) | omega
    have v2 : (s == 0) = true := by simp [h0]
    have HS0 := Lib.hid h0
    clear h0
    cases fl
    case true =>
      have E9 := Lib.hid (show rcall true u ⟨x, y, s⟩ = u from by have := HS1.out; simp [rcall, this])
      have d0 := (RB.out.2 0 _ rfl).1
      have d1 := (RB.out.2 1 _ rfl).1
      have d2 := (RB.out.2 2 _ rfl).1
      have RX := Lib.hid (show Rw wn G 68 24 (rw3 ((l.take (i + 1)).foldl (rcall true) z0)) from by rw [HFO.out, E9.out]; exact R.out)
      clear R RB
      have R := RX
      clear RX
      go_wp2_with fail
      go_roundw
      case rel => exact ⟨i + 1, by omega, by go_num, T.out, TB.out, RR.out, R.out⟩
      case measure => first | (simp [intOf]; done) | (simp [intOf]; omega) | omega
    case false =>
    have KD := fun w' => dir_c ⟨x, y, s⟩ w'
    by_cases hup : (y : Int) > x
    case pos =>
      have e8 : cdir ⟨x, y, s⟩ = 1 := by rw [cdir_ne (r := ⟨x, y, s⟩) HXY.out]; unfold rdir; exact if_pos hup
      have e9 : rcall false u ⟨x, y, s⟩ = cput u 0 x true := by
        have h7 := HS1.out
        have h6 := HS0.out
        have h5 :  x < y := by omega
        simp [rcall, h6, h5]
      rw [e8] at KD
      have HD := Lib.hid (show ∀ w', Calls Try.prog 53 #[.agg #[.int .i64 x, .int .i64 y, .int .i64 s]] w' (Mk w' (.int .i64 (1))) from KD)
      have HE9 := Lib.hid e9
      clear e8 e9 KD hup
      have d0 := (RB.out.2 0 _ rfl).1
      have d1 := (RB.out.2 1 _ rfl).1
      have d2 := (RB.out.2 2 _ rfl).1
      go_upto_region 11 with fail
      clear d0 d1 d2
      refine wp_region_quiet_late (C := fun w' => Below (World.heap (wn)).size (wn) w') 7 _ (by kernel_rfl) (by kernel_rfl) (by kernel_rfl) (by kernel_rfl) (by rfl) (by kernel_rfl) (by kernel_rfl) (by first | exact ⟨rfl, rfl, rfl, Nat.le_refl _, fun _ _ => rfl⟩ | exact Below.dw (by repeat (first | exact Below.refl _ _ | refine Below.al ?_ _ | refine Below.dr ?_ _ | refine Below.dw ?_ | refine Below.st ?_ (by first | exact Nat.le_refl _ | exact Nat.le_add_right _ _ | (simp; omega)) _ | (refine below_next ?_ (by assumption))))) ?_
      simp only [List.take_succ_cons, List.take_zero]
      repeat (go_big_quiet_step (first | (intro _; with_reducible exact rfl) | (intro hC; go_at_call 53; have RB9 := BoxV.below RB.out hC; have d0 := (RB9.2 0 _ rfl).1; have d1 := (RB9.2 1 _ rfl).1; have d2 := (RB9.2 2 _ rfl).1; clear RB9; (refine Calls.mono (HD.out _) ?_); (first | (rintro e wx ⟨rfl, hb⟩; exact ⟨rfl, below_next hC hb⟩) | (rintro e wx ⟨rfl, n, rfl⟩; exact ⟨rfl, Below.dr hC n⟩) | (rintro e wx ⟨rfl, rfl⟩; exact ⟨rfl, hC⟩))) | (intro hC; go_at_call 52; have RB9 := BoxV.below RB.out hC; have d0 := (RB9.2 0 _ rfl).1; have d1 := (RB9.2 1 _ rfl).1; have d2 := (RB9.2 2 _ rfl).1; clear RB9; (refine Calls.mono (kindToGo_u _) ?_); (first | (rintro e wx ⟨rfl, hb⟩; exact ⟨rfl, below_next hC hb⟩) | (rintro e wx ⟨rfl, n, rfl⟩; exact ⟨rfl, Below.dr hC n⟩) | (rintro e wx ⟨rfl, rfl⟩; exact ⟨rfl, hC⟩))) | (intro hC; have RB9 := BoxV.below RB.out hC; have d0 := (RB9.2 0 _ rfl).1; have d1 := (RB9.2 1 _ rfl).1; have d2 := (RB9.2 2 _ rfl).1; clear RB9; go_simp; rfl)))
      refine wpQuiet_nil ?_
      intro wq hq
      have Tn := Lib.hid (below_next T.out hq)
      have TBn := Lib.hid (BoxV.below TB.out hq)
      have RRn := Lib.hid (Bx.below RR.out hq)
      have Rn := Lib.hid (Rw.below R.out hq)
      have RBn := Lib.hid (BoxV.below RB.out hq)
      clear hq
      clear T TB RR R RB
      have T := Tn
      have TB := TBn
      have RR := RRn
      have R := Rn
      have RB := RBn
      clear Tn TBn RRn Rn RBn
      obtain ⟨wn, hwq⟩ : ∃ w0, w0 = wq := ⟨_, rfl⟩
      subst hwq
      have hltG := Rw.lt R.out
      have ho := Out.set (w := wn) (q := G) (i := x) (lo := G) (hi := G + 1) (.bool true) (Nat.le_refl _) (by omega)
      have cc := Rw.cell R.out (i := x) (by omega)
      have ff := World.rowIs.frozen (show World.rowIs _ _ _ _ _ from R.out) (x)
      have R2 := Lib.hid (show Rw (wn.setCell ⟨G, x, none⟩ (.bool true)) G 68 24 (rw3 ((l.take (i + 1)).foldl (rcall false) z0)) from World.rowIs.congr (World.rowIs.set (show World.rowIs _ _ _ _ _ from R.out) (x) (.bool true)) fun i' hi' => by
        have h9 := rw3_put (x := u) (k := 0) (j := x) (n := n) true (by omega) (by omega) h8 HLU.out.1 HLU.out.2.1 HLU.out.2.2 i' hi'
        rw [HFO.out, HE9.out, show rw3 (cput u 0 x true) i' = rw3 (cput u ((0 : Nat) : Int) x true) i' from rfl, ← h9]
        by_cases e : i' = x
        · rw [if_pos e, if_pos (by omega)]
        · rw [if_neg e, if_neg (by omega)])
      have TB2 := Lib.hid (BoxV.out TB.out ho (.inl (by omega)))
      have RR2 := Lib.hid (Bx.out RR.out ho (.inl (by omega)))
      have T2 := Lib.hid (Out.below T.out ho (by omega))
      clear ho T TB RR R RB
      go_wp2_with fail
      exact ⟨⟨i + 1, by omega, by go_num, T2.out, TB2.out, RR2.out, R2.out⟩, by first | (simp [intOf]; done) | (simp [intOf]; omega) | omega⟩
    have e8 : cdir ⟨x, y, s⟩ = -1 := by rw [cdir_ne (r := ⟨x, y, s⟩) HXY.out]; unfold rdir; exact if_neg hup
    have e9 : rcall false u ⟨x, y, s⟩ = cput u 1 x true := by
      have h7 := HS1.out
      have h6 := HS0.out
      have h5 : ¬ x < y := by omega
      simp [rcall, h6, h5]
    rw [e8] at KD
    have HD := Lib.hid (show ∀ w', Calls Try.prog 53 #[.agg #[.int .i64 x, .int .i64 y, .int .i64 s]] w' (Mk w' (.int .i64 (-1))) from KD)
    have HE9 := Lib.hid e9
    clear e8 e9 KD hup
    have d0 := (RB.out.2 0 _ rfl).1
    have d1 := (RB.out.2 1 _ rfl).1
    have d2 := (RB.out.2 2 _ rfl).1
    go_upto_region 11 with fail
    clear d0 d1 d2
    refine wp_region_quiet_late (C := fun w' => Below (World.heap (wn)).size (wn) w') 7 _ (by kernel_rfl) (by kernel_rfl) (by kernel_rfl) (by kernel_rfl) (by rfl) (by kernel_rfl) (by kernel_rfl) (by first | exact ⟨rfl, rfl, rfl, Nat.le_refl _, fun _ _ => rfl⟩ | exact Below.dw (by repeat (first | exact Below.refl _ _ | refine Below.al ?_ _ | refine Below.dr ?_ _ | refine Below.dw ?_ | refine Below.st ?_ (by first | exact Nat.le_refl _ | exact Nat.le_add_right _ _ | (simp; omega)) _ | (refine below_next ?_ (by assumption))))) ?_
    simp only [List.take_succ_cons, List.take_zero]
    repeat (go_big_quiet_step (first | (intro _; with_reducible exact rfl) | (intro hC; go_at_call 53; have RB9 := BoxV.below RB.out hC; have d0 := (RB9.2 0 _ rfl).1; have d1 := (RB9.2 1 _ rfl).1; have d2 := (RB9.2 2 _ rfl).1; clear RB9; (refine Calls.mono (HD.out _) ?_); (first | (rintro e wx ⟨rfl, hb⟩; exact ⟨rfl, below_next hC hb⟩) | (rintro e wx ⟨rfl, n, rfl⟩; exact ⟨rfl, Below.dr hC n⟩) | (rintro e wx ⟨rfl, rfl⟩; exact ⟨rfl, hC⟩))) | (intro hC; go_at_call 52; have RB9 := BoxV.below RB.out hC; have d0 := (RB9.2 0 _ rfl).1; have d1 := (RB9.2 1 _ rfl).1; have d2 := (RB9.2 2 _ rfl).1; clear RB9; (refine Calls.mono (kindToGo_d _) ?_); (first | (rintro e wx ⟨rfl, hb⟩; exact ⟨rfl, below_next hC hb⟩) | (rintro e wx ⟨rfl, n, rfl⟩; exact ⟨rfl, Below.dr hC n⟩) | (rintro e wx ⟨rfl, rfl⟩; exact ⟨rfl, hC⟩))) | (intro hC; have RB9 := BoxV.below RB.out hC; have d0 := (RB9.2 0 _ rfl).1; have d1 := (RB9.2 1 _ rfl).1; have d2 := (RB9.2 2 _ rfl).1; clear RB9; go_simp; rfl)))
    refine wpQuiet_nil ?_
    intro wq hq
    have Tn := Lib.hid (below_next T.out hq)
    have TBn := Lib.hid (BoxV.below TB.out hq)
    have RRn := Lib.hid (Bx.below RR.out hq)
    have Rn := Lib.hid (Rw.below R.out hq)
    have RBn := Lib.hid (BoxV.below RB.out hq)
    clear hq
    clear T TB RR R RB
    have T := Tn
    have TB := TBn
    have RR := RRn
    have R := Rn
    have RB := RBn
    clear Tn TBn RRn Rn RBn
    obtain ⟨wn, hwq⟩ : ∃ w0, w0 = wq := ⟨_, rfl⟩
    subst hwq
    have hltG := Rw.lt R.out
    have ho := Out.set (w := wn) (q := G) (i := 8 + x) (lo := G) (hi := G + 1) (.bool true) (Nat.le_refl _) (by omega)
    have cc := Rw.cell R.out (i := 8 + x) (by omega)
    have ff := World.rowIs.frozen (show World.rowIs _ _ _ _ _ from R.out) (8 + x)
    have R2 := Lib.hid (show Rw (wn.setCell ⟨G, 8 + x, none⟩ (.bool true)) G 68 24 (rw3 ((l.take (i + 1)).foldl (rcall false) z0)) from World.rowIs.congr (World.rowIs.set (show World.rowIs _ _ _ _ _ from R.out) (8 + x) (.bool true)) fun i' hi' => by
      have h9 := rw3_put (x := u) (k := 1) (j := x) (n := n) true (by omega) (by omega) h8 HLU.out.1 HLU.out.2.1 HLU.out.2.2 i' hi'
      rw [HFO.out, HE9.out, show rw3 (cput u 1 x true) i' = rw3 (cput u ((1 : Nat) : Int) x true) i' from rfl, ← h9]
      by_cases e : i' = 8 + x
      · rw [if_pos e, if_pos (by omega)]
      · rw [if_neg e, if_neg (by omega)])
    have TB2 := Lib.hid (BoxV.out TB.out ho (.inl (by omega)))
    have RR2 := Lib.hid (Bx.out RR.out ho (.inl (by omega)))
    have T2 := Lib.hid (Out.below T.out ho (by omega))
    clear ho T TB RR R RB
    go_wp2_with fail
    exact ⟨⟨i + 1, by omega, by go_num, T2.out, TB2.out, RR2.out, R2.out⟩, by first | (simp [intOf]; done) | (simp [intOf]; omega) | omega⟩
theorem iTripCalls_c (n m f d : Int) (a : Option Addr) (k c : Nat) (l : List Ri) (w : World) (hX : Rid w a k l) (hk : k ≤ 1048577) :
    Calls Try.prog 18 #[.agg #[.int .i64 n, .int .i64 m, .int .i64 f, .int .i64 d, .slice a k c]] w (NewC w (tclT ⟨n, m, f, d, l⟩) id) := by
  by_cases h : TOk ⟨n, m, f, d, l⟩
  · rw [tclT_t h]
    obtain ⟨n, rfl⟩ : ∃ n' : Nat, n = n' := ⟨n.toNat, by have := h.1.1; simp at this; omega⟩
    exact iTripCalls_t n m f d a k c l w hX hk h
  · rw [tclT_f h]
    exact iTripCalls_f n m f d a k c l w hX hk h
end Go.Proofs.Ytfhhgddajmihjaa

namespace Go.Proofs.Ytfhhgddajmihjaa
open Go.RowKit
set_option linter.unusedVariables false
set_option linter.unusedSimpArgs false
set_option maxRecDepth 100000

set_option maxHeartbeats 1000000 in
theorem cloneR_c (a : Option Addr) (k c : Nat) (l : List Ri) (w : World) (hX : Rid w a k l) (hk : k ≤ 1048577) :
    Calls Try.prog 61 #[.slice a k c] w fun e w' => ∃ v, e = .returned v ∧ OwnR 32 3 w' w.heap.size v k (rfl3 l) ∧ Below w.heap.size w w' := by
  have X0 := Lib.hid hX
  have q22 : ∀ (w : World) (a : Option Addr) (n c n' c' : Nat), (binOp .eql 25 (.slice a n c) (.slice none n' c')).run Try.prog w = .ok (.bool a.isNone) w := fun w a n c n' c' => Lib.run_eql_slice_nil w _ _ a n c n' c' Try.underlying25
  cases a with
  | none =>
    have h0 : k = 0 := by
      rcases hX.1.2 with h | ⟨b, off, e, _⟩
      · exact h
      · cases e
    subst h0
    obtain rfl : l = [] := List.eq_nil_of_length_eq_zero hX.2
    clear hX X0
    go_enter Try.func61, Try.ntmps61
    go_wp2_with fail
    go_ret
    exact ⟨_, rfl, OwnR.nil w w.heap.size, Below.refl _ _⟩
  | some ad =>
    clear hX
    obtain ⟨S, hS⟩ : ∃ S, w.heap.size = S := ⟨_, rfl⟩
    have OA := Lib.hid (show OwnR 32 3 (w.alloc (.cells #[] 32)) S (.slice (some ⟨S, 0, none⟩) 0 0) 0 (rfl3 []) from by
      have h9 := OwnR.none0 (E := 32) (k := 3) (w := w); rw [hS] at h9; exact h9)
    have IN := Lib.hid (Rid.below X0.out ((Below.refl _ _).alloc (Nat.le_refl _) (.cells #[] 32)))
    have hB1 : S ≤ (w.alloc (.cells #[] 32)).heap.size := by rw [World.size_alloc, hS]; omega
    have HS := Lib.hid hS
    rw [hS]
    go_enter Try.func61, Try.ntmps61
    go_wp2_with (with_reducible refine wpList_append_riders OA.out rfl rfl IN.out (by omega) hB1 ?_)
    intro v2 w2 hO2 hgr hat
    rw [Nat.zero_add, List.nil_append] at hO2
    have hgb : ∀ q, (Value.slice (some ⟨S, 0, none⟩) 0 0).ownBlock = some q → q = S := fun q e => by cases e; rfl
    have T2 := Lib.hid (show Below w.heap.size w w2 from Below.own (Below.al (Below.refl _ _) (.cells #[] 32)) hgr (fun i e => by have := hgb i e; have := HS.out; omega))
    have O2 := Lib.hid hO2
    clear OA IN hB1 hO2 hgr hat hgb hS
    go_wp2_with fail
    go_ret
    exact ⟨_, rfl, O2.out, by have := T2.out; rwa [HS.out] at this⟩
set_option maxHeartbeats 4000000 in
theorem getOut_c (a : Option Addr) (k c : Nat) (l : List Ri) (F : Int) (B lo hi : Nat) (w : World) (hO : OwnR 32 3 w B (.slice a k c) k (rfl3 l)) (hL : l.length = k) (hk : k ≤ 1048577)
    (hb : ∀ q, (Value.slice a k c).ownBlock = some q → lo ≤ q ∧ q < hi) (hlw : hi ≤ w.heap.size) :
    Calls Try.prog 62 #[.slice a k c, .int .i64 F] w fun e w' => e = .returned (.tuple #[]) ∧ OwnR 32 3 w' B (.slice a k c) k (rfl3 (l.map (gout F))) ∧ Out lo hi w w' := by
  have HO := Lib.hid (show OwnR 32 3 w B (.slice a k c) k (rfl3 (outL F l 0)) from by rw [outL_0]; exact hO)
  have HB := Lib.hid hb
  have HL := Lib.hid hL
  clear hO hb hL
  go_enter Try.func62, Try.ntmps62
  go_wp2_with fail
  go_loopw [8] (fun v wr => ∃ i : Nat, i ≤ k ∧ v = .int .i64 i ∧ OwnR 32 3 wr B (.slice a k c) k (rfl3 (outL F l i)) ∧ Out lo hi w wr) (fun v _ => k - (intOf v).toNat)
  case atStart => exact ⟨0, by omega, rfl, HO.out, Out.refl _ _ _⟩
  case round =>
    clear HO
    obtain ⟨i, hi', rfl, hO, ho⟩ := hrel
    have O := Lib.hid hO
    have OT := Lib.hid ho
    clear hO ho
    obtain ⟨wn, hwq⟩ : ∃ w0 : World, w0 = wr := ⟨_, rfl⟩
    rw [← hwq] at O OT ⊢
    clear hwq
    by_cases hlt : i < k
    case neg =>
      obtain rfl : i = k := by omega
      have h9 := O.out
      have e1 := outL_all F l
      rw [HL.out] at e1
      rw [e1] at h9
      have O9 := Lib.hid h9
      clear h9 O e1
      go_wp2_with fail
      go_end0
      exact ⟨rfl, O9.out, OT.out⟩
    obtain ⟨bO, oO, rfl⟩ := Rid.some (OwnR.rid O.out) (by omega)
    obtain ⟨a', c', e', -, hop⟩ := OwnR.open O.out
    simp only [Value.slice.injEq, true_and] at e'
    obtain ⟨rfl, rfl⟩ := e'
    obtain ⟨rfl, -, fz, -, -⟩ := hop bO oO none rfl
    clear hop
    have fz2 := fz (i * 3 + 2)
    clear fz
    have FZ := Lib.hid fz2
    obtain ⟨y0, y1, y2⟩ := Rid.three (OwnR.rid O.out) hlt
    simp only [Nat.zero_add] at y0 y1 y2
    have hii : (i : Int) < k := by omega
    have hla : i < (outL F l i).length := by rw [outL_len, HL.out]; exact hlt
    have hra := outL_at (k := F) (l := l) (i := i) (by rw [HL.out]; exact hlt)
    obtain ⟨⟨x, y, s⟩, hr⟩ : ∃ r, rat l i = r := ⟨_, rfl⟩
    rw [hra, hr] at y0 y1 y2
    rw [hr] at hra
    have hSb := HB.out bO rfl
    have hnx := outL_next (k := F) (l := l) (i := i) (by rw [HL.out]; exact hlt)
    rw [hr] at hnx
    have hsame := set_same hla
    rw [hra] at hsame
    have HNX := Lib.hid hnx
    have HSM := Lib.hid hsame
    have HRA := Lib.hid hra
    have HLA := Lib.hid hla
    clear hra hla hnx hr hsame
    have hsz := OT.out.size
    have hbw : bO < wn.heap.size := (OwnR.lt O.out bO rfl).2
    have hb3 := BoxV.new wn [.int .i64 x, .int .i64 y, .int .i64 s] 32 (by simp) rfl
    obtain ⟨H, hH⟩ : ∃ H, wn.heap.size = H := ⟨_, rfl⟩
    rw [hH] at hb3 hbw
    have RB := Lib.hid hb3
    have O2 := Lib.hid (OwnR.al O.out (.cells #[.int .i64 x, .int .i64 y, .int .i64 s] 32))
    have OT2 := Lib.hid (Out.trans OT.out (Out.mk' (lo := lo) (hi := hi) ((Below.refl _ _).alloc (Nat.le_refl _) (.cells #[.int .i64 x, .int .i64 y, .int .i64 s] 32))))
    have hFa : ∀ j, (wn.alloc (.cells #[.int .i64 x, .int .i64 y, .int .i64 s] 32)).frozen? ⟨bO, j, none⟩ = wn.frozen? ⟨bO, j, none⟩ := fun j => by simp [World.frozen?, Below.heap_alloc wn _ bO (by omega)]
    have FZ2 := Lib.hid (show (wn.alloc (.cells #[.int .i64 x, .int .i64 y, .int .i64 s] 32)).frozen? ⟨bO, i * 3 + 2, none⟩ = false from by rw [hFa]; exact FZ.out)
    go_upto_region 3 with fail
    clear y0 y1 y2 hb3 O OT FZ hFa hH hsz
    generalize wn.alloc (.cells #[.int .i64 x, .int .i64 y, .int .i64 s] 32) = w0 at *
    have O := O2
    have OT := OT2
    clear O2 OT2
    obtain ⟨y0, y1, y2⟩ := Rid.three (OwnR.rid O.out) hlt
    simp only [Nat.zero_add] at y0 y1 y2
    have Y2 := Lib.hid y2
    clear y0 y1 y2
    have d0 := (RB.out.2 0 _ rfl).1
    have d1 := (RB.out.2 1 _ rfl).1
    have d2 := (RB.out.2 2 _ rfl).1
    clear RB
    by_cases h0 : s = 1
    case neg =>
      have v0 : (s == 1) = false := beq_false_of_ne h0
      have E9 := Lib.hid (show outL F l (i + 1) = outL F l i from by rw [HNX.out]; unfold gout; rw [if_neg (fun h9 => h0 h9.1)]; exact HSM.out)
      have PX := Lib.hid (show OwnR 32 3 w0 B (.slice (some ⟨bO, 0, none⟩) k c) k (rfl3 (outL F l (i + 1))) from by rw [E9.out]; exact O.out)
      clear h0 O
      go_wp2_with fail
      exact ⟨⟨i + 1, by omega, by go_num, PX.out, OT.out⟩, by first | (simp [intOf]; done) | (simp [intOf]; omega) | omega⟩
    have v0 : (s == 1) = true := by simp [h0]
    have HH0 := Lib.hid h0
    clear h0
    by_cases h1 : y = F
    case neg =>
      have v1 : (y == F) = false := beq_false_of_ne h1
      have E9 := Lib.hid (show outL F l (i + 1) = outL F l i from by rw [HNX.out]; unfold gout; rw [if_neg (fun h9 => h1 h9.2)]; exact HSM.out)
      have PX := Lib.hid (show OwnR 32 3 w0 B (.slice (some ⟨bO, 0, none⟩) k c) k (rfl3 (outL F l (i + 1))) from by rw [E9.out]; exact O.out)
      clear h1 O
      go_wp2_with fail
      exact ⟨⟨i + 1, by omega, by go_num, PX.out, OT.out⟩, by first | (simp [intOf]; done) | (simp [intOf]; omega) | omega⟩
    have v1 : (y == F) = true := by simp [h1]
    have HH1 := Lib.hid h1
    clear h1
    have E9 := Lib.hid (show outL F l (i + 1) = (outL F l i).set i ⟨x, y, 2⟩ from by rw [HNX.out]; unfold gout; rw [if_pos ⟨HH0.out, HH1.out⟩])
    have ho := Out.set (w := w0) (q := bO) (i := i * 3 + 2) (lo := lo) (hi := hi) (.int .i64 2) hSb.1 hSb.2
    have OT1 := Lib.hid (Out.trans OT.out ho)
    have O1 := Lib.hid (show OwnR 32 3 (w0.setCell ⟨bO, i * 3 + 2, none⟩ (.int .i64 2)) B (.slice (some ⟨bO, 0, none⟩) k c) k (rfl3 (outL F l (i + 1))) from by
      have e := OwnR.state (i := i) O.out HLA.out 2
      rw [HRA.out] at e
      rw [E9.out]
      exact e)
    have y2 := Y2.out
    have fz := FZ2.out
    clear O OT ho
    go_wp2_with fail
    exact ⟨⟨i + 1, by omega, by go_num, O1.out, OT1.out⟩, by first | (simp [intOf]; done) | (simp [intOf]; omega) | omega⟩
theorem gcnt_snoc {m k D : Int} {x y s e : Int} {c q : Nat} {A : List Ri} (h : gcnt m k D c A = q) (he : rdir ⟨x, y, s⟩ = e) : gcnt m k D c (A ++ [⟨x, y, s⟩]) = gcnt m k D c A + (if s = 0 ∧ x = k ∧ e = D ∧ (q : Int) < m then 1 else 0) := by
  induction A generalizing c with
  | nil =>
    have h0 : c = q := h
    subst h0
    rw [← he]
    simp only [List.nil_append, gcnt]
    split <;> rfl
  | cons r A ih =>
    simp only [List.cons_append, gcnt] at h ⊢
    split at h
    · rename_i g; rw [if_pos g, if_pos g]; exact ih h
    · rename_i g; rw [if_neg g, if_neg g]; exact ih h
set_option maxHeartbeats 8000000 in
theorem getIn_c (a : Option Addr) (k c : Nat) (l : List Ri) (F D m : Int) (B lo hi : Nat) (w : World) (hO : OwnR 32 3 w B (.slice a k c) k (rfl3 l)) (hL : l.length = k) (hk : k ≤ 1048577) (hm : (ins l : Int) ≤ m) (hm8 : m ≤ 8)
    (hne : ∀ r, r ∈ l → r.a ≠ r.b)
    (hb : ∀ q, (Value.slice a k c).ownBlock = some q → lo ≤ q ∧ q < hi) (hlw : hi ≤ w.heap.size) :
    Calls Try.prog 63 #[.slice a k c, (Value.agg #[.int .i64 (F), .int .i64 (D)]), .int .i64 m] w fun e w' => e = .returned (.tuple #[]) ∧ OwnR 32 3 w' B (.slice a k c) k (rfl3 (gin m F D (ins l) l)) ∧ Out lo hi w w' := by
  have HO := Lib.hid hO
  have HB := Lib.hid hb
  have HL := Lib.hid hL
  have HNE := Lib.hid hne
  have KI := fun w' (h : Rid w' a k l) => insideMany_c a k c l w' h hk
  obtain ⟨z, hz⟩ : ∃ z : Nat, ins l = z := ⟨_, rfl⟩
  rw [hz] at KI hm
  have HI := Lib.hid KI
  have HZ := Lib.hid hz
  clear hO hb hL KI hz hne
  refine at_base fun wn hwn => ?_
  have T := Lib.hid (show Below w.heap.size w wn from by rw [hwn]; exact Below.refl _ _)
  clear hwn
  obtain ⟨g, hg⟩ : ∃ g, Array.size (World.heap wn) = g := ⟨_, rfl⟩
  have HGg := Lib.hid hg
  have hTg : w.heap.size ≤ g := by rw [← hg]; exact T.out.size
  have Tn := Lib.hid (show Below w.heap.size w (wn.alloc (.cells #[.int .i64 (F), .int .i64 (D)] 24)) from (Below.al T.out (.cells #[.int .i64 (F), .int .i64 (D)] 24)))
  have SB := Lib.hid (show Box (wn.alloc (.cells #[.int .i64 (F), .int .i64 (D)] 24)) g (F) (D) from by have h9 := (Box.new wn (F) (D) 24); simp only [World.size_alloc, hg, Nat.add_assoc, Nat.reduceAdd] at h9; exact h9)
  have HZg := Lib.hid (show ((wn.alloc (.cells #[.int .i64 (F), .int .i64 (D)] 24))).heap.size = g + 1 from by simp only [World.size_alloc, hg, Nat.add_assoc, Nat.reduceAdd])
  clear hg
  clear T
  have T := Tn
  clear Tn
  go_enter Try.func63, Try.ntmps63
  go_wp2_with fail
  rw [HGg.out]
  refine Calls.mono (HI.out _ (OwnR.rid (OwnR.below HO.out T.out))) ?_
  intro e wn hh
  obtain ⟨he, hb⟩ := (by first | exact hh | exact Ro.mk hh | exact St.mk hh | exact LawOk.mk' hh : Mk _ _ e wn)
  subst he
  have Tn : Hid (Below w.heap.size w wn) := below_next T.out hb
  have SBn : Hid _ := Box.below SB.out hb
  clear hb hh
  clear T SB
  have T := Tn
  have SB := SBn
  clear Tn SBn
  have O1 := Lib.hid (show OwnR 32 3 wn B (.slice a k c) k (rfl3 (inL m F D l 0)) from by rw [inL_0]; exact OwnR.below HO.out T.out)
  have SB1 := Lib.hid (show Box wn g F D from SB.out)
  have OT1 := Lib.hid (show Out lo hi w wn from Out.mk' T.out)
  have hgw : hi ≤ g := by omega
  clear HI HO T SB
  go_wp2_with fail
  go_loopw [2, 14] (fun u v wr => ∃ i : Nat, i ≤ k ∧ u = .int .i64 (m - (ins (inL m F D l i) : Int)) ∧ v = .int .i64 i ∧ (ins (inL m F D l i) : Int) ≤ m ∧ OwnR 32 3 wr B (.slice a k c) k (rfl3 (inL m F D l i)) ∧ Box wr g F D ∧ Out lo hi w wr) (fun _ v _ => k - (intOf v).toNat)
  case atStart => exact ⟨0, by omega, by rw [inL_0, HZ.out], rfl, by rw [inL_0, HZ.out]; omega, O1.out, SB1.out, OT1.out⟩
  case round =>
    clear O1 SB1 OT1
    obtain ⟨i, hi', rfl, rfl, hzm, hO, hS, ho⟩ := hrel
    have O := Lib.hid hO
    have SB := Lib.hid hS
    have OT := Lib.hid ho
    clear hO ho hS
    obtain ⟨wn, hwq⟩ : ∃ w0 : World, w0 = wr := ⟨_, rfl⟩
    rw [← hwq] at O OT SB ⊢
    clear hwq
    obtain ⟨q, hq⟩ : ∃ q : Nat, ins (inL m F D l i) = q := ⟨_, rfl⟩
    rw [hq] at hzm ⊢
    have HQ := Lib.hid hq
    clear hq
    by_cases hlt : i < k
    case neg =>
      obtain rfl : i = k := by omega
      have h9 := O.out
      have e1 := inL_all m F D l
      rw [HL.out] at e1
      rw [e1] at h9
      have O9 := Lib.hid h9
      clear h9 O e1
      go_wp2_with fail
      go_end0
      exact ⟨rfl, O9.out, OT.out⟩
    obtain ⟨bO, oO, rfl⟩ := Rid.some (OwnR.rid O.out) (by omega)
    obtain ⟨a', c', e', -, hop⟩ := OwnR.open O.out
    simp only [Value.slice.injEq, true_and] at e'
    obtain ⟨rfl, rfl⟩ := e'
    obtain ⟨rfl, -, fz, -, -⟩ := hop bO oO none rfl
    clear hop
    have fz2 := fz (i * 3 + 2)
    clear fz
    have FZ := Lib.hid fz2
    obtain ⟨y0, y1, y2⟩ := Rid.three (OwnR.rid O.out) hlt
    simp only [Nat.zero_add] at y0 y1 y2
    have hii : (i : Int) < k := by omega
    have hla : i < (inL m F D l i).length := by rw [inL_len, HL.out]; exact hlt
    have hra := inL_at (m := m) (k := F) (D := D) (l := l) (i := i) (by rw [HL.out]; exact hlt)
    obtain ⟨⟨x, y, s⟩, hr⟩ : ∃ r, rat l i = r := ⟨_, rfl⟩
    rw [hra, hr] at y0 y1 y2
    rw [hr] at hra
    have hSb := HB.out bO rfl
    have hnx := inL_next (m := m) (k := F) (D := D) (l := l) (i := i) (by rw [HL.out]; exact hlt)
    rw [hr, HQ.out] at hnx
    have hab := HNE.out _ (rat_mem (l := l) (i := i) (by rw [HL.out]; exact hlt))
    rw [hr] at hab
    have KD := fun w' => dir_c ⟨x, y, s⟩ w'
    rw [cdir_ne hab] at KD
    obtain ⟨e, he⟩ : ∃ e, rdir ⟨x, y, s⟩ = e := ⟨_, rfl⟩
    rw [he] at KD hnx
    have HD := Lib.hid (show ∀ w', Calls Try.prog 53 #[.agg #[.int .i64 x, .int .i64 y, .int .i64 s]] w' (Mk w' (.int .i64 e)) from KD)
    have HNX := Lib.hid hnx
    have HRA := Lib.hid hra
    have HLA := Lib.hid hla
    have hins : ins (inL m F D l (i + 1)) = ins (inL m F D l i) + (if s = 0 ∧ x = F ∧ e = D ∧ (q : Int) < m then 1 else 0) := by
      rw [inL_ins, inL_ins]
      rw [rat_take (by rw [HL.out]; exact hlt), hr]
      have h8 := inL_ins m F D l i
      rw [HQ.out] at h8
      exact gcnt_snoc h8.symm he
    have HINS := Lib.hid hins
    clear hra hla hnx hr KD he hab hins
    have hsz := OT.out.size
    have hbw : bO < wn.heap.size := (OwnR.lt O.out bO rfl).2
    have hgb : g < wn.heap.size := Box.lt SB.out
    have hb3 := BoxV.new wn [.int .i64 x, .int .i64 y, .int .i64 s] 32 (by simp) rfl
    obtain ⟨H, hH⟩ : ∃ H, wn.heap.size = H := ⟨_, rfl⟩
    rw [hH] at hb3 hbw hgb
    have RB := Lib.hid hb3
    have O2 := Lib.hid (OwnR.al O.out (.cells #[.int .i64 x, .int .i64 y, .int .i64 s] 32))
    have SB2 := Lib.hid (Box.al SB.out (.cells #[.int .i64 x, .int .i64 y, .int .i64 s] 32))
    have OT2 := Lib.hid (Out.trans OT.out (Out.mk' (lo := lo) (hi := hi) ((Below.refl _ _).alloc (Nat.le_refl _) (.cells #[.int .i64 x, .int .i64 y, .int .i64 s] 32))))
    go_upto_region 5 with fail
    clear y0 y1 y2 hb3 O OT FZ hH hsz SB
    generalize wn.alloc (.cells #[.int .i64 x, .int .i64 y, .int .i64 s] 32) = w0 at *
    have O := O2
    have OT := OT2
    have SB := SB2
    clear O2 OT2 SB2 fz2
    by_cases h0 : (q : Int) < m
    case neg =>
      have v0 : decide ((q : Int) < m) = false := decide_eq_false h0
      have E9 := Lib.hid (show inL m F D l (i + 1) = inL m F D l i from by rw [HNX.out, if_neg (fun h9 => h0 h9.2.2.2)])
      clear h0
      refine wp_region_quiet (C := fun w' => Below (World.heap (w0)).size (w0) w') (by kernel_rfl) (by kernel_rfl) (by first | exact ⟨rfl, rfl, rfl, Nat.le_refl _, fun _ _ => rfl⟩ | exact Below.dw (by repeat (first | exact Below.refl _ _ | refine Below.al ?_ _ | refine Below.dr ?_ _ | refine Below.dw ?_ | refine Below.st ?_ (by first | exact Nat.le_refl _ | exact Nat.le_add_right _ _ | (simp; omega)) _ | (refine below_next ?_ (by assumption))))) ?_
      simp only []
      repeat (go_big_quiet_step (first | (intro _; with_reducible exact rfl) | (intro hC; go_at_call 53; obtain ⟨⟨c0, c1⟩, -⟩ := Box.below SB.out hC; have RB9 := BoxV.below RB.out hC; have d0 := (RB9.2 0 _ rfl).1; have d1 := (RB9.2 1 _ rfl).1; have d2 := (RB9.2 2 _ rfl).1; clear RB9; (refine Calls.mono (HD.out _) ?_); (first | (rintro e wx ⟨rfl, hb⟩; exact ⟨rfl, below_next hC hb⟩) | (rintro e wx ⟨rfl, n, rfl⟩; exact ⟨rfl, Below.dr hC n⟩) | (rintro e wx ⟨rfl, rfl⟩; exact ⟨rfl, hC⟩))) | (intro hC; obtain ⟨⟨c0, c1⟩, -⟩ := Box.below SB.out hC; have RB9 := BoxV.below RB.out hC; have d0 := (RB9.2 0 _ rfl).1; have d1 := (RB9.2 1 _ rfl).1; have d2 := (RB9.2 2 _ rfl).1; clear RB9; go_simp; rfl)))
      refine wpQuiet_nil ?_
      intro wq hq
      have PX := Lib.hid (show OwnR 32 3 wq B (.slice (some ⟨bO, 0, none⟩) k c) k (rfl3 (inL m F D l (i + 1))) from by rw [E9.out]; exact OwnR.below O.out hq)
      have SX := Lib.hid (Box.below SB.out hq)
      have OX := Lib.hid (Out.trans OT.out (Out.mk' (lo := lo) (hi := hi) hq))
      clear O OT SB RB hq
      go_wp2_with fail
      exact ⟨⟨i + 1, by omega, by rw [E9.out, HQ.out], by go_num, by rw [E9.out, HQ.out]; omega, PX.out, SX.out, OX.out⟩, by first | (simp [intOf]; done) | (simp [intOf]; omega) | omega⟩
    have v0 : decide ((q : Int) < m) = true := decide_eq_true h0
    have HH0 := Lib.hid h0
    by_cases h1 : s = 0
    case neg =>
      have v1 : (s == 0) = false := beq_false_of_ne h1
      have E9 := Lib.hid (show inL m F D l (i + 1) = inL m F D l i from by rw [HNX.out, if_neg (fun h9 => h1 h9.1)])
      clear h1
      refine wp_region_quiet (C := fun w' => Below (World.heap (w0)).size (w0) w') (by kernel_rfl) (by kernel_rfl) (by first | exact ⟨rfl, rfl, rfl, Nat.le_refl _, fun _ _ => rfl⟩ | exact Below.dw (by repeat (first | exact Below.refl _ _ | refine Below.al ?_ _ | refine Below.dr ?_ _ | refine Below.dw ?_ | refine Below.st ?_ (by first | exact Nat.le_refl _ | exact Nat.le_add_right _ _ | (simp; omega)) _ | (refine below_next ?_ (by assumption))))) ?_
      simp only []
      repeat (go_big_quiet_step (first | (intro _; with_reducible exact rfl) | (intro hC; go_at_call 53; obtain ⟨⟨c0, c1⟩, -⟩ := Box.below SB.out hC; have RB9 := BoxV.below RB.out hC; have d0 := (RB9.2 0 _ rfl).1; have d1 := (RB9.2 1 _ rfl).1; have d2 := (RB9.2 2 _ rfl).1; clear RB9; (refine Calls.mono (HD.out _) ?_); (first | (rintro e wx ⟨rfl, hb⟩; exact ⟨rfl, below_next hC hb⟩) | (rintro e wx ⟨rfl, n, rfl⟩; exact ⟨rfl, Below.dr hC n⟩) | (rintro e wx ⟨rfl, rfl⟩; exact ⟨rfl, hC⟩))) | (intro hC; obtain ⟨⟨c0, c1⟩, -⟩ := Box.below SB.out hC; have RB9 := BoxV.below RB.out hC; have d0 := (RB9.2 0 _ rfl).1; have d1 := (RB9.2 1 _ rfl).1; have d2 := (RB9.2 2 _ rfl).1; clear RB9; go_simp; rfl)))
      refine wpQuiet_nil ?_
      intro wq hq
      have PX := Lib.hid (show OwnR 32 3 wq B (.slice (some ⟨bO, 0, none⟩) k c) k (rfl3 (inL m F D l (i + 1))) from by rw [E9.out]; exact OwnR.below O.out hq)
      have SX := Lib.hid (Box.below SB.out hq)
      have OX := Lib.hid (Out.trans OT.out (Out.mk' (lo := lo) (hi := hi) hq))
      clear O OT SB RB hq
      go_wp2_with fail
      exact ⟨⟨i + 1, by omega, by rw [E9.out, HQ.out], by go_num, by rw [E9.out, HQ.out]; omega, PX.out, SX.out, OX.out⟩, by first | (simp [intOf]; done) | (simp [intOf]; omega) | omega⟩
    have v1 : (s == 0) = true := by simp [h1]
    have HH1 := Lib.hid h1
    clear h1
    by_cases h2 : x = F
    case neg =>
      have v2 : (x == F) = false := beq_false_of_ne h2
      have E9 := Lib.hid (show inL m F D l (i + 1) = inL m F D l i from by rw [HNX.out, if_neg (fun h9 => h2 h9.2.1)])
      clear h2
      refine wp_region_quiet (C := fun w' => Below (World.heap (w0)).size (w0) w') (by kernel_rfl) (by kernel_rfl) (by first | exact ⟨rfl, rfl, rfl, Nat.le_refl _, fun _ _ => rfl⟩ | exact Below.dw (by repeat (first | exact Below.refl _ _ | refine Below.al ?_ _ | refine Below.dr ?_ _ | refine Below.dw ?_ | refine Below.st ?_ (by first | exact Nat.le_refl _ | exact Nat.le_add_right _ _ | (simp; omega)) _ | (refine below_next ?_ (by assumption))))) ?_
      simp only []
      repeat (go_big_quiet_step (first | (intro _; with_reducible exact rfl) | (intro hC; go_at_call 53; obtain ⟨⟨c0, c1⟩, -⟩ := Box.below SB.out hC; have RB9 := BoxV.below RB.out hC; have d0 := (RB9.2 0 _ rfl).1; have d1 := (RB9.2 1 _ rfl).1; have d2 := (RB9.2 2 _ rfl).1; clear RB9; (refine Calls.mono (HD.out _) ?_); (first | (rintro e wx ⟨rfl, hb⟩; exact ⟨rfl, below_next hC hb⟩) | (rintro e wx ⟨rfl, n, rfl⟩; exact ⟨rfl, Below.dr hC n⟩) | (rintro e wx ⟨rfl, rfl⟩; exact ⟨rfl, hC⟩))) | (intro hC; obtain ⟨⟨c0, c1⟩, -⟩ := Box.below SB.out hC; have RB9 := BoxV.below RB.out hC; have d0 := (RB9.2 0 _ rfl).1; have d1 := (RB9.2 1 _ rfl).1; have d2 := (RB9.2 2 _ rfl).1; clear RB9; go_simp; rfl)))
      refine wpQuiet_nil ?_
      intro wq hq
      have PX := Lib.hid (show OwnR 32 3 wq B (.slice (some ⟨bO, 0, none⟩) k c) k (rfl3 (inL m F D l (i + 1))) from by rw [E9.out]; exact OwnR.below O.out hq)
      have SX := Lib.hid (Box.below SB.out hq)
      have OX := Lib.hid (Out.trans OT.out (Out.mk' (lo := lo) (hi := hi) hq))
      clear O OT SB RB hq
      go_wp2_with fail
      exact ⟨⟨i + 1, by omega, by rw [E9.out, HQ.out], by go_num, by rw [E9.out, HQ.out]; omega, PX.out, SX.out, OX.out⟩, by first | (simp [intOf]; done) | (simp [intOf]; omega) | omega⟩
    have v2 : (x == F) = true := by simp [h2]
    have HH2 := Lib.hid h2
    clear h2
    by_cases h3 : e = D
    case neg =>
      have v3 : (e == D) = false := beq_false_of_ne h3
      have E9 := Lib.hid (show inL m F D l (i + 1) = inL m F D l i from by rw [HNX.out, if_neg (fun h9 => h3 h9.2.2.1)])
      clear h3
      refine wp_region_quiet (C := fun w' => Below (World.heap (w0)).size (w0) w') (by kernel_rfl) (by kernel_rfl) (by first | exact ⟨rfl, rfl, rfl, Nat.le_refl _, fun _ _ => rfl⟩ | exact Below.dw (by repeat (first | exact Below.refl _ _ | refine Below.al ?_ _ | refine Below.dr ?_ _ | refine Below.dw ?_ | refine Below.st ?_ (by first | exact Nat.le_refl _ | exact Nat.le_add_right _ _ | (simp; omega)) _ | (refine below_next ?_ (by assumption))))) ?_
      simp only []
      repeat (go_big_quiet_step (first | (intro _; with_reducible exact rfl) | (intro hC; go_at_call 53; obtain ⟨⟨c0, c1⟩, -⟩ := Box.below SB.out hC; have RB9 := BoxV.below RB.out hC; have d0 := (RB9.2 0 _ rfl).1; have d1 := (RB9.2 1 _ rfl).1; have d2 := (RB9.2 2 _ rfl).1; clear RB9; (refine Calls.mono (HD.out _) ?_); (first | (rintro e wx ⟨rfl, hb⟩; exact ⟨rfl, below_next hC hb⟩) | (rintro e wx ⟨rfl, n, rfl⟩; exact ⟨rfl, Below.dr hC n⟩) | (rintro e wx ⟨rfl, rfl⟩; exact ⟨rfl, hC⟩))) | (intro hC; obtain ⟨⟨c0, c1⟩, -⟩ := Box.below SB.out hC; have RB9 := BoxV.below RB.out hC; have d0 := (RB9.2 0 _ rfl).1; have d1 := (RB9.2 1 _ rfl).1; have d2 := (RB9.2 2 _ rfl).1; clear RB9; go_simp; rfl)))
      refine wpQuiet_nil ?_
      intro wq hq
      have PX := Lib.hid (show OwnR 32 3 wq B (.slice (some ⟨bO, 0, none⟩) k c) k (rfl3 (inL m F D l (i + 1))) from by rw [E9.out]; exact OwnR.below O.out hq)
      have SX := Lib.hid (Box.below SB.out hq)
      have OX := Lib.hid (Out.trans OT.out (Out.mk' (lo := lo) (hi := hi) hq))
      clear O OT SB RB hq
      go_wp2_with fail
      exact ⟨⟨i + 1, by omega, by rw [E9.out, HQ.out], by go_num, by rw [E9.out, HQ.out]; omega, PX.out, SX.out, OX.out⟩, by first | (simp [intOf]; done) | (simp [intOf]; omega) | omega⟩
    have v3 : (e == D) = true := by simp [h3]
    have HH3 := Lib.hid h3
    clear h3
    have E9 := Lib.hid (show inL m F D l (i + 1) = (inL m F D l i).set i ⟨x, y, 1⟩ from by rw [HNX.out, if_pos ⟨HH1.out, HH2.out, HH3.out, HH0.out⟩])
    have HQ2 := Lib.hid (show ins (inL m F D l (i + 1)) = q + 1 from by rw [HINS.out, if_pos ⟨HH1.out, HH2.out, HH3.out, HH0.out⟩, HQ.out])
    refine wp_region_quiet (C := fun w' => Below (World.heap (w0)).size (w0) w') (by kernel_rfl) (by kernel_rfl) (by first | exact ⟨rfl, rfl, rfl, Nat.le_refl _, fun _ _ => rfl⟩ | exact Below.dw (by repeat (first | exact Below.refl _ _ | refine Below.al ?_ _ | refine Below.dr ?_ _ | refine Below.dw ?_ | refine Below.st ?_ (by first | exact Nat.le_refl _ | exact Nat.le_add_right _ _ | (simp; omega)) _ | (refine below_next ?_ (by assumption))))) ?_
    simp only []
    repeat (go_big_quiet_step (first | (intro _; with_reducible exact rfl) | (intro hC; go_at_call 53; obtain ⟨⟨c0, c1⟩, -⟩ := Box.below SB.out hC; have RB9 := BoxV.below RB.out hC; have d0 := (RB9.2 0 _ rfl).1; have d1 := (RB9.2 1 _ rfl).1; have d2 := (RB9.2 2 _ rfl).1; clear RB9; (refine Calls.mono (HD.out _) ?_); (first | (rintro e wx ⟨rfl, hb⟩; exact ⟨rfl, below_next hC hb⟩) | (rintro e wx ⟨rfl, n, rfl⟩; exact ⟨rfl, Below.dr hC n⟩) | (rintro e wx ⟨rfl, rfl⟩; exact ⟨rfl, hC⟩))) | (intro hC; obtain ⟨⟨c0, c1⟩, -⟩ := Box.below SB.out hC; have RB9 := BoxV.below RB.out hC; have d0 := (RB9.2 0 _ rfl).1; have d1 := (RB9.2 1 _ rfl).1; have d2 := (RB9.2 2 _ rfl).1; clear RB9; go_simp; rfl)))
    refine wpQuiet_nil ?_
    intro wq hq
    have OX := Lib.hid (OwnR.below O.out hq)
    have SX := Lib.hid (Box.below SB.out hq)
    have TX := Lib.hid (Out.trans OT.out (Out.mk' (lo := lo) (hi := hi) hq))
    clear O OT SB RB hq
    obtain ⟨y0, y1, y2⟩ := Rid.three (OwnR.rid OX.out) hlt
    simp only [Nat.zero_add] at y0 y1 y2
    obtain ⟨a', c', e', -, hop⟩ := OwnR.open OX.out
    simp only [Value.slice.injEq, true_and] at e'
    obtain ⟨rfl, rfl⟩ := e'
    have fz := (hop bO 0 none rfl).2.2.1 (i * 3 + 2)
    clear hop y0 y1
    have ho := Out.set (w := wq) (q := bO) (i := i * 3 + 2) (lo := lo) (hi := hi) (.int .i64 1) hSb.1 hSb.2
    have OT1 := Lib.hid (Out.trans TX.out ho)
    have SB1 := Lib.hid (Box.out SX.out ho (.inr hgw))
    have O1 := Lib.hid (show OwnR 32 3 (wq.setCell ⟨bO, i * 3 + 2, none⟩ (.int .i64 1)) B (.slice (some ⟨bO, 0, none⟩) k c) k (rfl3 (inL m F D l (i + 1))) from by
      have e := OwnR.state (i := i) OX.out HLA.out 1
      rw [HRA.out] at e
      rw [E9.out]
      exact e)
    clear OX SX TX ho
    go_wp2_with fail
    exact ⟨⟨i + 1, by omega, by rw [HQ2.out]; go_num, by go_num, by rw [HQ2.out]; omega, O1.out, SB1.out, OT1.out⟩, by first | (simp [intOf]; done) | (simp [intOf]; omega) | omega⟩
end Go.Proofs.Ytfhhgddajmihjaa

namespace Go.Proofs.Ytfhhgddajmihjaa
open Go.RowKit
set_option linter.unusedVariables false
set_option linter.unusedSimpArgs false
set_option maxRecDepth 100000

set_option maxHeartbeats 2000000 in
theorem iTripStep_f (n m f d : Int) (a : Option Addr) (k c : Nat) (l : List Ri) (w : World) (hX : Rid w a k l) (hk : k ≤ 1048577) (h : ¬ TOk ⟨n, m, f, d, l⟩) :
    Calls Try.prog 25 #[.agg #[.int .i64 n, .int .i64 m, .int .i64 f, .int .i64 d, .slice a k c]] w (NewT w ⟨0, 0, 0, 0, []⟩ (fun v => .tuple #[v, .bool false])) := by
  have X0 := Lib.hid hX
  have KV := fun w' (g : Rid w' a k l) => iTripValid_c n m f d a k c l w' g hk
  rw [tokB_f h] at KV
  have HV := Lib.hid KV
  clear hX h KV
  refine at_base fun wn hwn => ?_
  have T := Lib.hid (show Below w.heap.size w wn from by rw [hwn]; exact Below.refl _ _)
  clear hwn
  obtain ⟨g, hg⟩ : ∃ g, Array.size (World.heap wn) = g := ⟨_, rfl⟩
  have HGg := Lib.hid hg
  have hTg : w.heap.size ≤ g := by rw [← hg]; exact T.out.size
  have Tn := Lib.hid (show Below w.heap.size w ((wn.alloc (.cells #[.int .i64 n, .int .i64 m, .int .i64 f, .int .i64 d, .slice a k c] 27)).alloc (.cells #[.int .i64 0, .int .i64 0, .int .i64 0, .int .i64 0, .slice none 0 0] 27)) from (Below.al (Below.al T.out (.cells #[.int .i64 n, .int .i64 m, .int .i64 f, .int .i64 d, .slice a k c] 27)) (.cells #[.int .i64 0, .int .i64 0, .int .i64 0, .int .i64 0, .slice none 0 0] 27)))
  have TB := Lib.hid (show BoxV ((wn.alloc (.cells #[.int .i64 n, .int .i64 m, .int .i64 f, .int .i64 d, .slice a k c] 27)).alloc (.cells #[.int .i64 0, .int .i64 0, .int .i64 0, .int .i64 0, .slice none 0 0] 27)) g [.int .i64 n, .int .i64 m, .int .i64 f, .int .i64 d, .slice a k c] from by have h9 := (BoxV.al (BoxV.new wn [.int .i64 n, .int .i64 m, .int .i64 f, .int .i64 d, .slice a k c] 27 (by simp) rfl) (.cells #[.int .i64 0, .int .i64 0, .int .i64 0, .int .i64 0, .slice none 0 0] 27)); simp only [World.size_alloc, hg, Nat.add_assoc, Nat.reduceAdd] at h9; exact h9)
  have RR := Lib.hid (show BoxV ((wn.alloc (.cells #[.int .i64 n, .int .i64 m, .int .i64 f, .int .i64 d, .slice a k c] 27)).alloc (.cells #[.int .i64 0, .int .i64 0, .int .i64 0, .int .i64 0, .slice none 0 0] 27)) (g + 1) [.int .i64 0, .int .i64 0, .int .i64 0, .int .i64 0, .slice none 0 0] from by have h9 := (BoxV.new (wn.alloc (.cells #[.int .i64 n, .int .i64 m, .int .i64 f, .int .i64 d, .slice a k c] 27)) [.int .i64 0, .int .i64 0, .int .i64 0, .int .i64 0, .slice none 0 0] 27 (by simp) rfl); simp only [World.size_alloc, hg, Nat.add_assoc, Nat.reduceAdd] at h9; exact h9)
  have HZg := Lib.hid (show (((wn.alloc (.cells #[.int .i64 n, .int .i64 m, .int .i64 f, .int .i64 d, .slice a k c] 27)).alloc (.cells #[.int .i64 0, .int .i64 0, .int .i64 0, .int .i64 0, .slice none 0 0] 27))).heap.size = g + 2 from by simp only [World.size_alloc, hg, Nat.add_assoc, Nat.reduceAdd])
  clear hg
  clear T
  have T := Tn
  clear Tn
  go_enter Try.func25, Try.ntmps25
  have c0 := (TB.out.2 0 _ rfl).1
  have c1 := (TB.out.2 1 _ rfl).1
  have c2 := (TB.out.2 2 _ rfl).1
  have c3 := (TB.out.2 3 _ rfl).1
  have c4 := (TB.out.2 4 _ rfl).1
  go_wp2_with fail
  rw [HGg.out]
  refine Calls.mono (HV.out _ (Rid.below X0.out T.out)) ?_
  intro e wn hh
  obtain ⟨he, hb⟩ := (by first | exact hh | exact Ro.mk hh | exact St.mk hh | exact LawOk.mk' hh : Mk _ _ e wn)
  subst he
  have Tn : Hid (Below w.heap.size w wn) := below_next T.out hb
  have TBn : Hid _ := BoxV.below TB.out hb
  have RRn : Hid _ := BoxV.below RR.out hb
  clear hb hh c0 c1 c2 c3 c4
  clear T TB RR
  have T := Tn
  have TB := TBn
  have RR := RRn
  clear Tn TBn RRn
  have c0 := (RR.out.2 0 _ rfl).1
  have cf0 := (RR.out.2 0 _ rfl).2
  have c1 := (RR.out.2 1 _ rfl).1
  have cf1 := (RR.out.2 1 _ rfl).2
  have c2 := (RR.out.2 2 _ rfl).1
  have cf2 := (RR.out.2 2 _ rfl).2
  have c3 := (RR.out.2 3 _ rfl).1
  have cf3 := (RR.out.2 3 _ rfl).2
  have c4 := (RR.out.2 4 _ rfl).1
  have cf4 := (RR.out.2 4 _ rfl).2
  go_wp2_with fail
  have N := newT_end (n := 0) (m := 0) (f := 0) (d := 0) (l := []) (r := g + 1) (w := wn) (v := .slice none 0 0) (OwnR.nil wn w.heap.size) (Nat.le_refl _) T.out (by omega) (fun q e => by cases e) (fun v => .tuple #[v, .bool false])
  unfold set5 at N
  exact bodyPost_ret (v := .tuple #[.agg #[.int .i64 0, .int .i64 0, .int .i64 0, .int .i64 0, .slice none 0 0], .bool false]) (by simp [results, Try.results25, go_sem, c0, c1, c2, c3, c4]) rfl N
set_option maxRecDepth 100000 in
set_option maxHeartbeats 8000000 in
theorem iTripStep_n (n m f d : Int) (a : Option Addr) (k c : Nat) (l : List Ri) (w : World) (hX : Rid w a k l) (hk : k ≤ 1048577) (h : TOk ⟨n, m, f, d, l⟩) (hr : tnx ⟨n, m, f, d, l⟩ = none) :
    Calls Try.prog 25 #[.agg #[.int .i64 n, .int .i64 m, .int .i64 f, .int .i64 d, .slice a k c]] w (NewT w ⟨n, m, f, d, l⟩ (fun v => .tuple #[v, .bool false])) := by
  have HL := Lib.hid hX.2
  have X0 := Lib.hid hX
  have KV := fun w' (g : Rid w' a k l) => iTripValid_c n m f d a k c l w' g hk
  rw [tokB_t h] at KV
  have HV := Lib.hid KV
  have KC := fun w' (g : Rid w' a k l) => iTripCalls_c n m f d a k c l w' g hk
  rw [tclT_t h] at KC
  have KN := fun (w' : World) (p1 p2 p3 : Option Addr) (m1 m2 m3 i1 i2 i3 : Nat) (g : Cal w' p1 m1 p2 m2 p3 m3 (tcl ⟨n, m, f, d, l⟩)) => iNextStop_c p1 m1 i1 p2 m2 i2 p3 m3 i3 (tcl ⟨n, m, f, d, l⟩) f d w' g
  have hns := nsv_tnx h
  simp only at hns
  rw [hns, hr] at KN
  obtain ⟨x0, hx0⟩ : ∃ x0, tcl ⟨n, m, f, d, l⟩ = x0 := ⟨_, rfl⟩
  rw [hx0] at KC KN
  have HKC := Lib.hid KC
  have HKN := Lib.hid (show ∀ (w' : World) (p1 p2 p3 : Option Addr) (m1 m2 m3 i1 i2 i3 : Nat) (g : Cal w' p1 m1 p2 m2 p3 m3 x0), Calls Try.prog 60 #[.agg #[.slice p1 m1 i1, .slice p2 m2 i2, .slice p3 m3 i3], .agg #[.int .i64 f, .int .i64 d]] w' (Mk w' (.agg #[.int .i64 (-1), .int .i64 (0)])) from KN)
  clear hX h KV KC KN hns hx0 hr
  refine at_base fun wn hwn => ?_
  have T := Lib.hid (show Below w.heap.size w wn from by rw [hwn]; exact Below.refl _ _)
  clear hwn
  obtain ⟨g, hg⟩ : ∃ g, Array.size (World.heap wn) = g := ⟨_, rfl⟩
  have HGg := Lib.hid hg
  have hTg : w.heap.size ≤ g := by rw [← hg]; exact T.out.size
  have Tn := Lib.hid (show Below w.heap.size w ((wn.alloc (.cells #[.int .i64 n, .int .i64 m, .int .i64 f, .int .i64 d, .slice a k c] 27)).alloc (.cells #[.int .i64 0, .int .i64 0, .int .i64 0, .int .i64 0, .slice none 0 0] 27)) from (Below.al (Below.al T.out (.cells #[.int .i64 n, .int .i64 m, .int .i64 f, .int .i64 d, .slice a k c] 27)) (.cells #[.int .i64 0, .int .i64 0, .int .i64 0, .int .i64 0, .slice none 0 0] 27)))
  have TB := Lib.hid (show BoxV ((wn.alloc (.cells #[.int .i64 n, .int .i64 m, .int .i64 f, .int .i64 d, .slice a k c] 27)).alloc (.cells #[.int .i64 0, .int .i64 0, .int .i64 0, .int .i64 0, .slice none 0 0] 27)) g [.int .i64 n, .int .i64 m, .int .i64 f, .int .i64 d, .slice a k c] from by have h9 := (BoxV.al (BoxV.new wn [.int .i64 n, .int .i64 m, .int .i64 f, .int .i64 d, .slice a k c] 27 (by simp) rfl) (.cells #[.int .i64 0, .int .i64 0, .int .i64 0, .int .i64 0, .slice none 0 0] 27)); simp only [World.size_alloc, hg, Nat.add_assoc, Nat.reduceAdd] at h9; exact h9)
  have RR := Lib.hid (show BoxV ((wn.alloc (.cells #[.int .i64 n, .int .i64 m, .int .i64 f, .int .i64 d, .slice a k c] 27)).alloc (.cells #[.int .i64 0, .int .i64 0, .int .i64 0, .int .i64 0, .slice none 0 0] 27)) (g + 1) [.int .i64 0, .int .i64 0, .int .i64 0, .int .i64 0, .slice none 0 0] from by have h9 := (BoxV.new (wn.alloc (.cells #[.int .i64 n, .int .i64 m, .int .i64 f, .int .i64 d, .slice a k c] 27)) [.int .i64 0, .int .i64 0, .int .i64 0, .int .i64 0, .slice none 0 0] 27 (by simp) rfl); simp only [World.size_alloc, hg, Nat.add_assoc, Nat.reduceAdd] at h9; exact h9)
  have HZg := Lib.hid (show (((wn.alloc (.cells #[.int .i64 n, .int .i64 m, .int .i64 f, .int .i64 d, .slice a k c] 27)).alloc (.cells #[.int .i64 0, .int .i64 0, .int .i64 0, .int .i64 0, .slice none 0 0] 27))).heap.size = g + 2 from by simp only [World.size_alloc, hg, Nat.add_assoc, Nat.reduceAdd])
  clear hg
  clear T
  have T := Tn
  clear Tn
  go_enter Try.func25, Try.ntmps25
  have c0 := (TB.out.2 0 _ rfl).1
  have c1 := (TB.out.2 1 _ rfl).1
  have c2 := (TB.out.2 2 _ rfl).1
  have c3 := (TB.out.2 3 _ rfl).1
  have c4 := (TB.out.2 4 _ rfl).1
  go_wp2_with fail
  rw [HGg.out]
  refine Calls.mono (HV.out _ (Rid.below X0.out T.out)) ?_
  intro e wn hh
  obtain ⟨he, hb⟩ := (by first | exact hh | exact Ro.mk hh | exact St.mk hh | exact LawOk.mk' hh : Mk _ _ e wn)
  subst he
  have Tn : Hid (Below w.heap.size w wn) := below_next T.out hb
  have TBn : Hid _ := BoxV.below TB.out hb
  have RRn : Hid _ := BoxV.below RR.out hb
  clear hb hh c0 c1 c2 c3 c4
  clear T TB RR
  have T := Tn
  have TB := TBn
  have RR := RRn
  clear Tn TBn RRn
  clear HV
  go_upto_region 3 with fail
  obtain ⟨B0, hB0⟩ : ∃ B0, wn.heap.size = B0 := ⟨_, rfl⟩
  have HB0 := Lib.hid hB0
  have hTB : w.heap.size ≤ B0 := by rw [← hB0]; exact T.out.size
  have hgB0 : g + 1 < B0 := by rw [← hB0]; exact BoxV.lt RR.out
  clear hB0
  refine wp_region_late 6 [9, 10, 11, 12, 13, 4] [(1, tV (.pointer (some ⟨g, 0, none⟩)))]
    [(9, tV (.agg #[.int .i64 n, .int .i64 m, .int .i64 f, .int .i64 d, .slice a k c])), (10, tF x0), (11, tV (.pointer (some ⟨g, 2, none⟩))), (12, tV (.agg #[.int .i64 f, .int .i64 d])), (13, tV (.agg #[.int .i64 (-1), .int .i64 (0)])), (4, tN2 B0)]
    _ (by kernel_rfl) (by kernel_rfl) (by kernel_rfl) (by kernel_rfl) (by kernel_rfl) (by rfl) (by kernel_rfl) (by kernel_rfl) (by kernel_rfl) (by kernel_rfl) ⟨StW.g (StW.V _), StW.g (StW.V _), StGrow.F _, StW.g (StW.V _), StW.g (StW.V _), StW.g (StW.V _), StGrow.N2 _, trivial⟩ ⟨rfl, trivial⟩ ?hob ?_
  case hob =>
    refine ⟨?_, ?_, ?_, ?_, ?_, ?_, trivial⟩
    · intro w1 vs hC hL
      have u1 := hL 1 (List.mem_of_elem_eq_true (by kernel_rfl))
      replace u1 : vs 1 = .pointer (some ⟨g, 0, none⟩) := u1
      have TB9 := BoxV.below TB.out hC
      have c0 := (TB9.2 0 _ rfl).1
      have c1 := (TB9.2 1 _ rfl).1
      have c2 := (TB9.2 2 _ rfl).1
      have c3 := (TB9.2 3 _ rfl).1
      have c4 := (TB9.2 4 _ rfl).1
      clear TB9
      go_simp
      simp only [evOf_tmp, u1]
      go_simp
      exact oa_pure hC (show tV _ _ w1 from rfl)
    · intro w1 vs hC hL
      have u9 := hL 9 (List.mem_of_elem_eq_true (by kernel_rfl))
      replace u9 : vs 9 = .agg #[.int .i64 n, .int .i64 m, .int .i64 f, .int .i64 d, .slice a k c] := u9
      go_simp
      simp only [evOf_tmp, u9]
      exact oa_call hC (Calls.mono (HKC.out _ (Rid.below X0.out (below_next T.out hC))) (fun e w2 hh => (by obtain ⟨v1, v2, v3, lo, hi, rfl, hO, hb2, -, -⟩ := NewC.get hh; obtain ⟨q1, j1, q2, j2, q3, j3, rfl, rfl, rfl, hCC⟩ := OwnC.open hO; exact ⟨_, rfl, (show Fre _ _ w2 from ⟨q1, j1, q2, j2, q3, j3, rfl, hCC⟩), hb2⟩)))
    · intro w1 vs hC hL
      have u1 := hL 1 (List.mem_of_elem_eq_true (by kernel_rfl))
      replace u1 : vs 1 = .pointer (some ⟨g, 0, none⟩) := u1
      go_simp
      simp only [evOf_tmp, u1]
      go_simp
      exact oa_pure hC (show tV _ _ w1 from rfl)
    · intro w1 vs hC hL
      have u11 := hL 11 (List.mem_of_elem_eq_true (by kernel_rfl))
      replace u11 : vs 11 = .pointer (some ⟨g, 2, none⟩) := u11
      have TB9 := BoxV.below TB.out hC
      have c0 := (TB9.2 0 _ rfl).1
      have c1 := (TB9.2 1 _ rfl).1
      have c2 := (TB9.2 2 _ rfl).1
      have c3 := (TB9.2 3 _ rfl).1
      have c4 := (TB9.2 4 _ rfl).1
      clear TB9
      go_simp
      simp only [evOf_tmp, u11]
      go_simp
      exact oa_pure hC (show tV _ _ w1 from rfl)
    · intro w1 vs hC hL
      have u10 := hL 10 (List.mem_of_elem_eq_true (by kernel_rfl))
      replace u10 : Fre (vs 10) x0 w1 := u10
      obtain ⟨p101, i101, p102, i102, p103, i103, u10, hF10⟩ := u10
      have u12 := hL 12 (List.mem_of_elem_eq_true (by kernel_rfl))
      replace u12 : vs 12 = .agg #[.int .i64 f, .int .i64 d] := u12
      go_simp
      simp only [evOf_tmp, u10, u12]
      exact oa_call hC (Calls.mono (HKN.out _ _ _ _ _ _ _ _ _ _ hF10) (fun e w2 hh => (by obtain ⟨he, hb⟩ := (by first | exact hh | exact Ro.mk hh | exact St.mk hh : Mk _ _ e w2); exact ⟨_, he, (show tV _ _ w2 from rfl), hb⟩)))
    · intro w1 vs hC hL
      go_simp
      exact oa_alloc hC (show tN2 _ _ (World.alloc w1 (.cells #[.int .i64 0, .int .i64 0] 24)) from ⟨w1.heap.size, rfl, by rw [← HB0.out]; exact hC.size, Box.new _ _ _ _⟩)
  intro vs wq hq hT
  have t1 : vs 13 = .agg #[.int .i64 (-1), .int .i64 (0)] := hT 13 rfl
  have t2 : tN2 B0 (vs 4) wq := hT 4 rfl
  obtain ⟨HN, t3, hHB, hbox⟩ := t2
  simp (decide := true) only [over, Nat.reduceAdd, if_true, if_false]
  rw [t1, t3]
  have NB := Lib.hid hbox
  clear hT t1 t3 hbox
  have Tn := Lib.hid (below_next T.out hq)
  have TBn := Lib.hid (BoxV.below TB.out hq)
  have RRn := Lib.hid (BoxV.below RR.out hq)
  clear hq
  clear T TB RR
  have T := Tn
  have TB := TBn
  have RR := RRn
  clear Tn TBn RRn
  obtain ⟨wn, hwq⟩ : ∃ w0, w0 = wq := ⟨_, rfl⟩
  subst hwq
  have ho := Out.trans (Out.set (w := wn) (q := HN) (i := 0) (lo := HN) (hi := HN + 1) (.int .i64 (-1)) (Nat.le_refl _) (by omega)) (Out.set (w := wn.setCell ⟨HN, 0, none⟩ (.int .i64 (-1))) (q := HN) (i := 1) (lo := HN) (hi := HN + 1) (.int .i64 (0)) (Nat.le_refl _) (by omega))
  have T2 := Lib.hid (Out.below T.out ho (by omega))
  have RR2 := Lib.hid (BoxV.out RR.out ho (.inl (by omega)))
  have TB2 := Lib.hid (BoxV.out TB.out ho (.inl (by omega)))
  have NB2 := Lib.hid (Box.pset1 (0) (Box.pset0 (-1) NB.out))
  obtain ⟨⟨x0', x1'⟩, xf0, xf1⟩ := NB.out
  go_upto_region 4 with fail
  clear ho x0' x1' xf0 xf1 T RR NB TB
  have T := T2
  have RR := RR2
  have TB := TB2
  have NB := NB2
  clear T2 RR2 TB2 NB2 HKC HKN HB0
  generalize (wn.setCell ⟨HN, 0, none⟩ (.int .i64 (-1))).setCell ⟨HN, 1, none⟩ (.int .i64 (0)) = w0 at *
  obtain ⟨wn, hwq⟩ : ∃ w9 : World, w9 = w0 := ⟨_, rfl⟩
  subst hwq
  obtain ⟨S, hS⟩ : ∃ S, wn.heap.size = S := ⟨_, rfl⟩
  have hNS : HN < S := by rw [← hS]; exact Box.lt NB.out
  have hwS : w.heap.size ≤ S := by rw [← hS]; exact T.out.size
  have HS := Lib.hid hS
  clear hS
  have c0 := (TB.out.2 0 _ rfl).1
  have c1 := (TB.out.2 1 _ rfl).1
  have c2 := (TB.out.2 2 _ rfl).1
  have c3 := (TB.out.2 3 _ rfl).1
  have c4 := (TB.out.2 4 _ rfl).1
  go_wp2_with fail
  refine Calls.mono (cloneR_c a k c l _ (Rid.below X0.out T.out) hk) ?_
  intro e wq hh
  obtain ⟨v2, he, hO2, hb⟩ := hh
  subst he
  rw [HS.out] at hO2
  obtain ⟨av, cv, hv, -, -⟩ := OwnR.open hO2
  subst hv
  have O := Lib.hid hO2
  clear hO2 c0 c1 c2 c3 c4
  have Tn := Lib.hid (below_next T.out hb)
  have TBn := Lib.hid (BoxV.below TB.out hb)
  have RRn := Lib.hid (BoxV.below RR.out hb)
  have NBn := Lib.hid (Box.below NB.out hb)
  clear hb
  clear T TB RR NB
  have T := Tn
  have TB := TBn
  have RR := RRn
  have NB := NBn
  clear Tn TBn RRn NBn
  obtain ⟨wn, hwq⟩ : ∃ w0, w0 = wq := ⟨_, rfl⟩
  subst hwq
  have ho := Out.set (w := wn) (q := g) (i := 4) (lo := g) (hi := g + 1) (.slice av k cv) (Nat.le_refl _) (by omega)
  have T2 := Lib.hid (Out.below T.out ho (by omega))
  have TB2 := Lib.hid (show BoxV _ g [.int .i64 n, .int .i64 m, .int .i64 f, .int .i64 d, .slice av k cv] from BoxV.set TB.out 4 (.slice av k cv) (by simp))
  have RR2 := Lib.hid (BoxV.out RR.out ho (.inr (by omega)))
  have NB2 := Lib.hid (Box.out NB.out ho (.inr (by omega)))
  have O2 := Lib.hid (OwnR.block O.out (fun q hq => ho.block q (OwnR.lt O.out q hq).2 (.inr (by have := (OwnR.lt O.out q hq).1; omega))))
  have b4 := TB.out.2 4 _ rfl
  obtain ⟨b40, b41⟩ := b4
  go_upto_region 5 with fail
  clear b40 b41 T TB RR NB O ho HS
  have T := T2
  have RR := RR2
  have TB := TB2
  have NB := NB2
  have O := O2
  clear T2 RR2 TB2 NB2 O2
  generalize wn.setCell ⟨g, 4, none⟩ (.slice av k cv) = w0 at *
  obtain ⟨wn, hwq⟩ : ∃ w9 : World, w9 = w0 := ⟨_, rfl⟩
  subst hwq
  obtain ⟨⟨e0, e1⟩, ef0, ef1⟩ := NB.out
  go_upto_region 6 with fail
  clear e0 e1 ef0 ef1
  have d0 := (TB.out.2 0 _ rfl).1
  have d1 := (TB.out.2 1 _ rfl).1
  have d2 := (TB.out.2 2 _ rfl).1
  have d3 := (TB.out.2 3 _ rfl).1
  have d4 := (TB.out.2 4 _ rfl).1
  have e0 := (RR.out.2 0 _ rfl).1
  have ef0 := (RR.out.2 0 _ rfl).2
  have e1 := (RR.out.2 1 _ rfl).1
  have ef1 := (RR.out.2 1 _ rfl).2
  have e2 := (RR.out.2 2 _ rfl).1
  have ef2 := (RR.out.2 2 _ rfl).2
  have e3 := (RR.out.2 3 _ rfl).1
  have ef3 := (RR.out.2 3 _ rfl).2
  have e4 := (RR.out.2 4 _ rfl).1
  have ef4 := (RR.out.2 4 _ rfl).2
  have N := newT_end (n := n) (m := m) (f := f) (d := d) (l := l) (r := g + 1) (w := wn) (v := .slice av k cv) (B := S) (by rw [show List.length (l) = k from HL.out]; exact O.out) (by omega) T.out (by omega) (fun q hq => by have := (OwnR.lt O.out q hq).1; omega) (fun v => .tuple #[v, .bool false])
  unfold set5 at N
  have ef0 := (RR.out.2 0 _ rfl).2
  have ef1 := (RR.out.2 1 _ rfl).2
  have ef2 := (RR.out.2 2 _ rfl).2
  have ef3 := (RR.out.2 3 _ rfl).2
  have ef4 := (RR.out.2 4 _ rfl).2
  have N2 := Lib.hid N
  clear N RR TB NB O T
  go_wp2_with fail
  clear d0 d1 d2 d3 d4
  have c0 := e0
  have c1 := e1
  have c2 := e2
  have c3 := e3
  have c4 := e4
  exact bodyPost_ret (v := .tuple #[.agg #[.int .i64 n, .int .i64 m, .int .i64 (f), .int .i64 (d), .slice av k cv], .bool false]) (by simp [results, Try.results25, go_sem, c0, c1, c2, c3, c4]) rfl N2.out
set_option maxRecDepth 100000 in
set_option maxHeartbeats 8000000 in
theorem iTripStep_t (n m f d : Int) (a : Option Addr) (k c : Nat) (l : List Ri) (kk : Nat) (u : Bool) (w : World) (hX : Rid w a k l) (hk : k ≤ 1048577) (h : TOk ⟨n, m, f, d, l⟩) (hr : tnx ⟨n, m, f, d, l⟩ = some (kk, u)) :
    Calls Try.prog 25 #[.agg #[.int .i64 n, .int .i64 m, .int .i64 f, .int .i64 d, .slice a k c]] w (NewT w (stp ⟨n, m, f, d, l⟩ (kk, u)) (fun v => .tuple #[v, .bool true])) := by
  have HL := Lib.hid hX.2
  have X0 := Lib.hid hX
  have KV := fun w' (g : Rid w' a k l) => iTripValid_c n m f d a k c l w' g hk
  rw [tokB_t h] at KV
  have HV := Lib.hid KV
  have KC := fun w' (g : Rid w' a k l) => iTripCalls_c n m f d a k c l w' g hk
  rw [tclT_t h] at KC
  have KN := fun (w' : World) (p1 p2 p3 : Option Addr) (m1 m2 m3 i1 i2 i3 : Nat) (g : Cal w' p1 m1 p2 m2 p3 m3 (tcl ⟨n, m, f, d, l⟩)) => iNextStop_c p1 m1 i1 p2 m2 i2 p3 m3 i3 (tcl ⟨n, m, f, d, l⟩) f d w' g
  have hns := nsv_tnx h
  simp only at hns
  rw [hns, hr] at KN
  obtain ⟨x0, hx0⟩ : ∃ x0, tcl ⟨n, m, f, d, l⟩ = x0 := ⟨_, rfl⟩
  rw [hx0] at KC KN
  have HKC := Lib.hid KC
  obtain ⟨F, hF⟩ : ∃ F : Int, (kk : Int) = F := ⟨_, rfl⟩
  obtain ⟨D, hD⟩ : ∃ D, dI u = D := ⟨_, rfl⟩
  have hF0 : ¬ F < 0 := by omega
  have HE := Lib.hid (show stp ⟨n, m, f, d, l⟩ (kk, u) = ⟨n, m, F, D, goR m F D l⟩ from by rw [← hF, ← hD]; rfl)
  have HNE := Lib.hid (show ∀ r, r ∈ l.map (gout F) → r.a ≠ r.b from fun r hr => by
    obtain ⟨q, hq, rfl⟩ := List.mem_map.1 hr
    have h7 := (h.2.2.2.2.2.1 q hq).2.2.1
    unfold gout
    split <;> exact h7)
  have HM := Lib.hid (show (ins (l.map (gout F)) : Int) ≤ m from by have h7 := gout_ins F l; have h6 : (ins l : Int) ≤ m := h.2.2.2.2.2.2; omega)
  have HM8 := Lib.hid h.2.1.2
  have HKN := Lib.hid (show ∀ (w' : World) (p1 p2 p3 : Option Addr) (m1 m2 m3 i1 i2 i3 : Nat) (g : Cal w' p1 m1 p2 m2 p3 m3 x0), Calls Try.prog 60 #[.agg #[.slice p1 m1 i1, .slice p2 m2 i2, .slice p3 m3 i3], .agg #[.int .i64 f, .int .i64 d]] w' (Mk w' (.agg #[.int .i64 (F), .int .i64 (D)])) from by rw [← hF, ← hD]; exact KN)
  clear hF hD
  rw [HE.out]
  clear hX h KV KC KN hns hx0 hr
  refine at_base fun wn hwn => ?_
  have T := Lib.hid (show Below w.heap.size w wn from by rw [hwn]; exact Below.refl _ _)
  clear hwn
  obtain ⟨g, hg⟩ : ∃ g, Array.size (World.heap wn) = g := ⟨_, rfl⟩
  have HGg := Lib.hid hg
  have hTg : w.heap.size ≤ g := by rw [← hg]; exact T.out.size
  have Tn := Lib.hid (show Below w.heap.size w ((wn.alloc (.cells #[.int .i64 n, .int .i64 m, .int .i64 f, .int .i64 d, .slice a k c] 27)).alloc (.cells #[.int .i64 0, .int .i64 0, .int .i64 0, .int .i64 0, .slice none 0 0] 27)) from (Below.al (Below.al T.out (.cells #[.int .i64 n, .int .i64 m, .int .i64 f, .int .i64 d, .slice a k c] 27)) (.cells #[.int .i64 0, .int .i64 0, .int .i64 0, .int .i64 0, .slice none 0 0] 27)))
  have TB := Lib.hid (show BoxV ((wn.alloc (.cells #[.int .i64 n, .int .i64 m, .int .i64 f, .int .i64 d, .slice a k c] 27)).alloc (.cells #[.int .i64 0, .int .i64 0, .int .i64 0, .int .i64 0, .slice none 0 0] 27)) g [.int .i64 n, .int .i64 m, .int .i64 f, .int .i64 d, .slice a k c] from by have h9 := (BoxV.al (BoxV.new wn [.int .i64 n, .int .i64 m, .int .i64 f, .int .i64 d, .slice a k c] 27 (by simp) rfl) (.cells #[.int .i64 0, .int .i64 0, .int .i64 0, .int .i64 0, .slice none 0 0] 27)); simp only [World.size_alloc, hg, Nat.add_assoc, Nat.reduceAdd] at h9; exact h9)
  have RR := Lib.hid (show BoxV ((wn.alloc (.cells #[.int .i64 n, .int .i64 m, .int .i64 f, .int .i64 d, .slice a k c] 27)).alloc (.cells #[.int .i64 0, .int .i64 0, .int .i64 0, .int .i64 0, .slice none 0 0] 27)) (g + 1) [.int .i64 0, .int .i64 0, .int .i64 0, .int .i64 0, .slice none 0 0] from by have h9 := (BoxV.new (wn.alloc (.cells #[.int .i64 n, .int .i64 m, .int .i64 f, .int .i64 d, .slice a k c] 27)) [.int .i64 0, .int .i64 0, .int .i64 0, .int .i64 0, .slice none 0 0] 27 (by simp) rfl); simp only [World.size_alloc, hg, Nat.add_assoc, Nat.reduceAdd] at h9; exact h9)
  have HZg := Lib.hid (show (((wn.alloc (.cells #[.int .i64 n, .int .i64 m, .int .i64 f, .int .i64 d, .slice a k c] 27)).alloc (.cells #[.int .i64 0, .int .i64 0, .int .i64 0, .int .i64 0, .slice none 0 0] 27))).heap.size = g + 2 from by simp only [World.size_alloc, hg, Nat.add_assoc, Nat.reduceAdd])
  clear hg
  clear T
  have T := Tn
  clear Tn
  go_enter Try.func25, Try.ntmps25
  have c0 := (TB.out.2 0 _ rfl).1
  have c1 := (TB.out.2 1 _ rfl).1
  have c2 := (TB.out.2 2 _ rfl).1
  have c3 := (TB.out.2 3 _ rfl).1
  have c4 := (TB.out.2 4 _ rfl).1
  go_wp2_with fail
  rw [HGg.out]
  refine Calls.mono (HV.out _ (Rid.below X0.out T.out)) ?_
  intro e wn hh
  obtain ⟨he, hb⟩ := (by first | exact hh | exact Ro.mk hh | exact St.mk hh | exact LawOk.mk' hh : Mk _ _ e wn)
  subst he
  have Tn : Hid (Below w.heap.size w wn) := below_next T.out hb
  have TBn : Hid _ := BoxV.below TB.out hb
  have RRn : Hid _ := BoxV.below RR.out hb
  clear hb hh c0 c1 c2 c3 c4
  clear T TB RR
  have T := Tn
  have TB := TBn
  have RR := RRn
  clear Tn TBn RRn
  clear HV
  go_upto_region 3 with fail
  obtain ⟨B0, hB0⟩ : ∃ B0, wn.heap.size = B0 := ⟨_, rfl⟩
  have HB0 := Lib.hid hB0
  have hTB : w.heap.size ≤ B0 := by rw [← hB0]; exact T.out.size
  have hgB0 : g + 1 < B0 := by rw [← hB0]; exact BoxV.lt RR.out
  clear hB0
  refine wp_region_late 6 [9, 10, 11, 12, 13, 4] [(1, tV (.pointer (some ⟨g, 0, none⟩)))]
    [(9, tV (.agg #[.int .i64 n, .int .i64 m, .int .i64 f, .int .i64 d, .slice a k c])), (10, tF x0), (11, tV (.pointer (some ⟨g, 2, none⟩))), (12, tV (.agg #[.int .i64 f, .int .i64 d])), (13, tV (.agg #[.int .i64 (F), .int .i64 (D)])), (4, tN2 B0)]
    _ (by kernel_rfl) (by kernel_rfl) (by kernel_rfl) (by kernel_rfl) (by kernel_rfl) (by rfl) (by kernel_rfl) (by kernel_rfl) (by kernel_rfl) (by kernel_rfl) ⟨StW.g (StW.V _), StW.g (StW.V _), StGrow.F _, StW.g (StW.V _), StW.g (StW.V _), StW.g (StW.V _), StGrow.N2 _, trivial⟩ ⟨rfl, trivial⟩ ?hob ?_
  case hob =>
    refine ⟨?_, ?_, ?_, ?_, ?_, ?_, trivial⟩
    · intro w1 vs hC hL
      have u1 := hL 1 (List.mem_of_elem_eq_true (by kernel_rfl))
      replace u1 : vs 1 = .pointer (some ⟨g, 0, none⟩) := u1
      have TB9 := BoxV.below TB.out hC
      have c0 := (TB9.2 0 _ rfl).1
      have c1 := (TB9.2 1 _ rfl).1
      have c2 := (TB9.2 2 _ rfl).1
      have c3 := (TB9.2 3 _ rfl).1
      have c4 := (TB9.2 4 _ rfl).1
      clear TB9
      go_simp
      simp only [evOf_tmp, u1]
      go_simp
      exact oa_pure hC (show tV _ _ w1 from rfl)
    · intro w1 vs hC hL
      have u9 := hL 9 (List.mem_of_elem_eq_true (by kernel_rfl))
      replace u9 : vs 9 = .agg #[.int .i64 n, .int .i64 m, .int .i64 f, .int .i64 d, .slice a k c] := u9
      go_simp
      simp only [evOf_tmp, u9]
      exact oa_call hC (Calls.mono (HKC.out _ (Rid.below X0.out (below_next T.out hC))) (fun e w2 hh => (by obtain ⟨v1, v2, v3, lo, hi, rfl, hO, hb2, -, -⟩ := NewC.get hh; obtain ⟨q1, j1, q2, j2, q3, j3, rfl, rfl, rfl, hCC⟩ := OwnC.open hO; exact ⟨_, rfl, (show Fre _ _ w2 from ⟨q1, j1, q2, j2, q3, j3, rfl, hCC⟩), hb2⟩)))
    · intro w1 vs hC hL
      have u1 := hL 1 (List.mem_of_elem_eq_true (by kernel_rfl))
      replace u1 : vs 1 = .pointer (some ⟨g, 0, none⟩) := u1
      go_simp
      simp only [evOf_tmp, u1]
      go_simp
      exact oa_pure hC (show tV _ _ w1 from rfl)
    · intro w1 vs hC hL
      have u11 := hL 11 (List.mem_of_elem_eq_true (by kernel_rfl))
      replace u11 : vs 11 = .pointer (some ⟨g, 2, none⟩) := u11
      have TB9 := BoxV.below TB.out hC
      have c0 := (TB9.2 0 _ rfl).1
      have c1 := (TB9.2 1 _ rfl).1
      have c2 := (TB9.2 2 _ rfl).1
      have c3 := (TB9.2 3 _ rfl).1
      have c4 := (TB9.2 4 _ rfl).1
      clear TB9
      go_simp
      simp only [evOf_tmp, u11]
      go_simp
      exact oa_pure hC (show tV _ _ w1 from rfl)
    · intro w1 vs hC hL
      have u10 := hL 10 (List.mem_of_elem_eq_true (by kernel_rfl))
      replace u10 : Fre (vs 10) x0 w1 := u10
      obtain ⟨p101, i101, p102, i102, p103, i103, u10, hF10⟩ := u10
      have u12 := hL 12 (List.mem_of_elem_eq_true (by kernel_rfl))
      replace u12 : vs 12 = .agg #[.int .i64 f, .int .i64 d] := u12
      go_simp
      simp only [evOf_tmp, u10, u12]
      exact oa_call hC (Calls.mono (HKN.out _ _ _ _ _ _ _ _ _ _ hF10) (fun e w2 hh => (by obtain ⟨he, hb⟩ := (by first | exact hh | exact Ro.mk hh | exact St.mk hh : Mk _ _ e w2); exact ⟨_, he, (show tV _ _ w2 from rfl), hb⟩)))
    · intro w1 vs hC hL
      go_simp
      exact oa_alloc hC (show tN2 _ _ (World.alloc w1 (.cells #[.int .i64 0, .int .i64 0] 24)) from ⟨w1.heap.size, rfl, by rw [← HB0.out]; exact hC.size, Box.new _ _ _ _⟩)
  intro vs wq hq hT
  have t1 : vs 13 = .agg #[.int .i64 (F), .int .i64 (D)] := hT 13 rfl
  have t2 : tN2 B0 (vs 4) wq := hT 4 rfl
  obtain ⟨HN, t3, hHB, hbox⟩ := t2
  simp (decide := true) only [over, Nat.reduceAdd, if_true, if_false]
  rw [t1, t3]
  have NB := Lib.hid hbox
  clear hT t1 t3 hbox
  have Tn := Lib.hid (below_next T.out hq)
  have TBn := Lib.hid (BoxV.below TB.out hq)
  have RRn := Lib.hid (BoxV.below RR.out hq)
  clear hq
  clear T TB RR
  have T := Tn
  have TB := TBn
  have RR := RRn
  clear Tn TBn RRn
  obtain ⟨wn, hwq⟩ : ∃ w0, w0 = wq := ⟨_, rfl⟩
  subst hwq
  have ho := Out.trans (Out.set (w := wn) (q := HN) (i := 0) (lo := HN) (hi := HN + 1) (.int .i64 (F)) (Nat.le_refl _) (by omega)) (Out.set (w := wn.setCell ⟨HN, 0, none⟩ (.int .i64 (F))) (q := HN) (i := 1) (lo := HN) (hi := HN + 1) (.int .i64 (D)) (Nat.le_refl _) (by omega))
  have T2 := Lib.hid (Out.below T.out ho (by omega))
  have RR2 := Lib.hid (BoxV.out RR.out ho (.inl (by omega)))
  have TB2 := Lib.hid (BoxV.out TB.out ho (.inl (by omega)))
  have NB2 := Lib.hid (Box.pset1 (D) (Box.pset0 (F) NB.out))
  obtain ⟨⟨x0', x1'⟩, xf0, xf1⟩ := NB.out
  go_upto_region 4 with fail
  clear ho x0' x1' xf0 xf1 T RR NB TB
  have T := T2
  have RR := RR2
  have TB := TB2
  have NB := NB2
  clear T2 RR2 TB2 NB2 HKC HKN HB0
  generalize (wn.setCell ⟨HN, 0, none⟩ (.int .i64 (F))).setCell ⟨HN, 1, none⟩ (.int .i64 (D)) = w0 at *
  obtain ⟨wn, hwq⟩ : ∃ w9 : World, w9 = w0 := ⟨_, rfl⟩
  subst hwq
  obtain ⟨S, hS⟩ : ∃ S, wn.heap.size = S := ⟨_, rfl⟩
  have hNS : HN < S := by rw [← hS]; exact Box.lt NB.out
  have hwS : w.heap.size ≤ S := by rw [← hS]; exact T.out.size
  have HS := Lib.hid hS
  clear hS
  have c0 := (TB.out.2 0 _ rfl).1
  have c1 := (TB.out.2 1 _ rfl).1
  have c2 := (TB.out.2 2 _ rfl).1
  have c3 := (TB.out.2 3 _ rfl).1
  have c4 := (TB.out.2 4 _ rfl).1
  go_wp2_with fail
  refine Calls.mono (cloneR_c a k c l _ (Rid.below X0.out T.out) hk) ?_
  intro e wq hh
  obtain ⟨v2, he, hO2, hb⟩ := hh
  subst he
  rw [HS.out] at hO2
  obtain ⟨av, cv, hv, -, -⟩ := OwnR.open hO2
  subst hv
  have O := Lib.hid hO2
  clear hO2 c0 c1 c2 c3 c4
  have Tn := Lib.hid (below_next T.out hb)
  have TBn := Lib.hid (BoxV.below TB.out hb)
  have RRn := Lib.hid (BoxV.below RR.out hb)
  have NBn := Lib.hid (Box.below NB.out hb)
  clear hb
  clear T TB RR NB
  have T := Tn
  have TB := TBn
  have RR := RRn
  have NB := NBn
  clear Tn TBn RRn NBn
  obtain ⟨wn, hwq⟩ : ∃ w0, w0 = wq := ⟨_, rfl⟩
  subst hwq
  have ho := Out.set (w := wn) (q := g) (i := 4) (lo := g) (hi := g + 1) (.slice av k cv) (Nat.le_refl _) (by omega)
  have T2 := Lib.hid (Out.below T.out ho (by omega))
  have TB2 := Lib.hid (show BoxV _ g [.int .i64 n, .int .i64 m, .int .i64 f, .int .i64 d, .slice av k cv] from BoxV.set TB.out 4 (.slice av k cv) (by simp))
  have RR2 := Lib.hid (BoxV.out RR.out ho (.inr (by omega)))
  have NB2 := Lib.hid (Box.out NB.out ho (.inr (by omega)))
  have O2 := Lib.hid (OwnR.block O.out (fun q hq => ho.block q (OwnR.lt O.out q hq).2 (.inr (by have := (OwnR.lt O.out q hq).1; omega))))
  have b4 := TB.out.2 4 _ rfl
  obtain ⟨b40, b41⟩ := b4
  go_upto_region 5 with fail
  clear b40 b41 T TB RR NB O ho HS
  have T := T2
  have RR := RR2
  have TB := TB2
  have NB := NB2
  have O := O2
  clear T2 RR2 TB2 NB2 O2
  generalize wn.setCell ⟨g, 4, none⟩ (.slice av k cv) = w0 at *
  obtain ⟨wn, hwq⟩ : ∃ w9 : World, w9 = w0 := ⟨_, rfl⟩
  subst hwq
  obtain ⟨⟨e0, e1⟩, ef0, ef1⟩ := NB.out
  go_upto_region 7 with fail
  clear e0 e1 ef0 ef1
  have ho := Out.trans (Out.set (w := wn) (q := g) (i := 2) (lo := g) (hi := g + 1) (.int .i64 F) (Nat.le_refl _) (by omega)) (Out.set (w := wn.setCell ⟨g, 2, none⟩ (.int .i64 F)) (q := g) (i := 3) (lo := g) (hi := g + 1) (.int .i64 D) (Nat.le_refl _) (by omega))
  have T2 := Lib.hid (Out.below T.out ho (by omega))
  have TB2 := Lib.hid (show BoxV _ g [.int .i64 n, .int .i64 m, .int .i64 F, .int .i64 D, .slice av k cv] from BoxV.set (BoxV.set TB.out 2 (.int .i64 F) (by simp)) 3 (.int .i64 D) (by simp))
  have RR2 := Lib.hid (BoxV.out RR.out ho (.inr (by omega)))
  have NB2 := Lib.hid (Box.out NB.out ho (.inr (by omega)))
  have O2 := Lib.hid (OwnR.block O.out (fun q hq => ho.block q (OwnR.lt O.out q hq).2 (.inr (by have := (OwnR.lt O.out q hq).1; omega))))
  obtain ⟨m2', m2⟩ := TB.out.2 2 _ rfl
  obtain ⟨m3', m3⟩ := TB.out.2 3 _ rfl
  obtain ⟨⟨e0, e1⟩, -⟩ := NB.out
  go_upto_region 8 with fail
  clear ho m2 m3 m2' m3' e0 e1 T RR TB O NB
  have T := T2
  have RR := RR2
  have TB := TB2
  have O := O2
  have NB := NB2
  clear T2 RR2 TB2 O2 NB2
  generalize (wn.setCell ⟨g, 2, none⟩ (.int .i64 F)).setCell ⟨g, 3, none⟩ (.int .i64 D) = w0 at *
  obtain ⟨wn, hwq⟩ : ∃ w9 : World, w9 = w0 := ⟨_, rfl⟩
  subst hwq
  have d0 := (TB.out.2 0 _ rfl).1
  have d1 := (TB.out.2 1 _ rfl).1
  have d2 := (TB.out.2 2 _ rfl).1
  have d3 := (TB.out.2 3 _ rfl).1
  have d4 := (TB.out.2 4 _ rfl).1
  obtain ⟨⟨e0, e1⟩, ef0, ef1⟩ := NB.out
  go_wp2_with fail
  clear d0 d1 d2 d3 d4 e0 e1 ef0 ef1
  obtain ⟨B1, hB1⟩ : ∃ B1, wn.heap.size = B1 := ⟨_, rfl⟩
  refine Calls.mono (getOut_c av k cv l F S S B1 wn O.out HL.out hk (fun q hq => ⟨(OwnR.lt O.out q hq).1, by rw [← hB1]; exact (OwnR.lt O.out q hq).2⟩) (by rw [hB1]; exact Nat.le_refl _)) ?_
  clear hB1
  rintro e wq ⟨rfl, hO, ho⟩
  have T2 := Lib.hid (Out.below T.out ho (by omega))
  have RR2 := Lib.hid (BoxV.out RR.out ho (.inl (by omega)))
  have TB2 := Lib.hid (BoxV.out TB.out ho (.inl (by omega)))
  have NB2 := Lib.hid (Box.out NB.out ho (.inl (by omega)))
  clear T RR TB O NB ho
  have T := T2
  have RR := RR2
  have TB := TB2
  have O := Lib.hid hO
  have NB := NB2
  clear T2 RR2 TB2 NB2 hO
  obtain ⟨wn, hwq⟩ : ∃ w9 : World, w9 = wq := ⟨_, rfl⟩
  subst hwq
  have hl1 : (l.map (gout F)).length = k := by rw [List.length_map]; exact HL.out
  have hgo : goR m F D l = gin m F D (ins (l.map (gout F))) (l.map (gout F)) := rfl
  have HGO := Lib.hid hgo
  have HL1 := Lib.hid hl1
  clear hgo hl1
  have d0 := (TB.out.2 0 _ rfl).1
  have d1 := (TB.out.2 1 _ rfl).1
  have d2 := (TB.out.2 2 _ rfl).1
  have d3 := (TB.out.2 3 _ rfl).1
  have d4 := (TB.out.2 4 _ rfl).1
  obtain ⟨⟨e0, e1⟩, ef0, ef1⟩ := NB.out
  go_wp2_with fail
  clear d0 d1 d2 d3 d4 e0 e1 ef0 ef1
  obtain ⟨B1, hB1⟩ : ∃ B1, wn.heap.size = B1 := ⟨_, rfl⟩
  refine Calls.mono (getIn_c av k cv (l.map (gout F)) F D m S S B1 wn O.out HL1.out hk HM.out HM8.out HNE.out (fun q hq => ⟨(OwnR.lt O.out q hq).1, by rw [← hB1]; exact (OwnR.lt O.out q hq).2⟩) (by rw [hB1]; exact Nat.le_refl _)) ?_
  clear hB1
  rintro e wq ⟨rfl, hO, ho⟩
  have T2 := Lib.hid (Out.below T.out ho (by omega))
  have RR2 := Lib.hid (BoxV.out RR.out ho (.inl (by omega)))
  have TB2 := Lib.hid (BoxV.out TB.out ho (.inl (by omega)))
  have NB2 := Lib.hid (Box.out NB.out ho (.inl (by omega)))
  clear T RR TB O NB ho
  have T := T2
  have RR := RR2
  have TB := TB2
  have O := Lib.hid hO
  have NB := NB2
  clear T2 RR2 TB2 NB2 hO
  obtain ⟨wn, hwq⟩ : ∃ w9 : World, w9 = wq := ⟨_, rfl⟩
  subst hwq
  rw [← HGO.out] at O
  have d0 := (TB.out.2 0 _ rfl).1
  have d1 := (TB.out.2 1 _ rfl).1
  have d2 := (TB.out.2 2 _ rfl).1
  have d3 := (TB.out.2 3 _ rfl).1
  have d4 := (TB.out.2 4 _ rfl).1
  have e0 := (RR.out.2 0 _ rfl).1
  have ef0 := (RR.out.2 0 _ rfl).2
  have e1 := (RR.out.2 1 _ rfl).1
  have ef1 := (RR.out.2 1 _ rfl).2
  have e2 := (RR.out.2 2 _ rfl).1
  have ef2 := (RR.out.2 2 _ rfl).2
  have e3 := (RR.out.2 3 _ rfl).1
  have ef3 := (RR.out.2 3 _ rfl).2
  have e4 := (RR.out.2 4 _ rfl).1
  have ef4 := (RR.out.2 4 _ rfl).2
  have N := newT_end (n := n) (m := m) (f := F) (d := D) (l := goR m F D l) (r := g + 1) (w := wn) (v := .slice av k cv) (B := S) (by rw [show List.length (goR m F D l) = k from (by rw [goR_len]; exact HL.out)]; exact O.out) (by omega) T.out (by omega) (fun q hq => by have := (OwnR.lt O.out q hq).1; omega) (fun v => .tuple #[v, .bool true])
  unfold set5 at N
  have ef0 := (RR.out.2 0 _ rfl).2
  have ef1 := (RR.out.2 1 _ rfl).2
  have ef2 := (RR.out.2 2 _ rfl).2
  have ef3 := (RR.out.2 3 _ rfl).2
  have ef4 := (RR.out.2 4 _ rfl).2
  have N2 := Lib.hid N
  clear N RR TB NB O T
  go_wp2_with fail
  clear d0 d1 d2 d3 d4
  have c0 := e0
  have c1 := e1
  have c2 := e2
  have c3 := e3
  have c4 := e4
  exact bodyPost_ret (v := .tuple #[.agg #[.int .i64 n, .int .i64 m, .int .i64 (F), .int .i64 (D), .slice av k cv], .bool true]) (by simp [results, Try.results25, go_sem, c0, c1, c2, c3, c4]) rfl N2.out
theorem iTripStep_c (n m f d : Int) (a : Option Addr) (k c : Nat) (l : List Ri) (w : World) (hX : Rid w a k l) (hk : k ≤ 1048577) :
    Calls Try.prog 25 #[.agg #[.int .i64 n, .int .i64 m, .int .i64 f, .int .i64 d, .slice a k c]] w (NewT w (stT ⟨n, m, f, d, l⟩) (fun v => .tuple #[v, .bool (stB ⟨n, m, f, d, l⟩)])) := by
  by_cases h : TOk ⟨n, m, f, d, l⟩
  · cases e : tnx ⟨n, m, f, d, l⟩ with
    | none => rw [(stT_n h e).1, (stT_n h e).2]; exact iTripStep_n n m f d a k c l w hX hk h e
    | some r => rw [(stT_t h e).1, (stT_t h e).2]; exact iTripStep_t n m f d a k c l r.1 r.2 w hX hk h e
  · rw [(stT_f h).1, (stT_f h).2]; exact iTripStep_f n m f d a k c l w hX hk h
end Go.Proofs.Ytfhhgddajmihjaa

namespace Go.Proofs.Ytfhhgddajmihjaa
open Go.RowKit
set_option linter.unusedVariables false
set_option linter.unusedSimpArgs false
set_option maxRecDepth 100000

noncomputable def goN (t : Tp) : Nat := @ite _ (TOk t) (Classical.propDecidable _) (tsn 16 t) 0
theorem goN_t {t : Tp} (h : TOk t) : goN t = tsn 16 t := by unfold goN; rw [if_pos h]
theorem goN_f {t : Tp} (h : ¬ TOk t) : goN t = 0 := by unfold goN; rw [if_neg h]
/-- Where the way to the end stands. -/
def GI (E : Tp) (N j : Nat) (x : Tp) : Prop := (TOk x ∧ ∃ mm, ten mm x = E ∧ N = j + tsn mm x ∧ phi x.rs ≤ (mm : Int)) ∨ (¬ TOk x ∧ j = N ∧ E = ⟨0, 0, 0, 0, []⟩)
theorem gi_0 (t : Tp) : GI (teT t) (goN t) 0 t := by
  by_cases h : TOk t
  · exact .inl ⟨h, 16, (teT_t h).symm, by rw [goN_t h]; omega, phi_16 h⟩
  · exact .inr ⟨h, (goN_f h).symm, teT_f h⟩
theorem goN_le (t : Tp) : goN t ≤ 16 := by
  by_cases h : TOk t
  · rw [goN_t h]; have := tsn_le 16 t h; have := phi_16 h; omega
  · rw [goN_f h]; omega
theorem gi_step {E x : Tp} {N j : Nat} (h : GI E N j x) : (stB x = false → stT x = E ∧ j = N) ∧ (stB x = true → GI E N (j + 1) (stT x) ∧ j + 1 ≤ N ∧ (stT x).rs.length ≤ 8) := by
  rcases h with ⟨hx, mm, e1, e2, hp⟩ | ⟨hx, e1, e2⟩
  · cases e : tnx x with
    | none =>
      rw [(stT_n hx e).1, (stT_n hx e).2]
      refine ⟨fun _ => ⟨?_, by have := tsn_none mm e; omega⟩, fun h => by cases h⟩
      rw [← e1]
      cases mm with
      | zero => rfl
      | succ mm => rw [ten]; rw [e]
    | some r =>
      rw [(stT_t hx e).1, (stT_t hx e).2]
      obtain ⟨-, h2, h3⟩ := stp_ok' hx e
      have h4 := phi_ge _ h2.2.2.2.2.2.1
      obtain ⟨mm, rfl⟩ : ∃ q, mm = q + 1 := ⟨mm - 1, by omega⟩
      have h5 := tsn_some mm e
      refine ⟨fun h => (by cases h), fun _ => ⟨.inl ⟨h2, mm, ?_, by omega, by omega⟩, by omega, h2.2.2.2.2.1⟩⟩
      rw [← e1, ten]
      rw [e]
  · rw [(stT_f hx).1, (stT_f hx).2]
    exact ⟨fun _ => ⟨e2.symm, e1⟩, fun h => by cases h⟩
set_option maxHeartbeats 8000000 in
theorem goOn_c (n m f d : Int) (a : Option Addr) (k c : Nat) (l : List Ri) (w : World) (hX : Rid w a k l) (hk : k ≤ 1048577) :
    Calls Try.prog 65 #[.agg #[.int .i64 n, .int .i64 m, .int .i64 f, .int .i64 d, .slice a k c]] w (NewT w (teT ⟨n, m, f, d, l⟩) (fun v => .tuple #[v, .int .i64 (goN ⟨n, m, f, d, l⟩ : Nat)])) := by
  obtain rfl := hX.2
  have X0 := Lib.hid hX
  have hI := gi_0 ⟨n, m, f, d, l⟩
  have hN := goN_le ⟨n, m, f, d, l⟩
  obtain ⟨N, hNe⟩ : ∃ N, goN ⟨n, m, f, d, l⟩ = N := ⟨_, rfl⟩
  obtain ⟨E, hE⟩ : ∃ E, teT ⟨n, m, f, d, l⟩ = E := ⟨_, rfl⟩
  rw [hNe] at hI hN
  rw [hE] at hI
  rw [hE, hNe]
  have HI := Lib.hid hI
  clear hX hI hNe hE
  refine at_base fun wn hwn => ?_
  have T := Lib.hid (show Below w.heap.size w wn from by rw [hwn]; exact Below.refl _ _)
  clear hwn
  obtain ⟨g, hg⟩ : ∃ g, Array.size (World.heap wn) = g := ⟨_, rfl⟩
  have HGg := Lib.hid hg
  have hTg : w.heap.size ≤ g := by rw [← hg]; exact T.out.size
  have Tn := Lib.hid (show Below w.heap.size w ((wn.alloc (.cells #[.int .i64 n, .int .i64 m, .int .i64 f, .int .i64 d, .slice a l.length c] 27)).alloc (.cells #[.int .i64 0, .int .i64 0, .int .i64 0, .int .i64 0, .slice none 0 0] 27)) from (Below.al (Below.al T.out (.cells #[.int .i64 n, .int .i64 m, .int .i64 f, .int .i64 d, .slice a l.length c] 27)) (.cells #[.int .i64 0, .int .i64 0, .int .i64 0, .int .i64 0, .slice none 0 0] 27)))
  have TB := Lib.hid (show BoxV ((wn.alloc (.cells #[.int .i64 n, .int .i64 m, .int .i64 f, .int .i64 d, .slice a l.length c] 27)).alloc (.cells #[.int .i64 0, .int .i64 0, .int .i64 0, .int .i64 0, .slice none 0 0] 27)) g [.int .i64 n, .int .i64 m, .int .i64 f, .int .i64 d, .slice a l.length c] from by have h9 := (BoxV.al (BoxV.new wn [.int .i64 n, .int .i64 m, .int .i64 f, .int .i64 d, .slice a l.length c] 27 (by simp) rfl) (.cells #[.int .i64 0, .int .i64 0, .int .i64 0, .int .i64 0, .slice none 0 0] 27)); simp only [World.size_alloc, hg, Nat.add_assoc, Nat.reduceAdd] at h9; exact h9)
  have RR := Lib.hid (show BoxV ((wn.alloc (.cells #[.int .i64 n, .int .i64 m, .int .i64 f, .int .i64 d, .slice a l.length c] 27)).alloc (.cells #[.int .i64 0, .int .i64 0, .int .i64 0, .int .i64 0, .slice none 0 0] 27)) (g + 1) [.int .i64 0, .int .i64 0, .int .i64 0, .int .i64 0, .slice none 0 0] from by have h9 := (BoxV.new (wn.alloc (.cells #[.int .i64 n, .int .i64 m, .int .i64 f, .int .i64 d, .slice a l.length c] 27)) [.int .i64 0, .int .i64 0, .int .i64 0, .int .i64 0, .slice none 0 0] 27 (by simp) rfl); simp only [World.size_alloc, hg, Nat.add_assoc, Nat.reduceAdd] at h9; exact h9)
  have HZg := Lib.hid (show (((wn.alloc (.cells #[.int .i64 n, .int .i64 m, .int .i64 f, .int .i64 d, .slice a l.length c] 27)).alloc (.cells #[.int .i64 0, .int .i64 0, .int .i64 0, .int .i64 0, .slice none 0 0] 27))).heap.size = g + 2 from by simp only [World.size_alloc, hg, Nat.add_assoc, Nat.reduceAdd])
  clear hg
  clear T
  have T := Tn
  clear Tn
  go_enter Try.func65, Try.ntmps65
  go_wp2_with fail
  rw [HGg.out]
  have XX := Lib.hid (Rid.below X0.out T.out)
  go_loopw [4] (fun v wr => ∃ (j : Nat) (x : Tp) (av : Option Addr) (cv : Nat), j ≤ N ∧ v = .int .i64 j ∧ GI E N j x ∧ x.rs.length ≤ 1048577 ∧ Rid wr av x.rs.length x.rs ∧
    BoxV wr g [.int .i64 x.n, .int .i64 x.m, .int .i64 x.f, .int .i64 x.d, .slice av x.rs.length cv] ∧ BoxV wr (g + 1) [.int .i64 0, .int .i64 0, .int .i64 0, .int .i64 0, .slice none 0 0] ∧ Below w.heap.size w wr) (fun v _ => N - (intOf v).toNat)
  case atStart => exact ⟨0, ⟨n, m, f, d, l⟩, a, c, by omega, rfl, HI.out, hk, XX.out, TB.out, RR.out, T.out⟩
  case round =>
    clear T TB RR HI XX
    obtain ⟨j, x, av, cv, hjN, rfl, hI, hlen, hR, hTB, hRR, hT⟩ := hrel
    obtain ⟨wn, hwq⟩ : ∃ w0 : World, w0 = wr := ⟨_, rfl⟩
    rw [← hwq] at hR hTB hRR hT ⊢
    clear hwq
    have R := Lib.hid hR
    have TB := Lib.hid hTB
    have RR := Lib.hid hRR
    have T := Lib.hid hT
    have hst := gi_step hI
    have KS := fun w' (g : Rid w' av x.rs.length x.rs) => iTripStep_c x.n x.m x.f x.d av x.rs.length cv x.rs w' g hlen
    obtain ⟨y, hy⟩ : ∃ y, stT x = y := ⟨_, rfl⟩
    obtain ⟨b, hb2⟩ : ∃ b, stB x = b := ⟨_, rfl⟩
    rw [hy, hb2] at hst
    rw [show (⟨x.n, x.m, x.f, x.d, x.rs⟩ : Tp) = x from rfl, hy, hb2] at KS
    have HK := Lib.hid KS
    have HST := Lib.hid hst
    clear hI hR hTB hRR hT KS hy hb2 hst
    have d0 := (TB.out.2 0 _ rfl).1
    have d1 := (TB.out.2 1 _ rfl).1
    have d2 := (TB.out.2 2 _ rfl).1
    have d3 := (TB.out.2 3 _ rfl).1
    have d4 := (TB.out.2 4 _ rfl).1
    go_wp2_with fail
    refine Calls.mono (HK.out _ R.out) ?_
    intro e wq hh
    obtain ⟨v2, he, hO2, hb3⟩ := hh
    subst he
    obtain ⟨av2, cv2, hv, -, -⟩ := OwnR.open hO2
    subst hv
    have hlt2 := OwnR.lt hO2
    have hXl := BoxV.lt TB.out
    have hRl := BoxV.lt RR.out
    have HN2 := Lib.hid (show ∀ q, (Value.slice av2 y.rs.length cv2).ownBlock = some q → w.heap.size ≤ q ∧ q ≠ g ∧ q ≠ g + 1 from fun q hq => by have := hlt2 q hq; have := T.out.size; omega)
    have hO3 := OwnR.mono hO2 T.out.size
    clear R
    have O := Lib.hid hO3
    clear hO2 hO3 HK hlt2 hXl hRl d0 d1 d2 d3 d4
    have Tn := Lib.hid (below_next T.out hb3)
    have TBn := Lib.hid (BoxV.below TB.out hb3)
    have RRn := Lib.hid (BoxV.below RR.out hb3)
    clear hb3
    clear T TB RR
    have T := Tn
    have TB := TBn
    have RR := RRn
    clear Tn TBn RRn
    obtain ⟨wn, hwq⟩ : ∃ w0, w0 = wq := ⟨_, rfl⟩
    subst hwq
    have hltTBHY := BoxV.lt TB.out
    have hltRRHY := BoxV.lt RR.out
    have hWHY := T.out.size
    obtain ⟨HY, hHY⟩ : ∃ HY, Array.size (World.heap wn) = HY := ⟨_, rfl⟩
    have HHY : Hid _ := hHY
    rw [hHY] at hWHY hltTBHY hltRRHY
    have YB : Hid (BoxV (wn.alloc (.cells #[.int .i64 y.n, .int .i64 y.m, .int .i64 y.f, .int .i64 y.d, .slice av2 y.rs.length cv2] 27)) HY [.int .i64 y.n, .int .i64 y.m, .int .i64 y.f, .int .i64 y.d, .slice av2 y.rs.length cv2]) := by rw [← hHY]; exact BoxV.new _ _ _ (by simp) rfl
    clear hHY
    have Tn : Hid (Below w.heap.size w _) := Below.al T.out (.cells #[.int .i64 y.n, .int .i64 y.m, .int .i64 y.f, .int .i64 y.d, .slice av2 y.rs.length cv2] 27)
    have TBn : Hid _ := BoxV.below TB.out ((Below.refl _ _).alloc (Nat.le_refl _) (.cells #[.int .i64 y.n, .int .i64 y.m, .int .i64 y.f, .int .i64 y.d, .slice av2 y.rs.length cv2] 27))
    have RRn : Hid _ := BoxV.below RR.out ((Below.refl _ _).alloc (Nat.le_refl _) (.cells #[.int .i64 y.n, .int .i64 y.m, .int .i64 y.f, .int .i64 y.d, .slice av2 y.rs.length cv2] 27))
    have On : Hid _ := OwnR.below O.out ((Below.refl _ _).alloc (Nat.le_refl _) (.cells #[.int .i64 y.n, .int .i64 y.m, .int .i64 y.f, .int .i64 y.d, .slice av2 y.rs.length cv2] 27))
    clear T TB RR O
    have T := Tn
    have TB := TBn
    have RR := RRn
    have O := On
    clear Tn TBn RRn On
    go_upto_region 3 with fail
    rw [HHY.out]
    generalize wn.alloc _ = w0 at *
    obtain ⟨wn, hwq⟩ : ∃ w9 : World, w9 = w0 := ⟨_, rfl⟩
    subst hwq
    clear HHY
    cases b with
    | false =>
      obtain ⟨e1, e2⟩ := HST.out.1 rfl
      subst e1 e2
      have Nw := newT_end (n := y.n) (m := y.m) (f := y.f) (d := y.d) (l := y.rs) (r := g + 1) (w := wn) (v := .slice av2 y.rs.length cv2) (B := w.heap.size) O.out (Nat.le_refl _) T.out (by omega) (fun q hq => (HN2.out q hq).2.2) (fun v => .tuple #[v, .int .i64 j])
      rw [show (⟨y.n, y.m, y.f, y.d, y.rs⟩ : Tp) = y from rfl] at Nw
      unfold set5 at Nw
      have N2 := Lib.hid Nw
      clear Nw HST
      have d0 := (YB.out.2 0 _ rfl).1
      have d1 := (YB.out.2 1 _ rfl).1
      have d2 := (YB.out.2 2 _ rfl).1
      have d3 := (YB.out.2 3 _ rfl).1
      have d4 := (YB.out.2 4 _ rfl).1
      have e0 := (RR.out.2 0 _ rfl).1
      have ef0 := (RR.out.2 0 _ rfl).2
      have e1 := (RR.out.2 1 _ rfl).1
      have ef1 := (RR.out.2 1 _ rfl).2
      have e2 := (RR.out.2 2 _ rfl).1
      have ef2 := (RR.out.2 2 _ rfl).2
      have e3 := (RR.out.2 3 _ rfl).1
      have ef3 := (RR.out.2 3 _ rfl).2
      have e4 := (RR.out.2 4 _ rfl).1
      have ef4 := (RR.out.2 4 _ rfl).2
      clear YB RR O HN2 T TB
      go_wp2_with fail
      clear d0 d1 d2 d3 d4
      have c0 := e0
      have c1 := e1
      have c2 := e2
      have c3 := e3
      have c4 := e4
      exact bodyPost_ret (v := .tuple #[.agg #[.int .i64 y.n, .int .i64 y.m, .int .i64 y.f, .int .i64 y.d, .slice av2 y.rs.length cv2], .int .i64 j]) (by simp [results, Try.results65, go_sem, c0, c1, c2, c3, c4]) rfl N2.out
    | true =>
      obtain ⟨hI2, hj, hl8⟩ := HST.out.2 rfl
      have HI2 := Lib.hid hI2
      clear hI2 HST
      have ho := out5 (w := wn) (b := g) (.int .i64 y.n) (.int .i64 y.m) (.int .i64 y.f) (.int .i64 y.d) (.slice av2 y.rs.length cv2)
      have T3 := Lib.hid (Out.below T.out ho (by omega))
      have X3 := Lib.hid (box5 (.int .i64 y.n) (.int .i64 y.m) (.int .i64 y.f) (.int .i64 y.d) (.slice av2 y.rs.length cv2) TB.out)
      have R3 := Lib.hid (BoxV.out RR.out ho (.inr (by omega)))
      have O3 := Lib.hid (OwnR.block O.out (fun q hq => ho.block q (OwnR.lt O.out q hq).2 (by have := (HN2.out q hq).2.1; omega)))
      have d0 := (YB.out.2 0 _ rfl).1
      have d1 := (YB.out.2 1 _ rfl).1
      have d2 := (YB.out.2 2 _ rfl).1
      have d3 := (YB.out.2 3 _ rfl).1
      have d4 := (YB.out.2 4 _ rfl).1
      have e0 := (TB.out.2 0 _ rfl).1
      have ef0 := (TB.out.2 0 _ rfl).2
      have e1 := (TB.out.2 1 _ rfl).1
      have ef1 := (TB.out.2 1 _ rfl).2
      have e2 := (TB.out.2 2 _ rfl).1
      have ef2 := (TB.out.2 2 _ rfl).2
      have e3 := (TB.out.2 3 _ rfl).1
      have ef3 := (TB.out.2 3 _ rfl).2
      have e4 := (TB.out.2 4 _ rfl).1
      have ef4 := (TB.out.2 4 _ rfl).2
      clear ho O TB YB T RR
      go_wp2_with fail
      exact ⟨⟨j + 1, y, av2, cv2, by omega, by go_num, HI2.out, by omega, OwnR.rid O3.out, X3.out, R3.out, T3.out⟩, by first | (simp [intOf]; done) | (simp [intOf]; omega) | omega⟩
set_option maxHeartbeats 2000000 in
theorem iTripStops_c (n m f d : Int) (a : Option Addr) (k c : Nat) (l : List Ri) (w : World) (hX : Rid w a k l) (hk : k ≤ 1048577) :
    Calls Try.prog 29 #[.agg #[.int .i64 n, .int .i64 m, .int .i64 f, .int .i64 d, .slice a k c]] w (Mk w (.int .i64 (tsT ⟨n, m, f, d, l⟩))) := by
  have X0 := Lib.hid hX
  have KV := fun w' (g : Rid w' a k l) => iTripValid_c n m f d a k c l w' g hk
  by_cases h : TOk ⟨n, m, f, d, l⟩
  case neg =>
    rw [tokB_f h] at KV
    have HV := Lib.hid KV
    have E := Lib.hid (tsT_f h)
    rw [E.out]
    clear hX h KV
    refine at_base fun wn hwn => ?_
    have T := Lib.hid (show Below w.heap.size w wn from by rw [hwn]; exact Below.refl _ _)
    clear hwn
    obtain ⟨g, hg⟩ : ∃ g, Array.size (World.heap wn) = g := ⟨_, rfl⟩
    have HGg := Lib.hid hg
    have hTg : w.heap.size ≤ g := by rw [← hg]; exact T.out.size
    have Tn := Lib.hid (show Below w.heap.size w (wn.alloc (.cells #[.int .i64 n, .int .i64 m, .int .i64 f, .int .i64 d, .slice a k c] 27)) from (Below.al T.out (.cells #[.int .i64 n, .int .i64 m, .int .i64 f, .int .i64 d, .slice a k c] 27)))
    have TB := Lib.hid (show BoxV (wn.alloc (.cells #[.int .i64 n, .int .i64 m, .int .i64 f, .int .i64 d, .slice a k c] 27)) g [.int .i64 n, .int .i64 m, .int .i64 f, .int .i64 d, .slice a k c] from by have h9 := (BoxV.new wn [.int .i64 n, .int .i64 m, .int .i64 f, .int .i64 d, .slice a k c] 27 (by simp) rfl); simp only [World.size_alloc, hg, Nat.add_assoc, Nat.reduceAdd] at h9; exact h9)
    have HZg := Lib.hid (show ((wn.alloc (.cells #[.int .i64 n, .int .i64 m, .int .i64 f, .int .i64 d, .slice a k c] 27))).heap.size = g + 1 from by simp only [World.size_alloc, hg, Nat.add_assoc, Nat.reduceAdd])
    clear hg
    clear T
    have T := Tn
    clear Tn
    go_enter Try.func29, Try.ntmps29
    have c0 := (TB.out.2 0 _ rfl).1
    have c1 := (TB.out.2 1 _ rfl).1
    have c2 := (TB.out.2 2 _ rfl).1
    have c3 := (TB.out.2 3 _ rfl).1
    have c4 := (TB.out.2 4 _ rfl).1
    go_wp2_with fail
    rw [HGg.out]
    refine Calls.mono (HV.out _ (Rid.below X0.out T.out)) ?_
    intro e wn hh
    obtain ⟨he, hb⟩ := (by first | exact hh | exact Ro.mk hh | exact St.mk hh | exact LawOk.mk' hh : Mk _ _ e wn)
    subst he
    have Tn : Hid (Below w.heap.size w wn) := below_next T.out hb
    have TBn : Hid _ := BoxV.below TB.out hb
    clear hb hh c0 c1 c2 c3 c4
    clear T TB
    have T := Tn
    have TB := TBn
    clear Tn TBn
    go_wp2_with fail
    go_ret
    exact Mk.i rfl T.out
  rw [tokB_t h] at KV
  have HV := Lib.hid KV
  have E := Lib.hid (tsT_t h)
  have KG := fun w' (g : Rid w' a k l) => goOn_c n m f d a k c l w' g hk
  rw [goN_t h] at KG
  rw [E.out]
  obtain ⟨y, hy⟩ : ∃ y, teT ⟨n, m, f, d, l⟩ = y := ⟨_, rfl⟩
  obtain ⟨z, hz⟩ : ∃ z, tsn 16 ⟨n, m, f, d, l⟩ = z := ⟨_, rfl⟩
  rw [hy, hz] at KG
  rw [hz]
  have HG := Lib.hid KG
  clear hX h KV KG E hy hz
  refine at_base fun wn hwn => ?_
  have T := Lib.hid (show Below w.heap.size w wn from by rw [hwn]; exact Below.refl _ _)
  clear hwn
  obtain ⟨g, hg⟩ : ∃ g, Array.size (World.heap wn) = g := ⟨_, rfl⟩
  have HGg := Lib.hid hg
  have hTg : w.heap.size ≤ g := by rw [← hg]; exact T.out.size
  have Tn := Lib.hid (show Below w.heap.size w (wn.alloc (.cells #[.int .i64 n, .int .i64 m, .int .i64 f, .int .i64 d, .slice a k c] 27)) from (Below.al T.out (.cells #[.int .i64 n, .int .i64 m, .int .i64 f, .int .i64 d, .slice a k c] 27)))
  have TB := Lib.hid (show BoxV (wn.alloc (.cells #[.int .i64 n, .int .i64 m, .int .i64 f, .int .i64 d, .slice a k c] 27)) g [.int .i64 n, .int .i64 m, .int .i64 f, .int .i64 d, .slice a k c] from by have h9 := (BoxV.new wn [.int .i64 n, .int .i64 m, .int .i64 f, .int .i64 d, .slice a k c] 27 (by simp) rfl); simp only [World.size_alloc, hg, Nat.add_assoc, Nat.reduceAdd] at h9; exact h9)
  have HZg := Lib.hid (show ((wn.alloc (.cells #[.int .i64 n, .int .i64 m, .int .i64 f, .int .i64 d, .slice a k c] 27))).heap.size = g + 1 from by simp only [World.size_alloc, hg, Nat.add_assoc, Nat.reduceAdd])
  clear hg
  clear T
  have T := Tn
  clear Tn
  go_enter Try.func29, Try.ntmps29
  have c0 := (TB.out.2 0 _ rfl).1
  have c1 := (TB.out.2 1 _ rfl).1
  have c2 := (TB.out.2 2 _ rfl).1
  have c3 := (TB.out.2 3 _ rfl).1
  have c4 := (TB.out.2 4 _ rfl).1
  go_wp2_with fail
  rw [HGg.out]
  refine Calls.mono (HV.out _ (Rid.below X0.out T.out)) ?_
  intro e wn hh
  obtain ⟨he, hb⟩ := (by first | exact hh | exact Ro.mk hh | exact St.mk hh | exact LawOk.mk' hh : Mk _ _ e wn)
  subst he
  have Tn : Hid (Below w.heap.size w wn) := below_next T.out hb
  have TBn : Hid _ := BoxV.below TB.out hb
  clear hb hh c0 c1 c2 c3 c4
  clear T TB
  have T := Tn
  have TB := TBn
  clear Tn TBn
  clear HV
  have c0 := (TB.out.2 0 _ rfl).1
  have c1 := (TB.out.2 1 _ rfl).1
  have c2 := (TB.out.2 2 _ rfl).1
  have c3 := (TB.out.2 3 _ rfl).1
  have c4 := (TB.out.2 4 _ rfl).1
  go_wp2_with fail
  refine Calls.mono (HG.out _ (Rid.below X0.out T.out)) ?_
  intro e wq hh
  obtain ⟨v2, he, hO2, hb2⟩ := hh
  subst he
  obtain ⟨av, cv, hv, -, -⟩ := OwnR.open hO2
  subst hv
  clear hO2 HG c0 c1 c2 c3 c4
  have Tn := Lib.hid (below_next T.out hb2)
  have TBn := Lib.hid (BoxV.below TB.out hb2)
  clear hb2
  clear T TB
  have T := Tn
  have TB := TBn
  clear Tn TBn
  obtain ⟨wn, hwq⟩ : ∃ w0, w0 = wq := ⟨_, rfl⟩
  subst hwq
  have hltTBHY := BoxV.lt TB.out
  have hWHY := T.out.size
  obtain ⟨HY, hHY⟩ : ∃ HY, Array.size (World.heap wn) = HY := ⟨_, rfl⟩
  have HHY : Hid _ := hHY
  rw [hHY] at hWHY hltTBHY
  have YB : Hid (BoxV (wn.alloc (.cells #[.int .i64 y.n, .int .i64 y.m, .int .i64 y.f, .int .i64 y.d, .slice av y.rs.length cv] 27)) HY [.int .i64 y.n, .int .i64 y.m, .int .i64 y.f, .int .i64 y.d, .slice av y.rs.length cv]) := by rw [← hHY]; exact BoxV.new _ _ _ (by simp) rfl
  clear hHY
  have Tn : Hid (Below w.heap.size w _) := Below.al T.out (.cells #[.int .i64 y.n, .int .i64 y.m, .int .i64 y.f, .int .i64 y.d, .slice av y.rs.length cv] 27)
  have TBn : Hid _ := BoxV.below TB.out ((Below.refl _ _).alloc (Nat.le_refl _) (.cells #[.int .i64 y.n, .int .i64 y.m, .int .i64 y.f, .int .i64 y.d, .slice av y.rs.length cv] 27))
  clear T TB
  have T := Tn
  have TB := TBn
  clear Tn TBn
  go_upto_region 4 with fail
  rw [HHY.out]
  generalize wn.alloc _ = w0 at *
  obtain ⟨wn, hwq⟩ : ∃ w9 : World, w9 = w0 := ⟨_, rfl⟩
  subst hwq
  clear HHY
  go_wp2_with fail
  go_ret
  exact Mk.i rfl T.out
set_option maxHeartbeats 2000000 in
theorem iTripEnd_c (n m f d : Int) (a : Option Addr) (k c : Nat) (l : List Ri) (w : World) (hX : Rid w a k l) (hk : k ≤ 1048577) :
    Calls Try.prog 32 #[.agg #[.int .i64 n, .int .i64 m, .int .i64 f, .int .i64 d, .slice a k c]] w (NewT w (teT ⟨n, m, f, d, l⟩) id) := by
  have X0 := Lib.hid hX
  have KG := fun w' (g : Rid w' a k l) => goOn_c n m f d a k c l w' g hk
  obtain ⟨y, hy⟩ : ∃ y, teT ⟨n, m, f, d, l⟩ = y := ⟨_, rfl⟩
  obtain ⟨z, hz⟩ : ∃ z, goN ⟨n, m, f, d, l⟩ = z := ⟨_, rfl⟩
  rw [hy, hz] at KG
  rw [hy]
  have HG := Lib.hid KG
  clear hX KG hy hz
  refine at_base fun wn hwn => ?_
  have T := Lib.hid (show Below w.heap.size w wn from by rw [hwn]; exact Below.refl _ _)
  clear hwn
  obtain ⟨g, hg⟩ : ∃ g, Array.size (World.heap wn) = g := ⟨_, rfl⟩
  have HGg := Lib.hid hg
  have hTg : w.heap.size ≤ g := by rw [← hg]; exact T.out.size
  have Tn := Lib.hid (show Below w.heap.size w ((wn.alloc (.cells #[.int .i64 n, .int .i64 m, .int .i64 f, .int .i64 d, .slice a k c] 27)).alloc (.cells #[.int .i64 0, .int .i64 0, .int .i64 0, .int .i64 0, .slice none 0 0] 27)) from (Below.al (Below.al T.out (.cells #[.int .i64 n, .int .i64 m, .int .i64 f, .int .i64 d, .slice a k c] 27)) (.cells #[.int .i64 0, .int .i64 0, .int .i64 0, .int .i64 0, .slice none 0 0] 27)))
  have TB := Lib.hid (show BoxV ((wn.alloc (.cells #[.int .i64 n, .int .i64 m, .int .i64 f, .int .i64 d, .slice a k c] 27)).alloc (.cells #[.int .i64 0, .int .i64 0, .int .i64 0, .int .i64 0, .slice none 0 0] 27)) g [.int .i64 n, .int .i64 m, .int .i64 f, .int .i64 d, .slice a k c] from by have h9 := (BoxV.al (BoxV.new wn [.int .i64 n, .int .i64 m, .int .i64 f, .int .i64 d, .slice a k c] 27 (by simp) rfl) (.cells #[.int .i64 0, .int .i64 0, .int .i64 0, .int .i64 0, .slice none 0 0] 27)); simp only [World.size_alloc, hg, Nat.add_assoc, Nat.reduceAdd] at h9; exact h9)
  have RR := Lib.hid (show BoxV ((wn.alloc (.cells #[.int .i64 n, .int .i64 m, .int .i64 f, .int .i64 d, .slice a k c] 27)).alloc (.cells #[.int .i64 0, .int .i64 0, .int .i64 0, .int .i64 0, .slice none 0 0] 27)) (g + 1) [.int .i64 0, .int .i64 0, .int .i64 0, .int .i64 0, .slice none 0 0] from by have h9 := (BoxV.new (wn.alloc (.cells #[.int .i64 n, .int .i64 m, .int .i64 f, .int .i64 d, .slice a k c] 27)) [.int .i64 0, .int .i64 0, .int .i64 0, .int .i64 0, .slice none 0 0] 27 (by simp) rfl); simp only [World.size_alloc, hg, Nat.add_assoc, Nat.reduceAdd] at h9; exact h9)
  have HZg := Lib.hid (show (((wn.alloc (.cells #[.int .i64 n, .int .i64 m, .int .i64 f, .int .i64 d, .slice a k c] 27)).alloc (.cells #[.int .i64 0, .int .i64 0, .int .i64 0, .int .i64 0, .slice none 0 0] 27))).heap.size = g + 2 from by simp only [World.size_alloc, hg, Nat.add_assoc, Nat.reduceAdd])
  clear hg
  clear T
  have T := Tn
  clear Tn
  go_enter Try.func32, Try.ntmps32
  have c0 := (TB.out.2 0 _ rfl).1
  have c1 := (TB.out.2 1 _ rfl).1
  have c2 := (TB.out.2 2 _ rfl).1
  have c3 := (TB.out.2 3 _ rfl).1
  have c4 := (TB.out.2 4 _ rfl).1
  go_wp2_with fail
  rw [HGg.out]
  refine Calls.mono (HG.out _ (Rid.below X0.out T.out)) ?_
  intro e wq hh
  obtain ⟨v2, he, hO2, hb2⟩ := hh
  subst he
  obtain ⟨av, cv, hv, -, -⟩ := OwnR.open hO2
  subst hv
  have hlt2 := OwnR.lt hO2
  have hRl := BoxV.lt RR.out
  have HN2 := Lib.hid (show ∀ q, (Value.slice av y.rs.length cv).ownBlock = some q → w.heap.size ≤ q ∧ q ≠ g + 1 from fun q hq => by have := hlt2 q hq; have := T.out.size; omega)
  have O := Lib.hid (OwnR.mono hO2 T.out.size)
  clear hO2 HG c0 c1 c2 c3 c4 hlt2 hRl
  have Tn := Lib.hid (below_next T.out hb2)
  have TBn := Lib.hid (BoxV.below TB.out hb2)
  have RRn := Lib.hid (BoxV.below RR.out hb2)
  clear hb2
  clear T TB RR
  have T := Tn
  have TB := TBn
  have RR := RRn
  clear Tn TBn RRn
  obtain ⟨wn, hwq⟩ : ∃ w0, w0 = wq := ⟨_, rfl⟩
  subst hwq
  have hltTBHY := BoxV.lt TB.out
  have hltRRHY := BoxV.lt RR.out
  have hWHY := T.out.size
  obtain ⟨HY, hHY⟩ : ∃ HY, Array.size (World.heap wn) = HY := ⟨_, rfl⟩
  have HHY : Hid _ := hHY
  rw [hHY] at hWHY hltTBHY hltRRHY
  have YB : Hid (BoxV (wn.alloc (.cells #[.int .i64 y.n, .int .i64 y.m, .int .i64 y.f, .int .i64 y.d, .slice av y.rs.length cv] 27)) HY [.int .i64 y.n, .int .i64 y.m, .int .i64 y.f, .int .i64 y.d, .slice av y.rs.length cv]) := by rw [← hHY]; exact BoxV.new _ _ _ (by simp) rfl
  clear hHY
  have Tn : Hid (Below w.heap.size w _) := Below.al T.out (.cells #[.int .i64 y.n, .int .i64 y.m, .int .i64 y.f, .int .i64 y.d, .slice av y.rs.length cv] 27)
  have TBn : Hid _ := BoxV.below TB.out ((Below.refl _ _).alloc (Nat.le_refl _) (.cells #[.int .i64 y.n, .int .i64 y.m, .int .i64 y.f, .int .i64 y.d, .slice av y.rs.length cv] 27))
  have RRn : Hid _ := BoxV.below RR.out ((Below.refl _ _).alloc (Nat.le_refl _) (.cells #[.int .i64 y.n, .int .i64 y.m, .int .i64 y.f, .int .i64 y.d, .slice av y.rs.length cv] 27))
  have On : Hid _ := OwnR.below O.out ((Below.refl _ _).alloc (Nat.le_refl _) (.cells #[.int .i64 y.n, .int .i64 y.m, .int .i64 y.f, .int .i64 y.d, .slice av y.rs.length cv] 27))
  clear T TB RR O
  have T := Tn
  have TB := TBn
  have RR := RRn
  have O := On
  clear Tn TBn RRn On
  go_upto_region 2 with fail
  rw [HHY.out]
  generalize wn.alloc _ = w0 at *
  obtain ⟨wn, hwq⟩ : ∃ w9 : World, w9 = w0 := ⟨_, rfl⟩
  subst hwq
  clear HHY
  have Nw := newT_end (n := y.n) (m := y.m) (f := y.f) (d := y.d) (l := y.rs) (r := g + 1) (w := wn) (v := .slice av y.rs.length cv) (B := w.heap.size) O.out (Nat.le_refl _) T.out (by omega) (fun q hq => (HN2.out q hq).2) id
  rw [show (⟨y.n, y.m, y.f, y.d, y.rs⟩ : Tp) = y from rfl] at Nw
  unfold set5 at Nw
  have N2 := Lib.hid Nw
  clear Nw
  have d0 := (YB.out.2 0 _ rfl).1
  have d1 := (YB.out.2 1 _ rfl).1
  have d2 := (YB.out.2 2 _ rfl).1
  have d3 := (YB.out.2 3 _ rfl).1
  have d4 := (YB.out.2 4 _ rfl).1
  have e0 := (RR.out.2 0 _ rfl).1
  have ef0 := (RR.out.2 0 _ rfl).2
  have e1 := (RR.out.2 1 _ rfl).1
  have ef1 := (RR.out.2 1 _ rfl).2
  have e2 := (RR.out.2 2 _ rfl).1
  have ef2 := (RR.out.2 2 _ rfl).2
  have e3 := (RR.out.2 3 _ rfl).1
  have ef3 := (RR.out.2 3 _ rfl).2
  have e4 := (RR.out.2 4 _ rfl).1
  have ef4 := (RR.out.2 4 _ rfl).2
  clear YB RR O HN2 T TB
  go_wp2_with fail
  clear d0 d1 d2 d3 d4
  have c0 := e0
  have c1 := e1
  have c2 := e2
  have c3 := e3
  have c4 := e4
  exact bodyPost_ret (v := .agg #[.int .i64 y.n, .int .i64 y.m, .int .i64 y.f, .int .i64 y.d, .slice av y.rs.length cv]) (by simp [results, Try.results32, go_sem, c0, c1, c2, c3, c4]) rfl N2.out
end Go.Proofs.Ytfhhgddajmihjaa
