/- The contract of MotionStep, spec. -/
import Derived.Test.Ytcecmikmmggngaa2C
namespace Go.Proofs.Ytcecmikmmggngaa
open Go.RowKit
set_option linter.unusedVariables false

/-- The best speed of the first n tries: the last that fits, or the first one. -/
def bU (a s t : Int) : Nat → Int × Bool
  | 0 => (0, false)
  | n + 1 => if csB (a + (s + ((n : Int) - 1))) (s + ((n : Int) - 1)) t = true then (s + ((n : Int) - 1), true) else bU a s t n
def bD (a s t : Int) : Nat → Int × Bool
  | 0 => (0, false)
  | n + 1 => if csB (a + (s + ((n : Int) - 1))) (s + ((n : Int) - 1)) t = true ∧ (bD a s t n).2 = false then (s + ((n : Int) - 1), true) else bD a s t n
/-- The best speed after the tries before d. -/
def bst (up : Bool) (a s t d : Int) : Int × Bool := if up = true then bU a s t (d + 1).toNat else bD a s t (d + 1).toNat
theorem bst_start (up : Bool) (a s t : Int) : bst up a s t (-1) = (0, false) := by unfold bst; cases up <;> rfl
theorem bst_no {up : Bool} {a s t d : Int} (h0 : -1 ≤ d) (h : csB (a + (s + d)) (s + d) t = false) : bst up a s t (d + 1) = bst up a s t d := by
  obtain ⟨n, rfl⟩ : ∃ n : Nat, d = (n : Int) - 1 := ⟨(d + 1).toNat, by omega⟩
  have e1 : ((n : Int) - 1 + 1 + 1).toNat = n + 1 := by omega
  have e2 : ((n : Int) - 1 + 1).toNat = n := by omega
  unfold bst
  rw [e1, e2]
  cases up
  · show bD a s t (n + 1) = bD a s t n
    rw [bD, if_neg (by rw [h]; simp)]
  · show bU a s t (n + 1) = bU a s t n
    rw [bU, if_neg (by rw [h]; simp)]
theorem bst_yes {up : Bool} {a s t d : Int} (h0 : -1 ≤ d) (h : csB (a + (s + d)) (s + d) t = true) (k : up = true ∨ (bst up a s t d).2 = false) : bst up a s t (d + 1) = (s + d, true) := by
  obtain ⟨n, rfl⟩ : ∃ n : Nat, d = (n : Int) - 1 := ⟨(d + 1).toNat, by omega⟩
  have e1 : ((n : Int) - 1 + 1 + 1).toNat = n + 1 := by omega
  have e2 : ((n : Int) - 1 + 1).toNat = n := by omega
  unfold bst at *
  rw [e1]
  rw [e2] at k
  cases up
  · show bD a s t (n + 1) = _
    rw [bD, if_pos ⟨h, by simpa using k⟩]
  · show bU a s t (n + 1) = _
    rw [bU, if_pos h]
theorem bst_keep {a s t d : Int} (h0 : -1 ≤ d) (k : (bst false a s t d).2 = true) : bst false a s t (d + 1) = bst false a s t d := by
  obtain ⟨n, rfl⟩ : ∃ n : Nat, d = (n : Int) - 1 := ⟨(d + 1).toNat, by omega⟩
  have e1 : ((n : Int) - 1 + 1 + 1).toNat = n + 1 := by omega
  have e2 : ((n : Int) - 1 + 1).toNat = n := by omega
  unfold bst at *
  rw [e2] at k
  rw [e1, e2]
  show bD a s t (n + 1) = bD a s t n
  rw [bD, if_neg (by intro h; have := h.2; simp at k; rw [k] at this; cases this)]
theorem cs_sp {a s t : Int} (h : CS a s t) : -5 ≤ s ∧ s ≤ 5 := h.1.2.2
/-- What was found first goes down to s - 1, what was found last up to s + 1; what was found lies below the try that is next. -/
theorem bst_lt (up : Bool) (a s t : Int) : ∀ n : Nat, ((bst up a s t ((n : Int) - 1)).2 = true → (bst up a s t ((n : Int) - 1)).1 < s + ((n : Int) - 1)) ∧ ((bst up a s t ((n : Int) - 1)).2 = false → (bst up a s t ((n : Int) - 1)).1 = 0) ∧ ((bst up a s t ((n : Int) - 1)).2 = true → CS (a + (bst up a s t ((n : Int) - 1)).1) (bst up a s t ((n : Int) - 1)).1 t) := by
  intro n
  induction n with
  | zero => rw [show ((0 : Nat) : Int) - 1 = -1 from rfl, bst_start]; simp
  | succ n ih =>
    have e : (((n + 1 : Nat) : Int) - 1) = ((n : Int) - 1) + 1 := by omega
    rw [e]
    cases f : csB (a + (s + ((n : Int) - 1))) (s + ((n : Int) - 1)) t
    · rw [bst_no (by omega) f]; exact ⟨fun g => by have := ih.1 g; omega, ih.2.1, ih.2.2⟩
    · by_cases k : up = true ∨ (bst up a s t ((n : Int) - 1)).2 = false
      · rw [bst_yes (by omega) f k]; exact ⟨fun _ => by simp only; omega, fun g => by simp at g, fun _ => csB_iff.1 f⟩
      · have hu : up = false := by cases up <;> simp_all
        subst hu
        have hk : (bst false a s t ((n : Int) - 1)).2 = true := by
          cases g : (bst false a s t ((n : Int) - 1)).2
          · exact absurd (.inr g) k
          · rfl
        rw [bst_keep (by omega) hk]; exact ⟨fun g => by have := ih.1 g; omega, ih.2.1, ih.2.2⟩
theorem bst_facts (up : Bool) (a s t : Int) {d : Int} (h : -1 ≤ d) : ((bst up a s t d).2 = true → (bst up a s t d).1 < s + d) ∧ ((bst up a s t d).2 = false → (bst up a s t d).1 = 0) ∧ ((bst up a s t d).2 = true → CS (a + (bst up a s t d).1) (bst up a s t d).1 t) := by
  have := bst_lt up a s t (d + 1).toNat
  have e : (((d + 1).toNat : Nat) : Int) - 1 = d := by omega
  rw [e] at this
  exact this
theorem ite_fst {c : Prop} [Decidable c] (x y : Int) (b : Bool) (p : Int × Bool) (n : Int) (h1 : c → x = n) (h2 : ¬ c → p.1 = n) : (if c then (x, b) else p).1 = n := by
  by_cases h : c
  · rw [if_pos h]; exact h1 h
  · rw [if_neg h]; exact h2 h
/-- The speed of the next tick, by the tries in their order. -/
theorem ns_tries {a s t : Int} (h : CS a s t) :
    (a ≤ t → (CS (a + (s + 1)) (s + 1) t → s + 1 = ns a s t) ∧ (¬ CS (a + (s + 1)) (s + 1) t → CS (a + (s + 0)) (s + 0) t → s + 0 = ns a s t) ∧ (¬ CS (a + (s + 1)) (s + 1) t → ¬ CS (a + (s + 0)) (s + 0) t → CS (a + (s + -1)) (s + -1) t ∧ s + -1 = ns a s t)) ∧
    (¬ a ≤ t → (CS (a + (s + -1)) (s + -1) t → s + -1 = ns a s t) ∧ (¬ CS (a + (s + -1)) (s + -1) t → CS (a + (s + 0)) (s + 0) t → s + 0 = ns a s t) ∧ (¬ CS (a + (s + -1)) (s + -1) t → ¬ CS (a + (s + 0)) (s + 0) t → CS (a + (s + 1)) (s + 1) t ∧ s + 1 = ns a s t)) := by
  have hs : -5 ≤ s ∧ s ≤ 5 := h.1.2.2
  have k := ns_cases (a := a) (t := t) hs
  generalize ns a s t = n at *
  obtain ⟨b0, b1, b2, b3, b4, b5, b6, b7, b8, b9, b10, b11, b12⟩ := bwv
  rcases Int.lt_trichotomy t a with g | g | g
  case' inl => rw [sgn_lt g] at k
  case' inr.inl => subst g; rw [sgn_eq] at k
  case' inr.inr => rw [sgn_gt g] at k
  all_goals
    rcases sp_cases hs with e | e | e | e | e | e | e | e | e | e | e
    all_goals
      subst e
      simp only [slow, sgn, Int.reduceAdd, Int.reduceLT, Int.reduceNeg, Int.reduceSub, if_true, if_false] at k ⊢
      rcases k with ⟨-, ⟨k, e⟩ | ⟨k, k2, e⟩ | ⟨k, k2, e⟩⟩ | ⟨k, e⟩
      all_goals
        subst e
        unfold CS at *
        try simp only [b1, b2, b3, b4, b5, b6, b7, b8, b9, b10, b11, Int.reduceLT, Int.reduceNeg, true_imp_iff, false_imp_iff, and_true, true_and] at k2
        simp only [b0, b1, b2, b3, b4, b5, b6, b7, b8, b9, b10, b11, b12, Int.reduceLT, Int.reduceNeg, true_imp_iff, false_imp_iff, and_true, true_and] at h k ⊢
        refine ⟨fun u => ⟨fun c => ?_, fun c d => ?_, fun c d => ?_⟩, fun u => ⟨fun c => ?_, fun c d => ?_, fun c d => ?_⟩⟩ <;> first | exact True.intro | omega
theorem bst_end {a s t : Int} (h : CS a s t) : (bst (decide (a ≤ t)) a s t 2).1 = ns a s t := by
  have k := ns_tries h
  have u0 : bU a s t 3 = if csB (a + (s + 1)) (s + 1) t = true then (s + 1, true) else if csB (a + (s + 0)) (s + 0) t = true then (s + 0, true) else if csB (a + (s + -1)) (s + -1) t = true then (s + -1, true) else (0, false) := rfl
  have d0 : bD a s t 3 = if csB (a + (s + 1)) (s + 1) t = true ∧ (bD a s t 2).2 = false then (s + 1, true) else bD a s t 2 := rfl
  have d1 : bD a s t 2 = if csB (a + (s + 0)) (s + 0) t = true ∧ (bD a s t 1).2 = false then (s + 0, true) else bD a s t 1 := rfl
  have d2 : bD a s t 1 = if csB (a + (s + -1)) (s + -1) t = true ∧ false = false then (s + -1, true) else (0, false) := rfl
  simp only [csB_iff, and_true] at u0 d0 d1 d2
  by_cases up : a ≤ t
  · have e : bst (decide (a ≤ t)) a s t 2 = bU a s t 3 := by unfold bst; rw [decide_eq_true up]; rfl
    obtain ⟨k1, k2, k3⟩ := k.1 up
    rw [e, u0]
    by_cases c1 : CS (a + (s + 1)) (s + 1) t
    · rw [if_pos c1]; exact k1 c1
    · rw [if_neg c1]
      by_cases c2 : CS (a + (s + 0)) (s + 0) t
      · rw [if_pos c2]; exact k2 c1 c2
      · rw [if_neg c2, if_pos (k3 c1 c2).1]; exact (k3 c1 c2).2
  · have e : bst (decide (a ≤ t)) a s t 2 = bD a s t 3 := by unfold bst; rw [decide_eq_false up]; rfl
    obtain ⟨k1, k2, k3⟩ := k.2 up
    rw [e]
    by_cases c1 : CS (a + (s + -1)) (s + -1) t
    · rw [if_pos c1] at d2
      rw [d2] at d1
      rw [if_neg (by simp)] at d1
      rw [d1] at d0
      rw [if_neg (by simp)] at d0
      rw [d0]; exact k1 c1
    · rw [if_neg c1] at d2
      rw [d2] at d1
      by_cases c2 : CS (a + (s + 0)) (s + 0) t
      · rw [if_pos ⟨c2, rfl⟩] at d1
        rw [d1] at d0
        rw [if_neg (by simp)] at d0
        rw [d0]; exact k2 c1 c2
      · rw [if_neg (fun h => c2 h.1)] at d1
        rw [d1] at d0
        rw [if_pos ⟨(k3 c1 c2).1, rfl⟩] at d0
        rw [d0]; exact (k3 c1 c2).2

set_option maxHeartbeats 1000000 in
theorem sMotionStep_c (a s t : Int) (w : World) : Calls Try.prog 48 #[(Value.agg #[.int .i64 (a), .int .i64 (s)]), .int .i64 t] w (Mk w (Value.agg #[.int .i64 ((mst a s t).1), .int .i64 ((mst a s t).2)])) := by
  have q := box2 w a s 0 0 25 25
  have Q : Hid _ := q
  clear q
  cases h1 : mvB a s
  · have e : Hid _ := mst_bad (a := a) (s := s) (t := t) (by rw [h1]; simp)
    go_enter Try.func48, Try.ntmps48
    go_wp2_with fail
    refine (sMotionValid_c a s _).mono ?_
    rintro e' w1 ⟨rfl, hb⟩
    obtain ⟨⟨c0, c1⟩, f0, f1⟩ := Box.below Q.out.2 hb
    go_wp2_with fail
    exact bodyPost_ret (v := (Value.agg #[.int .i64 (0), .int .i64 (0)])) (by simp [results, Try.results48, go_sem, c0, c1]) rfl (Mk.g (by rw [e.out]) (by rw [e.out]) (by repeat (first | exact Below.refl _ _ | refine Below.al ?_ _ | refine Below.dr ?_ _ | refine Below.dw ?_ | refine Below.st ?_ (by first | exact Nat.le_refl _ | exact Nat.le_add_right _ _ | (simp; omega)) _ | (refine below_next ?_ (by assumption)))))
  cases h2 : inB 0 t 60
  · have e : Hid _ := mst_bad (a := a) (s := s) (t := t) (by rw [h2]; simp)
    go_enter Try.func48, Try.ntmps48
    go_wp2_with fail
    refine (sMotionValid_c a s _).mono ?_
    rintro e' w1 ⟨rfl, hb⟩
    obtain ⟨⟨c0, c1⟩, f0, f1⟩ := Box.below Q.out.2 hb
    go_wp2_with fail
    refine (l1In_c _ _ _ _).mono ?_
    rintro e' w2 ⟨rfl, n, rfl⟩
    go_wp2_with fail
    exact bodyPost_ret (v := (Value.agg #[.int .i64 (0), .int .i64 (0)])) (by simp [results, Try.results48, go_sem, c0, c1]) rfl (Mk.g (by rw [e.out]) (by rw [e.out]) (by repeat (first | exact Below.refl _ _ | refine Below.al ?_ _ | refine Below.dr ?_ _ | refine Below.dw ?_ | refine Below.st ?_ (by first | exact Nat.le_refl _ | exact Nat.le_add_right _ _ | (simp; omega)) _ | (refine below_next ?_ (by assumption)))))
  have hv := mvB_iff.1 h1
  obtain ⟨v1, v2, v3, v4⟩ := hv
  have HS : Hid (-5 ≤ s ∧ s ≤ 5) := ⟨v3, v4⟩
  have hm : Hid _ := mst_ok h1 h2
  by_cases k1 : CS a s t
  · have t1 := csB_t k1
    obtain ⟨up, hup⟩ : ∃ up : Bool, up = decide (a ≤ t) := ⟨_, rfl⟩
    have HU : Hid _ := hup
    have EN : Hid ((bst up a s t 2).1 = ns a s t) := by rw [hup]; exact bst_end k1
    have IN : Hid (0 ≤ a + ns a s t ∧ a + ns a s t ≤ 60) := ⟨(cs_next k1).1.1.1, (cs_next k1).1.1.2.1⟩
    have IS : Hid (-5 ≤ ns a s t ∧ ns a s t ≤ 5) := (cs_next k1).1.1.2.2
    clear hup
    go_enter Try.func48, Try.ntmps48
    go_wp2_with fail
    refine (sMotionValid_c a s _).mono ?_
    rintro e' w1 ⟨rfl, hb⟩
    have B1 : Hid _ := Box.below Q.out.1 hb
    have B2 : Hid _ := Box.below Q.out.2 hb
    have HB : Hid (Below w.heap.size w w1) := (by repeat (first | exact Below.refl _ _ | refine Below.al ?_ _ | refine Below.dr ?_ _ | refine Below.dw ?_ | refine Below.st ?_ (by first | exact Nat.le_refl _ | exact Nat.le_add_right _ _ | (simp; omega)) _ | (refine below_next ?_ (by assumption))))
    clear hb
    obtain ⟨⟨c0, c1⟩, f0, f1⟩ := B1.out
    go_wp2_with fail
    refine (l1In_c _ _ _ _).mono ?_
    rintro e' w2 ⟨rfl, n, rfl⟩
    go_wp2_with fail
    refine (sCanStop_c a s t _).mono ?_
    rintro e' w2 ⟨rfl, hb⟩
    have B3 : Hid _ := Box.below (Box.dr B1.out n) hb
    have B4 : Hid _ := Box.below (Box.dr B2.out n) hb
    have HB2 : Hid (Below w.heap.size w w2) := below_next (Below.dr HB.out n) hb
    clear hb c0 c1 f0 f1
    obtain ⟨⟨c0, c1⟩, f0, f1⟩ := B3.out
    go_wp2_with fail
    rw [← HU.out]
    clear B1 B2 HB c0 c1 f0 f1 Q
    go_loopw [9, 7, 8] (fun vd vb vf wr => ∃ (d be : Int) (fo : Bool), -1 ≤ d ∧ d ≤ 2 ∧ vd = .int .i64 d ∧ vb = .int .i64 be ∧ vf = .bool fo ∧ bst up a s t d = (be, fo) ∧ Box wr w.heap.size a s ∧ Box wr (w.heap.size + 1) 0 0 ∧ Below w.heap.size w wr) (fun vd _ _ _ => (2 - intOf vd).toNat)
    case atStart => exact ⟨-1, 0, false, by omega, by omega, rfl, rfl, rfl, bst_start _ _ _ _, B3.out, B4.out, HB2.out⟩
    case round =>
      clear B3 B4 HB2
      obtain ⟨d, be, fo, hd0, hd1, rfl, rfl, rfl, q0, q1, q2, q4⟩ := hrel
      have Q0 : Hid _ := q0
      have Q1 : Hid _ := q1
      have Q2 : Hid _ := q2
      have Q4 : Hid _ := q4
      have fac := bst_facts up a s t hd0
      rw [q0] at fac
      simp only at fac
      have FA : Hid _ := fac
      clear q0 q1 q2 q4 fac
      obtain ⟨⟨c0, c1⟩, f0, f1⟩ := Q1.out
      by_cases hlt : d ≤ 1
      · cases fit : csB (a + (s + d)) (s + d) t
        · cases hin : inB (-5) (s + d) 5
          · go_wp2_with fail
            refine (l1In_c _ _ _ _).mono ?_
            rintro e' w3 ⟨rfl, n3, rfl⟩
            go_wp2_with fail
            go_roundw
            case rel => exact ⟨d + 1, be, fo, by omega, by omega, rfl, rfl, rfl, (bst_no hd0 fit).trans Q0.out, Box.dr Q1.out _, Box.dr Q2.out _, Below.dr Q4.out _⟩
            case measure => simp [intOf]; omega
          · go_wp2_with fail
            refine (l1In_c _ _ _ _).mono ?_
            rintro e' w3 ⟨rfl, n3, rfl⟩
            go_wp2_with fail
            refine (l2Fits_c a s (s + d) t _ (by omega) (by omega) (by omega) (by omega)).mono ?_
            rintro e' w4 ⟨rfl, hb⟩
            have D1 : Hid _ := Box.below (Box.dr Q1.out n3) hb
            have D2 : Hid _ := Box.below (Box.dr Q2.out n3) hb
            have D4 : Hid (Below w.heap.size w w4) := below_next (Below.dr Q4.out n3) hb
            clear hb
            go_wp2_with fail
            go_roundw
            case rel => exact ⟨d + 1, be, fo, by omega, by omega, rfl, rfl, rfl, (bst_no hd0 fit).trans Q0.out, D1.out, D2.out, D4.out⟩
            case measure => simp [intOf]; omega
        · have hin : inB (-5) (s + d) 5 = true := inB_t (cs_sp (csB_iff.1 fit))
          cases fo
          · go_wp2_with fail
            refine (l1In_c _ _ _ _).mono ?_
            rintro e' w3 ⟨rfl, n3, rfl⟩
            go_wp2_with fail
            refine (l2Fits_c a s (s + d) t _ (by omega) (by omega) (by omega) (by omega)).mono ?_
            rintro e' w4 ⟨rfl, hb⟩
            have D1 : Hid _ := Box.below (Box.dr Q1.out n3) hb
            have D2 : Hid _ := Box.below (Box.dr Q2.out n3) hb
            have D4 : Hid (Below w.heap.size w w4) := below_next (Below.dr Q4.out n3) hb
            clear hb
            go_wp2_with fail
            go_roundw
            case rel => exact ⟨d + 1, s + d, true, by omega, by omega, rfl, rfl, rfl, bst_yes hd0 fit (.inr (by rw [Q0.out])), D1.out, D2.out, D4.out⟩
            case measure => simp [intOf]; omega
          · have gt : be < s + d := FA.out.1 rfl
            have gt' : ¬ s + d < be := by omega
            cases up
            · go_wp2_with fail
              refine (l1In_c _ _ _ _).mono ?_
              rintro e' w3 ⟨rfl, n3, rfl⟩
              go_wp2_with fail
              refine (l2Fits_c a s (s + d) t _ (by omega) (by omega) (by omega) (by omega)).mono ?_
              rintro e' w4 ⟨rfl, hb⟩
              have D1 : Hid _ := Box.below (Box.dr Q1.out n3) hb
              have D2 : Hid _ := Box.below (Box.dr Q2.out n3) hb
              have D4 : Hid (Below w.heap.size w w4) := below_next (Below.dr Q4.out n3) hb
              clear hb
              go_wp2_with fail
              go_roundw
              case rel => exact ⟨d + 1, be, true, by omega, by omega, rfl, rfl, rfl, (bst_keep hd0 (by rw [Q0.out])).trans Q0.out, D1.out, D2.out, D4.out⟩
              case measure => simp [intOf]; omega
            · go_wp2_with fail
              refine (l1In_c _ _ _ _).mono ?_
              rintro e' w3 ⟨rfl, n3, rfl⟩
              go_wp2_with fail
              refine (l2Fits_c a s (s + d) t _ (by omega) (by omega) (by omega) (by omega)).mono ?_
              rintro e' w4 ⟨rfl, hb⟩
              have D1 : Hid _ := Box.below (Box.dr Q1.out n3) hb
              have D2 : Hid _ := Box.below (Box.dr Q2.out n3) hb
              have D4 : Hid (Below w.heap.size w w4) := below_next (Below.dr Q4.out n3) hb
              clear hb
              go_wp2_with fail
              go_roundw
              case rel => exact ⟨d + 1, s + d, true, by omega, by omega, rfl, rfl, rfl, bst_yes hd0 fit (.inl rfl), D1.out, D2.out, D4.out⟩
              case measure => simp [intOf]; omega
      · obtain rfl : d = 2 := by omega
        have hbe : Hid (be = ns a s t) := by have := EN.out; rw [Q0.out] at this; exact this
        have hr := IN.out
        rw [← hbe.out] at hr
        have hr0 := hr.1
        have hr1 := hr.2
        have t2 : inB 0 (a + be) 60 = true := inB_t hr
        have hs5 := IS.out
        rw [← hbe.out] at hs5
        have hs50 := hs5.1
        have hs51 := hs5.2
        clear hr hs5
        go_wp2_with fail
        refine (l1In_c _ _ _ _).mono ?_
        rintro e' w3 ⟨rfl, n3, rfl⟩
        clear c0 c1 f0 f1
        obtain ⟨⟨c0, c1⟩, f0, f1⟩ := Q2.out
        go_wp2_with fail
        exact bodyPost_ret (v := (Value.agg #[.int .i64 (a + be), .int .i64 (be)])) (by simp [results, Try.results48, go_sem, c0, c1]) rfl (Mk.g (by rw [hm.out]; unfold ms; rw [← hbe.out, kept_in ⟨hr0, hr1⟩]) (by rw [hm.out]; unfold ms; rw [← hbe.out, kept_in ⟨hr0, hr1⟩]) (by have HZ := Q4.out; exact (by repeat (first | exact Below.refl _ _ | refine Below.al ?_ _ | refine Below.dr ?_ _ | refine Below.dw ?_ | refine Below.st ?_ (by first | exact Nat.le_refl _ | exact Nat.le_add_right _ _ | (simp; omega)) _ | (refine below_next ?_ (by assumption))))))
  · have t1 := csB_f k1
    have k : ns a s t = slow s := by
      unfold ns; rw [if_neg (by rw [t1]; simp)]
    have s0 : s ≠ 0 := fun h => k1 ⟨⟨v1, v2, v3, v4⟩, inB_iff.1 h2, fun _ => by omega, fun _ => by omega⟩
    rcases (by omega : 0 < s ∨ s < 0) with g | g
    · have SL : Hid (slow s = s - 1) := by show slow s = _; unfold slow sgn; omega
      rcases (by omega : 60 < a + (s - 1) ∨ (0 ≤ a + (s - 1) ∧ a + (s - 1) ≤ 60)) with r | r
      · have KE : Hid (mst a s t = (60, 0)) := by rw [hm.out]; unfold ms; rw [k, SL.out]; exact kept_hi r
        have t2 : inB 0 (a + (s - 1)) 60 = false := inB_f (by omega)
        have K : Hid _ := k
        clear k
        go_enter Try.func48, Try.ntmps48
        go_wp2_with fail
        refine (sMotionValid_c a s _).mono ?_
        rintro e' w1 ⟨rfl, hb⟩
        have B1 : Hid _ := Box.below Q.out.1 hb
        have B2 : Hid _ := Box.below Q.out.2 hb
        have HB : Hid (Below w.heap.size w w1) := (by repeat (first | exact Below.refl _ _ | refine Below.al ?_ _ | refine Below.dr ?_ _ | refine Below.dw ?_ | refine Below.st ?_ (by first | exact Nat.le_refl _ | exact Nat.le_add_right _ _ | (simp; omega)) _ | (refine below_next ?_ (by assumption))))
        clear hb
        obtain ⟨⟨c0, c1⟩, f0, f1⟩ := B1.out
        go_wp2_with fail
        refine (l1In_c _ _ _ _).mono ?_
        rintro e' w2 ⟨rfl, n, rfl⟩
        go_wp2_with fail
        refine (sCanStop_c a s t _).mono ?_
        rintro e' w2 ⟨rfl, hb⟩
        have B3 : Hid _ := Box.below (Box.dr B1.out n) hb
        have B4 : Hid _ := Box.below (Box.dr B2.out n) hb
        have HB2 : Hid (Below w.heap.size w w2) := below_next (Below.dr HB.out n) hb
        clear hb c0 c1 f0 f1
        obtain ⟨⟨c0, c1⟩, f0, f1⟩ := B3.out
        go_wp2_with fail
        refine (l1In_c _ _ _ _).mono ?_
        rintro e' w3 ⟨rfl, n3, rfl⟩
        clear c0 c1 f0 f1
        obtain ⟨⟨c0, c1⟩, f0, f1⟩ := B4.out
        go_wp2_with fail
        exact bodyPost_ret (v := (Value.agg #[.int .i64 (60), .int .i64 (0)])) (by simp [results, Try.results48, go_sem, c0, c1]) rfl (Mk.g (by rw [KE.out]) (by rw [KE.out]) (by have HZ := HB2.out; exact (by repeat (first | exact Below.refl _ _ | refine Below.al ?_ _ | refine Below.dr ?_ _ | refine Below.dw ?_ | refine Below.st ?_ (by first | exact Nat.le_refl _ | exact Nat.le_add_right _ _ | (simp; omega)) _ | (refine below_next ?_ (by assumption))))))
      · have KE : Hid (mst a s t = (a + (s - 1), s - 1)) := by rw [hm.out]; unfold ms; rw [k, SL.out]; exact kept_in r
        have t2 : inB 0 (a + (s - 1)) 60 = true := inB_t r
        have K : Hid _ := k
        clear k
        go_enter Try.func48, Try.ntmps48
        go_wp2_with fail
        refine (sMotionValid_c a s _).mono ?_
        rintro e' w1 ⟨rfl, hb⟩
        have B1 : Hid _ := Box.below Q.out.1 hb
        have B2 : Hid _ := Box.below Q.out.2 hb
        have HB : Hid (Below w.heap.size w w1) := (by repeat (first | exact Below.refl _ _ | refine Below.al ?_ _ | refine Below.dr ?_ _ | refine Below.dw ?_ | refine Below.st ?_ (by first | exact Nat.le_refl _ | exact Nat.le_add_right _ _ | (simp; omega)) _ | (refine below_next ?_ (by assumption))))
        clear hb
        obtain ⟨⟨c0, c1⟩, f0, f1⟩ := B1.out
        go_wp2_with fail
        refine (l1In_c _ _ _ _).mono ?_
        rintro e' w2 ⟨rfl, n, rfl⟩
        go_wp2_with fail
        refine (sCanStop_c a s t _).mono ?_
        rintro e' w2 ⟨rfl, hb⟩
        have B3 : Hid _ := Box.below (Box.dr B1.out n) hb
        have B4 : Hid _ := Box.below (Box.dr B2.out n) hb
        have HB2 : Hid (Below w.heap.size w w2) := below_next (Below.dr HB.out n) hb
        clear hb c0 c1 f0 f1
        obtain ⟨⟨c0, c1⟩, f0, f1⟩ := B3.out
        go_wp2_with fail
        refine (l1In_c _ _ _ _).mono ?_
        rintro e' w3 ⟨rfl, n3, rfl⟩
        clear c0 c1 f0 f1
        obtain ⟨⟨c0, c1⟩, f0, f1⟩ := B4.out
        go_wp2_with fail
        exact bodyPost_ret (v := (Value.agg #[.int .i64 (a + (s - 1)), .int .i64 (s - 1)])) (by simp [results, Try.results48, go_sem, c0, c1]) rfl (Mk.g (by rw [KE.out]) (by rw [KE.out]) (by have HZ := HB2.out; exact (by repeat (first | exact Below.refl _ _ | refine Below.al ?_ _ | refine Below.dr ?_ _ | refine Below.dw ?_ | refine Below.st ?_ (by first | exact Nat.le_refl _ | exact Nat.le_add_right _ _ | (simp; omega)) _ | (refine below_next ?_ (by assumption))))))
    · have g0 : ¬ 0 < s := by omega
      have SL : Hid (slow s = s + 1) := by show slow s = _; unfold slow sgn; omega
      rcases (by omega : a + (s + 1) < 0 ∨ (0 ≤ a + (s + 1) ∧ a + (s + 1) ≤ 60)) with r | r
      · have KE : Hid (mst a s t = (0, 0)) := by rw [hm.out]; unfold ms; rw [k, SL.out]; exact kept_lo r
        have t2 : inB 0 (a + (s + 1)) 60 = false := inB_f (by omega)
        have K : Hid _ := k
        clear k
        go_enter Try.func48, Try.ntmps48
        go_wp2_with fail
        refine (sMotionValid_c a s _).mono ?_
        rintro e' w1 ⟨rfl, hb⟩
        have B1 : Hid _ := Box.below Q.out.1 hb
        have B2 : Hid _ := Box.below Q.out.2 hb
        have HB : Hid (Below w.heap.size w w1) := (by repeat (first | exact Below.refl _ _ | refine Below.al ?_ _ | refine Below.dr ?_ _ | refine Below.dw ?_ | refine Below.st ?_ (by first | exact Nat.le_refl _ | exact Nat.le_add_right _ _ | (simp; omega)) _ | (refine below_next ?_ (by assumption))))
        clear hb
        obtain ⟨⟨c0, c1⟩, f0, f1⟩ := B1.out
        go_wp2_with fail
        refine (l1In_c _ _ _ _).mono ?_
        rintro e' w2 ⟨rfl, n, rfl⟩
        go_wp2_with fail
        refine (sCanStop_c a s t _).mono ?_
        rintro e' w2 ⟨rfl, hb⟩
        have B3 : Hid _ := Box.below (Box.dr B1.out n) hb
        have B4 : Hid _ := Box.below (Box.dr B2.out n) hb
        have HB2 : Hid (Below w.heap.size w w2) := below_next (Below.dr HB.out n) hb
        clear hb c0 c1 f0 f1
        obtain ⟨⟨c0, c1⟩, f0, f1⟩ := B3.out
        go_wp2_with fail
        refine (l1In_c _ _ _ _).mono ?_
        rintro e' w3 ⟨rfl, n3, rfl⟩
        clear c0 c1 f0 f1
        obtain ⟨⟨c0, c1⟩, f0, f1⟩ := B4.out
        go_wp2_with fail
        exact bodyPost_ret (v := (Value.agg #[.int .i64 (0), .int .i64 (0)])) (by simp [results, Try.results48, go_sem, c0, c1]) rfl (Mk.g (by rw [KE.out]) (by rw [KE.out]) (by have HZ := HB2.out; exact (by repeat (first | exact Below.refl _ _ | refine Below.al ?_ _ | refine Below.dr ?_ _ | refine Below.dw ?_ | refine Below.st ?_ (by first | exact Nat.le_refl _ | exact Nat.le_add_right _ _ | (simp; omega)) _ | (refine below_next ?_ (by assumption))))))
      · have KE : Hid (mst a s t = (a + (s + 1), s + 1)) := by rw [hm.out]; unfold ms; rw [k, SL.out]; exact kept_in r
        have t2 : inB 0 (a + (s + 1)) 60 = true := inB_t r
        have K : Hid _ := k
        clear k
        go_enter Try.func48, Try.ntmps48
        go_wp2_with fail
        refine (sMotionValid_c a s _).mono ?_
        rintro e' w1 ⟨rfl, hb⟩
        have B1 : Hid _ := Box.below Q.out.1 hb
        have B2 : Hid _ := Box.below Q.out.2 hb
        have HB : Hid (Below w.heap.size w w1) := (by repeat (first | exact Below.refl _ _ | refine Below.al ?_ _ | refine Below.dr ?_ _ | refine Below.dw ?_ | refine Below.st ?_ (by first | exact Nat.le_refl _ | exact Nat.le_add_right _ _ | (simp; omega)) _ | (refine below_next ?_ (by assumption))))
        clear hb
        obtain ⟨⟨c0, c1⟩, f0, f1⟩ := B1.out
        go_wp2_with fail
        refine (l1In_c _ _ _ _).mono ?_
        rintro e' w2 ⟨rfl, n, rfl⟩
        go_wp2_with fail
        refine (sCanStop_c a s t _).mono ?_
        rintro e' w2 ⟨rfl, hb⟩
        have B3 : Hid _ := Box.below (Box.dr B1.out n) hb
        have B4 : Hid _ := Box.below (Box.dr B2.out n) hb
        have HB2 : Hid (Below w.heap.size w w2) := below_next (Below.dr HB.out n) hb
        clear hb c0 c1 f0 f1
        obtain ⟨⟨c0, c1⟩, f0, f1⟩ := B3.out
        go_wp2_with fail
        refine (l1In_c _ _ _ _).mono ?_
        rintro e' w3 ⟨rfl, n3, rfl⟩
        clear c0 c1 f0 f1
        obtain ⟨⟨c0, c1⟩, f0, f1⟩ := B4.out
        go_wp2_with fail
        exact bodyPost_ret (v := (Value.agg #[.int .i64 (a + (s + 1)), .int .i64 (s + 1)])) (by simp [results, Try.results48, go_sem, c0, c1]) rfl (Mk.g (by rw [KE.out]) (by rw [KE.out]) (by have HZ := HB2.out; exact (by repeat (first | exact Below.refl _ _ | refine Below.al ?_ _ | refine Below.dr ?_ _ | refine Below.dw ?_ | refine Below.st ?_ (by first | exact Nat.le_refl _ | exact Nat.le_add_right _ _ | (simp; omega)) _ | (refine below_next ?_ (by assumption))))))
end Go.Proofs.Ytcecmikmmggngaa
