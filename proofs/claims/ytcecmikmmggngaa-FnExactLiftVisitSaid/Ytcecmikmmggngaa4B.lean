/- The contracts of chapter 4's functions of spec: LiftStep. -/
import Derived.Test.Ytcecmikmmggngaa4A
import Derived.Test.Ytcecmikmmggngaa2G
import Derived.Deep.CutRange
namespace Go.Proofs.Ytcecmikmmggngaa
open Go.RowKit
set_option linter.unusedVariables false

theorem boxV2 (w : World) (a s g o a' s' g' o' : Int) : BoxV ((w.alloc (.cells #[.int .i64 (a), .int .i64 (s), .int .i64 (g), .int .i64 (o)] 29)).alloc (.cells #[.int .i64 (a'), .int .i64 (s'), .int .i64 (g'), .int .i64 (o')] 29)) w.heap.size (L4 a s g o) ∧ BoxV ((w.alloc (.cells #[.int .i64 (a), .int .i64 (s), .int .i64 (g), .int .i64 (o)] 29)).alloc (.cells #[.int .i64 (a'), .int .i64 (s'), .int .i64 (g'), .int .i64 (o')] 29)) (w.heap.size + 1) (L4 a' s' g' o') :=
  ⟨(BoxV.new w (L4 a s g o) 29 (by simp) rfl).al _, BoxV.new _ (L4 a' s' g' o') 29 (by simp) (by simp)⟩
/-- Whether only the door does a step. -/
noncomputable def lcB (xs : List Int) (a s g : Int) (u : Bool) : Bool := tr (0 < g ∨ (stB xs a s = true ∧ u = true))
theorem lcB_iff {xs : List Int} {a s g : Int} {u : Bool} : lcB xs a s g u = true ↔ (0 < g ∨ (stB xs a s = true ∧ u = true)) := by
  constructor
  · intro h
    by_cases k : 0 < g ∨ (stB xs a s = true ∧ u = true)
    · exact k
    · unfold lcB at h; rw [tr_false k] at h; cases h
  · exact fun h => tr_true h
theorem lcB_gap {xs : List Int} {a s g : Int} {u : Bool} (h : 0 < g) : lcB xs a s g u = true := lcB_iff.2 (.inl h)
theorem lcB_f {xs : List Int} {a s g : Int} {u : Bool} (h : ¬ 0 < g) (k : stB xs a s = false) : lcB xs a s g u = false := tr_false (by rw [k]; simp; omega)
theorem lcB_u {xs : List Int} {a s g : Int} {u : Bool} (h : ¬ 0 < g) (k : stB xs a s = true) : lcB xs a s g u = u := by
  cases u
  · exact tr_false (by simp; omega)
  · exact lcB_iff.2 (.inr ⟨k, rfl⟩)
set_option maxHeartbeats 4000000 in
theorem sLiftStep_c (b off cap : Nat) (xs : List Int) (a s g o t : Int) (u v : Bool) (w : World) (hc : Ints w b off xs) (hm : xs.length ≤ maxLen) :
    Calls Try.prog 18 #[.slice (some ⟨b, off, none⟩) xs.length cap, (Value.agg #[.int .i64 (a), .int .i64 (s), .int .i64 (g), .int .i64 (o)]), .int .i64 t, .bool u, .bool v] w (Mk w (Value.agg #[.int .i64 ((lst xs a s g o t u v).1), .int .i64 ((lst xs a s g o t u v).2.1), .int .i64 ((lst xs a s g o t u v).2.2.1), .int .i64 ((lst xs a s g o t u v).2.2.2)])) := by
  have Q : Hid _ := boxV2 w a s g o 0 0 0 0
  have I0 : Hid (Ints ((w.alloc (.cells #[.int .i64 (a), .int .i64 (s), .int .i64 (g), .int .i64 (o)] 29)).alloc (.cells #[.int .i64 (0), .int .i64 (0), .int .i64 (0), .int .i64 (0)] 29)) b off xs) := hc.below (Below.al (Below.al (Below.refl _ _) _) _)
  have T0 : Hid (Below w.heap.size w ((w.alloc (.cells #[.int .i64 (a), .int .i64 (s), .int .i64 (g), .int .i64 (o)] 29)).alloc (.cells #[.int .i64 (0), .int .i64 (0), .int .i64 (0), .int .i64 (0)] 29))) := Below.al (Below.al (Below.refl _ _) _) _
  have hm' := hm
  unfold maxLen at hm'
  clear hc
  cases hv : lvB xs a s g o
  · have e : Hid _ := lst_bad (xs := xs) (a := a) (s := s) (g := g) (o := o) (t := t) (u := u) (v := v) (by rw [hv]; simp)
    go_enter Try.func18, Try.ntmps18
    go_wp2_with fail
    refine (sLiftValid_c b off cap xs a s g o _ I0.out hm).mono ?_
    rintro e' w1 ⟨rfl, hb⟩
    obtain ⟨⟨c0, c1, c2, c3⟩, f0, f1, f2, f3⟩ := BoxV.c4 (BoxV.bel hb Q.out.2)
    have T1 : Hid (Below w.heap.size w w1) := below_next T0.out hb
    clear hb
    go_wp2_with fail
    exact bodyPost_ret (v := (Value.agg #[.int .i64 (0), .int .i64 (0), .int .i64 (0), .int .i64 (0)])) (by simp [results, Try.results18, go_sem, c0, c1, c2, c3]) rfl (Mk.q (by rw [e.out]) (by have HZ := T1.out; exact (by repeat (first | exact Below.refl _ _ | refine Below.al ?_ _ | refine Below.dr ?_ _ | refine Below.dw ?_ | refine Below.st ?_ (by first | exact Nat.le_refl _ | exact Nat.le_add_right _ _ | (simp; omega)) _ | (refine below_next ?_ (by assumption))))))
  cases ht : tgB xs t
  · have e : Hid _ := lst_bad (xs := xs) (a := a) (s := s) (g := g) (o := o) (t := t) (u := u) (v := v) (by rw [ht]; simp)
    have t1 : inB 0 t (xs.length - 1) = false := ht
    go_enter Try.func18, Try.ntmps18
    go_wp2_with fail
    refine (sLiftValid_c b off cap xs a s g o _ I0.out hm).mono ?_
    rintro e' w1 ⟨rfl, hb⟩
    obtain ⟨⟨c0, c1, c2, c3⟩, f0, f1, f2, f3⟩ := BoxV.c4 (BoxV.bel hb Q.out.2)
    have T1 : Hid (Below w.heap.size w w1) := below_next T0.out hb
    clear hb
    go_wp2_with fail
    refine (l1In_c _ _ _ _).mono ?_
    rintro e' w2 ⟨rfl, n, rfl⟩
    go_wp2_with fail
    exact bodyPost_ret (v := (Value.agg #[.int .i64 (0), .int .i64 (0), .int .i64 (0), .int .i64 (0)])) (by simp [results, Try.results18, go_sem, c0, c1, c2, c3]) rfl (Mk.q (by rw [e.out]) (by have HZ := T1.out; exact (by repeat (first | exact Below.refl _ _ | refine Below.al ?_ _ | refine Below.dr ?_ _ | refine Below.dw ?_ | refine Below.st ?_ (by first | exact Nat.le_refl _ | exact Nat.le_add_right _ _ | (simp; omega)) _ | (refine below_next ?_ (by assumption))))))
  have t1 : inB 0 t (xs.length - 1) = true := ht
  have e : Hid _ := lst_ok (u := u) (v := v) hv ht
  have V : Hid _ := lvB_iff.1 hv
  have VT1 := tgB_iff.1 ht
  obtain ⟨k, rfl⟩ := Int.eq_ofNat_of_zero_le VT1.1
  have hk : k < xs.length := by omega
  have HV : Hid _ := hv
  have HT : Hid _ := ht
  have d := V.out.2.2.1
  have d1 := d.1
  have em : Hid (mst a s (nth xs k) = ms a s (nth xs k)) := mst_ok (mvB_t V.out.2.1) (hgt_in V.out.1 ht)
  have ed : Hid (dst g o u v = ds g o u v) := dst_ok (dvB_t d)
  clear hv ht VT1 d
  go_enter Try.func18, Try.ntmps18
  go_wp2_with fail
  refine (sLiftValid_c b off cap xs a s g o _ I0.out hm).mono ?_
  rintro e' w1 ⟨rfl, hb⟩
  have B1 : Hid _ := BoxV.bel hb Q.out.1
  have Z1 : Hid _ := BoxV.bel hb Q.out.2
  have I1 : Hid _ := Ints.bel hb I0.out
  have T1 : Hid (Below w.heap.size w w1) := below_next T0.out hb
  clear hb
  obtain ⟨⟨c0, c1, c2, c3⟩, f0, f1, f2, f3⟩ := BoxV.c4 B1.out
  rw [HV.out]
  go_wp2_with fail
  refine (l1In_c _ _ _ _).mono ?_
  rintro e' w2 ⟨rfl, n, rfl⟩
  go_upto_region 3 with fail
  go_cut [11] from 25 to 36 (fun v wx => v = .bool (stB xs a s) ∧ ∃ m, wx = w1.drewN m)
  case first =>
    rcases st_cases xs a s with ⟨t3, t2, st⟩ | ⟨t3, t2, st⟩ | ⟨t3, st⟩
    · have ST : Hid (stB xs a s = true) := stB_t st
      clear st
      go_wp2_with fail
      refine (sFloorAt_c b off cap xs a _ (Ints.drewN I1.out n) hm).mono ?_
      rintro e' w2 ⟨rfl, n2, rfl⟩
      go_wp2_with fail
      go_meet
      case rel => exact ⟨by rw [ST.out]; first | done | simp [t2], _, rfl⟩
    · have ST : Hid (stB xs a s = false) := stB_f st
      clear st
      go_wp2_with fail
      refine (sFloorAt_c b off cap xs a _ (Ints.drewN I1.out n) hm).mono ?_
      rintro e' w2 ⟨rfl, n2, rfl⟩
      go_wp2_with fail
      go_meet
      case rel => exact ⟨by rw [ST.out]; first | done | simp [t2], _, rfl⟩
    · have ST : Hid (stB xs a s = false) := stB_f st
      clear st
      go_wp2_with fail
      go_meet
      case rel => exact ⟨by rw [ST.out], _, rfl⟩
  case rest =>
    obtain ⟨rfl, m, rfl⟩ := hcut
    obtain ⟨sb, hsb⟩ : ∃ sb, stB xs a s = sb := ⟨_, rfl⟩
    have HSB : Hid _ := hsb
    rw [hsb]
    clear hsb
    go_upto_region 4 with fail
    go_cut [46] from 37 to 46 (fun v wx => v = .bool (lcB xs a s g u) ∧ wx = w1.drewN m)
    case first =>
      by_cases hg : 0 < g
      · have L : Hid _ := lcB_gap (xs := xs) (a := a) (s := s) (u := u) hg
        go_wp2_with fail
        go_meet
        case rel => exact ⟨by rw [L.out], rfl⟩
      · cases sb
        · have L : Hid _ := lcB_f (u := u) hg HSB.out
          go_wp2_with fail
          go_meet
          case rel => exact ⟨by rw [L.out], rfl⟩
        · have L : Hid _ := lcB_u (u := u) hg HSB.out
          go_wp2_with fail
          go_meet
          case rel => exact ⟨by rw [L.out], rfl⟩
    case rest =>
      obtain ⟨rfl, rfl⟩ := hcut
      obtain ⟨⟨d0, d1, d2, d3⟩, e0, e1, e2, e3⟩ := BoxV.c4 Z1.out
      cases hC : lcB xs a s g u
      · have C : Hid (¬ (0 < g ∨ (stB xs a s = true ∧ u = true))) := (fun h => absurd (lcB_iff.2 h) (by rw [hC]; simp) : ¬ (0 < g ∨ (stB xs a s = true ∧ u = true)))
        have c5 : w1.cell? ⟨b, off + k, none⟩ = some (.int .i64 (nth xs k)) := I1.out k hk
        have hkI : (k : Int) < (xs.length : Int) := by omega
        go_wp2_with fail
        go_region_with (go_at_call 48; refine (sMotionStep_c a s (nth xs k) _).mono ?_; rintro e w3 ⟨rfl, hb⟩; have B3 : Hid (BoxV w3 w.heap.size (L4 a s g o)) := BoxV.bel hb B1.out; have Z3 : Hid (BoxV w3 (w.heap.size + 1) (L4 0 0 0 0)) := BoxV.bel hb Z1.out; have T3 : Hid (Below w.heap.size w w3) := (by have HZ := T1.out; exact (by repeat (first | exact Below.refl _ _ | refine Below.al ?_ _ | refine Below.dr ?_ _ | refine Below.dw ?_ | refine Below.st ?_ (by first | exact Nat.le_refl _ | exact Nat.le_add_right _ _ | (simp; omega)) _ | (refine below_next ?_ (by assumption))))); clear hb; clear c0 c1 c2 c3 f0 f1 f2 f3 d0 d1 d2 d3 e0 e1 e2 e3; obtain ⟨⟨c0, c1, c2, c3⟩, f0, f1, f2, f3⟩ := BoxV.c4 B3.out; obtain ⟨⟨d0, d1, d2, d3⟩, e0, e1, e2, e3⟩ := BoxV.c4 Z3.out)
        all_goals
          go_wp2_with fail
          clear c0 c1 c2 c3
          obtain ⟨⟨c0, c1, c2, c3⟩, _⟩ := BoxV.c4 (BoxV.all4 (mst a s (nth xs k)).1 (mst a s (nth xs k)).2 g o Z3.out)
          exact bodyPost_ret (v := (Value.agg #[.int .i64 ((mst a s (nth xs k)).1), .int .i64 ((mst a s (nth xs k)).2), .int .i64 (g), .int .i64 (o)])) (by simp [results, Try.results18, go_sem, c0, c1, c2, c3]) rfl (Mk.q (by rw [e.out, ls_run C.out, em.out]; rfl) (by have HZ := T3.out; exact (by repeat (first | exact Below.refl _ _ | refine Below.al ?_ _ | refine Below.dr ?_ _ | refine Below.dw ?_ | refine Below.st ?_ (by first | exact Nat.le_refl _ | exact Nat.le_add_right _ _ | (simp; omega)) _ | (refine below_next ?_ (by assumption))))))
      · have C : Hid (0 < g ∨ (stB xs a s = true ∧ u = true)) := lcB_iff.1 hC
        go_wp2_with fail
        go_region_with (go_at_call 47; refine (sDoorStep_c g o u v _).mono ?_; rintro e w3 ⟨rfl, hb⟩; have B3 : Hid (BoxV w3 w.heap.size (L4 a s g o)) := BoxV.bel hb B1.out; have Z3 : Hid (BoxV w3 (w.heap.size + 1) (L4 0 0 0 0)) := BoxV.bel hb Z1.out; have T3 : Hid (Below w.heap.size w w3) := (by have HZ := T1.out; exact (by repeat (first | exact Below.refl _ _ | refine Below.al ?_ _ | refine Below.dr ?_ _ | refine Below.dw ?_ | refine Below.st ?_ (by first | exact Nat.le_refl _ | exact Nat.le_add_right _ _ | (simp; omega)) _ | (refine below_next ?_ (by assumption))))); clear hb; clear c0 c1 c2 c3 f0 f1 f2 f3 d0 d1 d2 d3 e0 e1 e2 e3; obtain ⟨⟨c0, c1, c2, c3⟩, f0, f1, f2, f3⟩ := BoxV.c4 B3.out; obtain ⟨⟨d0, d1, d2, d3⟩, e0, e1, e2, e3⟩ := BoxV.c4 Z3.out)
        all_goals
          go_wp2_with fail
          clear c0 c1 c2 c3
          obtain ⟨⟨c0, c1, c2, c3⟩, _⟩ := BoxV.c4 (BoxV.all4 a s (dst g o u v).1 (dst g o u v).2 Z3.out)
          exact bodyPost_ret (v := (Value.agg #[.int .i64 (a), .int .i64 (s), .int .i64 ((dst g o u v).1), .int .i64 ((dst g o u v).2)])) (by simp [results, Try.results18, go_sem, c0, c1, c2, c3]) rfl (Mk.q (by rw [e.out, ls_door C.out, ed.out]) (by have HZ := T3.out; exact (by repeat (first | exact Below.refl _ _ | refine Below.al ?_ _ | refine Below.dr ?_ _ | refine Below.dw ?_ | refine Below.st ?_ (by first | exact Nat.le_refl _ | exact Nat.le_add_right _ _ | (simp; omega)) _ | (refine below_next ?_ (by assumption))))))
end Go.Proofs.Ytcecmikmmggngaa
