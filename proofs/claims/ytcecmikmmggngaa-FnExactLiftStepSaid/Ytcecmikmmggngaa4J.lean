/- The contracts of chapter 4's functions of impl. -/
import Derived.Test.Ytcecmikmmggngaa4H
namespace Go.Proofs.Ytcecmikmmggngaa
open Go.RowKit
set_option linter.unusedVariables false

theorem sta_eq0 {g : Int} (k : g = 0) : (sta g == 0) = true := by subst k; rfl
theorem sta_ne0 {g : Int} (k : g ≠ 0) : (sta g == 0) = false := by unfold sta; rw [if_neg k]; split <;> rfl
theorem lv_nf {xs : List Int} {a s g o : Int} (h : fvB xs = false) : lvB xs a s g o = false := lvB_f fun k => by rw [fvB_t k.1] at h; cases h
theorem lv_nm {xs : List Int} {a s g o : Int} (h : mvB a s = false) : lvB xs a s g o = false := lvB_f fun k => by rw [mvB_t k.2.1] at h; cases h
theorem lv_nd {xs : List Int} {a s g o : Int} (h : dvB g o = false) : lvB xs a s g o = false := lvB_f fun k => by rw [dvB_t k.2.2.1] at h; cases h
theorem lv_shut {xs : List Int} {a s g o : Int} (h : fvB xs = true) (h2 : mvB a s = true) (h3 : dvB g o = true) (h4 : g = 0) : lvB xs a s g o = true := by
  refine lvB_t ⟨?_, mvB_iff.1 h2, dvB_iff.1 h3, .inl h4⟩
  by_cases k : FV xs
  · exact k
  · rw [fvB_f k] at h; cases h
theorem lv_gap {xs : List Int} {a s g o : Int} (h : fvB xs = true) (h2 : mvB a s = true) (h3 : dvB g o = true) (h4 : g ≠ 0) : lvB xs a s g o = stB xs a s := by
  have F : FV xs := by
    by_cases k : FV xs
    · exact k
    · rw [fvB_f k] at h; cases h
  by_cases k : StF xs a s
  · rw [stB_t k]; exact lvB_t ⟨F, mvB_iff.1 h2, dvB_iff.1 h3, .inr k⟩
  · rw [stB_f k]; exact lvB_f fun e => e.2.2.2.elim h4 k
set_option maxHeartbeats 2000000 in
theorem iLiftValid_c (b off cap : Nat) (xs : List Int) (a s g o : Int) (w : World) (hc : Ints w b off xs) (hm : xs.length ≤ maxLen) :
    Calls Try.prog 12 #[.slice (some ⟨b, off, none⟩) xs.length cap, (Value.agg #[.int .i64 (a), .int .i64 (s), .int .i64 (g), .int .i64 (o)])] w (Mk w (.bool (lvB xs a s g o))) := by
  have Q : Hid (BoxV (w.alloc (.cells #[.int .i64 (a), .int .i64 (s), .int .i64 (g), .int .i64 (o)] 29)) w.heap.size (L4 a s g o)) := BoxV.new w _ 29 (by simp) rfl
  have I0 : Hid (Ints (w.alloc (.cells #[.int .i64 (a), .int .i64 (s), .int .i64 (g), .int .i64 (o)] 29)) b off xs) := hc.below ((Below.refl _ _).alloc (Nat.le_refl _) _)
  have T0 : Hid (Below w.heap.size w (w.alloc (.cells #[.int .i64 (a), .int .i64 (s), .int .i64 (g), .int .i64 (o)] 29))) := (Below.refl _ _).alloc (Nat.le_refl _) _
  clear hc
  go_enter Try.func12, Try.ntmps12
  go_wp2_with fail
  refine (iFloorsValid_c b off cap xs _ I0.out hm).mono ?_
  rintro e' w1 ⟨rfl, n1, rfl⟩
  have B1 : Hid _ := BoxV.dr Q.out n1
  have T1 : Hid (Below w.heap.size w ((w.alloc (.cells #[.int .i64 (a), .int .i64 (s), .int .i64 (g), .int .i64 (o)] 29)).drewN n1)) := Below.dr T0.out n1
  obtain ⟨⟨c0, c1, c2, c3⟩, f0, f1, f2, f3⟩ := BoxV.c4 B1.out
  cases hf : fvB xs
  · have e : Hid _ := lv_nf (a := a) (s := s) (g := g) (o := o) hf
    go_wp2_with fail
    go_ret
    exact Mk.b e.out T1.out
  have HF : Hid _ := hf
  clear hf
  go_wp2_with fail
  refine (iMotionValid_c a s _).mono ?_
  rintro e' w2 ⟨rfl, hb⟩
  have B2 : Hid _ := BoxV.bel hb B1.out
  have T2 : Hid (Below w.heap.size w w2) := (by have HZ := T1.out; exact (by repeat (first | exact Below.refl _ _ | refine Below.al ?_ _ | refine Below.dr ?_ _ | refine Below.dw ?_ | refine Below.st ?_ (by first | exact Nat.le_refl _ | exact Nat.le_add_right _ _ | (simp; omega)) _ | (refine below_next ?_ (by assumption)))))
  have I2 : Hid (Ints w2 b off xs) := Ints.bel hb (Ints.drewN I0.out n1)
  clear hb c0 c1 c2 c3 f0 f1 f2 f3
  obtain ⟨⟨c0, c1, c2, c3⟩, f0, f1, f2, f3⟩ := BoxV.c4 B2.out
  cases hv : mvB a s
  · have e : Hid _ := lv_nm (xs := xs) (g := g) (o := o) hv
    go_wp2_with fail
    go_ret
    exact Mk.b e.out T2.out
  have HM : Hid _ := hv
  clear hv
  go_wp2_with fail
  refine (iDoorValid_c g o _).mono ?_
  rintro e' w3 ⟨rfl, hb⟩
  have B3 : Hid _ := BoxV.bel hb B2.out
  have T3 : Hid (Below w.heap.size w w3) := below_next T2.out hb
  have I3 : Hid (Ints w3 b off xs) := Ints.bel hb I2.out
  clear hb c0 c1 c2 c3 f0 f1 f2 f3
  obtain ⟨⟨c0, c1, c2, c3⟩, f0, f1, f2, f3⟩ := BoxV.c4 B3.out
  cases hd : dvB g o
  · have e : Hid _ := lv_nd (xs := xs) (a := a) (s := s) hd
    go_wp2_with fail
    go_ret
    exact Mk.b e.out T3.out
  have HD : Hid _ := hd
  clear hd
  go_wp2_with fail
  refine (state_v _ 2 _ g _ B3.out rfl).mono ?_
  rintro e' w4 ⟨rfl, rfl⟩
  by_cases hg : g = 0
  · have t1 := sta_eq0 hg
    have e : Hid _ := lv_shut HF.out HM.out HD.out hg
    clear hg
    go_wp2_with fail
    go_ret
    exact Mk.b e.out T3.out
  · have t1 := sta_ne0 hg
    have e : Hid _ := lv_gap HF.out HM.out HD.out hg
    clear hg
    go_wp2_with fail
    refine (stands_c b off cap xs a s _ I3.out hm).mono ?_
    rintro e' w5 ⟨rfl, hb⟩
    have T5 : Hid (Below w.heap.size w w5) := below_next T3.out hb
    clear hb
    go_wp2_with fail
    go_ret
    exact Mk.b e.out T5.out
theorem okB_tg {xs : List Int} {t : Int} : okB xs t = tgB xs t := by
  by_cases h : okF xs t
  · rw [okB_t h]; exact (tgB_iff.2 h).symm
  · rw [okB_f h]
    cases e : tgB xs t
    · rfl
    · exact absurd (tgB_iff.1 e) h
theorem canBe_c (b off cap : Nat) (xs : List Int) (a s g o t : Int) (w : World) (hc : Ints w b off xs) (hm : xs.length ≤ maxLen) :
    Calls Try.prog 42 #[.slice (some ⟨b, off, none⟩) xs.length cap, (Value.agg #[.int .i64 (a), .int .i64 (s), .int .i64 (g), .int .i64 (o)]), .int .i64 t] w (Mk w (.bool (lvB xs a s g o && tgB xs t))) := by
  have Q : Hid (BoxV (w.alloc (.cells #[.int .i64 (a), .int .i64 (s), .int .i64 (g), .int .i64 (o)] 29)) w.heap.size (L4 a s g o)) := BoxV.new w _ 29 (by simp) rfl
  have I0 : Hid (Ints (w.alloc (.cells #[.int .i64 (a), .int .i64 (s), .int .i64 (g), .int .i64 (o)] 29)) b off xs) := hc.below ((Below.refl _ _).alloc (Nat.le_refl _) _)
  have T0 : Hid (Below w.heap.size w (w.alloc (.cells #[.int .i64 (a), .int .i64 (s), .int .i64 (g), .int .i64 (o)] 29))) := (Below.refl _ _).alloc (Nat.le_refl _) _
  clear hc
  obtain ⟨⟨c0, c1, c2, c3⟩, f0, f1, f2, f3⟩ := BoxV.c4 Q.out
  go_enter Try.func42, Try.ntmps42
  go_wp2_with fail
  refine (iLiftValid_c b off cap xs a s g o _ I0.out hm).mono ?_
  rintro e' w1 ⟨rfl, hb⟩
  have T1 : Hid (Below w.heap.size w w1) := below_next T0.out hb
  clear hb
  cases hv : lvB xs a s g o
  · go_wp2_with fail
    go_ret
    exact Mk.b (by rw [hv]; rfl) T1.out
  · go_wp2_with fail
    refine (isFloor_c _ xs cap t _ hm).mono ?_
    rintro e' w2 ⟨rfl, n, rfl⟩
    go_wp2_with fail
    go_ret
    exact Mk.b (by rw [hv, okB_tg]; rfl) (Below.dr T1.out n)
theorem doorIsNext_c (p b off cap : Nat) (xs : List Int) (a s g o : Int) (u : Bool) (w : World) (hc : Ints w b off xs) (hm : xs.length ≤ maxLen) (hB : BoxV w p (L4 a s g o)) (hd : DV g o) :
    Calls Try.prog 43 #[.pointer (some ⟨p, 0, none⟩), .slice (some ⟨b, off, none⟩) xs.length cap, .bool u] w (Mk w (.bool (lcB xs a s g u))) := by
  have Q : Hid _ := hB
  have I0 : Hid _ := hc
  have D : Hid _ := hd
  obtain ⟨⟨c0, c1, c2, c3⟩, f0, f1, f2, f3⟩ := BoxV.c4 hB
  clear hB hc hd
  go_enter Try.func43, Try.ntmps43
  go_wp2_with fail
  refine (state_v _ 2 _ g _ Q.out rfl).mono ?_
  rintro e' w4 ⟨rfl, rfl⟩
  by_cases hg : g = 0
  · have t1 := sta_shut hg
    have NG : Hid (¬ 0 < g) := (by omega : ¬ 0 < g)
    clear hg
    cases u
    · have e : Hid (lcB xs a s g false = false) := (by
        obtain hh | hh : stB xs a s = true ∨ stB xs a s = false := by cases stB xs a s <;> simp
        · exact lcB_u NG.out hh
        · exact lcB_f NG.out hh : lcB xs a s g false = false)
      go_wp2_with fail
      go_ret
      exact Mk.b e.out (Below.refl _ _)
    · have e : Hid (lcB xs a s g true = stB xs a s) := (by
        obtain hh | hh : stB xs a s = true ∨ stB xs a s = false := by cases stB xs a s <;> simp
        · rw [hh]; exact lcB_u NG.out hh
        · rw [hh]; exact lcB_f NG.out hh : lcB xs a s g true = stB xs a s)
      go_wp2_with fail
      refine (stands_c b off cap xs a s _ I0.out hm).mono ?_
      rintro e' w5 ⟨rfl, hb⟩
      have T5 : Hid _ := hb
      clear hb
      go_wp2_with fail
      go_ret
      exact Mk.b e.out T5.out
  · have t1 := sta_gap hg
    have e : Hid (lcB xs a s g u = true) := lcB_gap (by have := D.out.1; omega)
    clear hg
    go_wp2_with fail
    go_ret
    exact Mk.b e.out (Below.refl _ _)
end Go.Proofs.Ytcecmikmmggngaa
