/- The contracts of the methods that chapter 4's functions of impl call, anywhere in a block. -/
import Derived.Test.Ytcecmikmmggngaa4C
import Derived.Test.Ytcecmikmmggngaa4R
namespace Go.Proofs.Ytcecmikmmggngaa
open Go.RowKit
set_option linter.unusedVariables false

/-- Two numbers in a list of values are replaced. -/
abbrev upd (vs : List Value) (k : Nat) (x y : Int) : List Value := (vs.set k (.int .i64 x)).set (k + 1) (.int .i64 y)
theorem set_same {vs : List Value} {k : Nat} {v : Value} (h : vs[k]? = some v) : vs.set k v = vs := by
  apply List.ext_getElem?
  intro i
  by_cases c : i = k
  · subst c
    have : i < vs.length := by
      by_cases d : i < vs.length
      · exact d
      · rw [List.getElem?_eq_none (by omega)] at h; cases h
    rw [List.getElem?_set_self this, h]
  · rw [List.getElem?_set_ne (fun e => c e.symm)]
theorem at_lt {vs : List Value} {k : Nat} {v : Value} (h : vs[k]? = some v) : k < vs.length := by
  by_cases d : k < vs.length
  · exact d
  · rw [List.getElem?_eq_none (by omega)] at h; cases h
theorem BoxV.u0 {w : World} {b k : Nat} {vs : List Value} {y : Int} (x : Int) (h : BoxV w b vs) (h0 : k < vs.length) (h1 : vs[k + 1]? = some (.int .i64 y)) : BoxV (w.setCell ⟨b, k, none⟩ (.int .i64 x)) b (upd vs k x y) := by
  have := h.set k (.int .i64 x) h0
  unfold upd
  rw [set_same (by rw [List.getElem?_set_ne (by omega)]; exact h1)]; exact this
theorem BoxV.u1 {w : World} {b k : Nat} {vs : List Value} {x : Int} (y : Int) (h : BoxV w b vs) (h0 : vs[k]? = some (.int .i64 x)) (h1 : k + 1 < vs.length) : BoxV (w.setCell ⟨b, k + 1, none⟩ (.int .i64 y)) b (upd vs k x y) := by
  have := h.set (k + 1) (.int .i64 y) h1
  unfold upd
  rw [set_same h0]; exact this
theorem BoxV.u2 {w : World} {b k : Nat} {vs : List Value} (x y : Int) (h : BoxV w b vs) (h0 : k < vs.length) (h1 : k + 1 < vs.length) : BoxV ((w.setCell ⟨b, k, none⟩ (.int .i64 x)).setCell ⟨b, k + 1, none⟩ (.int .i64 y)) b (upd vs k x y) :=
  (h.set k _ h0).set (k + 1) _ (by simpa using h1)
/-- A call that changes a block. -/
def UpV (w : World) (b : Nat) (vs : List Value) (e : Ending) (w' : World) : Prop := e = .returned (.tuple #[]) ∧ BoxV w' b vs ∧ Fr w b w'
theorem state_v (b k : Nat) (vs : List Value) (g : Int) (w : World) (hB : BoxV w b vs) (h0 : vs[k]? = some (.int .i64 g)) : Calls Try.prog 34 #[.pointer (some ⟨b, k, none⟩)] w (St w (.int .i64 (sta g))) := by
  have c0 := (hB.2 k _ h0).1
  clear hB h0
  by_cases z : g = 0
  · have t : (g == 0) = true := by simp [z]
    have e : Hid (sta g = 0) := (by subst z; rfl : sta g = 0)
    clear z
    go_enter Try.func34, Try.ntmps34
    go_wp2_with fail
    go_ret
    exact St.i e.out
  · have t : (g == 0) = false := by simp [z]
    by_cases l : g = 4
    · have t2 : (g == 4) = true := by simp [l]
      have e : Hid (sta g = 2) := (by subst l; rfl : sta g = 2)
      clear z l
      go_enter Try.func34, Try.ntmps34
      go_wp2_with fail
      go_ret
      exact St.i e.out
    · have t2 : (g == 4) = false := by simp [l]
      have e : Hid (sta g = 1) := (by unfold sta; rw [if_neg z, if_neg l] : sta g = 1)
      clear z l
      go_enter Try.func34, Try.ntmps34
      go_wp2_with fail
      go_ret
      exact St.i e.out
theorem narrow_v (b k : Nat) (vs : List Value) (g h : Int) (w : World) (hB : BoxV w b vs) (h0 : vs[k]? = some (.int .i64 g)) (h1 : vs[k + 1]? = some (.int .i64 h)) (hv : DV g h) : Calls Try.prog 65 #[.pointer (some ⟨b, k, none⟩)] w (UpV w b (upd vs k (ds g h false false).1 (ds g h false false).2)) := by
  have Q : Hid _ := hB
  have c0 := (hB.2 k _ h0).1
  have f0 := (hB.2 k _ h0).2
  have c1 := (hB.2 (k + 1) _ h1).1
  have f1 := (hB.2 (k + 1) _ h1).2
  have L0 : Hid _ := h0
  have L1 : Hid _ := h1
  clear hB h0 h1
  obtain ⟨k1, k2, k3, k4, k5⟩ := hv
  clear k5
  by_cases c : 0 < h
  · have e : Hid _ := ds_held (g := g) (h := h) (a := false) (b := false) (by simp) c
    go_enter Try.func65, Try.ntmps65
    go_wp2_with fail
    go_end0
    exact ⟨rfl, by rw [e.out]; exact BoxV.u1 _ Q.out L0.out (at_lt L1.out), Fr.at _ _⟩
  · have e : Hid _ := ds_down (g := g) (h := h) (a := false) (b := false) (by simp) c
    obtain rfl : h = 0 := by omega
    go_enter Try.func65, Try.ntmps65
    go_wp2_with fail
    all_goals
      go_end0
      refine ⟨rfl, ?_, Fr.at _ _⟩
      rw [e.out]
      first | exact BoxV.u0 _ Q.out (at_lt L0.out) L1.out | (rw [show max (g - 1) 0 = 0 by omega]; exact BoxV.u0 _ Q.out (at_lt L0.out) L1.out) | (rw [show max (g - 1) 0 = g - 1 by omega]; exact BoxV.u0 _ Q.out (at_lt L0.out) L1.out)
theorem widen_v (b k : Nat) (vs : List Value) (g o : Int) (w : World) (hB : BoxV w b vs) (h0 : vs[k]? = some (.int .i64 g)) (h1 : vs[k + 1]? = some (.int .i64 o)) (hv : DV g o) : Calls Try.prog 64 #[.pointer (some ⟨b, k, none⟩)] w (UpV w b (upd vs k (ds g o true true).1 (ds g o true true).2)) := by
  have Q : Hid _ := hB
  have c0 := (hB.2 k _ h0).1
  have f0 := (hB.2 k _ h0).2
  have c1 := (hB.2 (k + 1) _ h1).1
  have f1 := (hB.2 (k + 1) _ h1).2
  have L0 : Hid _ := h0
  have L1 : Hid _ := h1
  obtain ⟨k1, k2, k3, k4, k5⟩ := hv
  have K : Hid _ := k5
  clear k5
  by_cases c : 4 ≤ g + 1
  · have e : Hid _ := ds_wide (g := g) (h := o) (a := true) (b := true) (.inl rfl) c
    have t := sta_open (g := 4) rfl
    have B : Hid (BoxV (w.setCell ⟨b, k, none⟩ (.int .i64 4)) b (vs.set k (.int .i64 4))) := hB.set k _ (at_lt h0)
    have P : Hid ((vs.set k (.int .i64 4))[k]? = some (.int .i64 4)) := List.getElem?_set_self (at_lt h0)
    have R : Hid _ := hB.u2 4 3 (at_lt h0) (at_lt h1)
    clear hB h0 h1
    rcases (by omega : g = 3 ∨ g = 4) with l | l
    all_goals
      subst l
      go_enter Try.func64, Try.ntmps64
      go_wp2_with fail
      refine (state_v b k _ 4 _ B.out P.out).mono ?_
      rintro e' w1 ⟨rfl, rfl⟩
      go_wp2_with fail
      go_end0
      exact ⟨rfl, by rw [e.out]; exact R.out, Fr.trans (Fr.at _ _) (Fr.at _ _)⟩
  · have e : Hid _ := ds_up (g := g) (h := o) (a := true) (b := true) (.inl rfl) (by omega)
    have t := sta_not (g := g + 1) (by omega)
    obtain rfl : o = 0 := by have := K.out; omega
    have B : Hid (BoxV (w.setCell ⟨b, k, none⟩ (.int .i64 (g + 1))) b (vs.set k (.int .i64 (g + 1)))) := hB.set k _ (at_lt h0)
    have P : Hid ((vs.set k (.int .i64 (g + 1)))[k]? = some (.int .i64 (g + 1))) := List.getElem?_set_self (at_lt h0)
    have R : Hid _ := hB.u0 (g + 1) (at_lt h0) h1
    clear hB h0 h1
    go_enter Try.func64, Try.ntmps64
    go_wp2_with fail
    all_goals
      refine (state_v b k _ (g + 1) _ B.out P.out).mono ?_
      rintro e' w1 ⟨rfl, rfl⟩
      go_wp2_with fail
      go_end0
      exact ⟨rfl, by rw [e.out]; exact R.out, Fr.at _ _⟩
theorem step_v (p k : Nat) (vs : List Value) (g o : Int) (a b : Bool) (w : World) (hB : BoxV w p vs) (h0 : vs[k]? = some (.int .i64 g)) (h1 : vs[k + 1]? = some (.int .i64 o)) (hv : DV g o) : Calls Try.prog 44 #[.pointer (some ⟨p, k, none⟩), .bool a, .bool b] w (UpV w p (upd vs k (ds g o a b).1 (ds g o a b).2)) := by
  have Q : Hid _ := hB
  have V : Hid _ := hv
  have L0 : Hid _ := h0
  have L1 : Hid _ := h1
  clear hB h0 h1
  cases a
  · cases b
    · go_enter Try.func44, Try.ntmps44
      go_wp2_with fail
      refine (narrow_v p k vs g o _ Q.out L0.out L1.out V.out).mono ?_
      rintro e' w1 ⟨rfl, B, F⟩
      have B1 : Hid _ := B
      have F1 : Hid _ := F
      clear B F
      go_wp2_with fail
      go_end0
      exact ⟨rfl, B1.out, F1.out⟩
    · have k1 := hv.1
      by_cases z : g = 0
      · have t := sta_shut z
        have e : Hid _ := ds_close (g := g) (h := o) (a := false) (b := true) (by simp; omega)
        clear hv k1 z
        go_enter Try.func44, Try.ntmps44
        go_wp2_with fail
        refine (state_v p k vs g _ Q.out L0.out).mono ?_
        rintro e' w1 ⟨rfl, rfl⟩
        go_wp2_with fail
        refine (narrow_v p k vs g o _ Q.out L0.out L1.out V.out).mono ?_
        rintro e' w1 ⟨rfl, B, F⟩
        have B1 : Hid _ := B
        have F1 : Hid _ := F
        clear B F
        go_wp2_with fail
        go_end0
        exact ⟨rfl, by rw [e.out]; exact B1.out, F1.out⟩
      · have t := sta_gap z
        have e : Hid _ := ds_open (g := g) (h := o) (a := false) (b := true) (.inr ⟨rfl, by omega⟩)
        clear hv k1 z
        go_enter Try.func44, Try.ntmps44
        go_wp2_with fail
        refine (state_v p k vs g _ Q.out L0.out).mono ?_
        rintro e' w1 ⟨rfl, rfl⟩
        go_wp2_with fail
        refine (widen_v p k vs g o _ Q.out L0.out L1.out V.out).mono ?_
        rintro e' w1 ⟨rfl, B, F⟩
        have B1 : Hid _ := B
        have F1 : Hid _ := F
        clear B F
        go_wp2_with fail
        go_end0
        exact ⟨rfl, by rw [e.out]; exact B1.out, F1.out⟩
  · have e : Hid _ := ds_open (g := g) (h := o) (a := true) (b := b) (.inl rfl)
    clear hv
    go_enter Try.func44, Try.ntmps44
    go_wp2_with fail
    refine (widen_v p k vs g o _ Q.out L0.out L1.out V.out).mono ?_
    rintro e' w1 ⟨rfl, B, F⟩
    have B1 : Hid _ := B
    have F1 : Hid _ := F
    clear B F
    go_wp2_with fail
    go_end0
    exact ⟨rfl, by rw [e.out]; exact B1.out, F1.out⟩
/-- What is new, and then only a block. -/
theorem Fr.ofBelow {w w1 : World} {g : Nat} (h : Below w.heap.size w w1) : Fr w g w1 := ⟨h.os, h.tape, h.output, h.size, fun i hi _ => h.block i hi⟩
set_option maxHeartbeats 1000000 in
theorem drive_v (p k : Nat) (vs : List Value) (a s t : Int) (w : World) (hB : BoxV w p vs) (h0 : vs[k]? = some (.int .i64 a)) (h1 : vs[k + 1]? = some (.int .i64 s)) : Calls Try.prog 45 #[.pointer (some ⟨p, k, none⟩), .int .i64 t] w (UpV w p (upd vs k (mst a s t).1 (mst a s t).2)) := by
  have Q : Hid _ := hB
  have c0 := (hB.2 k _ h0).1
  have f0 := (hB.2 k _ h0).2
  have c1 := (hB.2 (k + 1) _ h1).1
  have f1 := (hB.2 (k + 1) _ h1).2
  have L0 : Hid _ := h0
  have L1 : Hid _ := h1
  clear hB h0 h1
  go_enter Try.func45, Try.ntmps45
  go_wp2_with fail
  refine (iMotionStep_c a s t _).mono ?_
  rintro e' w1 ⟨rfl, hb⟩
  have B1 : Hid _ := BoxV.bel hb Q.out
  have T1 : Hid _ := hb
  clear hb c0 c1 f0 f1
  have c0 := (B1.out.2 k _ L0.out).1
  have f0 := (B1.out.2 k _ L0.out).2
  have c1 := (B1.out.2 (k + 1) _ L1.out).1
  have f1 := (B1.out.2 (k + 1) _ L1.out).2
  go_wp2_with fail
  go_end0
  exact ⟨rfl, BoxV.u2 _ _ B1.out (at_lt L0.out) (at_lt L1.out), Fr.trans (Fr.trans (Fr.ofBelow T1.out) (Fr.at _ _)) (Fr.at _ _)⟩
theorem stands_c (b off cap : Nat) (xs : List Int) (a s : Int) (w : World) (hc : Ints w b off xs) (hm : xs.length ≤ maxLen) :
    Calls Try.prog 35 #[(Value.agg #[.int .i64 (a), .int .i64 (s)]), .slice (some ⟨b, off, none⟩) xs.length cap] w (Mk w (.bool (stB xs a s))) := by
  have I0 : Hid (Ints (w.alloc (.cells #[.int .i64 a, .int .i64 s] 25)) b off xs) := hc.below (Below.al (Below.refl _ _) _)
  have T0 : Hid (Below w.heap.size w (w.alloc (.cells #[.int .i64 a, .int .i64 s] 25))) := Below.al (Below.refl _ _) _
  have hm' := hm
  unfold maxLen at hm'
  clear hc
  rcases st_cases xs a s with ⟨t3, t2, st⟩ | ⟨t3, t2, st⟩ | ⟨t3, st⟩
  · have ST : Hid (stB xs a s = true) := stB_t st
    clear st
    go_enter Try.func35, Try.ntmps35
    go_wp2_with fail
    refine (iFloorAt_c b off cap xs a _ I0.out hm).mono ?_
    rintro e' w2 ⟨rfl, n2, rfl⟩
    go_wp2_with fail
    go_ret
    exact Mk.b (by rw [ST.out]; first | done | simp [t2]) (by have HZ := T0.out; exact (by repeat (first | exact Below.refl _ _ | refine Below.al ?_ _ | refine Below.dr ?_ _ | refine Below.dw ?_ | refine Below.st ?_ (by first | exact Nat.le_refl _ | exact Nat.le_add_right _ _ | (simp; omega)) _ | (refine below_next ?_ (by assumption)))))
  · have ST : Hid (stB xs a s = false) := stB_f st
    clear st
    go_enter Try.func35, Try.ntmps35
    go_wp2_with fail
    refine (iFloorAt_c b off cap xs a _ I0.out hm).mono ?_
    rintro e' w2 ⟨rfl, n2, rfl⟩
    go_wp2_with fail
    go_ret
    exact Mk.b (by rw [ST.out]; first | done | simp [t2]) (by have HZ := T0.out; exact (by repeat (first | exact Below.refl _ _ | refine Below.al ?_ _ | refine Below.dr ?_ _ | refine Below.dw ?_ | refine Below.st ?_ (by first | exact Nat.le_refl _ | exact Nat.le_add_right _ _ | (simp; omega)) _ | (refine below_next ?_ (by assumption)))))
  · have ST : Hid (stB xs a s = false) := stB_f st
    clear st
    go_enter Try.func35, Try.ntmps35
    go_wp2_with fail
    go_ret
    exact Mk.b (by rw [ST.out]) (by have HZ := T0.out; exact (by repeat (first | exact Below.refl _ _ | refine Below.al ?_ _ | refine Below.dr ?_ _ | refine Below.dw ?_ | refine Below.st ?_ (by first | exact Nat.le_refl _ | exact Nat.le_add_right _ _ | (simp; omega)) _ | (refine below_next ?_ (by assumption)))))
end Go.Proofs.Ytcecmikmmggngaa
