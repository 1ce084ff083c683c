/- The contracts of chapter 3's small functions, impl and spec. -/
import Derived.Test.Ytcecmikmmggngaa2U
import Derived.Test.Ytcecmikmmggngaa3P
namespace Go.Proofs.Ytcecmikmmggngaa
open Go.RowKit
set_option linter.unusedVariables false

/-- The state of a door. -/
def sta (g : Int) : Int := if g = 0 then 0 else if g = 4 then 2 else 1
theorem sta_open {g : Int} (k : g = 4) : (sta g == 2) = true := by subst k; rfl
theorem sta_not {g : Int} (k : g ≠ 4) : (sta g == 2) = false := by unfold sta; split; rfl; rfl
theorem sta_shut {g : Int} (k : g = 0) : (sta g != 0) = false := by subst k; rfl
theorem sta_gap {g : Int} (k : g ≠ 0) : (sta g != 0) = true := by unfold sta; rw [if_neg k]; split <;> rfl
theorem state_c (b : Nat) (g h : Int) (w : World) (hB : Box w b g h) : Calls Try.prog 34 #[.pointer (some ⟨b, 0, none⟩)] w (St w (.int .i64 (sta g))) := by
  obtain ⟨⟨c0, c1⟩, f0, f1⟩ := hB
  by_cases k : g = 0
  · have t : (g == 0) = true := by simp [k]
    have e : Hid (sta g = 0) := (by subst k; rfl : sta g = 0)
    clear k
    go_enter Try.func34, Try.ntmps34
    go_wp2_with fail
    go_ret
    exact St.i e.out
  · have t : (g == 0) = false := by simp [k]
    by_cases l : g = 4
    · have t2 : (g == 4) = true := by simp [l]
      have e : Hid (sta g = 2) := (by subst l; rfl : sta g = 2)
      clear k l
      go_enter Try.func34, Try.ntmps34
      go_wp2_with fail
      go_ret
      exact St.i e.out
    · have t2 : (g == 4) = false := by simp [l]
      have e : Hid (sta g = 1) := (by unfold sta; rw [if_neg k, if_neg l] : sta g = 1)
      clear k l
      go_enter Try.func34, Try.ntmps34
      go_wp2_with fail
      go_ret
      exact St.i e.out
/-- A call that changes a box. -/
def Upd (w : World) (b : Nat) (x y : Int) (e : Ending) (w' : World) : Prop := e = .returned (.tuple #[]) ∧ Box w' b x y ∧ Fr w b w'
theorem Box.go {w : World} {b : Nat} {a s : Int} (h : Box w b a s) : Hid (Fr w b w) := Fr.refl w b
theorem Fr.at {w : World} {b : Nat} (j : Nat) (v : Value) : Fr w b (w.setCell ⟨b, j, none⟩ v) :=
  ⟨rfl, rfl, rfl, by rw [World.size_setCell]; exact Nat.le_refl _, fun k hk hne => Below.heap_setCell _ _ _ _ (by simp; intro e; subst e; exact hne rfl)⟩
theorem narrow_c (b : Nat) (g h : Int) (w : World) (hB : Box w b g h) (hv : DV g h) : Calls Try.prog 65 #[.pointer (some ⟨b, 0, none⟩)] w (Upd w b (ds g h false false).1 (ds g h false false).2) := by
  have Q : Hid _ := hB
  obtain ⟨⟨c0, c1⟩, f0, f1⟩ := hB
  obtain ⟨k1, k2, k3, k4, k5⟩ := hv
  clear k5
  by_cases k : 0 < h
  · have e : Hid _ := ds_held (g := g) (h := h) (a := false) (b := false) (by simp) k
    go_enter Try.func65, Try.ntmps65
    go_wp2_with fail
    go_end0
    exact ⟨rfl, by rw [e.out]; exact Box.set1 _ Q.out, Fr.at _ _⟩
  · have e : Hid _ := ds_down (g := g) (h := h) (a := false) (b := false) (by simp) k
    obtain rfl : h = 0 := by omega
    go_enter Try.func65, Try.ntmps65
    go_wp2_with fail
    all_goals
      go_end0
      refine ⟨rfl, ?_, Fr.at _ _⟩
      rw [e.out]
      first | exact Box.set0 _ Q.out | (rw [show max (g - 1) 0 = 0 by omega]; exact Box.set0 _ Q.out) | (rw [show max (g - 1) 0 = g - 1 by omega]; exact Box.set0 _ Q.out)
theorem widen_c (b : Nat) (g o : Int) (w : World) (hB : Box w b g o) (hv : DV g o) : Calls Try.prog 64 #[.pointer (some ⟨b, 0, none⟩)] w (Upd w b (ds g o true true).1 (ds g o true true).2) := by
  have Q : Hid _ := hB
  obtain ⟨⟨c0, c1⟩, f0, f1⟩ := hB
  obtain ⟨k1, k2, k3, k4, k5⟩ := hv
  have K : Hid _ := k5
  clear k5
  by_cases k : 4 ≤ g + 1
  · have e : Hid _ := ds_wide (g := g) (h := o) (a := true) (b := true) (.inl rfl) k
    have t := sta_open (g := 4) rfl
    have B : Hid (Box (w.setCell ⟨b, 0, none⟩ (.int .i64 4)) b 4 o) := Box.set0 4 Q.out
    rcases (by omega : g = 3 ∨ g = 4) with l | l
    all_goals
      subst l
      go_enter Try.func64, Try.ntmps64
      go_wp2_with fail
      refine (state_c b 4 o _ B.out).mono ?_
      rintro e' w1 ⟨rfl, rfl⟩
      go_wp2_with fail
      go_end0
      exact ⟨rfl, by rw [e.out]; exact Box.set1 _ B.out, Fr.trans (Fr.at _ _) (Fr.at _ _)⟩
  · have e : Hid _ := ds_up (g := g) (h := o) (a := true) (b := true) (.inl rfl) (by omega)
    have t := sta_not (g := g + 1) (by omega)
    have hz : Hid (o = 0) := (by have := K.out; omega : o = 0)
    have B : Hid (Box (w.setCell ⟨b, 0, none⟩ (.int .i64 (g + 1))) b (g + 1) o) := Box.set0 (g + 1) Q.out
    go_enter Try.func64, Try.ntmps64
    go_wp2_with fail
    all_goals
      refine (state_c b (g + 1) o _ B.out).mono ?_
      rintro e' w1 ⟨rfl, rfl⟩
      go_wp2_with fail
      go_end0
      exact ⟨rfl, by rw [e.out]; have := B.out; rw [hz.out] at this; exact this, Fr.at _ _⟩
theorem ds_open {g h : Int} {a b : Bool} (k : a = true ∨ (b = true ∧ 0 < g)) : ds g h a b = ds g h true true := by
  by_cases l : 4 ≤ g + 1
  · rw [ds_wide k l, ds_wide (.inl rfl) l]
  · rw [ds_up k (by omega), ds_up (.inl rfl) (by omega)]
theorem ds_close {g h : Int} {a b : Bool} (k : ¬ (a = true ∨ (b = true ∧ 0 < g))) : ds g h a b = ds g h false false := by
  by_cases l : 0 < h
  · rw [ds_held k l, ds_held (by simp) l]
  · rw [ds_down k l, ds_down (by simp) l]
theorem step_c (p : Nat) (g o : Int) (a b : Bool) (w : World) (hB : Box w p g o) (hv : DV g o) : Calls Try.prog 44 #[.pointer (some ⟨p, 0, none⟩), .bool a, .bool b] w (Upd w p (ds g o a b).1 (ds g o a b).2) := by
  have Q : Hid _ := hB
  have V : Hid _ := hv
  clear hB
  cases a
  · cases b
    · go_enter Try.func44, Try.ntmps44
      go_wp2_with fail
      refine (narrow_c p g o _ Q.out V.out).mono ?_
      rintro e' w1 ⟨rfl, B, F⟩
      have B1 : Hid _ := B
      have F1 : Hid _ := F
      clear B F
      go_wp2_with fail
      go_end0
      exact ⟨rfl, B1.out, F1.out⟩
    · have k1 := hv.1
      by_cases k : g = 0
      · have t := sta_shut k
        have e : Hid _ := ds_close (g := g) (h := o) (a := false) (b := true) (by simp; omega)
        clear hv k1 k
        go_enter Try.func44, Try.ntmps44
        go_wp2_with fail
        refine (state_c p g o _ Q.out).mono ?_
        rintro e' w1 ⟨rfl, rfl⟩
        go_wp2_with fail
        refine (narrow_c p g o _ Q.out V.out).mono ?_
        rintro e' w1 ⟨rfl, B, F⟩
        have B1 : Hid _ := B
        have F1 : Hid _ := F
        clear B F
        go_wp2_with fail
        go_end0
        exact ⟨rfl, by rw [e.out]; exact B1.out, F1.out⟩
      · have t := sta_gap k
        have e : Hid _ := ds_open (g := g) (h := o) (a := false) (b := true) (.inr ⟨rfl, by omega⟩)
        clear hv k1 k
        go_enter Try.func44, Try.ntmps44
        go_wp2_with fail
        refine (state_c p g o _ Q.out).mono ?_
        rintro e' w1 ⟨rfl, rfl⟩
        go_wp2_with fail
        refine (widen_c p g o _ Q.out V.out).mono ?_
        rintro e' w1 ⟨rfl, B, F⟩
        have B1 : Hid _ := B
        have F1 : Hid _ := F
        clear B F
        go_wp2_with fail
        go_end0
        exact ⟨rfl, by rw [e.out]; exact B1.out, F1.out⟩
  · have e : Hid _ := ds_open (g := g) (h := o) (a := true) (b := b) (.inl rfl)
    clear hv
    go_enter Try.func44, Try.ntmps44
    go_wp2_with fail
    refine (widen_c p g o _ Q.out V.out).mono ?_
    rintro e' w1 ⟨rfl, B, F⟩
    have B1 : Hid _ := B
    have F1 : Hid _ := F
    clear B F
    go_wp2_with fail
    go_end0
    exact ⟨rfl, by rw [e.out]; exact B1.out, F1.out⟩
theorem iDoorValid_c (g o : Int) (w : World) : Calls Try.prog 33 #[(Value.agg #[.int .i64 (g), .int .i64 (o)])] w (Mk w (.bool (dvB g o))) := by
  have Q : Hid _ := Box.new w g o 27
  by_cases h1 : g < 0
  · have e : Hid _ := dvB_f (g := g) (h := o) (fun k => by have := k.1; omega)
    go_enter Try.func33, Try.ntmps33
    go_wp2_with fail
    go_ret
    exact Mk.b e.out (by repeat (first | exact Below.refl _ _ | refine Below.al ?_ _ | refine Below.dr ?_ _ | refine Below.dw ?_ | refine Below.st ?_ (by first | exact Nat.le_refl _ | exact Nat.le_add_right _ _ | (simp; omega)) _ | (refine below_next ?_ (by assumption))))
  by_cases h2 : 4 < g
  · have e : Hid _ := dvB_f (g := g) (h := o) (fun k => by have := k.2.1; omega)
    go_enter Try.func33, Try.ntmps33
    go_wp2_with fail
    go_ret
    exact Mk.b e.out (by repeat (first | exact Below.refl _ _ | refine Below.al ?_ _ | refine Below.dr ?_ _ | refine Below.dw ?_ | refine Below.st ?_ (by first | exact Nat.le_refl _ | exact Nat.le_add_right _ _ | (simp; omega)) _ | (refine below_next ?_ (by assumption))))
  by_cases h3 : o < 0
  · have e : Hid _ := dvB_f (g := g) (h := o) (fun k => by have := k.2.2.1; omega)
    go_enter Try.func33, Try.ntmps33
    go_wp2_with fail
    go_ret
    exact Mk.b e.out (by repeat (first | exact Below.refl _ _ | refine Below.al ?_ _ | refine Below.dr ?_ _ | refine Below.dw ?_ | refine Below.st ?_ (by first | exact Nat.le_refl _ | exact Nat.le_add_right _ _ | (simp; omega)) _ | (refine below_next ?_ (by assumption))))
  by_cases h4 : 3 < o
  · have e : Hid _ := dvB_f (g := g) (h := o) (fun k => by have := k.2.2.2.1; omega)
    go_enter Try.func33, Try.ntmps33
    go_wp2_with fail
    go_ret
    exact Mk.b e.out (by repeat (first | exact Below.refl _ _ | refine Below.al ?_ _ | refine Below.dr ?_ _ | refine Below.dw ?_ | refine Below.st ?_ (by first | exact Nat.le_refl _ | exact Nat.le_add_right _ _ | (simp; omega)) _ | (refine below_next ?_ (by assumption))))
  by_cases h5 : o = 0
  · have e : Hid _ := dvB_t (g := g) (h := o) ⟨by omega, by omega, by omega, by omega, .inl h5⟩
    have t : (o == 0) = true := by simp [h5]
    clear h5
    go_enter Try.func33, Try.ntmps33
    go_wp2_with fail
    go_ret
    exact Mk.b e.out (by repeat (first | exact Below.refl _ _ | refine Below.al ?_ _ | refine Below.dr ?_ _ | refine Below.dw ?_ | refine Below.st ?_ (by first | exact Nat.le_refl _ | exact Nat.le_add_right _ _ | (simp; omega)) _ | (refine below_next ?_ (by assumption))))
  have t : (o == 0) = false := by simp [h5]
  by_cases h6 : g = 4
  · have e : Hid _ := dvB_t (g := g) (h := o) ⟨by omega, by omega, by omega, by omega, .inr h6⟩
    have t2 := sta_open h6
    clear h5 h6
    go_enter Try.func33, Try.ntmps33
    go_wp2_with fail
    refine (state_c _ g o _ Q.out).mono ?_
    rintro e' w1 ⟨rfl, rfl⟩
    go_wp2_with fail
    go_ret
    exact Mk.b e.out (by repeat (first | exact Below.refl _ _ | refine Below.al ?_ _ | refine Below.dr ?_ _ | refine Below.dw ?_ | refine Below.st ?_ (by first | exact Nat.le_refl _ | exact Nat.le_add_right _ _ | (simp; omega)) _ | (refine below_next ?_ (by assumption))))
  · have e : Hid _ := dvB_f (g := g) (h := o) (fun k => by have := k.2.2.2.2; omega)
    have t2 := sta_not h6
    clear h5 h6
    go_enter Try.func33, Try.ntmps33
    go_wp2_with fail
    refine (state_c _ g o _ Q.out).mono ?_
    rintro e' w1 ⟨rfl, rfl⟩
    go_wp2_with fail
    go_ret
    exact Mk.b e.out (by repeat (first | exact Below.refl _ _ | refine Below.al ?_ _ | refine Below.dr ?_ _ | refine Below.dw ?_ | refine Below.st ?_ (by first | exact Nat.le_refl _ | exact Nat.le_add_right _ _ | (simp; omega)) _ | (refine below_next ?_ (by assumption))))
theorem sDoorValid_c (g o : Int) (w : World) : Calls Try.prog 39 #[(Value.agg #[.int .i64 (g), .int .i64 (o)])] w (Mk w (.bool (dvB g o))) := by
  by_cases h1 : 0 ≤ g ∧ g ≤ 4
  case neg =>
    have t1 := inB_f h1
    have e : Hid _ := dvB_f (g := g) (h := o) (fun k => h1 ⟨k.1, k.2.1⟩)
    clear h1
    go_enter Try.func39, Try.ntmps39
    go_wp2_with (go_at_call 46; refine (l1In_c _ _ _ _).mono ?_; rintro e' w' ⟨rfl, n2, rfl⟩)
    go_ret
    exact Mk.b e.out (below_next ((Below.refl _ _).alloc (Nat.le_refl _) _) (below_drewN' _))
  have t1 := inB_t h1
  by_cases h2 : 0 ≤ o ∧ o ≤ 3
  case neg =>
    have t2 := inB_f h2
    have e : Hid _ := dvB_f (g := g) (h := o) (fun k => h2 ⟨k.2.2.1, k.2.2.2.1⟩)
    clear h1 h2
    go_enter Try.func39, Try.ntmps39
    go_wp2_with (go_at_call 46; refine (l1In_c _ _ _ _).mono ?_; rintro e' w' ⟨rfl, n2, rfl⟩)
    go_ret
    exact Mk.b e.out (below_next ((Below.refl _ _).alloc (Nat.le_refl _) _) (below_drewN' _))
  have t2 := inB_t h2
  by_cases h5 : o = 0
  · have e : Hid _ := dvB_t (g := g) (h := o) ⟨by omega, by omega, by omega, by omega, .inl h5⟩
    have t : (o == 0) = true := by simp [h5]
    clear h1 h2 h5
    go_enter Try.func39, Try.ntmps39
    go_wp2_with (go_at_call 46; refine (l1In_c _ _ _ _).mono ?_; rintro e' w' ⟨rfl, n2, rfl⟩)
    go_ret
    exact Mk.b e.out (below_next ((Below.refl _ _).alloc (Nat.le_refl _) _) (below_drewN' _))
  have t : (o == 0) = false := by simp [h5]
  by_cases h6 : g = 4
  · have e : Hid _ := dvB_t (g := g) (h := o) ⟨by omega, by omega, by omega, by omega, .inr h6⟩
    have t3 : (g == 4) = true := by simp [h6]
    clear h1 h2 h5 h6
    go_enter Try.func39, Try.ntmps39
    go_wp2_with (go_at_call 46; refine (l1In_c _ _ _ _).mono ?_; rintro e' w' ⟨rfl, n2, rfl⟩)
    go_ret
    exact Mk.b e.out (below_next ((Below.refl _ _).alloc (Nat.le_refl _) _) (below_drewN' _))
  · have e : Hid _ := dvB_f (g := g) (h := o) (fun k => by have := k.2.2.2.2; omega)
    have t3 : (g == 4) = false := by simp [h6]
    clear h1 h2 h5 h6
    go_enter Try.func39, Try.ntmps39
    go_wp2_with (go_at_call 46; refine (l1In_c _ _ _ _).mono ?_; rintro e' w' ⟨rfl, n2, rfl⟩)
    go_ret
    exact Mk.b e.out (below_next ((Below.refl _ _).alloc (Nat.le_refl _) _) (below_drewN' _))
theorem iDoorTicks_c (g o : Int) (w : World) : Calls Try.prog 49 #[(Value.agg #[.int .i64 (g), .int .i64 (o)])] w (Mk w (.int .i64 (dtk g o))) := by
  have Q : Hid _ := Box.new w g o 27
  cases hv : dvB g o
  · have e : Hid _ := dtk_bad hv
    go_enter Try.func49, Try.ntmps49
    go_wp2_with fail
    refine (iDoorValid_c g o _).mono ?_
    rintro e' w1 ⟨rfl, hb⟩
    go_wp2_with fail
    go_ret
    exact Mk.i e.out (by repeat (first | exact Below.refl _ _ | refine Below.al ?_ _ | refine Below.dr ?_ _ | refine Below.dw ?_ | refine Below.st ?_ (by first | exact Nat.le_refl _ | exact Nat.le_add_right _ _ | (simp; omega)) _ | (refine below_next ?_ (by assumption))))
  · have e : Hid _ := dtk_ok hv
    have V := dvB_iff.1 hv
    obtain ⟨k1, k2, k3, k4, k5⟩ := V
    clear k5
    go_enter Try.func49, Try.ntmps49
    go_wp2_with fail
    refine (iDoorValid_c g o _).mono ?_
    rintro e' w1 ⟨rfl, hb⟩
    have B1 : Hid _ := Box.below Q.out hb
    have T1 : Hid (Below w.heap.size w w1) := (by repeat (first | exact Below.refl _ _ | refine Below.al ?_ _ | refine Below.dr ?_ _ | refine Below.dw ?_ | refine Below.st ?_ (by first | exact Nat.le_refl _ | exact Nat.le_add_right _ _ | (simp; omega)) _ | (refine below_next ?_ (by assumption))))
    clear hb
    obtain ⟨⟨c0, c1⟩, f0, f1⟩ := B1.out
    go_wp2_with fail
    go_ret
    exact Mk.i e.out T1.out
theorem sDoorTicks_c (g o : Int) (w : World) : Calls Try.prog 51 #[(Value.agg #[.int .i64 (g), .int .i64 (o)])] w (Mk w (.int .i64 (dtk g o))) := by
  have Q : Hid _ := Box.new w g o 27
  cases hv : dvB g o
  · have e : Hid _ := dtk_bad hv
    go_enter Try.func51, Try.ntmps51
    go_wp2_with fail
    refine (sDoorValid_c g o _).mono ?_
    rintro e' w1 ⟨rfl, hb⟩
    go_wp2_with fail
    go_ret
    exact Mk.i e.out (by repeat (first | exact Below.refl _ _ | refine Below.al ?_ _ | refine Below.dr ?_ _ | refine Below.dw ?_ | refine Below.st ?_ (by first | exact Nat.le_refl _ | exact Nat.le_add_right _ _ | (simp; omega)) _ | (refine below_next ?_ (by assumption))))
  · have e : Hid _ := dtk_ok hv
    have V := dvB_iff.1 hv
    obtain ⟨k1, k2, k3, k4, k5⟩ := V
    clear k5
    go_enter Try.func51, Try.ntmps51
    go_wp2_with fail
    refine (sDoorValid_c g o _).mono ?_
    rintro e' w1 ⟨rfl, hb⟩
    have B1 : Hid _ := Box.below Q.out hb
    have T1 : Hid (Below w.heap.size w w1) := (by repeat (first | exact Below.refl _ _ | refine Below.al ?_ _ | refine Below.dr ?_ _ | refine Below.dw ?_ | refine Below.st ?_ (by first | exact Nat.le_refl _ | exact Nat.le_add_right _ _ | (simp; omega)) _ | (refine below_next ?_ (by assumption))))
    clear hb
    obtain ⟨⟨c0, c1⟩, f0, f1⟩ := B1.out
    go_wp2_with fail
    go_ret
    exact Mk.i e.out T1.out
end Go.Proofs.Ytcecmikmmggngaa
