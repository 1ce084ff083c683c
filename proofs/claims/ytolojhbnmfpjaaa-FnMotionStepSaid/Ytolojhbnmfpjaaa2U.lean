/- What the drawing functions of chapter 2 give beside a car. -/
import Derived.Test.Ytolojhbnmfpjaaa2T
import Derived.Test.Ytolojhbnmfpjaaa2F
import Derived.Deep.RegionWith
namespace Go.Proofs.Ytolojhbnmfpjaaa
open Go.RowKit
set_option linter.unusedVariables false

theorem Rd.dw {w : World} {g c : Nat} (h : Rd w g c) : Rd w.drew g c := h
theorem Fr.dw {w w' : World} {g : Nat} (h : Fr w g w') : Fr w g w'.drew := ⟨h.os, h.tape, h.output, h.size, h.block⟩
/-- A drawn number beside a car. -/
def DrawnI (w : World) (g c d : Nat) (e : Ending) (w' : World) : Prop := ∃ (t : Int) (c' : Nat), e = .returned (.int .i64 t) ∧ -100 ≤ t ∧ t ≤ 100 ∧ Rd w' g c' ∧ c' ≤ c + d ∧ Fr w g w'
set_option maxHeartbeats 1000000 in
theorem l20Target_c (g c : Nat) (a s : Int) (w : World) (hr : Rd w g c) (hc : c ≤ 100000) (ha : -1 ≤ a) (ha2 : a ≤ 61) :
    Calls Try.prog 38 #[.pointer (some ⟨g, 0, none⟩), (Value.agg #[.int .i64 (a), .int .i64 (s)])] w (DrawnI w g c 3) := by
  have hgl := hr.lt
  have R0 : Hid _ := Rd.alloc hr (.cells #[.int .i64 a, .int .i64 s] 24)
  have B0 : Hid _ := Box.new w a s 24
  have F0 : Hid (Fr w g _) := Fr.alloc (Fr.refl w g) (.cells #[.int .i64 a, .int .i64 s] 24)
  obtain ⟨B, hB⟩ : ∃ B, w.heap.size = B := ⟨_, rfl⟩
  have HB : Hid _ := hB
  have B0' : Hid (Box (w.alloc (.cells #[.int .i64 a, .int .i64 s] 24)) B a s) := by rw [← hB]; exact B0.out
  rw [hB] at hgl
  clear hr hB B0
  have hBg : B ≠ g := by omega
  go_enter Try.func38, Try.ntmps38
  go_wp2_with fail
  rw [HB.out]
  refine (pick_c g c 3 _ R0.out (by omega) (by omega)).mono ?_
  rintro e w1 ⟨p, rfl, p0, p1, v2, v3, v4⟩
  have R1 : Hid _ := v2
  have F1 : Hid (Fr w g w1) := Fr.trans F0.out v3
  have B1 : Hid _ := Box.fr B0'.out v3 hBg
  clear v2 v3 v4 p1
  by_cases hp : p = 0
  · have tp : (p == 0) = true := by simp [hp]
    clear hp
    obtain ⟨⟨c0, c1⟩, f0, f1⟩ := B1.out
    go_wp2_with fail
    go_region_with (first | (go_at_call 37; refine (pick_c g _ 9 _ (Rd.dw R1.out) (by omega) (by omega)).mono ?_; rintro e w2 ⟨q, rfl, q0, q1, v2, v3, v4⟩; have hq : q ≤ 8 := (by omega); have R2 : Hid _ := v2; have F2 : Hid (Fr w g w2) := Fr.trans (Fr.dw F1.out) v3; have B2 := Box.fr (Box.dw B1.out) v3 hBg; clear v2 v3 v4 q1; obtain ⟨⟨c0', c1'⟩, f0', f1'⟩ := B2))
    all_goals
      go_wp2_with fail
      all_goals
        go_ret
        exact ⟨_, _, rfl, by omega, by omega, R2.out, by omega, F2.out⟩
  · have tp : (p == 0) = false := by simp [hp]
    clear hp
    go_wp2_with fail
    refine (pick_c g _ 61 _ R1.out (by omega) (by omega)).mono ?_
    rintro e w2 ⟨q, rfl, q0, q1, v2, v3, v4⟩
    have hq : q ≤ 60 := by omega
    have R2 : Hid _ := v2
    have F2 : Hid (Fr w g w2) := Fr.trans F1.out v3
    clear v2 v3 v4 q1
    go_wp2_with fail
    refine (pick_c g _ 30 _ R2.out (by omega) (by omega)).mono ?_
    rintro e w3 ⟨r, rfl, r0, r1, v2, v3, v4⟩
    have hr : r ≤ 29 := by omega
    have R3 : Hid _ := v2
    have F3 : Hid (Fr w g w3) := Fr.trans F2.out v3
    clear v2 v3 v4 r1
    go_wp2_with fail
    go_ret
    exact ⟨_, _, rfl, by omega, by omega, R3.out, by omega, F3.out⟩
/-- A store into a box does not touch what a reader reads. -/
theorem Rd.box {w : World} {g c B j : Nat} {x y : Int} (h : Rd w g c) (hB : Box w B x y) (hne : B ≠ g) (hj : j = 0 ∨ j = 1) (v : Value) : Rd (w.setCell ⟨B, j, none⟩ v) g c := by
  obtain ⟨a, n, cap, h0, h1, h2, h3, h4, h5⟩ := h
  refine ⟨a, n, cap, ?_, ?_, ?_, h3, h4, ?_⟩
  · rw [World.cell?_setCell_other _ _ _ _ (fun e => hne (congrArg Addr.block e))]; exact h0
  · rw [World.cell?_setCell_other _ _ _ _ (fun e => hne (congrArg Addr.block e))]; exact h1
  · rw [World.frozen?_setCell]; exact h2
  · rcases h5 with h5 | ⟨b, off, rfl, z, hz, hc⟩
    · exact .inl h5
    · refine .inr ⟨b, off, rfl, z, hz, fun i hi => ?_⟩
      rw [World.cell?_setCell_other _ _ _ _ ?_]
      · exact hc i hi
      · intro e
        have := hc i hi
        rw [← e] at this
        rcases hj with rfl | rfl
        · rw [hB.1.1] at this; cases this
        · rw [hB.1.2] at this; cases this
/-- A drawn car, or a car and a target: nothing that was there has changed. -/
def DrawnC (w : World) (e : Ending) (w' : World) : Prop := ∃ (a s : Int), e = .returned (Value.agg #[.int .i64 (a), .int .i64 (s)]) ∧ -1 ≤ a ∧ a ≤ 61 ∧ -6 ≤ s ∧ s ≤ 6 ∧ Below w.heap.size w w'
def DrawnC1 (w : World) (e : Ending) (w' : World) : Prop := ∃ (a s t : Int), e = .returned (.tuple #[(Value.agg #[.int .i64 (a), .int .i64 (s)]), .int .i64 t]) ∧ -1 ≤ a ∧ a ≤ 61 ∧ -6 ≤ s ∧ s ≤ 6 ∧ -100 ≤ t ∧ t ≤ 100 ∧ Below w.heap.size w w'
def DrawnN (w : World) (e : Ending) (w' : World) : Prop := ∃ (s : Int), e = .returned (.int .i64 s) ∧ -7 ≤ s ∧ s ≤ 7 ∧ Below w.heap.size w w'
theorem DrawBrakeWay_c (a : Option Addr) (n cap : Nat) (w : World) (hb : Byt w a n) (hn : n ≤ cap) (hcap : cap ≤ maxLen) :
    Calls Try.prog 17 #[.slice a n cap] w (DrawnN w) := by
  go_enter Try.func17, Try.ntmps17
  go_wp2_with fail
  refine (open_c a n cap _ hb hn hcap).mono ?_
  rintro e w1 ⟨g, hg, rfl, hr, hB⟩
  go_wp2_with fail
  refine (pick_c g 0 15 _ hr (by omega) (by omega)).mono ?_
  rintro e w2 ⟨p, rfl, p0, p1, v2, v3, v4⟩
  have hp : p ≤ 14 := by omega
  have HF : Hid (Fr w1 g w2) := v3
  clear p1 v2 v3 v4 hr
  go_wp2_with fail
  go_ret
  exact ⟨_, rfl, by omega, by omega, Fr.below hB HF.out hg⟩
theorem DrawMotionValid_c (a : Option Addr) (n cap : Nat) (w : World) (hb : Byt w a n) (hn : n ≤ cap) (hcap : cap ≤ maxLen) :
    Calls Try.prog 13 #[.slice a n cap] w (DrawnC w) := by
  have HY : Hid _ := hb.below ((Below.refl _ _).alloc (Nat.le_refl _) (.cells #[.int .i64 0, .int .i64 0] 24))
  have B0 : Hid _ := Box.new w 0 0 24
  have T0 : Hid (Below w.heap.size w (w.alloc (.cells #[.int .i64 0, .int .i64 0] 24))) := (by repeat (first | exact Below.refl _ _ | refine Below.al ?_ _ | refine Below.dr ?_ _ | refine Below.dw ?_ | refine Below.st ?_ (by first | exact Nat.le_refl _ | exact Nat.le_add_right _ _ | (simp; omega)) _ | (refine below_next ?_ (by assumption))))
  clear hb
  go_enter Try.func13, Try.ntmps13
  go_wp2_with fail
  refine (open_c a n cap _ HY.out hn hcap).mono ?_
  rintro e w1 ⟨g, hg, rfl, hr, hB⟩
  have B1 : Hid _ := Box.below B0.out hB
  have T1 : Hid (Below w.heap.size w w1) := below_next T0.out hB
  have R1 : Hid _ := hr
  have hg1 : w.heap.size < g := by simp at hg; omega
  clear hr hB hg
  go_wp2_with fail
  refine (l20Motion_c g 0 2 _ R1.out (by omega) (by omega) (by omega)).mono ?_
  rintro e w2 ⟨x, s, c', rfl, x0, x1, s0, s1, hr, hc, hf⟩
  have B2 : Hid _ := Box.fr B1.out hf (by omega)
  have T2 : Hid (Below w.heap.size w w2) := Fr.below T1.out hf (by omega)
  clear hr hc hf
  obtain ⟨⟨c0, c1⟩, f0, f1⟩ := B2.out
  go_wp2_with fail
  exact bodyPost_ret (v := (Value.agg #[.int .i64 (x), .int .i64 (s)])) (by simp [results, Try.results13, go_sem, c0, c1]) rfl ⟨x, s, rfl, x0, x1, s0, s1, (by have HZ := T2.out; exact (by repeat (first | exact Below.refl _ _ | refine Below.al ?_ _ | refine Below.dr ?_ _ | refine Below.dw ?_ | refine Below.st ?_ (by first | exact Nat.le_refl _ | exact Nat.le_add_right _ _ | (simp; omega)) _ | (refine below_next ?_ (by assumption)))))⟩
set_option maxHeartbeats 1000000 in
theorem DrawCanStop_c (a : Option Addr) (n cap : Nat) (w : World) (hb : Byt w a n) (hn : n ≤ cap) (hcap : cap ≤ maxLen) :
    Calls Try.prog 20 #[.slice a n cap] w (DrawnC1 w) := by
  have HY : Hid _ := hb.below ((Below.refl _ _).alloc (Nat.le_refl _) (.cells #[.int .i64 0, .int .i64 0] 24))
  obtain ⟨B, hBB⟩ : ∃ B, w.heap.size = B := ⟨_, rfl⟩
  have HB : Hid _ := hBB
  have B0 : Hid (Box (w.alloc (.cells #[.int .i64 0, .int .i64 0] 24)) B 0 0) := by rw [← hBB]; exact Box.new w 0 0 24
  have T0 : Hid (Below w.heap.size w (w.alloc (.cells #[.int .i64 0, .int .i64 0] 24))) := (by repeat (first | exact Below.refl _ _ | refine Below.al ?_ _ | refine Below.dr ?_ _ | refine Below.dw ?_ | refine Below.st ?_ (by first | exact Nat.le_refl _ | exact Nat.le_add_right _ _ | (simp; omega)) _ | (refine below_next ?_ (by assumption))))
  clear hb hBB
  go_enter Try.func20, Try.ntmps20
  go_wp2_with fail
  rw [HB.out]
  refine (open_c a n cap _ HY.out hn hcap).mono ?_
  rintro e w1 ⟨g, hg, rfl, hr, hB⟩
  have B1 : Hid _ := Box.below B0.out hB
  have T1 : Hid (Below w.heap.size w w1) := below_next T0.out hB
  have R1 : Hid _ := hr
  have hg1 : B < g := by have := HB.out; simp at hg; omega
  clear hr hB hg
  go_wp2_with fail
  refine (l20Motion_c g 0 9 _ R1.out (by omega) (by omega) (by omega)).mono ?_
  rintro e w2 ⟨x, s, c', rfl, x0, x1, s0, s1, hr, hc, hf⟩
  have B2 : Hid _ := Box.al (Box.fr B1.out hf (by omega)) (.cells #[.int .i64 x, .int .i64 s] 24)
  have T2 : Hid (Below w.heap.size w (w2.alloc (.cells #[.int .i64 x, .int .i64 s] 24))) := Below.al (Fr.below T1.out hf (by have := HB.out; omega)) _
  have R2 : Hid _ := Rd.alloc hr (.cells #[.int .i64 x, .int .i64 s] 24)
  have hgl : g < w2.heap.size := Rd.lt hr
  obtain ⟨G, hG⟩ : ∃ G, w2.heap.size = G := ⟨_, rfl⟩
  have HG : Hid _ := hG
  have G2 : Hid (Box (w2.alloc (.cells #[.int .i64 x, .int .i64 s] 24)) G x s) := by rw [← hG]; exact Box.new w2 x s 24
  rw [hG] at hgl
  clear hr hf hG
  have hBg : B ≠ g := by omega
  have hGg : G ≠ g := by omega
  have hBG : B ≠ G := by omega
  go_wp2_with fail
  rw [HG.out]
  obtain ⟨W, hW⟩ : ∃ W, w2.alloc (.cells #[.int .i64 x, .int .i64 s] 24) = W := ⟨_, rfl⟩
  rw [hW]
  have B3 : Hid (Box W.drew B 0 0) := by rw [← hW]; exact Box.dw B2.out
  have G3 : Hid (Box W.drew G x s) := by rw [← hW]; exact Box.dw G2.out
  have R3 : Hid (Rd W.drew g c') := by rw [← hW]; exact Rd.dw R2.out
  have T3 : Hid (Below w.heap.size w W.drew) := by rw [← hW]; exact Below.dw T2.out
  have B4 : Hid (Box ((W.drew.setCell ⟨B, 0, none⟩ (.int .i64 x)).setCell ⟨B, 1, none⟩ (.int .i64 s)) B x s) := Box.set _ _ B3.out
  have G4 : Hid (Box ((W.drew.setCell ⟨B, 0, none⟩ (.int .i64 x)).setCell ⟨B, 1, none⟩ (.int .i64 s)) G x s) := Box.far (Box.far G3.out (fun e => hBG e.symm)) (fun e => hBG e.symm)
  have R4 : Hid (Rd ((W.drew.setCell ⟨B, 0, none⟩ (.int .i64 x)).setCell ⟨B, 1, none⟩ (.int .i64 s)) g c') := Rd.box (Rd.box R3.out B3.out hBg (.inl rfl) _) (Box.set0 _ B3.out) hBg (.inr rfl) _
  have T4 : Hid (Below w.heap.size w ((W.drew.setCell ⟨B, 0, none⟩ (.int .i64 x)).setCell ⟨B, 1, none⟩ (.int .i64 s))) := Below.st (Below.st T3.out (Nat.le_of_eq HB.out) _) (Nat.le_of_eq HB.out) _
  clear hW B2 T2 R2 G2
  obtain ⟨⟨c0, c1⟩, f0, f1⟩ := B3.out
  obtain ⟨⟨d0, d1⟩, e0, e1⟩ := G3.out
  obtain ⟨⟨p0, p1⟩, q0, q1⟩ := G4.out
  go_region_with (first | (go_at_call 38; refine (l20Target_c g c' x s _ R3.out (by omega) (by omega) (by omega)).mono ?_; rintro e w4 ⟨t, c5, rfl, t0, t1, v1, v2, v3⟩; have B5 := Box.fr B3.out v3 hBg; have G5 := Box.fr G3.out v3 hGg; have T5 : Hid (Below w.heap.size w w4) := Fr.below T3.out v3 (by have := HB.out; omega); clear v1 v2 v3; obtain ⟨⟨c0', c1'⟩, f0', f1'⟩ := B5; obtain ⟨⟨d0', d1'⟩, e0', e1'⟩ := G5) | (go_at_call 38; refine (l20Target_c g c' x s _ R4.out (by omega) (by omega) (by omega)).mono ?_; rintro e w4 ⟨t, c5, rfl, t0, t1, v1, v2, v3⟩; have B5 := Box.fr B4.out v3 hBg; have G5 := Box.fr G4.out v3 hGg; have T5 : Hid (Below w.heap.size w w4) := Fr.below T4.out v3 (by have := HB.out; omega); clear v1 v2 v3; obtain ⟨⟨c0', c1'⟩, f0', f1'⟩ := B5; obtain ⟨⟨d0', d1'⟩, e0', e1'⟩ := G5))
  all_goals
    go_wp2_with fail
    exact bodyPost_ret (v := .tuple #[(Value.agg #[.int .i64 (x), .int .i64 (s)]), .int .i64 t]) (by simp [results, Try.results20, go_sem, c0', c1']) rfl ⟨x, s, t, rfl, x0, x1, s0, s1, t0, t1, (by have HZ := T5.out; have hq := HB.out; first | exact HZ | exact Below.st (Below.st HZ (Nat.le_of_eq hq) _) (Nat.le_of_eq hq) _)⟩
theorem DrawMotionStep_c (a : Option Addr) (n cap : Nat) (w : World) (hb : Byt w a n) (hn : n ≤ cap) (hcap : cap ≤ maxLen) :
    Calls Try.prog 24 #[.slice a n cap] w (DrawnC1 w) := by
  have HY : Hid _ := hb.below ((Below.refl _ _).alloc (Nat.le_refl _) (.cells #[.int .i64 0, .int .i64 0] 24))
  have B0 : Hid _ := Box.new w 0 0 24
  have T0 : Hid (Below w.heap.size w (w.alloc (.cells #[.int .i64 0, .int .i64 0] 24))) := (by repeat (first | exact Below.refl _ _ | refine Below.al ?_ _ | refine Below.dr ?_ _ | refine Below.dw ?_ | refine Below.st ?_ (by first | exact Nat.le_refl _ | exact Nat.le_add_right _ _ | (simp; omega)) _ | (refine below_next ?_ (by assumption))))
  clear hb
  go_enter Try.func24, Try.ntmps24
  go_wp2_with fail
  refine (DrawCanStop_c a n cap _ HY.out hn hcap).mono ?_
  rintro e w1 ⟨x, s, t, rfl, x0, x1, s0, s1, t0, t1, hB⟩
  have B1 : Hid _ := Box.below B0.out hB
  have T1 : Hid (Below w.heap.size w w1) := below_next T0.out hB
  clear hB
  obtain ⟨⟨c0, c1⟩, f0, f1⟩ := B1.out
  go_wp2_with fail
  exact bodyPost_ret (v := .tuple #[(Value.agg #[.int .i64 (x), .int .i64 (s)]), .int .i64 t]) (by simp [results, Try.results24, go_sem, c0, c1]) rfl ⟨x, s, t, rfl, x0, x1, s0, s1, t0, t1, (by have HZ := T1.out; exact (by repeat (first | exact Below.refl _ _ | refine Below.al ?_ _ | refine Below.dr ?_ _ | refine Below.dw ?_ | refine Below.st ?_ (by first | exact Nat.le_refl _ | exact Nat.le_add_right _ _ | (simp; omega)) _ | (refine below_next ?_ (by assumption)))))⟩
theorem DrawMotionTicks_c (a : Option Addr) (n cap : Nat) (w : World) (hb : Byt w a n) (hn : n ≤ cap) (hcap : cap ≤ maxLen) :
    Calls Try.prog 26 #[.slice a n cap] w (DrawnC1 w) := by
  have HY : Hid _ := hb.below ((Below.refl _ _).alloc (Nat.le_refl _) (.cells #[.int .i64 0, .int .i64 0] 24))
  have B0 : Hid _ := Box.new w 0 0 24
  have T0 : Hid (Below w.heap.size w (w.alloc (.cells #[.int .i64 0, .int .i64 0] 24))) := (by repeat (first | exact Below.refl _ _ | refine Below.al ?_ _ | refine Below.dr ?_ _ | refine Below.dw ?_ | refine Below.st ?_ (by first | exact Nat.le_refl _ | exact Nat.le_add_right _ _ | (simp; omega)) _ | (refine below_next ?_ (by assumption))))
  clear hb
  go_enter Try.func26, Try.ntmps26
  go_wp2_with fail
  refine (DrawCanStop_c a n cap _ HY.out hn hcap).mono ?_
  rintro e w1 ⟨x, s, t, rfl, x0, x1, s0, s1, t0, t1, hB⟩
  have B1 : Hid _ := Box.below B0.out hB
  have T1 : Hid (Below w.heap.size w w1) := below_next T0.out hB
  clear hB
  obtain ⟨⟨c0, c1⟩, f0, f1⟩ := B1.out
  go_wp2_with fail
  exact bodyPost_ret (v := .tuple #[(Value.agg #[.int .i64 (x), .int .i64 (s)]), .int .i64 t]) (by simp [results, Try.results26, go_sem, c0, c1]) rfl ⟨x, s, t, rfl, x0, x1, s0, s1, t0, t1, (by have HZ := T1.out; exact (by repeat (first | exact Below.refl _ _ | refine Below.al ?_ _ | refine Below.dr ?_ _ | refine Below.dw ?_ | refine Below.st ?_ (by first | exact Nat.le_refl _ | exact Nat.le_add_right _ _ | (simp; omega)) _ | (refine below_next ?_ (by assumption)))))⟩
end Go.Proofs.Ytolojhbnmfpjaaa
