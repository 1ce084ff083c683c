/- What the drawing functions of chapter 2 give. -/
import Derived.Test.YtpfllhiibkdfaaaS
import Derived.Test.Ytpfllhiibkdfaaa2B
namespace Go.Proofs.Ytpfllhiibkdfaaa
open Go.RowKit
set_option linter.unusedVariables false

theorem Box.fr {w w' : World} {b g : Nat} {a s : Int} (h : Box w b a s) (hf : Fr w g w') (hne : b ≠ g) : Box w' b a s :=
  ⟨⟨World.grownBy.cell hf h.1.1 (by simp; exact hne), World.grownBy.cell hf h.1.2 (by simp; exact hne)⟩,
    (World.frozen?_of_block (hf.block b h.lt (by simp; exact hne))).trans h.2.1, (World.frozen?_of_block (hf.block b h.lt (by simp; exact hne))).trans h.2.2⟩
theorem Box.set0 {w : World} {b : Nat} {a s : Int} (a' : Int) (h : Box w b a s) : Box (w.setCell ⟨b, 0, none⟩ (.int .i64 a')) b a' s := by
  refine ⟨⟨World.cell?_setCell_same _ _ _ h.1.1, ?_⟩, ?_, ?_⟩
  · rw [World.cell?_setCell_other _ _ _ _ (by simp)]; exact h.1.2
  · rw [World.frozen?_setCell]; exact h.2.1
  · rw [World.frozen?_setCell]; exact h.2.2
theorem Box.set1 {w : World} {b : Nat} {a s : Int} (s' : Int) (h : Box w b a s) : Box (w.setCell ⟨b, 1, none⟩ (.int .i64 s')) b a s' := by
  refine ⟨⟨?_, World.cell?_setCell_same _ _ _ h.1.2⟩, ?_, ?_⟩
  · rw [World.cell?_setCell_other _ _ _ _ (by simp)]; exact h.1.1
  · rw [World.frozen?_setCell]; exact h.2.1
  · rw [World.frozen?_setCell]; exact h.2.2
theorem Box.far {w : World} {b c j : Nat} {a s : Int} {v : Value} (h : Box w b a s) (hne : b ≠ c) : Box (w.setCell ⟨c, j, none⟩ v) b a s := by
  refine ⟨⟨?_, ?_⟩, ?_, ?_⟩
  · rw [World.cell?_setCell_other _ _ _ _ (fun e => hne (congrArg Addr.block e).symm)]; exact h.1.1
  · rw [World.cell?_setCell_other _ _ _ _ (fun e => hne (congrArg Addr.block e).symm)]; exact h.1.2
  · rw [World.frozen?_setCell]; exact h.2.1
  · rw [World.frozen?_setCell]; exact h.2.2
/-- A drawn car. -/
def DrawnM (w : World) (g c d : Nat) (e : Ending) (w' : World) : Prop := ∃ (a s : Int) (c' : Nat), e = .returned (Value.agg #[.int .i64 (a), .int .i64 (s)]) ∧ -1 ≤ a ∧ a ≤ 61 ∧ -6 ≤ s ∧ s ≤ 6 ∧ Rd w' g c' ∧ c' ≤ c + d ∧ Fr w g w'

set_option maxHeartbeats 2000000 in
theorem l20Motion_c (g c : Nat) (m : Int) (w : World) (hr : Rd w g c) (hc : c ≤ 100000) (hm0 : 0 < m) (hm1 : m ≤ 1000000) :
    Calls Try.prog 39 #[.pointer (some ⟨g, 0, none⟩), .int .i64 m] w (DrawnM w g c 6) := by
  have hgl := hr.lt
  have R0 : Hid _ := Rd.alloc hr (.cells #[.int .i64 0, .int .i64 0] 29)
  have B0 : Hid _ := Box.new w 0 0 29
  have F0 : Hid (Fr w g _) := Fr.alloc (Fr.refl w g) (.cells #[.int .i64 0, .int .i64 0] 29)
  obtain ⟨B, hB⟩ : ∃ B, w.heap.size = B := ⟨_, rfl⟩
  have HB : Hid _ := hB
  have B0' : Hid (Box (w.alloc (.cells #[.int .i64 0, .int .i64 0] 29)) B 0 0) := by rw [← hB]; exact B0.out
  rw [hB] at hgl
  clear hr hB B0
  have hBg : B ≠ g := by omega
  go_enter Try.func39, Try.ntmps39
  go_wp2_with fail
  rw [HB.out]
  refine (pick_c g c 61 _ R0.out (by omega) (by omega)).mono ?_
  rintro e w1 ⟨p, rfl, p0, p1, v2, v3, v4⟩
  have hp : p ≤ 60 := by omega
  have R1 : Hid _ := v2
  have F1 : Hid (Fr w g w1) := Fr.trans F0.out v3
  have B1 : Hid _ := Box.fr B0'.out v3 hBg
  clear v2 v3 v4 p1
  go_wp2_with fail
  refine (pick_c g _ 11 _ R1.out (by omega) (by omega)).mono ?_
  rintro e w2 ⟨q, rfl, q0, q1, v2, v3, v4⟩
  have hq : q ≤ 10 := by omega
  have R2' : Hid _ := Rd.alloc v2 (.cells #[.int .i64 p, .int .i64 (q - 5)] 29)
  have F2' : Hid (Fr w g _) := Fr.alloc (Fr.trans F1.out v3) (.cells #[.int .i64 p, .int .i64 (q - 5)] 29)
  have B2' : Hid _ := Box.al (Box.fr B1.out v3 hBg) (.cells #[.int .i64 p, .int .i64 (q - 5)] 29)
  have G2' : Hid _ := Box.new w2 p (q - 5) 29
  have hlt : g < w2.heap.size := Rd.lt v2
  obtain ⟨G, hG⟩ : ∃ G, w2.heap.size = G := ⟨_, rfl⟩
  have HG : Hid _ := hG
  have hBG : B < G := by have := (Box.fr B1.out v3 hBg).lt; omega
  have G2 : Hid (Box (w2.alloc (.cells #[.int .i64 p, .int .i64 (q - 5)] 29)) G p (q - 5)) := by rw [← hG]; exact G2'.out
  rw [hG] at hlt
  clear v2 v3 v4 q1 hG G2'
  have hGg : G ≠ g := by omega
  have hBG' : B ≠ G := by omega
  go_wp2_with fail
  rw [HG.out]
  refine (pick_c g _ 2 _ R2'.out (by omega) (by omega)).mono ?_
  rintro e w3 ⟨u, rfl, u0, u1, v2, v3, v4⟩
  have R3 : Hid _ := v2
  have F3 : Hid (Fr w g w3) := Fr.trans F2'.out v3
  have B3 : Hid _ := Box.fr B2'.out v3 hBg
  have G3 : Hid _ := Box.fr G2.out v3 hGg
  clear v2 v3 v4 u1
  obtain ⟨⟨c0, c1⟩, f0, f1⟩ := G3.out
  by_cases hu : u = 0
  · have tu : (u == 0) = true := by simp [hu]
    clear hu
    go_wp2_with fail
    refine (odd_c g _ m _ (Rd.set R3.out _ (by omega)) (by omega) hm1 hm0).mono ?_
    rintro e w5 ⟨b, j, rfl, hj, v2, v3, v4⟩
    have R5 : Hid _ := v2
    have F5 : Hid (Fr w g w5) := Fr.trans (Fr.set F3.out _ (by rw [HB.out]; omega)) v3
    have B5 : Hid _ := Box.fr (Box.far B3.out hBG') v3 hBg
    have G5 : Hid _ := Box.fr (Box.set1 0 G3.out) v3 hGg
    clear v2 v3 v4 c0 c1 f0 f1
    cases b
    · obtain ⟨⟨c0, c1⟩, f0, f1⟩ := G5.out
      obtain ⟨⟨d0, d1⟩, e0, e1⟩ := B5.out
      go_wp2_with fail
      refine bodyPost_ret (v := (Value.agg #[.int .i64 (p), .int .i64 (0)])) (by simp [results, Try.results39, go_sem, d0, d1]) rfl ⟨p, 0, _, rfl, by omega, by omega, by omega, by omega, Rd.set (Rd.set R5.out _ hgl) _ hgl, by omega, Fr.set (Fr.set F5.out _ (by rw [HB.out]; exact Nat.le_refl _)) _ (by rw [HB.out]; exact Nat.le_refl _)⟩
    · go_wp2_with fail
      refine (pick_c g _ 2 _ R5.out (by omega) (by omega)).mono ?_
      rintro e w6 ⟨y, rfl, y0, y1, v2, v3, v4⟩
      have R6 : Hid _ := v2
      have F6 : Hid (Fr w g w6) := Fr.trans F5.out v3
      have B6 : Hid _ := Box.fr B5.out v3 hBg
      have G6 : Hid _ := Box.fr G5.out v3 hGg
      have hGl : G < w6.heap.size := Box.lt G6.out
      have hgl6 : g < w6.heap.size := Rd.lt R6.out
      clear v2 v3 v4 y1
      by_cases hy : y = 0
      · have ty : (y == 0) = true := by simp [hy]
        clear hy
        have N6 : Hid _ := Box.new w6 (-1) 61 3
        obtain ⟨H, hH⟩ : ∃ H, w6.heap.size = H := ⟨_, rfl⟩
        have HH : Hid _ := hH
        rw [hH] at hGl hgl6
        have N6' : Hid (Box (w6.alloc (.cells #[.int .i64 (-1), .int .i64 61] 3)) H (-1) 61) := by rw [← hH]; exact N6.out
        clear N6 hH
        have hHg : H ≠ g := by omega
        have R6' : Hid _ := Rd.alloc R6.out (.cells #[.int .i64 (-1), .int .i64 61] 3)
        have F6' : Hid (Fr w g _) := Fr.alloc F6.out (.cells #[.int .i64 (-1), .int .i64 61] 3)
        have B6' : Hid _ := Box.al B6.out (.cells #[.int .i64 (-1), .int .i64 61] 3)
        have G6' : Hid _ := Box.al G6.out (.cells #[.int .i64 (-1), .int .i64 61] 3)
        go_wp2_with fail
        rw [HH.out]
        refine (pick_c g _ 2 _ R6'.out (by omega) (by omega)).mono ?_
        rintro e w7 ⟨z, rfl, z0, z1, v2, v3, v4⟩
        have hz : z = 0 ∨ z = 1 := by omega
        have R7 : Hid _ := v2
        have F7 : Hid (Fr w g w7) := Fr.trans F6'.out v3
        have B7 : Hid _ := Box.fr B6'.out v3 hBg
        have G7 : Hid _ := Box.fr G6'.out v3 hGg
        have N7 : Hid _ := Box.fr N6'.out v3 hHg
        have G8 : Hid (∀ x, Box (w7.setCell ⟨G, 0, none⟩ (.int .i64 x)) G x (0)) := fun x => Box.set0 x G7.out
        have B8 : Hid (∀ x, Box (w7.setCell ⟨G, 0, none⟩ (.int .i64 x)) B 0 0) := fun x => Box.far B7.out hBG'
        have R8 : Hid (∀ x, Rd (w7.setCell ⟨G, 0, none⟩ (.int .i64 x)) g _) := fun x => Rd.set R7.out _ (by omega)
        have F8 : Hid (∀ x, Fr w g (w7.setCell ⟨G, 0, none⟩ (.int .i64 x))) := fun x => Fr.set F7.out _ (by rw [HB.out]; omega)
        obtain ⟨⟨c0, c1⟩, f0, f1⟩ := G7.out
        obtain ⟨⟨d0, d1⟩, e0, e1⟩ := N7.out
        obtain ⟨⟨r0, r1⟩, s0, s1⟩ := B7.out
        clear v2 v3 v4 z1
        rcases hz with hz | hz
        all_goals
          subst hz
          go_wp2_with fail
        · exact bodyPost_ret (v := (Value.agg #[.int .i64 (-1), .int .i64 (0)])) (by simp [results, Try.results39, go_sem, r0, r1]) rfl ⟨-1, 0, _, rfl, by omega, by omega, by omega, by omega, Rd.set (Rd.set (R8.out _) _ hgl) _ hgl, by omega, Fr.set (Fr.set (F8.out _) _ (by rw [HB.out]; exact Nat.le_refl _)) _ (by rw [HB.out]; exact Nat.le_refl _)⟩
        · exact bodyPost_ret (v := (Value.agg #[.int .i64 (61), .int .i64 (0)])) (by simp [results, Try.results39, go_sem, r0, r1]) rfl ⟨61, 0, _, rfl, by omega, by omega, by omega, by omega, Rd.set (Rd.set (R8.out _) _ hgl) _ hgl, by omega, Fr.set (Fr.set (F8.out _) _ (by rw [HB.out]; exact Nat.le_refl _)) _ (by rw [HB.out]; exact Nat.le_refl _)⟩
      · have ty : (y == 0) = false := by simp [hy]
        clear hy
        have N6 : Hid _ := Box.new w6 (-6) 6 3
        obtain ⟨H, hH⟩ : ∃ H, w6.heap.size = H := ⟨_, rfl⟩
        have HH : Hid _ := hH
        rw [hH] at hGl hgl6
        have N6' : Hid (Box (w6.alloc (.cells #[.int .i64 (-6), .int .i64 6] 3)) H (-6) 6) := by rw [← hH]; exact N6.out
        clear N6 hH
        have hHg : H ≠ g := by omega
        have R6' : Hid _ := Rd.alloc R6.out (.cells #[.int .i64 (-6), .int .i64 6] 3)
        have F6' : Hid (Fr w g _) := Fr.alloc F6.out (.cells #[.int .i64 (-6), .int .i64 6] 3)
        have B6' : Hid _ := Box.al B6.out (.cells #[.int .i64 (-6), .int .i64 6] 3)
        have G6' : Hid _ := Box.al G6.out (.cells #[.int .i64 (-6), .int .i64 6] 3)
        go_wp2_with fail
        rw [HH.out]
        refine (pick_c g _ 2 _ R6'.out (by omega) (by omega)).mono ?_
        rintro e w7 ⟨z, rfl, z0, z1, v2, v3, v4⟩
        have hz : z = 0 ∨ z = 1 := by omega
        have R7 : Hid _ := v2
        have F7 : Hid (Fr w g w7) := Fr.trans F6'.out v3
        have B7 : Hid _ := Box.fr B6'.out v3 hBg
        have G7 : Hid _ := Box.fr G6'.out v3 hGg
        have N7 : Hid _ := Box.fr N6'.out v3 hHg
        have G8 : Hid (∀ x, Box (w7.setCell ⟨G, 1, none⟩ (.int .i64 x)) G p x) := fun x => Box.set1 x G7.out
        have B8 : Hid (∀ x, Box (w7.setCell ⟨G, 1, none⟩ (.int .i64 x)) B 0 0) := fun x => Box.far B7.out hBG'
        have R8 : Hid (∀ x, Rd (w7.setCell ⟨G, 1, none⟩ (.int .i64 x)) g _) := fun x => Rd.set R7.out _ (by omega)
        have F8 : Hid (∀ x, Fr w g (w7.setCell ⟨G, 1, none⟩ (.int .i64 x))) := fun x => Fr.set F7.out _ (by rw [HB.out]; omega)
        obtain ⟨⟨c0, c1⟩, f0, f1⟩ := G7.out
        obtain ⟨⟨d0, d1⟩, e0, e1⟩ := N7.out
        obtain ⟨⟨r0, r1⟩, s0, s1⟩ := B7.out
        clear v2 v3 v4 z1
        rcases hz with hz | hz
        all_goals
          subst hz
          go_wp2_with fail
        · exact bodyPost_ret (v := (Value.agg #[.int .i64 (p), .int .i64 (-6)])) (by simp [results, Try.results39, go_sem, r0, r1]) rfl ⟨p, -6, _, rfl, by omega, by omega, by omega, by omega, Rd.set (Rd.set (R8.out _) _ hgl) _ hgl, by omega, Fr.set (Fr.set (F8.out _) _ (by rw [HB.out]; exact Nat.le_refl _)) _ (by rw [HB.out]; exact Nat.le_refl _)⟩
        · exact bodyPost_ret (v := (Value.agg #[.int .i64 (p), .int .i64 (6)])) (by simp [results, Try.results39, go_sem, r0, r1]) rfl ⟨p, 6, _, rfl, by omega, by omega, by omega, by omega, Rd.set (Rd.set (R8.out _) _ hgl) _ hgl, by omega, Fr.set (Fr.set (F8.out _) _ (by rw [HB.out]; exact Nat.le_refl _)) _ (by rw [HB.out]; exact Nat.le_refl _)⟩
  · have tu : (u == 0) = false := by simp [hu]
    clear hu
    go_wp2_with fail
    refine (odd_c g _ m _ (R3.out) (by omega) hm1 hm0).mono ?_
    rintro e w5 ⟨b, j, rfl, hj, v2, v3, v4⟩
    have R5 : Hid _ := v2
    have F5 : Hid (Fr w g w5) := Fr.trans (F3.out) v3
    have B5 : Hid _ := Box.fr (B3.out) v3 hBg
    have G5 : Hid _ := Box.fr (G3.out) v3 hGg
    clear v2 v3 v4 c0 c1 f0 f1
    cases b
    · obtain ⟨⟨c0, c1⟩, f0, f1⟩ := G5.out
      obtain ⟨⟨d0, d1⟩, e0, e1⟩ := B5.out
      go_wp2_with fail
      refine bodyPost_ret (v := (Value.agg #[.int .i64 (p), .int .i64 (q - 5)])) (by simp [results, Try.results39, go_sem, d0, d1]) rfl ⟨p, q - 5, _, rfl, by omega, by omega, by omega, by omega, Rd.set (Rd.set R5.out _ hgl) _ hgl, by omega, Fr.set (Fr.set F5.out _ (by rw [HB.out]; exact Nat.le_refl _)) _ (by rw [HB.out]; exact Nat.le_refl _)⟩
    · go_wp2_with fail
      refine (pick_c g _ 2 _ R5.out (by omega) (by omega)).mono ?_
      rintro e w6 ⟨y, rfl, y0, y1, v2, v3, v4⟩
      have R6 : Hid _ := v2
      have F6 : Hid (Fr w g w6) := Fr.trans F5.out v3
      have B6 : Hid _ := Box.fr B5.out v3 hBg
      have G6 : Hid _ := Box.fr G5.out v3 hGg
      have hGl : G < w6.heap.size := Box.lt G6.out
      have hgl6 : g < w6.heap.size := Rd.lt R6.out
      clear v2 v3 v4 y1
      by_cases hy : y = 0
      · have ty : (y == 0) = true := by simp [hy]
        clear hy
        have N6 : Hid _ := Box.new w6 (-1) 61 3
        obtain ⟨H, hH⟩ : ∃ H, w6.heap.size = H := ⟨_, rfl⟩
        have HH : Hid _ := hH
        rw [hH] at hGl hgl6
        have N6' : Hid (Box (w6.alloc (.cells #[.int .i64 (-1), .int .i64 61] 3)) H (-1) 61) := by rw [← hH]; exact N6.out
        clear N6 hH
        have hHg : H ≠ g := by omega
        have R6' : Hid _ := Rd.alloc R6.out (.cells #[.int .i64 (-1), .int .i64 61] 3)
        have F6' : Hid (Fr w g _) := Fr.alloc F6.out (.cells #[.int .i64 (-1), .int .i64 61] 3)
        have B6' : Hid _ := Box.al B6.out (.cells #[.int .i64 (-1), .int .i64 61] 3)
        have G6' : Hid _ := Box.al G6.out (.cells #[.int .i64 (-1), .int .i64 61] 3)
        go_wp2_with fail
        rw [HH.out]
        refine (pick_c g _ 2 _ R6'.out (by omega) (by omega)).mono ?_
        rintro e w7 ⟨z, rfl, z0, z1, v2, v3, v4⟩
        have hz : z = 0 ∨ z = 1 := by omega
        have R7 : Hid _ := v2
        have F7 : Hid (Fr w g w7) := Fr.trans F6'.out v3
        have B7 : Hid _ := Box.fr B6'.out v3 hBg
        have G7 : Hid _ := Box.fr G6'.out v3 hGg
        have N7 : Hid _ := Box.fr N6'.out v3 hHg
        have G8 : Hid (∀ x, Box (w7.setCell ⟨G, 0, none⟩ (.int .i64 x)) G x (q - 5)) := fun x => Box.set0 x G7.out
        have B8 : Hid (∀ x, Box (w7.setCell ⟨G, 0, none⟩ (.int .i64 x)) B 0 0) := fun x => Box.far B7.out hBG'
        have R8 : Hid (∀ x, Rd (w7.setCell ⟨G, 0, none⟩ (.int .i64 x)) g _) := fun x => Rd.set R7.out _ (by omega)
        have F8 : Hid (∀ x, Fr w g (w7.setCell ⟨G, 0, none⟩ (.int .i64 x))) := fun x => Fr.set F7.out _ (by rw [HB.out]; omega)
        obtain ⟨⟨c0, c1⟩, f0, f1⟩ := G7.out
        obtain ⟨⟨d0, d1⟩, e0, e1⟩ := N7.out
        obtain ⟨⟨r0, r1⟩, s0, s1⟩ := B7.out
        clear v2 v3 v4 z1
        rcases hz with hz | hz
        all_goals
          subst hz
          go_wp2_with fail
        · exact bodyPost_ret (v := (Value.agg #[.int .i64 (-1), .int .i64 (q - 5)])) (by simp [results, Try.results39, go_sem, r0, r1]) rfl ⟨-1, q - 5, _, rfl, by omega, by omega, by omega, by omega, Rd.set (Rd.set (R8.out _) _ hgl) _ hgl, by omega, Fr.set (Fr.set (F8.out _) _ (by rw [HB.out]; exact Nat.le_refl _)) _ (by rw [HB.out]; exact Nat.le_refl _)⟩
        · exact bodyPost_ret (v := (Value.agg #[.int .i64 (61), .int .i64 (q - 5)])) (by simp [results, Try.results39, go_sem, r0, r1]) rfl ⟨61, q - 5, _, rfl, by omega, by omega, by omega, by omega, Rd.set (Rd.set (R8.out _) _ hgl) _ hgl, by omega, Fr.set (Fr.set (F8.out _) _ (by rw [HB.out]; exact Nat.le_refl _)) _ (by rw [HB.out]; exact Nat.le_refl _)⟩
      · have ty : (y == 0) = false := by simp [hy]
        clear hy
        have N6 : Hid _ := Box.new w6 (-6) 6 3
        obtain ⟨H, hH⟩ : ∃ H, w6.heap.size = H := ⟨_, rfl⟩
        have HH : Hid _ := hH
        rw [hH] at hGl hgl6
        have N6' : Hid (Box (w6.alloc (.cells #[.int .i64 (-6), .int .i64 6] 3)) H (-6) 6) := by rw [← hH]; exact N6.out
        clear N6 hH
        have hHg : H ≠ g := by omega
        have R6' : Hid _ := Rd.alloc R6.out (.cells #[.int .i64 (-6), .int .i64 6] 3)
        have F6' : Hid (Fr w g _) := Fr.alloc F6.out (.cells #[.int .i64 (-6), .int .i64 6] 3)
        have B6' : Hid _ := Box.al B6.out (.cells #[.int .i64 (-6), .int .i64 6] 3)
        have G6' : Hid _ := Box.al G6.out (.cells #[.int .i64 (-6), .int .i64 6] 3)
        go_wp2_with fail
        rw [HH.out]
        refine (pick_c g _ 2 _ R6'.out (by omega) (by omega)).mono ?_
        rintro e w7 ⟨z, rfl, z0, z1, v2, v3, v4⟩
        have hz : z = 0 ∨ z = 1 := by omega
        have R7 : Hid _ := v2
        have F7 : Hid (Fr w g w7) := Fr.trans F6'.out v3
        have B7 : Hid _ := Box.fr B6'.out v3 hBg
        have G7 : Hid _ := Box.fr G6'.out v3 hGg
        have N7 : Hid _ := Box.fr N6'.out v3 hHg
        have G8 : Hid (∀ x, Box (w7.setCell ⟨G, 1, none⟩ (.int .i64 x)) G p x) := fun x => Box.set1 x G7.out
        have B8 : Hid (∀ x, Box (w7.setCell ⟨G, 1, none⟩ (.int .i64 x)) B 0 0) := fun x => Box.far B7.out hBG'
        have R8 : Hid (∀ x, Rd (w7.setCell ⟨G, 1, none⟩ (.int .i64 x)) g _) := fun x => Rd.set R7.out _ (by omega)
        have F8 : Hid (∀ x, Fr w g (w7.setCell ⟨G, 1, none⟩ (.int .i64 x))) := fun x => Fr.set F7.out _ (by rw [HB.out]; omega)
        obtain ⟨⟨c0, c1⟩, f0, f1⟩ := G7.out
        obtain ⟨⟨d0, d1⟩, e0, e1⟩ := N7.out
        obtain ⟨⟨r0, r1⟩, s0, s1⟩ := B7.out
        clear v2 v3 v4 z1
        rcases hz with hz | hz
        all_goals
          subst hz
          go_wp2_with fail
        · exact bodyPost_ret (v := (Value.agg #[.int .i64 (p), .int .i64 (-6)])) (by simp [results, Try.results39, go_sem, r0, r1]) rfl ⟨p, -6, _, rfl, by omega, by omega, by omega, by omega, Rd.set (Rd.set (R8.out _) _ hgl) _ hgl, by omega, Fr.set (Fr.set (F8.out _) _ (by rw [HB.out]; exact Nat.le_refl _)) _ (by rw [HB.out]; exact Nat.le_refl _)⟩
        · exact bodyPost_ret (v := (Value.agg #[.int .i64 (p), .int .i64 (6)])) (by simp [results, Try.results39, go_sem, r0, r1]) rfl ⟨p, 6, _, rfl, by omega, by omega, by omega, by omega, Rd.set (Rd.set (R8.out _) _ hgl) _ hgl, by omega, Fr.set (Fr.set (F8.out _) _ (by rw [HB.out]; exact Nat.le_refl _)) _ (by rw [HB.out]; exact Nat.le_refl _)⟩
end Go.Proofs.Ytpfllhiibkdfaaa
