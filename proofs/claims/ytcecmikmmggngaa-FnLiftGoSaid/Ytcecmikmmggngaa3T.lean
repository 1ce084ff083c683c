/- What the drawing functions of chapter 3 give. -/
import Derived.Test.Ytcecmikmmggngaa2U
import Derived.Test.Ytcecmikmmggngaa3P
namespace Go.Proofs.Ytcecmikmmggngaa
open Go.RowKit
set_option linter.unusedVariables false

/-- A drawn door. -/
def DrawnD (w : World) (g c d : Nat) (e : Ending) (w' : World) : Prop := ∃ (a s : Int) (c' : Nat), e = .returned (Value.agg #[.int .i64 (a), .int .i64 (s)]) ∧ -1 ≤ a ∧ a ≤ 5 ∧ -1 ≤ s ∧ s ≤ 4 ∧ Rd w' g c' ∧ c' ≤ c + d ∧ Fr w g w'
theorem box_pair (w : World) (a s : Int) (T : TypeId) {B : Nat} (h : w.heap.size = B) : Box (w.alloc (.cells #[.int .i64 a, .int .i64 s] T)) B a s := by rw [← h]; exact Box.new w a s T

set_option maxHeartbeats 2000000 in
theorem l20Door_c (g c : Nat) (m : Int) (w : World) (hr : Rd w g c) (hc : c ≤ 100000) (hm0 : 0 < m) (hm1 : m ≤ 1000000) :
    Calls Try.prog 59 #[.pointer (some ⟨g, 0, none⟩), .int .i64 m] w (DrawnD w g c 5) := by
  have hgl := hr.lt
  have R0 : Hid _ := Rd.alloc hr (.cells #[.int .i64 0, .int .i64 0] 27)
  have F0 : Hid (Fr w g _) := Fr.alloc (Fr.refl w g) (.cells #[.int .i64 0, .int .i64 0] 27)
  obtain ⟨B, hB⟩ : ∃ B, w.heap.size = B := ⟨_, rfl⟩
  have HB : Hid _ := hB
  have B0 : Hid (Box (w.alloc (.cells #[.int .i64 0, .int .i64 0] 27)) B 0 0) := box_pair w 0 0 _ hB
  rw [hB] at hgl
  clear hr hB
  have hBg : B ≠ g := by omega
  go_enter Try.func59, Try.ntmps59
  go_wp2_with fail
  rw [HB.out]
  refine (pick_c g c 5 _ R0.out (by omega) (by omega)).mono ?_
  rintro e w1 ⟨p, rfl, p0, p1, v2, v3, v4⟩
  have hp : p ≤ 4 := by omega
  have R1 : Hid _ := Rd.alloc v2 (.cells #[.int .i64 p, .int .i64 0] 27)
  have F1 : Hid (Fr w g _) := Fr.alloc (Fr.trans F0.out v3) (.cells #[.int .i64 p, .int .i64 0] 27)
  have B1 : Hid _ := Box.al (Box.fr B0.out v3 hBg) (.cells #[.int .i64 p, .int .i64 0] 27)
  have hlt : g < w1.heap.size := Rd.lt v2
  have hbl : B < w1.heap.size := Box.lt (Box.fr B0.out v3 hBg)
  obtain ⟨G, hG⟩ : ∃ G, w1.heap.size = G := ⟨_, rfl⟩
  have HG : Hid _ := hG
  have G1 : Hid (Box (w1.alloc (.cells #[.int .i64 p, .int .i64 0] 27)) G p 0) := box_pair w1 p 0 _ hG
  rw [hG] at hlt hbl
  clear v2 v3 v4 p1 hG
  have hGg : G ≠ g := by omega
  have hBG : B ≠ G := by omega
  by_cases hp4 : p = 4
  · have tp : (p == 4) = true := by simp [hp4]
    clear hp4
    go_wp2_with fail
    rw [HG.out]
    refine (pick_c g _ 4 _ R1.out (by omega) (by omega)).mono ?_
    rintro e w2 ⟨o, rfl, o0, o1, v2, v3, v4⟩
    have ho : o ≤ 3 := by omega
    have hGl2 : G < w2.heap.size := Box.lt (Box.fr G1.out v3 hGg)
    have R2' : Hid _ := Rd.set v2 (i := G) (j := 1) (.int .i64 o) (by omega)
    have F2' : Hid (Fr w g (w2.setCell ⟨G, 1, none⟩ (.int .i64 o))) := Fr.set (Fr.trans F1.out v3) _ (by rw [HB.out]; omega)
    have B2' : Hid (Box (w2.setCell ⟨G, 1, none⟩ (.int .i64 o)) B 0 0) := Box.far (Box.fr B1.out v3 hBg) hBG
    have G2' : Hid (Box (w2.setCell ⟨G, 1, none⟩ (.int .i64 o)) G p o) := Box.set1 o (Box.fr G1.out v3 hGg)
    obtain ⟨⟨c0, c1⟩, f0, f1⟩ := Box.fr G1.out v3 hGg
    clear v2 v3 v4 o1 hGl2
    go_wp2_with fail
    clear c0 c1 f0 f1
    obtain ⟨V, hV⟩ : ∃ V, w2.setCell ⟨G, 1, none⟩ (.int .i64 o) = V := ⟨_, rfl⟩
    have R2 : Hid _ := R2'.out
    have F2 : Hid _ := F2'.out
    have B2 : Hid _ := B2'.out
    have G2 : Hid _ := G2'.out
    rw [hV] at R2 F2 B2 G2 ⊢
    clear R2' F2' B2' G2' hV
    have hVG : G < V.heap.size := Box.lt G2.out
    refine (odd_c g _ m _ R2.out (by omega) hm1 hm0).mono ?_
    rintro e w5 ⟨b, j, rfl, hj, v2, v3, v4⟩
    have R5 : Hid _ := v2
    have F5 : Hid (Fr w g w5) := Fr.trans F2.out v3
    have B5 : Hid _ := Box.fr B2.out v3 hBg
    have G5 : Hid _ := Box.fr G2.out v3 hGg
    clear v2 v3 v4 hVG
    cases b
    · obtain ⟨⟨c0, c1⟩, f0, f1⟩ := G5.out
      obtain ⟨⟨d0, d1⟩, e0, e1⟩ := B5.out
      go_wp2_with fail
      refine bodyPost_ret (v := (Value.agg #[.int .i64 (p), .int .i64 (o)])) (by simp [results, Try.results59, go_sem, d0, d1]) rfl ⟨p, o, _, rfl, by omega, by omega, by omega, by omega, Rd.set (Rd.set R5.out _ hgl) _ hgl, by omega, Fr.set (Fr.set F5.out _ (by rw [HB.out]; exact Nat.le_refl _)) _ (by rw [HB.out]; exact Nat.le_refl _)⟩
    · go_wp2_with fail
      refine (pick_c g _ 3 _ R5.out (by omega) (by omega)).mono ?_
      rintro e w6 ⟨y, rfl, y0, y1, v2, v3, v4⟩
      have R6 : Hid _ := v2
      have F6 : Hid (Fr w g w6) := Fr.trans F5.out v3
      have B6 : Hid _ := Box.fr B5.out v3 hBg
      have G6 : Hid _ := Box.fr G5.out v3 hGg
      have hGl : G < w6.heap.size := Box.lt G6.out
      have hgl6 : g < w6.heap.size := Rd.lt R6.out
      clear v2 v3 v4 y1
      by_cases hy : y = 0
      · have ty : (y == 0) = true := by simp [hy]
        clear hy
        have N6 : Hid (Box (w6.alloc (.cells #[.int .i64 (-1), .int .i64 5] 3)) w6.heap.size (-1) 5) := Box.new w6 (-1) 5 3
        obtain ⟨H, hH⟩ : ∃ H, w6.heap.size = H := ⟨_, rfl⟩
        have HH : Hid _ := hH
        rw [hH] at hGl hgl6
        have N6' : Hid (Box (w6.alloc (.cells #[.int .i64 (-1), .int .i64 5] 3)) H (-1) 5) := box_pair w6 _ _ _ hH
        clear N6 hH
        have hHg : H ≠ g := by omega
        have R6' : Hid _ := Rd.alloc R6.out (.cells #[.int .i64 (-1), .int .i64 5] 3)
        have F6' : Hid (Fr w g _) := Fr.alloc F6.out (.cells #[.int .i64 (-1), .int .i64 5] 3)
        have B6' : Hid _ := Box.al B6.out (.cells #[.int .i64 (-1), .int .i64 5] 3)
        have G6' : Hid _ := Box.al G6.out (.cells #[.int .i64 (-1), .int .i64 5] 3)
        go_wp2_with fail
        rw [HH.out]
        refine (pick_c g _ 2 _ R6'.out (by omega) (by omega)).mono ?_
        rintro e w7 ⟨z, rfl, z0, z1, v2, v3, v4⟩
        have hz : z = 0 ∨ z = 1 := by omega
        have R7 : Hid _ := v2
        have F7 : Hid (Fr w g w7) := Fr.trans F6'.out v3
        have B7 : Hid _ := Box.fr B6'.out v3 hBg
        have G7 : Hid _ := Box.fr G6'.out v3 hGg
        have N7 : Hid _ := Box.fr N6'.out v3 hHg
        have G8 : Hid (∀ x, Box (w7.setCell ⟨G, 0, none⟩ (.int .i64 x)) G x o) := fun x => Box.set0 x G7.out
        have B8 : Hid (∀ x, Box (w7.setCell ⟨G, 0, none⟩ (.int .i64 x)) B 0 0) := fun x => Box.far B7.out hBG
        have R8 : Hid (∀ x, Rd (w7.setCell ⟨G, 0, none⟩ (.int .i64 x)) g _) := fun x => Rd.set R7.out _ (by omega)
        have F8 : Hid (∀ x, Fr w g (w7.setCell ⟨G, 0, none⟩ (.int .i64 x))) := fun x => Fr.set F7.out _ (by rw [HB.out]; omega)
        obtain ⟨⟨c0, c1⟩, f0, f1⟩ := G7.out
        obtain ⟨⟨k0, k1⟩, l0, l1⟩ := N7.out
        obtain ⟨⟨d0, d1⟩, s0, s1⟩ := B7.out
        clear v2 v3 v4 z1
        rcases hz with hz | hz
        all_goals
          subst hz
          go_wp2_with fail
        · refine bodyPost_ret (v := (Value.agg #[.int .i64 (-1), .int .i64 (o)])) (by simp [results, Try.results59, go_sem, d0, d1]) rfl ⟨-1, o, _, rfl, by omega, by omega, by omega, by omega, Rd.set (Rd.set (R8.out _) _ hgl) _ hgl, by omega, Fr.set (Fr.set (F8.out _) _ (by rw [HB.out]; exact Nat.le_refl _)) _ (by rw [HB.out]; exact Nat.le_refl _)⟩
        · refine bodyPost_ret (v := (Value.agg #[.int .i64 (5), .int .i64 (o)])) (by simp [results, Try.results59, go_sem, d0, d1]) rfl ⟨5, o, _, rfl, by omega, by omega, by omega, by omega, Rd.set (Rd.set (R8.out _) _ hgl) _ hgl, by omega, Fr.set (Fr.set (F8.out _) _ (by rw [HB.out]; exact Nat.le_refl _)) _ (by rw [HB.out]; exact Nat.le_refl _)⟩
      have ty : (y == 0) = false := by simp [hy]
      by_cases hy2 : y = 1
      · have ty2 : (y == 1) = true := by simp [hy2]
        clear hy hy2
        have N6 : Hid (Box (w6.alloc (.cells #[.int .i64 (-1), .int .i64 4] 3)) w6.heap.size (-1) 4) := Box.new w6 (-1) 4 3
        obtain ⟨H, hH⟩ : ∃ H, w6.heap.size = H := ⟨_, rfl⟩
        have HH : Hid _ := hH
        rw [hH] at hGl hgl6
        have N6' : Hid (Box (w6.alloc (.cells #[.int .i64 (-1), .int .i64 4] 3)) H (-1) 4) := box_pair w6 _ _ _ hH
        clear N6 hH
        have hHg : H ≠ g := by omega
        have R6' : Hid _ := Rd.alloc R6.out (.cells #[.int .i64 (-1), .int .i64 4] 3)
        have F6' : Hid (Fr w g _) := Fr.alloc F6.out (.cells #[.int .i64 (-1), .int .i64 4] 3)
        have B6' : Hid _ := Box.al B6.out (.cells #[.int .i64 (-1), .int .i64 4] 3)
        have G6' : Hid _ := Box.al G6.out (.cells #[.int .i64 (-1), .int .i64 4] 3)
        go_wp2_with fail
        rw [HH.out]
        refine (pick_c g _ 2 _ R6'.out (by omega) (by omega)).mono ?_
        rintro e w7 ⟨z, rfl, z0, z1, v2, v3, v4⟩
        have hz : z = 0 ∨ z = 1 := by omega
        have R7 : Hid _ := v2
        have F7 : Hid (Fr w g w7) := Fr.trans F6'.out v3
        have B7 : Hid _ := Box.fr B6'.out v3 hBg
        have G7 : Hid _ := Box.fr G6'.out v3 hGg
        have N7 : Hid _ := Box.fr N6'.out v3 hHg
        have G8 : Hid (∀ x, Box (w7.setCell ⟨G, 1, none⟩ (.int .i64 x)) G p x) := fun x => Box.set1 x G7.out
        have B8 : Hid (∀ x, Box (w7.setCell ⟨G, 1, none⟩ (.int .i64 x)) B 0 0) := fun x => Box.far B7.out hBG
        have R8 : Hid (∀ x, Rd (w7.setCell ⟨G, 1, none⟩ (.int .i64 x)) g _) := fun x => Rd.set R7.out _ (by omega)
        have F8 : Hid (∀ x, Fr w g (w7.setCell ⟨G, 1, none⟩ (.int .i64 x))) := fun x => Fr.set F7.out _ (by rw [HB.out]; omega)
        obtain ⟨⟨c0, c1⟩, f0, f1⟩ := G7.out
        obtain ⟨⟨k0, k1⟩, l0, l1⟩ := N7.out
        obtain ⟨⟨d0, d1⟩, s0, s1⟩ := B7.out
        clear v2 v3 v4 z1
        rcases hz with hz | hz
        all_goals
          subst hz
          go_wp2_with fail
        · refine bodyPost_ret (v := (Value.agg #[.int .i64 (p), .int .i64 (-1)])) (by simp [results, Try.results59, go_sem, d0, d1]) rfl ⟨p, -1, _, rfl, by omega, by omega, by omega, by omega, Rd.set (Rd.set (R8.out _) _ hgl) _ hgl, by omega, Fr.set (Fr.set (F8.out _) _ (by rw [HB.out]; exact Nat.le_refl _)) _ (by rw [HB.out]; exact Nat.le_refl _)⟩
        · refine bodyPost_ret (v := (Value.agg #[.int .i64 (p), .int .i64 (4)])) (by simp [results, Try.results59, go_sem, d0, d1]) rfl ⟨p, 4, _, rfl, by omega, by omega, by omega, by omega, Rd.set (Rd.set (R8.out _) _ hgl) _ hgl, by omega, Fr.set (Fr.set (F8.out _) _ (by rw [HB.out]; exact Nat.le_refl _)) _ (by rw [HB.out]; exact Nat.le_refl _)⟩
      · have ty2 : (y == 1) = false := by simp [hy2]
        clear hy hy2
        obtain ⟨⟨d0, d1⟩, e0, e1⟩ := B6.out
        go_wp2_with fail
        refine bodyPost_ret (v := (Value.agg #[.int .i64 (2), .int .i64 (1)])) (by simp [results, Try.results59, go_sem, d0, d1]) rfl ⟨2, 1, _, rfl, by omega, by omega, by omega, by omega, Rd.set (Rd.set R6.out _ hgl) _ hgl, by omega, Fr.set (Fr.set F6.out _ (by rw [HB.out]; exact Nat.le_refl _)) _ (by rw [HB.out]; exact Nat.le_refl _)⟩
  · have tp : (p == 4) = false := by simp [hp4]
    clear hp4
    go_wp2_with fail
    rw [HG.out]
    obtain ⟨V, hV⟩ : ∃ V, w1.alloc (.cells #[.int .i64 p, .int .i64 0] 27) = V := ⟨_, rfl⟩
    obtain ⟨o, ho'⟩ : ∃ o : Int, (0 : Int) = o := ⟨_, rfl⟩
    have ho : o ≤ 3 := by omega
    have o0 : 0 ≤ o := by omega
    have R2 : Hid _ := R1.out
    have F2 : Hid _ := F1.out
    have B2 : Hid _ := B1.out
    have G2 : Hid _ := G1.out
    rw [hV] at R2 F2 B2 G2 ⊢
    have G2 : Hid (Box V G p o) := by rw [← ho']; exact G2.out
    clear R1 F1 B1 G1 hV ho'
    have hVG : G < V.heap.size := Box.lt G2.out
    refine (odd_c g _ m _ R2.out (by omega) hm1 hm0).mono ?_
    rintro e w5 ⟨b, j, rfl, hj, v2, v3, v4⟩
    have R5 : Hid _ := v2
    have F5 : Hid (Fr w g w5) := Fr.trans F2.out v3
    have B5 : Hid _ := Box.fr B2.out v3 hBg
    have G5 : Hid _ := Box.fr G2.out v3 hGg
    clear v2 v3 v4 hVG
    cases b
    · obtain ⟨⟨c0, c1⟩, f0, f1⟩ := G5.out
      obtain ⟨⟨d0, d1⟩, e0, e1⟩ := B5.out
      go_wp2_with fail
      refine bodyPost_ret (v := (Value.agg #[.int .i64 (p), .int .i64 (o)])) (by simp [results, Try.results59, go_sem, d0, d1]) rfl ⟨p, o, _, rfl, by omega, by omega, by omega, by omega, Rd.set (Rd.set R5.out _ hgl) _ hgl, by omega, Fr.set (Fr.set F5.out _ (by rw [HB.out]; exact Nat.le_refl _)) _ (by rw [HB.out]; exact Nat.le_refl _)⟩
    · go_wp2_with fail
      refine (pick_c g _ 3 _ R5.out (by omega) (by omega)).mono ?_
      rintro e w6 ⟨y, rfl, y0, y1, v2, v3, v4⟩
      have R6 : Hid _ := v2
      have F6 : Hid (Fr w g w6) := Fr.trans F5.out v3
      have B6 : Hid _ := Box.fr B5.out v3 hBg
      have G6 : Hid _ := Box.fr G5.out v3 hGg
      have hGl : G < w6.heap.size := Box.lt G6.out
      have hgl6 : g < w6.heap.size := Rd.lt R6.out
      clear v2 v3 v4 y1
      by_cases hy : y = 0
      · have ty : (y == 0) = true := by simp [hy]
        clear hy
        have N6 : Hid (Box (w6.alloc (.cells #[.int .i64 (-1), .int .i64 5] 3)) w6.heap.size (-1) 5) := Box.new w6 (-1) 5 3
        obtain ⟨H, hH⟩ : ∃ H, w6.heap.size = H := ⟨_, rfl⟩
        have HH : Hid _ := hH
        rw [hH] at hGl hgl6
        have N6' : Hid (Box (w6.alloc (.cells #[.int .i64 (-1), .int .i64 5] 3)) H (-1) 5) := box_pair w6 _ _ _ hH
        clear N6 hH
        have hHg : H ≠ g := by omega
        have R6' : Hid _ := Rd.alloc R6.out (.cells #[.int .i64 (-1), .int .i64 5] 3)
        have F6' : Hid (Fr w g _) := Fr.alloc F6.out (.cells #[.int .i64 (-1), .int .i64 5] 3)
        have B6' : Hid _ := Box.al B6.out (.cells #[.int .i64 (-1), .int .i64 5] 3)
        have G6' : Hid _ := Box.al G6.out (.cells #[.int .i64 (-1), .int .i64 5] 3)
        go_wp2_with fail
        rw [HH.out]
        refine (pick_c g _ 2 _ R6'.out (by omega) (by omega)).mono ?_
        rintro e w7 ⟨z, rfl, z0, z1, v2, v3, v4⟩
        have hz : z = 0 ∨ z = 1 := by omega
        have R7 : Hid _ := v2
        have F7 : Hid (Fr w g w7) := Fr.trans F6'.out v3
        have B7 : Hid _ := Box.fr B6'.out v3 hBg
        have G7 : Hid _ := Box.fr G6'.out v3 hGg
        have N7 : Hid _ := Box.fr N6'.out v3 hHg
        have G8 : Hid (∀ x, Box (w7.setCell ⟨G, 0, none⟩ (.int .i64 x)) G x o) := fun x => Box.set0 x G7.out
        have B8 : Hid (∀ x, Box (w7.setCell ⟨G, 0, none⟩ (.int .i64 x)) B 0 0) := fun x => Box.far B7.out hBG
        have R8 : Hid (∀ x, Rd (w7.setCell ⟨G, 0, none⟩ (.int .i64 x)) g _) := fun x => Rd.set R7.out _ (by omega)
        have F8 : Hid (∀ x, Fr w g (w7.setCell ⟨G, 0, none⟩ (.int .i64 x))) := fun x => Fr.set F7.out _ (by rw [HB.out]; omega)
        obtain ⟨⟨c0, c1⟩, f0, f1⟩ := G7.out
        obtain ⟨⟨k0, k1⟩, l0, l1⟩ := N7.out
        obtain ⟨⟨d0, d1⟩, s0, s1⟩ := B7.out
        clear v2 v3 v4 z1
        rcases hz with hz | hz
        all_goals
          subst hz
          go_wp2_with fail
        · refine bodyPost_ret (v := (Value.agg #[.int .i64 (-1), .int .i64 (o)])) (by simp [results, Try.results59, go_sem, d0, d1]) rfl ⟨-1, o, _, rfl, by omega, by omega, by omega, by omega, Rd.set (Rd.set (R8.out _) _ hgl) _ hgl, by omega, Fr.set (Fr.set (F8.out _) _ (by rw [HB.out]; exact Nat.le_refl _)) _ (by rw [HB.out]; exact Nat.le_refl _)⟩
        · refine bodyPost_ret (v := (Value.agg #[.int .i64 (5), .int .i64 (o)])) (by simp [results, Try.results59, go_sem, d0, d1]) rfl ⟨5, o, _, rfl, by omega, by omega, by omega, by omega, Rd.set (Rd.set (R8.out _) _ hgl) _ hgl, by omega, Fr.set (Fr.set (F8.out _) _ (by rw [HB.out]; exact Nat.le_refl _)) _ (by rw [HB.out]; exact Nat.le_refl _)⟩
      have ty : (y == 0) = false := by simp [hy]
      by_cases hy2 : y = 1
      · have ty2 : (y == 1) = true := by simp [hy2]
        clear hy hy2
        have N6 : Hid (Box (w6.alloc (.cells #[.int .i64 (-1), .int .i64 4] 3)) w6.heap.size (-1) 4) := Box.new w6 (-1) 4 3
        obtain ⟨H, hH⟩ : ∃ H, w6.heap.size = H := ⟨_, rfl⟩
        have HH : Hid _ := hH
        rw [hH] at hGl hgl6
        have N6' : Hid (Box (w6.alloc (.cells #[.int .i64 (-1), .int .i64 4] 3)) H (-1) 4) := box_pair w6 _ _ _ hH
        clear N6 hH
        have hHg : H ≠ g := by omega
        have R6' : Hid _ := Rd.alloc R6.out (.cells #[.int .i64 (-1), .int .i64 4] 3)
        have F6' : Hid (Fr w g _) := Fr.alloc F6.out (.cells #[.int .i64 (-1), .int .i64 4] 3)
        have B6' : Hid _ := Box.al B6.out (.cells #[.int .i64 (-1), .int .i64 4] 3)
        have G6' : Hid _ := Box.al G6.out (.cells #[.int .i64 (-1), .int .i64 4] 3)
        go_wp2_with fail
        rw [HH.out]
        refine (pick_c g _ 2 _ R6'.out (by omega) (by omega)).mono ?_
        rintro e w7 ⟨z, rfl, z0, z1, v2, v3, v4⟩
        have hz : z = 0 ∨ z = 1 := by omega
        have R7 : Hid _ := v2
        have F7 : Hid (Fr w g w7) := Fr.trans F6'.out v3
        have B7 : Hid _ := Box.fr B6'.out v3 hBg
        have G7 : Hid _ := Box.fr G6'.out v3 hGg
        have N7 : Hid _ := Box.fr N6'.out v3 hHg
        have G8 : Hid (∀ x, Box (w7.setCell ⟨G, 1, none⟩ (.int .i64 x)) G p x) := fun x => Box.set1 x G7.out
        have B8 : Hid (∀ x, Box (w7.setCell ⟨G, 1, none⟩ (.int .i64 x)) B 0 0) := fun x => Box.far B7.out hBG
        have R8 : Hid (∀ x, Rd (w7.setCell ⟨G, 1, none⟩ (.int .i64 x)) g _) := fun x => Rd.set R7.out _ (by omega)
        have F8 : Hid (∀ x, Fr w g (w7.setCell ⟨G, 1, none⟩ (.int .i64 x))) := fun x => Fr.set F7.out _ (by rw [HB.out]; omega)
        obtain ⟨⟨c0, c1⟩, f0, f1⟩ := G7.out
        obtain ⟨⟨k0, k1⟩, l0, l1⟩ := N7.out
        obtain ⟨⟨d0, d1⟩, s0, s1⟩ := B7.out
        clear v2 v3 v4 z1
        rcases hz with hz | hz
        all_goals
          subst hz
          go_wp2_with fail
        · refine bodyPost_ret (v := (Value.agg #[.int .i64 (p), .int .i64 (-1)])) (by simp [results, Try.results59, go_sem, d0, d1]) rfl ⟨p, -1, _, rfl, by omega, by omega, by omega, by omega, Rd.set (Rd.set (R8.out _) _ hgl) _ hgl, by omega, Fr.set (Fr.set (F8.out _) _ (by rw [HB.out]; exact Nat.le_refl _)) _ (by rw [HB.out]; exact Nat.le_refl _)⟩
        · refine bodyPost_ret (v := (Value.agg #[.int .i64 (p), .int .i64 (4)])) (by simp [results, Try.results59, go_sem, d0, d1]) rfl ⟨p, 4, _, rfl, by omega, by omega, by omega, by omega, Rd.set (Rd.set (R8.out _) _ hgl) _ hgl, by omega, Fr.set (Fr.set (F8.out _) _ (by rw [HB.out]; exact Nat.le_refl _)) _ (by rw [HB.out]; exact Nat.le_refl _)⟩
      · have ty2 : (y == 1) = false := by simp [hy2]
        clear hy hy2
        obtain ⟨⟨d0, d1⟩, e0, e1⟩ := B6.out
        go_wp2_with fail
        refine bodyPost_ret (v := (Value.agg #[.int .i64 (2), .int .i64 (1)])) (by simp [results, Try.results59, go_sem, d0, d1]) rfl ⟨2, 1, _, rfl, by omega, by omega, by omega, by omega, Rd.set (Rd.set R6.out _ hgl) _ hgl, by omega, Fr.set (Fr.set F6.out _ (by rw [HB.out]; exact Nat.le_refl _)) _ (by rw [HB.out]; exact Nat.le_refl _)⟩
end Go.Proofs.Ytcecmikmmggngaa
