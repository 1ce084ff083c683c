/- Drawing a stop: l20Stop. -/
import Derived.Test.Ytfhhgddajmihjaa9A
import Derived.Test.Ytfhhgddajmihjaa8U
import Derived.Test.Ytfhhgddajmihjaa2T
import Derived.Test.Ytfhhgddajmihjaa9C
namespace Go.Proofs.Ytfhhgddajmihjaa
open Go.RowKit
set_option linter.unusedVariables false
set_option linter.unusedSimpArgs false
set_option maxRecDepth 100000

def two9 (a b z : Int) : Int := if z = 0 then a else b
theorem box_two9 {w : World} {b : Nat} {x y z : Int} (h : Box w b x y) (h0 : 0 ≤ z) (h1 : z < 2) : w.cell? ⟨b, z.toNat, none⟩ = some (.int .i64 (two9 x y z)) := by
  have : z = 0 ∨ z = 1 := by omega
  rcases this with rfl | rfl
  · exact h.1.1
  · exact h.1.2
/-- A drawn stop. -/
def DrawnP (w : World) (g c : Nat) (e : Ending) (w' : World) : Prop := ∃ (f d : Int) (c' : Nat), e = .returned (Value.agg #[.int .i64 (f), .int .i64 (d)]) ∧ (-1 ≤ f ∧ f ≤ 100) ∧ (-1 ≤ d ∧ d ≤ 2) ∧ Rd w' g c' ∧ c' ≤ c + 20 ∧ Fr w g w'
set_option maxHeartbeats 2000000 in
theorem l20Stop_c (g c n : Nat) (m : Int) (w : World) (hr : Rd w g c) (hc : c ≤ 900000) (h1 : 1 ≤ n) (h8 : n ≤ 50) (hm0 : 0 < m) (hm : m ≤ 100) :
    Calls Try.prog 77 #[.pointer (some ⟨g, 0, none⟩), .int .i64 n, .int .i64 m] w (DrawnP w g c) := by
  have hgl := hr.lt
  obtain ⟨B, hBB⟩ : ∃ B, w.heap.size = B := ⟨_, rfl⟩
  have HB := Lib.hid hBB
  have R := Lib.hid (Rd.alloc hr (.cells #[.int .i64 0, .int .i64 0] 24))
  have F := Lib.hid (Fr.alloc (Fr.refl w g) (.cells #[.int .i64 0, .int .i64 0] 24))
  have Q := Lib.hid (show Box (w.alloc (.cells #[.int .i64 0, .int .i64 0] 24)) B 0 0 from by rw [← hBB]; exact Box.new w 0 0 24)
  rw [hBB] at hgl
  have hBg : B ≠ g := by omega
  clear hr hBB
  have hni : (1 : Int) ≤ n := by omega
  have hnb : (n : Int) ≤ 50 := by omega
  go_enter Try.func77, Try.ntmps77
  go_wp2_with fail
  rw [HB.out]
  obtain ⟨wn, hwn⟩ : ∃ wn, w.alloc (.cells #[.int .i64 0, .int .i64 0] 24) = wn := ⟨_, rfl⟩
  rw [hwn] at R F Q
  rw [hwn]
  clear hwn
  refine (pick_c g c (n : Int) _ R.out (by omega) (by omega)).mono ?_
  rintro e w1 ⟨p, rfl, p0, p1, v2, v3, v4⟩
  have hp : p ≤ 49 := by omega
  have R1 := Lib.hid v2
  have F1 := Lib.hid (show Fr w g w1 from Fr.trans F.out v3)
  have Q1 := Lib.hid (Box.fr Q.out v3 hBg)
  clear v2 v3 v4 p1 R F Q wn
  have R := R1
  have F := F1
  have Q := Q1
  clear R1 F1 Q1
  obtain ⟨wn, hwq⟩ : ∃ w0, w0 = w1 := ⟨_, rfl⟩
  subst hwq
  go_wp2_with fail
  refine (pick_c g _ (2) _ R.out (by omega) (by omega)).mono ?_
  rintro e wn ⟨q, rfl, hq0, p1, v2, v3, v4⟩
  have hq : q ≤ 1 := by omega
  skip
  have Rn : Hid _ := v2
  have Fn : Hid (Fr w g _) := Fr.trans F.out v3
  have Qn : Hid _ := Box.fr Q.out v3 hBg
  clear v3 v2 v4 p1
  clear R F Q
  have R := Rn
  have F := Fn
  have Q := Qn
  clear Rn Fn Qn
  have hglG := Rd.lt R.out
  have hltQG := Box.lt Q.out
  obtain ⟨G, hG⟩ : ∃ G, Array.size (World.heap wn) = G := ⟨_, rfl⟩
  have HG : Hid _ := hG
  rw [hG] at hglG hltQG
  have M : Hid (Box (wn.alloc (.cells #[.int .i64 p, .int .i64 (2 * q - 1)] 24)) G p (2 * q - 1)) := by rw [← hG]; exact Box.new wn p (2 * q - 1) 24
  have hGg : G ≠ g := by omega
  clear hG
  have Rn : Hid _ := Rd.alloc R.out (.cells #[.int .i64 p, .int .i64 (2 * q - 1)] 24)
  have Fn : Hid (Fr w g _) := Fr.alloc F.out (.cells #[.int .i64 p, .int .i64 (2 * q - 1)] 24)
  have Qn : Hid _ := Box.al Q.out (.cells #[.int .i64 p, .int .i64 (2 * q - 1)] 24)
  clear R F Q
  have R := Rn
  have F := Fn
  have Q := Qn
  clear Rn Fn Qn
  go_wp2_with fail
  rw [HG.out]
  refine (odd_c g _ (m) _ R.out (by omega) (by omega) (by omega)).mono ?_
  rintro e wn ⟨b, jb, rfl, hjb, v2, v3, v4⟩
  skip
  have Rn : Hid _ := v2
  have Fn : Hid (Fr w g _) := Fr.trans F.out v3
  have Qn : Hid _ := Box.fr Q.out v3 hBg
  have Mn : Hid _ := Box.fr M.out v3 hGg
  clear v3 v2 v4
  clear R F Q M
  have R := Rn
  have F := Fn
  have Q := Qn
  have M := Mn
  clear Rn Fn Qn Mn
  cases b
  · skip
    obtain ⟨⟨d0, d1⟩, d2, d3⟩ := M.out
    obtain ⟨⟨c0, c1⟩, f0, f1⟩ := Q.out
    go_wp2_with fail
    exact bodyPost_ret (v := (Value.agg #[.int .i64 (p), .int .i64 (2 * q - 1)])) (by simp [results, Try.results77, go_sem, c0, c1]) rfl ⟨p, 2 * q - 1, _, rfl, by omega, by omega, Rd.set (Rd.set R.out _ hgl) _ hgl, by omega, Fr.set (Fr.set F.out _ (by have := HB.out; omega)) _ (by have := HB.out; omega)⟩
  go_wp2_with fail
  refine (pick_c g _ (2) _ R.out (by omega) (by omega)).mono ?_
  rintro e wn ⟨u, rfl, hu0, p1, v2, v3, v4⟩
  have hu : u ≤ 1 := by omega
  skip
  have Rn : Hid _ := v2
  have Fn : Hid (Fr w g _) := Fr.trans F.out v3
  have Qn : Hid _ := Box.fr Q.out v3 hBg
  have Mn : Hid _ := Box.fr M.out v3 hGg
  clear v3 v2 v4 p1
  clear R F Q M
  have R := Rn
  have F := Fn
  have Q := Qn
  have M := Mn
  clear Rn Fn Qn Mn
  by_cases ku : u = 0
  · have tu : (u == 0) = true := by simp [ku]
    clear ku
    have hglH := Rd.lt R.out
    have hltQH := Box.lt Q.out
    have hltMH := Box.lt M.out
    obtain ⟨H, hH⟩ : ∃ H, Array.size (World.heap wn) = H := ⟨_, rfl⟩
    have HH : Hid _ := hH
    rw [hH] at hglH hltQH hltMH
    have N : Hid (Box (wn.alloc (.cells #[.int .i64 (-1), .int .i64 (n : Int)] 3)) H (-1) n) := by rw [← hH]; exact Box.new wn (-1) n 3
    have hHg : H ≠ g := by omega
    clear hH
    have Rn : Hid _ := Rd.alloc R.out (.cells #[.int .i64 (-1), .int .i64 (n : Int)] 3)
    have Fn : Hid (Fr w g _) := Fr.alloc F.out (.cells #[.int .i64 (-1), .int .i64 (n : Int)] 3)
    have Qn : Hid _ := Box.al Q.out (.cells #[.int .i64 (-1), .int .i64 (n : Int)] 3)
    have Mn : Hid _ := Box.al M.out (.cells #[.int .i64 (-1), .int .i64 (n : Int)] 3)
    clear R F Q M
    have R := Rn
    have F := Fn
    have Q := Qn
    have M := Mn
    clear Rn Fn Qn Mn
    go_wp2_with fail
    rw [HH.out]
    refine (pick_c g _ (2) _ R.out (by omega) (by omega)).mono ?_
    rintro e wn ⟨z, rfl, hz0, p1, v2, v3, v4⟩
    have hz : z ≤ 1 := by omega
    skip
    have Rn : Hid _ := v2
    have Fn : Hid (Fr w g _) := Fr.trans F.out v3
    have Qn : Hid _ := Box.fr Q.out v3 hBg
    have Mn : Hid _ := Box.fr M.out v3 hGg
    have Nn : Hid _ := Box.fr N.out v3 hHg
    clear v3 v2 v4 p1
    clear R F Q M N
    have R := Rn
    have F := Fn
    have Q := Qn
    have M := Mn
    have N := Nn
    clear Rn Fn Qn Mn Nn
    have hz2 : z < 2 := by omega
    obtain ⟨y, hy⟩ : ∃ y, two9 (-1) n z = y := ⟨_, rfl⟩
    have n0 := box_two9 N.out hz0 hz2
    rw [hy] at n0
    have hyb : -1 ≤ y ∧ y ≤ 50 := by rw [← hy]; unfold two9; split <;> omega
    clear hy
    have M1 := Box.set0 y M.out
    have Q1 := Box.far (c := G) (j := 0) (v := .int .i64 y) Q.out (by omega)
    obtain ⟨⟨c0, c1⟩, cf0, cf1⟩ := M.out
    obtain ⟨⟨d0, d1⟩, d2, d3⟩ := M1
    obtain ⟨⟨e0, e1⟩, f0, f1⟩ := Q1
    go_wp2_with fail
    clear c0 c1 d0 d1
    have c0 := e0
    have c1 := e1
    exact bodyPost_ret (v := (Value.agg #[.int .i64 (y), .int .i64 (2 * q - 1)])) (by simp [results, Try.results77, go_sem, c0, c1]) rfl ⟨y, 2 * q - 1, _, rfl, by omega, by omega, Rd.set (Rd.set (Rd.set R.out _ (by omega)) _ hgl) _ hgl, by omega, Fr.set (Fr.set (Fr.set F.out _ (by have := HB.out; omega)) _ (by have := HB.out; omega)) _ (by have := HB.out; omega)⟩
  · have tu : (u == 0) = false := by simp [ku]
    clear ku
    have hglH := Rd.lt R.out
    have hltQH := Box.lt Q.out
    have hltMH := Box.lt M.out
    obtain ⟨H, hH⟩ : ∃ H, Array.size (World.heap wn) = H := ⟨_, rfl⟩
    have HH : Hid _ := hH
    rw [hH] at hglH hltQH hltMH
    have N : Hid (Box (wn.alloc (.cells #[.int .i64 0, .int .i64 2] 3)) H 0 2) := by rw [← hH]; exact Box.new wn 0 2 3
    have hHg : H ≠ g := by omega
    clear hH
    have Rn : Hid _ := Rd.alloc R.out (.cells #[.int .i64 0, .int .i64 2] 3)
    have Fn : Hid (Fr w g _) := Fr.alloc F.out (.cells #[.int .i64 0, .int .i64 2] 3)
    have Qn : Hid _ := Box.al Q.out (.cells #[.int .i64 0, .int .i64 2] 3)
    have Mn : Hid _ := Box.al M.out (.cells #[.int .i64 0, .int .i64 2] 3)
    clear R F Q M
    have R := Rn
    have F := Fn
    have Q := Qn
    have M := Mn
    clear Rn Fn Qn Mn
    go_wp2_with fail
    rw [HH.out]
    refine (pick_c g _ (2) _ R.out (by omega) (by omega)).mono ?_
    rintro e wn ⟨z, rfl, hz0, p1, v2, v3, v4⟩
    have hz : z ≤ 1 := by omega
    skip
    have Rn : Hid _ := v2
    have Fn : Hid (Fr w g _) := Fr.trans F.out v3
    have Qn : Hid _ := Box.fr Q.out v3 hBg
    have Mn : Hid _ := Box.fr M.out v3 hGg
    have Nn : Hid _ := Box.fr N.out v3 hHg
    clear v3 v2 v4 p1
    clear R F Q M N
    have R := Rn
    have F := Fn
    have Q := Qn
    have M := Mn
    have N := Nn
    clear Rn Fn Qn Mn Nn
    have hz2 : z < 2 := by omega
    obtain ⟨y, hy⟩ : ∃ y, two9 0 2 z = y := ⟨_, rfl⟩
    have n0 := box_two9 N.out hz0 hz2
    rw [hy] at n0
    have hyb : 0 ≤ y ∧ y ≤ 2 := by rw [← hy]; unfold two9; split <;> omega
    clear hy
    have M1 := Box.set1 y M.out
    have Q1 := Box.far (c := G) (j := 1) (v := .int .i64 y) Q.out (by omega)
    obtain ⟨⟨c0, c1⟩, cf0, cf1⟩ := M.out
    obtain ⟨⟨d0, d1⟩, d2, d3⟩ := M1
    obtain ⟨⟨e0, e1⟩, f0, f1⟩ := Q1
    go_wp2_with fail
    clear c0 c1 d0 d1
    have c0 := e0
    have c1 := e1
    exact bodyPost_ret (v := (Value.agg #[.int .i64 (p), .int .i64 (y)])) (by simp [results, Try.results77, go_sem, c0, c1]) rfl ⟨p, y, _, rfl, by omega, by omega, Rd.set (Rd.set (Rd.set R.out _ (by omega)) _ hgl) _ hgl, by omega, Fr.set (Fr.set (Fr.set F.out _ (by have := HB.out; omega)) _ (by have := HB.out; omega)) _ (by have := HB.out; omega)⟩
end Go.Proofs.Ytfhhgddajmihjaa

namespace Go.Proofs.Ytfhhgddajmihjaa
open Go.RowKit
set_option linter.unusedVariables false
set_option linter.unusedSimpArgs false
set_option maxRecDepth 100000

theorem OwnB.fr9 {w w' : World} {B g : Nat} {v : Value} {xs : List Bool} (h : OwnB w B v xs) (hf : Fr w g w') (hg : g < B) : OwnB w' B v xs :=
  h.block fun k hk => hf.block k (h.lt k hk).2 (by have := (h.lt k hk).1; simp; omega)
/-- Drawn calls, a floor and a direction. -/
def DrawnCP (w : World) (g : Nat) (e : Ending) (w' : World) : Prop := ∃ (a1 : Option Addr) (n1 k1 : Nat) (a2 : Option Addr) (n2 k2 : Nat) (a3 : Option Addr) (n3 k3 : Nat) (x : Cs) (f d : Int), e = .returned (.tuple #[(.agg #[.slice a1 n1 k1, .slice a2 n2 k2, .slice a3 n3 k3]), (Value.agg #[.int .i64 (f), .int .i64 (d)])]) ∧ (OwnB w' w.heap.size (.slice a1 n1 k1) x.u ∧ OwnB w' w.heap.size (.slice a2 n2 k2) x.d ∧ OwnB w' w.heap.size (.slice a3 n3 k3) x.c) ∧ (n1 ≤ 9 ∧ n2 ≤ 9 ∧ n3 ≤ 9) ∧ ((-1 ≤ f ∧ f ≤ 100) ∧ -1 ≤ d ∧ d ≤ 2) ∧ Fr w g w'
end Go.Proofs.Ytfhhgddajmihjaa
