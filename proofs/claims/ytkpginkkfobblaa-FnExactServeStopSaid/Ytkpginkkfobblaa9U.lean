/- Drawing a stop: l20Stop. -/
import Derived.Test.Ytkpginkkfobblaa9A
import Derived.Test.Ytkpginkkfobblaa8U
import Derived.Test.Ytkpginkkfobblaa2T
import Derived.Test.Ytkpginkkfobblaa9C
namespace Go.Proofs.Ytkpginkkfobblaa
open Go.RowKit
set_option linter.unusedVariables false

def two9 (a b z : Int) : Int := if z = 0 then a else b
theorem box_two9 {w : World} {b : Nat} {x y z : Int} (h : Box w b x y) (h0 : 0 ≤ z) (h1 : z < 2) : w.cell? ⟨b, z.toNat, none⟩ = some (.int .i64 (two9 x y z)) := by
  have : z = 0 ∨ z = 1 := by omega
  rcases this with rfl | rfl
  · exact h.1.1
  · exact h.1.2
/-- A drawn stop. -/
def DrawnP (w : World) (g c : Nat) (e : Ending) (w' : World) : Prop := ∃ (f d : Int) (c' : Nat), e = .returned (Value.agg #[.int .i64 (f), .int .i64 (d)]) ∧ (-1 ≤ f ∧ f ≤ 100) ∧ (-1 ≤ d ∧ d ≤ 2) ∧ Rd w' g c' ∧ c' ≤ c + 20 ∧ Fr w g w'
set_option maxHeartbeats 2000000 in
theorem l20Stop_c (g c n : Nat) (m : Int) (w : World) (hr : Rd w g c) (hc : c ≤ 900000) (h1 : 1 ≤ n) (h8 : n ≤ 50) (hm0 : 0 < m) (hm : m ≤ 100) :
    Calls Try.prog 56 #[.pointer (some ⟨g, 0, none⟩), .int .i64 n, .int .i64 m] w (DrawnP w g c) := by
  have hgl := hr.lt
  obtain ⟨B, hBB⟩ : ∃ B, w.heap.size = B := ⟨_, rfl⟩
  have HB := Lib.hid hBB
  have R := Lib.hid (Rd.alloc hr (.cells #[.int .i64 0, .int .i64 0] 27))
  have F := Lib.hid (Fr.alloc (Fr.refl w g) (.cells #[.int .i64 0, .int .i64 0] 27))
  have Q := Lib.hid (show Box (w.alloc (.cells #[.int .i64 0, .int .i64 0] 27)) B 0 0 from by rw [← hBB]; exact Box.new w 0 0 27)
  rw [hBB] at hgl
  have hBg : B ≠ g := by omega
  clear hr hBB
  have hni : (1 : Int) ≤ n := by omega
  have hnb : (n : Int) ≤ 50 := by omega
  go_enter Try.func56, Try.ntmps56
  go_wp2_with fail
  rw [HB.out]
  obtain ⟨wn, hwn⟩ : ∃ wn, w.alloc (.cells #[.int .i64 0, .int .i64 0] 27) = wn := ⟨_, rfl⟩
  rw [hwn] at R F Q
  rw [hwn]
  clear hwn
  refine (pick_c g c (n : Int) _ R.out (by omega) (by omega)).mono ?_
  rintro e w1 ⟨p, rfl, p0, p1, v2, v3, v4⟩
  have hp : p ≤ 49 := by omega
  have R1 := Lib.hid v2
  have F1 := Lib.hid (show Fr w g w1 from Fr.trans F.out v3)
  have Q1 := Lib.hid (Box.fr Q.out v3 hBg)
  clear v2 v3 v4 p1 R F Q wn
  have R := R1
  have F := F1
  have Q := Q1
  clear R1 F1 Q1
  obtain ⟨wn, hwq⟩ : ∃ w0, w0 = w1 := ⟨_, rfl⟩
  subst hwq
  go_wp2_with fail
  refine (pick_c g _ (2) _ R.out (by omega) (by omega)).mono ?_
  rintro e wn ⟨q, rfl, hq0, p1, v2, v3, v4⟩
  have hq : q ≤ 1 := by omega
  skip
  have Rn : Hid _ := v2
  have Fn : Hid (Fr w g _) := Fr.trans F.out v3
  have Qn : Hid _ := Box.fr Q.out v3 hBg
  clear v3 v2 v4 p1
  clear R F Q
  have R := Rn
  have F := Fn
  have Q := Qn
  clear Rn Fn Qn
  have hglG := Rd.lt R.out
  have hltQG := Box.lt Q.out
  obtain ⟨G, hG⟩ : ∃ G, Array.size (World.heap wn) = G := ⟨_, rfl⟩
  have HG : Hid _ := hG
  rw [hG] at hglG hltQG
  have M : Hid (Box (wn.alloc (.cells #[.int .i64 p, .int .i64 (2 * q - 1)] 27)) G p (2 * q - 1)) := by rw [← hG]; exact Box.new wn p (2 * q - 1) 27
  have hGg : G ≠ g := by omega
  clear hG
  have Rn : Hid _ := Rd.alloc R.out (.cells #[.int .i64 p, .int .i64 (2 * q - 1)] 27)
  have Fn : Hid (Fr w g _) := Fr.alloc F.out (.cells #[.int .i64 p, .int .i64 (2 * q - 1)] 27)
  have Qn : Hid _ := Box.al Q.out (.cells #[.int .i64 p, .int .i64 (2 * q - 1)] 27)
  clear R F Q
  have R := Rn
  have F := Fn
  have Q := Qn
  clear Rn Fn Qn
  go_wp2_with fail
  rw [HG.out]
  refine (odd_c g _ (m) _ R.out (by omega) (by omega) (by omega)).mono ?_
  rintro e wn ⟨b, jb, rfl, hjb, v2, v3, v4⟩
  skip
  have Rn : Hid _ := v2
  have Fn : Hid (Fr w g _) := Fr.trans F.out v3
  have Qn : Hid _ := Box.fr Q.out v3 hBg
  have Mn : Hid _ := Box.fr M.out v3 hGg
  clear v3 v2 v4
  clear R F Q M
  have R := Rn
  have F := Fn
  have Q := Qn
  have M := Mn
  clear Rn Fn Qn Mn
  cases b
  · skip
    obtain ⟨⟨d0, d1⟩, d2, d3⟩ := M.out
    obtain ⟨⟨c0, c1⟩, f0, f1⟩ := Q.out
    go_wp2_with fail
    exact bodyPost_ret (v := (Value.agg #[.int .i64 (p), .int .i64 (2 * q - 1)])) (by simp [results, Try.results56, go_sem, c0, c1]) rfl ⟨p, 2 * q - 1, _, rfl, by omega, by omega, Rd.set (Rd.set R.out _ hgl) _ hgl, by omega, Fr.set (Fr.set F.out _ (by have := HB.out; omega)) _ (by have := HB.out; omega)⟩
  go_wp2_with fail
  refine (pick_c g _ (2) _ R.out (by omega) (by omega)).mono ?_
  rintro e wn ⟨u, rfl, hu0, p1, v2, v3, v4⟩
  have hu : u ≤ 1 := by omega
  skip
  have Rn : Hid _ := v2
  have Fn : Hid (Fr w g _) := Fr.trans F.out v3
  have Qn : Hid _ := Box.fr Q.out v3 hBg
  have Mn : Hid _ := Box.fr M.out v3 hGg
  clear v3 v2 v4 p1
  clear R F Q M
  have R := Rn
  have F := Fn
  have Q := Qn
  have M := Mn
  clear Rn Fn Qn Mn
  by_cases ku : u = 0
  · have tu : (u == 0) = true := by simp [ku]
    clear ku
    have hglH := Rd.lt R.out
    have hltQH := Box.lt Q.out
    have hltMH := Box.lt M.out
    obtain ⟨H, hH⟩ : ∃ H, Array.size (World.heap wn) = H := ⟨_, rfl⟩
    have HH : Hid _ := hH
    rw [hH] at hglH hltQH hltMH
    have N : Hid (Box (wn.alloc (.cells #[.int .i64 (-1), .int .i64 (n : Int)] 3)) H (-1) n) := by rw [← hH]; exact Box.new wn (-1) n 3
    have hHg : H ≠ g := by omega
    clear hH
    have Rn : Hid _ := Rd.alloc R.out (.cells #[.int .i64 (-1), .int .i64 (n : Int)] 3)
    have Fn : Hid (Fr w g _) := Fr.alloc F.out (.cells #[.int .i64 (-1), .int .i64 (n : Int)] 3)
    have Qn : Hid _ := Box.al Q.out (.cells #[.int .i64 (-1), .int .i64 (n : Int)] 3)
    have Mn : Hid _ := Box.al M.out (.cells #[.int .i64 (-1), .int .i64 (n : Int)] 3)
    clear R F Q M
    have R := Rn
    have F := Fn
    have Q := Qn
    have M := Mn
    clear Rn Fn Qn Mn
    go_wp2_with fail
    rw [HH.out]
    refine (pick_c g _ (2) _ R.out (by omega) (by omega)).mono ?_
    rintro e wn ⟨z, rfl, hz0, p1, v2, v3, v4⟩
    have hz : z ≤ 1 := by omega
    skip
    have Rn : Hid _ := v2
    have Fn : Hid (Fr w g _) := Fr.trans F.out v3
    have Qn : Hid _ := Box.fr Q.out v3 hBg
    have Mn : Hid _ := Box.fr M.out v3 hGg
    have Nn : Hid _ := Box.fr N.out v3 hHg
    clear v3 v2 v4 p1
    clear R F Q M N
    have R := Rn
    have F := Fn
    have Q := Qn
    have M := Mn
    have N := Nn
    clear Rn Fn Qn Mn Nn
    have hz2 : z < 2 := by omega
    obtain ⟨y, hy⟩ : ∃ y, two9 (-1) n z = y := ⟨_, rfl⟩
    have n0 := box_two9 N.out hz0 hz2
    rw [hy] at n0
    have hyb : -1 ≤ y ∧ y ≤ 50 := by rw [← hy]; unfold two9; split <;> omega
    clear hy
    have M1 := Box.set0 y M.out
    have Q1 := Box.far (c := G) (j := 0) (v := .int .i64 y) Q.out (by omega)
    obtain ⟨⟨c0, c1⟩, cf0, cf1⟩ := M.out
    obtain ⟨⟨d0, d1⟩, d2, d3⟩ := M1
    obtain ⟨⟨e0, e1⟩, f0, f1⟩ := Q1
    go_wp2_with fail
    clear c0 c1 d0 d1
    have c0 := e0
    have c1 := e1
    exact bodyPost_ret (v := (Value.agg #[.int .i64 (y), .int .i64 (2 * q - 1)])) (by simp [results, Try.results56, go_sem, c0, c1]) rfl ⟨y, 2 * q - 1, _, rfl, by omega, by omega, Rd.set (Rd.set (Rd.set R.out _ (by omega)) _ hgl) _ hgl, by omega, Fr.set (Fr.set (Fr.set F.out _ (by have := HB.out; omega)) _ (by have := HB.out; omega)) _ (by have := HB.out; omega)⟩
  · have tu : (u == 0) = false := by simp [ku]
    clear ku
    have hglH := Rd.lt R.out
    have hltQH := Box.lt Q.out
    have hltMH := Box.lt M.out
    obtain ⟨H, hH⟩ : ∃ H, Array.size (World.heap wn) = H := ⟨_, rfl⟩
    have HH : Hid _ := hH
    rw [hH] at hglH hltQH hltMH
    have N : Hid (Box (wn.alloc (.cells #[.int .i64 0, .int .i64 2] 3)) H 0 2) := by rw [← hH]; exact Box.new wn 0 2 3
    have hHg : H ≠ g := by omega
    clear hH
    have Rn : Hid _ := Rd.alloc R.out (.cells #[.int .i64 0, .int .i64 2] 3)
    have Fn : Hid (Fr w g _) := Fr.alloc F.out (.cells #[.int .i64 0, .int .i64 2] 3)
    have Qn : Hid _ := Box.al Q.out (.cells #[.int .i64 0, .int .i64 2] 3)
    have Mn : Hid _ := Box.al M.out (.cells #[.int .i64 0, .int .i64 2] 3)
    clear R F Q M
    have R := Rn
    have F := Fn
    have Q := Qn
    have M := Mn
    clear Rn Fn Qn Mn
    go_wp2_with fail
    rw [HH.out]
    refine (pick_c g _ (2) _ R.out (by omega) (by omega)).mono ?_
    rintro e wn ⟨z, rfl, hz0, p1, v2, v3, v4⟩
    have hz : z ≤ 1 := by omega
    skip
    have Rn : Hid _ := v2
    have Fn : Hid (Fr w g _) := Fr.trans F.out v3
    have Qn : Hid _ := Box.fr Q.out v3 hBg
    have Mn : Hid _ := Box.fr M.out v3 hGg
    have Nn : Hid _ := Box.fr N.out v3 hHg
    clear v3 v2 v4 p1
    clear R F Q M N
    have R := Rn
    have F := Fn
    have Q := Qn
    have M := Mn
    have N := Nn
    clear Rn Fn Qn Mn Nn
    have hz2 : z < 2 := by omega
    obtain ⟨y, hy⟩ : ∃ y, two9 0 2 z = y := ⟨_, rfl⟩
    have n0 := box_two9 N.out hz0 hz2
    rw [hy] at n0
    have hyb : 0 ≤ y ∧ y ≤ 2 := by rw [← hy]; unfold two9; split <;> omega
    clear hy
    have M1 := Box.set1 y M.out
    have Q1 := Box.far (c := G) (j := 1) (v := .int .i64 y) Q.out (by omega)
    obtain ⟨⟨c0, c1⟩, cf0, cf1⟩ := M.out
    obtain ⟨⟨d0, d1⟩, d2, d3⟩ := M1
    obtain ⟨⟨e0, e1⟩, f0, f1⟩ := Q1
    go_wp2_with fail
    clear c0 c1 d0 d1
    have c0 := e0
    have c1 := e1
    exact bodyPost_ret (v := (Value.agg #[.int .i64 (p), .int .i64 (y)])) (by simp [results, Try.results56, go_sem, c0, c1]) rfl ⟨p, y, _, rfl, by omega, by omega, Rd.set (Rd.set (Rd.set R.out _ (by omega)) _ hgl) _ hgl, by omega, Fr.set (Fr.set (Fr.set F.out _ (by have := HB.out; omega)) _ (by have := HB.out; omega)) _ (by have := HB.out; omega)⟩
end Go.Proofs.Ytkpginkkfobblaa

namespace Go.Proofs.Ytkpginkkfobblaa
open Go.RowKit
set_option linter.unusedVariables false

theorem OwnB.fr9 {w w' : World} {B g : Nat} {v : Value} {xs : List Bool} (h : OwnB w B v xs) (hf : Fr w g w') (hg : g < B) : OwnB w' B v xs :=
  h.block fun k hk => hf.block k (h.lt k hk).2 (by have := (h.lt k hk).1; simp; omega)
/-- Drawn calls, a floor and a direction. -/
def DrawnCP (w : World) (g : Nat) (e : Ending) (w' : World) : Prop := ∃ (a1 : Option Addr) (n1 k1 : Nat) (a2 : Option Addr) (n2 k2 : Nat) (a3 : Option Addr) (n3 k3 : Nat) (x : Cs) (f d : Int), e = .returned (.tuple #[(.agg #[.slice a1 n1 k1, .slice a2 n2 k2, .slice a3 n3 k3]), (Value.agg #[.int .i64 (f), .int .i64 (d)])]) ∧ (OwnB w' w.heap.size (.slice a1 n1 k1) x.u ∧ OwnB w' w.heap.size (.slice a2 n2 k2) x.d ∧ OwnB w' w.heap.size (.slice a3 n3 k3) x.c) ∧ (n1 ≤ 9 ∧ n2 ≤ 9 ∧ n3 ≤ 9) ∧ ((-1 ≤ f ∧ f ≤ 100) ∧ -1 ≤ d ∧ d ≤ 2) ∧ Fr w g w'
set_option maxHeartbeats 2000000 in
theorem l20Called_c (g c : Nat) (w : World) (hr : Rd w g c) (hc : c ≤ 100) :
    Calls Try.prog 34 #[.pointer (some ⟨g, 0, none⟩)] w (DrawnCP w g) := by
  have hgl := hr.lt
  obtain ⟨B, hBB⟩ : ∃ B, w.heap.size = B := ⟨_, rfl⟩
  have HB := Lib.hid hBB
  have R := Lib.hid (Rd.alloc (Rd.alloc hr (.cells #[.slice none 0 0, .slice none 0 0, .slice none 0 0] 25)) (.cells #[.int .i64 0, .int .i64 0] 27))
  have F := Lib.hid (Fr.alloc (Fr.alloc (Fr.refl w g) (.cells #[.slice none 0 0, .slice none 0 0, .slice none 0 0] 25)) (.cells #[.int .i64 0, .int .i64 0] 27))
  have Q := Lib.hid (show Bx ((w.alloc (.cells #[.slice none 0 0, .slice none 0 0, .slice none 0 0] 25)).alloc (.cells #[.int .i64 0, .int .i64 0] 27)) B (.slice none 0 0) (.slice none 0 0) (.slice none 0 0) from by rw [← hBB]; exact Bx.al (Bx.new _ _ _ _ _) _)
  have M := Lib.hid (show Box ((w.alloc (.cells #[.slice none 0 0, .slice none 0 0, .slice none 0 0] 25)).alloc (.cells #[.int .i64 0, .int .i64 0] 27)) (B + 1) 0 0 from by
    have h9 := Box.new (w.alloc (.cells #[.slice none 0 0, .slice none 0 0, .slice none 0 0] 25)) 0 0 27
    simp only [World.size_alloc, hBB] at h9
    exact h9)
  rw [hBB] at hgl
  have hBg : B ≠ g := by omega
  have hMg : B + 1 ≠ g := by omega
  clear hr hBB
  go_enter Try.func34, Try.ntmps34
  go_wp2_with fail
  rw [HB.out]
  generalize hwn : (w.alloc (.cells #[.slice none 0 0, .slice none 0 0, .slice none 0 0] 25)).alloc (.cells #[.int .i64 0, .int .i64 0] 27) = wn at *
  clear hwn
  refine (pick_c g c 8 _ R.out (by omega) (by omega)).mono ?_
  rintro e w1 ⟨p, rfl, p0, p1, v2, v3, v4⟩
  obtain ⟨q, hq⟩ : ∃ q : Nat, 1 + p = q := ⟨(1 + p).toNat, by omega⟩
  have q1 : 1 ≤ q := by omega
  have q8 : q ≤ 8 := by omega
  have R1 := Lib.hid v2
  have F1 := Lib.hid (show Fr w g w1 from Fr.trans F.out v3)
  have Q1 := Lib.hid (Bx.gr Q.out v3 hBg)
  have M1 := Lib.hid (Box.fr M.out v3 hMg)
  clear v2 v3 v4 p1 R F Q M wn
  have R := R1
  have F := F1
  have Q := Q1
  have M := M1
  clear R1 F1 Q1 M1
  obtain ⟨wn, hwq⟩ : ∃ w0, w0 = w1 := ⟨_, rfl⟩
  subst hwq
  go_wp2_with fail
  try rw [hq]
  clear hq p0
  refine (pick_c g _ 3 _ R.out (by omega) (by omega)).mono ?_
  rintro e w1 ⟨u, rfl, u0, u1, v2, v3, v4⟩
  have R1 := Lib.hid v2
  have F1 := Lib.hid (show Fr w g w1 from Fr.trans F.out v3)
  have Q1 := Lib.hid (Bx.gr Q.out v3 hBg)
  have M1 := Lib.hid (Box.fr M.out v3 hMg)
  clear v2 v3 v4 u1 R F Q M wn
  have R := R1
  have F := F1
  have Q := Q1
  have M := M1
  clear R1 F1 Q1 M1
  obtain ⟨wn, hwq⟩ : ∃ w0, w0 = w1 := ⟨_, rfl⟩
  subst hwq
  by_cases hu : 0 < u

  · go_wp2_with fail
    refine (pick_c g _ 5 _ R.out (by omega) (by omega)).mono ?_
    rintro e w1 ⟨p, rfl, p0, p1, v2, v3, v4⟩
    obtain ⟨q, hq⟩ : ∃ q : Nat, 4 + p = q := ⟨(4 + p).toNat, by omega⟩
    have q1 : 1 ≤ q := by omega
    have q8 : q ≤ 8 := by omega
    have R1 := Lib.hid v2
    have F1 := Lib.hid (show Fr w g w1 from Fr.trans F.out v3)
    have Q1 := Lib.hid (Bx.gr Q.out v3 hBg)
    have M1 := Lib.hid (Box.fr M.out v3 hMg)
    clear v2 v3 v4 p1 R F Q M wn
    have R := R1
    have F := F1
    have Q := Q1
    have M := M1
    clear R1 F1 Q1 M1
    obtain ⟨wn, hwq⟩ : ∃ w0, w0 = w1 := ⟨_, rfl⟩
    subst hwq
    go_wp2_with fail
    try rw [hq]
    clear hq p0
    refine Calls.mono (l20Calls_c g _ q 14 _ R.out (by omega) q1 q8 (by omega) (by omega)) ?_
    intro e w3 hh
    obtain ⟨a1, n1, k1, a2, n2, k2, a3, n3, k3, x, c', rfl, ⟨o1, o2, o3⟩, hl, hr3, hc3, hf⟩ := DrawnC.cal hh
    obtain ⟨S3, hS3⟩ : ∃ S3, wn.heap.size = S3 := ⟨_, rfl⟩
    have hgS : g < S3 := by rw [← hS3]; exact Rd.lt R.out
    have hBS : B < S3 := by rw [← hS3]; exact Bx.lt Q.out
    have hMS : B + 1 < S3 := by rw [← hS3]; exact Box.lt M.out
    rw [hS3] at o1 o2 o3
    have O1 := Lib.hid o1
    have O2 := Lib.hid o2
    have O3 := Lib.hid o3
    have R3 := Lib.hid hr3
    have F3 := Lib.hid (show Fr w g w3 from Fr.trans F.out hf)
    have Q3 := Lib.hid (Bx.gr Q.out hf hBg)
    have M3 := Lib.hid (Box.fr M.out hf hMg)
    clear hh o1 o2 o3 hr3 hf hS3 R F Q M
    go_wp2_with fail
    refine Calls.mono (l20Stop_c g _ q 14 _ R3.out (by omega) q1 (by omega) (by omega) (by omega)) ?_
    rintro e w4 ⟨f, d, c4, rfl, hf1, hd1, -, -, hf⟩
    have P1 := OwnB.fr9 O1.out hf hgS
    have P2 := OwnB.fr9 O2.out hf hgS
    have P3 := OwnB.fr9 O3.out hf hgS
    have F4 := Lib.hid (show Fr w g w4 from Fr.trans F3.out hf)
    have Q4 := Lib.hid (Bx.gr Q3.out hf hBg)
    have M4 := Lib.hid (Box.fr M3.out hf hMg)
    have hs := Bx.set3 Q4.out (.slice a1 n1 k1) (.slice a2 n2 k2) (.slice a3 n3 k3)
    have ho := Out.trans (hs.2.wide (hi' := B + 2) (Nat.le_refl _) (by omega)) (Out.trans (Out.set (w := _) (q := B + 1) (i := 0) (lo := B) (hi := B + 2) (.int .i64 f) (by omega) (by omega)) (Out.set (w := _) (q := B + 1) (i := 1) (lo := B) (hi := B + 2) (.int .i64 d) (by omega) (by omega)))
    have E1 := OwnB.outs P1 ho (fun q hq => by have := (P1.lt q hq).1; omega)
    have E2 := OwnB.outs P2 ho (fun q hq => by have := (P2.lt q hq).1; omega)
    have E3 := OwnB.outs P3 ho (fun q hq => by have := (P3.lt q hq).1; omega)
    have N := Lib.hid (show DrawnCP w g (.returned (.tuple #[(.agg #[.slice a1 n1 k1, .slice a2 n2 k2, .slice a3 n3 k3]), (Value.agg #[.int .i64 (f), .int .i64 (d)])])) _ from ⟨a1, n1, k1, a2, n2, k2, a3, n3, k3, x, f, d, rfl, ⟨E1.mono (by have := HB.out; omega), E2.mono (by have := HB.out; omega), E3.mono (by have := HB.out; omega)⟩, hl, ⟨hf1, hd1⟩, Fr.out F4.out ho (by have := HB.out; omega)⟩)
    have Q5 := Bx.pfar (c := B + 1) (j := 0) (v := .int .i64 f) hs.1 (by omega)
    have Q6 := Bx.pfar (c := B + 1) (j := 1) (v := .int .i64 d) Q5 (by omega)
    have M5 := Box.out M4.out hs.2 (.inr (by omega))
    have M6 := Box.set1 d (Box.set0 f M5)
    obtain ⟨⟨z0, z1, z2⟩, zf⟩ := Q4.out
    have zf0 := zf 0
    have zf1 := zf 1
    have zf2 := zf 2
    obtain ⟨⟨y0, y1⟩, yf0, yf1⟩ := M5
    obtain ⟨⟨c0, c1, c2⟩, -⟩ := Q6
    obtain ⟨⟨d0, d1⟩, -, -⟩ := M6
    clear zf hs ho P1 P2 P3 E1 E2 E3 hf R3 F3 Q3 M3 F4 Q4 M4 O1 O2 O3 Q5
    go_wp2_with fail
    exact bodyPost_ret (v := .tuple #[(.agg #[.slice a1 n1 k1, .slice a2 n2 k2, .slice a3 n3 k3]), (Value.agg #[.int .i64 (f), .int .i64 (d)])]) (by simp [results, Try.results34, go_sem, c0, c1, c2, d0, d1]) rfl N.out

  · go_wp2_with fail
    refine Calls.mono (l20Calls_c g _ q 14 _ R.out (by omega) q1 q8 (by omega) (by omega)) ?_
    intro e w3 hh
    obtain ⟨a1, n1, k1, a2, n2, k2, a3, n3, k3, x, c', rfl, ⟨o1, o2, o3⟩, hl, hr3, hc3, hf⟩ := DrawnC.cal hh
    obtain ⟨S3, hS3⟩ : ∃ S3, wn.heap.size = S3 := ⟨_, rfl⟩
    have hgS : g < S3 := by rw [← hS3]; exact Rd.lt R.out
    have hBS : B < S3 := by rw [← hS3]; exact Bx.lt Q.out
    have hMS : B + 1 < S3 := by rw [← hS3]; exact Box.lt M.out
    rw [hS3] at o1 o2 o3
    have O1 := Lib.hid o1
    have O2 := Lib.hid o2
    have O3 := Lib.hid o3
    have R3 := Lib.hid hr3
    have F3 := Lib.hid (show Fr w g w3 from Fr.trans F.out hf)
    have Q3 := Lib.hid (Bx.gr Q.out hf hBg)
    have M3 := Lib.hid (Box.fr M.out hf hMg)
    clear hh o1 o2 o3 hr3 hf hS3 R F Q M
    go_wp2_with fail
    refine Calls.mono (l20Stop_c g _ q 14 _ R3.out (by omega) q1 (by omega) (by omega) (by omega)) ?_
    rintro e w4 ⟨f, d, c4, rfl, hf1, hd1, -, -, hf⟩
    have P1 := OwnB.fr9 O1.out hf hgS
    have P2 := OwnB.fr9 O2.out hf hgS
    have P3 := OwnB.fr9 O3.out hf hgS
    have F4 := Lib.hid (show Fr w g w4 from Fr.trans F3.out hf)
    have Q4 := Lib.hid (Bx.gr Q3.out hf hBg)
    have M4 := Lib.hid (Box.fr M3.out hf hMg)
    have hs := Bx.set3 Q4.out (.slice a1 n1 k1) (.slice a2 n2 k2) (.slice a3 n3 k3)
    have ho := Out.trans (hs.2.wide (hi' := B + 2) (Nat.le_refl _) (by omega)) (Out.trans (Out.set (w := _) (q := B + 1) (i := 0) (lo := B) (hi := B + 2) (.int .i64 f) (by omega) (by omega)) (Out.set (w := _) (q := B + 1) (i := 1) (lo := B) (hi := B + 2) (.int .i64 d) (by omega) (by omega)))
    have E1 := OwnB.outs P1 ho (fun q hq => by have := (P1.lt q hq).1; omega)
    have E2 := OwnB.outs P2 ho (fun q hq => by have := (P2.lt q hq).1; omega)
    have E3 := OwnB.outs P3 ho (fun q hq => by have := (P3.lt q hq).1; omega)
    have N := Lib.hid (show DrawnCP w g (.returned (.tuple #[(.agg #[.slice a1 n1 k1, .slice a2 n2 k2, .slice a3 n3 k3]), (Value.agg #[.int .i64 (f), .int .i64 (d)])])) _ from ⟨a1, n1, k1, a2, n2, k2, a3, n3, k3, x, f, d, rfl, ⟨E1.mono (by have := HB.out; omega), E2.mono (by have := HB.out; omega), E3.mono (by have := HB.out; omega)⟩, hl, ⟨hf1, hd1⟩, Fr.out F4.out ho (by have := HB.out; omega)⟩)
    have Q5 := Bx.pfar (c := B + 1) (j := 0) (v := .int .i64 f) hs.1 (by omega)
    have Q6 := Bx.pfar (c := B + 1) (j := 1) (v := .int .i64 d) Q5 (by omega)
    have M5 := Box.out M4.out hs.2 (.inr (by omega))
    have M6 := Box.set1 d (Box.set0 f M5)
    obtain ⟨⟨z0, z1, z2⟩, zf⟩ := Q4.out
    have zf0 := zf 0
    have zf1 := zf 1
    have zf2 := zf 2
    obtain ⟨⟨y0, y1⟩, yf0, yf1⟩ := M5
    obtain ⟨⟨c0, c1, c2⟩, -⟩ := Q6
    obtain ⟨⟨d0, d1⟩, -, -⟩ := M6
    clear zf hs ho P1 P2 P3 E1 E2 E3 hf R3 F3 Q3 M3 F4 Q4 M4 O1 O2 O3 Q5
    go_wp2_with fail
    exact bodyPost_ret (v := .tuple #[(.agg #[.slice a1 n1 k1, .slice a2 n2 k2, .slice a3 n3 k3]), (Value.agg #[.int .i64 (f), .int .i64 (d)])]) (by simp [results, Try.results34, go_sem, c0, c1, c2, d0, d1]) rfl N.out

set_option maxHeartbeats 1000000 in
theorem DrawNextStop_c (a : Option Addr) (n cap : Nat) (w : World) (hb : Byt w a n) (hn : n ≤ cap) (hcap : cap ≤ maxLen) :
    Calls Try.prog 9 #[.slice a n cap] w fun e w' => ∃ (a1 : Option Addr) (n1 k1 : Nat) (a2 : Option Addr) (n2 k2 : Nat) (a3 : Option Addr) (n3 k3 : Nat) (x : Cs) (f d : Int), e = .returned (.tuple #[(.agg #[.slice a1 n1 k1, .slice a2 n2 k2, .slice a3 n3 k3]), (Value.agg #[.int .i64 (f), .int .i64 (d)])]) ∧ Cal w' a1 n1 a2 n2 a3 n3 x ∧ (n1 ≤ 9 ∧ n2 ≤ 9 ∧ n3 ≤ 9) ∧ ((-1 ≤ f ∧ f ≤ 100) ∧ -1 ≤ d ∧ d ≤ 2) ∧ Below w.heap.size w w' := by
  refine at_base fun wn hwn => ?_
  have T := Lib.hid (show Below w.heap.size w wn from by rw [hwn]; exact Below.refl _ _)
  clear hwn
  have HY := Lib.hid hb
  clear hb
  obtain ⟨g, hg⟩ : ∃ g, Array.size (World.heap wn) = g := ⟨_, rfl⟩
  have HGg := Lib.hid hg
  have hTg : w.heap.size ≤ g := by rw [← hg]; exact T.out.size
  have Tn := Lib.hid (show Below w.heap.size w ((wn.alloc (.cells #[.slice none 0 0, .slice none 0 0, .slice none 0 0] 25)).alloc (.cells #[.int .i64 (0), .int .i64 (0)] 27)) from (Below.al (Below.al T.out (.cells #[.slice none 0 0, .slice none 0 0, .slice none 0 0] 25)) (.cells #[.int .i64 (0), .int .i64 (0)] 27)))
  have Q := Lib.hid (show Bx ((wn.alloc (.cells #[.slice none 0 0, .slice none 0 0, .slice none 0 0] 25)).alloc (.cells #[.int .i64 (0), .int .i64 (0)] 27)) g (.slice none 0 0) (.slice none 0 0) (.slice none 0 0) from by have h9 := (Bx.al (Bx.new wn (.slice none 0 0) (.slice none 0 0) (.slice none 0 0) 25) (.cells #[.int .i64 (0), .int .i64 (0)] 27)); simp only [World.size_alloc, hg, Nat.add_assoc, Nat.reduceAdd] at h9; exact h9)
  have M := Lib.hid (show Box ((wn.alloc (.cells #[.slice none 0 0, .slice none 0 0, .slice none 0 0] 25)).alloc (.cells #[.int .i64 (0), .int .i64 (0)] 27)) (g + 1) (0) (0) from by have h9 := (Box.new (wn.alloc (.cells #[.slice none 0 0, .slice none 0 0, .slice none 0 0] 25)) (0) (0) 27); simp only [World.size_alloc, hg, Nat.add_assoc, Nat.reduceAdd] at h9; exact h9)
  have HZg := Lib.hid (show (((wn.alloc (.cells #[.slice none 0 0, .slice none 0 0, .slice none 0 0] 25)).alloc (.cells #[.int .i64 (0), .int .i64 (0)] 27))).heap.size = g + 2 from by simp only [World.size_alloc, hg, Nat.add_assoc, Nat.reduceAdd])
  clear hg
  clear T
  have T := Tn
  clear Tn
  go_enter Try.func9, Try.ntmps9
  go_wp2_with fail
  rw [HGg.out]
  refine (open_c a n cap _ (HY.out.below T.out) hn hcap).mono ?_
  rintro e w1 ⟨r, hr0, rfl, hr, hB⟩
  have hgr : g + 1 < r := by have := Box.lt M.out; omega
  have R1 := Lib.hid hr
  have T1 := Lib.hid (below_next T.out hB)
  have Q1 := Lib.hid (Bx.below Q.out hB)
  have M1 := Lib.hid (Box.below M.out hB)
  clear hr hB hr0 T Q M
  go_wp2_with fail
  refine Calls.mono (l20Called_c r 0 _ R1.out (by omega)) ?_
  rintro e w2 ⟨a1, n1, k1, a2, n2, k2, a3, n3, k3, x, f, d, rfl, ⟨P1, P2, P3⟩, hl, hfd, hf⟩
  have hw1 : r < w1.heap.size := Rd.lt R1.out
  have T2 := Lib.hid (show Below w.heap.size w w2 from Fr.below T1.out hf (by omega))
  have Q2 := Lib.hid (Bx.gr Q1.out hf (by omega))
  have M2 := Lib.hid (Box.fr M1.out hf (by omega))
  have hs := Bx.set3 Q2.out (.slice a1 n1 k1) (.slice a2 n2 k2) (.slice a3 n3 k3)
  have ho := Out.trans (hs.2.wide (hi' := g + 2) (Nat.le_refl _) (by omega)) (Out.trans (Out.set (w := _) (q := g + 1) (i := 0) (lo := g) (hi := g + 2) (.int .i64 f) (by omega) (by omega)) (Out.set (w := _) (q := g + 1) (i := 1) (lo := g) (hi := g + 2) (.int .i64 d) (by omega) (by omega)))
  have E1 := OwnB.outs P1 ho (fun q hq => by have := (P1.lt q hq).1; omega)
  have E2 := OwnB.outs P2 ho (fun q hq => by have := (P2.lt q hq).1; omega)
  have E3 := OwnB.outs P3 ho (fun q hq => by have := (P3.lt q hq).1; omega)
  have N := Lib.hid (Out.below T2.out ho (by omega))
  have CC := Lib.hid (show Cal _ a1 n1 a2 n2 a3 n3 x from ⟨OwnB.cal E1, OwnB.cal E2, OwnB.cal E3⟩)
  have Q5 := Bx.pfar (c := g + 1) (j := 0) (v := .int .i64 f) hs.1 (by omega)
  have Q6 := Bx.pfar (c := g + 1) (j := 1) (v := .int .i64 d) Q5 (by omega)
  have M5 := Box.out M2.out hs.2 (.inr (by omega))
  have M6 := Box.set1 d (Box.set0 f M5)
  obtain ⟨⟨z0, z1, z2⟩, zf⟩ := Q2.out
  have zf0 := zf 0
  have zf1 := zf 1
  have zf2 := zf 2
  obtain ⟨⟨y0, y1⟩, yf0, yf1⟩ := M5
  obtain ⟨⟨c0, c1, c2⟩, -⟩ := Q6
  obtain ⟨⟨d0, d1⟩, -, -⟩ := M6
  clear zf hs ho P1 P2 P3 E1 E2 E3 hf R1 T1 Q1 M1 Q2 M2 T2 Q5
  go_wp2_with fail
  exact bodyPost_ret (v := .tuple #[(.agg #[.slice a1 n1 k1, .slice a2 n2 k2, .slice a3 n3 k3]), (Value.agg #[.int .i64 (f), .int .i64 (d)])]) (by simp [results, Try.results9, go_sem, c0, c1, c2, d0, d1]) rfl ⟨a1, n1, k1, a2, n2, k2, a3, n3, k3, x, f, d, rfl, CC.out, hl, hfd, N.out⟩

set_option maxHeartbeats 1000000 in
theorem DrawServeStop_c (a : Option Addr) (n cap : Nat) (w : World) (hb : Byt w a n) (hn : n ≤ cap) (hcap : cap ≤ maxLen) :
    Calls Try.prog 16 #[.slice a n cap] w fun e w' => ∃ (a1 : Option Addr) (n1 k1 : Nat) (a2 : Option Addr) (n2 k2 : Nat) (a3 : Option Addr) (n3 k3 : Nat) (x : Cs) (f d : Int), e = .returned (.tuple #[(.agg #[.slice a1 n1 k1, .slice a2 n2 k2, .slice a3 n3 k3]), (Value.agg #[.int .i64 (f), .int .i64 (d)])]) ∧ Cal w' a1 n1 a2 n2 a3 n3 x ∧ (n1 ≤ 9 ∧ n2 ≤ 9 ∧ n3 ≤ 9) ∧ ((-1 ≤ f ∧ f ≤ 100) ∧ -1 ≤ d ∧ d ≤ 2) ∧ Below w.heap.size w w' := by
  refine at_base fun wn hwn => ?_
  have T := Lib.hid (show Below w.heap.size w wn from by rw [hwn]; exact Below.refl _ _)
  clear hwn
  have HY := Lib.hid hb
  clear hb
  obtain ⟨g, hg⟩ : ∃ g, Array.size (World.heap wn) = g := ⟨_, rfl⟩
  have HGg := Lib.hid hg
  have hTg : w.heap.size ≤ g := by rw [← hg]; exact T.out.size
  have Tn := Lib.hid (show Below w.heap.size w ((wn.alloc (.cells #[.slice none 0 0, .slice none 0 0, .slice none 0 0] 25)).alloc (.cells #[.int .i64 (0), .int .i64 (0)] 27)) from (Below.al (Below.al T.out (.cells #[.slice none 0 0, .slice none 0 0, .slice none 0 0] 25)) (.cells #[.int .i64 (0), .int .i64 (0)] 27)))
  have Q := Lib.hid (show Bx ((wn.alloc (.cells #[.slice none 0 0, .slice none 0 0, .slice none 0 0] 25)).alloc (.cells #[.int .i64 (0), .int .i64 (0)] 27)) g (.slice none 0 0) (.slice none 0 0) (.slice none 0 0) from by have h9 := (Bx.al (Bx.new wn (.slice none 0 0) (.slice none 0 0) (.slice none 0 0) 25) (.cells #[.int .i64 (0), .int .i64 (0)] 27)); simp only [World.size_alloc, hg, Nat.add_assoc, Nat.reduceAdd] at h9; exact h9)
  have M := Lib.hid (show Box ((wn.alloc (.cells #[.slice none 0 0, .slice none 0 0, .slice none 0 0] 25)).alloc (.cells #[.int .i64 (0), .int .i64 (0)] 27)) (g + 1) (0) (0) from by have h9 := (Box.new (wn.alloc (.cells #[.slice none 0 0, .slice none 0 0, .slice none 0 0] 25)) (0) (0) 27); simp only [World.size_alloc, hg, Nat.add_assoc, Nat.reduceAdd] at h9; exact h9)
  have HZg := Lib.hid (show (((wn.alloc (.cells #[.slice none 0 0, .slice none 0 0, .slice none 0 0] 25)).alloc (.cells #[.int .i64 (0), .int .i64 (0)] 27))).heap.size = g + 2 from by simp only [World.size_alloc, hg, Nat.add_assoc, Nat.reduceAdd])
  clear hg
  clear T
  have T := Tn
  clear Tn
  go_enter Try.func16, Try.ntmps16
  go_wp2_with fail
  rw [HGg.out]
  refine (open_c a n cap _ (HY.out.below T.out) hn hcap).mono ?_
  rintro e w1 ⟨r, hr0, rfl, hr, hB⟩
  have hgr : g + 1 < r := by have := Box.lt M.out; omega
  have R1 := Lib.hid hr
  have T1 := Lib.hid (below_next T.out hB)
  have Q1 := Lib.hid (Bx.below Q.out hB)
  have M1 := Lib.hid (Box.below M.out hB)
  clear hr hB hr0 T Q M
  go_wp2_with fail
  refine Calls.mono (l20Called_c r 0 _ R1.out (by omega)) ?_
  rintro e w2 ⟨a1, n1, k1, a2, n2, k2, a3, n3, k3, x, f, d, rfl, ⟨P1, P2, P3⟩, hl, hfd, hf⟩
  have hw1 : r < w1.heap.size := Rd.lt R1.out
  have T2 := Lib.hid (show Below w.heap.size w w2 from Fr.below T1.out hf (by omega))
  have Q2 := Lib.hid (Bx.gr Q1.out hf (by omega))
  have M2 := Lib.hid (Box.fr M1.out hf (by omega))
  have hs := Bx.set3 Q2.out (.slice a1 n1 k1) (.slice a2 n2 k2) (.slice a3 n3 k3)
  have ho := Out.trans (hs.2.wide (hi' := g + 2) (Nat.le_refl _) (by omega)) (Out.trans (Out.set (w := _) (q := g + 1) (i := 0) (lo := g) (hi := g + 2) (.int .i64 f) (by omega) (by omega)) (Out.set (w := _) (q := g + 1) (i := 1) (lo := g) (hi := g + 2) (.int .i64 d) (by omega) (by omega)))
  have E1 := OwnB.outs P1 ho (fun q hq => by have := (P1.lt q hq).1; omega)
  have E2 := OwnB.outs P2 ho (fun q hq => by have := (P2.lt q hq).1; omega)
  have E3 := OwnB.outs P3 ho (fun q hq => by have := (P3.lt q hq).1; omega)
  have N := Lib.hid (Out.below T2.out ho (by omega))
  have CC := Lib.hid (show Cal _ a1 n1 a2 n2 a3 n3 x from ⟨OwnB.cal E1, OwnB.cal E2, OwnB.cal E3⟩)
  have Q5 := Bx.pfar (c := g + 1) (j := 0) (v := .int .i64 f) hs.1 (by omega)
  have Q6 := Bx.pfar (c := g + 1) (j := 1) (v := .int .i64 d) Q5 (by omega)
  have M5 := Box.out M2.out hs.2 (.inr (by omega))
  have M6 := Box.set1 d (Box.set0 f M5)
  obtain ⟨⟨z0, z1, z2⟩, zf⟩ := Q2.out
  have zf0 := zf 0
  have zf1 := zf 1
  have zf2 := zf 2
  obtain ⟨⟨y0, y1⟩, yf0, yf1⟩ := M5
  obtain ⟨⟨c0, c1, c2⟩, -⟩ := Q6
  obtain ⟨⟨d0, d1⟩, -, -⟩ := M6
  clear zf hs ho P1 P2 P3 E1 E2 E3 hf R1 T1 Q1 M1 Q2 M2 T2 Q5
  go_wp2_with fail
  exact bodyPost_ret (v := .tuple #[(.agg #[.slice a1 n1 k1, .slice a2 n2 k2, .slice a3 n3 k3]), (Value.agg #[.int .i64 (f), .int .i64 (d)])]) (by simp [results, Try.results16, go_sem, c0, c1, c2, d0, d1]) rfl ⟨a1, n1, k1, a2, n2, k2, a3, n3, k3, x, f, d, rfl, CC.out, hl, hfd, N.out⟩

set_option maxHeartbeats 1000000 in
theorem DrawSweepStops_c (a : Option Addr) (n cap : Nat) (w : World) (hb : Byt w a n) (hn : n ≤ cap) (hcap : cap ≤ maxLen) :
    Calls Try.prog 20 #[.slice a n cap] w fun e w' => ∃ (a1 : Option Addr) (n1 k1 : Nat) (a2 : Option Addr) (n2 k2 : Nat) (a3 : Option Addr) (n3 k3 : Nat) (x : Cs) (f d : Int), e = .returned (.tuple #[(.agg #[.slice a1 n1 k1, .slice a2 n2 k2, .slice a3 n3 k3]), (Value.agg #[.int .i64 (f), .int .i64 (d)])]) ∧ Cal w' a1 n1 a2 n2 a3 n3 x ∧ (n1 ≤ 9 ∧ n2 ≤ 9 ∧ n3 ≤ 9) ∧ ((-1 ≤ f ∧ f ≤ 100) ∧ -1 ≤ d ∧ d ≤ 2) ∧ Below w.heap.size w w' := by
  refine at_base fun wn hwn => ?_
  have T := Lib.hid (show Below w.heap.size w wn from by rw [hwn]; exact Below.refl _ _)
  clear hwn
  have HY := Lib.hid hb
  clear hb
  obtain ⟨g, hg⟩ : ∃ g, Array.size (World.heap wn) = g := ⟨_, rfl⟩
  have HGg := Lib.hid hg
  have hTg : w.heap.size ≤ g := by rw [← hg]; exact T.out.size
  have Tn := Lib.hid (show Below w.heap.size w ((wn.alloc (.cells #[.slice none 0 0, .slice none 0 0, .slice none 0 0] 25)).alloc (.cells #[.int .i64 (0), .int .i64 (0)] 27)) from (Below.al (Below.al T.out (.cells #[.slice none 0 0, .slice none 0 0, .slice none 0 0] 25)) (.cells #[.int .i64 (0), .int .i64 (0)] 27)))
  have Q := Lib.hid (show Bx ((wn.alloc (.cells #[.slice none 0 0, .slice none 0 0, .slice none 0 0] 25)).alloc (.cells #[.int .i64 (0), .int .i64 (0)] 27)) g (.slice none 0 0) (.slice none 0 0) (.slice none 0 0) from by have h9 := (Bx.al (Bx.new wn (.slice none 0 0) (.slice none 0 0) (.slice none 0 0) 25) (.cells #[.int .i64 (0), .int .i64 (0)] 27)); simp only [World.size_alloc, hg, Nat.add_assoc, Nat.reduceAdd] at h9; exact h9)
  have M := Lib.hid (show Box ((wn.alloc (.cells #[.slice none 0 0, .slice none 0 0, .slice none 0 0] 25)).alloc (.cells #[.int .i64 (0), .int .i64 (0)] 27)) (g + 1) (0) (0) from by have h9 := (Box.new (wn.alloc (.cells #[.slice none 0 0, .slice none 0 0, .slice none 0 0] 25)) (0) (0) 27); simp only [World.size_alloc, hg, Nat.add_assoc, Nat.reduceAdd] at h9; exact h9)
  have HZg := Lib.hid (show (((wn.alloc (.cells #[.slice none 0 0, .slice none 0 0, .slice none 0 0] 25)).alloc (.cells #[.int .i64 (0), .int .i64 (0)] 27))).heap.size = g + 2 from by simp only [World.size_alloc, hg, Nat.add_assoc, Nat.reduceAdd])
  clear hg
  clear T
  have T := Tn
  clear Tn
  go_enter Try.func20, Try.ntmps20
  go_wp2_with fail
  rw [HGg.out]
  refine (open_c a n cap _ (HY.out.below T.out) hn hcap).mono ?_
  rintro e w1 ⟨r, hr0, rfl, hr, hB⟩
  have hgr : g + 1 < r := by have := Box.lt M.out; omega
  have R1 := Lib.hid hr
  have T1 := Lib.hid (below_next T.out hB)
  have Q1 := Lib.hid (Bx.below Q.out hB)
  have M1 := Lib.hid (Box.below M.out hB)
  clear hr hB hr0 T Q M
  go_wp2_with fail
  refine Calls.mono (l20Called_c r 0 _ R1.out (by omega)) ?_
  rintro e w2 ⟨a1, n1, k1, a2, n2, k2, a3, n3, k3, x, f, d, rfl, ⟨P1, P2, P3⟩, hl, hfd, hf⟩
  have hw1 : r < w1.heap.size := Rd.lt R1.out
  have T2 := Lib.hid (show Below w.heap.size w w2 from Fr.below T1.out hf (by omega))
  have Q2 := Lib.hid (Bx.gr Q1.out hf (by omega))
  have M2 := Lib.hid (Box.fr M1.out hf (by omega))
  have hs := Bx.set3 Q2.out (.slice a1 n1 k1) (.slice a2 n2 k2) (.slice a3 n3 k3)
  have ho := Out.trans (hs.2.wide (hi' := g + 2) (Nat.le_refl _) (by omega)) (Out.trans (Out.set (w := _) (q := g + 1) (i := 0) (lo := g) (hi := g + 2) (.int .i64 f) (by omega) (by omega)) (Out.set (w := _) (q := g + 1) (i := 1) (lo := g) (hi := g + 2) (.int .i64 d) (by omega) (by omega)))
  have E1 := OwnB.outs P1 ho (fun q hq => by have := (P1.lt q hq).1; omega)
  have E2 := OwnB.outs P2 ho (fun q hq => by have := (P2.lt q hq).1; omega)
  have E3 := OwnB.outs P3 ho (fun q hq => by have := (P3.lt q hq).1; omega)
  have N := Lib.hid (Out.below T2.out ho (by omega))
  have CC := Lib.hid (show Cal _ a1 n1 a2 n2 a3 n3 x from ⟨OwnB.cal E1, OwnB.cal E2, OwnB.cal E3⟩)
  have Q5 := Bx.pfar (c := g + 1) (j := 0) (v := .int .i64 f) hs.1 (by omega)
  have Q6 := Bx.pfar (c := g + 1) (j := 1) (v := .int .i64 d) Q5 (by omega)
  have M5 := Box.out M2.out hs.2 (.inr (by omega))
  have M6 := Box.set1 d (Box.set0 f M5)
  obtain ⟨⟨z0, z1, z2⟩, zf⟩ := Q2.out
  have zf0 := zf 0
  have zf1 := zf 1
  have zf2 := zf 2
  obtain ⟨⟨y0, y1⟩, yf0, yf1⟩ := M5
  obtain ⟨⟨c0, c1, c2⟩, -⟩ := Q6
  obtain ⟨⟨d0, d1⟩, -, -⟩ := M6
  clear zf hs ho P1 P2 P3 E1 E2 E3 hf R1 T1 Q1 M1 Q2 M2 T2 Q5
  go_wp2_with fail
  exact bodyPost_ret (v := .tuple #[(.agg #[.slice a1 n1 k1, .slice a2 n2 k2, .slice a3 n3 k3]), (Value.agg #[.int .i64 (f), .int .i64 (d)])]) (by simp [results, Try.results20, go_sem, c0, c1, c2, d0, d1]) rfl ⟨a1, n1, k1, a2, n2, k2, a3, n3, k3, x, f, d, rfl, CC.out, hl, hfd, N.out⟩

end Go.Proofs.Ytkpginkkfobblaa
