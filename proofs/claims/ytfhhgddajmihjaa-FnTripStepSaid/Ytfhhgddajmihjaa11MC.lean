/- The draw l20Trip. -/
import Derived.Test.Ytfhhgddajmihjaa11MA
import Derived.Test.Ytfhhgddajmihjaa9U
namespace Go.Proofs.Ytfhhgddajmihjaa
open Go.RowKit
set_option linter.unusedVariables false
set_option linter.unusedSimpArgs false
set_option maxRecDepth 100000

set_option maxHeartbeats 2000000 in
theorem l20Stop_g (g c n : Nat) (m : Int) (w : World) (hr : Rd w g c) (hc : c ≤ 900000) (h1 : 1 ≤ n) (h8 : n ≤ 50) (hm0 : 0 ≤ m) (hm : m ≤ 100) :
    Calls Try.prog 77 #[.pointer (some ⟨g, 0, none⟩), .int .i64 n, .int .i64 m] w (DrawnP w g c) := by
  have hgl := hr.lt
  obtain ⟨B, hBB⟩ : ∃ B, w.heap.size = B := ⟨_, rfl⟩
  have HB := Lib.hid hBB
  have R := Lib.hid (Rd.alloc hr (.cells #[.int .i64 0, .int .i64 0] 24))
  have F := Lib.hid (Fr.alloc (Fr.refl w g) (.cells #[.int .i64 0, .int .i64 0] 24))
  have Q := Lib.hid (show Box (w.alloc (.cells #[.int .i64 0, .int .i64 0] 24)) B 0 0 from by rw [← hBB]; exact Box.new w 0 0 24)
  rw [hBB] at hgl
  have hBg : B ≠ g := by omega
  clear hr hBB
  have hni : (1 : Int) ≤ n := by omega
  have hnb : (n : Int) ≤ 50 := by omega
  go_enter Try.func77, Try.ntmps77
  go_wp2_with fail
  rw [HB.out]
  obtain ⟨wn, hwn⟩ : ∃ wn, w.alloc (.cells #[.int .i64 0, .int .i64 0] 24) = wn := ⟨_, rfl⟩
  rw [hwn] at R F Q
  rw [hwn]
  clear hwn
  refine (pick_c g c (n : Int) _ R.out (by omega) (by omega)).mono ?_
  rintro e w1 ⟨p, rfl, p0, p1, v2, v3, v4⟩
  have hp : p ≤ 49 := by omega
  have R1 := Lib.hid v2
  have F1 := Lib.hid (show Fr w g w1 from Fr.trans F.out v3)
  have Q1 := Lib.hid (Box.fr Q.out v3 hBg)
  clear v2 v3 v4 p1 R F Q wn
  have R := R1
  have F := F1
  have Q := Q1
  clear R1 F1 Q1
  obtain ⟨wn, hwq⟩ : ∃ w0, w0 = w1 := ⟨_, rfl⟩
  subst hwq
  go_wp2_with fail
  refine (pick_c g _ (2) _ R.out (by omega) (by omega)).mono ?_
  rintro e wn ⟨q, rfl, hq0, p1, v2, v3, v4⟩
  have hq : q ≤ 1 := by omega
  skip
  have Rn : Hid _ := v2
  have Fn : Hid (Fr w g _) := Fr.trans F.out v3
  have Qn : Hid _ := Box.fr Q.out v3 hBg
  clear v3 v2 v4 p1
  clear R F Q
  have R := Rn
  have F := Fn
  have Q := Qn
  clear Rn Fn Qn
  have hglG := Rd.lt R.out
  have hltQG := Box.lt Q.out
  obtain ⟨G, hG⟩ : ∃ G, Array.size (World.heap wn) = G := ⟨_, rfl⟩
  have HG : Hid _ := hG
  rw [hG] at hglG hltQG
  have M : Hid (Box (wn.alloc (.cells #[.int .i64 p, .int .i64 (2 * q - 1)] 24)) G p (2 * q - 1)) := by rw [← hG]; exact Box.new wn p (2 * q - 1) 24
  have hGg : G ≠ g := by omega
  clear hG
  have Rn : Hid _ := Rd.alloc R.out (.cells #[.int .i64 p, .int .i64 (2 * q - 1)] 24)
  have Fn : Hid (Fr w g _) := Fr.alloc F.out (.cells #[.int .i64 p, .int .i64 (2 * q - 1)] 24)
  have Qn : Hid _ := Box.al Q.out (.cells #[.int .i64 p, .int .i64 (2 * q - 1)] 24)
  clear R F Q
  have R := Rn
  have F := Fn
  have Q := Qn
  clear Rn Fn Qn
  go_wp2_with fail
  rw [HG.out]
  refine (odd_g g _ (m) _ R.out (by omega) (by omega) (by omega)).mono ?_
  rintro e wn ⟨b, jb, rfl, hjb, v2, v3, v4⟩
  skip
  have Rn : Hid _ := v2
  have Fn : Hid (Fr w g _) := Fr.trans F.out v3
  have Qn : Hid _ := Box.fr Q.out v3 hBg
  have Mn : Hid _ := Box.fr M.out v3 hGg
  clear v3 v2 v4
  clear R F Q M
  have R := Rn
  have F := Fn
  have Q := Qn
  have M := Mn
  clear Rn Fn Qn Mn
  cases b
  · skip
    obtain ⟨⟨d0, d1⟩, d2, d3⟩ := M.out
    obtain ⟨⟨c0, c1⟩, f0, f1⟩ := Q.out
    go_wp2_with fail
    exact bodyPost_ret (v := (Value.agg #[.int .i64 (p), .int .i64 (2 * q - 1)])) (by simp [results, Try.results77, go_sem, c0, c1]) rfl ⟨p, 2 * q - 1, _, rfl, by omega, by omega, Rd.set (Rd.set R.out _ hgl) _ hgl, by omega, Fr.set (Fr.set F.out _ (by have := HB.out; omega)) _ (by have := HB.out; omega)⟩
  go_wp2_with fail
  refine (pick_c g _ (2) _ R.out (by omega) (by omega)).mono ?_
  rintro e wn ⟨u, rfl, hu0, p1, v2, v3, v4⟩
  have hu : u ≤ 1 := by omega
  skip
  have Rn : Hid _ := v2
  have Fn : Hid (Fr w g _) := Fr.trans F.out v3
  have Qn : Hid _ := Box.fr Q.out v3 hBg
  have Mn : Hid _ := Box.fr M.out v3 hGg
  clear v3 v2 v4 p1
  clear R F Q M
  have R := Rn
  have F := Fn
  have Q := Qn
  have M := Mn
  clear Rn Fn Qn Mn
  by_cases ku : u = 0
  · have tu : (u == 0) = true := by simp [ku]
    clear ku
    have hglH := Rd.lt R.out
    have hltQH := Box.lt Q.out
    have hltMH := Box.lt M.out
    obtain ⟨H, hH⟩ : ∃ H, Array.size (World.heap wn) = H := ⟨_, rfl⟩
    have HH : Hid _ := hH
    rw [hH] at hglH hltQH hltMH
    have N : Hid (Box (wn.alloc (.cells #[.int .i64 (-1), .int .i64 (n : Int)] 3)) H (-1) n) := by rw [← hH]; exact Box.new wn (-1) n 3
    have hHg : H ≠ g := by omega
    clear hH
    have Rn : Hid _ := Rd.alloc R.out (.cells #[.int .i64 (-1), .int .i64 (n : Int)] 3)
    have Fn : Hid (Fr w g _) := Fr.alloc F.out (.cells #[.int .i64 (-1), .int .i64 (n : Int)] 3)
    have Qn : Hid _ := Box.al Q.out (.cells #[.int .i64 (-1), .int .i64 (n : Int)] 3)
    have Mn : Hid _ := Box.al M.out (.cells #[.int .i64 (-1), .int .i64 (n : Int)] 3)
    clear R F Q M
    have R := Rn
    have F := Fn
    have Q := Qn
    have M := Mn
    clear Rn Fn Qn Mn
    go_wp2_with fail
    rw [HH.out]
    refine (pick_c g _ (2) _ R.out (by omega) (by omega)).mono ?_
    rintro e wn ⟨z, rfl, hz0, p1, v2, v3, v4⟩
    have hz : z ≤ 1 := by omega
    skip
    have Rn : Hid _ := v2
    have Fn : Hid (Fr w g _) := Fr.trans F.out v3
    have Qn : Hid _ := Box.fr Q.out v3 hBg
    have Mn : Hid _ := Box.fr M.out v3 hGg
    have Nn : Hid _ := Box.fr N.out v3 hHg
    clear v3 v2 v4 p1
    clear R F Q M N
    have R := Rn
    have F := Fn
    have Q := Qn
    have M := Mn
    have N := Nn
    clear Rn Fn Qn Mn Nn
    have hz2 : z < 2 := by omega
    obtain ⟨y, hy⟩ : ∃ y, two9 (-1) n z = y := ⟨_, rfl⟩
    have n0 := box_two9 N.out hz0 hz2
    rw [hy] at n0
    have hyb : -1 ≤ y ∧ y ≤ 50 := by rw [← hy]; unfold two9; split <;> omega
    clear hy
    have M1 := Box.set0 y M.out
    have Q1 := Box.far (c := G) (j := 0) (v := .int .i64 y) Q.out (by omega)
    obtain ⟨⟨c0, c1⟩, cf0, cf1⟩ := M.out
    obtain ⟨⟨d0, d1⟩, d2, d3⟩ := M1
    obtain ⟨⟨e0, e1⟩, f0, f1⟩ := Q1
    go_wp2_with fail
    clear c0 c1 d0 d1
    have c0 := e0
    have c1 := e1
    exact bodyPost_ret (v := (Value.agg #[.int .i64 (y), .int .i64 (2 * q - 1)])) (by simp [results, Try.results77, go_sem, c0, c1]) rfl ⟨y, 2 * q - 1, _, rfl, by omega, by omega, Rd.set (Rd.set (Rd.set R.out _ (by omega)) _ hgl) _ hgl, by omega, Fr.set (Fr.set (Fr.set F.out _ (by have := HB.out; omega)) _ (by have := HB.out; omega)) _ (by have := HB.out; omega)⟩
  · have tu : (u == 0) = false := by simp [ku]
    clear ku
    have hglH := Rd.lt R.out
    have hltQH := Box.lt Q.out
    have hltMH := Box.lt M.out
    obtain ⟨H, hH⟩ : ∃ H, Array.size (World.heap wn) = H := ⟨_, rfl⟩
    have HH : Hid _ := hH
    rw [hH] at hglH hltQH hltMH
    have N : Hid (Box (wn.alloc (.cells #[.int .i64 0, .int .i64 2] 3)) H 0 2) := by rw [← hH]; exact Box.new wn 0 2 3
    have hHg : H ≠ g := by omega
    clear hH
    have Rn : Hid _ := Rd.alloc R.out (.cells #[.int .i64 0, .int .i64 2] 3)
    have Fn : Hid (Fr w g _) := Fr.alloc F.out (.cells #[.int .i64 0, .int .i64 2] 3)
    have Qn : Hid _ := Box.al Q.out (.cells #[.int .i64 0, .int .i64 2] 3)
    have Mn : Hid _ := Box.al M.out (.cells #[.int .i64 0, .int .i64 2] 3)
    clear R F Q M
    have R := Rn
    have F := Fn
    have Q := Qn
    have M := Mn
    clear Rn Fn Qn Mn
    go_wp2_with fail
    rw [HH.out]
    refine (pick_c g _ (2) _ R.out (by omega) (by omega)).mono ?_
    rintro e wn ⟨z, rfl, hz0, p1, v2, v3, v4⟩
    have hz : z ≤ 1 := by omega
    skip
    have Rn : Hid _ := v2
    have Fn : Hid (Fr w g _) := Fr.trans F.out v3
    have Qn : Hid _ := Box.fr Q.out v3 hBg
    have Mn : Hid _ := Box.fr M.out v3 hGg
    have Nn : Hid _ := Box.fr N.out v3 hHg
    clear v3 v2 v4 p1
    clear R F Q M N
    have R := Rn
    have F := Fn
    have Q := Qn
    have M := Mn
    have N := Nn
    clear Rn Fn Qn Mn Nn
    have hz2 : z < 2 := by omega
    obtain ⟨y, hy⟩ : ∃ y, two9 0 2 z = y := ⟨_, rfl⟩
    have n0 := box_two9 N.out hz0 hz2
    rw [hy] at n0
    have hyb : 0 ≤ y ∧ y ≤ 2 := by rw [← hy]; unfold two9; split <;> omega
    clear hy
    have M1 := Box.set1 y M.out
    have Q1 := Box.far (c := G) (j := 1) (v := .int .i64 y) Q.out (by omega)
    obtain ⟨⟨c0, c1⟩, cf0, cf1⟩ := M.out
    obtain ⟨⟨d0, d1⟩, d2, d3⟩ := M1
    obtain ⟨⟨e0, e1⟩, f0, f1⟩ := Q1
    go_wp2_with fail
    clear c0 c1 d0 d1
    have c0 := e0
    have c1 := e1
    exact bodyPost_ret (v := (Value.agg #[.int .i64 (p), .int .i64 (y)])) (by simp [results, Try.results77, go_sem, c0, c1]) rfl ⟨p, y, _, rfl, by omega, by omega, Rd.set (Rd.set (Rd.set R.out _ (by omega)) _ hgl) _ hgl, by omega, Fr.set (Fr.set (Fr.set F.out _ (by have := HB.out; omega)) _ (by have := HB.out; omega)) _ (by have := HB.out; omega)⟩
theorem OwnR.kept {E : TypeId} {k : Nat} {w w' : World} {B g : Nat} {v : Value} {n : Nat} {xs : List Int} (h : OwnR E k w B v n xs) (hg : w.grownBy w' (some g)) (hB : g < B) : OwnR E k w' B v n xs :=
  h.block fun q hq => hg.block q (h.lt q hq).2 (fun e => by have := (h.lt q hq).1; injection e with e; omega)
/-- A drawn trip. -/
def DrawnTP (w : World) (g : Nat) (e : Ending) (w' : World) : Prop := ∃ (n m f d : Int) (a : Option Addr) (k c : Nat) (l : List Ri), e = .returned (.agg #[.int .i64 n, .int .i64 m, .int .i64 f, .int .i64 d, .slice a k c]) ∧ OwnR 32 3 w' w.heap.size (.slice a k c) k (rfl3 l) ∧ k ≤ 9 ∧ Fr w g w'
theorem drawnT_end {w0 w : World} {g HT B : Nat} {n m f d : Int} {av : Option Addr} {k cv : Nat} {l : List Ri} (hO : OwnR 32 3 w (HT + 1) (.slice av k cv) k (rfl3 l)) (hk : k ≤ 9) (hF : Fr w0 g w) (hB : w0.heap.size ≤ B) (hH : B < HT) :
    DrawnTP w0 g (.returned (.agg #[.int .i64 n, .int .i64 m, .int .i64 f, .int .i64 d, .slice av k cv])) (set5 w B n m f d (.slice av k cv)) := by
  have hv : ∀ q, (Value.slice av k cv).ownBlock = some q → q ≠ B := fun q hq => by have := (hO.lt q hq).1; omega
  refine ⟨n, m, f, d, av, k, cv, l, rfl, ?_, hk, ?_⟩
  · unfold set5
    exact OwnR.mono (OwnR.pfar (OwnR.pfar (OwnR.pfar (OwnR.pfar (OwnR.pfar hO hv) hv) hv) hv) hv) (by omega)
  · unfold set5
    exact Fr.set (Fr.set (Fr.set (Fr.set (Fr.set hF _ hB) _ hB) _ hB) _ hB) _ hB
theorem stB_len {t : Tp} (h : stB t = true) : (stT t).rs.length ≤ 8 := by
  by_cases g : TOk t
  · exact (stT_ok g).2.2.2.2.1
  · rw [(stT_f g).2] at h; cases h
/-- append of one rider onto riders of the call's own. -/
theorem run_append_rider {w : World} {ty0 : TypeId} {B H : Nat} {n : Nat} {l : List Ri} {x y s : Int} {v : Value} (hown : OwnR 32 3 w B v n (rfl3 l)) (hc : Ints w H 0 [x, y, s]) (hn : n ≤ 100) (hB : B ≤ w.heap.size) :
    ∃ v' w', (Builtin.append_ #[25, 25] ty0 #[v, .slice (some ⟨H, 0, none⟩) 1 1]).run Try.prog w = .ok v' w' ∧ OwnR 32 3 w' B v' (n + 1) (rfl3 (l ++ [⟨x, y, s⟩])) ∧ w.grownBy w' v.ownBlock := by
  obtain ⟨i0, hi, hz0, hz1, hz2⟩ := info_rider
  obtain ⟨v', w', hrun, r1, r2, r3, _⟩ := run_append_own_at (P := Try.prog) w B 25 ty0 32 i0 (.agg #[.int .i64 0, .int .i64 0, .int .i64 0]) 3 24 Try.underlying25 hi hz0 hz1 hz2 rfl (by decide) v n ((rfl3 l).map (Value.int .i64)) hown ⟨H, 0, none⟩ 1 1 ([x, y, s].map (Value.int .i64)) rfl (fun j u hu => Ints.cells hc j u hu) (fun u hu => by simp at hu; rcases hu with rfl | rfl | rfl <;> rfl) (by unfold maxLen; omega) (by omega) hB
  refine ⟨v', w', hrun, ?_, r2⟩
  unfold OwnR
  rw [rfl3_app]
  simpa [rfl3] using r1
def E19 (g : Nat) (v : Value) (w : World) : Prop := ∃ (H : Nat) (x y s : Int), v = .slice (some ⟨H, 0, none⟩) 1 1 ∧ H ≠ g ∧ Ints w H 0 [x, y, s]
def E20 (B k : Nat) (v : Value) (w : World) : Prop := ∃ l' : List Ri, l'.length = k + 1 ∧ OwnR 32 3 w B v (k + 1) (rfl3 l')
theorem E19.fr {g : Nat} {v : Value} {w w' : World} (h : E19 g v w) (hf : Fr w g w') : E19 g v w' := by
  obtain ⟨H, x, y, s, e, hne, hi⟩ := h
  exact ⟨H, x, y, s, e, hne, Ints.fr hi hf hne⟩
theorem E19.below {g : Nat} {v : Value} {w w' : World} (h : E19 g v w) (hb : Below w.heap.size w w') : E19 g v w' := by
  obtain ⟨H, x, y, s, e, hne, hi⟩ := h
  exact ⟨H, x, y, s, e, hne, Ints.below hi hb⟩
theorem E20.fr {g B k : Nat} {v : Value} {w w' : World} (h : E20 B k v w) (hf : Fr w g w') (hg : g < B) : E20 B k v w' := by
  obtain ⟨l', e, hO⟩ := h
  exact ⟨l', e, hO.kept hf hg⟩
theorem E20.below {B k : Nat} {v : Value} {w w' : World} (h : E20 B k v w) (hb : Below w.heap.size w w') : E20 B k v w' := by
  obtain ⟨l', e, hO⟩ := h
  exact ⟨l', e, hO.below hb⟩
theorem E20.block {B k : Nat} {v : Value} {w w' : World} (h : E20 B k v w) (hb : ∀ q, B ≤ q → q < w.heap.size → w'.heap[q]? = w.heap[q]?) : E20 B k v w' := by
  obtain ⟨l', e, hO⟩ := h
  exact ⟨l', e, hO.block fun q hq => hb q (hO.lt q hq).1 (hO.lt q hq).2⟩
/-- The region that appends a drawn rider. -/
structure RG (W : World) (g c HT B G4 : Nat) (a n m f d : Int) (v0 : Value) (k : Nat) (l : List Ri) (ln : Nat → Bool) (vs : Nat → Value) (w : World) : Prop where
  rd : ∃ cc, cc ≤ c + (ln 9).toNat + (ln 15).toNat ∧ Rd w g cc
  fr : Fr W g w
  sz : B ≤ w.heap.size
  s0 : vs 0 = .pointer (some ⟨g, 0, none⟩)
  s5 : vs 5 = .pointer (some ⟨HT, 0, none⟩)
  s7 : vs 7 = .int .i64 a
  e0 : ln 0 = true → vs 34 = .pointer (some ⟨HT, 4, none⟩)
  e1 : ln 1 = true → vs 35 = v0
  e2 : ln 2 = true → vs 36 = .int .i64 a
  e3 : ln 3 = true → vs 37 = .int .i64 a
  e4 : ln 4 = true → ∃ z, vs 38 = .int .i64 z
  e5 : ln 5 = true → vs 39 = .pointer (some ⟨g, 0, none⟩)
  e6 : ln 6 = true → vs 40 = .pointer (some ⟨HT, 0, none⟩)
  e7 : ln 7 = true → vs 41 = .int .i64 n
  e8 : ln 8 = true → vs 42 = .int .i64 (n - 1)
  e9 : ln 9 = true → ∃ z, vs 43 = .int .i64 z
  e10 : ln 10 = true → ∃ z, vs 44 = .int .i64 z
  e11 : ln 11 = true → vs 45 = .pointer (some ⟨HT, 0, none⟩)
  e12 : ln 12 = true → vs 46 = .int .i64 n
  e13 : ln 13 = true → ∃ z, vs 47 = .int .i64 z
  e14 : ln 14 = true → vs 48 = .pointer (some ⟨g, 0, none⟩)
  e15 : ln 15 = true → ∃ z, vs 49 = .int .i64 z
  e16 : ln 16 = true → ∃ z, vs 50 = .int .i64 z
  e17 : ln 17 = true → ∃ z, vs 51 = .int .i64 z
  e18 : ln 18 = true → ∃ x y s : Int, vs 52 = .agg #[.int .i64 x, .int .i64 y, .int .i64 s]
  e19 : ln 19 = true → ln 20 = false → E19 g (vs 53) w
  e20 : ln 20 = true → E20 B k (vs 54) w
  o0 : ln 20 = false → OwnR 32 3 w B v0 k (rfl3 l)
  e21 : ln 21 = true → vs 55 = .pointer (some ⟨HT, 4, none⟩)
  b0 : ln 22 = false → BoxV w HT [.int .i64 n, .int .i64 m, .int .i64 f, .int .i64 d, v0]
  b1 : ln 22 = true → ∃ v', BoxV w HT [.int .i64 n, .int .i64 m, .int .i64 f, .int .i64 d, v'] ∧ E20 B k v' w
  c22 : ln 22 = true → ln 1 = true ∧ ln 7 = true ∧ ln 12 = true
  c20 : ln 22 = true → ln 20 = true
  rr : BoxV w G4 [.int .i64 0, .int .i64 0, .int .i64 0, .int .i64 0, .slice none 0 0]
set_option maxRecDepth 100000 in
set_option maxHeartbeats 16000000 in
theorem l20Trip_c (g c : Nat) (m0 : Int) (w : World) (hr : Rd w g c) (hc : c ≤ 100) (hm0 : 0 < m0) (hm1 : m0 ≤ 100) :
    Calls Try.prog 42 #[.pointer (some ⟨g, 0, none⟩), .int .i64 m0] w (DrawnTP w g) := by
  have hgl := hr.lt
  obtain ⟨B, hBB⟩ : ∃ B, w.heap.size = B := ⟨_, rfl⟩
  have HB := Lib.hid hBB
  have hwB : w.heap.size ≤ B := by omega
  have R := Lib.hid (Rd.alloc hr (.cells #[.int .i64 0, .int .i64 0, .int .i64 0, .int .i64 0, .slice none 0 0] 27))
  have F := Lib.hid (Fr.alloc (Fr.refl w g) (.cells #[.int .i64 0, .int .i64 0, .int .i64 0, .int .i64 0, .slice none 0 0] 27))
  have RR := Lib.hid (BoxV.new w [.int .i64 0, .int .i64 0, .int .i64 0, .int .i64 0, .slice none 0 0] 27 (by simp) hBB)
  rw [hBB] at hgl
  have hBg : B ≠ g := by omega
  clear hr hBB
  go_enter Try.func42, Try.ntmps42
  go_wp2_with fail
  rw [HB.out]
  obtain ⟨wn, hwn⟩ : ∃ wn, w.alloc (.cells #[.int .i64 0, .int .i64 0, .int .i64 0, .int .i64 0, .slice none 0 0] 27) = wn := ⟨_, rfl⟩
  have RR2 := Lib.hid (show BoxV wn B [.int .i64 0, .int .i64 0, .int .i64 0, .int .i64 0, .slice none 0 0] from by rw [← hwn]; exact RR.out)
  rw [hwn] at R F
  rw [hwn]
  clear hwn RR
  have RR := RR2
  clear RR2
  refine (pick_c g c 7 _ R.out (by omega) (by omega)).mono ?_
  rintro e w1 ⟨p, rfl, p0, p1, v2, v3, v4⟩
  obtain ⟨N, hN⟩ : ∃ N : Nat, 2 + p = N := ⟨(2 + p).toNat, by omega⟩
  have hN2 : 2 ≤ N := by omega
  have hN8 : N ≤ 8 := by omega
  have R1 := Lib.hid v2
  have F1 := Lib.hid (show Fr w g w1 from Fr.trans F.out v3)
  have Q1 := Lib.hid (BoxV.fr RR.out v3 hBg)
  clear v2 v3 v4 p1 R F RR wn
  have R := R1
  have F := F1
  have RR := Q1
  clear R1 F1 Q1
  obtain ⟨wn, hwq⟩ : ∃ w0, w0 = w1 := ⟨_, rfl⟩
  subst hwq
  go_wp2_with fail
  refine (pick_c g _ (4) _ R.out (by omega) (by omega)).mono ?_
  rintro e wn ⟨q, rfl, hq0, p1, v2, v3, v4⟩
  have hq : q ≤ 3 := by omega
  skip
  have Rn : Hid _ := v2
  have Fn : Hid (Fr w g _) := Fr.trans F.out v3
  have RRn : Hid _ := BoxV.fr RR.out v3 hBg
  clear v3 v2 v4 p1
  clear R F RR
  have R := Rn
  have F := Fn
  have RR := RRn
  clear Rn Fn RRn
  obtain ⟨m, hm⟩ : ∃ m, 1 + q = m := ⟨_, rfl⟩
  have hglHT := Rd.lt R.out
  have hltRRHT := BoxV.lt RR.out
  obtain ⟨HT, hHT⟩ : ∃ HT, Array.size (World.heap wn) = HT := ⟨_, rfl⟩
  have HHT : Hid _ := hHT
  rw [hHT] at hglHT hltRRHT
  have TB : Hid (BoxV (wn.alloc (.cells #[.int .i64 (N : Int), .int .i64 m, .int .i64 0, .int .i64 0, .slice none 0 0] 27)) HT [.int .i64 (N : Int), .int .i64 m, .int .i64 0, .int .i64 0, .slice none 0 0]) := by rw [← hHT]; exact BoxV.new wn _ _ (by simp) rfl
  have hHTg : HT ≠ g := by omega
  clear hHT
  have Rn : Hid _ := Rd.alloc R.out (.cells #[.int .i64 (N : Int), .int .i64 m, .int .i64 0, .int .i64 0, .slice none 0 0] 27)
  have Fn : Hid (Fr w g _) := Fr.alloc F.out (.cells #[.int .i64 (N : Int), .int .i64 m, .int .i64 0, .int .i64 0, .slice none 0 0] 27)
  have RRn : Hid _ := BoxV.al RR.out (.cells #[.int .i64 (N : Int), .int .i64 m, .int .i64 0, .int .i64 0, .slice none 0 0] 27)
  clear R F RR
  have R := Rn
  have F := Fn
  have RR := RRn
  clear Rn Fn RRn
  have x0 := (TB.out.2 0 _ rfl).1
  have x1 := (TB.out.2 1 _ rfl).1
  have x2 := (TB.out.2 2 _ rfl).1
  have x3 := (TB.out.2 3 _ rfl).1
  have x4 := (TB.out.2 4 _ rfl).1
  go_wp2_with fail
  rw [HHT.out]
  refine (l20Stop_g g _ N 0 _ R.out (by omega) (by omega) (by omega) (by omega) (by omega)).mono ?_
  rintro e wn ⟨f, d, c2, rfl, hfb, hdb, v2, hc2, v3⟩
  skip
  have Rn : Hid _ := v2
  have Fn : Hid (Fr w g _) := Fr.trans F.out v3
  have RRn : Hid _ := BoxV.fr RR.out v3 hBg
  have TBn : Hid _ := BoxV.fr TB.out v3 hHTg
  clear v3 v2 x0 x1 x2 x3 x4
  clear R F RR TB
  have R := Rn
  have F := Fn
  have RR := RRn
  have TB := TBn
  clear Rn Fn RRn TBn
  clear hm hN
  have hgT : g < HT + 1 := by omega
  have hBT : B < HT := by omega
  have ho := Out.trans (Out.set (w := wn) (q := HT) (i := 2) (lo := HT) (hi := HT + 1) (.int .i64 f) (Nat.le_refl _) (by omega)) (Out.set (w := wn.setCell ⟨HT, 2, none⟩ (.int .i64 f)) (q := HT) (i := 3) (lo := HT) (hi := HT + 1) (.int .i64 d) (Nat.le_refl _) (by omega))
  have R1 := Lib.hid (Rd.out R.out ho (by omega))
  have F1 := Lib.hid (Fr.out F.out ho (by omega))
  have RR1 := Lib.hid (BoxV.out RR.out ho (.inl hBT))
  have TB1 := Lib.hid (show BoxV _ HT [.int .i64 (N : Int), .int .i64 m, .int .i64 f, .int .i64 d, .slice none 0 0] from BoxV.set (BoxV.set TB.out 2 (.int .i64 f) (by simp)) 3 (.int .i64 d) (by simp))
  have hszT : HT + 1 ≤ wn.heap.size := BoxV.lt TB.out
  have O1 := Lib.hid (show OwnR 32 3 ((wn.setCell ⟨HT, 2, none⟩ (.int .i64 f)).setCell ⟨HT, 3, none⟩ (.int .i64 d)) (HT + 1) (.slice none 0 0) 0 (rfl3 []) from OwnR.nil _ _)
  obtain ⟨m2', m2⟩ := TB.out.2 2 _ rfl
  obtain ⟨m3', m3⟩ := TB.out.2 3 _ rfl
  go_upto_region 3 with fail
  clear ho m2 m3 m2' m3' R F RR TB hszT
  have R := R1
  have F := F1
  have RR := RR1
  have TB := TB1
  have O := O1
  clear R1 F1 RR1 TB1 O1
  generalize (wn.setCell ⟨HT, 2, none⟩ (.int .i64 f)).setCell ⟨HT, 3, none⟩ (.int .i64 d) = w0 at *
  obtain ⟨wn, hwq⟩ : ∃ w9 : World, w9 = w0 := ⟨_, rfl⟩
  subst hwq
  go_wp2_with fail
  refine (pick_c g _ (9) _ R.out (by omega) (by omega)).mono ?_
  rintro e wn ⟨k0, rfl, hk00, p1, v2, v3, v4⟩
  have hk0 : k0 ≤ 8 := by omega
  skip
  have Rn : Hid _ := v2
  have Fn : Hid (Fr w g _) := Fr.trans F.out v3
  have RRn : Hid _ := BoxV.fr RR.out v3 hBg
  have TBn : Hid _ := BoxV.fr TB.out v3 hHTg
  have On : Hid _ := OwnR.kept O.out v3 (by omega)
  clear v3 v2 v4 p1
  clear R F RR TB O
  have R := Rn
  have F := Fn
  have RR := RRn
  have TB := TBn
  have O := On
  clear Rn Fn RRn TBn On
  obtain ⟨q0, rfl⟩ : ∃ q0 : Nat, k0 = q0 := ⟨k0.toNat, by omega⟩
  go_wp2_with fail
  go_loopw [6] (fun v wr => ∃ (q c' k : Nat) (l : List Ri) (av : Option Addr) (cv : Nat), v = .int .i64 q ∧ q + k ≤ 8 ∧ c' + 3 * q ≤ c + 60 ∧ l.length = k ∧ Rd wr g c' ∧ Fr w g wr ∧ BoxV wr B [.int .i64 0, .int .i64 0, .int .i64 0, .int .i64 0, .slice none 0 0] ∧ BoxV wr HT [.int .i64 (N : Int), .int .i64 m, .int .i64 f, .int .i64 d, .slice av k cv] ∧ OwnR 32 3 wr (HT + 1) (.slice av k cv) k (rfl3 l)) (fun v _ => (intOf v).toNat)
  case atStart => exact ⟨q0, _, 0, [], none, 0, rfl, by omega, by omega, rfl, R.out, F.out, RR.out, TB.out, O.out⟩
  case round =>
    clear R F RR TB O
    obtain ⟨q, c', k, l, av, cv, rfl, hqk, hcq, hll, hR, hF, hRR, hTB, hO⟩ := hrel
    obtain ⟨wn, hwq⟩ : ∃ w0 : World, w0 = wr := ⟨_, rfl⟩
    rw [← hwq] at hR hF hRR hTB hO ⊢
    clear hwq
    have R := Lib.hid hR
    have F := Lib.hid hF
    have RR := Lib.hid hRR
    have TB := Lib.hid hTB
    have O := Lib.hid hO
    have HLL := Lib.hid hll
    clear hR hF hRR hTB hO hll
    by_cases hq0 : 0 < q
    case pos =>
      have hq0i : 0 < (q : Int) := by omega
      have x0 := (TB.out.2 0 _ rfl).1
      have x1 := (TB.out.2 1 _ rfl).1
      have x2 := (TB.out.2 2 _ rfl).1
      have x3 := (TB.out.2 3 _ rfl).1
      have x4 := (TB.out.2 4 _ rfl).1
      go_wp2_with fail
      refine (pick_c g _ ((N : Int)) _ R.out (by omega) (by omega)).mono ?_
      rintro e wn ⟨fr, rfl, hfr0, p1, v2, v3, v4⟩
      have hfr : fr < (N : Int) ∨ fr = 0 := p1
      skip
      have Rn : Hid _ := v2
      have Fn : Hid (Fr w g _) := Fr.trans F.out v3
      have RRn : Hid _ := BoxV.fr RR.out v3 hBg
      have TBn : Hid _ := BoxV.fr TB.out v3 hHTg
      have On : Hid _ := OwnR.kept O.out v3 (by omega)
      clear v3 v2 v4 p1 x0 x1 x2 x3 x4
      clear R F RR TB O
      have R := Rn
      have F := Fn
      have RR := RRn
      have TB := TBn
      have O := On
      clear Rn Fn RRn TBn On
      go_wp2_with fail
      have hsz7 : HT + 1 ≤ (World.drew wn).heap.size := BoxV.lt (BoxV.dw TB.out)
      have hNz : ((N : Int) == 0) = false := beq_false_of_ne (by omega)
      have hNn : (N : Int) ≠ 0 := by omega

      refine wp_region_inv (fun ln vs wx => RG w g (c' + 1) HT (HT + 1) B fr N m f d (.slice av k cv) k l ln vs wx) [34, 35, 36, 37, 38, 39, 40, 41, 42, 43, 44, 45, 46, 47, 48, 49, 50, 51, 52, 53, 54, 55]
        (by kernel_rfl) (by kernel_rfl) (by kernel_rfl) (by kernel_rfl) ?h07 ?hobs7 ?_
      case h07 => exact { rd := ⟨c' + 1, by simp, R.out⟩, fr := ⟨F.out.os, F.out.tape, F.out.output, F.out.size, F.out.block⟩, sz := hsz7, s0 := rfl, s5 := rfl, s7 := rfl, e0 := fun h => (by cases h), e1 := fun h => (by cases h), e2 := fun h => (by cases h), e3 := fun h => (by cases h), e4 := fun h => (by cases h), e5 := fun h => (by cases h), e6 := fun h => (by cases h), e7 := fun h => (by cases h), e8 := fun h => (by cases h), e9 := fun h => (by cases h), e10 := fun h => (by cases h), e11 := fun h => (by cases h), e12 := fun h => (by cases h), e13 := fun h => (by cases h), e14 := fun h => (by cases h), e15 := fun h => (by cases h), e16 := fun h => (by cases h), e17 := fun h => (by cases h), e18 := fun h => (by cases h), e19 := fun h => (by cases h), e20 := fun h => (by cases h), o0 := fun _ => O.out, e21 := fun h => (by cases h), b0 := fun _ => BoxV.dw TB.out, b1 := fun h => (by cases h), c22 := fun h => (by cases h), c20 := fun h => (by cases h), rr := BoxV.dw RR.out }
      case hobs7 =>
        refine ⟨?_, ?_, ?_, ?_, ?_, ?_, ?_, ?_, ?_, ?_, ?_, ?_, ?_, ?_, ?_, ?_, ?_, ?_, ?_, ?_, ?_, ?_, ?_, trivial⟩
        · intro ln vs wx hn ha h
          have w5 := h.s5
          have HH := Lib.hid h
          clear h ha
          go_simp
          simp only [evOf_tmp, evOf_const, w5]
          go_simp
          have h := HH.out
          exact { rd := h.rd, fr := h.fr, sz := h.sz, s0 := h.s0, s5 := h.s5, s7 := h.s7, e0 := fun _ => rfl, e1 := h.e1, e2 := h.e2, e3 := h.e3, e4 := h.e4, e5 := h.e5, e6 := h.e6, e7 := h.e7, e8 := h.e8, e9 := h.e9, e10 := h.e10, e11 := h.e11, e12 := h.e12, e13 := h.e13, e14 := h.e14, e15 := h.e15, e16 := h.e16, e17 := h.e17, e18 := h.e18, e19 := h.e19, e20 := h.e20, o0 := h.o0, e21 := h.e21, b0 := h.b0, b1 := h.b1, c22 := h.c22, c20 := h.c20, rr := h.rr }
        · intro ln vs wx hn ha h
          have y0 : ln 0 = true := ha ⟨0, Ground.data⟩ (by simp) rfl
          have w0 := h.e0 y0
          have n22 : ln 22 = false := by
            cases e : ln 22
            · rfl
            · have := (h.c22 e); rw [hn] at this; simp at this
          have c4 := ((h.b0 n22).2 4 _ rfl).1
          have HH := Lib.hid h
          clear h ha
          go_simp
          simp only [evOf_tmp, evOf_const, w0]
          go_simp
          have h := HH.out
          exact { rd := h.rd, fr := h.fr, sz := h.sz, s0 := h.s0, s5 := h.s5, s7 := h.s7, e0 := h.e0, e1 := fun _ => rfl, e2 := h.e2, e3 := h.e3, e4 := h.e4, e5 := h.e5, e6 := h.e6, e7 := h.e7, e8 := h.e8, e9 := h.e9, e10 := h.e10, e11 := h.e11, e12 := h.e12, e13 := h.e13, e14 := h.e14, e15 := h.e15, e16 := h.e16, e17 := h.e17, e18 := h.e18, e19 := h.e19, e20 := h.e20, o0 := h.o0, e21 := h.e21, b0 := h.b0, b1 := h.b1, c22 := fun h9 => ⟨rfl, (h.c22 h9).2⟩, c20 := h.c20, rr := h.rr }
        · intro ln vs wx hn ha h
          have w7 := h.s7
          have HH := Lib.hid h
          clear h ha
          go_simp
          simp only [evOf_tmp, evOf_const, w7]
          go_simp
          have h := HH.out
          exact { rd := h.rd, fr := h.fr, sz := h.sz, s0 := h.s0, s5 := h.s5, s7 := h.s7, e0 := h.e0, e1 := h.e1, e2 := fun _ => rfl, e3 := h.e3, e4 := h.e4, e5 := h.e5, e6 := h.e6, e7 := h.e7, e8 := h.e8, e9 := h.e9, e10 := h.e10, e11 := h.e11, e12 := h.e12, e13 := h.e13, e14 := h.e14, e15 := h.e15, e16 := h.e16, e17 := h.e17, e18 := h.e18, e19 := h.e19, e20 := h.e20, o0 := h.o0, e21 := h.e21, b0 := h.b0, b1 := h.b1, c22 := h.c22, c20 := h.c20, rr := h.rr }
        · intro ln vs wx hn ha h
          have w7 := h.s7
          have HH := Lib.hid h
          clear h ha
          go_simp
          simp only [evOf_tmp, evOf_const, w7]
          go_simp
          have h := HH.out
          exact { rd := h.rd, fr := h.fr, sz := h.sz, s0 := h.s0, s5 := h.s5, s7 := h.s7, e0 := h.e0, e1 := h.e1, e2 := h.e2, e3 := fun _ => rfl, e4 := h.e4, e5 := h.e5, e6 := h.e6, e7 := h.e7, e8 := h.e8, e9 := h.e9, e10 := h.e10, e11 := h.e11, e12 := h.e12, e13 := h.e13, e14 := h.e14, e15 := h.e15, e16 := h.e16, e17 := h.e17, e18 := h.e18, e19 := h.e19, e20 := h.e20, o0 := h.o0, e21 := h.e21, b0 := h.b0, b1 := h.b1, c22 := h.c22, c20 := h.c20, rr := h.rr }
        · intro ln vs wx hn ha h
          have y3 : ln 3 = true := ha ⟨3, Ground.data⟩ (by simp) rfl
          have w3 := h.e3 y3
          have HH := Lib.hid h
          clear h ha
          go_simp
          simp only [evOf_tmp, evOf_const, w3]
          go_simp
          have h := HH.out
          exact { rd := h.rd, fr := h.fr, sz := h.sz, s0 := h.s0, s5 := h.s5, s7 := h.s7, e0 := h.e0, e1 := h.e1, e2 := h.e2, e3 := h.e3, e4 := fun _ => ⟨_, rfl⟩, e5 := h.e5, e6 := h.e6, e7 := h.e7, e8 := h.e8, e9 := h.e9, e10 := h.e10, e11 := h.e11, e12 := h.e12, e13 := h.e13, e14 := h.e14, e15 := h.e15, e16 := h.e16, e17 := h.e17, e18 := h.e18, e19 := h.e19, e20 := h.e20, o0 := h.o0, e21 := h.e21, b0 := h.b0, b1 := h.b1, c22 := h.c22, c20 := h.c20, rr := h.rr }
        · intro ln vs wx hn ha h
          have HH := Lib.hid h
          clear h ha
          go_simp
          simp only [evOf_tmp, evOf_const]
          go_simp
          have h := HH.out
          exact { rd := h.rd, fr := h.fr, sz := h.sz, s0 := h.s0, s5 := h.s5, s7 := h.s7, e0 := h.e0, e1 := h.e1, e2 := h.e2, e3 := h.e3, e4 := h.e4, e5 := fun _ => HH.out.s0, e6 := h.e6, e7 := h.e7, e8 := h.e8, e9 := h.e9, e10 := h.e10, e11 := h.e11, e12 := h.e12, e13 := h.e13, e14 := h.e14, e15 := h.e15, e16 := h.e16, e17 := h.e17, e18 := h.e18, e19 := h.e19, e20 := h.e20, o0 := h.o0, e21 := h.e21, b0 := h.b0, b1 := h.b1, c22 := h.c22, c20 := h.c20, rr := h.rr }
        · intro ln vs wx hn ha h
          have w5 := h.s5
          have HH := Lib.hid h
          clear h ha
          go_simp
          simp only [evOf_tmp, evOf_const, w5]
          go_simp
          have h := HH.out
          exact { rd := h.rd, fr := h.fr, sz := h.sz, s0 := h.s0, s5 := h.s5, s7 := h.s7, e0 := h.e0, e1 := h.e1, e2 := h.e2, e3 := h.e3, e4 := h.e4, e5 := h.e5, e6 := fun _ => rfl, e7 := h.e7, e8 := h.e8, e9 := h.e9, e10 := h.e10, e11 := h.e11, e12 := h.e12, e13 := h.e13, e14 := h.e14, e15 := h.e15, e16 := h.e16, e17 := h.e17, e18 := h.e18, e19 := h.e19, e20 := h.e20, o0 := h.o0, e21 := h.e21, b0 := h.b0, b1 := h.b1, c22 := h.c22, c20 := h.c20, rr := h.rr }
        · intro ln vs wx hn ha h
          have y6 : ln 6 = true := ha ⟨6, Ground.data⟩ (by simp) rfl
          have w6 := h.e6 y6
          have n22 : ln 22 = false := by
            cases e : ln 22
            · rfl
            · have := (h.c22 e); rw [hn] at this; simp at this
          have c0 := ((h.b0 n22).2 0 _ rfl).1
          have HH := Lib.hid h
          clear h ha
          go_simp
          simp only [evOf_tmp, evOf_const, w6]
          go_simp
          have h := HH.out
          exact { rd := h.rd, fr := h.fr, sz := h.sz, s0 := h.s0, s5 := h.s5, s7 := h.s7, e0 := h.e0, e1 := h.e1, e2 := h.e2, e3 := h.e3, e4 := h.e4, e5 := h.e5, e6 := h.e6, e7 := fun _ => rfl, e8 := h.e8, e9 := h.e9, e10 := h.e10, e11 := h.e11, e12 := h.e12, e13 := h.e13, e14 := h.e14, e15 := h.e15, e16 := h.e16, e17 := h.e17, e18 := h.e18, e19 := h.e19, e20 := h.e20, o0 := h.o0, e21 := h.e21, b0 := h.b0, b1 := h.b1, c22 := fun h9 => ⟨(h.c22 h9).1, rfl, (h.c22 h9).2.2⟩, c20 := h.c20, rr := h.rr }
        · intro ln vs wx hn ha h
          have y7 : ln 7 = true := ha ⟨7, Ground.data⟩ (by simp) rfl
          have w7 := h.e7 y7
          have HH := Lib.hid h
          clear h ha
          go_simp
          simp only [evOf_tmp, evOf_const, w7]
          go_simp
          have h := HH.out
          exact { rd := h.rd, fr := h.fr, sz := h.sz, s0 := h.s0, s5 := h.s5, s7 := h.s7, e0 := h.e0, e1 := h.e1, e2 := h.e2, e3 := h.e3, e4 := h.e4, e5 := h.e5, e6 := h.e6, e7 := h.e7, e8 := fun _ => (by first | rfl | (show Value.int .i64 _ = _; congr 1; simp only [IntKind.wrap_i64]; omega) | (show Value.int .i64 _ = _; congr 1; omega)), e9 := h.e9, e10 := h.e10, e11 := h.e11, e12 := h.e12, e13 := h.e13, e14 := h.e14, e15 := h.e15, e16 := h.e16, e17 := h.e17, e18 := h.e18, e19 := h.e19, e20 := h.e20, o0 := h.o0, e21 := h.e21, b0 := h.b0, b1 := h.b1, c22 := h.c22, c20 := h.c20, rr := h.rr }
        · intro ln vs wx hn ha h
          have y5 : ln 5 = true := ha ⟨5, Ground.data⟩ (by simp) rfl
          have y8 : ln 8 = true := ha ⟨8, Ground.data⟩ (by simp) rfl
          have w5 := h.e5 y5
          have w8 := h.e8 y8
          obtain ⟨cc, hcc, hrd⟩ := h.rd
          rw [hn] at hcc
          have h8 := Bool.toNat_le (ln 15)
          replace hcc : cc ≤ c' + 1 + (ln 15).toNat := by simpa using hcc
          have HH := Lib.hid h
          clear h ha
          go_simp
          simp only [evOf_tmp, evOf_const, w5, w8]
          refine (pick_c g cc (N - 1) wx hrd (by omega) (by omega)).mono ?_
          rintro e w2 ⟨z, rfl, z0, z1, hr2, hf2, -⟩
          have h := HH.out
          exact ⟨_, rfl, { rd := ⟨cc + 1, by first | (show cc + 1 ≤ c' + 1 + true.toNat + (ln 15).toNat; simp; omega) | (show cc + 1 ≤ c' + 1 + (ln 15).toNat + true.toNat; simp; omega), hr2⟩, fr := Fr.trans h.fr hf2, sz := Nat.le_trans h.sz hf2.size, s0 := h.s0, s5 := h.s5, s7 := h.s7, e0 := h.e0, e1 := h.e1, e2 := h.e2, e3 := h.e3, e4 := h.e4, e5 := h.e5, e6 := h.e6, e7 := h.e7, e8 := h.e8, e9 := fun _ => ⟨z, rfl⟩, e10 := h.e10, e11 := h.e11, e12 := h.e12, e13 := h.e13, e14 := h.e14, e15 := h.e15, e16 := h.e16, e17 := h.e17, e18 := h.e18, e19 := fun h1 h2 => (h.e19 h1 h2).fr hf2, e20 := fun h1 => (h.e20 h1).fr hf2 hgT, o0 := fun h1 => (h.o0 h1).kept hf2 hgT, e21 := h.e21, b0 := fun h1 => BoxV.fr (h.b0 h1) hf2 hHTg, b1 := fun h1 => (by obtain ⟨v', q1, q2⟩ := h.b1 h1; exact ⟨v', BoxV.fr q1 hf2 hHTg, q2.fr hf2 hgT⟩), c22 := h.c22, c20 := h.c20, rr := BoxV.fr h.rr hf2 hBg }⟩
        · intro ln vs wx hn ha h
          have y4 : ln 4 = true := ha ⟨4, Ground.data⟩ (by simp) rfl
          have y9 : ln 9 = true := ha ⟨9, Ground.data⟩ (by simp) rfl
          obtain ⟨z4, w4⟩ := h.e4 y4
          obtain ⟨z9, w9⟩ := h.e9 y9
          have HH := Lib.hid h
          clear h ha
          go_simp
          simp only [evOf_tmp, evOf_const, w4, w9]
          go_simp
          have h := HH.out
          exact { rd := h.rd, fr := h.fr, sz := h.sz, s0 := h.s0, s5 := h.s5, s7 := h.s7, e0 := h.e0, e1 := h.e1, e2 := h.e2, e3 := h.e3, e4 := h.e4, e5 := h.e5, e6 := h.e6, e7 := h.e7, e8 := h.e8, e9 := h.e9, e10 := fun _ => ⟨_, rfl⟩, e11 := h.e11, e12 := h.e12, e13 := h.e13, e14 := h.e14, e15 := h.e15, e16 := h.e16, e17 := h.e17, e18 := h.e18, e19 := h.e19, e20 := h.e20, o0 := h.o0, e21 := h.e21, b0 := h.b0, b1 := h.b1, c22 := h.c22, c20 := h.c20, rr := h.rr }
        · intro ln vs wx hn ha h
          have w5 := h.s5
          have HH := Lib.hid h
          clear h ha
          go_simp
          simp only [evOf_tmp, evOf_const, w5]
          go_simp
          have h := HH.out
          exact { rd := h.rd, fr := h.fr, sz := h.sz, s0 := h.s0, s5 := h.s5, s7 := h.s7, e0 := h.e0, e1 := h.e1, e2 := h.e2, e3 := h.e3, e4 := h.e4, e5 := h.e5, e6 := h.e6, e7 := h.e7, e8 := h.e8, e9 := h.e9, e10 := h.e10, e11 := fun _ => rfl, e12 := h.e12, e13 := h.e13, e14 := h.e14, e15 := h.e15, e16 := h.e16, e17 := h.e17, e18 := h.e18, e19 := h.e19, e20 := h.e20, o0 := h.o0, e21 := h.e21, b0 := h.b0, b1 := h.b1, c22 := h.c22, c20 := h.c20, rr := h.rr }
        · intro ln vs wx hn ha h
          have y11 : ln 11 = true := ha ⟨11, Ground.data⟩ (by simp) rfl
          have w11 := h.e11 y11
          have n22 : ln 22 = false := by
            cases e : ln 22
            · rfl
            · have := (h.c22 e); rw [hn] at this; simp at this
          have c0 := ((h.b0 n22).2 0 _ rfl).1
          have HH := Lib.hid h
          clear h ha
          go_simp
          simp only [evOf_tmp, evOf_const, w11]
          go_simp
          have h := HH.out
          exact { rd := h.rd, fr := h.fr, sz := h.sz, s0 := h.s0, s5 := h.s5, s7 := h.s7, e0 := h.e0, e1 := h.e1, e2 := h.e2, e3 := h.e3, e4 := h.e4, e5 := h.e5, e6 := h.e6, e7 := h.e7, e8 := h.e8, e9 := h.e9, e10 := h.e10, e11 := h.e11, e12 := fun _ => rfl, e13 := h.e13, e14 := h.e14, e15 := h.e15, e16 := h.e16, e17 := h.e17, e18 := h.e18, e19 := h.e19, e20 := h.e20, o0 := h.o0, e21 := h.e21, b0 := h.b0, b1 := h.b1, c22 := fun h9 => ⟨(h.c22 h9).1, (h.c22 h9).2.1, rfl⟩, c20 := h.c20, rr := h.rr }
        · intro ln vs wx hn ha h
          have y10 : ln 10 = true := ha ⟨10, Ground.data⟩ (by simp) rfl
          have y12 : ln 12 = true := ha ⟨12, Ground.data⟩ (by simp) rfl
          obtain ⟨z10, w10⟩ := h.e10 y10
          have w12 := h.e12 y12
          have HH := Lib.hid h
          clear h ha
          go_simp
          simp only [evOf_tmp, evOf_const, w10, w12]
          go_simp
          rw [if_neg (show ¬ N = 0 by omega)]
          have h := HH.out
          exact { rd := h.rd, fr := h.fr, sz := h.sz, s0 := h.s0, s5 := h.s5, s7 := h.s7, e0 := h.e0, e1 := h.e1, e2 := h.e2, e3 := h.e3, e4 := h.e4, e5 := h.e5, e6 := h.e6, e7 := h.e7, e8 := h.e8, e9 := h.e9, e10 := h.e10, e11 := h.e11, e12 := h.e12, e13 := fun _ => ⟨_, rfl⟩, e14 := h.e14, e15 := h.e15, e16 := h.e16, e17 := h.e17, e18 := h.e18, e19 := h.e19, e20 := h.e20, o0 := h.o0, e21 := h.e21, b0 := h.b0, b1 := h.b1, c22 := h.c22, c20 := h.c20, rr := h.rr }
        · intro ln vs wx hn ha h
          have HH := Lib.hid h
          clear h ha
          go_simp
          simp only [evOf_tmp, evOf_const]
          go_simp
          have h := HH.out
          exact { rd := h.rd, fr := h.fr, sz := h.sz, s0 := h.s0, s5 := h.s5, s7 := h.s7, e0 := h.e0, e1 := h.e1, e2 := h.e2, e3 := h.e3, e4 := h.e4, e5 := h.e5, e6 := h.e6, e7 := h.e7, e8 := h.e8, e9 := h.e9, e10 := h.e10, e11 := h.e11, e12 := h.e12, e13 := h.e13, e14 := fun _ => HH.out.s0, e15 := h.e15, e16 := h.e16, e17 := h.e17, e18 := h.e18, e19 := h.e19, e20 := h.e20, o0 := h.o0, e21 := h.e21, b0 := h.b0, b1 := h.b1, c22 := h.c22, c20 := h.c20, rr := h.rr }
        · intro ln vs wx hn ha h
          have y14 : ln 14 = true := ha ⟨14, Ground.data⟩ (by simp) rfl
          have w14 := h.e14 y14
          obtain ⟨cc, hcc, hrd⟩ := h.rd
          rw [hn] at hcc
          have h8 := Bool.toNat_le (ln 9)
          replace hcc : cc ≤ c' + 1 + (ln 9).toNat := by simpa using hcc
          have HH := Lib.hid h
          clear h ha
          go_simp
          simp only [evOf_tmp, evOf_const, w14]
          refine (pick_c g cc 9 wx hrd (by omega) (by omega)).mono ?_
          rintro e w2 ⟨z, rfl, z0, z1, hr2, hf2, -⟩
          have h := HH.out
          exact ⟨_, rfl, { rd := ⟨cc + 1, by first | (show cc + 1 ≤ c' + 1 + true.toNat + (ln 9).toNat; simp; omega) | (show cc + 1 ≤ c' + 1 + (ln 9).toNat + true.toNat; simp; omega), hr2⟩, fr := Fr.trans h.fr hf2, sz := Nat.le_trans h.sz hf2.size, s0 := h.s0, s5 := h.s5, s7 := h.s7, e0 := h.e0, e1 := h.e1, e2 := h.e2, e3 := h.e3, e4 := h.e4, e5 := h.e5, e6 := h.e6, e7 := h.e7, e8 := h.e8, e9 := h.e9, e10 := h.e10, e11 := h.e11, e12 := h.e12, e13 := h.e13, e14 := h.e14, e15 := fun _ => ⟨z, rfl⟩, e16 := h.e16, e17 := h.e17, e18 := h.e18, e19 := fun h1 h2 => (h.e19 h1 h2).fr hf2, e20 := fun h1 => (h.e20 h1).fr hf2 hgT, o0 := fun h1 => (h.o0 h1).kept hf2 hgT, e21 := h.e21, b0 := fun h1 => BoxV.fr (h.b0 h1) hf2 hHTg, b1 := fun h1 => (by obtain ⟨v', q1, q2⟩ := h.b1 h1; exact ⟨v', BoxV.fr q1 hf2 hHTg, q2.fr hf2 hgT⟩), c22 := h.c22, c20 := h.c20, rr := BoxV.fr h.rr hf2 hBg }⟩
        · intro ln vs wx hn ha h
          have y15 : ln 15 = true := ha ⟨15, Ground.data⟩ (by simp) rfl
          obtain ⟨z15, w15⟩ := h.e15 y15
          have HH := Lib.hid h
          clear h ha
          go_simp
          simp only [evOf_tmp, evOf_const, w15]
          go_simp
          have h := HH.out
          exact { rd := h.rd, fr := h.fr, sz := h.sz, s0 := h.s0, s5 := h.s5, s7 := h.s7, e0 := h.e0, e1 := h.e1, e2 := h.e2, e3 := h.e3, e4 := h.e4, e5 := h.e5, e6 := h.e6, e7 := h.e7, e8 := h.e8, e9 := h.e9, e10 := h.e10, e11 := h.e11, e12 := h.e12, e13 := h.e13, e14 := h.e14, e15 := h.e15, e16 := fun _ => ⟨_, rfl⟩, e17 := h.e17, e18 := h.e18, e19 := h.e19, e20 := h.e20, o0 := h.o0, e21 := h.e21, b0 := h.b0, b1 := h.b1, c22 := h.c22, c20 := h.c20, rr := h.rr }
        · intro ln vs wx hn ha h
          have y16 : ln 16 = true := ha ⟨16, Ground.data⟩ (by simp) rfl
          obtain ⟨z16, w16⟩ := h.e16 y16
          have HH := Lib.hid h
          clear h ha
          go_simp
          simp only [evOf_tmp, evOf_const, w16]
          go_simp
          have h := HH.out
          exact { rd := h.rd, fr := h.fr, sz := h.sz, s0 := h.s0, s5 := h.s5, s7 := h.s7, e0 := h.e0, e1 := h.e1, e2 := h.e2, e3 := h.e3, e4 := h.e4, e5 := h.e5, e6 := h.e6, e7 := h.e7, e8 := h.e8, e9 := h.e9, e10 := h.e10, e11 := h.e11, e12 := h.e12, e13 := h.e13, e14 := h.e14, e15 := h.e15, e16 := h.e16, e17 := fun _ => ⟨_, rfl⟩, e18 := h.e18, e19 := h.e19, e20 := h.e20, o0 := h.o0, e21 := h.e21, b0 := h.b0, b1 := h.b1, c22 := h.c22, c20 := h.c20, rr := h.rr }
        · intro ln vs wx hn ha h
          have y2 : ln 2 = true := ha ⟨2, Ground.data⟩ (by simp) rfl
          have y13 : ln 13 = true := ha ⟨13, Ground.data⟩ (by simp) rfl
          have y17 : ln 17 = true := ha ⟨17, Ground.data⟩ (by simp) rfl
          have w2 := h.e2 y2
          obtain ⟨z13, w13⟩ := h.e13 y13
          obtain ⟨z17, w17⟩ := h.e17 y17
          have HH := Lib.hid h
          clear h ha
          go_simp
          simp only [evOf_tmp, evOf_const, w2, w13, w17]
          go_simp
          have h := HH.out
          exact { rd := h.rd, fr := h.fr, sz := h.sz, s0 := h.s0, s5 := h.s5, s7 := h.s7, e0 := h.e0, e1 := h.e1, e2 := h.e2, e3 := h.e3, e4 := h.e4, e5 := h.e5, e6 := h.e6, e7 := h.e7, e8 := h.e8, e9 := h.e9, e10 := h.e10, e11 := h.e11, e12 := h.e12, e13 := h.e13, e14 := h.e14, e15 := h.e15, e16 := h.e16, e17 := h.e17, e18 := fun _ => ⟨_, _, _, rfl⟩, e19 := h.e19, e20 := h.e20, o0 := h.o0, e21 := h.e21, b0 := h.b0, b1 := h.b1, c22 := h.c22, c20 := h.c20, rr := h.rr }
        · intro ln vs wx hn ha h
          have y18 : ln 18 = true := ha ⟨18, Ground.data⟩ (by simp) rfl
          obtain ⟨x, y, s, w18⟩ := h.e18 y18
          obtain ⟨cc, hcc, hrd⟩ := h.rd
          have hgx := hrd.lt
          have HH := Lib.hid h
          clear h ha
          go_simp
          simp only [evOf_tmp, evOf_const, w18]
          go_simp
          have h := HH.out
          have hb : Below wx.heap.size wx (wx.alloc (.cells #[.int .i64 x, .int .i64 y, .int .i64 s] 32)) := (Below.refl _ _).alloc (Nat.le_refl _) _
          exact { rd := ⟨cc, hcc, hrd.below hb⟩, fr := h.fr.bel hb, sz := Nat.le_trans h.sz hb.size, s0 := h.s0, s5 := h.s5, s7 := h.s7, e0 := h.e0, e1 := h.e1, e2 := h.e2, e3 := h.e3, e4 := h.e4, e5 := h.e5, e6 := h.e6, e7 := h.e7, e8 := h.e8, e9 := h.e9, e10 := h.e10, e11 := h.e11, e12 := h.e12, e13 := h.e13, e14 := h.e14, e15 := h.e15, e16 := h.e16, e17 := h.e17, e18 := h.e18, e19 := fun _ _ => ⟨_, x, y, s, rfl, by omega, ints_new [x, y, s] wx 32⟩, e20 := fun h1 => (h.e20 h1).below hb, o0 := fun h1 => (h.o0 h1).below hb, e21 := h.e21, b0 := fun h1 => BoxV.below (h.b0 h1) hb, b1 := fun h1 => (by obtain ⟨v', q1, q2⟩ := h.b1 h1; exact ⟨v', q1.below hb, q2.below hb⟩), c22 := h.c22, c20 := h.c20, rr := h.rr.below hb }
        · intro ln vs wx hn ha h
          have y1 : ln 1 = true := ha ⟨1, Ground.data⟩ (by simp) rfl
          have y19 : ln 19 = true := ha ⟨19, Ground.data⟩ (by simp) rfl
          have w1 := h.e1 y1
          obtain ⟨H, x, y, s, w19, hHg, hI⟩ := h.e19 y19 hn
          have hO := h.o0 hn
          obtain ⟨cc, hcc, hrd⟩ := h.rd
          obtain ⟨v', w2, hrun, hO2, hgr⟩ := run_append_rider (ty0 := 25) hO hI (by omega) h.sz
          have hge : ∀ i, (Value.slice av k cv).ownBlock = some i → HT + 1 ≤ i := fun i e => (hO.lt i e).1
          have HH := Lib.hid h
          have HR := Lib.hid hrun
          have HO2 := Lib.hid hO2
          have HGR := Lib.hid hgr
          have HRD := Lib.hid hrd
          have HCC := Lib.hid hcc
          have HGE := Lib.hid hge
          clear h ha hI hO hrun hO2 hgr hrd hcc hge
          unfold execOp
          simp only [resolve, invoke, builtin, Sem.run_bind, Sem.run_pure, Result.andThen_ok, List.map_toArray, List.map_cons, List.map_nil, evOf_tmp, w1, w19, HR.out]
          have h := HH.out
          exact { rd := ⟨cc, HCC.out, Rd.grown HRD.out HGR.out (fun i e => by have := HGE.out i e; omega)⟩, fr := Fr.own h.fr HGR.out (fun i e => by have := HGE.out i e; omega), sz := Nat.le_trans h.sz HGR.out.size, s0 := h.s0, s5 := h.s5, s7 := h.s7, e0 := h.e0, e1 := h.e1, e2 := h.e2, e3 := h.e3, e4 := h.e4, e5 := h.e5, e6 := h.e6, e7 := h.e7, e8 := h.e8, e9 := h.e9, e10 := h.e10, e11 := h.e11, e12 := h.e12, e13 := h.e13, e14 := h.e14, e15 := h.e15, e16 := h.e16, e17 := h.e17, e18 := h.e18, e19 := fun _ h9 => (by cases h9), e20 := fun _ => ⟨_, by simp [HLL.out], HO2.out⟩, o0 := fun h9 => (by cases h9), e21 := h.e21, b0 := fun h1 => BoxV.gr (h.b0 h1) HGR.out (fun i e => by have := HGE.out i e; omega), b1 := fun h1 => (by have h2 : ln 22 = true := h1; have h3 := h.c20 h2; rw [hn] at h3; cases h3), c22 := h.c22, c20 := fun _ => rfl, rr := BoxV.gr h.rr HGR.out (fun i e => by have := HGE.out i e; omega) }
        · intro ln vs wx hn ha h
          have w5 := h.s5
          have HH := Lib.hid h
          clear h ha
          go_simp
          simp only [evOf_tmp, evOf_const, w5]
          go_simp
          have h := HH.out
          exact { rd := h.rd, fr := h.fr, sz := h.sz, s0 := h.s0, s5 := h.s5, s7 := h.s7, e0 := h.e0, e1 := h.e1, e2 := h.e2, e3 := h.e3, e4 := h.e4, e5 := h.e5, e6 := h.e6, e7 := h.e7, e8 := h.e8, e9 := h.e9, e10 := h.e10, e11 := h.e11, e12 := h.e12, e13 := h.e13, e14 := h.e14, e15 := h.e15, e16 := h.e16, e17 := h.e17, e18 := h.e18, e19 := h.e19, e20 := h.e20, o0 := h.o0, e21 := fun _ => rfl, b0 := h.b0, b1 := h.b1, c22 := h.c22, c20 := h.c20, rr := h.rr }
        · intro ln vs wx hn ha h
          have y20 : ln 20 = true := ha ⟨20, Ground.data⟩ (by simp) rfl
          have y21 : ln 21 = true := ha ⟨21, Ground.data⟩ (by simp) rfl
          have w20 := h.e20 y20
          have w21 := h.e21 y21
          obtain ⟨l', hl', hO⟩ := w20
          obtain ⟨a2, c2, hv2, -, -⟩ := OwnR.open hO
          have hbx := h.b0 hn
          obtain ⟨c4, f4⟩ := hbx.2 4 _ rfl
          have y1 : ln 1 = true := ha ⟨1, Ground.phase⟩ (by simp) rfl
          have y7 : ln 7 = true := ha ⟨7, Ground.phase⟩ (by simp) rfl
          have y12 : ln 12 = true := ha ⟨12, Ground.phase⟩ (by simp) rfl
          obtain ⟨cc, hcc, hrd⟩ := h.rd
          have HH := Lib.hid h
          have HO := Lib.hid hO
          have HBX := Lib.hid hbx
          have HRD := Lib.hid hrd
          have HCC := Lib.hid hcc
          have HL2 := Lib.hid hl'
          clear h ha hO hbx hrd hcc hl'
          go_simp
          simp only [evOf_tmp, w21, hv2]
          go_simp
          have h := HH.out
          have ho := Out.set (w := wx) (q := HT) (i := 4) (lo := HT) (hi := HT + 1) (.slice a2 (k + 1) c2) (Nat.le_refl _) (by omega)
          have q1 : BoxV (wx.setCell ⟨HT, 4, none⟩ (.slice a2 (k + 1) c2)) HT [.int .i64 N, .int .i64 m, .int .i64 f, .int .i64 d, .slice a2 (k + 1) c2] := BoxV.set HBX.out 4 (.slice a2 (k + 1) c2) (by simp)
          have q2 : E20 (HT + 1) k (vs 54) (wx.setCell ⟨HT, 4, none⟩ (.slice a2 (k + 1) c2)) := (h.e20 y20).block (fun q h1 h2 => ho.block q h2 (.inr h1))
          exact { rd := ⟨cc, HCC.out, HRD.out.out ho (by omega)⟩, fr := Fr.out h.fr ho (by omega), sz := by rw [World.size_setCell]; exact h.sz, s0 := h.s0, s5 := h.s5, s7 := h.s7, e0 := h.e0, e1 := h.e1, e2 := h.e2, e3 := h.e3, e4 := h.e4, e5 := h.e5, e6 := h.e6, e7 := h.e7, e8 := h.e8, e9 := h.e9, e10 := h.e10, e11 := h.e11, e12 := h.e12, e13 := h.e13, e14 := h.e14, e15 := h.e15, e16 := h.e16, e17 := h.e17, e18 := h.e18, e19 := fun _ h9 => (by have h8 : ln 20 = false := h9; rw [y20] at h8; cases h8), e20 := fun _ => q2, o0 := fun h9 => (by have h8 : ln 20 = false := h9; rw [y20] at h8; cases h8), e21 := h.e21, b0 := fun h9 => (by cases h9), b1 := fun _ => ⟨_, q1, by have h5 := q2; rw [hv2] at h5; exact h5⟩, c22 := fun _ => ⟨y1, y7, y12⟩, c20 := fun _ => y20, rr := BoxV.out h.rr ho (.inl hBT) }
      intro vs wq hI
      obtain ⟨v', hB9, l', hl', hO9⟩ := hI.b1 rfl
      obtain ⟨cc, hcc, hrd⟩ := hI.rd
      replace hcc : cc ≤ c' + 3 := by simpa using hcc
      have F9 := Lib.hid hI.fr
      have RR9 := Lib.hid hI.rr
      have R9 := Lib.hid hrd
      have TB9 := Lib.hid hB9
      obtain ⟨a2, c2', hv2, -, -⟩ := OwnR.open hO9
      subst hv2
      have O9 := Lib.hid hO9
      clear hI hrd hB9 hO9 R F RR TB O
      simp (decide := true) only [over, Nat.reduceAdd, if_true, if_false]
      go_wp2_with fail
      exact ⟨⟨q - 1, cc, k + 1, l', a2, c2', by go_num, by omega, by omega, hl', R9.out, F9.out, RR9.out, TB9.out, O9.out⟩, by first | (simp [intOf]; done) | (simp [intOf]; omega) | omega⟩
    obtain rfl : q = 0 := by omega
    go_wp2_with fail
    refine (pick_c g _ (6) _ R.out (by omega) (by omega)).mono ?_
    rintro e wn ⟨k1, rfl, hk10, p1, v2, v3, v4⟩
    have hk1 : k1 ≤ 5 := by omega
    skip
    have Rn : Hid _ := v2
    have Fn : Hid (Fr w g _) := Fr.trans F.out v3
    have RRn : Hid _ := BoxV.fr RR.out v3 hBg
    have TBn : Hid _ := BoxV.fr TB.out v3 hHTg
    have On : Hid _ := OwnR.kept O.out v3 (by omega)
    clear v3 v2 v4 p1
    clear R F RR TB O
    have R := Rn
    have F := Fn
    have RR := RRn
    have TB := TBn
    have O := On
    clear Rn Fn RRn TBn On
    obtain ⟨q1, rfl⟩ : ∃ q1 : Nat, k1 = q1 := ⟨k1.toNat, by omega⟩
    go_wp2_with fail
    go_loopw [8] (fun v wr => ∃ (q c' k : Nat) (l : List Ri) (av : Option Addr) (cv : Nat) (n m f d : Int), v = .int .i64 q ∧ q ≤ 5 ∧ c' ≤ c + 61 ∧ k ≤ 8 ∧ l.length = k ∧ Rd wr g c' ∧ Fr w g wr ∧ BoxV wr B [.int .i64 0, .int .i64 0, .int .i64 0, .int .i64 0, .slice none 0 0] ∧ BoxV wr HT [.int .i64 n, .int .i64 m, .int .i64 f, .int .i64 d, .slice av k cv] ∧ OwnR 32 3 wr (HT + 1) (.slice av k cv) k (rfl3 l)) (fun v _ => (intOf v).toNat)
    case atStart => exact ⟨q1, _, k, l, av, cv, N, m, f, d, rfl, by omega, by omega, by omega, HLL.out, R.out, F.out, RR.out, TB.out, O.out⟩
    case round =>
      clear R F RR TB O HLL hcq hqk
      obtain ⟨q, c', k, l, av, cv, n, m, f, d, rfl, hq5, hcq, hk8, hll, hR, hF, hRR, hTB, hO⟩ := hrel
      obtain ⟨wn, hwq⟩ : ∃ w0 : World, w0 = wr := ⟨_, rfl⟩
      rw [← hwq] at hR hF hRR hTB hO ⊢
      clear hwq
      have R := Lib.hid hR
      have F := Lib.hid hF
      have RR := Lib.hid hRR
      have TB := Lib.hid hTB
      have O := Lib.hid hO
      have HLL := Lib.hid hll
      clear hR hF hRR hTB hO hll
      by_cases hq0 : 0 < q
      case pos =>
        have hq0i : 0 < (q : Int) := by omega
        have KS := fun w' (g : Rid w' av k l) => sTripStep_c n m f d av k cv l w' g (by omega)
        have hlen := stB_len (t := ⟨n, m, f, d, l⟩)
        obtain ⟨y, hy⟩ : ∃ y, stT ⟨n, m, f, d, l⟩ = y := ⟨_, rfl⟩
        obtain ⟨b, hb2⟩ : ∃ b, stB ⟨n, m, f, d, l⟩ = b := ⟨_, rfl⟩
        rw [hy, hb2] at KS
        rw [hb2, hy] at hlen
        have HK := Lib.hid KS
        have HLE := Lib.hid hlen
        clear KS hy hb2 hlen
        have x0 := (TB.out.2 0 _ rfl).1
        have x1 := (TB.out.2 1 _ rfl).1
        have x2 := (TB.out.2 2 _ rfl).1
        have x3 := (TB.out.2 3 _ rfl).1
        have x4 := (TB.out.2 4 _ rfl).1
        go_wp2_with fail
        refine Calls.mono (HK.out _ (OwnR.rid O.out)) ?_
        intro e wq hh
        obtain ⟨v2, he, hO2, hb3⟩ := hh
        subst he
        obtain ⟨av2, cv2, hv, -, -⟩ := OwnR.open hO2
        subst hv
        have hszT : HT + 1 ≤ wn.heap.size := BoxV.lt TB.out
        have YO := Lib.hid (OwnR.al (OwnR.mono hO2 hszT) (.cells #[.int .i64 y.n, .int .i64 y.m, .int .i64 y.f, .int .i64 y.d, .slice av2 y.rs.length cv2] 27))
        have hba : Below wq.heap.size wq (wq.alloc (.cells #[.int .i64 y.n, .int .i64 y.m, .int .i64 y.f, .int .i64 y.d, .slice av2 y.rs.length cv2] 27)) := (Below.refl _ _).alloc (Nat.le_refl _) _
        have YB := Lib.hid (BoxV.new wq [.int .i64 y.n, .int .i64 y.m, .int .i64 y.f, .int .i64 y.d, .slice av2 y.rs.length cv2] 27 (by simp) rfl)
        have R1 := Lib.hid (Rd.below (Rd.below R.out hb3) hba)
        have F1 := Lib.hid (Fr.bel (Fr.bel F.out hb3) hba)
        have RR1 := Lib.hid (BoxV.below (BoxV.below RR.out hb3) hba)
        have TB1 := Lib.hid (BoxV.below (BoxV.below TB.out hb3) hba)
        have O1 := Lib.hid (OwnR.below (OwnR.below O.out hb3) hba)
        have hHY : HT < wq.heap.size := Nat.lt_of_lt_of_le hszT hb3.size
        clear hO2 hb3 hba R F RR TB O HK x0 x1 x2 x3 x4 hszT
        obtain ⟨HY, hHYe⟩ : ∃ HY, wq.heap.size = HY := ⟨_, rfl⟩
        rw [hHYe] at YB hHY
        have HHY := Lib.hid hHYe
        clear hHYe
        go_upto_region 12 with fail
        rw [HHY.out]
        clear HHY
        generalize wq.alloc (.cells #[.int .i64 y.n, .int .i64 y.m, .int .i64 y.f, .int .i64 y.d, .slice av2 y.rs.length cv2] 27) = w0 at *
        obtain ⟨wn, hwq⟩ : ∃ w9 : World, w9 = w0 := ⟨_, rfl⟩
        subst hwq
        have R := R1
        have F := F1
        have RR := RR1
        have TB := TB1
        clear R1 F1 RR1 TB1
        cases b with
        | false =>
          clear YO YB HLE
          go_wp2_with fail
          exact ⟨⟨q - 1, c', k, l, av, cv, n, m, f, d, by go_num, by omega, hcq, hk8, HLL.out, R.out, F.out, RR.out, TB.out, O1.out⟩, by first | (simp [intOf]; done) | (simp [intOf]; omega) | omega⟩
        | true =>
          have hl8 := HLE.out rfl
          clear O1 HLE
          have ho := out5 (w := wn) (b := HT) (.int .i64 y.n) (.int .i64 y.m) (.int .i64 y.f) (.int .i64 y.d) (.slice av2 y.rs.length cv2)
          have R3 := Lib.hid (Rd.out R.out ho (by omega))
          have F3 := Lib.hid (Fr.out F.out ho (by omega))
          have RR3 := Lib.hid (BoxV.out RR.out ho (.inl hBT))
          have TB3 := Lib.hid (box5 (.int .i64 y.n) (.int .i64 y.m) (.int .i64 y.f) (.int .i64 y.d) (.slice av2 y.rs.length cv2) TB.out)
          have O3 := Lib.hid (OwnR.block YO.out (fun q hq => ho.block q (OwnR.lt YO.out q hq).2 (.inr (OwnR.lt YO.out q hq).1)))
          have d0 := (YB.out.2 0 _ rfl).1
          have d1 := (YB.out.2 1 _ rfl).1
          have d2 := (YB.out.2 2 _ rfl).1
          have d3 := (YB.out.2 3 _ rfl).1
          have d4 := (YB.out.2 4 _ rfl).1
          have e0 := (TB.out.2 0 _ rfl).1
          have ef0 := (TB.out.2 0 _ rfl).2
          have e1 := (TB.out.2 1 _ rfl).1
          have ef1 := (TB.out.2 1 _ rfl).2
          have e2 := (TB.out.2 2 _ rfl).1
          have ef2 := (TB.out.2 2 _ rfl).2
          have e3 := (TB.out.2 3 _ rfl).1
          have ef3 := (TB.out.2 3 _ rfl).2
          have e4 := (TB.out.2 4 _ rfl).1
          have ef4 := (TB.out.2 4 _ rfl).2
          clear ho YO TB YB RR R F
          go_wp2_with fail
          exact ⟨⟨q - 1, c', y.rs.length, y.rs, av2, cv2, y.n, y.m, y.f, y.d, by go_num, by omega, hcq, hl8, rfl, R3.out, F3.out, RR3.out, TB3.out, O3.out⟩, by first | (simp [intOf]; done) | (simp [intOf]; omega) | omega⟩
      obtain rfl : q = 0 := by omega
      have x0 := (TB.out.2 0 _ rfl).1
      have x1 := (TB.out.2 1 _ rfl).1
      have x2 := (TB.out.2 2 _ rfl).1
      have x3 := (TB.out.2 3 _ rfl).1
      have x4 := (TB.out.2 4 _ rfl).1
      go_wp2_with fail
      refine (odd_c g _ (m0) _ R.out (by omega) (by omega) (by omega)).mono ?_
      rintro e wn ⟨b, jb, rfl, hjb, v2, v3, v4⟩
      skip
      have Rn : Hid _ := v2
      have Fn : Hid (Fr w g _) := Fr.trans F.out v3
      have RRn : Hid _ := BoxV.fr RR.out v3 hBg
      have TBn : Hid _ := BoxV.fr TB.out v3 hHTg
      have On : Hid _ := OwnR.kept O.out v3 (by omega)
      clear v3 v2 v4 x0 x1 x2 x3 x4
      clear R F RR TB O
      have R := Rn
      have F := Fn
      have RR := RRn
      have TB := TBn
      have O := On
      clear Rn Fn RRn TBn On
      cases b
      case false =>
        skip
        have d0 := (TB.out.2 0 _ rfl).1
        have d1 := (TB.out.2 1 _ rfl).1
        have d2 := (TB.out.2 2 _ rfl).1
        have d3 := (TB.out.2 3 _ rfl).1
        have d4 := (TB.out.2 4 _ rfl).1
        have e0 := (RR.out.2 0 _ rfl).1
        have ef0 := (RR.out.2 0 _ rfl).2
        have e1 := (RR.out.2 1 _ rfl).1
        have ef1 := (RR.out.2 1 _ rfl).2
        have e2 := (RR.out.2 2 _ rfl).1
        have ef2 := (RR.out.2 2 _ rfl).2
        have e3 := (RR.out.2 3 _ rfl).1
        have ef3 := (RR.out.2 3 _ rfl).2
        have e4 := (RR.out.2 4 _ rfl).1
        have ef4 := (RR.out.2 4 _ rfl).2
        have N9 := drawnT_end (w0 := w) (g := g) (HT := HT) (B := B) (n := n) (m := m) (f := f) (d := d) O.out (by omega) F.out hwB hBT
        unfold set5 at N9
        have N8 := Lib.hid N9
        clear N9 TB RR O R F
        go_wp2_with fail
        clear d0 d1 d2 d3 d4
        have c0 := e0
        have c1 := e1
        have c2 := e2
        have c3 := e3
        have c4 := e4
        exact bodyPost_ret (v := .agg #[.int .i64 n, .int .i64 m, .int .i64 f, .int .i64 d, .slice av k cv]) (by simp [results, Try.results42, go_sem, c0, c1, c2, c3, c4]) rfl N8.out
      go_wp2_with fail
      refine (pick_c g _ (4) _ R.out (by omega) (by omega)).mono ?_
      rintro e wn ⟨z, rfl, hz0, p1, v2, v3, v4⟩
      have hz : z ≤ 3 := by omega
      skip
      have Rn : Hid _ := v2
      have Fn : Hid (Fr w g _) := Fr.trans F.out v3
      have RRn : Hid _ := BoxV.fr RR.out v3 hBg
      have TBn : Hid _ := BoxV.fr TB.out v3 hHTg
      have On : Hid _ := OwnR.kept O.out v3 (by omega)
      clear v3 v2 v4 p1
      clear R F RR TB O
      have R := Rn
      have F := Fn
      have RR := RRn
      have TB := TBn
      have O := On
      clear Rn Fn RRn TBn On
      rcases (by omega : z = 0 ∨ z = 1 ∨ z = 2 ∨ z = 3) with rfl | rfl | rfl | rfl
      · skip
        have hglH := Rd.lt R.out
        have hltRRH := BoxV.lt RR.out
        have hltTBH := BoxV.lt TB.out
        obtain ⟨H, hH⟩ : ∃ H, Array.size (World.heap wn) = H := ⟨_, rfl⟩
        have HH : Hid _ := hH
        rw [hH] at hglH hltRRH hltTBH
        have NB : Hid (Box (wn.alloc (.cells #[.int .i64 0, .int .i64 9] 3)) H 0 9) := by rw [← hH]; exact Box.new wn 0 9 3
        have hHg : H ≠ g := by omega
        clear hH
        have Rn : Hid _ := Rd.alloc R.out (.cells #[.int .i64 0, .int .i64 9] 3)
        have Fn : Hid (Fr w g _) := Fr.alloc F.out (.cells #[.int .i64 0, .int .i64 9] 3)
        have RRn : Hid _ := BoxV.al RR.out (.cells #[.int .i64 0, .int .i64 9] 3)
        have TBn : Hid _ := BoxV.al TB.out (.cells #[.int .i64 0, .int .i64 9] 3)
        have On : Hid _ := OwnR.al O.out (.cells #[.int .i64 0, .int .i64 9] 3)
        clear R F RR TB O
        have R := Rn
        have F := Fn
        have RR := RRn
        have TB := TBn
        have O := On
        clear Rn Fn RRn TBn On
        go_wp2_with fail
        rw [HH.out]
        refine (pick_c g _ (2) _ R.out (by omega) (by omega)).mono ?_
        rintro e wn ⟨u, rfl, hu0, p1, v2, v3, v4⟩
        have hu : u ≤ 1 := by omega
        skip
        have Rn : Hid _ := v2
        have Fn : Hid (Fr w g _) := Fr.trans F.out v3
        have RRn : Hid _ := BoxV.fr RR.out v3 hBg
        have TBn : Hid _ := BoxV.fr TB.out v3 hHTg
        have On : Hid _ := OwnR.kept O.out v3 (by omega)
        have NBn : Hid _ := Box.fr NB.out v3 hHg
        clear v3 v2 v4 p1
        clear R F RR TB O NB
        have R := Rn
        have F := Fn
        have RR := RRn
        have TB := TBn
        have O := On
        have NB := NBn
        clear Rn Fn RRn TBn On NBn
        have hu2 : u < 2 := by omega
        obtain ⟨y, hy⟩ : ∃ y, two9 0 9 u = y := ⟨_, rfl⟩
        have n0 := box_two9 NB.out hu0 hu2
        rw [hy] at n0
        clear hy NB
        have ho := Out.set (w := wn) (q := HT) (i := 1) (lo := HT) (hi := HT + 1) (.int .i64 y) (Nat.le_refl _) (by omega)
        have R1 := Lib.hid (Rd.out R.out ho (by omega))
        have F1 := Lib.hid (Fr.out F.out ho (by omega))
        have RR1 := Lib.hid (BoxV.out RR.out ho (.inl hBT))
        have O1 := Lib.hid (OwnR.block O.out (fun q hq => ho.block q (OwnR.lt O.out q hq).2 (.inr (OwnR.lt O.out q hq).1)))
        have TB1 := Lib.hid (show BoxV _ HT [.int .i64 n, .int .i64 y, .int .i64 f, .int .i64 d, .slice av k cv] from BoxV.set TB.out 1 (.int .i64 y) (by simp))
        have x0 := (TB.out.2 0 _ rfl).1
        have x1 := (TB.out.2 1 _ rfl).1
        have x2 := (TB.out.2 2 _ rfl).1
        have x3 := (TB.out.2 3 _ rfl).1
        have x4 := (TB.out.2 4 _ rfl).1
        have xf := (TB.out.2 1 _ rfl).2
        go_upto_region 26 with fail
        clear ho xf x0 x1 x2 x3 x4 R F RR TB O n0
        have R := R1
        have F := F1
        have RR := RR1
        have TB := TB1
        have O := O1
        clear R1 F1 RR1 TB1 O1
        generalize wn.setCell ⟨HT, 1, none⟩ (.int .i64 y) = w0 at *
        obtain ⟨wn, hwq⟩ : ∃ w9 : World, w9 = w0 := ⟨_, rfl⟩
        subst hwq
        have d0 := (TB.out.2 0 _ rfl).1
        have d1 := (TB.out.2 1 _ rfl).1
        have d2 := (TB.out.2 2 _ rfl).1
        have d3 := (TB.out.2 3 _ rfl).1
        have d4 := (TB.out.2 4 _ rfl).1
        have e0 := (RR.out.2 0 _ rfl).1
        have ef0 := (RR.out.2 0 _ rfl).2
        have e1 := (RR.out.2 1 _ rfl).1
        have ef1 := (RR.out.2 1 _ rfl).2
        have e2 := (RR.out.2 2 _ rfl).1
        have ef2 := (RR.out.2 2 _ rfl).2
        have e3 := (RR.out.2 3 _ rfl).1
        have ef3 := (RR.out.2 3 _ rfl).2
        have e4 := (RR.out.2 4 _ rfl).1
        have ef4 := (RR.out.2 4 _ rfl).2
        have N9 := drawnT_end (w0 := w) (g := g) (HT := HT) (B := B) (n := n) (m := y) (f := f) (d := d) O.out (by omega) F.out hwB hBT
        unfold set5 at N9
        have N8 := Lib.hid N9
        clear N9 TB RR O R F
        go_wp2_with fail
        clear d0 d1 d2 d3 d4
        have c0 := e0
        have c1 := e1
        have c2 := e2
        have c3 := e3
        have c4 := e4
        exact bodyPost_ret (v := .agg #[.int .i64 n, .int .i64 y, .int .i64 f, .int .i64 d, .slice av k cv]) (by simp [results, Try.results42, go_sem, c0, c1, c2, c3, c4]) rfl N8.out
      · skip
        have ho := Out.set (w := wn) (q := HT) (i := 2) (lo := HT) (hi := HT + 1) (.int .i64 n) (Nat.le_refl _) (by omega)
        have R1 := Lib.hid (Rd.out R.out ho (by omega))
        have F1 := Lib.hid (Fr.out F.out ho (by omega))
        have RR1 := Lib.hid (BoxV.out RR.out ho (.inl hBT))
        have O1 := Lib.hid (OwnR.block O.out (fun q hq => ho.block q (OwnR.lt O.out q hq).2 (.inr (OwnR.lt O.out q hq).1)))
        have TB1 := Lib.hid (show BoxV _ HT [.int .i64 n, .int .i64 m, .int .i64 n, .int .i64 d, .slice av k cv] from BoxV.set TB.out 2 (.int .i64 n) (by simp))
        have x0 := (TB.out.2 0 _ rfl).1
        have x1 := (TB.out.2 1 _ rfl).1
        have x2 := (TB.out.2 2 _ rfl).1
        have x3 := (TB.out.2 3 _ rfl).1
        have x4 := (TB.out.2 4 _ rfl).1
        have xf := (TB.out.2 2 _ rfl).2
        go_upto_region 26 with fail
        clear ho xf x0 x1 x2 x3 x4 R F RR TB O
        have R := R1
        have F := F1
        have RR := RR1
        have TB := TB1
        have O := O1
        clear R1 F1 RR1 TB1 O1
        generalize wn.setCell ⟨HT, 2, none⟩ (.int .i64 n) = w0 at *
        obtain ⟨wn, hwq⟩ : ∃ w9 : World, w9 = w0 := ⟨_, rfl⟩
        subst hwq
        have d0 := (TB.out.2 0 _ rfl).1
        have d1 := (TB.out.2 1 _ rfl).1
        have d2 := (TB.out.2 2 _ rfl).1
        have d3 := (TB.out.2 3 _ rfl).1
        have d4 := (TB.out.2 4 _ rfl).1
        have e0 := (RR.out.2 0 _ rfl).1
        have ef0 := (RR.out.2 0 _ rfl).2
        have e1 := (RR.out.2 1 _ rfl).1
        have ef1 := (RR.out.2 1 _ rfl).2
        have e2 := (RR.out.2 2 _ rfl).1
        have ef2 := (RR.out.2 2 _ rfl).2
        have e3 := (RR.out.2 3 _ rfl).1
        have ef3 := (RR.out.2 3 _ rfl).2
        have e4 := (RR.out.2 4 _ rfl).1
        have ef4 := (RR.out.2 4 _ rfl).2
        have N9 := drawnT_end (w0 := w) (g := g) (HT := HT) (B := B) (n := n) (m := m) (f := n) (d := d) O.out (by omega) F.out hwB hBT
        unfold set5 at N9
        have N8 := Lib.hid N9
        clear N9 TB RR O R F
        go_wp2_with fail
        clear d0 d1 d2 d3 d4
        have c0 := e0
        have c1 := e1
        have c2 := e2
        have c3 := e3
        have c4 := e4
        exact bodyPost_ret (v := .agg #[.int .i64 n, .int .i64 m, .int .i64 n, .int .i64 d, .slice av k cv]) (by simp [results, Try.results42, go_sem, c0, c1, c2, c3, c4]) rfl N8.out
      · skip
        obtain ⟨S, hS⟩ : ∃ S, wn.heap.size = S := ⟨_, rfl⟩
        have hST : HT + 1 ≤ S := by rw [← hS]; exact BoxV.lt TB.out
        have R1 := Lib.hid (Rd.alloc R.out (.cells #[.int .i64 1, .int .i64 1, .int .i64 0] 32))
        have F1 := Lib.hid (Fr.alloc F.out (.cells #[.int .i64 1, .int .i64 1, .int .i64 0] 32))
        have RR1 := Lib.hid (BoxV.al RR.out (.cells #[.int .i64 1, .int .i64 1, .int .i64 0] 32))
        have TB1 := Lib.hid (BoxV.al TB.out (.cells #[.int .i64 1, .int .i64 1, .int .i64 0] 32))
        have O1 := Lib.hid (OwnR.al O.out (.cells #[.int .i64 1, .int .i64 1, .int .i64 0] 32))
        have IN := Lib.hid (show Rid (wn.alloc (.cells #[.int .i64 1, .int .i64 1, .int .i64 0] 32)) (some ⟨S, 0, none⟩) 1 [⟨1, 1, 0⟩] from ⟨⟨rfl, .inr ⟨S, 0, rfl, by rw [← hS]; exact ints_new [1, 1, 0] wn 32⟩⟩, rfl⟩)
        have hB1 : HT + 1 ≤ (wn.alloc (.cells #[.int .i64 1, .int .i64 1, .int .i64 0] 32)).heap.size := by rw [World.size_alloc]; omega
        have x0 := (TB.out.2 0 _ rfl).1
        have x1 := (TB.out.2 1 _ rfl).1
        have x2 := (TB.out.2 2 _ rfl).1
        have x3 := (TB.out.2 3 _ rfl).1
        have x4 := (TB.out.2 4 _ rfl).1
        go_wp2_with (with_reducible refine wpList_append_riders O1.out rfl rfl IN.out (by omega) hB1 ?_)
        intro v2 w2 hO2 hgr hat
        have hge : ∀ i, (Value.slice av k cv).ownBlock = some i → HT + 1 ≤ i := fun i e => (OwnR.lt O1.out i e).1
        have R2 := Lib.hid (Rd.grown R1.out hgr (fun i e => by have := hge i e; omega))
        have F2 := Lib.hid (Fr.own F1.out hgr (fun i e => by have := hge i e; omega))
        have RR2 := Lib.hid (BoxV.gr RR1.out hgr (fun i e => by have := hge i e; omega))
        have TB2 := Lib.hid (BoxV.gr TB1.out hgr (fun i e => by have := hge i e; omega))
        obtain ⟨av2, cv2, hv, -, -⟩ := OwnR.open hO2
        subst hv
        have O2 := Lib.hid hO2
        clear hO2 hgr hat hge IN hB1 R F RR TB O R1 F1 RR1 TB1 O1 x0 x1 x2 x3 x4 hS
        have R := R2
        have F := F2
        have RR := RR2
        have TB := TB2
        have O := O2
        clear R2 F2 RR2 TB2 O2
        obtain ⟨wn, hwq⟩ : ∃ w9 : World, w9 = w2 := ⟨_, rfl⟩
        subst hwq
        have ho := Out.set (w := wn) (q := HT) (i := 4) (lo := HT) (hi := HT + 1) (.slice av2 (k + 1) cv2) (Nat.le_refl _) (by omega)
        have R1 := Lib.hid (Rd.out R.out ho (by omega))
        have F1 := Lib.hid (Fr.out F.out ho (by omega))
        have RR1 := Lib.hid (BoxV.out RR.out ho (.inl hBT))
        have O1 := Lib.hid (OwnR.block O.out (fun q hq => ho.block q (OwnR.lt O.out q hq).2 (.inr (OwnR.lt O.out q hq).1)))
        have TB1 := Lib.hid (show BoxV _ HT [.int .i64 n, .int .i64 m, .int .i64 f, .int .i64 d, .slice av2 (k + 1) cv2] from BoxV.set TB.out 4 (.slice av2 (k + 1) cv2) (by simp))
        have x0 := (TB.out.2 0 _ rfl).1
        have x1 := (TB.out.2 1 _ rfl).1
        have x2 := (TB.out.2 2 _ rfl).1
        have x3 := (TB.out.2 3 _ rfl).1
        have x4 := (TB.out.2 4 _ rfl).1
        have xf := (TB.out.2 4 _ rfl).2
        go_upto_region 26 with fail
        clear ho xf x0 x1 x2 x3 x4 R F RR TB O
        have R := R1
        have F := F1
        have RR := RR1
        have TB := TB1
        have O := O1
        clear R1 F1 RR1 TB1 O1
        generalize wn.setCell ⟨HT, 4, none⟩ (.slice av2 (k + 1) cv2) = w0 at *
        obtain ⟨wn, hwq⟩ : ∃ w9 : World, w9 = w0 := ⟨_, rfl⟩
        subst hwq
        have d0 := (TB.out.2 0 _ rfl).1
        have d1 := (TB.out.2 1 _ rfl).1
        have d2 := (TB.out.2 2 _ rfl).1
        have d3 := (TB.out.2 3 _ rfl).1
        have d4 := (TB.out.2 4 _ rfl).1
        have e0 := (RR.out.2 0 _ rfl).1
        have ef0 := (RR.out.2 0 _ rfl).2
        have e1 := (RR.out.2 1 _ rfl).1
        have ef1 := (RR.out.2 1 _ rfl).2
        have e2 := (RR.out.2 2 _ rfl).1
        have ef2 := (RR.out.2 2 _ rfl).2
        have e3 := (RR.out.2 3 _ rfl).1
        have ef3 := (RR.out.2 3 _ rfl).2
        have e4 := (RR.out.2 4 _ rfl).1
        have ef4 := (RR.out.2 4 _ rfl).2
        have N9 := drawnT_end (w0 := w) (g := g) (HT := HT) (B := B) (n := n) (m := m) (f := f) (d := d) O.out (by omega) F.out hwB hBT
        unfold set5 at N9
        have N8 := Lib.hid N9
        clear N9 TB RR O R F
        go_wp2_with fail
        clear d0 d1 d2 d3 d4
        have c0 := e0
        have c1 := e1
        have c2 := e2
        have c3 := e3
        have c4 := e4
        exact bodyPost_ret (v := .agg #[.int .i64 n, .int .i64 m, .int .i64 f, .int .i64 d, .slice av2 (k + 1) cv2]) (by simp [results, Try.results42, go_sem, c0, c1, c2, c3, c4]) rfl N8.out
      · skip
        go_wp2_with fail
        go_loopw [11] (fun v wr => ∃ (i : Nat) (l : List Ri), i ≤ k ∧ v = .int .i64 i ∧ l.length = k ∧ Fr w g wr ∧ BoxV wr B [.int .i64 0, .int .i64 0, .int .i64 0, .int .i64 0, .slice none 0 0] ∧ BoxV wr HT [.int .i64 n, .int .i64 m, .int .i64 f, .int .i64 d, .slice av k cv] ∧ OwnR 32 3 wr (HT + 1) (.slice av k cv) k (rfl3 l)) (fun v _ => k - (intOf v).toNat)
        case atStart => exact ⟨0, l, by omega, rfl, HLL.out, F.out, RR.out, TB.out, O.out⟩
        case round =>
          clear R F RR TB O HLL l
          obtain ⟨i, l, hi, rfl, hll, hF, hRR, hTB, hO⟩ := hrel
          obtain ⟨wn, hwq⟩ : ∃ w0 : World, w0 = wr := ⟨_, rfl⟩
          rw [← hwq] at hF hRR hTB hO ⊢
          clear hwq
          have F := Lib.hid hF
          have RR := Lib.hid hRR
          have TB := Lib.hid hTB
          have O := Lib.hid hO
          have HLL := Lib.hid hll
          have R := 0
          clear hF hRR hTB hO hll
          by_cases hlt : i < k
          case neg =>
            obtain rfl : i = k := by omega
            have d0 := (TB.out.2 0 _ rfl).1
            have d1 := (TB.out.2 1 _ rfl).1
            have d2 := (TB.out.2 2 _ rfl).1
            have d3 := (TB.out.2 3 _ rfl).1
            have d4 := (TB.out.2 4 _ rfl).1
            have e0 := (RR.out.2 0 _ rfl).1
            have ef0 := (RR.out.2 0 _ rfl).2
            have e1 := (RR.out.2 1 _ rfl).1
            have ef1 := (RR.out.2 1 _ rfl).2
            have e2 := (RR.out.2 2 _ rfl).1
            have ef2 := (RR.out.2 2 _ rfl).2
            have e3 := (RR.out.2 3 _ rfl).1
            have ef3 := (RR.out.2 3 _ rfl).2
            have e4 := (RR.out.2 4 _ rfl).1
            have ef4 := (RR.out.2 4 _ rfl).2
            have N9 := drawnT_end (w0 := w) (g := g) (HT := HT) (B := B) (n := n) (m := m) (f := f) (d := d) O.out (by omega) F.out hwB hBT
            unfold set5 at N9
            have N8 := Lib.hid N9
            clear N9 TB RR O R F
            go_wp2_with fail
            clear d0 d1 d2 d3 d4
            have c0 := e0
            have c1 := e1
            have c2 := e2
            have c3 := e3
            have c4 := e4
            exact bodyPost_ret (v := .agg #[.int .i64 n, .int .i64 m, .int .i64 f, .int .i64 d, .slice av i cv]) (by simp [results, Try.results42, go_sem, c0, c1, c2, c3, c4]) rfl N8.out
          obtain ⟨bO, oO, rfl⟩ := Rid.some (OwnR.rid O.out) (by omega)
          obtain ⟨a', c', e', -, hop⟩ := OwnR.open O.out
          simp only [Value.slice.injEq, true_and] at e'
          obtain ⟨rfl, rfl⟩ := e'
          obtain ⟨rfl, -, fz, -, -⟩ := hop bO oO none rfl
          clear hop
          have fz2 := fz (i * 3 + 2)
          obtain ⟨y0, y1, y2⟩ := Rid.three (OwnR.rid O.out) hlt
          simp only [Nat.zero_add] at y0 y1 y2
          have hii : (i : Int) < k := by omega
          have hSb := (OwnR.lt O.out bO rfl).1
          have hla : i < l.length := by rw [HLL.out]; exact hlt
          have ho := Out.set (w := wn) (q := bO) (i := i * 3 + 2) (lo := bO) (hi := bO + 1) (.int .i64 1) (Nat.le_refl _) (by omega)
          have F1 := Lib.hid (Fr.out F.out ho (by omega))
          have RR1 := Lib.hid (BoxV.out RR.out ho (.inl (by omega)))
          have TB1 := Lib.hid (BoxV.out TB.out ho (.inl (by omega)))
          have O1 := Lib.hid (OwnR.state (i := i) O.out hla 1)
          have HL1 := Lib.hid (show (l.set i ⟨(rat l i).a, (rat l i).b, 1⟩).length = k from by rw [List.length_set]; exact HLL.out)
          have x0 := (TB.out.2 0 _ rfl).1
          have x1 := (TB.out.2 1 _ rfl).1
          have x2 := (TB.out.2 2 _ rfl).1
          have x3 := (TB.out.2 3 _ rfl).1
          have x4 := (TB.out.2 4 _ rfl).1
          clear fz y0 y1 ho F RR TB O
          go_wp2_with fail
          exact ⟨⟨i + 1, _, by omega, by go_num, HL1.out, F1.out, RR1.out, TB1.out, O1.out⟩, by first | (simp [intOf]; done) | (simp [intOf]; omega) | omega⟩
end Go.Proofs.Ytfhhgddajmihjaa

namespace Go.Proofs.Ytfhhgddajmihjaa
open Go.RowKit
set_option linter.unusedVariables false
set_option linter.unusedSimpArgs false
set_option maxRecDepth 100000

/-- A drawn trip. -/
def DrawnT3 (w : World) (e : Ending) (w' : World) : Prop := ∃ (n m f d : Int) (a : Option Addr) (k c : Nat) (l : List Ri), e = .returned (.agg #[.int .i64 n, .int .i64 m, .int .i64 f, .int .i64 d, .slice a k c]) ∧ Rid w' a k l ∧ k ≤ 9 ∧ Below w.heap.size w w'
set_option maxHeartbeats 1000000 in
theorem DrawTripValid_c (a : Option Addr) (n cap : Nat) (w : World) (hb : Byt w a n) (hn : n ≤ cap) (hcap : cap ≤ maxLen) :
    Calls Try.prog 13 #[.slice a n cap] w (DrawnT3 w) := by
  refine at_base fun wn hwn => ?_
  have T := Lib.hid (show Below w.heap.size w wn from by rw [hwn]; exact Below.refl _ _)
  clear hwn
  have HY := Lib.hid hb
  clear hb
  obtain ⟨g, hg⟩ : ∃ g, Array.size (World.heap wn) = g := ⟨_, rfl⟩
  have HGg := Lib.hid hg
  have hTg : w.heap.size ≤ g := by rw [← hg]; exact T.out.size
  have Tn := Lib.hid (show Below w.heap.size w (wn.alloc (.cells #[.int .i64 0, .int .i64 0, .int .i64 0, .int .i64 0, .slice none 0 0] 27)) from (Below.al T.out (.cells #[.int .i64 0, .int .i64 0, .int .i64 0, .int .i64 0, .slice none 0 0] 27)))
  have RR := Lib.hid (show BoxV (wn.alloc (.cells #[.int .i64 0, .int .i64 0, .int .i64 0, .int .i64 0, .slice none 0 0] 27)) g [.int .i64 0, .int .i64 0, .int .i64 0, .int .i64 0, .slice none 0 0] from by have h9 := (BoxV.new wn [.int .i64 0, .int .i64 0, .int .i64 0, .int .i64 0, .slice none 0 0] 27 (by simp) rfl); simp only [World.size_alloc, hg, Nat.add_assoc, Nat.reduceAdd] at h9; exact h9)
  have HZg := Lib.hid (show ((wn.alloc (.cells #[.int .i64 0, .int .i64 0, .int .i64 0, .int .i64 0, .slice none 0 0] 27))).heap.size = g + 1 from by simp only [World.size_alloc, hg, Nat.add_assoc, Nat.reduceAdd])
  clear hg
  clear T
  have T := Tn
  clear Tn
  go_enter Try.func13, Try.ntmps13
  go_wp2_with fail
  rw [HGg.out]
  refine (open_c a n cap _ (HY.out.below T.out) hn hcap).mono ?_
  rintro e w1 ⟨r, hr0, rfl, hr, hB⟩
  have hgr : g < r := by have := BoxV.lt RR.out; omega
  have R1 := Lib.hid hr
  have T1 := Lib.hid (below_next T.out hB)
  have Q1 := Lib.hid (BoxV.below RR.out hB)
  clear hr hB hr0 T RR
  go_wp2_with fail
  refine Calls.mono (l20Trip_c r 0 2 _ R1.out (by omega) (by omega) (by omega)) ?_
  rintro e w2 ⟨n, m, f, d, a, k, c, l, rfl, hO, hk, hf⟩
  have hw1 : r < w1.heap.size := Rd.lt R1.out
  have T2 := Lib.hid (show Below w.heap.size w w2 from Fr.below T1.out hf (by omega))
  have Q2 := Lib.hid (BoxV.fr Q1.out hf (by omega))
  have hv : ∀ q, (Value.slice a k c).ownBlock = some q → q ≠ g := fun q hq => by have := (OwnR.lt hO q hq).1; omega
  have O2 := Lib.hid (OwnR.pfar (OwnR.pfar (OwnR.pfar (OwnR.pfar (OwnR.pfar (c := g) (j := 0) (u := .int .i64 n) hO hv) (c := g) (j := 1) (u := .int .i64 m) hv) (c := g) (j := 2) (u := .int .i64 f) hv) (c := g) (j := 3) (u := .int .i64 d) hv) (c := g) (j := 4) (u := .slice a k c) hv)
  have N := Lib.hid (Below.st (p := ⟨g, 4, none⟩) (Below.st (p := ⟨g, 3, none⟩) (Below.st (p := ⟨g, 2, none⟩) (Below.st (p := ⟨g, 1, none⟩) (Below.st (p := ⟨g, 0, none⟩) T2.out hTg (.int .i64 n)) hTg (.int .i64 m)) hTg (.int .i64 f)) hTg (.int .i64 d)) hTg (.slice a k c))
  have c0 := (Q2.out.2 0 _ rfl).1
  have cf0 := (Q2.out.2 0 _ rfl).2
  have c1 := (Q2.out.2 1 _ rfl).1
  have cf1 := (Q2.out.2 1 _ rfl).2
  have c2 := (Q2.out.2 2 _ rfl).1
  have cf2 := (Q2.out.2 2 _ rfl).2
  have c3 := (Q2.out.2 3 _ rfl).1
  have cf3 := (Q2.out.2 3 _ rfl).2
  have c4 := (Q2.out.2 4 _ rfl).1
  have cf4 := (Q2.out.2 4 _ rfl).2
  clear hv hO hf T1 Q1 R1 T2 Q2
  go_wp2_with fail
  exact bodyPost_ret (v := .agg #[.int .i64 n, .int .i64 m, .int .i64 f, .int .i64 d, .slice a k c]) (by simp [results, Try.results13, go_sem, c0, c1, c2, c3, c4]) rfl ⟨n, m, f, d, a, k, c, l, rfl, OwnR.rid O2.out, hk, N.out⟩
set_option maxHeartbeats 1000000 in
theorem DrawTripCalls_c (a : Option Addr) (n cap : Nat) (w : World) (hb : Byt w a n) (hn : n ≤ cap) (hcap : cap ≤ maxLen) :
    Calls Try.prog 17 #[.slice a n cap] w (DrawnT3 w) := by
  refine at_base fun wn hwn => ?_
  have T := Lib.hid (show Below w.heap.size w wn from by rw [hwn]; exact Below.refl _ _)
  clear hwn
  have HY := Lib.hid hb
  clear hb
  obtain ⟨g, hg⟩ : ∃ g, Array.size (World.heap wn) = g := ⟨_, rfl⟩
  have HGg := Lib.hid hg
  have hTg : w.heap.size ≤ g := by rw [← hg]; exact T.out.size
  have Tn := Lib.hid (show Below w.heap.size w (wn.alloc (.cells #[.int .i64 0, .int .i64 0, .int .i64 0, .int .i64 0, .slice none 0 0] 27)) from (Below.al T.out (.cells #[.int .i64 0, .int .i64 0, .int .i64 0, .int .i64 0, .slice none 0 0] 27)))
  have RR := Lib.hid (show BoxV (wn.alloc (.cells #[.int .i64 0, .int .i64 0, .int .i64 0, .int .i64 0, .slice none 0 0] 27)) g [.int .i64 0, .int .i64 0, .int .i64 0, .int .i64 0, .slice none 0 0] from by have h9 := (BoxV.new wn [.int .i64 0, .int .i64 0, .int .i64 0, .int .i64 0, .slice none 0 0] 27 (by simp) rfl); simp only [World.size_alloc, hg, Nat.add_assoc, Nat.reduceAdd] at h9; exact h9)
  have HZg := Lib.hid (show ((wn.alloc (.cells #[.int .i64 0, .int .i64 0, .int .i64 0, .int .i64 0, .slice none 0 0] 27))).heap.size = g + 1 from by simp only [World.size_alloc, hg, Nat.add_assoc, Nat.reduceAdd])
  clear hg
  clear T
  have T := Tn
  clear Tn
  go_enter Try.func17, Try.ntmps17
  go_wp2_with fail
  rw [HGg.out]
  refine (open_c a n cap _ (HY.out.below T.out) hn hcap).mono ?_
  rintro e w1 ⟨r, hr0, rfl, hr, hB⟩
  have hgr : g < r := by have := BoxV.lt RR.out; omega
  have R1 := Lib.hid hr
  have T1 := Lib.hid (below_next T.out hB)
  have Q1 := Lib.hid (BoxV.below RR.out hB)
  clear hr hB hr0 T RR
  go_wp2_with fail
  refine Calls.mono (l20Trip_c r 0 9 _ R1.out (by omega) (by omega) (by omega)) ?_
  rintro e w2 ⟨n, m, f, d, a, k, c, l, rfl, hO, hk, hf⟩
  have hw1 : r < w1.heap.size := Rd.lt R1.out
  have T2 := Lib.hid (show Below w.heap.size w w2 from Fr.below T1.out hf (by omega))
  have Q2 := Lib.hid (BoxV.fr Q1.out hf (by omega))
  have hv : ∀ q, (Value.slice a k c).ownBlock = some q → q ≠ g := fun q hq => by have := (OwnR.lt hO q hq).1; omega
  have O2 := Lib.hid (OwnR.pfar (OwnR.pfar (OwnR.pfar (OwnR.pfar (OwnR.pfar (c := g) (j := 0) (u := .int .i64 n) hO hv) (c := g) (j := 1) (u := .int .i64 m) hv) (c := g) (j := 2) (u := .int .i64 f) hv) (c := g) (j := 3) (u := .int .i64 d) hv) (c := g) (j := 4) (u := .slice a k c) hv)
  have N := Lib.hid (Below.st (p := ⟨g, 4, none⟩) (Below.st (p := ⟨g, 3, none⟩) (Below.st (p := ⟨g, 2, none⟩) (Below.st (p := ⟨g, 1, none⟩) (Below.st (p := ⟨g, 0, none⟩) T2.out hTg (.int .i64 n)) hTg (.int .i64 m)) hTg (.int .i64 f)) hTg (.int .i64 d)) hTg (.slice a k c))
  have c0 := (Q2.out.2 0 _ rfl).1
  have cf0 := (Q2.out.2 0 _ rfl).2
  have c1 := (Q2.out.2 1 _ rfl).1
  have cf1 := (Q2.out.2 1 _ rfl).2
  have c2 := (Q2.out.2 2 _ rfl).1
  have cf2 := (Q2.out.2 2 _ rfl).2
  have c3 := (Q2.out.2 3 _ rfl).1
  have cf3 := (Q2.out.2 3 _ rfl).2
  have c4 := (Q2.out.2 4 _ rfl).1
  have cf4 := (Q2.out.2 4 _ rfl).2
  clear hv hO hf T1 Q1 R1 T2 Q2
  go_wp2_with fail
  exact bodyPost_ret (v := .agg #[.int .i64 n, .int .i64 m, .int .i64 f, .int .i64 d, .slice a k c]) (by simp [results, Try.results17, go_sem, c0, c1, c2, c3, c4]) rfl ⟨n, m, f, d, a, k, c, l, rfl, OwnR.rid O2.out, hk, N.out⟩
set_option maxHeartbeats 1000000 in
theorem DrawTripStep_c (a : Option Addr) (n cap : Nat) (w : World) (hb : Byt w a n) (hn : n ≤ cap) (hcap : cap ≤ maxLen) :
    Calls Try.prog 24 #[.slice a n cap] w (DrawnT3 w) := by
  refine at_base fun wn hwn => ?_
  have T := Lib.hid (show Below w.heap.size w wn from by rw [hwn]; exact Below.refl _ _)
  clear hwn
  have HY := Lib.hid hb
  clear hb
  obtain ⟨g, hg⟩ : ∃ g, Array.size (World.heap wn) = g := ⟨_, rfl⟩
  have HGg := Lib.hid hg
  have hTg : w.heap.size ≤ g := by rw [← hg]; exact T.out.size
  have Tn := Lib.hid (show Below w.heap.size w (wn.alloc (.cells #[.int .i64 0, .int .i64 0, .int .i64 0, .int .i64 0, .slice none 0 0] 27)) from (Below.al T.out (.cells #[.int .i64 0, .int .i64 0, .int .i64 0, .int .i64 0, .slice none 0 0] 27)))
  have RR := Lib.hid (show BoxV (wn.alloc (.cells #[.int .i64 0, .int .i64 0, .int .i64 0, .int .i64 0, .slice none 0 0] 27)) g [.int .i64 0, .int .i64 0, .int .i64 0, .int .i64 0, .slice none 0 0] from by have h9 := (BoxV.new wn [.int .i64 0, .int .i64 0, .int .i64 0, .int .i64 0, .slice none 0 0] 27 (by simp) rfl); simp only [World.size_alloc, hg, Nat.add_assoc, Nat.reduceAdd] at h9; exact h9)
  have HZg := Lib.hid (show ((wn.alloc (.cells #[.int .i64 0, .int .i64 0, .int .i64 0, .int .i64 0, .slice none 0 0] 27))).heap.size = g + 1 from by simp only [World.size_alloc, hg, Nat.add_assoc, Nat.reduceAdd])
  clear hg
  clear T
  have T := Tn
  clear Tn
  go_enter Try.func24, Try.ntmps24
  go_wp2_with fail
  rw [HGg.out]
  refine (open_c a n cap _ (HY.out.below T.out) hn hcap).mono ?_
  rintro e w1 ⟨r, hr0, rfl, hr, hB⟩
  have hgr : g < r := by have := BoxV.lt RR.out; omega
  have R1 := Lib.hid hr
  have T1 := Lib.hid (below_next T.out hB)
  have Q1 := Lib.hid (BoxV.below RR.out hB)
  clear hr hB hr0 T RR
  go_wp2_with fail
  refine Calls.mono (l20Trip_c r 0 9 _ R1.out (by omega) (by omega) (by omega)) ?_
  rintro e w2 ⟨n, m, f, d, a, k, c, l, rfl, hO, hk, hf⟩
  have hw1 : r < w1.heap.size := Rd.lt R1.out
  have T2 := Lib.hid (show Below w.heap.size w w2 from Fr.below T1.out hf (by omega))
  have Q2 := Lib.hid (BoxV.fr Q1.out hf (by omega))
  have hv : ∀ q, (Value.slice a k c).ownBlock = some q → q ≠ g := fun q hq => by have := (OwnR.lt hO q hq).1; omega
  have O2 := Lib.hid (OwnR.pfar (OwnR.pfar (OwnR.pfar (OwnR.pfar (OwnR.pfar (c := g) (j := 0) (u := .int .i64 n) hO hv) (c := g) (j := 1) (u := .int .i64 m) hv) (c := g) (j := 2) (u := .int .i64 f) hv) (c := g) (j := 3) (u := .int .i64 d) hv) (c := g) (j := 4) (u := .slice a k c) hv)
  have N := Lib.hid (Below.st (p := ⟨g, 4, none⟩) (Below.st (p := ⟨g, 3, none⟩) (Below.st (p := ⟨g, 2, none⟩) (Below.st (p := ⟨g, 1, none⟩) (Below.st (p := ⟨g, 0, none⟩) T2.out hTg (.int .i64 n)) hTg (.int .i64 m)) hTg (.int .i64 f)) hTg (.int .i64 d)) hTg (.slice a k c))
  have c0 := (Q2.out.2 0 _ rfl).1
  have cf0 := (Q2.out.2 0 _ rfl).2
  have c1 := (Q2.out.2 1 _ rfl).1
  have cf1 := (Q2.out.2 1 _ rfl).2
  have c2 := (Q2.out.2 2 _ rfl).1
  have cf2 := (Q2.out.2 2 _ rfl).2
  have c3 := (Q2.out.2 3 _ rfl).1
  have cf3 := (Q2.out.2 3 _ rfl).2
  have c4 := (Q2.out.2 4 _ rfl).1
  have cf4 := (Q2.out.2 4 _ rfl).2
  clear hv hO hf T1 Q1 R1 T2 Q2
  go_wp2_with fail
  exact bodyPost_ret (v := .agg #[.int .i64 n, .int .i64 m, .int .i64 f, .int .i64 d, .slice a k c]) (by simp [results, Try.results24, go_sem, c0, c1, c2, c3, c4]) rfl ⟨n, m, f, d, a, k, c, l, rfl, OwnR.rid O2.out, hk, N.out⟩
set_option maxHeartbeats 1000000 in
theorem DrawTripStops_c (a : Option Addr) (n cap : Nat) (w : World) (hb : Byt w a n) (hn : n ≤ cap) (hcap : cap ≤ maxLen) :
    Calls Try.prog 28 #[.slice a n cap] w (DrawnT3 w) := by
  refine at_base fun wn hwn => ?_
  have T := Lib.hid (show Below w.heap.size w wn from by rw [hwn]; exact Below.refl _ _)
  clear hwn
  have HY := Lib.hid hb
  clear hb
  obtain ⟨g, hg⟩ : ∃ g, Array.size (World.heap wn) = g := ⟨_, rfl⟩
  have HGg := Lib.hid hg
  have hTg : w.heap.size ≤ g := by rw [← hg]; exact T.out.size
  have Tn := Lib.hid (show Below w.heap.size w (wn.alloc (.cells #[.int .i64 0, .int .i64 0, .int .i64 0, .int .i64 0, .slice none 0 0] 27)) from (Below.al T.out (.cells #[.int .i64 0, .int .i64 0, .int .i64 0, .int .i64 0, .slice none 0 0] 27)))
  have RR := Lib.hid (show BoxV (wn.alloc (.cells #[.int .i64 0, .int .i64 0, .int .i64 0, .int .i64 0, .slice none 0 0] 27)) g [.int .i64 0, .int .i64 0, .int .i64 0, .int .i64 0, .slice none 0 0] from by have h9 := (BoxV.new wn [.int .i64 0, .int .i64 0, .int .i64 0, .int .i64 0, .slice none 0 0] 27 (by simp) rfl); simp only [World.size_alloc, hg, Nat.add_assoc, Nat.reduceAdd] at h9; exact h9)
  have HZg := Lib.hid (show ((wn.alloc (.cells #[.int .i64 0, .int .i64 0, .int .i64 0, .int .i64 0, .slice none 0 0] 27))).heap.size = g + 1 from by simp only [World.size_alloc, hg, Nat.add_assoc, Nat.reduceAdd])
  clear hg
  clear T
  have T := Tn
  clear Tn
  go_enter Try.func28, Try.ntmps28
  go_wp2_with fail
  rw [HGg.out]
  refine (open_c a n cap _ (HY.out.below T.out) hn hcap).mono ?_
  rintro e w1 ⟨r, hr0, rfl, hr, hB⟩
  have hgr : g < r := by have := BoxV.lt RR.out; omega
  have R1 := Lib.hid hr
  have T1 := Lib.hid (below_next T.out hB)
  have Q1 := Lib.hid (BoxV.below RR.out hB)
  clear hr hB hr0 T RR
  go_wp2_with fail
  refine Calls.mono (l20Trip_c r 0 9 _ R1.out (by omega) (by omega) (by omega)) ?_
  rintro e w2 ⟨n, m, f, d, a, k, c, l, rfl, hO, hk, hf⟩
  have hw1 : r < w1.heap.size := Rd.lt R1.out
  have T2 := Lib.hid (show Below w.heap.size w w2 from Fr.below T1.out hf (by omega))
  have Q2 := Lib.hid (BoxV.fr Q1.out hf (by omega))
  have hv : ∀ q, (Value.slice a k c).ownBlock = some q → q ≠ g := fun q hq => by have := (OwnR.lt hO q hq).1; omega
  have O2 := Lib.hid (OwnR.pfar (OwnR.pfar (OwnR.pfar (OwnR.pfar (OwnR.pfar (c := g) (j := 0) (u := .int .i64 n) hO hv) (c := g) (j := 1) (u := .int .i64 m) hv) (c := g) (j := 2) (u := .int .i64 f) hv) (c := g) (j := 3) (u := .int .i64 d) hv) (c := g) (j := 4) (u := .slice a k c) hv)
  have N := Lib.hid (Below.st (p := ⟨g, 4, none⟩) (Below.st (p := ⟨g, 3, none⟩) (Below.st (p := ⟨g, 2, none⟩) (Below.st (p := ⟨g, 1, none⟩) (Below.st (p := ⟨g, 0, none⟩) T2.out hTg (.int .i64 n)) hTg (.int .i64 m)) hTg (.int .i64 f)) hTg (.int .i64 d)) hTg (.slice a k c))
  have c0 := (Q2.out.2 0 _ rfl).1
  have cf0 := (Q2.out.2 0 _ rfl).2
  have c1 := (Q2.out.2 1 _ rfl).1
  have cf1 := (Q2.out.2 1 _ rfl).2
  have c2 := (Q2.out.2 2 _ rfl).1
  have cf2 := (Q2.out.2 2 _ rfl).2
  have c3 := (Q2.out.2 3 _ rfl).1
  have cf3 := (Q2.out.2 3 _ rfl).2
  have c4 := (Q2.out.2 4 _ rfl).1
  have cf4 := (Q2.out.2 4 _ rfl).2
  clear hv hO hf T1 Q1 R1 T2 Q2
  go_wp2_with fail
  exact bodyPost_ret (v := .agg #[.int .i64 n, .int .i64 m, .int .i64 f, .int .i64 d, .slice a k c]) (by simp [results, Try.results28, go_sem, c0, c1, c2, c3, c4]) rfl ⟨n, m, f, d, a, k, c, l, rfl, OwnR.rid O2.out, hk, N.out⟩
set_option maxHeartbeats 1000000 in
theorem DrawTripEnd_c (a : Option Addr) (n cap : Nat) (w : World) (hb : Byt w a n) (hn : n ≤ cap) (hcap : cap ≤ maxLen) :
    Calls Try.prog 31 #[.slice a n cap] w (DrawnT3 w) := by
  refine at_base fun wn hwn => ?_
  have T := Lib.hid (show Below w.heap.size w wn from by rw [hwn]; exact Below.refl _ _)
  clear hwn
  have HY := Lib.hid hb
  clear hb
  obtain ⟨g, hg⟩ : ∃ g, Array.size (World.heap wn) = g := ⟨_, rfl⟩
  have HGg := Lib.hid hg
  have hTg : w.heap.size ≤ g := by rw [← hg]; exact T.out.size
  have Tn := Lib.hid (show Below w.heap.size w (wn.alloc (.cells #[.int .i64 0, .int .i64 0, .int .i64 0, .int .i64 0, .slice none 0 0] 27)) from (Below.al T.out (.cells #[.int .i64 0, .int .i64 0, .int .i64 0, .int .i64 0, .slice none 0 0] 27)))
  have RR := Lib.hid (show BoxV (wn.alloc (.cells #[.int .i64 0, .int .i64 0, .int .i64 0, .int .i64 0, .slice none 0 0] 27)) g [.int .i64 0, .int .i64 0, .int .i64 0, .int .i64 0, .slice none 0 0] from by have h9 := (BoxV.new wn [.int .i64 0, .int .i64 0, .int .i64 0, .int .i64 0, .slice none 0 0] 27 (by simp) rfl); simp only [World.size_alloc, hg, Nat.add_assoc, Nat.reduceAdd] at h9; exact h9)
  have HZg := Lib.hid (show ((wn.alloc (.cells #[.int .i64 0, .int .i64 0, .int .i64 0, .int .i64 0, .slice none 0 0] 27))).heap.size = g + 1 from by simp only [World.size_alloc, hg, Nat.add_assoc, Nat.reduceAdd])
  clear hg
  clear T
  have T := Tn
  clear Tn
  go_enter Try.func31, Try.ntmps31
  go_wp2_with fail
  rw [HGg.out]
  refine (open_c a n cap _ (HY.out.below T.out) hn hcap).mono ?_
  rintro e w1 ⟨r, hr0, rfl, hr, hB⟩
  have hgr : g < r := by have := BoxV.lt RR.out; omega
  have R1 := Lib.hid hr
  have T1 := Lib.hid (below_next T.out hB)
  have Q1 := Lib.hid (BoxV.below RR.out hB)
  clear hr hB hr0 T RR
  go_wp2_with fail
  refine Calls.mono (l20Trip_c r 0 9 _ R1.out (by omega) (by omega) (by omega)) ?_
  rintro e w2 ⟨n, m, f, d, a, k, c, l, rfl, hO, hk, hf⟩
  have hw1 : r < w1.heap.size := Rd.lt R1.out
  have T2 := Lib.hid (show Below w.heap.size w w2 from Fr.below T1.out hf (by omega))
  have Q2 := Lib.hid (BoxV.fr Q1.out hf (by omega))
  have hv : ∀ q, (Value.slice a k c).ownBlock = some q → q ≠ g := fun q hq => by have := (OwnR.lt hO q hq).1; omega
  have O2 := Lib.hid (OwnR.pfar (OwnR.pfar (OwnR.pfar (OwnR.pfar (OwnR.pfar (c := g) (j := 0) (u := .int .i64 n) hO hv) (c := g) (j := 1) (u := .int .i64 m) hv) (c := g) (j := 2) (u := .int .i64 f) hv) (c := g) (j := 3) (u := .int .i64 d) hv) (c := g) (j := 4) (u := .slice a k c) hv)
  have N := Lib.hid (Below.st (p := ⟨g, 4, none⟩) (Below.st (p := ⟨g, 3, none⟩) (Below.st (p := ⟨g, 2, none⟩) (Below.st (p := ⟨g, 1, none⟩) (Below.st (p := ⟨g, 0, none⟩) T2.out hTg (.int .i64 n)) hTg (.int .i64 m)) hTg (.int .i64 f)) hTg (.int .i64 d)) hTg (.slice a k c))
  have c0 := (Q2.out.2 0 _ rfl).1
  have cf0 := (Q2.out.2 0 _ rfl).2
  have c1 := (Q2.out.2 1 _ rfl).1
  have cf1 := (Q2.out.2 1 _ rfl).2
  have c2 := (Q2.out.2 2 _ rfl).1
  have cf2 := (Q2.out.2 2 _ rfl).2
  have c3 := (Q2.out.2 3 _ rfl).1
  have cf3 := (Q2.out.2 3 _ rfl).2
  have c4 := (Q2.out.2 4 _ rfl).1
  have cf4 := (Q2.out.2 4 _ rfl).2
  clear hv hO hf T1 Q1 R1 T2 Q2
  go_wp2_with fail
  exact bodyPost_ret (v := .agg #[.int .i64 n, .int .i64 m, .int .i64 f, .int .i64 d, .slice a k c]) (by simp [results, Try.results31, go_sem, c0, c1, c2, c3, c4]) rfl ⟨n, m, f, d, a, k, c, l, rfl, OwnR.rid O2.out, hk, N.out⟩
end Go.Proofs.Ytfhhgddajmihjaa
