/- The law of CallSet: what is drawn, and the walk. -/
import Derived.Test.Ytgenccbpkolmbaa8V
namespace Go.Proofs.Ytgenccbpkolmbaa
open Go.RowKit
set_option linter.unusedVariables false

theorem OwnB.fr {w w' : World} {B g : Nat} {v : Value} {xs : List Bool} (h : OwnB w B v xs) (hf : Fr w g w') (hg : g < B) : OwnB w' B v xs :=
  h.block fun k hk => hf.block k (h.lt k hk).2 (by have := (h.lt k hk).1; simp; omega)
/-- Three rows of the call's own. -/
def Rws (w : World) (B : Nat) (v1 v2 v3 : Value) (x : Cs) : Prop := OwnB w B v1 x.u ∧ OwnB w B v2 x.d ∧ OwnB w B v3 x.c
theorem Rws.fr {w w' : World} {B g : Nat} {v1 v2 v3 : Value} {x : Cs} (h : Rws w B v1 v2 v3 x) (hf : Fr w g w') (hg : g < B) : Rws w' B v1 v2 v3 x := ⟨h.1.fr hf hg, h.2.1.fr hf hg, h.2.2.fr hf hg⟩
def DrawnSet (w : World) (e : Ending) (w' : World) : Prop := ∃ (a1 : Option Addr) (n1 k1 : Nat) (a2 : Option Addr) (n2 k2 : Nat) (a3 : Option Addr) (n3 k3 : Nat) (x : Cs) (k f : Int) (b : Bool), e = .returned (.tuple #[(.agg #[.slice a1 n1 k1, .slice a2 n2 k2, .slice a3 n3 k3]), .int .i64 k, .int .i64 f, .bool b]) ∧ Cal w' a1 n1 a2 n2 a3 n3 x ∧ (n1 ≤ 9 ∧ n2 ≤ 9 ∧ n3 ≤ 9) ∧ (-1 ≤ k ∧ k ≤ 9 ∧ -1 ≤ f ∧ f ≤ 9) ∧ Below w.heap.size w w'
set_option maxHeartbeats 2000000 in
theorem DrawCallSet_c (a : Option Addr) (n cap : Nat) (w : World) (hb : Byt w a n) (hn : n ≤ cap) (hcap : cap ≤ maxLen) :
    Calls Try.prog 21 #[.slice a n cap] w (DrawnSet w) := by
  have B0 := Lib.hid (Bx.new w (.slice none 0 0) (.slice none 0 0) (.slice none 0 0) 25)
  have HB0 := Lib.hid (Below.al (Below.refl w.heap.size w) (.cells #[.slice none 0 0, .slice none 0 0, .slice none 0 0] 25))
  have HY := Lib.hid (hb.below ((Below.refl _ _).alloc (Nat.le_refl _) (.cells #[.slice none 0 0, .slice none 0 0, .slice none 0 0] 25)))
  obtain ⟨r, hr0⟩ : ∃ r, w.heap.size = r := ⟨_, rfl⟩
  have HR0 := Lib.hid hr0
  rw [hr0] at B0
  clear hb hr0
  go_enter Try.func21, Try.ntmps21
  go_wp2_with fail
  rw [HR0.out]
  refine (open_c a n cap _ HY.out hn hcap).mono ?_
  rintro e w1 ⟨g, hg, rfl, hr, hB⟩
  have hrg : r < g := by have := B0.out.lt; omega
  have R1 := Lib.hid hr
  have B1 := Lib.hid (Bx.below B0.out hB)
  have HB1 := Lib.hid (below_next HB0.out hB)
  clear hr hB B0 HB0 HY hg
  go_wp2_with fail
  refine (pick_c g 0 8 _ R1.out (by omega) (by omega)).mono ?_
  rintro e w2 ⟨p, rfl, z0, z1, hr2, hf2, -⟩
  obtain ⟨q, hq⟩ : ∃ q : Nat, 1 + p = q := ⟨(1 + p).toNat, by omega⟩
  have R2 := Lib.hid hr2
  have B2 := Lib.hid (Bx.gr B1.out hf2 (by omega))
  have HF2 := Lib.hid (show Below w.heap.size w w2 from Fr.below HB1.out hf2 (by have := HR0.out; omega))
  have q1 : 1 ≤ q := by omega
  have q8 : q ≤ 8 := by omega
  clear hr2 hf2 R1 B1 HB1
  go_wp2_with fail
  try rw [hq]
  clear hq z0 z1
  have hgB : g < w2.heap.size := R2.out.lt
  obtain ⟨B, hBB⟩ : ∃ B, w2.heap.size = B := ⟨_, rfl⟩
  rw [hBB] at hgB
  refine Calls.mono (l20Calls_c g 1 q 9 _ R2.out (by omega) q1 q8 (by omega) (by omega)) ?_
  intro e w3 hh
  obtain ⟨a1, n1, k1, a2, n2, k2, a3, n3, k3, x, c', rfl, ho, hl, hr, hc, hf⟩ := DrawnC.cal hh
  rw [hBB] at ho
  have O3 := Lib.hid (show Rws w3 B (.slice a1 n1 k1) (.slice a2 n2 k2) (.slice a3 n3 k3) x from ho)
  have B3 := Lib.hid (Bx.gr B2.out hf (by omega))
  have HF3 := Lib.hid (show Below w.heap.size w w3 from Fr.below HF2.out hf (by have := HR0.out; omega))
  have R3 := Lib.hid hr
  have HL := Lib.hid hl
  have hc21 : c' ≤ 21 := by omega
  clear hf ho hh hl hr hBB R2 B2 HF2 hc
  go_wp2_with fail
  refine (pick_c g (c' + 0) 3 _ R3.out (by omega) (by omega)).mono ?_
  rintro e w4 ⟨pa, rfl, zpa0, z1, hr, hf, -⟩
  have zpa1 : pa ≤ 2 := by omega
  have R4 := Lib.hid hr
  have O4 := Lib.hid (Rws.fr O3.out hf hgB)
  have B4 := Lib.hid (Bx.gr B3.out hf (by omega))
  have HF4 := Lib.hid (show Below w.heap.size w w4 from Fr.below HF3.out hf (by have := HR0.out; omega))
  clear hr hf z1 R3 O3 B3 HF3
  go_wp2_with fail
  refine (pick_c g (c' + 1) 20 _ R4.out (by omega) (by omega)).mono ?_
  rintro e w5 ⟨pb, rfl, zpb0, z1, hr, hf, -⟩
  have zpb1 : pb ≤ 19 := by omega
  have R5 := Lib.hid hr
  have O5 := Lib.hid (Rws.fr O4.out hf hgB)
  have B5 := Lib.hid (Bx.gr B4.out hf (by omega))
  have HF5 := Lib.hid (show Below w.heap.size w w5 from Fr.below HF4.out hf (by have := HR0.out; omega))
  clear hr hf z1 R4 O4 B4 HF4
  go_wp2_with fail
  refine (pick_c g (c' + 2) ((q : Int) + 1) _ R5.out (by omega) (by omega)).mono ?_
  rintro e w6 ⟨pc, rfl, zpc0, z1, hr, hf, -⟩
  have zpc1 : pc ≤ 8 := by omega
  have R6 := Lib.hid hr
  have O6 := Lib.hid (Rws.fr O5.out hf hgB)
  have B6 := Lib.hid (Bx.gr B5.out hf (by omega))
  have HF6 := Lib.hid (show Below w.heap.size w w6 from Fr.below HF5.out hf (by have := HR0.out; omega))
  clear hr hf z1 R5 O5 B5 HF5
  go_wp2_with fail
  refine (pick_c g (c' + 3) 20 _ R6.out (by omega) (by omega)).mono ?_
  rintro e w7 ⟨pd, rfl, zpd0, z1, hr, hf, -⟩
  have zpd1 : pd ≤ 19 := by omega
  have R7 := Lib.hid hr
  have O7 := Lib.hid (Rws.fr O6.out hf hgB)
  have B7 := Lib.hid (Bx.gr B6.out hf (by omega))
  have HF7 := Lib.hid (show Below w.heap.size w w7 from Fr.below HF6.out hf (by have := HR0.out; omega))
  clear hr hf z1 R6 O6 B6 HF6
  go_wp2_with fail
  refine (pick_c g (c' + 4) 2 _ R7.out (by omega) (by omega)).mono ?_
  rintro e w8 ⟨pe, rfl, zpe0, z1, hr, hf, -⟩
  have zpe1 : pe ≤ 1 := by omega
  have R8 := Lib.hid hr
  have O8 := Lib.hid (Rws.fr O7.out hf hgB)
  have B8 := Lib.hid (Bx.gr B7.out hf (by omega))
  have HF8 := Lib.hid (show Below w.heap.size w w8 from Fr.below HF7.out hf (by have := HR0.out; omega))
  clear hr hf z1 R7 O7 B7 HF7
  have hs := Bx.set3 B8.out (.slice a1 n1 k1) (.slice a2 n2 k2) (.slice a3 n3 k3)
  have hrB : r < B := by omega
  have p1 := OwnB.outs O8.out.1 hs.2 (fun q hq => by have := (O8.out.1.lt q hq).1; omega)
  have p2 := OwnB.outs O8.out.2.1 hs.2 (fun q hq => by have := (O8.out.2.1.lt q hq).1; omega)
  have p3 := OwnB.outs O8.out.2.2 hs.2 (fun q hq => by have := (O8.out.2.2.lt q hq).1; omega)
  obtain ⟨kk, hkk⟩ : ∃ kk, pa + pb / 19 * 3 = kk := ⟨_, rfl⟩
  obtain ⟨ff, hff⟩ : ∃ ff, pc - pd / 19 = ff := ⟨_, rfl⟩
  have N := Lib.hid (show DrawnSet w (.returned (.tuple #[(.agg #[.slice a1 n1 k1, .slice a2 n2 k2, .slice a3 n3 k3]), .int .i64 kk, .int .i64 ff, .bool (pe == 0)])) (((w8.setCell ⟨r, 0, none⟩ (.slice a1 n1 k1)).setCell ⟨r, 1, none⟩ (.slice a2 n2 k2)).setCell ⟨r, 2, none⟩ (.slice a3 n3 k3)) from
    ⟨a1, n1, k1, a2, n2, k2, a3, n3, k3, x, kk, ff, _, rfl, ⟨OwnB.cal p1, OwnB.cal p2, OwnB.cal p3⟩, HL.out, ⟨by omega, by omega, by omega, by omega⟩, Out.below HF8.out hs.2 (by have := HR0.out; omega)⟩)
  obtain ⟨⟨c0, c1, c2⟩, bf⟩ := B8.out
  have f0 := bf 0
  have f1 := bf 1
  have f2 := bf 2
  have hq1 : IntKind.i64.wrap (pa + IntKind.i64.wrap (IntKind.i64.wrap (pb.tdiv 19) * 3)) = kk := by rw [Int.tdiv_eq_ediv_of_nonneg (by omega), IntKind.wrap_i64, IntKind.wrap_i64, IntKind.wrap_i64]; omega
  have hq2 : IntKind.i64.wrap (pc - IntKind.i64.wrap (pd.tdiv 19)) = ff := by rw [Int.tdiv_eq_ediv_of_nonneg (by omega), IntKind.wrap_i64, IntKind.wrap_i64]; omega
  clear bf hs p1 p2 p3 O8 R8
  go_wp2_with fail
  exact bodyPost_ret (v := .tuple #[(.agg #[.slice a1 n1 k1, .slice a2 n2 k2, .slice a3 n3 k3]), .int .i64 kk, .int .i64 ff, .bool (pe == 0)]) (by simp [results, Try.results21, go_sem, c0, c1, c2]; first | exact ⟨hq1, hq2⟩ | exact ⟨hkk, hff⟩ | exact hq2 | skip) rfl N.out
theorem sameCalls_f (a1 : Option Addr) (n1 k1 : Nat) (a2 : Option Addr) (n2 k2 : Nat) (a3 : Option Addr) (n3 k3 : Nat) (a4 : Option Addr) (n4 k4 : Nat) (a5 : Option Addr) (n5 k5 : Nat) (a6 : Option Addr) (n6 k6 : Nat) (x y : Cs) (w : World) (hX : Cal w a1 n1 a2 n2 a3 n3 x) (hY : Cal w a4 n4 a5 n5 a6 n6 y) (m1 : n1 ≤ 1048577) (m2 : n2 ≤ 1048577) (m3 : n3 ≤ 1048577) (hne : x ≠ y) :
    Calls Try.prog 18 #[(.agg #[.slice a1 n1 k1, .slice a2 n2 k2, .slice a3 n3 k3]), .agg #[.slice a4 n4 k4, .slice a5 n5 k5, .slice a6 n6 k6]] w (Mk w (.bool false)) := by
  have K := sameCalls_c a1 n1 k1 a2 n2 k2 a3 n3 k3 x a4 n4 k4 a5 n5 k5 a6 n6 k6 y w hX hY m1 m2 m3
  rw [tr_false hne] at K
  exact K
end Go.Proofs.Ytgenccbpkolmbaa
