/- What DrawCallsText gives. -/
import Derived.Test.YtgenccbpkolmbaaDoor8U
namespace Go.Proofs.YtgenccbpkolmbaaDoor
open Go.RowKit
set_option linter.unusedVariables false

set_option maxHeartbeats 1000000 in
theorem DrawCallsText_c (a : Option Addr) (n cap : Nat) (w : World) (hb : Byt w a n) (hn : n ≤ cap) (hcap : cap ≤ maxLen) :
    Calls Tryd.prog 6 #[.slice a n cap] w (DrawnCs w) := by
  have B0 := Lib.hid (Bx.new w (.slice none 0 0) (.slice none 0 0) (.slice none 0 0) 25)
  have HB0 := Lib.hid (Below.al (Below.refl w.heap.size w) (.cells #[.slice none 0 0, .slice none 0 0, .slice none 0 0] 25))
  have HY := Lib.hid (hb.below ((Below.refl _ _).alloc (Nat.le_refl _) (.cells #[.slice none 0 0, .slice none 0 0, .slice none 0 0] 25)))
  obtain ⟨r, hr0⟩ : ∃ r, w.heap.size = r := ⟨_, rfl⟩
  have HR0 := Lib.hid hr0
  rw [hr0] at B0
  clear hb hr0
  go_enter Tryd.func6, Tryd.ntmps6
  go_wp2_with fail
  rw [HR0.out]
  refine (open_c a n cap _ HY.out hn hcap).mono ?_
  rintro e w1 ⟨g, hg, rfl, hr, hB⟩
  have hrg : r < g := by have := B0.out.lt; omega
  have R1 := Lib.hid hr
  have B1 := Lib.hid (Bx.below B0.out hB)
  have HB1 := Lib.hid (below_next HB0.out hB)
  clear hr hB B0 HB0 HY hg
  go_wp2_with fail
  refine (pick_c g 0 8 _ R1.out (by omega) (by omega)).mono ?_
  rintro e w2 ⟨p, rfl, z0, z1, hr2, hf2, -⟩
  obtain ⟨q, hq⟩ : ∃ q : Nat, 1 + p = q := ⟨(1 + p).toNat, by omega⟩
  have R2 := Lib.hid hr2
  have B2 := Lib.hid (Bx.gr B1.out hf2 (by omega))
  have HF2 := Lib.hid (show Below w.heap.size w w2 from Fr.below HB1.out hf2 (by have := HR0.out; omega))
  have q1 : 1 ≤ q := by omega
  have q8 : q ≤ 8 := by omega
  clear hr2 hf2 R1 B1 HB1
  go_wp2_with fail
  try rw [hq]
  clear hq z0 z1
  refine Calls.mono (l20Calls_c g 1 q 6 _ R2.out (by omega) q1 q8 (by omega) (by omega)) ?_
  intro e w3 hh
  obtain ⟨a1, n1, k1, a2, n2, k2, a3, n3, k3, x, c', rfl, ⟨o1, o2, o3⟩, hl, -, -, hf⟩ := DrawnC.cal hh
  have B3 := Lib.hid (Bx.gr B2.out hf (by omega))
  have HB3 := Lib.hid (show Below w.heap.size w w3 from Fr.below HF2.out hf (by have := HR0.out; omega))
  have hs := Bx.set3 B3.out (.slice a1 n1 k1) (.slice a2 n2 k2) (.slice a3 n3 k3)
  have hlt := B2.out.lt
  have p1 := OwnB.outs o1 hs.2 (fun q hq => by have := (o1.lt q hq).1; omega)
  have p2 := OwnB.outs o2 hs.2 (fun q hq => by have := (o2.lt q hq).1; omega)
  have p3 := OwnB.outs o3 hs.2 (fun q hq => by have := (o3.lt q hq).1; omega)
  have N := Lib.hid (show DrawnCs w (.returned (.agg #[.slice a1 n1 k1, .slice a2 n2 k2, .slice a3 n3 k3])) (((w3.setCell ⟨r, 0, none⟩ (.slice a1 n1 k1)).setCell ⟨r, 1, none⟩ (.slice a2 n2 k2)).setCell ⟨r, 2, none⟩ (.slice a3 n3 k3)) from
    ⟨a1, n1, k1, a2, n2, k2, a3, n3, k3, x, rfl, ⟨OwnB.cal p1, OwnB.cal p2, OwnB.cal p3⟩, hl, Out.below HB3.out hs.2 (by have := HR0.out; omega)⟩)
  obtain ⟨⟨c0, c1, c2⟩, bf⟩ := B3.out
  have f0 := bf 0
  have f1 := bf 1
  have f2 := bf 2
  clear bf hs p1 p2 p3 o1 o2 o3 hh hf hl hlt B2 HF2 R2
  go_wp2_with fail
  exact bodyPost_ret (v := (.agg #[.slice a1 n1 k1, .slice a2 n2 k2, .slice a3 n3 k3])) (by simp [results, Tryd.results6, go_sem, c0, c1, c2]) rfl N.out
end Go.Proofs.YtgenccbpkolmbaaDoor
