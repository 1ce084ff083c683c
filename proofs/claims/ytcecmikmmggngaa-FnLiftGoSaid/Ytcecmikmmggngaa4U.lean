/- What the drawing functions of chapter 4 give: the laws' arguments. -/
import Derived.Test.Ytcecmikmmggngaa4T
namespace Go.Proofs.Ytcecmikmmggngaa
open Go.RowKit
set_option linter.unusedVariables false

def DrawnL0 (w : World) (e : Ending) (w' : World) : Prop := ∃ (b off cap : Nat) (xs : List Int) (a s g o : Int), e = .returned (.tuple #[.slice (some ⟨b, off, none⟩) xs.length cap, (Value.agg #[.int .i64 (a), .int .i64 (s), .int .i64 (g), .int .i64 (o)])]) ∧ LB xs a s g o ∧ xs.length ≤ cap ∧ (cap ≤ maxLen ∧ w.heap.size ≤ b) ∧ Ints w' b off xs ∧ Below w.heap.size w w'
def DrawnL1 (w : World) (e : Ending) (w' : World) : Prop := ∃ (b off cap : Nat) (xs : List Int) (a s g o t : Int), e = .returned (.tuple #[.slice (some ⟨b, off, none⟩) xs.length cap, (Value.agg #[.int .i64 (a), .int .i64 (s), .int .i64 (g), .int .i64 (o)]), .int .i64 t]) ∧ LB xs a s g o ∧ -1 ≤ t ∧ t ≤ 10 ∧ xs.length ≤ cap ∧ (cap ≤ maxLen ∧ w.heap.size ≤ b) ∧ Ints w' b off xs ∧ Below w.heap.size w w'
def DrawnL3 (w : World) (e : Ending) (w' : World) : Prop := ∃ (b off cap : Nat) (xs : List Int) (a s g o t : Int) (u v : Bool), e = .returned (.tuple #[.slice (some ⟨b, off, none⟩) xs.length cap, (Value.agg #[.int .i64 (a), .int .i64 (s), .int .i64 (g), .int .i64 (o)]), .int .i64 t, .bool u, .bool v]) ∧ LB xs a s g o ∧ -1 ≤ t ∧ t ≤ 10 ∧ xs.length ≤ cap ∧ (cap ≤ maxLen ∧ w.heap.size ≤ b) ∧ Ints w' b off xs ∧ Below w.heap.size w w'
set_option maxHeartbeats 2000000 in
theorem DrawLiftValid_c (a : Option Addr) (n cap : Nat) (w : World) (hb : Byt w a n) (hn : n ≤ cap) (hcap : cap ≤ maxLen) :
    Calls Try.prog 11 #[.slice a n cap] w (DrawnL0 w) := by
  have HY : Hid _ := hb.below ((Below.refl _ _).alloc (Nat.le_refl _) (.cells #[.int .i64 (0), .int .i64 (0), .int .i64 (0), .int .i64 (0)] 29))
  obtain ⟨B, hB⟩ : ∃ B, w.heap.size = B := ⟨_, rfl⟩
  have HB : Hid _ := hB
  have B0 : Hid (BoxV (w.alloc (.cells #[.int .i64 (0), .int .i64 (0), .int .i64 (0), .int .i64 (0)] 29)) B (L4 0 0 0 0)) := BoxV.new w _ 29 (by simp) hB
  have T0 : Hid (Below w.heap.size w (w.alloc (.cells #[.int .i64 (0), .int .i64 (0), .int .i64 (0), .int .i64 (0)] 29))) := (by repeat (first | exact Below.refl _ _ | refine Below.al ?_ _ | refine Below.dr ?_ _ | refine Below.dw ?_ | refine Below.st ?_ (by first | exact Nat.le_refl _ | exact Nat.le_add_right _ _ | (simp; omega)) _ | (refine below_next ?_ (by assumption))))
  clear hb hB
  go_enter Try.func11, Try.ntmps11
  go_wp2_with fail
  rw [HB.out]
  refine (open_c a n cap _ HY.out hn hcap).mono ?_
  rintro e w1 ⟨r, hr0, rfl, hr, hBl⟩
  have B1 : Hid _ := BoxV.below B0.out hBl
  have T1 : Hid (Below w.heap.size w w1) := below_next T0.out hBl
  have R1 : Hid _ := hr
  have hBr : B < r := by have := HB.out; simp at hr0; omega
  have hBr' : B ≠ r := by omega
  have hrw : Hid (w.heap.size ≤ r) := (by have := HB.out; omega : w.heap.size ≤ r)
  clear hr hBl hr0
  go_wp2_with fail
  refine (l20Lift_c r 0 1 _ R1.out (by omega) (by omega) (by omega)).mono ?_
  rintro e w2 ⟨b, off, cp, xs, x, s, g, o, c2, rfl, hL, hcl, hcm, ⟨hbr, hbge⟩, hI, hr, hc2, hf⟩
  have hBlt : B < w1.heap.size := BoxV.lt B1.out
  have hbB : b ≠ B := by omega
  have hlen : xs.length ≤ 9 := hL.1
  have HL : Hid _ := hL
  have B2 : Hid _ := BoxV.fr B1.out hf hBr'
  have T2 : Hid (Below w.heap.size w w2) := Fr.below T1.out hf hrw.out
  have I2 : Hid _ := hI
  clear hI hr hf hL
  obtain ⟨⟨c0, c1, c2', c3⟩, f0, f1, f2, f3⟩ := BoxV.c4 B2.out
  go_wp2_with fail
  clear c0 c1 c2' c3
  obtain ⟨⟨c0, c1, c2, c3⟩, _⟩ := BoxV.c4 (BoxV.all4 x s g o B2.out)
  exact bodyPost_ret (v := .tuple #[.slice (some ⟨b, off, none⟩) xs.length cp, (Value.agg #[.int .i64 (x), .int .i64 (s), .int .i64 (g), .int .i64 (o)])]) (by simp [results, Try.results11, go_sem, c0, c1, c2, c3]) rfl ⟨b, off, cp, xs, x, s, g, o, rfl, HL.out, hcl, ⟨hcm, by have q1 := HB.out; omega⟩, Ints.far (Ints.far (Ints.far (Ints.far I2.out hbB) hbB) hbB) hbB, (by have e1 := HB.out; exact Below.st (Below.st (Below.st (Below.st T2.out (Nat.le_of_eq e1) _) (Nat.le_of_eq e1) _) (Nat.le_of_eq e1) _) (Nat.le_of_eq e1) _)⟩
set_option maxHeartbeats 2000000 in
theorem DrawLiftGo_c (a : Option Addr) (n cap : Nat) (w : World) (hb : Byt w a n) (hn : n ≤ cap) (hcap : cap ≤ maxLen) :
    Calls Try.prog 19 #[.slice a n cap] w (DrawnL1 w) := by
  have HY : Hid _ := hb.below ((Below.refl _ _).alloc (Nat.le_refl _) (.cells #[.int .i64 (0), .int .i64 (0), .int .i64 (0), .int .i64 (0)] 29))
  obtain ⟨B, hB⟩ : ∃ B, w.heap.size = B := ⟨_, rfl⟩
  have HB : Hid _ := hB
  have B0 : Hid (BoxV (w.alloc (.cells #[.int .i64 (0), .int .i64 (0), .int .i64 (0), .int .i64 (0)] 29)) B (L4 0 0 0 0)) := BoxV.new w _ 29 (by simp) hB
  have T0 : Hid (Below w.heap.size w (w.alloc (.cells #[.int .i64 (0), .int .i64 (0), .int .i64 (0), .int .i64 (0)] 29))) := (by repeat (first | exact Below.refl _ _ | refine Below.al ?_ _ | refine Below.dr ?_ _ | refine Below.dw ?_ | refine Below.st ?_ (by first | exact Nat.le_refl _ | exact Nat.le_add_right _ _ | (simp; omega)) _ | (refine below_next ?_ (by assumption))))
  clear hb hB
  go_enter Try.func19, Try.ntmps19
  go_wp2_with fail
  rw [HB.out]
  refine (open_c a n cap _ HY.out hn hcap).mono ?_
  rintro e w1 ⟨r, hr0, rfl, hr, hBl⟩
  have B1 : Hid _ := BoxV.below B0.out hBl
  have T1 : Hid (Below w.heap.size w w1) := below_next T0.out hBl
  have R1 : Hid _ := hr
  have hBr : B < r := by have := HB.out; simp at hr0; omega
  have hBr' : B ≠ r := by omega
  have hrw : Hid (w.heap.size ≤ r) := (by have := HB.out; omega : w.heap.size ≤ r)
  clear hr hBl hr0
  go_wp2_with fail
  refine (l20Lift_c r 0 4 _ R1.out (by omega) (by omega) (by omega)).mono ?_
  rintro e w2 ⟨b, off, cp, xs, x, s, g, o, c2, rfl, hL, hcl, hcm, ⟨hbr, hbge⟩, hI, hr, hc2, hf⟩
  have hBlt : B < w1.heap.size := BoxV.lt B1.out
  have hbB : b ≠ B := by omega
  have hlen : xs.length ≤ 9 := hL.1
  have HL : Hid _ := hL
  have hw1 : IntKind.i64.wrap ((xs.length : Int) + 1) = xs.length + 1 := by rw [IntKind.wrap_i64]; omega
  have HW1 : Hid _ := hw1
  clear hw1
  obtain ⟨G, hG⟩ : ∃ G, w2.heap.size = G := ⟨_, rfl⟩
  have HG : Hid _ := hG
  have hrG : r < G := by have := Rd.lt hr; omega
  have hBG : B ≠ G := by omega
  have hGr : G ≠ r := by omega
  have Gc : Hid (BoxV (World.drew (w2.alloc (.cells #[.int .i64 (x), .int .i64 (s), .int .i64 (g), .int .i64 (o)] 29))) G (L4 x s g o)) := BoxV.dw (BoxV.new w2 _ 29 (by simp) hG)
  have Bc : Hid (BoxV (World.drew (w2.alloc (.cells #[.int .i64 (x), .int .i64 (s), .int .i64 (g), .int .i64 (o)] 29))) B (L4 0 0 0 0)) := BoxV.dw (BoxV.al (BoxV.fr B1.out hf hBr') _)
  have Ic : Hid (Ints (World.drew (w2.alloc (.cells #[.int .i64 (x), .int .i64 (s), .int .i64 (g), .int .i64 (o)] 29))) b off xs) := (Ints.below hI ((Below.refl _ _).alloc (Nat.le_refl _) (.cells #[.int .i64 (x), .int .i64 (s), .int .i64 (g), .int .i64 (o)] 29)) : Ints (w2.alloc (.cells #[.int .i64 (x), .int .i64 (s), .int .i64 (g), .int .i64 (o)] 29)) b off xs)
  have Tc : Hid (Below w.heap.size w (World.drew (w2.alloc (.cells #[.int .i64 (x), .int .i64 (s), .int .i64 (g), .int .i64 (o)] 29)))) := Below.dw (Below.al (Fr.below T1.out hf hrw.out) _)
  have Rc : Hid (Rd (World.drew (w2.alloc (.cells #[.int .i64 (x), .int .i64 (s), .int .i64 (g), .int .i64 (o)] 29))) r c2) := Rd.dw (Rd.alloc hr _)
  clear hI hr hf hL hG
  go_wp2_with fail
  rw [HG.out]
  obtain ⟨⟨g0, g1, g2, g3⟩, k0, k1, k2, k3⟩ := BoxV.c4 Gc.out
  obtain ⟨⟨d0, d1, d2, d3⟩, e0, e1, e2, e3⟩ := BoxV.c4 Bc.out
  go_region_with (first | (go_at_call 41; (first | (rw [HW1.out]; refine (pick_c r _ (xs.length + 1) _ Rc.out (by omega) (by omega)).mono ?_; rintro e wp ⟨pa, rfl, p0, p1, hr, hf, _⟩; have hpa : 0 ≤ pa ∧ pa ≤ 10 := (by omega)) | (refine (pick_c r _ 20 _ Rc.out (by omega) (by omega)).mono ?_; rintro e wp ⟨pb, rfl, p0, p1, hr, hf, _⟩; have hpb : 0 ≤ pb ∧ pb ≤ 19 := (by omega))); have Gn : Hid (BoxV wp G (L4 x s g o)) := BoxV.fr Gc.out hf hGr; have Bn : Hid (BoxV wp B (L4 0 0 0 0)) := BoxV.fr Bc.out hf hBr'; have In : Hid (Ints wp b off xs) := Ints.fr Ic.out hf hbr; have Tn : Hid (Below w.heap.size w wp) := Fr.below Tc.out hf hrw.out; have Rn : Hid _ := hr; clear hr hf p0 p1 Gc Bc Ic Tc Rc g0 g1 g2 g3 k0 k1 k2 k3 d0 d1 d2 d3 e0 e1 e2 e3; have Gc := Gn; have Bc := Bn; have Ic := In; have Tc := Tn; have Rc := Rn; clear Gn Bn In Tn Rn; obtain ⟨⟨g0, g1, g2, g3⟩, k0, k1, k2, k3⟩ := BoxV.c4 Gc.out; obtain ⟨⟨d0, d1, d2, d3⟩, e0, e1, e2, e3⟩ := BoxV.c4 Bc.out))
  all_goals
    go_wp2_with fail
    obtain ⟨⟨c0, c1, c2, c3⟩, _⟩ := BoxV.c4 (BoxV.all4 x s g o Bc.out)
    have hq : IntKind.i64.wrap (pa - IntKind.i64.wrap (pb.tdiv 19)) = pa - pb / 19 := by rw [Int.tdiv_eq_ediv_of_nonneg (by omega), IntKind.wrap_i64, IntKind.wrap_i64]; omega
    exact bodyPost_ret (v := .tuple #[.slice (some ⟨b, off, none⟩) xs.length cp, (Value.agg #[.int .i64 (x), .int .i64 (s), .int .i64 (g), .int .i64 (o)]), .int .i64 (pa - pb / 19)]) (by simp [results, Try.results19, go_sem, c0, c1, c2, c3]; exact hq) rfl ⟨b, off, cp, xs, x, s, g, o, _, rfl, HL.out, by omega, by omega, hcl, ⟨hcm, by have q1 := HB.out; omega⟩, Ints.far (Ints.far (Ints.far (Ints.far Ic.out hbB) hbB) hbB) hbB, (by have q1 := HB.out; first | exact Below.st (Below.st (Below.st (Below.st Tc.out (Nat.le_of_eq q1) _) (Nat.le_of_eq q1) _) (Nat.le_of_eq q1) _) (Nat.le_of_eq q1) _ | exact Below.dw (Below.st (Below.st (Below.st (Below.st Tc.out (Nat.le_of_eq q1) _) (Nat.le_of_eq q1) _) (Nat.le_of_eq q1) _) (Nat.le_of_eq q1) _))⟩
set_option maxHeartbeats 4000000 in
theorem DrawLiftStep_c (a : Option Addr) (n cap : Nat) (w : World) (hb : Byt w a n) (hn : n ≤ cap) (hcap : cap ≤ maxLen) :
    Calls Try.prog 16 #[.slice a n cap] w (DrawnL3 w) := by
  have HY : Hid _ := hb.below ((Below.refl _ _).alloc (Nat.le_refl _) (.cells #[.int .i64 (0), .int .i64 (0), .int .i64 (0), .int .i64 (0)] 29))
  obtain ⟨B, hB⟩ : ∃ B, w.heap.size = B := ⟨_, rfl⟩
  have HB : Hid _ := hB
  have B0 : Hid (BoxV (w.alloc (.cells #[.int .i64 (0), .int .i64 (0), .int .i64 (0), .int .i64 (0)] 29)) B (L4 0 0 0 0)) := BoxV.new w _ 29 (by simp) hB
  have T0 : Hid (Below w.heap.size w (w.alloc (.cells #[.int .i64 (0), .int .i64 (0), .int .i64 (0), .int .i64 (0)] 29))) := (by repeat (first | exact Below.refl _ _ | refine Below.al ?_ _ | refine Below.dr ?_ _ | refine Below.dw ?_ | refine Below.st ?_ (by first | exact Nat.le_refl _ | exact Nat.le_add_right _ _ | (simp; omega)) _ | (refine below_next ?_ (by assumption))))
  clear hb hB
  go_enter Try.func16, Try.ntmps16
  go_wp2_with fail
  rw [HB.out]
  refine (open_c a n cap _ HY.out hn hcap).mono ?_
  rintro e w1 ⟨r, hr0, rfl, hr, hBl⟩
  have B1 : Hid _ := BoxV.below B0.out hBl
  have T1 : Hid (Below w.heap.size w w1) := below_next T0.out hBl
  have R1 : Hid _ := hr
  have hBr : B < r := by have := HB.out; simp at hr0; omega
  have hBr' : B ≠ r := by omega
  have hrw : Hid (w.heap.size ≤ r) := (by have := HB.out; omega : w.heap.size ≤ r)
  clear hr hBl hr0
  go_wp2_with fail
  refine (l20Lift_c r 0 4 _ R1.out (by omega) (by omega) (by omega)).mono ?_
  rintro e w2 ⟨b, off, cp, xs, x, s, g, o, c2, rfl, hL, hcl, hcm, ⟨hbr, hbge⟩, hI, hr, hc2, hf⟩
  have hBlt : B < w1.heap.size := BoxV.lt B1.out
  have hbB : b ≠ B := by omega
  have hlen : xs.length ≤ 9 := hL.1
  have HL : Hid _ := hL
  have hw1 : IntKind.i64.wrap ((xs.length : Int) + 1) = xs.length + 1 := by rw [IntKind.wrap_i64]; omega
  have HW1 : Hid _ := hw1
  clear hw1
  obtain ⟨G, hG⟩ : ∃ G, w2.heap.size = G := ⟨_, rfl⟩
  have HG : Hid _ := hG
  have hrG : r < G := by have := Rd.lt hr; omega
  have hBG : B ≠ G := by omega
  have hGr : G ≠ r := by omega
  have Gc : Hid (BoxV (World.drew (w2.alloc (.cells #[.int .i64 (x), .int .i64 (s), .int .i64 (g), .int .i64 (o)] 29))) G (L4 x s g o)) := BoxV.dw (BoxV.new w2 _ 29 (by simp) hG)
  have Bc : Hid (BoxV (World.drew (w2.alloc (.cells #[.int .i64 (x), .int .i64 (s), .int .i64 (g), .int .i64 (o)] 29))) B (L4 0 0 0 0)) := BoxV.dw (BoxV.al (BoxV.fr B1.out hf hBr') _)
  have Ic : Hid (Ints (World.drew (w2.alloc (.cells #[.int .i64 (x), .int .i64 (s), .int .i64 (g), .int .i64 (o)] 29))) b off xs) := (Ints.below hI ((Below.refl _ _).alloc (Nat.le_refl _) (.cells #[.int .i64 (x), .int .i64 (s), .int .i64 (g), .int .i64 (o)] 29)) : Ints (w2.alloc (.cells #[.int .i64 (x), .int .i64 (s), .int .i64 (g), .int .i64 (o)] 29)) b off xs)
  have Tc : Hid (Below w.heap.size w (World.drew (w2.alloc (.cells #[.int .i64 (x), .int .i64 (s), .int .i64 (g), .int .i64 (o)] 29)))) := Below.dw (Below.al (Fr.below T1.out hf hrw.out) _)
  have Rc : Hid (Rd (World.drew (w2.alloc (.cells #[.int .i64 (x), .int .i64 (s), .int .i64 (g), .int .i64 (o)] 29))) r c2) := Rd.dw (Rd.alloc hr _)
  clear hI hr hf hL hG
  go_wp2_with fail
  rw [HG.out]
  obtain ⟨⟨g0, g1, g2, g3⟩, k0, k1, k2, k3⟩ := BoxV.c4 Gc.out
  obtain ⟨⟨d0, d1, d2, d3⟩, e0, e1, e2, e3⟩ := BoxV.c4 Bc.out
  go_region_with (first | (go_at_call 41; (first | (rw [HW1.out]; refine (pick_c r _ (xs.length + 1) _ Rc.out (by omega) (by omega)).mono ?_; rintro e wp ⟨pa, rfl, p0, p1, hr, hf, _⟩; have hpa : 0 ≤ pa ∧ pa ≤ 10 := (by omega)) | (have := hpc; refine (pick_c r _ 3 _ Rc.out (by omega) (by omega)).mono ?_; rintro e wp ⟨pd, rfl, p0, p1, hr, hf, _⟩; skip) | (have := hpb; refine (pick_c r _ 3 _ Rc.out (by omega) (by omega)).mono ?_; rintro e wp ⟨pc, rfl, p0, p1, hr, hf, _⟩; have hpc : 0 ≤ pc := p0) | (refine (pick_c r _ 20 _ Rc.out (by omega) (by omega)).mono ?_; rintro e wp ⟨pb, rfl, p0, p1, hr, hf, _⟩; have hpb : 0 ≤ pb ∧ pb ≤ 19 := (by omega))); have Gn : Hid (BoxV wp G (L4 x s g o)) := BoxV.fr Gc.out hf hGr; have Bn : Hid (BoxV wp B (L4 0 0 0 0)) := BoxV.fr Bc.out hf hBr'; have In : Hid (Ints wp b off xs) := Ints.fr Ic.out hf hbr; have Tn : Hid (Below w.heap.size w wp) := Fr.below Tc.out hf hrw.out; have Rn : Hid _ := hr; clear hr hf p0 p1 Gc Bc Ic Tc Rc g0 g1 g2 g3 k0 k1 k2 k3 d0 d1 d2 d3 e0 e1 e2 e3; have Gc := Gn; have Bc := Bn; have Ic := In; have Tc := Tn; have Rc := Rn; clear Gn Bn In Tn Rn; obtain ⟨⟨g0, g1, g2, g3⟩, k0, k1, k2, k3⟩ := BoxV.c4 Gc.out; obtain ⟨⟨d0, d1, d2, d3⟩, e0, e1, e2, e3⟩ := BoxV.c4 Bc.out))
  all_goals
    go_wp2_with fail
    obtain ⟨⟨c0, c1, c2, c3⟩, _⟩ := BoxV.c4 (BoxV.all4 x s g o Bc.out)
    have hq : IntKind.i64.wrap (pa - IntKind.i64.wrap (pb.tdiv 19)) = pa - pb / 19 := by rw [Int.tdiv_eq_ediv_of_nonneg (by omega), IntKind.wrap_i64, IntKind.wrap_i64]; omega
    exact bodyPost_ret (v := .tuple #[.slice (some ⟨b, off, none⟩) xs.length cp, (Value.agg #[.int .i64 (x), .int .i64 (s), .int .i64 (g), .int .i64 (o)]), .int .i64 (pa - pb / 19), .bool (pc == 0), .bool (pd == 0)]) (by simp [results, Try.results16, go_sem, c0, c1, c2, c3]; exact hq) rfl ⟨b, off, cp, xs, x, s, g, o, _, _, _, rfl, HL.out, by omega, by omega, hcl, ⟨hcm, by have q1 := HB.out; omega⟩, Ints.far (Ints.far (Ints.far (Ints.far Ic.out hbB) hbB) hbB) hbB, (by have q1 := HB.out; first | exact Below.st (Below.st (Below.st (Below.st Tc.out (Nat.le_of_eq q1) _) (Nat.le_of_eq q1) _) (Nat.le_of_eq q1) _) (Nat.le_of_eq q1) _ | exact Below.dw (Below.st (Below.st (Below.st (Below.st Tc.out (Nat.le_of_eq q1) _) (Nat.le_of_eq q1) _) (Nat.le_of_eq q1) _) (Nat.le_of_eq q1) _))⟩
theorem DrawLiftVisit_c (a : Option Addr) (n cap : Nat) (w : World) (hb : Byt w a n) (hn : n ≤ cap) (hcap : cap ≤ maxLen) :
    Calls Try.prog 22 #[.slice a n cap] w (DrawnL1 w) := by
  have HY : Hid _ := hb.below ((Below.refl _ _).alloc (Nat.le_refl _) (.cells #[.int .i64 (0), .int .i64 (0), .int .i64 (0), .int .i64 (0)] 29))
  obtain ⟨B, hB⟩ : ∃ B, w.heap.size = B := ⟨_, rfl⟩
  have HB : Hid _ := hB
  have B0 : Hid (BoxV (w.alloc (.cells #[.int .i64 (0), .int .i64 (0), .int .i64 (0), .int .i64 (0)] 29)) B (L4 0 0 0 0)) := BoxV.new w _ 29 (by simp) hB
  have T0 : Hid (Below w.heap.size w (w.alloc (.cells #[.int .i64 (0), .int .i64 (0), .int .i64 (0), .int .i64 (0)] 29))) := (by repeat (first | exact Below.refl _ _ | refine Below.al ?_ _ | refine Below.dr ?_ _ | refine Below.dw ?_ | refine Below.st ?_ (by first | exact Nat.le_refl _ | exact Nat.le_add_right _ _ | (simp; omega)) _ | (refine below_next ?_ (by assumption))))
  clear hb hB
  go_enter Try.func22, Try.ntmps22
  go_wp2_with fail
  rw [HB.out]
  refine (DrawLiftGo_c a n cap _ HY.out hn hcap).mono ?_
  rintro e w1 ⟨b, off, cp, xs, x, s, g, o, t, rfl, hL, t0, t1, hcl, ⟨hcm, hbge⟩, hI, hBl⟩
  have B1 : Hid _ := BoxV.below B0.out hBl
  have T1 : Hid (Below w.heap.size w w1) := below_next T0.out hBl
  have HL : Hid _ := hL
  have HI : Hid _ := hI
  have hbB : Hid (0 < xs.length → b ≠ B) := (fun _ => by have q1 := HB.out; simp at hbge; omega : 0 < xs.length → b ≠ B)
  clear hBl hL hI
  obtain ⟨⟨d0, d1, d2, d3⟩, e0, e1, e2, e3⟩ := BoxV.c4 B1.out
  go_wp2_with fail
  obtain ⟨⟨c0, c1, c2, c3⟩, _⟩ := BoxV.c4 (BoxV.all4 x s g o B1.out)
  exact bodyPost_ret (v := .tuple #[.slice (some ⟨b, off, none⟩) xs.length cp, (Value.agg #[.int .i64 (x), .int .i64 (s), .int .i64 (g), .int .i64 (o)]), .int .i64 t]) (by simp [results, Try.results22, go_sem, c0, c1, c2, c3]) rfl ⟨b, off, cp, xs, x, s, g, o, t, rfl, HL.out, t0, t1, hcl, ⟨hcm, by simp at hbge; omega⟩, Ints.far' (Ints.far' (Ints.far' (Ints.far' HI.out hbB.out) hbB.out) hbB.out) hbB.out, (by have q1 := HB.out; exact Below.st (Below.st (Below.st (Below.st T1.out (Nat.le_of_eq q1) _) (Nat.le_of_eq q1) _) (Nat.le_of_eq q1) _) (Nat.le_of_eq q1) _)⟩
end Go.Proofs.Ytcecmikmmggngaa
