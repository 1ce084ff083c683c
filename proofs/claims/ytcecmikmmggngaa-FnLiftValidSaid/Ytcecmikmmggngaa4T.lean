/- What the drawing functions of chapter 4 give. -/
import Derived.Test.YtcecmikmmggngaaV
import Derived.Test.YtcecmikmmggngaaT
import Derived.Test.Ytcecmikmmggngaa3T
import Derived.Test.Ytcecmikmmggngaa2U
import Derived.Deep.RegionWith
import Derived.Deep.CutRange
namespace Go.Proofs.Ytcecmikmmggngaa
open Go.RowKit
set_option linter.unusedVariables false

/-- A drawn car with its door, and floors. -/
def LB (xs : List Int) (a s g o : Int) : Prop := xs.length ≤ 9 ∧ (∀ i, i < xs.length → 0 ≤ nth xs i ∧ nth xs i ≤ 1000) ∧ -1 ≤ a ∧ a ≤ 1000 ∧ -6 ≤ s ∧ s ≤ 6 ∧ -1 ≤ g ∧ g ≤ 5 ∧ -1 ≤ o ∧ o ≤ 4
def DrawnL (w : World) (r c d : Nat) (e : Ending) (w' : World) : Prop := ∃ (b off cap : Nat) (xs : List Int) (a s g o : Int) (c' : Nat), e = .returned (.tuple #[.slice (some ⟨b, off, none⟩) xs.length cap, (Value.agg #[.int .i64 (a), .int .i64 (s), .int .i64 (g), .int .i64 (o)])]) ∧ LB xs a s g o ∧ xs.length ≤ cap ∧ cap ≤ maxLen ∧ (b ≠ r ∧ w.heap.size ≤ b) ∧ Ints w' b off xs ∧ Rd w' r c' ∧ c' ≤ c + d ∧ Fr w r w'

/-- A place that a walk has reached while drawing. -/
def Spot (w : World) (r : Nat) (B G b off : Nat) (xs : List Int) (c0 : Nat) (wx : World) : Prop := ∃ (a s g o : Int) (c : Nat), LB xs a s g o ∧ BoxV wx G (L4 a s g o) ∧ BoxV wx B (L4 0 0 0 0) ∧ Ints wx b off xs ∧ Rd wx r c ∧ c ≤ c0 ∧ Fr w r wx
theorem Ints.far' {w : World} {b off c j : Nat} {xs : List Int} {u : Value} (h : Ints w b off xs) (hne : 0 < xs.length → b ≠ c) : Ints (w.setCell ⟨c, j, none⟩ u) b off xs := fun i hi => by
  rw [World.cell?_setCell_other _ _ _ _ (fun e => hne (by omega) (congrArg Addr.block e).symm)]; exact h i hi
theorem spot_put {w wx : World} {r B G b off c c0 : Nat} {xs : List Int} {a s g o a' s' g' o' : Int} (L : LB xs a' s' g' o') (hG : BoxV wx G (L4 a s g o)) (hB : BoxV wx B (L4 0 0 0 0)) (hI : Ints wx b off xs) (hR : Rd wx r c) (hc : c ≤ c0) (hF : Fr w r wx) (h1 : w.heap.size ≤ G) (h2 : r < G) (h3 : B ≠ G) (h4 : 0 < xs.length → b < G) :
    Spot w r B G b off xs c0 ((((wx.setCell ⟨G, 0, none⟩ (.int .i64 a')).setCell ⟨G, 1, none⟩ (.int .i64 s')).setCell ⟨G, 2, none⟩ (.int .i64 g')).setCell ⟨G, 3, none⟩ (.int .i64 o')) :=
  ⟨a', s', g', o', c, L, hG.all4 _ _ _ _, (((hB.far h3).far h3).far h3).far h3, Ints.far' (Ints.far' (Ints.far' (Ints.far' hI (fun e => Nat.ne_of_lt (h4 e))) (fun e => Nat.ne_of_lt (h4 e))) (fun e => Nat.ne_of_lt (h4 e))) (fun e => Nat.ne_of_lt (h4 e)),
    Rd.set (Rd.set (Rd.set (Rd.set hR _ h2) _ h2) _ h2) _ h2, hc, Fr.set (Fr.set (Fr.set (Fr.set hF _ h1) _ h1) _ h1) _ h1⟩
theorem spot_put21 {w wx : World} {r B G b off c c0 : Nat} {xs : List Int} {a s g o a' g' : Int} {s' : Int} (L : LB xs a s' g' o) (hG : BoxV wx G (L4 a s g o)) (hB : BoxV wx B (L4 0 0 0 0)) (hI : Ints wx b off xs) (hR : Rd wx r c) (hc : c ≤ c0) (hF : Fr w r wx) (h1 : w.heap.size ≤ G) (h2 : r < G) (h3 : B ≠ G) (h4 : 0 < xs.length → b < G) :
    Spot w r B G b off xs c0 ((wx.setCell ⟨G, 2, none⟩ (.int .i64 g')).setCell ⟨G, 1, none⟩ (.int .i64 s')) :=
  ⟨a, s', g', o, c, L, (hG.set 2 _ (by simp)).set 1 _ (by simp), (hB.far h3).far h3, Ints.far' (Ints.far' hI (fun e => Nat.ne_of_lt (h4 e))) (fun e => Nat.ne_of_lt (h4 e)),
    Rd.set (Rd.set hR _ h2) _ h2, hc, Fr.set (Fr.set hF _ h1) _ h1⟩
set_option maxHeartbeats 4000000 in
theorem l20Lift_c (r c : Nat) (m : Int) (w : World) (hr : Rd w r c) (hc : c ≤ 10000) (hm0 : 0 < m) (hm1 : m ≤ 1000) :
    Calls Try.prog 29 #[.pointer (some ⟨r, 0, none⟩), .int .i64 m] w (DrawnL w r c 30) := by
  have hrl := hr.lt
  have R0 : Hid _ := Rd.alloc hr (.cells #[.int .i64 (0), .int .i64 (0), .int .i64 (0), .int .i64 (0)] 29)
  have F0 : Hid (Fr w r _) := Fr.alloc (Fr.refl w r) (.cells #[.int .i64 (0), .int .i64 (0), .int .i64 (0), .int .i64 (0)] 29)
  obtain ⟨B, hB⟩ : ∃ B, w.heap.size = B := ⟨_, rfl⟩
  have HB : Hid _ := hB
  have B0 : Hid (BoxV (w.alloc (.cells #[.int .i64 (0), .int .i64 (0), .int .i64 (0), .int .i64 (0)] 29)) B (L4 0 0 0 0)) := BoxV.new w _ 29 (by simp) hB
  rw [hB] at hrl
  clear hr hB
  have hBr : B ≠ r := by omega
  go_enter Try.func29, Try.ntmps29
  go_wp2_with fail
  rw [HB.out]
  refine (l20Floors_c r c (2 * m) _ R0.out (by omega) (by omega) (by omega)).mono ?_
  rintro e w1 ⟨b, off, cap, xs, c1, rfl, hl, hcl, hcm, ⟨hbr, hbge⟩, hx, hs, hr1, hc1, hf1⟩
  have hbB : b ≠ B := by have := HB.out; simp at hbge; omega
  have hbge' : B ≤ b := by have := HB.out; simp at hbge; omega
  have HXB : Hid _ := hx
  have I1 : Hid _ := hs
  have R1 : Hid _ := hr1
  have F1 : Hid (Fr w r w1) := Fr.trans F0.out hf1
  have B1 : Hid _ := BoxV.fr B0.out hf1 hBr
  clear hx hs hr1 hf1 hbge
  go_wp2_with fail
  refine (l20Motion_c r c1 (4 * m) _ R1.out (by omega) (by omega) (by omega)).mono ?_
  rintro e w2 ⟨p, q, c2, rfl, p0, p1, q0, q1, hr2, hc2, hf2⟩
  obtain ⟨G, hG⟩ : ∃ G, w2.heap.size = G := ⟨_, rfl⟩
  have HG : Hid _ := hG
  have hrG : r < G := by have := Rd.lt hr2; omega
  have hBG : B < G := by have := BoxV.lt (BoxV.fr B1.out hf2 hBr); omega
  have hbG : 0 < xs.length → b < G := fun h => by have := Ints.lt (Ints.fr I1.out hf2 hbr) h; omega
  have HbG : Hid _ := hbG
  have G2 : Hid (BoxV (w2.alloc (.cells #[.int .i64 (p), .int .i64 (q), .int .i64 (0), .int .i64 (0)] 29)) G (L4 p q 0 0)) := BoxV.new w2 _ 29 (by simp) hG
  have B2 : Hid _ := BoxV.al (BoxV.fr B1.out hf2 hBr) (.cells #[.int .i64 (p), .int .i64 (q), .int .i64 (0), .int .i64 (0)] 29)
  have I2 : Hid (Ints (w2.alloc (.cells #[.int .i64 (p), .int .i64 (q), .int .i64 (0), .int .i64 (0)] 29)) b off xs) := Ints.below (Ints.fr I1.out hf2 hbr) ((Below.refl _ _).alloc (Nat.le_refl _) _)
  have R2 : Hid _ := Rd.alloc hr2 (.cells #[.int .i64 (p), .int .i64 (q), .int .i64 (0), .int .i64 (0)] 29)
  have F2 : Hid (Fr w r _) := Fr.alloc (Fr.trans F1.out hf2) (.cells #[.int .i64 (p), .int .i64 (q), .int .i64 (0), .int .i64 (0)] 29)
  clear hr2 hf2 hG hbG
  have hGr : G ≠ r := by omega
  have hBG' : B ≠ G := by omega
  have L2 : Hid (LB xs p q 0 0) := (⟨hl, HXB.out, p0, by omega, q0, q1, by omega, by omega, by omega, by omega⟩ : LB xs p q 0 0)
  go_upto_region 3 with fail
  rw [HG.out]
  go_cut [24] from 17 to 24 (fun v wx => ∃ bb, v = .bool bb ∧ (bb = true → 0 < xs.length) ∧ Spot w r B G b off xs (c2 + 1) wx)
  case first =>
    by_cases h0 : 0 < xs.length
    · have h0I : (0 : Int) < (xs.length : Int) := by omega
      go_wp2_with fail
      refine (pick_c r c2 2 _ R2.out (by omega) (by omega)).mono ?_
      rintro e w3 ⟨v, rfl, v0, v1, hr3, hf3, _⟩
      have S3 : Hid (Spot w r B G b off xs (c2 + 1) w3) := (⟨p, q, 0, 0, c2 + 1, L2.out, BoxV.fr G2.out hf3 hGr, BoxV.fr B2.out hf3 hBr, Ints.fr I2.out hf3 hbr, hr3, by omega, Fr.trans F2.out hf3⟩ : Spot w r B G b off xs (c2 + 1) w3)
      clear hr3 hf3 v1
      go_wp2_with fail
      go_meet
      case rel => exact ⟨_, rfl, fun _ => h0, S3.out⟩
    · have h0I : ¬ (0 : Int) < (xs.length : Int) := by omega
      have S3 : Hid (Spot w r B G b off xs (c2 + 1) (w2.alloc (.cells #[.int .i64 (p), .int .i64 (q), .int .i64 (0), .int .i64 (0)] 29))) := (⟨p, q, 0, 0, c2, L2.out, G2.out, B2.out, I2.out, R2.out, by omega, F2.out⟩ : Spot w r B G b off xs (c2 + 1) (w2.alloc (.cells #[.int .i64 (p), .int .i64 (q), .int .i64 (0), .int .i64 (0)] 29)))
      go_wp2_with fail
      go_meet
      case rel => exact ⟨false, rfl, (fun h => by cases h), S3.out⟩
  case rest =>
    clear R2 F2 I2 G2 B2 L2
    obtain ⟨bb, rfl, hbb, hS⟩ := hcut
    have S3 : Hid _ := hS
    clear hS
    go_upto_if 24 with fail
    go_cut [] from 25 to 37 (fun wx => Spot w r B G b off xs (c2 + 7) wx)
    case first =>
      cases bb
      · go_wp2_with fail
        go_meet
        case rel =>
          obtain ⟨a, s, g, o, c3, x0, x1, x2, x3, x4, x5, x6⟩ := S3.out
          exact ⟨a, s, g, o, c3, x0, x1, x2, x3, x4, by omega, x6⟩
      · have h0 := hbb rfl
        obtain ⟨a, s, g, o, c3, x0, x1, x2, x3, x4, x5, x6⟩ := S3.out
        have hw4 : IntKind.i64.wrap (4 * m) = 4 * m := by rw [IntKind.wrap_i64]; omega
        have HW4 : Hid _ := hw4
        clear hw4
        have HB3 := HB.out
        have H4 : 0 < xs.length → b < G := HbG.out
        have Rc : Hid (Rd (World.drew wc) r c3) := Rd.dw x4
        have Gc : Hid (BoxV (World.drew wc) G (L4 a s g o)) := BoxV.dw x1
        have Bc : Hid (BoxV (World.drew wc) B (L4 0 0 0 0)) := BoxV.dw x2
        have Ic : Hid (Ints (World.drew wc) b off xs) := x3
        have Fc : Hid (Fr w r (World.drew wc)) := Fr.dw x6
        have HX := HXB.out
        have HXc : Hid _ := HX
        have h0I : (0 : Int) < (xs.length : Int) := by omega
        have H4' : Hid _ := H4
        obtain ⟨⟨g0, g1, g2, g3⟩, k0, k1, k2, k3⟩ := BoxV.c4 Gc.out
        clear x1 x2 x3 x4 x6 S3 HX H4
        go_wp2_with fail
        go_region_with (first | (go_at_call 41; refine (pick_c r _ xs.length _ Rc.out (by omega) (by omega)).mono ?_; rintro e wp ⟨v, rfl, v0, v1, hr, hf, _⟩; obtain ⟨kk, rfl⟩ := Int.eq_ofNat_of_zero_le v0; have hkk : kk < xs.length := (by omega); have hkI : (kk : Int) < (xs.length : Int) := (by omega); have Gn : Hid (BoxV wp G (L4 a s g o)) := BoxV.fr Gc.out hf hGr; have Bn : Hid (BoxV wp B (L4 0 0 0 0)) := BoxV.fr Bc.out hf hBr; have In : Hid (Ints wp b off xs) := Ints.fr Ic.out hf hbr; have Fn : Hid (Fr w r wp) := Fr.trans Fc.out hf; have Rn : Hid _ := hr; clear hr hf v0 v1 Gc Bc Ic Fc Rc g0 g1 g2 g3 k0 k1 k2 k3; have Gc := Gn; have Bc := Bn; have Ic := In; have Fc := Fn; have Rc := Rn; clear Gn Bn In Fn Rn; have c5 : wp.cell? ⟨b, off + kk, none⟩ = some (.int .i64 (nth xs kk)) := Ic.out kk hkk; obtain ⟨⟨g0, g1, g2, g3⟩, k0, k1, k2, k3⟩ := BoxV.c4 Gc.out) | (go_at_call 59; rw [HW4.out]; refine (l20Door_c r _ (4 * m) _ Rc.out (by omega) (by omega) (by omega)).mono ?_; rintro e wd ⟨ga, oa, cd, rfl, ga0, ga1, oa0, oa1, hr, hcd, hf⟩; have Gn : Hid (BoxV wd G (L4 a s g o)) := BoxV.fr Gc.out hf hGr; have Bn : Hid (BoxV wd B (L4 0 0 0 0)) := BoxV.fr Bc.out hf hBr; have In : Hid (Ints wd b off xs) := Ints.fr Ic.out hf hbr; have Fn : Hid (Fr w r wd) := Fr.trans Fc.out hf; have Rn : Hid _ := hr; clear hr hf Gc Bc Ic Fc Rc g0 g1 g2 g3 k0 k1 k2 k3; have Gc := Gn; have Bc := Bn; have Ic := In; have Fc := Fn; have Rc := Rn; clear Gn Bn In Fn Rn; (try (have c5 : wd.cell? ⟨b, off + kk, none⟩ = some (.int .i64 (nth xs kk)) := Ic.out kk hkk)); obtain ⟨⟨g0, g1, g2, g3⟩, k0, k1, k2, k3⟩ := BoxV.c4 Gc.out))
        all_goals
          go_wp2_with fail
          go_meet
          case rel =>
            have hb5 := HXc.out kk hkk
            exact spot_put (⟨hl, HXc.out, by omega, by omega, by omega, by omega, ga0, ga1, oa0, oa1⟩ : LB xs (nth xs kk) 0 ga oa) Gc.out Bc.out Ic.out Rc.out (by omega) Fc.out (by omega) hrG hBG' H4'.out
    case rest =>
      clear S3 hbb
      have HB3 := HB.out
      obtain ⟨a, s, g, o, c3, x0, x1, x2, x3, x4, x5, x6⟩ := hcut
      have L3 : Hid _ := x0
      have G3 : Hid _ := x1
      have B3 : Hid _ := x2
      have I3 : Hid _ := x3
      have R3 : Hid _ := x4
      have F3 : Hid _ := x6
      clear x0 x1 x2 x3 x4 x6
      go_upto_region 5 with fail
      go_wp2_with fail
      refine (odd_c r _ (4 * m) _ R3.out (by omega) (by omega) (by omega)).mono ?_
      rintro e w5 ⟨ob, j, rfl, hj, hr, hf, _⟩
      have S5 : Hid (Spot w r B G b off xs (c2 + 8) w5) := (⟨a, s, g, o, _, L3.out, BoxV.fr G3.out hf hGr, BoxV.fr B3.out hf hBr, Ints.fr I3.out hf hbr, hr, by omega, Fr.trans F3.out hf⟩ : Spot w r B G b off xs (c2 + 8) w5)
      clear hr hf L3 G3 B3 I3 R3 F3
      go_upto_if 41 with fail
      go_cut [] from 42 to 45 (fun wx => Spot w r B G b off xs (c2 + 8) wx)
      case first =>
        cases ob
        · go_wp2_with fail
          go_meet
          case rel => exact S5.out
        · obtain ⟨a, s, g, o, c3, x0, x1, x2, x3, x4, x5, x6⟩ := S5.out
          obtain ⟨⟨g0, g1, g2, g3⟩, k0, k1, k2, k3⟩ := BoxV.c4 x1
          have L3 : Hid _ := x0
          have G3 : Hid _ := x1
          have B3 : Hid _ := x2
          have I3 : Hid _ := x3
          have R3 : Hid _ := x4
          have F3 : Hid _ := x6
          clear x0 x1 x2 x3 x4 x6
          go_wp2_with fail
          go_meet
          case rel =>
            obtain ⟨y0, y1, y2, y3, y4, y5, y6, y7, y8, y9⟩ := L3.out
            exact spot_put21 (a' := 0) (⟨y0, y1, y2, y3, by omega, by omega, by omega, by omega, y8, y9⟩ : LB xs a 1 2 o) G3.out B3.out I3.out R3.out (by omega) F3.out (by omega) hrG hBG' HbG.out
      case rest =>
        clear S5
        obtain ⟨a, s, g, o, c3, x0, x1, x2, x3, x4, x5, x6⟩ := hcut
        obtain ⟨⟨g0, g1, g2, g3⟩, k0, k1, k2, k3⟩ := BoxV.c4 x1
        obtain ⟨⟨d0, d1, d2, d3⟩, e0, e1, e2, e3⟩ := BoxV.c4 x2
        have L3 : Hid _ := x0
        have G3 : Hid _ := x1
        have B3 : Hid _ := x2
        have I3 : Hid _ := x3
        have R3 : Hid _ := x4
        have F3 : Hid _ := x6
        clear x0 x1 x2 x3 x4 x6
        go_wp2_with fail
        go_region
        all_goals
          go_wp2_with fail
          obtain ⟨⟨c0, c1, c2, c3⟩, _⟩ := BoxV.c4 (BoxV.all4 a s g o B3.out)
          exact bodyPost_ret (v := .tuple #[.slice (some ⟨b, off, none⟩) xs.length cap, (Value.agg #[.int .i64 (a), .int .i64 (s), .int .i64 (g), .int .i64 (o)])]) (by simp [results, Try.results29, go_sem, c0, c1, c2, c3]) rfl ⟨b, off, cap, xs, a, s, g, o, _, rfl, L3.out, hcl, hcm, ⟨hbr, by have e1 := HB.out; omega⟩, Ints.far (Ints.far (Ints.far (Ints.far I3.out hbB) hbB) hbB) hbB, Rd.set (Rd.set (Rd.set (Rd.set R3.out _ hrl) _ hrl) _ hrl) _ hrl, by omega, (by have e1 := HB.out; first | exact Fr.dw (Fr.set (Fr.set (Fr.set (Fr.set F3.out _ (Nat.le_of_eq e1)) _ (Nat.le_of_eq e1)) _ (Nat.le_of_eq e1)) _ (Nat.le_of_eq e1)) | exact Fr.set (Fr.set (Fr.set (Fr.set F3.out _ (Nat.le_of_eq e1)) _ (Nat.le_of_eq e1)) _ (Nat.le_of_eq e1)) _ (Nat.le_of_eq e1))⟩
end Go.Proofs.Ytcecmikmmggngaa
