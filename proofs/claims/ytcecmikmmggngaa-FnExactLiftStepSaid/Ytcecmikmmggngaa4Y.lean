/- The exact law of LiftStep: the walk. -/
import Derived.Test.Ytcecmikmmggngaa4X
namespace Go.Proofs.Ytcecmikmmggngaa
open Go.RowKit
set_option linter.unusedVariables false

set_option maxHeartbeats 8000000 in
theorem xLiftStep_w (p : Option Addr) (cp : Nat) (xs : List Int) (a s g o : Int) (t : Int) (u v : Bool) (w : World) (hx : Sl w p xs) (hm : xs.length ≤ maxLen) (hi : -9223372036854775808 ≤ t ∧ t ≤ 9223372036854775807) :
    Calls Try.prog 8 #[.slice p xs.length cp, (Value.agg #[.int .i64 (a), .int .i64 (s), .int .i64 (g), .int .i64 (o)]), .int .i64 t, .bool u, .bool v] w (LawOk w) := by
  have hm' := hm
  unfold maxLen at hm'
  by_cases b1 : 1048576 < xs.length
  · go_enter Try.func8, Try.ntmps8
    go_wp2_with fail
    go_ret
    exact LawOk.mk (by repeat (first | exact Below.refl _ _ | refine Below.al ?_ _ | refine Below.dr ?_ _ | refine Below.dw ?_ | refine Below.st ?_ (by first | exact Nat.le_refl _ | exact Nat.le_add_right _ _ | (simp; omega)) _ | (refine below_next ?_ (by assumption))))
  obtain ⟨y1, y2, y3, y4, hy⟩ : ∃ y1 y2 y3 y4, lst xs a s g o t u v = (y1, y2, y3, y4) := ⟨_, _, _, _, rfl⟩
  have KS : Hid (∀ (gb cc : Nat) (w : World), Ints w gb 0 xs → Calls Try.prog 18 #[.slice (some ⟨gb, 0, none⟩) xs.length cc, (Value.agg #[.int .i64 (a), .int .i64 (s), .int .i64 (g), .int .i64 (o)]), .int .i64 t, .bool u, .bool v] w (Mk w (Value.agg #[.int .i64 (y1), .int .i64 (y2), .int .i64 (y3), .int .i64 (y4)]))) := fun gb cc w h => by
    have := sLiftStep_c gb 0 cc xs a s g o t u v w h hm; rw [hy] at this; exact this
  have KI : Hid (∀ (gb cc : Nat) (w : World), Ints w gb 0 xs → Calls Try.prog 17 #[.slice (some ⟨gb, 0, none⟩) xs.length cc, (Value.agg #[.int .i64 (a), .int .i64 (s), .int .i64 (g), .int .i64 (o)]), .int .i64 t, .bool u, .bool v] w (Mk w (Value.agg #[.int .i64 (y1), .int .i64 (y2), .int .i64 (y3), .int .i64 (y4)]))) := fun gb cc w h => by
    have := iLiftStep_c gb 0 cc xs a s g o t u v w h hm hi; rw [hy] at this; exact this
  clear hy
  obtain ⟨A, hA⟩ : ∃ A, w.heap.size = A := ⟨_, rfl⟩
  have HA : Hid _ := hA
  have Xc : Hid (Sl (World.drew (w.alloc (.cells #[.int .i64 (a), .int .i64 (s), .int .i64 (g), .int .i64 (o)] 45))) p xs) := (Sl.below hx ((Below.refl _ _).alloc (Nat.le_refl _) (.cells #[.int .i64 (a), .int .i64 (s), .int .i64 (g), .int .i64 (o)] 45)) : Sl (w.alloc (.cells #[.int .i64 (a), .int .i64 (s), .int .i64 (g), .int .i64 (o)] 45)) p xs)
  have Ac : Hid (BoxV (World.drew (w.alloc (.cells #[.int .i64 (a), .int .i64 (s), .int .i64 (g), .int .i64 (o)] 45))) A (L4 a s g o)) := BoxV.dw (BoxV.new w _ 45 (by simp) hA)
  have Tc : Hid (Below w.heap.size w (World.drew (w.alloc (.cells #[.int .i64 (a), .int .i64 (s), .int .i64 (g), .int .i64 (o)] 45)))) := (by repeat (first | exact Below.refl _ _ | refine Below.al ?_ _ | refine Below.dr ?_ _ | refine Below.dw ?_ | refine Below.st ?_ (by first | exact Nat.le_refl _ | exact Nat.le_add_right _ _ | (simp; omega)) _ | (refine below_next ?_ (by assumption))))
  have HX0 : Hid _ := hx
  clear hx hA
  go_enter Try.func8, Try.ntmps8
  go_upto_region 3 with fail
  rw [HA.out]
  obtain ⟨W0, hW0⟩ : ∃ W0, w.alloc (.cells #[.int .i64 (a), .int .i64 (s), .int .i64 (g), .int .i64 (o)] 45) = W0 := ⟨_, rfl⟩
  rw [hW0] at Xc Ac Tc ⊢
  have TW : Hid (Below w.heap.size w W0) := (by rw [← hW0]; exact (by repeat (first | exact Below.refl _ _ | refine Below.al ?_ _ | refine Below.dr ?_ _ | refine Below.dw ?_ | refine Below.st ?_ (by first | exact Nat.le_refl _ | exact Nat.le_add_right _ _ | (simp; omega)) _ | (refine below_next ?_ (by assumption)))))
  clear hW0
  obtain ⟨⟨c0, c1, c2, c3⟩, f0, f1, f2, f3⟩ := BoxV.c4 Ac.out
  obtain ⟨⟨d0, d1, d2, d3⟩, e0, e1, e2, e3⟩ := BoxV.c4 (BoxV.al Ac.out (.cells #[.int .i64 (0), .int .i64 (0), .int .i64 (0), .int .i64 (0)] 29))
  have AW : BoxV W0 A (L4 a s g o) := Ac.out
  obtain ⟨⟨g0, g1, g2, g3⟩, h0, h1, h2, h3⟩ := BoxV.c4 (BoxV.al AW (.cells #[.int .i64 (0), .int .i64 (0), .int .i64 (0), .int .i64 (0)] 29))
  obtain ⟨⟨g4, g5, g6, g7⟩, h4, h5, h6, h7⟩ := BoxV.c4 (BoxV.dw (BoxV.al AW (.cells #[.int .i64 (0), .int .i64 (0), .int .i64 (0), .int .i64 (0)] 29)))
  clear AW
  go_cut [11] from 17 to 24 (fun vv wx => ∃ G, vv = .pointer (some ⟨G, 0, none⟩) ∧ BoxV wx G (L4 y1 y2 y3 y4) ∧ Sl wx p xs ∧ BoxV wx A (L4 a s g o) ∧ Below w.heap.size w wx)
  case first =>
    go_region_with (first | (go_at_call 25; refine (toIntS_c p cp xs _ (by first | exact Xc.out | exact Sl.below Xc.out ((Below.refl _ _).alloc (Nat.le_refl _) (.cells #[.int .i64 (0), .int .i64 (0), .int .i64 (0), .int .i64 (0)] 29))) (by omega)).mono ?_; rintro e wp ⟨gi, hgi, rfl, hI, hb⟩; have Ic : Hid (Ints wp gi 0 xs) := hI; clear hgi hI; (first | (have Zn := BoxV.bel hb Zc.out; have Xn : Hid (Sl wp p xs) := Sl.bel hb Xc.out; have An : Hid (BoxV wp A (L4 a s g o)) := BoxV.bel hb Ac.out; have Tn : Hid (Below w.heap.size w wp) := (by have HZ := Tc.out; have HZ0 := TW.out; exact (by repeat (first | exact Below.refl _ _ | refine Below.al ?_ _ | refine Below.dr ?_ _ | refine Below.dw ?_ | refine Below.st ?_ (by first | exact Nat.le_refl _ | exact Nat.le_add_right _ _ | (simp; omega)) _ | (refine below_next ?_ (by assumption))))); clear Zc z0 z1 z2 z3 k0 k1 k2 k3; clear Xc Ac Tc c0 c1 c2 c3 f0 f1 f2 f3 d0 d1 d2 d3 e0 e1 e2 e3; have Xc := Xn; have Ac := An; have Tc := Tn; clear Xn An Tn; obtain ⟨⟨c0, c1, c2, c3⟩, f0, f1, f2, f3⟩ := BoxV.c4 Ac.out; obtain ⟨⟨d0, d1, d2, d3⟩, e0, e1, e2, e3⟩ := BoxV.c4 (BoxV.al Ac.out (.cells #[.int .i64 (0), .int .i64 (0), .int .i64 (0), .int .i64 (0)] 29)); have Zc : Hid _ := Zn; clear Zn; obtain ⟨⟨z0, z1, z2, z3⟩, k0, k1, k2, k3⟩ := BoxV.c4 Zc.out) | (have Xn : Hid (Sl wp p xs) := Sl.bel hb Xc.out; have An : Hid (BoxV wp A (L4 a s g o)) := BoxV.bel hb Ac.out; have Tn : Hid (Below w.heap.size w wp) := (by have HZ := Tc.out; have HZ0 := TW.out; exact (by repeat (first | exact Below.refl _ _ | refine Below.al ?_ _ | refine Below.dr ?_ _ | refine Below.dw ?_ | refine Below.st ?_ (by first | exact Nat.le_refl _ | exact Nat.le_add_right _ _ | (simp; omega)) _ | (refine below_next ?_ (by assumption))))); clear Xc Ac Tc c0 c1 c2 c3 f0 f1 f2 f3 d0 d1 d2 d3 e0 e1 e2 e3; have Xc := Xn; have Ac := An; have Tc := Tn; clear Xn An Tn; obtain ⟨⟨c0, c1, c2, c3⟩, f0, f1, f2, f3⟩ := BoxV.c4 Ac.out; obtain ⟨⟨d0, d1, d2, d3⟩, e0, e1, e2, e3⟩ := BoxV.c4 (BoxV.al Ac.out (.cells #[.int .i64 (0), .int .i64 (0), .int .i64 (0), .int .i64 (0)] 29)); skip) | (have Xn : Hid (Sl wp p xs) := Sl.bel hb (Sl.below Xc.out ((Below.refl _ _).alloc (Nat.le_refl _) (.cells #[.int .i64 (0), .int .i64 (0), .int .i64 (0), .int .i64 (0)] 29))); have An : Hid (BoxV wp A (L4 a s g o)) := BoxV.bel hb (BoxV.al Ac.out (.cells #[.int .i64 (0), .int .i64 (0), .int .i64 (0), .int .i64 (0)] 29)); (first | (have Zc : Hid (BoxV wp W0.heap.size (L4 0 0 0 0)) := BoxV.bel hb (BoxV.new (World.drew W0) (L4 0 0 0 0) 29 (by simp) rfl); have hAZ : A < W0.heap.size := BoxV.lt Ac.out; have hwZ : w.heap.size ≤ W0.heap.size := Tc.out.size) | (have Zc : Hid _ := BoxV.bel hb (BoxV.new _ (L4 0 0 0 0) 29 (by simp) rfl); have hAZ := BoxV.lt Ac.out; have hwZ := Tc.out.size)); have Tn : Hid (Below w.heap.size w wp) := (by have HZ := Tc.out; have HZ0 := TW.out; exact (by repeat (first | exact Below.refl _ _ | refine Below.al ?_ _ | refine Below.dr ?_ _ | refine Below.dw ?_ | refine Below.st ?_ (by first | exact Nat.le_refl _ | exact Nat.le_add_right _ _ | (simp; omega)) _ | (refine below_next ?_ (by assumption))))); clear Xc Ac Tc c0 c1 c2 c3 f0 f1 f2 f3 d0 d1 d2 d3 e0 e1 e2 e3; have Xc := Xn; have Ac := An; have Tc := Tn; clear Xn An Tn; obtain ⟨⟨c0, c1, c2, c3⟩, f0, f1, f2, f3⟩ := BoxV.c4 Ac.out; obtain ⟨⟨d0, d1, d2, d3⟩, e0, e1, e2, e3⟩ := BoxV.c4 (BoxV.al Ac.out (.cells #[.int .i64 (0), .int .i64 (0), .int .i64 (0), .int .i64 (0)] 29)); obtain ⟨⟨z0, z1, z2, z3⟩, k0, k1, k2, k3⟩ := BoxV.c4 Zc.out)); clear hb) | (go_at_call 26; refine (toLift_c a s g o _).mono ?_; rintro e wp ⟨rfl, hb⟩; have In : Hid (Ints wp gi 0 xs) := Ints.bel hb (by first | exact Ic.out | exact Ints.below Ic.out ((Below.refl _ _).alloc (Nat.le_refl _) (.cells #[.int .i64 (0), .int .i64 (0), .int .i64 (0), .int .i64 (0)] 29))); clear Ic; have Ic := In; clear In; (first | (have Zn := BoxV.bel hb Zc.out; have Xn : Hid (Sl wp p xs) := Sl.bel hb Xc.out; have An : Hid (BoxV wp A (L4 a s g o)) := BoxV.bel hb Ac.out; have Tn : Hid (Below w.heap.size w wp) := (by have HZ := Tc.out; have HZ0 := TW.out; exact (by repeat (first | exact Below.refl _ _ | refine Below.al ?_ _ | refine Below.dr ?_ _ | refine Below.dw ?_ | refine Below.st ?_ (by first | exact Nat.le_refl _ | exact Nat.le_add_right _ _ | (simp; omega)) _ | (refine below_next ?_ (by assumption))))); clear Zc z0 z1 z2 z3 k0 k1 k2 k3; clear Xc Ac Tc c0 c1 c2 c3 f0 f1 f2 f3 d0 d1 d2 d3 e0 e1 e2 e3; have Xc := Xn; have Ac := An; have Tc := Tn; clear Xn An Tn; obtain ⟨⟨c0, c1, c2, c3⟩, f0, f1, f2, f3⟩ := BoxV.c4 Ac.out; obtain ⟨⟨d0, d1, d2, d3⟩, e0, e1, e2, e3⟩ := BoxV.c4 (BoxV.al Ac.out (.cells #[.int .i64 (0), .int .i64 (0), .int .i64 (0), .int .i64 (0)] 29)); have Zc : Hid _ := Zn; clear Zn; obtain ⟨⟨z0, z1, z2, z3⟩, k0, k1, k2, k3⟩ := BoxV.c4 Zc.out) | (have Xn : Hid (Sl wp p xs) := Sl.bel hb Xc.out; have An : Hid (BoxV wp A (L4 a s g o)) := BoxV.bel hb Ac.out; have Tn : Hid (Below w.heap.size w wp) := (by have HZ := Tc.out; have HZ0 := TW.out; exact (by repeat (first | exact Below.refl _ _ | refine Below.al ?_ _ | refine Below.dr ?_ _ | refine Below.dw ?_ | refine Below.st ?_ (by first | exact Nat.le_refl _ | exact Nat.le_add_right _ _ | (simp; omega)) _ | (refine below_next ?_ (by assumption))))); clear Xc Ac Tc c0 c1 c2 c3 f0 f1 f2 f3 d0 d1 d2 d3 e0 e1 e2 e3; have Xc := Xn; have Ac := An; have Tc := Tn; clear Xn An Tn; obtain ⟨⟨c0, c1, c2, c3⟩, f0, f1, f2, f3⟩ := BoxV.c4 Ac.out; obtain ⟨⟨d0, d1, d2, d3⟩, e0, e1, e2, e3⟩ := BoxV.c4 (BoxV.al Ac.out (.cells #[.int .i64 (0), .int .i64 (0), .int .i64 (0), .int .i64 (0)] 29)); skip) | (have Xn : Hid (Sl wp p xs) := Sl.bel hb (Sl.below Xc.out ((Below.refl _ _).alloc (Nat.le_refl _) (.cells #[.int .i64 (0), .int .i64 (0), .int .i64 (0), .int .i64 (0)] 29))); have An : Hid (BoxV wp A (L4 a s g o)) := BoxV.bel hb (BoxV.al Ac.out (.cells #[.int .i64 (0), .int .i64 (0), .int .i64 (0), .int .i64 (0)] 29)); (first | (have Zc : Hid (BoxV wp W0.heap.size (L4 0 0 0 0)) := BoxV.bel hb (BoxV.new (World.drew W0) (L4 0 0 0 0) 29 (by simp) rfl); have hAZ : A < W0.heap.size := BoxV.lt Ac.out; have hwZ : w.heap.size ≤ W0.heap.size := Tc.out.size) | (have Zc : Hid _ := BoxV.bel hb (BoxV.new _ (L4 0 0 0 0) 29 (by simp) rfl); have hAZ := BoxV.lt Ac.out; have hwZ := Tc.out.size)); have Tn : Hid (Below w.heap.size w wp) := (by have HZ := Tc.out; have HZ0 := TW.out; exact (by repeat (first | exact Below.refl _ _ | refine Below.al ?_ _ | refine Below.dr ?_ _ | refine Below.dw ?_ | refine Below.st ?_ (by first | exact Nat.le_refl _ | exact Nat.le_add_right _ _ | (simp; omega)) _ | (refine below_next ?_ (by assumption))))); clear Xc Ac Tc c0 c1 c2 c3 f0 f1 f2 f3 d0 d1 d2 d3 e0 e1 e2 e3; have Xc := Xn; have Ac := An; have Tc := Tn; clear Xn An Tn; obtain ⟨⟨c0, c1, c2, c3⟩, f0, f1, f2, f3⟩ := BoxV.c4 Ac.out; obtain ⟨⟨d0, d1, d2, d3⟩, e0, e1, e2, e3⟩ := BoxV.c4 (BoxV.al Ac.out (.cells #[.int .i64 (0), .int .i64 (0), .int .i64 (0), .int .i64 (0)] 29)); obtain ⟨⟨z0, z1, z2, z3⟩, k0, k1, k2, k3⟩ := BoxV.c4 Zc.out)); clear hb) | (go_at_call 18; refine (KS.out gi _ _ (by first | exact Ic.out | exact Ints.below Ic.out ((Below.refl _ _).alloc (Nat.le_refl _) (.cells #[.int .i64 (0), .int .i64 (0), .int .i64 (0), .int .i64 (0)] 29)))).mono ?_; rintro e wp ⟨rfl, hb⟩; (first | (have Zn := BoxV.bel hb Zc.out; have Xn : Hid (Sl wp p xs) := Sl.bel hb Xc.out; have An : Hid (BoxV wp A (L4 a s g o)) := BoxV.bel hb Ac.out; have Tn : Hid (Below w.heap.size w wp) := (by have HZ := Tc.out; have HZ0 := TW.out; exact (by repeat (first | exact Below.refl _ _ | refine Below.al ?_ _ | refine Below.dr ?_ _ | refine Below.dw ?_ | refine Below.st ?_ (by first | exact Nat.le_refl _ | exact Nat.le_add_right _ _ | (simp; omega)) _ | (refine below_next ?_ (by assumption))))); clear Zc z0 z1 z2 z3 k0 k1 k2 k3; clear Xc Ac Tc c0 c1 c2 c3 f0 f1 f2 f3 d0 d1 d2 d3 e0 e1 e2 e3; have Xc := Xn; have Ac := An; have Tc := Tn; clear Xn An Tn; obtain ⟨⟨c0, c1, c2, c3⟩, f0, f1, f2, f3⟩ := BoxV.c4 Ac.out; obtain ⟨⟨d0, d1, d2, d3⟩, e0, e1, e2, e3⟩ := BoxV.c4 (BoxV.al Ac.out (.cells #[.int .i64 (0), .int .i64 (0), .int .i64 (0), .int .i64 (0)] 29)); have Zc : Hid _ := Zn; clear Zn; obtain ⟨⟨z0, z1, z2, z3⟩, k0, k1, k2, k3⟩ := BoxV.c4 Zc.out) | (have Xn : Hid (Sl wp p xs) := Sl.bel hb Xc.out; have An : Hid (BoxV wp A (L4 a s g o)) := BoxV.bel hb Ac.out; have Tn : Hid (Below w.heap.size w wp) := (by have HZ := Tc.out; have HZ0 := TW.out; exact (by repeat (first | exact Below.refl _ _ | refine Below.al ?_ _ | refine Below.dr ?_ _ | refine Below.dw ?_ | refine Below.st ?_ (by first | exact Nat.le_refl _ | exact Nat.le_add_right _ _ | (simp; omega)) _ | (refine below_next ?_ (by assumption))))); clear Xc Ac Tc c0 c1 c2 c3 f0 f1 f2 f3 d0 d1 d2 d3 e0 e1 e2 e3; have Xc := Xn; have Ac := An; have Tc := Tn; clear Xn An Tn; obtain ⟨⟨c0, c1, c2, c3⟩, f0, f1, f2, f3⟩ := BoxV.c4 Ac.out; obtain ⟨⟨d0, d1, d2, d3⟩, e0, e1, e2, e3⟩ := BoxV.c4 (BoxV.al Ac.out (.cells #[.int .i64 (0), .int .i64 (0), .int .i64 (0), .int .i64 (0)] 29)); skip) | (have Xn : Hid (Sl wp p xs) := Sl.bel hb (Sl.below Xc.out ((Below.refl _ _).alloc (Nat.le_refl _) (.cells #[.int .i64 (0), .int .i64 (0), .int .i64 (0), .int .i64 (0)] 29))); have An : Hid (BoxV wp A (L4 a s g o)) := BoxV.bel hb (BoxV.al Ac.out (.cells #[.int .i64 (0), .int .i64 (0), .int .i64 (0), .int .i64 (0)] 29)); (first | (have Zc : Hid (BoxV wp W0.heap.size (L4 0 0 0 0)) := BoxV.bel hb (BoxV.new (World.drew W0) (L4 0 0 0 0) 29 (by simp) rfl); have hAZ : A < W0.heap.size := BoxV.lt Ac.out; have hwZ : w.heap.size ≤ W0.heap.size := Tc.out.size) | (have Zc : Hid _ := BoxV.bel hb (BoxV.new _ (L4 0 0 0 0) 29 (by simp) rfl); have hAZ := BoxV.lt Ac.out; have hwZ := Tc.out.size)); have Tn : Hid (Below w.heap.size w wp) := (by have HZ := Tc.out; have HZ0 := TW.out; exact (by repeat (first | exact Below.refl _ _ | refine Below.al ?_ _ | refine Below.dr ?_ _ | refine Below.dw ?_ | refine Below.st ?_ (by first | exact Nat.le_refl _ | exact Nat.le_add_right _ _ | (simp; omega)) _ | (refine below_next ?_ (by assumption))))); clear Xc Ac Tc c0 c1 c2 c3 f0 f1 f2 f3 d0 d1 d2 d3 e0 e1 e2 e3; have Xc := Xn; have Ac := An; have Tc := Tn; clear Xn An Tn; obtain ⟨⟨c0, c1, c2, c3⟩, f0, f1, f2, f3⟩ := BoxV.c4 Ac.out; obtain ⟨⟨d0, d1, d2, d3⟩, e0, e1, e2, e3⟩ := BoxV.c4 (BoxV.al Ac.out (.cells #[.int .i64 (0), .int .i64 (0), .int .i64 (0), .int .i64 (0)] 29)); obtain ⟨⟨z0, z1, z2, z3⟩, k0, k1, k2, k3⟩ := BoxV.c4 Zc.out)); clear hb))
    all_goals
      first
      | (have N1 : Hid (BoxV (wp.alloc (.cells #[.int .i64 (y1), .int .i64 (y2), .int .i64 (y3), .int .i64 (y4)] 29)) wp.heap.size (L4 y1 y2 y3 y4)) := BoxV.new wp _ 29 (by simp) rfl
         have X1 : Hid (Sl (wp.alloc (.cells #[.int .i64 (y1), .int .i64 (y2), .int .i64 (y3), .int .i64 (y4)] 29)) p xs) := Sl.below Xc.out ((Below.refl _ _).alloc (Nat.le_refl _) _)
         go_wp2_with fail
         go_meet
         case rel => exact ⟨_, rfl, N1.out, X1.out, BoxV.al Ac.out _, by have HZ := Tc.out; have HZ0 := TW.out; exact (by repeat (first | exact Below.refl _ _ | refine Below.al ?_ _ | refine Below.dr ?_ _ | refine Below.dw ?_ | refine Below.st ?_ (by first | exact Nat.le_refl _ | exact Nat.le_add_right _ _ | (simp; omega)) _ | (refine below_next ?_ (by assumption))))⟩)
      | (have N1 : Hid _ := BoxV.all4 y1 y2 y3 y4 Zc.out
         go_wp2_with fail
         go_meet
         case rel => exact ⟨_, rfl, N1.out, Sl.below HX0.out (by have HZ := Tc.out; have q := hwZ; exact Below.st (Below.st (Below.st (Below.st HZ q _) q _) q _) q _), BoxV.far (BoxV.far (BoxV.far (BoxV.far Ac.out (Nat.ne_of_lt hAZ)) (Nat.ne_of_lt hAZ)) (Nat.ne_of_lt hAZ)) (Nat.ne_of_lt hAZ), (by have HZ := Tc.out; have q := hwZ; exact Below.st (Below.st (Below.st (Below.st HZ q _) q _) q _) q _)⟩)
  case rest =>
    clear Xc Ac Tc c0 c1 c2 c3 f0 f1 f2 f3 d0 d1 d2 d3 e0 e1 e2 e3
    obtain ⟨G, rfl, q1, q2, q3, q4⟩ := hcut
    have N1 : Hid _ := q1
    have X1 : Hid _ := q2
    have A1 : Hid _ := q3
    have T1 : Hid _ := q4
    clear q1 q2 q3 q4
    go_wp2_with fail
    refine (toIntS_c p cp xs _ X1.out (by omega)).mono ?_
    rintro e w2 ⟨g2, hg2, rfl, hI, hb⟩
    have X2 : Hid _ := Sl.below X1.out hb
    have A2 : Hid _ := BoxV.below A1.out hb
    have T2 : Hid (Below w.heap.size w w2) := below_next T1.out hb
    have I2 : Hid _ := hI
    have N2 : Hid _ := BoxV.below N1.out hb
    clear hb hI hg2
    obtain ⟨⟨c0, c1, c2, c3⟩, f0, f1, f2, f3⟩ := BoxV.c4 A2.out
    go_wp2_with fail
    refine (toLift_c a s g o _).mono ?_
    rintro e w3 ⟨rfl, hb⟩
    have X3 : Hid _ := Sl.below X2.out hb
    have T3 : Hid (Below w.heap.size w w3) := below_next T2.out hb
    have I3 : Hid _ := Ints.below I2.out hb
    have N3 : Hid _ := BoxV.below N2.out hb
    clear hb c0 c1 c2 c3 f0 f1 f2 f3
    go_wp2_with fail
    refine (KI.out g2 _ _ I3.out).mono ?_
    rintro e w4 ⟨rfl, hb⟩
    have X4 : Hid _ := Sl.below (Sl.below X3.out hb) ((Below.refl _ _).alloc (Nat.le_refl _) (.cells #[.int .i64 (y1), .int .i64 (y2), .int .i64 (y3), .int .i64 (y4)] 29))
    have T4 : Hid (Below w.heap.size w (w4.alloc (.cells #[.int .i64 (y1), .int .i64 (y2), .int .i64 (y3), .int .i64 (y4)] 29))) := Below.al (below_next T3.out hb) _
    have I4 : Hid _ := Ints.below (Ints.below I3.out hb) ((Below.refl _ _).alloc (Nat.le_refl _) (.cells #[.int .i64 (y1), .int .i64 (y2), .int .i64 (y3), .int .i64 (y4)] 29))
    have N4 : Hid _ := BoxV.al (BoxV.below N3.out hb) (.cells #[.int .i64 (y1), .int .i64 (y2), .int .i64 (y3), .int .i64 (y4)] 29)
    clear hb
    obtain ⟨⟨c0, c1, c2, c3⟩, f0, f1, f2, f3⟩ := BoxV.c4 N4.out
    go_wp2_with fail
    refine (eqLift_c y1 y2 y3 y4 _).mono ?_
    rintro e w5 ⟨rfl, hb⟩
    have X5 : Hid _ := Sl.below X4.out hb
    have T5 : Hid (Below w.heap.size w w5) := below_next T4.out hb
    have I5 : Hid _ := Ints.below I4.out hb
    clear hb c0 c1 c2 c3 f0 f1 f2 f3
    go_wp2_with fail
    refine (toIntS_c p cp xs _ X5.out (by omega)).mono ?_
    rintro e w6 ⟨g6, hg6, rfl, hI, hb⟩
    have T6 : Hid (Below w.heap.size w w6) := below_next T5.out hb
    have I6 : Hid _ := Ints.below I5.out hb
    have J6 : Hid _ := hI
    clear hb hI hg6
    go_wp2_with fail
    refine (eqIntS_c _ _ _ _ _ _ xs _ I6.out J6.out (by omega)).mono ?_
    rintro e w7 ⟨rfl, n7, rfl⟩
    go_wp2_with fail
    go_ret
    exact LawOk.mk (Below.dr T6.out n7)
end Go.Proofs.Ytcecmikmmggngaa
