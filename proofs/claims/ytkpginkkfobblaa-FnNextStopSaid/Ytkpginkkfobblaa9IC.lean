/- NextStop and ServeStop of the program. -/
import Derived.Test.Ytkpginkkfobblaa9IB
namespace Go.Proofs.Ytkpginkkfobblaa
open Go.RowKit
set_option linter.unusedVariables false

theorem tvF_some {o : Option (Nat × Bool)} (h : o.isSome = true) : oF o = tvF o ∧ oD o = tvD o := by
  cases o with
  | none => cases h
  | some r => exact ⟨rfl, rfl⟩
theorem none_of {o : Option (Nat × Bool)} (h : o.isSome = false) : o = none := by cases o with
  | none => rfl
  | some r => cases h
theorem CV.plen {x : Cs} {n1 n2 n3 : Nat} {a1 a2 a3 : Option Addr} {w : World} (hv : CV x) (h : Cal w a1 n1 a2 n2 a3 n3 x) : n1 = n3 ∧ n2 = n3 ∧ 1 ≤ n3 ∧ n3 ≤ 8 ∧ x.c.length = n3 := by
  have l1 := h.1.1
  have l2 := h.2.1.1
  have l3 := h.2.2.1
  have v1 := hv.1
  have v2 := hv.2.1
  have v3 := hv.2.2.1
  have v4 := hv.2.2.2.1
  exact ⟨by omega, by omega, by omega, by omega, by omega⟩
set_option maxHeartbeats 2000000 in
theorem iNextStop_f (a1 : Option Addr) (n1 k1 : Nat) (a2 : Option Addr) (n2 k2 : Nat) (a3 : Option Addr) (n3 k3 : Nat) (x : Cs) (f d : Int) (w : World) (hX : Cal w a1 n1 a2 n2 a3 n3 x) (h : ¬ SK x f d) : Calls Try.prog 10 #[(.agg #[.slice a1 n1 k1, .slice a2 n2 k2, .slice a3 n3 k3]), (Value.agg #[.int .i64 (f), .int .i64 (d)])] w (Mk w (Value.agg #[.int .i64 (-1), .int .i64 (0)])) := by
  have X0 := Lib.hid hX
  by_cases hv : CV x
  case neg =>
    have HS := Lib.hid hv
    clear h hv hX
    refine at_base fun wn hwn => ?_
    have T := Lib.hid (show Below w.heap.size w wn from by rw [hwn]; exact Below.refl _ _)
    clear hwn
    obtain ⟨g, hg⟩ : ∃ g, Array.size (World.heap wn) = g := ⟨_, rfl⟩
    have HGg := Lib.hid hg
    have hTg : w.heap.size ≤ g := by rw [← hg]; exact T.out.size
    have Tn := Lib.hid (show Below w.heap.size w (((wn.alloc (.cells #[.slice a1 n1 k1, .slice a2 n2 k2, .slice a3 n3 k3] 25)).alloc (.cells #[.int .i64 (f), .int .i64 (d)] 27)).alloc (.cells #[.int .i64 (0), .int .i64 (0)] 27)) from (Below.al (Below.al (Below.al T.out (.cells #[.slice a1 n1 k1, .slice a2 n2 k2, .slice a3 n3 k3] 25)) (.cells #[.int .i64 (f), .int .i64 (d)] 27)) (.cells #[.int .i64 (0), .int .i64 (0)] 27)))
    have CB := Lib.hid (show Bx (((wn.alloc (.cells #[.slice a1 n1 k1, .slice a2 n2 k2, .slice a3 n3 k3] 25)).alloc (.cells #[.int .i64 (f), .int .i64 (d)] 27)).alloc (.cells #[.int .i64 (0), .int .i64 (0)] 27)) g (.slice a1 n1 k1) (.slice a2 n2 k2) (.slice a3 n3 k3) from by have h9 := (Bx.al (Bx.al (Bx.new wn (.slice a1 n1 k1) (.slice a2 n2 k2) (.slice a3 n3 k3) 25) (.cells #[.int .i64 (f), .int .i64 (d)] 27)) (.cells #[.int .i64 (0), .int .i64 (0)] 27)); simp only [World.size_alloc, hg, Nat.add_assoc, Nat.reduceAdd] at h9; exact h9)
    have SB := Lib.hid (show Box (((wn.alloc (.cells #[.slice a1 n1 k1, .slice a2 n2 k2, .slice a3 n3 k3] 25)).alloc (.cells #[.int .i64 (f), .int .i64 (d)] 27)).alloc (.cells #[.int .i64 (0), .int .i64 (0)] 27)) (g + 1) (f) (d) from by have h9 := (Box.al (Box.new (wn.alloc (.cells #[.slice a1 n1 k1, .slice a2 n2 k2, .slice a3 n3 k3] 25)) (f) (d) 27) (.cells #[.int .i64 (0), .int .i64 (0)] 27)); simp only [World.size_alloc, hg, Nat.add_assoc, Nat.reduceAdd] at h9; exact h9)
    have RB := Lib.hid (show Box (((wn.alloc (.cells #[.slice a1 n1 k1, .slice a2 n2 k2, .slice a3 n3 k3] 25)).alloc (.cells #[.int .i64 (f), .int .i64 (d)] 27)).alloc (.cells #[.int .i64 (0), .int .i64 (0)] 27)) (g + 2) (0) (0) from by have h9 := (Box.new ((wn.alloc (.cells #[.slice a1 n1 k1, .slice a2 n2 k2, .slice a3 n3 k3] 25)).alloc (.cells #[.int .i64 (f), .int .i64 (d)] 27)) (0) (0) 27); simp only [World.size_alloc, hg, Nat.add_assoc, Nat.reduceAdd] at h9; exact h9)
    have HZg := Lib.hid (show ((((wn.alloc (.cells #[.slice a1 n1 k1, .slice a2 n2 k2, .slice a3 n3 k3] 25)).alloc (.cells #[.int .i64 (f), .int .i64 (d)] 27)).alloc (.cells #[.int .i64 (0), .int .i64 (0)] 27))).heap.size = g + 3 from by simp only [World.size_alloc, hg, Nat.add_assoc, Nat.reduceAdd])
    clear hg
    clear T
    have T := Tn
    clear Tn
    go_enter Try.func10, Try.ntmps10
    obtain ⟨⟨c0, c1, c2⟩, -⟩ := CB.out
    go_wp2_with fail
    rw [HGg.out]
    refine Calls.mono (iCallsValid_f a1 n1 k1 a2 n2 k2 a3 n3 k3 x _ (Cal.below X0.out T.out) HS.out) ?_
    intro e wn hh
    obtain ⟨he, hb⟩ := (by first | exact hh | exact Ro.mk hh | exact St.mk hh | exact LawOk.mk' hh : Mk _ _ e wn)
    subst he
    have Tn : Hid (Below w.heap.size w wn) := below_next T.out hb
    have CBn : Hid _ := Bx.below CB.out hb
    have SBn : Hid _ := Box.below SB.out hb
    have RBn : Hid _ := Box.below RB.out hb
    clear hb hh c0 c1 c2
    clear T CB SB RB
    have T := Tn
    have CB := CBn
    have SB := SBn
    have RB := RBn
    clear Tn CBn SBn RBn
    obtain ⟨⟨c0, c1⟩, f0, f1⟩ := RB.out
    go_wp2_with fail
    exact bodyPost_ret (v := (Value.agg #[.int .i64 (-1), .int .i64 (0)])) (by simp [results, Try.results10, go_sem, c0, c1]) rfl (Mk.ag (rfl) (rfl) (by have HZ := T.out; exact (by repeat (first | exact Below.refl _ _ | refine Below.al ?_ _ | refine Below.dr ?_ _ | refine Below.dw ?_ | refine Below.st ?_ (by first | exact Nat.le_refl _ | exact Nat.le_add_right _ _ | (simp; omega)) _ | (refine below_next ?_ (by assumption))))))
  obtain ⟨rfl, rfl, q1, q8, q3⟩ := CV.plen hv hX
  have HS := Lib.hid hv
  have HP := Lib.hid (show ¬ PL n2 f d from fun g => h ⟨hv, ⟨g.1, by rw [q3]; exact g.2.1⟩, g.2.2⟩)
  clear h hv hX q3
  refine at_base fun wn hwn => ?_
  have T := Lib.hid (show Below w.heap.size w wn from by rw [hwn]; exact Below.refl _ _)
  clear hwn
  obtain ⟨g, hg⟩ : ∃ g, Array.size (World.heap wn) = g := ⟨_, rfl⟩
  have HGg := Lib.hid hg
  have hTg : w.heap.size ≤ g := by rw [← hg]; exact T.out.size
  have Tn := Lib.hid (show Below w.heap.size w (((wn.alloc (.cells #[.slice a1 n2 k1, .slice a2 n2 k2, .slice a3 n2 k3] 25)).alloc (.cells #[.int .i64 (f), .int .i64 (d)] 27)).alloc (.cells #[.int .i64 (0), .int .i64 (0)] 27)) from (Below.al (Below.al (Below.al T.out (.cells #[.slice a1 n2 k1, .slice a2 n2 k2, .slice a3 n2 k3] 25)) (.cells #[.int .i64 (f), .int .i64 (d)] 27)) (.cells #[.int .i64 (0), .int .i64 (0)] 27)))
  have CB := Lib.hid (show Bx (((wn.alloc (.cells #[.slice a1 n2 k1, .slice a2 n2 k2, .slice a3 n2 k3] 25)).alloc (.cells #[.int .i64 (f), .int .i64 (d)] 27)).alloc (.cells #[.int .i64 (0), .int .i64 (0)] 27)) g (.slice a1 n2 k1) (.slice a2 n2 k2) (.slice a3 n2 k3) from by have h9 := (Bx.al (Bx.al (Bx.new wn (.slice a1 n2 k1) (.slice a2 n2 k2) (.slice a3 n2 k3) 25) (.cells #[.int .i64 (f), .int .i64 (d)] 27)) (.cells #[.int .i64 (0), .int .i64 (0)] 27)); simp only [World.size_alloc, hg, Nat.add_assoc, Nat.reduceAdd] at h9; exact h9)
  have SB := Lib.hid (show Box (((wn.alloc (.cells #[.slice a1 n2 k1, .slice a2 n2 k2, .slice a3 n2 k3] 25)).alloc (.cells #[.int .i64 (f), .int .i64 (d)] 27)).alloc (.cells #[.int .i64 (0), .int .i64 (0)] 27)) (g + 1) (f) (d) from by have h9 := (Box.al (Box.new (wn.alloc (.cells #[.slice a1 n2 k1, .slice a2 n2 k2, .slice a3 n2 k3] 25)) (f) (d) 27) (.cells #[.int .i64 (0), .int .i64 (0)] 27)); simp only [World.size_alloc, hg, Nat.add_assoc, Nat.reduceAdd] at h9; exact h9)
  have RB := Lib.hid (show Box (((wn.alloc (.cells #[.slice a1 n2 k1, .slice a2 n2 k2, .slice a3 n2 k3] 25)).alloc (.cells #[.int .i64 (f), .int .i64 (d)] 27)).alloc (.cells #[.int .i64 (0), .int .i64 (0)] 27)) (g + 2) (0) (0) from by have h9 := (Box.new ((wn.alloc (.cells #[.slice a1 n2 k1, .slice a2 n2 k2, .slice a3 n2 k3] 25)).alloc (.cells #[.int .i64 (f), .int .i64 (d)] 27)) (0) (0) 27); simp only [World.size_alloc, hg, Nat.add_assoc, Nat.reduceAdd] at h9; exact h9)
  have HZg := Lib.hid (show ((((wn.alloc (.cells #[.slice a1 n2 k1, .slice a2 n2 k2, .slice a3 n2 k3] 25)).alloc (.cells #[.int .i64 (f), .int .i64 (d)] 27)).alloc (.cells #[.int .i64 (0), .int .i64 (0)] 27))).heap.size = g + 3 from by simp only [World.size_alloc, hg, Nat.add_assoc, Nat.reduceAdd])
  clear hg
  clear T
  have T := Tn
  clear Tn
  go_enter Try.func10, Try.ntmps10
  obtain ⟨⟨c0, c1, c2⟩, -⟩ := CB.out
  go_wp2_with fail
  rw [HGg.out]
  refine Calls.mono (iCallsValid_t a1 n2 k1 a2 n2 k2 a3 n2 k3 x _ (Cal.below X0.out T.out) HS.out) ?_
  intro e wn hh
  obtain ⟨he, hb⟩ := (by first | exact hh | exact Ro.mk hh | exact St.mk hh | exact LawOk.mk' hh : Mk _ _ e wn)
  subst he
  have Tn : Hid (Below w.heap.size w wn) := below_next T.out hb
  have CBn : Hid _ := Bx.below CB.out hb
  have SBn : Hid _ := Box.below SB.out hb
  have RBn : Hid _ := Box.below RB.out hb
  clear hb hh c0 c1 c2
  clear T CB SB RB
  have T := Tn
  have CB := CBn
  have SB := SBn
  have RB := RBn
  clear Tn CBn SBn RBn
  obtain ⟨⟨c0, c1, c2⟩, -⟩ := CB.out
  obtain ⟨⟨d0, d1⟩, df0, df1⟩ := SB.out
  go_wp2_with fail
  refine Calls.mono (isPlace_f n2 f d _ q8 HP.out) ?_
  intro e wn hh
  obtain ⟨he, hb⟩ := (by first | exact hh | exact Ro.mk hh | exact St.mk hh | exact LawOk.mk' hh : Mk _ _ e wn)
  subst he
  have Tn : Hid (Below w.heap.size w wn) := below_next T.out hb
  have CBn : Hid _ := Bx.below CB.out hb
  have SBn : Hid _ := Box.below SB.out hb
  have RBn : Hid _ := Box.below RB.out hb
  clear hb hh c0 c1 c2 d0 d1 df0 df1
  clear T CB SB RB
  have T := Tn
  have CB := CBn
  have SB := SBn
  have RB := RBn
  clear Tn CBn SBn RBn
  obtain ⟨⟨c0, c1⟩, f0, f1⟩ := RB.out
  go_wp2_with fail
  exact bodyPost_ret (v := (Value.agg #[.int .i64 (-1), .int .i64 (0)])) (by simp [results, Try.results10, go_sem, c0, c1]) rfl (Mk.ag (rfl) (rfl) (by have HZ := T.out; exact (by repeat (first | exact Below.refl _ _ | refine Below.al ?_ _ | refine Below.dr ?_ _ | refine Below.dw ?_ | refine Below.st ?_ (by first | exact Nat.le_refl _ | exact Nat.le_add_right _ _ | (simp; omega)) _ | (refine below_next ?_ (by assumption))))))
set_option maxHeartbeats 4000000 in
theorem iNextStop_t (a1 : Option Addr) (n1 k1 : Nat) (a2 : Option Addr) (n2 k2 : Nat) (a3 : Option Addr) (n3 k3 : Nat) (x : Cs) (f : Nat) (up : Bool) (w : World) (hX : Cal w a1 n1 a2 n2 a3 n3 x) (h : SK x f (dI up)) : Calls Try.prog 10 #[(.agg #[.slice a1 n1 k1, .slice a2 n2 k2, .slice a3 n3 k3]), (Value.agg #[.int .i64 (f), .int .i64 (dI up)])] w (Mk w (Value.agg #[.int .i64 (oF (nx x f up)), .int .i64 (oD (nx x f up))])) := by
  have X0 := Lib.hid hX
  have hv := h.1
  obtain ⟨rfl, rfl, q1, q8, q3⟩ := CV.plen hv hX
  have hf : f < n2 := by have := h.2.1.2; omega
  have HS := Lib.hid hv
  have HP := Lib.hid (show PL n2 f (dI up) from ⟨by omega, by omega, h.2.2⟩)
  obtain ⟨d1, d2, d3⟩ := dI_bd up
  obtain ⟨D, hD⟩ : ∃ D, dI up = D := ⟨_, rfl⟩
  rw [hD] at HP d1 d2 d3
  have HD := Lib.hid hD
  have HD3 := Lib.hid d3
  rw [hD]
  clear h hv hX q3 hD d3
  refine at_base fun wn hwn => ?_
  have T := Lib.hid (show Below w.heap.size w wn from by rw [hwn]; exact Below.refl _ _)
  clear hwn
  obtain ⟨g, hg⟩ : ∃ g, Array.size (World.heap wn) = g := ⟨_, rfl⟩
  have HGg := Lib.hid hg
  have hTg : w.heap.size ≤ g := by rw [← hg]; exact T.out.size
  have Tn := Lib.hid (show Below w.heap.size w (((wn.alloc (.cells #[.slice a1 n2 k1, .slice a2 n2 k2, .slice a3 n2 k3] 25)).alloc (.cells #[.int .i64 (f), .int .i64 (D)] 27)).alloc (.cells #[.int .i64 (0), .int .i64 (0)] 27)) from (Below.al (Below.al (Below.al T.out (.cells #[.slice a1 n2 k1, .slice a2 n2 k2, .slice a3 n2 k3] 25)) (.cells #[.int .i64 (f), .int .i64 (D)] 27)) (.cells #[.int .i64 (0), .int .i64 (0)] 27)))
  have CB := Lib.hid (show Bx (((wn.alloc (.cells #[.slice a1 n2 k1, .slice a2 n2 k2, .slice a3 n2 k3] 25)).alloc (.cells #[.int .i64 (f), .int .i64 (D)] 27)).alloc (.cells #[.int .i64 (0), .int .i64 (0)] 27)) g (.slice a1 n2 k1) (.slice a2 n2 k2) (.slice a3 n2 k3) from by have h9 := (Bx.al (Bx.al (Bx.new wn (.slice a1 n2 k1) (.slice a2 n2 k2) (.slice a3 n2 k3) 25) (.cells #[.int .i64 (f), .int .i64 (D)] 27)) (.cells #[.int .i64 (0), .int .i64 (0)] 27)); simp only [World.size_alloc, hg, Nat.add_assoc, Nat.reduceAdd] at h9; exact h9)
  have SB := Lib.hid (show Box (((wn.alloc (.cells #[.slice a1 n2 k1, .slice a2 n2 k2, .slice a3 n2 k3] 25)).alloc (.cells #[.int .i64 (f), .int .i64 (D)] 27)).alloc (.cells #[.int .i64 (0), .int .i64 (0)] 27)) (g + 1) (f) (D) from by have h9 := (Box.al (Box.new (wn.alloc (.cells #[.slice a1 n2 k1, .slice a2 n2 k2, .slice a3 n2 k3] 25)) (f) (D) 27) (.cells #[.int .i64 (0), .int .i64 (0)] 27)); simp only [World.size_alloc, hg, Nat.add_assoc, Nat.reduceAdd] at h9; exact h9)
  have RB := Lib.hid (show Box (((wn.alloc (.cells #[.slice a1 n2 k1, .slice a2 n2 k2, .slice a3 n2 k3] 25)).alloc (.cells #[.int .i64 (f), .int .i64 (D)] 27)).alloc (.cells #[.int .i64 (0), .int .i64 (0)] 27)) (g + 2) (0) (0) from by have h9 := (Box.new ((wn.alloc (.cells #[.slice a1 n2 k1, .slice a2 n2 k2, .slice a3 n2 k3] 25)).alloc (.cells #[.int .i64 (f), .int .i64 (D)] 27)) (0) (0) 27); simp only [World.size_alloc, hg, Nat.add_assoc, Nat.reduceAdd] at h9; exact h9)
  have HZg := Lib.hid (show ((((wn.alloc (.cells #[.slice a1 n2 k1, .slice a2 n2 k2, .slice a3 n2 k3] 25)).alloc (.cells #[.int .i64 (f), .int .i64 (D)] 27)).alloc (.cells #[.int .i64 (0), .int .i64 (0)] 27))).heap.size = g + 3 from by simp only [World.size_alloc, hg, Nat.add_assoc, Nat.reduceAdd])
  clear hg
  clear T
  have T := Tn
  clear Tn
  go_enter Try.func10, Try.ntmps10
  obtain ⟨⟨c0, c1, c2⟩, -⟩ := CB.out
  go_wp2_with fail
  rw [HGg.out]
  refine Calls.mono (iCallsValid_t a1 n2 k1 a2 n2 k2 a3 n2 k3 x _ (Cal.below X0.out T.out) HS.out) ?_
  intro e wn hh
  obtain ⟨he, hb⟩ := (by first | exact hh | exact Ro.mk hh | exact St.mk hh | exact LawOk.mk' hh : Mk _ _ e wn)
  subst he
  have Tn : Hid (Below w.heap.size w wn) := below_next T.out hb
  have CBn : Hid _ := Bx.below CB.out hb
  have SBn : Hid _ := Box.below SB.out hb
  have RBn : Hid _ := Box.below RB.out hb
  clear hb hh c0 c1 c2
  clear T CB SB RB
  have T := Tn
  have CB := CBn
  have SB := SBn
  have RB := RBn
  clear Tn CBn SBn RBn
  obtain ⟨⟨c0, c1, c2⟩, -⟩ := CB.out
  obtain ⟨⟨d0, d1⟩, df0, df1⟩ := SB.out
  go_wp2_with fail
  refine Calls.mono (isPlace_t n2 f D _ q8 HP.out) ?_
  intro e wn hh
  obtain ⟨he, hb⟩ := (by first | exact hh | exact Ro.mk hh | exact St.mk hh | exact LawOk.mk' hh : Mk _ _ e wn)
  subst he
  have Tn : Hid (Below w.heap.size w wn) := below_next T.out hb
  have CBn : Hid _ := Bx.below CB.out hb
  have SBn : Hid _ := Box.below SB.out hb
  have RBn : Hid _ := Box.below RB.out hb
  clear hb hh c0 c1 c2 d0 d1 df0 df1
  clear T CB SB RB
  have T := Tn
  have CB := CBn
  have SB := SBn
  have RB := RBn
  clear Tn CBn SBn RBn
  obtain ⟨⟨d0, d1⟩, df0, df1⟩ := SB.out
  go_wp2_with fail
  go_loopw [24] (fun v wr => ∃ (t : Nat) (u : Bool), t ≤ 2 ∧ v = .int .i64 t ∧ LP x f up t u ∧ Below w.heap.size w wr ∧ Bx wr g (.slice a1 n2 k1) (.slice a2 n2 k2) (.slice a3 n2 k3) ∧ Box wr (g + 1) (f) (D) ∧ Box wr (g + 2) (0) (0)) (fun v _ => 2 - (intOf v).toNat)
  case atStart => exact ⟨0, up, by omega, rfl, .inl ⟨rfl, rfl⟩, T.out, CB.out, SB.out, RB.out⟩
  case' round =>
    clear T CB SB RB d0 d1 df0 df1
    obtain ⟨t, u, ht, rfl, hL, h9T, h9CB, h9SB, h9RB⟩ := hrel
    obtain ⟨wn, hwq⟩ : ∃ w0 : World, w0 = wr := ⟨_, rfl⟩
    rw [← hwq] at h9T h9CB h9SB h9RB ⊢
    clear hwq
    have T := Lib.hid h9T
    have CB := Lib.hid h9CB
    have SB := Lib.hid h9SB
    have RB := Lib.hid h9RB
    clear h9T h9CB h9SB h9RB
    have HL := Lib.hid hL
    clear hL
    by_cases hlt : t < 2
    case neg =>
      obtain rfl : t = 2 := by omega
      have E2 := Lib.hid (LP.end HL.out)
      obtain ⟨⟨c0, c1⟩, f0, f1⟩ := RB.out
      go_wp2_with fail
      exact bodyPost_ret (v := (Value.agg #[.int .i64 (-1), .int .i64 (0)])) (by simp [results, Try.results10, go_sem, c0, c1]) rfl (Mk.ag (by rw [E2.out]; rfl) (by rw [E2.out]; rfl) (by have HZ := T.out; exact (by repeat (first | exact Below.refl _ _ | refine Below.al ?_ _ | refine Below.dr ?_ _ | refine Below.dw ?_ | refine Below.st ?_ (by first | exact Nat.le_refl _ | exact Nat.le_add_right _ _ | (simp; omega)) _ | (refine below_next ?_ (by assumption))))))
    have KU : ∀ (D' : Int), dI u = D' → ∀ w' (h : Cal w' a1 n2 a2 n2 a3 n2 x), Calls Try.prog 37 #[.agg #[.slice a1 n2 k1, .slice a2 n2 k2, .slice a3 n2 k3], .int .i64 f, .int .i64 D'] w' (Mk w' (.tuple #[(Value.agg #[.int .i64 (tvF (nx1 x f u)), .int .i64 (tvD (nx1 x f u))]), .bool (nx1 x f u).isSome])) :=
      fun D' h w' hc => stopToward_c a1 k1 a2 k2 a3 k3 n2 x f u D' w' hc q8 hf h
    have hsome : (nx1 x f u).isSome = true → nx x f up = nx1 x f u := fun h => by
      obtain ⟨r, hr⟩ := Option.isSome_iff_exists.1 h
      rw [hr]; exact LP.some HL.out hlt hr
    have hnone : (nx1 x f u).isSome = false → LP x f up (t + 1) (!u) := fun h => LP.next HL.out hlt (none_of h)
    have hsm : (nx1 x f u).isSome = true → oF (nx1 x f u) = tvF (nx1 x f u) ∧ oD (nx1 x f u) = tvD (nx1 x f u) := tvF_some
    have HU := Lib.hid (show (t = 0 → dI u = D) ∧ (t = 1 → dI u = -D) from by
      rcases HL.out with ⟨e, rfl⟩ | ⟨e, rfl, -⟩ | ⟨e, -⟩
      · exact ⟨fun _ => HD.out, fun e2 => by omega⟩
      · exact ⟨fun e2 => by omega, fun _ => by rw [HD3.out]⟩
      · exact ⟨fun e2 => by omega, fun e2 => by omega⟩)
    obtain ⟨R, hR⟩ : ∃ R, nx1 x f u = R := ⟨_, rfl⟩
    rw [hR] at KU hsome hnone hsm
    obtain ⟨F', hF'⟩ : ∃ F', tvF R = F' := ⟨_, rfl⟩
    obtain ⟨D', hD'⟩ : ∃ D', tvD R = D' := ⟨_, rfl⟩
    obtain ⟨b, hb'⟩ : ∃ b, R.isSome = b := ⟨_, rfl⟩
    rw [hF', hD', hb'] at KU
    rw [hb'] at hsome hnone hsm
    rw [hF', hD'] at hsm
    have HKU := Lib.hid KU
    have HSO := Lib.hid hsome
    have HNO := Lib.hid hnone
    have HSM := Lib.hid hsm
    clear KU hsome hnone hsm hR hF' hD' hb' HL
    rcases (by omega : t = 0 ∨ t = 1) with rfl | rfl
    · have KK := Lib.hid (HKU.out D (HU.out.1 rfl))
      clear HKU HU
      have hix : ∀ w' : World, Sem.run Try.prog (Instr.index 54 (.agg #[.int .i64 D, .int .i64 (-D)]) (.int .i64 0)) w' = .ok (.int .i64 D) w' := fun _ => rfl
      obtain ⟨⟨c0, c1, c2⟩, -⟩ := CB.out
      obtain ⟨⟨d0, d1⟩, df0, df1⟩ := SB.out
      go_wp2_with fail
      refine Calls.mono (KK.out _ (Cal.below X0.out T.out)) ?_
      intro e wn hh
      obtain ⟨he, hb⟩ := (by first | exact hh | exact Ro.mk hh | exact St.mk hh | exact LawOk.mk' hh : Mk _ _ e wn)
      subst he
      have Tn : Hid (Below w.heap.size w wn) := below_next T.out hb
      have CBn : Hid _ := Bx.below CB.out hb
      have SBn : Hid _ := Box.below SB.out hb
      have RBn : Hid _ := Box.below RB.out hb
      clear hb hh c0 c1 c2 d0 d1 df0 df1
      clear T CB SB RB
      have T := Tn
      have CB := CBn
      have SB := SBn
      have RB := RBn
      clear Tn CBn SBn RBn
      have HT0 := Lib.hid T.out
      have hltCBHT := Bx.lt CB.out
      have hltSBHT := Box.lt SB.out
      have hltRBHT := Box.lt RB.out
      have hWHT := T.out.size
      obtain ⟨HT, hHT⟩ : ∃ HT, Array.size (World.heap wn) = HT := ⟨_, rfl⟩
      have HHT : Hid _ := hHT
      rw [hHT] at hWHT hltCBHT hltSBHT hltRBHT
      have NB : Hid (Box (wn.alloc (.cells #[.int .i64 F', .int .i64 D'] 27)) HT F' D') := by rw [← hHT]; exact Box.new _ _ _ _
      clear hHT
      have Tn : Hid (Below w.heap.size w _) := Below.al T.out (.cells #[.int .i64 F', .int .i64 D'] 27)
      have CBn : Hid _ := Bx.below CB.out ((Below.refl _ _).alloc (Nat.le_refl _) (.cells #[.int .i64 F', .int .i64 D'] 27))
      have SBn : Hid _ := Box.below SB.out ((Below.refl _ _).alloc (Nat.le_refl _) (.cells #[.int .i64 F', .int .i64 D'] 27))
      have RBn : Hid _ := Box.below RB.out ((Below.refl _ _).alloc (Nat.le_refl _) (.cells #[.int .i64 F', .int .i64 D'] 27))
      clear T CB SB RB
      have T := Tn
      have CB := CBn
      have SB := SBn
      have RB := RBn
      clear Tn CBn SBn RBn
      cases b
      case true =>
        have E2 := Lib.hid (show oF (nx x f up) = F' ∧ oD (nx x f up) = D' from by rw [HSO.out rfl]; exact HSM.out rfl)
        obtain ⟨⟨e0, e1⟩, ef0, ef1⟩ := NB.out
        have HZ0 := HT0.out
        obtain ⟨⟨c0, c1⟩, f0, f1⟩ := RB.out
        go_wp2_with fail
        exact bodyPost_ret (v := (Value.agg #[.int .i64 (F'), .int .i64 (D')])) (by simp [results, Try.results10, go_sem, c0, c1]) rfl (Mk.ag (E2.out.1) (E2.out.2) (by have HZ := T.out; exact (by repeat (first | exact Below.refl _ _ | refine Below.al ?_ _ | refine Below.dr ?_ _ | refine Below.dw ?_ | refine Below.st ?_ (by first | exact Nat.le_refl _ | exact Nat.le_add_right _ _ | (simp; omega)) _ | (refine below_next ?_ (by assumption))))))
      case false =>
        have HL := Lib.hid (HNO.out rfl)
        go_wp2_with fail
        go_roundw
        case rel => exact ⟨1, !u, by omega, by go_num, HL.out, T.out, CB.out, SB.out, RB.out⟩
        case measure => first | (simp [intOf]; done) | (simp [intOf]; omega) | omega
    · have KK := Lib.hid (HKU.out (-D) (HU.out.2 rfl))
      clear HKU HU
      have hix : ∀ w' : World, Sem.run Try.prog (Instr.index 54 (.agg #[.int .i64 D, .int .i64 (-D)]) (.int .i64 1)) w' = .ok (.int .i64 (-D)) w' := fun _ => rfl
      obtain ⟨⟨c0, c1, c2⟩, -⟩ := CB.out
      obtain ⟨⟨d0, d1⟩, df0, df1⟩ := SB.out
      go_wp2_with fail
      refine Calls.mono (KK.out _ (Cal.below X0.out T.out)) ?_
      intro e wn hh
      obtain ⟨he, hb⟩ := (by first | exact hh | exact Ro.mk hh | exact St.mk hh | exact LawOk.mk' hh : Mk _ _ e wn)
      subst he
      have Tn : Hid (Below w.heap.size w wn) := below_next T.out hb
      have CBn : Hid _ := Bx.below CB.out hb
      have SBn : Hid _ := Box.below SB.out hb
      have RBn : Hid _ := Box.below RB.out hb
      clear hb hh c0 c1 c2 d0 d1 df0 df1
      clear T CB SB RB
      have T := Tn
      have CB := CBn
      have SB := SBn
      have RB := RBn
      clear Tn CBn SBn RBn
      have HT0 := Lib.hid T.out
      have hltCBHT := Bx.lt CB.out
      have hltSBHT := Box.lt SB.out
      have hltRBHT := Box.lt RB.out
      have hWHT := T.out.size
      obtain ⟨HT, hHT⟩ : ∃ HT, Array.size (World.heap wn) = HT := ⟨_, rfl⟩
      have HHT : Hid _ := hHT
      rw [hHT] at hWHT hltCBHT hltSBHT hltRBHT
      have NB : Hid (Box (wn.alloc (.cells #[.int .i64 F', .int .i64 D'] 27)) HT F' D') := by rw [← hHT]; exact Box.new _ _ _ _
      clear hHT
      have Tn : Hid (Below w.heap.size w _) := Below.al T.out (.cells #[.int .i64 F', .int .i64 D'] 27)
      have CBn : Hid _ := Bx.below CB.out ((Below.refl _ _).alloc (Nat.le_refl _) (.cells #[.int .i64 F', .int .i64 D'] 27))
      have SBn : Hid _ := Box.below SB.out ((Below.refl _ _).alloc (Nat.le_refl _) (.cells #[.int .i64 F', .int .i64 D'] 27))
      have RBn : Hid _ := Box.below RB.out ((Below.refl _ _).alloc (Nat.le_refl _) (.cells #[.int .i64 F', .int .i64 D'] 27))
      clear T CB SB RB
      have T := Tn
      have CB := CBn
      have SB := SBn
      have RB := RBn
      clear Tn CBn SBn RBn
      cases b
      case true =>
        have E2 := Lib.hid (show oF (nx x f up) = F' ∧ oD (nx x f up) = D' from by rw [HSO.out rfl]; exact HSM.out rfl)
        obtain ⟨⟨e0, e1⟩, ef0, ef1⟩ := NB.out
        have HZ0 := HT0.out
        obtain ⟨⟨c0, c1⟩, f0, f1⟩ := RB.out
        go_wp2_with fail
        exact bodyPost_ret (v := (Value.agg #[.int .i64 (F'), .int .i64 (D')])) (by simp [results, Try.results10, go_sem, c0, c1]) rfl (Mk.ag (E2.out.1) (E2.out.2) (by have HZ := T.out; exact (by repeat (first | exact Below.refl _ _ | refine Below.al ?_ _ | refine Below.dr ?_ _ | refine Below.dw ?_ | refine Below.st ?_ (by first | exact Nat.le_refl _ | exact Nat.le_add_right _ _ | (simp; omega)) _ | (refine below_next ?_ (by assumption))))))
      case false =>
        have HL := Lib.hid (HNO.out rfl)
        go_wp2_with fail
        go_roundw
        case rel => exact ⟨2, !u, by omega, by go_num, HL.out, T.out, CB.out, SB.out, RB.out⟩
        case measure => first | (simp [intOf]; done) | (simp [intOf]; omega) | omega
theorem iNextStop_c (a1 : Option Addr) (n1 k1 : Nat) (a2 : Option Addr) (n2 k2 : Nat) (a3 : Option Addr) (n3 k3 : Nat) (x : Cs) (f d : Int) (w : World) (hX : Cal w a1 n1 a2 n2 a3 n3 x) : Calls Try.prog 10 #[(.agg #[.slice a1 n1 k1, .slice a2 n2 k2, .slice a3 n3 k3]), (Value.agg #[.int .i64 (f), .int .i64 (d)])] w (Mk w (Value.agg #[.int .i64 (oF (nsv x f d)), .int .i64 (oD (nsv x f d))])) := by
  by_cases h : SK x f d
  · obtain ⟨f, up, rfl, hf, rfl⟩ := SK.dir h
    rw [nsv_t h]
    exact iNextStop_t a1 n1 k1 a2 n2 k2 a3 n3 k3 x f up w hX h
  · rw [nsv_f h]
    exact iNextStop_f a1 n1 k1 a2 n2 k2 a3 n3 k3 x f d w hX h
set_option maxHeartbeats 2000000 in
theorem iServeStop_f (a1 : Option Addr) (n1 k1 : Nat) (a2 : Option Addr) (n2 k2 : Nat) (a3 : Option Addr) (n3 k3 : Nat) (x : Cs) (f d : Int) (w : World) (hX : Cal w a1 n1 a2 n2 a3 n3 x) (h : ¬ SK x f d) : Calls Try.prog 15 #[(.agg #[.slice a1 n1 k1, .slice a2 n2 k2, .slice a3 n3 k3]), (Value.agg #[.int .i64 (f), .int .i64 (d)])] w (NewC w cz id) := by
  have X0 := Lib.hid hX
  by_cases hv : CV x
  case neg =>
    have HS := Lib.hid hv
    clear h hv hX
    refine at_base fun wn hwn => ?_
    have T := Lib.hid (show Below w.heap.size w wn from by rw [hwn]; exact Below.refl _ _)
    clear hwn
    obtain ⟨g, hg⟩ : ∃ g, Array.size (World.heap wn) = g := ⟨_, rfl⟩
    have HGg := Lib.hid hg
    have hTg : w.heap.size ≤ g := by rw [← hg]; exact T.out.size
    have Tn := Lib.hid (show Below w.heap.size w (((wn.alloc (.cells #[.slice a1 n1 k1, .slice a2 n2 k2, .slice a3 n3 k3] 25)).alloc (.cells #[.int .i64 (f), .int .i64 (d)] 27)).alloc (.cells #[.slice none 0 0, .slice none 0 0, .slice none 0 0] 25)) from (Below.al (Below.al (Below.al T.out (.cells #[.slice a1 n1 k1, .slice a2 n2 k2, .slice a3 n3 k3] 25)) (.cells #[.int .i64 (f), .int .i64 (d)] 27)) (.cells #[.slice none 0 0, .slice none 0 0, .slice none 0 0] 25)))
    have CB := Lib.hid (show Bx (((wn.alloc (.cells #[.slice a1 n1 k1, .slice a2 n2 k2, .slice a3 n3 k3] 25)).alloc (.cells #[.int .i64 (f), .int .i64 (d)] 27)).alloc (.cells #[.slice none 0 0, .slice none 0 0, .slice none 0 0] 25)) g (.slice a1 n1 k1) (.slice a2 n2 k2) (.slice a3 n3 k3) from by have h9 := (Bx.al (Bx.al (Bx.new wn (.slice a1 n1 k1) (.slice a2 n2 k2) (.slice a3 n3 k3) 25) (.cells #[.int .i64 (f), .int .i64 (d)] 27)) (.cells #[.slice none 0 0, .slice none 0 0, .slice none 0 0] 25)); simp only [World.size_alloc, hg, Nat.add_assoc, Nat.reduceAdd] at h9; exact h9)
    have SB := Lib.hid (show Box (((wn.alloc (.cells #[.slice a1 n1 k1, .slice a2 n2 k2, .slice a3 n3 k3] 25)).alloc (.cells #[.int .i64 (f), .int .i64 (d)] 27)).alloc (.cells #[.slice none 0 0, .slice none 0 0, .slice none 0 0] 25)) (g + 1) (f) (d) from by have h9 := (Box.al (Box.new (wn.alloc (.cells #[.slice a1 n1 k1, .slice a2 n2 k2, .slice a3 n3 k3] 25)) (f) (d) 27) (.cells #[.slice none 0 0, .slice none 0 0, .slice none 0 0] 25)); simp only [World.size_alloc, hg, Nat.add_assoc, Nat.reduceAdd] at h9; exact h9)
    have RB := Lib.hid (show Bx (((wn.alloc (.cells #[.slice a1 n1 k1, .slice a2 n2 k2, .slice a3 n3 k3] 25)).alloc (.cells #[.int .i64 (f), .int .i64 (d)] 27)).alloc (.cells #[.slice none 0 0, .slice none 0 0, .slice none 0 0] 25)) (g + 2) (.slice none 0 0) (.slice none 0 0) (.slice none 0 0) from by have h9 := (Bx.new ((wn.alloc (.cells #[.slice a1 n1 k1, .slice a2 n2 k2, .slice a3 n3 k3] 25)).alloc (.cells #[.int .i64 (f), .int .i64 (d)] 27)) (.slice none 0 0) (.slice none 0 0) (.slice none 0 0) 25); simp only [World.size_alloc, hg, Nat.add_assoc, Nat.reduceAdd] at h9; exact h9)
    have HZg := Lib.hid (show ((((wn.alloc (.cells #[.slice a1 n1 k1, .slice a2 n2 k2, .slice a3 n3 k3] 25)).alloc (.cells #[.int .i64 (f), .int .i64 (d)] 27)).alloc (.cells #[.slice none 0 0, .slice none 0 0, .slice none 0 0] 25))).heap.size = g + 3 from by simp only [World.size_alloc, hg, Nat.add_assoc, Nat.reduceAdd])
    clear hg
    clear T
    have T := Tn
    clear Tn
    go_enter Try.func15, Try.ntmps15
    obtain ⟨⟨c0, c1, c2⟩, -⟩ := CB.out
    go_wp2_with fail
    rw [HGg.out]
    refine Calls.mono (iCallsValid_f a1 n1 k1 a2 n2 k2 a3 n3 k3 x _ (Cal.below X0.out T.out) HS.out) ?_
    intro e wn hh
    obtain ⟨he, hb⟩ := (by first | exact hh | exact Ro.mk hh | exact St.mk hh | exact LawOk.mk' hh : Mk _ _ e wn)
    subst he
    have Tn : Hid (Below w.heap.size w wn) := below_next T.out hb
    have CBn : Hid _ := Bx.below CB.out hb
    have SBn : Hid _ := Box.below SB.out hb
    have RBn : Hid _ := Bx.below RB.out hb
    clear hb hh c0 c1 c2
    clear T CB SB RB
    have T := Tn
    have CB := CBn
    have SB := SBn
    have RB := RBn
    clear Tn CBn SBn RBn
    obtain ⟨⟨c0, c1, c2⟩, hf⟩ := RB.out
    have f0 := hf 0
    have f1 := hf 1
    have f2 := hf 2
    clear hf
    go_wp2_with fail
    have N := newC_zero (r := g + 2) T.out (by omega) id
    exact bodyPost_ret (v := .agg #[.slice none 0 0, .slice none 0 0, .slice none 0 0]) (by simp [results, Try.results15, go_sem, c0, c1, c2]) rfl N
  obtain ⟨rfl, rfl, q1, q8, q3⟩ := CV.plen hv hX
  have HS := Lib.hid hv
  have HP := Lib.hid (show ¬ PL n2 f d from fun g => h ⟨hv, ⟨g.1, by rw [q3]; exact g.2.1⟩, g.2.2⟩)
  clear h hv hX q3
  refine at_base fun wn hwn => ?_
  have T := Lib.hid (show Below w.heap.size w wn from by rw [hwn]; exact Below.refl _ _)
  clear hwn
  obtain ⟨g, hg⟩ : ∃ g, Array.size (World.heap wn) = g := ⟨_, rfl⟩
  have HGg := Lib.hid hg
  have hTg : w.heap.size ≤ g := by rw [← hg]; exact T.out.size
  have Tn := Lib.hid (show Below w.heap.size w (((wn.alloc (.cells #[.slice a1 n2 k1, .slice a2 n2 k2, .slice a3 n2 k3] 25)).alloc (.cells #[.int .i64 (f), .int .i64 (d)] 27)).alloc (.cells #[.slice none 0 0, .slice none 0 0, .slice none 0 0] 25)) from (Below.al (Below.al (Below.al T.out (.cells #[.slice a1 n2 k1, .slice a2 n2 k2, .slice a3 n2 k3] 25)) (.cells #[.int .i64 (f), .int .i64 (d)] 27)) (.cells #[.slice none 0 0, .slice none 0 0, .slice none 0 0] 25)))
  have CB := Lib.hid (show Bx (((wn.alloc (.cells #[.slice a1 n2 k1, .slice a2 n2 k2, .slice a3 n2 k3] 25)).alloc (.cells #[.int .i64 (f), .int .i64 (d)] 27)).alloc (.cells #[.slice none 0 0, .slice none 0 0, .slice none 0 0] 25)) g (.slice a1 n2 k1) (.slice a2 n2 k2) (.slice a3 n2 k3) from by have h9 := (Bx.al (Bx.al (Bx.new wn (.slice a1 n2 k1) (.slice a2 n2 k2) (.slice a3 n2 k3) 25) (.cells #[.int .i64 (f), .int .i64 (d)] 27)) (.cells #[.slice none 0 0, .slice none 0 0, .slice none 0 0] 25)); simp only [World.size_alloc, hg, Nat.add_assoc, Nat.reduceAdd] at h9; exact h9)
  have SB := Lib.hid (show Box (((wn.alloc (.cells #[.slice a1 n2 k1, .slice a2 n2 k2, .slice a3 n2 k3] 25)).alloc (.cells #[.int .i64 (f), .int .i64 (d)] 27)).alloc (.cells #[.slice none 0 0, .slice none 0 0, .slice none 0 0] 25)) (g + 1) (f) (d) from by have h9 := (Box.al (Box.new (wn.alloc (.cells #[.slice a1 n2 k1, .slice a2 n2 k2, .slice a3 n2 k3] 25)) (f) (d) 27) (.cells #[.slice none 0 0, .slice none 0 0, .slice none 0 0] 25)); simp only [World.size_alloc, hg, Nat.add_assoc, Nat.reduceAdd] at h9; exact h9)
  have RB := Lib.hid (show Bx (((wn.alloc (.cells #[.slice a1 n2 k1, .slice a2 n2 k2, .slice a3 n2 k3] 25)).alloc (.cells #[.int .i64 (f), .int .i64 (d)] 27)).alloc (.cells #[.slice none 0 0, .slice none 0 0, .slice none 0 0] 25)) (g + 2) (.slice none 0 0) (.slice none 0 0) (.slice none 0 0) from by have h9 := (Bx.new ((wn.alloc (.cells #[.slice a1 n2 k1, .slice a2 n2 k2, .slice a3 n2 k3] 25)).alloc (.cells #[.int .i64 (f), .int .i64 (d)] 27)) (.slice none 0 0) (.slice none 0 0) (.slice none 0 0) 25); simp only [World.size_alloc, hg, Nat.add_assoc, Nat.reduceAdd] at h9; exact h9)
  have HZg := Lib.hid (show ((((wn.alloc (.cells #[.slice a1 n2 k1, .slice a2 n2 k2, .slice a3 n2 k3] 25)).alloc (.cells #[.int .i64 (f), .int .i64 (d)] 27)).alloc (.cells #[.slice none 0 0, .slice none 0 0, .slice none 0 0] 25))).heap.size = g + 3 from by simp only [World.size_alloc, hg, Nat.add_assoc, Nat.reduceAdd])
  clear hg
  clear T
  have T := Tn
  clear Tn
  go_enter Try.func15, Try.ntmps15
  obtain ⟨⟨c0, c1, c2⟩, -⟩ := CB.out
  go_wp2_with fail
  rw [HGg.out]
  refine Calls.mono (iCallsValid_t a1 n2 k1 a2 n2 k2 a3 n2 k3 x _ (Cal.below X0.out T.out) HS.out) ?_
  intro e wn hh
  obtain ⟨he, hb⟩ := (by first | exact hh | exact Ro.mk hh | exact St.mk hh | exact LawOk.mk' hh : Mk _ _ e wn)
  subst he
  have Tn : Hid (Below w.heap.size w wn) := below_next T.out hb
  have CBn : Hid _ := Bx.below CB.out hb
  have SBn : Hid _ := Box.below SB.out hb
  have RBn : Hid _ := Bx.below RB.out hb
  clear hb hh c0 c1 c2
  clear T CB SB RB
  have T := Tn
  have CB := CBn
  have SB := SBn
  have RB := RBn
  clear Tn CBn SBn RBn
  obtain ⟨⟨c0, c1, c2⟩, -⟩ := CB.out
  obtain ⟨⟨d0, d1⟩, df0, df1⟩ := SB.out
  go_wp2_with fail
  refine Calls.mono (isPlace_f n2 f d _ q8 HP.out) ?_
  intro e wn hh
  obtain ⟨he, hb⟩ := (by first | exact hh | exact Ro.mk hh | exact St.mk hh | exact LawOk.mk' hh : Mk _ _ e wn)
  subst he
  have Tn : Hid (Below w.heap.size w wn) := below_next T.out hb
  have CBn : Hid _ := Bx.below CB.out hb
  have SBn : Hid _ := Box.below SB.out hb
  have RBn : Hid _ := Bx.below RB.out hb
  clear hb hh c0 c1 c2 d0 d1 df0 df1
  clear T CB SB RB
  have T := Tn
  have CB := CBn
  have SB := SBn
  have RB := RBn
  clear Tn CBn SBn RBn
  obtain ⟨⟨c0, c1, c2⟩, hf⟩ := RB.out
  have f0 := hf 0
  have f1 := hf 1
  have f2 := hf 2
  clear hf
  go_wp2_with fail
  have N := newC_zero (r := g + 2) T.out (by omega) id
  exact bodyPost_ret (v := .agg #[.slice none 0 0, .slice none 0 0, .slice none 0 0]) (by simp [results, Try.results15, go_sem, c0, c1, c2]) rfl N
set_option maxHeartbeats 4000000 in
theorem iServeStop_u (a1 : Option Addr) (n1 k1 : Nat) (a2 : Option Addr) (n2 k2 : Nat) (a3 : Option Addr) (n3 k3 : Nat) (x : Cs) (f : Nat) (w : World) (hX : Cal w a1 n1 a2 n2 a3 n3 x) (h : SK x f (1)) : Calls Try.prog 15 #[(.agg #[.slice a1 n1 k1, .slice a2 n2 k2, .slice a3 n3 k3]), (Value.agg #[.int .i64 (f), .int .i64 (1)])] w (NewC w (srv x f true) id) := by
  have X0 := Lib.hid hX
  have hv := h.1
  obtain ⟨rfl, rfl, q1, q8, q3⟩ := CV.plen hv hX
  have hf : f < n2 := by have := h.2.1.2; omega
  have hfi : (f : Int) < 8 := by omega
  have hfi0 : (0 : Int) ≤ f := by omega
  have HS := Lib.hid hv
  have HP := Lib.hid (show PL n2 f (1) from ⟨by omega, by omega, h.2.2⟩)
  have l1 := hX.1.1
  have l2 := hX.2.1.1
  have l3 := hX.2.2.1
  obtain ⟨lp1, lp2, lp3⟩ := srv_len x f true
  have HY := Lib.hid (csOf_rw3 (x := srv x f true) q8 (by omega) (by omega) (by omega))
  have P1 := Lib.hid (fun i hi => rw3_put (x := x) (k := 2) (j := f) false (by omega) hf q8 l1 l2 l3 i hi)
  obtain ⟨m1, m2, m3⟩ := cput_len x 2 f false
  have P2 := Lib.hid (fun i hi => rw3_put (x := cput x 2 f false) (k := 0) (j := f) false (by omega) hf q8 (by omega) (by omega) (by omega) i hi)
  have HL := Lib.hid (show (srv x f true).u.length = n2 ∧ (srv x f true).d.length = n2 ∧ (srv x f true).c.length = n2 from ⟨by omega, by omega, by omega⟩)
  clear h hv hX q3 l1 l2 l3 lp1 lp2 lp3 m1 m2 m3
  refine at_base fun wn hwn => ?_
  have T := Lib.hid (show Below w.heap.size w wn from by rw [hwn]; exact Below.refl _ _)
  clear hwn
  obtain ⟨g, hg⟩ : ∃ g, Array.size (World.heap wn) = g := ⟨_, rfl⟩
  have HGg := Lib.hid hg
  have hTg : w.heap.size ≤ g := by rw [← hg]; exact T.out.size
  have Tn := Lib.hid (show Below w.heap.size w (((wn.alloc (.cells #[.slice a1 n2 k1, .slice a2 n2 k2, .slice a3 n2 k3] 25)).alloc (.cells #[.int .i64 (f), .int .i64 (1)] 27)).alloc (.cells #[.slice none 0 0, .slice none 0 0, .slice none 0 0] 25)) from (Below.al (Below.al (Below.al T.out (.cells #[.slice a1 n2 k1, .slice a2 n2 k2, .slice a3 n2 k3] 25)) (.cells #[.int .i64 (f), .int .i64 (1)] 27)) (.cells #[.slice none 0 0, .slice none 0 0, .slice none 0 0] 25)))
  have CB := Lib.hid (show Bx (((wn.alloc (.cells #[.slice a1 n2 k1, .slice a2 n2 k2, .slice a3 n2 k3] 25)).alloc (.cells #[.int .i64 (f), .int .i64 (1)] 27)).alloc (.cells #[.slice none 0 0, .slice none 0 0, .slice none 0 0] 25)) g (.slice a1 n2 k1) (.slice a2 n2 k2) (.slice a3 n2 k3) from by have h9 := (Bx.al (Bx.al (Bx.new wn (.slice a1 n2 k1) (.slice a2 n2 k2) (.slice a3 n2 k3) 25) (.cells #[.int .i64 (f), .int .i64 (1)] 27)) (.cells #[.slice none 0 0, .slice none 0 0, .slice none 0 0] 25)); simp only [World.size_alloc, hg, Nat.add_assoc, Nat.reduceAdd] at h9; exact h9)
  have SB := Lib.hid (show Box (((wn.alloc (.cells #[.slice a1 n2 k1, .slice a2 n2 k2, .slice a3 n2 k3] 25)).alloc (.cells #[.int .i64 (f), .int .i64 (1)] 27)).alloc (.cells #[.slice none 0 0, .slice none 0 0, .slice none 0 0] 25)) (g + 1) (f) (1) from by have h9 := (Box.al (Box.new (wn.alloc (.cells #[.slice a1 n2 k1, .slice a2 n2 k2, .slice a3 n2 k3] 25)) (f) (1) 27) (.cells #[.slice none 0 0, .slice none 0 0, .slice none 0 0] 25)); simp only [World.size_alloc, hg, Nat.add_assoc, Nat.reduceAdd] at h9; exact h9)
  have RB := Lib.hid (show Bx (((wn.alloc (.cells #[.slice a1 n2 k1, .slice a2 n2 k2, .slice a3 n2 k3] 25)).alloc (.cells #[.int .i64 (f), .int .i64 (1)] 27)).alloc (.cells #[.slice none 0 0, .slice none 0 0, .slice none 0 0] 25)) (g + 2) (.slice none 0 0) (.slice none 0 0) (.slice none 0 0) from by have h9 := (Bx.new ((wn.alloc (.cells #[.slice a1 n2 k1, .slice a2 n2 k2, .slice a3 n2 k3] 25)).alloc (.cells #[.int .i64 (f), .int .i64 (1)] 27)) (.slice none 0 0) (.slice none 0 0) (.slice none 0 0) 25); simp only [World.size_alloc, hg, Nat.add_assoc, Nat.reduceAdd] at h9; exact h9)
  have HZg := Lib.hid (show ((((wn.alloc (.cells #[.slice a1 n2 k1, .slice a2 n2 k2, .slice a3 n2 k3] 25)).alloc (.cells #[.int .i64 (f), .int .i64 (1)] 27)).alloc (.cells #[.slice none 0 0, .slice none 0 0, .slice none 0 0] 25))).heap.size = g + 3 from by simp only [World.size_alloc, hg, Nat.add_assoc, Nat.reduceAdd])
  clear hg
  clear T
  have T := Tn
  clear Tn
  go_enter Try.func15, Try.ntmps15
  obtain ⟨⟨c0, c1, c2⟩, -⟩ := CB.out
  go_wp2_with fail
  rw [HGg.out]
  refine Calls.mono (iCallsValid_t a1 n2 k1 a2 n2 k2 a3 n2 k3 x _ (Cal.below X0.out T.out) HS.out) ?_
  intro e wn hh
  obtain ⟨he, hb⟩ := (by first | exact hh | exact Ro.mk hh | exact St.mk hh | exact LawOk.mk' hh : Mk _ _ e wn)
  subst he
  have Tn : Hid (Below w.heap.size w wn) := below_next T.out hb
  have CBn : Hid _ := Bx.below CB.out hb
  have SBn : Hid _ := Box.below SB.out hb
  have RBn : Hid _ := Bx.below RB.out hb
  clear hb hh c0 c1 c2
  clear T CB SB RB
  have T := Tn
  have CB := CBn
  have SB := SBn
  have RB := RBn
  clear Tn CBn SBn RBn
  obtain ⟨⟨c0, c1, c2⟩, -⟩ := CB.out
  obtain ⟨⟨d0, d1⟩, df0, df1⟩ := SB.out
  go_wp2_with fail
  refine Calls.mono (isPlace_t n2 f (1) _ q8 HP.out) ?_
  intro e wn hh
  obtain ⟨he, hb⟩ := (by first | exact hh | exact Ro.mk hh | exact St.mk hh | exact LawOk.mk' hh : Mk _ _ e wn)
  subst he
  have Tn : Hid (Below w.heap.size w wn) := below_next T.out hb
  have CBn : Hid _ := Bx.below CB.out hb
  have SBn : Hid _ := Box.below SB.out hb
  have RBn : Hid _ := Bx.below RB.out hb
  clear hb hh c0 c1 c2 d0 d1 df0 df1
  clear T CB SB RB
  have T := Tn
  have CB := CBn
  have SB := SBn
  have RB := RBn
  clear Tn CBn SBn RBn
  obtain ⟨⟨c0, c1, c2⟩, -⟩ := CB.out
  go_wp2_with fail
  refine Calls.mono (rowsOf_c a1 n2 k1 a2 n2 k2 a3 n2 k3 x _ (Cal.below X0.out T.out) q8 q8 q8) ?_
  intro e wn hh
  obtain ⟨he, hb⟩ := (by first | exact hh | exact Ro.mk hh | exact St.mk hh | exact LawOk.mk' hh : Mk _ _ e wn)
  subst he
  have Tn : Hid (Below w.heap.size w wn) := below_next T.out hb
  have CBn : Hid _ := Bx.below CB.out hb
  have SBn : Hid _ := Box.below SB.out hb
  have RBn : Hid _ := Bx.below RB.out hb
  clear hb hh c0 c1 c2
  clear T CB SB RB
  have T := Tn
  have CB := CBn
  have SB := SBn
  have RB := RBn
  clear Tn CBn SBn RBn
  have hltCBG := Bx.lt CB.out
  have hltSBG := Box.lt SB.out
  have hltRBG := Bx.lt RB.out
  have hWG := T.out.size
  obtain ⟨G, hG⟩ : ∃ G, Array.size (World.heap wn) = G := ⟨_, rfl⟩
  have HG : Hid _ := hG
  rw [hG] at hWG hltCBG hltSBG hltRBG
  have R0 : Hid (Rw (wn.alloc (.cells #[.bool false, .bool false, .bool false, .bool false, .bool false, .bool false, .bool false, .bool false, .bool false, .bool false, .bool false, .bool false, .bool false, .bool false, .bool false, .bool false, .bool false, .bool false, .bool false, .bool false, .bool false, .bool false, .bool false, .bool false] 60)) G 60 24 (fun _ => false)) := by rw [← hG]; exact Rw.new24 wn
  clear hG
  have Tn : Hid (Below w.heap.size w _) := Below.al T.out (.cells #[.bool false, .bool false, .bool false, .bool false, .bool false, .bool false, .bool false, .bool false, .bool false, .bool false, .bool false, .bool false, .bool false, .bool false, .bool false, .bool false, .bool false, .bool false, .bool false, .bool false, .bool false, .bool false, .bool false, .bool false] 60)
  have CBn : Hid _ := Bx.below CB.out ((Below.refl _ _).alloc (Nat.le_refl _) (.cells #[.bool false, .bool false, .bool false, .bool false, .bool false, .bool false, .bool false, .bool false, .bool false, .bool false, .bool false, .bool false, .bool false, .bool false, .bool false, .bool false, .bool false, .bool false, .bool false, .bool false, .bool false, .bool false, .bool false, .bool false] 60))
  have SBn : Hid _ := Box.below SB.out ((Below.refl _ _).alloc (Nat.le_refl _) (.cells #[.bool false, .bool false, .bool false, .bool false, .bool false, .bool false, .bool false, .bool false, .bool false, .bool false, .bool false, .bool false, .bool false, .bool false, .bool false, .bool false, .bool false, .bool false, .bool false, .bool false, .bool false, .bool false, .bool false, .bool false] 60))
  have RBn : Hid _ := Bx.below RB.out ((Below.refl _ _).alloc (Nat.le_refl _) (.cells #[.bool false, .bool false, .bool false, .bool false, .bool false, .bool false, .bool false, .bool false, .bool false, .bool false, .bool false, .bool false, .bool false, .bool false, .bool false, .bool false, .bool false, .bool false, .bool false, .bool false, .bool false, .bool false, .bool false, .bool false] 60))
  clear T CB SB RB
  have T := Tn
  have CB := CBn
  have SB := SBn
  have RB := RBn
  clear Tn CBn SBn RBn
  have F5 := Lib.hid (show (wn.alloc (.cells #[.bool false, .bool false, .bool false, .bool false, .bool false, .bool false, .bool false, .bool false, .bool false, .bool false, .bool false, .bool false, .bool false, .bool false, .bool false, .bool false, .bool false, .bool false, .bool false, .bool false, .bool false, .bool false, .bool false, .bool false] 60)).rowIs G 60 24 (fun i => .bool ((fun _ => false) i)) from R0.out)
  have hGe := HG.out
  go_wp2_with (with_reducible refine wpList_store_arr F5.out rfl rfl ?_)
  intro w1 hr ho
  have R := Lib.hid (show Rw w1 G 60 24 (rw3 x) from hr)
  have CBn := Lib.hid (Bx.out CB.out ho (.inl (by omega)))
  have SBn := Lib.hid (Box.out SB.out ho (.inl (by omega)))
  have RBn := Lib.hid (Bx.out RB.out ho (.inl (by omega)))
  have Tn := Lib.hid (Out.below T.out ho (by omega))
  clear hr ho F5 R0 CB SB RB T hGe HG
  have CB := CBn
  have SB := SBn
  have RB := RBn
  have T := Tn
  clear CBn SBn RBn Tn
  have ho := Out.set (w := w1) (q := G) (i := 16 + f) (lo := G) (hi := G + 1) (.bool false) (Nat.le_refl _) (by omega)
  have cc := Rw.cell R.out (i := 16 + f) (by omega)
  have ff := World.rowIs.frozen (show World.rowIs _ _ _ _ _ from R.out) (16 + f)
  have R2 := Lib.hid (show Rw (w1.setCell ⟨G, 16 + f, none⟩ (.bool false)) G 60 24 (rw3 (cput x 2 f false)) from World.rowIs.congr (World.rowIs.set (show World.rowIs _ _ _ _ _ from R.out) (16 + f) (.bool false)) fun i hi => by
    have := P1.out i hi
    rw [show rw3 (cput x 2 f false) i = rw3 (cput x ((2 : Nat) : Int) f false) i from rfl, ← this]
    by_cases e : i = 16 + f
    · rw [if_pos e, if_pos (by omega)]
    · rw [if_neg e, if_neg (by omega)])
  have CB2 := Lib.hid (Bx.out CB.out ho (.inl (by omega)))
  have SB2 := Lib.hid (Box.out SB.out ho (.inl (by omega)))
  have RB2 := Lib.hid (Bx.out RB.out ho (.inl (by omega)))
  have T2 := Lib.hid (Out.below T.out ho (by omega))
  obtain ⟨⟨d0, d1⟩, d2, d3⟩ := SB.out
  clear ho
  go_upto_region 5 with fail
  clear cc ff R CB SB RB T d0 d1 d2 d3
  have R := R2
  have CB := CB2
  have SB := SB2
  have RB := RB2
  have T := T2
  clear R2 CB2 SB2 RB2 T2
  generalize w1.setCell ⟨G, 16 + f, none⟩ (.bool false) = w2 at *
  obtain ⟨wn, hwq⟩ : ∃ w0 : World, w0 = w2 := ⟨_, rfl⟩
  subst hwq
  refine wp_region_quiet_late (C := fun w' => Below (World.heap (wn)).size (wn) w') 7 _ (by kernel_rfl) (by kernel_rfl) (by kernel_rfl) (by kernel_rfl) (by rfl) (by kernel_rfl) (by kernel_rfl) (by first | exact ⟨rfl, rfl, rfl, Nat.le_refl _, fun _ _ => rfl⟩ | exact Below.dw (by repeat (first | exact Below.refl _ _ | refine Below.al ?_ _ | refine Below.dr ?_ _ | refine Below.dw ?_ | refine Below.st ?_ (by first | exact Nat.le_refl _ | exact Nat.le_add_right _ _ | (simp; omega)) _ | (refine below_next ?_ (by assumption))))) ?_
  simp only [List.take_succ_cons, List.take_zero]
  repeat (go_big_quiet_step (first | (intro _; with_reducible exact rfl) | (intro hC; go_at_call 43; obtain ⟨⟨d0, d1⟩, -⟩ := Box.below SB.out hC; (refine Calls.mono (kindToGo_u _) ?_); (first | (rintro e wx ⟨rfl, hb⟩; exact ⟨rfl, below_next hC hb⟩) | (rintro e wx ⟨rfl, n, rfl⟩; exact ⟨rfl, Below.dr hC n⟩) | (rintro e wx ⟨rfl, rfl⟩; exact ⟨rfl, hC⟩))) | (intro hC; obtain ⟨⟨d0, d1⟩, -⟩ := Box.below SB.out hC; go_simp; rfl)))
  refine wpQuiet_nil ?_
  intro wq hq
  have hRG := Rw.lt R.out
  have Tn := Lib.hid (below_next T.out hq)
  have CBn := Lib.hid (Bx.below CB.out hq)
  have SBn := Lib.hid (Box.below SB.out hq)
  have RBn := Lib.hid (Bx.below RB.out hq)
  have Rn := Lib.hid (Rw.below R.out hq)
  clear hq
  clear T CB SB RB R
  have T := Tn
  have CB := CBn
  have SB := SBn
  have RB := RBn
  have R := Rn
  clear Tn CBn SBn RBn Rn
  obtain ⟨wn, hwq⟩ : ∃ w0, w0 = wq := ⟨_, rfl⟩
  subst hwq
  have ho := Out.set (w := wn) (q := G) (i := f) (lo := G) (hi := G + 1) (.bool false) (Nat.le_refl _) (by omega)
  have cc := Rw.cell R.out (i := f) (by omega)
  have ff := World.rowIs.frozen (show World.rowIs _ _ _ _ _ from R.out) (f)
  have R2 := Lib.hid (show (wn.setCell ⟨G, f, none⟩ (.bool false)).rowIs G 60 24 (fun i => .bool (rw3 (srv x f true) i)) from World.rowIs.congr (World.rowIs.set (show World.rowIs _ _ _ _ _ from R.out) (f) (.bool false)) fun i hi => by
    have := P2.out i hi
    rw [show srv x f true = cput (cput x 2 f false) ((0 : Nat) : Int) f false from rfl, ← this]
    by_cases e : i = f
    · rw [if_pos e, if_pos (by omega)]
    · rw [if_neg e, if_neg (by omega)])
  have CB2 := Lib.hid (Bx.out CB.out ho (.inl (by omega)))
  have RB2 := Lib.hid (Bx.out RB.out ho (.inl (by omega)))
  have T2 := Lib.hid (Out.below T.out ho (by omega))
  obtain ⟨⟨c0, c1, c2⟩, -⟩ := CB2.out
  clear ho
  go_wp2_with (with_reducible refine wpList_load_arr R2.out rfl ?_)
  clear cc ff c0 c1 c2 R CB SB RB T P1 P2
  have hRG2 := Lib.hid (World.rowIs.lt R2.out)
  generalize wn.setCell ⟨G, f, none⟩ (.bool false) = w3 at *
  have K := calls_c (rw3 (srv x f true)) n2 w3 q1 q8
  rw [HY.out] at K
  refine K.mono ?_
  rintro e w9 ⟨v1, v2, v3, rfl, hO, hb⟩
  obtain ⟨b1, t1', b2, t2', b3, t3', rfl, rfl, rfl, -⟩ := hO.open
  obtain ⟨⟨c0, c1, c2⟩, hf⟩ := Bx.below RB2.out hb
  have f0 := hf 0
  have f1 := hf 1
  have f2 := hf 2
  have N := Lib.hid (newC_end (w0 := w) (r := g + 2) hO (below_next T2.out hb) (by omega) (by have := hRG2.out; omega) id)
  clear hf hb hO K
  go_wp2_with fail
  exact bodyPost_ret (v := .agg #[.slice b1 _ t1', .slice b2 _ t2', .slice b3 _ t3']) (by simp [results, Try.results15, go_sem, c0, c1, c2]) rfl N.out
set_option maxHeartbeats 4000000 in
theorem iServeStop_d (a1 : Option Addr) (n1 k1 : Nat) (a2 : Option Addr) (n2 k2 : Nat) (a3 : Option Addr) (n3 k3 : Nat) (x : Cs) (f : Nat) (w : World) (hX : Cal w a1 n1 a2 n2 a3 n3 x) (h : SK x f (-1)) : Calls Try.prog 15 #[(.agg #[.slice a1 n1 k1, .slice a2 n2 k2, .slice a3 n3 k3]), (Value.agg #[.int .i64 (f), .int .i64 (-1)])] w (NewC w (srv x f false) id) := by
  have X0 := Lib.hid hX
  have hv := h.1
  obtain ⟨rfl, rfl, q1, q8, q3⟩ := CV.plen hv hX
  have hf : f < n2 := by have := h.2.1.2; omega
  have hfi : (f : Int) < 8 := by omega
  have hfi0 : (0 : Int) ≤ f := by omega
  have HS := Lib.hid hv
  have HP := Lib.hid (show PL n2 f (-1) from ⟨by omega, by omega, h.2.2⟩)
  have l1 := hX.1.1
  have l2 := hX.2.1.1
  have l3 := hX.2.2.1
  obtain ⟨lp1, lp2, lp3⟩ := srv_len x f false
  have HY := Lib.hid (csOf_rw3 (x := srv x f false) q8 (by omega) (by omega) (by omega))
  have P1 := Lib.hid (fun i hi => rw3_put (x := x) (k := 2) (j := f) false (by omega) hf q8 l1 l2 l3 i hi)
  obtain ⟨m1, m2, m3⟩ := cput_len x 2 f false
  have P2 := Lib.hid (fun i hi => rw3_put (x := cput x 2 f false) (k := 1) (j := f) false (by omega) hf q8 (by omega) (by omega) (by omega) i hi)
  have HL := Lib.hid (show (srv x f false).u.length = n2 ∧ (srv x f false).d.length = n2 ∧ (srv x f false).c.length = n2 from ⟨by omega, by omega, by omega⟩)
  clear h hv hX q3 l1 l2 l3 lp1 lp2 lp3 m1 m2 m3
  refine at_base fun wn hwn => ?_
  have T := Lib.hid (show Below w.heap.size w wn from by rw [hwn]; exact Below.refl _ _)
  clear hwn
  obtain ⟨g, hg⟩ : ∃ g, Array.size (World.heap wn) = g := ⟨_, rfl⟩
  have HGg := Lib.hid hg
  have hTg : w.heap.size ≤ g := by rw [← hg]; exact T.out.size
  have Tn := Lib.hid (show Below w.heap.size w (((wn.alloc (.cells #[.slice a1 n2 k1, .slice a2 n2 k2, .slice a3 n2 k3] 25)).alloc (.cells #[.int .i64 (f), .int .i64 (-1)] 27)).alloc (.cells #[.slice none 0 0, .slice none 0 0, .slice none 0 0] 25)) from (Below.al (Below.al (Below.al T.out (.cells #[.slice a1 n2 k1, .slice a2 n2 k2, .slice a3 n2 k3] 25)) (.cells #[.int .i64 (f), .int .i64 (-1)] 27)) (.cells #[.slice none 0 0, .slice none 0 0, .slice none 0 0] 25)))
  have CB := Lib.hid (show Bx (((wn.alloc (.cells #[.slice a1 n2 k1, .slice a2 n2 k2, .slice a3 n2 k3] 25)).alloc (.cells #[.int .i64 (f), .int .i64 (-1)] 27)).alloc (.cells #[.slice none 0 0, .slice none 0 0, .slice none 0 0] 25)) g (.slice a1 n2 k1) (.slice a2 n2 k2) (.slice a3 n2 k3) from by have h9 := (Bx.al (Bx.al (Bx.new wn (.slice a1 n2 k1) (.slice a2 n2 k2) (.slice a3 n2 k3) 25) (.cells #[.int .i64 (f), .int .i64 (-1)] 27)) (.cells #[.slice none 0 0, .slice none 0 0, .slice none 0 0] 25)); simp only [World.size_alloc, hg, Nat.add_assoc, Nat.reduceAdd] at h9; exact h9)
  have SB := Lib.hid (show Box (((wn.alloc (.cells #[.slice a1 n2 k1, .slice a2 n2 k2, .slice a3 n2 k3] 25)).alloc (.cells #[.int .i64 (f), .int .i64 (-1)] 27)).alloc (.cells #[.slice none 0 0, .slice none 0 0, .slice none 0 0] 25)) (g + 1) (f) (-1) from by have h9 := (Box.al (Box.new (wn.alloc (.cells #[.slice a1 n2 k1, .slice a2 n2 k2, .slice a3 n2 k3] 25)) (f) (-1) 27) (.cells #[.slice none 0 0, .slice none 0 0, .slice none 0 0] 25)); simp only [World.size_alloc, hg, Nat.add_assoc, Nat.reduceAdd] at h9; exact h9)
  have RB := Lib.hid (show Bx (((wn.alloc (.cells #[.slice a1 n2 k1, .slice a2 n2 k2, .slice a3 n2 k3] 25)).alloc (.cells #[.int .i64 (f), .int .i64 (-1)] 27)).alloc (.cells #[.slice none 0 0, .slice none 0 0, .slice none 0 0] 25)) (g + 2) (.slice none 0 0) (.slice none 0 0) (.slice none 0 0) from by have h9 := (Bx.new ((wn.alloc (.cells #[.slice a1 n2 k1, .slice a2 n2 k2, .slice a3 n2 k3] 25)).alloc (.cells #[.int .i64 (f), .int .i64 (-1)] 27)) (.slice none 0 0) (.slice none 0 0) (.slice none 0 0) 25); simp only [World.size_alloc, hg, Nat.add_assoc, Nat.reduceAdd] at h9; exact h9)
  have HZg := Lib.hid (show ((((wn.alloc (.cells #[.slice a1 n2 k1, .slice a2 n2 k2, .slice a3 n2 k3] 25)).alloc (.cells #[.int .i64 (f), .int .i64 (-1)] 27)).alloc (.cells #[.slice none 0 0, .slice none 0 0, .slice none 0 0] 25))).heap.size = g + 3 from by simp only [World.size_alloc, hg, Nat.add_assoc, Nat.reduceAdd])
  clear hg
  clear T
  have T := Tn
  clear Tn
  go_enter Try.func15, Try.ntmps15
  obtain ⟨⟨c0, c1, c2⟩, -⟩ := CB.out
  go_wp2_with fail
  rw [HGg.out]
  refine Calls.mono (iCallsValid_t a1 n2 k1 a2 n2 k2 a3 n2 k3 x _ (Cal.below X0.out T.out) HS.out) ?_
  intro e wn hh
  obtain ⟨he, hb⟩ := (by first | exact hh | exact Ro.mk hh | exact St.mk hh | exact LawOk.mk' hh : Mk _ _ e wn)
  subst he
  have Tn : Hid (Below w.heap.size w wn) := below_next T.out hb
  have CBn : Hid _ := Bx.below CB.out hb
  have SBn : Hid _ := Box.below SB.out hb
  have RBn : Hid _ := Bx.below RB.out hb
  clear hb hh c0 c1 c2
  clear T CB SB RB
  have T := Tn
  have CB := CBn
  have SB := SBn
  have RB := RBn
  clear Tn CBn SBn RBn
  obtain ⟨⟨c0, c1, c2⟩, -⟩ := CB.out
  obtain ⟨⟨d0, d1⟩, df0, df1⟩ := SB.out
  go_wp2_with fail
  refine Calls.mono (isPlace_t n2 f (-1) _ q8 HP.out) ?_
  intro e wn hh
  obtain ⟨he, hb⟩ := (by first | exact hh | exact Ro.mk hh | exact St.mk hh | exact LawOk.mk' hh : Mk _ _ e wn)
  subst he
  have Tn : Hid (Below w.heap.size w wn) := below_next T.out hb
  have CBn : Hid _ := Bx.below CB.out hb
  have SBn : Hid _ := Box.below SB.out hb
  have RBn : Hid _ := Bx.below RB.out hb
  clear hb hh c0 c1 c2 d0 d1 df0 df1
  clear T CB SB RB
  have T := Tn
  have CB := CBn
  have SB := SBn
  have RB := RBn
  clear Tn CBn SBn RBn
  obtain ⟨⟨c0, c1, c2⟩, -⟩ := CB.out
  go_wp2_with fail
  refine Calls.mono (rowsOf_c a1 n2 k1 a2 n2 k2 a3 n2 k3 x _ (Cal.below X0.out T.out) q8 q8 q8) ?_
  intro e wn hh
  obtain ⟨he, hb⟩ := (by first | exact hh | exact Ro.mk hh | exact St.mk hh | exact LawOk.mk' hh : Mk _ _ e wn)
  subst he
  have Tn : Hid (Below w.heap.size w wn) := below_next T.out hb
  have CBn : Hid _ := Bx.below CB.out hb
  have SBn : Hid _ := Box.below SB.out hb
  have RBn : Hid _ := Bx.below RB.out hb
  clear hb hh c0 c1 c2
  clear T CB SB RB
  have T := Tn
  have CB := CBn
  have SB := SBn
  have RB := RBn
  clear Tn CBn SBn RBn
  have hltCBG := Bx.lt CB.out
  have hltSBG := Box.lt SB.out
  have hltRBG := Bx.lt RB.out
  have hWG := T.out.size
  obtain ⟨G, hG⟩ : ∃ G, Array.size (World.heap wn) = G := ⟨_, rfl⟩
  have HG : Hid _ := hG
  rw [hG] at hWG hltCBG hltSBG hltRBG
  have R0 : Hid (Rw (wn.alloc (.cells #[.bool false, .bool false, .bool false, .bool false, .bool false, .bool false, .bool false, .bool false, .bool false, .bool false, .bool false, .bool false, .bool false, .bool false, .bool false, .bool false, .bool false, .bool false, .bool false, .bool false, .bool false, .bool false, .bool false, .bool false] 60)) G 60 24 (fun _ => false)) := by rw [← hG]; exact Rw.new24 wn
  clear hG
  have Tn : Hid (Below w.heap.size w _) := Below.al T.out (.cells #[.bool false, .bool false, .bool false, .bool false, .bool false, .bool false, .bool false, .bool false, .bool false, .bool false, .bool false, .bool false, .bool false, .bool false, .bool false, .bool false, .bool false, .bool false, .bool false, .bool false, .bool false, .bool false, .bool false, .bool false] 60)
  have CBn : Hid _ := Bx.below CB.out ((Below.refl _ _).alloc (Nat.le_refl _) (.cells #[.bool false, .bool false, .bool false, .bool false, .bool false, .bool false, .bool false, .bool false, .bool false, .bool false, .bool false, .bool false, .bool false, .bool false, .bool false, .bool false, .bool false, .bool false, .bool false, .bool false, .bool false, .bool false, .bool false, .bool false] 60))
  have SBn : Hid _ := Box.below SB.out ((Below.refl _ _).alloc (Nat.le_refl _) (.cells #[.bool false, .bool false, .bool false, .bool false, .bool false, .bool false, .bool false, .bool false, .bool false, .bool false, .bool false, .bool false, .bool false, .bool false, .bool false, .bool false, .bool false, .bool false, .bool false, .bool false, .bool false, .bool false, .bool false, .bool false] 60))
  have RBn : Hid _ := Bx.below RB.out ((Below.refl _ _).alloc (Nat.le_refl _) (.cells #[.bool false, .bool false, .bool false, .bool false, .bool false, .bool false, .bool false, .bool false, .bool false, .bool false, .bool false, .bool false, .bool false, .bool false, .bool false, .bool false, .bool false, .bool false, .bool false, .bool false, .bool false, .bool false, .bool false, .bool false] 60))
  clear T CB SB RB
  have T := Tn
  have CB := CBn
  have SB := SBn
  have RB := RBn
  clear Tn CBn SBn RBn
  have F5 := Lib.hid (show (wn.alloc (.cells #[.bool false, .bool false, .bool false, .bool false, .bool false, .bool false, .bool false, .bool false, .bool false, .bool false, .bool false, .bool false, .bool false, .bool false, .bool false, .bool false, .bool false, .bool false, .bool false, .bool false, .bool false, .bool false, .bool false, .bool false] 60)).rowIs G 60 24 (fun i => .bool ((fun _ => false) i)) from R0.out)
  have hGe := HG.out
  go_wp2_with (with_reducible refine wpList_store_arr F5.out rfl rfl ?_)
  intro w1 hr ho
  have R := Lib.hid (show Rw w1 G 60 24 (rw3 x) from hr)
  have CBn := Lib.hid (Bx.out CB.out ho (.inl (by omega)))
  have SBn := Lib.hid (Box.out SB.out ho (.inl (by omega)))
  have RBn := Lib.hid (Bx.out RB.out ho (.inl (by omega)))
  have Tn := Lib.hid (Out.below T.out ho (by omega))
  clear hr ho F5 R0 CB SB RB T hGe HG
  have CB := CBn
  have SB := SBn
  have RB := RBn
  have T := Tn
  clear CBn SBn RBn Tn
  have ho := Out.set (w := w1) (q := G) (i := 16 + f) (lo := G) (hi := G + 1) (.bool false) (Nat.le_refl _) (by omega)
  have cc := Rw.cell R.out (i := 16 + f) (by omega)
  have ff := World.rowIs.frozen (show World.rowIs _ _ _ _ _ from R.out) (16 + f)
  have R2 := Lib.hid (show Rw (w1.setCell ⟨G, 16 + f, none⟩ (.bool false)) G 60 24 (rw3 (cput x 2 f false)) from World.rowIs.congr (World.rowIs.set (show World.rowIs _ _ _ _ _ from R.out) (16 + f) (.bool false)) fun i hi => by
    have := P1.out i hi
    rw [show rw3 (cput x 2 f false) i = rw3 (cput x ((2 : Nat) : Int) f false) i from rfl, ← this]
    by_cases e : i = 16 + f
    · rw [if_pos e, if_pos (by omega)]
    · rw [if_neg e, if_neg (by omega)])
  have CB2 := Lib.hid (Bx.out CB.out ho (.inl (by omega)))
  have SB2 := Lib.hid (Box.out SB.out ho (.inl (by omega)))
  have RB2 := Lib.hid (Bx.out RB.out ho (.inl (by omega)))
  have T2 := Lib.hid (Out.below T.out ho (by omega))
  obtain ⟨⟨d0, d1⟩, d2, d3⟩ := SB.out
  clear ho
  go_upto_region 5 with fail
  clear cc ff R CB SB RB T d0 d1 d2 d3
  have R := R2
  have CB := CB2
  have SB := SB2
  have RB := RB2
  have T := T2
  clear R2 CB2 SB2 RB2 T2
  generalize w1.setCell ⟨G, 16 + f, none⟩ (.bool false) = w2 at *
  obtain ⟨wn, hwq⟩ : ∃ w0 : World, w0 = w2 := ⟨_, rfl⟩
  subst hwq
  refine wp_region_quiet_late (C := fun w' => Below (World.heap (wn)).size (wn) w') 7 _ (by kernel_rfl) (by kernel_rfl) (by kernel_rfl) (by kernel_rfl) (by rfl) (by kernel_rfl) (by kernel_rfl) (by first | exact ⟨rfl, rfl, rfl, Nat.le_refl _, fun _ _ => rfl⟩ | exact Below.dw (by repeat (first | exact Below.refl _ _ | refine Below.al ?_ _ | refine Below.dr ?_ _ | refine Below.dw ?_ | refine Below.st ?_ (by first | exact Nat.le_refl _ | exact Nat.le_add_right _ _ | (simp; omega)) _ | (refine below_next ?_ (by assumption))))) ?_
  simp only [List.take_succ_cons, List.take_zero]
  repeat (go_big_quiet_step (first | (intro _; with_reducible exact rfl) | (intro hC; go_at_call 43; obtain ⟨⟨d0, d1⟩, -⟩ := Box.below SB.out hC; (refine Calls.mono (kindToGo_d _) ?_); (first | (rintro e wx ⟨rfl, hb⟩; exact ⟨rfl, below_next hC hb⟩) | (rintro e wx ⟨rfl, n, rfl⟩; exact ⟨rfl, Below.dr hC n⟩) | (rintro e wx ⟨rfl, rfl⟩; exact ⟨rfl, hC⟩))) | (intro hC; obtain ⟨⟨d0, d1⟩, -⟩ := Box.below SB.out hC; go_simp; rfl)))
  refine wpQuiet_nil ?_
  intro wq hq
  have hRG := Rw.lt R.out
  have Tn := Lib.hid (below_next T.out hq)
  have CBn := Lib.hid (Bx.below CB.out hq)
  have SBn := Lib.hid (Box.below SB.out hq)
  have RBn := Lib.hid (Bx.below RB.out hq)
  have Rn := Lib.hid (Rw.below R.out hq)
  clear hq
  clear T CB SB RB R
  have T := Tn
  have CB := CBn
  have SB := SBn
  have RB := RBn
  have R := Rn
  clear Tn CBn SBn RBn Rn
  obtain ⟨wn, hwq⟩ : ∃ w0, w0 = wq := ⟨_, rfl⟩
  subst hwq
  have ho := Out.set (w := wn) (q := G) (i := 8 + f) (lo := G) (hi := G + 1) (.bool false) (Nat.le_refl _) (by omega)
  have cc := Rw.cell R.out (i := 8 + f) (by omega)
  have ff := World.rowIs.frozen (show World.rowIs _ _ _ _ _ from R.out) (8 + f)
  have R2 := Lib.hid (show (wn.setCell ⟨G, 8 + f, none⟩ (.bool false)).rowIs G 60 24 (fun i => .bool (rw3 (srv x f false) i)) from World.rowIs.congr (World.rowIs.set (show World.rowIs _ _ _ _ _ from R.out) (8 + f) (.bool false)) fun i hi => by
    have := P2.out i hi
    rw [show srv x f false = cput (cput x 2 f false) ((1 : Nat) : Int) f false from rfl, ← this]
    by_cases e : i = 8 + f
    · rw [if_pos e, if_pos (by omega)]
    · rw [if_neg e, if_neg (by omega)])
  have CB2 := Lib.hid (Bx.out CB.out ho (.inl (by omega)))
  have RB2 := Lib.hid (Bx.out RB.out ho (.inl (by omega)))
  have T2 := Lib.hid (Out.below T.out ho (by omega))
  obtain ⟨⟨c0, c1, c2⟩, -⟩ := CB2.out
  clear ho
  go_wp2_with (with_reducible refine wpList_load_arr R2.out rfl ?_)
  clear cc ff c0 c1 c2 R CB SB RB T P1 P2
  have hRG2 := Lib.hid (World.rowIs.lt R2.out)
  generalize wn.setCell ⟨G, 8 + f, none⟩ (.bool false) = w3 at *
  have K := calls_c (rw3 (srv x f false)) n2 w3 q1 q8
  rw [HY.out] at K
  refine K.mono ?_
  rintro e w9 ⟨v1, v2, v3, rfl, hO, hb⟩
  obtain ⟨b1, t1', b2, t2', b3, t3', rfl, rfl, rfl, -⟩ := hO.open
  obtain ⟨⟨c0, c1, c2⟩, hf⟩ := Bx.below RB2.out hb
  have f0 := hf 0
  have f1 := hf 1
  have f2 := hf 2
  have N := Lib.hid (newC_end (w0 := w) (r := g + 2) hO (below_next T2.out hb) (by omega) (by have := hRG2.out; omega) id)
  clear hf hb hO K
  go_wp2_with fail
  exact bodyPost_ret (v := .agg #[.slice b1 _ t1', .slice b2 _ t2', .slice b3 _ t3']) (by simp [results, Try.results15, go_sem, c0, c1, c2]) rfl N.out
theorem iServeStop_s (a1 : Option Addr) (n1 k1 : Nat) (a2 : Option Addr) (n2 k2 : Nat) (a3 : Option Addr) (n3 k3 : Nat) (x : Cs) (f : Nat) (up : Bool) (w : World) (hX : Cal w a1 n1 a2 n2 a3 n3 x) (h : SK x f (dI up)) : Calls Try.prog 15 #[(.agg #[.slice a1 n1 k1, .slice a2 n2 k2, .slice a3 n3 k3]), (Value.agg #[.int .i64 (f), .int .i64 (dI up)])] w (NewC w (srv x f up) id) := by
  cases up
  · exact iServeStop_d a1 n1 k1 a2 n2 k2 a3 n3 k3 x f w hX h
  · exact iServeStop_u a1 n1 k1 a2 n2 k2 a3 n3 k3 x f w hX h
theorem iServeStop_c (a1 : Option Addr) (n1 k1 : Nat) (a2 : Option Addr) (n2 k2 : Nat) (a3 : Option Addr) (n3 k3 : Nat) (x : Cs) (f d : Int) (w : World) (hX : Cal w a1 n1 a2 n2 a3 n3 x) : Calls Try.prog 15 #[(.agg #[.slice a1 n1 k1, .slice a2 n2 k2, .slice a3 n3 k3]), (Value.agg #[.int .i64 (f), .int .i64 (d)])] w (NewC w (svv x f d) id) := by
  by_cases h : SK x f d
  · obtain ⟨f, up, rfl, hf, rfl⟩ := SK.dir h
    rw [svv_t h]
    exact iServeStop_s a1 n1 k1 a2 n2 k2 a3 n3 k3 x f up w hX h
  · rw [svv_f h]
    exact iServeStop_f a1 n1 k1 a2 n2 k2 a3 n3 k3 x f d w hX h
end Go.Proofs.Ytkpginkkfobblaa
