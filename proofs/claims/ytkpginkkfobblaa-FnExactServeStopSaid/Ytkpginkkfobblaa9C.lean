/- The contract of ServeStop of the model. -/
import Derived.Test.Ytkpginkkfobblaa9B
import Derived.Test.Ytkpginkkfobblaa8Y
import Derived.Deep.CutRange
namespace Go.Proofs.Ytkpginkkfobblaa
open Go.RowKit
set_option linter.unusedVariables false

theorem Box.out {w w' : World} {b lo hi : Nat} {a s : Int} (h : Box w b a s) (ho : Out lo hi w w') (hd : b < lo ∨ hi ≤ b) : Box w' b a s := h.block (ho.block b h.lt hd)
/-- Rows that are not empty have blocks. -/
theorem OwnC.somes {w : World} {lo hi : Nat} {a1 a2 a3 : Option Addr} {n1 n2 n3 k1 k2 k3 : Nat} {x : Cs} (h : OwnC w lo hi (.slice a1 n1 k1) (.slice a2 n2 k2) (.slice a3 n3 k3) x) (h1 : 1 ≤ x.u.length) (h2 : 1 ≤ x.d.length) (h3 : 1 ≤ x.c.length) :
    ∃ p1 p2 p3, (a1 = some ⟨p1, 0, none⟩ ∧ a2 = some ⟨p2, 0, none⟩ ∧ a3 = some ⟨p3, 0, none⟩) ∧ (n1 = x.u.length ∧ n2 = x.d.length ∧ n3 = x.c.length) ∧ (lo ≤ p1 ∧ p1 < hi ∧ lo ≤ p2 ∧ p2 < hi ∧ lo ≤ p3 ∧ p3 < hi) ∧
      (∀ i, w.frozen? ⟨p1, i, none⟩ = false) ∧ (∀ i, w.frozen? ⟨p2, i, none⟩ = false) ∧ (∀ i, w.frozen? ⟨p3, i, none⟩ = false) := by
  obtain ⟨⟨o1, o2, o3⟩, _, _, _, hh⟩ := h
  obtain ⟨p1, d1, e1, l1, _, _, z1⟩ := OwnB.some o1 h1
  obtain ⟨p2, d2, e2, l2, _, _, z2⟩ := OwnB.some o2 h2
  obtain ⟨p3, d3, e3, l3, _, _, z3⟩ := OwnB.some o3 h3
  have u1 := hh p1 (.inl (by rw [e1]; rfl))
  have u2 := hh p2 (.inr (.inl (by rw [e2]; rfl)))
  have u3 := hh p3 (.inr (.inr (by rw [e3]; rfl)))
  simp only [Value.slice.injEq] at e1 e2 e3
  exact ⟨p1, p2, p3, ⟨e1.1, e2.1, e3.1⟩, ⟨e1.2.1, e2.2.1, e3.2.1⟩, ⟨l1, u1, l2, u2, l3, u3⟩, z1, z2, z3⟩
/-- What ServeStop gives. -/
noncomputable def svv (x : Cs) (f d : Int) : Cs := @ite _ (SK x f d) (Classical.propDecidable _) (srv x f.toNat (decide (d = 1))) cz
theorem svv_t {x : Cs} {f : Nat} {up : Bool} (h : SK x f (dI up)) : svv x f (dI up) = srv x f up := by
  unfold svv; rw [if_pos h]; cases up <;> rfl
theorem svv_f {x : Cs} {f d : Int} (h : ¬ SK x f d) : svv x f d = cz := by unfold svv; rw [if_neg h]
set_option maxHeartbeats 2000000 in
theorem sServeStop_f (a1 : Option Addr) (n1 k1 : Nat) (a2 : Option Addr) (n2 k2 : Nat) (a3 : Option Addr) (n3 k3 : Nat) (x : Cs) (f d : Int) (w : World) (hX : Cal w a1 n1 a2 n2 a3 n3 x) (h : ¬ SK x f d) : Calls Try.prog 18 #[(.agg #[.slice a1 n1 k1, .slice a2 n2 k2, .slice a3 n3 k3]), (Value.agg #[.int .i64 (f), .int .i64 (d)])] w (NewC w cz id) := by
  have X0 := Lib.hid hX
  have HS := Lib.hid h
  clear hX h
  refine at_base fun wn hwn => ?_
  have T := Lib.hid (show Below w.heap.size w wn from by rw [hwn]; exact Below.refl _ _)
  clear hwn
  obtain ⟨g, hg⟩ : ∃ g, Array.size (World.heap wn) = g := ⟨_, rfl⟩
  have HGg := Lib.hid hg
  have hTg : w.heap.size ≤ g := by rw [← hg]; exact T.out.size
  have Tn := Lib.hid (show Below w.heap.size w (((wn.alloc (.cells #[.slice a1 n1 k1, .slice a2 n2 k2, .slice a3 n3 k3] 25)).alloc (.cells #[.int .i64 (f), .int .i64 (d)] 27)).alloc (.cells #[.slice none 0 0, .slice none 0 0, .slice none 0 0] 25)) from (Below.al (Below.al (Below.al T.out (.cells #[.slice a1 n1 k1, .slice a2 n2 k2, .slice a3 n3 k3] 25)) (.cells #[.int .i64 (f), .int .i64 (d)] 27)) (.cells #[.slice none 0 0, .slice none 0 0, .slice none 0 0] 25)))
  have CB := Lib.hid (show Bx (((wn.alloc (.cells #[.slice a1 n1 k1, .slice a2 n2 k2, .slice a3 n3 k3] 25)).alloc (.cells #[.int .i64 (f), .int .i64 (d)] 27)).alloc (.cells #[.slice none 0 0, .slice none 0 0, .slice none 0 0] 25)) g (.slice a1 n1 k1) (.slice a2 n2 k2) (.slice a3 n3 k3) from by have h9 := (Bx.al (Bx.al (Bx.new wn (.slice a1 n1 k1) (.slice a2 n2 k2) (.slice a3 n3 k3) 25) (.cells #[.int .i64 (f), .int .i64 (d)] 27)) (.cells #[.slice none 0 0, .slice none 0 0, .slice none 0 0] 25)); simp only [World.size_alloc, hg, Nat.add_assoc, Nat.reduceAdd] at h9; exact h9)
  have SB := Lib.hid (show Box (((wn.alloc (.cells #[.slice a1 n1 k1, .slice a2 n2 k2, .slice a3 n3 k3] 25)).alloc (.cells #[.int .i64 (f), .int .i64 (d)] 27)).alloc (.cells #[.slice none 0 0, .slice none 0 0, .slice none 0 0] 25)) (g + 1) (f) (d) from by have h9 := (Box.al (Box.new (wn.alloc (.cells #[.slice a1 n1 k1, .slice a2 n2 k2, .slice a3 n3 k3] 25)) (f) (d) 27) (.cells #[.slice none 0 0, .slice none 0 0, .slice none 0 0] 25)); simp only [World.size_alloc, hg, Nat.add_assoc, Nat.reduceAdd] at h9; exact h9)
  have RB := Lib.hid (show Bx (((wn.alloc (.cells #[.slice a1 n1 k1, .slice a2 n2 k2, .slice a3 n3 k3] 25)).alloc (.cells #[.int .i64 (f), .int .i64 (d)] 27)).alloc (.cells #[.slice none 0 0, .slice none 0 0, .slice none 0 0] 25)) (g + 2) (.slice none 0 0) (.slice none 0 0) (.slice none 0 0) from by have h9 := (Bx.new ((wn.alloc (.cells #[.slice a1 n1 k1, .slice a2 n2 k2, .slice a3 n3 k3] 25)).alloc (.cells #[.int .i64 (f), .int .i64 (d)] 27)) (.slice none 0 0) (.slice none 0 0) (.slice none 0 0) 25); simp only [World.size_alloc, hg, Nat.add_assoc, Nat.reduceAdd] at h9; exact h9)
  have HZg := Lib.hid (show ((((wn.alloc (.cells #[.slice a1 n1 k1, .slice a2 n2 k2, .slice a3 n3 k3] 25)).alloc (.cells #[.int .i64 (f), .int .i64 (d)] 27)).alloc (.cells #[.slice none 0 0, .slice none 0 0, .slice none 0 0] 25))).heap.size = g + 3 from by simp only [World.size_alloc, hg, Nat.add_assoc, Nat.reduceAdd])
  clear hg
  clear T
  have T := Tn
  clear Tn
  go_enter Try.func18, Try.ntmps18
  go_wp2_with fail
  rw [HGg.out]
  refine Calls.mono (l9Ok_f a1 n1 k1 a2 n2 k2 a3 n3 k3 x f d _ (Cal.below X0.out T.out) HS.out) ?_
  intro e wn hh
  obtain ⟨he, hb⟩ := (by first | exact hh | exact Ro.mk hh | exact St.mk hh | exact LawOk.mk' hh : Mk _ _ e wn)
  subst he
  have Tn : Hid (Below w.heap.size w wn) := below_next T.out hb
  have CBn : Hid _ := Bx.below CB.out hb
  have SBn : Hid _ := Box.below SB.out hb
  have RBn : Hid _ := Bx.below RB.out hb
  clear hb hh
  clear T CB SB RB
  have T := Tn
  have CB := CBn
  have SB := SBn
  have RB := RBn
  clear Tn CBn SBn RBn
  obtain ⟨⟨c0, c1, c2⟩, hf⟩ := RB.out
  have f0 := hf 0
  have f1 := hf 1
  have f2 := hf 2
  clear hf
  go_wp2_with fail
  have N := newC_zero (r := g + 2) T.out (by omega) id
  exact bodyPost_ret (v := .agg #[.slice none 0 0, .slice none 0 0, .slice none 0 0]) (by simp [results, Try.results18, go_sem, c0, c1, c2]) rfl N

set_option maxHeartbeats 4000000 in
theorem sServeStop_u (a1 : Option Addr) (n1 k1 : Nat) (a2 : Option Addr) (n2 k2 : Nat) (a3 : Option Addr) (n3 k3 : Nat) (x : Cs) (f : Nat) (w : World) (hX : Cal w a1 n1 a2 n2 a3 n3 x) (h : SK x f (1)) : Calls Try.prog 18 #[(.agg #[.slice a1 n1 k1, .slice a2 n2 k2, .slice a3 n3 k3]), (Value.agg #[.int .i64 (f), .int .i64 (1)])] w (NewC w (srv x f true) id) := by
  have X0 := Lib.hid hX
  have hv := h.1
  obtain ⟨rfl, rfl, h3, h8, -⟩ := CV.rows hv hX
  have hf : f < n2 := by have := h.2.1.2; omega
  have HS := Lib.hid h
  have v3 := hv.2.2.1
  have v4 := hv.2.2.2.1
  have HL := Lib.hid (show x.u.length = n2 ∧ x.d.length = n2 ∧ x.c.length = n2 from ⟨by omega, by omega, by omega⟩)
  have hfi : (f : Int) < (n2 : Int) := by omega
  have E := Lib.hid (srv_t x f)
  clear hX h hv v3 v4 h3
  refine at_base fun wn hwn => ?_
  have T := Lib.hid (show Below w.heap.size w wn from by rw [hwn]; exact Below.refl _ _)
  clear hwn
  obtain ⟨g, hg⟩ : ∃ g, Array.size (World.heap wn) = g := ⟨_, rfl⟩
  have HGg := Lib.hid hg
  have hTg : w.heap.size ≤ g := by rw [← hg]; exact T.out.size
  have Tn := Lib.hid (show Below w.heap.size w (((wn.alloc (.cells #[.slice a1 n2 k1, .slice a2 n2 k2, .slice a3 n2 k3] 25)).alloc (.cells #[.int .i64 (f), .int .i64 (1)] 27)).alloc (.cells #[.slice none 0 0, .slice none 0 0, .slice none 0 0] 25)) from (Below.al (Below.al (Below.al T.out (.cells #[.slice a1 n2 k1, .slice a2 n2 k2, .slice a3 n2 k3] 25)) (.cells #[.int .i64 (f), .int .i64 (1)] 27)) (.cells #[.slice none 0 0, .slice none 0 0, .slice none 0 0] 25)))
  have CB := Lib.hid (show Bx (((wn.alloc (.cells #[.slice a1 n2 k1, .slice a2 n2 k2, .slice a3 n2 k3] 25)).alloc (.cells #[.int .i64 (f), .int .i64 (1)] 27)).alloc (.cells #[.slice none 0 0, .slice none 0 0, .slice none 0 0] 25)) g (.slice a1 n2 k1) (.slice a2 n2 k2) (.slice a3 n2 k3) from by have h9 := (Bx.al (Bx.al (Bx.new wn (.slice a1 n2 k1) (.slice a2 n2 k2) (.slice a3 n2 k3) 25) (.cells #[.int .i64 (f), .int .i64 (1)] 27)) (.cells #[.slice none 0 0, .slice none 0 0, .slice none 0 0] 25)); simp only [World.size_alloc, hg, Nat.add_assoc, Nat.reduceAdd] at h9; exact h9)
  have SB := Lib.hid (show Box (((wn.alloc (.cells #[.slice a1 n2 k1, .slice a2 n2 k2, .slice a3 n2 k3] 25)).alloc (.cells #[.int .i64 (f), .int .i64 (1)] 27)).alloc (.cells #[.slice none 0 0, .slice none 0 0, .slice none 0 0] 25)) (g + 1) (f) (1) from by have h9 := (Box.al (Box.new (wn.alloc (.cells #[.slice a1 n2 k1, .slice a2 n2 k2, .slice a3 n2 k3] 25)) (f) (1) 27) (.cells #[.slice none 0 0, .slice none 0 0, .slice none 0 0] 25)); simp only [World.size_alloc, hg, Nat.add_assoc, Nat.reduceAdd] at h9; exact h9)
  have RB := Lib.hid (show Bx (((wn.alloc (.cells #[.slice a1 n2 k1, .slice a2 n2 k2, .slice a3 n2 k3] 25)).alloc (.cells #[.int .i64 (f), .int .i64 (1)] 27)).alloc (.cells #[.slice none 0 0, .slice none 0 0, .slice none 0 0] 25)) (g + 2) (.slice none 0 0) (.slice none 0 0) (.slice none 0 0) from by have h9 := (Bx.new ((wn.alloc (.cells #[.slice a1 n2 k1, .slice a2 n2 k2, .slice a3 n2 k3] 25)).alloc (.cells #[.int .i64 (f), .int .i64 (1)] 27)) (.slice none 0 0) (.slice none 0 0) (.slice none 0 0) 25); simp only [World.size_alloc, hg, Nat.add_assoc, Nat.reduceAdd] at h9; exact h9)
  have HZg := Lib.hid (show ((((wn.alloc (.cells #[.slice a1 n2 k1, .slice a2 n2 k2, .slice a3 n2 k3] 25)).alloc (.cells #[.int .i64 (f), .int .i64 (1)] 27)).alloc (.cells #[.slice none 0 0, .slice none 0 0, .slice none 0 0] 25))).heap.size = g + 3 from by simp only [World.size_alloc, hg, Nat.add_assoc, Nat.reduceAdd])
  clear hg
  clear T
  have T := Tn
  clear Tn
  go_enter Try.func18, Try.ntmps18
  go_wp2_with fail
  rw [HGg.out]
  refine Calls.mono (l9Ok_t a1 n2 k1 a2 n2 k2 a3 n2 k3 x f (1) _ (Cal.below X0.out T.out) HS.out) ?_
  intro e wn hh
  obtain ⟨he, hb⟩ := (by first | exact hh | exact Ro.mk hh | exact St.mk hh | exact LawOk.mk' hh : Mk _ _ e wn)
  subst he
  have Tn : Hid (Below w.heap.size w wn) := below_next T.out hb
  have CBn : Hid _ := Bx.below CB.out hb
  have SBn : Hid _ := Box.below SB.out hb
  have RBn : Hid _ := Bx.below RB.out hb
  clear hb hh
  clear T CB SB RB
  have T := Tn
  have CB := CBn
  have SB := SBn
  have RB := RBn
  clear Tn CBn SBn RBn
  obtain ⟨⟨c0, c1, c2⟩, -⟩ := CB.out
  go_wp2_with fail
  refine Calls.mono (l8Copy_c a1 n2 k1 a2 n2 k2 a3 n2 k3 x _ (Cal.below X0.out T.out) (by omega) (by omega) (by omega) (by omega) (by omega) (by omega)) ?_
  intro e wn hh
  obtain ⟨v1, v2, v3, loP, hiP, rfl, hO, hb, hlo, hhi⟩ := NewC.get hh
  have hTP : w.heap.size ≤ loP := by rw [← hlo]; exact T.out.size
  have hltCBP := Bx.lt CB.out
  rw [hlo] at hltCBP
  have hltSBP := Box.lt SB.out
  rw [hlo] at hltSBP
  have hltRBP := Bx.lt RB.out
  rw [hlo] at hltRBP
  have hlhP : loP ≤ hiP := by rw [← hlo, ← hhi]; exact hb.size
  obtain ⟨Pa, Pi, Pb, Pj, Pc, Pk, rfl, rfl, rfl, -⟩ := OwnC.open hO
  have Tn := Lib.hid (below_next T.out hb)
  have CBn := Lib.hid (Bx.below CB.out hb)
  have SBn := Lib.hid (Box.below SB.out hb)
  have RBn := Lib.hid (Bx.below RB.out hb)
  have P := Lib.hid hO
  have HLOP := Lib.hid hlo
  clear hb hO hh hlo hhi c0 c1 c2
  clear T CB SB RB
  have T := Tn
  have CB := CBn
  have SB := SBn
  have RB := RBn
  clear Tn CBn SBn RBn
  obtain ⟨p1, p2, p3, ⟨e1, e2, e3⟩, -, ⟨q1, q2, q3, q4, q5, q6⟩, -⟩ := OwnC.somes P.out (by rw [HL.out.1]; omega) (by rw [HL.out.2.1]; omega) (by rw [HL.out.2.2]; omega)
  subst e1 e2 e3
  rw [HL.out.1, HL.out.2.1, HL.out.2.2] at P
  rw [HL.out.1, HL.out.2.1, HL.out.2.2]
  have hltCBHP := Bx.lt CB.out
  have hltSBHP := Box.lt SB.out
  have hltRBHP := Bx.lt RB.out
  have hltPHP := P.out.2.2.1
  have hWHP := T.out.size
  obtain ⟨HP, hHP⟩ : ∃ HP, Array.size (World.heap wn) = HP := ⟨_, rfl⟩
  have HHP : Hid _ := hHP
  rw [hHP] at hWHP hltCBHP hltSBHP hltRBHP hltPHP
  have PB : Hid (Bx (wn.alloc (.cells #[.slice (some ⟨p1, 0, none⟩) n2 Pi, .slice (some ⟨p2, 0, none⟩) n2 Pj, .slice (some ⟨p3, 0, none⟩) n2 Pk] 25)) HP (.slice (some ⟨p1, 0, none⟩) n2 Pi) (.slice (some ⟨p2, 0, none⟩) n2 Pj) (.slice (some ⟨p3, 0, none⟩) n2 Pk)) := by rw [← hHP]; exact Bx.new _ _ _ _ _
  clear hHP
  have Tn : Hid (Below w.heap.size w _) := Below.al T.out (.cells #[.slice (some ⟨p1, 0, none⟩) n2 Pi, .slice (some ⟨p2, 0, none⟩) n2 Pj, .slice (some ⟨p3, 0, none⟩) n2 Pk] 25)
  have CBn : Hid _ := Bx.below CB.out ((Below.refl _ _).alloc (Nat.le_refl _) (.cells #[.slice (some ⟨p1, 0, none⟩) n2 Pi, .slice (some ⟨p2, 0, none⟩) n2 Pj, .slice (some ⟨p3, 0, none⟩) n2 Pk] 25))
  have SBn : Hid _ := Box.below SB.out ((Below.refl _ _).alloc (Nat.le_refl _) (.cells #[.slice (some ⟨p1, 0, none⟩) n2 Pi, .slice (some ⟨p2, 0, none⟩) n2 Pj, .slice (some ⟨p3, 0, none⟩) n2 Pk] 25))
  have RBn : Hid _ := Bx.below RB.out ((Below.refl _ _).alloc (Nat.le_refl _) (.cells #[.slice (some ⟨p1, 0, none⟩) n2 Pi, .slice (some ⟨p2, 0, none⟩) n2 Pj, .slice (some ⟨p3, 0, none⟩) n2 Pk] 25))
  have Pn : Hid _ := OwnC.below P.out ((Below.refl _ _).alloc (Nat.le_refl _) (.cells #[.slice (some ⟨p1, 0, none⟩) n2 Pi, .slice (some ⟨p2, 0, none⟩) n2 Pj, .slice (some ⟨p3, 0, none⟩) n2 Pk] 25))
  clear T CB SB RB P
  have T := Tn
  have CB := CBn
  have SB := SBn
  have RB := RBn
  have P := Pn
  clear Tn CBn SBn RBn Pn
  go_upto_region 4 with fail
  rw [HHP.out]
  generalize wn.alloc _ = W at *
  obtain ⟨p1', p2', p3', ⟨y1, y2, y3⟩, -, -, z1, z2, z3⟩ := OwnC.somes P.out (by rw [HL.out.1]; omega) (by rw [HL.out.2.1]; omega) (by rw [HL.out.2.2]; omega)
  simp only [Option.some.injEq, Addr.mk.injEq, and_true] at y1 y2 y3
  subst y1 y2 y3
  have r3 := BS.cell (OwnC.cal P.out).2.2 hf
  have r1 := BS.cell (OwnC.cal P.out).1 hf
  simp only [Nat.zero_add] at r3 r1
  have zc := z3 f
  have za := z1 f
  have S1 := Out.set (w := W) (q := p3) (i := f) (lo := loP) (hi := hiP) (.bool false) q5 q6
  have S2 := Out.set (w := W.setCell ⟨p3, f, none⟩ (.bool false)) (q := p1) (i := f) (lo := loP) (hi := hiP) (.bool false) q1 q2
  have hne : OwnC W loP hiP (.slice (some ⟨p1, 0, none⟩) n2 Pi) (.slice (some ⟨p2, 0, none⟩) n2 Pj) (.slice (some ⟨p3, 0, none⟩) n2 Pk) x := P.out
  have N := Lib.hid (show NewC w (srv x f true) id (.returned (.agg #[.slice (some ⟨p1, 0, none⟩) n2 Pi, .slice (some ⟨p2, 0, none⟩) n2 Pj, .slice (some ⟨p3, 0, none⟩) n2 Pk])) _ from by
    have h1 := P.out
    rw [show Value.slice (some ⟨p3, 0, none⟩) n2 Pk = .slice (some ⟨p3, 0, none⟩) x.c.length Pk from by rw [HL.out.2.2]] at h1
    have h2 := OwnC.set3 (i := f) false h1
    rw [show Value.slice (some ⟨p1, 0, none⟩) n2 Pi = .slice (some ⟨p1, 0, none⟩) (Cs.u ⟨x.u, x.d, x.c.set f false⟩).length Pi from by rw [show (Cs.u ⟨x.u, x.d, x.c.set f false⟩).length = n2 from HL.out.1]] at h2
    have h3 := OwnC.set1 (i := f) false h2
    simp only [HL.out.1, HL.out.2.1, HL.out.2.2] at h3
    rw [E.out]
    exact newC_end (w0 := w) (r := g + 2) h3 (Out.below (Out.below T.out S1 (by omega)) S2 (by omega)) (by omega) (by omega) id)
  have PB1 := Bx.out PB.out S1 (.inr (by omega))
  have PB2 := Bx.out PB1 S2 (.inr (by omega))
  have SB1 := Box.out SB.out S1 (.inl (by omega))
  have RB2 := Bx.out (Bx.out RB.out S1 (.inl (by omega))) S2 (.inl (by omega))
  have r1' : (W.setCell ⟨p3, f, none⟩ (.bool false)).cell? ⟨p1, f, none⟩ = some (.bool (bn x.u f)) := by
    rw [World.cell?_setCell_other _ _ _ _ (by
      intro e
      have := (OwnC.cal P.out)
      have e2 := congrArg Addr.block e
      simp at e2
      exact P.out.2.1.2.1 _ _ rfl rfl e2.symm)]
    exact r1
  have za' : (W.setCell ⟨p3, f, none⟩ (.bool false)).frozen? ⟨p1, f, none⟩ = false := by rw [World.frozen?_setCell]; exact za
  obtain ⟨⟨c0, c1, c2⟩, -⟩ := PB.out
  obtain ⟨⟨d0, d1⟩, df0, df1⟩ := SB.out
  obtain ⟨⟨i0, i1, i2⟩, -⟩ := PB1
  obtain ⟨⟨j0, j1⟩, -, -⟩ := SB1
  obtain ⟨⟨m0, m1, m2⟩, -⟩ := PB2
  obtain ⟨⟨b0, b1, b2⟩, bf⟩ := RB2
  have bf0 := bf 0
  have bf1 := bf 1
  have bf2 := bf 2
  clear P PB SB RB T CB S1 S2 z1 z2 z3 bf hne r1 za HS X0 HL E
  go_wp2_with fail
  clear c0 c1 c2 i0 i1 i2 m0 m1 m2
  have c0 := b0
  have c1 := b1
  have c2 := b2
  exact bodyPost_ret (v := .agg #[.slice (some ⟨p1, 0, none⟩) n2 Pi, .slice (some ⟨p2, 0, none⟩) n2 Pj, .slice (some ⟨p3, 0, none⟩) n2 Pk]) (by simp [results, Try.results18, go_sem, c0, c1, c2]) rfl N.out
set_option maxHeartbeats 4000000 in
theorem sServeStop_d (a1 : Option Addr) (n1 k1 : Nat) (a2 : Option Addr) (n2 k2 : Nat) (a3 : Option Addr) (n3 k3 : Nat) (x : Cs) (f : Nat) (w : World) (hX : Cal w a1 n1 a2 n2 a3 n3 x) (h : SK x f (-1)) : Calls Try.prog 18 #[(.agg #[.slice a1 n1 k1, .slice a2 n2 k2, .slice a3 n3 k3]), (Value.agg #[.int .i64 (f), .int .i64 (-1)])] w (NewC w (srv x f false) id) := by
  have X0 := Lib.hid hX
  have hv := h.1
  obtain ⟨rfl, rfl, h3, h8, -⟩ := CV.rows hv hX
  have hf : f < n2 := by have := h.2.1.2; omega
  have HS := Lib.hid h
  have v3 := hv.2.2.1
  have v4 := hv.2.2.2.1
  have HL := Lib.hid (show x.u.length = n2 ∧ x.d.length = n2 ∧ x.c.length = n2 from ⟨by omega, by omega, by omega⟩)
  have hfi : (f : Int) < (n2 : Int) := by omega
  have E := Lib.hid (srv_f x f)
  clear hX h hv v3 v4 h3
  refine at_base fun wn hwn => ?_
  have T := Lib.hid (show Below w.heap.size w wn from by rw [hwn]; exact Below.refl _ _)
  clear hwn
  obtain ⟨g, hg⟩ : ∃ g, Array.size (World.heap wn) = g := ⟨_, rfl⟩
  have HGg := Lib.hid hg
  have hTg : w.heap.size ≤ g := by rw [← hg]; exact T.out.size
  have Tn := Lib.hid (show Below w.heap.size w (((wn.alloc (.cells #[.slice a1 n2 k1, .slice a2 n2 k2, .slice a3 n2 k3] 25)).alloc (.cells #[.int .i64 (f), .int .i64 (-1)] 27)).alloc (.cells #[.slice none 0 0, .slice none 0 0, .slice none 0 0] 25)) from (Below.al (Below.al (Below.al T.out (.cells #[.slice a1 n2 k1, .slice a2 n2 k2, .slice a3 n2 k3] 25)) (.cells #[.int .i64 (f), .int .i64 (-1)] 27)) (.cells #[.slice none 0 0, .slice none 0 0, .slice none 0 0] 25)))
  have CB := Lib.hid (show Bx (((wn.alloc (.cells #[.slice a1 n2 k1, .slice a2 n2 k2, .slice a3 n2 k3] 25)).alloc (.cells #[.int .i64 (f), .int .i64 (-1)] 27)).alloc (.cells #[.slice none 0 0, .slice none 0 0, .slice none 0 0] 25)) g (.slice a1 n2 k1) (.slice a2 n2 k2) (.slice a3 n2 k3) from by have h9 := (Bx.al (Bx.al (Bx.new wn (.slice a1 n2 k1) (.slice a2 n2 k2) (.slice a3 n2 k3) 25) (.cells #[.int .i64 (f), .int .i64 (-1)] 27)) (.cells #[.slice none 0 0, .slice none 0 0, .slice none 0 0] 25)); simp only [World.size_alloc, hg, Nat.add_assoc, Nat.reduceAdd] at h9; exact h9)
  have SB := Lib.hid (show Box (((wn.alloc (.cells #[.slice a1 n2 k1, .slice a2 n2 k2, .slice a3 n2 k3] 25)).alloc (.cells #[.int .i64 (f), .int .i64 (-1)] 27)).alloc (.cells #[.slice none 0 0, .slice none 0 0, .slice none 0 0] 25)) (g + 1) (f) (-1) from by have h9 := (Box.al (Box.new (wn.alloc (.cells #[.slice a1 n2 k1, .slice a2 n2 k2, .slice a3 n2 k3] 25)) (f) (-1) 27) (.cells #[.slice none 0 0, .slice none 0 0, .slice none 0 0] 25)); simp only [World.size_alloc, hg, Nat.add_assoc, Nat.reduceAdd] at h9; exact h9)
  have RB := Lib.hid (show Bx (((wn.alloc (.cells #[.slice a1 n2 k1, .slice a2 n2 k2, .slice a3 n2 k3] 25)).alloc (.cells #[.int .i64 (f), .int .i64 (-1)] 27)).alloc (.cells #[.slice none 0 0, .slice none 0 0, .slice none 0 0] 25)) (g + 2) (.slice none 0 0) (.slice none 0 0) (.slice none 0 0) from by have h9 := (Bx.new ((wn.alloc (.cells #[.slice a1 n2 k1, .slice a2 n2 k2, .slice a3 n2 k3] 25)).alloc (.cells #[.int .i64 (f), .int .i64 (-1)] 27)) (.slice none 0 0) (.slice none 0 0) (.slice none 0 0) 25); simp only [World.size_alloc, hg, Nat.add_assoc, Nat.reduceAdd] at h9; exact h9)
  have HZg := Lib.hid (show ((((wn.alloc (.cells #[.slice a1 n2 k1, .slice a2 n2 k2, .slice a3 n2 k3] 25)).alloc (.cells #[.int .i64 (f), .int .i64 (-1)] 27)).alloc (.cells #[.slice none 0 0, .slice none 0 0, .slice none 0 0] 25))).heap.size = g + 3 from by simp only [World.size_alloc, hg, Nat.add_assoc, Nat.reduceAdd])
  clear hg
  clear T
  have T := Tn
  clear Tn
  go_enter Try.func18, Try.ntmps18
  go_wp2_with fail
  rw [HGg.out]
  refine Calls.mono (l9Ok_t a1 n2 k1 a2 n2 k2 a3 n2 k3 x f (-1) _ (Cal.below X0.out T.out) HS.out) ?_
  intro e wn hh
  obtain ⟨he, hb⟩ := (by first | exact hh | exact Ro.mk hh | exact St.mk hh | exact LawOk.mk' hh : Mk _ _ e wn)
  subst he
  have Tn : Hid (Below w.heap.size w wn) := below_next T.out hb
  have CBn : Hid _ := Bx.below CB.out hb
  have SBn : Hid _ := Box.below SB.out hb
  have RBn : Hid _ := Bx.below RB.out hb
  clear hb hh
  clear T CB SB RB
  have T := Tn
  have CB := CBn
  have SB := SBn
  have RB := RBn
  clear Tn CBn SBn RBn
  obtain ⟨⟨c0, c1, c2⟩, -⟩ := CB.out
  go_wp2_with fail
  refine Calls.mono (l8Copy_c a1 n2 k1 a2 n2 k2 a3 n2 k3 x _ (Cal.below X0.out T.out) (by omega) (by omega) (by omega) (by omega) (by omega) (by omega)) ?_
  intro e wn hh
  obtain ⟨v1, v2, v3, loP, hiP, rfl, hO, hb, hlo, hhi⟩ := NewC.get hh
  have hTP : w.heap.size ≤ loP := by rw [← hlo]; exact T.out.size
  have hltCBP := Bx.lt CB.out
  rw [hlo] at hltCBP
  have hltSBP := Box.lt SB.out
  rw [hlo] at hltSBP
  have hltRBP := Bx.lt RB.out
  rw [hlo] at hltRBP
  have hlhP : loP ≤ hiP := by rw [← hlo, ← hhi]; exact hb.size
  obtain ⟨Pa, Pi, Pb, Pj, Pc, Pk, rfl, rfl, rfl, -⟩ := OwnC.open hO
  have Tn := Lib.hid (below_next T.out hb)
  have CBn := Lib.hid (Bx.below CB.out hb)
  have SBn := Lib.hid (Box.below SB.out hb)
  have RBn := Lib.hid (Bx.below RB.out hb)
  have P := Lib.hid hO
  have HLOP := Lib.hid hlo
  clear hb hO hh hlo hhi c0 c1 c2
  clear T CB SB RB
  have T := Tn
  have CB := CBn
  have SB := SBn
  have RB := RBn
  clear Tn CBn SBn RBn
  obtain ⟨p1, p2, p3, ⟨e1, e2, e3⟩, -, ⟨q1, q2, q3, q4, q5, q6⟩, -⟩ := OwnC.somes P.out (by rw [HL.out.1]; omega) (by rw [HL.out.2.1]; omega) (by rw [HL.out.2.2]; omega)
  subst e1 e2 e3
  rw [HL.out.1, HL.out.2.1, HL.out.2.2] at P
  rw [HL.out.1, HL.out.2.1, HL.out.2.2]
  have hltCBHP := Bx.lt CB.out
  have hltSBHP := Box.lt SB.out
  have hltRBHP := Bx.lt RB.out
  have hltPHP := P.out.2.2.1
  have hWHP := T.out.size
  obtain ⟨HP, hHP⟩ : ∃ HP, Array.size (World.heap wn) = HP := ⟨_, rfl⟩
  have HHP : Hid _ := hHP
  rw [hHP] at hWHP hltCBHP hltSBHP hltRBHP hltPHP
  have PB : Hid (Bx (wn.alloc (.cells #[.slice (some ⟨p1, 0, none⟩) n2 Pi, .slice (some ⟨p2, 0, none⟩) n2 Pj, .slice (some ⟨p3, 0, none⟩) n2 Pk] 25)) HP (.slice (some ⟨p1, 0, none⟩) n2 Pi) (.slice (some ⟨p2, 0, none⟩) n2 Pj) (.slice (some ⟨p3, 0, none⟩) n2 Pk)) := by rw [← hHP]; exact Bx.new _ _ _ _ _
  clear hHP
  have Tn : Hid (Below w.heap.size w _) := Below.al T.out (.cells #[.slice (some ⟨p1, 0, none⟩) n2 Pi, .slice (some ⟨p2, 0, none⟩) n2 Pj, .slice (some ⟨p3, 0, none⟩) n2 Pk] 25)
  have CBn : Hid _ := Bx.below CB.out ((Below.refl _ _).alloc (Nat.le_refl _) (.cells #[.slice (some ⟨p1, 0, none⟩) n2 Pi, .slice (some ⟨p2, 0, none⟩) n2 Pj, .slice (some ⟨p3, 0, none⟩) n2 Pk] 25))
  have SBn : Hid _ := Box.below SB.out ((Below.refl _ _).alloc (Nat.le_refl _) (.cells #[.slice (some ⟨p1, 0, none⟩) n2 Pi, .slice (some ⟨p2, 0, none⟩) n2 Pj, .slice (some ⟨p3, 0, none⟩) n2 Pk] 25))
  have RBn : Hid _ := Bx.below RB.out ((Below.refl _ _).alloc (Nat.le_refl _) (.cells #[.slice (some ⟨p1, 0, none⟩) n2 Pi, .slice (some ⟨p2, 0, none⟩) n2 Pj, .slice (some ⟨p3, 0, none⟩) n2 Pk] 25))
  have Pn : Hid _ := OwnC.below P.out ((Below.refl _ _).alloc (Nat.le_refl _) (.cells #[.slice (some ⟨p1, 0, none⟩) n2 Pi, .slice (some ⟨p2, 0, none⟩) n2 Pj, .slice (some ⟨p3, 0, none⟩) n2 Pk] 25))
  clear T CB SB RB P
  have T := Tn
  have CB := CBn
  have SB := SBn
  have RB := RBn
  have P := Pn
  clear Tn CBn SBn RBn Pn
  go_upto_region 4 with fail
  rw [HHP.out]
  generalize wn.alloc _ = W at *
  obtain ⟨p1', p2', p3', ⟨y1, y2, y3⟩, -, -, z1, z2, z3⟩ := OwnC.somes P.out (by rw [HL.out.1]; omega) (by rw [HL.out.2.1]; omega) (by rw [HL.out.2.2]; omega)
  simp only [Option.some.injEq, Addr.mk.injEq, and_true] at y1 y2 y3
  subst y1 y2 y3
  have r3 := BS.cell (OwnC.cal P.out).2.2 hf
  have r1 := BS.cell (OwnC.cal P.out).2.1 hf
  simp only [Nat.zero_add] at r3 r1
  have zc := z3 f
  have za := z2 f
  have S1 := Out.set (w := W) (q := p3) (i := f) (lo := loP) (hi := hiP) (.bool false) q5 q6
  have S2 := Out.set (w := W.setCell ⟨p3, f, none⟩ (.bool false)) (q := p2) (i := f) (lo := loP) (hi := hiP) (.bool false) q3 q4
  have hne : OwnC W loP hiP (.slice (some ⟨p1, 0, none⟩) n2 Pi) (.slice (some ⟨p2, 0, none⟩) n2 Pj) (.slice (some ⟨p3, 0, none⟩) n2 Pk) x := P.out
  have N := Lib.hid (show NewC w (srv x f false) id (.returned (.agg #[.slice (some ⟨p1, 0, none⟩) n2 Pi, .slice (some ⟨p2, 0, none⟩) n2 Pj, .slice (some ⟨p3, 0, none⟩) n2 Pk])) _ from by
    have h1 := P.out
    rw [show Value.slice (some ⟨p3, 0, none⟩) n2 Pk = .slice (some ⟨p3, 0, none⟩) x.c.length Pk from by rw [HL.out.2.2]] at h1
    have h2 := OwnC.set3 (i := f) false h1
    rw [show Value.slice (some ⟨p2, 0, none⟩) n2 Pj = .slice (some ⟨p2, 0, none⟩) (Cs.d ⟨x.u, x.d, x.c.set f false⟩).length Pj from by rw [show (Cs.d ⟨x.u, x.d, x.c.set f false⟩).length = n2 from HL.out.2.1]] at h2
    have h3 := OwnC.set2 (i := f) false h2
    simp only [HL.out.1, HL.out.2.1, HL.out.2.2] at h3
    rw [E.out]
    exact newC_end (w0 := w) (r := g + 2) h3 (Out.below (Out.below T.out S1 (by omega)) S2 (by omega)) (by omega) (by omega) id)
  have PB1 := Bx.out PB.out S1 (.inr (by omega))
  have PB2 := Bx.out PB1 S2 (.inr (by omega))
  have SB1 := Box.out SB.out S1 (.inl (by omega))
  have RB2 := Bx.out (Bx.out RB.out S1 (.inl (by omega))) S2 (.inl (by omega))
  have r1' : (W.setCell ⟨p3, f, none⟩ (.bool false)).cell? ⟨p2, f, none⟩ = some (.bool (bn x.d f)) := by
    rw [World.cell?_setCell_other _ _ _ _ (by
      intro e
      have := (OwnC.cal P.out)
      have e2 := congrArg Addr.block e
      simp at e2
      exact P.out.2.1.2.2 _ _ rfl rfl e2.symm)]
    exact r1
  have za' : (W.setCell ⟨p3, f, none⟩ (.bool false)).frozen? ⟨p2, f, none⟩ = false := by rw [World.frozen?_setCell]; exact za
  obtain ⟨⟨c0, c1, c2⟩, -⟩ := PB.out
  obtain ⟨⟨d0, d1⟩, df0, df1⟩ := SB.out
  obtain ⟨⟨i0, i1, i2⟩, -⟩ := PB1
  obtain ⟨⟨j0, j1⟩, -, -⟩ := SB1
  obtain ⟨⟨m0, m1, m2⟩, -⟩ := PB2
  obtain ⟨⟨b0, b1, b2⟩, bf⟩ := RB2
  have bf0 := bf 0
  have bf1 := bf 1
  have bf2 := bf 2
  clear P PB SB RB T CB S1 S2 z1 z2 z3 bf hne r1 za HS X0 HL E
  go_wp2_with fail
  clear c0 c1 c2 i0 i1 i2 m0 m1 m2
  have c0 := b0
  have c1 := b1
  have c2 := b2
  exact bodyPost_ret (v := .agg #[.slice (some ⟨p1, 0, none⟩) n2 Pi, .slice (some ⟨p2, 0, none⟩) n2 Pj, .slice (some ⟨p3, 0, none⟩) n2 Pk]) (by simp [results, Try.results18, go_sem, c0, c1, c2]) rfl N.out
theorem sServeStop_c (a1 : Option Addr) (n1 k1 : Nat) (a2 : Option Addr) (n2 k2 : Nat) (a3 : Option Addr) (n3 k3 : Nat) (x : Cs) (f : Nat) (up : Bool) (w : World) (hX : Cal w a1 n1 a2 n2 a3 n3 x) (h : SK x f (dI up)) : Calls Try.prog 18 #[(.agg #[.slice a1 n1 k1, .slice a2 n2 k2, .slice a3 n3 k3]), (Value.agg #[.int .i64 (f), .int .i64 (dI up)])] w (NewC w (srv x f up) id) := by
  cases up
  · exact sServeStop_d a1 n1 k1 a2 n2 k2 a3 n3 k3 x f w hX h
  · exact sServeStop_u a1 n1 k1 a2 n2 k2 a3 n3 k3 x f w hX h
end Go.Proofs.Ytkpginkkfobblaa
