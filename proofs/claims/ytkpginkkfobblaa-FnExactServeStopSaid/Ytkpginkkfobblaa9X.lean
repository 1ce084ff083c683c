/- The exact laws of chapter 9: the walks. -/
import Derived.Test.Ytkpginkkfobblaa9LV
import Derived.Test.Ytkpginkkfobblaa9H
import Derived.Deep.CutRange
namespace Go.Proofs.Ytkpginkkfobblaa
open Go.RowKit
set_option linter.unusedVariables false

def tN2 (B : Nat) (v : Value) (w : World) : Prop := ∃ G, v = .pointer (some ⟨G, 0, none⟩) ∧ B ≤ G ∧ Box w G 0 0
theorem StGrow.N2 (B : Nat) : StGrow (tN2 B) := fun v w w' hr h => by
  obtain ⟨G, e, h1, h2⟩ := h
  exact ⟨G, e, h1, h2.block (hr.block G h2.lt (fun e => by cases e))⟩
def tN3 (B : Nat) (v : Value) (w : World) : Prop := ∃ G, v = .pointer (some ⟨G, 0, none⟩) ∧ B ≤ G ∧ Bx w G (.slice none 0 0) (.slice none 0 0) (.slice none 0 0)
theorem StGrow.N3 (B : Nat) : StGrow (tN3 B) := fun v w w' hr h => by
  obtain ⟨G, e, h1, h2⟩ := h
  exact ⟨G, e, h1, h2.block (hr.block G h2.lt (fun e => by cases e))⟩

set_option maxHeartbeats 16000000 in
theorem ExactNextStop_w (a1 : Option Addr) (n1 k1 : Nat) (a2 : Option Addr) (n2 k2 : Nat) (a3 : Option Addr) (n3 k3 : Nat) (x : Cs) (f d : Int) (w : World) (hX : Cal w a1 n1 a2 n2 a3 n3 x) (b1 : n1 ≤ maxLen) (b2 : n2 ≤ maxLen) (b3 : n3 ≤ maxLen) : Calls Try.prog 6 #[(.agg #[.slice a1 n1 k1, .slice a2 n2 k2, .slice a3 n3 k3]), (Value.agg #[.int .i64 (f), .int .i64 (d)])] w (LawOk w) := by
  have X0 := Lib.hid hX
  have l1 := hX.1.1
  have l2 := hX.2.1.1
  have l3 := hX.2.2.1
  clear hX
  by_cases hbig : n1 + n2 + n3 ≤ 1048576
  case neg =>
    have K := fun w' => szCalls_c a1 n1 k1 a2 n2 k2 a3 n3 k3 w' b1 b2 b3
    rw [sz_big hbig] at K
    have HK := Lib.hid K
    clear K hbig l1 l2 l3
    refine at_base fun wn hwn => ?_
    have T := Lib.hid (show Below w.heap.size w wn from by rw [hwn]; exact Below.refl _ _)
    clear hwn
    obtain ⟨g, hg⟩ : ∃ g, Array.size (World.heap wn) = g := ⟨_, rfl⟩
    have HGg := Lib.hid hg
    have hTg : w.heap.size ≤ g := by rw [← hg]; exact T.out.size
    have Tn := Lib.hid (show Below w.heap.size w ((wn.alloc (.cells #[.slice a1 n1 k1, .slice a2 n2 k2, .slice a3 n3 k3] 41)).alloc (.cells #[.int .i64 (f), .int .i64 (d)] 42)) from (Below.al (Below.al T.out (.cells #[.slice a1 n1 k1, .slice a2 n2 k2, .slice a3 n3 k3] 41)) (.cells #[.int .i64 (f), .int .i64 (d)] 42)))
    have A := Lib.hid (show Bx ((wn.alloc (.cells #[.slice a1 n1 k1, .slice a2 n2 k2, .slice a3 n3 k3] 41)).alloc (.cells #[.int .i64 (f), .int .i64 (d)] 42)) g (.slice a1 n1 k1) (.slice a2 n2 k2) (.slice a3 n3 k3) from by have h9 := (Bx.al (Bx.new wn (.slice a1 n1 k1) (.slice a2 n2 k2) (.slice a3 n3 k3) 41) (.cells #[.int .i64 (f), .int .i64 (d)] 42)); simp only [World.size_alloc, hg, Nat.add_assoc, Nat.reduceAdd] at h9; exact h9)
    have SA := Lib.hid (show Box ((wn.alloc (.cells #[.slice a1 n1 k1, .slice a2 n2 k2, .slice a3 n3 k3] 41)).alloc (.cells #[.int .i64 (f), .int .i64 (d)] 42)) (g + 1) (f) (d) from by have h9 := (Box.new (wn.alloc (.cells #[.slice a1 n1 k1, .slice a2 n2 k2, .slice a3 n3 k3] 41)) (f) (d) 42); simp only [World.size_alloc, hg, Nat.add_assoc, Nat.reduceAdd] at h9; exact h9)
    have HZg := Lib.hid (show (((wn.alloc (.cells #[.slice a1 n1 k1, .slice a2 n2 k2, .slice a3 n3 k3] 41)).alloc (.cells #[.int .i64 (f), .int .i64 (d)] 42))).heap.size = g + 2 from by simp only [World.size_alloc, hg, Nat.add_assoc, Nat.reduceAdd])
    clear hg
    clear T
    have T := Tn
    clear Tn
    go_enter Try.func6, Try.ntmps6
    go_wp2_with fail
    rw [HGg.out]
    refine Calls.mono (HK.out _) ?_
    intro e wn hh
    obtain ⟨he, hb⟩ := (by first | exact hh | exact Ro.mk hh | exact St.mk hh | exact LawOk.mk' hh : Mk _ _ e wn)
    subst he
    have Tn : Hid (Below w.heap.size w wn) := below_next T.out hb
    have An : Hid _ := Bx.below A.out hb
    have SAn : Hid _ := Box.below SA.out hb
    clear hb hh
    clear T A SA
    have T := Tn
    have A := An
    have SA := SAn
    clear Tn An SAn
    go_wp2_with fail
    go_ret
    first | exact LawOk.mk T.out | exact LawOk.mk (Below.dr T.out _)
  have K := fun w' => szCalls_c a1 n1 k1 a2 n2 k2 a3 n3 k3 w' b1 b2 b3
  rw [sz_ok hbig] at K
  have HK := Lib.hid K
  obtain ⟨z, hz⟩ : ∃ z, 1048576 - (n1 + n2 + n3) = z := ⟨_, rfl⟩
  rw [hz] at HK
  have m1 : x.u.length ≤ 1048576 := by omega
  have m2 : x.d.length ≤ 1048576 := by omega
  have m3 : x.c.length ≤ 1048576 := by omega
  have q1 : n1 ≤ 1048576 := by omega
  have q2 : n2 ≤ 1048576 := by omega
  have q3 : n3 ≤ 1048576 := by omega
  have hzn : ¬ (z : Int) < 0 := by omega
  have KS := fun p1 m1 i1 p2 m2 i2 p3 m3 i3 w' (h : Cal w' p1 m1 p2 m2 p3 m3 x) => sNextStop_c p1 m1 i1 p2 m2 i2 p3 m3 i3 x f d w' h
  have KI := fun p1 m1 i1 p2 m2 i2 p3 m3 i3 w' (h : Cal w' p1 m1 p2 m2 p3 m3 x) => iNextStop_c p1 m1 i1 p2 m2 i2 p3 m3 i3 x f d w' h
  obtain ⟨F, hF⟩ : ∃ F, oF (nsv x f d) = F := ⟨_, rfl⟩
  obtain ⟨D, hD⟩ : ∃ D, oD (nsv x f d) = D := ⟨_, rfl⟩
  rw [hF, hD] at KS KI
  have KE := fun w' => eqStop_c F D F D w'
  rw [eq2_t ⟨rfl, rfl⟩] at KE
  have HKS := Lib.hid KS
  have HKI := Lib.hid KI
  have HKE := Lib.hid KE
  clear KS KI KE hF hD
  clear K hz l1 l2 l3
  refine at_base fun wn hwn => ?_
  have T := Lib.hid (show Below w.heap.size w wn from by rw [hwn]; exact Below.refl _ _)
  clear hwn
  obtain ⟨g, hg⟩ : ∃ g, Array.size (World.heap wn) = g := ⟨_, rfl⟩
  have HGg := Lib.hid hg
  have hTg : w.heap.size ≤ g := by rw [← hg]; exact T.out.size
  have Tn := Lib.hid (show Below w.heap.size w ((wn.alloc (.cells #[.slice a1 n1 k1, .slice a2 n2 k2, .slice a3 n3 k3] 41)).alloc (.cells #[.int .i64 (f), .int .i64 (d)] 42)) from (Below.al (Below.al T.out (.cells #[.slice a1 n1 k1, .slice a2 n2 k2, .slice a3 n3 k3] 41)) (.cells #[.int .i64 (f), .int .i64 (d)] 42)))
  have A := Lib.hid (show Bx ((wn.alloc (.cells #[.slice a1 n1 k1, .slice a2 n2 k2, .slice a3 n3 k3] 41)).alloc (.cells #[.int .i64 (f), .int .i64 (d)] 42)) g (.slice a1 n1 k1) (.slice a2 n2 k2) (.slice a3 n3 k3) from by have h9 := (Bx.al (Bx.new wn (.slice a1 n1 k1) (.slice a2 n2 k2) (.slice a3 n3 k3) 41) (.cells #[.int .i64 (f), .int .i64 (d)] 42)); simp only [World.size_alloc, hg, Nat.add_assoc, Nat.reduceAdd] at h9; exact h9)
  have SA := Lib.hid (show Box ((wn.alloc (.cells #[.slice a1 n1 k1, .slice a2 n2 k2, .slice a3 n3 k3] 41)).alloc (.cells #[.int .i64 (f), .int .i64 (d)] 42)) (g + 1) (f) (d) from by have h9 := (Box.new (wn.alloc (.cells #[.slice a1 n1 k1, .slice a2 n2 k2, .slice a3 n3 k3] 41)) (f) (d) 42); simp only [World.size_alloc, hg, Nat.add_assoc, Nat.reduceAdd] at h9; exact h9)
  have HZg := Lib.hid (show (((wn.alloc (.cells #[.slice a1 n1 k1, .slice a2 n2 k2, .slice a3 n3 k3] 41)).alloc (.cells #[.int .i64 (f), .int .i64 (d)] 42))).heap.size = g + 2 from by simp only [World.size_alloc, hg, Nat.add_assoc, Nat.reduceAdd])
  clear hg
  clear T
  have T := Tn
  clear Tn
  go_enter Try.func6, Try.ntmps6
  go_wp2_with fail
  rw [HGg.out]
  refine Calls.mono (HK.out _) ?_
  intro e wn hh
  obtain ⟨he, hb⟩ := (by first | exact hh | exact Ro.mk hh | exact St.mk hh | exact LawOk.mk' hh : Mk _ _ e wn)
  subst he
  have Tn : Hid (Below w.heap.size w wn) := below_next T.out hb
  have An : Hid _ := Bx.below A.out hb
  have SAn : Hid _ := Box.below SA.out hb
  clear hb hh
  clear T A SA
  have T := Tn
  have A := An
  have SA := SAn
  clear Tn An SAn
  clear HK
  go_wp2_with fail

  obtain ⟨B0, hB0⟩ : ∃ B0, wn.heap.size = B0 := ⟨_, rfl⟩
  have HB0 := Lib.hid hB0
  have hTB : w.heap.size ≤ B0 := by rw [← hB0]; exact T.out.size
  have hgB := Box.lt SA.out
  rw [hB0] at hgB
  clear hB0
  refine wp_region_late 6 [14, 15, 16, 17, 18, 6] [(2, tV (.pointer (some ⟨g, 0, none⟩))), (3, tV (.pointer (some ⟨g + 1, 0, none⟩)))]
    [(14, tV (.agg #[.slice a1 n1 k1, .slice a2 n2 k2, .slice a3 n3 k3])), (15, tF x), (16, tV (.agg #[.int .i64 f, .int .i64 d])), (17, tV (.agg #[.int .i64 f, .int .i64 d])), (18, tV (.agg #[.int .i64 F, .int .i64 D])), (6, tN2 B0)]
    _ (by kernel_rfl) (by kernel_rfl) (by kernel_rfl) (by kernel_rfl) (by kernel_rfl) (by rfl) (by kernel_rfl) (by kernel_rfl) (by kernel_rfl) (by kernel_rfl) ⟨StW.g (StW.V _), StW.g (StW.V _), StW.g (StW.V _), StGrow.F _, StW.g (StW.V _), StW.g (StW.V _), StW.g (StW.V _), StGrow.N2 _, trivial⟩ ⟨rfl, rfl, trivial⟩ ?hob1 ?_
  case hob1 =>
    refine ⟨?_, ?_, ?_, ?_, ?_, ?_, trivial⟩
    · intro w1 vs hC hL
      have u2 := hL 2 (List.mem_of_elem_eq_true (by kernel_rfl))
      replace u2 : vs 2 = .pointer (some ⟨g, 0, none⟩) := u2
      obtain ⟨⟨c0, c1, c2⟩, -⟩ := Bx.below A.out hC
      go_simp
      simp only [evOf_tmp, u2]
      go_simp
      exact oa_pure hC (show tV _ _ w1 from rfl)
    · intro w1 vs hC hL
      have u14 := hL 14 (List.mem_of_elem_eq_true (by kernel_rfl))
      replace u14 : vs 14 = .agg #[.slice a1 n1 k1, .slice a2 n2 k2, .slice a3 n3 k3] := u14
      go_simp
      simp only [evOf_tmp, u14]
      exact oa_call hC (Calls.mono (toCalls_c a1 n1 k1 a2 n2 k2 a3 n3 k3 x _ (Cal.below X0.out (below_next T.out hC)) q1 q2 q3) (fun e w2 hh => (by obtain ⟨v1, v2, v3, lo, hi, rfl, hO, hb2, -, -⟩ := NewC.get hh; obtain ⟨q1, j1, q2, j2, q3, j3, rfl, rfl, rfl, hCC⟩ := OwnC.open hO; exact ⟨_, rfl, (show Fre _ _ w2 from ⟨q1, j1, q2, j2, q3, j3, rfl, hCC⟩), hb2⟩)))
    · intro w1 vs hC hL
      have u3 := hL 3 (List.mem_of_elem_eq_true (by kernel_rfl))
      replace u3 : vs 3 = .pointer (some ⟨g + 1, 0, none⟩) := u3
      obtain ⟨⟨c0, c1⟩, -⟩ := Box.below SA.out hC
      go_simp
      simp only [evOf_tmp, u3]
      go_simp
      exact oa_pure hC (show tV _ _ w1 from rfl)
    · intro w1 vs hC hL
      have u16 := hL 16 (List.mem_of_elem_eq_true (by kernel_rfl))
      replace u16 : vs 16 = .agg #[.int .i64 f, .int .i64 d] := u16
      go_simp
      simp only [evOf_tmp, u16]
      exact oa_call hC (Calls.mono (toStop_c f d _) (fun e w2 hh => (by obtain ⟨he, hb⟩ := (by first | exact hh | exact Ro.mk hh | exact St.mk hh : Mk _ _ e w2); exact ⟨_, he, (show tV _ _ w2 from rfl), hb⟩)))
    · intro w1 vs hC hL
      have u15 := hL 15 (List.mem_of_elem_eq_true (by kernel_rfl))
      replace u15 : Fre (vs 15) x w1 := u15
      obtain ⟨p151, i151, p152, i152, p153, i153, u15, hF15⟩ := u15
      have u17 := hL 17 (List.mem_of_elem_eq_true (by kernel_rfl))
      replace u17 : vs 17 = .agg #[.int .i64 f, .int .i64 d] := u17
      go_simp
      simp only [evOf_tmp, u15, u17]
      exact oa_call hC (Calls.mono (HKS.out _ _ _ _ _ _ _ _ _ _ hF15) (fun e w2 hh => (by obtain ⟨he, hb⟩ := (by first | exact hh | exact Ro.mk hh | exact St.mk hh : Mk _ _ e w2); exact ⟨_, he, (show tV _ _ w2 from rfl), hb⟩)))
    · intro w1 vs hC hL
      go_simp
      exact oa_alloc hC (show tN2 _ _ (World.alloc w1 (.cells #[.int .i64 0, .int .i64 0] 27)) from ⟨w1.heap.size, rfl, by rw [← HB0.out]; exact hC.size, Box.new _ _ _ _⟩)
  intro vs wq hq hT
  have t1 : vs 18 = .agg #[.int .i64 F, .int .i64 D] := hT 18 rfl
  have t2 : tN2 B0 (vs 6) wq := hT 6 rfl
  obtain ⟨HW, t3, hHB, hbox⟩ := t2
  simp (decide := true) only [over, Nat.reduceAdd, if_true, if_false]
  rw [t1, t3]
  have WB := Lib.hid hbox
  clear hT t1 t3 hbox
  have Tn := Lib.hid (below_next T.out hq)
  have An := Lib.hid (Bx.below A.out hq)
  have SAn := Lib.hid (Box.below SA.out hq)
  clear hq
  clear T A SA
  have T := Tn
  have A := An
  have SA := SAn
  clear Tn An SAn
  obtain ⟨wn, hwq⟩ : ∃ w0, w0 = wq := ⟨_, rfl⟩
  subst hwq

  have ho := Out.trans (Out.set (w := wn) (q := HW) (i := 0) (lo := HW) (hi := HW + 1) (.int .i64 F) (Nat.le_refl _) (by omega)) (Out.set (w := wn.setCell ⟨HW, 0, none⟩ (.int .i64 F)) (q := HW) (i := 1) (lo := HW) (hi := HW + 1) (.int .i64 D) (Nat.le_refl _) (by omega))
  have Tn := Lib.hid (Out.below T.out ho (by omega))
  have An := Lib.hid (Bx.out A.out ho (by omega))
  have SAn := Lib.hid (Box.out SA.out ho (by omega))
  have WBn := Lib.hid (Box.pset1 (D) (Box.pset0 (F) WB.out))
  obtain ⟨⟨x0, x1⟩, xf0, xf1⟩ := WB.out
  go_upto_region 6 with fail
  clear ho x0 x1 xf0 xf1
  clear T A SA WB
  have T := Tn
  have A := An
  have SA := SAn
  have WB := WBn
  clear Tn An SAn WBn
  generalize ((wn.setCell ⟨HW, 0, none⟩ (.int .i64 F)).setCell ⟨HW, 1, none⟩ (.int .i64 D)) = w0 at *
  obtain ⟨wn, hwq⟩ : ∃ w9 : World, w9 = w0 := ⟨_, rfl⟩
  subst hwq
  obtain ⟨⟨c0, c1, c2⟩, -⟩ := A.out
  go_wp2_with fail
  refine Calls.mono (toCalls_c a1 n1 k1 a2 n2 k2 a3 n3 k3 x _ (Cal.below X0.out T.out) q1 q2 q3) ?_
  intro e wn hh
  obtain ⟨v1, v2, v3, loS, hiS, rfl, hO, hb, hlo, hhi⟩ := NewC.get hh
  have hTS : w.heap.size ≤ loS := by rw [← hlo]; exact T.out.size
  have hltAS := Bx.lt A.out
  rw [hlo] at hltAS
  have hltSAS := Box.lt SA.out
  rw [hlo] at hltSAS
  have hltWBS := Box.lt WB.out
  rw [hlo] at hltWBS
  have hlhS : loS ≤ hiS := by rw [← hlo, ← hhi]; exact hb.size
  obtain ⟨Sa, Si, Sb, Sj, Sc, Sk, rfl, rfl, rfl, -⟩ := OwnC.open hO
  have Tn := Lib.hid (below_next T.out hb)
  have An := Lib.hid (Bx.below A.out hb)
  have SAn := Lib.hid (Box.below SA.out hb)
  have WBn := Lib.hid (Box.below WB.out hb)
  have S := Lib.hid hO
  have HLOS := Lib.hid hlo
  clear hb hO hh hlo hhi c0 c1 c2
  clear T A SA WB
  have T := Tn
  have A := An
  have SA := SAn
  have WB := WBn
  clear Tn An SAn WBn
  have hltAHS := Bx.lt A.out
  have hltSAHS := Box.lt SA.out
  have hltWBHS := Box.lt WB.out
  have hltSHS := S.out.2.2.1
  have hWHS := T.out.size
  obtain ⟨HS, hHS⟩ : ∃ HS, Array.size (World.heap wn) = HS := ⟨_, rfl⟩
  have HHS : Hid _ := hHS
  rw [hHS] at hWHS hltAHS hltSAHS hltWBHS hltSHS
  have SB : Hid (Bx (wn.alloc (.cells #[.slice Sa x.u.length Si, .slice Sb x.d.length Sj, .slice Sc x.c.length Sk] 25)) HS (.slice Sa x.u.length Si) (.slice Sb x.d.length Sj) (.slice Sc x.c.length Sk)) := by rw [← hHS]; exact Bx.new _ _ _ _ _
  clear hHS
  have Tn : Hid (Below w.heap.size w _) := Below.al T.out (.cells #[.slice Sa x.u.length Si, .slice Sb x.d.length Sj, .slice Sc x.c.length Sk] 25)
  have An : Hid _ := Bx.below A.out ((Below.refl _ _).alloc (Nat.le_refl _) (.cells #[.slice Sa x.u.length Si, .slice Sb x.d.length Sj, .slice Sc x.c.length Sk] 25))
  have SAn : Hid _ := Box.below SA.out ((Below.refl _ _).alloc (Nat.le_refl _) (.cells #[.slice Sa x.u.length Si, .slice Sb x.d.length Sj, .slice Sc x.c.length Sk] 25))
  have WBn : Hid _ := Box.below WB.out ((Below.refl _ _).alloc (Nat.le_refl _) (.cells #[.slice Sa x.u.length Si, .slice Sb x.d.length Sj, .slice Sc x.c.length Sk] 25))
  have Sn : Hid _ := OwnC.below S.out ((Below.refl _ _).alloc (Nat.le_refl _) (.cells #[.slice Sa x.u.length Si, .slice Sb x.d.length Sj, .slice Sc x.c.length Sk] 25))
  clear T A SA WB S
  have T := Tn
  have A := An
  have SA := SAn
  have WB := WBn
  have S := Sn
  clear Tn An SAn WBn Sn
  go_wp2_with fail
  rw [HHS.out]
  generalize wn.alloc (.cells #[.slice Sa x.u.length Si, .slice Sb x.d.length Sj, .slice Sc x.c.length Sk] 25) = w0 at *
  obtain ⟨wn, hwq⟩ : ∃ w9 : World, w9 = w0 := ⟨_, rfl⟩
  subst hwq
  clear HB0 hTB hgB hHB

  obtain ⟨B0, hB0⟩ : ∃ B0, wn.heap.size = B0 := ⟨_, rfl⟩
  have HB0 := Lib.hid hB0
  have hTB : w.heap.size ≤ B0 := by rw [← hB0]; exact T.out.size
  have hgB := Bx.lt SB.out
  have hgW := Box.lt WB.out
  have hgS := S.out.2.2.1
  rw [hB0] at hgB hgW hgS
  clear hB0
  refine wp_region_late 5 [21, 22, 23, 24, 8] [(3, tV (.pointer (some ⟨g + 1, 0, none⟩))), (7, tV (.pointer (some ⟨HS, 0, none⟩)))]
    [(21, tV (.agg #[.slice Sa x.u.length Si, .slice Sb x.d.length Sj, .slice Sc x.c.length Sk])), (22, tV (.agg #[.int .i64 f, .int .i64 d])), (23, tV (.agg #[.int .i64 f, .int .i64 d])), (24, tV (.agg #[.int .i64 F, .int .i64 D])), (8, tN2 B0)]
    _ (by kernel_rfl) (by kernel_rfl) (by kernel_rfl) (by kernel_rfl) (by kernel_rfl) (by rfl) (by kernel_rfl) (by kernel_rfl) (by kernel_rfl) (by kernel_rfl) ⟨StW.g (StW.V _), StW.g (StW.V _), StW.g (StW.V _), StW.g (StW.V _), StW.g (StW.V _), StW.g (StW.V _), StGrow.N2 _, trivial⟩ ⟨rfl, rfl, trivial⟩ ?hob2 ?_
  case hob2 =>
    refine ⟨?_, ?_, ?_, ?_, ?_, trivial⟩
    · intro w1 vs hC hL
      have u7 := hL 7 (List.mem_of_elem_eq_true (by kernel_rfl))
      replace u7 : vs 7 = .pointer (some ⟨HS, 0, none⟩) := u7
      obtain ⟨⟨c0, c1, c2⟩, -⟩ := Bx.below SB.out hC
      go_simp
      simp only [evOf_tmp, u7]
      go_simp
      exact oa_pure hC (show tV _ _ w1 from rfl)
    · intro w1 vs hC hL
      have u3 := hL 3 (List.mem_of_elem_eq_true (by kernel_rfl))
      replace u3 : vs 3 = .pointer (some ⟨g + 1, 0, none⟩) := u3
      obtain ⟨⟨c0, c1⟩, -⟩ := Box.below SA.out hC
      go_simp
      simp only [evOf_tmp, u3]
      go_simp
      exact oa_pure hC (show tV _ _ w1 from rfl)
    · intro w1 vs hC hL
      have u22 := hL 22 (List.mem_of_elem_eq_true (by kernel_rfl))
      replace u22 : vs 22 = .agg #[.int .i64 f, .int .i64 d] := u22
      go_simp
      simp only [evOf_tmp, u22]
      exact oa_call hC (Calls.mono (toStop_c f d _) (fun e w2 hh => (by obtain ⟨he, hb⟩ := (by first | exact hh | exact Ro.mk hh | exact St.mk hh : Mk _ _ e w2); exact ⟨_, he, (show tV _ _ w2 from rfl), hb⟩)))
    · intro w1 vs hC hL
      have u21 := hL 21 (List.mem_of_elem_eq_true (by kernel_rfl))
      replace u21 : vs 21 = .agg #[.slice Sa x.u.length Si, .slice Sb x.d.length Sj, .slice Sc x.c.length Sk] := u21
      have u23 := hL 23 (List.mem_of_elem_eq_true (by kernel_rfl))
      replace u23 : vs 23 = .agg #[.int .i64 f, .int .i64 d] := u23
      go_simp
      simp only [evOf_tmp, u21, u23]
      exact oa_call hC (Calls.mono (HKI.out _ _ _ _ _ _ _ _ _ _ (OwnC.cal (OwnC.below S.out hC))) (fun e w2 hh => (by obtain ⟨he, hb⟩ := (by first | exact hh | exact Ro.mk hh | exact St.mk hh : Mk _ _ e w2); exact ⟨_, he, (show tV _ _ w2 from rfl), hb⟩)))
    · intro w1 vs hC hL
      go_simp
      exact oa_alloc hC (show tN2 _ _ (World.alloc w1 (.cells #[.int .i64 0, .int .i64 0] 27)) from ⟨w1.heap.size, rfl, by rw [← HB0.out]; exact hC.size, Box.new _ _ _ _⟩)
  intro vs wq hq hT
  have t1 : vs 24 = .agg #[.int .i64 F, .int .i64 D] := hT 24 rfl
  have t2 : tN2 B0 (vs 8) wq := hT 8 rfl
  obtain ⟨HG, t3, hHB, hbox⟩ := t2
  simp (decide := true) only [over, Nat.reduceAdd, if_true, if_false]
  rw [t1, t3]
  have GB := Lib.hid hbox
  clear hT t1 t3 hbox
  have Tn := Lib.hid (below_next T.out hq)
  have An := Lib.hid (Bx.below A.out hq)
  have SAn := Lib.hid (Box.below SA.out hq)
  have WBn := Lib.hid (Box.below WB.out hq)
  have Sn := Lib.hid (OwnC.below S.out hq)
  have SBn := Lib.hid (Bx.below SB.out hq)
  clear hq
  clear T A SA WB S SB
  have T := Tn
  have A := An
  have SA := SAn
  have WB := WBn
  have S := Sn
  have SB := SBn
  clear Tn An SAn WBn Sn SBn
  obtain ⟨wn, hwq⟩ : ∃ w0, w0 = wq := ⟨_, rfl⟩
  subst hwq

  have ho := Out.trans (Out.set (w := wn) (q := HG) (i := 0) (lo := HG) (hi := HG + 1) (.int .i64 F) (Nat.le_refl _) (by omega)) (Out.set (w := wn.setCell ⟨HG, 0, none⟩ (.int .i64 F)) (q := HG) (i := 1) (lo := HG) (hi := HG + 1) (.int .i64 D) (Nat.le_refl _) (by omega))
  have Tn := Lib.hid (Out.below T.out ho (by omega))
  have An := Lib.hid (Bx.out A.out ho (by omega))
  have SAn := Lib.hid (Box.out SA.out ho (by omega))
  have WBn := Lib.hid (Box.out WB.out ho (by omega))
  have Sn := Lib.hid (OwnC.out S.out ho (by omega))
  have SBn := Lib.hid (Bx.out SB.out ho (by omega))
  have GBn := Lib.hid (Box.pset1 (D) (Box.pset0 (F) GB.out))
  obtain ⟨⟨x0, x1⟩, xf0, xf1⟩ := GB.out
  go_upto_region 8 with fail
  clear ho x0 x1 xf0 xf1
  clear T A SA WB S SB GB
  have T := Tn
  have A := An
  have SA := SAn
  have WB := WBn
  have S := Sn
  have SB := SBn
  have GB := GBn
  clear Tn An SAn WBn Sn SBn GBn
  generalize ((wn.setCell ⟨HG, 0, none⟩ (.int .i64 F)).setCell ⟨HG, 1, none⟩ (.int .i64 D)) = w0 at *
  obtain ⟨wn, hwq⟩ : ∃ w9 : World, w9 = w0 := ⟨_, rfl⟩
  subst hwq
  obtain ⟨⟨p0, p1⟩, pf0, pf1⟩ := GB.out
  obtain ⟨⟨q0, q1⟩, qf0, qf1⟩ := WB.out
  go_wp2_with fail
  refine Calls.mono (HKE.out _) ?_
  intro e wn hh
  obtain ⟨he, hb⟩ := (by first | exact hh | exact Ro.mk hh | exact St.mk hh | exact LawOk.mk' hh : Mk _ _ e wn)
  subst he
  have Tn : Hid (Below w.heap.size w wn) := below_next T.out hb
  have An : Hid _ := Bx.below A.out hb
  have SAn : Hid _ := Box.below SA.out hb
  have WBn : Hid _ := Box.below WB.out hb
  have Sn : Hid _ := OwnC.below S.out hb
  have SBn : Hid _ := Bx.below SB.out hb
  have GBn : Hid _ := Box.below GB.out hb
  clear hb hh p0 p1 pf0 pf1 q0 q1 qf0 qf1
  clear T A SA WB S SB GB
  have T := Tn
  have A := An
  have SA := SAn
  have WB := WBn
  have S := Sn
  have SB := SBn
  have GB := GBn
  clear Tn An SAn WBn Sn SBn GBn
  go_wp2_with fail
  refine wp_region_inv (fun ln vs wx => Below (World.heap wn).size wn wx ∧ vs 7 = .pointer (some ⟨HS, 0, none⟩) ∧ vs 2 = .pointer (some ⟨g, 0, none⟩) ∧ (ln 0 = true → vs 29 = (.agg #[.slice Sa x.u.length Si, .slice Sb x.d.length Sj, .slice Sc x.c.length Sk])) ∧ (ln 1 = true → vs 30 = (.agg #[.slice a1 n1 k1, .slice a2 n2 k2, .slice a3 n3 k3])) ∧
      (ln 2 = true → Fre (vs 31) x wx) ∧ (ln 3 = true → vs 32 = .bool true) ∧ (ln 4 = true → vs 33 = .bool false)) [29, 30, 31, 32, 33]
    (by kernel_rfl) (by kernel_rfl) (by kernel_rfl) (by kernel_rfl) ⟨Below.dw (Below.refl _ _), rfl, rfl, fun h => (by cases h), fun h => (by cases h), fun h => (by cases h), fun h => (by cases h), fun h => (by cases h)⟩ ?hobs29 ?_
  case hobs29 =>
    refine ⟨?_, ?_, ?_, ?_, ?_, trivial⟩
    · intro ln vs wx hn ha ⟨hb, uX, uA, i0, i1, i2, i3, i4⟩
      obtain ⟨⟨c0, c1, c2⟩, _⟩ := (Bx.below SB.out hb)
      have HI := Lib.hid (And.intro i0 (And.intro i1 (And.intro i2 (And.intro i3 i4))))
      clear i0 i1 i2 i3 i4 ha
      go_simp
      simp only [evOf_tmp, uX]
      go_simp
      obtain ⟨i0, i1, i2, i3, i4⟩ := HI.out
      exact ⟨hb, uX, uA, fun _ => rfl, i1, i2, i3, i4⟩
    · intro ln vs wx hn ha ⟨hb, uX, uA, i0, i1, i2, i3, i4⟩
      obtain ⟨⟨c0, c1, c2⟩, _⟩ := (Bx.below A.out hb)
      have HI := Lib.hid (And.intro i0 (And.intro i1 (And.intro i2 (And.intro i3 i4))))
      clear i0 i1 i2 i3 i4 ha
      go_simp
      simp only [evOf_tmp, uA]
      go_simp
      obtain ⟨i0, i1, i2, i3, i4⟩ := HI.out
      exact ⟨hb, uX, uA, i0, fun _ => rfl, i2, i3, i4⟩
    · intro ln vs wx hn ha ⟨hb, uX, uA, i0, i1, i2, i3, i4⟩
      have q1 : ln 1 = true := ha ⟨1, Ground.data⟩ (by simp) rfl
      have u1 := i1 q1
      have HI := Lib.hid (And.intro i0 (And.intro i1 (And.intro i2 (And.intro i3 i4))))
      clear i0 i1 i2 i3 i4 ha
      go_simp
      simp only [evOf_tmp, u1]
      obtain ⟨i0, i1, i2, i3, i4⟩ := HI.out
      exact (toCalls_c a1 n1 k1 a2 n2 k2 a3 n3 k3 x _ (Cal.below X0.out (below_next T.out hb)) (by omega) (by omega) (by omega)).mono fun e w' hh => (by
        obtain ⟨v1, v2, v3, lo, hi, rfl, hO, hb2, -, -⟩ := NewC.get hh
        obtain ⟨q1, j1, q2, j2, q3, j3, rfl, rfl, rfl, hC⟩ := OwnC.open hO
        exact ⟨_, rfl, below_next hb hb2, uX, uA, i0, i1, fun _ => ⟨q1, j1, q2, j2, q3, j3, rfl, hC⟩, i3, i4⟩)
    · intro ln vs wx hn ha ⟨hb, uX, uA, i0, i1, i2, i3, i4⟩
      have q0 : ln 0 = true := ha ⟨0, Ground.data⟩ (by simp) rfl
      have q2 : ln 2 = true := ha ⟨2, Ground.data⟩ (by simp) rfl
      have u0 := i0 q0
      obtain ⟨p1, j1, p2, j2, p3, j3, u2, hC⟩ := i2 q2
      have HI := Lib.hid (And.intro i0 (And.intro i1 (And.intro i2 (And.intro i3 i4))))
      clear i0 i1 i2 i3 i4 ha
      have HCC := Lib.hid hC
      clear hC
      go_simp
      simp only [evOf_tmp, u0, u2]
      obtain ⟨i0, i1, i2, i3, i4⟩ := HI.out
      have K := eqCalls_c Sa x.u.length Si Sb x.d.length Sj Sc x.c.length Sk x p1 x.u.length j1 p2 x.d.length j2 p3 x.c.length j3 x wx (Cal.below (OwnC.cal S.out) hb) HCC.out (by omega) (by omega) (by omega)
      rw [tr_true rfl] at K
      exact K.mono fun e w' ⟨he, hb2⟩ => ⟨_, he, below_next hb hb2, uX, uA, i0, i1, fun h => (let ⟨a1', a2', a3', a4', a5', a6', a7', a8'⟩ := i2 h; ⟨a1', a2', a3', a4', a5', a6', a7', Cal.below a8' hb2⟩), fun _ => rfl, i4⟩
    · intro ln vs wx hn ha ⟨hb, uX, uA, i0, i1, i2, i3, i4⟩
      have q3 : ln 3 = true := ha ⟨3, Ground.data⟩ (by simp) rfl
      have u3 := i3 q3
      have HI := Lib.hid (And.intro i0 (And.intro i1 (And.intro i2 (And.intro i3 i4))))
      clear i0 i1 i2 i3 i4 ha
      go_simp
      simp only [evOf_tmp, u3]
      go_simp
      obtain ⟨i0, i1, i2, i3, i4⟩ := HI.out
      exact ⟨hb, uX, uA, i0, i1, i2, i3, fun _ => rfl⟩
  intro vs wq hI
  obtain ⟨hb, -, -, -, -, -, -, i4⟩ := hI
  have u4 : vs 33 = .bool false := i4 rfl
  simp (decide := true) only [over, Nat.reduceAdd, if_true, if_false]
  rw [u4]
  have Tn := Lib.hid (below_next T.out hb)
  have An := Lib.hid (Bx.below A.out hb)
  have SAn := Lib.hid (Box.below SA.out hb)
  have WBn := Lib.hid (Box.below WB.out hb)
  have Sn := Lib.hid (OwnC.below S.out hb)
  have SBn := Lib.hid (Bx.below SB.out hb)
  have GBn := Lib.hid (Box.below GB.out hb)
  clear hb i4 u4
  clear T A SA WB S SB GB
  have T := Tn
  have A := An
  have SA := SAn
  have WB := WBn
  have S := Sn
  have SB := SBn
  have GB := GBn
  clear Tn An SAn WBn Sn SBn GBn
  obtain ⟨wn, hwq⟩ : ∃ w0, w0 = wq := ⟨_, rfl⟩
  subst hwq
  go_wp2_with fail
  go_ret
  first | exact LawOk.mk T.out | exact LawOk.mk (Below.dr T.out _)

end Go.Proofs.Ytkpginkkfobblaa
