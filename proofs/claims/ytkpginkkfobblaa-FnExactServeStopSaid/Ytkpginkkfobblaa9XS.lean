/- The exact law of SweepStops: the walk. -/
import Derived.Test.Ytkpginkkfobblaa9X
namespace Go.Proofs.Ytkpginkkfobblaa
open Go.RowKit
set_option linter.unusedVariables false

/-- A row of stops in blocks lo..hi-1. -/
def OwnQ (w : World) (lo hi : Nat) (v : Value) (n : Nat) (xs : List Int) : Prop := OwnR 27 2 w lo v n xs ∧ (∀ q, v.ownBlock = some q → lo ≤ q ∧ q < hi) ∧ lo ≤ hi ∧ hi ≤ w.heap.size
theorem OwnQ.below {w w' : World} {lo hi : Nat} {v : Value} {n : Nat} {xs : List Int} (h : OwnQ w lo hi v n xs) (hb : Below w.heap.size w w') : OwnQ w' lo hi v n xs := ⟨h.1.below hb, h.2.1, h.2.2.1, Nat.le_trans h.2.2.2 hb.size⟩
theorem OwnQ.out {w w' : World} {lo hi lo' hi' : Nat} {v : Value} {n : Nat} {xs : List Int} (h : OwnQ w lo hi v n xs) (ho : Out lo' hi' w w') (hd : hi ≤ lo' ∨ hi' ≤ lo) : OwnQ w' lo hi v n xs :=
  ⟨h.1.block fun q hq => ho.block q (h.1.lt q hq).2 (by have := h.2.1 q hq; omega), h.2.1, h.2.2.1, Nat.le_trans h.2.2.2 ho.size⟩
theorem OwnQ.rs {w : World} {lo hi : Nat} {a : Option Addr} {n cap : Nat} {xs : List Int} (h : OwnQ w lo hi (.slice a n cap) n xs) : RS 2 w a n xs := by
  obtain ⟨a9, c9, e, hr, -⟩ := OwnR.open h.1
  simp only [Value.slice.injEq] at e
  rw [e.1]; exact hr
theorem DrawnS.get {w w' : World} {L : List (Nat × Bool)} {e : Ending} (h : DrawnS w L e w') : ∃ lo hi p u, e = .returned (.slice p L.length u) ∧ w.heap.size = lo ∧ OwnQ w' lo hi (.slice p L.length u) L.length (sfl L) ∧ Below w.heap.size w w' := by
  obtain ⟨v, rfl, hO, hb⟩ := h
  obtain ⟨p, u, rfl, -, -⟩ := OwnR.open hO
  exact ⟨_, w'.heap.size, p, u, rfl, rfl, ⟨hO, fun q hq => hO.lt q hq, hb.size, Nat.le_refl _⟩, hb⟩
theorem sSweepStops_c (a1 : Option Addr) (n1 k1 : Nat) (a2 : Option Addr) (n2 k2 : Nat) (a3 : Option Addr) (n3 k3 : Nat) (x : Cs) (f d : Int) (w : World) (hX : Cal w a1 n1 a2 n2 a3 n3 x) : Calls Try.prog 23 #[(.agg #[.slice a1 n1 k1, .slice a2 n2 k2, .slice a3 n3 k3]), (Value.agg #[.int .i64 (f), .int .i64 (d)])] w (DrawnS w (swT x f d)) := by
  by_cases h : SK x f d
  · obtain ⟨k, up, rfl, hk, rfl⟩ := SK.dir h
    rw [swT_t h]; exact sSweepStops_t a1 n1 k1 a2 n2 k2 a3 n3 k3 x k up w hX h
  · rw [swT_f h]; exact sSweepStops_f a1 n1 k1 a2 n2 k2 a3 n3 k3 x f d w hX h
theorem swT_len (x : Cs) (f d : Int) : (swT x f d).length ≤ 24 := by
  by_cases h : SK x f d
  · obtain ⟨k, up, rfl, hk, rfl⟩ := SK.dir h
    rw [swT_t h]
    have := (swl_end 30 x k up h.1 hk (by have := cm_bd x; omega)).2.2
    have := (cm_bd x).2
    omega
  · rw [swT_f h]; simp
theorem eqStopS_t (a : Option Addr) (n cap : Nat) (xs : List Int) (a' : Option Addr) (cap' : Nat) (w : World) (hx : RS 2 w a n xs) (hy : RS 2 w a' n xs) (hm : n ≤ 1048577) :
    Calls Try.prog 31 #[.slice a n cap, .slice a' n cap'] w (Mk w (.bool true)) := by
  have := eqStopS_c a n cap xs a' n cap' xs w hx hy hm
  rwa [tr_true rfl] at this

set_option maxHeartbeats 16000000 in
theorem ExactSweepStops_w (a1 : Option Addr) (n1 k1 : Nat) (a2 : Option Addr) (n2 k2 : Nat) (a3 : Option Addr) (n3 k3 : Nat) (x : Cs) (f d : Int) (w : World) (hX : Cal w a1 n1 a2 n2 a3 n3 x) (b1 : n1 ≤ maxLen) (b2 : n2 ≤ maxLen) (b3 : n3 ≤ maxLen) : Calls Try.prog 8 #[(.agg #[.slice a1 n1 k1, .slice a2 n2 k2, .slice a3 n3 k3]), (Value.agg #[.int .i64 (f), .int .i64 (d)])] w (LawOk w) := by
  have X0 := Lib.hid hX
  have l1 := hX.1.1
  have l2 := hX.2.1.1
  have l3 := hX.2.2.1
  clear hX
  by_cases hbig : n1 + n2 + n3 ≤ 1048576
  case neg =>
    have K := fun w' => szCalls_c a1 n1 k1 a2 n2 k2 a3 n3 k3 w' b1 b2 b3
    rw [sz_big hbig] at K
    have HK := Lib.hid K
    clear K hbig l1 l2 l3
    refine at_base fun wn hwn => ?_
    have T := Lib.hid (show Below w.heap.size w wn from by rw [hwn]; exact Below.refl _ _)
    clear hwn
    obtain ⟨g, hg⟩ : ∃ g, Array.size (World.heap wn) = g := ⟨_, rfl⟩
    have HGg := Lib.hid hg
    have hTg : w.heap.size ≤ g := by rw [← hg]; exact T.out.size
    have Tn := Lib.hid (show Below w.heap.size w ((wn.alloc (.cells #[.slice a1 n1 k1, .slice a2 n2 k2, .slice a3 n3 k3] 41)).alloc (.cells #[.int .i64 (f), .int .i64 (d)] 42)) from (Below.al (Below.al T.out (.cells #[.slice a1 n1 k1, .slice a2 n2 k2, .slice a3 n3 k3] 41)) (.cells #[.int .i64 (f), .int .i64 (d)] 42)))
    have A := Lib.hid (show Bx ((wn.alloc (.cells #[.slice a1 n1 k1, .slice a2 n2 k2, .slice a3 n3 k3] 41)).alloc (.cells #[.int .i64 (f), .int .i64 (d)] 42)) g (.slice a1 n1 k1) (.slice a2 n2 k2) (.slice a3 n3 k3) from by have h9 := (Bx.al (Bx.new wn (.slice a1 n1 k1) (.slice a2 n2 k2) (.slice a3 n3 k3) 41) (.cells #[.int .i64 (f), .int .i64 (d)] 42)); simp only [World.size_alloc, hg, Nat.add_assoc, Nat.reduceAdd] at h9; exact h9)
    have SA := Lib.hid (show Box ((wn.alloc (.cells #[.slice a1 n1 k1, .slice a2 n2 k2, .slice a3 n3 k3] 41)).alloc (.cells #[.int .i64 (f), .int .i64 (d)] 42)) (g + 1) (f) (d) from by have h9 := (Box.new (wn.alloc (.cells #[.slice a1 n1 k1, .slice a2 n2 k2, .slice a3 n3 k3] 41)) (f) (d) 42); simp only [World.size_alloc, hg, Nat.add_assoc, Nat.reduceAdd] at h9; exact h9)
    have HZg := Lib.hid (show (((wn.alloc (.cells #[.slice a1 n1 k1, .slice a2 n2 k2, .slice a3 n3 k3] 41)).alloc (.cells #[.int .i64 (f), .int .i64 (d)] 42))).heap.size = g + 2 from by simp only [World.size_alloc, hg, Nat.add_assoc, Nat.reduceAdd])
    clear hg
    clear T
    have T := Tn
    clear Tn
    go_enter Try.func8, Try.ntmps8
    go_wp2_with fail
    rw [HGg.out]
    refine Calls.mono (HK.out _) ?_
    intro e wn hh
    obtain ⟨he, hb⟩ := (by first | exact hh | exact Ro.mk hh | exact St.mk hh | exact LawOk.mk' hh : Mk _ _ e wn)
    subst he
    have Tn : Hid (Below w.heap.size w wn) := below_next T.out hb
    have An : Hid _ := Bx.below A.out hb
    have SAn : Hid _ := Box.below SA.out hb
    clear hb hh
    clear T A SA
    have T := Tn
    have A := An
    have SA := SAn
    clear Tn An SAn
    go_wp2_with fail
    go_ret
    first | exact LawOk.mk T.out | exact LawOk.mk (Below.dr T.out _)
  have K := fun w' => szCalls_c a1 n1 k1 a2 n2 k2 a3 n3 k3 w' b1 b2 b3
  rw [sz_ok hbig] at K
  have HK := Lib.hid K
  obtain ⟨z, hz⟩ : ∃ z, 1048576 - (n1 + n2 + n3) = z := ⟨_, rfl⟩
  rw [hz] at HK
  have m1 : x.u.length ≤ 1048576 := by omega
  have m2 : x.d.length ≤ 1048576 := by omega
  have m3 : x.c.length ≤ 1048576 := by omega
  have q1 : n1 ≤ 1048576 := by omega
  have q2 : n2 ≤ 1048576 := by omega
  have q3 : n3 ≤ 1048576 := by omega
  have hzn : ¬ (z : Int) < 0 := by omega
  have KS := fun p1 m1 i1 p2 m2 i2 p3 m3 i3 w' (h : Cal w' p1 m1 p2 m2 p3 m3 x) => sSweepStops_c p1 m1 i1 p2 m2 i2 p3 m3 i3 x f d w' h
  have KI := fun p1 m1 i1 p2 m2 i2 p3 m3 i3 w' (h : Cal w' p1 m1 p2 m2 p3 m3 x) => iSweepStops_c p1 m1 i1 p2 m2 i2 p3 m3 i3 x f d w' h
  have hL24 := swT_len x f d
  obtain ⟨L, hL⟩ : ∃ L, swT x f d = L := ⟨_, rfl⟩
  rw [hL] at KS KI hL24
  obtain ⟨N, hN⟩ : ∃ N, L.length = N := ⟨_, rfl⟩
  have HN := Lib.hid hN
  rw [hN] at hL24
  have HKS := Lib.hid KS
  have HKI := Lib.hid KI
  have s2 : x.u.length + x.d.length + x.c.length ≤ 1048576 := by omega
  obtain ⟨z1, hz1⟩ : ∃ z, 1 + N * 2 = z := ⟨_, rfl⟩
  obtain ⟨z2, hz2⟩ : ∃ z, 1 + x.u.length + x.d.length + x.c.length = z := ⟨_, rfl⟩
  have HZ1 := Lib.hid hz1
  have HZ2 := Lib.hid hz2
  have hzn1 : ¬ (z1 : Int) < 0 := by omega
  have hzn2 : ¬ (z2 : Int) < 0 := by omega
  clear KS KI hL hN hz1 hz2
  clear K hz l1 l2 l3
  refine at_base fun wn hwn => ?_
  have T := Lib.hid (show Below w.heap.size w wn from by rw [hwn]; exact Below.refl _ _)
  clear hwn
  obtain ⟨g, hg⟩ : ∃ g, Array.size (World.heap wn) = g := ⟨_, rfl⟩
  have HGg := Lib.hid hg
  have hTg : w.heap.size ≤ g := by rw [← hg]; exact T.out.size
  have Tn := Lib.hid (show Below w.heap.size w ((wn.alloc (.cells #[.slice a1 n1 k1, .slice a2 n2 k2, .slice a3 n3 k3] 41)).alloc (.cells #[.int .i64 (f), .int .i64 (d)] 42)) from (Below.al (Below.al T.out (.cells #[.slice a1 n1 k1, .slice a2 n2 k2, .slice a3 n3 k3] 41)) (.cells #[.int .i64 (f), .int .i64 (d)] 42)))
  have A := Lib.hid (show Bx ((wn.alloc (.cells #[.slice a1 n1 k1, .slice a2 n2 k2, .slice a3 n3 k3] 41)).alloc (.cells #[.int .i64 (f), .int .i64 (d)] 42)) g (.slice a1 n1 k1) (.slice a2 n2 k2) (.slice a3 n3 k3) from by have h9 := (Bx.al (Bx.new wn (.slice a1 n1 k1) (.slice a2 n2 k2) (.slice a3 n3 k3) 41) (.cells #[.int .i64 (f), .int .i64 (d)] 42)); simp only [World.size_alloc, hg, Nat.add_assoc, Nat.reduceAdd] at h9; exact h9)
  have SA := Lib.hid (show Box ((wn.alloc (.cells #[.slice a1 n1 k1, .slice a2 n2 k2, .slice a3 n3 k3] 41)).alloc (.cells #[.int .i64 (f), .int .i64 (d)] 42)) (g + 1) (f) (d) from by have h9 := (Box.new (wn.alloc (.cells #[.slice a1 n1 k1, .slice a2 n2 k2, .slice a3 n3 k3] 41)) (f) (d) 42); simp only [World.size_alloc, hg, Nat.add_assoc, Nat.reduceAdd] at h9; exact h9)
  have HZg := Lib.hid (show (((wn.alloc (.cells #[.slice a1 n1 k1, .slice a2 n2 k2, .slice a3 n3 k3] 41)).alloc (.cells #[.int .i64 (f), .int .i64 (d)] 42))).heap.size = g + 2 from by simp only [World.size_alloc, hg, Nat.add_assoc, Nat.reduceAdd])
  clear hg
  clear T
  have T := Tn
  clear Tn
  go_enter Try.func8, Try.ntmps8
  go_wp2_with fail
  rw [HGg.out]
  refine Calls.mono (HK.out _) ?_
  intro e wn hh
  obtain ⟨he, hb⟩ := (by first | exact hh | exact Ro.mk hh | exact St.mk hh | exact LawOk.mk' hh : Mk _ _ e wn)
  subst he
  have Tn : Hid (Below w.heap.size w wn) := below_next T.out hb
  have An : Hid _ := Bx.below A.out hb
  have SAn : Hid _ := Box.below SA.out hb
  clear hb hh
  clear T A SA
  have T := Tn
  have A := An
  have SA := SAn
  clear Tn An SAn
  clear HK
  go_wp2_with fail

  refine wp_region_late 4 [18, 19, 20, 21] [(2, tV (.pointer (some ⟨g, 0, none⟩))), (3, tV (.pointer (some ⟨g + 1, 0, none⟩)))]
    [(18, tV (.agg #[.slice a1 n1 k1, .slice a2 n2 k2, .slice a3 n3 k3])), (19, tF x), (20, tV (.agg #[.int .i64 f, .int .i64 d])), (21, tV (.agg #[.int .i64 f, .int .i64 d]))]
    _ (by kernel_rfl) (by kernel_rfl) (by kernel_rfl) (by kernel_rfl) (by kernel_rfl) (by rfl) (by kernel_rfl) (by kernel_rfl) (by kernel_rfl) (by kernel_rfl) ⟨StW.g (StW.V _), StW.g (StW.V _), StW.g (StW.V _), StGrow.F _, StW.g (StW.V _), StW.g (StW.V _), trivial⟩ ⟨rfl, rfl, trivial⟩ ?hob1 ?_
  case hob1 =>
    refine ⟨?_, ?_, ?_, ?_, trivial⟩
    · intro w1 vs hC hL
      have u2 := hL 2 (List.mem_of_elem_eq_true (by kernel_rfl))
      replace u2 : vs 2 = .pointer (some ⟨g, 0, none⟩) := u2
      obtain ⟨⟨c0, c1, c2⟩, -⟩ := Bx.below A.out hC
      go_simp
      simp only [evOf_tmp, u2]
      go_simp
      exact oa_pure hC (show tV _ _ w1 from rfl)
    · intro w1 vs hC hL
      have u18 := hL 18 (List.mem_of_elem_eq_true (by kernel_rfl))
      replace u18 : vs 18 = .agg #[.slice a1 n1 k1, .slice a2 n2 k2, .slice a3 n3 k3] := u18
      go_simp
      simp only [evOf_tmp, u18]
      exact oa_call hC (Calls.mono (toCalls_c a1 n1 k1 a2 n2 k2 a3 n3 k3 x _ (Cal.below X0.out (below_next T.out hC)) q1 q2 q3) (fun e w2 hh => (by obtain ⟨v1, v2, v3, lo, hi, rfl, hO, hb2, -, -⟩ := NewC.get hh; obtain ⟨q1, j1, q2, j2, q3, j3, rfl, rfl, rfl, hCC⟩ := OwnC.open hO; exact ⟨_, rfl, (show Fre _ _ w2 from ⟨q1, j1, q2, j2, q3, j3, rfl, hCC⟩), hb2⟩)))
    · intro w1 vs hC hL
      have u3 := hL 3 (List.mem_of_elem_eq_true (by kernel_rfl))
      replace u3 : vs 3 = .pointer (some ⟨g + 1, 0, none⟩) := u3
      obtain ⟨⟨c0, c1⟩, -⟩ := Box.below SA.out hC
      go_simp
      simp only [evOf_tmp, u3]
      go_simp
      exact oa_pure hC (show tV _ _ w1 from rfl)
    · intro w1 vs hC hL
      have u20 := hL 20 (List.mem_of_elem_eq_true (by kernel_rfl))
      replace u20 : vs 20 = .agg #[.int .i64 f, .int .i64 d] := u20
      go_simp
      simp only [evOf_tmp, u20]
      exact oa_call hC (Calls.mono (toStop_c f d _) (fun e w2 hh => (by obtain ⟨he, hb⟩ := (by first | exact hh | exact Ro.mk hh | exact St.mk hh : Mk _ _ e w2); exact ⟨_, he, (show tV _ _ w2 from rfl), hb⟩)))
  intro vs wq hq hT
  have t1 : vs 21 = .agg #[.int .i64 f, .int .i64 d] := hT 21 rfl
  have t2 : Fre (vs 19) x wq := hT 19 rfl
  obtain ⟨ra, ri, rb, rj, rc, rk, t3, hF⟩ := t2
  simp (decide := true) only [over, Nat.reduceAdd, if_true, if_false]
  rw [t1, t3]
  have R := Lib.hid hF
  clear hT t1 t3 hF
  have Tn := Lib.hid (below_next T.out hq)
  have An := Lib.hid (Bx.below A.out hq)
  have SAn := Lib.hid (Box.below SA.out hq)
  clear hq
  clear T A SA
  have T := Tn
  have A := An
  have SA := SAn
  clear Tn An SAn
  obtain ⟨wn, hwq⟩ : ∃ w0, w0 = wq := ⟨_, rfl⟩
  subst hwq

  go_wp2_with fail
  obtain ⟨loW, hlo⟩ : ∃ lo, wn.heap.size = lo := ⟨_, rfl⟩
  have HLOW := Lib.hid hlo
  have hlTW : w.heap.size ≤ loW := by rw [← hlo]; exact T.out.size
  have hlAW := Bx.lt A.out
  rw [hlo] at hlAW
  have hlSAW := Box.lt SA.out
  rw [hlo] at hlSAW
  clear hlo
  refine Calls.mono (HKS.out _ _ _ _ _ _ _ _ _ _ R.out) ?_
  intro e wq hh
  obtain ⟨lo9, hiW, pW, uW, rfl, hlo9, hO, hb⟩ := DrawnS.get hh
  rw [HLOW.out] at hlo9
  subst hlo9
  clear hh
  have W0 := Lib.hid hO
  clear hO
  have Tn := Lib.hid (below_next T.out hb)
  have An := Lib.hid (Bx.below A.out hb)
  have SAn := Lib.hid (Box.below SA.out hb)
  have Rn := Lib.hid (Cal.below R.out hb)
  clear hb
  clear T A SA R
  have T := Tn
  have A := An
  have SA := SAn
  have R := Rn
  clear Tn An SAn Rn
  obtain ⟨wn, hwq⟩ : ∃ w0, w0 = wq := ⟨_, rfl⟩
  subst hwq
  have W := W0
  clear W0
  have hlhW := W.out.2.2.1

  rw [HN.out] at W
  rw [HN.out]
  clear R
  obtain ⟨⟨c0, c1, c2⟩, -⟩ := A.out
  go_wp2_with fail
  refine Calls.mono (toCalls_c a1 n1 k1 a2 n2 k2 a3 n3 k3 x _ (Cal.below X0.out T.out) q1 q2 q3) ?_
  intro e wn hh
  obtain ⟨v1, v2, v3, loS, hiS, rfl, hO, hb, hlo, hhi⟩ := NewC.get hh
  have hTS : w.heap.size ≤ loS := by rw [← hlo]; exact T.out.size
  have hltAS := Bx.lt A.out
  rw [hlo] at hltAS
  have hltSAS := Box.lt SA.out
  rw [hlo] at hltSAS
  have hhWS := W.out.2.2.2
  rw [hlo] at hhWS
  have hlhS : loS ≤ hiS := by rw [← hlo, ← hhi]; exact hb.size
  obtain ⟨Sa, Si, Sb, Sj, Sc, Sk, rfl, rfl, rfl, -⟩ := OwnC.open hO
  have Tn := Lib.hid (below_next T.out hb)
  have An := Lib.hid (Bx.below A.out hb)
  have SAn := Lib.hid (Box.below SA.out hb)
  have Wn := Lib.hid (OwnQ.below W.out hb)
  have S := Lib.hid hO
  have HLOS := Lib.hid hlo
  clear hb hO hh hlo hhi c0 c1 c2
  clear T A SA W
  have T := Tn
  have A := An
  have SA := SAn
  have W := Wn
  clear Tn An SAn Wn
  have hltAHS := Bx.lt A.out
  have hltSAHS := Box.lt SA.out
  have hltWHS := W.out.2.2.2
  have hltSHS := S.out.2.2.1
  have hWHS := T.out.size
  obtain ⟨HS, hHS⟩ : ∃ HS, Array.size (World.heap wn) = HS := ⟨_, rfl⟩
  have HHS : Hid _ := hHS
  rw [hHS] at hWHS hltAHS hltSAHS hltWHS hltSHS
  have SB : Hid (Bx (wn.alloc (.cells #[.slice Sa x.u.length Si, .slice Sb x.d.length Sj, .slice Sc x.c.length Sk] 25)) HS (.slice Sa x.u.length Si) (.slice Sb x.d.length Sj) (.slice Sc x.c.length Sk)) := by rw [← hHS]; exact Bx.new _ _ _ _ _
  clear hHS
  have Tn : Hid (Below w.heap.size w _) := Below.al T.out (.cells #[.slice Sa x.u.length Si, .slice Sb x.d.length Sj, .slice Sc x.c.length Sk] 25)
  have An : Hid _ := Bx.below A.out ((Below.refl _ _).alloc (Nat.le_refl _) (.cells #[.slice Sa x.u.length Si, .slice Sb x.d.length Sj, .slice Sc x.c.length Sk] 25))
  have SAn : Hid _ := Box.below SA.out ((Below.refl _ _).alloc (Nat.le_refl _) (.cells #[.slice Sa x.u.length Si, .slice Sb x.d.length Sj, .slice Sc x.c.length Sk] 25))
  have Wn : Hid _ := OwnQ.below W.out ((Below.refl _ _).alloc (Nat.le_refl _) (.cells #[.slice Sa x.u.length Si, .slice Sb x.d.length Sj, .slice Sc x.c.length Sk] 25))
  have Sn : Hid _ := OwnC.below S.out ((Below.refl _ _).alloc (Nat.le_refl _) (.cells #[.slice Sa x.u.length Si, .slice Sb x.d.length Sj, .slice Sc x.c.length Sk] 25))
  clear T A SA W S
  have T := Tn
  have A := An
  have SA := SAn
  have W := Wn
  have S := Sn
  clear Tn An SAn Wn Sn
  go_wp2_with fail
  rw [HHS.out]
  generalize wn.alloc (.cells #[.slice Sa x.u.length Si, .slice Sb x.d.length Sj, .slice Sc x.c.length Sk] 25) = w0 at *
  refine wp_region_quiet_late (C := fun w' => Below (World.heap (w0)).size (w0) w') 3 _ (by kernel_rfl) (by kernel_rfl) (by kernel_rfl) (by kernel_rfl) (by rfl) (by kernel_rfl) (by kernel_rfl) (by first | exact ⟨rfl, rfl, rfl, Nat.le_refl _, fun _ _ => rfl⟩ | exact Below.dw (by repeat (first | exact Below.refl _ _ | refine Below.al ?_ _ | refine Below.dr ?_ _ | refine Below.dw ?_ | refine Below.st ?_ (by first | exact Nat.le_refl _ | exact Nat.le_add_right _ _ | (simp; omega)) _ | (refine below_next ?_ (by assumption))))) ?_
  simp only [List.take_succ_cons, List.take_zero]
  repeat (go_big_quiet_step (first | (intro _; with_reducible exact rfl) | (intro hC; go_at_call 26; obtain ⟨⟨c0, c1, c2⟩, -⟩ := Bx.below SB.out hC; obtain ⟨⟨d0, d1⟩, -⟩ := Box.below SA.out hC; (refine Calls.mono (toStop_c f d _) ?_); (first | (rintro e wx ⟨rfl, hb⟩; exact ⟨rfl, below_next hC hb⟩) | (rintro e wx ⟨rfl, n, rfl⟩; exact ⟨rfl, Below.dr hC n⟩) | (rintro e wx ⟨rfl, rfl⟩; exact ⟨rfl, hC⟩))) | (intro hC; obtain ⟨⟨c0, c1, c2⟩, -⟩ := Bx.below SB.out hC; obtain ⟨⟨d0, d1⟩, -⟩ := Box.below SA.out hC; go_simp; rfl)))
  refine wpQuiet_nil ?_
  intro wq hq
  have Tn := Lib.hid (below_next T.out hq)
  have An := Lib.hid (Bx.below A.out hq)
  have SAn := Lib.hid (Box.below SA.out hq)
  have Wn := Lib.hid (OwnQ.below W.out hq)
  have Sn := Lib.hid (OwnC.below S.out hq)
  have SBn := Lib.hid (Bx.below SB.out hq)
  clear hq
  clear T A SA W S SB
  have T := Tn
  have A := An
  have SA := SAn
  have W := Wn
  have S := Sn
  have SB := SBn
  clear Tn An SAn Wn Sn SBn
  obtain ⟨wn, hwq⟩ : ∃ w0, w0 = wq := ⟨_, rfl⟩
  subst hwq

  go_wp2_with fail
  obtain ⟨loG, hlo⟩ : ∃ lo, wn.heap.size = lo := ⟨_, rfl⟩
  have HLOG := Lib.hid hlo
  have hlTG : w.heap.size ≤ loG := by rw [← hlo]; exact T.out.size
  have hlAG := Bx.lt A.out
  rw [hlo] at hlAG
  have hlSAG := Box.lt SA.out
  rw [hlo] at hlSAG
  have hlSBG := Bx.lt SB.out
  rw [hlo] at hlSBG
  have hlSG := S.out.2.2.1
  rw [hlo] at hlSG
  have hlWG := W.out.2.2.2
  rw [hlo] at hlWG
  clear hlo
  refine Calls.mono (HKI.out _ _ _ _ _ _ _ _ _ _ (OwnC.cal S.out)) ?_
  intro e wq hh
  obtain ⟨lo9, hiG, pG, uG, rfl, hlo9, hO, hb⟩ := DrawnS.get hh
  rw [HLOG.out] at hlo9
  subst hlo9
  clear hh
  have G0 := Lib.hid hO
  clear hO
  have Tn := Lib.hid (below_next T.out hb)
  have An := Lib.hid (Bx.below A.out hb)
  have SAn := Lib.hid (Box.below SA.out hb)
  have Wn := Lib.hid (OwnQ.below W.out hb)
  have Sn := Lib.hid (OwnC.below S.out hb)
  have SBn := Lib.hid (Bx.below SB.out hb)
  clear hb
  clear T A SA W S SB
  have T := Tn
  have A := An
  have SA := SAn
  have W := Wn
  have S := Sn
  have SB := SBn
  clear Tn An SAn Wn Sn SBn
  obtain ⟨wn, hwq⟩ : ∃ w0, w0 = wq := ⟨_, rfl⟩
  subst hwq
  have G := G0
  clear G0
  have hlhG := G.out.2.2.1

  rw [HN.out] at G
  rw [HN.out]
  go_wp2_with fail
  refine Calls.mono (eqStopS_t pG N uG (sfl L) pW uW _ G.out.rs W.out.rs (by omega)) ?_
  intro e wn hh
  obtain ⟨he, hb⟩ := (by first | exact hh | exact Ro.mk hh | exact St.mk hh | exact LawOk.mk' hh : Mk _ _ e wn)
  subst he
  have Tn : Hid (Below w.heap.size w wn) := below_next T.out hb
  have An : Hid _ := Bx.below A.out hb
  have SAn : Hid _ := Box.below SA.out hb
  have Wn : Hid _ := OwnQ.below W.out hb
  have Sn : Hid _ := OwnC.below S.out hb
  have SBn : Hid _ := Bx.below SB.out hb
  have Gn : Hid _ := OwnQ.below G.out hb
  clear hb hh
  clear T A SA W S SB G
  have T := Tn
  have A := An
  have SA := SAn
  have W := Wn
  have S := Sn
  have SB := SBn
  have G := Gn
  clear Tn An SAn Wn Sn SBn Gn
  go_wp2_with fail
  refine wp_region_inv (fun ln vs wx => Below (World.heap wn).size wn wx ∧ vs 7 = .pointer (some ⟨HS, 0, none⟩) ∧ vs 2 = .pointer (some ⟨g, 0, none⟩) ∧ (ln 0 = true → vs 33 = (.agg #[.slice Sa x.u.length Si, .slice Sb x.d.length Sj, .slice Sc x.c.length Sk])) ∧ (ln 1 = true → vs 34 = (.agg #[.slice a1 n1 k1, .slice a2 n2 k2, .slice a3 n3 k3])) ∧
      (ln 2 = true → Fre (vs 35) x wx) ∧ (ln 3 = true → vs 36 = .bool true) ∧ (ln 4 = true → vs 37 = .bool false)) [33, 34, 35, 36, 37]
    (by kernel_rfl) (by kernel_rfl) (by kernel_rfl) (by kernel_rfl) ⟨Below.dw (Below.refl _ _), rfl, rfl, fun h => (by cases h), fun h => (by cases h), fun h => (by cases h), fun h => (by cases h), fun h => (by cases h)⟩ ?hobs33 ?_
  case hobs33 =>
    refine ⟨?_, ?_, ?_, ?_, ?_, trivial⟩
    · intro ln vs wx hn ha ⟨hb, uX, uA, i0, i1, i2, i3, i4⟩
      obtain ⟨⟨c0, c1, c2⟩, _⟩ := (Bx.below SB.out hb)
      have HI := Lib.hid (And.intro i0 (And.intro i1 (And.intro i2 (And.intro i3 i4))))
      clear i0 i1 i2 i3 i4 ha
      go_simp
      simp only [evOf_tmp, uX]
      go_simp
      obtain ⟨i0, i1, i2, i3, i4⟩ := HI.out
      exact ⟨hb, uX, uA, fun _ => rfl, i1, i2, i3, i4⟩
    · intro ln vs wx hn ha ⟨hb, uX, uA, i0, i1, i2, i3, i4⟩
      obtain ⟨⟨c0, c1, c2⟩, _⟩ := (Bx.below A.out hb)
      have HI := Lib.hid (And.intro i0 (And.intro i1 (And.intro i2 (And.intro i3 i4))))
      clear i0 i1 i2 i3 i4 ha
      go_simp
      simp only [evOf_tmp, uA]
      go_simp
      obtain ⟨i0, i1, i2, i3, i4⟩ := HI.out
      exact ⟨hb, uX, uA, i0, fun _ => rfl, i2, i3, i4⟩
    · intro ln vs wx hn ha ⟨hb, uX, uA, i0, i1, i2, i3, i4⟩
      have q1 : ln 1 = true := ha ⟨1, Ground.data⟩ (by simp) rfl
      have u1 := i1 q1
      have HI := Lib.hid (And.intro i0 (And.intro i1 (And.intro i2 (And.intro i3 i4))))
      clear i0 i1 i2 i3 i4 ha
      go_simp
      simp only [evOf_tmp, u1]
      obtain ⟨i0, i1, i2, i3, i4⟩ := HI.out
      exact (toCalls_c a1 n1 k1 a2 n2 k2 a3 n3 k3 x _ (Cal.below X0.out (below_next T.out hb)) (by omega) (by omega) (by omega)).mono fun e w' hh => (by
        obtain ⟨v1, v2, v3, lo, hi, rfl, hO, hb2, -, -⟩ := NewC.get hh
        obtain ⟨q1, j1, q2, j2, q3, j3, rfl, rfl, rfl, hC⟩ := OwnC.open hO
        exact ⟨_, rfl, below_next hb hb2, uX, uA, i0, i1, fun _ => ⟨q1, j1, q2, j2, q3, j3, rfl, hC⟩, i3, i4⟩)
    · intro ln vs wx hn ha ⟨hb, uX, uA, i0, i1, i2, i3, i4⟩
      have q0 : ln 0 = true := ha ⟨0, Ground.data⟩ (by simp) rfl
      have q2 : ln 2 = true := ha ⟨2, Ground.data⟩ (by simp) rfl
      have u0 := i0 q0
      obtain ⟨p1, j1, p2, j2, p3, j3, u2, hC⟩ := i2 q2
      have HI := Lib.hid (And.intro i0 (And.intro i1 (And.intro i2 (And.intro i3 i4))))
      clear i0 i1 i2 i3 i4 ha
      have HCC := Lib.hid hC
      clear hC
      go_simp
      simp only [evOf_tmp, u0, u2]
      obtain ⟨i0, i1, i2, i3, i4⟩ := HI.out
      have K := eqCalls_c Sa x.u.length Si Sb x.d.length Sj Sc x.c.length Sk x p1 x.u.length j1 p2 x.d.length j2 p3 x.c.length j3 x wx (Cal.below (OwnC.cal S.out) hb) HCC.out (by omega) (by omega) (by omega)
      rw [tr_true rfl] at K
      exact K.mono fun e w' ⟨he, hb2⟩ => ⟨_, he, below_next hb hb2, uX, uA, i0, i1, fun h => (let ⟨a1', a2', a3', a4', a5', a6', a7', a8'⟩ := i2 h; ⟨a1', a2', a3', a4', a5', a6', a7', Cal.below a8' hb2⟩), fun _ => rfl, i4⟩
    · intro ln vs wx hn ha ⟨hb, uX, uA, i0, i1, i2, i3, i4⟩
      have q3 : ln 3 = true := ha ⟨3, Ground.data⟩ (by simp) rfl
      have u3 := i3 q3
      have HI := Lib.hid (And.intro i0 (And.intro i1 (And.intro i2 (And.intro i3 i4))))
      clear i0 i1 i2 i3 i4 ha
      go_simp
      simp only [evOf_tmp, u3]
      go_simp
      obtain ⟨i0, i1, i2, i3, i4⟩ := HI.out
      exact ⟨hb, uX, uA, i0, i1, i2, i3, fun _ => rfl⟩
  intro vs wq hI
  obtain ⟨hb, -, -, -, -, -, -, i4⟩ := hI
  have u4 : vs 37 = .bool false := i4 rfl
  simp (decide := true) only [over, Nat.reduceAdd, if_true, if_false]
  rw [u4]
  have Tn := Lib.hid (below_next T.out hb)
  have An := Lib.hid (Bx.below A.out hb)
  have SAn := Lib.hid (Box.below SA.out hb)
  have Wn := Lib.hid (OwnQ.below W.out hb)
  have Sn := Lib.hid (OwnC.below S.out hb)
  have SBn := Lib.hid (Bx.below SB.out hb)
  have Gn := Lib.hid (OwnQ.below G.out hb)
  clear hb i4 u4
  clear T A SA W S SB G
  have T := Tn
  have A := An
  have SA := SAn
  have W := Wn
  have S := Sn
  have SB := SBn
  have G := Gn
  clear Tn An SAn Wn Sn SBn Gn
  obtain ⟨wn, hwq⟩ : ∃ w0, w0 = wq := ⟨_, rfl⟩
  subst hwq
  obtain ⟨⟨d0, d1, d2⟩, -⟩ := SB.out
  go_wp2_with fail
  refine Calls.mono (markCalls_c Sa x.u.length Si Sb x.d.length Sj Sc x.c.length Sk 1 x loS hiS _ S.out (by omega) s2) ?_
  rintro e wn ⟨rfl, hO, ho⟩
  have Tn := Lib.hid (Out.below T.out ho (by omega))
  have An := Lib.hid (Bx.out A.out ho (by omega))
  have SAn := Lib.hid (Box.out SA.out ho (by omega))
  have Wn := Lib.hid (OwnQ.out W.out ho (by omega))
  have Sn := Lib.hid hO
  have SBn := Lib.hid (Bx.out SB.out ho (by omega))
  have Gn := Lib.hid (OwnQ.out G.out ho (by omega))
  clear hO ho d0 d1 d2
  clear T A SA W S SB G
  have T := Tn
  have A := An
  have SA := SAn
  have W := Wn
  have S := Sn
  have SB := SBn
  have G := Gn
  clear Tn An SAn Wn Sn SBn Gn
  rw [HZ2.out]
  go_wp2_with fail
  refine Calls.mono (eqStopS_t pG N uG (sfl L) pW uW _ G.out.rs W.out.rs (by omega)) ?_
  intro e wn hh
  obtain ⟨he, hb⟩ := (by first | exact hh | exact Ro.mk hh | exact St.mk hh | exact LawOk.mk' hh : Mk _ _ e wn)
  subst he
  have Tn : Hid (Below w.heap.size w wn) := below_next T.out hb
  have An : Hid _ := Bx.below A.out hb
  have SAn : Hid _ := Box.below SA.out hb
  have Wn : Hid _ := OwnQ.below W.out hb
  have Sn : Hid _ := OwnC.below S.out hb
  have SBn : Hid _ := Bx.below SB.out hb
  have Gn : Hid _ := OwnQ.below G.out hb
  clear hb hh
  clear T A SA W S SB G
  have T := Tn
  have A := An
  have SA := SAn
  have W := Wn
  have S := Sn
  have SB := SBn
  have G := Gn
  clear Tn An SAn Wn Sn SBn Gn
  go_wp2_with fail
  refine Calls.mono (markStopS_c pG N uG 1 (sfl L) loG loG hiG _ G.out.1 (by omega) (by omega) G.out.2.1) ?_
  rintro e wq ⟨rfl, hO, ho⟩
  have G9 := Lib.hid (show OwnQ wq loG hiG (.slice pG N uG) N (mks 1 (N * 2)) from ⟨hO, G.out.2.1, G.out.2.2.1, Nat.le_trans G.out.2.2.2 ho.size⟩)
  have A9 := Lib.hid (Bx.out A.out ho (.inl (by omega)))
  have SA9 := Lib.hid (Box.out SA.out ho (.inl (by omega)))
  have W9 := Lib.hid (OwnQ.out W.out ho (.inl (by omega)))
  have T9 := Lib.hid (Out.below T.out ho (by omega))
  clear hO ho G A SA W T S SB
  have G := G9
  have A := A9
  have SA := SA9
  have W := W9
  have T := T9
  clear G9 A9 SA9 W9 T9
  obtain ⟨wn, hwq⟩ : ∃ w9 : World, w9 = wq := ⟨_, rfl⟩
  subst hwq
  rw [HZ1.out]
  have HK1 := Lib.hid (heldStopS_c pG N uG 1 wn (OwnQ.rs G.out) (by omega) (by omega))
  rw [HZ1.out] at HK1
  go_wp2_with fail
  refine Calls.mono (HK1.out) ?_
  intro e wn hh
  obtain ⟨he, hb⟩ := (by first | exact hh | exact Ro.mk hh | exact St.mk hh | exact LawOk.mk' hh : Mk _ _ e wn)
  subst he
  have Tn : Hid (Below w.heap.size w wn) := below_next T.out hb
  have An : Hid _ := Bx.below A.out hb
  have SAn : Hid _ := Box.below SA.out hb
  have Wn : Hid _ := OwnQ.below W.out hb
  have Gn : Hid _ := OwnQ.below G.out hb
  clear hb hh
  clear T A SA W G
  have T := Tn
  have A := An
  have SA := SAn
  have W := Wn
  have G := Gn
  clear Tn An SAn Wn Gn
  clear HK1
  go_wp2_with fail

  refine wp_region_late 4 [60, 61, 62, 63] [(2, tV (.pointer (some ⟨g, 0, none⟩))), (3, tV (.pointer (some ⟨g + 1, 0, none⟩)))]
    [(60, tV (.agg #[.slice a1 n1 k1, .slice a2 n2 k2, .slice a3 n3 k3])), (61, tF x), (62, tV (.agg #[.int .i64 f, .int .i64 d])), (63, tV (.agg #[.int .i64 f, .int .i64 d]))]
    _ (by kernel_rfl) (by kernel_rfl) (by kernel_rfl) (by kernel_rfl) (by kernel_rfl) (by rfl) (by kernel_rfl) (by kernel_rfl) (by kernel_rfl) (by kernel_rfl) ⟨StW.g (StW.V _), StW.g (StW.V _), StW.g (StW.V _), StGrow.F _, StW.g (StW.V _), StW.g (StW.V _), trivial⟩ ⟨rfl, rfl, trivial⟩ ?hob3 ?_
  case hob3 =>
    refine ⟨?_, ?_, ?_, ?_, trivial⟩
    · intro w1 vs hC hL
      have u2 := hL 2 (List.mem_of_elem_eq_true (by kernel_rfl))
      replace u2 : vs 2 = .pointer (some ⟨g, 0, none⟩) := u2
      obtain ⟨⟨c0, c1, c2⟩, -⟩ := Bx.below A.out hC
      go_simp
      simp only [evOf_tmp, u2]
      go_simp
      exact oa_pure hC (show tV _ _ w1 from rfl)
    · intro w1 vs hC hL
      have u60 := hL 60 (List.mem_of_elem_eq_true (by kernel_rfl))
      replace u60 : vs 60 = .agg #[.slice a1 n1 k1, .slice a2 n2 k2, .slice a3 n3 k3] := u60
      go_simp
      simp only [evOf_tmp, u60]
      exact oa_call hC (Calls.mono (toCalls_c a1 n1 k1 a2 n2 k2 a3 n3 k3 x _ (Cal.below X0.out (below_next T.out hC)) q1 q2 q3) (fun e w2 hh => (by obtain ⟨v1, v2, v3, lo, hi, rfl, hO, hb2, -, -⟩ := NewC.get hh; obtain ⟨q1, j1, q2, j2, q3, j3, rfl, rfl, rfl, hCC⟩ := OwnC.open hO; exact ⟨_, rfl, (show Fre _ _ w2 from ⟨q1, j1, q2, j2, q3, j3, rfl, hCC⟩), hb2⟩)))
    · intro w1 vs hC hL
      have u3 := hL 3 (List.mem_of_elem_eq_true (by kernel_rfl))
      replace u3 : vs 3 = .pointer (some ⟨g + 1, 0, none⟩) := u3
      obtain ⟨⟨c0, c1⟩, -⟩ := Box.below SA.out hC
      go_simp
      simp only [evOf_tmp, u3]
      go_simp
      exact oa_pure hC (show tV _ _ w1 from rfl)
    · intro w1 vs hC hL
      have u62 := hL 62 (List.mem_of_elem_eq_true (by kernel_rfl))
      replace u62 : vs 62 = .agg #[.int .i64 f, .int .i64 d] := u62
      go_simp
      simp only [evOf_tmp, u62]
      exact oa_call hC (Calls.mono (toStop_c f d _) (fun e w2 hh => (by obtain ⟨he, hb⟩ := (by first | exact hh | exact Ro.mk hh | exact St.mk hh : Mk _ _ e w2); exact ⟨_, he, (show tV _ _ w2 from rfl), hb⟩)))
  intro vs wq hq hT
  have t1 : vs 63 = .agg #[.int .i64 f, .int .i64 d] := hT 63 rfl
  have t2 : Fre (vs 61) x wq := hT 61 rfl
  obtain ⟨ra, ri, rb, rj, rc, rk, t3, hF⟩ := t2
  simp (decide := true) only [over, Nat.reduceAdd, if_true, if_false]
  rw [t1, t3]
  have R := Lib.hid hF
  clear hT t1 t3 hF
  have Tn := Lib.hid (below_next T.out hq)
  have An := Lib.hid (Bx.below A.out hq)
  have SAn := Lib.hid (Box.below SA.out hq)
  have Wn := Lib.hid (OwnQ.below W.out hq)
  have Gn := Lib.hid (OwnQ.below G.out hq)
  clear hq
  clear T A SA W G
  have T := Tn
  have A := An
  have SA := SAn
  have W := Wn
  have G := Gn
  clear Tn An SAn Wn Gn
  obtain ⟨wn, hwq⟩ : ∃ w0, w0 = wq := ⟨_, rfl⟩
  subst hwq

  go_wp2_with fail
  obtain ⟨loH, hlo⟩ : ∃ lo, wn.heap.size = lo := ⟨_, rfl⟩
  have HLOH := Lib.hid hlo
  have hlTH : w.heap.size ≤ loH := by rw [← hlo]; exact T.out.size
  have hlWH := W.out.2.2.2
  rw [hlo] at hlWH
  have hlGH := G.out.2.2.2
  rw [hlo] at hlGH
  clear hlo
  refine Calls.mono (HKI.out _ _ _ _ _ _ _ _ _ _ R.out) ?_
  intro e wq hh
  obtain ⟨lo9, hiH, pH, uH, rfl, hlo9, hO, hb⟩ := DrawnS.get hh
  rw [HLOH.out] at hlo9
  subst hlo9
  clear hh
  have H0 := Lib.hid hO
  clear hO
  have Tn := Lib.hid (below_next T.out hb)
  have An := Lib.hid (Bx.below A.out hb)
  have SAn := Lib.hid (Box.below SA.out hb)
  have Wn := Lib.hid (OwnQ.below W.out hb)
  have Gn := Lib.hid (OwnQ.below G.out hb)
  have Rn := Lib.hid (Cal.below R.out hb)
  clear hb
  clear T A SA W G R
  have T := Tn
  have A := An
  have SA := SAn
  have W := Wn
  have G := Gn
  have R := Rn
  clear Tn An SAn Wn Gn Rn
  obtain ⟨wn, hwq⟩ : ∃ w0, w0 = wq := ⟨_, rfl⟩
  subst hwq
  have H := H0
  clear H0
  have hlhH := H.out.2.2.1

  rw [HN.out] at H
  rw [HN.out]
  go_wp2_with fail
  refine Calls.mono (eqStopS_t pH N uH (sfl L) pW uW _ H.out.rs W.out.rs (by omega)) ?_
  intro e wn hh
  obtain ⟨he, hb⟩ := (by first | exact hh | exact Ro.mk hh | exact St.mk hh | exact LawOk.mk' hh : Mk _ _ e wn)
  subst he
  have Tn : Hid (Below w.heap.size w wn) := below_next T.out hb
  have An : Hid _ := Bx.below A.out hb
  have SAn : Hid _ := Box.below SA.out hb
  have Wn : Hid _ := OwnQ.below W.out hb
  have Gn : Hid _ := OwnQ.below G.out hb
  have Rn : Hid _ := Cal.below R.out hb
  have Hn : Hid _ := OwnQ.below H.out hb
  clear hb hh
  clear T A SA W G R H
  have T := Tn
  have A := An
  have SA := SAn
  have W := Wn
  have G := Gn
  have R := Rn
  have H := Hn
  clear Tn An SAn Wn Gn Rn Hn
  have HK1 := Lib.hid (heldStopS_c pG N uG 1 wn (OwnQ.rs G.out) (by omega) (by omega))
  rw [HZ1.out] at HK1
  go_wp2_with fail
  refine Calls.mono (HK1.out) ?_
  intro e wn hh
  obtain ⟨he, hb⟩ := (by first | exact hh | exact Ro.mk hh | exact St.mk hh | exact LawOk.mk' hh : Mk _ _ e wn)
  subst he
  have Tn : Hid (Below w.heap.size w wn) := below_next T.out hb
  have An : Hid _ := Bx.below A.out hb
  have SAn : Hid _ := Box.below SA.out hb
  have Wn : Hid _ := OwnQ.below W.out hb
  have Gn : Hid _ := OwnQ.below G.out hb
  have Rn : Hid _ := Cal.below R.out hb
  have Hn : Hid _ := OwnQ.below H.out hb
  clear hb hh
  clear T A SA W G R H
  have T := Tn
  have A := An
  have SA := SAn
  have W := Wn
  have G := Gn
  have R := Rn
  have H := Hn
  clear Tn An SAn Wn Gn Rn Hn
  go_wp2_with fail
  go_ret
  first | exact LawOk.mk T.out | exact LawOk.mk (Below.dr T.out _)

end Go.Proofs.Ytkpginkkfobblaa
