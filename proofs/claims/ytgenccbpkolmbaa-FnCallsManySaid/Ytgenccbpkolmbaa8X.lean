/- The walks of the exact laws over calls. -/
import Derived.Test.Ytgenccbpkolmbaa8N
namespace Go.Proofs.Ytgenccbpkolmbaa
open Go.RowKit
set_option linter.unusedVariables false

theorem sz_ok {a b c : Nat} (h : a + b + c ≤ 1048576) : sz a b c = ((1048576 - (a + b + c) : Nat) : Int) := by unfold sz; rw [if_pos h]; omega
theorem sz_big {a b c : Nat} (h : ¬ a + b + c ≤ 1048576) : sz a b c = -1 := by unfold sz; rw [if_neg h]
set_option maxHeartbeats 4000000 in
theorem ExactCallsValid_w (a1 : Option Addr) (n1 k1 : Nat) (a2 : Option Addr) (n2 k2 : Nat) (a3 : Option Addr) (n3 k3 : Nat) (x : Cs) (w : World) (hX : Cal w a1 n1 a2 n2 a3 n3 x) (b1 : n1 ≤ maxLen) (b2 : n2 ≤ maxLen) (b3 : n3 ≤ maxLen) : Calls Try.prog 7 #[(.agg #[.slice a1 n1 k1, .slice a2 n2 k2, .slice a3 n3 k3])] w (LawOk w) := by
  have X0 := Lib.hid hX
  have l1 := hX.1.1
  have l2 := hX.2.1.1
  have l3 := hX.2.2.1
  clear hX
  by_cases hbig : n1 + n2 + n3 ≤ 1048576
  case neg =>
    have K := fun w' => szCalls_c a1 n1 k1 a2 n2 k2 a3 n3 k3 w' b1 b2 b3
    rw [sz_big hbig] at K
    have HK := Lib.hid K
    clear K hbig l1 l2 l3
    go_enter Try.func7, Try.ntmps7
    go_wp2_with fail
    refine (HK.out _).mono ?_
    rintro e w1 ⟨rfl, hb⟩
    go_wp2_with fail
    go_ret
    exact LawOk.mk (bx hb)
  have K := fun w' => szCalls_c a1 n1 k1 a2 n2 k2 a3 n3 k3 w' b1 b2 b3
  rw [sz_ok hbig] at K
  have HK := Lib.hid K
  obtain ⟨z, hz⟩ : ∃ z, 1048576 - (n1 + n2 + n3) = z := ⟨_, rfl⟩
  rw [hz] at HK
  have m1 : x.u.length ≤ 1048576 := by omega
  have m2 : x.d.length ≤ 1048576 := by omega
  have m3 : x.c.length ≤ 1048576 := by omega
  have q1 : n1 ≤ 1048576 := by omega
  have q2 : n2 ≤ 1048576 := by omega
  have q3 : n3 ≤ 1048576 := by omega
  have hzn : ¬ (z : Int) < 0 := by omega
  clear K hz l1 l2 l3
  go_enter Try.func7, Try.ntmps7
  go_wp2_with fail
  obtain ⟨wn, hwn⟩ : ∃ wn, w.alloc (.cells #[.slice a1 n1 k1, .slice a2 n2 k2, .slice a3 n3 k3] 38) = wn := ⟨_, rfl⟩
  obtain ⟨gA, hgA⟩ : ∃ gA, w.heap.size = gA := ⟨_, rfl⟩
  have A := Lib.hid (show Bx wn gA (.slice a1 n1 k1) (.slice a2 n2 k2) (.slice a3 n3 k3) from by rw [← hwn, ← hgA]; exact Bx.new _ _ _ _ _)
  have T := Lib.hid (show Below w.heap.size w wn from by rw [← hwn]; exact Below.al (Below.refl _ _) _)
  rw [hwn, hgA]
  clear hwn
  have HGA := Lib.hid hgA
  clear hgA
  go_wp2_with fail
  refine Calls.mono (HK.out _) ?_
  intro e wn hh
  obtain ⟨he, hb⟩ := (by first | exact hh | exact Ro.mk hh | exact St.mk hh | exact LawOk.mk' hh : Mk _ _ e wn)
  subst he
  have Tn : Hid (Below w.heap.size w wn) := below_next T.out hb
  have An : Hid _ := Bx.below A.out hb
  clear hb hh
  clear T A
  have T := Tn
  have A := An
  clear Tn An
  clear HK
  obtain ⟨⟨c0, c1, c2⟩, -⟩ := A.out
  go_wp2_with fail
  refine Calls.mono (toCalls_c a1 n1 k1 a2 n2 k2 a3 n3 k3 x _ (Cal.below X0.out T.out) q1 q2 q3) ?_
  intro e wn hh
  obtain ⟨v1, v2, v3, loR, hiR, rfl, hO, hb, hlo, hhi⟩ := NewC.get hh
  have hTR : w.heap.size ≤ loR := by rw [← hlo]; exact T.out.size
  have hltAR := Bx.lt A.out
  rw [hlo] at hltAR
  have hlhR : loR ≤ hiR := by rw [← hlo, ← hhi]; exact hb.size
  obtain ⟨Ra, Ri, Rb, Rj, Rc, Rk, rfl, rfl, rfl, -⟩ := OwnC.open hO
  have Tn := Lib.hid (below_next T.out hb)
  have An := Lib.hid (Bx.below A.out hb)
  have R := Lib.hid hO
  clear hb hO hh hlo hhi c0 c1 c2
  clear T A
  have T := Tn
  have A := An
  clear Tn An
  go_wp2_with fail
  refine Calls.mono (sCallsValid_c Ra x.u.length Ri Rb x.d.length Rj Rc x.c.length Rk x _ (OwnC.cal R.out)) ?_
  intro e wn hh
  obtain ⟨he, hb⟩ := (by first | exact hh | exact Ro.mk hh | exact St.mk hh | exact LawOk.mk' hh : Mk _ _ e wn)
  subst he
  have Tn : Hid (Below w.heap.size w wn) := below_next T.out hb
  have An : Hid _ := Bx.below A.out hb
  have Rn : Hid _ := OwnC.below R.out hb
  clear hb hh
  clear T A R
  have T := Tn
  have A := An
  have R := Rn
  clear Tn An Rn
  obtain ⟨⟨c0, c1, c2⟩, -⟩ := A.out
  go_wp2_with fail
  refine Calls.mono (toCalls_c a1 n1 k1 a2 n2 k2 a3 n3 k3 x _ (Cal.below X0.out T.out) q1 q2 q3) ?_
  intro e wn hh
  obtain ⟨v1, v2, v3, loS, hiS, rfl, hO, hb, hlo, hhi⟩ := NewC.get hh
  have hTS : w.heap.size ≤ loS := by rw [← hlo]; exact T.out.size
  have hltAS := Bx.lt A.out
  rw [hlo] at hltAS
  have hhRS := R.out.2.2.1
  rw [hlo] at hhRS
  have hlhS : loS ≤ hiS := by rw [← hlo, ← hhi]; exact hb.size
  obtain ⟨Sa, Si, Sb, Sj, Sc, Sk, rfl, rfl, rfl, -⟩ := OwnC.open hO
  have Tn := Lib.hid (below_next T.out hb)
  have An := Lib.hid (Bx.below A.out hb)
  have Rn := Lib.hid (OwnC.below R.out hb)
  have S := Lib.hid hO
  clear hb hO hh hlo hhi c0 c1 c2
  clear T A R
  have T := Tn
  have A := An
  have R := Rn
  clear Tn An Rn
  have hltAHS := Bx.lt A.out
  have hltRHS := R.out.2.2.1
  have hltSHS := S.out.2.2.1
  have hWHS := T.out.size
  obtain ⟨HS, hHS⟩ : ∃ HS, Array.size (World.heap wn) = HS := ⟨_, rfl⟩
  have HHS : Hid _ := hHS
  rw [hHS] at hWHS hltAHS hltRHS hltSHS
  have SB : Hid (Bx (wn.alloc (.cells #[.slice Sa x.u.length Si, .slice Sb x.d.length Sj, .slice Sc x.c.length Sk] 25)) HS (.slice Sa x.u.length Si) (.slice Sb x.d.length Sj) (.slice Sc x.c.length Sk)) := by rw [← hHS]; exact Bx.new _ _ _ _ _
  clear hHS
  have Tn : Hid (Below w.heap.size w _) := Below.al T.out (.cells #[.slice Sa x.u.length Si, .slice Sb x.d.length Sj, .slice Sc x.c.length Sk] 25)
  have An : Hid _ := Bx.below A.out ((Below.refl _ _).alloc (Nat.le_refl _) (.cells #[.slice Sa x.u.length Si, .slice Sb x.d.length Sj, .slice Sc x.c.length Sk] 25))
  have Rn : Hid _ := OwnC.below R.out ((Below.refl _ _).alloc (Nat.le_refl _) (.cells #[.slice Sa x.u.length Si, .slice Sb x.d.length Sj, .slice Sc x.c.length Sk] 25))
  have Sn : Hid _ := OwnC.below S.out ((Below.refl _ _).alloc (Nat.le_refl _) (.cells #[.slice Sa x.u.length Si, .slice Sb x.d.length Sj, .slice Sc x.c.length Sk] 25))
  clear T A R S
  have T := Tn
  have A := An
  have R := Rn
  have S := Sn
  clear Tn An Rn Sn
  go_wp2_with fail
  rw [HHS.out]
  refine Calls.mono (iCallsValid_c Sa x.u.length Si Sb x.d.length Sj Sc x.c.length Sk x _ (OwnC.cal S.out)) ?_
  intro e wn hh
  obtain ⟨he, hb⟩ := (by first | exact hh | exact Ro.mk hh | exact St.mk hh | exact LawOk.mk' hh : Mk _ _ e wn)
  subst he
  have Tn : Hid (Below w.heap.size w wn) := below_next T.out hb
  have An : Hid _ := Bx.below A.out hb
  have Rn : Hid _ := OwnC.below R.out hb
  have Sn : Hid _ := OwnC.below S.out hb
  have SBn : Hid _ := Bx.below SB.out hb
  clear hb hh
  clear T A R S SB
  have T := Tn
  have A := An
  have R := Rn
  have S := Sn
  have SB := SBn
  clear Tn An Rn Sn SBn
  go_wp2_with fail
  refine wp_region_inv (fun ln vs wx => Below (World.heap wn).size wn wx ∧ vs 5 = .pointer (some ⟨HS, 0, none⟩) ∧ vs 1 = .pointer (some ⟨gA, 0, none⟩) ∧ (ln 0 = true → vs 22 = (.agg #[.slice Sa x.u.length Si, .slice Sb x.d.length Sj, .slice Sc x.c.length Sk])) ∧ (ln 1 = true → vs 23 = (.agg #[.slice a1 n1 k1, .slice a2 n2 k2, .slice a3 n3 k3])) ∧
      (ln 2 = true → Fre (vs 24) x wx) ∧ (ln 3 = true → vs 25 = .bool true) ∧ (ln 4 = true → vs 26 = .bool false)) [22, 23, 24, 25, 26]
    (by kernel_rfl) (by kernel_rfl) (by kernel_rfl) (by kernel_rfl) ⟨Below.dw (Below.refl _ _), rfl, rfl, fun h => (by cases h), fun h => (by cases h), fun h => (by cases h), fun h => (by cases h), fun h => (by cases h)⟩ ?hobs22 ?_
  case hobs22 =>
    refine ⟨?_, ?_, ?_, ?_, ?_, trivial⟩
    · intro ln vs wx hn ha ⟨hb, uX, uA, i0, i1, i2, i3, i4⟩
      obtain ⟨⟨c0, c1, c2⟩, _⟩ := (Bx.below SB.out hb)
      have HI := Lib.hid (And.intro i0 (And.intro i1 (And.intro i2 (And.intro i3 i4))))
      clear i0 i1 i2 i3 i4 ha
      go_simp
      simp only [evOf_tmp, uX]
      go_simp
      obtain ⟨i0, i1, i2, i3, i4⟩ := HI.out
      exact ⟨hb, uX, uA, fun _ => rfl, i1, i2, i3, i4⟩
    · intro ln vs wx hn ha ⟨hb, uX, uA, i0, i1, i2, i3, i4⟩
      obtain ⟨⟨c0, c1, c2⟩, _⟩ := (Bx.below A.out hb)
      have HI := Lib.hid (And.intro i0 (And.intro i1 (And.intro i2 (And.intro i3 i4))))
      clear i0 i1 i2 i3 i4 ha
      go_simp
      simp only [evOf_tmp, uA]
      go_simp
      obtain ⟨i0, i1, i2, i3, i4⟩ := HI.out
      exact ⟨hb, uX, uA, i0, fun _ => rfl, i2, i3, i4⟩
    · intro ln vs wx hn ha ⟨hb, uX, uA, i0, i1, i2, i3, i4⟩
      have q1 : ln 1 = true := ha ⟨1, Ground.data⟩ (by simp) rfl
      have u1 := i1 q1
      have HI := Lib.hid (And.intro i0 (And.intro i1 (And.intro i2 (And.intro i3 i4))))
      clear i0 i1 i2 i3 i4 ha
      go_simp
      simp only [evOf_tmp, u1]
      obtain ⟨i0, i1, i2, i3, i4⟩ := HI.out
      exact (toCalls_c a1 n1 k1 a2 n2 k2 a3 n3 k3 x _ (Cal.below X0.out (below_next T.out hb)) (by omega) (by omega) (by omega)).mono fun e w' hh => (by
        obtain ⟨v1, v2, v3, lo, hi, rfl, hO, hb2, -, -⟩ := NewC.get hh
        obtain ⟨q1, j1, q2, j2, q3, j3, rfl, rfl, rfl, hC⟩ := OwnC.open hO
        exact ⟨_, rfl, below_next hb hb2, uX, uA, i0, i1, fun _ => ⟨q1, j1, q2, j2, q3, j3, rfl, hC⟩, i3, i4⟩)
    · intro ln vs wx hn ha ⟨hb, uX, uA, i0, i1, i2, i3, i4⟩
      have q0 : ln 0 = true := ha ⟨0, Ground.data⟩ (by simp) rfl
      have q2 : ln 2 = true := ha ⟨2, Ground.data⟩ (by simp) rfl
      have u0 := i0 q0
      obtain ⟨p1, j1, p2, j2, p3, j3, u2, hC⟩ := i2 q2
      have HI := Lib.hid (And.intro i0 (And.intro i1 (And.intro i2 (And.intro i3 i4))))
      clear i0 i1 i2 i3 i4 ha
      have HCC := Lib.hid hC
      clear hC
      go_simp
      simp only [evOf_tmp, u0, u2]
      obtain ⟨i0, i1, i2, i3, i4⟩ := HI.out
      have K := eqCalls_c Sa x.u.length Si Sb x.d.length Sj Sc x.c.length Sk x p1 x.u.length j1 p2 x.d.length j2 p3 x.c.length j3 x wx (Cal.below (OwnC.cal S.out) hb) HCC.out (by omega) (by omega) (by omega)
      rw [tr_true rfl] at K
      exact K.mono fun e w' ⟨he, hb2⟩ => ⟨_, he, below_next hb hb2, uX, uA, i0, i1, fun h => (let ⟨a1', a2', a3', a4', a5', a6', a7', a8'⟩ := i2 h; ⟨a1', a2', a3', a4', a5', a6', a7', Cal.below a8' hb2⟩), fun _ => rfl, i4⟩
    · intro ln vs wx hn ha ⟨hb, uX, uA, i0, i1, i2, i3, i4⟩
      have q3 : ln 3 = true := ha ⟨3, Ground.data⟩ (by simp) rfl
      have u3 := i3 q3
      have HI := Lib.hid (And.intro i0 (And.intro i1 (And.intro i2 (And.intro i3 i4))))
      clear i0 i1 i2 i3 i4 ha
      go_simp
      simp only [evOf_tmp, u3]
      go_simp
      obtain ⟨i0, i1, i2, i3, i4⟩ := HI.out
      exact ⟨hb, uX, uA, i0, i1, i2, i3, fun _ => rfl⟩
  intro vs wq hI
  obtain ⟨hb, -, -, -, -, -, -, i4⟩ := hI
  have u4 : vs 26 = .bool false := i4 rfl
  simp (decide := true) only [over, Nat.reduceAdd, if_true, if_false]
  rw [u4]
  have Tn := Lib.hid (below_next T.out hb)
  have An := Lib.hid (Bx.below A.out hb)
  have Rn := Lib.hid (OwnC.below R.out hb)
  have Sn := Lib.hid (OwnC.below S.out hb)
  have SBn := Lib.hid (Bx.below SB.out hb)
  clear hb i4 u4
  clear T A R S SB
  have T := Tn
  have A := An
  have R := Rn
  have S := Sn
  have SB := SBn
  clear Tn An Rn Sn SBn
  obtain ⟨wn, hwq⟩ : ∃ w0, w0 = wq := ⟨_, rfl⟩
  subst hwq
  go_wp2_with fail
  go_ret
  first | exact LawOk.mk T.out | exact LawOk.mk (Below.dr T.out _)
set_option maxHeartbeats 4000000 in
theorem ExactCallsMany_w (a1 : Option Addr) (n1 k1 : Nat) (a2 : Option Addr) (n2 k2 : Nat) (a3 : Option Addr) (n3 k3 : Nat) (x : Cs) (w : World) (hX : Cal w a1 n1 a2 n2 a3 n3 x) (b1 : n1 ≤ maxLen) (b2 : n2 ≤ maxLen) (b3 : n3 ≤ maxLen) : Calls Try.prog 10 #[(.agg #[.slice a1 n1 k1, .slice a2 n2 k2, .slice a3 n3 k3])] w (LawOk w) := by
  have X0 := Lib.hid hX
  have l1 := hX.1.1
  have l2 := hX.2.1.1
  have l3 := hX.2.2.1
  clear hX
  by_cases hbig : n1 + n2 + n3 ≤ 1048576
  case neg =>
    have K := fun w' => szCalls_c a1 n1 k1 a2 n2 k2 a3 n3 k3 w' b1 b2 b3
    rw [sz_big hbig] at K
    have HK := Lib.hid K
    clear K hbig l1 l2 l3
    go_enter Try.func10, Try.ntmps10
    go_wp2_with fail
    refine (HK.out _).mono ?_
    rintro e w1 ⟨rfl, hb⟩
    go_wp2_with fail
    go_ret
    exact LawOk.mk (bx hb)
  have K := fun w' => szCalls_c a1 n1 k1 a2 n2 k2 a3 n3 k3 w' b1 b2 b3
  rw [sz_ok hbig] at K
  have HK := Lib.hid K
  obtain ⟨z, hz⟩ : ∃ z, 1048576 - (n1 + n2 + n3) = z := ⟨_, rfl⟩
  rw [hz] at HK
  have m1 : x.u.length ≤ 1048576 := by omega
  have m2 : x.d.length ≤ 1048576 := by omega
  have m3 : x.c.length ≤ 1048576 := by omega
  have q1 : n1 ≤ 1048576 := by omega
  have q2 : n2 ≤ 1048576 := by omega
  have q3 : n3 ≤ 1048576 := by omega
  have hzn : ¬ (z : Int) < 0 := by omega
  clear K hz l1 l2 l3
  go_enter Try.func10, Try.ntmps10
  go_wp2_with fail
  obtain ⟨wn, hwn⟩ : ∃ wn, w.alloc (.cells #[.slice a1 n1 k1, .slice a2 n2 k2, .slice a3 n3 k3] 38) = wn := ⟨_, rfl⟩
  obtain ⟨gA, hgA⟩ : ∃ gA, w.heap.size = gA := ⟨_, rfl⟩
  have A := Lib.hid (show Bx wn gA (.slice a1 n1 k1) (.slice a2 n2 k2) (.slice a3 n3 k3) from by rw [← hwn, ← hgA]; exact Bx.new _ _ _ _ _)
  have T := Lib.hid (show Below w.heap.size w wn from by rw [← hwn]; exact Below.al (Below.refl _ _) _)
  rw [hwn, hgA]
  clear hwn
  have HGA := Lib.hid hgA
  clear hgA
  go_wp2_with fail
  refine Calls.mono (HK.out _) ?_
  intro e wn hh
  obtain ⟨he, hb⟩ := (by first | exact hh | exact Ro.mk hh | exact St.mk hh | exact LawOk.mk' hh : Mk _ _ e wn)
  subst he
  have Tn : Hid (Below w.heap.size w wn) := below_next T.out hb
  have An : Hid _ := Bx.below A.out hb
  clear hb hh
  clear T A
  have T := Tn
  have A := An
  clear Tn An
  clear HK
  obtain ⟨⟨c0, c1, c2⟩, -⟩ := A.out
  go_wp2_with fail
  refine Calls.mono (toCalls_c a1 n1 k1 a2 n2 k2 a3 n3 k3 x _ (Cal.below X0.out T.out) q1 q2 q3) ?_
  intro e wn hh
  obtain ⟨v1, v2, v3, loR, hiR, rfl, hO, hb, hlo, hhi⟩ := NewC.get hh
  have hTR : w.heap.size ≤ loR := by rw [← hlo]; exact T.out.size
  have hltAR := Bx.lt A.out
  rw [hlo] at hltAR
  have hlhR : loR ≤ hiR := by rw [← hlo, ← hhi]; exact hb.size
  obtain ⟨Ra, Ri, Rb, Rj, Rc, Rk, rfl, rfl, rfl, -⟩ := OwnC.open hO
  have Tn := Lib.hid (below_next T.out hb)
  have An := Lib.hid (Bx.below A.out hb)
  have R := Lib.hid hO
  clear hb hO hh hlo hhi c0 c1 c2
  clear T A
  have T := Tn
  have A := An
  clear Tn An
  go_wp2_with fail
  refine Calls.mono (sCallsMany_c Ra x.u.length Ri Rb x.d.length Rj Rc x.c.length Rk x _ (OwnC.cal R.out)) ?_
  intro e wn hh
  obtain ⟨he, hb⟩ := (by first | exact hh | exact Ro.mk hh | exact St.mk hh | exact LawOk.mk' hh : Mk _ _ e wn)
  subst he
  have Tn : Hid (Below w.heap.size w wn) := below_next T.out hb
  have An : Hid _ := Bx.below A.out hb
  have Rn : Hid _ := OwnC.below R.out hb
  clear hb hh
  clear T A R
  have T := Tn
  have A := An
  have R := Rn
  clear Tn An Rn
  obtain ⟨⟨c0, c1, c2⟩, -⟩ := A.out
  go_wp2_with fail
  refine Calls.mono (toCalls_c a1 n1 k1 a2 n2 k2 a3 n3 k3 x _ (Cal.below X0.out T.out) q1 q2 q3) ?_
  intro e wn hh
  obtain ⟨v1, v2, v3, loS, hiS, rfl, hO, hb, hlo, hhi⟩ := NewC.get hh
  have hTS : w.heap.size ≤ loS := by rw [← hlo]; exact T.out.size
  have hltAS := Bx.lt A.out
  rw [hlo] at hltAS
  have hhRS := R.out.2.2.1
  rw [hlo] at hhRS
  have hlhS : loS ≤ hiS := by rw [← hlo, ← hhi]; exact hb.size
  obtain ⟨Sa, Si, Sb, Sj, Sc, Sk, rfl, rfl, rfl, -⟩ := OwnC.open hO
  have Tn := Lib.hid (below_next T.out hb)
  have An := Lib.hid (Bx.below A.out hb)
  have Rn := Lib.hid (OwnC.below R.out hb)
  have S := Lib.hid hO
  clear hb hO hh hlo hhi c0 c1 c2
  clear T A R
  have T := Tn
  have A := An
  have R := Rn
  clear Tn An Rn
  have hltAHS := Bx.lt A.out
  have hltRHS := R.out.2.2.1
  have hltSHS := S.out.2.2.1
  have hWHS := T.out.size
  obtain ⟨HS, hHS⟩ : ∃ HS, Array.size (World.heap wn) = HS := ⟨_, rfl⟩
  have HHS : Hid _ := hHS
  rw [hHS] at hWHS hltAHS hltRHS hltSHS
  have SB : Hid (Bx (wn.alloc (.cells #[.slice Sa x.u.length Si, .slice Sb x.d.length Sj, .slice Sc x.c.length Sk] 25)) HS (.slice Sa x.u.length Si) (.slice Sb x.d.length Sj) (.slice Sc x.c.length Sk)) := by rw [← hHS]; exact Bx.new _ _ _ _ _
  clear hHS
  have Tn : Hid (Below w.heap.size w _) := Below.al T.out (.cells #[.slice Sa x.u.length Si, .slice Sb x.d.length Sj, .slice Sc x.c.length Sk] 25)
  have An : Hid _ := Bx.below A.out ((Below.refl _ _).alloc (Nat.le_refl _) (.cells #[.slice Sa x.u.length Si, .slice Sb x.d.length Sj, .slice Sc x.c.length Sk] 25))
  have Rn : Hid _ := OwnC.below R.out ((Below.refl _ _).alloc (Nat.le_refl _) (.cells #[.slice Sa x.u.length Si, .slice Sb x.d.length Sj, .slice Sc x.c.length Sk] 25))
  have Sn : Hid _ := OwnC.below S.out ((Below.refl _ _).alloc (Nat.le_refl _) (.cells #[.slice Sa x.u.length Si, .slice Sb x.d.length Sj, .slice Sc x.c.length Sk] 25))
  clear T A R S
  have T := Tn
  have A := An
  have R := Rn
  have S := Sn
  clear Tn An Rn Sn
  go_wp2_with fail
  rw [HHS.out]
  refine Calls.mono (iCallsMany_c Sa x.u.length Si Sb x.d.length Sj Sc x.c.length Sk x _ (OwnC.cal S.out)) ?_
  intro e wn hh
  obtain ⟨he, hb⟩ := (by first | exact hh | exact Ro.mk hh | exact St.mk hh | exact LawOk.mk' hh : Mk _ _ e wn)
  subst he
  have Tn : Hid (Below w.heap.size w wn) := below_next T.out hb
  have An : Hid _ := Bx.below A.out hb
  have Rn : Hid _ := OwnC.below R.out hb
  have Sn : Hid _ := OwnC.below S.out hb
  have SBn : Hid _ := Bx.below SB.out hb
  clear hb hh
  clear T A R S SB
  have T := Tn
  have A := An
  have R := Rn
  have S := Sn
  have SB := SBn
  clear Tn An Rn Sn SBn
  go_wp2_with fail
  refine wp_region_inv (fun ln vs wx => Below (World.heap wn).size wn wx ∧ vs 5 = .pointer (some ⟨HS, 0, none⟩) ∧ vs 1 = .pointer (some ⟨gA, 0, none⟩) ∧ (ln 0 = true → vs 22 = (.agg #[.slice Sa x.u.length Si, .slice Sb x.d.length Sj, .slice Sc x.c.length Sk])) ∧ (ln 1 = true → vs 23 = (.agg #[.slice a1 n1 k1, .slice a2 n2 k2, .slice a3 n3 k3])) ∧
      (ln 2 = true → Fre (vs 24) x wx) ∧ (ln 3 = true → vs 25 = .bool true) ∧ (ln 4 = true → vs 26 = .bool false)) [22, 23, 24, 25, 26]
    (by kernel_rfl) (by kernel_rfl) (by kernel_rfl) (by kernel_rfl) ⟨Below.dw (Below.refl _ _), rfl, rfl, fun h => (by cases h), fun h => (by cases h), fun h => (by cases h), fun h => (by cases h), fun h => (by cases h)⟩ ?hobs22 ?_
  case hobs22 =>
    refine ⟨?_, ?_, ?_, ?_, ?_, trivial⟩
    · intro ln vs wx hn ha ⟨hb, uX, uA, i0, i1, i2, i3, i4⟩
      obtain ⟨⟨c0, c1, c2⟩, _⟩ := (Bx.below SB.out hb)
      have HI := Lib.hid (And.intro i0 (And.intro i1 (And.intro i2 (And.intro i3 i4))))
      clear i0 i1 i2 i3 i4 ha
      go_simp
      simp only [evOf_tmp, uX]
      go_simp
      obtain ⟨i0, i1, i2, i3, i4⟩ := HI.out
      exact ⟨hb, uX, uA, fun _ => rfl, i1, i2, i3, i4⟩
    · intro ln vs wx hn ha ⟨hb, uX, uA, i0, i1, i2, i3, i4⟩
      obtain ⟨⟨c0, c1, c2⟩, _⟩ := (Bx.below A.out hb)
      have HI := Lib.hid (And.intro i0 (And.intro i1 (And.intro i2 (And.intro i3 i4))))
      clear i0 i1 i2 i3 i4 ha
      go_simp
      simp only [evOf_tmp, uA]
      go_simp
      obtain ⟨i0, i1, i2, i3, i4⟩ := HI.out
      exact ⟨hb, uX, uA, i0, fun _ => rfl, i2, i3, i4⟩
    · intro ln vs wx hn ha ⟨hb, uX, uA, i0, i1, i2, i3, i4⟩
      have q1 : ln 1 = true := ha ⟨1, Ground.data⟩ (by simp) rfl
      have u1 := i1 q1
      have HI := Lib.hid (And.intro i0 (And.intro i1 (And.intro i2 (And.intro i3 i4))))
      clear i0 i1 i2 i3 i4 ha
      go_simp
      simp only [evOf_tmp, u1]
      obtain ⟨i0, i1, i2, i3, i4⟩ := HI.out
      exact (toCalls_c a1 n1 k1 a2 n2 k2 a3 n3 k3 x _ (Cal.below X0.out (below_next T.out hb)) (by omega) (by omega) (by omega)).mono fun e w' hh => (by
        obtain ⟨v1, v2, v3, lo, hi, rfl, hO, hb2, -, -⟩ := NewC.get hh
        obtain ⟨q1, j1, q2, j2, q3, j3, rfl, rfl, rfl, hC⟩ := OwnC.open hO
        exact ⟨_, rfl, below_next hb hb2, uX, uA, i0, i1, fun _ => ⟨q1, j1, q2, j2, q3, j3, rfl, hC⟩, i3, i4⟩)
    · intro ln vs wx hn ha ⟨hb, uX, uA, i0, i1, i2, i3, i4⟩
      have q0 : ln 0 = true := ha ⟨0, Ground.data⟩ (by simp) rfl
      have q2 : ln 2 = true := ha ⟨2, Ground.data⟩ (by simp) rfl
      have u0 := i0 q0
      obtain ⟨p1, j1, p2, j2, p3, j3, u2, hC⟩ := i2 q2
      have HI := Lib.hid (And.intro i0 (And.intro i1 (And.intro i2 (And.intro i3 i4))))
      clear i0 i1 i2 i3 i4 ha
      have HCC := Lib.hid hC
      clear hC
      go_simp
      simp only [evOf_tmp, u0, u2]
      obtain ⟨i0, i1, i2, i3, i4⟩ := HI.out
      have K := eqCalls_c Sa x.u.length Si Sb x.d.length Sj Sc x.c.length Sk x p1 x.u.length j1 p2 x.d.length j2 p3 x.c.length j3 x wx (Cal.below (OwnC.cal S.out) hb) HCC.out (by omega) (by omega) (by omega)
      rw [tr_true rfl] at K
      exact K.mono fun e w' ⟨he, hb2⟩ => ⟨_, he, below_next hb hb2, uX, uA, i0, i1, fun h => (let ⟨a1', a2', a3', a4', a5', a6', a7', a8'⟩ := i2 h; ⟨a1', a2', a3', a4', a5', a6', a7', Cal.below a8' hb2⟩), fun _ => rfl, i4⟩
    · intro ln vs wx hn ha ⟨hb, uX, uA, i0, i1, i2, i3, i4⟩
      have q3 : ln 3 = true := ha ⟨3, Ground.data⟩ (by simp) rfl
      have u3 := i3 q3
      have HI := Lib.hid (And.intro i0 (And.intro i1 (And.intro i2 (And.intro i3 i4))))
      clear i0 i1 i2 i3 i4 ha
      go_simp
      simp only [evOf_tmp, u3]
      go_simp
      obtain ⟨i0, i1, i2, i3, i4⟩ := HI.out
      exact ⟨hb, uX, uA, i0, i1, i2, i3, fun _ => rfl⟩
  intro vs wq hI
  obtain ⟨hb, -, -, -, -, -, -, i4⟩ := hI
  have u4 : vs 26 = .bool false := i4 rfl
  simp (decide := true) only [over, Nat.reduceAdd, if_true, if_false]
  rw [u4]
  have Tn := Lib.hid (below_next T.out hb)
  have An := Lib.hid (Bx.below A.out hb)
  have Rn := Lib.hid (OwnC.below R.out hb)
  have Sn := Lib.hid (OwnC.below S.out hb)
  have SBn := Lib.hid (Bx.below SB.out hb)
  clear hb i4 u4
  clear T A R S SB
  have T := Tn
  have A := An
  have R := Rn
  have S := Sn
  have SB := SBn
  clear Tn An Rn Sn SBn
  obtain ⟨wn, hwq⟩ : ∃ w0, w0 = wq := ⟨_, rfl⟩
  subst hwq
  go_wp2_with fail
  go_ret
  first | exact LawOk.mk T.out | exact LawOk.mk (Below.dr T.out _)
end Go.Proofs.Ytgenccbpkolmbaa
