/- The walks of the exact laws of CallsNone and CallSet. -/
import Derived.Test.Ytgenccbpkolmbaa8X
namespace Go.Proofs.Ytgenccbpkolmbaa
open Go.RowKit
set_option linter.unusedVariables false

theorem eqCalls_t (a1 : Option Addr) (n1 k1 : Nat) (a2 : Option Addr) (n2 k2 : Nat) (a3 : Option Addr) (n3 k3 : Nat) (a4 : Option Addr) (n4 k4 : Nat) (a5 : Option Addr) (n5 k5 : Nat) (a6 : Option Addr) (n6 k6 : Nat) (x : Cs) (w : World) (hX : Cal w a1 n1 a2 n2 a3 n3 x) (hY : Cal w a4 n4 a5 n5 a6 n6 x) (m1 : n1 ≤ 1048577) (m2 : n2 ≤ 1048577) (m3 : n3 ≤ 1048577) :
    Calls Try.prog 28 #[(.agg #[.slice a1 n1 k1, .slice a2 n2 k2, .slice a3 n3 k3]), .agg #[.slice a4 n4 k4, .slice a5 n5 k5, .slice a6 n6 k6]] w (Mk w (.bool true)) := by
  have K := eqCalls_c a1 n1 k1 a2 n2 k2 a3 n3 k3 x a4 n4 k4 a5 n5 k5 a6 n6 k6 x w hX hY m1 m2 m3
  rw [tr_true rfl] at K
  exact K
theorem cno_len (n : Int) : (cno n).u.length ≤ 8 ∧ (cno n).d.length ≤ 8 ∧ (cno n).c.length ≤ 8 := by
  by_cases h : 1 ≤ n ∧ n ≤ 8
  · unfold cno; rw [if_pos h]; simp [cn]; omega
  · rw [cno_bad h]; simp [cz]
theorem cst_len (x : Cs) (k f : Int) (b : Bool) : (cst x k f b).u.length ≤ x.u.length ∧ (cst x k f b).d.length ≤ x.d.length ∧ (cst x k f b).c.length ≤ x.c.length := by
  by_cases hv : CV x
  · by_cases hs : SV x k f b
    · rw [cst_t hs]
      obtain ⟨h1, h2, h3⟩ := cput_len x k f.toNat b
      omega
    · rw [cst_f hv hs]; omega
  · rw [cst_bad hv]; simp [cz]
set_option maxHeartbeats 4000000 in
theorem ExactCallsNone_w (n : Int) (w : World) : Calls Try.prog 8 #[.int .i64 n] w (LawOk w) := by
  obtain ⟨m1, m2, m3⟩ := cno_len n
  have KS := fun w' => sCallsNone_c n w'
  have KI := fun w' => iCallsNone_c n w'
  obtain ⟨y, hy⟩ : ∃ y, cno n = y := ⟨_, rfl⟩
  rw [hy] at KS KI m1 m2 m3
  have HKS := Lib.hid KS
  have HKI := Lib.hid KI
  obtain ⟨z, hz⟩ : ∃ z, 1 + y.u.length + y.d.length + y.c.length = z := ⟨_, rfl⟩
  have HZ := Lib.hid hz
  have hzn : ¬ (z : Int) < 0 := by omega
  clear KS KI hy hz
  go_enter Try.func8, Try.ntmps8
  obtain ⟨wn, hwn⟩ : ∃ wn, wn = w := ⟨_, rfl⟩
  have T := Lib.hid (show Below w.heap.size w wn from by rw [hwn]; exact Below.refl _ _)
  go_wp2_with fail
  rw [← hwn]
  have HWO := Lib.hid hwn
  clear hwn
  go_wp2_with fail
  refine Calls.mono (HKS.out _) ?_
  intro e wn hh
  obtain ⟨v1, v2, v3, loP, hiP, rfl, hO, hb, hlo, hhi⟩ := NewC.get hh
  have hTP : w.heap.size ≤ loP := by rw [← hlo]; exact T.out.size
  have hlhP : loP ≤ hiP := by rw [← hlo, ← hhi]; exact hb.size
  obtain ⟨Pa, Pi, Pb, Pj, Pc, Pk, rfl, rfl, rfl, -⟩ := OwnC.open hO
  have Tn := Lib.hid (below_next T.out hb)
  have P := Lib.hid hO
  clear hb hO hh hlo hhi
  clear T
  have T := Tn
  clear Tn
  have hltPHP := P.out.2.2.1
  have hWHP := T.out.size
  obtain ⟨HP, hHP⟩ : ∃ HP, Array.size (World.heap wn) = HP := ⟨_, rfl⟩
  have HHP : Hid _ := hHP
  rw [hHP] at hWHP hltPHP
  have PB : Hid (Bx (wn.alloc (.cells #[.slice Pa y.u.length Pi, .slice Pb y.d.length Pj, .slice Pc y.c.length Pk] 25)) HP (.slice Pa y.u.length Pi) (.slice Pb y.d.length Pj) (.slice Pc y.c.length Pk)) := by rw [← hHP]; exact Bx.new _ _ _ _ _
  clear hHP
  have Tn : Hid (Below w.heap.size w _) := Below.al T.out (.cells #[.slice Pa y.u.length Pi, .slice Pb y.d.length Pj, .slice Pc y.c.length Pk] 25)
  have Pn : Hid _ := OwnC.below P.out ((Below.refl _ _).alloc (Nat.le_refl _) (.cells #[.slice Pa y.u.length Pi, .slice Pb y.d.length Pj, .slice Pc y.c.length Pk] 25))
  clear T P
  have T := Tn
  have P := Pn
  clear Tn Pn
  go_wp2_with fail
  rw [HHP.out]
  refine Calls.mono (HKI.out _) ?_
  intro e wn hh
  obtain ⟨v1, v2, v3, loG, hiG, rfl, hO, hb, hlo, hhi⟩ := NewC.get hh
  have hTG : w.heap.size ≤ loG := by rw [← hlo]; exact T.out.size
  have hhPG := P.out.2.2.1
  rw [hlo] at hhPG
  have hltPBG := Bx.lt PB.out
  rw [hlo] at hltPBG
  have hlhG : loG ≤ hiG := by rw [← hlo, ← hhi]; exact hb.size
  obtain ⟨Ga, Gi, Gb, Gj, Gc, Gk, rfl, rfl, rfl, -⟩ := OwnC.open hO
  have Tn := Lib.hid (below_next T.out hb)
  have Pn := Lib.hid (OwnC.below P.out hb)
  have PBn := Lib.hid (Bx.below PB.out hb)
  have G := Lib.hid hO
  clear hb hO hh hlo hhi
  clear T P PB
  have T := Tn
  have P := Pn
  have PB := PBn
  clear Tn Pn PBn
  have hltPHG := P.out.2.2.1
  have hltPBHG := Bx.lt PB.out
  have hltGHG := G.out.2.2.1
  have hWHG := T.out.size
  obtain ⟨HG, hHG⟩ : ∃ HG, Array.size (World.heap wn) = HG := ⟨_, rfl⟩
  have HHG : Hid _ := hHG
  rw [hHG] at hWHG hltPHG hltPBHG hltGHG
  have GB : Hid (Bx (wn.alloc (.cells #[.slice Ga y.u.length Gi, .slice Gb y.d.length Gj, .slice Gc y.c.length Gk] 25)) HG (.slice Ga y.u.length Gi) (.slice Gb y.d.length Gj) (.slice Gc y.c.length Gk)) := by rw [← hHG]; exact Bx.new _ _ _ _ _
  clear hHG
  have Tn : Hid (Below w.heap.size w _) := Below.al T.out (.cells #[.slice Ga y.u.length Gi, .slice Gb y.d.length Gj, .slice Gc y.c.length Gk] 25)
  have Pn : Hid _ := OwnC.below P.out ((Below.refl _ _).alloc (Nat.le_refl _) (.cells #[.slice Ga y.u.length Gi, .slice Gb y.d.length Gj, .slice Gc y.c.length Gk] 25))
  have PBn : Hid _ := Bx.below PB.out ((Below.refl _ _).alloc (Nat.le_refl _) (.cells #[.slice Ga y.u.length Gi, .slice Gb y.d.length Gj, .slice Gc y.c.length Gk] 25))
  have Gn : Hid _ := OwnC.below G.out ((Below.refl _ _).alloc (Nat.le_refl _) (.cells #[.slice Ga y.u.length Gi, .slice Gb y.d.length Gj, .slice Gc y.c.length Gk] 25))
  clear T P PB G
  have T := Tn
  have P := Pn
  have PB := PBn
  have G := Gn
  clear Tn Pn PBn Gn
  obtain ⟨⟨c0, c1, c2⟩, -⟩ := PB.out
  obtain ⟨⟨d0, d1, d2⟩, -⟩ := GB.out
  go_wp2_with fail
  rw [HHG.out]
  refine Calls.mono (eqCalls_t Ga y.u.length Gi Gb y.d.length Gj Gc y.c.length Gk Pa y.u.length Pi Pb y.d.length Pj Pc y.c.length Pk y _ (OwnC.cal G.out) (OwnC.cal P.out) (by omega) (by omega) (by omega)) ?_
  intro e wn hh
  obtain ⟨he, hb⟩ := (by first | exact hh | exact Ro.mk hh | exact St.mk hh | exact LawOk.mk' hh : Mk _ _ e wn)
  subst he
  have Tn : Hid (Below w.heap.size w wn) := below_next T.out hb
  have Pn : Hid _ := OwnC.below P.out hb
  have PBn : Hid _ := Bx.below PB.out hb
  have Gn : Hid _ := OwnC.below G.out hb
  have GBn : Hid _ := Bx.below GB.out hb
  clear hb hh c0 c1 c2 d0 d1 d2
  clear T P PB G GB
  have T := Tn
  have P := Pn
  have PB := PBn
  have G := Gn
  have GB := GBn
  clear Tn Pn PBn Gn GBn
  obtain ⟨⟨d0, d1, d2⟩, -⟩ := GB.out
  go_wp2_with fail
  refine Calls.mono (markCalls_c Ga y.u.length Gi Gb y.d.length Gj Gc y.c.length Gk 1 y loG hiG _ G.out (by omega) (by omega)) ?_
  rintro e wn ⟨rfl, hO, ho⟩
  have Tn := Lib.hid (Out.below T.out ho (by omega))
  have Pn := Lib.hid (OwnC.out P.out ho (by omega))
  have PBn := Lib.hid (Bx.out PB.out ho (by omega))
  have Gn := Lib.hid hO
  have GBn := Lib.hid (Bx.out GB.out ho (by omega))
  clear hO ho d0 d1 d2
  clear T P PB G GB
  have T := Tn
  have P := Pn
  have PB := PBn
  have G := Gn
  have GB := GBn
  clear Tn Pn PBn Gn GBn
  rw [HZ.out]
  obtain ⟨⟨d0, d1, d2⟩, -⟩ := GB.out
  have HK1 := Lib.hid (heldCalls_c Ga y.u.length Gi Gb y.d.length Gj Gc y.c.length Gk 1 wn (OwnC.cal G.out) (by omega) (by omega))
  rw [HZ.out] at HK1
  go_wp2_with fail
  refine Calls.mono (HK1.out) ?_
  intro e wn hh
  obtain ⟨he, hb⟩ := (by first | exact hh | exact Ro.mk hh | exact St.mk hh | exact LawOk.mk' hh : Mk _ _ e wn)
  subst he
  have Tn : Hid (Below w.heap.size w wn) := below_next T.out hb
  have Pn : Hid _ := OwnC.below P.out hb
  have PBn : Hid _ := Bx.below PB.out hb
  have Gn : Hid _ := OwnC.below G.out hb
  have GBn : Hid _ := Bx.below GB.out hb
  clear hb hh d0 d1 d2
  clear T P PB G GB
  have T := Tn
  have P := Pn
  have PB := PBn
  have G := Gn
  have GB := GBn
  clear Tn Pn PBn Gn GBn
  clear HK1
  go_wp2_with fail
  refine Calls.mono (HKI.out _) ?_
  intro e wn hh
  obtain ⟨v1, v2, v3, loH, hiH, rfl, hO, hb, hlo, hhi⟩ := NewC.get hh
  have hTH : w.heap.size ≤ loH := by rw [← hlo]; exact T.out.size
  have hhPH := P.out.2.2.1
  rw [hlo] at hhPH
  have hltPBH := Bx.lt PB.out
  rw [hlo] at hltPBH
  have hhGH := G.out.2.2.1
  rw [hlo] at hhGH
  have hltGBH := Bx.lt GB.out
  rw [hlo] at hltGBH
  have hlhH : loH ≤ hiH := by rw [← hlo, ← hhi]; exact hb.size
  obtain ⟨Ha, Hi, Hb, Hj, Hc, Hk, rfl, rfl, rfl, -⟩ := OwnC.open hO
  have Tn := Lib.hid (below_next T.out hb)
  have Pn := Lib.hid (OwnC.below P.out hb)
  have PBn := Lib.hid (Bx.below PB.out hb)
  have Gn := Lib.hid (OwnC.below G.out hb)
  have GBn := Lib.hid (Bx.below GB.out hb)
  have H := Lib.hid hO
  clear hb hO hh hlo hhi
  clear T P PB G GB
  have T := Tn
  have P := Pn
  have PB := PBn
  have G := Gn
  have GB := GBn
  clear Tn Pn PBn Gn GBn
  have hltPHH := P.out.2.2.1
  have hltPBHH := Bx.lt PB.out
  have hltGHH := G.out.2.2.1
  have hltGBHH := Bx.lt GB.out
  have hltHHH := H.out.2.2.1
  have hWHH := T.out.size
  obtain ⟨HH, hHH⟩ : ∃ HH, Array.size (World.heap wn) = HH := ⟨_, rfl⟩
  have HHH : Hid _ := hHH
  rw [hHH] at hWHH hltPHH hltPBHH hltGHH hltGBHH hltHHH
  have HB : Hid (Bx (wn.alloc (.cells #[.slice Ha y.u.length Hi, .slice Hb y.d.length Hj, .slice Hc y.c.length Hk] 25)) HH (.slice Ha y.u.length Hi) (.slice Hb y.d.length Hj) (.slice Hc y.c.length Hk)) := by rw [← hHH]; exact Bx.new _ _ _ _ _
  clear hHH
  have Tn : Hid (Below w.heap.size w _) := Below.al T.out (.cells #[.slice Ha y.u.length Hi, .slice Hb y.d.length Hj, .slice Hc y.c.length Hk] 25)
  have Pn : Hid _ := OwnC.below P.out ((Below.refl _ _).alloc (Nat.le_refl _) (.cells #[.slice Ha y.u.length Hi, .slice Hb y.d.length Hj, .slice Hc y.c.length Hk] 25))
  have PBn : Hid _ := Bx.below PB.out ((Below.refl _ _).alloc (Nat.le_refl _) (.cells #[.slice Ha y.u.length Hi, .slice Hb y.d.length Hj, .slice Hc y.c.length Hk] 25))
  have Gn : Hid _ := OwnC.below G.out ((Below.refl _ _).alloc (Nat.le_refl _) (.cells #[.slice Ha y.u.length Hi, .slice Hb y.d.length Hj, .slice Hc y.c.length Hk] 25))
  have GBn : Hid _ := Bx.below GB.out ((Below.refl _ _).alloc (Nat.le_refl _) (.cells #[.slice Ha y.u.length Hi, .slice Hb y.d.length Hj, .slice Hc y.c.length Hk] 25))
  have Hn : Hid _ := OwnC.below H.out ((Below.refl _ _).alloc (Nat.le_refl _) (.cells #[.slice Ha y.u.length Hi, .slice Hb y.d.length Hj, .slice Hc y.c.length Hk] 25))
  clear T P PB G GB H
  have T := Tn
  have P := Pn
  have PB := PBn
  have G := Gn
  have GB := GBn
  have H := Hn
  clear Tn Pn PBn Gn GBn Hn
  obtain ⟨⟨c0, c1, c2⟩, -⟩ := PB.out
  obtain ⟨⟨d0, d1, d2⟩, -⟩ := HB.out
  go_wp2_with fail
  rw [HHH.out]
  refine Calls.mono (eqCalls_t Ha y.u.length Hi Hb y.d.length Hj Hc y.c.length Hk Pa y.u.length Pi Pb y.d.length Pj Pc y.c.length Pk y _ (OwnC.cal H.out) (OwnC.cal P.out) (by omega) (by omega) (by omega)) ?_
  intro e wn hh
  obtain ⟨he, hb⟩ := (by first | exact hh | exact Ro.mk hh | exact St.mk hh | exact LawOk.mk' hh : Mk _ _ e wn)
  subst he
  have Tn : Hid (Below w.heap.size w wn) := below_next T.out hb
  have Pn : Hid _ := OwnC.below P.out hb
  have PBn : Hid _ := Bx.below PB.out hb
  have Gn : Hid _ := OwnC.below G.out hb
  have GBn : Hid _ := Bx.below GB.out hb
  have Hn : Hid _ := OwnC.below H.out hb
  have HBn : Hid _ := Bx.below HB.out hb
  clear hb hh c0 c1 c2 d0 d1 d2
  clear T P PB G GB H HB
  have T := Tn
  have P := Pn
  have PB := PBn
  have G := Gn
  have GB := GBn
  have H := Hn
  have HB := HBn
  clear Tn Pn PBn Gn GBn Hn HBn
  obtain ⟨⟨d0, d1, d2⟩, -⟩ := GB.out
  have HK1 := Lib.hid (heldCalls_c Ga y.u.length Gi Gb y.d.length Gj Gc y.c.length Gk 1 wn (OwnC.cal G.out) (by omega) (by omega))
  rw [HZ.out] at HK1
  go_wp2_with fail
  refine Calls.mono (HK1.out) ?_
  intro e wn hh
  obtain ⟨he, hb⟩ := (by first | exact hh | exact Ro.mk hh | exact St.mk hh | exact LawOk.mk' hh : Mk _ _ e wn)
  subst he
  have Tn : Hid (Below w.heap.size w wn) := below_next T.out hb
  have Pn : Hid _ := OwnC.below P.out hb
  have PBn : Hid _ := Bx.below PB.out hb
  have Gn : Hid _ := OwnC.below G.out hb
  have GBn : Hid _ := Bx.below GB.out hb
  have Hn : Hid _ := OwnC.below H.out hb
  have HBn : Hid _ := Bx.below HB.out hb
  clear hb hh d0 d1 d2
  clear T P PB G GB H HB
  have T := Tn
  have P := Pn
  have PB := PBn
  have G := Gn
  have GB := GBn
  have H := Hn
  have HB := HBn
  clear Tn Pn PBn Gn GBn Hn HBn
  go_wp2_with fail
  go_ret
  first | exact LawOk.mk T.out | exact LawOk.mk (Below.dr T.out _)
set_option maxHeartbeats 8000000 in
theorem ExactCallSet_w (a1 : Option Addr) (n1 k1 : Nat) (a2 : Option Addr) (n2 k2 : Nat) (a3 : Option Addr) (n3 k3 : Nat) (x : Cs) (k f : Int) (b : Bool) (w : World) (hX : Cal w a1 n1 a2 n2 a3 n3 x) (b1 : n1 ≤ maxLen) (b2 : n2 ≤ maxLen) (b3 : n3 ≤ maxLen) : Calls Try.prog 9 #[(.agg #[.slice a1 n1 k1, .slice a2 n2 k2, .slice a3 n3 k3]), .int .i64 k, .int .i64 f, .bool b] w (LawOk w) := by
  have X0 := Lib.hid hX
  have l1 := hX.1.1
  have l2 := hX.2.1.1
  have l3 := hX.2.2.1
  clear hX
  by_cases hbig : n1 + n2 + n3 ≤ 1048576
  case neg =>
    have K := fun w' => szCalls_c a1 n1 k1 a2 n2 k2 a3 n3 k3 w' b1 b2 b3
    rw [sz_big hbig] at K
    have HK := Lib.hid K
    clear K hbig l1 l2 l3
    go_enter Try.func9, Try.ntmps9
    go_wp2_with fail
    refine (HK.out _).mono ?_
    rintro e w1 ⟨rfl, hb⟩
    go_wp2_with fail
    go_ret
    exact LawOk.mk (bx hb)
  have K := fun w' => szCalls_c a1 n1 k1 a2 n2 k2 a3 n3 k3 w' b1 b2 b3
  rw [sz_ok hbig] at K
  have HK := Lib.hid K
  obtain ⟨z, hz⟩ : ∃ z, 1048576 - (n1 + n2 + n3) = z := ⟨_, rfl⟩
  rw [hz] at HK
  have m1 : x.u.length ≤ 1048576 := by omega
  have m2 : x.d.length ≤ 1048576 := by omega
  have m3 : x.c.length ≤ 1048576 := by omega
  have q1 : n1 ≤ 1048576 := by omega
  have q2 : n2 ≤ 1048576 := by omega
  have q3 : n3 ≤ 1048576 := by omega
  have hzn : ¬ (z : Int) < 0 := by omega
  obtain ⟨c1', c2', c3'⟩ := cst_len x k f b
  have KS := fun a1 n1 k1 a2 n2 k2 a3 n3 k3 w' (h : Cal w' a1 n1 a2 n2 a3 n3 x) => sCallSet_c a1 n1 k1 a2 n2 k2 a3 n3 k3 x k f b w' h
  have KI := fun a1 n1 k1 a2 n2 k2 a3 n3 k3 w' (h : Cal w' a1 n1 a2 n2 a3 n3 x) => iCallSet_c a1 n1 k1 a2 n2 k2 a3 n3 k3 x k f b w' h
  obtain ⟨y, hy⟩ : ∃ y, cst x k f b = y := ⟨_, rfl⟩
  obtain ⟨fl, hfl⟩ : ∃ fl, cstB x k f b = fl := ⟨_, rfl⟩
  rw [hy, hfl] at KS KI
  rw [hy] at c1' c2' c3'
  have HKS := Lib.hid KS
  have HKI := Lib.hid KI
  have s1 : y.u.length + y.d.length + y.c.length ≤ 1048576 := by omega
  have s2 : x.u.length + x.d.length + x.c.length ≤ 1048576 := by omega
  have p1 : y.u.length ≤ 1048576 := by omega
  have p2 : y.d.length ≤ 1048576 := by omega
  have p3 : y.c.length ≤ 1048576 := by omega
  obtain ⟨z1, hz1⟩ : ∃ z, 1 + y.u.length + y.d.length + y.c.length = z := ⟨_, rfl⟩
  obtain ⟨z2, hz2⟩ : ∃ z, 1 + x.u.length + x.d.length + x.c.length = z := ⟨_, rfl⟩
  have HZ1 := Lib.hid hz1
  have HZ2 := Lib.hid hz2
  have hzn1 : ¬ (z1 : Int) < 0 := by omega
  have hzn2 : ¬ (z2 : Int) < 0 := by omega
  clear K hz l1 l2 l3 KS KI hy hfl hz1 hz2 c1' c2' c3'
  go_enter Try.func9, Try.ntmps9
  go_wp2_with fail
  obtain ⟨wn, hwn⟩ : ∃ wn, w.alloc (.cells #[.slice a1 n1 k1, .slice a2 n2 k2, .slice a3 n3 k3] 38) = wn := ⟨_, rfl⟩
  obtain ⟨gA, hgA⟩ : ∃ gA, w.heap.size = gA := ⟨_, rfl⟩
  have A := Lib.hid (show Bx wn gA (.slice a1 n1 k1) (.slice a2 n2 k2) (.slice a3 n3 k3) from by rw [← hwn, ← hgA]; exact Bx.new _ _ _ _ _)
  have T := Lib.hid (show Below w.heap.size w wn from by rw [← hwn]; exact Below.al (Below.refl _ _) _)
  rw [hwn, hgA]
  clear hwn
  have HGA := Lib.hid hgA
  clear hgA
  go_wp2_with fail
  refine Calls.mono (HK.out _) ?_
  intro e wn hh
  obtain ⟨he, hb⟩ := (by first | exact hh | exact Ro.mk hh | exact St.mk hh | exact LawOk.mk' hh : Mk _ _ e wn)
  subst he
  have Tn : Hid (Below w.heap.size w wn) := below_next T.out hb
  have An : Hid _ := Bx.below A.out hb
  clear hb hh
  clear T A
  have T := Tn
  have A := An
  clear Tn An
  clear HK
  obtain ⟨⟨c0, c1, c2⟩, -⟩ := A.out
  go_wp2_with fail
  refine Calls.mono (toCalls_c a1 n1 k1 a2 n2 k2 a3 n3 k3 x _ (Cal.below X0.out T.out) q1 q2 q3) ?_
  intro e wn hh
  obtain ⟨v1, v2, v3, loR, hiR, rfl, hO, hb, hlo, hhi⟩ := NewC.get hh
  have hTR : w.heap.size ≤ loR := by rw [← hlo]; exact T.out.size
  have hltAR := Bx.lt A.out
  rw [hlo] at hltAR
  have hlhR : loR ≤ hiR := by rw [← hlo, ← hhi]; exact hb.size
  obtain ⟨Ra, Ri, Rb, Rj, Rc, Rk, rfl, rfl, rfl, -⟩ := OwnC.open hO
  have Tn := Lib.hid (below_next T.out hb)
  have An := Lib.hid (Bx.below A.out hb)
  have R := Lib.hid hO
  clear hb hO hh hlo hhi c0 c1 c2
  clear T A
  have T := Tn
  have A := An
  clear Tn An
  go_wp2_with fail
  refine Calls.mono (HKS.out Ra x.u.length Ri Rb x.d.length Rj Rc x.c.length Rk _ (OwnC.cal R.out)) ?_
  intro e wn hh
  obtain ⟨v1, v2, v3, loP, hiP, rfl, hO, hb, hlo, hhi⟩ := NewC.get hh
  have hTP : w.heap.size ≤ loP := by rw [← hlo]; exact T.out.size
  have hltAP := Bx.lt A.out
  rw [hlo] at hltAP
  have hhRP := R.out.2.2.1
  rw [hlo] at hhRP
  have hlhP : loP ≤ hiP := by rw [← hlo, ← hhi]; exact hb.size
  obtain ⟨Pa, Pi, Pb, Pj, Pc, Pk, rfl, rfl, rfl, -⟩ := OwnC.open hO
  have Tn := Lib.hid (below_next T.out hb)
  have An := Lib.hid (Bx.below A.out hb)
  have Rn := Lib.hid (OwnC.below R.out hb)
  have P := Lib.hid hO
  clear hb hO hh hlo hhi
  clear T A R
  have T := Tn
  have A := An
  have R := Rn
  clear Tn An Rn
  have hltAHP := Bx.lt A.out
  have hltRHP := R.out.2.2.1
  have hltPHP := P.out.2.2.1
  have hWHP := T.out.size
  obtain ⟨HP, hHP⟩ : ∃ HP, Array.size (World.heap wn) = HP := ⟨_, rfl⟩
  have HHP : Hid _ := hHP
  rw [hHP] at hWHP hltAHP hltRHP hltPHP
  have PB : Hid (Bx (wn.alloc (.cells #[.slice Pa y.u.length Pi, .slice Pb y.d.length Pj, .slice Pc y.c.length Pk] 25)) HP (.slice Pa y.u.length Pi) (.slice Pb y.d.length Pj) (.slice Pc y.c.length Pk)) := by rw [← hHP]; exact Bx.new _ _ _ _ _
  clear hHP
  have Tn : Hid (Below w.heap.size w _) := Below.al T.out (.cells #[.slice Pa y.u.length Pi, .slice Pb y.d.length Pj, .slice Pc y.c.length Pk] 25)
  have An : Hid _ := Bx.below A.out ((Below.refl _ _).alloc (Nat.le_refl _) (.cells #[.slice Pa y.u.length Pi, .slice Pb y.d.length Pj, .slice Pc y.c.length Pk] 25))
  have Rn : Hid _ := OwnC.below R.out ((Below.refl _ _).alloc (Nat.le_refl _) (.cells #[.slice Pa y.u.length Pi, .slice Pb y.d.length Pj, .slice Pc y.c.length Pk] 25))
  have Pn : Hid _ := OwnC.below P.out ((Below.refl _ _).alloc (Nat.le_refl _) (.cells #[.slice Pa y.u.length Pi, .slice Pb y.d.length Pj, .slice Pc y.c.length Pk] 25))
  clear T A R P
  have T := Tn
  have A := An
  have R := Rn
  have P := Pn
  clear Tn An Rn Pn
  obtain ⟨⟨c0, c1, c2⟩, -⟩ := A.out
  go_wp2_with fail
  rw [HHP.out]
  refine Calls.mono (toCalls_c a1 n1 k1 a2 n2 k2 a3 n3 k3 x _ (Cal.below X0.out T.out) q1 q2 q3) ?_
  intro e wn hh
  obtain ⟨v1, v2, v3, loS, hiS, rfl, hO, hb, hlo, hhi⟩ := NewC.get hh
  have hTS : w.heap.size ≤ loS := by rw [← hlo]; exact T.out.size
  have hltAS := Bx.lt A.out
  rw [hlo] at hltAS
  have hhRS := R.out.2.2.1
  rw [hlo] at hhRS
  have hhPS := P.out.2.2.1
  rw [hlo] at hhPS
  have hltPBS := Bx.lt PB.out
  rw [hlo] at hltPBS
  have hlhS : loS ≤ hiS := by rw [← hlo, ← hhi]; exact hb.size
  obtain ⟨Sa, Si, Sb, Sj, Sc, Sk, rfl, rfl, rfl, -⟩ := OwnC.open hO
  have Tn := Lib.hid (below_next T.out hb)
  have An := Lib.hid (Bx.below A.out hb)
  have Rn := Lib.hid (OwnC.below R.out hb)
  have Pn := Lib.hid (OwnC.below P.out hb)
  have PBn := Lib.hid (Bx.below PB.out hb)
  have S := Lib.hid hO
  clear hb hO hh hlo hhi c0 c1 c2
  clear T A R P PB
  have T := Tn
  have A := An
  have R := Rn
  have P := Pn
  have PB := PBn
  clear Tn An Rn Pn PBn
  have hltAHS := Bx.lt A.out
  have hltRHS := R.out.2.2.1
  have hltPHS := P.out.2.2.1
  have hltPBHS := Bx.lt PB.out
  have hltSHS := S.out.2.2.1
  have hWHS := T.out.size
  obtain ⟨HS, hHS⟩ : ∃ HS, Array.size (World.heap wn) = HS := ⟨_, rfl⟩
  have HHS : Hid _ := hHS
  rw [hHS] at hWHS hltAHS hltRHS hltPHS hltPBHS hltSHS
  have SB : Hid (Bx (wn.alloc (.cells #[.slice Sa x.u.length Si, .slice Sb x.d.length Sj, .slice Sc x.c.length Sk] 25)) HS (.slice Sa x.u.length Si) (.slice Sb x.d.length Sj) (.slice Sc x.c.length Sk)) := by rw [← hHS]; exact Bx.new _ _ _ _ _
  clear hHS
  have Tn : Hid (Below w.heap.size w _) := Below.al T.out (.cells #[.slice Sa x.u.length Si, .slice Sb x.d.length Sj, .slice Sc x.c.length Sk] 25)
  have An : Hid _ := Bx.below A.out ((Below.refl _ _).alloc (Nat.le_refl _) (.cells #[.slice Sa x.u.length Si, .slice Sb x.d.length Sj, .slice Sc x.c.length Sk] 25))
  have Rn : Hid _ := OwnC.below R.out ((Below.refl _ _).alloc (Nat.le_refl _) (.cells #[.slice Sa x.u.length Si, .slice Sb x.d.length Sj, .slice Sc x.c.length Sk] 25))
  have Pn : Hid _ := OwnC.below P.out ((Below.refl _ _).alloc (Nat.le_refl _) (.cells #[.slice Sa x.u.length Si, .slice Sb x.d.length Sj, .slice Sc x.c.length Sk] 25))
  have PBn : Hid _ := Bx.below PB.out ((Below.refl _ _).alloc (Nat.le_refl _) (.cells #[.slice Sa x.u.length Si, .slice Sb x.d.length Sj, .slice Sc x.c.length Sk] 25))
  have Sn : Hid _ := OwnC.below S.out ((Below.refl _ _).alloc (Nat.le_refl _) (.cells #[.slice Sa x.u.length Si, .slice Sb x.d.length Sj, .slice Sc x.c.length Sk] 25))
  clear T A R P PB S
  have T := Tn
  have A := An
  have R := Rn
  have P := Pn
  have PB := PBn
  have S := Sn
  clear Tn An Rn Pn PBn Sn
  obtain ⟨⟨d0, d1, d2⟩, -⟩ := SB.out
  go_wp2_with fail
  rw [HHS.out]
  refine Calls.mono (HKI.out Sa x.u.length Si Sb x.d.length Sj Sc x.c.length Sk _ (OwnC.cal S.out)) ?_
  intro e wn hh
  obtain ⟨v1, v2, v3, loG, hiG, rfl, hO, hb, hlo, hhi⟩ := NewC.get hh
  have hTG : w.heap.size ≤ loG := by rw [← hlo]; exact T.out.size
  have hltAG := Bx.lt A.out
  rw [hlo] at hltAG
  have hhRG := R.out.2.2.1
  rw [hlo] at hhRG
  have hhPG := P.out.2.2.1
  rw [hlo] at hhPG
  have hltPBG := Bx.lt PB.out
  rw [hlo] at hltPBG
  have hhSG := S.out.2.2.1
  rw [hlo] at hhSG
  have hltSBG := Bx.lt SB.out
  rw [hlo] at hltSBG
  have hlhG : loG ≤ hiG := by rw [← hlo, ← hhi]; exact hb.size
  obtain ⟨Ga, Gi, Gb, Gj, Gc, Gk, rfl, rfl, rfl, -⟩ := OwnC.open hO
  have Tn := Lib.hid (below_next T.out hb)
  have An := Lib.hid (Bx.below A.out hb)
  have Rn := Lib.hid (OwnC.below R.out hb)
  have Pn := Lib.hid (OwnC.below P.out hb)
  have PBn := Lib.hid (Bx.below PB.out hb)
  have Sn := Lib.hid (OwnC.below S.out hb)
  have SBn := Lib.hid (Bx.below SB.out hb)
  have G := Lib.hid hO
  clear hb hO hh hlo hhi d0 d1 d2
  clear T A R P PB S SB
  have T := Tn
  have A := An
  have R := Rn
  have P := Pn
  have PB := PBn
  have S := Sn
  have SB := SBn
  clear Tn An Rn Pn PBn Sn SBn
  have hltAHG := Bx.lt A.out
  have hltRHG := R.out.2.2.1
  have hltPHG := P.out.2.2.1
  have hltPBHG := Bx.lt PB.out
  have hltSHG := S.out.2.2.1
  have hltSBHG := Bx.lt SB.out
  have hltGHG := G.out.2.2.1
  have hWHG := T.out.size
  obtain ⟨HG, hHG⟩ : ∃ HG, Array.size (World.heap wn) = HG := ⟨_, rfl⟩
  have HHG : Hid _ := hHG
  rw [hHG] at hWHG hltAHG hltRHG hltPHG hltPBHG hltSHG hltSBHG hltGHG
  have GB : Hid (Bx (wn.alloc (.cells #[.slice Ga y.u.length Gi, .slice Gb y.d.length Gj, .slice Gc y.c.length Gk] 25)) HG (.slice Ga y.u.length Gi) (.slice Gb y.d.length Gj) (.slice Gc y.c.length Gk)) := by rw [← hHG]; exact Bx.new _ _ _ _ _
  clear hHG
  have Tn : Hid (Below w.heap.size w _) := Below.al T.out (.cells #[.slice Ga y.u.length Gi, .slice Gb y.d.length Gj, .slice Gc y.c.length Gk] 25)
  have An : Hid _ := Bx.below A.out ((Below.refl _ _).alloc (Nat.le_refl _) (.cells #[.slice Ga y.u.length Gi, .slice Gb y.d.length Gj, .slice Gc y.c.length Gk] 25))
  have Rn : Hid _ := OwnC.below R.out ((Below.refl _ _).alloc (Nat.le_refl _) (.cells #[.slice Ga y.u.length Gi, .slice Gb y.d.length Gj, .slice Gc y.c.length Gk] 25))
  have Pn : Hid _ := OwnC.below P.out ((Below.refl _ _).alloc (Nat.le_refl _) (.cells #[.slice Ga y.u.length Gi, .slice Gb y.d.length Gj, .slice Gc y.c.length Gk] 25))
  have PBn : Hid _ := Bx.below PB.out ((Below.refl _ _).alloc (Nat.le_refl _) (.cells #[.slice Ga y.u.length Gi, .slice Gb y.d.length Gj, .slice Gc y.c.length Gk] 25))
  have Sn : Hid _ := OwnC.below S.out ((Below.refl _ _).alloc (Nat.le_refl _) (.cells #[.slice Ga y.u.length Gi, .slice Gb y.d.length Gj, .slice Gc y.c.length Gk] 25))
  have SBn : Hid _ := Bx.below SB.out ((Below.refl _ _).alloc (Nat.le_refl _) (.cells #[.slice Ga y.u.length Gi, .slice Gb y.d.length Gj, .slice Gc y.c.length Gk] 25))
  have Gn : Hid _ := OwnC.below G.out ((Below.refl _ _).alloc (Nat.le_refl _) (.cells #[.slice Ga y.u.length Gi, .slice Gb y.d.length Gj, .slice Gc y.c.length Gk] 25))
  clear T A R P PB S SB G
  have T := Tn
  have A := An
  have R := Rn
  have P := Pn
  have PB := PBn
  have S := Sn
  have SB := SBn
  have G := Gn
  clear Tn An Rn Pn PBn Sn SBn Gn
  obtain ⟨⟨c0, c1, c2⟩, -⟩ := PB.out
  obtain ⟨⟨d0, d1, d2⟩, -⟩ := GB.out
  go_wp2_with fail
  rw [HHG.out]
  refine Calls.mono (eqCalls_t Ga y.u.length Gi Gb y.d.length Gj Gc y.c.length Gk Pa y.u.length Pi Pb y.d.length Pj Pc y.c.length Pk y _ (OwnC.cal G.out) (OwnC.cal P.out) (by omega) (by omega) (by omega)) ?_
  intro e wn hh
  obtain ⟨he, hb⟩ := (by first | exact hh | exact Ro.mk hh | exact St.mk hh | exact LawOk.mk' hh : Mk _ _ e wn)
  subst he
  have Tn : Hid (Below w.heap.size w wn) := below_next T.out hb
  have An : Hid _ := Bx.below A.out hb
  have Rn : Hid _ := OwnC.below R.out hb
  have Pn : Hid _ := OwnC.below P.out hb
  have PBn : Hid _ := Bx.below PB.out hb
  have Sn : Hid _ := OwnC.below S.out hb
  have SBn : Hid _ := Bx.below SB.out hb
  have Gn : Hid _ := OwnC.below G.out hb
  have GBn : Hid _ := Bx.below GB.out hb
  clear hb hh c0 c1 c2 d0 d1 d2
  clear T A R P PB S SB G GB
  have T := Tn
  have A := An
  have R := Rn
  have P := Pn
  have PB := PBn
  have S := Sn
  have SB := SBn
  have G := Gn
  have GB := GBn
  clear Tn An Rn Pn PBn Sn SBn Gn GBn
  go_wp2_with fail
  refine wp_region_inv (fun ln vs wx => Below (World.heap wn).size wn wx ∧ vs 12 = .pointer (some ⟨HS, 0, none⟩) ∧ vs 4 = .pointer (some ⟨gA, 0, none⟩) ∧ (ln 0 = true → vs 53 = (.agg #[.slice Sa x.u.length Si, .slice Sb x.d.length Sj, .slice Sc x.c.length Sk])) ∧ (ln 1 = true → vs 54 = (.agg #[.slice a1 n1 k1, .slice a2 n2 k2, .slice a3 n3 k3])) ∧
      (ln 2 = true → Fre (vs 55) x wx) ∧ (ln 3 = true → vs 56 = .bool true) ∧ (ln 4 = true → vs 57 = .bool false)) [53, 54, 55, 56, 57]
    (by kernel_rfl) (by kernel_rfl) (by kernel_rfl) (by kernel_rfl) ⟨Below.dw (Below.refl _ _), rfl, rfl, fun h => (by cases h), fun h => (by cases h), fun h => (by cases h), fun h => (by cases h), fun h => (by cases h)⟩ ?hobs53 ?_
  case hobs53 =>
    refine ⟨?_, ?_, ?_, ?_, ?_, trivial⟩
    · intro ln vs wx hn ha ⟨hb, uX, uA, i0, i1, i2, i3, i4⟩
      obtain ⟨⟨c0, c1, c2⟩, _⟩ := (Bx.below SB.out hb)
      have HI := Lib.hid (And.intro i0 (And.intro i1 (And.intro i2 (And.intro i3 i4))))
      clear i0 i1 i2 i3 i4 ha
      go_simp
      simp only [evOf_tmp, uX]
      go_simp
      obtain ⟨i0, i1, i2, i3, i4⟩ := HI.out
      exact ⟨hb, uX, uA, fun _ => rfl, i1, i2, i3, i4⟩
    · intro ln vs wx hn ha ⟨hb, uX, uA, i0, i1, i2, i3, i4⟩
      obtain ⟨⟨c0, c1, c2⟩, _⟩ := (Bx.below A.out hb)
      have HI := Lib.hid (And.intro i0 (And.intro i1 (And.intro i2 (And.intro i3 i4))))
      clear i0 i1 i2 i3 i4 ha
      go_simp
      simp only [evOf_tmp, uA]
      go_simp
      obtain ⟨i0, i1, i2, i3, i4⟩ := HI.out
      exact ⟨hb, uX, uA, i0, fun _ => rfl, i2, i3, i4⟩
    · intro ln vs wx hn ha ⟨hb, uX, uA, i0, i1, i2, i3, i4⟩
      have q1 : ln 1 = true := ha ⟨1, Ground.data⟩ (by simp) rfl
      have u1 := i1 q1
      have HI := Lib.hid (And.intro i0 (And.intro i1 (And.intro i2 (And.intro i3 i4))))
      clear i0 i1 i2 i3 i4 ha
      go_simp
      simp only [evOf_tmp, u1]
      obtain ⟨i0, i1, i2, i3, i4⟩ := HI.out
      exact (toCalls_c a1 n1 k1 a2 n2 k2 a3 n3 k3 x _ (Cal.below X0.out (below_next T.out hb)) (by omega) (by omega) (by omega)).mono fun e w' hh => (by
        obtain ⟨v1, v2, v3, lo, hi, rfl, hO, hb2, -, -⟩ := NewC.get hh
        obtain ⟨q1, j1, q2, j2, q3, j3, rfl, rfl, rfl, hC⟩ := OwnC.open hO
        exact ⟨_, rfl, below_next hb hb2, uX, uA, i0, i1, fun _ => ⟨q1, j1, q2, j2, q3, j3, rfl, hC⟩, i3, i4⟩)
    · intro ln vs wx hn ha ⟨hb, uX, uA, i0, i1, i2, i3, i4⟩
      have q0 : ln 0 = true := ha ⟨0, Ground.data⟩ (by simp) rfl
      have q2 : ln 2 = true := ha ⟨2, Ground.data⟩ (by simp) rfl
      have u0 := i0 q0
      obtain ⟨p1, j1, p2, j2, p3, j3, u2, hC⟩ := i2 q2
      have HI := Lib.hid (And.intro i0 (And.intro i1 (And.intro i2 (And.intro i3 i4))))
      clear i0 i1 i2 i3 i4 ha
      have HCC := Lib.hid hC
      clear hC
      go_simp
      simp only [evOf_tmp, u0, u2]
      obtain ⟨i0, i1, i2, i3, i4⟩ := HI.out
      have K := eqCalls_c Sa x.u.length Si Sb x.d.length Sj Sc x.c.length Sk x p1 x.u.length j1 p2 x.d.length j2 p3 x.c.length j3 x wx (Cal.below (OwnC.cal S.out) hb) HCC.out (by omega) (by omega) (by omega)
      rw [tr_true rfl] at K
      exact K.mono fun e w' ⟨he, hb2⟩ => ⟨_, he, below_next hb hb2, uX, uA, i0, i1, fun h => (let ⟨a1', a2', a3', a4', a5', a6', a7', a8'⟩ := i2 h; ⟨a1', a2', a3', a4', a5', a6', a7', Cal.below a8' hb2⟩), fun _ => rfl, i4⟩
    · intro ln vs wx hn ha ⟨hb, uX, uA, i0, i1, i2, i3, i4⟩
      have q3 : ln 3 = true := ha ⟨3, Ground.data⟩ (by simp) rfl
      have u3 := i3 q3
      have HI := Lib.hid (And.intro i0 (And.intro i1 (And.intro i2 (And.intro i3 i4))))
      clear i0 i1 i2 i3 i4 ha
      go_simp
      simp only [evOf_tmp, u3]
      go_simp
      obtain ⟨i0, i1, i2, i3, i4⟩ := HI.out
      exact ⟨hb, uX, uA, i0, i1, i2, i3, fun _ => rfl⟩
  intro vs wq hI
  obtain ⟨hb, -, -, -, -, -, -, i4⟩ := hI
  have u4 : vs 57 = .bool false := i4 rfl
  simp (decide := true) only [over, Nat.reduceAdd, if_true, if_false]
  rw [u4]
  have Tn := Lib.hid (below_next T.out hb)
  have An := Lib.hid (Bx.below A.out hb)
  have Rn := Lib.hid (OwnC.below R.out hb)
  have Pn := Lib.hid (OwnC.below P.out hb)
  have PBn := Lib.hid (Bx.below PB.out hb)
  have Sn := Lib.hid (OwnC.below S.out hb)
  have SBn := Lib.hid (Bx.below SB.out hb)
  have Gn := Lib.hid (OwnC.below G.out hb)
  have GBn := Lib.hid (Bx.below GB.out hb)
  clear hb i4 u4
  clear T A R P PB S SB G GB
  have T := Tn
  have A := An
  have R := Rn
  have P := Pn
  have PB := PBn
  have S := Sn
  have SB := SBn
  have G := Gn
  have GB := GBn
  clear Tn An Rn Pn PBn Sn SBn Gn GBn
  obtain ⟨wn, hwq⟩ : ∃ w0, w0 = wq := ⟨_, rfl⟩
  subst hwq
  obtain ⟨⟨d0, d1, d2⟩, -⟩ := SB.out
  go_wp2_with fail
  refine Calls.mono (markCalls_c Sa x.u.length Si Sb x.d.length Sj Sc x.c.length Sk 1 x loS hiS _ S.out (by omega) s2) ?_
  rintro e wn ⟨rfl, hO, ho⟩
  have Tn := Lib.hid (Out.below T.out ho (by omega))
  have An := Lib.hid (Bx.out A.out ho (by omega))
  have Rn := Lib.hid (OwnC.out R.out ho (by omega))
  have Pn := Lib.hid (OwnC.out P.out ho (by omega))
  have PBn := Lib.hid (Bx.out PB.out ho (by omega))
  have Sn := Lib.hid hO
  have SBn := Lib.hid (Bx.out SB.out ho (by omega))
  have Gn := Lib.hid (OwnC.out G.out ho (by omega))
  have GBn := Lib.hid (Bx.out GB.out ho (by omega))
  clear hO ho d0 d1 d2
  clear T A R P PB S SB G GB
  have T := Tn
  have A := An
  have R := Rn
  have P := Pn
  have PB := PBn
  have S := Sn
  have SB := SBn
  have G := Gn
  have GB := GBn
  clear Tn An Rn Pn PBn Sn SBn Gn GBn
  rw [HZ2.out]
  obtain ⟨⟨c0, c1, c2⟩, -⟩ := PB.out
  obtain ⟨⟨d0, d1, d2⟩, -⟩ := GB.out
  go_wp2_with fail
  refine Calls.mono (eqCalls_t Ga y.u.length Gi Gb y.d.length Gj Gc y.c.length Gk Pa y.u.length Pi Pb y.d.length Pj Pc y.c.length Pk y _ (OwnC.cal G.out) (OwnC.cal P.out) (by omega) (by omega) (by omega)) ?_
  intro e wn hh
  obtain ⟨he, hb⟩ := (by first | exact hh | exact Ro.mk hh | exact St.mk hh | exact LawOk.mk' hh : Mk _ _ e wn)
  subst he
  have Tn : Hid (Below w.heap.size w wn) := below_next T.out hb
  have An : Hid _ := Bx.below A.out hb
  have Rn : Hid _ := OwnC.below R.out hb
  have Pn : Hid _ := OwnC.below P.out hb
  have PBn : Hid _ := Bx.below PB.out hb
  have Sn : Hid _ := OwnC.below S.out hb
  have SBn : Hid _ := Bx.below SB.out hb
  have Gn : Hid _ := OwnC.below G.out hb
  have GBn : Hid _ := Bx.below GB.out hb
  clear hb hh c0 c1 c2 d0 d1 d2
  clear T A R P PB S SB G GB
  have T := Tn
  have A := An
  have R := Rn
  have P := Pn
  have PB := PBn
  have S := Sn
  have SB := SBn
  have G := Gn
  have GB := GBn
  clear Tn An Rn Pn PBn Sn SBn Gn GBn
  obtain ⟨⟨d0, d1, d2⟩, -⟩ := GB.out
  go_wp2_with fail
  refine Calls.mono (markCalls_c Ga y.u.length Gi Gb y.d.length Gj Gc y.c.length Gk 1 y loG hiG _ G.out (by omega) s1) ?_
  rintro e wn ⟨rfl, hO, ho⟩
  have Tn := Lib.hid (Out.below T.out ho (by omega))
  have An := Lib.hid (Bx.out A.out ho (by omega))
  have Rn := Lib.hid (OwnC.out R.out ho (by omega))
  have Pn := Lib.hid (OwnC.out P.out ho (by omega))
  have PBn := Lib.hid (Bx.out PB.out ho (by omega))
  have Sn := Lib.hid (OwnC.out S.out ho (by omega))
  have SBn := Lib.hid (Bx.out SB.out ho (by omega))
  have Gn := Lib.hid hO
  have GBn := Lib.hid (Bx.out GB.out ho (by omega))
  clear hO ho d0 d1 d2
  clear T A R P PB S SB G GB
  have T := Tn
  have A := An
  have R := Rn
  have P := Pn
  have PB := PBn
  have S := Sn
  have SB := SBn
  have G := Gn
  have GB := GBn
  clear Tn An Rn Pn PBn Sn SBn Gn GBn
  rw [HZ1.out]
  obtain ⟨⟨d0, d1, d2⟩, -⟩ := GB.out
  have HK1 := Lib.hid (heldCalls_c Ga y.u.length Gi Gb y.d.length Gj Gc y.c.length Gk 1 wn (OwnC.cal G.out) (by omega) s1)
  rw [HZ1.out] at HK1
  go_wp2_with fail
  refine Calls.mono (HK1.out) ?_
  intro e wn hh
  obtain ⟨he, hb⟩ := (by first | exact hh | exact Ro.mk hh | exact St.mk hh | exact LawOk.mk' hh : Mk _ _ e wn)
  subst he
  have Tn : Hid (Below w.heap.size w wn) := below_next T.out hb
  have An : Hid _ := Bx.below A.out hb
  have Rn : Hid _ := OwnC.below R.out hb
  have Pn : Hid _ := OwnC.below P.out hb
  have PBn : Hid _ := Bx.below PB.out hb
  have Sn : Hid _ := OwnC.below S.out hb
  have SBn : Hid _ := Bx.below SB.out hb
  have Gn : Hid _ := OwnC.below G.out hb
  have GBn : Hid _ := Bx.below GB.out hb
  clear hb hh d0 d1 d2
  clear T A R P PB S SB G GB
  have T := Tn
  have A := An
  have R := Rn
  have P := Pn
  have PB := PBn
  have S := Sn
  have SB := SBn
  have G := Gn
  have GB := GBn
  clear Tn An Rn Pn PBn Sn SBn Gn GBn
  clear HK1
  obtain ⟨⟨c0, c1, c2⟩, -⟩ := A.out
  go_wp2_with fail
  refine Calls.mono (toCalls_c a1 n1 k1 a2 n2 k2 a3 n3 k3 x _ (Cal.below X0.out T.out) q1 q2 q3) ?_
  intro e wn hh
  obtain ⟨v1, v2, v3, loR2, hiR2, rfl, hO, hb, hlo, hhi⟩ := NewC.get hh
  have hTR2 : w.heap.size ≤ loR2 := by rw [← hlo]; exact T.out.size
  have hltAR2 := Bx.lt A.out
  rw [hlo] at hltAR2
  have hhRR2 := R.out.2.2.1
  rw [hlo] at hhRR2
  have hhPR2 := P.out.2.2.1
  rw [hlo] at hhPR2
  have hltPBR2 := Bx.lt PB.out
  rw [hlo] at hltPBR2
  have hhSR2 := S.out.2.2.1
  rw [hlo] at hhSR2
  have hltSBR2 := Bx.lt SB.out
  rw [hlo] at hltSBR2
  have hhGR2 := G.out.2.2.1
  rw [hlo] at hhGR2
  have hltGBR2 := Bx.lt GB.out
  rw [hlo] at hltGBR2
  have hlhR2 : loR2 ≤ hiR2 := by rw [← hlo, ← hhi]; exact hb.size
  obtain ⟨R2a, R2i, R2b, R2j, R2c, R2k, rfl, rfl, rfl, -⟩ := OwnC.open hO
  have Tn := Lib.hid (below_next T.out hb)
  have An := Lib.hid (Bx.below A.out hb)
  have Rn := Lib.hid (OwnC.below R.out hb)
  have Pn := Lib.hid (OwnC.below P.out hb)
  have PBn := Lib.hid (Bx.below PB.out hb)
  have Sn := Lib.hid (OwnC.below S.out hb)
  have SBn := Lib.hid (Bx.below SB.out hb)
  have Gn := Lib.hid (OwnC.below G.out hb)
  have GBn := Lib.hid (Bx.below GB.out hb)
  have R2 := Lib.hid hO
  clear hb hO hh hlo hhi c0 c1 c2
  clear T A R P PB S SB G GB
  have T := Tn
  have A := An
  have R := Rn
  have P := Pn
  have PB := PBn
  have S := Sn
  have SB := SBn
  have G := Gn
  have GB := GBn
  clear Tn An Rn Pn PBn Sn SBn Gn GBn
  go_wp2_with fail
  refine Calls.mono (HKI.out R2a x.u.length R2i R2b x.d.length R2j R2c x.c.length R2k _ (OwnC.cal R2.out)) ?_
  intro e wn hh
  obtain ⟨v1, v2, v3, loH, hiH, rfl, hO, hb, hlo, hhi⟩ := NewC.get hh
  have hTH : w.heap.size ≤ loH := by rw [← hlo]; exact T.out.size
  have hltAH := Bx.lt A.out
  rw [hlo] at hltAH
  have hhRH := R.out.2.2.1
  rw [hlo] at hhRH
  have hhPH := P.out.2.2.1
  rw [hlo] at hhPH
  have hltPBH := Bx.lt PB.out
  rw [hlo] at hltPBH
  have hhSH := S.out.2.2.1
  rw [hlo] at hhSH
  have hltSBH := Bx.lt SB.out
  rw [hlo] at hltSBH
  have hhGH := G.out.2.2.1
  rw [hlo] at hhGH
  have hltGBH := Bx.lt GB.out
  rw [hlo] at hltGBH
  have hhR2H := R2.out.2.2.1
  rw [hlo] at hhR2H
  have hlhH : loH ≤ hiH := by rw [← hlo, ← hhi]; exact hb.size
  obtain ⟨Ha, Hi, Hb, Hj, Hc, Hk, rfl, rfl, rfl, -⟩ := OwnC.open hO
  have Tn := Lib.hid (below_next T.out hb)
  have An := Lib.hid (Bx.below A.out hb)
  have Rn := Lib.hid (OwnC.below R.out hb)
  have Pn := Lib.hid (OwnC.below P.out hb)
  have PBn := Lib.hid (Bx.below PB.out hb)
  have Sn := Lib.hid (OwnC.below S.out hb)
  have SBn := Lib.hid (Bx.below SB.out hb)
  have Gn := Lib.hid (OwnC.below G.out hb)
  have GBn := Lib.hid (Bx.below GB.out hb)
  have R2n := Lib.hid (OwnC.below R2.out hb)
  have H := Lib.hid hO
  clear hb hO hh hlo hhi
  clear T A R P PB S SB G GB R2
  have T := Tn
  have A := An
  have R := Rn
  have P := Pn
  have PB := PBn
  have S := Sn
  have SB := SBn
  have G := Gn
  have GB := GBn
  have R2 := R2n
  clear Tn An Rn Pn PBn Sn SBn Gn GBn R2n
  have hltAHH := Bx.lt A.out
  have hltRHH := R.out.2.2.1
  have hltPHH := P.out.2.2.1
  have hltPBHH := Bx.lt PB.out
  have hltSHH := S.out.2.2.1
  have hltSBHH := Bx.lt SB.out
  have hltGHH := G.out.2.2.1
  have hltGBHH := Bx.lt GB.out
  have hltR2HH := R2.out.2.2.1
  have hltHHH := H.out.2.2.1
  have hWHH := T.out.size
  obtain ⟨HH, hHH⟩ : ∃ HH, Array.size (World.heap wn) = HH := ⟨_, rfl⟩
  have HHH : Hid _ := hHH
  rw [hHH] at hWHH hltAHH hltRHH hltPHH hltPBHH hltSHH hltSBHH hltGHH hltGBHH hltR2HH hltHHH
  have HB : Hid (Bx (wn.alloc (.cells #[.slice Ha y.u.length Hi, .slice Hb y.d.length Hj, .slice Hc y.c.length Hk] 25)) HH (.slice Ha y.u.length Hi) (.slice Hb y.d.length Hj) (.slice Hc y.c.length Hk)) := by rw [← hHH]; exact Bx.new _ _ _ _ _
  clear hHH
  have Tn : Hid (Below w.heap.size w _) := Below.al T.out (.cells #[.slice Ha y.u.length Hi, .slice Hb y.d.length Hj, .slice Hc y.c.length Hk] 25)
  have An : Hid _ := Bx.below A.out ((Below.refl _ _).alloc (Nat.le_refl _) (.cells #[.slice Ha y.u.length Hi, .slice Hb y.d.length Hj, .slice Hc y.c.length Hk] 25))
  have Rn : Hid _ := OwnC.below R.out ((Below.refl _ _).alloc (Nat.le_refl _) (.cells #[.slice Ha y.u.length Hi, .slice Hb y.d.length Hj, .slice Hc y.c.length Hk] 25))
  have Pn : Hid _ := OwnC.below P.out ((Below.refl _ _).alloc (Nat.le_refl _) (.cells #[.slice Ha y.u.length Hi, .slice Hb y.d.length Hj, .slice Hc y.c.length Hk] 25))
  have PBn : Hid _ := Bx.below PB.out ((Below.refl _ _).alloc (Nat.le_refl _) (.cells #[.slice Ha y.u.length Hi, .slice Hb y.d.length Hj, .slice Hc y.c.length Hk] 25))
  have Sn : Hid _ := OwnC.below S.out ((Below.refl _ _).alloc (Nat.le_refl _) (.cells #[.slice Ha y.u.length Hi, .slice Hb y.d.length Hj, .slice Hc y.c.length Hk] 25))
  have SBn : Hid _ := Bx.below SB.out ((Below.refl _ _).alloc (Nat.le_refl _) (.cells #[.slice Ha y.u.length Hi, .slice Hb y.d.length Hj, .slice Hc y.c.length Hk] 25))
  have Gn : Hid _ := OwnC.below G.out ((Below.refl _ _).alloc (Nat.le_refl _) (.cells #[.slice Ha y.u.length Hi, .slice Hb y.d.length Hj, .slice Hc y.c.length Hk] 25))
  have GBn : Hid _ := Bx.below GB.out ((Below.refl _ _).alloc (Nat.le_refl _) (.cells #[.slice Ha y.u.length Hi, .slice Hb y.d.length Hj, .slice Hc y.c.length Hk] 25))
  have R2n : Hid _ := OwnC.below R2.out ((Below.refl _ _).alloc (Nat.le_refl _) (.cells #[.slice Ha y.u.length Hi, .slice Hb y.d.length Hj, .slice Hc y.c.length Hk] 25))
  have Hn : Hid _ := OwnC.below H.out ((Below.refl _ _).alloc (Nat.le_refl _) (.cells #[.slice Ha y.u.length Hi, .slice Hb y.d.length Hj, .slice Hc y.c.length Hk] 25))
  clear T A R P PB S SB G GB R2 H
  have T := Tn
  have A := An
  have R := Rn
  have P := Pn
  have PB := PBn
  have S := Sn
  have SB := SBn
  have G := Gn
  have GB := GBn
  have R2 := R2n
  have H := Hn
  clear Tn An Rn Pn PBn Sn SBn Gn GBn R2n Hn
  obtain ⟨⟨c0, c1, c2⟩, -⟩ := PB.out
  obtain ⟨⟨d0, d1, d2⟩, -⟩ := HB.out
  go_wp2_with fail
  rw [HHH.out]
  refine Calls.mono (eqCalls_t Ha y.u.length Hi Hb y.d.length Hj Hc y.c.length Hk Pa y.u.length Pi Pb y.d.length Pj Pc y.c.length Pk y _ (OwnC.cal H.out) (OwnC.cal P.out) (by omega) (by omega) (by omega)) ?_
  intro e wn hh
  obtain ⟨he, hb⟩ := (by first | exact hh | exact Ro.mk hh | exact St.mk hh | exact LawOk.mk' hh : Mk _ _ e wn)
  subst he
  have Tn : Hid (Below w.heap.size w wn) := below_next T.out hb
  have An : Hid _ := Bx.below A.out hb
  have Rn : Hid _ := OwnC.below R.out hb
  have Pn : Hid _ := OwnC.below P.out hb
  have PBn : Hid _ := Bx.below PB.out hb
  have Sn : Hid _ := OwnC.below S.out hb
  have SBn : Hid _ := Bx.below SB.out hb
  have Gn : Hid _ := OwnC.below G.out hb
  have GBn : Hid _ := Bx.below GB.out hb
  have R2n : Hid _ := OwnC.below R2.out hb
  have Hn : Hid _ := OwnC.below H.out hb
  have HBn : Hid _ := Bx.below HB.out hb
  clear hb hh c0 c1 c2 d0 d1 d2
  clear T A R P PB S SB G GB R2 H HB
  have T := Tn
  have A := An
  have R := Rn
  have P := Pn
  have PB := PBn
  have S := Sn
  have SB := SBn
  have G := Gn
  have GB := GBn
  have R2 := R2n
  have H := Hn
  have HB := HBn
  clear Tn An Rn Pn PBn Sn SBn Gn GBn R2n Hn HBn
  obtain ⟨⟨d0, d1, d2⟩, -⟩ := GB.out
  have HK1 := Lib.hid (heldCalls_c Ga y.u.length Gi Gb y.d.length Gj Gc y.c.length Gk 1 wn (OwnC.cal G.out) (by omega) s1)
  rw [HZ1.out] at HK1
  go_wp2_with fail
  refine Calls.mono (HK1.out) ?_
  intro e wn hh
  obtain ⟨he, hb⟩ := (by first | exact hh | exact Ro.mk hh | exact St.mk hh | exact LawOk.mk' hh : Mk _ _ e wn)
  subst he
  have Tn : Hid (Below w.heap.size w wn) := below_next T.out hb
  have An : Hid _ := Bx.below A.out hb
  have Rn : Hid _ := OwnC.below R.out hb
  have Pn : Hid _ := OwnC.below P.out hb
  have PBn : Hid _ := Bx.below PB.out hb
  have Sn : Hid _ := OwnC.below S.out hb
  have SBn : Hid _ := Bx.below SB.out hb
  have Gn : Hid _ := OwnC.below G.out hb
  have GBn : Hid _ := Bx.below GB.out hb
  have R2n : Hid _ := OwnC.below R2.out hb
  have Hn : Hid _ := OwnC.below H.out hb
  have HBn : Hid _ := Bx.below HB.out hb
  clear hb hh d0 d1 d2
  clear T A R P PB S SB G GB R2 H HB
  have T := Tn
  have A := An
  have R := Rn
  have P := Pn
  have PB := PBn
  have S := Sn
  have SB := SBn
  have G := Gn
  have GB := GBn
  have R2 := R2n
  have H := Hn
  have HB := HBn
  clear Tn An Rn Pn PBn Sn SBn Gn GBn R2n Hn HBn
  go_wp2_with fail
  go_ret
  first | exact LawOk.mk T.out | exact LawOk.mk (Below.dr T.out _)
end Go.Proofs.Ytgenccbpkolmbaa
