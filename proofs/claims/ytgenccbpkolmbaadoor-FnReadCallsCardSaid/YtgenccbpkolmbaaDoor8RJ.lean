/- The walk of the exact law of ReadCalls. -/
import Derived.Test.YtgenccbpkolmbaaDoor8RI
import Derived.Test.YtgenccbpkolmbaaDoor8Y
namespace Go.Proofs.YtgenccbpkolmbaaDoor
open Go.RowKit
set_option linter.unusedVariables false

theorem rd_len (s : ByteArray) : (rd s).u.length ≤ 8 ∧ (rd s).d.length ≤ 8 ∧ (rd s).c.length ≤ 8 := by
  by_cases h : RdV s
  · obtain ⟨p, q, r, hc, hcl, hv⟩ := h
    rw [(rd_t hc hcl hv).1]
    obtain ⟨h1, h2, h3, h4, -⟩ := hv
    exact ⟨by omega, by omega, h2⟩
  · rw [(rd_f h).1]; simp [cz]
set_option maxHeartbeats 4000000 in
theorem ExactReadCalls_w (s : ByteArray) (w : World) (hm : ∃ m, w.cell? ⟨0, 0, none⟩ = some (.int .i64 m)) : Calls Tryd.prog 5 #[.string s] w (LawOk w) := by
  obtain ⟨m, hm⟩ := hm
  have HM := Lib.hid hm
  clear hm
  by_cases hbig : 1048576 < s.size
  · have hbi : (1048576 : Int) < (s.size : Int) := by omega
    go_enter Tryd.func5, Tryd.ntmps5
    go_wp2_with fail
    go_ret
    exact LawOk.mk (Below.refl _ _)
  have hbi : ¬ (1048576 : Int) < (s.size : Int) := by omega
  have hss : s.size ≤ 1048576 := by omega
  obtain ⟨m1, m2, m3⟩ := rd_len s
  have KS := fun w' => sReadCalls_c s w' hss
  have KI := fun w' (h : w'.cell? ⟨0, 0, none⟩ = some (.int .i64 m)) => iReadCalls_c s w' m hss h
  obtain ⟨y, hy⟩ : ∃ y, rd s = y := ⟨_, rfl⟩
  obtain ⟨tb, htb⟩ : ∃ tb, rdB s = tb := ⟨_, rfl⟩
  rw [hy] at KS KI m1 m2 m3
  rw [htb] at KS KI
  have HKS := Lib.hid KS
  have HKI := Lib.hid KI
  obtain ⟨z, hz⟩ : ∃ z, 1 + y.u.length + y.d.length + y.c.length = z := ⟨_, rfl⟩
  have HZ := Lib.hid hz
  have hzn : ¬ (z : Int) < 0 := by omega
  clear KS KI hy hz htb hss
  go_enter Tryd.func5, Tryd.ntmps5
  obtain ⟨wn, hwn⟩ : ∃ wn, wn = w := ⟨_, rfl⟩
  have T := Lib.hid (show Below w.heap.size w wn from by rw [hwn]; exact Below.refl _ _)
  go_wp2_with fail
  rw [← hwn]
  have HWO := Lib.hid hwn
  clear hwn
  go_wp2_with fail
  refine Calls.mono (HKS.out _) ?_
  intro e wn hh
  obtain ⟨v1, v2, v3, loP, hiP, rfl, hO, hb, hlo, hhi⟩ := NewC.get hh
  have hTP : w.heap.size ≤ loP := by rw [← hlo]; exact T.out.size
  have hlhP : loP ≤ hiP := by rw [← hlo, ← hhi]; exact hb.size
  obtain ⟨Pa, Pi, Pb, Pj, Pc, Pk, rfl, rfl, rfl, -⟩ := OwnC.open hO
  have Tn := Lib.hid (below_next T.out hb)
  have P := Lib.hid hO
  clear hb hO hh hlo hhi
  clear T
  have T := Tn
  clear Tn
  have hltPHP := P.out.2.2.1
  have hWHP := T.out.size
  obtain ⟨HP, hHP⟩ : ∃ HP, Array.size (World.heap wn) = HP := ⟨_, rfl⟩
  have HHP : Hid _ := hHP
  rw [hHP] at hWHP hltPHP
  have PB : Hid (Bx (wn.alloc (.cells #[.slice Pa y.u.length Pi, .slice Pb y.d.length Pj, .slice Pc y.c.length Pk] 25)) HP (.slice Pa y.u.length Pi) (.slice Pb y.d.length Pj) (.slice Pc y.c.length Pk)) := by rw [← hHP]; exact Bx.new _ _ _ _ _
  clear hHP
  have Tn : Hid (Below w.heap.size w _) := Below.al T.out (.cells #[.slice Pa y.u.length Pi, .slice Pb y.d.length Pj, .slice Pc y.c.length Pk] 25)
  have Pn : Hid _ := OwnC.below P.out ((Below.refl _ _).alloc (Nat.le_refl _) (.cells #[.slice Pa y.u.length Pi, .slice Pb y.d.length Pj, .slice Pc y.c.length Pk] 25))
  clear T P
  have T := Tn
  have P := Pn
  clear Tn Pn
  go_wp2_with fail
  rw [HHP.out]
  refine Calls.mono (HKI.out _ (cell_below HM.out T.out)) ?_
  intro e wn hh
  obtain ⟨v1, v2, v3, loG, hiG, rfl, hO, hb, hlo, hhi⟩ := NewC.get hh
  have hTG : w.heap.size ≤ loG := by rw [← hlo]; exact T.out.size
  have hhPG := P.out.2.2.1
  rw [hlo] at hhPG
  have hltPBG := Bx.lt PB.out
  rw [hlo] at hltPBG
  have hlhG : loG ≤ hiG := by rw [← hlo, ← hhi]; exact hb.size
  obtain ⟨Ga, Gi, Gb, Gj, Gc, Gk, rfl, rfl, rfl, -⟩ := OwnC.open hO
  have Tn := Lib.hid (below_next T.out hb)
  have Pn := Lib.hid (OwnC.below P.out hb)
  have PBn := Lib.hid (Bx.below PB.out hb)
  have G := Lib.hid hO
  clear hb hO hh hlo hhi
  clear T P PB
  have T := Tn
  have P := Pn
  have PB := PBn
  clear Tn Pn PBn
  have hltPHG := P.out.2.2.1
  have hltPBHG := Bx.lt PB.out
  have hltGHG := G.out.2.2.1
  have hWHG := T.out.size
  obtain ⟨HG, hHG⟩ : ∃ HG, Array.size (World.heap wn) = HG := ⟨_, rfl⟩
  have HHG : Hid _ := hHG
  rw [hHG] at hWHG hltPHG hltPBHG hltGHG
  have GB : Hid (Bx (wn.alloc (.cells #[.slice Ga y.u.length Gi, .slice Gb y.d.length Gj, .slice Gc y.c.length Gk] 25)) HG (.slice Ga y.u.length Gi) (.slice Gb y.d.length Gj) (.slice Gc y.c.length Gk)) := by rw [← hHG]; exact Bx.new _ _ _ _ _
  clear hHG
  have Tn : Hid (Below w.heap.size w _) := Below.al T.out (.cells #[.slice Ga y.u.length Gi, .slice Gb y.d.length Gj, .slice Gc y.c.length Gk] 25)
  have Pn : Hid _ := OwnC.below P.out ((Below.refl _ _).alloc (Nat.le_refl _) (.cells #[.slice Ga y.u.length Gi, .slice Gb y.d.length Gj, .slice Gc y.c.length Gk] 25))
  have PBn : Hid _ := Bx.below PB.out ((Below.refl _ _).alloc (Nat.le_refl _) (.cells #[.slice Ga y.u.length Gi, .slice Gb y.d.length Gj, .slice Gc y.c.length Gk] 25))
  have Gn : Hid _ := OwnC.below G.out ((Below.refl _ _).alloc (Nat.le_refl _) (.cells #[.slice Ga y.u.length Gi, .slice Gb y.d.length Gj, .slice Gc y.c.length Gk] 25))
  clear T P PB G
  have T := Tn
  have P := Pn
  have PB := PBn
  have G := Gn
  clear Tn Pn PBn Gn
  obtain ⟨⟨c0, c1, c2⟩, -⟩ := PB.out
  obtain ⟨⟨d0, d1, d2⟩, -⟩ := GB.out
  go_wp2_with fail
  rw [HHG.out]
  refine Calls.mono (eqCalls_t Ga y.u.length Gi Gb y.d.length Gj Gc y.c.length Gk Pa y.u.length Pi Pb y.d.length Pj Pc y.c.length Pk y _ (OwnC.cal G.out) (OwnC.cal P.out) (by omega) (by omega) (by omega)) ?_
  intro e wn hh
  obtain ⟨he, hb⟩ := (by first | exact hh | exact Ro.mk hh | exact St.mk hh | exact LawOk.mk' hh : Mk _ _ e wn)
  subst he
  have Tn : Hid (Below w.heap.size w wn) := below_next T.out hb
  have Pn : Hid _ := OwnC.below P.out hb
  have PBn : Hid _ := Bx.below PB.out hb
  have Gn : Hid _ := OwnC.below G.out hb
  have GBn : Hid _ := Bx.below GB.out hb
  clear hb hh c0 c1 c2 d0 d1 d2
  clear T P PB G GB
  have T := Tn
  have P := Pn
  have PB := PBn
  have G := Gn
  have GB := GBn
  clear Tn Pn PBn Gn GBn
  obtain ⟨⟨d0, d1, d2⟩, -⟩ := GB.out
  go_wp2_with fail
  refine Calls.mono (markCalls_c Ga y.u.length Gi Gb y.d.length Gj Gc y.c.length Gk 1 y loG hiG _ G.out (by omega) (by omega)) ?_
  rintro e wn ⟨rfl, hO, ho⟩
  have Tn := Lib.hid (Out.below T.out ho (by omega))
  have Pn := Lib.hid (OwnC.out P.out ho (by omega))
  have PBn := Lib.hid (Bx.out PB.out ho (by omega))
  have Gn := Lib.hid hO
  have GBn := Lib.hid (Bx.out GB.out ho (by omega))
  clear hO ho d0 d1 d2
  clear T P PB G GB
  have T := Tn
  have P := Pn
  have PB := PBn
  have G := Gn
  have GB := GBn
  clear Tn Pn PBn Gn GBn
  rw [HZ.out]
  obtain ⟨⟨d0, d1, d2⟩, -⟩ := GB.out
  have HK1 := Lib.hid (heldCalls_c Ga y.u.length Gi Gb y.d.length Gj Gc y.c.length Gk 1 wn (OwnC.cal G.out) (by omega) (by omega))
  rw [HZ.out] at HK1
  go_wp2_with fail
  refine Calls.mono (HK1.out) ?_
  intro e wn hh
  obtain ⟨he, hb⟩ := (by first | exact hh | exact Ro.mk hh | exact St.mk hh | exact LawOk.mk' hh : Mk _ _ e wn)
  subst he
  have Tn : Hid (Below w.heap.size w wn) := below_next T.out hb
  have Pn : Hid _ := OwnC.below P.out hb
  have PBn : Hid _ := Bx.below PB.out hb
  have Gn : Hid _ := OwnC.below G.out hb
  have GBn : Hid _ := Bx.below GB.out hb
  clear hb hh d0 d1 d2
  clear T P PB G GB
  have T := Tn
  have P := Pn
  have PB := PBn
  have G := Gn
  have GB := GBn
  clear Tn Pn PBn Gn GBn
  clear HK1
  go_wp2_with fail
  refine Calls.mono (HKI.out _ (cell_below HM.out T.out)) ?_
  intro e wn hh
  obtain ⟨v1, v2, v3, loH, hiH, rfl, hO, hb, hlo, hhi⟩ := NewC.get hh
  have hTH : w.heap.size ≤ loH := by rw [← hlo]; exact T.out.size
  have hhPH := P.out.2.2.1
  rw [hlo] at hhPH
  have hltPBH := Bx.lt PB.out
  rw [hlo] at hltPBH
  have hhGH := G.out.2.2.1
  rw [hlo] at hhGH
  have hltGBH := Bx.lt GB.out
  rw [hlo] at hltGBH
  have hlhH : loH ≤ hiH := by rw [← hlo, ← hhi]; exact hb.size
  obtain ⟨Ha, Hi, Hb, Hj, Hc, Hk, rfl, rfl, rfl, -⟩ := OwnC.open hO
  have Tn := Lib.hid (below_next T.out hb)
  have Pn := Lib.hid (OwnC.below P.out hb)
  have PBn := Lib.hid (Bx.below PB.out hb)
  have Gn := Lib.hid (OwnC.below G.out hb)
  have GBn := Lib.hid (Bx.below GB.out hb)
  have H := Lib.hid hO
  clear hb hO hh hlo hhi
  clear T P PB G GB
  have T := Tn
  have P := Pn
  have PB := PBn
  have G := Gn
  have GB := GBn
  clear Tn Pn PBn Gn GBn
  have hltPHH := P.out.2.2.1
  have hltPBHH := Bx.lt PB.out
  have hltGHH := G.out.2.2.1
  have hltGBHH := Bx.lt GB.out
  have hltHHH := H.out.2.2.1
  have hWHH := T.out.size
  obtain ⟨HH, hHH⟩ : ∃ HH, Array.size (World.heap wn) = HH := ⟨_, rfl⟩
  have HHH : Hid _ := hHH
  rw [hHH] at hWHH hltPHH hltPBHH hltGHH hltGBHH hltHHH
  have HB : Hid (Bx (wn.alloc (.cells #[.slice Ha y.u.length Hi, .slice Hb y.d.length Hj, .slice Hc y.c.length Hk] 25)) HH (.slice Ha y.u.length Hi) (.slice Hb y.d.length Hj) (.slice Hc y.c.length Hk)) := by rw [← hHH]; exact Bx.new _ _ _ _ _
  clear hHH
  have Tn : Hid (Below w.heap.size w _) := Below.al T.out (.cells #[.slice Ha y.u.length Hi, .slice Hb y.d.length Hj, .slice Hc y.c.length Hk] 25)
  have Pn : Hid _ := OwnC.below P.out ((Below.refl _ _).alloc (Nat.le_refl _) (.cells #[.slice Ha y.u.length Hi, .slice Hb y.d.length Hj, .slice Hc y.c.length Hk] 25))
  have PBn : Hid _ := Bx.below PB.out ((Below.refl _ _).alloc (Nat.le_refl _) (.cells #[.slice Ha y.u.length Hi, .slice Hb y.d.length Hj, .slice Hc y.c.length Hk] 25))
  have Gn : Hid _ := OwnC.below G.out ((Below.refl _ _).alloc (Nat.le_refl _) (.cells #[.slice Ha y.u.length Hi, .slice Hb y.d.length Hj, .slice Hc y.c.length Hk] 25))
  have GBn : Hid _ := Bx.below GB.out ((Below.refl _ _).alloc (Nat.le_refl _) (.cells #[.slice Ha y.u.length Hi, .slice Hb y.d.length Hj, .slice Hc y.c.length Hk] 25))
  have Hn : Hid _ := OwnC.below H.out ((Below.refl _ _).alloc (Nat.le_refl _) (.cells #[.slice Ha y.u.length Hi, .slice Hb y.d.length Hj, .slice Hc y.c.length Hk] 25))
  clear T P PB G GB H
  have T := Tn
  have P := Pn
  have PB := PBn
  have G := Gn
  have GB := GBn
  have H := Hn
  clear Tn Pn PBn Gn GBn Hn
  obtain ⟨⟨c0, c1, c2⟩, -⟩ := PB.out
  obtain ⟨⟨d0, d1, d2⟩, -⟩ := HB.out
  go_wp2_with fail
  rw [HHH.out]
  refine Calls.mono (eqCalls_t Ha y.u.length Hi Hb y.d.length Hj Hc y.c.length Hk Pa y.u.length Pi Pb y.d.length Pj Pc y.c.length Pk y _ (OwnC.cal H.out) (OwnC.cal P.out) (by omega) (by omega) (by omega)) ?_
  intro e wn hh
  obtain ⟨he, hb⟩ := (by first | exact hh | exact Ro.mk hh | exact St.mk hh | exact LawOk.mk' hh : Mk _ _ e wn)
  subst he
  have Tn : Hid (Below w.heap.size w wn) := below_next T.out hb
  have Pn : Hid _ := OwnC.below P.out hb
  have PBn : Hid _ := Bx.below PB.out hb
  have Gn : Hid _ := OwnC.below G.out hb
  have GBn : Hid _ := Bx.below GB.out hb
  have Hn : Hid _ := OwnC.below H.out hb
  have HBn : Hid _ := Bx.below HB.out hb
  clear hb hh c0 c1 c2 d0 d1 d2
  clear T P PB G GB H HB
  have T := Tn
  have P := Pn
  have PB := PBn
  have G := Gn
  have GB := GBn
  have H := Hn
  have HB := HBn
  clear Tn Pn PBn Gn GBn Hn HBn
  obtain ⟨⟨d0, d1, d2⟩, -⟩ := GB.out
  have HK1 := Lib.hid (heldCalls_c Ga y.u.length Gi Gb y.d.length Gj Gc y.c.length Gk 1 wn (OwnC.cal G.out) (by omega) (by omega))
  rw [HZ.out] at HK1
  go_wp2_with fail
  refine Calls.mono (HK1.out) ?_
  intro e wn hh
  obtain ⟨he, hb⟩ := (by first | exact hh | exact Ro.mk hh | exact St.mk hh | exact LawOk.mk' hh : Mk _ _ e wn)
  subst he
  have Tn : Hid (Below w.heap.size w wn) := below_next T.out hb
  have Pn : Hid _ := OwnC.below P.out hb
  have PBn : Hid _ := Bx.below PB.out hb
  have Gn : Hid _ := OwnC.below G.out hb
  have GBn : Hid _ := Bx.below GB.out hb
  have Hn : Hid _ := OwnC.below H.out hb
  have HBn : Hid _ := Bx.below HB.out hb
  clear hb hh d0 d1 d2
  clear T P PB G GB H HB
  have T := Tn
  have P := Pn
  have PB := PBn
  have G := Gn
  have GB := GBn
  have H := Hn
  have HB := HBn
  clear Tn Pn PBn Gn GBn Hn HBn
  go_wp2_with fail
  go_ret
  first | exact LawOk.mk T.out | exact LawOk.mk (Below.dr T.out _)
end Go.Proofs.YtgenccbpkolmbaaDoor
