/- The law of CallSet: the walk. -/
import Derived.Test.Ytgenccbpkolmbaa8Q
namespace Go.Proofs.Ytgenccbpkolmbaa
open Go.RowKit
set_option linter.unusedVariables false

theorem sameCalls_e (a1 : Option Addr) (n1 k1 : Nat) (a2 : Option Addr) (n2 k2 : Nat) (a3 : Option Addr) (n3 k3 : Nat) (a4 : Option Addr) (n4 k4 : Nat) (a5 : Option Addr) (n5 k5 : Nat) (a6 : Option Addr) (n6 k6 : Nat) (x y : Cs) (w : World) (hX : Cal w a1 n1 a2 n2 a3 n3 x) (hY : Cal w a4 n4 a5 n5 a6 n6 y) (m1 : n1 ≤ 1048577) (m2 : n2 ≤ 1048577) (m3 : n3 ≤ 1048577) (he : x = y) :
    Calls Try.prog 18 #[(.agg #[.slice a1 n1 k1, .slice a2 n2 k2, .slice a3 n3 k3]), .agg #[.slice a4 n4 k4, .slice a5 n5 k5, .slice a6 n6 k6]] w (Mk w (.bool true)) := by
  have K := sameCalls_c a1 n1 k1 a2 n2 k2 a3 n3 k3 x a4 n4 k4 a5 n5 k5 a6 n6 k6 y w hX hY m1 m2 m3
  rw [tr_true he] at K
  exact K
/-- A call set again at the same place: what may come of it. -/
theorem set_again {x : Cs} {k f : Int} {b : Bool} (h : SV x k f b) :
    SV (cput x k f.toNat b) k f false ∧ cput (cput x k f.toNat b) k f.toNat false = cput x k f.toNat false ∧
    ((b = true ∧ cstB (cput x k f.toNat b) k f true = true ∧ cst (cput x k f.toNat b) k f true = cput x k f.toNat b ∧ (cst (cput x k f.toNat b) k f true = x ∨ cst (cput x k f.toNat b) k f true ≠ x ∧ cput x k f.toNat false = x)) ∨
     (b = false ∧ cput x k f.toNat false = cput x k f.toNat b ∧ (cstB (cput x k f.toNat b) k f true = false ∨
       cstB (cput x k f.toNat b) k f true = true ∧ (cst (cput x k f.toNat b) k f true = x ∨ cst (cput x k f.toNat b) k f true ≠ x ∧ cput x k f.toNat false = x)))) ∧
    (cm (cput x k f.toNat b) - cm x ≤ 1 ∧ -1 ≤ cm (cput x k f.toNat b) - cm x) := by
  obtain ⟨hv, ⟨hk, f0, f1⟩, hy⟩ := h
  have hj : f.toNat < x.c.length := by omega
  have hlen := (cput_len x k f.toNat b).2.2
  have hO := cput_off (k := k) hv hj
  have hm := cm_put hv hj hy
  have hat := cput_at (k := k) hv hj
  have KFy : KF (cput x k f.toNat b) k f := ⟨hk, f0, by rw [hlen]; exact f1⟩
  refine ⟨⟨hy, KFy, by rw [cput_put]; exact hO⟩, cput_put _ _ _ _ _, ?_, ?_⟩
  · by_cases ht : CV (cput x k f.toNat true)
    · have sT : SV (cput x k f.toNat b) k f true := ⟨hy, KFy, by rw [cput_put]; exact ht⟩
      rw [cstB_t sT, cst_t sT, cput_put]
      have hx : cput x k f.toNat true = x ∨ cput x k f.toNat true ≠ x ∧ cput x k f.toNat false = x := by
        by_cases e : cput x k f.toNat true = x
        · exact .inl e
        · refine .inr ⟨e, ?_⟩
          cases hc : cat x k f.toNat
          · rw [hc] at hat; exact hat
          · rw [hc] at hat; exact absurd hat e
      cases b
      · exact .inr ⟨rfl, rfl, .inr ⟨rfl, hx⟩⟩
      · exact .inl ⟨rfl, rfl, rfl, hx⟩
    · have sT : ¬ SV (cput x k f.toNat b) k f true := fun h => ht (by have := h.2.2; rwa [cput_put] at this)
      rw [cstB_f sT]
      cases b
      · exact .inr ⟨rfl, rfl, .inl rfl⟩
      · exact absurd hy ht
  · split at hm <;> split at hm <;> omega
set_option maxHeartbeats 16000000 in
theorem CallSet_w (a : Option Addr) (n cap : Nat) (w : World) (hb : Byt w a n) (hn : n ≤ cap) (hcap : cap ≤ maxLen) :
    Calls Try.prog 5 #[.slice a n cap] w (LawOk w) := by
  have hcap' := hcap
  unfold maxLen at hcap'
  by_cases bign : 1048576 < n
  · go_enter Try.func5, Try.ntmps5
    go_wp2_with fail
    go_ret
    exact LawOk.mk (Below.refl _ _)
  go_enter Try.func5, Try.ntmps5
  go_wp2_with fail
  refine (DrawCallSet_c a n cap _ hb hn hcap).mono ?_
  rintro e wn ⟨a1, n1, k1, a2, n2, k2, a3, n3, k3, x, k, f, b, rfl, hX, ⟨l1, l2, l3⟩, -, hB⟩
  have T := Lib.hid hB
  have X := Lib.hid hX
  have x1 := hX.1.1
  have x2 := hX.2.1.1
  have x3 := hX.2.2.1
  obtain ⟨y1, y2, y3⟩ := cst_len x k f b
  have KI := fun w' (h : Cal w' a1 n1 a2 n2 a3 n3 x) => iCallSet_c a1 n1 k1 a2 n2 k2 a3 n3 k3 x k f b w' h
  have KS := fun w' (h : Cal w' a1 n1 a2 n2 a3 n3 x) => sCallSet_c a1 n1 k1 a2 n2 k2 a3 n3 k3 x k f b w' h
  clear hB hX hb
  have hWHC := T.out.size
  obtain ⟨HC, hHC⟩ : ∃ HC, Array.size (World.heap wn) = HC := ⟨_, rfl⟩
  have HHC : Hid _ := hHC
  rw [hHC] at hWHC
  have CB : Hid (Bx (wn.alloc (.cells #[.slice a1 n1 k1, .slice a2 n2 k2, .slice a3 n3 k3] 25)) HC (.slice a1 n1 k1) (.slice a2 n2 k2) (.slice a3 n3 k3)) := by rw [← hHC]; exact Bx.new _ _ _ _ _
  clear hHC
  have Tn : Hid (Below w.heap.size w _) := Below.al T.out (.cells #[.slice a1 n1 k1, .slice a2 n2 k2, .slice a3 n3 k3] 25)
  have Xn : Hid _ := Cal.below X.out ((Below.refl _ _).alloc (Nat.le_refl _) (.cells #[.slice a1 n1 k1, .slice a2 n2 k2, .slice a3 n3 k3] 25))
  clear T X
  have T := Tn
  have X := Xn
  clear Tn Xn
  by_cases hs : SV x k f b
  case neg =>
    have KY : cst x k f b = x ∨ cst x k f b ≠ x ∧ (cst x k f b).c.length = 0 := by
      by_cases hv : CV x
      · exact .inl (cst_f hv hs)
      · rw [cst_bad hv]
        by_cases e : cz = x
        · exact .inl e
        · exact .inr ⟨e, rfl⟩
    rw [cstB_f hs] at KI KS
    obtain ⟨y, hy⟩ : ∃ y, cst x k f b = y := ⟨_, rfl⟩
    rw [hy] at KI KS KY y1 y2 y3
    have m1 : y.u.length ≤ 1048577 := by omega
    have m2 : y.d.length ≤ 1048577 := by omega
    have m3 : y.c.length ≤ 1048577 := by omega
    have HKI := Lib.hid KI
    have HKS := Lib.hid KS
    have HKY := Lib.hid KY
    clear KI KS KY hy hs x1 x2 x3 y1 y2 y3 l1 l2 l3
    go_wp2_with fail
    rw [HHC.out]
    refine Calls.mono (HKI.out _ X.out) ?_
    intro e wn hh
    obtain ⟨v1, v2, v3, loP, hiP, rfl, hO, hb, hlo, hhi⟩ := NewC.get hh
    have hTP : w.heap.size ≤ loP := by rw [← hlo]; exact T.out.size
    have hltCBP := Bx.lt CB.out
    rw [hlo] at hltCBP
    have hlhP : loP ≤ hiP := by rw [← hlo, ← hhi]; exact hb.size
    obtain ⟨Pa, Pi, Pb, Pj, Pc, Pk, rfl, rfl, rfl, -⟩ := OwnC.open hO
    have Tn := Lib.hid (below_next T.out hb)
    have Xn := Lib.hid (Cal.below X.out hb)
    have CBn := Lib.hid (Bx.below CB.out hb)
    have P := Lib.hid hO
    clear hb hO hh hlo hhi
    clear T X CB
    have T := Tn
    have X := Xn
    have CB := CBn
    clear Tn Xn CBn
    have hltCBHP := Bx.lt CB.out
    have hltPHP := P.out.2.2.1
    have hWHP := T.out.size
    obtain ⟨HP, hHP⟩ : ∃ HP, Array.size (World.heap wn) = HP := ⟨_, rfl⟩
    have HHP : Hid _ := hHP
    rw [hHP] at hWHP hltCBHP hltPHP
    have PB : Hid (Bx (wn.alloc (.cells #[.slice Pa y.u.length Pi, .slice Pb y.d.length Pj, .slice Pc y.c.length Pk] 25)) HP (.slice Pa y.u.length Pi) (.slice Pb y.d.length Pj) (.slice Pc y.c.length Pk)) := by rw [← hHP]; exact Bx.new _ _ _ _ _
    clear hHP
    have Tn : Hid (Below w.heap.size w _) := Below.al T.out (.cells #[.slice Pa y.u.length Pi, .slice Pb y.d.length Pj, .slice Pc y.c.length Pk] 25)
    have Xn : Hid _ := Cal.below X.out ((Below.refl _ _).alloc (Nat.le_refl _) (.cells #[.slice Pa y.u.length Pi, .slice Pb y.d.length Pj, .slice Pc y.c.length Pk] 25))
    have CBn : Hid _ := Bx.below CB.out ((Below.refl _ _).alloc (Nat.le_refl _) (.cells #[.slice Pa y.u.length Pi, .slice Pb y.d.length Pj, .slice Pc y.c.length Pk] 25))
    have Pn : Hid _ := OwnC.below P.out ((Below.refl _ _).alloc (Nat.le_refl _) (.cells #[.slice Pa y.u.length Pi, .slice Pb y.d.length Pj, .slice Pc y.c.length Pk] 25))
    clear T X CB P
    have T := Tn
    have X := Xn
    have CB := CBn
    have P := Pn
    clear Tn Xn CBn Pn
    obtain ⟨⟨c0, c1, c2⟩, -⟩ := CB.out
    go_wp2_with fail
    rw [HHP.out]
    refine Calls.mono (HKS.out _ X.out) ?_
    intro e wn hh
    obtain ⟨v1, v2, v3, loG, hiG, rfl, hO, hb, hlo, hhi⟩ := NewC.get hh
    have hTG : w.heap.size ≤ loG := by rw [← hlo]; exact T.out.size
    have hltCBG := Bx.lt CB.out
    rw [hlo] at hltCBG
    have hhPG := P.out.2.2.1
    rw [hlo] at hhPG
    have hltPBG := Bx.lt PB.out
    rw [hlo] at hltPBG
    have hlhG : loG ≤ hiG := by rw [← hlo, ← hhi]; exact hb.size
    obtain ⟨Ga, Gi, Gb, Gj, Gc, Gk, rfl, rfl, rfl, -⟩ := OwnC.open hO
    have Tn := Lib.hid (below_next T.out hb)
    have Xn := Lib.hid (Cal.below X.out hb)
    have CBn := Lib.hid (Bx.below CB.out hb)
    have Pn := Lib.hid (OwnC.below P.out hb)
    have PBn := Lib.hid (Bx.below PB.out hb)
    have G := Lib.hid hO
    clear hb hO hh hlo hhi c0 c1 c2
    clear T X CB P PB
    have T := Tn
    have X := Xn
    have CB := CBn
    have P := Pn
    have PB := PBn
    clear Tn Xn CBn Pn PBn
    have hltCBHG := Bx.lt CB.out
    have hltPHG := P.out.2.2.1
    have hltPBHG := Bx.lt PB.out
    have hltGHG := G.out.2.2.1
    have hWHG := T.out.size
    obtain ⟨HG, hHG⟩ : ∃ HG, Array.size (World.heap wn) = HG := ⟨_, rfl⟩
    have HHG : Hid _ := hHG
    rw [hHG] at hWHG hltCBHG hltPHG hltPBHG hltGHG
    have GB : Hid (Bx (wn.alloc (.cells #[.slice Ga y.u.length Gi, .slice Gb y.d.length Gj, .slice Gc y.c.length Gk] 25)) HG (.slice Ga y.u.length Gi) (.slice Gb y.d.length Gj) (.slice Gc y.c.length Gk)) := by rw [← hHG]; exact Bx.new _ _ _ _ _
    clear hHG
    have Tn : Hid (Below w.heap.size w _) := Below.al T.out (.cells #[.slice Ga y.u.length Gi, .slice Gb y.d.length Gj, .slice Gc y.c.length Gk] 25)
    have Xn : Hid _ := Cal.below X.out ((Below.refl _ _).alloc (Nat.le_refl _) (.cells #[.slice Ga y.u.length Gi, .slice Gb y.d.length Gj, .slice Gc y.c.length Gk] 25))
    have CBn : Hid _ := Bx.below CB.out ((Below.refl _ _).alloc (Nat.le_refl _) (.cells #[.slice Ga y.u.length Gi, .slice Gb y.d.length Gj, .slice Gc y.c.length Gk] 25))
    have Pn : Hid _ := OwnC.below P.out ((Below.refl _ _).alloc (Nat.le_refl _) (.cells #[.slice Ga y.u.length Gi, .slice Gb y.d.length Gj, .slice Gc y.c.length Gk] 25))
    have PBn : Hid _ := Bx.below PB.out ((Below.refl _ _).alloc (Nat.le_refl _) (.cells #[.slice Ga y.u.length Gi, .slice Gb y.d.length Gj, .slice Gc y.c.length Gk] 25))
    have Gn : Hid _ := OwnC.below G.out ((Below.refl _ _).alloc (Nat.le_refl _) (.cells #[.slice Ga y.u.length Gi, .slice Gb y.d.length Gj, .slice Gc y.c.length Gk] 25))
    clear T X CB P PB G
    have T := Tn
    have X := Xn
    have CB := CBn
    have P := Pn
    have PB := PBn
    have G := Gn
    clear Tn Xn CBn Pn PBn Gn
    obtain ⟨⟨c0, c1, c2⟩, -⟩ := PB.out
    obtain ⟨⟨d0, d1, d2⟩, -⟩ := GB.out
    go_wp2_with fail
    rw [HHG.out]
    refine Calls.mono (sameCalls_t Pa y.u.length Pi Pb y.d.length Pj Pc y.c.length Pk Ga y.u.length Gi Gb y.d.length Gj Gc y.c.length Gk y _ (OwnC.cal P.out) (OwnC.cal G.out) m1 m2 m3) ?_
    intro e wn hh
    obtain ⟨he, hb⟩ := (by first | exact hh | exact Ro.mk hh | exact St.mk hh | exact LawOk.mk' hh : Mk _ _ e wn)
    subst he
    have Tn : Hid (Below w.heap.size w wn) := below_next T.out hb
    have Xn : Hid _ := Cal.below X.out hb
    have CBn : Hid _ := Bx.below CB.out hb
    have Pn : Hid _ := OwnC.below P.out hb
    have PBn : Hid _ := Bx.below PB.out hb
    have Gn : Hid _ := OwnC.below G.out hb
    have GBn : Hid _ := Bx.below GB.out hb
    clear hb hh c0 c1 c2 d0 d1 d2
    clear T X CB P PB G GB
    have T := Tn
    have X := Xn
    have CB := CBn
    have P := Pn
    have PB := PBn
    have G := Gn
    have GB := GBn
    clear Tn Xn CBn Pn PBn Gn GBn
    rcases HKY.out with e | ⟨e, hl⟩
    · have E1 := Lib.hid e
      clear e
      obtain ⟨⟨c0, c1, c2⟩, -⟩ := PB.out
      obtain ⟨⟨d0, d1, d2⟩, -⟩ := CB.out
      go_wp2_with fail
      refine Calls.mono (sameCalls_e Pa y.u.length Pi Pb y.d.length Pj Pc y.c.length Pk a1 n1 k1 a2 n2 k2 a3 n3 k3 y x _ (OwnC.cal P.out) X.out m1 m2 m3 E1.out) ?_
      intro e wn hh
      obtain ⟨he, hb⟩ := (by first | exact hh | exact Ro.mk hh | exact St.mk hh | exact LawOk.mk' hh : Mk _ _ e wn)
      subst he
      have Tn : Hid (Below w.heap.size w wn) := below_next T.out hb
      have Xn : Hid _ := Cal.below X.out hb
      have CBn : Hid _ := Bx.below CB.out hb
      have Pn : Hid _ := OwnC.below P.out hb
      have PBn : Hid _ := Bx.below PB.out hb
      have Gn : Hid _ := OwnC.below G.out hb
      have GBn : Hid _ := Bx.below GB.out hb
      clear hb hh c0 c1 c2 d0 d1 d2
      clear T X CB P PB G GB
      have T := Tn
      have X := Xn
      have CB := CBn
      have P := Pn
      have PB := PBn
      have G := Gn
      have GB := GBn
      clear Tn Xn CBn Pn PBn Gn GBn
      go_wp2_with fail
      refine Calls.mono (alive_c _) ?_
      intro e wn hh
      obtain ⟨he, hb⟩ := (by first | exact hh | exact Ro.mk hh | exact St.mk hh | exact LawOk.mk' hh : Mk _ _ e wn)
      subst he
      have Tn : Hid (Below w.heap.size w wn) := below_next T.out hb
      have Xn : Hid _ := Cal.below X.out hb
      have CBn : Hid _ := Bx.below CB.out hb
      have Pn : Hid _ := OwnC.below P.out hb
      have PBn : Hid _ := Bx.below PB.out hb
      have Gn : Hid _ := OwnC.below G.out hb
      have GBn : Hid _ := Bx.below GB.out hb
      clear hb hh
      clear T X CB P PB G GB
      have T := Tn
      have X := Xn
      have CB := CBn
      have P := Pn
      have PB := PBn
      have G := Gn
      have GB := GBn
      clear Tn Xn CBn Pn PBn Gn GBn
      go_wp2_with fail
      go_ret
      first | exact LawOk.mk T.out | exact LawOk.mk (Below.dr T.out _)
    · have t0 : ((y.c.length : Int) == 0) = true := by rw [beq_iff_eq]; omega
      have E1 := Lib.hid e
      clear e hl
      obtain ⟨⟨c0, c1, c2⟩, -⟩ := PB.out
      obtain ⟨⟨d0, d1, d2⟩, -⟩ := CB.out
      go_wp2_with fail
      refine Calls.mono (sameCalls_f Pa y.u.length Pi Pb y.d.length Pj Pc y.c.length Pk a1 n1 k1 a2 n2 k2 a3 n3 k3 y x _ (OwnC.cal P.out) X.out m1 m2 m3 E1.out) ?_
      intro e wn hh
      obtain ⟨he, hb⟩ := (by first | exact hh | exact Ro.mk hh | exact St.mk hh | exact LawOk.mk' hh : Mk _ _ e wn)
      subst he
      have Tn : Hid (Below w.heap.size w wn) := below_next T.out hb
      have Xn : Hid _ := Cal.below X.out hb
      have CBn : Hid _ := Bx.below CB.out hb
      have Pn : Hid _ := OwnC.below P.out hb
      have PBn : Hid _ := Bx.below PB.out hb
      have Gn : Hid _ := OwnC.below G.out hb
      have GBn : Hid _ := Bx.below GB.out hb
      clear hb hh c0 c1 c2 d0 d1 d2
      clear T X CB P PB G GB
      have T := Tn
      have X := Xn
      have CB := CBn
      have P := Pn
      have PB := PBn
      have G := Gn
      have GB := GBn
      clear Tn Xn CBn Pn PBn Gn GBn
      obtain ⟨⟨c0, c1, c2⟩, -⟩ := PB.out
      go_wp2_with fail
      refine Calls.mono (alive_c _) ?_
      intro e wn hh
      obtain ⟨he, hb⟩ := (by first | exact hh | exact Ro.mk hh | exact St.mk hh | exact LawOk.mk' hh : Mk _ _ e wn)
      subst he
      have Tn : Hid (Below w.heap.size w wn) := below_next T.out hb
      have Xn : Hid _ := Cal.below X.out hb
      have CBn : Hid _ := Bx.below CB.out hb
      have Pn : Hid _ := OwnC.below P.out hb
      have PBn : Hid _ := Bx.below PB.out hb
      have Gn : Hid _ := OwnC.below G.out hb
      have GBn : Hid _ := Bx.below GB.out hb
      clear hb hh c0 c1 c2
      clear T X CB P PB G GB
      have T := Tn
      have X := Xn
      have CB := CBn
      have P := Pn
      have PB := PBn
      have G := Gn
      have GB := GBn
      clear Tn Xn CBn Pn PBn Gn GBn
      go_wp2_with fail
      go_ret
      first | exact LawOk.mk T.out | exact LawOk.mk (Below.dr T.out _)
  have hv := hs.1
  have hyv := hs.2.2
  obtain ⟨hsO, eO, E, D⟩ := set_again hs
  have hz0 := cput_len x k f.toNat false
  have hy0 := cput_len x k f.toNat b
  have hz1 := cst_len (cput x k f.toNat b) k f true
  have KO := fun (w' : World) (p1 p2 p3 : Option Addr) (m1 m2 m3 j1 j2 j3 : Nat) (h : Cal w' p1 m1 p2 m2 p3 m3 (cput x k f.toNat b)) => iCallSet_c p1 m1 j1 p2 m2 j2 p3 m3 j3 (cput x k f.toNat b) k f false w' h
  have KN := fun (w' : World) (p1 p2 p3 : Option Addr) (m1 m2 m3 j1 j2 j3 : Nat) (h : Cal w' p1 m1 p2 m2 p3 m3 (cput x k f.toNat b)) => iCallSet_c p1 m1 j1 p2 m2 j2 p3 m3 j3 (cput x k f.toNat b) k f true w' h
  have KM := fun (w' : World) (p1 p2 p3 : Option Addr) (m1 m2 m3 j1 j2 j3 : Nat) (h : Cal w' p1 m1 p2 m2 p3 m3 (cput x k f.toNat b)) => iCallsMany_c p1 m1 j1 p2 m2 j2 p3 m3 j3 (cput x k f.toNat b) w' h
  have KX := fun (w' : World) (h : Cal w' a1 n1 a2 n2 a3 n3 x) => iCallsMany_c a1 n1 k1 a2 n2 k2 a3 n3 k3 x w' h
  have KV := fun (w' : World) (p1 p2 p3 : Option Addr) (m1 m2 m3 j1 j2 j3 : Nat) (h : Cal w' p1 m1 p2 m2 p3 m3 (cput x k f.toNat b)) => iCallsValid_c p1 m1 j1 p2 m2 j2 p3 m3 j3 (cput x k f.toNat b) w' h
  rw [cvB_t hyv] at KV
  rw [cstB_t hs, cst_t hs] at KI KS
  rw [cstB_t hsO, cst_t hsO, eO] at KO
  have bp := cm_bd (cput x k f.toNat b)
  have bx := cm_bd x
  clear hsO eO hyv hv hs y1 y2 y3
  obtain ⟨z1, e1⟩ : ∃ z1, cst (cput x k f.toNat b) k f true = z1 := ⟨_, rfl⟩
  obtain ⟨tb, e2⟩ : ∃ tb, cstB (cput x k f.toNat b) k f true = tb := ⟨_, rfl⟩
  rw [e1] at KN E hz1
  rw [e2] at KN E
  clear e1 e2
  obtain ⟨z0, e0⟩ : ∃ z0, cput x k f.toNat false = z0 := ⟨_, rfl⟩
  rw [e0] at KO E hz0
  clear e0
  obtain ⟨y, e0⟩ : ∃ y, cput x k f.toNat b = y := ⟨_, rfl⟩
  rw [e0] at KO KN KM KV KI KS E D hy0 hz1 bp
  clear e0
  obtain ⟨p, e0⟩ : ∃ p, cm y = p := ⟨_, rfl⟩
  rw [e0] at KM D bp
  clear e0
  obtain ⟨q, e0⟩ : ∃ q, cm x = q := ⟨_, rfl⟩
  rw [e0] at KX D bx
  clear e0
  obtain ⟨D1, D2⟩ := D
  obtain ⟨p0, p1⟩ := bp
  obtain ⟨q0, q1⟩ := bx
  have m1 : y.u.length ≤ 1048577 := by omega
  have m2 : y.d.length ≤ 1048577 := by omega
  have m3 : y.c.length ≤ 1048577 := by omega
  have m4 : z0.u.length ≤ 1048577 := by omega
  have m5 : z0.d.length ≤ 1048577 := by omega
  have m6 : z0.c.length ≤ 1048577 := by omega
  have m7 : z1.u.length ≤ 1048577 := by omega
  have m8 : z1.d.length ≤ 1048577 := by omega
  have m9 : z1.c.length ≤ 1048577 := by omega
  have HKI := Lib.hid KI
  have HKS := Lib.hid KS
  have HKO := Lib.hid KO
  have HKN := Lib.hid KN
  have HKM := Lib.hid KM
  have HKX := Lib.hid KX
  have HKV := Lib.hid KV
  have HE := Lib.hid E
  clear KI KS KO KN KM KX KV E hz0 hy0 hz1 x1 x2 x3 l1 l2 l3
  go_wp2_with fail
  rw [HHC.out]
  refine Calls.mono (HKI.out _ X.out) ?_
  intro e wn hh
  obtain ⟨v1, v2, v3, loP, hiP, rfl, hO, hb, hlo, hhi⟩ := NewC.get hh
  have hTP : w.heap.size ≤ loP := by rw [← hlo]; exact T.out.size
  have hltCBP := Bx.lt CB.out
  rw [hlo] at hltCBP
  have hlhP : loP ≤ hiP := by rw [← hlo, ← hhi]; exact hb.size
  obtain ⟨Pa, Pi, Pb, Pj, Pc, Pk, rfl, rfl, rfl, -⟩ := OwnC.open hO
  have Tn := Lib.hid (below_next T.out hb)
  have Xn := Lib.hid (Cal.below X.out hb)
  have CBn := Lib.hid (Bx.below CB.out hb)
  have P := Lib.hid hO
  clear hb hO hh hlo hhi
  clear T X CB
  have T := Tn
  have X := Xn
  have CB := CBn
  clear Tn Xn CBn
  have hltCBHP := Bx.lt CB.out
  have hltPHP := P.out.2.2.1
  have hWHP := T.out.size
  obtain ⟨HP, hHP⟩ : ∃ HP, Array.size (World.heap wn) = HP := ⟨_, rfl⟩
  have HHP : Hid _ := hHP
  rw [hHP] at hWHP hltCBHP hltPHP
  have PB : Hid (Bx (wn.alloc (.cells #[.slice Pa y.u.length Pi, .slice Pb y.d.length Pj, .slice Pc y.c.length Pk] 25)) HP (.slice Pa y.u.length Pi) (.slice Pb y.d.length Pj) (.slice Pc y.c.length Pk)) := by rw [← hHP]; exact Bx.new _ _ _ _ _
  clear hHP
  have Tn : Hid (Below w.heap.size w _) := Below.al T.out (.cells #[.slice Pa y.u.length Pi, .slice Pb y.d.length Pj, .slice Pc y.c.length Pk] 25)
  have Xn : Hid _ := Cal.below X.out ((Below.refl _ _).alloc (Nat.le_refl _) (.cells #[.slice Pa y.u.length Pi, .slice Pb y.d.length Pj, .slice Pc y.c.length Pk] 25))
  have CBn : Hid _ := Bx.below CB.out ((Below.refl _ _).alloc (Nat.le_refl _) (.cells #[.slice Pa y.u.length Pi, .slice Pb y.d.length Pj, .slice Pc y.c.length Pk] 25))
  have Pn : Hid _ := OwnC.below P.out ((Below.refl _ _).alloc (Nat.le_refl _) (.cells #[.slice Pa y.u.length Pi, .slice Pb y.d.length Pj, .slice Pc y.c.length Pk] 25))
  clear T X CB P
  have T := Tn
  have X := Xn
  have CB := CBn
  have P := Pn
  clear Tn Xn CBn Pn
  obtain ⟨⟨c0, c1, c2⟩, -⟩ := CB.out
  go_wp2_with fail
  rw [HHP.out]
  refine Calls.mono (HKS.out _ X.out) ?_
  intro e wn hh
  obtain ⟨v1, v2, v3, loG, hiG, rfl, hO, hb, hlo, hhi⟩ := NewC.get hh
  have hTG : w.heap.size ≤ loG := by rw [← hlo]; exact T.out.size
  have hltCBG := Bx.lt CB.out
  rw [hlo] at hltCBG
  have hhPG := P.out.2.2.1
  rw [hlo] at hhPG
  have hltPBG := Bx.lt PB.out
  rw [hlo] at hltPBG
  have hlhG : loG ≤ hiG := by rw [← hlo, ← hhi]; exact hb.size
  obtain ⟨Ga, Gi, Gb, Gj, Gc, Gk, rfl, rfl, rfl, -⟩ := OwnC.open hO
  have Tn := Lib.hid (below_next T.out hb)
  have Xn := Lib.hid (Cal.below X.out hb)
  have CBn := Lib.hid (Bx.below CB.out hb)
  have Pn := Lib.hid (OwnC.below P.out hb)
  have PBn := Lib.hid (Bx.below PB.out hb)
  have G := Lib.hid hO
  clear hb hO hh hlo hhi c0 c1 c2
  clear T X CB P PB
  have T := Tn
  have X := Xn
  have CB := CBn
  have P := Pn
  have PB := PBn
  clear Tn Xn CBn Pn PBn
  have hltCBHG := Bx.lt CB.out
  have hltPHG := P.out.2.2.1
  have hltPBHG := Bx.lt PB.out
  have hltGHG := G.out.2.2.1
  have hWHG := T.out.size
  obtain ⟨HG, hHG⟩ : ∃ HG, Array.size (World.heap wn) = HG := ⟨_, rfl⟩
  have HHG : Hid _ := hHG
  rw [hHG] at hWHG hltCBHG hltPHG hltPBHG hltGHG
  have GB : Hid (Bx (wn.alloc (.cells #[.slice Ga y.u.length Gi, .slice Gb y.d.length Gj, .slice Gc y.c.length Gk] 25)) HG (.slice Ga y.u.length Gi) (.slice Gb y.d.length Gj) (.slice Gc y.c.length Gk)) := by rw [← hHG]; exact Bx.new _ _ _ _ _
  clear hHG
  have Tn : Hid (Below w.heap.size w _) := Below.al T.out (.cells #[.slice Ga y.u.length Gi, .slice Gb y.d.length Gj, .slice Gc y.c.length Gk] 25)
  have Xn : Hid _ := Cal.below X.out ((Below.refl _ _).alloc (Nat.le_refl _) (.cells #[.slice Ga y.u.length Gi, .slice Gb y.d.length Gj, .slice Gc y.c.length Gk] 25))
  have CBn : Hid _ := Bx.below CB.out ((Below.refl _ _).alloc (Nat.le_refl _) (.cells #[.slice Ga y.u.length Gi, .slice Gb y.d.length Gj, .slice Gc y.c.length Gk] 25))
  have Pn : Hid _ := OwnC.below P.out ((Below.refl _ _).alloc (Nat.le_refl _) (.cells #[.slice Ga y.u.length Gi, .slice Gb y.d.length Gj, .slice Gc y.c.length Gk] 25))
  have PBn : Hid _ := Bx.below PB.out ((Below.refl _ _).alloc (Nat.le_refl _) (.cells #[.slice Ga y.u.length Gi, .slice Gb y.d.length Gj, .slice Gc y.c.length Gk] 25))
  have Gn : Hid _ := OwnC.below G.out ((Below.refl _ _).alloc (Nat.le_refl _) (.cells #[.slice Ga y.u.length Gi, .slice Gb y.d.length Gj, .slice Gc y.c.length Gk] 25))
  clear T X CB P PB G
  have T := Tn
  have X := Xn
  have CB := CBn
  have P := Pn
  have PB := PBn
  have G := Gn
  clear Tn Xn CBn Pn PBn Gn
  obtain ⟨⟨c0, c1, c2⟩, -⟩ := PB.out
  obtain ⟨⟨d0, d1, d2⟩, -⟩ := GB.out
  go_wp2_with fail
  rw [HHG.out]
  refine Calls.mono (sameCalls_t Pa y.u.length Pi Pb y.d.length Pj Pc y.c.length Pk Ga y.u.length Gi Gb y.d.length Gj Gc y.c.length Gk y _ (OwnC.cal P.out) (OwnC.cal G.out) m1 m2 m3) ?_
  intro e wn hh
  obtain ⟨he, hb⟩ := (by first | exact hh | exact Ro.mk hh | exact St.mk hh | exact LawOk.mk' hh : Mk _ _ e wn)
  subst he
  have Tn : Hid (Below w.heap.size w wn) := below_next T.out hb
  have Xn : Hid _ := Cal.below X.out hb
  have CBn : Hid _ := Bx.below CB.out hb
  have Pn : Hid _ := OwnC.below P.out hb
  have PBn : Hid _ := Bx.below PB.out hb
  have Gn : Hid _ := OwnC.below G.out hb
  have GBn : Hid _ := Bx.below GB.out hb
  clear hb hh c0 c1 c2 d0 d1 d2
  clear T X CB P PB G GB
  have T := Tn
  have X := Xn
  have CB := CBn
  have P := Pn
  have PB := PBn
  have G := Gn
  have GB := GBn
  clear Tn Xn CBn Pn PBn Gn GBn
  clear HKI HKS
  clear G GB
  obtain ⟨⟨c0, c1, c2⟩, -⟩ := PB.out
  go_wp2_with fail
  refine Calls.mono (HKO.out _ _ _ _ _ _ _ _ _ _ (OwnC.cal P.out)) ?_
  intro e wn hh
  obtain ⟨v1, v2, v3, loO, hiO, rfl, hO, hb, hlo, hhi⟩ := NewC.get hh
  have hTO : w.heap.size ≤ loO := by rw [← hlo]; exact T.out.size
  have hltCBO := Bx.lt CB.out
  rw [hlo] at hltCBO
  have hhPO := P.out.2.2.1
  rw [hlo] at hhPO
  have hltPBO := Bx.lt PB.out
  rw [hlo] at hltPBO
  have hlhO : loO ≤ hiO := by rw [← hlo, ← hhi]; exact hb.size
  obtain ⟨Oa, Oi, Ob, Oj, Oc, Ok, rfl, rfl, rfl, -⟩ := OwnC.open hO
  have Tn := Lib.hid (below_next T.out hb)
  have Xn := Lib.hid (Cal.below X.out hb)
  have CBn := Lib.hid (Bx.below CB.out hb)
  have Pn := Lib.hid (OwnC.below P.out hb)
  have PBn := Lib.hid (Bx.below PB.out hb)
  have O := Lib.hid hO
  clear hb hO hh hlo hhi c0 c1 c2
  clear T X CB P PB
  have T := Tn
  have X := Xn
  have CB := CBn
  have P := Pn
  have PB := PBn
  clear Tn Xn CBn Pn PBn
  have hltCBHO := Bx.lt CB.out
  have hltPHO := P.out.2.2.1
  have hltPBHO := Bx.lt PB.out
  have hltOHO := O.out.2.2.1
  have hWHO := T.out.size
  obtain ⟨HO, hHO⟩ : ∃ HO, Array.size (World.heap wn) = HO := ⟨_, rfl⟩
  have HHO : Hid _ := hHO
  rw [hHO] at hWHO hltCBHO hltPHO hltPBHO hltOHO
  have OB : Hid (Bx (wn.alloc (.cells #[.slice Oa z0.u.length Oi, .slice Ob z0.d.length Oj, .slice Oc z0.c.length Ok] 25)) HO (.slice Oa z0.u.length Oi) (.slice Ob z0.d.length Oj) (.slice Oc z0.c.length Ok)) := by rw [← hHO]; exact Bx.new _ _ _ _ _
  clear hHO
  have Tn : Hid (Below w.heap.size w _) := Below.al T.out (.cells #[.slice Oa z0.u.length Oi, .slice Ob z0.d.length Oj, .slice Oc z0.c.length Ok] 25)
  have Xn : Hid _ := Cal.below X.out ((Below.refl _ _).alloc (Nat.le_refl _) (.cells #[.slice Oa z0.u.length Oi, .slice Ob z0.d.length Oj, .slice Oc z0.c.length Ok] 25))
  have CBn : Hid _ := Bx.below CB.out ((Below.refl _ _).alloc (Nat.le_refl _) (.cells #[.slice Oa z0.u.length Oi, .slice Ob z0.d.length Oj, .slice Oc z0.c.length Ok] 25))
  have Pn : Hid _ := OwnC.below P.out ((Below.refl _ _).alloc (Nat.le_refl _) (.cells #[.slice Oa z0.u.length Oi, .slice Ob z0.d.length Oj, .slice Oc z0.c.length Ok] 25))
  have PBn : Hid _ := Bx.below PB.out ((Below.refl _ _).alloc (Nat.le_refl _) (.cells #[.slice Oa z0.u.length Oi, .slice Ob z0.d.length Oj, .slice Oc z0.c.length Ok] 25))
  have On : Hid _ := OwnC.below O.out ((Below.refl _ _).alloc (Nat.le_refl _) (.cells #[.slice Oa z0.u.length Oi, .slice Ob z0.d.length Oj, .slice Oc z0.c.length Ok] 25))
  clear T X CB P PB O
  have T := Tn
  have X := Xn
  have CB := CBn
  have P := Pn
  have PB := PBn
  have O := On
  clear Tn Xn CBn Pn PBn On
  obtain ⟨⟨c0, c1, c2⟩, -⟩ := PB.out
  go_wp2_with fail
  rw [HHO.out]
  refine Calls.mono (HKN.out _ _ _ _ _ _ _ _ _ _ (OwnC.cal P.out)) ?_
  intro e wn hh
  obtain ⟨v1, v2, v3, loN, hiN, rfl, hO, hb, hlo, hhi⟩ := NewC.get hh
  have hTN : w.heap.size ≤ loN := by rw [← hlo]; exact T.out.size
  have hltCBN := Bx.lt CB.out
  rw [hlo] at hltCBN
  have hhPN := P.out.2.2.1
  rw [hlo] at hhPN
  have hltPBN := Bx.lt PB.out
  rw [hlo] at hltPBN
  have hhON := O.out.2.2.1
  rw [hlo] at hhON
  have hltOBN := Bx.lt OB.out
  rw [hlo] at hltOBN
  have hlhN : loN ≤ hiN := by rw [← hlo, ← hhi]; exact hb.size
  obtain ⟨Na, Ni, Nb, Nj, Nc, Nk, rfl, rfl, rfl, -⟩ := OwnC.open hO
  have Tn := Lib.hid (below_next T.out hb)
  have Xn := Lib.hid (Cal.below X.out hb)
  have CBn := Lib.hid (Bx.below CB.out hb)
  have Pn := Lib.hid (OwnC.below P.out hb)
  have PBn := Lib.hid (Bx.below PB.out hb)
  have On := Lib.hid (OwnC.below O.out hb)
  have OBn := Lib.hid (Bx.below OB.out hb)
  have N := Lib.hid hO
  clear hb hO hh hlo hhi c0 c1 c2
  clear T X CB P PB O OB
  have T := Tn
  have X := Xn
  have CB := CBn
  have P := Pn
  have PB := PBn
  have O := On
  have OB := OBn
  clear Tn Xn CBn Pn PBn On OBn
  have hltCBHN := Bx.lt CB.out
  have hltPHN := P.out.2.2.1
  have hltPBHN := Bx.lt PB.out
  have hltOHN := O.out.2.2.1
  have hltOBHN := Bx.lt OB.out
  have hltNHN := N.out.2.2.1
  have hWHN := T.out.size
  obtain ⟨HN, hHN⟩ : ∃ HN, Array.size (World.heap wn) = HN := ⟨_, rfl⟩
  have HHN : Hid _ := hHN
  rw [hHN] at hWHN hltCBHN hltPHN hltPBHN hltOHN hltOBHN hltNHN
  have NB : Hid (Bx (wn.alloc (.cells #[.slice Na z1.u.length Ni, .slice Nb z1.d.length Nj, .slice Nc z1.c.length Nk] 25)) HN (.slice Na z1.u.length Ni) (.slice Nb z1.d.length Nj) (.slice Nc z1.c.length Nk)) := by rw [← hHN]; exact Bx.new _ _ _ _ _
  clear hHN
  have Tn : Hid (Below w.heap.size w _) := Below.al T.out (.cells #[.slice Na z1.u.length Ni, .slice Nb z1.d.length Nj, .slice Nc z1.c.length Nk] 25)
  have Xn : Hid _ := Cal.below X.out ((Below.refl _ _).alloc (Nat.le_refl _) (.cells #[.slice Na z1.u.length Ni, .slice Nb z1.d.length Nj, .slice Nc z1.c.length Nk] 25))
  have CBn : Hid _ := Bx.below CB.out ((Below.refl _ _).alloc (Nat.le_refl _) (.cells #[.slice Na z1.u.length Ni, .slice Nb z1.d.length Nj, .slice Nc z1.c.length Nk] 25))
  have Pn : Hid _ := OwnC.below P.out ((Below.refl _ _).alloc (Nat.le_refl _) (.cells #[.slice Na z1.u.length Ni, .slice Nb z1.d.length Nj, .slice Nc z1.c.length Nk] 25))
  have PBn : Hid _ := Bx.below PB.out ((Below.refl _ _).alloc (Nat.le_refl _) (.cells #[.slice Na z1.u.length Ni, .slice Nb z1.d.length Nj, .slice Nc z1.c.length Nk] 25))
  have On : Hid _ := OwnC.below O.out ((Below.refl _ _).alloc (Nat.le_refl _) (.cells #[.slice Na z1.u.length Ni, .slice Nb z1.d.length Nj, .slice Nc z1.c.length Nk] 25))
  have OBn : Hid _ := Bx.below OB.out ((Below.refl _ _).alloc (Nat.le_refl _) (.cells #[.slice Na z1.u.length Ni, .slice Nb z1.d.length Nj, .slice Nc z1.c.length Nk] 25))
  have Nn : Hid _ := OwnC.below N.out ((Below.refl _ _).alloc (Nat.le_refl _) (.cells #[.slice Na z1.u.length Ni, .slice Nb z1.d.length Nj, .slice Nc z1.c.length Nk] 25))
  clear T X CB P PB O OB N
  have T := Tn
  have X := Xn
  have CB := CBn
  have P := Pn
  have PB := PBn
  have O := On
  have OB := OBn
  have N := Nn
  clear Tn Xn CBn Pn PBn On OBn Nn
  go_wp2_with fail
  rw [HHN.out]
  clear HKO HKN
  generalize wn.alloc (.cells #[.slice Na z1.u.length Ni, .slice Nb z1.d.length Nj, .slice Nc z1.c.length Nk] 25) = w0 at *
  refine wp_region_quiet (C := fun w' => Below (World.heap (w0)).size (w0) w') (by kernel_rfl) (by kernel_rfl) (by first | exact ⟨rfl, rfl, rfl, Nat.le_refl _, fun _ _ => rfl⟩ | exact Below.dw (by repeat (first | exact Below.refl _ _ | refine Below.al ?_ _ | refine Below.dr ?_ _ | refine Below.dw ?_ | refine Below.st ?_ (by first | exact Nat.le_refl _ | exact Nat.le_add_right _ _ | (simp; omega)) _ | (refine below_next ?_ (by assumption))))) ?_
  simp only []
  repeat (go_big_quiet_step (first | (intro _; with_reducible exact rfl) | (intro hC; go_at_call 20; obtain ⟨⟨c0, c1, c2⟩, -⟩ := Bx.below PB.out hC; obtain ⟨⟨d0, d1, d2⟩, -⟩ := Bx.below CB.out hC; have ZY := Lib.hid (HKM.out _ _ _ _ _ _ _ Pi Pj Pk (OwnC.cal (OwnC.below P.out hC))); have ZX := Lib.hid (HKX.out _ (Cal.below X.out hC)); (with_reducible refine Calls.mono (ZY.out) ?_); (first | (rintro e wx ⟨rfl, hb⟩; exact ⟨rfl, below_next hC hb⟩) | (rintro e wx ⟨rfl, n, rfl⟩; exact ⟨rfl, Below.dr hC n⟩) | (rintro e wx ⟨rfl, rfl⟩; exact ⟨rfl, hC⟩))) | (intro hC; go_at_call 20; obtain ⟨⟨c0, c1, c2⟩, -⟩ := Bx.below PB.out hC; obtain ⟨⟨d0, d1, d2⟩, -⟩ := Bx.below CB.out hC; have ZY := Lib.hid (HKM.out _ _ _ _ _ _ _ Pi Pj Pk (OwnC.cal (OwnC.below P.out hC))); have ZX := Lib.hid (HKX.out _ (Cal.below X.out hC)); (with_reducible refine Calls.mono (ZX.out) ?_); (first | (rintro e wx ⟨rfl, hb⟩; exact ⟨rfl, below_next hC hb⟩) | (rintro e wx ⟨rfl, n, rfl⟩; exact ⟨rfl, Below.dr hC n⟩) | (rintro e wx ⟨rfl, rfl⟩; exact ⟨rfl, hC⟩))) | (intro hC; obtain ⟨⟨c0, c1, c2⟩, -⟩ := Bx.below PB.out hC; obtain ⟨⟨d0, d1, d2⟩, -⟩ := Bx.below CB.out hC; have ZY := Lib.hid (HKM.out _ _ _ _ _ _ _ Pi Pj Pk (OwnC.cal (OwnC.below P.out hC))); have ZX := Lib.hid (HKX.out _ (Cal.below X.out hC)); go_simp; rfl)))
  refine wpQuiet_nil ?_
  intro wq hq
  have Tn := Lib.hid (below_next T.out hq)
  have Xn := Lib.hid (Cal.below X.out hq)
  have CBn := Lib.hid (Bx.below CB.out hq)
  have Pn := Lib.hid (OwnC.below P.out hq)
  have PBn := Lib.hid (Bx.below PB.out hq)
  have On := Lib.hid (OwnC.below O.out hq)
  have OBn := Lib.hid (Bx.below OB.out hq)
  have Nn := Lib.hid (OwnC.below N.out hq)
  have NBn := Lib.hid (Bx.below NB.out hq)
  clear hq
  clear T X CB P PB O OB N NB
  have T := Tn
  have X := Xn
  have CB := CBn
  have P := Pn
  have PB := PBn
  have O := On
  have OB := OBn
  have N := Nn
  have NB := NBn
  clear Tn Xn CBn Pn PBn On OBn Nn NBn
  obtain ⟨wn, hwq⟩ : ∃ w0, w0 = wq := ⟨_, rfl⟩
  subst hwq
  clear HKM HKX
  obtain ⟨⟨c0, c1, c2⟩, -⟩ := PB.out
  go_wp2_with fail
  refine Calls.mono (HKV.out _ _ _ _ _ _ _ _ _ _ (OwnC.cal P.out)) ?_
  intro e wn hh
  obtain ⟨he, hb⟩ := (by first | exact hh | exact Ro.mk hh | exact St.mk hh | exact LawOk.mk' hh : Mk _ _ e wn)
  subst he
  have Tn : Hid (Below w.heap.size w wn) := below_next T.out hb
  have Xn : Hid _ := Cal.below X.out hb
  have CBn : Hid _ := Bx.below CB.out hb
  have Pn : Hid _ := OwnC.below P.out hb
  have PBn : Hid _ := Bx.below PB.out hb
  have On : Hid _ := OwnC.below O.out hb
  have OBn : Hid _ := Bx.below OB.out hb
  have Nn : Hid _ := OwnC.below N.out hb
  have NBn : Hid _ := Bx.below NB.out hb
  clear hb hh c0 c1 c2
  clear T X CB P PB O OB N NB
  have T := Tn
  have X := Xn
  have CB := CBn
  have P := Pn
  have PB := PBn
  have O := On
  have OB := OBn
  have N := Nn
  have NB := NBn
  clear Tn Xn CBn Pn PBn On OBn Nn NBn
  rcases HE.out with ⟨rfl, rfl, ey, e | ⟨e, e'⟩⟩ | ⟨rfl, ey, rfl | ⟨rfl, e | ⟨e, e'⟩⟩⟩
  · skip
    have Ee := Lib.hid e
    clear e
    have Eey := Lib.hid ey
    clear ey
    obtain ⟨⟨c0, c1, c2⟩, -⟩ := NB.out
    obtain ⟨⟨d0, d1, d2⟩, -⟩ := CB.out
    go_wp2_with fail
    refine Calls.mono (sameCalls_e Na z1.u.length Ni Nb z1.d.length Nj Nc z1.c.length Nk a1 n1 k1 a2 n2 k2 a3 n3 k3 z1 x _ (OwnC.cal N.out) X.out m7 m8 m9 Ee.out) ?_
    intro e wn hh
    obtain ⟨he, hb⟩ := (by first | exact hh | exact Ro.mk hh | exact St.mk hh | exact LawOk.mk' hh : Mk _ _ e wn)
    subst he
    have Tn : Hid (Below w.heap.size w wn) := below_next T.out hb
    have Xn : Hid _ := Cal.below X.out hb
    have CBn : Hid _ := Bx.below CB.out hb
    have Pn : Hid _ := OwnC.below P.out hb
    have PBn : Hid _ := Bx.below PB.out hb
    have On : Hid _ := OwnC.below O.out hb
    have OBn : Hid _ := Bx.below OB.out hb
    have Nn : Hid _ := OwnC.below N.out hb
    have NBn : Hid _ := Bx.below NB.out hb
    clear hb hh c0 c1 c2 d0 d1 d2
    clear T X CB P PB O OB N NB
    have T := Tn
    have X := Xn
    have CB := CBn
    have P := Pn
    have PB := PBn
    have O := On
    have OB := OBn
    have N := Nn
    have NB := NBn
    clear Tn Xn CBn Pn PBn On OBn Nn NBn
    obtain ⟨⟨c0, c1, c2⟩, -⟩ := NB.out
    obtain ⟨⟨d0, d1, d2⟩, -⟩ := PB.out
    go_wp2_with fail
    refine Calls.mono (sameCalls_e Na z1.u.length Ni Nb z1.d.length Nj Nc z1.c.length Nk Pa y.u.length Pi Pb y.d.length Pj Pc y.c.length Pk z1 y _ (OwnC.cal N.out) (OwnC.cal P.out) m7 m8 m9 Eey.out) ?_
    intro e wn hh
    obtain ⟨he, hb⟩ := (by first | exact hh | exact Ro.mk hh | exact St.mk hh | exact LawOk.mk' hh : Mk _ _ e wn)
    subst he
    have Tn : Hid (Below w.heap.size w wn) := below_next T.out hb
    have Xn : Hid _ := Cal.below X.out hb
    have CBn : Hid _ := Bx.below CB.out hb
    have Pn : Hid _ := OwnC.below P.out hb
    have PBn : Hid _ := Bx.below PB.out hb
    have On : Hid _ := OwnC.below O.out hb
    have OBn : Hid _ := Bx.below OB.out hb
    have Nn : Hid _ := OwnC.below N.out hb
    have NBn : Hid _ := Bx.below NB.out hb
    clear hb hh c0 c1 c2 d0 d1 d2
    clear T X CB P PB O OB N NB
    have T := Tn
    have X := Xn
    have CB := CBn
    have P := Pn
    have PB := PBn
    have O := On
    have OB := OBn
    have N := Nn
    have NB := NBn
    clear Tn Xn CBn Pn PBn On OBn Nn NBn
    go_wp2_with fail
    go_ret
    first | exact LawOk.mk T.out | exact LawOk.mk (Below.dr T.out _)
  · skip
    have Ee := Lib.hid e
    clear e
    have Ee2 := Lib.hid e'
    clear e'
    have Eey := Lib.hid ey
    clear ey
    obtain ⟨⟨c0, c1, c2⟩, -⟩ := NB.out
    obtain ⟨⟨d0, d1, d2⟩, -⟩ := CB.out
    go_wp2_with fail
    refine Calls.mono (sameCalls_f Na z1.u.length Ni Nb z1.d.length Nj Nc z1.c.length Nk a1 n1 k1 a2 n2 k2 a3 n3 k3 z1 x _ (OwnC.cal N.out) X.out m7 m8 m9 Ee.out) ?_
    intro e wn hh
    obtain ⟨he, hb⟩ := (by first | exact hh | exact Ro.mk hh | exact St.mk hh | exact LawOk.mk' hh : Mk _ _ e wn)
    subst he
    have Tn : Hid (Below w.heap.size w wn) := below_next T.out hb
    have Xn : Hid _ := Cal.below X.out hb
    have CBn : Hid _ := Bx.below CB.out hb
    have Pn : Hid _ := OwnC.below P.out hb
    have PBn : Hid _ := Bx.below PB.out hb
    have On : Hid _ := OwnC.below O.out hb
    have OBn : Hid _ := Bx.below OB.out hb
    have Nn : Hid _ := OwnC.below N.out hb
    have NBn : Hid _ := Bx.below NB.out hb
    clear hb hh c0 c1 c2 d0 d1 d2
    clear T X CB P PB O OB N NB
    have T := Tn
    have X := Xn
    have CB := CBn
    have P := Pn
    have PB := PBn
    have O := On
    have OB := OBn
    have N := Nn
    have NB := NBn
    clear Tn Xn CBn Pn PBn On OBn Nn NBn
    obtain ⟨⟨c0, c1, c2⟩, -⟩ := OB.out
    obtain ⟨⟨d0, d1, d2⟩, -⟩ := CB.out
    go_wp2_with fail
    refine Calls.mono (sameCalls_e Oa z0.u.length Oi Ob z0.d.length Oj Oc z0.c.length Ok a1 n1 k1 a2 n2 k2 a3 n3 k3 z0 x _ (OwnC.cal O.out) X.out m4 m5 m6 Ee2.out) ?_
    intro e wn hh
    obtain ⟨he, hb⟩ := (by first | exact hh | exact Ro.mk hh | exact St.mk hh | exact LawOk.mk' hh : Mk _ _ e wn)
    subst he
    have Tn : Hid (Below w.heap.size w wn) := below_next T.out hb
    have Xn : Hid _ := Cal.below X.out hb
    have CBn : Hid _ := Bx.below CB.out hb
    have Pn : Hid _ := OwnC.below P.out hb
    have PBn : Hid _ := Bx.below PB.out hb
    have On : Hid _ := OwnC.below O.out hb
    have OBn : Hid _ := Bx.below OB.out hb
    have Nn : Hid _ := OwnC.below N.out hb
    have NBn : Hid _ := Bx.below NB.out hb
    clear hb hh c0 c1 c2 d0 d1 d2
    clear T X CB P PB O OB N NB
    have T := Tn
    have X := Xn
    have CB := CBn
    have P := Pn
    have PB := PBn
    have O := On
    have OB := OBn
    have N := Nn
    have NB := NBn
    clear Tn Xn CBn Pn PBn On OBn Nn NBn
    obtain ⟨⟨c0, c1, c2⟩, -⟩ := NB.out
    obtain ⟨⟨d0, d1, d2⟩, -⟩ := PB.out
    go_wp2_with fail
    refine Calls.mono (sameCalls_e Na z1.u.length Ni Nb z1.d.length Nj Nc z1.c.length Nk Pa y.u.length Pi Pb y.d.length Pj Pc y.c.length Pk z1 y _ (OwnC.cal N.out) (OwnC.cal P.out) m7 m8 m9 Eey.out) ?_
    intro e wn hh
    obtain ⟨he, hb⟩ := (by first | exact hh | exact Ro.mk hh | exact St.mk hh | exact LawOk.mk' hh : Mk _ _ e wn)
    subst he
    have Tn : Hid (Below w.heap.size w wn) := below_next T.out hb
    have Xn : Hid _ := Cal.below X.out hb
    have CBn : Hid _ := Bx.below CB.out hb
    have Pn : Hid _ := OwnC.below P.out hb
    have PBn : Hid _ := Bx.below PB.out hb
    have On : Hid _ := OwnC.below O.out hb
    have OBn : Hid _ := Bx.below OB.out hb
    have Nn : Hid _ := OwnC.below N.out hb
    have NBn : Hid _ := Bx.below NB.out hb
    clear hb hh c0 c1 c2 d0 d1 d2
    clear T X CB P PB O OB N NB
    have T := Tn
    have X := Xn
    have CB := CBn
    have P := Pn
    have PB := PBn
    have O := On
    have OB := OBn
    have N := Nn
    have NB := NBn
    clear Tn Xn CBn Pn PBn On OBn Nn NBn
    go_wp2_with fail
    go_ret
    first | exact LawOk.mk T.out | exact LawOk.mk (Below.dr T.out _)
  · skip
    have Eey := Lib.hid ey
    clear ey
    obtain ⟨⟨c0, c1, c2⟩, -⟩ := OB.out
    obtain ⟨⟨d0, d1, d2⟩, -⟩ := PB.out
    go_wp2_with fail
    refine Calls.mono (sameCalls_e Oa z0.u.length Oi Ob z0.d.length Oj Oc z0.c.length Ok Pa y.u.length Pi Pb y.d.length Pj Pc y.c.length Pk z0 y _ (OwnC.cal O.out) (OwnC.cal P.out) m4 m5 m6 Eey.out) ?_
    intro e wn hh
    obtain ⟨he, hb⟩ := (by first | exact hh | exact Ro.mk hh | exact St.mk hh | exact LawOk.mk' hh : Mk _ _ e wn)
    subst he
    have Tn : Hid (Below w.heap.size w wn) := below_next T.out hb
    have Xn : Hid _ := Cal.below X.out hb
    have CBn : Hid _ := Bx.below CB.out hb
    have Pn : Hid _ := OwnC.below P.out hb
    have PBn : Hid _ := Bx.below PB.out hb
    have On : Hid _ := OwnC.below O.out hb
    have OBn : Hid _ := Bx.below OB.out hb
    have Nn : Hid _ := OwnC.below N.out hb
    have NBn : Hid _ := Bx.below NB.out hb
    clear hb hh c0 c1 c2 d0 d1 d2
    clear T X CB P PB O OB N NB
    have T := Tn
    have X := Xn
    have CB := CBn
    have P := Pn
    have PB := PBn
    have O := On
    have OB := OBn
    have N := Nn
    have NB := NBn
    clear Tn Xn CBn Pn PBn On OBn Nn NBn
    go_wp2_with fail
    go_ret
    first | exact LawOk.mk T.out | exact LawOk.mk (Below.dr T.out _)
  · skip
    have Ee := Lib.hid e
    clear e
    have Eey := Lib.hid ey
    clear ey
    obtain ⟨⟨c0, c1, c2⟩, -⟩ := NB.out
    obtain ⟨⟨d0, d1, d2⟩, -⟩ := CB.out
    go_wp2_with fail
    refine Calls.mono (sameCalls_e Na z1.u.length Ni Nb z1.d.length Nj Nc z1.c.length Nk a1 n1 k1 a2 n2 k2 a3 n3 k3 z1 x _ (OwnC.cal N.out) X.out m7 m8 m9 Ee.out) ?_
    intro e wn hh
    obtain ⟨he, hb⟩ := (by first | exact hh | exact Ro.mk hh | exact St.mk hh | exact LawOk.mk' hh : Mk _ _ e wn)
    subst he
    have Tn : Hid (Below w.heap.size w wn) := below_next T.out hb
    have Xn : Hid _ := Cal.below X.out hb
    have CBn : Hid _ := Bx.below CB.out hb
    have Pn : Hid _ := OwnC.below P.out hb
    have PBn : Hid _ := Bx.below PB.out hb
    have On : Hid _ := OwnC.below O.out hb
    have OBn : Hid _ := Bx.below OB.out hb
    have Nn : Hid _ := OwnC.below N.out hb
    have NBn : Hid _ := Bx.below NB.out hb
    clear hb hh c0 c1 c2 d0 d1 d2
    clear T X CB P PB O OB N NB
    have T := Tn
    have X := Xn
    have CB := CBn
    have P := Pn
    have PB := PBn
    have O := On
    have OB := OBn
    have N := Nn
    have NB := NBn
    clear Tn Xn CBn Pn PBn On OBn Nn NBn
    obtain ⟨⟨c0, c1, c2⟩, -⟩ := OB.out
    obtain ⟨⟨d0, d1, d2⟩, -⟩ := PB.out
    go_wp2_with fail
    refine Calls.mono (sameCalls_e Oa z0.u.length Oi Ob z0.d.length Oj Oc z0.c.length Ok Pa y.u.length Pi Pb y.d.length Pj Pc y.c.length Pk z0 y _ (OwnC.cal O.out) (OwnC.cal P.out) m4 m5 m6 Eey.out) ?_
    intro e wn hh
    obtain ⟨he, hb⟩ := (by first | exact hh | exact Ro.mk hh | exact St.mk hh | exact LawOk.mk' hh : Mk _ _ e wn)
    subst he
    have Tn : Hid (Below w.heap.size w wn) := below_next T.out hb
    have Xn : Hid _ := Cal.below X.out hb
    have CBn : Hid _ := Bx.below CB.out hb
    have Pn : Hid _ := OwnC.below P.out hb
    have PBn : Hid _ := Bx.below PB.out hb
    have On : Hid _ := OwnC.below O.out hb
    have OBn : Hid _ := Bx.below OB.out hb
    have Nn : Hid _ := OwnC.below N.out hb
    have NBn : Hid _ := Bx.below NB.out hb
    clear hb hh c0 c1 c2 d0 d1 d2
    clear T X CB P PB O OB N NB
    have T := Tn
    have X := Xn
    have CB := CBn
    have P := Pn
    have PB := PBn
    have O := On
    have OB := OBn
    have N := Nn
    have NB := NBn
    clear Tn Xn CBn Pn PBn On OBn Nn NBn
    go_wp2_with fail
    go_ret
    first | exact LawOk.mk T.out | exact LawOk.mk (Below.dr T.out _)
  · skip
    have Ee := Lib.hid e
    clear e
    have Ee2 := Lib.hid e'
    clear e'
    have Eey := Lib.hid ey
    clear ey
    obtain ⟨⟨c0, c1, c2⟩, -⟩ := NB.out
    obtain ⟨⟨d0, d1, d2⟩, -⟩ := CB.out
    go_wp2_with fail
    refine Calls.mono (sameCalls_f Na z1.u.length Ni Nb z1.d.length Nj Nc z1.c.length Nk a1 n1 k1 a2 n2 k2 a3 n3 k3 z1 x _ (OwnC.cal N.out) X.out m7 m8 m9 Ee.out) ?_
    intro e wn hh
    obtain ⟨he, hb⟩ := (by first | exact hh | exact Ro.mk hh | exact St.mk hh | exact LawOk.mk' hh : Mk _ _ e wn)
    subst he
    have Tn : Hid (Below w.heap.size w wn) := below_next T.out hb
    have Xn : Hid _ := Cal.below X.out hb
    have CBn : Hid _ := Bx.below CB.out hb
    have Pn : Hid _ := OwnC.below P.out hb
    have PBn : Hid _ := Bx.below PB.out hb
    have On : Hid _ := OwnC.below O.out hb
    have OBn : Hid _ := Bx.below OB.out hb
    have Nn : Hid _ := OwnC.below N.out hb
    have NBn : Hid _ := Bx.below NB.out hb
    clear hb hh c0 c1 c2 d0 d1 d2
    clear T X CB P PB O OB N NB
    have T := Tn
    have X := Xn
    have CB := CBn
    have P := Pn
    have PB := PBn
    have O := On
    have OB := OBn
    have N := Nn
    have NB := NBn
    clear Tn Xn CBn Pn PBn On OBn Nn NBn
    obtain ⟨⟨c0, c1, c2⟩, -⟩ := OB.out
    obtain ⟨⟨d0, d1, d2⟩, -⟩ := CB.out
    go_wp2_with fail
    refine Calls.mono (sameCalls_e Oa z0.u.length Oi Ob z0.d.length Oj Oc z0.c.length Ok a1 n1 k1 a2 n2 k2 a3 n3 k3 z0 x _ (OwnC.cal O.out) X.out m4 m5 m6 Ee2.out) ?_
    intro e wn hh
    obtain ⟨he, hb⟩ := (by first | exact hh | exact Ro.mk hh | exact St.mk hh | exact LawOk.mk' hh : Mk _ _ e wn)
    subst he
    have Tn : Hid (Below w.heap.size w wn) := below_next T.out hb
    have Xn : Hid _ := Cal.below X.out hb
    have CBn : Hid _ := Bx.below CB.out hb
    have Pn : Hid _ := OwnC.below P.out hb
    have PBn : Hid _ := Bx.below PB.out hb
    have On : Hid _ := OwnC.below O.out hb
    have OBn : Hid _ := Bx.below OB.out hb
    have Nn : Hid _ := OwnC.below N.out hb
    have NBn : Hid _ := Bx.below NB.out hb
    clear hb hh c0 c1 c2 d0 d1 d2
    clear T X CB P PB O OB N NB
    have T := Tn
    have X := Xn
    have CB := CBn
    have P := Pn
    have PB := PBn
    have O := On
    have OB := OBn
    have N := Nn
    have NB := NBn
    clear Tn Xn CBn Pn PBn On OBn Nn NBn
    obtain ⟨⟨c0, c1, c2⟩, -⟩ := OB.out
    obtain ⟨⟨d0, d1, d2⟩, -⟩ := PB.out
    go_wp2_with fail
    refine Calls.mono (sameCalls_e Oa z0.u.length Oi Ob z0.d.length Oj Oc z0.c.length Ok Pa y.u.length Pi Pb y.d.length Pj Pc y.c.length Pk z0 y _ (OwnC.cal O.out) (OwnC.cal P.out) m4 m5 m6 Eey.out) ?_
    intro e wn hh
    obtain ⟨he, hb⟩ := (by first | exact hh | exact Ro.mk hh | exact St.mk hh | exact LawOk.mk' hh : Mk _ _ e wn)
    subst he
    have Tn : Hid (Below w.heap.size w wn) := below_next T.out hb
    have Xn : Hid _ := Cal.below X.out hb
    have CBn : Hid _ := Bx.below CB.out hb
    have Pn : Hid _ := OwnC.below P.out hb
    have PBn : Hid _ := Bx.below PB.out hb
    have On : Hid _ := OwnC.below O.out hb
    have OBn : Hid _ := Bx.below OB.out hb
    have Nn : Hid _ := OwnC.below N.out hb
    have NBn : Hid _ := Bx.below NB.out hb
    clear hb hh c0 c1 c2 d0 d1 d2
    clear T X CB P PB O OB N NB
    have T := Tn
    have X := Xn
    have CB := CBn
    have P := Pn
    have PB := PBn
    have O := On
    have OB := OBn
    have N := Nn
    have NB := NBn
    clear Tn Xn CBn Pn PBn On OBn Nn NBn
    go_wp2_with fail
    go_ret
    first | exact LawOk.mk T.out | exact LawOk.mk (Below.dr T.out _)
end Go.Proofs.Ytgenccbpkolmbaa
