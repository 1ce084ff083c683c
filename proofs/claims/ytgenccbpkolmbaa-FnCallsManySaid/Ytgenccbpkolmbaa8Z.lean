/- The law of CallsMany: the walk. -/
import Derived.Test.Ytgenccbpkolmbaa8S
namespace Go.Proofs.Ytgenccbpkolmbaa
open Go.RowKit
set_option linter.unusedVariables false

/-- One call more, or the same calls. -/
theorem one_more {x : Cs} (hv : CV x) (k j : Nat) (hk : k < 3) (hj : j < x.c.length) : cstB x k j true = false ∨
    cstB x k j true = true ∧ (cst x k j true = x ∧ cm (cst x k j true) = cm x ∨ cst x k j true ≠ x ∧ cm (cst x k j true) = cm x + 1) := by
  by_cases hs : SV x k j true
  case neg => exact .inl (cstB_f hs)
  refine .inr ⟨cstB_t hs, ?_⟩
  have hy := hs.2.2
  rw [cst_t hs]
  rw [Int.toNat_natCast] at hy ⊢
  have hm := cm_put hv hj hy
  have hat := cput_at (k := k) hv hj
  have hp := cat_put (k := k) true hv hj
  cases hc : cat x k j
  · rw [hc] at hm
    simp at hm
    exact .inr ⟨(fun e => by rw [e, hc] at hp; cases hp), hm⟩
  · rw [hc] at hm hat
    simp at hm
    exact .inl ⟨hat, hm⟩
set_option maxHeartbeats 16000000 in
theorem CallsMany_w (a : Option Addr) (n cap : Nat) (w : World) (hb : Byt w a n) (hn : n ≤ cap) (hcap : cap ≤ maxLen) :
    Calls Try.prog 6 #[.slice a n cap] w (LawOk w) := by
  have hcap' := hcap
  unfold maxLen at hcap'
  by_cases bign : 1048576 < n
  · go_enter Try.func6, Try.ntmps6
    go_wp2_with fail
    go_ret
    exact LawOk.mk (Below.refl _ _)
  go_enter Try.func6, Try.ntmps6
  go_wp2_with fail
  refine (DrawCallsMany_c a n cap _ hb hn hcap).mono ?_
  rintro e wn ⟨a1, n1, k1, a2, n2, k2, a3, n3, k3, x, rfl, hX, ⟨l1, l2, l3⟩, hB⟩
  have T := Lib.hid hB
  have X := Lib.hid hX
  have x1 := hX.1.1
  have x2 := hX.2.1.1
  have x3 := hX.2.2.1
  have KI := fun w' (h : Cal w' a1 n1 a2 n2 a3 n3 x) => iCallsMany_c a1 n1 k1 a2 n2 k2 a3 n3 k3 x w' h
  have KS := fun w' (h : Cal w' a1 n1 a2 n2 a3 n3 x) => sCallsMany_c a1 n1 k1 a2 n2 k2 a3 n3 k3 x w' h
  clear hB hX hb
  have hWHC := T.out.size
  obtain ⟨HC, hHC⟩ : ∃ HC, Array.size (World.heap wn) = HC := ⟨_, rfl⟩
  have HHC : Hid _ := hHC
  rw [hHC] at hWHC
  have CB : Hid (Bx (wn.alloc (.cells #[.slice a1 n1 k1, .slice a2 n2 k2, .slice a3 n3 k3] 25)) HC (.slice a1 n1 k1) (.slice a2 n2 k2) (.slice a3 n3 k3)) := by rw [← hHC]; exact Bx.new _ _ _ _ _
  clear hHC
  have Tn : Hid (Below w.heap.size w _) := Below.al T.out (.cells #[.slice a1 n1 k1, .slice a2 n2 k2, .slice a3 n3 k3] 25)
  have Xn : Hid _ := Cal.below X.out ((Below.refl _ _).alloc (Nat.le_refl _) (.cells #[.slice a1 n1 k1, .slice a2 n2 k2, .slice a3 n3 k3] 25))
  clear T X
  have T := Tn
  have X := Xn
  clear Tn Xn
  by_cases hv : CV x
  case neg =>
    rw [cm_bad hv] at KI KS
    have HKI := Lib.hid KI
    have HKS := Lib.hid KS
    clear KI KS hv x1 x2 x3 l1 l2 l3
    obtain ⟨⟨c0, c1, c2⟩, -⟩ := CB.out
    go_wp2_with fail
    rw [HHC.out]
    refine Calls.mono (HKI.out _ X.out) ?_
    intro e wn hh
    obtain ⟨he, hb⟩ := (by first | exact hh | exact Ro.mk hh | exact St.mk hh | exact LawOk.mk' hh : Mk _ _ e wn)
    subst he
    have Tn : Hid (Below w.heap.size w wn) := below_next T.out hb
    have Xn : Hid _ := Cal.below X.out hb
    have CBn : Hid _ := Bx.below CB.out hb
    clear hb hh c0 c1 c2
    clear T X CB
    have T := Tn
    have X := Xn
    have CB := CBn
    clear Tn Xn CBn
    obtain ⟨⟨c0, c1, c2⟩, -⟩ := CB.out
    go_wp2_with fail
    refine Calls.mono (HKS.out _ X.out) ?_
    intro e wn hh
    obtain ⟨he, hb⟩ := (by first | exact hh | exact Ro.mk hh | exact St.mk hh | exact LawOk.mk' hh : Mk _ _ e wn)
    subst he
    have Tn : Hid (Below w.heap.size w wn) := below_next T.out hb
    have Xn : Hid _ := Cal.below X.out hb
    have CBn : Hid _ := Bx.below CB.out hb
    clear hb hh c0 c1 c2
    clear T X CB
    have T := Tn
    have X := Xn
    have CB := CBn
    clear Tn Xn CBn
    go_wp2_with fail
    refine Calls.mono (alive_c _) ?_
    intro e wn hh
    obtain ⟨he, hb⟩ := (by first | exact hh | exact Ro.mk hh | exact St.mk hh | exact LawOk.mk' hh : Mk _ _ e wn)
    subst he
    have Tn : Hid (Below w.heap.size w wn) := below_next T.out hb
    have Xn : Hid _ := Cal.below X.out hb
    have CBn : Hid _ := Bx.below CB.out hb
    clear hb hh
    clear T X CB
    have T := Tn
    have X := Xn
    have CB := CBn
    clear Tn Xn CBn
    go_wp2_with fail
    go_ret
    first | exact LawOk.mk T.out | exact LawOk.mk (Below.dr T.out _)
  obtain ⟨t0, t1⟩ := cm_top hv
  rw [x3] at t1
  have HST := Lib.hid (fun (k j : Nat) (hk : k < 3) (hj : j < n3) => one_more hv k j hk (by omega))
  have HLN := Lib.hid (fun (k j : Nat) => cst_len x k j true)
  obtain ⟨p, hp⟩ : ∃ p, cm x = p := ⟨_, rfl⟩
  rw [hp] at KI KS t0 t1 HST
  have HKI := Lib.hid KI
  have HKS := Lib.hid KS
  have ux : x.u.length ≤ 9 := by omega
  have dx : x.d.length ≤ 9 := by omega
  have cx : x.c.length ≤ 9 := by omega
  have p24 : p ≤ 30 := by omega
  have n39 : (n3 : Int) ≤ 9 := by omega
  clear KI KS hp hv x1 x2 x3 l1 l2
  obtain ⟨⟨c0, c1, c2⟩, -⟩ := CB.out
  go_wp2_with fail
  rw [HHC.out]
  refine Calls.mono (HKI.out _ X.out) ?_
  intro e wn hh
  obtain ⟨he, hb⟩ := (by first | exact hh | exact Ro.mk hh | exact St.mk hh | exact LawOk.mk' hh : Mk _ _ e wn)
  subst he
  have Tn : Hid (Below w.heap.size w wn) := below_next T.out hb
  have Xn : Hid _ := Cal.below X.out hb
  have CBn : Hid _ := Bx.below CB.out hb
  clear hb hh c0 c1 c2
  clear T X CB
  have T := Tn
  have X := Xn
  have CB := CBn
  clear Tn Xn CBn
  obtain ⟨⟨c0, c1, c2⟩, -⟩ := CB.out
  go_wp2_with fail
  refine Calls.mono (HKS.out _ X.out) ?_
  intro e wn hh
  obtain ⟨he, hb⟩ := (by first | exact hh | exact Ro.mk hh | exact St.mk hh | exact LawOk.mk' hh : Mk _ _ e wn)
  subst he
  have Tn : Hid (Below w.heap.size w wn) := below_next T.out hb
  have Xn : Hid _ := Cal.below X.out hb
  have CBn : Hid _ := Bx.below CB.out hb
  clear hb hh c0 c1 c2
  clear T X CB
  have T := Tn
  have X := Xn
  have CB := CBn
  clear Tn Xn CBn
  clear HKI HKS
  go_wp2_with fail
  go_loopw [5] (fun v wr => ∃ k : Nat, k ≤ 3 ∧ v = .int .i64 k ∧ Bx wr HC (.slice a1 n1 k1) (.slice a2 n2 k2) (.slice a3 n3 k3) ∧ Cal wr a1 n1 a2 n2 a3 n3 x ∧ Below w.heap.size w wr) (fun v _ => 3 - (intOf v).toNat)
  case atStart => exact ⟨0, by omega, rfl, CB.out, X.out, T.out⟩
  case round =>
    clear CB X T
    obtain ⟨k, hk, rfl, h1, h2, h3⟩ := hrel
    have CB := Lib.hid h1
    have X := Lib.hid h2
    have T := Lib.hid h3
    clear h1 h2 h3
    by_cases hlt : k < 3
    · have hlti : (k : Int) < 3 := by omega
      go_wp2_with fail
      go_loopw [6] (fun v wr => ∃ j : Nat, j ≤ n3 ∧ v = .int .i64 j ∧ Bx wr HC (.slice a1 n1 k1) (.slice a2 n2 k2) (.slice a3 n3 k3) ∧ Cal wr a1 n1 a2 n2 a3 n3 x ∧ Below w.heap.size w wr) (fun v _ => n3 - (intOf v).toNat)
      case atStart => exact ⟨0, by omega, rfl, CB.out, X.out, T.out⟩
      case round =>
        clear CB X T
        obtain ⟨j, hj, rfl, h1, h2, h3⟩ := hrel
        have CB := Lib.hid h1
        have X := Lib.hid h2
        have T := Lib.hid h3
        clear h1 h2 h3
        obtain ⟨wn, hwq⟩ : ∃ w0 : World, w0 = wr := ⟨_, rfl⟩
        rw [← hwq] at CB X T ⊢
        clear hwq
        by_cases hl : j < n3
        · have hli : (j : Int) < (n3 : Int) := by omega
          have KC := fun w' (h : Cal w' a1 n1 a2 n2 a3 n3 x) => iCallSet_c a1 n1 k1 a2 n2 k2 a3 n3 k3 x k j true w' h
          have E := HST.out k j hlt hl
          obtain ⟨y1, y2, y3⟩ := HLN.out k j
          obtain ⟨y, hy⟩ : ∃ y, cst x k j true = y := ⟨_, rfl⟩
          obtain ⟨tb, hb⟩ : ∃ tb, cstB x k j true = tb := ⟨_, rfl⟩
          rw [hy, hb] at KC E
          rw [hy] at y1 y2 y3
          have KM := fun (w' : World) (p1 p2 p3 : Option Addr) (m1 m2 m3 j1 j2 j3 : Nat) (h : Cal w' p1 m1 p2 m2 p3 m3 y) => iCallsMany_c p1 m1 j1 p2 m2 j2 p3 m3 j3 y w' h
          obtain ⟨u, hu⟩ : ∃ u, cm y = u := ⟨_, rfl⟩
          rw [hu] at KM E
          have m1 : y.u.length ≤ 1048577 := by omega
          have m2 : y.d.length ≤ 1048577 := by omega
          have m3 : y.c.length ≤ 1048577 := by omega
          have HKC := Lib.hid KC
          have HKM := Lib.hid KM
          have HE := Lib.hid E
          clear KC KM E hy hb hu y1 y2 y3
          obtain ⟨⟨c0, c1, c2⟩, -⟩ := CB.out
          go_wp2_with fail
          refine Calls.mono (HKC.out _ X.out) ?_
          intro e wn hh
          obtain ⟨v1, v2, v3, loP, hiP, rfl, hO, hb, hlo, hhi⟩ := NewC.get hh
          have hTP : w.heap.size ≤ loP := by rw [← hlo]; exact T.out.size
          have hltCBP := Bx.lt CB.out
          rw [hlo] at hltCBP
          have hlhP : loP ≤ hiP := by rw [← hlo, ← hhi]; exact hb.size
          obtain ⟨Pa, Pi, Pb, Pj, Pc, Pk, rfl, rfl, rfl, -⟩ := OwnC.open hO
          have Tn := Lib.hid (below_next T.out hb)
          have Xn := Lib.hid (Cal.below X.out hb)
          have CBn := Lib.hid (Bx.below CB.out hb)
          have P := Lib.hid hO
          clear hb hO hh hlo hhi c0 c1 c2
          clear T X CB
          have T := Tn
          have X := Xn
          have CB := CBn
          clear Tn Xn CBn
          have hltCBHP := Bx.lt CB.out
          have hltPHP := P.out.2.2.1
          have hWHP := T.out.size
          obtain ⟨HP, hHP⟩ : ∃ HP, Array.size (World.heap wn) = HP := ⟨_, rfl⟩
          have HHP : Hid _ := hHP
          rw [hHP] at hWHP hltCBHP hltPHP
          have PB : Hid (Bx (wn.alloc (.cells #[.slice Pa y.u.length Pi, .slice Pb y.d.length Pj, .slice Pc y.c.length Pk] 25)) HP (.slice Pa y.u.length Pi) (.slice Pb y.d.length Pj) (.slice Pc y.c.length Pk)) := by rw [← hHP]; exact Bx.new _ _ _ _ _
          clear hHP
          have Tn : Hid (Below w.heap.size w _) := Below.al T.out (.cells #[.slice Pa y.u.length Pi, .slice Pb y.d.length Pj, .slice Pc y.c.length Pk] 25)
          have Xn : Hid _ := Cal.below X.out ((Below.refl _ _).alloc (Nat.le_refl _) (.cells #[.slice Pa y.u.length Pi, .slice Pb y.d.length Pj, .slice Pc y.c.length Pk] 25))
          have CBn : Hid _ := Bx.below CB.out ((Below.refl _ _).alloc (Nat.le_refl _) (.cells #[.slice Pa y.u.length Pi, .slice Pb y.d.length Pj, .slice Pc y.c.length Pk] 25))
          have Pn : Hid _ := OwnC.below P.out ((Below.refl _ _).alloc (Nat.le_refl _) (.cells #[.slice Pa y.u.length Pi, .slice Pb y.d.length Pj, .slice Pc y.c.length Pk] 25))
          clear T X CB P
          have T := Tn
          have X := Xn
          have CB := CBn
          have P := Pn
          clear Tn Xn CBn Pn
          go_wp2_with fail
          rw [HHP.out]
          clear HKC
          generalize wn.alloc (.cells #[.slice Pa y.u.length Pi, .slice Pb y.d.length Pj, .slice Pc y.c.length Pk] 25) = w0 at *
          rcases HE.out with rfl | ⟨rfl, ⟨e, rfl⟩ | ⟨e, hu⟩⟩
          · skip
            refine wp_region_quiet (C := fun w' => Below (World.heap (w0)).size (w0) w') (by kernel_rfl) (by kernel_rfl) (by first | exact ⟨rfl, rfl, rfl, Nat.le_refl _, fun _ _ => rfl⟩ | exact Below.dw (by repeat (first | exact Below.refl _ _ | refine Below.al ?_ _ | refine Below.dr ?_ _ | refine Below.dw ?_ | refine Below.st ?_ (by first | exact Nat.le_refl _ | exact Nat.le_add_right _ _ | (simp; omega)) _ | (refine below_next ?_ (by assumption))))) ?_
            simp only []
            repeat (go_big_quiet_step (first | (intro _; with_reducible exact rfl) | (intro hC; obtain ⟨⟨c0, c1, c2⟩, -⟩ := Bx.below PB.out hC; obtain ⟨⟨d0, d1, d2⟩, -⟩ := Bx.below CB.out hC; go_simp; rfl)))
            refine wpQuiet_nil ?_
            intro wq hq
            have Tn := Lib.hid (below_next T.out hq)
            have Xn := Lib.hid (Cal.below X.out hq)
            have CBn := Lib.hid (Bx.below CB.out hq)
            have Pn := Lib.hid (OwnC.below P.out hq)
            have PBn := Lib.hid (Bx.below PB.out hq)
            clear hq
            clear T X CB P PB
            have T := Tn
            have X := Xn
            have CB := CBn
            have P := Pn
            have PB := PBn
            clear Tn Xn CBn Pn PBn
            obtain ⟨wn, hwq⟩ : ∃ w0, w0 = wq := ⟨_, rfl⟩
            subst hwq
            go_wp2_with fail
            go_roundw
            case rel => exact ⟨j + 1, by omega, by go_num, CB.out, X.out, T.out⟩
            case measure => first | (simp [intOf]; done) | (simp [intOf]; omega)
          · skip
            have E1 := Lib.hid e
            clear e
            refine wp_region_quiet (C := fun w' => Below (World.heap (w0)).size (w0) w') (by kernel_rfl) (by kernel_rfl) (by first | exact ⟨rfl, rfl, rfl, Nat.le_refl _, fun _ _ => rfl⟩ | exact Below.dw (by repeat (first | exact Below.refl _ _ | refine Below.al ?_ _ | refine Below.dr ?_ _ | refine Below.dw ?_ | refine Below.st ?_ (by first | exact Nat.le_refl _ | exact Nat.le_add_right _ _ | (simp; omega)) _ | (refine below_next ?_ (by assumption))))) ?_
            simp only []
            repeat (go_big_quiet_step (first | (intro _; with_reducible exact rfl) | (intro hC; go_at_call 20; obtain ⟨⟨c0, c1, c2⟩, -⟩ := Bx.below PB.out hC; obtain ⟨⟨d0, d1, d2⟩, -⟩ := Bx.below CB.out hC; have ZY := Lib.hid (HKM.out _ _ _ _ _ _ _ Pi Pj Pk (OwnC.cal (OwnC.below P.out hC))); have ZS := Lib.hid (sameCalls_e Pa y.u.length Pi Pb y.d.length Pj Pc y.c.length Pk a1 n1 k1 a2 n2 k2 a3 n3 k3 y x _ (OwnC.cal (OwnC.below P.out hC)) (Cal.below X.out hC) m1 m2 m3 E1.out); (with_reducible refine Calls.mono (ZY.out) ?_); (first | (rintro e wx ⟨rfl, hb⟩; exact ⟨rfl, below_next hC hb⟩) | (rintro e wx ⟨rfl, n, rfl⟩; exact ⟨rfl, Below.dr hC n⟩) | (rintro e wx ⟨rfl, rfl⟩; exact ⟨rfl, hC⟩))) | (intro hC; go_at_call 18; obtain ⟨⟨c0, c1, c2⟩, -⟩ := Bx.below PB.out hC; obtain ⟨⟨d0, d1, d2⟩, -⟩ := Bx.below CB.out hC; have ZY := Lib.hid (HKM.out _ _ _ _ _ _ _ Pi Pj Pk (OwnC.cal (OwnC.below P.out hC))); have ZS := Lib.hid (sameCalls_e Pa y.u.length Pi Pb y.d.length Pj Pc y.c.length Pk a1 n1 k1 a2 n2 k2 a3 n3 k3 y x _ (OwnC.cal (OwnC.below P.out hC)) (Cal.below X.out hC) m1 m2 m3 E1.out); (with_reducible refine Calls.mono (ZS.out) ?_); (first | (rintro e wx ⟨rfl, hb⟩; exact ⟨rfl, below_next hC hb⟩) | (rintro e wx ⟨rfl, n, rfl⟩; exact ⟨rfl, Below.dr hC n⟩) | (rintro e wx ⟨rfl, rfl⟩; exact ⟨rfl, hC⟩))) | (intro hC; obtain ⟨⟨c0, c1, c2⟩, -⟩ := Bx.below PB.out hC; obtain ⟨⟨d0, d1, d2⟩, -⟩ := Bx.below CB.out hC; have ZY := Lib.hid (HKM.out _ _ _ _ _ _ _ Pi Pj Pk (OwnC.cal (OwnC.below P.out hC))); have ZS := Lib.hid (sameCalls_e Pa y.u.length Pi Pb y.d.length Pj Pc y.c.length Pk a1 n1 k1 a2 n2 k2 a3 n3 k3 y x _ (OwnC.cal (OwnC.below P.out hC)) (Cal.below X.out hC) m1 m2 m3 E1.out); go_simp; rfl)))
            refine wpQuiet_nil ?_
            intro wq hq
            have Tn := Lib.hid (below_next T.out hq)
            have Xn := Lib.hid (Cal.below X.out hq)
            have CBn := Lib.hid (Bx.below CB.out hq)
            have Pn := Lib.hid (OwnC.below P.out hq)
            have PBn := Lib.hid (Bx.below PB.out hq)
            clear hq
            clear T X CB P PB
            have T := Tn
            have X := Xn
            have CB := CBn
            have P := Pn
            have PB := PBn
            clear Tn Xn CBn Pn PBn
            obtain ⟨wn, hwq⟩ : ∃ w0, w0 = wq := ⟨_, rfl⟩
            subst hwq
            go_wp2_with fail
            go_roundw
            case rel => exact ⟨j + 1, by omega, by go_num, CB.out, X.out, T.out⟩
            case measure => first | (simp [intOf]; done) | (simp [intOf]; omega)
          · skip
            have E1 := Lib.hid e
            clear e
            have up : p + 1 ≤ 31 := by omega
            have h5 : (u == p) = false := beq_false_of_ne (by omega)
            have h6 : (u != p + 1) = false := by rw [bne_eq_false_iff_eq]; omega
            have h7 : (u != p) = true := by rw [bne_iff_ne]; omega
            clear hu
            refine wp_region_quiet (C := fun w' => Below (World.heap (w0)).size (w0) w') (by kernel_rfl) (by kernel_rfl) (by first | exact ⟨rfl, rfl, rfl, Nat.le_refl _, fun _ _ => rfl⟩ | exact Below.dw (by repeat (first | exact Below.refl _ _ | refine Below.al ?_ _ | refine Below.dr ?_ _ | refine Below.dw ?_ | refine Below.st ?_ (by first | exact Nat.le_refl _ | exact Nat.le_add_right _ _ | (simp; omega)) _ | (refine below_next ?_ (by assumption))))) ?_
            simp only []
            repeat (go_big_quiet_step (first | (intro _; with_reducible exact rfl) | (intro hC; go_at_call 20; obtain ⟨⟨c0, c1, c2⟩, -⟩ := Bx.below PB.out hC; obtain ⟨⟨d0, d1, d2⟩, -⟩ := Bx.below CB.out hC; have ZY := Lib.hid (HKM.out _ _ _ _ _ _ _ Pi Pj Pk (OwnC.cal (OwnC.below P.out hC))); have ZS := Lib.hid (sameCalls_f Pa y.u.length Pi Pb y.d.length Pj Pc y.c.length Pk a1 n1 k1 a2 n2 k2 a3 n3 k3 y x _ (OwnC.cal (OwnC.below P.out hC)) (Cal.below X.out hC) m1 m2 m3 E1.out); (with_reducible refine Calls.mono (ZY.out) ?_); (first | (rintro e wx ⟨rfl, hb⟩; exact ⟨rfl, below_next hC hb⟩) | (rintro e wx ⟨rfl, n, rfl⟩; exact ⟨rfl, Below.dr hC n⟩) | (rintro e wx ⟨rfl, rfl⟩; exact ⟨rfl, hC⟩))) | (intro hC; go_at_call 18; obtain ⟨⟨c0, c1, c2⟩, -⟩ := Bx.below PB.out hC; obtain ⟨⟨d0, d1, d2⟩, -⟩ := Bx.below CB.out hC; have ZY := Lib.hid (HKM.out _ _ _ _ _ _ _ Pi Pj Pk (OwnC.cal (OwnC.below P.out hC))); have ZS := Lib.hid (sameCalls_f Pa y.u.length Pi Pb y.d.length Pj Pc y.c.length Pk a1 n1 k1 a2 n2 k2 a3 n3 k3 y x _ (OwnC.cal (OwnC.below P.out hC)) (Cal.below X.out hC) m1 m2 m3 E1.out); (with_reducible refine Calls.mono (ZS.out) ?_); (first | (rintro e wx ⟨rfl, hb⟩; exact ⟨rfl, below_next hC hb⟩) | (rintro e wx ⟨rfl, n, rfl⟩; exact ⟨rfl, Below.dr hC n⟩) | (rintro e wx ⟨rfl, rfl⟩; exact ⟨rfl, hC⟩))) | (intro hC; obtain ⟨⟨c0, c1, c2⟩, -⟩ := Bx.below PB.out hC; obtain ⟨⟨d0, d1, d2⟩, -⟩ := Bx.below CB.out hC; have ZY := Lib.hid (HKM.out _ _ _ _ _ _ _ Pi Pj Pk (OwnC.cal (OwnC.below P.out hC))); have ZS := Lib.hid (sameCalls_f Pa y.u.length Pi Pb y.d.length Pj Pc y.c.length Pk a1 n1 k1 a2 n2 k2 a3 n3 k3 y x _ (OwnC.cal (OwnC.below P.out hC)) (Cal.below X.out hC) m1 m2 m3 E1.out); go_simp; rfl)))
            refine wpQuiet_nil ?_
            intro wq hq
            have Tn := Lib.hid (below_next T.out hq)
            have Xn := Lib.hid (Cal.below X.out hq)
            have CBn := Lib.hid (Bx.below CB.out hq)
            have Pn := Lib.hid (OwnC.below P.out hq)
            have PBn := Lib.hid (Bx.below PB.out hq)
            clear hq
            clear T X CB P PB
            have T := Tn
            have X := Xn
            have CB := CBn
            have P := Pn
            have PB := PBn
            clear Tn Xn CBn Pn PBn
            obtain ⟨wn, hwq⟩ : ∃ w0, w0 = wq := ⟨_, rfl⟩
            subst hwq
            go_wp2_with fail
            go_roundw
            case rel => exact ⟨j + 1, by omega, by go_num, CB.out, X.out, T.out⟩
            case measure => first | (simp [intOf]; done) | (simp [intOf]; omega)
        · obtain rfl : j = n3 := by omega
          obtain ⟨⟨c0, c1, c2⟩, -⟩ := CB.out
          go_wp2_with fail
          go_roundw
          case rel => exact ⟨k + 1, by omega, by go_num, CB.out, X.out, T.out⟩
          case measure => first | (simp [intOf]; done) | (simp [intOf]; omega)
    · obtain rfl : k = 3 := by omega
      obtain ⟨wn, hwq⟩ : ∃ w0 : World, w0 = wr := ⟨_, rfl⟩
      rw [← hwq] at CB X T ⊢
      clear hwq
      obtain ⟨⟨c0, c1, c2⟩, -⟩ := CB.out
      go_wp2_with fail
      go_ret
      first | exact LawOk.mk T.out | exact LawOk.mk (Below.dr T.out _)
end Go.Proofs.Ytgenccbpkolmbaa
