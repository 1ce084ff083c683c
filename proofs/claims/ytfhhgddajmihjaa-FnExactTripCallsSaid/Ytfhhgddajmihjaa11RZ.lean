/- The exact law of TripCalls: the walk. -/
import Derived.Test.Ytfhhgddajmihjaa11RX
namespace Go.Proofs.Ytfhhgddajmihjaa
open Go.RowKit
set_option linter.unusedVariables false
set_option linter.unusedSimpArgs false
set_option maxRecDepth 100000

set_option maxRecDepth 100000 in
set_option maxHeartbeats 16000000 in
theorem ExactTripCalls_w (n m f d : Int) (a : Option Addr) (k c : Nat) (l : List Ri) (w : World) (hX : Rid w a k l) (hk : k ≤ maxLen) : Calls Try.prog 9 #[.agg #[.int .i64 n, .int .i64 m, .int .i64 f, .int .i64 d, .slice a k c]] w (LawOk w) := by
  have HL := Lib.hid hX.2
  have X0 := Lib.hid hX
  have KZ := fun w' => szTrip_c n m f d a k c w' hk
  clear hX
  by_cases hk2 : k ≤ 1048576
  case neg =>
    rw [show szT k = -1 from by unfold szT; rw [if_neg (by omega)]] at KZ
    have HZ := Lib.hid KZ
    clear KZ
    refine at_base fun wn hwn => ?_
    have T := Lib.hid (show Below w.heap.size w wn from by rw [hwn]; exact Below.refl _ _)
    clear hwn
    obtain ⟨g, hg⟩ : ∃ g, Array.size (World.heap wn) = g := ⟨_, rfl⟩
    have HGg := Lib.hid hg
    have hTg : w.heap.size ≤ g := by rw [← hg]; exact T.out.size
    have Tn := Lib.hid (show Below w.heap.size w (wn.alloc (.cells #[.int .i64 n, .int .i64 m, .int .i64 f, .int .i64 d, .slice a k c] 50)) from (Below.al T.out (.cells #[.int .i64 n, .int .i64 m, .int .i64 f, .int .i64 d, .slice a k c] 50)))
    have A := Lib.hid (show BoxV (wn.alloc (.cells #[.int .i64 n, .int .i64 m, .int .i64 f, .int .i64 d, .slice a k c] 50)) g [.int .i64 n, .int .i64 m, .int .i64 f, .int .i64 d, .slice a k c] from by have h9 := (BoxV.new wn [.int .i64 n, .int .i64 m, .int .i64 f, .int .i64 d, .slice a k c] 50 (by simp) rfl); simp only [World.size_alloc, hg, Nat.add_assoc, Nat.reduceAdd] at h9; exact h9)
    have HZg := Lib.hid (show ((wn.alloc (.cells #[.int .i64 n, .int .i64 m, .int .i64 f, .int .i64 d, .slice a k c] 50))).heap.size = g + 1 from by simp only [World.size_alloc, hg, Nat.add_assoc, Nat.reduceAdd])
    clear hg
    clear T
    have T := Tn
    clear Tn
    go_enter Try.func9, Try.ntmps9
    have c0 := (A.out.2 0 _ rfl).1
    have c1 := (A.out.2 1 _ rfl).1
    have c2 := (A.out.2 2 _ rfl).1
    have c3 := (A.out.2 3 _ rfl).1
    have c4 := (A.out.2 4 _ rfl).1
    go_wp2_with fail
    rw [HGg.out]
    refine Calls.mono (HZ.out _) ?_
    intro e wn hh
    obtain ⟨he, hb⟩ := (by first | exact hh | exact Ro.mk hh | exact St.mk hh | exact LawOk.mk' hh : Mk _ _ e wn)
    subst he
    have Tn : Hid (Below w.heap.size w wn) := below_next T.out hb
    have An : Hid _ := BoxV.below A.out hb
    clear hb hh c0 c1 c2 c3 c4
    clear T A
    have T := Tn
    have A := An
    clear Tn An
    go_wp2_with fail
    go_ret
    first | exact LawOk.mk T.out | exact LawOk.mk (Below.dr T.out _)
  obtain ⟨z, hz⟩ : ∃ z : Nat, szT k = z := ⟨1048576 - k, by unfold szT; rw [if_pos (by omega)]; omega⟩
  rw [hz] at KZ
  have HZ := Lib.hid KZ
  have hzn : ¬ (z : Int) < 0 := by omega
  clear KZ hz
  have hxl : (tclT ⟨n, m, f, d, l⟩).u.length ≤ 8 ∧ (tclT ⟨n, m, f, d, l⟩).d.length ≤ 8 ∧ (tclT ⟨n, m, f, d, l⟩).c.length ≤ 8 := by
    by_cases g : TOk ⟨n, m, f, d, l⟩
    · rw [tclT_t g]
      obtain ⟨g1, g2, g3⟩ := tcl_len ⟨n, m, f, d, l⟩
      have h1 := g.1.2
      rw [g1, g2, g3]
      replace h1 : n ≤ 8 := h1
      show n.toNat ≤ 8 ∧ n.toNat ≤ 8 ∧ n.toNat ≤ 8
      omega
    · rw [tclT_f g]; simp [cz]
  have KS := fun w' (a' : Option Addr) (c' : Nat) (h : Rid w' a' k l) => sTripCalls_c n m f d a' k c' l w' h (by omega)
  have KI := fun w' (a' : Option Addr) (c' : Nat) (h : Rid w' a' k l) => iTripCalls_c n m f d a' k c' l w' h (by omega)
  obtain ⟨x, hx⟩ : ∃ x, tclT ⟨n, m, f, d, l⟩ = x := ⟨_, rfl⟩
  rw [hx] at KS KI hxl
  obtain ⟨l1, l2, l3⟩ := hxl
  have HKS := Lib.hid KS
  have HKI := Lib.hid KI
  have s1 : x.u.length + x.d.length + x.c.length ≤ 1048576 := by omega
  obtain ⟨z1, hz1⟩ : ∃ z, 1 + x.u.length + x.d.length + x.c.length = z := ⟨_, rfl⟩
  obtain ⟨z2, hz2⟩ : ∃ z, 1 + k * 3 = z := ⟨_, rfl⟩
  have HZ1 := Lib.hid hz1
  have HZ2 := Lib.hid hz2
  have hzn1 : ¬ (z1 : Int) < 0 := by omega
  have hzn2 : ¬ (z2 : Int) < 0 := by omega
  have hzz : ((z1 : Int) != (z1 : Int)) = false := by simp
  clear KS KI hx hz1 hz2
  refine at_base fun wn hwn => ?_
  have T := Lib.hid (show Below w.heap.size w wn from by rw [hwn]; exact Below.refl _ _)
  clear hwn
  obtain ⟨g, hg⟩ : ∃ g, Array.size (World.heap wn) = g := ⟨_, rfl⟩
  have HGg := Lib.hid hg
  have hTg : w.heap.size ≤ g := by rw [← hg]; exact T.out.size
  have Tn := Lib.hid (show Below w.heap.size w (wn.alloc (.cells #[.int .i64 n, .int .i64 m, .int .i64 f, .int .i64 d, .slice a k c] 50)) from (Below.al T.out (.cells #[.int .i64 n, .int .i64 m, .int .i64 f, .int .i64 d, .slice a k c] 50)))
  have A := Lib.hid (show BoxV (wn.alloc (.cells #[.int .i64 n, .int .i64 m, .int .i64 f, .int .i64 d, .slice a k c] 50)) g [.int .i64 n, .int .i64 m, .int .i64 f, .int .i64 d, .slice a k c] from by have h9 := (BoxV.new wn [.int .i64 n, .int .i64 m, .int .i64 f, .int .i64 d, .slice a k c] 50 (by simp) rfl); simp only [World.size_alloc, hg, Nat.add_assoc, Nat.reduceAdd] at h9; exact h9)
  have HZg := Lib.hid (show ((wn.alloc (.cells #[.int .i64 n, .int .i64 m, .int .i64 f, .int .i64 d, .slice a k c] 50))).heap.size = g + 1 from by simp only [World.size_alloc, hg, Nat.add_assoc, Nat.reduceAdd])
  clear hg
  clear T
  have T := Tn
  clear Tn
  go_enter Try.func9, Try.ntmps9
  have c0 := (A.out.2 0 _ rfl).1
  have c1 := (A.out.2 1 _ rfl).1
  have c2 := (A.out.2 2 _ rfl).1
  have c3 := (A.out.2 3 _ rfl).1
  have c4 := (A.out.2 4 _ rfl).1
  go_wp2_with fail
  rw [HGg.out]
  refine Calls.mono (HZ.out _) ?_
  intro e wn hh
  obtain ⟨he, hb⟩ := (by first | exact hh | exact Ro.mk hh | exact St.mk hh | exact LawOk.mk' hh : Mk _ _ e wn)
  subst he
  have Tn : Hid (Below w.heap.size w wn) := below_next T.out hb
  have An : Hid _ := BoxV.below A.out hb
  clear hb hh c0 c1 c2 c3 c4
  clear T A
  have T := Tn
  have A := An
  clear Tn An
  clear HZ
  have c0 := (A.out.2 0 _ rfl).1
  have c1 := (A.out.2 1 _ rfl).1
  have c2 := (A.out.2 2 _ rfl).1
  have c3 := (A.out.2 3 _ rfl).1
  have c4 := (A.out.2 4 _ rfl).1
  go_wp2_with fail
  refine Calls.mono (toTrip_c n m f d a k c l _ (Rid.below X0.out T.out) hk2) ?_
  intro e wq hh
  obtain ⟨v2, he, hO2, hb3⟩ := hh
  subst he
  rw [show List.length (Tp.rs ⟨n, m, f, d, l⟩) = k from HL.out] at hO2
  obtain ⟨p9, q9, hv, -, -⟩ := OwnR.open hO2
  subst hv
  have P9 := Lib.hid (OwnR.rid hO2)
  clear hO2 c0 c1 c2 c3 c4
  have Tn := Lib.hid (below_next T.out hb3)
  have An := Lib.hid (BoxV.below A.out hb3)
  clear hb3
  clear T A
  have T := Tn
  have A := An
  clear Tn An
  obtain ⟨wn, hwq⟩ : ∃ w0, w0 = wq := ⟨_, rfl⟩
  subst hwq
  skip
  go_wp2_with fail
  refine Calls.mono (HKS.out _ p9 q9 P9.out) ?_
  intro e wn hh
  obtain ⟨v1, v2, v3, loW, hiW, rfl, hO, hb, hlo, hhi⟩ := NewC.get hh
  have hTW : w.heap.size ≤ loW := by rw [← hlo]; exact T.out.size
  have hltAW := BoxV.lt A.out
  rw [hlo] at hltAW
  have hlhW : loW ≤ hiW := by rw [← hlo, ← hhi]; exact hb.size
  obtain ⟨Wa, Wi, Wb, Wj, Wc, Wk, rfl, rfl, rfl, -⟩ := OwnC.open hO
  have Tn := Lib.hid (below_next T.out hb)
  have An := Lib.hid (BoxV.below A.out hb)
  have P9n := Lib.hid (Rid.below P9.out hb)
  have W := Lib.hid hO
  have HLOW := Lib.hid hlo
  clear hb hO hh hlo hhi
  clear T A P9
  have T := Tn
  have A := An
  have P9 := P9n
  clear Tn An P9n
  have hltAHW := BoxV.lt A.out
  have hltWHW := W.out.2.2.1
  have hWHW := T.out.size
  obtain ⟨HW, hHW⟩ : ∃ HW, Array.size (World.heap wn) = HW := ⟨_, rfl⟩
  have HHW : Hid _ := hHW
  rw [hHW] at hWHW hltAHW hltWHW
  have WB : Hid (Bx (wn.alloc (.cells #[.slice Wa x.u.length Wi, .slice Wb x.d.length Wj, .slice Wc x.c.length Wk] 36)) HW (.slice Wa x.u.length Wi) (.slice Wb x.d.length Wj) (.slice Wc x.c.length Wk)) := by rw [← hHW]; exact Bx.new _ _ _ _ _
  clear hHW
  have Tn : Hid (Below w.heap.size w _) := Below.al T.out (.cells #[.slice Wa x.u.length Wi, .slice Wb x.d.length Wj, .slice Wc x.c.length Wk] 36)
  have An : Hid _ := BoxV.below A.out ((Below.refl _ _).alloc (Nat.le_refl _) (.cells #[.slice Wa x.u.length Wi, .slice Wb x.d.length Wj, .slice Wc x.c.length Wk] 36))
  have P9n : Hid _ := Rid.below P9.out ((Below.refl _ _).alloc (Nat.le_refl _) (.cells #[.slice Wa x.u.length Wi, .slice Wb x.d.length Wj, .slice Wc x.c.length Wk] 36))
  have Wn : Hid _ := OwnC.below W.out ((Below.refl _ _).alloc (Nat.le_refl _) (.cells #[.slice Wa x.u.length Wi, .slice Wb x.d.length Wj, .slice Wc x.c.length Wk] 36))
  clear T A P9 W
  have T := Tn
  have A := An
  have P9 := P9n
  have W := Wn
  clear Tn An P9n Wn
  go_upto_region 6 with fail
  rw [HHW.out]
  generalize wn.alloc (.cells #[.slice Wa x.u.length Wi, .slice Wb x.d.length Wj, .slice Wc x.c.length Wk] 36) = w0 at *
  obtain ⟨wn, hwq⟩ : ∃ w9 : World, w9 = w0 := ⟨_, rfl⟩
  subst hwq
  clear HHW HLOW
  clear P9
  have c0 := (A.out.2 0 _ rfl).1
  have c1 := (A.out.2 1 _ rfl).1
  have c2 := (A.out.2 2 _ rfl).1
  have c3 := (A.out.2 3 _ rfl).1
  have c4 := (A.out.2 4 _ rfl).1
  go_wp2_with fail
  obtain ⟨loS, hloS⟩ : ∃ q, wn.heap.size = q := ⟨_, rfl⟩
  have hTS : w.heap.size ≤ loS := by rw [← hloS]; exact T.out.size
  have hltAS : g < loS := by rw [← hloS]; exact BoxV.lt A.out
  have hltWBS : HW < loS := by rw [← hloS]; exact Bx.lt WB.out
  refine Calls.mono (toTrip_c n m f d a k c l _ (Rid.below X0.out T.out) hk2) ?_
  intro e wq hh
  obtain ⟨v2, he, hO2, hb3⟩ := hh
  subst he
  rw [show List.length (Tp.rs ⟨n, m, f, d, l⟩) = k from HL.out] at hO2
  obtain ⟨Sa, Sc, hv, -, -⟩ := OwnR.open hO2
  subst hv
  rw [hloS] at hO2
  have S := Lib.hid hO2
  clear hO2 hloS
  have Tn := Lib.hid (below_next T.out hb3)
  have An := Lib.hid (BoxV.below A.out hb3)
  have WBn := Lib.hid (Bx.below WB.out hb3)
  have Wn := Lib.hid (OwnC.below W.out hb3)
  clear hb3
  clear T A WB W
  have T := Tn
  have A := An
  have WB := WBn
  have W := Wn
  clear Tn An WBn Wn
  obtain ⟨wn, hwq⟩ : ∃ w0, w0 = wq := ⟨_, rfl⟩
  subst hwq
  have hrS := fun q hq => OwnR.lt S.out q hq
  have hltAHS := BoxV.lt A.out
  have hltWBHS := Bx.lt WB.out
  have hltWHS := W.out.2.2.1
  have hWHS := T.out.size
  obtain ⟨HS, hHS⟩ : ∃ HS, Array.size (World.heap wn) = HS := ⟨_, rfl⟩
  have HHS : Hid _ := hHS
  rw [hHS] at hWHS hltAHS hltWBHS hltWHS
  have SB : Hid (BoxV (wn.alloc (.cells #[.int .i64 n, .int .i64 m, .int .i64 f, .int .i64 d, .slice Sa k Sc] 27)) HS [.int .i64 n, .int .i64 m, .int .i64 f, .int .i64 d, .slice Sa k Sc]) := by rw [← hHS]; exact BoxV.new _ _ _ (by simp) rfl
  clear hHS
  have Tn : Hid (Below w.heap.size w _) := Below.al T.out (.cells #[.int .i64 n, .int .i64 m, .int .i64 f, .int .i64 d, .slice Sa k Sc] 27)
  have An : Hid _ := BoxV.below A.out ((Below.refl _ _).alloc (Nat.le_refl _) (.cells #[.int .i64 n, .int .i64 m, .int .i64 f, .int .i64 d, .slice Sa k Sc] 27))
  have WBn : Hid _ := Bx.below WB.out ((Below.refl _ _).alloc (Nat.le_refl _) (.cells #[.int .i64 n, .int .i64 m, .int .i64 f, .int .i64 d, .slice Sa k Sc] 27))
  have Wn : Hid _ := OwnC.below W.out ((Below.refl _ _).alloc (Nat.le_refl _) (.cells #[.int .i64 n, .int .i64 m, .int .i64 f, .int .i64 d, .slice Sa k Sc] 27))
  have Sn : Hid _ := OwnR.below S.out ((Below.refl _ _).alloc (Nat.le_refl _) (.cells #[.int .i64 n, .int .i64 m, .int .i64 f, .int .i64 d, .slice Sa k Sc] 27))
  clear T A WB W S
  have T := Tn
  have A := An
  have WB := WBn
  have W := Wn
  have S := Sn
  clear Tn An WBn Wn Sn
  have hBS := Lib.hid (show ∀ q, (Value.slice Sa k Sc).ownBlock = some q → loS ≤ q ∧ q < HS from fun q hq => by rw [← HHS.out]; exact hrS q hq)
  clear hrS
  go_upto_region 7 with fail
  rw [HHS.out]
  generalize hw9 : wn.alloc (.cells #[.int .i64 n, .int .i64 m, .int .i64 f, .int .i64 d, .slice Sa k Sc] 27) = w0 at *
  obtain ⟨wn, hwq⟩ : ∃ w9 : World, w9 = w0 := ⟨_, rfl⟩
  subst hwq
  clear HHS hw9
  have e0 := (SB.out.2 0 _ rfl).1
  have e1 := (SB.out.2 1 _ rfl).1
  have e2 := (SB.out.2 2 _ rfl).1
  have e3 := (SB.out.2 3 _ rfl).1
  have e4 := (SB.out.2 4 _ rfl).1
  go_wp2_with fail
  refine Calls.mono (HKI.out _ Sa Sc (OwnR.rid S.out)) ?_
  intro e wn hh
  obtain ⟨v1, v2, v3, loG, hiG, rfl, hO, hb, hlo, hhi⟩ := NewC.get hh
  have hTG : w.heap.size ≤ loG := by rw [← hlo]; exact T.out.size
  have hltAG := BoxV.lt A.out
  rw [hlo] at hltAG
  have hltWBG := Bx.lt WB.out
  rw [hlo] at hltWBG
  have hltSBG := BoxV.lt SB.out
  rw [hlo] at hltSBG
  have hhWG := W.out.2.2.1
  rw [hlo] at hhWG
  have hlhG : loG ≤ hiG := by rw [← hlo, ← hhi]; exact hb.size
  obtain ⟨Ga, Gi, Gb, Gj, Gc, Gk, rfl, rfl, rfl, -⟩ := OwnC.open hO
  have Tn := Lib.hid (below_next T.out hb)
  have An := Lib.hid (BoxV.below A.out hb)
  have WBn := Lib.hid (Bx.below WB.out hb)
  have SBn := Lib.hid (BoxV.below SB.out hb)
  have Sn := Lib.hid (OwnR.below S.out hb)
  have Wn := Lib.hid (OwnC.below W.out hb)
  have G := Lib.hid hO
  have HLOG := Lib.hid hlo
  clear hb hO hh hlo hhi e0 e1 e2 e3 e4
  clear T A WB SB S W
  have T := Tn
  have A := An
  have WB := WBn
  have SB := SBn
  have S := Sn
  have W := Wn
  clear Tn An WBn SBn Sn Wn
  have hltAHG := BoxV.lt A.out
  have hltWBHG := Bx.lt WB.out
  have hltSBHG := BoxV.lt SB.out
  have hltWHG := W.out.2.2.1
  have hltGHG := G.out.2.2.1
  have hWHG := T.out.size
  obtain ⟨HG, hHG⟩ : ∃ HG, Array.size (World.heap wn) = HG := ⟨_, rfl⟩
  have HHG : Hid _ := hHG
  rw [hHG] at hWHG hltAHG hltWBHG hltSBHG hltWHG hltGHG
  have GB : Hid (Bx (wn.alloc (.cells #[.slice Ga x.u.length Gi, .slice Gb x.d.length Gj, .slice Gc x.c.length Gk] 36)) HG (.slice Ga x.u.length Gi) (.slice Gb x.d.length Gj) (.slice Gc x.c.length Gk)) := by rw [← hHG]; exact Bx.new _ _ _ _ _
  clear hHG
  have Tn : Hid (Below w.heap.size w _) := Below.al T.out (.cells #[.slice Ga x.u.length Gi, .slice Gb x.d.length Gj, .slice Gc x.c.length Gk] 36)
  have An : Hid _ := BoxV.below A.out ((Below.refl _ _).alloc (Nat.le_refl _) (.cells #[.slice Ga x.u.length Gi, .slice Gb x.d.length Gj, .slice Gc x.c.length Gk] 36))
  have WBn : Hid _ := Bx.below WB.out ((Below.refl _ _).alloc (Nat.le_refl _) (.cells #[.slice Ga x.u.length Gi, .slice Gb x.d.length Gj, .slice Gc x.c.length Gk] 36))
  have SBn : Hid _ := BoxV.below SB.out ((Below.refl _ _).alloc (Nat.le_refl _) (.cells #[.slice Ga x.u.length Gi, .slice Gb x.d.length Gj, .slice Gc x.c.length Gk] 36))
  have Sn : Hid _ := OwnR.below S.out ((Below.refl _ _).alloc (Nat.le_refl _) (.cells #[.slice Ga x.u.length Gi, .slice Gb x.d.length Gj, .slice Gc x.c.length Gk] 36))
  have Wn : Hid _ := OwnC.below W.out ((Below.refl _ _).alloc (Nat.le_refl _) (.cells #[.slice Ga x.u.length Gi, .slice Gb x.d.length Gj, .slice Gc x.c.length Gk] 36))
  have Gn : Hid _ := OwnC.below G.out ((Below.refl _ _).alloc (Nat.le_refl _) (.cells #[.slice Ga x.u.length Gi, .slice Gb x.d.length Gj, .slice Gc x.c.length Gk] 36))
  clear T A WB SB S W G
  have T := Tn
  have A := An
  have WB := WBn
  have SB := SBn
  have S := Sn
  have W := Wn
  have G := Gn
  clear Tn An WBn SBn Sn Wn Gn
  go_upto_region 8 with fail
  rw [HHG.out]
  generalize wn.alloc (.cells #[.slice Ga x.u.length Gi, .slice Gb x.d.length Gj, .slice Gc x.c.length Gk] 36) = w0 at *
  obtain ⟨wn, hwq⟩ : ∃ w9 : World, w9 = w0 := ⟨_, rfl⟩
  subst hwq
  clear HHG HLOG
  obtain ⟨⟨p0, p1, p2⟩, -⟩ := GB.out
  obtain ⟨⟨q0, q1, q2⟩, -⟩ := WB.out
  go_wp2_with fail
  refine Calls.mono (eqCalls_t Ga x.u.length Gi Gb x.d.length Gj Gc x.c.length Gk Wa x.u.length Wi Wb x.d.length Wj Wc x.c.length Wk x _ (OwnC.cal G.out) (OwnC.cal W.out) (by omega) (by omega) (by omega)) ?_
  intro e wn hh
  obtain ⟨he, hb⟩ := (by first | exact hh | exact Ro.mk hh | exact St.mk hh | exact LawOk.mk' hh : Mk _ _ e wn)
  subst he
  have Tn : Hid (Below w.heap.size w wn) := below_next T.out hb
  have An : Hid _ := BoxV.below A.out hb
  have WBn : Hid _ := Bx.below WB.out hb
  have SBn : Hid _ := BoxV.below SB.out hb
  have GBn : Hid _ := Bx.below GB.out hb
  have Sn : Hid _ := OwnR.below S.out hb
  have Wn : Hid _ := OwnC.below W.out hb
  have Gn : Hid _ := OwnC.below G.out hb
  clear hb hh p0 p1 p2 q0 q1 q2
  clear T A WB SB GB S W G
  have T := Tn
  have A := An
  have WB := WBn
  have SB := SBn
  have GB := GBn
  have S := Sn
  have W := Wn
  have G := Gn
  clear Tn An WBn SBn GBn Sn Wn Gn
  go_upto_region 10 with fail
  refine wp_region_tg [27, 28, 29, 30, 31]
    [(27, tV (.agg #[.int .i64 n, .int .i64 m, .int .i64 f, .int .i64 d, .slice Sa k Sc])), (28, tV (.agg #[.int .i64 n, .int .i64 m, .int .i64 f, .int .i64 d, .slice a k c])), (29, tT ⟨n, m, f, d, l⟩ k), (30, tV (.bool true)), (31, tV (.bool false))]
    (by kernel_rfl) (by kernel_rfl) (by kernel_rfl) (by kernel_rfl) (by kernel_rfl) (by kernel_rfl) ⟨StW.g (StW.V _), StW.g (StW.V _), StGrow.T _ _, StW.g (StW.V _), StW.g (StW.V _), trivial⟩ ?hob27 ?_
  case hob27 =>
    refine ⟨?_, ?_, ?_, ?_, ?_, trivial⟩
    · intro w1 vs hC hP hL
      refine ⟨fun hw => ?_, fun hw => ?_⟩
      · clear hw
        have u5 : vs 5 = .pointer (some ⟨HS, 0, none⟩) := hP 5 (by kernel_rfl)
        have SB9 := BoxV.below SB.out hC
        have e0 := (SB9.2 0 _ rfl).1
        have e1 := (SB9.2 1 _ rfl).1
        have e2 := (SB9.2 2 _ rfl).1
        have e3 := (SB9.2 3 _ rfl).1
        have e4 := (SB9.2 4 _ rfl).1
        clear SB9
        go_simp
        simp only [evOf_tmp, evOf_const, u5]
        go_simp
        exact oa_pure hC (show tV _ _ w1 from rfl)
      · exact absurd hw (fun e => (by cases (show true = false from e)))
    · intro w1 vs hC hP hL
      refine ⟨fun hw => ?_, fun hw => ?_⟩
      · clear hw
        have u1 : vs 1 = .pointer (some ⟨g, 0, none⟩) := hP 1 (by kernel_rfl)
        have A9 := BoxV.below A.out hC
        have c0 := (A9.2 0 _ rfl).1
        have c1 := (A9.2 1 _ rfl).1
        have c2 := (A9.2 2 _ rfl).1
        have c3 := (A9.2 3 _ rfl).1
        have c4 := (A9.2 4 _ rfl).1
        clear A9
        go_simp
        simp only [evOf_tmp, evOf_const, u1]
        go_simp
        exact oa_pure hC (show tV _ _ w1 from rfl)
      · exact absurd hw (fun e => (by cases (show true = false from e)))
    · intro w1 vs hC hP hL
      refine ⟨fun hw => ?_, fun hw => ?_⟩
      · clear hw
        have u28 : vs 28 = .agg #[.int .i64 n, .int .i64 m, .int .i64 f, .int .i64 d, .slice a k c] := hL 28 (by kernel_rfl)
        go_simp
        simp only [evOf_tmp, u28]
        exact oa_call hC (Calls.mono (toTrip_c n m f d a k c l _ (Rid.below X0.out (below_next T.out hC)) hk2) (fun e w2 hh => (by obtain ⟨v, he, hO, hb⟩ := hh; obtain ⟨a9, c9, rfl, -, -⟩ := OwnR.open hO; have h9 := OwnR.rid hO; rw [show List.length (Tp.rs ⟨n, m, f, d, l⟩) = k from HL.out] at h9 he; exact ⟨_, he, (show tT ⟨n, m, f, d, l⟩ k _ w2 from ⟨a9, c9, rfl, h9⟩), hb⟩)))
      · exact absurd hw (fun e => (by cases (show true = false from e)))
    · intro w1 vs hC hP hL
      refine ⟨fun hw => ?_, fun hw => ?_⟩
      · clear hw
        have u27 : vs 27 = .agg #[.int .i64 n, .int .i64 m, .int .i64 f, .int .i64 d, .slice Sa k Sc] := hL 27 (by kernel_rfl)
        have u29 : tT ⟨n, m, f, d, l⟩ k (vs 29) w1 := hL 29 (by kernel_rfl)
        obtain ⟨p29, i29, u29, hF29⟩ := u29
        go_simp
        simp only [evOf_tmp, u27, u29]
        exact oa_call hC (Calls.mono (eqTrip_t n m f d _ _ _ _ _ l _ (OwnR.rid (OwnR.below S.out hC)) hF29 (by omega)) (fun e w2 hh => (by obtain ⟨he, hb⟩ := (by first | exact hh | exact Ro.mk hh | exact St.mk hh : Mk _ _ e w2); exact ⟨_, he, (show tV _ _ w2 from rfl), hb⟩)))
      · exact absurd hw (fun e => (by cases (show true = false from e)))
    · intro w1 vs hC hP hL
      refine ⟨fun hw => ?_, fun hw => ?_⟩
      · clear hw
        have u30 : vs 30 = .bool true := hL 30 (by kernel_rfl)
        go_simp
        simp only [evOf_tmp, evOf_const, u30]
        go_simp
        exact oa_pure hC (show tV _ _ w1 from rfl)
      · exact absurd hw (fun e => (by cases (show true = false from e)))
  intro vs wq hq hT
  have t1 : vs 31 = .bool false := hT 31 rfl
  simp (decide := true) only [over, Nat.reduceAdd, if_true, if_false]
  rw [t1]
  clear hT t1
  have Tn := Lib.hid (below_next T.out hq)
  have An := Lib.hid (BoxV.below A.out hq)
  have WBn := Lib.hid (Bx.below WB.out hq)
  have SBn := Lib.hid (BoxV.below SB.out hq)
  have GBn := Lib.hid (Bx.below GB.out hq)
  have Sn := Lib.hid (OwnR.below S.out hq)
  have Wn := Lib.hid (OwnC.below W.out hq)
  have Gn := Lib.hid (OwnC.below G.out hq)
  clear hq
  clear T A WB SB GB S W G
  have T := Tn
  have A := An
  have WB := WBn
  have SB := SBn
  have GB := GBn
  have S := Sn
  have W := Wn
  have G := Gn
  clear Tn An WBn SBn GBn Sn Wn Gn
  obtain ⟨wn, hwq⟩ : ∃ w0, w0 = wq := ⟨_, rfl⟩
  subst hwq
  have e0 := (SB.out.2 0 _ rfl).1
  have e1 := (SB.out.2 1 _ rfl).1
  have e2 := (SB.out.2 2 _ rfl).1
  have e3 := (SB.out.2 3 _ rfl).1
  have e4 := (SB.out.2 4 _ rfl).1
  go_wp2_with fail
  refine Calls.mono (markTrip_c n m f d Sa k Sc 1 (rfl3 l) loS loS HS _ S.out (by omega) (by omega) hBS.out) ?_
  rintro e wq ⟨rfl, hO, ho⟩
  clear e0 e1 e2 e3 e4
  have Tn := Lib.hid (Out.below T.out ho (by omega))
  have An := Lib.hid (BoxV.out A.out ho (.inl (by omega)))
  have WBn := Lib.hid (Bx.out WB.out ho (by omega))
  have SBn := Lib.hid (BoxV.out SB.out ho (by omega))
  have GBn := Lib.hid (Bx.out GB.out ho (by omega))
  have Sn := Lib.hid hO
  have Wn := Lib.hid (OwnC.out W.out ho (by omega))
  have Gn := Lib.hid (OwnC.out G.out ho (by omega))
  clear hO ho T A WB SB GB S W G
  have T := Tn
  have A := An
  have WB := WBn
  have SB := SBn
  have GB := GBn
  have S := Sn
  have W := Wn
  have G := Gn
  clear Tn An WBn SBn GBn Sn Wn Gn
  rw [HZ2.out]
  obtain ⟨wn, hwq⟩ : ∃ w9 : World, w9 = wq := ⟨_, rfl⟩
  subst hwq
  clear S SB
  obtain ⟨⟨p0, p1, p2⟩, -⟩ := GB.out
  obtain ⟨⟨q0, q1, q2⟩, -⟩ := WB.out
  go_wp2_with fail
  refine Calls.mono (eqCalls_t Ga x.u.length Gi Gb x.d.length Gj Gc x.c.length Gk Wa x.u.length Wi Wb x.d.length Wj Wc x.c.length Wk x _ (OwnC.cal G.out) (OwnC.cal W.out) (by omega) (by omega) (by omega)) ?_
  intro e wn hh
  obtain ⟨he, hb⟩ := (by first | exact hh | exact Ro.mk hh | exact St.mk hh | exact LawOk.mk' hh : Mk _ _ e wn)
  subst he
  have Tn : Hid (Below w.heap.size w wn) := below_next T.out hb
  have An : Hid _ := BoxV.below A.out hb
  have WBn : Hid _ := Bx.below WB.out hb
  have GBn : Hid _ := Bx.below GB.out hb
  have Wn : Hid _ := OwnC.below W.out hb
  have Gn : Hid _ := OwnC.below G.out hb
  clear hb hh p0 p1 p2 q0 q1 q2
  clear T A WB GB W G
  have T := Tn
  have A := An
  have WB := WBn
  have GB := GBn
  have W := Wn
  have G := Gn
  clear Tn An WBn GBn Wn Gn
  obtain ⟨⟨q0, q1, q2⟩, -⟩ := GB.out
  go_wp2_with fail
  refine Calls.mono (markCalls_c Ga x.u.length Gi Gb x.d.length Gj Gc x.c.length Gk 1 x loG hiG _ G.out (by omega) s1) ?_
  rintro e wn ⟨rfl, hO, ho⟩
  have Tn := Lib.hid (Out.below T.out ho (by omega))
  have An := Lib.hid (BoxV.out A.out ho (by omega))
  have WBn := Lib.hid (Bx.out WB.out ho (by omega))
  have GBn := Lib.hid (Bx.out GB.out ho (by omega))
  have Wn := Lib.hid (OwnC.out W.out ho (by omega))
  have Gn := Lib.hid hO
  clear hO ho q0 q1 q2
  clear T A WB GB W G
  have T := Tn
  have A := An
  have WB := WBn
  have GB := GBn
  have W := Wn
  have G := Gn
  clear Tn An WBn GBn Wn Gn
  rw [HZ1.out]
  obtain ⟨⟨q0, q1, q2⟩, -⟩ := GB.out
  have HK9 := Lib.hid (heldCalls_c Ga x.u.length Gi Gb x.d.length Gj Gc x.c.length Gk 1 wn (OwnC.cal G.out) (by omega) s1)
  rw [HZ1.out] at HK9
  go_wp2_with fail
  refine Calls.mono (HK9.out) ?_
  intro e wn hh
  obtain ⟨he, hb⟩ := (by first | exact hh | exact Ro.mk hh | exact St.mk hh | exact LawOk.mk' hh : Mk _ _ e wn)
  subst he
  have Tn : Hid (Below w.heap.size w wn) := below_next T.out hb
  have An : Hid _ := BoxV.below A.out hb
  have WBn : Hid _ := Bx.below WB.out hb
  have GBn : Hid _ := Bx.below GB.out hb
  have Wn : Hid _ := OwnC.below W.out hb
  have Gn : Hid _ := OwnC.below G.out hb
  clear hb hh q0 q1 q2
  clear T A WB GB W G
  have T := Tn
  have A := An
  have WB := WBn
  have GB := GBn
  have W := Wn
  have G := Gn
  clear Tn An WBn GBn Wn Gn
  clear HK9
  have c0 := (A.out.2 0 _ rfl).1
  have c1 := (A.out.2 1 _ rfl).1
  have c2 := (A.out.2 2 _ rfl).1
  have c3 := (A.out.2 3 _ rfl).1
  have c4 := (A.out.2 4 _ rfl).1
  go_wp2_with fail
  refine Calls.mono (toTrip_c n m f d a k c l _ (Rid.below X0.out T.out) hk2) ?_
  intro e wq hh
  obtain ⟨v2, he, hO2, hb3⟩ := hh
  subst he
  rw [show List.length (Tp.rs ⟨n, m, f, d, l⟩) = k from HL.out] at hO2
  obtain ⟨p9, q9, hv, -, -⟩ := OwnR.open hO2
  subst hv
  have P9 := Lib.hid (OwnR.rid hO2)
  clear hO2 c0 c1 c2 c3 c4
  have Tn := Lib.hid (below_next T.out hb3)
  have An := Lib.hid (BoxV.below A.out hb3)
  have WBn := Lib.hid (Bx.below WB.out hb3)
  have GBn := Lib.hid (Bx.below GB.out hb3)
  have Wn := Lib.hid (OwnC.below W.out hb3)
  have Gn := Lib.hid (OwnC.below G.out hb3)
  clear hb3
  clear T A WB GB W G
  have T := Tn
  have A := An
  have WB := WBn
  have GB := GBn
  have W := Wn
  have G := Gn
  clear Tn An WBn GBn Wn Gn
  obtain ⟨wn, hwq⟩ : ∃ w0, w0 = wq := ⟨_, rfl⟩
  subst hwq
  skip
  go_wp2_with fail
  refine Calls.mono (HKI.out _ p9 q9 P9.out) ?_
  intro e wn hh
  obtain ⟨v1, v2, v3, loH, hiH, rfl, hO, hb, hlo, hhi⟩ := NewC.get hh
  have hTH : w.heap.size ≤ loH := by rw [← hlo]; exact T.out.size
  have hltAH := BoxV.lt A.out
  rw [hlo] at hltAH
  have hltWBH := Bx.lt WB.out
  rw [hlo] at hltWBH
  have hltGBH := Bx.lt GB.out
  rw [hlo] at hltGBH
  have hhWH := W.out.2.2.1
  rw [hlo] at hhWH
  have hhGH := G.out.2.2.1
  rw [hlo] at hhGH
  have hlhH : loH ≤ hiH := by rw [← hlo, ← hhi]; exact hb.size
  obtain ⟨Ha, Hi, Hb, Hj, Hc, Hk, rfl, rfl, rfl, -⟩ := OwnC.open hO
  have Tn := Lib.hid (below_next T.out hb)
  have An := Lib.hid (BoxV.below A.out hb)
  have WBn := Lib.hid (Bx.below WB.out hb)
  have GBn := Lib.hid (Bx.below GB.out hb)
  have Wn := Lib.hid (OwnC.below W.out hb)
  have Gn := Lib.hid (OwnC.below G.out hb)
  have P9n := Lib.hid (Rid.below P9.out hb)
  have H := Lib.hid hO
  have HLOH := Lib.hid hlo
  clear hb hO hh hlo hhi
  clear T A WB GB W G P9
  have T := Tn
  have A := An
  have WB := WBn
  have GB := GBn
  have W := Wn
  have G := Gn
  have P9 := P9n
  clear Tn An WBn GBn Wn Gn P9n
  have hltAHH := BoxV.lt A.out
  have hltWBHH := Bx.lt WB.out
  have hltGBHH := Bx.lt GB.out
  have hltWHH := W.out.2.2.1
  have hltGHH := G.out.2.2.1
  have hltHHH := H.out.2.2.1
  have hWHH := T.out.size
  obtain ⟨HH, hHH⟩ : ∃ HH, Array.size (World.heap wn) = HH := ⟨_, rfl⟩
  have HHH : Hid _ := hHH
  rw [hHH] at hWHH hltAHH hltWBHH hltGBHH hltWHH hltGHH hltHHH
  have HB : Hid (Bx (wn.alloc (.cells #[.slice Ha x.u.length Hi, .slice Hb x.d.length Hj, .slice Hc x.c.length Hk] 36)) HH (.slice Ha x.u.length Hi) (.slice Hb x.d.length Hj) (.slice Hc x.c.length Hk)) := by rw [← hHH]; exact Bx.new _ _ _ _ _
  clear hHH
  have Tn : Hid (Below w.heap.size w _) := Below.al T.out (.cells #[.slice Ha x.u.length Hi, .slice Hb x.d.length Hj, .slice Hc x.c.length Hk] 36)
  have An : Hid _ := BoxV.below A.out ((Below.refl _ _).alloc (Nat.le_refl _) (.cells #[.slice Ha x.u.length Hi, .slice Hb x.d.length Hj, .slice Hc x.c.length Hk] 36))
  have WBn : Hid _ := Bx.below WB.out ((Below.refl _ _).alloc (Nat.le_refl _) (.cells #[.slice Ha x.u.length Hi, .slice Hb x.d.length Hj, .slice Hc x.c.length Hk] 36))
  have GBn : Hid _ := Bx.below GB.out ((Below.refl _ _).alloc (Nat.le_refl _) (.cells #[.slice Ha x.u.length Hi, .slice Hb x.d.length Hj, .slice Hc x.c.length Hk] 36))
  have Wn : Hid _ := OwnC.below W.out ((Below.refl _ _).alloc (Nat.le_refl _) (.cells #[.slice Ha x.u.length Hi, .slice Hb x.d.length Hj, .slice Hc x.c.length Hk] 36))
  have Gn : Hid _ := OwnC.below G.out ((Below.refl _ _).alloc (Nat.le_refl _) (.cells #[.slice Ha x.u.length Hi, .slice Hb x.d.length Hj, .slice Hc x.c.length Hk] 36))
  have P9n : Hid _ := Rid.below P9.out ((Below.refl _ _).alloc (Nat.le_refl _) (.cells #[.slice Ha x.u.length Hi, .slice Hb x.d.length Hj, .slice Hc x.c.length Hk] 36))
  have Hn : Hid _ := OwnC.below H.out ((Below.refl _ _).alloc (Nat.le_refl _) (.cells #[.slice Ha x.u.length Hi, .slice Hb x.d.length Hj, .slice Hc x.c.length Hk] 36))
  clear T A WB GB W G P9 H
  have T := Tn
  have A := An
  have WB := WBn
  have GB := GBn
  have W := Wn
  have G := Gn
  have P9 := P9n
  have H := Hn
  clear Tn An WBn GBn Wn Gn P9n Hn
  go_upto_region 25 with fail
  rw [HHH.out]
  generalize wn.alloc (.cells #[.slice Ha x.u.length Hi, .slice Hb x.d.length Hj, .slice Hc x.c.length Hk] 36) = w0 at *
  obtain ⟨wn, hwq⟩ : ∃ w9 : World, w9 = w0 := ⟨_, rfl⟩
  subst hwq
  clear HHH HLOH
  clear P9
  obtain ⟨⟨p0, p1, p2⟩, -⟩ := HB.out
  obtain ⟨⟨q0, q1, q2⟩, -⟩ := WB.out
  go_wp2_with fail
  refine Calls.mono (eqCalls_t Ha x.u.length Hi Hb x.d.length Hj Hc x.c.length Hk Wa x.u.length Wi Wb x.d.length Wj Wc x.c.length Wk x _ (OwnC.cal H.out) (OwnC.cal W.out) (by omega) (by omega) (by omega)) ?_
  intro e wn hh
  obtain ⟨he, hb⟩ := (by first | exact hh | exact Ro.mk hh | exact St.mk hh | exact LawOk.mk' hh : Mk _ _ e wn)
  subst he
  have Tn : Hid (Below w.heap.size w wn) := below_next T.out hb
  have An : Hid _ := BoxV.below A.out hb
  have WBn : Hid _ := Bx.below WB.out hb
  have GBn : Hid _ := Bx.below GB.out hb
  have HBn : Hid _ := Bx.below HB.out hb
  have Wn : Hid _ := OwnC.below W.out hb
  have Gn : Hid _ := OwnC.below G.out hb
  have Hn : Hid _ := OwnC.below H.out hb
  clear hb hh p0 p1 p2 q0 q1 q2
  clear T A WB GB HB W G H
  have T := Tn
  have A := An
  have WB := WBn
  have GB := GBn
  have HB := HBn
  have W := Wn
  have G := Gn
  have H := Hn
  clear Tn An WBn GBn HBn Wn Gn Hn
  obtain ⟨⟨q0, q1, q2⟩, -⟩ := GB.out
  have HK9 := Lib.hid (heldCalls_c Ga x.u.length Gi Gb x.d.length Gj Gc x.c.length Gk 1 wn (OwnC.cal G.out) (by omega) s1)
  rw [HZ1.out] at HK9
  go_wp2_with fail
  refine Calls.mono (HK9.out) ?_
  intro e wn hh
  obtain ⟨he, hb⟩ := (by first | exact hh | exact Ro.mk hh | exact St.mk hh | exact LawOk.mk' hh : Mk _ _ e wn)
  subst he
  have Tn : Hid (Below w.heap.size w wn) := below_next T.out hb
  have An : Hid _ := BoxV.below A.out hb
  have WBn : Hid _ := Bx.below WB.out hb
  have GBn : Hid _ := Bx.below GB.out hb
  have HBn : Hid _ := Bx.below HB.out hb
  have Wn : Hid _ := OwnC.below W.out hb
  have Gn : Hid _ := OwnC.below G.out hb
  have Hn : Hid _ := OwnC.below H.out hb
  clear hb hh q0 q1 q2
  clear T A WB GB HB W G H
  have T := Tn
  have A := An
  have WB := WBn
  have GB := GBn
  have HB := HBn
  have W := Wn
  have G := Gn
  have H := Hn
  clear Tn An WBn GBn HBn Wn Gn Hn
  clear HK9
  go_wp2_with fail
  go_ret
  first | exact LawOk.mk T.out | exact LawOk.mk (Below.dr T.out _)
end Go.Proofs.Ytfhhgddajmihjaa
