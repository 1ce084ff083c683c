/- The exact laws of TripEnd and TripStep: the walks. -/
import Derived.Test.Ytfhhgddajmihjaa11RX
namespace Go.Proofs.Ytfhhgddajmihjaa
open Go.RowKit
set_option linter.unusedVariables false
set_option linter.unusedSimpArgs false
set_option maxRecDepth 100000

theorem OwnR.rs0 {E : TypeId} {k : Nat} {w : World} {B n c : Nat} {a : Option Addr} {xs : List Int} (h : OwnR E k w B (.slice a n c) n xs) : RS k w a n xs := by
  obtain ⟨a', c', e', hrs, -⟩ := OwnR.open h
  simp only [Value.slice.injEq] at e'
  obtain ⟨rfl, -, rfl⟩ := e'
  exact hrs

set_option maxRecDepth 100000 in
set_option maxHeartbeats 16000000 in
theorem ExactTripEnd_w (n m f d : Int) (a : Option Addr) (k c : Nat) (l : List Ri) (w : World) (hX : Rid w a k l) (hk : k ≤ maxLen) : Calls Try.prog 12 #[.agg #[.int .i64 n, .int .i64 m, .int .i64 f, .int .i64 d, .slice a k c]] w (LawOk w) := by
  have HL := Lib.hid hX.2
  have X0 := Lib.hid hX
  have KZ := fun w' => szTrip_c n m f d a k c w' hk
  clear hX
  by_cases hk2 : k ≤ 1048576
  case neg =>
    rw [show szT k = -1 from by unfold szT; rw [if_neg (by omega)]] at KZ
    have HZ := Lib.hid KZ
    clear KZ
    refine at_base fun wn hwn => ?_
    have T := Lib.hid (show Below w.heap.size w wn from by rw [hwn]; exact Below.refl _ _)
    clear hwn
    obtain ⟨g, hg⟩ : ∃ g, Array.size (World.heap wn) = g := ⟨_, rfl⟩
    have HGg := Lib.hid hg
    have hTg : w.heap.size ≤ g := by rw [← hg]; exact T.out.size
    have Tn := Lib.hid (show Below w.heap.size w (wn.alloc (.cells #[.int .i64 n, .int .i64 m, .int .i64 f, .int .i64 d, .slice a k c] 50)) from (Below.al T.out (.cells #[.int .i64 n, .int .i64 m, .int .i64 f, .int .i64 d, .slice a k c] 50)))
    have A := Lib.hid (show BoxV (wn.alloc (.cells #[.int .i64 n, .int .i64 m, .int .i64 f, .int .i64 d, .slice a k c] 50)) g [.int .i64 n, .int .i64 m, .int .i64 f, .int .i64 d, .slice a k c] from by have h9 := (BoxV.new wn [.int .i64 n, .int .i64 m, .int .i64 f, .int .i64 d, .slice a k c] 50 (by simp) rfl); simp only [World.size_alloc, hg, Nat.add_assoc, Nat.reduceAdd] at h9; exact h9)
    have HZg := Lib.hid (show ((wn.alloc (.cells #[.int .i64 n, .int .i64 m, .int .i64 f, .int .i64 d, .slice a k c] 50))).heap.size = g + 1 from by simp only [World.size_alloc, hg, Nat.add_assoc, Nat.reduceAdd])
    clear hg
    clear T
    have T := Tn
    clear Tn
    go_enter Try.func12, Try.ntmps12
    have c0 := (A.out.2 0 _ rfl).1
    have c1 := (A.out.2 1 _ rfl).1
    have c2 := (A.out.2 2 _ rfl).1
    have c3 := (A.out.2 3 _ rfl).1
    have c4 := (A.out.2 4 _ rfl).1
    go_wp2_with fail
    rw [HGg.out]
    refine Calls.mono (HZ.out _) ?_
    intro e wn hh
    obtain ⟨he, hb⟩ := (by first | exact hh | exact Ro.mk hh | exact St.mk hh | exact LawOk.mk' hh : Mk _ _ e wn)
    subst he
    have Tn : Hid (Below w.heap.size w wn) := below_next T.out hb
    have An : Hid _ := BoxV.below A.out hb
    clear hb hh c0 c1 c2 c3 c4
    clear T A
    have T := Tn
    have A := An
    clear Tn An
    go_wp2_with fail
    go_ret
    first | exact LawOk.mk T.out | exact LawOk.mk (Below.dr T.out _)
  obtain ⟨z, hz⟩ : ∃ z : Nat, szT k = z := ⟨1048576 - k, by unfold szT; rw [if_pos (by omega)]; omega⟩
  rw [hz] at KZ
  have HZ := Lib.hid KZ
  have hzn : ¬ (z : Int) < 0 := by omega
  clear KZ hz
  have hyl : (teT ⟨n, m, f, d, l⟩).rs.length ≤ 1048576 := by
    by_cases g : TOk ⟨n, m, f, d, l⟩
    · have := (te_ok g).2.2.2.2.1; omega
    · rw [teT_f g]; simp
  have KS := fun w' (a' : Option Addr) (c' : Nat) (h : Rid w' a' k l) => sTripEnd_c n m f d a' k c' l w' h (by omega)
  have KI := fun w' (a' : Option Addr) (c' : Nat) (h : Rid w' a' k l) => iTripEnd_c n m f d a' k c' l w' h (by omega)
  obtain ⟨y, hy⟩ : ∃ y, teT ⟨n, m, f, d, l⟩ = y := ⟨_, rfl⟩
  rw [hy] at KS KI hyl
  obtain ⟨k2, hk⟩ : ∃ k2, y.rs.length = k2 := ⟨_, rfl⟩
  rw [hk] at hyl
  have HK2 := Lib.hid hk
  have HKS := Lib.hid KS
  have HKI := Lib.hid KI
  obtain ⟨z1, hz1⟩ : ∃ z, 1 + k2 * 3 = z := ⟨_, rfl⟩
  obtain ⟨z2, hz2⟩ : ∃ z, 1 + k * 3 = z := ⟨_, rfl⟩
  have HZ1 := Lib.hid hz1
  have HZ2 := Lib.hid hz2
  have hzn1 : ¬ (z1 : Int) < 0 := by omega
  have hzn2 : ¬ (z2 : Int) < 0 := by omega
  have hzz : ((z1 : Int) != (z1 : Int)) = false := by simp
  clear KS KI hy hk hz1 hz2
  refine at_base fun wn hwn => ?_
  have T := Lib.hid (show Below w.heap.size w wn from by rw [hwn]; exact Below.refl _ _)
  clear hwn
  obtain ⟨g, hg⟩ : ∃ g, Array.size (World.heap wn) = g := ⟨_, rfl⟩
  have HGg := Lib.hid hg
  have hTg : w.heap.size ≤ g := by rw [← hg]; exact T.out.size
  have Tn := Lib.hid (show Below w.heap.size w (wn.alloc (.cells #[.int .i64 n, .int .i64 m, .int .i64 f, .int .i64 d, .slice a k c] 50)) from (Below.al T.out (.cells #[.int .i64 n, .int .i64 m, .int .i64 f, .int .i64 d, .slice a k c] 50)))
  have A := Lib.hid (show BoxV (wn.alloc (.cells #[.int .i64 n, .int .i64 m, .int .i64 f, .int .i64 d, .slice a k c] 50)) g [.int .i64 n, .int .i64 m, .int .i64 f, .int .i64 d, .slice a k c] from by have h9 := (BoxV.new wn [.int .i64 n, .int .i64 m, .int .i64 f, .int .i64 d, .slice a k c] 50 (by simp) rfl); simp only [World.size_alloc, hg, Nat.add_assoc, Nat.reduceAdd] at h9; exact h9)
  have HZg := Lib.hid (show ((wn.alloc (.cells #[.int .i64 n, .int .i64 m, .int .i64 f, .int .i64 d, .slice a k c] 50))).heap.size = g + 1 from by simp only [World.size_alloc, hg, Nat.add_assoc, Nat.reduceAdd])
  clear hg
  clear T
  have T := Tn
  clear Tn
  go_enter Try.func12, Try.ntmps12
  have c0 := (A.out.2 0 _ rfl).1
  have c1 := (A.out.2 1 _ rfl).1
  have c2 := (A.out.2 2 _ rfl).1
  have c3 := (A.out.2 3 _ rfl).1
  have c4 := (A.out.2 4 _ rfl).1
  go_wp2_with fail
  rw [HGg.out]
  refine Calls.mono (HZ.out _) ?_
  intro e wn hh
  obtain ⟨he, hb⟩ := (by first | exact hh | exact Ro.mk hh | exact St.mk hh | exact LawOk.mk' hh : Mk _ _ e wn)
  subst he
  have Tn : Hid (Below w.heap.size w wn) := below_next T.out hb
  have An : Hid _ := BoxV.below A.out hb
  clear hb hh c0 c1 c2 c3 c4
  clear T A
  have T := Tn
  have A := An
  clear Tn An
  clear HZ
  have c0 := (A.out.2 0 _ rfl).1
  have c1 := (A.out.2 1 _ rfl).1
  have c2 := (A.out.2 2 _ rfl).1
  have c3 := (A.out.2 3 _ rfl).1
  have c4 := (A.out.2 4 _ rfl).1
  go_wp2_with fail
  refine Calls.mono (toTrip_c n m f d a k c l _ (Rid.below X0.out T.out) hk2) ?_
  intro e wq hh
  obtain ⟨v2, he, hO2, hb3⟩ := hh
  subst he
  rw [show List.length (Tp.rs ⟨n, m, f, d, l⟩) = k from HL.out] at hO2
  obtain ⟨p9, q9, hv, -, -⟩ := OwnR.open hO2
  subst hv
  have P9 := Lib.hid (OwnR.rid hO2)
  clear hO2 c0 c1 c2 c3 c4
  have Tn := Lib.hid (below_next T.out hb3)
  have An := Lib.hid (BoxV.below A.out hb3)
  clear hb3
  clear T A
  have T := Tn
  have A := An
  clear Tn An
  obtain ⟨wn, hwq⟩ : ∃ w0, w0 = wq := ⟨_, rfl⟩
  subst hwq
  skip
  go_wp2_with fail
  obtain ⟨loW, hloW⟩ : ∃ q, wn.heap.size = q := ⟨_, rfl⟩
  have hTW : w.heap.size ≤ loW := by rw [← hloW]; exact T.out.size
  have hltAW : g < loW := by rw [← hloW]; exact BoxV.lt A.out
  refine Calls.mono (HKS.out _ p9 q9 P9.out) ?_
  intro e wq hh
  obtain ⟨v2, he, hO2, hb3⟩ := hh
  subst he
  rw [show List.length (Tp.rs y) = k2 from HK2.out] at hO2
  obtain ⟨Wa, Wc, hv, -, -⟩ := OwnR.open hO2
  subst hv
  rw [hloW] at hO2
  have W := Lib.hid hO2
  clear hO2 hloW
  have Tn := Lib.hid (below_next T.out hb3)
  have An := Lib.hid (BoxV.below A.out hb3)
  have P9n := Lib.hid (Rid.below P9.out hb3)
  clear hb3
  clear T A P9
  have T := Tn
  have A := An
  have P9 := P9n
  clear Tn An P9n
  obtain ⟨wn, hwq⟩ : ∃ w0, w0 = wq := ⟨_, rfl⟩
  subst hwq
  have hrW := fun q hq => OwnR.lt W.out q hq
  have hltAHW := BoxV.lt A.out
  have hWHW := T.out.size
  obtain ⟨HW, hHW⟩ : ∃ HW, Array.size (World.heap wn) = HW := ⟨_, rfl⟩
  have HHW : Hid _ := hHW
  rw [hHW] at hWHW hltAHW
  have WB : Hid (BoxV (wn.alloc (.cells #[.int .i64 y.n, .int .i64 y.m, .int .i64 y.f, .int .i64 y.d, .slice Wa k2 Wc] 27)) HW [.int .i64 y.n, .int .i64 y.m, .int .i64 y.f, .int .i64 y.d, .slice Wa k2 Wc]) := by rw [← hHW]; exact BoxV.new _ _ _ (by simp) rfl
  clear hHW
  have Tn : Hid (Below w.heap.size w _) := Below.al T.out (.cells #[.int .i64 y.n, .int .i64 y.m, .int .i64 y.f, .int .i64 y.d, .slice Wa k2 Wc] 27)
  have An : Hid _ := BoxV.below A.out ((Below.refl _ _).alloc (Nat.le_refl _) (.cells #[.int .i64 y.n, .int .i64 y.m, .int .i64 y.f, .int .i64 y.d, .slice Wa k2 Wc] 27))
  have P9n : Hid _ := Rid.below P9.out ((Below.refl _ _).alloc (Nat.le_refl _) (.cells #[.int .i64 y.n, .int .i64 y.m, .int .i64 y.f, .int .i64 y.d, .slice Wa k2 Wc] 27))
  have Wn : Hid _ := OwnR.below W.out ((Below.refl _ _).alloc (Nat.le_refl _) (.cells #[.int .i64 y.n, .int .i64 y.m, .int .i64 y.f, .int .i64 y.d, .slice Wa k2 Wc] 27))
  clear T A P9 W
  have T := Tn
  have A := An
  have P9 := P9n
  have W := Wn
  clear Tn An P9n Wn
  have hBW := Lib.hid (show ∀ q, (Value.slice Wa k2 Wc).ownBlock = some q → loW ≤ q ∧ q < HW from fun q hq => by rw [← HHW.out]; exact hrW q hq)
  clear hrW
  go_upto_region 6 with fail
  rw [HHW.out]
  generalize hw9 : wn.alloc (.cells #[.int .i64 y.n, .int .i64 y.m, .int .i64 y.f, .int .i64 y.d, .slice Wa k2 Wc] 27) = w0 at *
  obtain ⟨wn, hwq⟩ : ∃ w9 : World, w9 = w0 := ⟨_, rfl⟩
  subst hwq
  clear HHW hw9
  clear P9
  have c0 := (A.out.2 0 _ rfl).1
  have c1 := (A.out.2 1 _ rfl).1
  have c2 := (A.out.2 2 _ rfl).1
  have c3 := (A.out.2 3 _ rfl).1
  have c4 := (A.out.2 4 _ rfl).1
  go_wp2_with fail
  obtain ⟨loS, hloS⟩ : ∃ q, wn.heap.size = q := ⟨_, rfl⟩
  have hTS : w.heap.size ≤ loS := by rw [← hloS]; exact T.out.size
  have hltAS : g < loS := by rw [← hloS]; exact BoxV.lt A.out
  have hltWBS : HW < loS := by rw [← hloS]; exact BoxV.lt WB.out
  refine Calls.mono (toTrip_c n m f d a k c l _ (Rid.below X0.out T.out) hk2) ?_
  intro e wq hh
  obtain ⟨v2, he, hO2, hb3⟩ := hh
  subst he
  rw [show List.length (Tp.rs ⟨n, m, f, d, l⟩) = k from HL.out] at hO2
  obtain ⟨Sa, Sc, hv, -, -⟩ := OwnR.open hO2
  subst hv
  rw [hloS] at hO2
  have S := Lib.hid hO2
  clear hO2 hloS
  have Tn := Lib.hid (below_next T.out hb3)
  have An := Lib.hid (BoxV.below A.out hb3)
  have WBn := Lib.hid (BoxV.below WB.out hb3)
  have Wn := Lib.hid (OwnR.below W.out hb3)
  clear hb3
  clear T A WB W
  have T := Tn
  have A := An
  have WB := WBn
  have W := Wn
  clear Tn An WBn Wn
  obtain ⟨wn, hwq⟩ : ∃ w0, w0 = wq := ⟨_, rfl⟩
  subst hwq
  have hrS := fun q hq => OwnR.lt S.out q hq
  have hltAHS := BoxV.lt A.out
  have hltWBHS := BoxV.lt WB.out
  have hWHS := T.out.size
  obtain ⟨HS, hHS⟩ : ∃ HS, Array.size (World.heap wn) = HS := ⟨_, rfl⟩
  have HHS : Hid _ := hHS
  rw [hHS] at hWHS hltAHS hltWBHS
  have SB : Hid (BoxV (wn.alloc (.cells #[.int .i64 n, .int .i64 m, .int .i64 f, .int .i64 d, .slice Sa k Sc] 27)) HS [.int .i64 n, .int .i64 m, .int .i64 f, .int .i64 d, .slice Sa k Sc]) := by rw [← hHS]; exact BoxV.new _ _ _ (by simp) rfl
  clear hHS
  have Tn : Hid (Below w.heap.size w _) := Below.al T.out (.cells #[.int .i64 n, .int .i64 m, .int .i64 f, .int .i64 d, .slice Sa k Sc] 27)
  have An : Hid _ := BoxV.below A.out ((Below.refl _ _).alloc (Nat.le_refl _) (.cells #[.int .i64 n, .int .i64 m, .int .i64 f, .int .i64 d, .slice Sa k Sc] 27))
  have WBn : Hid _ := BoxV.below WB.out ((Below.refl _ _).alloc (Nat.le_refl _) (.cells #[.int .i64 n, .int .i64 m, .int .i64 f, .int .i64 d, .slice Sa k Sc] 27))
  have Wn : Hid _ := OwnR.below W.out ((Below.refl _ _).alloc (Nat.le_refl _) (.cells #[.int .i64 n, .int .i64 m, .int .i64 f, .int .i64 d, .slice Sa k Sc] 27))
  have Sn : Hid _ := OwnR.below S.out ((Below.refl _ _).alloc (Nat.le_refl _) (.cells #[.int .i64 n, .int .i64 m, .int .i64 f, .int .i64 d, .slice Sa k Sc] 27))
  clear T A WB W S
  have T := Tn
  have A := An
  have WB := WBn
  have W := Wn
  have S := Sn
  clear Tn An WBn Wn Sn
  have hBS := Lib.hid (show ∀ q, (Value.slice Sa k Sc).ownBlock = some q → loS ≤ q ∧ q < HS from fun q hq => by rw [← HHS.out]; exact hrS q hq)
  clear hrS
  go_upto_region 7 with fail
  rw [HHS.out]
  generalize hw9 : wn.alloc (.cells #[.int .i64 n, .int .i64 m, .int .i64 f, .int .i64 d, .slice Sa k Sc] 27) = w0 at *
  obtain ⟨wn, hwq⟩ : ∃ w9 : World, w9 = w0 := ⟨_, rfl⟩
  subst hwq
  clear HHS hw9
  have e0 := (SB.out.2 0 _ rfl).1
  have e1 := (SB.out.2 1 _ rfl).1
  have e2 := (SB.out.2 2 _ rfl).1
  have e3 := (SB.out.2 3 _ rfl).1
  have e4 := (SB.out.2 4 _ rfl).1
  go_wp2_with fail
  obtain ⟨loG, hloG⟩ : ∃ q, wn.heap.size = q := ⟨_, rfl⟩
  have hTG : w.heap.size ≤ loG := by rw [← hloG]; exact T.out.size
  have hltAG : g < loG := by rw [← hloG]; exact BoxV.lt A.out
  have hltWBG : HW < loG := by rw [← hloG]; exact BoxV.lt WB.out
  have hltSBG : HS < loG := by rw [← hloG]; exact BoxV.lt SB.out
  refine Calls.mono (HKI.out _ Sa Sc (OwnR.rid S.out)) ?_
  intro e wq hh
  obtain ⟨v2, he, hO2, hb3⟩ := hh
  subst he
  rw [show List.length (Tp.rs y) = k2 from HK2.out] at hO2
  obtain ⟨Ga, Gc, hv, -, -⟩ := OwnR.open hO2
  subst hv
  rw [hloG] at hO2
  have G := Lib.hid hO2
  clear hO2 hloG
  have Tn := Lib.hid (below_next T.out hb3)
  have An := Lib.hid (BoxV.below A.out hb3)
  have WBn := Lib.hid (BoxV.below WB.out hb3)
  have SBn := Lib.hid (BoxV.below SB.out hb3)
  have Wn := Lib.hid (OwnR.below W.out hb3)
  have Sn := Lib.hid (OwnR.below S.out hb3)
  clear hb3
  clear T A WB SB W S
  have T := Tn
  have A := An
  have WB := WBn
  have SB := SBn
  have W := Wn
  have S := Sn
  clear Tn An WBn SBn Wn Sn
  obtain ⟨wn, hwq⟩ : ∃ w0, w0 = wq := ⟨_, rfl⟩
  subst hwq
  have hrG := fun q hq => OwnR.lt G.out q hq
  have hltAHG := BoxV.lt A.out
  have hltWBHG := BoxV.lt WB.out
  have hltSBHG := BoxV.lt SB.out
  have hWHG := T.out.size
  obtain ⟨HG, hHG⟩ : ∃ HG, Array.size (World.heap wn) = HG := ⟨_, rfl⟩
  have HHG : Hid _ := hHG
  rw [hHG] at hWHG hltAHG hltWBHG hltSBHG
  have GB : Hid (BoxV (wn.alloc (.cells #[.int .i64 y.n, .int .i64 y.m, .int .i64 y.f, .int .i64 y.d, .slice Ga k2 Gc] 27)) HG [.int .i64 y.n, .int .i64 y.m, .int .i64 y.f, .int .i64 y.d, .slice Ga k2 Gc]) := by rw [← hHG]; exact BoxV.new _ _ _ (by simp) rfl
  clear hHG
  have Tn : Hid (Below w.heap.size w _) := Below.al T.out (.cells #[.int .i64 y.n, .int .i64 y.m, .int .i64 y.f, .int .i64 y.d, .slice Ga k2 Gc] 27)
  have An : Hid _ := BoxV.below A.out ((Below.refl _ _).alloc (Nat.le_refl _) (.cells #[.int .i64 y.n, .int .i64 y.m, .int .i64 y.f, .int .i64 y.d, .slice Ga k2 Gc] 27))
  have WBn : Hid _ := BoxV.below WB.out ((Below.refl _ _).alloc (Nat.le_refl _) (.cells #[.int .i64 y.n, .int .i64 y.m, .int .i64 y.f, .int .i64 y.d, .slice Ga k2 Gc] 27))
  have SBn : Hid _ := BoxV.below SB.out ((Below.refl _ _).alloc (Nat.le_refl _) (.cells #[.int .i64 y.n, .int .i64 y.m, .int .i64 y.f, .int .i64 y.d, .slice Ga k2 Gc] 27))
  have Wn : Hid _ := OwnR.below W.out ((Below.refl _ _).alloc (Nat.le_refl _) (.cells #[.int .i64 y.n, .int .i64 y.m, .int .i64 y.f, .int .i64 y.d, .slice Ga k2 Gc] 27))
  have Sn : Hid _ := OwnR.below S.out ((Below.refl _ _).alloc (Nat.le_refl _) (.cells #[.int .i64 y.n, .int .i64 y.m, .int .i64 y.f, .int .i64 y.d, .slice Ga k2 Gc] 27))
  have Gn : Hid _ := OwnR.below G.out ((Below.refl _ _).alloc (Nat.le_refl _) (.cells #[.int .i64 y.n, .int .i64 y.m, .int .i64 y.f, .int .i64 y.d, .slice Ga k2 Gc] 27))
  clear T A WB SB W S G
  have T := Tn
  have A := An
  have WB := WBn
  have SB := SBn
  have W := Wn
  have S := Sn
  have G := Gn
  clear Tn An WBn SBn Wn Sn Gn
  have hBG := Lib.hid (show ∀ q, (Value.slice Ga k2 Gc).ownBlock = some q → loG ≤ q ∧ q < HG from fun q hq => by rw [← HHG.out]; exact hrG q hq)
  clear hrG
  go_upto_region 8 with fail
  rw [HHG.out]
  generalize hw9 : wn.alloc (.cells #[.int .i64 y.n, .int .i64 y.m, .int .i64 y.f, .int .i64 y.d, .slice Ga k2 Gc] 27) = w0 at *
  obtain ⟨wn, hwq⟩ : ∃ w9 : World, w9 = w0 := ⟨_, rfl⟩
  subst hwq
  clear HHG hw9
  have p0 := (GB.out.2 0 _ rfl).1
  have p1 := (GB.out.2 1 _ rfl).1
  have p2 := (GB.out.2 2 _ rfl).1
  have p3 := (GB.out.2 3 _ rfl).1
  have p4 := (GB.out.2 4 _ rfl).1
  have q0 := (WB.out.2 0 _ rfl).1
  have q1 := (WB.out.2 1 _ rfl).1
  have q2 := (WB.out.2 2 _ rfl).1
  have q3 := (WB.out.2 3 _ rfl).1
  have q4 := (WB.out.2 4 _ rfl).1
  go_wp2_with fail
  refine Calls.mono (eqTrip_t y.n y.m y.f y.d Ga k2 Gc Wa Wc y.rs _ (OwnR.rid G.out) (OwnR.rid W.out) (by omega)) ?_
  intro e wn hh
  obtain ⟨he, hb⟩ := (by first | exact hh | exact Ro.mk hh | exact St.mk hh | exact LawOk.mk' hh : Mk _ _ e wn)
  subst he
  have Tn : Hid (Below w.heap.size w wn) := below_next T.out hb
  have An : Hid _ := BoxV.below A.out hb
  have WBn : Hid _ := BoxV.below WB.out hb
  have SBn : Hid _ := BoxV.below SB.out hb
  have GBn : Hid _ := BoxV.below GB.out hb
  have Wn : Hid _ := OwnR.below W.out hb
  have Sn : Hid _ := OwnR.below S.out hb
  have Gn : Hid _ := OwnR.below G.out hb
  clear hb hh p0 p1 p2 p3 p4 q0 q1 q2 q3 q4
  clear T A WB SB GB W S G
  have T := Tn
  have A := An
  have WB := WBn
  have SB := SBn
  have GB := GBn
  have W := Wn
  have S := Sn
  have G := Gn
  clear Tn An WBn SBn GBn Wn Sn Gn
  go_upto_region 10 with fail
  refine wp_region_tg [27, 28, 29, 30, 31]
    [(27, tV (.agg #[.int .i64 n, .int .i64 m, .int .i64 f, .int .i64 d, .slice Sa k Sc])), (28, tV (.agg #[.int .i64 n, .int .i64 m, .int .i64 f, .int .i64 d, .slice a k c])), (29, tT ⟨n, m, f, d, l⟩ k), (30, tV (.bool true)), (31, tV (.bool false))]
    (by kernel_rfl) (by kernel_rfl) (by kernel_rfl) (by kernel_rfl) (by kernel_rfl) (by kernel_rfl) ⟨StW.g (StW.V _), StW.g (StW.V _), StGrow.T _ _, StW.g (StW.V _), StW.g (StW.V _), trivial⟩ ?hob27 ?_
  case hob27 =>
    refine ⟨?_, ?_, ?_, ?_, ?_, trivial⟩
    · intro w1 vs hC hP hL
      refine ⟨fun hw => ?_, fun hw => ?_⟩
      · clear hw
        have u5 : vs 5 = .pointer (some ⟨HS, 0, none⟩) := hP 5 (by kernel_rfl)
        have SB9 := BoxV.below SB.out hC
        have e0 := (SB9.2 0 _ rfl).1
        have e1 := (SB9.2 1 _ rfl).1
        have e2 := (SB9.2 2 _ rfl).1
        have e3 := (SB9.2 3 _ rfl).1
        have e4 := (SB9.2 4 _ rfl).1
        clear SB9
        go_simp
        simp only [evOf_tmp, evOf_const, u5]
        go_simp
        exact oa_pure hC (show tV _ _ w1 from rfl)
      · exact absurd hw (fun e => (by cases (show true = false from e)))
    · intro w1 vs hC hP hL
      refine ⟨fun hw => ?_, fun hw => ?_⟩
      · clear hw
        have u1 : vs 1 = .pointer (some ⟨g, 0, none⟩) := hP 1 (by kernel_rfl)
        have A9 := BoxV.below A.out hC
        have c0 := (A9.2 0 _ rfl).1
        have c1 := (A9.2 1 _ rfl).1
        have c2 := (A9.2 2 _ rfl).1
        have c3 := (A9.2 3 _ rfl).1
        have c4 := (A9.2 4 _ rfl).1
        clear A9
        go_simp
        simp only [evOf_tmp, evOf_const, u1]
        go_simp
        exact oa_pure hC (show tV _ _ w1 from rfl)
      · exact absurd hw (fun e => (by cases (show true = false from e)))
    · intro w1 vs hC hP hL
      refine ⟨fun hw => ?_, fun hw => ?_⟩
      · clear hw
        have u28 : vs 28 = .agg #[.int .i64 n, .int .i64 m, .int .i64 f, .int .i64 d, .slice a k c] := hL 28 (by kernel_rfl)
        go_simp
        simp only [evOf_tmp, u28]
        exact oa_call hC (Calls.mono (toTrip_c n m f d a k c l _ (Rid.below X0.out (below_next T.out hC)) hk2) (fun e w2 hh => (by obtain ⟨v, he, hO, hb⟩ := hh; obtain ⟨a9, c9, rfl, -, -⟩ := OwnR.open hO; have h9 := OwnR.rid hO; rw [show List.length (Tp.rs ⟨n, m, f, d, l⟩) = k from HL.out] at h9 he; exact ⟨_, he, (show tT ⟨n, m, f, d, l⟩ k _ w2 from ⟨a9, c9, rfl, h9⟩), hb⟩)))
      · exact absurd hw (fun e => (by cases (show true = false from e)))
    · intro w1 vs hC hP hL
      refine ⟨fun hw => ?_, fun hw => ?_⟩
      · clear hw
        have u27 : vs 27 = .agg #[.int .i64 n, .int .i64 m, .int .i64 f, .int .i64 d, .slice Sa k Sc] := hL 27 (by kernel_rfl)
        have u29 : tT ⟨n, m, f, d, l⟩ k (vs 29) w1 := hL 29 (by kernel_rfl)
        obtain ⟨p29, i29, u29, hF29⟩ := u29
        go_simp
        simp only [evOf_tmp, u27, u29]
        exact oa_call hC (Calls.mono (eqTrip_t n m f d _ _ _ _ _ l _ (OwnR.rid (OwnR.below S.out hC)) hF29 (by omega)) (fun e w2 hh => (by obtain ⟨he, hb⟩ := (by first | exact hh | exact Ro.mk hh | exact St.mk hh : Mk _ _ e w2); exact ⟨_, he, (show tV _ _ w2 from rfl), hb⟩)))
      · exact absurd hw (fun e => (by cases (show true = false from e)))
    · intro w1 vs hC hP hL
      refine ⟨fun hw => ?_, fun hw => ?_⟩
      · clear hw
        have u30 : vs 30 = .bool true := hL 30 (by kernel_rfl)
        go_simp
        simp only [evOf_tmp, evOf_const, u30]
        go_simp
        exact oa_pure hC (show tV _ _ w1 from rfl)
      · exact absurd hw (fun e => (by cases (show true = false from e)))
  intro vs wq hq hT
  have t1 : vs 31 = .bool false := hT 31 rfl
  simp (decide := true) only [over, Nat.reduceAdd, if_true, if_false]
  rw [t1]
  clear hT t1
  have Tn := Lib.hid (below_next T.out hq)
  have An := Lib.hid (BoxV.below A.out hq)
  have WBn := Lib.hid (BoxV.below WB.out hq)
  have SBn := Lib.hid (BoxV.below SB.out hq)
  have GBn := Lib.hid (BoxV.below GB.out hq)
  have Wn := Lib.hid (OwnR.below W.out hq)
  have Sn := Lib.hid (OwnR.below S.out hq)
  have Gn := Lib.hid (OwnR.below G.out hq)
  clear hq
  clear T A WB SB GB W S G
  have T := Tn
  have A := An
  have WB := WBn
  have SB := SBn
  have GB := GBn
  have W := Wn
  have S := Sn
  have G := Gn
  clear Tn An WBn SBn GBn Wn Sn Gn
  obtain ⟨wn, hwq⟩ : ∃ w0, w0 = wq := ⟨_, rfl⟩
  subst hwq
  have e0 := (SB.out.2 0 _ rfl).1
  have e1 := (SB.out.2 1 _ rfl).1
  have e2 := (SB.out.2 2 _ rfl).1
  have e3 := (SB.out.2 3 _ rfl).1
  have e4 := (SB.out.2 4 _ rfl).1
  go_wp2_with fail
  refine Calls.mono (markTrip_c n m f d Sa k Sc 1 (rfl3 l) loS loS HS _ S.out (by omega) (by omega) hBS.out) ?_
  rintro e wq ⟨rfl, hO, ho⟩
  clear e0 e1 e2 e3 e4
  have Tn := Lib.hid (Out.below T.out ho (by omega))
  have An := Lib.hid (BoxV.out A.out ho (.inl (by omega)))
  have WBn := Lib.hid (BoxV.out WB.out ho (by omega))
  have SBn := Lib.hid (BoxV.out SB.out ho (by omega))
  have GBn := Lib.hid (BoxV.out GB.out ho (by omega))
  have Wn := Lib.hid (OwnR.block W.out (fun q hq => ho.block q (OwnR.lt W.out q hq).2 (by have := hBW.out q hq; omega)))
  have Sn := Lib.hid hO
  have Gn := Lib.hid (OwnR.block G.out (fun q hq => ho.block q (OwnR.lt G.out q hq).2 (by have := hBG.out q hq; omega)))
  clear hO ho T A WB SB GB W S G
  have T := Tn
  have A := An
  have WB := WBn
  have SB := SBn
  have GB := GBn
  have W := Wn
  have S := Sn
  have G := Gn
  clear Tn An WBn SBn GBn Wn Sn Gn
  rw [HZ2.out]
  obtain ⟨wn, hwq⟩ : ∃ w9 : World, w9 = wq := ⟨_, rfl⟩
  subst hwq
  clear S SB
  have p0 := (GB.out.2 0 _ rfl).1
  have p1 := (GB.out.2 1 _ rfl).1
  have p2 := (GB.out.2 2 _ rfl).1
  have p3 := (GB.out.2 3 _ rfl).1
  have p4 := (GB.out.2 4 _ rfl).1
  have q0 := (WB.out.2 0 _ rfl).1
  have q1 := (WB.out.2 1 _ rfl).1
  have q2 := (WB.out.2 2 _ rfl).1
  have q3 := (WB.out.2 3 _ rfl).1
  have q4 := (WB.out.2 4 _ rfl).1
  go_wp2_with fail
  refine Calls.mono (eqTrip_t y.n y.m y.f y.d Ga k2 Gc Wa Wc y.rs _ (OwnR.rid G.out) (OwnR.rid W.out) (by omega)) ?_
  intro e wn hh
  obtain ⟨he, hb⟩ := (by first | exact hh | exact Ro.mk hh | exact St.mk hh | exact LawOk.mk' hh : Mk _ _ e wn)
  subst he
  have Tn : Hid (Below w.heap.size w wn) := below_next T.out hb
  have An : Hid _ := BoxV.below A.out hb
  have WBn : Hid _ := BoxV.below WB.out hb
  have GBn : Hid _ := BoxV.below GB.out hb
  have Wn : Hid _ := OwnR.below W.out hb
  have Gn : Hid _ := OwnR.below G.out hb
  clear hb hh p0 p1 p2 p3 p4 q0 q1 q2 q3 q4
  clear T A WB GB W G
  have T := Tn
  have A := An
  have WB := WBn
  have GB := GBn
  have W := Wn
  have G := Gn
  clear Tn An WBn GBn Wn Gn
  have e0 := (GB.out.2 0 _ rfl).1
  have e1 := (GB.out.2 1 _ rfl).1
  have e2 := (GB.out.2 2 _ rfl).1
  have e3 := (GB.out.2 3 _ rfl).1
  have e4 := (GB.out.2 4 _ rfl).1
  go_wp2_with fail
  refine Calls.mono (markTrip_c y.n y.m y.f y.d Ga k2 Gc 1 (rfl3 y.rs) loG loG HG _ G.out (by omega) (by omega) hBG.out) ?_
  rintro e wq ⟨rfl, hO, ho⟩
  clear e0 e1 e2 e3 e4
  have Tn := Lib.hid (Out.below T.out ho (by omega))
  have An := Lib.hid (BoxV.out A.out ho (.inl (by omega)))
  have WBn := Lib.hid (BoxV.out WB.out ho (by omega))
  have GBn := Lib.hid (BoxV.out GB.out ho (by omega))
  have Wn := Lib.hid (OwnR.block W.out (fun q hq => ho.block q (OwnR.lt W.out q hq).2 (by have := hBW.out q hq; omega)))
  have Gn := Lib.hid hO
  clear hO ho T A WB GB W G
  have T := Tn
  have A := An
  have WB := WBn
  have GB := GBn
  have W := Wn
  have G := Gn
  clear Tn An WBn GBn Wn Gn
  rw [HZ1.out]
  obtain ⟨wn, hwq⟩ : ∃ w9 : World, w9 = wq := ⟨_, rfl⟩
  subst hwq
  have e0 := (GB.out.2 0 _ rfl).1
  have e1 := (GB.out.2 1 _ rfl).1
  have e2 := (GB.out.2 2 _ rfl).1
  have e3 := (GB.out.2 3 _ rfl).1
  have e4 := (GB.out.2 4 _ rfl).1
  have HK9 := Lib.hid (heldTrip_c y.n y.m y.f y.d Ga k2 Gc 1 wn (OwnR.rs0 G.out) (by omega) (by omega))
  rw [HZ1.out] at HK9
  go_wp2_with fail
  refine Calls.mono (HK9.out) ?_
  intro e wn hh
  obtain ⟨he, hb⟩ := (by first | exact hh | exact Ro.mk hh | exact St.mk hh | exact LawOk.mk' hh : Mk _ _ e wn)
  subst he
  have Tn : Hid (Below w.heap.size w wn) := below_next T.out hb
  have An : Hid _ := BoxV.below A.out hb
  have WBn : Hid _ := BoxV.below WB.out hb
  have GBn : Hid _ := BoxV.below GB.out hb
  have Wn : Hid _ := OwnR.below W.out hb
  have Gn : Hid _ := OwnR.below G.out hb
  clear hb hh e0 e1 e2 e3 e4
  clear T A WB GB W G
  have T := Tn
  have A := An
  have WB := WBn
  have GB := GBn
  have W := Wn
  have G := Gn
  clear Tn An WBn GBn Wn Gn
  clear HK9
  have c0 := (A.out.2 0 _ rfl).1
  have c1 := (A.out.2 1 _ rfl).1
  have c2 := (A.out.2 2 _ rfl).1
  have c3 := (A.out.2 3 _ rfl).1
  have c4 := (A.out.2 4 _ rfl).1
  go_wp2_with fail
  refine Calls.mono (toTrip_c n m f d a k c l _ (Rid.below X0.out T.out) hk2) ?_
  intro e wq hh
  obtain ⟨v2, he, hO2, hb3⟩ := hh
  subst he
  rw [show List.length (Tp.rs ⟨n, m, f, d, l⟩) = k from HL.out] at hO2
  obtain ⟨p9, q9, hv, -, -⟩ := OwnR.open hO2
  subst hv
  have P9 := Lib.hid (OwnR.rid hO2)
  clear hO2 c0 c1 c2 c3 c4
  have Tn := Lib.hid (below_next T.out hb3)
  have An := Lib.hid (BoxV.below A.out hb3)
  have WBn := Lib.hid (BoxV.below WB.out hb3)
  have GBn := Lib.hid (BoxV.below GB.out hb3)
  have Wn := Lib.hid (OwnR.below W.out hb3)
  have Gn := Lib.hid (OwnR.below G.out hb3)
  clear hb3
  clear T A WB GB W G
  have T := Tn
  have A := An
  have WB := WBn
  have GB := GBn
  have W := Wn
  have G := Gn
  clear Tn An WBn GBn Wn Gn
  obtain ⟨wn, hwq⟩ : ∃ w0, w0 = wq := ⟨_, rfl⟩
  subst hwq
  skip
  go_wp2_with fail
  obtain ⟨loH, hloH⟩ : ∃ q, wn.heap.size = q := ⟨_, rfl⟩
  have hTH : w.heap.size ≤ loH := by rw [← hloH]; exact T.out.size
  have hltAH : g < loH := by rw [← hloH]; exact BoxV.lt A.out
  have hltWBH : HW < loH := by rw [← hloH]; exact BoxV.lt WB.out
  have hltGBH : HG < loH := by rw [← hloH]; exact BoxV.lt GB.out
  refine Calls.mono (HKI.out _ p9 q9 P9.out) ?_
  intro e wq hh
  obtain ⟨v2, he, hO2, hb3⟩ := hh
  subst he
  rw [show List.length (Tp.rs y) = k2 from HK2.out] at hO2
  obtain ⟨Ha, Hc, hv, -, -⟩ := OwnR.open hO2
  subst hv
  rw [hloH] at hO2
  have H := Lib.hid hO2
  clear hO2 hloH
  have Tn := Lib.hid (below_next T.out hb3)
  have An := Lib.hid (BoxV.below A.out hb3)
  have WBn := Lib.hid (BoxV.below WB.out hb3)
  have GBn := Lib.hid (BoxV.below GB.out hb3)
  have Wn := Lib.hid (OwnR.below W.out hb3)
  have Gn := Lib.hid (OwnR.below G.out hb3)
  have P9n := Lib.hid (Rid.below P9.out hb3)
  clear hb3
  clear T A WB GB W G P9
  have T := Tn
  have A := An
  have WB := WBn
  have GB := GBn
  have W := Wn
  have G := Gn
  have P9 := P9n
  clear Tn An WBn GBn Wn Gn P9n
  obtain ⟨wn, hwq⟩ : ∃ w0, w0 = wq := ⟨_, rfl⟩
  subst hwq
  have hrH := fun q hq => OwnR.lt H.out q hq
  have hltAHH := BoxV.lt A.out
  have hltWBHH := BoxV.lt WB.out
  have hltGBHH := BoxV.lt GB.out
  have hWHH := T.out.size
  obtain ⟨HH, hHH⟩ : ∃ HH, Array.size (World.heap wn) = HH := ⟨_, rfl⟩
  have HHH : Hid _ := hHH
  rw [hHH] at hWHH hltAHH hltWBHH hltGBHH
  have HB : Hid (BoxV (wn.alloc (.cells #[.int .i64 y.n, .int .i64 y.m, .int .i64 y.f, .int .i64 y.d, .slice Ha k2 Hc] 27)) HH [.int .i64 y.n, .int .i64 y.m, .int .i64 y.f, .int .i64 y.d, .slice Ha k2 Hc]) := by rw [← hHH]; exact BoxV.new _ _ _ (by simp) rfl
  clear hHH
  have Tn : Hid (Below w.heap.size w _) := Below.al T.out (.cells #[.int .i64 y.n, .int .i64 y.m, .int .i64 y.f, .int .i64 y.d, .slice Ha k2 Hc] 27)
  have An : Hid _ := BoxV.below A.out ((Below.refl _ _).alloc (Nat.le_refl _) (.cells #[.int .i64 y.n, .int .i64 y.m, .int .i64 y.f, .int .i64 y.d, .slice Ha k2 Hc] 27))
  have WBn : Hid _ := BoxV.below WB.out ((Below.refl _ _).alloc (Nat.le_refl _) (.cells #[.int .i64 y.n, .int .i64 y.m, .int .i64 y.f, .int .i64 y.d, .slice Ha k2 Hc] 27))
  have GBn : Hid _ := BoxV.below GB.out ((Below.refl _ _).alloc (Nat.le_refl _) (.cells #[.int .i64 y.n, .int .i64 y.m, .int .i64 y.f, .int .i64 y.d, .slice Ha k2 Hc] 27))
  have Wn : Hid _ := OwnR.below W.out ((Below.refl _ _).alloc (Nat.le_refl _) (.cells #[.int .i64 y.n, .int .i64 y.m, .int .i64 y.f, .int .i64 y.d, .slice Ha k2 Hc] 27))
  have Gn : Hid _ := OwnR.below G.out ((Below.refl _ _).alloc (Nat.le_refl _) (.cells #[.int .i64 y.n, .int .i64 y.m, .int .i64 y.f, .int .i64 y.d, .slice Ha k2 Hc] 27))
  have P9n : Hid _ := Rid.below P9.out ((Below.refl _ _).alloc (Nat.le_refl _) (.cells #[.int .i64 y.n, .int .i64 y.m, .int .i64 y.f, .int .i64 y.d, .slice Ha k2 Hc] 27))
  have Hn : Hid _ := OwnR.below H.out ((Below.refl _ _).alloc (Nat.le_refl _) (.cells #[.int .i64 y.n, .int .i64 y.m, .int .i64 y.f, .int .i64 y.d, .slice Ha k2 Hc] 27))
  clear T A WB GB W G P9 H
  have T := Tn
  have A := An
  have WB := WBn
  have GB := GBn
  have W := Wn
  have G := Gn
  have P9 := P9n
  have H := Hn
  clear Tn An WBn GBn Wn Gn P9n Hn
  have hBH := Lib.hid (show ∀ q, (Value.slice Ha k2 Hc).ownBlock = some q → loH ≤ q ∧ q < HH from fun q hq => by rw [← HHH.out]; exact hrH q hq)
  clear hrH
  go_upto_region 25 with fail
  rw [HHH.out]
  generalize hw9 : wn.alloc (.cells #[.int .i64 y.n, .int .i64 y.m, .int .i64 y.f, .int .i64 y.d, .slice Ha k2 Hc] 27) = w0 at *
  obtain ⟨wn, hwq⟩ : ∃ w9 : World, w9 = w0 := ⟨_, rfl⟩
  subst hwq
  clear HHH hw9
  clear P9
  have p0 := (HB.out.2 0 _ rfl).1
  have p1 := (HB.out.2 1 _ rfl).1
  have p2 := (HB.out.2 2 _ rfl).1
  have p3 := (HB.out.2 3 _ rfl).1
  have p4 := (HB.out.2 4 _ rfl).1
  have q0 := (WB.out.2 0 _ rfl).1
  have q1 := (WB.out.2 1 _ rfl).1
  have q2 := (WB.out.2 2 _ rfl).1
  have q3 := (WB.out.2 3 _ rfl).1
  have q4 := (WB.out.2 4 _ rfl).1
  go_wp2_with fail
  refine Calls.mono (eqTrip_t y.n y.m y.f y.d Ha k2 Hc Wa Wc y.rs _ (OwnR.rid H.out) (OwnR.rid W.out) (by omega)) ?_
  intro e wn hh
  obtain ⟨he, hb⟩ := (by first | exact hh | exact Ro.mk hh | exact St.mk hh | exact LawOk.mk' hh : Mk _ _ e wn)
  subst he
  have Tn : Hid (Below w.heap.size w wn) := below_next T.out hb
  have An : Hid _ := BoxV.below A.out hb
  have WBn : Hid _ := BoxV.below WB.out hb
  have GBn : Hid _ := BoxV.below GB.out hb
  have HBn : Hid _ := BoxV.below HB.out hb
  have Wn : Hid _ := OwnR.below W.out hb
  have Gn : Hid _ := OwnR.below G.out hb
  have Hn : Hid _ := OwnR.below H.out hb
  clear hb hh p0 p1 p2 p3 p4 q0 q1 q2 q3 q4
  clear T A WB GB HB W G H
  have T := Tn
  have A := An
  have WB := WBn
  have GB := GBn
  have HB := HBn
  have W := Wn
  have G := Gn
  have H := Hn
  clear Tn An WBn GBn HBn Wn Gn Hn
  have e0 := (GB.out.2 0 _ rfl).1
  have e1 := (GB.out.2 1 _ rfl).1
  have e2 := (GB.out.2 2 _ rfl).1
  have e3 := (GB.out.2 3 _ rfl).1
  have e4 := (GB.out.2 4 _ rfl).1
  have HK9 := Lib.hid (heldTrip_c y.n y.m y.f y.d Ga k2 Gc 1 wn (OwnR.rs0 G.out) (by omega) (by omega))
  rw [HZ1.out] at HK9
  go_wp2_with fail
  refine Calls.mono (HK9.out) ?_
  intro e wn hh
  obtain ⟨he, hb⟩ := (by first | exact hh | exact Ro.mk hh | exact St.mk hh | exact LawOk.mk' hh : Mk _ _ e wn)
  subst he
  have Tn : Hid (Below w.heap.size w wn) := below_next T.out hb
  have An : Hid _ := BoxV.below A.out hb
  have WBn : Hid _ := BoxV.below WB.out hb
  have GBn : Hid _ := BoxV.below GB.out hb
  have HBn : Hid _ := BoxV.below HB.out hb
  have Wn : Hid _ := OwnR.below W.out hb
  have Gn : Hid _ := OwnR.below G.out hb
  have Hn : Hid _ := OwnR.below H.out hb
  clear hb hh e0 e1 e2 e3 e4
  clear T A WB GB HB W G H
  have T := Tn
  have A := An
  have WB := WBn
  have GB := GBn
  have HB := HBn
  have W := Wn
  have G := Gn
  have H := Hn
  clear Tn An WBn GBn HBn Wn Gn Hn
  clear HK9
  go_wp2_with fail
  go_ret
  first | exact LawOk.mk T.out | exact LawOk.mk (Below.dr T.out _)
set_option maxRecDepth 100000 in
set_option maxHeartbeats 16000000 in
theorem ExactTripStep_w (n m f d : Int) (a : Option Addr) (k c : Nat) (l : List Ri) (w : World) (hX : Rid w a k l) (hk : k ≤ maxLen) : Calls Try.prog 10 #[.agg #[.int .i64 n, .int .i64 m, .int .i64 f, .int .i64 d, .slice a k c]] w (LawOk w) := by
  have HL := Lib.hid hX.2
  have X0 := Lib.hid hX
  have KZ := fun w' => szTrip_c n m f d a k c w' hk
  clear hX
  by_cases hk2 : k ≤ 1048576
  case neg =>
    rw [show szT k = -1 from by unfold szT; rw [if_neg (by omega)]] at KZ
    have HZ := Lib.hid KZ
    clear KZ
    refine at_base fun wn hwn => ?_
    have T := Lib.hid (show Below w.heap.size w wn from by rw [hwn]; exact Below.refl _ _)
    clear hwn
    obtain ⟨g, hg⟩ : ∃ g, Array.size (World.heap wn) = g := ⟨_, rfl⟩
    have HGg := Lib.hid hg
    have hTg : w.heap.size ≤ g := by rw [← hg]; exact T.out.size
    have Tn := Lib.hid (show Below w.heap.size w (wn.alloc (.cells #[.int .i64 n, .int .i64 m, .int .i64 f, .int .i64 d, .slice a k c] 50)) from (Below.al T.out (.cells #[.int .i64 n, .int .i64 m, .int .i64 f, .int .i64 d, .slice a k c] 50)))
    have A := Lib.hid (show BoxV (wn.alloc (.cells #[.int .i64 n, .int .i64 m, .int .i64 f, .int .i64 d, .slice a k c] 50)) g [.int .i64 n, .int .i64 m, .int .i64 f, .int .i64 d, .slice a k c] from by have h9 := (BoxV.new wn [.int .i64 n, .int .i64 m, .int .i64 f, .int .i64 d, .slice a k c] 50 (by simp) rfl); simp only [World.size_alloc, hg, Nat.add_assoc, Nat.reduceAdd] at h9; exact h9)
    have HZg := Lib.hid (show ((wn.alloc (.cells #[.int .i64 n, .int .i64 m, .int .i64 f, .int .i64 d, .slice a k c] 50))).heap.size = g + 1 from by simp only [World.size_alloc, hg, Nat.add_assoc, Nat.reduceAdd])
    clear hg
    clear T
    have T := Tn
    clear Tn
    go_enter Try.func10, Try.ntmps10
    have c0 := (A.out.2 0 _ rfl).1
    have c1 := (A.out.2 1 _ rfl).1
    have c2 := (A.out.2 2 _ rfl).1
    have c3 := (A.out.2 3 _ rfl).1
    have c4 := (A.out.2 4 _ rfl).1
    go_wp2_with fail
    rw [HGg.out]
    refine Calls.mono (HZ.out _) ?_
    intro e wn hh
    obtain ⟨he, hb⟩ := (by first | exact hh | exact Ro.mk hh | exact St.mk hh | exact LawOk.mk' hh : Mk _ _ e wn)
    subst he
    have Tn : Hid (Below w.heap.size w wn) := below_next T.out hb
    have An : Hid _ := BoxV.below A.out hb
    clear hb hh c0 c1 c2 c3 c4
    clear T A
    have T := Tn
    have A := An
    clear Tn An
    go_wp2_with fail
    go_ret
    first | exact LawOk.mk T.out | exact LawOk.mk (Below.dr T.out _)
  obtain ⟨z, hz⟩ : ∃ z : Nat, szT k = z := ⟨1048576 - k, by unfold szT; rw [if_pos (by omega)]; omega⟩
  rw [hz] at KZ
  have HZ := Lib.hid KZ
  have hzn : ¬ (z : Int) < 0 := by omega
  clear KZ hz
  have hyl : (stT ⟨n, m, f, d, l⟩).rs.length ≤ 1048576 := by
    by_cases g : TOk ⟨n, m, f, d, l⟩
    · have := (stT_ok g).2.2.2.2.1; omega
    · rw [(stT_f g).1]; simp
  have KS := fun w' (a' : Option Addr) (c' : Nat) (h : Rid w' a' k l) => sTripStep_c n m f d a' k c' l w' h (by omega)
  have KI := fun w' (a' : Option Addr) (c' : Nat) (h : Rid w' a' k l) => iTripStep_c n m f d a' k c' l w' h (by omega)
  obtain ⟨y, hy⟩ : ∃ y, stT ⟨n, m, f, d, l⟩ = y := ⟨_, rfl⟩
  obtain ⟨b, hb⟩ : ∃ b, stB ⟨n, m, f, d, l⟩ = b := ⟨_, rfl⟩
  rw [hb] at KS KI
  rw [hy] at KS KI hyl
  obtain ⟨k2, hk⟩ : ∃ k2, y.rs.length = k2 := ⟨_, rfl⟩
  rw [hk] at hyl
  have HK2 := Lib.hid hk
  have HKS := Lib.hid KS
  have HKI := Lib.hid KI
  obtain ⟨z1, hz1⟩ : ∃ z, 1 + k2 * 3 = z := ⟨_, rfl⟩
  obtain ⟨z2, hz2⟩ : ∃ z, 1 + k * 3 = z := ⟨_, rfl⟩
  have HZ1 := Lib.hid hz1
  have HZ2 := Lib.hid hz2
  have hzn1 : ¬ (z1 : Int) < 0 := by omega
  have hzn2 : ¬ (z2 : Int) < 0 := by omega
  have hzz : ((z1 : Int) != (z1 : Int)) = false := by simp
  clear KS KI hy hk hz1 hz2 hb
  have hbb : (b != b) = false := by simp
  refine at_base fun wn hwn => ?_
  have T := Lib.hid (show Below w.heap.size w wn from by rw [hwn]; exact Below.refl _ _)
  clear hwn
  obtain ⟨g, hg⟩ : ∃ g, Array.size (World.heap wn) = g := ⟨_, rfl⟩
  have HGg := Lib.hid hg
  have hTg : w.heap.size ≤ g := by rw [← hg]; exact T.out.size
  have Tn := Lib.hid (show Below w.heap.size w (wn.alloc (.cells #[.int .i64 n, .int .i64 m, .int .i64 f, .int .i64 d, .slice a k c] 50)) from (Below.al T.out (.cells #[.int .i64 n, .int .i64 m, .int .i64 f, .int .i64 d, .slice a k c] 50)))
  have A := Lib.hid (show BoxV (wn.alloc (.cells #[.int .i64 n, .int .i64 m, .int .i64 f, .int .i64 d, .slice a k c] 50)) g [.int .i64 n, .int .i64 m, .int .i64 f, .int .i64 d, .slice a k c] from by have h9 := (BoxV.new wn [.int .i64 n, .int .i64 m, .int .i64 f, .int .i64 d, .slice a k c] 50 (by simp) rfl); simp only [World.size_alloc, hg, Nat.add_assoc, Nat.reduceAdd] at h9; exact h9)
  have HZg := Lib.hid (show ((wn.alloc (.cells #[.int .i64 n, .int .i64 m, .int .i64 f, .int .i64 d, .slice a k c] 50))).heap.size = g + 1 from by simp only [World.size_alloc, hg, Nat.add_assoc, Nat.reduceAdd])
  clear hg
  clear T
  have T := Tn
  clear Tn
  go_enter Try.func10, Try.ntmps10
  have c0 := (A.out.2 0 _ rfl).1
  have c1 := (A.out.2 1 _ rfl).1
  have c2 := (A.out.2 2 _ rfl).1
  have c3 := (A.out.2 3 _ rfl).1
  have c4 := (A.out.2 4 _ rfl).1
  go_wp2_with fail
  rw [HGg.out]
  refine Calls.mono (HZ.out _) ?_
  intro e wn hh
  obtain ⟨he, hb⟩ := (by first | exact hh | exact Ro.mk hh | exact St.mk hh | exact LawOk.mk' hh : Mk _ _ e wn)
  subst he
  have Tn : Hid (Below w.heap.size w wn) := below_next T.out hb
  have An : Hid _ := BoxV.below A.out hb
  clear hb hh c0 c1 c2 c3 c4
  clear T A
  have T := Tn
  have A := An
  clear Tn An
  clear HZ
  have c0 := (A.out.2 0 _ rfl).1
  have c1 := (A.out.2 1 _ rfl).1
  have c2 := (A.out.2 2 _ rfl).1
  have c3 := (A.out.2 3 _ rfl).1
  have c4 := (A.out.2 4 _ rfl).1
  go_wp2_with fail
  refine Calls.mono (toTrip_c n m f d a k c l _ (Rid.below X0.out T.out) hk2) ?_
  intro e wq hh
  obtain ⟨v2, he, hO2, hb3⟩ := hh
  subst he
  rw [show List.length (Tp.rs ⟨n, m, f, d, l⟩) = k from HL.out] at hO2
  obtain ⟨p9, q9, hv, -, -⟩ := OwnR.open hO2
  subst hv
  have P9 := Lib.hid (OwnR.rid hO2)
  clear hO2 c0 c1 c2 c3 c4
  have Tn := Lib.hid (below_next T.out hb3)
  have An := Lib.hid (BoxV.below A.out hb3)
  clear hb3
  clear T A
  have T := Tn
  have A := An
  clear Tn An
  obtain ⟨wn, hwq⟩ : ∃ w0, w0 = wq := ⟨_, rfl⟩
  subst hwq
  skip
  go_wp2_with fail
  obtain ⟨loW, hloW⟩ : ∃ q, wn.heap.size = q := ⟨_, rfl⟩
  have hTW : w.heap.size ≤ loW := by rw [← hloW]; exact T.out.size
  have hltAW : g < loW := by rw [← hloW]; exact BoxV.lt A.out
  refine Calls.mono (HKS.out _ p9 q9 P9.out) ?_
  intro e wq hh
  obtain ⟨v2, he, hO2, hb3⟩ := hh
  subst he
  rw [show List.length (Tp.rs y) = k2 from HK2.out] at hO2
  obtain ⟨Wa, Wc, hv, -, -⟩ := OwnR.open hO2
  subst hv
  rw [hloW] at hO2
  have W := Lib.hid hO2
  clear hO2 hloW
  have Tn := Lib.hid (below_next T.out hb3)
  have An := Lib.hid (BoxV.below A.out hb3)
  have P9n := Lib.hid (Rid.below P9.out hb3)
  clear hb3
  clear T A P9
  have T := Tn
  have A := An
  have P9 := P9n
  clear Tn An P9n
  obtain ⟨wn, hwq⟩ : ∃ w0, w0 = wq := ⟨_, rfl⟩
  subst hwq
  have hrW := fun q hq => OwnR.lt W.out q hq
  have hltAHW := BoxV.lt A.out
  have hWHW := T.out.size
  obtain ⟨HW, hHW⟩ : ∃ HW, Array.size (World.heap wn) = HW := ⟨_, rfl⟩
  have HHW : Hid _ := hHW
  rw [hHW] at hWHW hltAHW
  have WB : Hid (BoxV (wn.alloc (.cells #[.int .i64 y.n, .int .i64 y.m, .int .i64 y.f, .int .i64 y.d, .slice Wa k2 Wc] 27)) HW [.int .i64 y.n, .int .i64 y.m, .int .i64 y.f, .int .i64 y.d, .slice Wa k2 Wc]) := by rw [← hHW]; exact BoxV.new _ _ _ (by simp) rfl
  clear hHW
  have Tn : Hid (Below w.heap.size w _) := Below.al T.out (.cells #[.int .i64 y.n, .int .i64 y.m, .int .i64 y.f, .int .i64 y.d, .slice Wa k2 Wc] 27)
  have An : Hid _ := BoxV.below A.out ((Below.refl _ _).alloc (Nat.le_refl _) (.cells #[.int .i64 y.n, .int .i64 y.m, .int .i64 y.f, .int .i64 y.d, .slice Wa k2 Wc] 27))
  have P9n : Hid _ := Rid.below P9.out ((Below.refl _ _).alloc (Nat.le_refl _) (.cells #[.int .i64 y.n, .int .i64 y.m, .int .i64 y.f, .int .i64 y.d, .slice Wa k2 Wc] 27))
  have Wn : Hid _ := OwnR.below W.out ((Below.refl _ _).alloc (Nat.le_refl _) (.cells #[.int .i64 y.n, .int .i64 y.m, .int .i64 y.f, .int .i64 y.d, .slice Wa k2 Wc] 27))
  clear T A P9 W
  have T := Tn
  have A := An
  have P9 := P9n
  have W := Wn
  clear Tn An P9n Wn
  have hBW := Lib.hid (show ∀ q, (Value.slice Wa k2 Wc).ownBlock = some q → loW ≤ q ∧ q < HW from fun q hq => by rw [← HHW.out]; exact hrW q hq)
  clear hrW
  go_upto_region 6 with fail
  rw [HHW.out]
  generalize hw9 : wn.alloc (.cells #[.int .i64 y.n, .int .i64 y.m, .int .i64 y.f, .int .i64 y.d, .slice Wa k2 Wc] 27) = w0 at *
  obtain ⟨wn, hwq⟩ : ∃ w9 : World, w9 = w0 := ⟨_, rfl⟩
  subst hwq
  clear HHW hw9
  clear P9
  have c0 := (A.out.2 0 _ rfl).1
  have c1 := (A.out.2 1 _ rfl).1
  have c2 := (A.out.2 2 _ rfl).1
  have c3 := (A.out.2 3 _ rfl).1
  have c4 := (A.out.2 4 _ rfl).1
  go_wp2_with fail
  obtain ⟨loS, hloS⟩ : ∃ q, wn.heap.size = q := ⟨_, rfl⟩
  have hTS : w.heap.size ≤ loS := by rw [← hloS]; exact T.out.size
  have hltAS : g < loS := by rw [← hloS]; exact BoxV.lt A.out
  have hltWBS : HW < loS := by rw [← hloS]; exact BoxV.lt WB.out
  refine Calls.mono (toTrip_c n m f d a k c l _ (Rid.below X0.out T.out) hk2) ?_
  intro e wq hh
  obtain ⟨v2, he, hO2, hb3⟩ := hh
  subst he
  rw [show List.length (Tp.rs ⟨n, m, f, d, l⟩) = k from HL.out] at hO2
  obtain ⟨Sa, Sc, hv, -, -⟩ := OwnR.open hO2
  subst hv
  rw [hloS] at hO2
  have S := Lib.hid hO2
  clear hO2 hloS
  have Tn := Lib.hid (below_next T.out hb3)
  have An := Lib.hid (BoxV.below A.out hb3)
  have WBn := Lib.hid (BoxV.below WB.out hb3)
  have Wn := Lib.hid (OwnR.below W.out hb3)
  clear hb3
  clear T A WB W
  have T := Tn
  have A := An
  have WB := WBn
  have W := Wn
  clear Tn An WBn Wn
  obtain ⟨wn, hwq⟩ : ∃ w0, w0 = wq := ⟨_, rfl⟩
  subst hwq
  have hrS := fun q hq => OwnR.lt S.out q hq
  have hltAHS := BoxV.lt A.out
  have hltWBHS := BoxV.lt WB.out
  have hWHS := T.out.size
  obtain ⟨HS, hHS⟩ : ∃ HS, Array.size (World.heap wn) = HS := ⟨_, rfl⟩
  have HHS : Hid _ := hHS
  rw [hHS] at hWHS hltAHS hltWBHS
  have SB : Hid (BoxV (wn.alloc (.cells #[.int .i64 n, .int .i64 m, .int .i64 f, .int .i64 d, .slice Sa k Sc] 27)) HS [.int .i64 n, .int .i64 m, .int .i64 f, .int .i64 d, .slice Sa k Sc]) := by rw [← hHS]; exact BoxV.new _ _ _ (by simp) rfl
  clear hHS
  have Tn : Hid (Below w.heap.size w _) := Below.al T.out (.cells #[.int .i64 n, .int .i64 m, .int .i64 f, .int .i64 d, .slice Sa k Sc] 27)
  have An : Hid _ := BoxV.below A.out ((Below.refl _ _).alloc (Nat.le_refl _) (.cells #[.int .i64 n, .int .i64 m, .int .i64 f, .int .i64 d, .slice Sa k Sc] 27))
  have WBn : Hid _ := BoxV.below WB.out ((Below.refl _ _).alloc (Nat.le_refl _) (.cells #[.int .i64 n, .int .i64 m, .int .i64 f, .int .i64 d, .slice Sa k Sc] 27))
  have Wn : Hid _ := OwnR.below W.out ((Below.refl _ _).alloc (Nat.le_refl _) (.cells #[.int .i64 n, .int .i64 m, .int .i64 f, .int .i64 d, .slice Sa k Sc] 27))
  have Sn : Hid _ := OwnR.below S.out ((Below.refl _ _).alloc (Nat.le_refl _) (.cells #[.int .i64 n, .int .i64 m, .int .i64 f, .int .i64 d, .slice Sa k Sc] 27))
  clear T A WB W S
  have T := Tn
  have A := An
  have WB := WBn
  have W := Wn
  have S := Sn
  clear Tn An WBn Wn Sn
  have hBS := Lib.hid (show ∀ q, (Value.slice Sa k Sc).ownBlock = some q → loS ≤ q ∧ q < HS from fun q hq => by rw [← HHS.out]; exact hrS q hq)
  clear hrS
  go_upto_region 7 with fail
  rw [HHS.out]
  generalize hw9 : wn.alloc (.cells #[.int .i64 n, .int .i64 m, .int .i64 f, .int .i64 d, .slice Sa k Sc] 27) = w0 at *
  obtain ⟨wn, hwq⟩ : ∃ w9 : World, w9 = w0 := ⟨_, rfl⟩
  subst hwq
  clear HHS hw9
  have e0 := (SB.out.2 0 _ rfl).1
  have e1 := (SB.out.2 1 _ rfl).1
  have e2 := (SB.out.2 2 _ rfl).1
  have e3 := (SB.out.2 3 _ rfl).1
  have e4 := (SB.out.2 4 _ rfl).1
  go_wp2_with fail
  obtain ⟨loG, hloG⟩ : ∃ q, wn.heap.size = q := ⟨_, rfl⟩
  have hTG : w.heap.size ≤ loG := by rw [← hloG]; exact T.out.size
  have hltAG : g < loG := by rw [← hloG]; exact BoxV.lt A.out
  have hltWBG : HW < loG := by rw [← hloG]; exact BoxV.lt WB.out
  have hltSBG : HS < loG := by rw [← hloG]; exact BoxV.lt SB.out
  refine Calls.mono (HKI.out _ Sa Sc (OwnR.rid S.out)) ?_
  intro e wq hh
  obtain ⟨v2, he, hO2, hb3⟩ := hh
  subst he
  rw [show List.length (Tp.rs y) = k2 from HK2.out] at hO2
  obtain ⟨Ga, Gc, hv, -, -⟩ := OwnR.open hO2
  subst hv
  rw [hloG] at hO2
  have G := Lib.hid hO2
  clear hO2 hloG
  have Tn := Lib.hid (below_next T.out hb3)
  have An := Lib.hid (BoxV.below A.out hb3)
  have WBn := Lib.hid (BoxV.below WB.out hb3)
  have SBn := Lib.hid (BoxV.below SB.out hb3)
  have Wn := Lib.hid (OwnR.below W.out hb3)
  have Sn := Lib.hid (OwnR.below S.out hb3)
  clear hb3
  clear T A WB SB W S
  have T := Tn
  have A := An
  have WB := WBn
  have SB := SBn
  have W := Wn
  have S := Sn
  clear Tn An WBn SBn Wn Sn
  obtain ⟨wn, hwq⟩ : ∃ w0, w0 = wq := ⟨_, rfl⟩
  subst hwq
  have hrG := fun q hq => OwnR.lt G.out q hq
  have hltAHG := BoxV.lt A.out
  have hltWBHG := BoxV.lt WB.out
  have hltSBHG := BoxV.lt SB.out
  have hWHG := T.out.size
  obtain ⟨HG, hHG⟩ : ∃ HG, Array.size (World.heap wn) = HG := ⟨_, rfl⟩
  have HHG : Hid _ := hHG
  rw [hHG] at hWHG hltAHG hltWBHG hltSBHG
  have GB : Hid (BoxV (wn.alloc (.cells #[.int .i64 y.n, .int .i64 y.m, .int .i64 y.f, .int .i64 y.d, .slice Ga k2 Gc] 27)) HG [.int .i64 y.n, .int .i64 y.m, .int .i64 y.f, .int .i64 y.d, .slice Ga k2 Gc]) := by rw [← hHG]; exact BoxV.new _ _ _ (by simp) rfl
  clear hHG
  have Tn : Hid (Below w.heap.size w _) := Below.al T.out (.cells #[.int .i64 y.n, .int .i64 y.m, .int .i64 y.f, .int .i64 y.d, .slice Ga k2 Gc] 27)
  have An : Hid _ := BoxV.below A.out ((Below.refl _ _).alloc (Nat.le_refl _) (.cells #[.int .i64 y.n, .int .i64 y.m, .int .i64 y.f, .int .i64 y.d, .slice Ga k2 Gc] 27))
  have WBn : Hid _ := BoxV.below WB.out ((Below.refl _ _).alloc (Nat.le_refl _) (.cells #[.int .i64 y.n, .int .i64 y.m, .int .i64 y.f, .int .i64 y.d, .slice Ga k2 Gc] 27))
  have SBn : Hid _ := BoxV.below SB.out ((Below.refl _ _).alloc (Nat.le_refl _) (.cells #[.int .i64 y.n, .int .i64 y.m, .int .i64 y.f, .int .i64 y.d, .slice Ga k2 Gc] 27))
  have Wn : Hid _ := OwnR.below W.out ((Below.refl _ _).alloc (Nat.le_refl _) (.cells #[.int .i64 y.n, .int .i64 y.m, .int .i64 y.f, .int .i64 y.d, .slice Ga k2 Gc] 27))
  have Sn : Hid _ := OwnR.below S.out ((Below.refl _ _).alloc (Nat.le_refl _) (.cells #[.int .i64 y.n, .int .i64 y.m, .int .i64 y.f, .int .i64 y.d, .slice Ga k2 Gc] 27))
  have Gn : Hid _ := OwnR.below G.out ((Below.refl _ _).alloc (Nat.le_refl _) (.cells #[.int .i64 y.n, .int .i64 y.m, .int .i64 y.f, .int .i64 y.d, .slice Ga k2 Gc] 27))
  clear T A WB SB W S G
  have T := Tn
  have A := An
  have WB := WBn
  have SB := SBn
  have W := Wn
  have S := Sn
  have G := Gn
  clear Tn An WBn SBn Wn Sn Gn
  have hBG := Lib.hid (show ∀ q, (Value.slice Ga k2 Gc).ownBlock = some q → loG ≤ q ∧ q < HG from fun q hq => by rw [← HHG.out]; exact hrG q hq)
  clear hrG
  go_upto_region 8 with fail
  rw [HHG.out]
  generalize hw9 : wn.alloc (.cells #[.int .i64 y.n, .int .i64 y.m, .int .i64 y.f, .int .i64 y.d, .slice Ga k2 Gc] 27) = w0 at *
  obtain ⟨wn, hwq⟩ : ∃ w9 : World, w9 = w0 := ⟨_, rfl⟩
  subst hwq
  clear HHG hw9
  have p0 := (GB.out.2 0 _ rfl).1
  have p1 := (GB.out.2 1 _ rfl).1
  have p2 := (GB.out.2 2 _ rfl).1
  have p3 := (GB.out.2 3 _ rfl).1
  have p4 := (GB.out.2 4 _ rfl).1
  have q0 := (WB.out.2 0 _ rfl).1
  have q1 := (WB.out.2 1 _ rfl).1
  have q2 := (WB.out.2 2 _ rfl).1
  have q3 := (WB.out.2 3 _ rfl).1
  have q4 := (WB.out.2 4 _ rfl).1
  go_wp2_with fail
  refine Calls.mono (eqTrip_t y.n y.m y.f y.d Ga k2 Gc Wa Wc y.rs _ (OwnR.rid G.out) (OwnR.rid W.out) (by omega)) ?_
  intro e wn hh
  obtain ⟨he, hb⟩ := (by first | exact hh | exact Ro.mk hh | exact St.mk hh | exact LawOk.mk' hh : Mk _ _ e wn)
  subst he
  have Tn : Hid (Below w.heap.size w wn) := below_next T.out hb
  have An : Hid _ := BoxV.below A.out hb
  have WBn : Hid _ := BoxV.below WB.out hb
  have SBn : Hid _ := BoxV.below SB.out hb
  have GBn : Hid _ := BoxV.below GB.out hb
  have Wn : Hid _ := OwnR.below W.out hb
  have Sn : Hid _ := OwnR.below S.out hb
  have Gn : Hid _ := OwnR.below G.out hb
  clear hb hh p0 p1 p2 p3 p4 q0 q1 q2 q3 q4
  clear T A WB SB GB W S G
  have T := Tn
  have A := An
  have WB := WBn
  have SB := SBn
  have GB := GBn
  have W := Wn
  have S := Sn
  have G := Gn
  clear Tn An WBn SBn GBn Wn Sn Gn
  go_upto_region 10 with fail
  refine wp_region_tg [41, 42, 43, 44, 45]
    [(41, tV (.agg #[.int .i64 n, .int .i64 m, .int .i64 f, .int .i64 d, .slice Sa k Sc])), (42, tV (.agg #[.int .i64 n, .int .i64 m, .int .i64 f, .int .i64 d, .slice a k c])), (43, tT ⟨n, m, f, d, l⟩ k), (44, tV (.bool true)), (45, tV (.bool false))]
    (by kernel_rfl) (by kernel_rfl) (by kernel_rfl) (by kernel_rfl) (by kernel_rfl) (by kernel_rfl) ⟨StW.g (StW.V _), StW.g (StW.V _), StGrow.T _ _, StW.g (StW.V _), StW.g (StW.V _), trivial⟩ ?hob41 ?_
  case hob41 =>
    refine ⟨?_, ?_, ?_, ?_, ?_, trivial⟩
    · intro w1 vs hC hP hL
      refine ⟨fun hw => ?_, fun hw => ?_⟩
      · clear hw
        have u6 : vs 6 = .pointer (some ⟨HS, 0, none⟩) := hP 6 (by kernel_rfl)
        have SB9 := BoxV.below SB.out hC
        have e0 := (SB9.2 0 _ rfl).1
        have e1 := (SB9.2 1 _ rfl).1
        have e2 := (SB9.2 2 _ rfl).1
        have e3 := (SB9.2 3 _ rfl).1
        have e4 := (SB9.2 4 _ rfl).1
        clear SB9
        go_simp
        simp only [evOf_tmp, evOf_const, u6]
        go_simp
        exact oa_pure hC (show tV _ _ w1 from rfl)
      · exact absurd hw (fun e => (by cases (show true = false from e)))
    · intro w1 vs hC hP hL
      refine ⟨fun hw => ?_, fun hw => ?_⟩
      · clear hw
        have u1 : vs 1 = .pointer (some ⟨g, 0, none⟩) := hP 1 (by kernel_rfl)
        have A9 := BoxV.below A.out hC
        have c0 := (A9.2 0 _ rfl).1
        have c1 := (A9.2 1 _ rfl).1
        have c2 := (A9.2 2 _ rfl).1
        have c3 := (A9.2 3 _ rfl).1
        have c4 := (A9.2 4 _ rfl).1
        clear A9
        go_simp
        simp only [evOf_tmp, evOf_const, u1]
        go_simp
        exact oa_pure hC (show tV _ _ w1 from rfl)
      · exact absurd hw (fun e => (by cases (show true = false from e)))
    · intro w1 vs hC hP hL
      refine ⟨fun hw => ?_, fun hw => ?_⟩
      · clear hw
        have u42 : vs 42 = .agg #[.int .i64 n, .int .i64 m, .int .i64 f, .int .i64 d, .slice a k c] := hL 42 (by kernel_rfl)
        go_simp
        simp only [evOf_tmp, u42]
        exact oa_call hC (Calls.mono (toTrip_c n m f d a k c l _ (Rid.below X0.out (below_next T.out hC)) hk2) (fun e w2 hh => (by obtain ⟨v, he, hO, hb⟩ := hh; obtain ⟨a9, c9, rfl, -, -⟩ := OwnR.open hO; have h9 := OwnR.rid hO; rw [show List.length (Tp.rs ⟨n, m, f, d, l⟩) = k from HL.out] at h9 he; exact ⟨_, he, (show tT ⟨n, m, f, d, l⟩ k _ w2 from ⟨a9, c9, rfl, h9⟩), hb⟩)))
      · exact absurd hw (fun e => (by cases (show true = false from e)))
    · intro w1 vs hC hP hL
      refine ⟨fun hw => ?_, fun hw => ?_⟩
      · clear hw
        have u41 : vs 41 = .agg #[.int .i64 n, .int .i64 m, .int .i64 f, .int .i64 d, .slice Sa k Sc] := hL 41 (by kernel_rfl)
        have u43 : tT ⟨n, m, f, d, l⟩ k (vs 43) w1 := hL 43 (by kernel_rfl)
        obtain ⟨p43, i43, u43, hF43⟩ := u43
        go_simp
        simp only [evOf_tmp, u41, u43]
        exact oa_call hC (Calls.mono (eqTrip_t n m f d _ _ _ _ _ l _ (OwnR.rid (OwnR.below S.out hC)) hF43 (by omega)) (fun e w2 hh => (by obtain ⟨he, hb⟩ := (by first | exact hh | exact Ro.mk hh | exact St.mk hh : Mk _ _ e w2); exact ⟨_, he, (show tV _ _ w2 from rfl), hb⟩)))
      · exact absurd hw (fun e => (by cases (show true = false from e)))
    · intro w1 vs hC hP hL
      refine ⟨fun hw => ?_, fun hw => ?_⟩
      · clear hw
        have u44 : vs 44 = .bool true := hL 44 (by kernel_rfl)
        go_simp
        simp only [evOf_tmp, evOf_const, u44]
        go_simp
        exact oa_pure hC (show tV _ _ w1 from rfl)
      · exact absurd hw (fun e => (by cases (show true = false from e)))
  intro vs wq hq hT
  have t1 : vs 45 = .bool false := hT 45 rfl
  simp (decide := true) only [over, Nat.reduceAdd, if_true, if_false]
  rw [t1]
  clear hT t1
  have Tn := Lib.hid (below_next T.out hq)
  have An := Lib.hid (BoxV.below A.out hq)
  have WBn := Lib.hid (BoxV.below WB.out hq)
  have SBn := Lib.hid (BoxV.below SB.out hq)
  have GBn := Lib.hid (BoxV.below GB.out hq)
  have Wn := Lib.hid (OwnR.below W.out hq)
  have Sn := Lib.hid (OwnR.below S.out hq)
  have Gn := Lib.hid (OwnR.below G.out hq)
  clear hq
  clear T A WB SB GB W S G
  have T := Tn
  have A := An
  have WB := WBn
  have SB := SBn
  have GB := GBn
  have W := Wn
  have S := Sn
  have G := Gn
  clear Tn An WBn SBn GBn Wn Sn Gn
  obtain ⟨wn, hwq⟩ : ∃ w0, w0 = wq := ⟨_, rfl⟩
  subst hwq
  have e0 := (SB.out.2 0 _ rfl).1
  have e1 := (SB.out.2 1 _ rfl).1
  have e2 := (SB.out.2 2 _ rfl).1
  have e3 := (SB.out.2 3 _ rfl).1
  have e4 := (SB.out.2 4 _ rfl).1
  go_wp2_with fail
  refine Calls.mono (markTrip_c n m f d Sa k Sc 1 (rfl3 l) loS loS HS _ S.out (by omega) (by omega) hBS.out) ?_
  rintro e wq ⟨rfl, hO, ho⟩
  clear e0 e1 e2 e3 e4
  have Tn := Lib.hid (Out.below T.out ho (by omega))
  have An := Lib.hid (BoxV.out A.out ho (.inl (by omega)))
  have WBn := Lib.hid (BoxV.out WB.out ho (by omega))
  have SBn := Lib.hid (BoxV.out SB.out ho (by omega))
  have GBn := Lib.hid (BoxV.out GB.out ho (by omega))
  have Wn := Lib.hid (OwnR.block W.out (fun q hq => ho.block q (OwnR.lt W.out q hq).2 (by have := hBW.out q hq; omega)))
  have Sn := Lib.hid hO
  have Gn := Lib.hid (OwnR.block G.out (fun q hq => ho.block q (OwnR.lt G.out q hq).2 (by have := hBG.out q hq; omega)))
  clear hO ho T A WB SB GB W S G
  have T := Tn
  have A := An
  have WB := WBn
  have SB := SBn
  have GB := GBn
  have W := Wn
  have S := Sn
  have G := Gn
  clear Tn An WBn SBn GBn Wn Sn Gn
  rw [HZ2.out]
  obtain ⟨wn, hwq⟩ : ∃ w9 : World, w9 = wq := ⟨_, rfl⟩
  subst hwq
  clear S SB
  have p0 := (GB.out.2 0 _ rfl).1
  have p1 := (GB.out.2 1 _ rfl).1
  have p2 := (GB.out.2 2 _ rfl).1
  have p3 := (GB.out.2 3 _ rfl).1
  have p4 := (GB.out.2 4 _ rfl).1
  have q0 := (WB.out.2 0 _ rfl).1
  have q1 := (WB.out.2 1 _ rfl).1
  have q2 := (WB.out.2 2 _ rfl).1
  have q3 := (WB.out.2 3 _ rfl).1
  have q4 := (WB.out.2 4 _ rfl).1
  go_wp2_with fail
  refine Calls.mono (eqTrip_t y.n y.m y.f y.d Ga k2 Gc Wa Wc y.rs _ (OwnR.rid G.out) (OwnR.rid W.out) (by omega)) ?_
  intro e wn hh
  obtain ⟨he, hb⟩ := (by first | exact hh | exact Ro.mk hh | exact St.mk hh | exact LawOk.mk' hh : Mk _ _ e wn)
  subst he
  have Tn : Hid (Below w.heap.size w wn) := below_next T.out hb
  have An : Hid _ := BoxV.below A.out hb
  have WBn : Hid _ := BoxV.below WB.out hb
  have GBn : Hid _ := BoxV.below GB.out hb
  have Wn : Hid _ := OwnR.below W.out hb
  have Gn : Hid _ := OwnR.below G.out hb
  clear hb hh p0 p1 p2 p3 p4 q0 q1 q2 q3 q4
  clear T A WB GB W G
  have T := Tn
  have A := An
  have WB := WBn
  have GB := GBn
  have W := Wn
  have G := Gn
  clear Tn An WBn GBn Wn Gn
  have e0 := (GB.out.2 0 _ rfl).1
  have e1 := (GB.out.2 1 _ rfl).1
  have e2 := (GB.out.2 2 _ rfl).1
  have e3 := (GB.out.2 3 _ rfl).1
  have e4 := (GB.out.2 4 _ rfl).1
  go_wp2_with fail
  refine Calls.mono (markTrip_c y.n y.m y.f y.d Ga k2 Gc 1 (rfl3 y.rs) loG loG HG _ G.out (by omega) (by omega) hBG.out) ?_
  rintro e wq ⟨rfl, hO, ho⟩
  clear e0 e1 e2 e3 e4
  have Tn := Lib.hid (Out.below T.out ho (by omega))
  have An := Lib.hid (BoxV.out A.out ho (.inl (by omega)))
  have WBn := Lib.hid (BoxV.out WB.out ho (by omega))
  have GBn := Lib.hid (BoxV.out GB.out ho (by omega))
  have Wn := Lib.hid (OwnR.block W.out (fun q hq => ho.block q (OwnR.lt W.out q hq).2 (by have := hBW.out q hq; omega)))
  have Gn := Lib.hid hO
  clear hO ho T A WB GB W G
  have T := Tn
  have A := An
  have WB := WBn
  have GB := GBn
  have W := Wn
  have G := Gn
  clear Tn An WBn GBn Wn Gn
  rw [HZ1.out]
  obtain ⟨wn, hwq⟩ : ∃ w9 : World, w9 = wq := ⟨_, rfl⟩
  subst hwq
  have e0 := (GB.out.2 0 _ rfl).1
  have e1 := (GB.out.2 1 _ rfl).1
  have e2 := (GB.out.2 2 _ rfl).1
  have e3 := (GB.out.2 3 _ rfl).1
  have e4 := (GB.out.2 4 _ rfl).1
  have HK9 := Lib.hid (heldTrip_c y.n y.m y.f y.d Ga k2 Gc 1 wn (OwnR.rs0 G.out) (by omega) (by omega))
  rw [HZ1.out] at HK9
  go_wp2_with fail
  refine Calls.mono (HK9.out) ?_
  intro e wn hh
  obtain ⟨he, hb⟩ := (by first | exact hh | exact Ro.mk hh | exact St.mk hh | exact LawOk.mk' hh : Mk _ _ e wn)
  subst he
  have Tn : Hid (Below w.heap.size w wn) := below_next T.out hb
  have An : Hid _ := BoxV.below A.out hb
  have WBn : Hid _ := BoxV.below WB.out hb
  have GBn : Hid _ := BoxV.below GB.out hb
  have Wn : Hid _ := OwnR.below W.out hb
  have Gn : Hid _ := OwnR.below G.out hb
  clear hb hh e0 e1 e2 e3 e4
  clear T A WB GB W G
  have T := Tn
  have A := An
  have WB := WBn
  have GB := GBn
  have W := Wn
  have G := Gn
  clear Tn An WBn GBn Wn Gn
  clear HK9
  have c0 := (A.out.2 0 _ rfl).1
  have c1 := (A.out.2 1 _ rfl).1
  have c2 := (A.out.2 2 _ rfl).1
  have c3 := (A.out.2 3 _ rfl).1
  have c4 := (A.out.2 4 _ rfl).1
  go_wp2_with fail
  refine Calls.mono (toTrip_c n m f d a k c l _ (Rid.below X0.out T.out) hk2) ?_
  intro e wq hh
  obtain ⟨v2, he, hO2, hb3⟩ := hh
  subst he
  rw [show List.length (Tp.rs ⟨n, m, f, d, l⟩) = k from HL.out] at hO2
  obtain ⟨p9, q9, hv, -, -⟩ := OwnR.open hO2
  subst hv
  have P9 := Lib.hid (OwnR.rid hO2)
  clear hO2 c0 c1 c2 c3 c4
  have Tn := Lib.hid (below_next T.out hb3)
  have An := Lib.hid (BoxV.below A.out hb3)
  have WBn := Lib.hid (BoxV.below WB.out hb3)
  have GBn := Lib.hid (BoxV.below GB.out hb3)
  have Wn := Lib.hid (OwnR.below W.out hb3)
  have Gn := Lib.hid (OwnR.below G.out hb3)
  clear hb3
  clear T A WB GB W G
  have T := Tn
  have A := An
  have WB := WBn
  have GB := GBn
  have W := Wn
  have G := Gn
  clear Tn An WBn GBn Wn Gn
  obtain ⟨wn, hwq⟩ : ∃ w0, w0 = wq := ⟨_, rfl⟩
  subst hwq
  skip
  go_wp2_with fail
  obtain ⟨loH, hloH⟩ : ∃ q, wn.heap.size = q := ⟨_, rfl⟩
  have hTH : w.heap.size ≤ loH := by rw [← hloH]; exact T.out.size
  have hltAH : g < loH := by rw [← hloH]; exact BoxV.lt A.out
  have hltWBH : HW < loH := by rw [← hloH]; exact BoxV.lt WB.out
  have hltGBH : HG < loH := by rw [← hloH]; exact BoxV.lt GB.out
  refine Calls.mono (HKI.out _ p9 q9 P9.out) ?_
  intro e wq hh
  obtain ⟨v2, he, hO2, hb3⟩ := hh
  subst he
  rw [show List.length (Tp.rs y) = k2 from HK2.out] at hO2
  obtain ⟨Ha, Hc, hv, -, -⟩ := OwnR.open hO2
  subst hv
  rw [hloH] at hO2
  have H := Lib.hid hO2
  clear hO2 hloH
  have Tn := Lib.hid (below_next T.out hb3)
  have An := Lib.hid (BoxV.below A.out hb3)
  have WBn := Lib.hid (BoxV.below WB.out hb3)
  have GBn := Lib.hid (BoxV.below GB.out hb3)
  have Wn := Lib.hid (OwnR.below W.out hb3)
  have Gn := Lib.hid (OwnR.below G.out hb3)
  have P9n := Lib.hid (Rid.below P9.out hb3)
  clear hb3
  clear T A WB GB W G P9
  have T := Tn
  have A := An
  have WB := WBn
  have GB := GBn
  have W := Wn
  have G := Gn
  have P9 := P9n
  clear Tn An WBn GBn Wn Gn P9n
  obtain ⟨wn, hwq⟩ : ∃ w0, w0 = wq := ⟨_, rfl⟩
  subst hwq
  have hrH := fun q hq => OwnR.lt H.out q hq
  have hltAHH := BoxV.lt A.out
  have hltWBHH := BoxV.lt WB.out
  have hltGBHH := BoxV.lt GB.out
  have hWHH := T.out.size
  obtain ⟨HH, hHH⟩ : ∃ HH, Array.size (World.heap wn) = HH := ⟨_, rfl⟩
  have HHH : Hid _ := hHH
  rw [hHH] at hWHH hltAHH hltWBHH hltGBHH
  have HB : Hid (BoxV (wn.alloc (.cells #[.int .i64 y.n, .int .i64 y.m, .int .i64 y.f, .int .i64 y.d, .slice Ha k2 Hc] 27)) HH [.int .i64 y.n, .int .i64 y.m, .int .i64 y.f, .int .i64 y.d, .slice Ha k2 Hc]) := by rw [← hHH]; exact BoxV.new _ _ _ (by simp) rfl
  clear hHH
  have Tn : Hid (Below w.heap.size w _) := Below.al T.out (.cells #[.int .i64 y.n, .int .i64 y.m, .int .i64 y.f, .int .i64 y.d, .slice Ha k2 Hc] 27)
  have An : Hid _ := BoxV.below A.out ((Below.refl _ _).alloc (Nat.le_refl _) (.cells #[.int .i64 y.n, .int .i64 y.m, .int .i64 y.f, .int .i64 y.d, .slice Ha k2 Hc] 27))
  have WBn : Hid _ := BoxV.below WB.out ((Below.refl _ _).alloc (Nat.le_refl _) (.cells #[.int .i64 y.n, .int .i64 y.m, .int .i64 y.f, .int .i64 y.d, .slice Ha k2 Hc] 27))
  have GBn : Hid _ := BoxV.below GB.out ((Below.refl _ _).alloc (Nat.le_refl _) (.cells #[.int .i64 y.n, .int .i64 y.m, .int .i64 y.f, .int .i64 y.d, .slice Ha k2 Hc] 27))
  have Wn : Hid _ := OwnR.below W.out ((Below.refl _ _).alloc (Nat.le_refl _) (.cells #[.int .i64 y.n, .int .i64 y.m, .int .i64 y.f, .int .i64 y.d, .slice Ha k2 Hc] 27))
  have Gn : Hid _ := OwnR.below G.out ((Below.refl _ _).alloc (Nat.le_refl _) (.cells #[.int .i64 y.n, .int .i64 y.m, .int .i64 y.f, .int .i64 y.d, .slice Ha k2 Hc] 27))
  have P9n : Hid _ := Rid.below P9.out ((Below.refl _ _).alloc (Nat.le_refl _) (.cells #[.int .i64 y.n, .int .i64 y.m, .int .i64 y.f, .int .i64 y.d, .slice Ha k2 Hc] 27))
  have Hn : Hid _ := OwnR.below H.out ((Below.refl _ _).alloc (Nat.le_refl _) (.cells #[.int .i64 y.n, .int .i64 y.m, .int .i64 y.f, .int .i64 y.d, .slice Ha k2 Hc] 27))
  clear T A WB GB W G P9 H
  have T := Tn
  have A := An
  have WB := WBn
  have GB := GBn
  have W := Wn
  have G := Gn
  have P9 := P9n
  have H := Hn
  clear Tn An WBn GBn Wn Gn P9n Hn
  have hBH := Lib.hid (show ∀ q, (Value.slice Ha k2 Hc).ownBlock = some q → loH ≤ q ∧ q < HH from fun q hq => by rw [← HHH.out]; exact hrH q hq)
  clear hrH
  go_upto_region 25 with fail
  rw [HHH.out]
  generalize hw9 : wn.alloc (.cells #[.int .i64 y.n, .int .i64 y.m, .int .i64 y.f, .int .i64 y.d, .slice Ha k2 Hc] 27) = w0 at *
  obtain ⟨wn, hwq⟩ : ∃ w9 : World, w9 = w0 := ⟨_, rfl⟩
  subst hwq
  clear HHH hw9
  clear P9
  have p0 := (HB.out.2 0 _ rfl).1
  have p1 := (HB.out.2 1 _ rfl).1
  have p2 := (HB.out.2 2 _ rfl).1
  have p3 := (HB.out.2 3 _ rfl).1
  have p4 := (HB.out.2 4 _ rfl).1
  have q0 := (WB.out.2 0 _ rfl).1
  have q1 := (WB.out.2 1 _ rfl).1
  have q2 := (WB.out.2 2 _ rfl).1
  have q3 := (WB.out.2 3 _ rfl).1
  have q4 := (WB.out.2 4 _ rfl).1
  go_wp2_with fail
  refine Calls.mono (eqTrip_t y.n y.m y.f y.d Ha k2 Hc Wa Wc y.rs _ (OwnR.rid H.out) (OwnR.rid W.out) (by omega)) ?_
  intro e wn hh
  obtain ⟨he, hb⟩ := (by first | exact hh | exact Ro.mk hh | exact St.mk hh | exact LawOk.mk' hh : Mk _ _ e wn)
  subst he
  have Tn : Hid (Below w.heap.size w wn) := below_next T.out hb
  have An : Hid _ := BoxV.below A.out hb
  have WBn : Hid _ := BoxV.below WB.out hb
  have GBn : Hid _ := BoxV.below GB.out hb
  have HBn : Hid _ := BoxV.below HB.out hb
  have Wn : Hid _ := OwnR.below W.out hb
  have Gn : Hid _ := OwnR.below G.out hb
  have Hn : Hid _ := OwnR.below H.out hb
  clear hb hh p0 p1 p2 p3 p4 q0 q1 q2 q3 q4
  clear T A WB GB HB W G H
  have T := Tn
  have A := An
  have WB := WBn
  have GB := GBn
  have HB := HBn
  have W := Wn
  have G := Gn
  have H := Hn
  clear Tn An WBn GBn HBn Wn Gn Hn
  have e0 := (GB.out.2 0 _ rfl).1
  have e1 := (GB.out.2 1 _ rfl).1
  have e2 := (GB.out.2 2 _ rfl).1
  have e3 := (GB.out.2 3 _ rfl).1
  have e4 := (GB.out.2 4 _ rfl).1
  have HK9 := Lib.hid (heldTrip_c y.n y.m y.f y.d Ga k2 Gc 1 wn (OwnR.rs0 G.out) (by omega) (by omega))
  rw [HZ1.out] at HK9
  go_wp2_with fail
  refine Calls.mono (HK9.out) ?_
  intro e wn hh
  obtain ⟨he, hb⟩ := (by first | exact hh | exact Ro.mk hh | exact St.mk hh | exact LawOk.mk' hh : Mk _ _ e wn)
  subst he
  have Tn : Hid (Below w.heap.size w wn) := below_next T.out hb
  have An : Hid _ := BoxV.below A.out hb
  have WBn : Hid _ := BoxV.below WB.out hb
  have GBn : Hid _ := BoxV.below GB.out hb
  have HBn : Hid _ := BoxV.below HB.out hb
  have Wn : Hid _ := OwnR.below W.out hb
  have Gn : Hid _ := OwnR.below G.out hb
  have Hn : Hid _ := OwnR.below H.out hb
  clear hb hh e0 e1 e2 e3 e4
  clear T A WB GB HB W G H
  have T := Tn
  have A := An
  have WB := WBn
  have GB := GBn
  have HB := HBn
  have W := Wn
  have G := Gn
  have H := Hn
  clear Tn An WBn GBn HBn Wn Gn Hn
  clear HK9
  go_wp2_with fail
  go_ret
  first | exact LawOk.mk T.out | exact LawOk.mk (Below.dr T.out _)
end Go.Proofs.Ytfhhgddajmihjaa
