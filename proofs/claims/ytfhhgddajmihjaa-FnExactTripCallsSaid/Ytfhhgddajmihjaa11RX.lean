/- The exact laws of chapter 11: the walks. -/
import Derived.Test.Ytfhhgddajmihjaa11MD
import Derived.Test.Ytfhhgddajmihjaa11MB
import Derived.Test.YtfhhgddajmihjaaQT
namespace Go.Proofs.Ytfhhgddajmihjaa
open Go.RowKit
set_option linter.unusedVariables false
set_option linter.unusedSimpArgs false
set_option maxRecDepth 100000

/-- A fresh trip, by types. -/
def tT (t : Tp) (k : Nat) (v : Value) (w : World) : Prop := ∃ (a : Option Addr) (c : Nat), v = .agg #[.int .i64 t.n, .int .i64 t.m, .int .i64 t.f, .int .i64 t.d, .slice a k c] ∧ Rid w a k t.rs
theorem StGrow.T (t : Tp) (k : Nat) : StGrow (tT t k) := fun v w w' hr h => by
  obtain ⟨a, c, e, hC⟩ := h
  exact ⟨a, c, e, hC.below ⟨hr.os, hr.tape, hr.output, hr.size, fun k hk => hr.block k hk (fun e => by cases e)⟩⟩
theorem te_ok {t : Tp} (h : TOk t) : TOk (teT t) := by rw [teT_t h]; exact (ten_ok 16 t h).1
theorem eqTrip_t (n m f d : Int) (a : Option Addr) (k c : Nat) (a' : Option Addr) (c' : Nat) (l : List Ri) (w : World) (hX : Rid w a k l) (hY : Rid w a' k l) (hk : k ≤ 1048577) :
    Calls Try.prog 36 #[.agg #[.int .i64 n, .int .i64 m, .int .i64 f, .int .i64 d, .slice a k c], .agg #[.int .i64 n, .int .i64 m, .int .i64 f, .int .i64 d, .slice a' k c']] w (Mk w (.bool true)) := by
  have K := eqTrip_c n m f d a k c l n m f d a' k c' l w hX hY hk
  rw [tr_true rfl] at K
  exact K

set_option maxRecDepth 100000 in
set_option maxHeartbeats 16000000 in
theorem ExactTripValid_w (n m f d : Int) (a : Option Addr) (k c : Nat) (l : List Ri) (w : World) (hX : Rid w a k l) (hk : k ≤ maxLen) : Calls Try.prog 8 #[.agg #[.int .i64 n, .int .i64 m, .int .i64 f, .int .i64 d, .slice a k c]] w (LawOk w) := by
  have HL := Lib.hid hX.2
  have X0 := Lib.hid hX
  have KZ := fun w' => szTrip_c n m f d a k c w' hk
  clear hX
  by_cases hk2 : k ≤ 1048576
  case neg =>
    rw [show szT k = -1 from by unfold szT; rw [if_neg (by omega)]] at KZ
    have HZ := Lib.hid KZ
    clear KZ
    refine at_base fun wn hwn => ?_
    have T := Lib.hid (show Below w.heap.size w wn from by rw [hwn]; exact Below.refl _ _)
    clear hwn
    obtain ⟨g, hg⟩ : ∃ g, Array.size (World.heap wn) = g := ⟨_, rfl⟩
    have HGg := Lib.hid hg
    have hTg : w.heap.size ≤ g := by rw [← hg]; exact T.out.size
    have Tn := Lib.hid (show Below w.heap.size w (wn.alloc (.cells #[.int .i64 n, .int .i64 m, .int .i64 f, .int .i64 d, .slice a k c] 50)) from (Below.al T.out (.cells #[.int .i64 n, .int .i64 m, .int .i64 f, .int .i64 d, .slice a k c] 50)))
    have A := Lib.hid (show BoxV (wn.alloc (.cells #[.int .i64 n, .int .i64 m, .int .i64 f, .int .i64 d, .slice a k c] 50)) g [.int .i64 n, .int .i64 m, .int .i64 f, .int .i64 d, .slice a k c] from by have h9 := (BoxV.new wn [.int .i64 n, .int .i64 m, .int .i64 f, .int .i64 d, .slice a k c] 50 (by simp) rfl); simp only [World.size_alloc, hg, Nat.add_assoc, Nat.reduceAdd] at h9; exact h9)
    have HZg := Lib.hid (show ((wn.alloc (.cells #[.int .i64 n, .int .i64 m, .int .i64 f, .int .i64 d, .slice a k c] 50))).heap.size = g + 1 from by simp only [World.size_alloc, hg, Nat.add_assoc, Nat.reduceAdd])
    clear hg
    clear T
    have T := Tn
    clear Tn
    go_enter Try.func8, Try.ntmps8
    have c0 := (A.out.2 0 _ rfl).1
    have c1 := (A.out.2 1 _ rfl).1
    have c2 := (A.out.2 2 _ rfl).1
    have c3 := (A.out.2 3 _ rfl).1
    have c4 := (A.out.2 4 _ rfl).1
    go_wp2_with fail
    rw [HGg.out]
    refine Calls.mono (HZ.out _) ?_
    intro e wn hh
    obtain ⟨he, hb⟩ := (by first | exact hh | exact Ro.mk hh | exact St.mk hh | exact LawOk.mk' hh : Mk _ _ e wn)
    subst he
    have Tn : Hid (Below w.heap.size w wn) := below_next T.out hb
    have An : Hid _ := BoxV.below A.out hb
    clear hb hh c0 c1 c2 c3 c4
    clear T A
    have T := Tn
    have A := An
    clear Tn An
    go_wp2_with fail
    go_ret
    first | exact LawOk.mk T.out | exact LawOk.mk (Below.dr T.out _)
  obtain ⟨z, hz⟩ : ∃ z : Nat, szT k = z := ⟨1048576 - k, by unfold szT; rw [if_pos (by omega)]; omega⟩
  rw [hz] at KZ
  have HZ := Lib.hid KZ
  have hzn : ¬ (z : Int) < 0 := by omega
  clear KZ hz
  have KS := fun w' (a' : Option Addr) (c' : Nat) (h : Rid w' a' k l) => sTripValid_c n m f d a' k c' l w' h (by omega)
  have KI := fun w' (a' : Option Addr) (c' : Nat) (h : Rid w' a' k l) => iTripValid_c n m f d a' k c' l w' h (by omega)
  obtain ⟨r, hr⟩ : ∃ r, tokB ⟨n, m, f, d, l⟩ = r := ⟨_, rfl⟩
  rw [hr] at KS KI
  have HKS := Lib.hid KS
  have HKI := Lib.hid KI
  clear KS KI hr
  refine at_base fun wn hwn => ?_
  have T := Lib.hid (show Below w.heap.size w wn from by rw [hwn]; exact Below.refl _ _)
  clear hwn
  obtain ⟨g, hg⟩ : ∃ g, Array.size (World.heap wn) = g := ⟨_, rfl⟩
  have HGg := Lib.hid hg
  have hTg : w.heap.size ≤ g := by rw [← hg]; exact T.out.size
  have Tn := Lib.hid (show Below w.heap.size w (wn.alloc (.cells #[.int .i64 n, .int .i64 m, .int .i64 f, .int .i64 d, .slice a k c] 50)) from (Below.al T.out (.cells #[.int .i64 n, .int .i64 m, .int .i64 f, .int .i64 d, .slice a k c] 50)))
  have A := Lib.hid (show BoxV (wn.alloc (.cells #[.int .i64 n, .int .i64 m, .int .i64 f, .int .i64 d, .slice a k c] 50)) g [.int .i64 n, .int .i64 m, .int .i64 f, .int .i64 d, .slice a k c] from by have h9 := (BoxV.new wn [.int .i64 n, .int .i64 m, .int .i64 f, .int .i64 d, .slice a k c] 50 (by simp) rfl); simp only [World.size_alloc, hg, Nat.add_assoc, Nat.reduceAdd] at h9; exact h9)
  have HZg := Lib.hid (show ((wn.alloc (.cells #[.int .i64 n, .int .i64 m, .int .i64 f, .int .i64 d, .slice a k c] 50))).heap.size = g + 1 from by simp only [World.size_alloc, hg, Nat.add_assoc, Nat.reduceAdd])
  clear hg
  clear T
  have T := Tn
  clear Tn
  go_enter Try.func8, Try.ntmps8
  have c0 := (A.out.2 0 _ rfl).1
  have c1 := (A.out.2 1 _ rfl).1
  have c2 := (A.out.2 2 _ rfl).1
  have c3 := (A.out.2 3 _ rfl).1
  have c4 := (A.out.2 4 _ rfl).1
  go_wp2_with fail
  rw [HGg.out]
  refine Calls.mono (HZ.out _) ?_
  intro e wn hh
  obtain ⟨he, hb⟩ := (by first | exact hh | exact Ro.mk hh | exact St.mk hh | exact LawOk.mk' hh : Mk _ _ e wn)
  subst he
  have Tn : Hid (Below w.heap.size w wn) := below_next T.out hb
  have An : Hid _ := BoxV.below A.out hb
  clear hb hh c0 c1 c2 c3 c4
  clear T A
  have T := Tn
  have A := An
  clear Tn An
  clear HZ
  have c0 := (A.out.2 0 _ rfl).1
  have c1 := (A.out.2 1 _ rfl).1
  have c2 := (A.out.2 2 _ rfl).1
  have c3 := (A.out.2 3 _ rfl).1
  have c4 := (A.out.2 4 _ rfl).1
  go_wp2_with fail
  refine Calls.mono (toTrip_c n m f d a k c l _ (Rid.below X0.out T.out) hk2) ?_
  intro e wq hh
  obtain ⟨v2, he, hO2, hb3⟩ := hh
  subst he
  rw [show List.length (Tp.rs ⟨n, m, f, d, l⟩) = k from HL.out] at hO2
  obtain ⟨p9, q9, hv, -, -⟩ := OwnR.open hO2
  subst hv
  have P9 := Lib.hid (OwnR.rid hO2)
  clear hO2 c0 c1 c2 c3 c4
  have Tn := Lib.hid (below_next T.out hb3)
  have An := Lib.hid (BoxV.below A.out hb3)
  clear hb3
  clear T A
  have T := Tn
  have A := An
  clear Tn An
  obtain ⟨wn, hwq⟩ : ∃ w0, w0 = wq := ⟨_, rfl⟩
  subst hwq
  go_wp2_with fail
  refine Calls.mono (HKS.out _ p9 q9 P9.out) ?_
  intro e wn hh
  obtain ⟨he, hb⟩ := (by first | exact hh | exact Ro.mk hh | exact St.mk hh | exact LawOk.mk' hh : Mk _ _ e wn)
  subst he
  have Tn : Hid (Below w.heap.size w wn) := below_next T.out hb
  have An : Hid _ := BoxV.below A.out hb
  have P9n : Hid _ := Rid.below P9.out hb
  clear hb hh
  clear T A P9
  have T := Tn
  have A := An
  have P9 := P9n
  clear Tn An P9n
  clear P9
  have c0 := (A.out.2 0 _ rfl).1
  have c1 := (A.out.2 1 _ rfl).1
  have c2 := (A.out.2 2 _ rfl).1
  have c3 := (A.out.2 3 _ rfl).1
  have c4 := (A.out.2 4 _ rfl).1
  go_wp2_with fail
  obtain ⟨loS, hloS⟩ : ∃ q, wn.heap.size = q := ⟨_, rfl⟩
  have hTS : w.heap.size ≤ loS := by rw [← hloS]; exact T.out.size
  have hltAS : g < loS := by rw [← hloS]; exact BoxV.lt A.out
  refine Calls.mono (toTrip_c n m f d a k c l _ (Rid.below X0.out T.out) hk2) ?_
  intro e wq hh
  obtain ⟨v2, he, hO2, hb3⟩ := hh
  subst he
  rw [show List.length (Tp.rs ⟨n, m, f, d, l⟩) = k from HL.out] at hO2
  obtain ⟨Sa, Sc, hv, -, -⟩ := OwnR.open hO2
  subst hv
  rw [hloS] at hO2
  have S := Lib.hid hO2
  clear hO2 hloS
  have Tn := Lib.hid (below_next T.out hb3)
  have An := Lib.hid (BoxV.below A.out hb3)
  clear hb3
  clear T A
  have T := Tn
  have A := An
  clear Tn An
  obtain ⟨wn, hwq⟩ : ∃ w0, w0 = wq := ⟨_, rfl⟩
  subst hwq
  have hrS := fun q hq => OwnR.lt S.out q hq
  have hltAHS := BoxV.lt A.out
  have hWHS := T.out.size
  obtain ⟨HS, hHS⟩ : ∃ HS, Array.size (World.heap wn) = HS := ⟨_, rfl⟩
  have HHS : Hid _ := hHS
  rw [hHS] at hWHS hltAHS
  have SB : Hid (BoxV (wn.alloc (.cells #[.int .i64 n, .int .i64 m, .int .i64 f, .int .i64 d, .slice Sa k Sc] 27)) HS [.int .i64 n, .int .i64 m, .int .i64 f, .int .i64 d, .slice Sa k Sc]) := by rw [← hHS]; exact BoxV.new _ _ _ (by simp) rfl
  clear hHS
  have Tn : Hid (Below w.heap.size w _) := Below.al T.out (.cells #[.int .i64 n, .int .i64 m, .int .i64 f, .int .i64 d, .slice Sa k Sc] 27)
  have An : Hid _ := BoxV.below A.out ((Below.refl _ _).alloc (Nat.le_refl _) (.cells #[.int .i64 n, .int .i64 m, .int .i64 f, .int .i64 d, .slice Sa k Sc] 27))
  have Sn : Hid _ := OwnR.below S.out ((Below.refl _ _).alloc (Nat.le_refl _) (.cells #[.int .i64 n, .int .i64 m, .int .i64 f, .int .i64 d, .slice Sa k Sc] 27))
  clear T A S
  have T := Tn
  have A := An
  have S := Sn
  clear Tn An Sn
  have hBS := Lib.hid (show ∀ q, (Value.slice Sa k Sc).ownBlock = some q → loS ≤ q ∧ q < HS from fun q hq => by rw [← HHS.out]; exact hrS q hq)
  clear hrS
  go_upto_region 7 with fail
  rw [HHS.out]
  generalize hw9 : wn.alloc (.cells #[.int .i64 n, .int .i64 m, .int .i64 f, .int .i64 d, .slice Sa k Sc] 27) = w0 at *
  obtain ⟨wn, hwq⟩ : ∃ w9 : World, w9 = w0 := ⟨_, rfl⟩
  subst hwq
  clear HHS hw9
  have e0 := (SB.out.2 0 _ rfl).1
  have e1 := (SB.out.2 1 _ rfl).1
  have e2 := (SB.out.2 2 _ rfl).1
  have e3 := (SB.out.2 3 _ rfl).1
  have e4 := (SB.out.2 4 _ rfl).1
  go_wp2_with fail
  refine Calls.mono (HKI.out _ Sa Sc (OwnR.rid S.out)) ?_
  intro e wn hh
  obtain ⟨he, hb⟩ := (by first | exact hh | exact Ro.mk hh | exact St.mk hh | exact LawOk.mk' hh : Mk _ _ e wn)
  subst he
  have Tn : Hid (Below w.heap.size w wn) := below_next T.out hb
  have An : Hid _ := BoxV.below A.out hb
  have SBn : Hid _ := BoxV.below SB.out hb
  have Sn : Hid _ := OwnR.below S.out hb
  clear hb hh e0 e1 e2 e3 e4
  clear T A SB S
  have T := Tn
  have A := An
  have SB := SBn
  have S := Sn
  clear Tn An SBn Sn
  have hrr : (r != r) = false := by simp
  go_upto_region 10 with fail
  refine wp_region_tg [22, 23, 24, 25, 26]
    [(22, tV (.agg #[.int .i64 n, .int .i64 m, .int .i64 f, .int .i64 d, .slice Sa k Sc])), (23, tV (.agg #[.int .i64 n, .int .i64 m, .int .i64 f, .int .i64 d, .slice a k c])), (24, tT ⟨n, m, f, d, l⟩ k), (25, tV (.bool true)), (26, tV (.bool false))]
    (by kernel_rfl) (by kernel_rfl) (by kernel_rfl) (by kernel_rfl) (by kernel_rfl) (by kernel_rfl) ⟨StW.g (StW.V _), StW.g (StW.V _), StGrow.T _ _, StW.g (StW.V _), StW.g (StW.V _), trivial⟩ ?hob22 ?_
  case hob22 =>
    refine ⟨?_, ?_, ?_, ?_, ?_, trivial⟩
    · intro w1 vs hC hP hL
      refine ⟨fun hw => ?_, fun hw => ?_⟩
      · clear hw
        have u5 : vs 5 = .pointer (some ⟨HS, 0, none⟩) := hP 5 (by kernel_rfl)
        have SB9 := BoxV.below SB.out hC
        have e0 := (SB9.2 0 _ rfl).1
        have e1 := (SB9.2 1 _ rfl).1
        have e2 := (SB9.2 2 _ rfl).1
        have e3 := (SB9.2 3 _ rfl).1
        have e4 := (SB9.2 4 _ rfl).1
        clear SB9
        go_simp
        simp only [evOf_tmp, evOf_const, u5]
        go_simp
        exact oa_pure hC (show tV _ _ w1 from rfl)
      · exact absurd hw (fun e => (by cases (show true = false from e)))
    · intro w1 vs hC hP hL
      refine ⟨fun hw => ?_, fun hw => ?_⟩
      · clear hw
        have u1 : vs 1 = .pointer (some ⟨g, 0, none⟩) := hP 1 (by kernel_rfl)
        have A9 := BoxV.below A.out hC
        have c0 := (A9.2 0 _ rfl).1
        have c1 := (A9.2 1 _ rfl).1
        have c2 := (A9.2 2 _ rfl).1
        have c3 := (A9.2 3 _ rfl).1
        have c4 := (A9.2 4 _ rfl).1
        clear A9
        go_simp
        simp only [evOf_tmp, evOf_const, u1]
        go_simp
        exact oa_pure hC (show tV _ _ w1 from rfl)
      · exact absurd hw (fun e => (by cases (show true = false from e)))
    · intro w1 vs hC hP hL
      refine ⟨fun hw => ?_, fun hw => ?_⟩
      · clear hw
        have u23 : vs 23 = .agg #[.int .i64 n, .int .i64 m, .int .i64 f, .int .i64 d, .slice a k c] := hL 23 (by kernel_rfl)
        go_simp
        simp only [evOf_tmp, u23]
        exact oa_call hC (Calls.mono (toTrip_c n m f d a k c l _ (Rid.below X0.out (below_next T.out hC)) hk2) (fun e w2 hh => (by obtain ⟨v, he, hO, hb⟩ := hh; obtain ⟨a9, c9, rfl, -, -⟩ := OwnR.open hO; have h9 := OwnR.rid hO; rw [show List.length (Tp.rs ⟨n, m, f, d, l⟩) = k from HL.out] at h9 he; exact ⟨_, he, (show tT ⟨n, m, f, d, l⟩ k _ w2 from ⟨a9, c9, rfl, h9⟩), hb⟩)))
      · exact absurd hw (fun e => (by cases (show true = false from e)))
    · intro w1 vs hC hP hL
      refine ⟨fun hw => ?_, fun hw => ?_⟩
      · clear hw
        have u22 : vs 22 = .agg #[.int .i64 n, .int .i64 m, .int .i64 f, .int .i64 d, .slice Sa k Sc] := hL 22 (by kernel_rfl)
        have u24 : tT ⟨n, m, f, d, l⟩ k (vs 24) w1 := hL 24 (by kernel_rfl)
        obtain ⟨p24, i24, u24, hF24⟩ := u24
        go_simp
        simp only [evOf_tmp, u22, u24]
        exact oa_call hC (Calls.mono (eqTrip_t n m f d _ _ _ _ _ l _ (OwnR.rid (OwnR.below S.out hC)) hF24 (by omega)) (fun e w2 hh => (by obtain ⟨he, hb⟩ := (by first | exact hh | exact Ro.mk hh | exact St.mk hh : Mk _ _ e w2); exact ⟨_, he, (show tV _ _ w2 from rfl), hb⟩)))
      · exact absurd hw (fun e => (by cases (show true = false from e)))
    · intro w1 vs hC hP hL
      refine ⟨fun hw => ?_, fun hw => ?_⟩
      · clear hw
        have u25 : vs 25 = .bool true := hL 25 (by kernel_rfl)
        go_simp
        simp only [evOf_tmp, evOf_const, u25]
        go_simp
        exact oa_pure hC (show tV _ _ w1 from rfl)
      · exact absurd hw (fun e => (by cases (show true = false from e)))
  intro vs wq hq hT
  have t1 : vs 26 = .bool false := hT 26 rfl
  simp (decide := true) only [over, Nat.reduceAdd, if_true, if_false]
  rw [t1]
  clear hT t1
  have Tn := Lib.hid (below_next T.out hq)
  have An := Lib.hid (BoxV.below A.out hq)
  have SBn := Lib.hid (BoxV.below SB.out hq)
  have Sn := Lib.hid (OwnR.below S.out hq)
  clear hq
  clear T A SB S
  have T := Tn
  have A := An
  have SB := SBn
  have S := Sn
  clear Tn An SBn Sn
  obtain ⟨wn, hwq⟩ : ∃ w0, w0 = wq := ⟨_, rfl⟩
  subst hwq
  go_wp2_with fail
  go_ret
  first | exact LawOk.mk T.out | exact LawOk.mk (Below.dr T.out _)
set_option maxRecDepth 100000 in
set_option maxHeartbeats 16000000 in
theorem ExactTripStops_w (n m f d : Int) (a : Option Addr) (k c : Nat) (l : List Ri) (w : World) (hX : Rid w a k l) (hk : k ≤ maxLen) : Calls Try.prog 11 #[.agg #[.int .i64 n, .int .i64 m, .int .i64 f, .int .i64 d, .slice a k c]] w (LawOk w) := by
  have HL := Lib.hid hX.2
  have X0 := Lib.hid hX
  have KZ := fun w' => szTrip_c n m f d a k c w' hk
  clear hX
  by_cases hk2 : k ≤ 1048576
  case neg =>
    rw [show szT k = -1 from by unfold szT; rw [if_neg (by omega)]] at KZ
    have HZ := Lib.hid KZ
    clear KZ
    refine at_base fun wn hwn => ?_
    have T := Lib.hid (show Below w.heap.size w wn from by rw [hwn]; exact Below.refl _ _)
    clear hwn
    obtain ⟨g, hg⟩ : ∃ g, Array.size (World.heap wn) = g := ⟨_, rfl⟩
    have HGg := Lib.hid hg
    have hTg : w.heap.size ≤ g := by rw [← hg]; exact T.out.size
    have Tn := Lib.hid (show Below w.heap.size w (wn.alloc (.cells #[.int .i64 n, .int .i64 m, .int .i64 f, .int .i64 d, .slice a k c] 50)) from (Below.al T.out (.cells #[.int .i64 n, .int .i64 m, .int .i64 f, .int .i64 d, .slice a k c] 50)))
    have A := Lib.hid (show BoxV (wn.alloc (.cells #[.int .i64 n, .int .i64 m, .int .i64 f, .int .i64 d, .slice a k c] 50)) g [.int .i64 n, .int .i64 m, .int .i64 f, .int .i64 d, .slice a k c] from by have h9 := (BoxV.new wn [.int .i64 n, .int .i64 m, .int .i64 f, .int .i64 d, .slice a k c] 50 (by simp) rfl); simp only [World.size_alloc, hg, Nat.add_assoc, Nat.reduceAdd] at h9; exact h9)
    have HZg := Lib.hid (show ((wn.alloc (.cells #[.int .i64 n, .int .i64 m, .int .i64 f, .int .i64 d, .slice a k c] 50))).heap.size = g + 1 from by simp only [World.size_alloc, hg, Nat.add_assoc, Nat.reduceAdd])
    clear hg
    clear T
    have T := Tn
    clear Tn
    go_enter Try.func11, Try.ntmps11
    have c0 := (A.out.2 0 _ rfl).1
    have c1 := (A.out.2 1 _ rfl).1
    have c2 := (A.out.2 2 _ rfl).1
    have c3 := (A.out.2 3 _ rfl).1
    have c4 := (A.out.2 4 _ rfl).1
    go_wp2_with fail
    rw [HGg.out]
    refine Calls.mono (HZ.out _) ?_
    intro e wn hh
    obtain ⟨he, hb⟩ := (by first | exact hh | exact Ro.mk hh | exact St.mk hh | exact LawOk.mk' hh : Mk _ _ e wn)
    subst he
    have Tn : Hid (Below w.heap.size w wn) := below_next T.out hb
    have An : Hid _ := BoxV.below A.out hb
    clear hb hh c0 c1 c2 c3 c4
    clear T A
    have T := Tn
    have A := An
    clear Tn An
    go_wp2_with fail
    go_ret
    first | exact LawOk.mk T.out | exact LawOk.mk (Below.dr T.out _)
  obtain ⟨z, hz⟩ : ∃ z : Nat, szT k = z := ⟨1048576 - k, by unfold szT; rw [if_pos (by omega)]; omega⟩
  rw [hz] at KZ
  have HZ := Lib.hid KZ
  have hzn : ¬ (z : Int) < 0 := by omega
  clear KZ hz
  have KS := fun w' (a' : Option Addr) (c' : Nat) (h : Rid w' a' k l) => sTripStops_c n m f d a' k c' l w' h (by omega)
  have KI := fun w' (a' : Option Addr) (c' : Nat) (h : Rid w' a' k l) => iTripStops_c n m f d a' k c' l w' h (by omega)
  obtain ⟨r, hr⟩ : ∃ r, tsT ⟨n, m, f, d, l⟩ = r := ⟨_, rfl⟩
  rw [hr] at KS KI
  have HKS := Lib.hid KS
  have HKI := Lib.hid KI
  clear KS KI hr
  have hrr : (r != r) = false := by simp
  refine at_base fun wn hwn => ?_
  have T := Lib.hid (show Below w.heap.size w wn from by rw [hwn]; exact Below.refl _ _)
  clear hwn
  obtain ⟨g, hg⟩ : ∃ g, Array.size (World.heap wn) = g := ⟨_, rfl⟩
  have HGg := Lib.hid hg
  have hTg : w.heap.size ≤ g := by rw [← hg]; exact T.out.size
  have Tn := Lib.hid (show Below w.heap.size w (wn.alloc (.cells #[.int .i64 n, .int .i64 m, .int .i64 f, .int .i64 d, .slice a k c] 50)) from (Below.al T.out (.cells #[.int .i64 n, .int .i64 m, .int .i64 f, .int .i64 d, .slice a k c] 50)))
  have A := Lib.hid (show BoxV (wn.alloc (.cells #[.int .i64 n, .int .i64 m, .int .i64 f, .int .i64 d, .slice a k c] 50)) g [.int .i64 n, .int .i64 m, .int .i64 f, .int .i64 d, .slice a k c] from by have h9 := (BoxV.new wn [.int .i64 n, .int .i64 m, .int .i64 f, .int .i64 d, .slice a k c] 50 (by simp) rfl); simp only [World.size_alloc, hg, Nat.add_assoc, Nat.reduceAdd] at h9; exact h9)
  have HZg := Lib.hid (show ((wn.alloc (.cells #[.int .i64 n, .int .i64 m, .int .i64 f, .int .i64 d, .slice a k c] 50))).heap.size = g + 1 from by simp only [World.size_alloc, hg, Nat.add_assoc, Nat.reduceAdd])
  clear hg
  clear T
  have T := Tn
  clear Tn
  go_enter Try.func11, Try.ntmps11
  have c0 := (A.out.2 0 _ rfl).1
  have c1 := (A.out.2 1 _ rfl).1
  have c2 := (A.out.2 2 _ rfl).1
  have c3 := (A.out.2 3 _ rfl).1
  have c4 := (A.out.2 4 _ rfl).1
  go_wp2_with fail
  rw [HGg.out]
  refine Calls.mono (HZ.out _) ?_
  intro e wn hh
  obtain ⟨he, hb⟩ := (by first | exact hh | exact Ro.mk hh | exact St.mk hh | exact LawOk.mk' hh : Mk _ _ e wn)
  subst he
  have Tn : Hid (Below w.heap.size w wn) := below_next T.out hb
  have An : Hid _ := BoxV.below A.out hb
  clear hb hh c0 c1 c2 c3 c4
  clear T A
  have T := Tn
  have A := An
  clear Tn An
  clear HZ
  have c0 := (A.out.2 0 _ rfl).1
  have c1 := (A.out.2 1 _ rfl).1
  have c2 := (A.out.2 2 _ rfl).1
  have c3 := (A.out.2 3 _ rfl).1
  have c4 := (A.out.2 4 _ rfl).1
  go_wp2_with fail
  refine Calls.mono (toTrip_c n m f d a k c l _ (Rid.below X0.out T.out) hk2) ?_
  intro e wq hh
  obtain ⟨v2, he, hO2, hb3⟩ := hh
  subst he
  rw [show List.length (Tp.rs ⟨n, m, f, d, l⟩) = k from HL.out] at hO2
  obtain ⟨p9, q9, hv, -, -⟩ := OwnR.open hO2
  subst hv
  have P9 := Lib.hid (OwnR.rid hO2)
  clear hO2 c0 c1 c2 c3 c4
  have Tn := Lib.hid (below_next T.out hb3)
  have An := Lib.hid (BoxV.below A.out hb3)
  clear hb3
  clear T A
  have T := Tn
  have A := An
  clear Tn An
  obtain ⟨wn, hwq⟩ : ∃ w0, w0 = wq := ⟨_, rfl⟩
  subst hwq
  go_wp2_with fail
  refine Calls.mono (HKS.out _ p9 q9 P9.out) ?_
  intro e wn hh
  obtain ⟨he, hb⟩ := (by first | exact hh | exact Ro.mk hh | exact St.mk hh | exact LawOk.mk' hh : Mk _ _ e wn)
  subst he
  have Tn : Hid (Below w.heap.size w wn) := below_next T.out hb
  have An : Hid _ := BoxV.below A.out hb
  have P9n : Hid _ := Rid.below P9.out hb
  clear hb hh
  clear T A P9
  have T := Tn
  have A := An
  have P9 := P9n
  clear Tn An P9n
  clear P9
  have c0 := (A.out.2 0 _ rfl).1
  have c1 := (A.out.2 1 _ rfl).1
  have c2 := (A.out.2 2 _ rfl).1
  have c3 := (A.out.2 3 _ rfl).1
  have c4 := (A.out.2 4 _ rfl).1
  go_wp2_with fail
  obtain ⟨loS, hloS⟩ : ∃ q, wn.heap.size = q := ⟨_, rfl⟩
  have hTS : w.heap.size ≤ loS := by rw [← hloS]; exact T.out.size
  have hltAS : g < loS := by rw [← hloS]; exact BoxV.lt A.out
  refine Calls.mono (toTrip_c n m f d a k c l _ (Rid.below X0.out T.out) hk2) ?_
  intro e wq hh
  obtain ⟨v2, he, hO2, hb3⟩ := hh
  subst he
  rw [show List.length (Tp.rs ⟨n, m, f, d, l⟩) = k from HL.out] at hO2
  obtain ⟨Sa, Sc, hv, -, -⟩ := OwnR.open hO2
  subst hv
  rw [hloS] at hO2
  have S := Lib.hid hO2
  clear hO2 hloS
  have Tn := Lib.hid (below_next T.out hb3)
  have An := Lib.hid (BoxV.below A.out hb3)
  clear hb3
  clear T A
  have T := Tn
  have A := An
  clear Tn An
  obtain ⟨wn, hwq⟩ : ∃ w0, w0 = wq := ⟨_, rfl⟩
  subst hwq
  have hrS := fun q hq => OwnR.lt S.out q hq
  have hltAHS := BoxV.lt A.out
  have hWHS := T.out.size
  obtain ⟨HS, hHS⟩ : ∃ HS, Array.size (World.heap wn) = HS := ⟨_, rfl⟩
  have HHS : Hid _ := hHS
  rw [hHS] at hWHS hltAHS
  have SB : Hid (BoxV (wn.alloc (.cells #[.int .i64 n, .int .i64 m, .int .i64 f, .int .i64 d, .slice Sa k Sc] 27)) HS [.int .i64 n, .int .i64 m, .int .i64 f, .int .i64 d, .slice Sa k Sc]) := by rw [← hHS]; exact BoxV.new _ _ _ (by simp) rfl
  clear hHS
  have Tn : Hid (Below w.heap.size w _) := Below.al T.out (.cells #[.int .i64 n, .int .i64 m, .int .i64 f, .int .i64 d, .slice Sa k Sc] 27)
  have An : Hid _ := BoxV.below A.out ((Below.refl _ _).alloc (Nat.le_refl _) (.cells #[.int .i64 n, .int .i64 m, .int .i64 f, .int .i64 d, .slice Sa k Sc] 27))
  have Sn : Hid _ := OwnR.below S.out ((Below.refl _ _).alloc (Nat.le_refl _) (.cells #[.int .i64 n, .int .i64 m, .int .i64 f, .int .i64 d, .slice Sa k Sc] 27))
  clear T A S
  have T := Tn
  have A := An
  have S := Sn
  clear Tn An Sn
  have hBS := Lib.hid (show ∀ q, (Value.slice Sa k Sc).ownBlock = some q → loS ≤ q ∧ q < HS from fun q hq => by rw [← HHS.out]; exact hrS q hq)
  clear hrS
  go_upto_region 7 with fail
  rw [HHS.out]
  generalize hw9 : wn.alloc (.cells #[.int .i64 n, .int .i64 m, .int .i64 f, .int .i64 d, .slice Sa k Sc] 27) = w0 at *
  obtain ⟨wn, hwq⟩ : ∃ w9 : World, w9 = w0 := ⟨_, rfl⟩
  subst hwq
  clear HHS hw9
  have e0 := (SB.out.2 0 _ rfl).1
  have e1 := (SB.out.2 1 _ rfl).1
  have e2 := (SB.out.2 2 _ rfl).1
  have e3 := (SB.out.2 3 _ rfl).1
  have e4 := (SB.out.2 4 _ rfl).1
  go_wp2_with fail
  refine Calls.mono (HKI.out _ Sa Sc (OwnR.rid S.out)) ?_
  intro e wn hh
  obtain ⟨he, hb⟩ := (by first | exact hh | exact Ro.mk hh | exact St.mk hh | exact LawOk.mk' hh : Mk _ _ e wn)
  subst he
  have Tn : Hid (Below w.heap.size w wn) := below_next T.out hb
  have An : Hid _ := BoxV.below A.out hb
  have SBn : Hid _ := BoxV.below SB.out hb
  have Sn : Hid _ := OwnR.below S.out hb
  clear hb hh e0 e1 e2 e3 e4
  clear T A SB S
  have T := Tn
  have A := An
  have SB := SBn
  have S := Sn
  clear Tn An SBn Sn
  go_upto_region 10 with fail
  refine wp_region_tg [22, 23, 24, 25, 26]
    [(22, tV (.agg #[.int .i64 n, .int .i64 m, .int .i64 f, .int .i64 d, .slice Sa k Sc])), (23, tV (.agg #[.int .i64 n, .int .i64 m, .int .i64 f, .int .i64 d, .slice a k c])), (24, tT ⟨n, m, f, d, l⟩ k), (25, tV (.bool true)), (26, tV (.bool false))]
    (by kernel_rfl) (by kernel_rfl) (by kernel_rfl) (by kernel_rfl) (by kernel_rfl) (by kernel_rfl) ⟨StW.g (StW.V _), StW.g (StW.V _), StGrow.T _ _, StW.g (StW.V _), StW.g (StW.V _), trivial⟩ ?hob22 ?_
  case hob22 =>
    refine ⟨?_, ?_, ?_, ?_, ?_, trivial⟩
    · intro w1 vs hC hP hL
      refine ⟨fun hw => ?_, fun hw => ?_⟩
      · clear hw
        have u5 : vs 5 = .pointer (some ⟨HS, 0, none⟩) := hP 5 (by kernel_rfl)
        have SB9 := BoxV.below SB.out hC
        have e0 := (SB9.2 0 _ rfl).1
        have e1 := (SB9.2 1 _ rfl).1
        have e2 := (SB9.2 2 _ rfl).1
        have e3 := (SB9.2 3 _ rfl).1
        have e4 := (SB9.2 4 _ rfl).1
        clear SB9
        go_simp
        simp only [evOf_tmp, evOf_const, u5]
        go_simp
        exact oa_pure hC (show tV _ _ w1 from rfl)
      · exact absurd hw (fun e => (by cases (show true = false from e)))
    · intro w1 vs hC hP hL
      refine ⟨fun hw => ?_, fun hw => ?_⟩
      · clear hw
        have u1 : vs 1 = .pointer (some ⟨g, 0, none⟩) := hP 1 (by kernel_rfl)
        have A9 := BoxV.below A.out hC
        have c0 := (A9.2 0 _ rfl).1
        have c1 := (A9.2 1 _ rfl).1
        have c2 := (A9.2 2 _ rfl).1
        have c3 := (A9.2 3 _ rfl).1
        have c4 := (A9.2 4 _ rfl).1
        clear A9
        go_simp
        simp only [evOf_tmp, evOf_const, u1]
        go_simp
        exact oa_pure hC (show tV _ _ w1 from rfl)
      · exact absurd hw (fun e => (by cases (show true = false from e)))
    · intro w1 vs hC hP hL
      refine ⟨fun hw => ?_, fun hw => ?_⟩
      · clear hw
        have u23 : vs 23 = .agg #[.int .i64 n, .int .i64 m, .int .i64 f, .int .i64 d, .slice a k c] := hL 23 (by kernel_rfl)
        go_simp
        simp only [evOf_tmp, u23]
        exact oa_call hC (Calls.mono (toTrip_c n m f d a k c l _ (Rid.below X0.out (below_next T.out hC)) hk2) (fun e w2 hh => (by obtain ⟨v, he, hO, hb⟩ := hh; obtain ⟨a9, c9, rfl, -, -⟩ := OwnR.open hO; have h9 := OwnR.rid hO; rw [show List.length (Tp.rs ⟨n, m, f, d, l⟩) = k from HL.out] at h9 he; exact ⟨_, he, (show tT ⟨n, m, f, d, l⟩ k _ w2 from ⟨a9, c9, rfl, h9⟩), hb⟩)))
      · exact absurd hw (fun e => (by cases (show true = false from e)))
    · intro w1 vs hC hP hL
      refine ⟨fun hw => ?_, fun hw => ?_⟩
      · clear hw
        have u22 : vs 22 = .agg #[.int .i64 n, .int .i64 m, .int .i64 f, .int .i64 d, .slice Sa k Sc] := hL 22 (by kernel_rfl)
        have u24 : tT ⟨n, m, f, d, l⟩ k (vs 24) w1 := hL 24 (by kernel_rfl)
        obtain ⟨p24, i24, u24, hF24⟩ := u24
        go_simp
        simp only [evOf_tmp, u22, u24]
        exact oa_call hC (Calls.mono (eqTrip_t n m f d _ _ _ _ _ l _ (OwnR.rid (OwnR.below S.out hC)) hF24 (by omega)) (fun e w2 hh => (by obtain ⟨he, hb⟩ := (by first | exact hh | exact Ro.mk hh | exact St.mk hh : Mk _ _ e w2); exact ⟨_, he, (show tV _ _ w2 from rfl), hb⟩)))
      · exact absurd hw (fun e => (by cases (show true = false from e)))
    · intro w1 vs hC hP hL
      refine ⟨fun hw => ?_, fun hw => ?_⟩
      · clear hw
        have u25 : vs 25 = .bool true := hL 25 (by kernel_rfl)
        go_simp
        simp only [evOf_tmp, evOf_const, u25]
        go_simp
        exact oa_pure hC (show tV _ _ w1 from rfl)
      · exact absurd hw (fun e => (by cases (show true = false from e)))
  intro vs wq hq hT
  have t1 : vs 26 = .bool false := hT 26 rfl
  simp (decide := true) only [over, Nat.reduceAdd, if_true, if_false]
  rw [t1]
  clear hT t1
  have Tn := Lib.hid (below_next T.out hq)
  have An := Lib.hid (BoxV.below A.out hq)
  have SBn := Lib.hid (BoxV.below SB.out hq)
  have Sn := Lib.hid (OwnR.below S.out hq)
  clear hq
  clear T A SB S
  have T := Tn
  have A := An
  have SB := SBn
  have S := Sn
  clear Tn An SBn Sn
  obtain ⟨wn, hwq⟩ : ∃ w0, w0 = wq := ⟨_, rfl⟩
  subst hwq
  go_wp2_with fail
  go_ret
  first | exact LawOk.mk T.out | exact LawOk.mk (Below.dr T.out _)
end Go.Proofs.Ytfhhgddajmihjaa
