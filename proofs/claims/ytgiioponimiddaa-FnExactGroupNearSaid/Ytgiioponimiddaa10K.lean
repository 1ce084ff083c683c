/- The program's ShortTour, ShortWay. -/
import Derived.Test.Ytgiioponimiddaa10J
import Derived.Test.Ytgiioponimiddaa8G
namespace Go.Proofs.Ytgiioponimiddaa
open Go Go.RowKit
set_option linter.unusedVariables false
set_option linter.unusedSimpArgs false
set_option maxRecDepth 100000

theorem cavB_t {xs : List Int} {a : Int} {ys : List Int} (h : VO xs ys) (g : okF xs a) : cavB xs a ys = true := tr_true ⟨h, g⟩
theorem cavB_f {xs : List Int} {a : Int} {ys : List Int} (h : ¬ (VO xs ys ∧ okF xs a)) : cavB xs a ys = false := tr_false h
theorem oa_callT {W w : World} {P : Program} {M : Value → World → Prop} {f : FuncId} {args : Array Value} (hC : Below W.heap.size W w) (h : Calls P f args w fun e w2 => ∃ v, e = .returned v ∧ M v w2 ∧ Below w.heap.size w w2) : Comply P (fun _ w => Below W.heap.size W w) Grow 0 w M (.ok (.enter f args) w) :=
  h.mono fun e w2 ⟨v, he, hm, hb⟩ => ⟨v, he, hm, below_next hC hb, ⟨hb.os, hb.tape, hb.output, hb.size, fun k hk _ => hb.block k hk⟩⟩
theorem okF_of {xs : List Int} {a : Int} {ys : List Int} (h : STV xs a ys) {k : Nat} (hk : k < ys.length) : 0 ≤ nth ys k ∧ nth ys k < xs.length := ⟨(h.1.2 k hk).1, (h.1.2 k hk).2.1⟩
theorem own_up {w : World} {A B : Nat} {v : Value} {xs : List Int} (h : Own w A v xs) (hA : B ≤ A) : Own w B v xs := Own.mono h hA
theorem bs_f (b off n cap : Nat) (ys : List Int) (x : Int) (f : Nat) (w : World) (hc : Ints w b off ys) (hl : ys.length = n) (hm : n ≤ 1048577) (hs : ys.Pairwise (· < ·)) (hf : ys.countP (lt x) = f) :
    Calls Try.prog 71 #[.slice (some ⟨b, off, none⟩) n cap, .int .i64 x] w fun e w' => ∃ t, e = .returned (.tuple #[.int .i64 (f : Int), .bool t]) ∧ Below w.heap.size w w' := by
  subst hf
  exact (bs_c b off n cap ys x w hc hl hm hs).mono fun e w' ⟨t, h1, q, h2⟩ => ⟨t, h1, by rw [h2]; exact below_drewN' q⟩
theorem countP_lt (ys : List Int) (c : Int) : ys.countP (fun v => decide (v < c)) = ys.countP (lt c) := rfl

set_option maxHeartbeats 4000000 in
theorem iShortTour_n (b off cap : Nat) (xs : List Int) (x : Int) (a2 : Option Addr) (n2 c2 : Nat) (ys : List Int) (w : World) (hc : Ints w b off xs) (hs : Sl w a2 ys) (hl : ys.length = n2) (hm : xs.length ≤ 1048576) (hm2 : n2 ≤ 1048577) (hn : ¬ STV xs x ys) :
    Calls Try.prog 62 #[.slice (some ⟨b, off, none⟩) xs.length cap, .int .i64 x, .slice a2 n2 c2] w (NewI w []) := by
  have HL := Lib.hid hl
  clear hl
  by_cases hv : VO xs ys ∧ okF xs x
  case neg =>
    have t1 := cavB_f hv
    clear hv hn
    refine at_base fun wn hwn => ?_
    have T := Lib.hid (show Below w.heap.size w wn from by rw [hwn]; exact Below.refl _ _)
    rw [← hwn] at hc
    have X := Lib.hid (show Ints wn b off xs from hc)
    clear hc
    rw [← hwn] at hs
    have Y := Lib.hid (show Sl wn a2 ys from hs)
    clear hs
    clear hwn
    go_enter Try.func62, Try.ntmps62
    go_wp2_with fail
    refine Calls.mono (iCanVisit_c b off cap xs x a2 n2 c2 ys _ X.out Y.out HL.out hm hm2) ?_
    intro e wn hh
    obtain ⟨he, hb⟩ := (by first | exact hh | exact Ro.mk hh | exact St.mk hh | exact LawOk.mk' hh : Mk _ _ e wn)
    subst he
    have Tn : Hid (Below w.heap.size w wn) := below_next T.out hb
    have Xn : Hid _ := Ints.below X.out hb
    have Yn : Hid _ := Sl.below Y.out hb
    clear hb hh
    clear T X Y
    have T := Tn
    have X := Xn
    have Y := Yn
    clear Tn Xn Yn
    go_wp2_with fail
    go_ret
    exact ⟨_, rfl, own_nil _ _, T.out⟩
  have t1 := cavB_t hv.1 hv.2
  have h0 : n2 = 0 := by
    rw [← HL.out, List.length_eq_zero_iff]
    exact Classical.not_not.1 fun g => hn ⟨hv.1, hv.2, g⟩
  subst h0
  clear hv hn
  refine at_base fun wn hwn => ?_
  have T := Lib.hid (show Below w.heap.size w wn from by rw [hwn]; exact Below.refl _ _)
  rw [← hwn] at hc
  have X := Lib.hid (show Ints wn b off xs from hc)
  clear hc
  rw [← hwn] at hs
  have Y := Lib.hid (show Sl wn a2 ys from hs)
  clear hs
  clear hwn
  go_enter Try.func62, Try.ntmps62
  go_wp2_with fail
  refine Calls.mono (iCanVisit_c b off cap xs x a2 0 c2 ys _ X.out Y.out HL.out hm hm2) ?_
  intro e wn hh
  obtain ⟨he, hb⟩ := (by first | exact hh | exact Ro.mk hh | exact St.mk hh | exact LawOk.mk' hh : Mk _ _ e wn)
  subst he
  have Tn : Hid (Below w.heap.size w wn) := below_next T.out hb
  have Xn : Hid _ := Ints.below X.out hb
  have Yn : Hid _ := Sl.below Y.out hb
  clear hb hh
  clear T X Y
  have T := Tn
  have X := Xn
  have Y := Yn
  clear Tn Xn Yn
  go_wp2_with fail
  go_ret
  exact ⟨_, rfl, own_nil _ _, T.out⟩
set_option maxHeartbeats 8000000 in
set_option maxRecDepth 100000 in
theorem iShortTour_c (b off cap : Nat) (xs : List Int) (x : Int) (a2 : Option Addr) (n2 c2 : Nat) (ys : List Int) (w : World) (hc : Ints w b off xs) (hs : Sl w a2 ys) (hl : ys.length = n2) (hm : xs.length ≤ 1048576) (hm2 : n2 ≤ 1048577) (hcap : n2 ≤ c2) (hcm : c2 ≤ 9223372036854775807) :
    Calls Try.prog 62 #[.slice (some ⟨b, off, none⟩) xs.length cap, .int .i64 x, .slice a2 n2 c2] w (NewI w (stv xs x ys)) := by
  have hmm : xs.length ≤ maxLen := by unfold maxLen; omega
  by_cases hn : STV xs x ys
  case neg => rw [stv_f hn]; exact iShortTour_n b off cap xs x a2 n2 c2 ys w hc hs hl hm hm2 hn
  have hlen : 0 < n2 := by rw [← hl]; exact List.length_pos_iff.2 hn.2.2
  have HL := Lib.hid hl
  have t1 := cavB_t hn.1 hn.2.1
  obtain ⟨b2, o2, rfl, hI⟩ := Sl.at hs (k := 0) (by rw [hl]; exact hlen)
  have HE := Lib.hid (stv_t hn)
  have HN := Lib.hid hn
  have hb0 := okF_of hn (k := 0) (by rw [hl]; exact hlen)
  have hx := hn.2.1
  have hx0 := hx.1
  have hx1 := hx.2
  clear hs hl hn hx
  obtain ⟨lo, hlo⟩ : ∃ v, nth ys 0 = v := ⟨_, rfl⟩
  obtain ⟨hi9, hhi⟩ : ∃ v, nth ys (ys.length - 1) = v := ⟨_, rfl⟩
  have HLO := Lib.hid hlo
  have HHI := Lib.hid hhi
  clear hlo hhi
  refine at_base fun wn hwn => ?_
  have T := Lib.hid (show Below w.heap.size w wn from by rw [hwn]; exact Below.refl _ _)
  rw [← hwn] at hc
  have X := Lib.hid (show Ints wn b off xs from hc)
  clear hc
  rw [← hwn] at hI
  have Y := Lib.hid (show Ints wn b2 o2 ys from hI)
  clear hI
  clear hwn
  go_enter Try.func62, Try.ntmps62
  go_wp2_with fail
  refine Calls.mono (iCanVisit_c b off cap xs x _ n2 c2 ys _ X.out (.inr ⟨b2, o2, rfl, Y.out⟩) HL.out hm hm2) ?_
  intro e wn hh
  obtain ⟨he, hb⟩ := (by first | exact hh | exact Ro.mk hh | exact St.mk hh | exact LawOk.mk' hh : Mk _ _ e wn)
  subst he
  have Tn : Hid (Below w.heap.size w wn) := below_next T.out hb
  have Xn : Hid _ := Ints.below X.out hb
  have Yn : Hid _ := Ints.below Y.out hb
  clear hb hh
  clear T X Y
  have T := Tn
  have X := Xn
  have Y := Yn
  clear Tn Xn Yn
  go_upto_region 3 with fail
  have y1 := Y.out 0 (by rw [HL.out]; omega)
  have y2 := Y.out (n2 - 1) (by rw [HL.out]; omega)
  rw [HLO.out, Nat.add_zero] at y1
  rw [show nth ys (n2 - 1) = hi9 from by rw [← HHI.out, HL.out]] at y2
  have hz1 : (0 : Int) < n2 := by omega
  have hz2 : (0 : Int) ≤ (n2 : Int) - 1 := by omega
  have hz3 : (n2 : Int) - 1 < n2 := by omega
  have hz4 : ((n2 : Int) - 1).toNat = n2 - 1 := by omega
  have Y1 := Lib.hid y1
  have Y2 := Lib.hid y2
  clear y1 y2
  refine wp_region_quiet (C := fun w' => Below (World.heap (wn)).size (wn) w') (by kernel_rfl) (by kernel_rfl) (by first | exact ⟨rfl, rfl, rfl, Nat.le_refl _, fun _ _ => rfl⟩ | exact Below.dw (by repeat (first | exact Below.refl _ _ | refine Below.al ?_ _ | refine Below.dr ?_ _ | refine Below.dw ?_ | refine Below.st ?_ (by first | exact Nat.le_refl _ | exact Nat.le_add_right _ _ | (simp; omega)) _ | (refine below_next ?_ (by assumption))))) ?_
  simp only []
  repeat (go_big_quiet_step (first | (intro _; with_reducible exact rfl) | (intro hC; have y1 := cell_below Y1.out hC; have y2 := cell_below Y2.out hC; go_simp; rfl)))
  refine wpQuiet_nil ?_
  intro wq hq
  have Tn := Lib.hid (below_next T.out hq)
  have Xn := Lib.hid (Ints.below X.out hq)
  have Yn := Lib.hid (Ints.below Y.out hq)
  clear hq
  clear T X Y
  have T := Tn
  have X := Xn
  have Y := Yn
  clear Tn Xn Yn
  obtain ⟨wn, hwq⟩ : ∃ w0, w0 = wq := ⟨_, rfl⟩
  subst hwq
  obtain ⟨D1, hD1⟩ : ∃ D, fw xs x lo = D := ⟨_, rfl⟩
  obtain ⟨D2, hD2⟩ : ∃ D, fw xs x hi9 = D := ⟨_, rfl⟩
  have K1 := fun w' (h : Ints w' b off xs) => iFloorWay_c b off cap xs x lo w' h hmm
  have K2 := fun w' (h : Ints w' b off xs) => iFloorWay_c b off cap xs x hi9 w' h hmm
  rw [hD1] at K1
  rw [hD2] at K2
  have HK1 := Lib.hid K1
  have HK2 := Lib.hid K2
  have HD1 := Lib.hid hD1
  have HD2 := Lib.hid hD2
  clear K1 K2 hD1 hD2 Y1 Y2 hz1 hz2 hz3 hz4
  go_wp2_with fail
  refine Calls.mono (HK1.out _ X.out) ?_
  intro e wn hh
  obtain ⟨he, hb⟩ := (by first | exact hh | exact Ro.mk hh | exact St.mk hh | exact LawOk.mk' hh : Mk _ _ e wn)
  subst he
  have Tn : Hid (Below w.heap.size w wn) := below_next T.out hb
  have Xn : Hid _ := Ints.below X.out hb
  have Yn : Hid _ := Ints.below Y.out hb
  clear hb hh
  clear T X Y
  have T := Tn
  have X := Xn
  have Y := Yn
  clear Tn Xn Yn
  go_wp2_with fail
  refine Calls.mono (HK2.out _ X.out) ?_
  intro e wn hh
  obtain ⟨he, hb⟩ := (by first | exact hh | exact Ro.mk hh | exact St.mk hh | exact LawOk.mk' hh : Mk _ _ e wn)
  subst he
  have Tn : Hid (Below w.heap.size w wn) := below_next T.out hb
  have Xn : Hid _ := Ints.below X.out hb
  have Yn : Hid _ := Ints.below Y.out hb
  clear hb hh
  clear T X Y
  have T := Tn
  have X := Xn
  have Y := Yn
  clear Tn Xn Yn
  clear HK1 HK2
  by_cases hw : D1 ≤ D2
  case pos =>
    have HW := Lib.hid (show fw xs x lo ≤ fw xs x hi9 from by rw [HD1.out, HD2.out]; exact hw)
    obtain ⟨f, hf⟩ : ∃ f, ys.countP (lt (x + 1)) = f := ⟨_, rfl⟩
    have hfn : f ≤ n2 := by rw [← hf, ← HL.out]; exact List.countP_le_length
    have HF := Lib.hid hf
    have HST := Lib.hid (show ys.Pairwise (· < ·) from HN.out.1.sorted)
    have hx3 : -9223372036854775808 ≤ x + 1 ∧ x + 1 ≤ 9223372036854775807 := by omega
    clear hf
    go_wp2_with fail
    refine (bs_f b2 o2 n2 c2 ys (x + 1) f wn Y.out HL.out hm2 HST.out HF.out).mono ?_
    rintro e wq ⟨t, rfl, hb⟩
    have Tn := Lib.hid (below_next T.out hb)
    have Xn := Lib.hid (Ints.below X.out hb)
    have Yn := Lib.hid (Ints.below Y.out hb)
    clear hb
    clear T X Y
    have T := Tn
    have X := Xn
    have Y := Yn
    clear Tn Xn Yn
    obtain ⟨wn, hwq⟩ : ∃ w0, w0 = wq := ⟨_, rfl⟩
    subst hwq
    go_upto_region 6 with fail
    have HLT := Lib.hid (show (ys.take f).length = f from by rw [List.length_take, HL.out]; omega)
    have HLD := Lib.hid (show (ys.drop f).length = n2 - f from by rw [List.length_drop, HL.out])
    obtain ⟨A, hA⟩ : ∃ A, (if c2 = f then some (⟨b2, o2, none⟩ : Addr) else some ⟨b2, o2 + f, none⟩) = some ⟨b2, A, none⟩ := by
      by_cases e : c2 = f
      · exact ⟨o2, by rw [if_pos e]⟩
      · exact ⟨o2 + f, by rw [if_neg e]⟩
    have hAI : Ints wn b2 A (ys.drop f) := by
      by_cases e : c2 = f
      · rw [if_pos e] at hA
        cases hA
        have : ys.drop f = [] := List.drop_eq_nil_of_le (by rw [HL.out]; omega)
        rw [this]
        exact fun i hi => by simp at hi
      · rw [if_neg e] at hA
        cases hA
        exact Ints.drop Y.out f
    have AI := Lib.hid hAI
    have HA := Lib.hid hA
    obtain ⟨S, hS⟩ : ∃ S, wn.heap.size = S := ⟨_, rfl⟩
    have HS := Lib.hid hS
    have hf0 : (0 : Int) ≤ f := by omega
    have hf1 : (f : Int) ≤ n2 := by omega
    have hf2 : (f : Int) ≤ c2 := by omega
    have hf3 : f ≤ c2 := by omega
    clear hAI hA hS
    refine wp_region_late 7 [48, 49, 50, 51, 52, 53, 54] [(2, tV (.slice (some ⟨b2, o2, none⟩) n2 c2)), (9, tV (.int .i64 (f : Int)))]
      [(48, tV (.slice (some ⟨b2, o2, none⟩) n2 c2)), (49, tV (.int .i64 (f : Int))), (50, tV (.slice (some ⟨b2, o2, none⟩) f c2)), (51, tO (World.heap wn).size (ys.take f).reverse), (52, tV (.slice (some ⟨b2, o2, none⟩) n2 c2)), (53, tV (.int .i64 (f : Int))), (54, tV (.slice (some ⟨b2, A, none⟩) (n2 - f) (c2 - f)))]
      _ (by kernel_rfl) (by kernel_rfl) (by kernel_rfl) (by kernel_rfl) (by kernel_rfl) (by rfl) (by kernel_rfl) (by kernel_rfl) (by kernel_rfl) (by kernel_rfl) ⟨StW.g (StW.V _), StW.g (StW.V _), StW.g (StW.V _), StW.g (StW.V _), StW.g (StW.V _), StGrow.O _ _, StW.g (StW.V _), StW.g (StW.V _), StW.g (StW.V _), trivial⟩ ⟨rfl, rfl, trivial⟩ ?hob51 ?_
    case hob51 =>
      refine ⟨?_, ?_, ?_, ?_, ?_, ?_, ?_, trivial⟩
      · intro w1 vs hC hL
        have u2 := hL 2 (List.mem_of_elem_eq_true (by kernel_rfl))
        replace u2 : vs 2 = .slice (some ⟨b2, o2, none⟩) n2 c2 := u2
        go_simp
        simp only [evOf_tmp, u2]
        exact oa_pure hC (show tV _ _ w1 from rfl)
      · intro w1 vs hC hL
        have u9 := hL 9 (List.mem_of_elem_eq_true (by kernel_rfl))
        replace u9 : vs 9 = .int .i64 (f : Int) := u9
        go_simp
        simp only [evOf_tmp, u9]
        exact oa_pure hC (show tV _ _ w1 from rfl)
      · intro w1 vs hC hL
        have u48 := hL 48 (List.mem_of_elem_eq_true (by kernel_rfl))
        replace u48 : vs 48 = .slice (some ⟨b2, o2, none⟩) n2 c2 := u48
        have u49 := hL 49 (List.mem_of_elem_eq_true (by kernel_rfl))
        replace u49 : vs 49 = .int .i64 (f : Int) := u49
        go_simp
        simp only [evOf_tmp, u48, u49]
        go_simp
        exact oa_pure hC (show tV _ _ w1 from rfl)
      · intro w1 vs hC hL
        have u50 := hL 50 (List.mem_of_elem_eq_true (by kernel_rfl))
        replace u50 : vs 50 = .slice (some ⟨b2, o2, none⟩) f c2 := u50
        go_simp
        simp only [evOf_tmp, u50]
        exact oa_callT hC ((desc_c b2 o2 f c2 (ys.take f) _ (Ints.below (Ints.take Y.out f) hC) HLT.out (by omega)).mono fun e w2 ⟨G, c, he, hO, hb⟩ => ⟨_, he, ⟨own_up hO hC.size, (by simp)⟩, hb⟩)
      · intro w1 vs hC hL
        have u2 := hL 2 (List.mem_of_elem_eq_true (by kernel_rfl))
        replace u2 : vs 2 = .slice (some ⟨b2, o2, none⟩) n2 c2 := u2
        go_simp
        simp only [evOf_tmp, u2]
        exact oa_pure hC (show tV _ _ w1 from rfl)
      · intro w1 vs hC hL
        have u9 := hL 9 (List.mem_of_elem_eq_true (by kernel_rfl))
        replace u9 : vs 9 = .int .i64 (f : Int) := u9
        go_simp
        simp only [evOf_tmp, u9]
        exact oa_pure hC (show tV _ _ w1 from rfl)
      · intro w1 vs hC hL
        have u52 := hL 52 (List.mem_of_elem_eq_true (by kernel_rfl))
        replace u52 : vs 52 = .slice (some ⟨b2, o2, none⟩) n2 c2 := u52
        have u53 := hL 53 (List.mem_of_elem_eq_true (by kernel_rfl))
        replace u53 : vs 53 = .int .i64 (f : Int) := u53
        go_simp
        simp only [evOf_tmp, u52, u53]
        go_simp
        exact oa_pure hC (show tV _ _ w1 from by unfold tV; rw [HA.out])
    intro vs wq hq hT
    have t1 : tO (World.heap wn).size (ys.take f).reverse (vs 51) wq := hT 51 rfl
    have t2 : vs 54 = .slice (some ⟨b2, A, none⟩) (n2 - f) (c2 - f) := hT 54 rfl
    obtain ⟨G, cp, e1, hG1, hG2, hG3, -, -⟩ := Own.some t1.1 t1.2
    rw [List.length_reverse, HLT.out] at e1
    simp (decide := true) only [over, Nat.reduceAdd, if_true, if_false]
    rw [e1, t2]
    have DI := Lib.hid hG3
    clear hT t1 t2 e1 hG1 hG2 hG3
    have Tn := Lib.hid (below_next T.out hq)
    have Xn := Lib.hid (Ints.below X.out hq)
    have Yn := Lib.hid (Ints.below Y.out hq)
    have AIn := Lib.hid (Ints.below AI.out hq)
    clear hq
    clear T X Y AI
    have T := Tn
    have X := Xn
    have Y := Yn
    have AI := AIn
    clear Tn Xn Yn AIn
    obtain ⟨wn, hwq⟩ : ∃ w0, w0 = wq := ⟨_, rfl⟩
    subst hwq
    have hWH := T.out.size
    obtain ⟨H, hH⟩ : ∃ H, Array.size (World.heap wn) = H := ⟨_, rfl⟩
    have HH : Hid _ := hH
    rw [hH] at hWH
    have XB : Hid (BoxV (wn.alloc (.cells #[.slice (some ⟨G, 0, none⟩) f cp, .slice (some ⟨b2, A, none⟩) (n2 - f) (c2 - f)] 23)) H [.slice (some ⟨G, 0, none⟩) f cp, .slice (some ⟨b2, A, none⟩) (n2 - f) (c2 - f)]) := by rw [← hH]; exact BoxV.new _ _ _ (by simp) rfl
    clear hH
    have Tn : Hid (Below w.heap.size w _) := Below.al T.out (.cells #[.slice (some ⟨G, 0, none⟩) f cp, .slice (some ⟨b2, A, none⟩) (n2 - f) (c2 - f)] 23)
    have Xn : Hid _ := Ints.below X.out ((Below.refl _ _).alloc (Nat.le_refl _) (.cells #[.slice (some ⟨G, 0, none⟩) f cp, .slice (some ⟨b2, A, none⟩) (n2 - f) (c2 - f)] 23))
    have Yn : Hid _ := Ints.below Y.out ((Below.refl _ _).alloc (Nat.le_refl _) (.cells #[.slice (some ⟨G, 0, none⟩) f cp, .slice (some ⟨b2, A, none⟩) (n2 - f) (c2 - f)] 23))
    have AIn : Hid _ := Ints.below AI.out ((Below.refl _ _).alloc (Nat.le_refl _) (.cells #[.slice (some ⟨G, 0, none⟩) f cp, .slice (some ⟨b2, A, none⟩) (n2 - f) (c2 - f)] 23))
    have DIn : Hid _ := Ints.below DI.out ((Below.refl _ _).alloc (Nat.le_refl _) (.cells #[.slice (some ⟨G, 0, none⟩) f cp, .slice (some ⟨b2, A, none⟩) (n2 - f) (c2 - f)] 23))
    clear T X Y AI DI
    have T := Tn
    have X := Xn
    have Y := Yn
    have AI := AIn
    have DI := DIn
    clear Tn Xn Yn AIn DIn
    go_wp2_with fail
    rw [HH.out]
    generalize wn.alloc _ = w0 at *
    obtain ⟨wn, hwq⟩ : ∃ w9 : World, w9 = w0 := ⟨_, rfl⟩
    subst hwq
    refine (concat_c H G 0 f cp b2 A (n2 - f) (c2 - f) (ys.take f).reverse (ys.drop f) wn XB.out DI.out (by rw [List.length_reverse]; exact HLT.out) AI.out HLD.out (by omega) (by omega)).mono ?_
    rintro e w2 ⟨v, rfl, hO, hb⟩
    have R0 := Lib.hid (show Own w2 w.heap.size v (stv xs x ys) from by rw [HE.out, tour_near HN.out.1 HN.out.2.2 (by rw [HLO.out, HHI.out]; first | exact HW.out | exact Int.not_le.2 HW.out), HF.out]; exact Own.mono hO T.out.size)
    have T2 := Lib.hid (below_next T.out hb)
    clear hO hb
    go_wp2_with fail
    go_ret
    exact ⟨v, rfl, R0.out, T2.out⟩
  have HW := Lib.hid (show ¬ fw xs x lo ≤ fw xs x hi9 from by rw [HD1.out, HD2.out]; exact hw)
  obtain ⟨f, hf⟩ : ∃ f, ys.countP (lt x) = f := ⟨_, rfl⟩
  have hfn : f ≤ n2 := by rw [← hf, ← HL.out]; exact List.countP_le_length
  have HF := Lib.hid hf
  have HST := Lib.hid (show ys.Pairwise (· < ·) from HN.out.1.sorted)
  clear hf
  go_wp2_with fail
  refine (bs_f b2 o2 n2 c2 ys x f wn Y.out HL.out hm2 HST.out HF.out).mono ?_
  rintro e wq ⟨t, rfl, hb⟩
  have Tn := Lib.hid (below_next T.out hb)
  have Xn := Lib.hid (Ints.below X.out hb)
  have Yn := Lib.hid (Ints.below Y.out hb)
  clear hb
  clear T X Y
  have T := Tn
  have X := Xn
  have Y := Yn
  clear Tn Xn Yn
  obtain ⟨wn, hwq⟩ : ∃ w0, w0 = wq := ⟨_, rfl⟩
  subst hwq
  go_upto_region 8 with fail
  have HLT := Lib.hid (show (ys.take f).length = f from by rw [List.length_take, HL.out]; omega)
  have HLD := Lib.hid (show (ys.drop f).length = n2 - f from by rw [List.length_drop, HL.out])
  obtain ⟨A, hA⟩ : ∃ A, (if c2 = f then some (⟨b2, o2, none⟩ : Addr) else some ⟨b2, o2 + f, none⟩) = some ⟨b2, A, none⟩ := by
    by_cases e : c2 = f
    · exact ⟨o2, by rw [if_pos e]⟩
    · exact ⟨o2 + f, by rw [if_neg e]⟩
  have hAI : Ints wn b2 A (ys.drop f) := by
    by_cases e : c2 = f
    · rw [if_pos e] at hA
      cases hA
      have : ys.drop f = [] := List.drop_eq_nil_of_le (by rw [HL.out]; omega)
      rw [this]
      exact fun i hi => by simp at hi
    · rw [if_neg e] at hA
      cases hA
      exact Ints.drop Y.out f
  have AI := Lib.hid hAI
  have HA := Lib.hid hA
  obtain ⟨S, hS⟩ : ∃ S, wn.heap.size = S := ⟨_, rfl⟩
  have HS := Lib.hid hS
  have hf0 : (0 : Int) ≤ f := by omega
  have hf1 : (f : Int) ≤ n2 := by omega
  have hf2 : (f : Int) ≤ c2 := by omega
  have hf3 : f ≤ c2 := by omega
  clear hAI hA hS
  refine wp_region_late 7 [63, 64, 65, 66, 67, 68, 69] [(2, tV (.slice (some ⟨b2, o2, none⟩) n2 c2)), (11, tV (.int .i64 (f : Int)))]
    [(63, tV (.slice (some ⟨b2, o2, none⟩) n2 c2)), (64, tV (.int .i64 (f : Int))), (65, tV (.slice (some ⟨b2, A, none⟩) (n2 - f) (c2 - f))), (66, tV (.slice (some ⟨b2, o2, none⟩) n2 c2)), (67, tV (.int .i64 (f : Int))), (68, tV (.slice (some ⟨b2, o2, none⟩) f c2)), (69, tO (World.heap wn).size (ys.take f).reverse)]
    _ (by kernel_rfl) (by kernel_rfl) (by kernel_rfl) (by kernel_rfl) (by kernel_rfl) (by rfl) (by kernel_rfl) (by kernel_rfl) (by kernel_rfl) (by kernel_rfl) ⟨StW.g (StW.V _), StW.g (StW.V _), StW.g (StW.V _), StW.g (StW.V _), StW.g (StW.V _), StW.g (StW.V _), StW.g (StW.V _), StW.g (StW.V _), StGrow.O _ _, trivial⟩ ⟨rfl, rfl, trivial⟩ ?hob69 ?_
  case hob69 =>
    refine ⟨?_, ?_, ?_, ?_, ?_, ?_, ?_, trivial⟩
    · intro w1 vs hC hL
      have u2 := hL 2 (List.mem_of_elem_eq_true (by kernel_rfl))
      replace u2 : vs 2 = .slice (some ⟨b2, o2, none⟩) n2 c2 := u2
      go_simp
      simp only [evOf_tmp, u2]
      exact oa_pure hC (show tV _ _ w1 from rfl)
    · intro w1 vs hC hL
      have u11 := hL 11 (List.mem_of_elem_eq_true (by kernel_rfl))
      replace u11 : vs 11 = .int .i64 (f : Int) := u11
      go_simp
      simp only [evOf_tmp, u11]
      exact oa_pure hC (show tV _ _ w1 from rfl)
    · intro w1 vs hC hL
      have u63 := hL 63 (List.mem_of_elem_eq_true (by kernel_rfl))
      replace u63 : vs 63 = .slice (some ⟨b2, o2, none⟩) n2 c2 := u63
      have u64 := hL 64 (List.mem_of_elem_eq_true (by kernel_rfl))
      replace u64 : vs 64 = .int .i64 (f : Int) := u64
      go_simp
      simp only [evOf_tmp, u63, u64]
      go_simp
      exact oa_pure hC (show tV _ _ w1 from by unfold tV; rw [HA.out])
    · intro w1 vs hC hL
      have u2 := hL 2 (List.mem_of_elem_eq_true (by kernel_rfl))
      replace u2 : vs 2 = .slice (some ⟨b2, o2, none⟩) n2 c2 := u2
      go_simp
      simp only [evOf_tmp, u2]
      exact oa_pure hC (show tV _ _ w1 from rfl)
    · intro w1 vs hC hL
      have u11 := hL 11 (List.mem_of_elem_eq_true (by kernel_rfl))
      replace u11 : vs 11 = .int .i64 (f : Int) := u11
      go_simp
      simp only [evOf_tmp, u11]
      exact oa_pure hC (show tV _ _ w1 from rfl)
    · intro w1 vs hC hL
      have u66 := hL 66 (List.mem_of_elem_eq_true (by kernel_rfl))
      replace u66 : vs 66 = .slice (some ⟨b2, o2, none⟩) n2 c2 := u66
      have u67 := hL 67 (List.mem_of_elem_eq_true (by kernel_rfl))
      replace u67 : vs 67 = .int .i64 (f : Int) := u67
      go_simp
      simp only [evOf_tmp, u66, u67]
      go_simp
      exact oa_pure hC (show tV _ _ w1 from rfl)
    · intro w1 vs hC hL
      have u68 := hL 68 (List.mem_of_elem_eq_true (by kernel_rfl))
      replace u68 : vs 68 = .slice (some ⟨b2, o2, none⟩) f c2 := u68
      go_simp
      simp only [evOf_tmp, u68]
      exact oa_callT hC ((desc_c b2 o2 f c2 (ys.take f) _ (Ints.below (Ints.take Y.out f) hC) HLT.out (by omega)).mono fun e w2 ⟨G, c, he, hO, hb⟩ => ⟨_, he, ⟨own_up hO hC.size, (by simp)⟩, hb⟩)
  intro vs wq hq hT
  have t1 : tO (World.heap wn).size (ys.take f).reverse (vs 69) wq := hT 69 rfl
  have t2 : vs 65 = .slice (some ⟨b2, A, none⟩) (n2 - f) (c2 - f) := hT 65 rfl
  obtain ⟨G, cp, e1, hG1, hG2, hG3, -, -⟩ := Own.some t1.1 t1.2
  rw [List.length_reverse, HLT.out] at e1
  simp (decide := true) only [over, Nat.reduceAdd, if_true, if_false]
  rw [e1, t2]
  have DI := Lib.hid hG3
  clear hT t1 t2 e1 hG1 hG2 hG3
  have Tn := Lib.hid (below_next T.out hq)
  have Xn := Lib.hid (Ints.below X.out hq)
  have Yn := Lib.hid (Ints.below Y.out hq)
  have AIn := Lib.hid (Ints.below AI.out hq)
  clear hq
  clear T X Y AI
  have T := Tn
  have X := Xn
  have Y := Yn
  have AI := AIn
  clear Tn Xn Yn AIn
  obtain ⟨wn, hwq⟩ : ∃ w0, w0 = wq := ⟨_, rfl⟩
  subst hwq
  have hWH := T.out.size
  obtain ⟨H, hH⟩ : ∃ H, Array.size (World.heap wn) = H := ⟨_, rfl⟩
  have HH : Hid _ := hH
  rw [hH] at hWH
  have XB : Hid (BoxV (wn.alloc (.cells #[.slice (some ⟨b2, A, none⟩) (n2 - f) (c2 - f), .slice (some ⟨G, 0, none⟩) f cp] 23)) H [.slice (some ⟨b2, A, none⟩) (n2 - f) (c2 - f), .slice (some ⟨G, 0, none⟩) f cp]) := by rw [← hH]; exact BoxV.new _ _ _ (by simp) rfl
  clear hH
  have Tn : Hid (Below w.heap.size w _) := Below.al T.out (.cells #[.slice (some ⟨b2, A, none⟩) (n2 - f) (c2 - f), .slice (some ⟨G, 0, none⟩) f cp] 23)
  have Xn : Hid _ := Ints.below X.out ((Below.refl _ _).alloc (Nat.le_refl _) (.cells #[.slice (some ⟨b2, A, none⟩) (n2 - f) (c2 - f), .slice (some ⟨G, 0, none⟩) f cp] 23))
  have Yn : Hid _ := Ints.below Y.out ((Below.refl _ _).alloc (Nat.le_refl _) (.cells #[.slice (some ⟨b2, A, none⟩) (n2 - f) (c2 - f), .slice (some ⟨G, 0, none⟩) f cp] 23))
  have AIn : Hid _ := Ints.below AI.out ((Below.refl _ _).alloc (Nat.le_refl _) (.cells #[.slice (some ⟨b2, A, none⟩) (n2 - f) (c2 - f), .slice (some ⟨G, 0, none⟩) f cp] 23))
  have DIn : Hid _ := Ints.below DI.out ((Below.refl _ _).alloc (Nat.le_refl _) (.cells #[.slice (some ⟨b2, A, none⟩) (n2 - f) (c2 - f), .slice (some ⟨G, 0, none⟩) f cp] 23))
  clear T X Y AI DI
  have T := Tn
  have X := Xn
  have Y := Yn
  have AI := AIn
  have DI := DIn
  clear Tn Xn Yn AIn DIn
  go_wp2_with fail
  rw [HH.out]
  generalize wn.alloc _ = w0 at *
  obtain ⟨wn, hwq⟩ : ∃ w9 : World, w9 = w0 := ⟨_, rfl⟩
  subst hwq
  refine (concat_c H b2 A (n2 - f) (c2 - f) G 0 f cp (ys.drop f) (ys.take f).reverse wn XB.out AI.out HLD.out DI.out (by rw [List.length_reverse]; exact HLT.out) (by omega) (by omega)).mono ?_
  rintro e w2 ⟨v, rfl, hO, hb⟩
  have R0 := Lib.hid (show Own w2 w.heap.size v (stv xs x ys) from by rw [HE.out, tour_far HN.out.1 HN.out.2.2 (by rw [HLO.out, HHI.out]; first | exact HW.out | exact Int.not_le.2 HW.out), HF.out]; exact Own.mono hO T.out.size)
  have T2 := Lib.hid (below_next T.out hb)
  clear hO hb
  go_wp2_with fail
  go_ret
  exact ⟨v, rfl, R0.out, T2.out⟩
set_option maxHeartbeats 2000000 in
theorem iShortWay_c (b off cap : Nat) (xs : List Int) (x : Int) (a2 : Option Addr) (n2 c2 : Nat) (ys : List Int) (w : World) (hc : Ints w b off xs) (hs : Sl w a2 ys) (hl : ys.length = n2) (hm : xs.length ≤ 1048576) (hm2 : n2 ≤ 1048577) (hcap : n2 ≤ c2) (hcm : c2 ≤ 9223372036854775807) :
    Calls Try.prog 48 #[.slice (some ⟨b, off, none⟩) xs.length cap, .int .i64 x, .slice a2 n2 c2] w (Mk w (.int .i64 (swv xs x ys))) := by
  have HL := Lib.hid hl
  clear hl
  by_cases hv : VO xs ys ∧ okF xs x
  case neg =>
    have t1 := cavB_f hv
    have E := Lib.hid (swv_bad hv)
    clear hv
    refine at_base fun wn hwn => ?_
    have T := Lib.hid (show Below w.heap.size w wn from by rw [hwn]; exact Below.refl _ _)
    rw [← hwn] at hc
    have X := Lib.hid (show Ints wn b off xs from hc)
    clear hc
    rw [← hwn] at hs
    have Y := Lib.hid (show Sl wn a2 ys from hs)
    clear hs
    clear hwn
    go_enter Try.func48, Try.ntmps48
    go_wp2_with fail
    refine Calls.mono (iCanVisit_c b off cap xs x a2 n2 c2 ys _ X.out Y.out HL.out hm hm2) ?_
    intro e wn hh
    obtain ⟨he, hb⟩ := (by first | exact hh | exact Ro.mk hh | exact St.mk hh | exact LawOk.mk' hh : Mk _ _ e wn)
    subst he
    have Tn : Hid (Below w.heap.size w wn) := below_next T.out hb
    have Xn : Hid _ := Ints.below X.out hb
    have Yn : Hid _ := Sl.below Y.out hb
    clear hb hh
    clear T X Y
    have T := Tn
    have X := Xn
    have Y := Yn
    clear Tn Xn Yn
    go_wp2_with fail
    go_ret
    exact Mk.i E.out T.out
  have t1 := cavB_t hv.1 hv.2
  have E := Lib.hid (show swv xs x ys = tw xs x (stv xs x ys) from by unfold swv; rw [if_pos hv.1])
  have HS := Lib.hid (show (stv xs x ys).length ≤ n2 from by rw [← HL.out]; exact stv_len _ _ _)
  clear hv
  refine at_base fun wn hwn => ?_
  have T := Lib.hid (show Below w.heap.size w wn from by rw [hwn]; exact Below.refl _ _)
  rw [← hwn] at hc
  have X := Lib.hid (show Ints wn b off xs from hc)
  clear hc
  rw [← hwn] at hs
  have Y := Lib.hid (show Sl wn a2 ys from hs)
  clear hs
  clear hwn
  go_enter Try.func48, Try.ntmps48
  go_wp2_with fail
  refine Calls.mono (iCanVisit_c b off cap xs x a2 n2 c2 ys _ X.out Y.out HL.out hm hm2) ?_
  intro e wn hh
  obtain ⟨he, hb⟩ := (by first | exact hh | exact Ro.mk hh | exact St.mk hh | exact LawOk.mk' hh : Mk _ _ e wn)
  subst he
  have Tn : Hid (Below w.heap.size w wn) := below_next T.out hb
  have Xn : Hid _ := Ints.below X.out hb
  have Yn : Hid _ := Sl.below Y.out hb
  clear hb hh
  clear T X Y
  have T := Tn
  have X := Xn
  have Y := Yn
  clear Tn Xn Yn
  go_wp2_with fail
  refine (iShortTour_c b off cap xs x a2 n2 c2 ys wn X.out Y.out HL.out hm hm2 hcap hcm).mono ?_
  intro e wq hh
  obtain ⟨lo, hi, p, u, he, -, hO, hb⟩ := NewI.get hh
  subst he
  have O := Lib.hid hO
  clear hh hO
  have Tn := Lib.hid (below_next T.out hb)
  have Xn := Lib.hid (Ints.below X.out hb)
  have Yn := Lib.hid (Sl.below Y.out hb)
  clear hb
  clear T X Y
  have T := Tn
  have X := Xn
  have Y := Yn
  clear Tn Xn Yn
  obtain ⟨wn, hwq⟩ : ∃ w0, w0 = wq := ⟨_, rfl⟩
  subst hwq
  go_wp2_with fail
  refine Calls.mono (iTourWay_c b off cap xs x p (stv xs x ys).length u (stv xs x ys) _ X.out (OwnI.rd O.out) rfl hm (by have := HS.out; omega)) ?_
  intro e wn hh
  obtain ⟨he, hb⟩ := (by first | exact hh | exact Ro.mk hh | exact St.mk hh | exact LawOk.mk' hh : Mk _ _ e wn)
  subst he
  have Tn : Hid (Below w.heap.size w wn) := below_next T.out hb
  have Xn : Hid _ := Ints.below X.out hb
  have Yn : Hid _ := Sl.below Y.out hb
  clear hb hh
  clear T X Y
  have T := Tn
  have X := Xn
  have Y := Yn
  clear Tn Xn Yn
  go_wp2_with fail
  go_ret
  exact Mk.i E.out T.out
end Go.Proofs.Ytgiioponimiddaa
