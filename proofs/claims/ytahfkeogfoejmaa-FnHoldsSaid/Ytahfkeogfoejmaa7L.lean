/- The laws of chapter 7 over numbers alone: the walks of Holds and MostLoad. -/
import Derived.Test.Ytahfkeogfoejmaa7U
import Derived.Test.Ytahfkeogfoejmaa7C
import Derived.Test.YtahfkeogfoejmaaL
namespace Go.Proofs.Ytahfkeogfoejmaa
open Go.RowKit
set_option linter.unusedVariables false

set_option maxHeartbeats 1000000 in
theorem Holds_w (a : Option Addr) (n cap : Nat) (w : World) (hb : Byt w a n) (hn : n ≤ cap) (hcap : cap ≤ maxLen) :
    Calls Try.prog 6 #[.slice a n cap] w (LawOk w) := by
  have hcap' := hcap
  unfold maxLen at hcap'
  by_cases bign : 1048576 < n
  · go_enter Try.func6, Try.ntmps6
    go_wp2_with fail
    go_ret
    exact LawOk.mk (Below.refl _ _)
  go_enter Try.func6, Try.ntmps6
  go_wp2_with fail
  refine (DrawHolds_c a n cap _ hb hn hcap).mono ?_
  rintro e wn ⟨p, q, t, m, rfl, hp, hq, ht, hmm, hB⟩
  have T : Hid _ := hB
  clear hB hb
  obtain ⟨hp0, hp1⟩ := hp
  obtain ⟨hq0, hq1⟩ := hq
  obtain ⟨ht0, ht1⟩ := ht
  obtain ⟨hm0, hm1⟩ := hmm
  go_wp2_with fail
  refine Calls.mono (iHolds_c p q t m _) ?_
  intro e wn hh
  obtain ⟨he, hb⟩ := (by first | exact hh | exact Ro.mk hh | exact St.mk hh | exact LawOk.mk' hh : Mk _ _ e wn)
  subst he
  have Tn : Hid (Below w.heap.size w wn) := below_next T.out hb
  clear hb hh
  clear T
  have T := Tn
  clear Tn
  go_wp2_with fail
  refine Calls.mono (sHolds_c p q t m _) ?_
  intro e wn hh
  obtain ⟨he, hb⟩ := (by first | exact hh | exact Ro.mk hh | exact St.mk hh | exact LawOk.mk' hh : Mk _ _ e wn)
  subst he
  have Tn : Hid (Below w.heap.size w wn) := below_next T.out hb
  clear hb hh
  clear T
  have T := Tn
  clear Tn
  go_wp2_with fail
  refine Calls.mono (iHolds_c q p t m _) ?_
  intro e wn hh
  obtain ⟨he, hb⟩ := (by first | exact hh | exact Ro.mk hh | exact St.mk hh | exact LawOk.mk' hh : Mk _ _ e wn)
  subst he
  have Tn : Hid (Below w.heap.size w wn) := below_next T.out hb
  clear hb hh
  clear T
  have T := Tn
  clear Tn
  rw [hdB_comm]
  obtain ⟨z, hz⟩ : ∃ z, hdB p q t m = z := ⟨_, rfl⟩
  rw [hz]
  cases z
  · clear hz
    go_wp2_with fail
    refine Calls.mono (alive_c _) ?_
    intro e wn hh
    obtain ⟨he, hb⟩ := (by first | exact hh | exact Ro.mk hh | exact St.mk hh | exact LawOk.mk' hh : Mk _ _ e wn)
    subst he
    have Tn : Hid (Below w.heap.size w wn) := below_next T.out hb
    clear hb hh
    clear T
    have T := Tn
    clear Tn
    go_wp2_with fail
    go_ret
    first | exact LawOk.mk T.out | exact LawOk.mk (Below.dr T.out _)
  have hd := hdB_iff.1 hz
  have E1 : Hid _ := hdB_same hd.1 (a := p) (b := q)
  have E2 : Hid _ := hdB_top hd
  have E3 : Hid _ := hdB_bottom hd
  clear hz hd
  go_wp2_with fail
  refine Calls.mono (iHolds_c p p t m _) ?_
  intro e wn hh
  obtain ⟨he, hb⟩ := (by first | exact hh | exact Ro.mk hh | exact St.mk hh | exact LawOk.mk' hh : Mk _ _ e wn)
  subst he
  have Tn : Hid (Below w.heap.size w wn) := below_next T.out hb
  clear hb hh
  clear T
  have T := Tn
  clear Tn
  rw [E1.out]
  have t2 : t = 200 ∨ t ≠ 200 := by omega
  have e200 : (t == 200) = false := beq_false_of_ne (by omega)
  go_wp2_with fail
  refine Calls.mono (iHolds_c p q (t + 1) m _) ?_
  intro e wn hh
  obtain ⟨he, hb⟩ := (by first | exact hh | exact Ro.mk hh | exact St.mk hh | exact LawOk.mk' hh : Mk _ _ e wn)
  subst he
  have Tn : Hid (Below w.heap.size w wn) := below_next T.out hb
  clear hb hh
  clear T
  have T := Tn
  clear Tn
  rw [E2.out (by omega)]
  rcases (by omega : m = 1 ∨ m ≠ 1) with g | g
  · subst g
    go_wp2_with fail
    go_ret
    first | exact LawOk.mk T.out | exact LawOk.mk (Below.dr T.out _)
  · have em : (m == 1) = false := beq_false_of_ne g
    go_wp2_with fail
    refine Calls.mono (iHolds_c p q t (m - 1) _) ?_
    intro e wn hh
    obtain ⟨he, hb⟩ := (by first | exact hh | exact Ro.mk hh | exact St.mk hh | exact LawOk.mk' hh : Mk _ _ e wn)
    subst he
    have Tn : Hid (Below w.heap.size w wn) := below_next T.out hb
    clear hb hh
    clear T
    have T := Tn
    clear Tn
    rw [E3.out g]
    go_wp2_with fail
    go_ret
    first | exact LawOk.mk T.out | exact LawOk.mk (Below.dr T.out _)
set_option maxHeartbeats 1000000 in
theorem MostLoad_w (a : Option Addr) (n cap : Nat) (w : World) (hb : Byt w a n) (hn : n ≤ cap) (hcap : cap ≤ maxLen) :
    Calls Try.prog 7 #[.slice a n cap] w (LawOk w) := by
  have hcap' := hcap
  unfold maxLen at hcap'
  by_cases bign : 1048576 < n
  · go_enter Try.func7, Try.ntmps7
    go_wp2_with fail
    go_ret
    exact LawOk.mk (Below.refl _ _)
  go_enter Try.func7, Try.ntmps7
  go_wp2_with fail
  refine (DrawMostLoad_c a n cap _ hb hn hcap).mono ?_
  rintro e wn ⟨c, t, m, rfl, hc, ht, hmm, hB⟩
  have T : Hid _ := hB
  clear hB hb
  obtain ⟨hc0, hc1⟩ := hc
  obtain ⟨ht0, ht1⟩ := ht
  obtain ⟨hm0, hm1⟩ := hmm
  go_wp2_with fail
  refine Calls.mono (iMostLoad_c c t m _ (by omega)) ?_
  intro e wn hh
  obtain ⟨he, hb⟩ := (by first | exact hh | exact Ro.mk hh | exact St.mk hh | exact LawOk.mk' hh : Mk _ _ e wn)
  subst he
  have Tn : Hid (Below w.heap.size w wn) := below_next T.out hb
  clear hb hh
  clear T
  have T := Tn
  clear Tn
  go_wp2_with fail
  refine Calls.mono (sMostLoad_c c t m _ (by omega)) ?_
  intro e wn hh
  obtain ⟨he, hb⟩ := (by first | exact hh | exact Ro.mk hh | exact St.mk hh | exact LawOk.mk' hh : Mk _ _ e wn)
  subst he
  have Tn : Hid (Below w.heap.size w wn) := below_next T.out hb
  clear hb hh
  clear T
  have T := Tn
  clear Tn
  by_cases h : c ≤ 160
  case neg =>
    rw [mo_bad (c := c) (by omega)]
    go_wp2_with fail
    refine Calls.mono (alive_c _) ?_
    intro e wn hh
    obtain ⟨he, hb⟩ := (by first | exact hh | exact Ro.mk hh | exact St.mk hh | exact LawOk.mk' hh : Mk _ _ e wn)
    subst he
    have Tn : Hid (Below w.heap.size w wn) := below_next T.out hb
    clear hb hh
    clear T
    have T := Tn
    clear Tn
    go_wp2_with fail
    go_ret
    first | exact LawOk.mk T.out | exact LawOk.mk (Below.dr T.out _)
  obtain ⟨⟨x0, x1⟩, hall, hend⟩ := mo_ok (c := c) (t := t) (m := m) (by omega)
  obtain ⟨x, hx⟩ : ∃ x, mo c t m = x := ⟨_, rfl⟩
  rw [hx] at x0 x1 hall hend ⊢
  have HA : Hid _ := hall
  have HE : Hid _ := hend
  clear hx hall hend
  go_wp2_with fail
  go_loopw [7] (fun v wr => ∃ l : Int, 0 ≤ l ∧ l ≤ x + 1 ∧ v = .int .i64 l ∧ Below w.heap.size w wr) (fun v _ => (x + 1 - intOf v).toNat)
  case atStart => exact ⟨0, by omega, by omega, rfl, T.out⟩
  case round =>
    clear T
    obtain ⟨l, l0, l1, rfl, hB⟩ := hrel
    have T : Hid _ := hB
    clear hB
    by_cases hle : l ≤ x
    · skip
      go_wp2_with fail
      refine Calls.mono (iHolds_c (c + l) (c + 20) t m _) ?_
      intro e wn hh
      obtain ⟨he, hb⟩ := (by first | exact hh | exact Ro.mk hh | exact St.mk hh | exact LawOk.mk' hh : Mk _ _ e wn)
      subst he
      have Tn : Hid (Below w.heap.size w wn) := below_next T.out hb
      clear hb hh
      clear T
      have T := Tn
      clear Tn
      rw [HA.out l l0 hle]
      go_wp2_with fail
      go_roundw
      case rel => exact ⟨l + 1, by omega, by omega, by go_num, T.out⟩
      case measure => simp [intOf]; omega
    · rcases (by omega : x = 40 ∨ x ≠ 40) with g | g
      · subst g
        go_wp2_with fail
        go_ret
        first | exact LawOk.mk T.out | exact LawOk.mk (Below.dr T.out _)
      · have ex : (x == 40) = false := beq_false_of_ne g
        have E : Hid (hdB (c + x + 1) (c + 20) t m = false) := HE.out.resolve_left g
        go_wp2_with fail
        refine Calls.mono (iHolds_c (c + x + 1) (c + 20) t m _) ?_
        intro e wn hh
        obtain ⟨he, hb⟩ := (by first | exact hh | exact Ro.mk hh | exact St.mk hh | exact LawOk.mk' hh : Mk _ _ e wn)
        subst he
        have Tn : Hid (Below w.heap.size w wn) := below_next T.out hb
        clear hb hh
        clear T
        have T := Tn
        clear Tn
        rw [E.out]
        go_wp2_with fail
        go_ret
        first | exact LawOk.mk T.out | exact LawOk.mk (Below.dr T.out _)
end Go.Proofs.Ytahfkeogfoejmaa
