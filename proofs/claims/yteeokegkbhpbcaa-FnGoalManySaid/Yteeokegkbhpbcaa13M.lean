/- The law of GoalMany: the walk. -/
import Derived.Test.Yteeokegkbhpbcaa13L
namespace Go.Proofs.Yteeokegkbhpbcaa
open Go.RowKit
set_option linter.unusedVariables false
set_option linter.unusedSimpArgs false
set_option maxRecDepth 100000

theorem own_app13 {w : World} {B : Nat} {v : Value} {xs ys : List Int} (h : w.ownsRow B 3 1 v (xs.length + ys.length) (xs.map (Value.int .i64) ++ ys.map (Value.int .i64))) : Own w B v (xs ++ ys) := by
  unfold Own
  rw [List.length_append, List.map_append]
  exact h
theorem hok_more {gs rs : List Int} {d : Int} (h : HOk gs rs) (hd : 0 ≤ d ∧ d ≤ 7) (hl : gs.length < 6) : HOk (gs ++ [d]) rs := by
  refine ⟨fun k hk => ?_, h.2.1, by simp; omega, h.2.2.2⟩
  by_cases g : k < gs.length
  · rw [nth_app g]; exact h.1 k g
  · have e : k = gs.length + 0 := by simp at hk; omega
    rw [e, nth_app2]; simpa [nth, List.getD] using hd
theorem hok_twice {gs rs : List Int} (h : HOk gs rs) (hl : gs.length + gs.length ≤ 6) : HOk (gs ++ gs) rs := by
  refine ⟨fun k hk => ?_, h.2.1, by simp; omega, h.2.2.2⟩
  by_cases g : k < gs.length
  · rw [nth_app g]; exact h.1 k g
  · obtain ⟨j, rfl⟩ : ∃ j, k = gs.length + j := ⟨k - gs.length, by omega⟩
    rw [nth_app2]
    exact h.1 j (by simp at hk; omega)
set_option maxHeartbeats 8000000 in
theorem GoalMany_w (a : Option Addr) (n cap : Nat) (w : World) (hb : Byt w a n) (hn : n ≤ cap) (hcap : cap ≤ maxLen) :
    Calls Try.prog 7 #[.slice a n cap] w (LawOk w) := by
  have hcap' := hcap
  unfold maxLen at hcap'
  obtain ⟨i0, hi, hz0, hz1, hz2⟩ := info_parts infoInt
  by_cases bign : 1048576 < n
  · go_enter Try.func7, Try.ntmps7
    go_wp2_with fail
    go_ret
    exact LawOk.mk (Below.refl _ _)
  go_enter Try.func7, Try.ntmps7
  go_wp2_with fail
  refine Calls.mono (DrawGoalMany_c a n cap _ hb hn hcap) ?_
  rintro e wn ⟨b1, c1, gs, b2, c2, rs, rfl, ⟨hgs, hrs⟩, ⟨⟨k1, k2⟩, ⟨k3, k4⟩⟩, ⟨hI1, hI2⟩, hB⟩
  unfold maxLen at k2 k4
  have T := Lib.hid hB
  have Y := Lib.hid hI1
  have Z := Lib.hid hI2
  clear hB hI1 hI2 hb
  have KI := fun w' (h : Sl w' (some ⟨b1, 0, none⟩) gs) (h2 : Sl w' (some ⟨b2, 0, none⟩) rs) => iGoalMany_c _ gs.length c1 gs _ rs.length c2 rs w' h rfl h2 rfl (by omega) (by omega) ⟨k1, by omega⟩ ⟨k3, by omega⟩
  have KS := fun w' (h : Sl w' (some ⟨b1, 0, none⟩) gs) (h2 : Sl w' (some ⟨b2, 0, none⟩) rs) => sGoalMany_c _ gs.length c1 gs _ rs.length c2 rs w' h rfl h2 rfl (by omega) (by omega) k1 (by omega)
  by_cases hg : HOk gs rs
  case neg =>
    rw [gmv_f hg] at KI KS
    have HKI := Lib.hid KI
    have HKS := Lib.hid KS
    clear KI KS hg
    go_wp2_with fail
    refine Calls.mono (HKI.out _ (Sl.of Y.out) (Sl.of Z.out)) ?_
    intro e wn hh
    obtain ⟨he, hb⟩ := (by first | exact hh | exact Ro.mk hh | exact St.mk hh | exact LawOk.mk' hh : Mk _ _ e wn)
    subst he
    have Tn : Hid (Below w.heap.size w wn) := below_next T.out hb
    have Yn : Hid _ := Ints.below Y.out hb
    have Zn : Hid _ := Ints.below Z.out hb
    clear hb hh
    clear T Y Z
    have T := Tn
    have Y := Yn
    have Z := Zn
    clear Tn Yn Zn
    go_wp2_with fail
    refine Calls.mono (HKS.out _ (Sl.of Y.out) (Sl.of Z.out)) ?_
    intro e wn hh
    obtain ⟨he, hb⟩ := (by first | exact hh | exact Ro.mk hh | exact St.mk hh | exact LawOk.mk' hh : Mk _ _ e wn)
    subst he
    have Tn : Hid (Below w.heap.size w wn) := below_next T.out hb
    have Yn : Hid _ := Ints.below Y.out hb
    have Zn : Hid _ := Ints.below Z.out hb
    clear hb hh
    clear T Y Z
    have T := Tn
    have Y := Yn
    have Z := Zn
    clear Tn Yn Zn
    go_wp2_with fail
    refine Calls.mono (alive_c _) ?_
    intro e wn hh
    obtain ⟨he, hb⟩ := (by first | exact hh | exact Ro.mk hh | exact St.mk hh | exact LawOk.mk' hh : Mk _ _ e wn)
    subst he
    have Tn : Hid (Below w.heap.size w wn) := below_next T.out hb
    have Yn : Hid _ := Ints.below Y.out hb
    have Zn : Hid _ := Ints.below Z.out hb
    clear hb hh
    clear T Y Z
    have T := Tn
    have Y := Yn
    have Z := Zn
    clear Tn Yn Zn
    go_wp2_with fail
    go_ret
    first | exact LawOk.mk T.out | exact LawOk.mk (Below.dr T.out _)
  rw [gmv_t hg] at KI KS
  have hS0 := gmU_bd gs gs.length
  obtain ⟨S, hS⟩ : ∃ S, gmU gs gs.length = S := ⟨_, rfl⟩
  rw [hS] at KI KS hS0
  have hS1 : ¬ S < 0 := by omega
  have hS2 := hS0.2
  have hS3 := hS0.1
  have hg6 := hg.2.2.1
  have HKI := Lib.hid KI
  have HKS := Lib.hid KS
  have HS := Lib.hid hS
  have HG := Lib.hid hg
  clear KI KS hS hg hS0
  go_wp2_with fail
  refine Calls.mono (HKI.out _ (Sl.of Y.out) (Sl.of Z.out)) ?_
  intro e wn hh
  obtain ⟨he, hb⟩ := (by first | exact hh | exact Ro.mk hh | exact St.mk hh | exact LawOk.mk' hh : Mk _ _ e wn)
  subst he
  have Tn : Hid (Below w.heap.size w wn) := below_next T.out hb
  have Yn : Hid _ := Ints.below Y.out hb
  have Zn : Hid _ := Ints.below Z.out hb
  clear hb hh
  clear T Y Z
  have T := Tn
  have Y := Yn
  have Z := Zn
  clear Tn Yn Zn
  go_wp2_with fail
  refine Calls.mono (HKS.out _ (Sl.of Y.out) (Sl.of Z.out)) ?_
  intro e wn hh
  obtain ⟨he, hb⟩ := (by first | exact hh | exact Ro.mk hh | exact St.mk hh | exact LawOk.mk' hh : Mk _ _ e wn)
  subst he
  have Tn : Hid (Below w.heap.size w wn) := below_next T.out hb
  have Yn : Hid _ := Ints.below Y.out hb
  have Zn : Hid _ := Ints.below Z.out hb
  clear hb hh
  clear T Y Z
  have T := Tn
  have Y := Yn
  have Z := Zn
  clear Tn Yn Zn
  clear HKI HKS
  have O0 : Hid _ := Own.none (w := wn)
  have X0 : Hid (Ints (wn.alloc (.cells #[] 3)) b1 0 gs) := Ints.al Y.out _
  have hWB := T.out.size
  have hltY := Ints.lt Y.out
  have hltZ := Ints.lt Z.out
  go_wp2_with ((at_builtin; refine wpList_append_wanted rfl _ _ 23 rfl (World.heap wn).size 3 i0 (.int .i64 0) 1 8 Try.underlying23 hi hz0 hz1 hz2 rfl (by decide) _ _ _ rfl O0.out ⟨b1, 0, none⟩ gs.length c1 (gs.map (Value.int .i64)) rfl (by simp) (Ints.cells X0.out) (by intro u hu; simp at hu; obtain ⟨a, _, rfl⟩ := hu; rfl) (by first | (unfold maxLen; simp; omega) | (simp; omega)) (by simp; omega) (by simp) ?_))
  intro v1 wp hown hgrow hnil hat
  obtain ⟨B, hB⟩ : ∃ B, (World.heap wn).size = B := ⟨_, rfl⟩
  have lt5 : ∀ i, (Value.slice (some ⟨(World.heap wn).size, 0, none⟩) 0 0).ownBlock = some i → B ≤ i := fun i e => by rw [← hB]; exact Own.lt O0.out i e
  rw [hB] at hown hWB hltY hltZ
  have HB : Hid _ := hB
  have O : Hid (Own wp B v1 gs) := (by first | exact hown | exact Own.app0 hown)
  have N : Hid (v1 ≠ .slice none 0 0) := (by first | exact hnil | exact fun e => absurd (hnil.1 e).2 (by simp) | exact fun e => absurd (hnil.1 e).1 (by simp))
  have Tn : Hid (Below w.heap.size w wp) := Below.own (Below.al T.out _) hgrow (fun i e => by have := lt5 i e; omega)
  have Yn : Hid _ := Ints.gr (Ints.al Y.out _) hgrow (fun i e h0 => by have := lt5 i e; omega)
  have Zn : Hid _ := Ints.gr (Ints.al Z.out _) hgrow (fun i e h0 => by have := lt5 i e; omega)
  clear hown hgrow lt5 hnil hat hB O0 X0
  clear T Y Z
  have T := Tn
  have Y := Yn
  have Z := Zn
  clear Tn Yn Zn
  obtain ⟨wn, hwq⟩ : ∃ w0, w0 = wp := ⟨_, rfl⟩
  subst hwq
  have hb1B : 0 < gs.length → b1 < B := hltY
  have hb2B : 0 < rs.length → b2 < B := hltZ
  go_wp2_with ((at_builtin; refine wpList_append_wanted rfl _ _ 23 rfl B 3 i0 (.int .i64 0) 1 8 Try.underlying23 hi hz0 hz1 hz2 rfl (by decide) _ _ _ rfl O.out ⟨b1, 0, none⟩ gs.length c1 (gs.map (Value.int .i64)) rfl (by simp) (Ints.cells Y.out) (by intro u hu; simp at hu; obtain ⟨a, _, rfl⟩ := hu; rfl) (by first | (unfold maxLen; simp; omega) | (simp; omega)) (by omega) (Own.base O.out N.out) ?_))
  intro v2 wp hown hgrow hnil hat
  have lt5 := Own.lt O.out
  have M0 := Lib.hid (own_app13 hown)
  have N0 := Lib.hid (show v2 ≠ .slice none 0 0 from (by first | exact hnil | exact fun e => absurd (hnil.1 e).2 (by simp) | exact fun e => absurd (hnil.1 e).1 (by simp) | exact fun e => N.out (hnil.1 e).1))
  have T0 := Lib.hid (Below.own T.out hgrow (fun i e => by have := lt5 i e; omega))
  have Y0 : Hid (Ints wp b1 0 gs) := Ints.gr Y.out hgrow (fun i e h0 => by have := lt5 i e; omega)
  have Z0 : Hid (Ints wp b2 0 rs) := Ints.gr Z.out hgrow (fun i e h0 => by have := lt5 i e; omega)
  clear hown hgrow hnil hat lt5 T Y Z O N hltY hltZ hb1B hb2B
  have T := T0
  have Y := Y0
  have Z := Z0
  clear T0 Y0 Z0
  obtain ⟨wn, hwq⟩ : ∃ w0, w0 = wp := ⟨_, rfl⟩
  subst hwq
  have e5 : (gs ++ gs).length = gs.length + gs.length := by simp
  obtain ⟨b5, c5, h5, -, -, i5, l5, m5⟩ := Own.some M0.out N0.out
  rw [e5] at h5 l5
  subst h5
  unfold maxLen at m5
  have M : Hid (Ints wn b5 0 (gs ++ gs)) := i5
  clear i5 M0 N0
  have O0 : Hid _ := Own.none (w := wn)
  have X0 : Hid (Ints (wn.alloc (.cells #[] 3)) b1 0 gs) := Ints.al Y.out _
  have hWB2 := T.out.size
  have hltY := Ints.lt Y.out
  have hltZ := Ints.lt Z.out
  have hltM := Ints.lt M.out
  go_wp2_with ((at_builtin; refine wpList_append_wanted rfl _ _ 23 rfl (World.heap wn).size 3 i0 (.int .i64 0) 1 8 Try.underlying23 hi hz0 hz1 hz2 rfl (by decide) _ _ _ rfl O0.out ⟨b1, 0, none⟩ gs.length c1 (gs.map (Value.int .i64)) rfl (by simp) (Ints.cells X0.out) (by intro u hu; simp at hu; obtain ⟨a, _, rfl⟩ := hu; rfl) (by first | (unfold maxLen; simp; omega) | (simp; omega)) (by simp; omega) (by simp) ?_))
  intro v3 wp hown hgrow hnil hat
  obtain ⟨B2, hB⟩ : ∃ B2, (World.heap wn).size = B2 := ⟨_, rfl⟩
  have lt5 : ∀ i, (Value.slice (some ⟨(World.heap wn).size, 0, none⟩) 0 0).ownBlock = some i → B2 ≤ i := fun i e => by rw [← hB]; exact Own.lt O0.out i e
  rw [hB] at hown hWB2 hltY hltZ hltM
  have HB2 : Hid _ := hB
  have O : Hid (Own wp B2 v3 gs) := (by first | exact hown | exact Own.app0 hown)
  have N : Hid (v3 ≠ .slice none 0 0) := (by first | exact hnil | exact fun e => absurd (hnil.1 e).2 (by simp) | exact fun e => absurd (hnil.1 e).1 (by simp))
  have Tn : Hid (Below w.heap.size w wp) := Below.own (Below.al T.out _) hgrow (fun i e => by have := lt5 i e; omega)
  have Yn : Hid _ := Ints.gr (Ints.al Y.out _) hgrow (fun i e h0 => by have := lt5 i e; omega)
  have Zn : Hid _ := Ints.gr (Ints.al Z.out _) hgrow (fun i e h0 => by have := lt5 i e; omega)
  have Mn : Hid _ := Ints.gr (Ints.al M.out _) hgrow (fun i e h0 => by have := lt5 i e; omega)
  clear hown hgrow lt5 hnil hat hB O0 X0
  clear T Y Z M
  have T := Tn
  have Y := Yn
  have Z := Zn
  have M := Mn
  clear Tn Yn Zn Mn
  obtain ⟨wn, hwq⟩ : ∃ w0, w0 = wp := ⟨_, rfl⟩
  subst hwq
  have hb1B : 0 < gs.length → b1 < B2 := hltY
  have hb2B : 0 < rs.length → b2 < B2 := hltZ
  have hb5B : 0 < (gs ++ gs).length → b5 < B2 := hltM
  rw [e5] at hb5B
  go_wp2_with ((at_builtin; refine wpList_append_wanted rfl _ _ 23 rfl B2 3 i0 (.int .i64 0) 1 8 Try.underlying23 hi hz0 hz1 hz2 rfl (by decide) _ _ _ rfl (Own.alloc O.out _) _ 1 1 [.int .i64 (5)] rfl rfl (cell_one_new _ _ _) (by intro u hu; simp at hu; subst hu; rfl) (by unfold maxLen; omega) (by omega) (Own.base (Own.alloc O.out _) N.out) ?_))
  intro v4 wn hown hgrow hnil hat
  have lt5 := Own.lt O.out
  have On : Hid (Own wn B2 v4 (gs ++ [5])) := Own.snoc hown
  have Nn : Hid (v4 ≠ .slice none 0 0) := (by first | exact hnil | exact fun e => absurd (hnil.1 e).2 (by simp) | exact fun e => absurd (hnil.1 e).1 (by simp))
  have Tn : Hid (Below w.heap.size w _) := Below.own (Below.al T.out _) hgrow (fun i e => by have := lt5 i e; omega)
  have Yn : Hid _ := Ints.gr (Ints.al Y.out _) hgrow (fun i e h0 => by have := lt5 i e; omega)
  have Zn : Hid _ := Ints.gr (Ints.al Z.out _) hgrow (fun i e h0 => by have := lt5 i e; omega)
  have Mn : Hid _ := Ints.gr (Ints.al M.out _) hgrow (fun i e h0 => by have := lt5 i e; omega)
  clear hown hgrow lt5 hnil hat
  clear O N T Y Z M
  have O := On
  have N := Nn
  have T := Tn
  have Y := Yn
  have Z := Zn
  have M := Mn
  clear On Nn Tn Yn Zn Mn
  have e6 : (gs ++ [(5 : Int)]).length = gs.length + 1 := by simp
  obtain ⟨b6, c6, h6, -, -, i6, l6, m6⟩ := Own.some O.out N.out
  rw [e6] at h6 l6
  subst h6
  unfold maxLen at m6
  have Q := Lib.hid (Sl.of i6)
  clear i6 O N
  have KM := fun w' (h : Sl w' (some ⟨b6, 0, none⟩) (gs ++ [5])) (h2 : Sl w' (some ⟨b2, 0, none⟩) rs) => iGoalMany_c _ (gs.length + 1) c6 (gs ++ [5]) _ rs.length c2 rs w' h e6 h2 rfl (by omega) (by omega) ⟨l6, by omega⟩ ⟨k3, by omega⟩
  have KT := fun w' (h : Sl w' (some ⟨b5, 0, none⟩) (gs ++ gs)) (h2 : Sl w' (some ⟨b2, 0, none⟩) rs) => iGoalMany_c _ (gs.length + gs.length) c5 (gs ++ gs) _ rs.length c2 rs w' h e5 h2 rfl (by omega) (by omega) ⟨l5, by omega⟩ ⟨k3, by omega⟩
  obtain ⟨V, hV⟩ : ∃ V, gmv (gs ++ [5]) rs = V := ⟨_, rfl⟩
  have hVS : gs.length = 6 ∨ V = S ∨ V = S + 1 := by
    by_cases h6 : gs.length < 6
    · rw [← hV, ← HS.out, gmv_t (hok_more HG.out ⟨by omega, by omega⟩ h6), e6]
      exact .inr (gm_more gs 5)
    · exact .inl (by omega)
  have hUS : gs.length + gs.length ≤ 6 → gmv (gs ++ gs) rs = S := fun h6 => by
    rw [gmv_t (hok_twice HG.out h6), e5, gm_twice gs gs.length (Nat.le_refl _)]
    exact HS.out
  rw [hV] at KM
  have HKM := Lib.hid KM
  have hSw : -9223372036854775808 ≤ S + 1 ∧ S + 1 ≤ 9223372036854775807 := by omega
  clear KM hV e5 e6 HS HG
  go_wp2_with fail
  refine Calls.mono (HKM.out _ Q.out (Sl.of Z.out)) ?_
  intro e wn hh
  obtain ⟨he, hb⟩ := (by first | exact hh | exact Ro.mk hh | exact St.mk hh | exact LawOk.mk' hh : Mk _ _ e wn)
  subst he
  have Tn : Hid (Below w.heap.size w wn) := below_next T.out hb
  have Yn : Hid _ := Ints.below Y.out hb
  have Zn : Hid _ := Ints.below Z.out hb
  have Mn : Hid _ := Ints.below M.out hb
  have Qn : Hid _ := Sl.below Q.out hb
  clear hb hh
  clear T Y Z M Q
  have T := Tn
  have Y := Yn
  have Z := Zn
  have M := Mn
  have Q := Qn
  clear Tn Yn Zn Mn Qn
  clear HKM
  have hSg : S ≤ (gs.length : Int) := hS2
  by_cases h2 : gs.length + gs.length ≤ 6
  case pos =>
    have KT := KT
    rw [hUS h2] at KT
    have HKT := Lib.hid KT
    have h2i : ¬ (6 : Int) < (gs.length : Int) + (gs.length : Int) := by omega
    have q1 : ((gs.length : Int) == 6) = false := beq_false_of_ne (by omega)
    have hVT : V = S ∨ V = S + 1 := by omega
    clear KT hUS hVS h2
    rcases hVT with h | h
    · have q2 : (V == S) = true := by rw [h]; exact beq_self_eq_true _
      clear h
      go_wp2_with fail
      refine Calls.mono (HKT.out _ (Sl.of M.out) (Sl.of Z.out)) ?_
      intro e wn hh
      obtain ⟨he, hb⟩ := (by first | exact hh | exact Ro.mk hh | exact St.mk hh | exact LawOk.mk' hh : Mk _ _ e wn)
      subst he
      have Tn : Hid (Below w.heap.size w wn) := below_next T.out hb
      have Yn : Hid _ := Ints.below Y.out hb
      have Zn : Hid _ := Ints.below Z.out hb
      have Mn : Hid _ := Ints.below M.out hb
      have Qn : Hid _ := Sl.below Q.out hb
      clear hb hh
      clear T Y Z M Q
      have T := Tn
      have Y := Yn
      have Z := Zn
      have M := Mn
      have Q := Qn
      clear Tn Yn Zn Mn Qn
      go_wp2_with fail
      go_ret
      first | exact LawOk.mk T.out | exact LawOk.mk (Below.dr T.out _)
    · have q2 : (V == S) = false := beq_false_of_ne (by omega)
      have q3 : (V == S + 1) = true := by rw [h]; exact beq_self_eq_true _
      clear h
      go_wp2_with fail
      refine Calls.mono (HKT.out _ (Sl.of M.out) (Sl.of Z.out)) ?_
      intro e wn hh
      obtain ⟨he, hb⟩ := (by first | exact hh | exact Ro.mk hh | exact St.mk hh | exact LawOk.mk' hh : Mk _ _ e wn)
      subst he
      have Tn : Hid (Below w.heap.size w wn) := below_next T.out hb
      have Yn : Hid _ := Ints.below Y.out hb
      have Zn : Hid _ := Ints.below Z.out hb
      have Mn : Hid _ := Ints.below M.out hb
      have Qn : Hid _ := Sl.below Q.out hb
      clear hb hh
      clear T Y Z M Q
      have T := Tn
      have Y := Yn
      have Z := Zn
      have M := Mn
      have Q := Qn
      clear Tn Yn Zn Mn Qn
      go_wp2_with fail
      go_ret
      first | exact LawOk.mk T.out | exact LawOk.mk (Below.dr T.out _)
  have h2i : (6 : Int) < (gs.length : Int) + (gs.length : Int) := by omega
  clear KT hUS h2
  by_cases h6 : gs.length = 6
  · have q1 : ((gs.length : Int) == 6) = true := by rw [h6]; rfl
    clear h6 hVS
    go_wp2_with fail
    go_ret
    first | exact LawOk.mk T.out | exact LawOk.mk (Below.dr T.out _)
  have q1 : ((gs.length : Int) == 6) = false := beq_false_of_ne (by omega)
  have hVT : V = S ∨ V = S + 1 := by omega
  clear h6 hVS
  rcases hVT with h | h
  · have q2 : (V == S) = true := by rw [h]; exact beq_self_eq_true _
    clear h
    go_wp2_with fail
    go_ret
    first | exact LawOk.mk T.out | exact LawOk.mk (Below.dr T.out _)
  · have q2 : (V == S) = false := beq_false_of_ne (by omega)
    have q3 : (V == S + 1) = true := by rw [h]; exact beq_self_eq_true _
    clear h
    go_wp2_with fail
    go_ret
    first | exact LawOk.mk T.out | exact LawOk.mk (Below.dr T.out _)
end Go.Proofs.Yteeokegkbhpbcaa
