/- The laws of HallOk, HallStops, GoalMany: the walks. -/
import Derived.Test.Yteeokegkbhpbcaa13I
import Derived.Test.Yteeokegkbhpbcaa13MP
import Derived.Test.Yteeokegkbhpbcaa13U
import Derived.Test.YteeokegkbhpbcaaL
namespace Go.Proofs.Yteeokegkbhpbcaa
open Go.RowKit
set_option linter.unusedVariables false
set_option linter.unusedSimpArgs false
set_option maxRecDepth 100000

theorem hok_none {gs rs : List Int} (h : HOk gs rs) : HOk [] rs := ⟨fun k hk => by simp at hk, h.2.1, by simp, h.2.2.2⟩
theorem hok_cars {gs : List Int} : ¬ HOk gs [] := fun h => by have := h.2.2.2.1; simp at this
theorem NewP.get {w w' : World} {L : List Int} {F : Bool} {e : Ending} (h : NewP w L F e w') : ∃ lo hi p u, e = .returned (.tuple #[.slice p L.length u, .bool F]) ∧ w.heap.size = lo ∧ OwnI w' lo hi (.slice p L.length u) L ∧ Below w.heap.size w w' ∧ (L.length ≤ u ∧ u ≤ 9223372036854775807) := by
  obtain ⟨v, rfl, hO, hb⟩ := h
  obtain ⟨p, u, rfl, -⟩ := Own.sl hO
  refine ⟨_, w'.heap.size, p, u, rfl, rfl, ⟨hO, fun q hq => own_lt2 hO q hq, hb.size, Nat.le_refl _⟩, hb, ?_⟩
  obtain ⟨hl, h⟩ := hO
  rcases h with ⟨e, h0⟩ | ⟨g, c', cur, e, hb, hh, hlen, hmx, hs, ht⟩
  · simp only [Value.slice.injEq] at e
    omega
  · simp only [Value.slice.injEq] at e
    obtain ⟨-, e1, e2⟩ := e
    unfold maxLen at hmx
    omega
set_option maxHeartbeats 4000000 in
theorem HallOk_w (a : Option Addr) (n cap : Nat) (w : World) (hb : Byt w a n) (hn : n ≤ cap) (hcap : cap ≤ maxLen) :
    Calls Try.prog 3 #[.slice a n cap] w (LawOk w) := by
  have hcap' := hcap
  unfold maxLen at hcap'
  by_cases bign : 1048576 < n
  · go_enter Try.func3, Try.ntmps3
    go_wp2_with fail
    go_ret
    exact LawOk.mk (Below.refl _ _)
  go_enter Try.func3, Try.ntmps3
  go_wp2_with fail
  refine Calls.mono (DrawHallOk_c a n cap _ hb hn hcap) ?_
  rintro e wn ⟨b1, c1, gs, b2, c2, rs, rfl, ⟨hgs, hrs⟩, ⟨⟨k1, k2⟩, ⟨k3, k4⟩⟩, ⟨hI1, hI2⟩, hB⟩
  unfold maxLen at k2 k4
  have T := Lib.hid hB
  have Y := Lib.hid (Sl.of hI1)
  have Z := Lib.hid (Sl.of hI2)
  clear hB hI1 hI2 hb
  obtain ⟨P, hP⟩ : ∃ P, hokB gs rs = P := ⟨_, rfl⟩
  have KI := fun w' (h : Sl w' (some ⟨b1, 0, none⟩) gs) (h2 : Sl w' (some ⟨b2, 0, none⟩) rs) => iHallOk_c _ gs.length c1 gs _ rs.length c2 rs w' h rfl h2 rfl (by omega) (by omega) ⟨k1, by omega⟩ ⟨k3, by omega⟩
  have KS := fun w' (h : Sl w' (some ⟨b1, 0, none⟩) gs) (h2 : Sl w' (some ⟨b2, 0, none⟩) rs) => sHallOk_c _ gs.length c1 gs _ rs.length c2 rs w' h rfl h2 rfl (by omega) (by omega)
  have KN := fun w' (h2 : Sl w' (some ⟨b2, 0, none⟩) rs) => iHallOk_c none 0 0 [] _ rs.length c2 rs w' (.inl rfl) rfl h2 rfl (by omega) (by omega) ⟨by omega, by omega⟩ ⟨k3, by omega⟩
  have KC := fun w' (h : Sl w' (some ⟨b1, 0, none⟩) gs) => iHallOk_c _ gs.length c1 gs none 0 0 [] w' h rfl (.inl rfl) rfl (by omega) (by omega) ⟨k1, by omega⟩ ⟨by omega, by omega⟩
  rw [hP] at KI KS
  rw [show hokB gs [] = false from tr_false hok_cars] at KC
  have HKI := Lib.hid KI
  have HKS := Lib.hid KS
  have HKC := Lib.hid KC
  clear KI KS KC
  cases P
  case false =>
    clear KN hP
    go_wp2_with fail
    refine Calls.mono (HKI.out _ Y.out Z.out) ?_
    intro e wn hh
    obtain ⟨he, hb⟩ := (by first | exact hh | exact Ro.mk hh | exact St.mk hh | exact LawOk.mk' hh : Mk _ _ e wn)
    subst he
    have Tn : Hid (Below w.heap.size w wn) := below_next T.out hb
    have Yn : Hid _ := Sl.below Y.out hb
    have Zn : Hid _ := Sl.below Z.out hb
    clear hb hh
    clear T Y Z
    have T := Tn
    have Y := Yn
    have Z := Zn
    clear Tn Yn Zn
    go_wp2_with fail
    refine Calls.mono (HKS.out _ Y.out Z.out) ?_
    intro e wn hh
    obtain ⟨he, hb⟩ := (by first | exact hh | exact Ro.mk hh | exact St.mk hh | exact LawOk.mk' hh : Mk _ _ e wn)
    subst he
    have Tn : Hid (Below w.heap.size w wn) := below_next T.out hb
    have Yn : Hid _ := Sl.below Y.out hb
    have Zn : Hid _ := Sl.below Z.out hb
    clear hb hh
    clear T Y Z
    have T := Tn
    have Y := Yn
    have Z := Zn
    clear Tn Yn Zn
    go_wp2_with fail
    refine Calls.mono (HKC.out _ Y.out) ?_
    intro e wn hh
    obtain ⟨he, hb⟩ := (by first | exact hh | exact Ro.mk hh | exact St.mk hh | exact LawOk.mk' hh : Mk _ _ e wn)
    subst he
    have Tn : Hid (Below w.heap.size w wn) := below_next T.out hb
    have Yn : Hid _ := Sl.below Y.out hb
    have Zn : Hid _ := Sl.below Z.out hb
    clear hb hh
    clear T Y Z
    have T := Tn
    have Y := Yn
    have Z := Zn
    clear Tn Yn Zn
    go_wp2_with fail
    refine Calls.mono (alive_c _) ?_
    intro e wn hh
    obtain ⟨he, hb⟩ := (by first | exact hh | exact Ro.mk hh | exact St.mk hh | exact LawOk.mk' hh : Mk _ _ e wn)
    subst he
    have Tn : Hid (Below w.heap.size w wn) := below_next T.out hb
    have Yn : Hid _ := Sl.below Y.out hb
    have Zn : Hid _ := Sl.below Z.out hb
    clear hb hh
    clear T Y Z
    have T := Tn
    have Y := Yn
    have Z := Zn
    clear Tn Yn Zn
    go_wp2_with fail
    go_ret
    first | exact LawOk.mk T.out | exact LawOk.mk (Below.dr T.out _)
  rw [show hokB [] rs = true from tr_true (hok_none (tr_t.1 hP))] at KN
  have HKN := Lib.hid KN
  clear KN hP
  go_wp2_with fail
  refine Calls.mono (HKI.out _ Y.out Z.out) ?_
  intro e wn hh
  obtain ⟨he, hb⟩ := (by first | exact hh | exact Ro.mk hh | exact St.mk hh | exact LawOk.mk' hh : Mk _ _ e wn)
  subst he
  have Tn : Hid (Below w.heap.size w wn) := below_next T.out hb
  have Yn : Hid _ := Sl.below Y.out hb
  have Zn : Hid _ := Sl.below Z.out hb
  clear hb hh
  clear T Y Z
  have T := Tn
  have Y := Yn
  have Z := Zn
  clear Tn Yn Zn
  go_wp2_with fail
  refine Calls.mono (HKS.out _ Y.out Z.out) ?_
  intro e wn hh
  obtain ⟨he, hb⟩ := (by first | exact hh | exact Ro.mk hh | exact St.mk hh | exact LawOk.mk' hh : Mk _ _ e wn)
  subst he
  have Tn : Hid (Below w.heap.size w wn) := below_next T.out hb
  have Yn : Hid _ := Sl.below Y.out hb
  have Zn : Hid _ := Sl.below Z.out hb
  clear hb hh
  clear T Y Z
  have T := Tn
  have Y := Yn
  have Z := Zn
  clear Tn Yn Zn
  go_wp2_with fail
  refine Calls.mono (HKN.out _ Z.out) ?_
  intro e wn hh
  obtain ⟨he, hb⟩ := (by first | exact hh | exact Ro.mk hh | exact St.mk hh | exact LawOk.mk' hh : Mk _ _ e wn)
  subst he
  have Tn : Hid (Below w.heap.size w wn) := below_next T.out hb
  have Yn : Hid _ := Sl.below Y.out hb
  have Zn : Hid _ := Sl.below Z.out hb
  clear hb hh
  clear T Y Z
  have T := Tn
  have Y := Yn
  have Z := Zn
  clear Tn Yn Zn
  go_wp2_with fail
  refine Calls.mono (HKC.out _ Y.out) ?_
  intro e wn hh
  obtain ⟨he, hb⟩ := (by first | exact hh | exact Ro.mk hh | exact St.mk hh | exact LawOk.mk' hh : Mk _ _ e wn)
  subst he
  have Tn : Hid (Below w.heap.size w wn) := below_next T.out hb
  have Yn : Hid _ := Sl.below Y.out hb
  have Zn : Hid _ := Sl.below Z.out hb
  clear hb hh
  clear T Y Z
  have T := Tn
  have Y := Yn
  have Z := Zn
  clear Tn Yn Zn
  go_wp2_with fail
  refine Calls.mono (alive_c _) ?_
  intro e wn hh
  obtain ⟨he, hb⟩ := (by first | exact hh | exact Ro.mk hh | exact St.mk hh | exact LawOk.mk' hh : Mk _ _ e wn)
  subst he
  have Tn : Hid (Below w.heap.size w wn) := below_next T.out hb
  have Yn : Hid _ := Sl.below Y.out hb
  have Zn : Hid _ := Sl.below Z.out hb
  clear hb hh
  clear T Y Z
  have T := Tn
  have Y := Yn
  have Z := Zn
  clear Tn Yn Zn
  go_wp2_with fail
  go_ret
  first | exact LawOk.mk T.out | exact LawOk.mk (Below.dr T.out _)
set_option maxHeartbeats 4000000 in
theorem HallStops_w (a : Option Addr) (n cap : Nat) (w : World) (hb : Byt w a n) (hn : n ≤ cap) (hcap : cap ≤ maxLen) :
    Calls Try.prog 5 #[.slice a n cap] w (LawOk w) := by
  have hcap' := hcap
  unfold maxLen at hcap'
  by_cases bign : 1048576 < n
  · go_enter Try.func5, Try.ntmps5
    go_wp2_with fail
    go_ret
    exact LawOk.mk (Below.refl _ _)
  go_enter Try.func5, Try.ntmps5
  go_wp2_with fail
  refine Calls.mono (DrawHallStops_c a n cap _ hb hn hcap) ?_
  rintro e wn ⟨b1, c1, gs, b2, c2, rs, b3, c3, ps, rfl, ⟨hgs, hrs, hps⟩, ⟨⟨k1, k2⟩, ⟨k3, k4⟩, ⟨k5, k6⟩⟩, ⟨hI1, hI2, hI3⟩, hB⟩
  unfold maxLen at k2 k4 k6
  have T := Lib.hid hB
  have Y := Lib.hid (Sl.of hI1)
  have Z := Lib.hid (Sl.of hI2)
  have G := Lib.hid (Sl.of hI3)
  clear hB hI1 hI2 hI3 hb
  have KI := fun w' (h : Sl w' (some ⟨b1, 0, none⟩) gs) (h2 : Sl w' (some ⟨b2, 0, none⟩) rs) (h3 : Sl w' (some ⟨b3, 0, none⟩) ps) => iHallStops_c _ gs.length c1 gs _ rs.length c2 rs _ ps.length c3 ps w' h rfl h2 rfl h3 rfl (by omega) (by omega) (by omega) ⟨k1, by omega⟩ ⟨k3, by omega⟩ ⟨k5, by omega⟩
  have KS := fun w' (h : Sl w' (some ⟨b1, 0, none⟩) gs) (h2 : Sl w' (some ⟨b2, 0, none⟩) rs) (h3 : Sl w' (some ⟨b3, 0, none⟩) ps) => sHallStops_c _ gs.length c1 gs _ rs.length c2 rs _ ps.length c3 ps w' h rfl h2 rfl h3 rfl (by omega) (by omega) (by omega)
  by_cases hg : HFit gs rs ps
  case neg =>
    rw [hsv_f hg] at KI KS
    have HKI := Lib.hid KI
    have HKS := Lib.hid KS
    clear KI KS hg
    go_wp2_with fail
    refine Calls.mono (HKI.out _ Y.out Z.out G.out) ?_
    intro e wn hh
    obtain ⟨he, hb⟩ := (by first | exact hh | exact Ro.mk hh | exact St.mk hh | exact LawOk.mk' hh : Mk _ _ e wn)
    subst he
    have Tn : Hid (Below w.heap.size w wn) := below_next T.out hb
    have Yn : Hid _ := Sl.below Y.out hb
    have Zn : Hid _ := Sl.below Z.out hb
    have Gn : Hid _ := Sl.below G.out hb
    clear hb hh
    clear T Y Z G
    have T := Tn
    have Y := Yn
    have Z := Zn
    have G := Gn
    clear Tn Yn Zn Gn
    go_wp2_with fail
    refine Calls.mono (HKS.out _ Y.out Z.out G.out) ?_
    intro e wn hh
    obtain ⟨he, hb⟩ := (by first | exact hh | exact Ro.mk hh | exact St.mk hh | exact LawOk.mk' hh : Mk _ _ e wn)
    subst he
    have Tn : Hid (Below w.heap.size w wn) := below_next T.out hb
    have Yn : Hid _ := Sl.below Y.out hb
    have Zn : Hid _ := Sl.below Z.out hb
    have Gn : Hid _ := Sl.below G.out hb
    clear hb hh
    clear T Y Z G
    have T := Tn
    have Y := Yn
    have Z := Zn
    have G := Gn
    clear Tn Yn Zn Gn
    go_wp2_with fail
    refine Calls.mono (alive_c _) ?_
    intro e wn hh
    obtain ⟨he, hb⟩ := (by first | exact hh | exact Ro.mk hh | exact St.mk hh | exact LawOk.mk' hh : Mk _ _ e wn)
    subst he
    have Tn : Hid (Below w.heap.size w wn) := below_next T.out hb
    have Yn : Hid _ := Sl.below Y.out hb
    have Zn : Hid _ := Sl.below Z.out hb
    have Gn : Hid _ := Sl.below G.out hb
    clear hb hh
    clear T Y Z G
    have T := Tn
    have Y := Yn
    have Z := Zn
    have G := Gn
    clear Tn Yn Zn Gn
    go_wp2_with fail
    go_ret
    first | exact LawOk.mk T.out | exact LawOk.mk (Below.dr T.out _)
  rw [hsv_t hg] at KI KS
  obtain ⟨b, hbe⟩ : ∃ b, hbest gs rs = some b := by
    cases e : hbest gs rs with
    | none => exact absurd hg (hbest_none e ps)
    | some b => exact ⟨b, rfl⟩
  have hB := hbest_some hbe
  have KB := fun w' (h : Sl w' (some ⟨b1, 0, none⟩) gs) (h2 : Sl w' (some ⟨b2, 0, none⟩) rs) => iHallBest_c _ gs.length c1 gs _ rs.length c2 rs w' h rfl h2 rfl (by omega) (by omega) ⟨k1, by omega⟩ ⟨k3, by omega⟩
  have KG := fun w' (h : Sl w' (some ⟨b1, 0, none⟩) gs) (h2 : Sl w' (some ⟨b2, 0, none⟩) rs) => iGoalMany_c _ gs.length c1 gs _ rs.length c2 rs w' h rfl h2 rfl (by omega) (by omega) ⟨k1, by omega⟩ ⟨k3, by omega⟩
  have hbl : b.length = gs.length := hB.fit.2.1.2
  have KD := fun (w' : World) (a4 : Option Addr) (n4 c4 : Nat) (e4 : b.length = n4) (k7 : n4 ≤ c4 ∧ c4 ≤ 9223372036854775807) (h : Sl w' (some ⟨b1, 0, none⟩) gs) (h2 : Sl w' (some ⟨b2, 0, none⟩) rs) (h4 : Sl w' a4 b) => iHallStops_c _ gs.length c1 gs _ rs.length c2 rs a4 n4 c4 b w' h rfl h2 rfl h4 e4 (by omega) (by omega) (by omega) ⟨k1, by omega⟩ ⟨k3, by omega⟩ k7
  rw [hbe, Option.getD_some, Option.isSome_some] at KB
  rw [hsv_t hB.fit] at KD
  rw [gmv_t hg.1] at KG
  have hM0 := (hsU_bd gs b gs.length).1
  have hS0 := hsU_bd gs ps gs.length
  have hMS : hsU gs b gs.length ≤ hsU gs ps gs.length := by rcases hB.least ps hg with h | h <;> omega
  have hGS := gm_hs gs ps gs.length
  obtain ⟨S, hS⟩ : ∃ S, hsU gs ps gs.length = S := ⟨_, rfl⟩
  obtain ⟨M, hM⟩ : ∃ M, hsU gs b gs.length = M := ⟨_, rfl⟩
  obtain ⟨O, hO⟩ : ∃ O, gmU gs gs.length = O := ⟨_, rfl⟩
  rw [hS] at KI KS hS0 hMS hGS
  rw [hM] at KD hM0 hMS
  rw [hO] at KG hGS
  have hS1 : ¬ S < 0 := by omega
  have hS2 := hS0.2
  have HKI := Lib.hid KI
  have HKS := Lib.hid KS
  have HKB := Lib.hid KB
  have HKD := Lib.hid KD
  have HKG := Lib.hid KG
  clear KI KS KB KD KG hg hbe hB hbl hS hM hO hS0
  go_wp2_with fail
  refine Calls.mono (HKI.out _ Y.out Z.out G.out) ?_
  intro e wn hh
  obtain ⟨he, hb⟩ := (by first | exact hh | exact Ro.mk hh | exact St.mk hh | exact LawOk.mk' hh : Mk _ _ e wn)
  subst he
  have Tn : Hid (Below w.heap.size w wn) := below_next T.out hb
  have Yn : Hid _ := Sl.below Y.out hb
  have Zn : Hid _ := Sl.below Z.out hb
  have Gn : Hid _ := Sl.below G.out hb
  clear hb hh
  clear T Y Z G
  have T := Tn
  have Y := Yn
  have Z := Zn
  have G := Gn
  clear Tn Yn Zn Gn
  go_wp2_with fail
  refine Calls.mono (HKS.out _ Y.out Z.out G.out) ?_
  intro e wn hh
  obtain ⟨he, hb⟩ := (by first | exact hh | exact Ro.mk hh | exact St.mk hh | exact LawOk.mk' hh : Mk _ _ e wn)
  subst he
  have Tn : Hid (Below w.heap.size w wn) := below_next T.out hb
  have Yn : Hid _ := Sl.below Y.out hb
  have Zn : Hid _ := Sl.below Z.out hb
  have Gn : Hid _ := Sl.below G.out hb
  clear hb hh
  clear T Y Z G
  have T := Tn
  have Y := Yn
  have Z := Zn
  have G := Gn
  clear Tn Yn Zn Gn
  clear HKI HKS
  go_wp2_with fail
  refine Calls.mono (HKB.out _ Y.out Z.out) ?_
  intro e wq hh
  obtain ⟨lo9, hi9, p9, u9, rfl, -, hO, hb9, hc9⟩ := NewP.get hh
  have Ln := Lib.hid (OwnI.rd hO)
  have HC9 := Lib.hid hc9
  clear hO hh HKB hc9
  have Tn := Lib.hid (below_next T.out hb9)
  have Yn := Lib.hid (Sl.below Y.out hb9)
  have Zn := Lib.hid (Sl.below Z.out hb9)
  have Gn := Lib.hid (Sl.below G.out hb9)
  clear hb9
  clear T Y Z G
  have T := Tn
  have Y := Yn
  have Z := Zn
  have G := Gn
  clear Tn Yn Zn Gn
  obtain ⟨wn, hwq⟩ : ∃ w0, w0 = wq := ⟨_, rfl⟩
  subst hwq
  have L := Ln
  clear Ln
  go_wp2_with fail
  refine Calls.mono (HKD.out _ _ _ _ rfl HC9.out Y.out Z.out L.out) ?_
  intro e wn hh
  obtain ⟨he, hb⟩ := (by first | exact hh | exact Ro.mk hh | exact St.mk hh | exact LawOk.mk' hh : Mk _ _ e wn)
  subst he
  have Tn : Hid (Below w.heap.size w wn) := below_next T.out hb
  have Yn : Hid _ := Sl.below Y.out hb
  have Zn : Hid _ := Sl.below Z.out hb
  have Gn : Hid _ := Sl.below G.out hb
  have Ln : Hid _ := Sl.below L.out hb
  clear hb hh
  clear T Y Z G L
  have T := Tn
  have Y := Yn
  have Z := Zn
  have G := Gn
  have L := Ln
  clear Tn Yn Zn Gn Ln
  clear HKD
  go_wp2_with fail
  refine Calls.mono (HKG.out _ Y.out Z.out) ?_
  intro e wn hh
  obtain ⟨he, hb⟩ := (by first | exact hh | exact Ro.mk hh | exact St.mk hh | exact LawOk.mk' hh : Mk _ _ e wn)
  subst he
  have Tn : Hid (Below w.heap.size w wn) := below_next T.out hb
  have Yn : Hid _ := Sl.below Y.out hb
  have Zn : Hid _ := Sl.below Z.out hb
  have Gn : Hid _ := Sl.below G.out hb
  have Ln : Hid _ := Sl.below L.out hb
  clear hb hh
  clear T Y Z G L
  have T := Tn
  have Y := Yn
  have Z := Zn
  have G := Gn
  have L := Ln
  clear Tn Yn Zn Gn Ln
  clear HKG
  go_wp2_with fail
  go_ret
  first | exact LawOk.mk T.out | exact LawOk.mk (Below.dr T.out _)
end Go.Proofs.Yteeokegkbhpbcaa
