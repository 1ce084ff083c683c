/- The law of HallBest: the walk. -/
import Derived.Test.Yteeokegkbhpbcaa13N
namespace Go.Proofs.Yteeokegkbhpbcaa
open Go.RowKit
set_option linter.unusedVariables false
set_option linter.unusedSimpArgs false
set_option maxRecDepth 100000

theorem hbest_bad {gs rs : List Int} (h : ¬ HOk gs rs) : hbest gs rs = none := by unfold hbest; rw [if_neg h]
set_option maxHeartbeats 8000000 in
theorem HallBest_w (a : Option Addr) (n cap : Nat) (w : World) (hb : Byt w a n) (hn : n ≤ cap) (hcap : cap ≤ maxLen) :
    Calls Try.prog 6 #[.slice a n cap] w (LawOk w) := by
  have hcap' := hcap
  unfold maxLen at hcap'
  by_cases bign : 1048576 < n
  · go_enter Try.func6, Try.ntmps6
    go_wp2_with fail
    go_ret
    exact LawOk.mk (Below.refl _ _)
  go_enter Try.func6, Try.ntmps6
  go_wp2_with fail
  refine Calls.mono (DrawHallBest_c a n cap _ hb hn hcap) ?_
  rintro e wn ⟨b1, c1, gs, b2, c2, rs, rfl, ⟨hgs, hrs⟩, ⟨⟨k1, k2⟩, ⟨k3, k4⟩⟩, ⟨hI1, hI2⟩, hB⟩
  unfold maxLen at k2 k4
  have T := Lib.hid hB
  have Y := Lib.hid hI1
  have Z := Lib.hid hI2
  clear hB hI1 hI2 hb
  obtain ⟨P, hP⟩ : ∃ P, hokB gs rs = P := ⟨_, rfl⟩
  obtain ⟨L, hL⟩ : ∃ L, (hbest gs rs).getD [] = L := ⟨_, rfl⟩
  obtain ⟨F, hF⟩ : ∃ F, (hbest gs rs).isSome = F := ⟨_, rfl⟩
  have hLn : L.length ≤ 7 := by
    rw [← hL]
    cases e : hbest gs rs with
    | none => simp
    | some b => rw [Option.getD_some, (hbest_some e).fit.2.1.2]; exact hgs
  have KI := fun w' (h : Sl w' (some ⟨b1, 0, none⟩) gs) (h2 : Sl w' (some ⟨b2, 0, none⟩) rs) => iHallBest_c _ gs.length c1 gs _ rs.length c2 rs w' h rfl h2 rfl (by omega) (by omega) ⟨k1, by omega⟩ ⟨k3, by omega⟩
  have KS := fun w' (h : Sl w' (some ⟨b1, 0, none⟩) gs) (h2 : Sl w' (some ⟨b2, 0, none⟩) rs) => sHallBest_c _ gs.length c1 gs _ rs.length c2 rs w' h rfl h2 rfl (by omega) (by omega)
  have KO := fun w' (h : Sl w' (some ⟨b1, 0, none⟩) gs) (h2 : Sl w' (some ⟨b2, 0, none⟩) rs) => sHallOk_c _ gs.length c1 gs _ rs.length c2 rs w' h rfl h2 rfl (by omega) (by omega)
  rw [hP] at KO
  rw [hL, hF] at KI KS
  obtain ⟨NL, hNL⟩ : ∃ NL, L.length = NL := ⟨_, rfl⟩
  have HNL := Lib.hid hNL
  rw [hNL] at hLn
  have HKI := Lib.hid KI
  have HKS := Lib.hid KS
  have HKO := Lib.hid KO
  have HP := Lib.hid hP
  have HL := Lib.hid hL
  have HF := Lib.hid hF
  clear KI KS KO hNL hP hL hF
  go_wp2_with fail
  refine Calls.mono (HKI.out _ (Sl.of Y.out) (Sl.of Z.out)) ?_
  intro e wq hh
  obtain ⟨lo9, hi9, p9, u9, rfl, -, hO, hb9, hc9⟩ := NewP.get hh
  rw [HNL.out] at hc9
  have hc91 := hc9.1
  have hc92 := hc9.2
  have Gn := Lib.hid (OwnI.rd hO)
  clear hO hh HKI hc9
  have Tn := Lib.hid (below_next T.out hb9)
  have Yn := Lib.hid (Ints.below Y.out hb9)
  have Zn := Lib.hid (Ints.below Z.out hb9)
  clear hb9
  clear T Y Z
  have T := Tn
  have Y := Yn
  have Z := Zn
  clear Tn Yn Zn
  obtain ⟨wn, hwq⟩ : ∃ w0, w0 = wq := ⟨_, rfl⟩
  subst hwq
  have G := Gn
  clear Gn
  rw [HNL.out]
  go_wp2_with fail
  refine Calls.mono (HKS.out _ (Sl.of Y.out) (Sl.of Z.out)) ?_
  intro e wq hh
  obtain ⟨lo8, hi8, p8, u8, rfl, -, hO, hb9, -⟩ := NewP.get hh
  have Wn := Lib.hid (OwnI.rd hO)
  clear hO hh HKS
  have Tn := Lib.hid (below_next T.out hb9)
  have Yn := Lib.hid (Ints.below Y.out hb9)
  have Zn := Lib.hid (Ints.below Z.out hb9)
  have Gn := Lib.hid (Sl.below G.out hb9)
  clear hb9
  clear T Y Z G
  have T := Tn
  have Y := Yn
  have Z := Zn
  have G := Gn
  clear Tn Yn Zn Gn
  obtain ⟨wn, hwq⟩ : ∃ w0, w0 = wq := ⟨_, rfl⟩
  subst hwq
  have W := Wn
  clear Wn
  rw [HNL.out]
  go_wp2_with fail
  refine Calls.mono (sameInts_t p9 NL u9 L p8 u8 _ G.out W.out HNL.out (by omega)) ?_
  intro e wn hh
  obtain ⟨he, hb⟩ := (by first | exact hh | exact Ro.mk hh | exact St.mk hh | exact LawOk.mk' hh : Mk _ _ e wn)
  subst he
  have Tn : Hid (Below w.heap.size w wn) := below_next T.out hb
  have Yn : Hid _ := Ints.below Y.out hb
  have Zn : Hid _ := Ints.below Z.out hb
  have Gn : Hid _ := Sl.below G.out hb
  clear hb hh
  clear T Y Z G
  have T := Tn
  have Y := Yn
  have Z := Zn
  have G := Gn
  clear Tn Yn Zn Gn
  clear W
  cases F
  case false =>
    obtain rfl : NL = 0 := by
      rw [← HNL.out, ← HL.out]
      cases e : hbest gs rs with
      | none => rfl
      | some b => have := HF.out; rw [e] at this; cases this
    go_wp2_with fail
    refine Calls.mono (HKO.out _ (Sl.of Y.out) (Sl.of Z.out)) ?_
    intro e wn hh
    obtain ⟨he, hb⟩ := (by first | exact hh | exact Ro.mk hh | exact St.mk hh | exact LawOk.mk' hh : Mk _ _ e wn)
    subst he
    have Tn : Hid (Below w.heap.size w wn) := below_next T.out hb
    have Yn : Hid _ := Ints.below Y.out hb
    have Zn : Hid _ := Ints.below Z.out hb
    have Gn : Hid _ := Sl.below G.out hb
    clear hb hh
    clear T Y Z G
    have T := Tn
    have Y := Yn
    have Z := Zn
    have G := Gn
    clear Tn Yn Zn Gn
    clear HKO
    cases P
    case false =>
      go_wp2_with fail
      refine Calls.mono (alive_c _) ?_
      intro e wn hh
      obtain ⟨he, hb⟩ := (by first | exact hh | exact Ro.mk hh | exact St.mk hh | exact LawOk.mk' hh : Mk _ _ e wn)
      subst he
      have Tn : Hid (Below w.heap.size w wn) := below_next T.out hb
      have Yn : Hid _ := Ints.below Y.out hb
      have Zn : Hid _ := Ints.below Z.out hb
      have Gn : Hid _ := Sl.below G.out hb
      clear hb hh
      clear T Y Z G
      have T := Tn
      have Y := Yn
      have Z := Zn
      have G := Gn
      clear Tn Yn Zn Gn
      go_wp2_with fail
      go_ret
      first | exact LawOk.mk T.out | exact LawOk.mk (Below.dr T.out _)
    have hg : HOk gs rs := tr_t.1 HP.out
    have hno : ¬ (gs.length : Int) ≤ totU (nth rs) rs.length := fun h => by have := (hbest_iff hg).2 h; rw [HF.out] at this; cases this
    have hrb : ∀ i, i < rs.length → -1000000 ≤ nth rs i ∧ nth rs i ≤ 1000000 := fun i hi => by have := hg.2.1 i hi; omega
    have KU := fun w' (h : Ints w' b2 0 rs) => sumOf_m b2 rs.length c2 rs w' h rfl (by omega) hrb
    have hsml : ∀ c, c < rs.length → nth rs c < (gs.length : Int) := fun c hc => by
      refine Classical.not_not.1 fun h9 => hno ?_
      have h1 : ∀ m, m ≤ rs.length → c < m → nth rs c ≤ totU (nth rs) m := by
        intro m
        induction m with
        | zero => intro _ h; omega
        | succ m ih =>
          intro hm hc9
          have h2 := (hg.2.1 m (by omega)).1
          have h3 : ∀ q, q ≤ rs.length → 0 ≤ totU (nth rs) q := by
            intro q
            induction q with
            | zero => intro _; exact Int.le_refl _
            | succ q ihq => intro hq; have := ihq (by omega); have := (hg.2.1 q (by omega)).1; unfold totU; omega
          unfold totU
          by_cases e : c = m
          · subst e; have := h3 c (by omega); omega
          · have := ih (by omega) (by omega); omega
      have := h1 rs.length (Nat.le_refl _) hc
      omega
    obtain ⟨U, hU⟩ : ∃ U, totU (nth rs) rs.length = U := ⟨_, rfl⟩
    rw [hU] at KU hno
    have HKU := Lib.hid KU
    have HSM := Lib.hid hsml
    clear KU hU hg hrb hsml
    go_wp2_with fail
    refine Calls.mono (HKU.out _ Z.out) ?_
    intro e wn hh
    obtain ⟨he, hb⟩ := (by first | exact hh | exact Ro.mk hh | exact St.mk hh | exact LawOk.mk' hh : Mk _ _ e wn)
    subst he
    have Tn : Hid (Below w.heap.size w wn) := below_next T.out hb
    have Yn : Hid _ := Ints.below Y.out hb
    have Zn : Hid _ := Ints.below Z.out hb
    have Gn : Hid _ := Sl.below G.out hb
    clear hb hh
    clear T Y Z G
    have T := Tn
    have Y := Yn
    have Z := Zn
    have G := Gn
    clear Tn Yn Zn Gn
    clear HKU
    go_wp2_with fail
    go_loopw [9] (fun v wr => ∃ (k : Nat), k ≤ rs.length ∧ v = .int .i64 k ∧ Below w.heap.size w wr ∧ Ints wr b1 0 gs ∧ Ints wr b2 0 rs ∧ Sl wr p9 L) (fun v _ => rs.length - (intOf v).toNat)
    case atStart => exact ⟨0, by omega, rfl, T.out, Y.out, Z.out, G.out⟩
    case' round =>
      clear T Y Z G
      obtain ⟨k, hk, rfl, h9T, h9Y, h9Z, h9G⟩ := hrel
      obtain ⟨wn, hwq⟩ : ∃ w0 : World, w0 = wr := ⟨_, rfl⟩
      rw [← hwq] at h9T h9Y h9Z h9G ⊢
      clear hwq
      have T := Lib.hid h9T
      have Y := Lib.hid h9Y
      have Z := Lib.hid h9Z
      have G := Lib.hid h9G
      clear h9T h9Y h9Z h9G
      by_cases hlt : k < rs.length
      case neg =>
        have hki : ¬ (k : Int) < (rs.length : Int) := by omega
        go_wp2_with fail
        go_ret
        first | exact LawOk.mk T.out | exact LawOk.mk (Below.dr T.out _)
      have hki : (k : Int) < (rs.length : Int) := by omega
      have y1 : wn.cell? ⟨b2, k, none⟩ = some (.int .i64 (nth rs k)) := by have h9 := Z.out k hlt; rw [Nat.zero_add] at h9; exact h9
      have hs1 := HSM.out k hlt
      have hs2 : ¬ (gs.length : Int) ≤ nth rs k := by omega
      go_wp2_with fail
      clear y1
      go_wp2_with fail
      go_roundw
      case rel => exact ⟨k + 1, by omega, by go_num, T.out, Y.out, Z.out, G.out⟩
      case measure => first | (simp [intOf]; done) | (simp [intOf]; omega) | omega
  go_wp2_with fail
  refine Calls.mono (HKO.out _ (Sl.of Y.out) (Sl.of Z.out)) ?_
  intro e wn hh
  obtain ⟨he, hb⟩ := (by first | exact hh | exact Ro.mk hh | exact St.mk hh | exact LawOk.mk' hh : Mk _ _ e wn)
  subst he
  have Tn : Hid (Below w.heap.size w wn) := below_next T.out hb
  have Yn : Hid _ := Ints.below Y.out hb
  have Zn : Hid _ := Ints.below Z.out hb
  have Gn : Hid _ := Sl.below G.out hb
  clear hb hh
  clear T Y Z G
  have T := Tn
  have Y := Yn
  have Z := Zn
  have G := Gn
  clear Tn Yn Zn Gn
  clear HKO
  obtain ⟨b, hbe⟩ : ∃ b, hbest gs rs = some b := by
    cases e : hbest gs rs with
    | none => have := HF.out; rw [e] at this; cases this
    | some b => exact ⟨b, rfl⟩
  have hbL : b = L := by have := HL.out; rw [hbe, Option.getD_some] at this; exact this
  subst hbL
  have hBt := hbest_some hbe
  have hg : HOk gs rs := hBt.fit.1
  obtain rfl : P = true := by rw [← HP.out]; exact tr_true hg
  have hyes : (gs.length : Int) ≤ totU (nth rs) rs.length := (hbest_iff hg).1 HF.out
  have hrb : ∀ i, i < rs.length → -1000000 ≤ nth rs i ∧ nth rs i ≤ 1000000 := fun i hi => by have := hg.2.1 i hi; omega
  have KU := fun w' (h : Ints w' b2 0 rs) => sumOf_m b2 rs.length c2 rs w' h rfl (by omega) hrb
  have KG := fun w' (h : Sl w' (some ⟨b1, 0, none⟩) gs) (h2 : Sl w' (some ⟨b2, 0, none⟩) rs) => iGoalMany_c _ gs.length c1 gs _ rs.length c2 rs w' h rfl h2 rfl (by omega) (by omega) ⟨k1, by omega⟩ ⟨k3, by omega⟩
  have KD := fun w' (h : Sl w' (some ⟨b1, 0, none⟩) gs) (h2 : Sl w' (some ⟨b2, 0, none⟩) rs) (h4 : Sl w' p9 b) => iHallStops_c _ gs.length c1 gs _ rs.length c2 rs p9 NL u9 b w' h rfl h2 rfl h4 HNL.out (by omega) (by omega) (by omega) ⟨k1, by omega⟩ ⟨k3, by omega⟩ ⟨hc91, hc92⟩
  have KF := fun w' (h : Sl w' (some ⟨b1, 0, none⟩) gs) (h2 : Sl w' (some ⟨b2, 0, none⟩) rs) (h4 : Sl w' p9 b) => iHallFits_c _ gs.length c1 gs _ rs.length c2 rs p9 NL u9 b w' h rfl h2 rfl h4 HNL.out (by omega) (by omega) (by omega) ⟨k1, by omega⟩ ⟨k3, by omega⟩ ⟨hc91, hc92⟩
  rw [gmv_t hg] at KG
  rw [hsv_t hBt.fit] at KD
  rw [show hfB gs rs b = true from tr_true hBt.fit] at KF
  have hone : ∀ c, c < rs.length → (gs.length : Int) ≤ nth rs c → hsU gs b gs.length = gmU gs gs.length := fun c hc hr => hbest_one hbe hc hr
  obtain ⟨U, hU⟩ : ∃ U, totU (nth rs) rs.length = U := ⟨_, rfl⟩
  obtain ⟨D, hD⟩ : ∃ D, hsU gs b gs.length = D := ⟨_, rfl⟩
  obtain ⟨E, hE⟩ : ∃ E, gmU gs gs.length = E := ⟨_, rfl⟩
  rw [hU] at KU hyes
  rw [hD] at KD hone
  rw [hE] at KG hone
  have HKU := Lib.hid KU
  have HKG := Lib.hid KG
  have HKD := Lib.hid KD
  have HKF := Lib.hid KF
  have HONE := Lib.hid hone
  clear KU KG KD KF hU hD hE hg hrb hone hBt hbe HP HF HL
  go_wp2_with fail
  refine Calls.mono (HKU.out _ Z.out) ?_
  intro e wn hh
  obtain ⟨he, hb⟩ := (by first | exact hh | exact Ro.mk hh | exact St.mk hh | exact LawOk.mk' hh : Mk _ _ e wn)
  subst he
  have Tn : Hid (Below w.heap.size w wn) := below_next T.out hb
  have Yn : Hid _ := Ints.below Y.out hb
  have Zn : Hid _ := Ints.below Z.out hb
  have Gn : Hid _ := Sl.below G.out hb
  clear hb hh
  clear T Y Z G
  have T := Tn
  have Y := Yn
  have Z := Zn
  have G := Gn
  clear Tn Yn Zn Gn
  clear HKU
  go_wp2_with fail
  go_loopw [9] (fun v wr => ∃ (k : Nat), k ≤ rs.length ∧ v = .int .i64 k ∧ Below w.heap.size w wr ∧ Ints wr b1 0 gs ∧ Ints wr b2 0 rs ∧ Sl wr p9 b) (fun v _ => rs.length - (intOf v).toNat)
  case atStart => exact ⟨0, by omega, rfl, T.out, Y.out, Z.out, G.out⟩
  case' round =>
    clear T Y Z G
    obtain ⟨k, hk, rfl, h9T, h9Y, h9Z, h9G⟩ := hrel
    obtain ⟨wn, hwq⟩ : ∃ w0 : World, w0 = wr := ⟨_, rfl⟩
    rw [← hwq] at h9T h9Y h9Z h9G ⊢
    clear hwq
    have T := Lib.hid h9T
    have Y := Lib.hid h9Y
    have Z := Lib.hid h9Z
    have G := Lib.hid h9G
    clear h9T h9Y h9Z h9G
    by_cases hlt : k < rs.length
    case neg =>
      have hki : ¬ (k : Int) < (rs.length : Int) := by omega
      go_wp2_with fail
      refine Calls.mono (HKF.out _ (Sl.of Y.out) (Sl.of Z.out) G.out) ?_
      intro e wn hh
      obtain ⟨he, hb⟩ := (by first | exact hh | exact Ro.mk hh | exact St.mk hh | exact LawOk.mk' hh : Mk _ _ e wn)
      subst he
      have Tn : Hid (Below w.heap.size w wn) := below_next T.out hb
      have Yn : Hid _ := Ints.below Y.out hb
      have Zn : Hid _ := Ints.below Z.out hb
      have Gn : Hid _ := Sl.below G.out hb
      clear hb hh
      clear T Y Z G
      have T := Tn
      have Y := Yn
      have Z := Zn
      have G := Gn
      clear Tn Yn Zn Gn
      go_wp2_with fail
      go_ret
      first | exact LawOk.mk T.out | exact LawOk.mk (Below.dr T.out _)
    have hki : (k : Int) < (rs.length : Int) := by omega
    have y1 : wn.cell? ⟨b2, k, none⟩ = some (.int .i64 (nth rs k)) := by have h9 := Z.out k hlt; rw [Nat.zero_add] at h9; exact h9
    by_cases hs2 : (gs.length : Int) ≤ nth rs k
    · have hDE := HONE.out k hlt hs2
      have q1 : (D == E) = true := by rw [hDE]; exact beq_self_eq_true _
      have q2 : (D != E) = false := by rw [bne, q1]; rfl
      clear hDE
      go_wp2_with fail
      clear y1
      go_wp2_with fail
      refine Calls.mono (HKD.out _ (Sl.of Y.out) (Sl.of Z.out) G.out) ?_
      intro e wn hh
      obtain ⟨he, hb⟩ := (by first | exact hh | exact Ro.mk hh | exact St.mk hh | exact LawOk.mk' hh : Mk _ _ e wn)
      subst he
      have Tn : Hid (Below w.heap.size w wn) := below_next T.out hb
      have Yn : Hid _ := Ints.below Y.out hb
      have Zn : Hid _ := Ints.below Z.out hb
      have Gn : Hid _ := Sl.below G.out hb
      clear hb hh
      clear T Y Z G
      have T := Tn
      have Y := Yn
      have Z := Zn
      have G := Gn
      clear Tn Yn Zn Gn
      go_wp2_with fail
      refine Calls.mono (HKG.out _ (Sl.of Y.out) (Sl.of Z.out)) ?_
      intro e wn hh
      obtain ⟨he, hb⟩ := (by first | exact hh | exact Ro.mk hh | exact St.mk hh | exact LawOk.mk' hh : Mk _ _ e wn)
      subst he
      have Tn : Hid (Below w.heap.size w wn) := below_next T.out hb
      have Yn : Hid _ := Ints.below Y.out hb
      have Zn : Hid _ := Ints.below Z.out hb
      have Gn : Hid _ := Sl.below G.out hb
      clear hb hh
      clear T Y Z G
      have T := Tn
      have Y := Yn
      have Z := Zn
      have G := Gn
      clear Tn Yn Zn Gn
      go_wp2_with fail
      go_wp2_with fail
      go_roundw
      case rel => exact ⟨k + 1, by omega, by go_num, T.out, Y.out, Z.out, G.out⟩
      case measure => first | (simp [intOf]; done) | (simp [intOf]; omega) | omega
    · have hs1 : nth rs k < (gs.length : Int) := by omega
      go_wp2_with fail
      clear y1
      go_wp2_with fail
      go_roundw
      case rel => exact ⟨k + 1, by omega, by go_num, T.out, Y.out, Z.out, G.out⟩
      case measure => first | (simp [intOf]; done) | (simp [intOf]; omega) | omega
end Go.Proofs.Yteeokegkbhpbcaa
