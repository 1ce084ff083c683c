/- The laws of chapter 5: the walks of the governor's. -/
import Derived.Test.Ytpfllhiibkdfaaa5L
namespace Go.Proofs.Ytpfllhiibkdfaaa
open Go.RowKit
set_option linter.unusedVariables false

set_option maxHeartbeats 1000000 in
theorem GovernorStep_w (a : Option Addr) (n cap : Nat) (w : World) (hb : Byt w a n) (hn : n ≤ cap) (hcap : cap ≤ maxLen) :
    Calls Try.prog 5 #[.slice a n cap] w (LawOk w) := by
  have hcap' := hcap
  unfold maxLen at hcap'
  by_cases bign : 1048576 < n
  · go_enter Try.func5, Try.ntmps5
    go_wp2_with fail
    go_ret
    exact LawOk.mk (Below.refl _ _)
  go_enter Try.func5, Try.ntmps5
  go_wp2_with fail
  refine (DrawGovernorStep_c a n cap _ hb hn hcap).mono ?_
  rintro e wn ⟨t, s, r, rfl, s0, s1, hB⟩
  have T : Hid _ := hB
  clear hB hb
  go_wp2_with fail
  refine (iGovernorStep_c t s r _).mono ?_
  intro e wn hh
  obtain ⟨he, hb⟩ := (by first | exact hh | exact Ro.mk hh | exact St.mk hh | exact LawOk.mk' hh : Mk _ _ e wn)
  subst he
  have Tn : Hid (Below w.heap.size w wn) := below_next T.out hb
  clear hb hh
  clear T
  have T := Tn
  clear Tn
  go_wp2_with fail
  refine (sGovernorStep_c t s r _).mono ?_
  intro e wn hh
  obtain ⟨he, hb⟩ := (by first | exact hh | exact Ro.mk hh | exact St.mk hh | exact LawOk.mk' hh : Mk _ _ e wn)
  subst he
  have Tn : Hid (Below w.heap.size w wn) := below_next T.out hb
  clear hb hh
  clear T
  have T := Tn
  clear Tn
  by_cases g1 : 7 ≤ s
  · have e : gst t s r = true := by unfold gst; rw [if_pos (.inl g1)]
    rw [e]
    clear e
    cases t
    all_goals
      go_wp2_with fail
      refine (alive_c _).mono ?_
      intro e wn hh
      obtain ⟨he, hb⟩ := (by first | exact hh | exact Ro.mk hh | exact St.mk hh | exact LawOk.mk' hh : Mk _ _ e wn)
      subst he
      have Tn : Hid (Below w.heap.size w wn) := below_next T.out hb
      clear hb hh
      clear T
      have T := Tn
      clear Tn
      go_wp2_with fail
      go_ret
      exact LawOk.mk T.out
  by_cases g2 : s ≤ -7
  · have e : gst t s r = true := by unfold gst; rw [if_pos (.inr g2)]
    rw [e]
    clear e
    cases t
    all_goals
      go_wp2_with fail
      refine (alive_c _).mono ?_
      intro e wn hh
      obtain ⟨he, hb⟩ := (by first | exact hh | exact Ro.mk hh | exact St.mk hh | exact LawOk.mk' hh : Mk _ _ e wn)
      subst he
      have Tn : Hid (Below w.heap.size w wn) := below_next T.out hb
      clear hb hh
      clear T
      have T := Tn
      clear Tn
      go_wp2_with fail
      go_ret
      exact LawOk.mk T.out
  have e : gst t s r = (t && !(r && s == 0)) := by unfold gst; rw [if_neg (by omega)]
  rw [e]
  clear e
  obtain ⟨z, hz⟩ : ∃ z, (s == 0) = z := ⟨_, rfl⟩
  rw [hz]
  cases t <;> cases r <;> cases z
  all_goals
    simp only [Bool.and_true, Bool.and_false, Bool.true_and, Bool.false_and, Bool.not_true, Bool.not_false]
    go_wp2_with fail
    refine (alive_c _).mono ?_
    intro e wn hh
    obtain ⟨he, hb⟩ := (by first | exact hh | exact Ro.mk hh | exact St.mk hh | exact LawOk.mk' hh : Mk _ _ e wn)
    subst he
    have Tn : Hid (Below w.heap.size w wn) := below_next T.out hb
    clear hb hh
    clear T
    have T := Tn
    clear Tn
    go_wp2_with fail
    go_ret
    exact LawOk.mk T.out
theorem gru_nil (b : Bool) (xs ys : List Int) : gru b xs ys 0 = b := rfl
set_option maxHeartbeats 2000000 in
theorem GovernorRun_w (a : Option Addr) (n cap : Nat) (w : World) (hb : Byt w a n) (hn : n ≤ cap) (hcap : cap ≤ maxLen) :
    Calls Try.prog 6 #[.slice a n cap] w (LawOk w) := by
  have hcap' := hcap
  unfold maxLen at hcap'
  by_cases bign : 1048576 < n
  · go_enter Try.func6, Try.ntmps6
    go_wp2_with fail
    go_ret
    exact LawOk.mk (Below.refl _ _)
  go_enter Try.func6, Try.ntmps6
  go_wp2_with fail
  refine (DrawGovernorRun_c a n cap _ hb hn hcap).mono ?_
  rintro e wn ⟨t, p, cp, xs, q, cq, ys, rfl, hx, hy, hxb, hs1, hs2, hB⟩
  have T : Hid _ := hB
  have X : Hid _ := hs1
  have Y : Hid _ := hs2
  have XB : Hid _ := hxb
  clear hB hb hs1 hs2 hxb
  have hm1 : xs.length ≤ maxLen := by unfold maxLen; omega
  have hm2 : ys.length ≤ maxLen := by unfold maxLen; omega
  go_wp2_with fail
  refine (iGovernorRun_c t p cp xs q cq ys _ X.out hm1 Y.out hm2).mono ?_
  intro e wn hh
  obtain ⟨he, hb⟩ := (by first | exact hh | exact Ro.mk hh | exact St.mk hh | exact LawOk.mk' hh : Mk _ _ e wn)
  subst he
  have Tn : Hid (Below w.heap.size w wn) := below_next T.out hb
  have Xn : Hid _ := Sl.below X.out hb
  have Yn : Hid _ := Sl.below Y.out hb
  clear hb hh
  clear T X Y
  have T := Tn
  have X := Xn
  have Y := Yn
  clear Tn Xn Yn
  go_wp2_with fail
  refine (sGovernorRun_c t p cp xs q cq ys _ X.out hm1 Y.out hm2).mono ?_
  intro e wn hh
  obtain ⟨he, hb⟩ := (by first | exact hh | exact Ro.mk hh | exact St.mk hh | exact LawOk.mk' hh : Mk _ _ e wn)
  subst he
  have Tn : Hid (Below w.heap.size w wn) := below_next T.out hb
  have Xn : Hid _ := Sl.below X.out hb
  have Yn : Hid _ := Sl.below Y.out hb
  clear hb hh
  clear T X Y
  have T := Tn
  have X := Xn
  have Y := Yn
  clear Tn Xn Yn
  obtain ⟨z, hz⟩ : ∃ z, gru t xs ys xs.length = z := ⟨_, rfl⟩
  have HZ : Hid _ := hz
  rw [hz]
  clear hz
  go_wp2_with fail
  go_loopw [7, 8] (fun vb vk wr => ∃ k : Nat, vk = .int .i64 k ∧ k ≤ xs.length ∧ vb = .bool (gru t xs ys k) ∧ Sl wr p xs ∧ Sl wr q ys ∧ Below w.heap.size w wr) (fun _ vk _ => xs.length - (intOf vk).toNat)
  case atStart => exact ⟨0, rfl, by omega, rfl, X.out, Y.out, T.out⟩
  case round =>
    clear X Y T
    obtain ⟨k, rfl, hk, rfl, h1, h2, h3⟩ := hrel
    have X : Hid _ := h1
    have Y : Hid _ := h2
    have T : Hid _ := h3
    clear h1 h2 h3
    by_cases hlt : k < xs.length
    · rcases X.out with he | ⟨pb, po, rfl, hI⟩
      · rw [he] at hlt; simp at hlt
      · have c0 : wr.cell? ⟨pb, po + k, none⟩ = some (.int .i64 (nth xs k)) := hI k hlt
        have xb := XB.out k hlt
        have GE : Hid (gru t xs ys (k + 1) = gst (gru t xs ys k) (nth xs k) (hasB ys k)) := (rfl : gru t xs ys (k + 1) = gst (gru t xs ys k) (nth xs k) (hasB ys k))
        obtain ⟨b, hb⟩ : ∃ b, gru t xs ys k = b := ⟨_, rfl⟩
        obtain ⟨x, hx'⟩ : ∃ x, nth xs k = x := ⟨_, rfl⟩
        obtain ⟨y, hy'⟩ : ∃ y, hasB ys (k : Int) = y := ⟨_, rfl⟩
        rw [hb, hx', hy'] at GE
        rw [hx'] at c0 xb
        rw [hb]
        obtain ⟨xb1, xb2⟩ := xb
        have HY' : Hid _ := hy'
        clear hb hx' hI hy'
        have hltI : (k : Int) < (xs.length : Int) := by omega
        cases b
        · by_cases g1 : 7 ≤ x
          · have GG : Hid (true = gru t xs ys (k + 1)) := (by rw [GE.out]; unfold gst; rw [if_pos (.inl g1)] : true = gru t xs ys (k + 1))
            go_wp2_with fail
            go_roundw
            case rel => exact ⟨k + 1, by go_num, by omega, by rw [GG.out], X.out, Y.out, T.out⟩
            case measure => simp [intOf]; omega
          · by_cases g2 : x ≤ -7
            · have GG : Hid (true = gru t xs ys (k + 1)) := (by rw [GE.out]; unfold gst; rw [if_pos (.inr g2)] : true = gru t xs ys (k + 1))
              go_wp2_with fail
              go_roundw
              case rel => exact ⟨k + 1, by go_num, by omega, by rw [GG.out], X.out, Y.out, T.out⟩
              case measure => simp [intOf]; omega
            · have GG : Hid (false = gru t xs ys (k + 1)) := (by rw [GE.out]; unfold gst; rw [if_neg (by omega)]; rfl : false = gru t xs ys (k + 1))
              go_wp2_with fail
              go_roundw
              case rel => exact ⟨k + 1, by go_num, by omega, by rw [GG.out], X.out, Y.out, T.out⟩
              case measure => simp [intOf]; omega
        · by_cases g0 : x = 0
          · have t0 : (x == 0) = true := by simp [g0]
            have n1 : ¬ 7 ≤ x := by omega
            have n2 : ¬ x ≤ -7 := by omega
            have GG : Hid ((!y) = gru t xs ys (k + 1)) := (by rw [GE.out]; unfold gst; rw [if_neg (by omega), t0]; cases y <;> rfl : (!y) = gru t xs ys (k + 1))
            clear g0
            go_wp2_with fail
            refine (hasInt_s q cq ys k _ Y.out hm2).mono ?_
            rintro e' w' ⟨rfl, rfl⟩
            rw [HY'.out]
            cases y
            · go_wp2_with fail
              go_roundw
              case rel => exact ⟨k + 1, by go_num, by omega, by rw [← GG.out]; rfl, X.out, Y.out, T.out⟩
              case measure => simp [intOf]; omega
            · go_wp2_with fail
              go_roundw
              case rel => exact ⟨k + 1, by go_num, by omega, by rw [← GG.out]; rfl, X.out, Y.out, T.out⟩
              case measure => simp [intOf]; omega
          · have t0 : (x == 0) = false := by simp [g0]
            have GG : Hid (true = gru t xs ys (k + 1)) := (by rw [GE.out]; unfold gst; rw [t0]; cases y <;> simp : true = gru t xs ys (k + 1))
            clear g0
            by_cases g1 : 7 ≤ x
            · go_wp2_with fail
              go_roundw
              case rel => exact ⟨k + 1, by go_num, by omega, by rw [GG.out], X.out, Y.out, T.out⟩
              case measure => simp [intOf]; omega
            · by_cases g2 : x ≤ -7
              · go_wp2_with fail
                go_roundw
                case rel => exact ⟨k + 1, by go_num, by omega, by rw [GG.out], X.out, Y.out, T.out⟩
                case measure => simp [intOf]; omega
              · go_wp2_with fail
                go_roundw
                case rel => exact ⟨k + 1, by go_num, by omega, by rw [GG.out], X.out, Y.out, T.out⟩
                case measure => simp [intOf]; omega
    · obtain rfl : k = xs.length := by omega
      rw [HZ.out]
      clear X Y HZ
      have tz : (z == z) = true := by simp
      go_wp2_with fail
      refine (iGovernorRun_c false none 0 [] none 0 [] _ (.inl rfl) (by unfold maxLen; simp) (.inl rfl) (by unfold maxLen; simp)).mono ?_
      intro e wn hh
      obtain ⟨he, hb⟩ := (by first | exact hh | exact Ro.mk hh | exact St.mk hh | exact LawOk.mk' hh : Mk _ _ e wn)
      subst he
      have Tn : Hid (Below w.heap.size w wn) := below_next T.out hb
      clear hb hh
      clear T
      have T := Tn
      clear Tn
      simp only [List.length_nil, gru_nil]
      go_wp2_with fail
      refine (alive_c _).mono ?_
      intro e wn hh
      obtain ⟨he, hb⟩ := (by first | exact hh | exact Ro.mk hh | exact St.mk hh | exact LawOk.mk' hh : Mk _ _ e wn)
      subst he
      have Tn : Hid (Below w.heap.size w wn) := below_next T.out hb
      clear hb hh
      clear T
      have T := Tn
      clear Tn
      go_wp2_with fail
      go_ret
      exact LawOk.mk T.out
end Go.Proofs.Ytpfllhiibkdfaaa
