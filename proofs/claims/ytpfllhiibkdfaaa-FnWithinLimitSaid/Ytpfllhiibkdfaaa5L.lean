/- The laws of chapter 5: the walks. -/
import Derived.Test.Ytpfllhiibkdfaaa5V
import Derived.Test.Ytpfllhiibkdfaaa5X
import Derived.Test.Ytpfllhiibkdfaaa2D
import Derived.Test.YtpfllhiibkdfaaaL
namespace Go.Proofs.Ytpfllhiibkdfaaa
open Go.RowKit
set_option linter.unusedVariables false

theorem hasInt_s (a : Option Addr) (cap : Nat) (xs : List Int) (v : Int) (w : World) (hs : Sl w a xs) (hm : xs.length ≤ maxLen) :
    Calls Try.prog 26 #[.slice a xs.length cap, .int .i64 v] w (St w (.bool (hasB xs v))) := by
  unfold maxLen at hm
  rcases hs with rfl | ⟨b, off, rfl, hI⟩
  · have e : Hid _ := hasB_nil v
    clear hm
    go_enter Try.func26, Try.ntmps26
    go_wp2_with fail
    go_loop [5] (fun vk => vk = .int .i64 0) (fun _ => 0)
    case atStart => rfl
    case round =>
      obtain rfl := hrel
      go_wp2_with fail
      go_ret
      exact St.b e.out
  · have HI : Hid _ := hI
    clear hI
    go_enter Try.func26, Try.ntmps26
    go_wp2_with fail
    go_loop [5] (fun vk => ∃ k : Nat, k ≤ xs.length ∧ vk = .int .i64 k ∧ ∀ j, j < k → nth xs j ≠ v) (fun vk => xs.length - (intOf vk).toNat)
    case atStart => exact ⟨0, by omega, rfl, by omega⟩
    case round =>
      obtain ⟨k, hk, rfl, hu⟩ := hrel
      have U : Hid _ := hu
      clear hu
      by_cases hlt : k < xs.length
      · have c0 : w.cell? ⟨b, off + k, none⟩ = some (.int .i64 (nth xs k)) := HI.out k hlt
        by_cases e : nth xs k = v
        · have t : (nth xs k == v) = true := by simp [e]
          have E : Hid _ := e
          clear e
          go_wp2_with fail
          go_ret
          exact St.b (hasB_t k hlt E.out)
        · have t : (nth xs k == v) = false := by simp [e]
          have E : Hid _ := e
          clear e
          go_wp2_with fail
          go_round
          case rel => exact ⟨k + 1, by omega, by go_num, fun j hj => by
            by_cases e : j = k
            · subst e; exact E.out
            · exact U.out j (by omega)⟩
          case measure => simp [intOf]; omega
      · obtain rfl : k = xs.length := by omega
        go_wp2_with fail
        go_ret
        exact St.b (hasB_f U.out)
theorem cs_limit_up {a : Int} (h : 0 ≤ a ∧ a ≤ 60) : csB a (slw (60 - a)) 60 = true ∧ (slw (60 - a) = 5 ∨ csB a (slw (60 - a) + 1) 60 = false) := by
  obtain ⟨f1, f2, f3⟩ := slw_fit (d := 60 - a) (by omega)
  obtain ⟨b1, b2⟩ := slw_bd (60 - a)
  refine ⟨csB_t ⟨by omega, by omega, fun _ => by omega, fun x => by omega⟩, ?_⟩
  rcases f2 with f2 | f2
  · exact .inl f2
  · exact .inr (csB_f fun x => by have := x.2.2.1 (by omega); omega)
theorem cs_limit_down {a : Int} (h : 0 ≤ a ∧ a ≤ 60) : csB a (-slw a) 0 = true ∧ (slw a = 5 ∨ csB a (-(slw a + 1)) 0 = false) := by
  obtain ⟨f1, f2, f3⟩ := slw_fit (d := a) (by omega)
  obtain ⟨b1, b2⟩ := slw_bd a
  have e1 := bw_neg (slw a)
  have e2 := bw_neg (slw a + 1)
  refine ⟨csB_t ⟨by omega, by omega, fun x => by omega, fun _ => by omega⟩, ?_⟩
  rcases f2 with f2 | f2
  · exact .inl f2
  · exact .inr (csB_f fun x => by have := x.2.2.2 (by omega); omega)
set_option maxHeartbeats 1000000 in
theorem SpeedLimit_w (a : Option Addr) (n cap : Nat) (w : World) (hb : Byt w a n) (hn : n ≤ cap) (hcap : cap ≤ maxLen) :
    Calls Try.prog 3 #[.slice a n cap] w (LawOk w) := by
  have hcap' := hcap
  unfold maxLen at hcap'
  by_cases bign : 1048576 < n
  · go_enter Try.func3, Try.ntmps3
    go_wp2_with fail
    go_ret
    exact LawOk.mk (Below.refl _ _)
  go_enter Try.func3, Try.ntmps3
  go_wp2_with fail
  refine (DrawSpeedLimit_c a n cap _ hb hn hcap).mono ?_
  rintro e wn ⟨s, u, rfl, s0, s1, hB⟩
  have T : Hid _ := hB
  clear hB hb
  have bd := sl_bd s u
  go_wp2_with fail
  refine (iSpeedLimit_c s u _).mono ?_
  intro e wn hh
  obtain ⟨he, hb⟩ := (by first | exact hh | exact Ro.mk hh | exact St.mk hh | exact LawOk.mk' hh : Mk _ _ e wn)
  subst he
  have Tn : Hid (Below w.heap.size w wn) := below_next T.out hb
  clear hb hh
  clear T
  have T := Tn
  clear Tn
  go_wp2_with fail
  refine (sSpeedLimit_c s u _).mono ?_
  intro e wn hh
  obtain ⟨he, hb⟩ := (by first | exact hh | exact Ro.mk hh | exact St.mk hh | exact LawOk.mk' hh : Mk _ _ e wn)
  subst he
  have Tn : Hid (Below w.heap.size w wn) := below_next T.out hb
  clear hb hh
  clear T
  have T := Tn
  clear Tn
  cases hv : inB 0 s 60
  · have e1 : sl s u = -1 := sl_bad hv
    rw [e1] at bd ⊢
    clear e1 hv
    go_wp2_with fail
    refine (alive_c _).mono ?_
    intro e wn hh
    obtain ⟨he, hb⟩ := (by first | exact hh | exact Ro.mk hh | exact St.mk hh | exact LawOk.mk' hh : Mk _ _ e wn)
    subst he
    have Tn : Hid (Below w.heap.size w wn) := below_next T.out hb
    clear hb hh
    clear T
    have T := Tn
    clear Tn
    go_wp2_with fail
    go_ret
    exact LawOk.mk T.out
  have V := inB_iff.1 hv
  have e1 := sl_ok (u := u) hv
  clear hv
  cases u
  · have e2 : way s false = s := rfl
    rw [e2] at e1
    have L := cs_limit_down V
    have b2 := slw_bd s
    rw [e1] at bd ⊢
    clear e1 e2
    obtain ⟨k, hk⟩ : ∃ k, slw s = k := ⟨_, rfl⟩
    rw [hk] at L b2 bd ⊢
    obtain ⟨L1, L2⟩ := L
    obtain ⟨b3, b4⟩ := b2
    obtain ⟨V1, V2⟩ := V
    clear hk bd
    have e4 : -1 * k = -k := by omega
    have e5 : -1 * (k + 1) = -(k + 1) := by omega
    have E4 : Hid _ := e4
    have E5 : Hid _ := e5
    clear e4 e5
    have nk : ¬ k < 0 := by omega
    have LL : Hid _ := L2
    have L1' : Hid _ := L1
    clear L1 L2
    go_wp2_with fail
    refine (iCanStop_c _ _ _ _).mono ?_
    intro e wn hh
    obtain ⟨he, hb⟩ := (by first | exact hh | exact Ro.mk hh | exact St.mk hh | exact LawOk.mk' hh : Mk _ _ e wn)
    subst he
    have Tn : Hid (Below w.heap.size w wn) := below_next T.out hb
    clear hb hh
    clear T
    have T := Tn
    clear Tn
    rw [L1'.out]
    by_cases k5 : k = 5
    · have t : (k == 5) = true := by simp [k5]
      clear k5
      go_wp2_with fail
      go_ret
      exact LawOk.mk T.out
    · have t : (k == 5) = false := by simp [k5]
      have L3 : Hid (csB s (-(k + 1)) 0 = false) := LL.out.resolve_left k5
      clear k5
      go_wp2_with fail
      refine (iCanStop_c _ _ _ _).mono ?_
      intro e wn hh
      obtain ⟨he, hb⟩ := (by first | exact hh | exact Ro.mk hh | exact St.mk hh | exact LawOk.mk' hh : Mk _ _ e wn)
      subst he
      have Tn : Hid (Below w.heap.size w wn) := below_next T.out hb
      clear hb hh
      clear T
      have T := Tn
      clear Tn
      first | rw [L3.out] | rw [show (-k - 1 : Int) = -(k + 1) by omega, L3.out] | rw [show (-k + -1 : Int) = -(k + 1) by omega, L3.out] | rw [show (-1 - k : Int) = -(k + 1) by omega, L3.out]
      go_wp2_with fail
      go_ret
      exact LawOk.mk T.out
  · have e2 : way s true = 60 - s := rfl
    rw [e2] at e1
    have L := cs_limit_up V
    have b2 := slw_bd (60 - s)
    rw [e1] at bd ⊢
    clear e1 e2
    obtain ⟨k, hk⟩ : ∃ k, slw (60 - s) = k := ⟨_, rfl⟩
    rw [hk] at L b2 bd ⊢
    obtain ⟨L1, L2⟩ := L
    obtain ⟨b3, b4⟩ := b2
    obtain ⟨V1, V2⟩ := V
    clear hk bd
    have nk : ¬ k < 0 := by omega
    have LL : Hid _ := L2
    have L1' : Hid _ := L1
    clear L1 L2
    go_wp2_with fail
    refine (iCanStop_c _ _ _ _).mono ?_
    intro e wn hh
    obtain ⟨he, hb⟩ := (by first | exact hh | exact Ro.mk hh | exact St.mk hh | exact LawOk.mk' hh : Mk _ _ e wn)
    subst he
    have Tn : Hid (Below w.heap.size w wn) := below_next T.out hb
    clear hb hh
    clear T
    have T := Tn
    clear Tn
    rw [L1'.out]
    by_cases k5 : k = 5
    · have t : (k == 5) = true := by simp [k5]
      clear k5
      go_wp2_with fail
      go_ret
      exact LawOk.mk T.out
    · have t : (k == 5) = false := by simp [k5]
      have L3 : Hid (csB s (k + 1) 60 = false) := LL.out.resolve_left k5
      clear k5
      go_wp2_with fail
      refine (iCanStop_c _ _ _ _).mono ?_
      intro e wn hh
      obtain ⟨he, hb⟩ := (by first | exact hh | exact Ro.mk hh | exact St.mk hh | exact LawOk.mk' hh : Mk _ _ e wn)
      subst he
      have Tn : Hid (Below w.heap.size w wn) := below_next T.out hb
      clear hb hh
      clear T
      have T := Tn
      clear Tn
      rw [L3.out]
      go_wp2_with fail
      go_ret
      exact LawOk.mk T.out
set_option maxHeartbeats 1000000 in
theorem WithinLimit_w (a : Option Addr) (n cap : Nat) (w : World) (hb : Byt w a n) (hn : n ≤ cap) (hcap : cap ≤ maxLen) :
    Calls Try.prog 4 #[.slice a n cap] w (LawOk w) := by
  have hcap' := hcap
  unfold maxLen at hcap'
  by_cases bign : 1048576 < n
  · go_enter Try.func4, Try.ntmps4
    go_wp2_with fail
    go_ret
    exact LawOk.mk (Below.refl _ _)
  go_enter Try.func4, Try.ntmps4
  go_wp2_with fail
  refine (DrawWithinLimit_c a n cap _ hb hn hcap).mono ?_
  rintro e wn ⟨x, s, rfl, x0, x1, s0, s1, hB⟩
  have T : Hid _ := hB
  clear hB hb
  have hWG := T.out.size
  obtain ⟨G, hG⟩ : ∃ G, Array.size (World.heap wn) = G := ⟨_, rfl⟩
  have HG : Hid _ := hG
  rw [hG] at hWG
  have M : Hid (Box (wn.alloc (.cells #[.int .i64 x, .int .i64 s] 29)) G x s) := by rw [← hG]; exact Box.new wn x s 29
  clear hG
  have Tn : Hid (Below w.heap.size w _) := Below.al T.out (.cells #[.int .i64 x, .int .i64 s] 29)
  clear T
  have T := Tn
  clear Tn
  go_wp2_with fail
  rw [HG.out]
  refine (iWithinLimit_c x s _).mono ?_
  intro e wn hh
  obtain ⟨he, hb⟩ := (by first | exact hh | exact Ro.mk hh | exact St.mk hh | exact LawOk.mk' hh : Mk _ _ e wn)
  subst he
  have Tn : Hid (Below w.heap.size w wn) := below_next T.out hb
  have Mn : Hid _ := Box.below M.out hb
  clear hb hh
  clear T M
  have T := Tn
  have M := Mn
  clear Tn Mn
  obtain ⟨⟨c0, c1⟩, cf0, cf1⟩ := M.out
  go_wp2_with fail
  refine (sWithinLimit_c x s _).mono ?_
  intro e wn hh
  obtain ⟨he, hb⟩ := (by first | exact hh | exact Ro.mk hh | exact St.mk hh | exact LawOk.mk' hh : Mk _ _ e wn)
  subst he
  have Tn : Hid (Below w.heap.size w wn) := below_next T.out hb
  have Mn : Hid _ := Box.below M.out hb
  clear hb hh c0 c1 cf0 cf1
  clear T M
  have T := Tn
  have M := Mn
  clear Tn Mn
  go_wp2_with fail
  obtain ⟨ok, hok⟩ : ∃ ok, wl x s = ok := ⟨_, rfl⟩
  have HOK : Hid _ := hok
  rw [hok]
  clear hok
  go_wp2_with fail
  go_loopw [5] (fun vk wr => ∃ k : Nat, vk = .int .i64 k ∧ k ≤ 61 ∧ Box wr G x s ∧ Below w.heap.size w wr) (fun vk _ => 61 - (intOf vk).toNat)
  case atStart => exact ⟨0, rfl, by omega, M.out, T.out⟩
  case round =>
    clear M T
    obtain ⟨k, rfl, hk, hm, ht⟩ := hrel
    have M : Hid _ := hm
    have T : Hid _ := ht
    clear hm ht
    by_cases hlt : k ≤ 60
    · have hlI : (k : Int) ≤ 60 := by omega
      obtain ⟨⟨c0, c1⟩, cf0, cf1⟩ := M.out
      go_wp2_with fail
      refine (iCanStop_c x s k _).mono ?_
      intro e wn hh
      obtain ⟨he, hb⟩ := (by first | exact hh | exact Ro.mk hh | exact St.mk hh | exact LawOk.mk' hh : Mk _ _ e wn)
      subst he
      have Tn : Hid (Below w.heap.size w wn) := below_next T.out hb
      have Mn : Hid _ := Box.below M.out hb
      clear hb hh c0 c1 cf0 cf1
      clear T M
      have T := Tn
      have M := Mn
      clear Tn Mn
      cases hc : csB x s k
      · clear hc
        go_wp2_with fail
        go_roundw
        case rel => exact ⟨k + 1, by go_num, by omega, M.out, T.out⟩
        case measure => simp [intOf]; omega
      · have C := csB_iff.1 hc
        have o1 : ok = true := by
          rw [← HOK.out, wl_cs C.1]; exact cs_end C
        clear hc C
        subst o1
        go_wp2_with fail
        go_roundw
        case rel => exact ⟨k + 1, by go_num, by omega, M.out, T.out⟩
        case measure => simp [intOf]; omega
    · obtain rfl : k = 61 := by omega
      cases ok
      · clear HOK
        go_wp2_with fail
        refine (alive_c _).mono ?_
        intro e wn hh
        obtain ⟨he, hb⟩ := (by first | exact hh | exact Ro.mk hh | exact St.mk hh | exact LawOk.mk' hh : Mk _ _ e wn)
        subst he
        have Tn : Hid (Below w.heap.size w wn) := below_next T.out hb
        have Mn : Hid _ := Box.below M.out hb
        clear hb hh
        clear T M
        have T := Tn
        have M := Mn
        clear Tn Mn
        go_wp2_with fail
        go_ret
        exact LawOk.mk T.out
      · have N := wl_next HOK.out
        have W1 := wl_iff.1 HOK.out
        obtain ⟨⟨v1, v2, v3, v4⟩, _⟩ := W1
        have HN : Hid _ := N
        clear N HOK
        obtain ⟨⟨c0, c1⟩, cf0, cf1⟩ := M.out
        by_cases hs : 0 < s
        · rw [if_pos hs] at HN
          go_wp2_with fail
          refine (iMotionStep_c x s 60 _).mono ?_
          intro e wn hh
          obtain ⟨he, hb⟩ := (by first | exact hh | exact Ro.mk hh | exact St.mk hh | exact LawOk.mk' hh : Mk _ _ e wn)
          subst he
          have Tn : Hid (Below w.heap.size w wn) := below_next T.out hb
          have Mn : Hid _ := Box.below M.out hb
          clear hb hh c0 c1 cf0 cf1
          clear T M
          have T := Tn
          have M := Mn
          clear Tn Mn
          go_wp2_with fail
          refine (iWithinLimit_c _ _ _).mono ?_
          intro e wn hh
          obtain ⟨he, hb⟩ := (by first | exact hh | exact Ro.mk hh | exact St.mk hh | exact LawOk.mk' hh : Mk _ _ e wn)
          subst he
          have Tn : Hid (Below w.heap.size w wn) := below_next T.out hb
          have Mn : Hid _ := Box.below M.out hb
          clear hb hh
          clear T M
          have T := Tn
          have M := Mn
          clear Tn Mn
          rw [HN.out]
          go_wp2_with fail
          go_ret
          exact LawOk.mk T.out
        · rw [if_neg hs] at HN
          go_wp2_with fail
          refine (iMotionStep_c x s 0 _).mono ?_
          intro e wn hh
          obtain ⟨he, hb⟩ := (by first | exact hh | exact Ro.mk hh | exact St.mk hh | exact LawOk.mk' hh : Mk _ _ e wn)
          subst he
          have Tn : Hid (Below w.heap.size w wn) := below_next T.out hb
          have Mn : Hid _ := Box.below M.out hb
          clear hb hh
          clear T M
          have T := Tn
          have M := Mn
          clear Tn Mn
          go_wp2_with fail
          refine (iWithinLimit_c _ _ _).mono ?_
          intro e wn hh
          obtain ⟨he, hb⟩ := (by first | exact hh | exact Ro.mk hh | exact St.mk hh | exact LawOk.mk' hh : Mk _ _ e wn)
          subst he
          have Tn : Hid (Below w.heap.size w wn) := below_next T.out hb
          have Mn : Hid _ := Box.below M.out hb
          clear hb hh
          clear T M
          have T := Tn
          have M := Mn
          clear Tn Mn
          rw [HN.out]
          go_wp2_with fail
          go_ret
          exact LawOk.mk T.out
end Go.Proofs.Ytpfllhiibkdfaaa
