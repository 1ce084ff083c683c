/- The contracts of chapter 5's functions of spec. -/
import Derived.Test.Ytpfllhiibkdfaaa5P
import Derived.Test.Ytpfllhiibkdfaaa3B
import Derived.Deep.RegionWith
namespace Go.Proofs.Ytpfllhiibkdfaaa
open Go.RowKit
set_option linter.unusedVariables false

theorem l1Far_z (a b : Int) (w : World) (h1 : -1000000 ≤ a) (h2 : a ≤ 1000000) (h3 : -1000000 ≤ b) (h4 : b ≤ 1000000) : Calls Try.prog 41 #[.int .i64 a, .int .i64 b] w (Ro w (.int .i64 (far a b))) := by
  go_enter Try.func41, Try.ntmps41
  go_wp2
  all_goals (go_ret; exact Ro.i (by unfold far; omega) (by first | exact ⟨0, rfl⟩ | (simp only [World.drewN_drewN]; exact ⟨_, rfl⟩) | exact ⟨_, rfl⟩))
set_option maxHeartbeats 1000000 in
theorem sSpeedLimit_c (a : Int) (u : Bool) (w : World) : Calls Try.prog 13 #[.int .i64 a, .bool u] w (Ro w (.int .i64 (sl a u))) := by
  by_cases h : 0 ≤ a ∧ a ≤ 60
  case neg =>
    have t1 := inB_f h
    have e : Hid _ := sl_bad (u := u) t1
    clear h
    go_enter Try.func13, Try.ntmps13
    go_wp2_with fail
    refine (l1In_c _ _ _ _).mono ?_; rintro e w' ⟨rfl, n1, rfl⟩
    go_wp2_with fail
    go_ret
    exact Ro.i e.out (by first | exact ⟨0, rfl⟩ | (simp only [World.drewN_drewN]; exact ⟨_, rfl⟩) | exact ⟨_, rfl⟩)
  have t1 := inB_t h
  have e : Hid _ := sl_ok (u := u) t1
  obtain ⟨d, hd⟩ : ∃ d, way a u = d := ⟨_, rfl⟩
  have wb := way_bd (u := u) h
  rw [hd] at wb
  obtain ⟨w0, w1⟩ := wb
  have fit := slw_fit w0
  have FIT : Hid _ := fit
  have HD : Hid _ := hd
  have bd : Hid _ := slw_bd d
  obtain ⟨h0, h6⟩ := h
  clear fit hd
  cases u
  all_goals
    first
    | (have ad : 60 - a = d := by rw [← HD.out]; rfl)
    | (have ad : a = d := by rw [← HD.out]; rfl
       rw [ad] at t1)
    go_enter Try.func13, Try.ntmps13
    go_wp2_with fail
    refine (l1In_c _ _ _ _).mono ?_; rintro e w' ⟨rfl, n1, rfl⟩
    go_wp2_with fail
    go_loopw [6] (fun v wr => ∃ (k : Int) (n : Nat), v = .int .i64 k ∧ 0 ≤ k ∧ k ≤ 5 ∧ bw k ≤ d ∧ wr = w.drewN n) (fun v _ => (5 - intOf v).toNat)
    case atStart => exact ⟨0, _, rfl, by omega, by omega, by have : bw 0 = 0 := by decide
                                                             omega, rfl⟩
    case round =>
      obtain ⟨k, n, rfl, k0, k5, kb, rfl⟩ := hrel
      have e5 : slw d ≤ 5 := bd.out.2
      have F3 := FIT.out.2.2
      by_cases hk : k < 5
      · have b1 := (bw_bd (k + 1)).1
        have b2 := (bw_bd (k + 1)).2
        by_cases hb : bw (k + 1) ≤ d
        · clear F3 e5
          go_wp2_with fail
          refine (sBrakeWay_c (k + 1) _).mono ?_; rintro e w' ⟨rfl, n1, rfl⟩
          go_wp2_with fail
          go_roundw
          case rel => exact ⟨k + 1, _, by go_num, by omega, by omega, hb, by first | rfl | (simp only [World.drewN_drewN])⟩
          case measure => simp [intOf]; omega
        · have ek : k = slw d := by
            have x1 := (F3 k k0 k5).1 kb
            have x2 : ¬ k + 1 ≤ slw d := fun x => hb ((F3 (k + 1) (by omega) (by omega)).2 x)
            omega
          have EK : Hid _ := ek
          clear F3 e5 ek
          go_wp2_with fail
          refine (sBrakeWay_c (k + 1) _).mono ?_; rintro e' w' ⟨rfl, n1, rfl⟩
          go_wp2_with fail
          go_ret
          exact Ro.i (by first | (rw [e.out, HD.out]; exact EK.out.symm) | (rw [← ad, e.out, HD.out]; exact EK.out.symm)) (by first | exact ⟨0, rfl⟩ | (simp only [World.drewN_drewN]; exact ⟨_, rfl⟩) | exact ⟨_, rfl⟩)
      · obtain rfl : k = 5 := by omega
        have ek : 5 = slw d := by have x1 := (F3 5 (by omega) (by omega)).1 kb; omega
        have EK : Hid _ := ek
        clear F3 e5 ek
        go_wp2_with fail
        go_ret
        exact Ro.i (by first | (rw [e.out, HD.out]; exact EK.out.symm) | (rw [← ad, e.out, HD.out]; exact EK.out.symm)) (by first | exact ⟨0, rfl⟩ | (simp only [World.drewN_drewN]; exact ⟨_, rfl⟩) | exact ⟨_, rfl⟩)
theorem sGovernorStep_s (b : Bool) (s : Int) (r : Bool) (w : World) : Calls Try.prog 22 #[.bool b, .int .i64 s, .bool r] w (St w (.bool (gst b s r))) := by
  by_cases h1 : 7 ≤ s
  · have e : Hid (gst b s r = true) := (by unfold gst; rw [if_pos (.inl h1)] : gst b s r = true)
    go_enter Try.func22, Try.ntmps22
    go_wp2_with fail
    go_ret
    exact St.b e.out
  by_cases h2 : s ≤ -7
  · have e : Hid (gst b s r = true) := (by unfold gst; rw [if_pos (.inr h2)] : gst b s r = true)
    go_enter Try.func22, Try.ntmps22
    go_wp2_with fail
    go_ret
    exact St.b e.out
  have e : Hid (gst b s r = (b && !(r && s == 0))) := (by unfold gst; rw [if_neg (by omega)] : gst b s r = (b && !(r && s == 0)))
  cases b
  · go_enter Try.func22, Try.ntmps22
    go_wp2_with fail
    go_ret
    exact St.b (by rw [e.out]; rfl)
  · cases r
    · go_enter Try.func22, Try.ntmps22
      go_wp2_with fail
      go_ret
      exact St.b (by rw [e.out]; rfl)
    · have t : (s == 0) = true ∨ (s == 0) = false := by cases (s == 0) <;> simp
      rcases t with t | t
      all_goals
        go_enter Try.func22, Try.ntmps22
        go_wp2_with fail
        go_ret
        exact St.b (by rw [e.out, t]; rfl)
theorem sGovernorStep_c (b : Bool) (s : Int) (r : Bool) (w : World) : Calls Try.prog 22 #[.bool b, .int .i64 s, .bool r] w (Ro w (.bool (gst b s r))) := St.ro (sGovernorStep_s b s r w)
set_option maxHeartbeats 1000000 in
theorem sWithinLimit_c (a s : Int) (w : World) : Calls Try.prog 18 #[(Value.agg #[.int .i64 (a), .int .i64 (s)])] w (Mk w (.bool (wl a s))) := by
  have Q : Hid (Box (w.alloc (.cells #[.int .i64 a, .int .i64 s] 29)) w.heap.size a s) := Box.new w a s 29
  have T0 : Hid (Below w.heap.size w (w.alloc (.cells #[.int .i64 a, .int .i64 s] 29))) := (by repeat (first | exact Below.refl _ _ | refine Below.al ?_ _ | refine Below.dr ?_ _ | refine Below.dw ?_ | refine Below.st ?_ (by first | exact Nat.le_refl _ | exact Nat.le_add_right _ _ | (simp; omega)) _ | (refine below_next ?_ (by assumption))))
  obtain ⟨⟨c0, c1⟩, f0, f1⟩ := Q.out
  cases hv : mvB a s
  · have e : Hid _ := wl_bad hv
    have KM : ∀ w, Calls Try.prog 40 #[(Value.agg #[.int .i64 (a), .int .i64 (s)])] w (Mk w (.bool false)) := fun w => by rw [← hv]; exact sMotionValid_c a s w
    have HK : Hid _ := KM
    clear KM
    go_enter Try.func18, Try.ntmps18
    go_wp2_with fail
    generalize hw0 : w.alloc (.cells #[.int .i64 a, .int .i64 s] 29) = w0 at *
    clear hw0
    refine wp_region_quiet (C := fun w' => Below (World.heap (w0)).size (w0) w') (by kernel_rfl) (by kernel_rfl) (by first | exact ⟨rfl, rfl, rfl, Nat.le_refl _, fun _ _ => rfl⟩ | exact Below.dw (by repeat (first | exact Below.refl _ _ | refine Below.al ?_ _ | refine Below.dr ?_ _ | refine Below.dw ?_ | refine Below.st ?_ (by first | exact Nat.le_refl _ | exact Nat.le_add_right _ _ | (simp; omega)) _ | (refine below_next ?_ (by assumption))))) ?_
    simp only []
    repeat (go_big_quiet_step (first | (intro _; with_reducible exact rfl) | (intro hC; go_at_call 40; obtain ⟨⟨c0, c1⟩, f0, f1⟩ := Box.below Q.out hC; refine Calls.mono (HK.out _) ?_; (first | (rintro e wx ⟨rfl, hb⟩; exact ⟨rfl, below_next hC hb⟩) | (rintro e wx ⟨rfl, n, rfl⟩; exact ⟨rfl, Below.dr hC n⟩) | (rintro e wx ⟨rfl, rfl⟩; exact ⟨rfl, hC⟩))) | (intro hC; obtain ⟨⟨c0, c1⟩, f0, f1⟩ := Box.below Q.out hC; go_simp; rfl)))
    refine wpQuiet_nil ?_
    intro wq hq
    have TQ : Hid (Below w.heap.size w wq) := below_next T0.out hq
    clear hq
    go_wp2_with fail
    go_ret
    exact Mk.b e.out TQ.out
  · have V := mvB_iff.1 hv
    obtain ⟨v1, v2, v3, v4⟩ := V
    have KM : ∀ w, Calls Try.prog 40 #[(Value.agg #[.int .i64 (a), .int .i64 (s)])] w (Mk w (.bool true)) := fun w => by rw [← hv]; exact sMotionValid_c a s w
    have HK : Hid _ := KM
    clear KM
    have e : Hid (wl a s = decide (far s 0 ≤ sl a (decide (0 < s)))) := (by
      by_cases k : far s 0 ≤ sl a (decide (0 < s))
      · rw [wl_t hv k]; exact (decide_eq_true k).symm
      · rw [wl_f k]; exact (decide_eq_false k).symm : wl a s = decide (far s 0 ≤ sl a (decide (0 < s))))
    go_enter Try.func18, Try.ntmps18
    go_wp2_with fail
    generalize hw0 : w.alloc (.cells #[.int .i64 a, .int .i64 s] 29) = w0 at *
    clear hw0
    refine wp_region_quiet (C := fun w' => Below (World.heap (w0)).size (w0) w') (by kernel_rfl) (by kernel_rfl) (by first | exact ⟨rfl, rfl, rfl, Nat.le_refl _, fun _ _ => rfl⟩ | exact Below.dw (by repeat (first | exact Below.refl _ _ | refine Below.al ?_ _ | refine Below.dr ?_ _ | refine Below.dw ?_ | refine Below.st ?_ (by first | exact Nat.le_refl _ | exact Nat.le_add_right _ _ | (simp; omega)) _ | (refine below_next ?_ (by assumption))))) ?_
    simp only []
    repeat (go_big_quiet_step (first | (intro _; with_reducible exact rfl) | (intro hC; go_at_call 40; obtain ⟨⟨c0, c1⟩, f0, f1⟩ := Box.below Q.out hC; refine Calls.mono (HK.out _) ?_; (first | (rintro e wx ⟨rfl, hb⟩; exact ⟨rfl, below_next hC hb⟩) | (rintro e wx ⟨rfl, n, rfl⟩; exact ⟨rfl, Below.dr hC n⟩) | (rintro e wx ⟨rfl, rfl⟩; exact ⟨rfl, hC⟩))) | (intro hC; go_at_call 41; obtain ⟨⟨c0, c1⟩, f0, f1⟩ := Box.below Q.out hC; refine Calls.mono (l1Far_z s 0 _ (by omega) (by omega) (by omega) (by omega)) ?_; (first | (rintro e wx ⟨rfl, hb⟩; exact ⟨rfl, below_next hC hb⟩) | (rintro e wx ⟨rfl, n, rfl⟩; exact ⟨rfl, Below.dr hC n⟩) | (rintro e wx ⟨rfl, rfl⟩; exact ⟨rfl, hC⟩))) | (intro hC; go_at_call 13; obtain ⟨⟨c0, c1⟩, f0, f1⟩ := Box.below Q.out hC; refine Calls.mono (sSpeedLimit_c a (decide (0 < s)) _) ?_; (first | (rintro e wx ⟨rfl, hb⟩; exact ⟨rfl, below_next hC hb⟩) | (rintro e wx ⟨rfl, n, rfl⟩; exact ⟨rfl, Below.dr hC n⟩) | (rintro e wx ⟨rfl, rfl⟩; exact ⟨rfl, hC⟩))) | (intro hC; obtain ⟨⟨c0, c1⟩, f0, f1⟩ := Box.below Q.out hC; go_simp; rfl)))
    refine wpQuiet_nil ?_
    intro wq hq
    have TQ : Hid (Below w.heap.size w wq) := below_next T0.out hq
    clear hq
    go_wp2_with fail
    go_ret
    exact Mk.b (by rw [e.out]) TQ.out
set_option maxHeartbeats 1000000 in
theorem sGovernorRun_c (b : Bool) (p : Option Addr) (cp : Nat) (xs : List Int) (q : Option Addr) (cq : Nat) (ys : List Int) (w : World) (hx : Sl w p xs) (hmx : xs.length ≤ maxLen) (hy : Sl w q ys) (hmy : ys.length ≤ maxLen) :
    Calls Try.prog 25 #[.bool b, .slice p xs.length cp, .slice q ys.length cq] w (Ro w (.bool (gru b xs ys xs.length))) := by
  have hm' := hmx
  unfold maxLen at hm'
  have HX : Hid _ := hx
  have HY : Hid _ := hy
  clear hx hy
  go_enter Try.func25, Try.ntmps25
  go_wp2_with fail
  obtain ⟨wo, hwo⟩ : ∃ wo : World, wo = w := ⟨_, rfl⟩
  go_loopw [0, 7] (fun vb vk wr => ∃ k n : Nat, vk = .int .i64 k ∧ k ≤ xs.length ∧ vb = .bool (gru b xs ys k) ∧ wr = wo.drewN n) (fun _ vk _ => xs.length - (intOf vk).toNat)
  case atStart => exact ⟨0, 0, rfl, by omega, rfl, by rw [hwo]; rfl⟩
  case round =>
    obtain ⟨k, n, rfl, hk, rfl, hw⟩ := hrel
    subst hwo
    have HXr : Hid (Sl wr p xs) := (by rw [hw]; exact HX.out : Sl wr p xs)
    have HYr : Hid (Sl wr q ys) := (by rw [hw]; exact HY.out : Sl wr q ys)
    have HW : Hid _ := hw
    clear hw
    by_cases hlt : k < xs.length
    · rcases HXr.out with he | ⟨pb, po, rfl, hI⟩
      · rw [he] at hlt; simp at hlt
      · have c0 : wr.cell? ⟨pb, po + k, none⟩ = some (.int .i64 (nth xs k)) := hI k hlt
        have hltI : (k : Int) < (xs.length : Int) := by omega
        have HG : Hid (gst (gru b xs ys k) (nth xs k) (hasB ys k) = gru b xs ys (k + 1)) := (rfl : gst (gru b xs ys k) (nth xs k) (hasB ys k) = gru b xs ys (k + 1))
        clear hI
        go_wp2_with fail
        go_quiet ((first | (go_at_call 49; (first | exact Calls.quiet_of (l1Has_c q cq ys k _ (by exact HYr.out) hmy) | exact quiet_sum (l1Has_c q cq ys k _ (by exact HYr.out) hmy))) | (go_at_call 22; (first | exact Calls.quiet_of (sGovernorStep_c _ _ _ _) | exact quiet_sum (sGovernorStep_c _ _ _ _)))))
        go_wp2_with fail
        go_roundw
        case rel => exact ⟨k + 1, _, by go_num, by omega, by rw [HG.out], (by rw [HW.out]; first | exact World.drewN_drewN .. | (simp only [World.drewN_drewN]; rfl) | (simp only [World.drewN_drewN]))⟩
        case measure => simp [intOf]; omega
    · obtain rfl : k = xs.length := by omega
      go_wp2_with fail
      go_ret
      exact Ro.b rfl (by rw [HW.out]; (try simp only [World.drewN_drewN]); exact ⟨_, rfl⟩)
end Go.Proofs.Ytpfllhiibkdfaaa
