/- The contracts of chapter 5's functions of impl. -/
import Derived.Test.Ytpfllhiibkdfaaa5A
namespace Go.Proofs.Ytpfllhiibkdfaaa
open Go.RowKit
set_option linter.unusedVariables false

set_option maxHeartbeats 1000000 in
theorem greatest_c (d : Int) (w : World) (h0 : 0 ≤ d) (h6 : d ≤ 60) : Calls Try.prog 33 #[.int .i64 0, .int .i64 5, .int .i64 d, .func (.func 34) #[] #[]] w (Ro w (.int .i64 (slw d))) := by
  have FIT : Hid _ := slw_fit h0
  have bd : Hid _ := slw_bd d
  go_enter Try.func33, Try.ntmps33
  go_wp2_with fail
  go_loopw [9] (fun v wr => ∃ (k : Int) (n : Nat), v = .int .i64 k ∧ slw d ≤ k ∧ k ≤ 5 ∧ wr = w.drewN n) (fun v _ => (intOf v).toNat)
  case atStart => exact ⟨5, 0, rfl, bd.out.2, by omega, rfl⟩
  case round =>
    obtain ⟨k, n, rfl, k0, k5, rfl⟩ := hrel
    have b0 := bd.out.1
    have hk : 0 < k := by omega
    have b1 := (bw_bd k).1
    have b2 := (bw_bd k).2
    have F3 := FIT.out.2.2 k (by omega) k5
    by_cases hb : bw k ≤ d
    · have ek : k = slw d := by have := F3.1 hb; omega
      have EK : Hid _ := ek
      clear F3 ek k0 b0
      go_wp2_with fail
      refine (iBrakeWay_c k _).mono ?_; rintro e' w' ⟨rfl, n1, rfl⟩
      go_wp2_with fail
      go_ret
      exact Ro.i EK.out.symm (by first | exact ⟨0, rfl⟩ | (simp only [World.drewN_drewN]; exact ⟨_, rfl⟩) | exact ⟨_, rfl⟩)
    · have k1 : slw d ≤ k - 1 := by have : ¬ k ≤ slw d := fun x => hb (F3.2 x); omega
      have K1 : Hid _ := k1
      clear F3 k0 b0 k1
      go_wp2_with fail
      refine (iBrakeWay_c k _).mono ?_; rintro e' w' ⟨rfl, n1, rfl⟩
      go_wp2_with fail
      go_roundw
      case rel => exact ⟨k - 1, _, by go_num, K1.out, by omega, by first | rfl | (simp only [World.drewN_drewN])⟩
      case measure => simp [intOf]; omega
theorem iSpeedLimit_c (a : Int) (u : Bool) (w : World) : Calls Try.prog 12 #[.int .i64 a, .bool u] w (Ro w (.int .i64 (sl a u))) := by
  by_cases h : 0 ≤ a ∧ a ≤ 60
  case neg =>
    have t1 := inB_f h
    have e : Hid _ := sl_bad (u := u) t1
    clear h
    go_enter Try.func12, Try.ntmps12
    go_wp2_with fail
    refine (isStep_c _ _).mono ?_; rintro e' w' ⟨rfl, n1, rfl⟩
    go_wp2_with fail
    go_ret
    exact Ro.i e.out (by first | exact ⟨0, rfl⟩ | (simp only [World.drewN_drewN]; exact ⟨_, rfl⟩) | exact ⟨_, rfl⟩)
  have t1 := inB_t h
  have e : Hid _ := sl_ok (u := u) t1
  obtain ⟨h0, h6⟩ := h
  cases u
  all_goals
    go_enter Try.func12, Try.ntmps12
    go_wp2_with fail
    refine (isStep_c _ _).mono ?_; rintro e' w' ⟨rfl, n1, rfl⟩
    go_wp2_with fail
    refine (greatest_c _ _ (by omega) (by omega)).mono ?_; rintro e' w' ⟨rfl, n2, rfl⟩
    go_wp2_with fail
    go_ret
    exact Ro.i (by rw [e.out]; rfl) (by first | exact ⟨0, rfl⟩ | (simp only [World.drewN_drewN]; exact ⟨_, rfl⟩) | exact ⟨_, rfl⟩)
theorem iGovernorStep_s (b : Bool) (s : Int) (r : Bool) (w : World) : Calls Try.prog 21 #[.bool b, .int .i64 s, .bool r] w (St w (.bool (gst b s r))) := by
  by_cases h1 : 7 ≤ s
  · have e : Hid (gst b s r = true) := (by unfold gst; rw [if_pos (.inl h1)] : gst b s r = true)
    go_enter Try.func21, Try.ntmps21
    go_wp2_with fail
    go_ret
    exact St.b e.out
  by_cases h2 : s ≤ -7
  · have e : Hid (gst b s r = true) := (by unfold gst; rw [if_pos (.inr h2)] : gst b s r = true)
    go_enter Try.func21, Try.ntmps21
    go_wp2_with fail
    go_ret
    exact St.b e.out
  have e : Hid (gst b s r = (b && !(r && s == 0))) := (by unfold gst; rw [if_neg (by omega)] : gst b s r = (b && !(r && s == 0)))
  cases b
  · go_enter Try.func21, Try.ntmps21
    go_wp2_with fail
    go_ret
    exact St.b (by rw [e.out]; rfl)
  · cases r
    · go_enter Try.func21, Try.ntmps21
      go_wp2_with fail
      go_ret
      exact St.b (by rw [e.out]; rfl)
    · have t : (s == 0) = true ∨ (s == 0) = false := by cases (s == 0) <;> simp
      rcases t with t | t
      all_goals
        go_enter Try.func21, Try.ntmps21
        go_wp2_with fail
        go_ret
        exact St.b (by rw [e.out, t]; rfl)
theorem iGovernorStep_c (b : Bool) (s : Int) (r : Bool) (w : World) : Calls Try.prog 21 #[.bool b, .int .i64 s, .bool r] w (Ro w (.bool (gst b s r))) := St.ro (iGovernorStep_s b s r w)
set_option maxHeartbeats 1000000 in
theorem iWithinLimit_c (a s : Int) (w : World) : Calls Try.prog 17 #[(Value.agg #[.int .i64 (a), .int .i64 (s)])] w (Mk w (.bool (wl a s))) := by
  have Q : Hid (Box (w.alloc (.cells #[.int .i64 a, .int .i64 s] 29)) w.heap.size a s) := Box.new w a s 29
  have T0 : Hid (Below w.heap.size w (w.alloc (.cells #[.int .i64 a, .int .i64 s] 29))) := (by repeat (first | exact Below.refl _ _ | refine Below.al ?_ _ | refine Below.dr ?_ _ | refine Below.dw ?_ | refine Below.st ?_ (by first | exact Nat.le_refl _ | exact Nat.le_add_right _ _ | (simp; omega)) _ | (refine below_next ?_ (by assumption))))
  obtain ⟨⟨c0, c1⟩, f0, f1⟩ := Q.out
  cases hv : mvB a s
  · have e : Hid _ := wl_bad hv
    have KM : ∀ w, Calls Try.prog 38 #[(Value.agg #[.int .i64 (a), .int .i64 (s)])] w (Mk w (.bool false)) := fun w => by rw [← hv]; exact iMotionValid_c a s w
    have HK : Hid _ := KM
    clear KM
    go_enter Try.func17, Try.ntmps17
    go_wp2_with fail
    generalize hw0 : w.alloc (.cells #[.int .i64 a, .int .i64 s] 29) = w0 at *
    clear hw0
    refine wp_region_quiet (C := fun w' => Below (World.heap (w0)).size (w0) w') (by kernel_rfl) (by kernel_rfl) (by first | exact ⟨rfl, rfl, rfl, Nat.le_refl _, fun _ _ => rfl⟩ | exact Below.dw (by repeat (first | exact Below.refl _ _ | refine Below.al ?_ _ | refine Below.dr ?_ _ | refine Below.dw ?_ | refine Below.st ?_ (by first | exact Nat.le_refl _ | exact Nat.le_add_right _ _ | (simp; omega)) _ | (refine below_next ?_ (by assumption))))) ?_
    simp only []
    repeat (go_big_quiet_step (first | (intro _; with_reducible exact rfl) | (intro hC; go_at_call 38; obtain ⟨⟨c0, c1⟩, f0, f1⟩ := Box.below Q.out hC; refine Calls.mono (HK.out _) ?_; (first | (rintro e wx ⟨rfl, hb⟩; exact ⟨rfl, below_next hC hb⟩) | (rintro e wx ⟨rfl, n, rfl⟩; exact ⟨rfl, Below.dr hC n⟩) | (rintro e wx ⟨rfl, rfl⟩; exact ⟨rfl, hC⟩))) | (intro hC; obtain ⟨⟨c0, c1⟩, f0, f1⟩ := Box.below Q.out hC; go_simp; rfl)))
    refine wpQuiet_nil ?_
    intro wq hq
    have TQ : Hid (Below w.heap.size w wq) := below_next T0.out hq
    clear hq
    go_wp2_with fail
    go_ret
    exact Mk.b e.out TQ.out
  · have V := mvB_iff.1 hv
    obtain ⟨v1, v2, v3, v4⟩ := V
    have KM : ∀ w, Calls Try.prog 38 #[(Value.agg #[.int .i64 (a), .int .i64 (s)])] w (Mk w (.bool true)) := fun w => by rw [← hv]; exact iMotionValid_c a s w
    have HK : Hid _ := KM
    clear KM
    have e : Hid (wl a s = decide (far s 0 ≤ sl a (decide (0 < s)))) := (by
      by_cases k : far s 0 ≤ sl a (decide (0 < s))
      · rw [wl_t hv k]; exact (decide_eq_true k).symm
      · rw [wl_f k]; exact (decide_eq_false k).symm : wl a s = decide (far s 0 ≤ sl a (decide (0 < s))))
    have E2 : Hid (far s 0 = max s (-s)) := (by unfold far; omega : far s 0 = max s (-s))
    go_enter Try.func17, Try.ntmps17
    go_wp2_with fail
    generalize hw0 : w.alloc (.cells #[.int .i64 a, .int .i64 s] 29) = w0 at *
    clear hw0
    refine wp_region_quiet (C := fun w' => Below (World.heap (w0)).size (w0) w') (by kernel_rfl) (by kernel_rfl) (by first | exact ⟨rfl, rfl, rfl, Nat.le_refl _, fun _ _ => rfl⟩ | exact Below.dw (by repeat (first | exact Below.refl _ _ | refine Below.al ?_ _ | refine Below.dr ?_ _ | refine Below.dw ?_ | refine Below.st ?_ (by first | exact Nat.le_refl _ | exact Nat.le_add_right _ _ | (simp; omega)) _ | (refine below_next ?_ (by assumption))))) ?_
    simp only []
    repeat (go_big_quiet_step (first | (intro _; with_reducible exact rfl) | (intro hC; go_at_call 38; obtain ⟨⟨c0, c1⟩, f0, f1⟩ := Box.below Q.out hC; refine Calls.mono (HK.out _) ?_; (first | (rintro e wx ⟨rfl, hb⟩; exact ⟨rfl, below_next hC hb⟩) | (rintro e wx ⟨rfl, n, rfl⟩; exact ⟨rfl, Below.dr hC n⟩) | (rintro e wx ⟨rfl, rfl⟩; exact ⟨rfl, hC⟩))) | (intro hC; go_at_call 12; obtain ⟨⟨c0, c1⟩, f0, f1⟩ := Box.below Q.out hC; refine Calls.mono (iSpeedLimit_c a (decide (0 < s)) _) ?_; (first | (rintro e wx ⟨rfl, hb⟩; exact ⟨rfl, below_next hC hb⟩) | (rintro e wx ⟨rfl, n, rfl⟩; exact ⟨rfl, Below.dr hC n⟩) | (rintro e wx ⟨rfl, rfl⟩; exact ⟨rfl, hC⟩))) | (intro hC; obtain ⟨⟨c0, c1⟩, f0, f1⟩ := Box.below Q.out hC; go_simp; rfl)))
    refine wpQuiet_nil ?_
    intro wq hq
    have TQ : Hid (Below w.heap.size w wq) := below_next T0.out hq
    clear hq
    go_wp2_with fail
    all_goals
      go_ret
      exact Mk.b (by rw [e.out, E2.out]; congr 2; omega) TQ.out
set_option maxHeartbeats 1000000 in
theorem iGovernorRun_c (b : Bool) (p : Option Addr) (cp : Nat) (xs : List Int) (q : Option Addr) (cq : Nat) (ys : List Int) (w : World) (hx : Sl w p xs) (hmx : xs.length ≤ maxLen) (hy : Sl w q ys) (hmy : ys.length ≤ maxLen) :
    Calls Try.prog 24 #[.bool b, .slice p xs.length cp, .slice q ys.length cq] w (Ro w (.bool (gru b xs ys xs.length))) := by
  have hm' := hmx
  unfold maxLen at hm'
  have HX : Hid _ := hx
  have HY : Hid _ := hy
  clear hx hy
  go_enter Try.func24, Try.ntmps24
  go_wp2_with fail
  obtain ⟨wo, hwo⟩ : ∃ wo : World, wo = w := ⟨_, rfl⟩
  go_loopw [0, 11] (fun vb vk wr => ∃ k n : Nat, vk = .int .i64 k ∧ k ≤ xs.length ∧ vb = .bool (gru b xs ys k) ∧ wr = wo.drewN n) (fun _ vk _ => xs.length - (intOf vk).toNat)
  case atStart => exact ⟨0, 0, rfl, by omega, rfl, by rw [hwo]; rfl⟩
  case round =>
    obtain ⟨k, n, rfl, hk, rfl, hw⟩ := hrel
    subst hwo
    have HXr : Hid (Sl wr p xs) := (by rw [hw]; exact HX.out : Sl wr p xs)
    have HYr : Hid (Sl wr q ys) := (by rw [hw]; exact HY.out : Sl wr q ys)
    have HW : Hid _ := hw
    clear hw
    by_cases hlt : k < xs.length
    · rcases HXr.out with he | ⟨pb, po, rfl, hI⟩
      · rw [he] at hlt; simp at hlt
      · have c0 : wr.cell? ⟨pb, po + k, none⟩ = some (.int .i64 (nth xs k)) := hI k hlt
        have hltI : (k : Int) < (xs.length : Int) := by omega
        have HG : Hid (gst (gru b xs ys k) (nth xs k) (hasB ys k) = gru b xs ys (k + 1)) := (rfl : gst (gru b xs ys k) (nth xs k) (hasB ys k) = gru b xs ys (k + 1))
        clear hI
        go_wp2_with fail
        refine (contains_c q cq ys k _ HYr.out hmy).mono ?_; rintro e' w' ⟨rfl, n1, rfl⟩
        go_wp2_with fail
        refine (iGovernorStep_c _ _ _ _).mono ?_; rintro e' w' ⟨rfl, n2, rfl⟩
        go_wp2_with fail
        go_roundw
        case rel => exact ⟨k + 1, _, by go_num, by omega, by rw [HG.out], (by rw [HW.out]; first | exact World.drewN_drewN .. | (simp only [World.drewN_drewN]; rfl) | (simp only [World.drewN_drewN]))⟩
        case measure => simp [intOf]; omega
    · obtain rfl : k = xs.length := by omega
      go_wp2_with fail
      go_ret
      exact Ro.b rfl (by rw [HW.out]; (try simp only [World.drewN_drewN]); exact ⟨_, rfl⟩)
end Go.Proofs.Ytpfllhiibkdfaaa
