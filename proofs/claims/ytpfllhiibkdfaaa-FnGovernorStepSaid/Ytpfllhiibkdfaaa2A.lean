/- The contracts of chapter 2's small functions, impl and spec. -/
import Derived.Test.YtpfllhiibkdfaaaA
import Derived.Test.Ytpfllhiibkdfaaa2P
namespace Go.Proofs.Ytpfllhiibkdfaaa
open Go.RowKit
set_option linter.unusedVariables false

/-- A call that makes memory of its own: it returns v, and nothing that was there has changed. -/
def Mk (w : World) (v : Value) (e : Ending) (w' : World) : Prop := e = .returned v ∧ Below w.heap.size w w'
theorem Mk.b {w w' : World} {b b' : Bool} (h : b = b') (hb : Below w.heap.size w w') : Mk w (.bool b) (.returned (.bool b')) w' := ⟨by rw [h], hb⟩
theorem Mk.i {w w' : World} {b b' : Int} (h : b = b') (hb : Below w.heap.size w w') : Mk w (.int .i64 b) (.returned (.int .i64 b')) w' := ⟨by rw [h], hb⟩
theorem bcell {W w1 : World} (hb : Below W.heap.size W w1) : (∀ b o, b < W.heap.size → w1.cell? ⟨b, o, none⟩ = W.cell? ⟨b, o, none⟩) ∧ (∀ b o, b < W.heap.size → w1.frozen? ⟨b, o, none⟩ = W.frozen? ⟨b, o, none⟩) :=
  ⟨fun b o h => hb.cell (p := ⟨b, o, none⟩) h, fun b o h => hb.frozen (p := ⟨b, o, none⟩) h⟩

theorem isSpeed_c (n : Int) (w : World) : Calls Try.prog 50 #[.int .i64 n] w (Ro w (.bool (inB (-5) n 5))) := by
  by_cases h1 : -5 ≤ n
  · by_cases h2 : n ≤ 5
    · go_enter Try.func50, Try.ntmps50
      go_wp2
      go_ret
      exact Ro.b (inB_t ⟨h1, h2⟩) (by first | exact ⟨0, rfl⟩ | (simp only [World.drewN_drewN]; exact ⟨_, rfl⟩) | exact ⟨_, rfl⟩)
    · go_enter Try.func50, Try.ntmps50
      go_wp2
      go_ret
      exact Ro.b (inB_f (by omega)) (by first | exact ⟨0, rfl⟩ | (simp only [World.drewN_drewN]; exact ⟨_, rfl⟩) | exact ⟨_, rfl⟩)
  · go_enter Try.func50, Try.ntmps50
    go_wp2
    go_ret
    exact Ro.b (inB_f (by omega)) (by first | exact ⟨0, rfl⟩ | (simp only [World.drewN_drewN]; exact ⟨_, rfl⟩) | exact ⟨_, rfl⟩)

theorem sgn_ee {x y : Int} (h1 : ¬ x < y) (h2 : ¬ y < x) : sgn x y = 0 := by unfold sgn; rw [if_neg h1, if_neg h2]
/-- A call that only computes. -/
def St (w : World) (v : Value) (e : Ending) (w' : World) : Prop := e = .returned v ∧ w' = w
theorem St.ro {P : Program} {f : FuncId} {args : Array Value} {w : World} {v : Value} (h : Calls P f args w (St w v)) : Calls P f args w (Ro w v) := h.mono fun _ _ ⟨he, hw⟩ => ⟨he, 0, hw⟩
theorem St.i {w : World} {b b' : Int} (h : b = b') : St w (.int .i64 b) (.returned (.int .i64 b')) w := ⟨by rw [h], rfl⟩
theorem isNaN_c (n : Int) (w : World) : Calls Try.prog 54 #[.int .i64 n] w (St w (.bool false)) := by
  have h : (n != n) = false := by simp
  go_enter Try.func54, Try.ntmps54
  go_wp2
  go_ret
  exact ⟨rfl, rfl⟩
theorem compare_s (x y : Int) (w : World) : Calls Try.prog 42 #[.int .i64 x, .int .i64 y] w (St w (.int .i64 (sgn x y))) := by
  by_cases h1 : x < y
  · have e : Hid _ := sgn_lt h1
    go_enter Try.func42, Try.ntmps42
    go_wp2_with (go_at_call 54; refine (isNaN_c _ _).mono ?_; rintro e w' ⟨rfl, rfl⟩)
    go_ret
    exact St.i e.out
  · by_cases h2 : y < x
    · have e : Hid _ := sgn_gt h2
      go_enter Try.func42, Try.ntmps42
      go_wp2_with (go_at_call 54; refine (isNaN_c _ _).mono ?_; rintro e w' ⟨rfl, rfl⟩)
      go_ret
      exact St.i e.out
    · have e : Hid (sgn x y = 0) := sgn_ee h1 h2
      go_enter Try.func42, Try.ntmps42
      go_wp2_with (go_at_call 54; refine (isNaN_c _ _).mono ?_; rintro e w' ⟨rfl, rfl⟩)
      go_ret
      exact St.i e.out
theorem compare_c (x y : Int) (w : World) : Calls Try.prog 42 #[.int .i64 x, .int .i64 y] w (Ro w (.int .i64 (sgn x y))) := St.ro (compare_s x y w)
theorem slower_s (s : Int) (w : World) (h : -5 ≤ s ∧ s ≤ 5) : Calls Try.prog 45 #[.int .i64 s] w (St w (.int .i64 (slow s))) := by
  obtain ⟨h0, h1⟩ := h
  have b1 := (sgn_bd s 0).1
  have b2 := (sgn_bd s 0).2
  go_enter Try.func45, Try.ntmps45
  go_wp2_with (go_at_call 42; refine (compare_s _ _ _).mono ?_; rintro e w' ⟨rfl, rfl⟩)
  go_ret
  exact St.i rfl

theorem bw_pos {s : Int} (h : -5 ≤ s ∧ s ≤ 5) : bw s = if s < 0 then -(-s * (-s - 1) / 2) else s * (s - 1) / 2 := by
  rcases sp_cases h with e | e | e | e | e | e | e | e | e | e | e <;> subst e <;> decide
theorem bw_neg (s : Int) : bw (-s) = -bw s := by
  by_cases h : -5 ≤ s ∧ s ≤ 5
  · rcases sp_cases h with e | e | e | e | e | e | e | e | e | e | e <;> subst e <;> decide
  · rw [bw_bad h, bw_bad (by omega)]; rfl
set_option maxHeartbeats 1000000 in
theorem iBrakeWay_c (s : Int) (w : World) : Calls Try.prog 34 #[.int .i64 s] w (Ro w (.int .i64 (bw s))) := by
  by_cases h : -5 ≤ s ∧ s ≤ 5
  · have t1 := inB_t h
    rcases sp_cases h with e | e | e | e | e | e | e | e | e | e | e
    all_goals
      subst e
      clear h
      go_enter Try.func34, Try.ntmps34
      go_wp2_with (go_at_call 50; refine (isSpeed_c _ _).mono ?_; rintro e w' ⟨rfl, n1, rfl⟩)
      go_ret
      exact Ro.i (by decide) (by first | exact ⟨0, rfl⟩ | (simp only [World.drewN_drewN]; exact ⟨_, rfl⟩) | exact ⟨_, rfl⟩)
  · have t1 := inB_f h
    have e : Hid _ := bw_bad h
    clear h
    go_enter Try.func34, Try.ntmps34
    go_wp2_with (go_at_call 50; refine (isSpeed_c _ _).mono ?_; rintro e w' ⟨rfl, n1, rfl⟩)
    go_ret
    exact Ro.i e.out (by first | exact ⟨0, rfl⟩ | (simp only [World.drewN_drewN]; exact ⟨_, rfl⟩) | exact ⟨_, rfl⟩)
set_option maxHeartbeats 1000000 in
theorem sBrakeWay_p (s : Int) (w : World) (h : 0 ≤ s ∧ s ≤ 5) : Calls Try.prog 36 #[.int .i64 s] w (Ro w (.int .i64 (bw s))) := by
  have t1 : inB (-5) s 5 = true := inB_t ⟨by omega, h.2⟩
  rcases (by omega : s = 0 ∨ s = 1 ∨ s = 2 ∨ s = 3 ∨ s = 4 ∨ s = 5) with e | e | e | e | e | e
  all_goals
    subst e
    clear h
    go_enter Try.func36, Try.ntmps36
    go_wp2_with (go_at_call 35; refine (l1In_c _ _ _ _).mono ?_; rintro e w' ⟨rfl, n1, rfl⟩)
    go_ret
    exact Ro.i (by decide) (by first | exact ⟨0, rfl⟩ | (simp only [World.drewN_drewN]; exact ⟨_, rfl⟩) | exact ⟨_, rfl⟩)
set_option maxHeartbeats 400000 in
theorem sBrakeWay_c (s : Int) (w : World) : Calls Try.prog 36 #[.int .i64 s] w (Ro w (.int .i64 (bw s))) := by
  by_cases h : -5 ≤ s ∧ s ≤ 5
  · by_cases h0 : 0 ≤ s
    · exact sBrakeWay_p s w ⟨h0, h.2⟩
    · have t1 := inB_t h
      obtain ⟨p, rfl⟩ : ∃ p, s = -p := ⟨-s, by omega⟩
      have hp : 0 ≤ p ∧ p ≤ 5 := by omega
      have e : Hid _ := bw_neg p
      have b := bw_bd p
      obtain ⟨b1, b2⟩ := b
      have hp1 := hp.1
      have hp2 := hp.2
      go_enter Try.func36, Try.ntmps36
      go_wp2_with fail
      refine (l1In_c _ _ _ _).mono ?_; rintro e w' ⟨rfl, n1, rfl⟩
      go_wp2_with fail
      refine (sBrakeWay_p p _ hp).mono ?_; rintro e w' ⟨rfl, n1, rfl⟩
      go_wp2_with fail
      go_ret
      exact Ro.i e.out (by first | exact ⟨0, rfl⟩ | (simp only [World.drewN_drewN]; exact ⟨_, rfl⟩) | exact ⟨_, rfl⟩)
  · have t1 := inB_f h
    have e : Hid _ := bw_bad h
    clear h
    go_enter Try.func36, Try.ntmps36
    go_wp2_with (go_at_call 35; refine (l1In_c _ _ _ _).mono ?_; rintro e w' ⟨rfl, n1, rfl⟩)
    go_ret
    exact Ro.i e.out (by first | exact ⟨0, rfl⟩ | (simp only [World.drewN_drewN]; exact ⟨_, rfl⟩) | exact ⟨_, rfl⟩)

theorem iMotionValid_c (a s : Int) (w : World) : Calls Try.prog 38 #[(Value.agg #[.int .i64 (a), .int .i64 (s)])] w (Mk w (.bool (mvB a s))) := by
  by_cases h1 : 0 ≤ a ∧ a ≤ 60
  · have t1 := inB_t h1
    by_cases h2 : -5 ≤ s ∧ s ≤ 5
    · have t2 := inB_t h2
      have e : Hid _ := mvB_t ⟨h1.1, h1.2, h2.1, h2.2⟩
      go_enter Try.func38, Try.ntmps38
      go_wp2_with (first | (go_at_call 32; refine (isStep_c _ _).mono ?_; rintro e w' ⟨rfl, n2, rfl⟩) | (go_at_call 50; refine (isSpeed_c _ _).mono ?_; rintro e w' ⟨rfl, n2, rfl⟩))
      go_ret
      exact Mk.b e.out (below_next ((Below.refl _ _).alloc (Nat.le_refl _) _) (below_drewN' _))
    · have t2 := inB_f h2
      have e : Hid _ := mvB_f (a := a) (s := s) (fun h => h2 h.2.2)
      go_enter Try.func38, Try.ntmps38
      go_wp2_with (first | (go_at_call 32; refine (isStep_c _ _).mono ?_; rintro e w' ⟨rfl, n2, rfl⟩) | (go_at_call 50; refine (isSpeed_c _ _).mono ?_; rintro e w' ⟨rfl, n2, rfl⟩))
      go_ret
      exact Mk.b e.out (below_next ((Below.refl _ _).alloc (Nat.le_refl _) _) (below_drewN' _))
  · have t1 := inB_f h1
    have e : Hid _ := mvB_f (a := a) (s := s) (fun h => h1 ⟨h.1, h.2.1⟩)
    go_enter Try.func38, Try.ntmps38
    go_wp2_with (first | (go_at_call 32; refine (isStep_c _ _).mono ?_; rintro e w' ⟨rfl, n2, rfl⟩) | (go_at_call 50; refine (isSpeed_c _ _).mono ?_; rintro e w' ⟨rfl, n2, rfl⟩))
    go_ret
    exact Mk.b e.out (below_next ((Below.refl _ _).alloc (Nat.le_refl _) _) (below_drewN' _))
theorem sMotionValid_c (a s : Int) (w : World) : Calls Try.prog 40 #[(Value.agg #[.int .i64 (a), .int .i64 (s)])] w (Mk w (.bool (mvB a s))) := by
  by_cases h1 : 0 ≤ a ∧ a ≤ 60
  · have t1 := inB_t h1
    by_cases h2 : -5 ≤ s ∧ s ≤ 5
    · have t2 := inB_t h2
      have e : Hid _ := mvB_t ⟨h1.1, h1.2, h2.1, h2.2⟩
      go_enter Try.func40, Try.ntmps40
      go_wp2_with (go_at_call 35; refine (l1In_c _ _ _ _).mono ?_; rintro e w' ⟨rfl, n2, rfl⟩)
      go_ret
      exact Mk.b e.out (below_next ((Below.refl _ _).alloc (Nat.le_refl _) _) (below_drewN' _))
    · have t2 := inB_f h2
      have e : Hid _ := mvB_f (a := a) (s := s) (fun h => h2 h.2.2)
      go_enter Try.func40, Try.ntmps40
      go_wp2_with (go_at_call 35; refine (l1In_c _ _ _ _).mono ?_; rintro e w' ⟨rfl, n2, rfl⟩)
      go_ret
      exact Mk.b e.out (below_next ((Below.refl _ _).alloc (Nat.le_refl _) _) (below_drewN' _))
  · have t1 := inB_f h1
    have e : Hid _ := mvB_f (a := a) (s := s) (fun h => h1 ⟨h.1, h.2.1⟩)
    go_enter Try.func40, Try.ntmps40
    go_wp2_with (go_at_call 35; refine (l1In_c _ _ _ _).mono ?_; rintro e w' ⟨rfl, n2, rfl⟩)
    go_ret
    exact Mk.b e.out (below_next ((Below.refl _ _).alloc (Nat.le_refl _) _) (below_drewN' _))
end Go.Proofs.Ytpfllhiibkdfaaa
