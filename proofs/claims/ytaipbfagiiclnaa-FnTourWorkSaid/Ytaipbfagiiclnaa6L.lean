/- The laws of chapter 6: the walks. -/
import Derived.Test.Ytaipbfagiiclnaa6U
import Derived.Test.Ytaipbfagiiclnaa6C
import Derived.Test.YtaipbfagiiclnaaL
namespace Go.Proofs.Ytaipbfagiiclnaa
open Go.RowKit
set_option linter.unusedVariables false

set_option maxHeartbeats 400000 in
theorem sumOf_c (b off len cap : Nat) (xs : List Int) (w : World) (hc : Ints w b off xs) (hl : xs.length = len) (hm : xs.length ≤ 1048576) (hb : ∀ i, i < xs.length → -1000000 ≤ nth xs i ∧ nth xs i ≤ 1000000) :
    Calls Try.prog 17 #[.slice (some ⟨b, off, none⟩) len cap] w (Ro w (.int .i64 (sm xs xs.length))) := by
  subst hl
  go_enter Try.func17, Try.ntmps17
  go_wp2
  go_loop [3, 4] (fun u v => ∃ k : Nat, k ≤ xs.length ∧ v = .int .i64 k ∧ u = .int .i64 (sm xs k)) (fun _ v => xs.length - (intOf v).toNat)
  case atStart => exact ⟨0, by omega, rfl, rfl⟩
  case round =>
    obtain ⟨k, hk2, rfl, rfl⟩ := hrel
    have bd := sm_bd k (fun i hi => hb i (by omega))
    have HB : Hid _ := hb
    have HS : Hid (sm xs (k + 1) = sm xs k + nth xs k) := (rfl : sm xs (k + 1) = sm xs k + nth xs k)
    clear hb
    by_cases hlt : k < xs.length
    · have c1 : w.cell? ⟨b, off + k, none⟩ = some (.int .i64 (nth xs k)) := hc k hlt
      have b1 := HB.out k hlt
      obtain ⟨b1, b2⟩ := b1
      obtain ⟨z, hz⟩ : ∃ z, sm xs k = z := ⟨_, rfl⟩
      rw [hz] at bd HS
      rw [hz]
      clear hz
      go_wp2
      go_round
      case rel => exact ⟨k + 1, by omega, by go_num, by rw [HS.out]⟩
      case measure => simp [intOf]; omega
    · obtain rfl : k = xs.length := by omega
      go_wp2
      go_ret
      exact Ro.i rfl (by first | exact ⟨0, rfl⟩ | (simp only [World.drewN_drewN]; exact ⟨_, rfl⟩) | exact ⟨_, rfl⟩)
set_option maxHeartbeats 1000000 in
theorem LoadSum_w (a : Option Addr) (n cap : Nat) (w : World) (hb : Byt w a n) (hn : n ≤ cap) (hcap : cap ≤ maxLen) :
    Calls Try.prog 3 #[.slice a n cap] w (LawOk w) := by
  have hcap' := hcap
  unfold maxLen at hcap'
  by_cases bign : 1048576 < n
  · go_enter Try.func3, Try.ntmps3
    go_wp2_with fail
    go_ret
    exact LawOk.mk (Below.refl _ _)
  go_enter Try.func3, Try.ntmps3
  go_wp2_with fail
  refine (DrawLoadSum_c a n cap _ hb hn hcap).mono ?_
  rintro e wn ⟨b, off, cp, xs, rfl, hx, hcl, hcm, hI, hB⟩
  have T : Hid _ := hB
  have X : Hid _ := hI
  clear hB hb hI
  unfold maxLen at hcm
  have bd := ls_bd xs
  go_wp2_with fail
  refine Calls.mono (iLoadSum_c b off _ cp xs _ X.out rfl (by omega)) ?_
  intro e wn hh
  obtain ⟨he, hb⟩ := (by first | exact hh | exact Ro.mk hh | exact St.mk hh | exact LawOk.mk' hh : Mk _ _ e wn)
  subst he
  have Tn : Hid (Below w.heap.size w wn) := below_next T.out hb
  have Xn : Hid _ := Ints.below X.out hb
  clear hb hh
  clear T X
  have T := Tn
  have X := Xn
  clear Tn Xn
  go_wp2_with fail
  refine Calls.mono (sLoadSum_c b off _ cp xs _ X.out rfl (by omega)) ?_
  intro e wn hh
  obtain ⟨he, hb⟩ := (by first | exact hh | exact Ro.mk hh | exact St.mk hh | exact LawOk.mk' hh : Mk _ _ e wn)
  subst he
  have Tn : Hid (Below w.heap.size w wn) := below_next T.out hb
  have Xn : Hid _ := Ints.below X.out hb
  clear hb hh
  clear T X
  have T := Tn
  have X := Xn
  clear Tn Xn
  by_cases h0 : ls xs < 0
  · have e := (ls_neg h0).1
    rw [e] at bd h0 ⊢
    clear e
    go_wp2_with fail
    refine Calls.mono (alive_c _) ?_
    intro e wn hh
    obtain ⟨he, hb⟩ := (by first | exact hh | exact Ro.mk hh | exact St.mk hh | exact LawOk.mk' hh : Mk _ _ e wn)
    subst he
    have Tn : Hid (Below w.heap.size w wn) := below_next T.out hb
    have Xn : Hid _ := Ints.below X.out hb
    clear hb hh
    clear T X
    have T := Tn
    have X := Xn
    clear Tn Xn
    go_wp2_with fail
    go_ret
    first | exact LawOk.mk T.out | exact LawOk.mk (Below.dr T.out _)
  have hv := ls_wv h0
  have l8 := hv.1
  by_cases l0 : xs.length = 0
  · obtain rfl : xs = [] := List.eq_nil_of_length_eq_zero l0
    have e0 : ls [] = 0 := ls_ok hv
    rw [e0] at bd h0 ⊢
    have K1 : Hid (∀ m, Calls Try.prog 14 #[.slice (some ⟨b, off, none⟩) 0 cp] (wn.drewN m) (Ro (wn.drewN m) (.int .i64 0))) := fun m => by
      have := iLoadSum_c b off 0 cp [] (wn.drewN m) X.out rfl (by simp)
      rw [e0] at this; exact this
    have K3 : Hid (∀ m, Calls Try.prog 17 #[.slice (some ⟨b, off, none⟩) 0 cp] (wn.drewN m) (Ro (wn.drewN m) (.int .i64 0))) := fun m => by
      have := sumOf_c b off 0 cp [] (wn.drewN m) X.out rfl (by simp) (fun i hi => by simp at hi)
      exact this
    clear e0 hv
    by_cases c0 : cp = 0
    · subst c0
      go_wp2_with fail
      go_quiet ((first | (go_at_call 14; with_reducible exact Calls.quiet_of (K1.out _)) | (go_at_call 17; with_reducible exact Calls.quiet_of (K3.out _))))
      go_wp2_with fail
      go_ret
      first | exact LawOk.mk T.out | exact LawOk.mk (Below.dr T.out _)
    · go_wp2_with fail
      go_quiet ((first | (go_at_call 14; with_reducible exact Calls.quiet_of (K1.out _)) | (go_at_call 17; with_reducible exact Calls.quiet_of (K3.out _))))
      go_wp2_with fail
      go_ret
      first | exact LawOk.mk T.out | exact LawOk.mk (Below.dr T.out _)
  have t1 : (ls xs != ls xs) = false := by simp
  obtain ⟨h, hh⟩ : ∃ h, xs.length / 2 = h := ⟨_, rfl⟩
  have hhI : (xs.length : Int) / 2 = (h : Int) := by omega
  have hhl : h ≤ xs.length := by omega
  have hhc : h ≤ cp := by omega
  have b1 := hv.sm h hhl
  have b2 := hv.up xs.length h hhl (Nat.le_refl _)
  have e0 := ls_ok hv
  have eT := ls_take hv hhl
  have eD := ls_drop hv hhl
  obtain ⟨z, hz⟩ : ∃ z, sm xs xs.length = z := ⟨_, rfl⟩
  obtain ⟨p, hp⟩ : ∃ p, sm xs h = p := ⟨_, rfl⟩
  obtain ⟨q, hq⟩ : ∃ q, z - p = q := ⟨_, rfl⟩
  rw [hz] at e0 eD b2
  rw [hp] at eT eD b1 b2
  rw [hq] at eD
  have K1 : Hid (∀ m, Calls Try.prog 14 #[.slice (some ⟨b, off, none⟩) h cp] (wn.drewN m) (Ro (wn.drewN m) (.int .i64 p))) := fun m => by
    have := iLoadSum_c b off h cp (xs.take h) (wn.drewN m) (Ints.take X.out h) (by simp; omega) (by simp; omega)
    rw [eT] at this; exact this
  have hne : cp ≠ h := by omega
  have K2 : Hid (∀ m, Calls Try.prog 14 #[.slice (some ⟨b, off + h, none⟩) (xs.length - h) (cp - h)] (wn.drewN m) (Ro (wn.drewN m) (.int .i64 q))) := fun m => by
    have := iLoadSum_c b (off + h) (xs.length - h) (cp - h) (xs.drop h) (wn.drewN m) (Ints.drop X.out h) (by simp) (by simp; omega)
    rw [eD] at this; exact this
  have K3 : Hid (∀ m, Calls Try.prog 17 #[.slice (some ⟨b, off, none⟩) xs.length cp] (wn.drewN m) (Ro (wn.drewN m) (.int .i64 z))) := fun m => by
    have := sumOf_c b off xs.length cp xs (wn.drewN m) X.out rfl (by omega) (fun i hi => by have := hv.2 i hi; omega)
    rw [hz] at this; exact this
  have t2 : (p + q == z) = true := by rw [beq_iff_eq]; omega
  rw [e0] at bd h0 ⊢
  clear e0 eT eD hz hp t1 hv
  go_wp2_with fail
  go_quiet ((first | (go_at_call 14; with_reducible exact Calls.quiet_of (K1.out _)) | (go_at_call 14; with_reducible exact Calls.quiet_of (K2.out _)) | (go_at_call 17; with_reducible exact Calls.quiet_of (K3.out _))))
  go_wp2_with fail
  go_ret
  first | exact LawOk.mk T.out | exact LawOk.mk (Below.dr T.out _)
set_option maxHeartbeats 1000000 in
theorem Overloaded_w (a : Option Addr) (n cap : Nat) (w : World) (hb : Byt w a n) (hn : n ≤ cap) (hcap : cap ≤ maxLen) :
    Calls Try.prog 4 #[.slice a n cap] w (LawOk w) := by
  have hcap' := hcap
  unfold maxLen at hcap'
  by_cases bign : 1048576 < n
  · go_enter Try.func4, Try.ntmps4
    go_wp2_with fail
    go_ret
    exact LawOk.mk (Below.refl _ _)
  go_enter Try.func4, Try.ntmps4
  go_wp2_with fail
  refine (DrawOverloaded_c a n cap _ hb hn hcap).mono ?_
  rintro e wn ⟨b, off, cp, xs, rfl, hx, hcl, hcm, hI, hB⟩
  have T : Hid _ := hB
  have X : Hid _ := hI
  clear hB hb hI
  unfold maxLen at hcm
  have bd := ls_bd xs
  go_wp2_with fail
  refine Calls.mono (iOverloaded_c b off _ cp xs _ X.out rfl (by omega)) ?_
  intro e wn hh
  obtain ⟨he, hb⟩ := (by first | exact hh | exact Ro.mk hh | exact St.mk hh | exact LawOk.mk' hh : Mk _ _ e wn)
  subst he
  have Tn : Hid (Below w.heap.size w wn) := below_next T.out hb
  have Xn : Hid _ := Ints.below X.out hb
  clear hb hh
  clear T X
  have T := Tn
  have X := Xn
  clear Tn Xn
  go_wp2_with fail
  refine Calls.mono (sOverloaded_c b off _ cp xs _ X.out rfl (by omega)) ?_
  intro e wn hh
  obtain ⟨he, hb⟩ := (by first | exact hh | exact Ro.mk hh | exact St.mk hh | exact LawOk.mk' hh : Mk _ _ e wn)
  subst he
  have Tn : Hid (Below w.heap.size w wn) := below_next T.out hb
  have Xn : Hid _ := Ints.below X.out hb
  clear hb hh
  clear T X
  have T := Tn
  have X := Xn
  clear Tn Xn
  by_cases h40 : 40 < ls xs
  · rw [ovB_t h40]
    go_wp2_with fail
    refine Calls.mono (iLoadSum_c b off _ cp xs _ X.out rfl (by omega)) ?_
    intro e wn hh
    obtain ⟨he, hb⟩ := (by first | exact hh | exact Ro.mk hh | exact St.mk hh | exact LawOk.mk' hh : Mk _ _ e wn)
    subst he
    have Tn : Hid (Below w.heap.size w wn) := below_next T.out hb
    have Xn : Hid _ := Ints.below X.out hb
    clear hb hh
    clear T X
    have T := Tn
    have X := Xn
    clear Tn Xn
    go_wp2_with fail
    refine Calls.mono (alive_c _) ?_
    intro e wn hh
    obtain ⟨he, hb⟩ := (by first | exact hh | exact Ro.mk hh | exact St.mk hh | exact LawOk.mk' hh : Mk _ _ e wn)
    subst he
    have Tn : Hid (Below w.heap.size w wn) := below_next T.out hb
    have Xn : Hid _ := Ints.below X.out hb
    clear hb hh
    clear T X
    have T := Tn
    have X := Xn
    clear Tn Xn
    go_wp2_with fail
    go_ret
    first | exact LawOk.mk T.out | exact LawOk.mk (Below.dr T.out _)
  rw [ovB_f h40]
  by_cases l0 : xs.length = 0
  · have t0 : ((xs.length : Int) == 0) = true := by simp [l0]
    clear l0
    go_wp2_with fail
    go_ret
    first | exact LawOk.mk T.out | exact LawOk.mk (Below.dr T.out _)
  have t0 : ((xs.length : Int) == 0) = false := beq_false_of_ne (by omega)
  go_wp2_with fail
  refine Calls.mono (iLoadSum_c b off _ cp xs _ X.out rfl (by omega)) ?_
  intro e wn hh
  obtain ⟨he, hb⟩ := (by first | exact hh | exact Ro.mk hh | exact St.mk hh | exact LawOk.mk' hh : Mk _ _ e wn)
  subst he
  have Tn : Hid (Below w.heap.size w wn) := below_next T.out hb
  have Xn : Hid _ := Ints.below X.out hb
  clear hb hh
  clear T X
  have T := Tn
  have X := Xn
  clear Tn Xn
  by_cases h0 : ls xs < 0
  · skip
    go_wp2_with fail
    go_ret
    first | exact LawOk.mk T.out | exact LawOk.mk (Below.dr T.out _)
  have hv := ls_wv h0
  have e0 := ls_ok hv
  have b1 := hv.up xs.length (xs.length - 1) (by omega) (Nat.le_refl _)
  have eO := ovB_take hv (n := xs.length - 1) (by omega)
  rw [decide_eq_false (by omega)] at eO
  have hl1 : xs.length - 1 ≤ cp := by omega
  have hl2 : 1 ≤ xs.length := by omega
  have K := iOverloaded_c b off (xs.length - 1) cp (xs.take (xs.length - 1)) wn (Ints.take X.out _) (by simp) (by simp; omega)
  rw [eO] at K
  have HK : Hid _ := K
  clear K eO e0 b1 hv l0
  go_wp2_with fail
  refine Calls.mono (HK.out) ?_
  intro e wn hh
  obtain ⟨he, hb⟩ := (by first | exact hh | exact Ro.mk hh | exact St.mk hh | exact LawOk.mk' hh : Mk _ _ e wn)
  subst he
  have Tn : Hid (Below w.heap.size w wn) := below_next T.out hb
  have Xn : Hid _ := Ints.below X.out hb
  clear hb hh
  clear T X
  have T := Tn
  have X := Xn
  clear Tn Xn
  go_wp2_with fail
  go_ret
  first | exact LawOk.mk T.out | exact LawOk.mk (Below.dr T.out _)
set_option maxHeartbeats 1000000 in
theorem LoadFirst_w (a : Option Addr) (n cap : Nat) (w : World) (hb : Byt w a n) (hn : n ≤ cap) (hcap : cap ≤ maxLen) :
    Calls Try.prog 5 #[.slice a n cap] w (LawOk w) := by
  have hcap' := hcap
  unfold maxLen at hcap'
  by_cases bign : 1048576 < n
  · go_enter Try.func5, Try.ntmps5
    go_wp2_with fail
    go_ret
    exact LawOk.mk (Below.refl _ _)
  go_enter Try.func5, Try.ntmps5
  go_wp2_with fail
  refine (DrawLoadFirst_c a n cap _ hb hn hcap).mono ?_
  rintro e wn ⟨b, off, cp, xs, rfl, hx, hcl, hcm, hI, hB⟩
  have T : Hid _ := hB
  have X : Hid _ := hI
  clear hB hb hI
  have hcm' := hcm
  unfold maxLen at hcm'
  go_wp2_with fail
  refine Calls.mono (iLoadFirst_c b off cp xs _ X.out hcl hcm (by omega)) ?_
  intro e wn hh
  obtain ⟨he, hb⟩ := (by first | exact hh | exact Ro.mk hh | exact St.mk hh | exact LawOk.mk' hh : Mk _ _ e wn)
  subst he
  have Tn : Hid (Below w.heap.size w wn) := below_next T.out hb
  have Xn : Hid _ := Ints.below X.out hb
  clear hb hh
  clear T X
  have T := Tn
  have X := Xn
  clear Tn Xn
  go_wp2_with fail
  refine Calls.mono (sLoadFirst_c b off cp xs _ X.out hcl hcm (by omega)) ?_
  intro e wn hh
  obtain ⟨he, hb⟩ := (by first | exact hh | exact Ro.mk hh | exact St.mk hh | exact LawOk.mk' hh : Mk _ _ e wn)
  subst he
  have Tn : Hid (Below w.heap.size w wn) := below_next T.out hb
  have Xn : Hid _ := Ints.below X.out hb
  clear hb hh
  clear T X
  have T := Tn
  have X := Xn
  clear Tn Xn
  by_cases hv : WV xs
  case neg =>
    have e : lf xs = -1 := lf_bad hv
    have e2 : ls xs = -1 := ls_bad hv
    rw [e]
    clear e hv
    go_wp2_with fail
    refine Calls.mono (iLoadSum_c b off _ cp xs _ X.out rfl (by omega)) ?_
    intro e wn hh
    obtain ⟨he, hb⟩ := (by first | exact hh | exact Ro.mk hh | exact St.mk hh | exact LawOk.mk' hh : Mk _ _ e wn)
    subst he
    have Tn : Hid (Below w.heap.size w wn) := below_next T.out hb
    have Xn : Hid _ := Ints.below X.out hb
    clear hb hh
    clear T X
    have T := Tn
    have X := Xn
    clear Tn Xn
    rw [e2]
    go_wp2_with fail
    refine Calls.mono (alive_c _) ?_
    intro e wn hh
    obtain ⟨he, hb⟩ := (by first | exact hh | exact Ro.mk hh | exact St.mk hh | exact LawOk.mk' hh : Mk _ _ e wn)
    subst he
    have Tn : Hid (Below w.heap.size w wn) := below_next T.out hb
    have Xn : Hid _ := Ints.below X.out hb
    clear hb hh
    clear T X
    have T := Tn
    have X := Xn
    clear Tn Xn
    go_wp2_with fail
    go_ret
    first | exact LawOk.mk T.out | exact LawOk.mk (Below.dr T.out _)
  obtain ⟨k, hk, e, h1, h2⟩ := lf_ok hv
  rw [e]
  clear e
  have eO := ovB_take hv (n := k) hk
  rw [decide_eq_false (by omega)] at eO
  have hkc : k ≤ cp := by omega
  have K := fun w' (I : Ints w' b off xs) => iOverloaded_c b off k cp (xs.take k) w' (Ints.take I _) (by simp; omega) (by simp; omega)
  rw [eO] at K
  have HK : Hid _ := K
  have l8 := hv.1
  clear K eO
  go_wp2_with fail
  refine Calls.mono (HK.out _ X.out) ?_
  intro e wn hh
  obtain ⟨he, hb⟩ := (by first | exact hh | exact Ro.mk hh | exact St.mk hh | exact LawOk.mk' hh : Mk _ _ e wn)
  subst he
  have Tn : Hid (Below w.heap.size w wn) := below_next T.out hb
  have Xn : Hid _ := Ints.below X.out hb
  clear hb hh
  clear T X
  have T := Tn
  have X := Xn
  clear Tn Xn
  by_cases hl : k = xs.length
  · have t0 : ((k : Int) == (xs.length : Int)) = true := by simp [hl]
    clear hl
    go_wp2_with fail
    go_ret
    first | exact LawOk.mk T.out | exact LawOk.mk (Below.dr T.out _)
  have t0 : ((k : Int) == (xs.length : Int)) = false := beq_false_of_ne (by omega)
  have eO := ovB_take hv (n := k + 1) (by omega)
  rw [decide_eq_true (by omega)] at eO
  have hkc : k + 1 ≤ cp := by omega
  have K := iOverloaded_c b off (k + 1) cp (xs.take (k + 1)) wn (Ints.take X.out _) (by simp; omega) (by simp; omega)
  rw [eO] at K
  have HK2 : Hid _ := K
  clear K eO hv hl
  go_wp2_with fail
  refine Calls.mono (HK2.out) ?_
  intro e wn hh
  obtain ⟨he, hb⟩ := (by first | exact hh | exact Ro.mk hh | exact St.mk hh | exact LawOk.mk' hh : Mk _ _ e wn)
  subst he
  have Tn : Hid (Below w.heap.size w wn) := below_next T.out hb
  have Xn : Hid _ := Ints.below X.out hb
  clear hb hh
  clear T X
  have T := Tn
  have X := Xn
  clear Tn Xn
  go_wp2_with fail
  go_ret
  first | exact LawOk.mk T.out | exact LawOk.mk (Below.dr T.out _)
set_option maxHeartbeats 1000000 in
theorem TripWork_w (a : Option Addr) (n cap : Nat) (w : World) (hb : Byt w a n) (hn : n ≤ cap) (hcap : cap ≤ maxLen) :
    Calls Try.prog 6 #[.slice a n cap] w (LawOk w) := by
  have hcap' := hcap
  unfold maxLen at hcap'
  by_cases bign : 1048576 < n
  · go_enter Try.func6, Try.ntmps6
    go_wp2_with fail
    go_ret
    exact LawOk.mk (Below.refl _ _)
  go_enter Try.func6, Try.ntmps6
  go_wp2_with fail
  refine (DrawTripWork_c a n cap _ hb hn hcap).mono ?_
  rintro e wn ⟨b, off, cp, xs, x, y, l, rfl, hx, hl0, hl1, hI, hB⟩
  have T : Hid _ := hB
  have X : Hid _ := hI
  clear hB hb hI
  have hm : xs.length ≤ maxLen := by unfold maxLen; omega
  have bd := tw_bd xs x y l
  go_wp2_with fail
  refine Calls.mono (iTripWork_c b off cp xs x y l _ X.out hm) ?_
  intro e wn hh
  obtain ⟨he, hb⟩ := (by first | exact hh | exact Ro.mk hh | exact St.mk hh | exact LawOk.mk' hh : Mk _ _ e wn)
  subst he
  have Tn : Hid (Below w.heap.size w wn) := below_next T.out hb
  have Xn : Hid _ := Ints.below X.out hb
  clear hb hh
  clear T X
  have T := Tn
  have X := Xn
  clear Tn Xn
  go_wp2_with fail
  refine Calls.mono (sTripWork_c b off cp xs x y l _ X.out hm) ?_
  intro e wn hh
  obtain ⟨he, hb⟩ := (by first | exact hh | exact Ro.mk hh | exact St.mk hh | exact LawOk.mk' hh : Mk _ _ e wn)
  subst he
  have Tn : Hid (Below w.heap.size w wn) := below_next T.out hb
  have Xn : Hid _ := Ints.below X.out hb
  clear hb hh
  clear T X
  have T := Tn
  have X := Xn
  clear Tn Xn
  by_cases hv : TV xs x y l
  case neg =>
    rw [tw_bad hv, twB_f hv]
    clear hv bd
    go_wp2_with fail
    refine Calls.mono (alive_c _) ?_
    intro e wn hh
    obtain ⟨he, hb⟩ := (by first | exact hh | exact Ro.mk hh | exact St.mk hh | exact LawOk.mk' hh : Mk _ _ e wn)
    subst he
    have Tn : Hid (Below w.heap.size w wn) := below_next T.out hb
    have Xn : Hid _ := Ints.below X.out hb
    clear hb hh
    clear T X
    have T := Tn
    have X := Xn
    clear Tn Xn
    go_wp2_with fail
    go_ret
    first | exact LawOk.mk T.out | exact LawOk.mk (Below.dr T.out _)
  have e1 := twB_t (tw_back hv).1
  have e2 := (tw_back hv).2
  have e3 := twB_t (tw_half hv).1
  have e4 := (tw_half hv).2
  have e5 := twB_t (tw_other hv).1
  have e6 := (tw_other hv).2
  rw [twB_t hv]
  obtain ⟨z, hz⟩ : ∃ z, tw xs x y l = z := ⟨_, rfl⟩
  rw [hz] at e2 e6 bd ⊢
  have E1 : Hid _ := e1
  have E2 : Hid _ := e2
  have E3 : Hid _ := e3
  have E4 : Hid _ := e4
  have E5 : Hid _ := e5
  have E6 : Hid _ := e6
  obtain ⟨bd1, bd2⟩ := bd
  clear hz hv e1 e2 e3 e4 e5 e6
  go_wp2_with fail
  refine Calls.mono (iTripWork_c b off cp xs y x l _ X.out hm) ?_
  intro e wn hh
  obtain ⟨he, hb⟩ := (by first | exact hh | exact Ro.mk hh | exact St.mk hh | exact LawOk.mk' hh : Mk _ _ e wn)
  subst he
  have Tn : Hid (Below w.heap.size w wn) := below_next T.out hb
  have Xn : Hid _ := Ints.below X.out hb
  clear hb hh
  clear T X
  have T := Tn
  have X := Xn
  clear Tn Xn
  rw [E1.out, E2.out]
  go_wp2_with fail
  refine Calls.mono (iTripWork_c b off cp xs x y 20 _ X.out hm) ?_
  intro e wn hh
  obtain ⟨he, hb⟩ := (by first | exact hh | exact Ro.mk hh | exact St.mk hh | exact LawOk.mk' hh : Mk _ _ e wn)
  subst he
  have Tn : Hid (Below w.heap.size w wn) := below_next T.out hb
  have Xn : Hid _ := Ints.below X.out hb
  clear hb hh
  clear T X
  have T := Tn
  have X := Xn
  clear Tn Xn
  rw [E3.out, E4.out]
  go_wp2_with fail
  refine Calls.mono (iTripWork_c b off cp xs x y (40 - l) _ X.out hm) ?_
  intro e wn hh
  obtain ⟨he, hb⟩ := (by first | exact hh | exact Ro.mk hh | exact St.mk hh | exact LawOk.mk' hh : Mk _ _ e wn)
  subst he
  have Tn : Hid (Below w.heap.size w wn) := below_next T.out hb
  have Xn : Hid _ := Ints.below X.out hb
  clear hb hh
  clear T X
  have T := Tn
  have X := Xn
  clear Tn Xn
  rw [E5.out, E6.out]
  go_wp2_with fail
  go_ret
  first | exact LawOk.mk T.out | exact LawOk.mk (Below.dr T.out _)
end Go.Proofs.Ytaipbfagiiclnaa
