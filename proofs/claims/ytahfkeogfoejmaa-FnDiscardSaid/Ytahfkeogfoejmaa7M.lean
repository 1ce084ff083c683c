/- The laws of chapter 7 over ropes: the walks. -/
import Derived.Test.Ytahfkeogfoejmaa7U
import Derived.Test.Ytahfkeogfoejmaa7B
import Derived.Test.YtahfkeogfoejmaaL
import Derived.Test.Ytahfkeogfoejmaa6S
namespace Go.Proofs.Ytahfkeogfoejmaa
open Go.RowKit
set_option linter.unusedVariables false

theorem RV.ten {xs : List Int} : ¬ RV (xs ++ [10]) := fun h => by
  have := h.2 xs.length (by simp)
  simp [nth, List.getD] at this
set_option maxHeartbeats 1000000 in
theorem RopeValid_w (a : Option Addr) (n cap : Nat) (w : World) (hb : Byt w a n) (hn : n ≤ cap) (hcap : cap ≤ maxLen) :
    Calls Try.prog 3 #[.slice a n cap] w (LawOk w) := by
  obtain ⟨i0, hi, hz0, hz1, hz2⟩ := info_parts infoInt
  have hcap' := hcap
  unfold maxLen at hcap'
  by_cases bign : 1048576 < n
  · go_enter Try.func3, Try.ntmps3
    go_wp2_with fail
    go_ret
    exact LawOk.mk (Below.refl _ _)
  go_enter Try.func3, Try.ntmps3
  go_wp2_with fail
  refine (DrawRopeValid_c a n cap _ hb hn hcap).mono ?_
  rintro e wn ⟨b, cp, xs, rfl, hx, hcl, hcm, hI, hB⟩
  have T : Hid _ := hB
  have X : Hid _ := hI
  clear hB hb hI
  have hcm' := hcm
  unfold maxLen at hcm'
  go_wp2_with fail
  refine Calls.mono (iRopeValid_c b 0 _ cp xs _ X.out rfl (by omega)) ?_
  intro e wn hh
  obtain ⟨he, hb⟩ := (by first | exact hh | exact Ro.mk hh | exact St.mk hh | exact LawOk.mk' hh : Mk _ _ e wn)
  subst he
  have Tn : Hid (Below w.heap.size w wn) := below_next T.out hb
  have Xn : Hid _ := Ints.below X.out hb
  clear hb hh
  clear T X
  have T := Tn
  have X := Xn
  clear Tn Xn
  go_wp2_with fail
  refine Calls.mono (sRopeValid_c b 0 _ cp xs _ X.out rfl (by omega)) ?_
  intro e wn hh
  obtain ⟨he, hb⟩ := (by first | exact hh | exact Ro.mk hh | exact St.mk hh | exact LawOk.mk' hh : Mk _ _ e wn)
  subst he
  have Tn : Hid (Below w.heap.size w wn) := below_next T.out hb
  have Xn : Hid _ := Ints.below X.out hb
  clear hb hh
  clear T X
  have T := Tn
  have X := Xn
  clear Tn Xn
  by_cases hv : RV xs
  case neg =>
    rw [rvB_f hv]
    clear hv
    have O0 : Hid _ := Own.none (w := wn)
    have X0 : Hid (Ints (wn.alloc (.cells #[] 3)) b 0 xs) := Ints.al X.out _
    have hWB := T.out.size
    have hltX := Ints.lt X.out
    go_wp2_with ((at_builtin; refine wpList_append_wanted rfl _ _ 23 rfl (World.heap wn).size 3 i0 (.int .i64 0) 1 8 Try.underlying23 hi hz0 hz1 hz2 rfl (by decide) _ _ _ rfl O0.out ⟨b, 0, none⟩ xs.length cp (xs.map (Value.int .i64)) rfl (by simp) ?c1 ?c2 ?c3 ?c4 ?c5 ?_))
    case c1 => exact Ints.cells X0.out
    case c2 => intro u hu; simp at hu; obtain ⟨a, _, rfl⟩ := hu; rfl
    case c3 => first | (unfold maxLen; simp; omega) | (simp; omega)
    case c4 => simp; omega
    case c5 => simp
    intro v1 wp hown hgrow hnil hat
    obtain ⟨B, hB⟩ : ∃ B, (World.heap wn).size = B := ⟨_, rfl⟩
    have lt5 : ∀ i, (Value.slice (some ⟨(World.heap wn).size, 0, none⟩) 0 0).ownBlock = some i → B ≤ i := fun i e => by rw [← hB]; exact Own.lt O0.out i e
    rw [hB] at hown hWB hltX
    have HB : Hid _ := hB
    have O : Hid (Own wp B v1 xs) := (by first | exact hown | exact Own.app0 hown)
    have N : Hid (v1 ≠ .slice none 0 0) := (by first | exact hnil | exact fun e => absurd (hnil.1 e).2 (by simp) | exact fun e => absurd (hnil.1 e).1 (by simp))
    have Tn : Hid (Below w.heap.size w wp) := Below.own (Below.al T.out _) hgrow (fun i e => by have := lt5 i e; omega)
    have Xn : Hid _ := Ints.gr (Ints.al X.out _) hgrow (fun i e h0 => by have := lt5 i e; omega)
    clear hown hgrow lt5 hnil hat hB O0 X0
    clear T X
    have T := Tn
    have X := Xn
    clear Tn Xn
    obtain ⟨wn, hwq⟩ : ∃ w0, w0 = wp := ⟨_, rfl⟩
    subst hwq
    have hbB : 0 < xs.length → b < B := hltX
    go_wp2_with ((at_builtin; refine wpList_append_wanted rfl _ _ 23 rfl B 3 i0 (.int .i64 0) 1 8 Try.underlying23 hi hz0 hz1 hz2 rfl (by decide) _ _ _ rfl (Own.alloc O.out _) _ 1 1 [.int .i64 (10)] rfl rfl ?c1 ?c2 ?c3 ?c4 ?c5 ?_))
    case c1 => exact cell_one_new _ _ _
    case c2 => intro u hu; simp at hu; subst hu; rfl
    case c3 => unfold maxLen; omega
    case c4 => omega
    case c5 => exact Own.base (Own.alloc O.out _) N.out
    intro v2 wn hown hgrow hnil hat
    have lt5 := Own.lt O.out
    have On : Hid (Own wn B v2 (xs ++ [10])) := Own.snoc hown
    have Nn : Hid (v2 ≠ .slice none 0 0) := (by first | exact hnil | exact fun e => absurd (hnil.1 e).2 (by simp) | exact fun e => absurd (hnil.1 e).1 (by simp))
    have Tn : Hid (Below w.heap.size w _) := Below.own (Below.al T.out _) hgrow (fun i e => by have := lt5 i e; omega)
    have Xn : Hid _ := Ints.gr (Ints.al X.out _) hgrow (fun i e h0 => by have := lt5 i e; omega)
    clear hown hgrow lt5 hnil hat
    clear O N T X
    have O := On
    have N := Nn
    have T := Tn
    have X := Xn
    clear On Nn Tn Xn
    obtain ⟨b2, c2, rfl, _, _, i2, l2, m2⟩ := Own.some O.out N.out
    have M : Hid _ := i2
    clear i2 O N
    go_wp2_with fail
    refine Calls.mono (iRopeValid_c b2 0 _ c2 (xs ++ [10]) _ M.out (by simp) (by simp; omega)) ?_
    intro e wn hh
    obtain ⟨he, hb⟩ := (by first | exact hh | exact Ro.mk hh | exact St.mk hh | exact LawOk.mk' hh : Mk _ _ e wn)
    subst he
    have Tn : Hid (Below w.heap.size w wn) := below_next T.out hb
    have Xn : Hid _ := Ints.below X.out hb
    clear hb hh
    clear T X
    have T := Tn
    have X := Xn
    clear Tn Xn
    rw [rvB_f RV.ten]
    go_wp2_with fail
    refine Calls.mono (alive_c _) ?_
    intro e wn hh
    obtain ⟨he, hb⟩ := (by first | exact hh | exact Ro.mk hh | exact St.mk hh | exact LawOk.mk' hh : Mk _ _ e wn)
    subst he
    have Tn : Hid (Below w.heap.size w wn) := below_next T.out hb
    have Xn : Hid _ := Ints.below X.out hb
    clear hb hh
    clear T X
    have T := Tn
    have X := Xn
    clear Tn Xn
    go_wp2_with fail
    go_ret
    first | exact LawOk.mk T.out | exact LawOk.mk (Below.dr T.out _)
  rw [rvB_t hv]
  have HV : Hid _ := hv
  clear hv
  rcases (by omega : xs.length = 0 ∨ (0 < xs.length ∧ cp = 1) ∨ (0 < xs.length ∧ cp ≠ 1)) with h0 | ⟨h0, h1⟩ | ⟨h0, h1⟩
  · have t0 : ((xs.length : Int) == 0) = true := by simp [h0]
    clear h0 HV
    have O0 : Hid _ := Own.none (w := wn)
    have X0 : Hid (Ints (wn.alloc (.cells #[] 3)) b 0 xs) := Ints.al X.out _
    have hWB := T.out.size
    have hltX := Ints.lt X.out
    go_wp2_with ((at_builtin; refine wpList_append_wanted rfl _ _ 23 rfl (World.heap wn).size 3 i0 (.int .i64 0) 1 8 Try.underlying23 hi hz0 hz1 hz2 rfl (by decide) _ _ _ rfl O0.out ⟨b, 0, none⟩ xs.length cp (xs.map (Value.int .i64)) rfl (by simp) ?c1 ?c2 ?c3 ?c4 ?c5 ?_))
    case c1 => exact Ints.cells X0.out
    case c2 => intro u hu; simp at hu; obtain ⟨a, _, rfl⟩ := hu; rfl
    case c3 => first | (unfold maxLen; simp; omega) | (simp; omega)
    case c4 => simp; omega
    case c5 => simp
    intro v1 wp hown hgrow hnil hat
    obtain ⟨B, hB⟩ : ∃ B, (World.heap wn).size = B := ⟨_, rfl⟩
    have lt5 : ∀ i, (Value.slice (some ⟨(World.heap wn).size, 0, none⟩) 0 0).ownBlock = some i → B ≤ i := fun i e => by rw [← hB]; exact Own.lt O0.out i e
    rw [hB] at hown hWB hltX
    have HB : Hid _ := hB
    have O : Hid (Own wp B v1 xs) := (by first | exact hown | exact Own.app0 hown)
    have N : Hid (v1 ≠ .slice none 0 0) := (by first | exact hnil | exact fun e => absurd (hnil.1 e).2 (by simp) | exact fun e => absurd (hnil.1 e).1 (by simp))
    have Tn : Hid (Below w.heap.size w wp) := Below.own (Below.al T.out _) hgrow (fun i e => by have := lt5 i e; omega)
    have Xn : Hid _ := Ints.gr (Ints.al X.out _) hgrow (fun i e h0 => by have := lt5 i e; omega)
    clear hown hgrow lt5 hnil hat hB O0 X0
    clear T X
    have T := Tn
    have X := Xn
    clear Tn Xn
    obtain ⟨wn, hwq⟩ : ∃ w0, w0 = wp := ⟨_, rfl⟩
    subst hwq
    have hbB : 0 < xs.length → b < B := hltX
    go_wp2_with ((at_builtin; refine wpList_append_wanted rfl _ _ 23 rfl B 3 i0 (.int .i64 0) 1 8 Try.underlying23 hi hz0 hz1 hz2 rfl (by decide) _ _ _ rfl (Own.alloc O.out _) _ 1 1 [.int .i64 (10)] rfl rfl ?c1 ?c2 ?c3 ?c4 ?c5 ?_))
    case c1 => exact cell_one_new _ _ _
    case c2 => intro u hu; simp at hu; subst hu; rfl
    case c3 => unfold maxLen; omega
    case c4 => omega
    case c5 => exact Own.base (Own.alloc O.out _) N.out
    intro v2 wn hown hgrow hnil hat
    have lt5 := Own.lt O.out
    have On : Hid (Own wn B v2 (xs ++ [10])) := Own.snoc hown
    have Nn : Hid (v2 ≠ .slice none 0 0) := (by first | exact hnil | exact fun e => absurd (hnil.1 e).2 (by simp) | exact fun e => absurd (hnil.1 e).1 (by simp))
    have Tn : Hid (Below w.heap.size w _) := Below.own (Below.al T.out _) hgrow (fun i e => by have := lt5 i e; omega)
    have Xn : Hid _ := Ints.gr (Ints.al X.out _) hgrow (fun i e h0 => by have := lt5 i e; omega)
    clear hown hgrow lt5 hnil hat
    clear O N T X
    have O := On
    have N := Nn
    have T := Tn
    have X := Xn
    clear On Nn Tn Xn
    obtain ⟨b2, c2, rfl, _, _, i2, l2, m2⟩ := Own.some O.out N.out
    have M : Hid _ := i2
    clear i2 O N
    go_wp2_with fail
    refine Calls.mono (iRopeValid_c b2 0 _ c2 (xs ++ [10]) _ M.out (by simp) (by simp; omega)) ?_
    intro e wn hh
    obtain ⟨he, hb⟩ := (by first | exact hh | exact Ro.mk hh | exact St.mk hh | exact LawOk.mk' hh : Mk _ _ e wn)
    subst he
    have Tn : Hid (Below w.heap.size w wn) := below_next T.out hb
    have Xn : Hid _ := Ints.below X.out hb
    clear hb hh
    clear T X
    have T := Tn
    have X := Xn
    clear Tn Xn
    rw [rvB_f RV.ten]
    go_wp2_with fail
    refine Calls.mono (alive_c _) ?_
    intro e wn hh
    obtain ⟨he, hb⟩ := (by first | exact hh | exact Ro.mk hh | exact St.mk hh | exact LawOk.mk' hh : Mk _ _ e wn)
    subst he
    have Tn : Hid (Below w.heap.size w wn) := below_next T.out hb
    have Xn : Hid _ := Ints.below X.out hb
    clear hb hh
    clear T X
    have T := Tn
    have X := Xn
    clear Tn Xn
    go_wp2_with fail
    go_ret
    first | exact LawOk.mk T.out | exact LawOk.mk (Below.dr T.out _)
  · have t0 : ((xs.length : Int) == 0) = false := beq_false_of_ne (by omega)
    have t1 : (1 : Int) ≤ (xs.length : Int) := by omega
    have K := fun w' (I : Ints w' b 0 xs) => iRopeValid_c b 0 0 0 (xs.drop 1) w' (fun i hi => by simp at hi; omega) (by simp; omega) (by simp; omega)
    rw [rvB_t (RV.drop HV.out 1)] at K
    have HK : Hid _ := K
    clear K HV
    subst h1
    go_wp2_with fail
    refine Calls.mono (HK.out _ X.out) ?_
    intro e wn hh
    obtain ⟨he, hb⟩ := (by first | exact hh | exact Ro.mk hh | exact St.mk hh | exact LawOk.mk' hh : Mk _ _ e wn)
    subst he
    have Tn : Hid (Below w.heap.size w wn) := below_next T.out hb
    have Xn : Hid _ := Ints.below X.out hb
    clear hb hh
    clear T X
    have T := Tn
    have X := Xn
    clear Tn Xn
    have O0 : Hid _ := Own.none (w := wn)
    have X0 : Hid (Ints (wn.alloc (.cells #[] 3)) b 0 xs) := Ints.al X.out _
    have hWB := T.out.size
    have hltX := Ints.lt X.out
    go_wp2_with ((at_builtin; refine wpList_append_wanted rfl _ _ 23 rfl (World.heap wn).size 3 i0 (.int .i64 0) 1 8 Try.underlying23 hi hz0 hz1 hz2 rfl (by decide) _ _ _ rfl O0.out ⟨b, 0, none⟩ xs.length 1 (xs.map (Value.int .i64)) rfl (by simp) ?c1 ?c2 ?c3 ?c4 ?c5 ?_))
    case c1 => exact Ints.cells X0.out
    case c2 => intro u hu; simp at hu; obtain ⟨a, _, rfl⟩ := hu; rfl
    case c3 => first | (unfold maxLen; simp; omega) | (simp; omega)
    case c4 => simp; omega
    case c5 => simp
    intro v1 wp hown hgrow hnil hat
    obtain ⟨B, hB⟩ : ∃ B, (World.heap wn).size = B := ⟨_, rfl⟩
    have lt5 : ∀ i, (Value.slice (some ⟨(World.heap wn).size, 0, none⟩) 0 0).ownBlock = some i → B ≤ i := fun i e => by rw [← hB]; exact Own.lt O0.out i e
    rw [hB] at hown hWB hltX
    have HB : Hid _ := hB
    have O : Hid (Own wp B v1 xs) := (by first | exact hown | exact Own.app0 hown)
    have N : Hid (v1 ≠ .slice none 0 0) := (by first | exact hnil | exact fun e => absurd (hnil.1 e).2 (by simp) | exact fun e => absurd (hnil.1 e).1 (by simp))
    have Tn : Hid (Below w.heap.size w wp) := Below.own (Below.al T.out _) hgrow (fun i e => by have := lt5 i e; omega)
    have Xn : Hid _ := Ints.gr (Ints.al X.out _) hgrow (fun i e h0 => by have := lt5 i e; omega)
    clear hown hgrow lt5 hnil hat hB O0 X0
    clear T X
    have T := Tn
    have X := Xn
    clear Tn Xn
    obtain ⟨wn, hwq⟩ : ∃ w0, w0 = wp := ⟨_, rfl⟩
    subst hwq
    have hbB : 0 < xs.length → b < B := hltX
    go_wp2_with ((at_builtin; refine wpList_append_wanted rfl _ _ 23 rfl B 3 i0 (.int .i64 0) 1 8 Try.underlying23 hi hz0 hz1 hz2 rfl (by decide) _ _ _ rfl (Own.alloc O.out _) _ 1 1 [.int .i64 (10)] rfl rfl ?c1 ?c2 ?c3 ?c4 ?c5 ?_))
    case c1 => exact cell_one_new _ _ _
    case c2 => intro u hu; simp at hu; subst hu; rfl
    case c3 => unfold maxLen; omega
    case c4 => omega
    case c5 => exact Own.base (Own.alloc O.out _) N.out
    intro v2 wn hown hgrow hnil hat
    have lt5 := Own.lt O.out
    have On : Hid (Own wn B v2 (xs ++ [10])) := Own.snoc hown
    have Nn : Hid (v2 ≠ .slice none 0 0) := (by first | exact hnil | exact fun e => absurd (hnil.1 e).2 (by simp) | exact fun e => absurd (hnil.1 e).1 (by simp))
    have Tn : Hid (Below w.heap.size w _) := Below.own (Below.al T.out _) hgrow (fun i e => by have := lt5 i e; omega)
    have Xn : Hid _ := Ints.gr (Ints.al X.out _) hgrow (fun i e h0 => by have := lt5 i e; omega)
    clear hown hgrow lt5 hnil hat
    clear O N T X
    have O := On
    have N := Nn
    have T := Tn
    have X := Xn
    clear On Nn Tn Xn
    obtain ⟨b2, c2, rfl, _, _, i2, l2, m2⟩ := Own.some O.out N.out
    have M : Hid _ := i2
    clear i2 O N
    go_wp2_with fail
    refine Calls.mono (iRopeValid_c b2 0 _ c2 (xs ++ [10]) _ M.out (by simp) (by simp; omega)) ?_
    intro e wn hh
    obtain ⟨he, hb⟩ := (by first | exact hh | exact Ro.mk hh | exact St.mk hh | exact LawOk.mk' hh : Mk _ _ e wn)
    subst he
    have Tn : Hid (Below w.heap.size w wn) := below_next T.out hb
    have Xn : Hid _ := Ints.below X.out hb
    clear hb hh
    clear T X
    have T := Tn
    have X := Xn
    clear Tn Xn
    rw [rvB_f RV.ten]
    go_wp2_with fail
    refine Calls.mono (alive_c _) ?_
    intro e wn hh
    obtain ⟨he, hb⟩ := (by first | exact hh | exact Ro.mk hh | exact St.mk hh | exact LawOk.mk' hh : Mk _ _ e wn)
    subst he
    have Tn : Hid (Below w.heap.size w wn) := below_next T.out hb
    have Xn : Hid _ := Ints.below X.out hb
    clear hb hh
    clear T X
    have T := Tn
    have X := Xn
    clear Tn Xn
    go_wp2_with fail
    go_ret
    first | exact LawOk.mk T.out | exact LawOk.mk (Below.dr T.out _)
  · have t0 : ((xs.length : Int) == 0) = false := beq_false_of_ne (by omega)
    have t1 : (1 : Int) ≤ (xs.length : Int) := by omega
    have K := fun w' (I : Ints w' b 0 xs) => iRopeValid_c b 1 (xs.length - 1) (cp - 1) (xs.drop 1) w' (Ints.drop0 I 1) (by simp) (by simp; omega)
    rw [rvB_t (RV.drop HV.out 1)] at K
    have HK : Hid _ := K
    clear K HV
    go_wp2_with fail
    refine Calls.mono (HK.out _ X.out) ?_
    intro e wn hh
    obtain ⟨he, hb⟩ := (by first | exact hh | exact Ro.mk hh | exact St.mk hh | exact LawOk.mk' hh : Mk _ _ e wn)
    subst he
    have Tn : Hid (Below w.heap.size w wn) := below_next T.out hb
    have Xn : Hid _ := Ints.below X.out hb
    clear hb hh
    clear T X
    have T := Tn
    have X := Xn
    clear Tn Xn
    have O0 : Hid _ := Own.none (w := wn)
    have X0 : Hid (Ints (wn.alloc (.cells #[] 3)) b 0 xs) := Ints.al X.out _
    have hWB := T.out.size
    have hltX := Ints.lt X.out
    go_wp2_with ((at_builtin; refine wpList_append_wanted rfl _ _ 23 rfl (World.heap wn).size 3 i0 (.int .i64 0) 1 8 Try.underlying23 hi hz0 hz1 hz2 rfl (by decide) _ _ _ rfl O0.out ⟨b, 0, none⟩ xs.length cp (xs.map (Value.int .i64)) rfl (by simp) ?c1 ?c2 ?c3 ?c4 ?c5 ?_))
    case c1 => exact Ints.cells X0.out
    case c2 => intro u hu; simp at hu; obtain ⟨a, _, rfl⟩ := hu; rfl
    case c3 => first | (unfold maxLen; simp; omega) | (simp; omega)
    case c4 => simp; omega
    case c5 => simp
    intro v1 wp hown hgrow hnil hat
    obtain ⟨B, hB⟩ : ∃ B, (World.heap wn).size = B := ⟨_, rfl⟩
    have lt5 : ∀ i, (Value.slice (some ⟨(World.heap wn).size, 0, none⟩) 0 0).ownBlock = some i → B ≤ i := fun i e => by rw [← hB]; exact Own.lt O0.out i e
    rw [hB] at hown hWB hltX
    have HB : Hid _ := hB
    have O : Hid (Own wp B v1 xs) := (by first | exact hown | exact Own.app0 hown)
    have N : Hid (v1 ≠ .slice none 0 0) := (by first | exact hnil | exact fun e => absurd (hnil.1 e).2 (by simp) | exact fun e => absurd (hnil.1 e).1 (by simp))
    have Tn : Hid (Below w.heap.size w wp) := Below.own (Below.al T.out _) hgrow (fun i e => by have := lt5 i e; omega)
    have Xn : Hid _ := Ints.gr (Ints.al X.out _) hgrow (fun i e h0 => by have := lt5 i e; omega)
    clear hown hgrow lt5 hnil hat hB O0 X0
    clear T X
    have T := Tn
    have X := Xn
    clear Tn Xn
    obtain ⟨wn, hwq⟩ : ∃ w0, w0 = wp := ⟨_, rfl⟩
    subst hwq
    have hbB : 0 < xs.length → b < B := hltX
    go_wp2_with ((at_builtin; refine wpList_append_wanted rfl _ _ 23 rfl B 3 i0 (.int .i64 0) 1 8 Try.underlying23 hi hz0 hz1 hz2 rfl (by decide) _ _ _ rfl (Own.alloc O.out _) _ 1 1 [.int .i64 (10)] rfl rfl ?c1 ?c2 ?c3 ?c4 ?c5 ?_))
    case c1 => exact cell_one_new _ _ _
    case c2 => intro u hu; simp at hu; subst hu; rfl
    case c3 => unfold maxLen; omega
    case c4 => omega
    case c5 => exact Own.base (Own.alloc O.out _) N.out
    intro v2 wn hown hgrow hnil hat
    have lt5 := Own.lt O.out
    have On : Hid (Own wn B v2 (xs ++ [10])) := Own.snoc hown
    have Nn : Hid (v2 ≠ .slice none 0 0) := (by first | exact hnil | exact fun e => absurd (hnil.1 e).2 (by simp) | exact fun e => absurd (hnil.1 e).1 (by simp))
    have Tn : Hid (Below w.heap.size w _) := Below.own (Below.al T.out _) hgrow (fun i e => by have := lt5 i e; omega)
    have Xn : Hid _ := Ints.gr (Ints.al X.out _) hgrow (fun i e h0 => by have := lt5 i e; omega)
    clear hown hgrow lt5 hnil hat
    clear O N T X
    have O := On
    have N := Nn
    have T := Tn
    have X := Xn
    clear On Nn Tn Xn
    obtain ⟨b2, c2, rfl, _, _, i2, l2, m2⟩ := Own.some O.out N.out
    have M : Hid _ := i2
    clear i2 O N
    go_wp2_with fail
    refine Calls.mono (iRopeValid_c b2 0 _ c2 (xs ++ [10]) _ M.out (by simp) (by simp; omega)) ?_
    intro e wn hh
    obtain ⟨he, hb⟩ := (by first | exact hh | exact Ro.mk hh | exact St.mk hh | exact LawOk.mk' hh : Mk _ _ e wn)
    subst he
    have Tn : Hid (Below w.heap.size w wn) := below_next T.out hb
    have Xn : Hid _ := Ints.below X.out hb
    clear hb hh
    clear T X
    have T := Tn
    have X := Xn
    clear Tn Xn
    rw [rvB_f RV.ten]
    go_wp2_with fail
    refine Calls.mono (alive_c _) ?_
    intro e wn hh
    obtain ⟨he, hb⟩ := (by first | exact hh | exact Ro.mk hh | exact St.mk hh | exact LawOk.mk' hh : Mk _ _ e wn)
    subst he
    have Tn : Hid (Below w.heap.size w wn) := below_next T.out hb
    have Xn : Hid _ := Ints.below X.out hb
    clear hb hh
    clear T X
    have T := Tn
    have X := Xn
    clear Tn Xn
    go_wp2_with fail
    go_ret
    first | exact LawOk.mk T.out | exact LawOk.mk (Below.dr T.out _)
end Go.Proofs.Ytahfkeogfoejmaa
