/- The law of Discard: the walk. -/
import Derived.Test.Ytahfkeogfoejmaa7M
namespace Go.Proofs.Ytahfkeogfoejmaa
open Go.RowKit
set_option linter.unusedVariables false

theorem Ints.away {w : World} {b off c j : Nat} {xs : List Int} {u : Value} (h : Ints w b off xs) (hne : b ≠ c) : Ints (w.setCell ⟨c, j, none⟩ u) b off xs := fun i hi => by
  rw [World.cell?_setCell_other _ _ _ _ (fun e => hne (congrArg Addr.block e).symm)]; exact h i hi
theorem own_ints {w : World} {B b n cap : Nat} {xs : List Int} (h : Own w B (.slice (some ⟨b, 0, none⟩) n cap) xs) (hn : n = xs.length) (h1 : 1 ≤ xs.length) : Ints w b 0 xs := by
  subst hn
  obtain ⟨b3, c3, e3, _, i3, _, _, _⟩ := Own.opened h h1
  simp only [Value.slice.injEq, Option.some.injEq, Addr.mk.injEq, and_true] at e3
  obtain ⟨e3, _⟩ := e3
  subst e3
  exact i3
theorem dcB_more {xs : List Int} {m : Int} (h : RV xs) {k : Nat} (hk : k < xs.length) (h9 : nth xs k + 1 ≤ 9) (hd : m < wst xs) : dcB (xs.set k (nth xs k + 1)) m = true :=
  dcB_t (h.more hk h9) (by have := wst_more h hk h9; omega)
set_option maxHeartbeats 2000000 in
theorem Discard_w (a : Option Addr) (n cap : Nat) (w : World) (hb : Byt w a n) (hn : n ≤ cap) (hcap : cap ≤ maxLen) :
    Calls Try.prog 5 #[.slice a n cap] w (LawOk w) := by
  obtain ⟨i0, hi, hz0, hz1, hz2⟩ := info_parts infoInt
  have hcap' := hcap
  unfold maxLen at hcap'
  by_cases bign : 1048576 < n
  · go_enter Try.func5, Try.ntmps5
    go_wp2_with fail
    go_ret
    exact LawOk.mk (Below.refl _ _)
  go_enter Try.func5, Try.ntmps5
  go_wp2_with fail
  refine (DrawDiscard_c a n cap _ hb hn hcap).mono ?_
  rintro e wn ⟨b, cp, xs, m, rfl, hx, hcl, hcm, ⟨hm0, hm1⟩, hI, hB⟩
  have T : Hid _ := hB
  have X : Hid _ := hI
  clear hB hb hI
  have hcm' := hcm
  unfold maxLen at hcm'
  go_wp2_with fail
  refine Calls.mono (iDiscard_c b 0 _ cp xs m _ X.out rfl (by omega)) ?_
  intro e wn hh
  obtain ⟨he, hb⟩ := (by first | exact hh | exact Ro.mk hh | exact St.mk hh | exact LawOk.mk' hh : Mk _ _ e wn)
  subst he
  have Tn : Hid (Below w.heap.size w wn) := below_next T.out hb
  have Xn : Hid _ := Ints.below X.out hb
  clear hb hh
  clear T X
  have T := Tn
  have X := Xn
  clear Tn Xn
  go_wp2_with fail
  refine Calls.mono (sDiscard_c b 0 _ cp xs m _ X.out rfl (by omega)) ?_
  intro e wn hh
  obtain ⟨he, hb⟩ := (by first | exact hh | exact Ro.mk hh | exact St.mk hh | exact LawOk.mk' hh : Mk _ _ e wn)
  subst he
  have Tn : Hid (Below w.heap.size w wn) := below_next T.out hb
  have Xn : Hid _ := Ints.below X.out hb
  clear hb hh
  clear T X
  have T := Tn
  have X := Xn
  clear Tn Xn
  go_wp2_with fail
  refine Calls.mono (sRopeValid_c b 0 _ cp xs _ X.out rfl (by omega)) ?_
  intro e wn hh
  obtain ⟨he, hb⟩ := (by first | exact hh | exact Ro.mk hh | exact St.mk hh | exact LawOk.mk' hh : Mk _ _ e wn)
  subst he
  have Tn : Hid (Below w.heap.size w wn) := below_next T.out hb
  have Xn : Hid _ := Ints.below X.out hb
  clear hb hh
  clear T X
  have T := Tn
  have X := Xn
  clear Tn Xn
  by_cases hv : RV xs
  case neg =>
    rw [rvB_f hv, dcB_bad hv]
    clear hv
    go_wp2_with fail
    refine Calls.mono (alive_c _) ?_
    intro e wn hh
    obtain ⟨he, hb⟩ := (by first | exact hh | exact Ro.mk hh | exact St.mk hh | exact LawOk.mk' hh : Mk _ _ e wn)
    subst he
    have Tn : Hid (Below w.heap.size w wn) := below_next T.out hb
    have Xn : Hid _ := Ints.below X.out hb
    clear hb hh
    clear T X
    have T := Tn
    have X := Xn
    clear Tn Xn
    go_wp2_with fail
    go_ret
    first | exact LawOk.mk T.out | exact LawOk.mk (Below.dr T.out _)
  rw [rvB_t hv]
  have HV : Hid _ := hv
  clear hv
  by_cases hd : m < wst xs
  · rw [dcB_t HV.out hd]
    have HD : Hid _ := hd
    clear hd
    go_wp2_with fail
    go_loopw [6] (fun v wr => ∃ k : Nat, k ≤ xs.length ∧ v = .int .i64 k ∧ Ints wr b 0 xs ∧ Below w.heap.size w wr) (fun v _ => xs.length - (intOf v).toNat)
    case atStart => exact ⟨0, by omega, rfl, X.out, T.out⟩
    case round =>
      clear T X
      obtain ⟨k, hk, rfl, h1, h2⟩ := hrel
      have X : Hid _ := h1
      have T : Hid _ := h2
      clear h1 h2
      by_cases hlt : k < xs.length
      · have hltI : (k : Int) < (xs.length : Int) := by omega
        obtain ⟨wn, hwq⟩ : ∃ w0, w0 = wr := ⟨_, rfl⟩
        subst hwq
        have O0 : Hid _ := Own.none (w := wn)
        have X0 : Hid (Ints (wn.alloc (.cells #[] 3)) b 0 xs) := Ints.al X.out _
        have hWB := T.out.size
        have hltX := Ints.lt X.out
        go_wp2_with ((at_builtin; refine wpList_append_wanted rfl _ _ 23 rfl (World.heap wn).size 3 i0 (.int .i64 0) 1 8 Try.underlying23 hi hz0 hz1 hz2 rfl (by decide) _ _ _ rfl O0.out ⟨b, 0, none⟩ xs.length cp (xs.map (Value.int .i64)) rfl (by simp) ?c1 ?c2 ?c3 ?c4 ?c5 ?_))
        case c1 => exact Ints.cells X0.out
        case c2 => intro u hu; simp at hu; obtain ⟨a, _, rfl⟩ := hu; rfl
        case c3 => first | (unfold maxLen; simp; omega) | (simp; omega)
        case c4 => simp; omega
        case c5 => simp
        intro v1 wp hown hgrow hnil hat
        obtain ⟨B, hB⟩ : ∃ B, (World.heap wn).size = B := ⟨_, rfl⟩
        have lt5 : ∀ i, (Value.slice (some ⟨(World.heap wn).size, 0, none⟩) 0 0).ownBlock = some i → B ≤ i := fun i e => by rw [← hB]; exact Own.lt O0.out i e
        rw [hB] at hown hWB hltX
        have HB : Hid _ := hB
        have O : Hid (Own wp B v1 xs) := (by first | exact hown | exact Own.app0 hown)
        have N : Hid (v1 ≠ .slice none 0 0) := (by first | exact hnil | exact fun e => absurd (hnil.1 e).2 (by simp) | exact fun e => absurd (hnil.1 e).1 (by simp))
        have Tn : Hid (Below w.heap.size w wp) := Below.own (Below.al T.out _) hgrow (fun i e => by have := lt5 i e; omega)
        have Xn : Hid _ := Ints.gr (Ints.al X.out _) hgrow (fun i e h0 => by have := lt5 i e; omega)
        clear hown hgrow lt5 hnil hat hB O0 X0
        clear T X
        have T := Tn
        have X := Xn
        clear Tn Xn
        obtain ⟨wn, hwq⟩ : ∃ w0, w0 = wp := ⟨_, rfl⟩
        subst hwq
        obtain ⟨b2, c2, rfl, hB2, i2, f2, l2, m2⟩ := Own.opened O.out (by omega)
        have hbB : b < B := hltX (by omega)
        have c1 : wn.cell? ⟨b2, k, none⟩ = some (.int .i64 (nth xs k)) := by have := i2 k hlt; simpa using this
        have f1 := f2 k
        obtain ⟨z0, z1⟩ := HV.out.2 k hlt
        have O2 : Hid (Own (wn.setCell ⟨b2, k, none⟩ (.int .i64 (nth xs k + 1))) B (.slice (some ⟨b2, 0, none⟩) xs.length c2) (xs.set k (nth xs k + 1))) := (Own.stored O.out k (nth xs k + 1)).1
        have T2 : Hid (Below w.heap.size w (wn.setCell ⟨b2, k, none⟩ (.int .i64 (nth xs k + 1)))) := Below.st (p := ⟨b2, k, none⟩) T.out (by show _ ≤ b2; omega) (.int .i64 (nth xs k + 1))
        have X2 : Hid (Ints (wn.setCell ⟨b2, k, none⟩ (.int .i64 (nth xs k + 1))) b 0 xs) := Ints.away X.out (by omega)
        by_cases h9 : nth xs k + 1 ≤ 9
        · have i3 := own_ints O2.out (by simp) (by simp; omega)
          have K := iDiscard_c b2 0 xs.length c2 (xs.set k (nth xs k + 1)) m _ i3 (by simp) (by simp; omega)
          rw [dcB_more HV.out hlt h9 HD.out] at K
          have HK : Hid _ := K
          clear i2 f2 O T X N K i3
          go_wp2_with fail
          refine Calls.mono HK.out ?_
          rintro e w' ⟨rfl, n1, rfl⟩
          go_wp2_with fail
          go_roundw
          case rel => exact ⟨k + 1, by omega, by go_num, Ints.drewN X2.out _, Below.dr T2.out _⟩
          case measure => simp [intOf]; omega
        · clear i2 f2 O T X N
          go_wp2_with fail
          go_roundw
          case rel => exact ⟨k + 1, by omega, by go_num, X2.out, T2.out⟩
          case measure => simp [intOf]; omega
      · obtain rfl : k = xs.length := by omega
        go_wp2_with fail
        go_ret
        first | exact LawOk.mk T.out | exact LawOk.mk (Below.dr T.out _)
  · rw [dcB_f hd]
    have HD : Hid (wst xs ≤ m) := Int.not_lt.1 hd
    clear hd
    go_wp2_with fail
    go_loopw [6] (fun v wr => ∃ k : Nat, k ≤ xs.length ∧ v = .int .i64 k ∧ Ints wr b 0 xs ∧ Below w.heap.size w wr) (fun v _ => xs.length - (intOf v).toNat)
    case atStart => exact ⟨0, by omega, rfl, X.out, T.out⟩
    case round =>
      clear T X
      obtain ⟨k, hk, rfl, h1, h2⟩ := hrel
      have X : Hid _ := h1
      have T : Hid _ := h2
      clear h1 h2
      by_cases hlt : k < xs.length
      · have hltI : (k : Int) < (xs.length : Int) := by omega
        obtain ⟨wn, hwq⟩ : ∃ w0, w0 = wr := ⟨_, rfl⟩
        subst hwq
        have O0 : Hid _ := Own.none (w := wn)
        have X0 : Hid (Ints (wn.alloc (.cells #[] 3)) b 0 xs) := Ints.al X.out _
        have hWB := T.out.size
        have hltX := Ints.lt X.out
        go_wp2_with ((at_builtin; refine wpList_append_wanted rfl _ _ 23 rfl (World.heap wn).size 3 i0 (.int .i64 0) 1 8 Try.underlying23 hi hz0 hz1 hz2 rfl (by decide) _ _ _ rfl O0.out ⟨b, 0, none⟩ xs.length cp (xs.map (Value.int .i64)) rfl (by simp) ?c1 ?c2 ?c3 ?c4 ?c5 ?_))
        case c1 => exact Ints.cells X0.out
        case c2 => intro u hu; simp at hu; obtain ⟨a, _, rfl⟩ := hu; rfl
        case c3 => first | (unfold maxLen; simp; omega) | (simp; omega)
        case c4 => simp; omega
        case c5 => simp
        intro v1 wp hown hgrow hnil hat
        obtain ⟨B, hB⟩ : ∃ B, (World.heap wn).size = B := ⟨_, rfl⟩
        have lt5 : ∀ i, (Value.slice (some ⟨(World.heap wn).size, 0, none⟩) 0 0).ownBlock = some i → B ≤ i := fun i e => by rw [← hB]; exact Own.lt O0.out i e
        rw [hB] at hown hWB hltX
        have HB : Hid _ := hB
        have O : Hid (Own wp B v1 xs) := (by first | exact hown | exact Own.app0 hown)
        have N : Hid (v1 ≠ .slice none 0 0) := (by first | exact hnil | exact fun e => absurd (hnil.1 e).2 (by simp) | exact fun e => absurd (hnil.1 e).1 (by simp))
        have Tn : Hid (Below w.heap.size w wp) := Below.own (Below.al T.out _) hgrow (fun i e => by have := lt5 i e; omega)
        have Xn : Hid _ := Ints.gr (Ints.al X.out _) hgrow (fun i e h0 => by have := lt5 i e; omega)
        clear hown hgrow lt5 hnil hat hB O0 X0
        clear T X
        have T := Tn
        have X := Xn
        clear Tn Xn
        obtain ⟨wn, hwq⟩ : ∃ w0, w0 = wp := ⟨_, rfl⟩
        subst hwq
        obtain ⟨b2, c2, rfl, hB2, i2, f2, l2, m2⟩ := Own.opened O.out (by omega)
        have hbB : b < B := hltX (by omega)
        have c1 : wn.cell? ⟨b2, k, none⟩ = some (.int .i64 (nth xs k)) := by have := i2 k hlt; simpa using this
        have f1 := f2 k
        obtain ⟨z0, z1⟩ := HV.out.2 k hlt
        have O2 : Hid (Own (wn.setCell ⟨b2, k, none⟩ (.int .i64 (nth xs k + 1))) B (.slice (some ⟨b2, 0, none⟩) xs.length c2) (xs.set k (nth xs k + 1))) := (Own.stored O.out k (nth xs k + 1)).1
        have T2 : Hid (Below w.heap.size w (wn.setCell ⟨b2, k, none⟩ (.int .i64 (nth xs k + 1)))) := Below.st (p := ⟨b2, k, none⟩) T.out (by show _ ≤ b2; omega) (.int .i64 (nth xs k + 1))
        have X2 : Hid (Ints (wn.setCell ⟨b2, k, none⟩ (.int .i64 (nth xs k + 1))) b 0 xs) := Ints.away X.out (by omega)
        clear i2 f2 O T X N
        go_wp2_with fail
        go_roundw
        case rel => exact ⟨k + 1, by omega, by go_num, X2.out, T2.out⟩
        case measure => simp [intOf]; omega
      · obtain rfl : k = xs.length := by omega
        have E : Hid (dcB xs (m + 1) = false) := dcB_f (by have := HD.out; omega)
        obtain ⟨wn, hwq⟩ : ∃ w0, w0 = wr := ⟨_, rfl⟩
        subst hwq
        go_wp2_with fail
        refine Calls.mono (iDiscard_c b 0 _ cp xs (m + 1) _ X.out rfl (by omega)) ?_
        intro e wn hh
        obtain ⟨he, hb⟩ := (by first | exact hh | exact Ro.mk hh | exact St.mk hh | exact LawOk.mk' hh : Mk _ _ e wn)
        subst he
        have Tn : Hid (Below w.heap.size w wn) := below_next T.out hb
        have Xn : Hid _ := Ints.below X.out hb
        clear hb hh
        clear T X
        have T := Tn
        have X := Xn
        clear Tn Xn
        rw [E.out]
        go_wp2_with fail
        go_ret
        first | exact LawOk.mk T.out | exact LawOk.mk (Below.dr T.out _)
end Go.Proofs.Ytahfkeogfoejmaa
