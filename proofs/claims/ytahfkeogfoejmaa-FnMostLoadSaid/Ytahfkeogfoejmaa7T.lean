/- What the drawing functions of chapter 7 give. -/
import Derived.Test.YtahfkeogfoejmaaT
import Derived.Test.YtahfkeogfoejmaaK
import Derived.Test.Ytahfkeogfoejmaa7P
namespace Go.Proofs.Ytahfkeogfoejmaa
open Go.RowKit
set_option linter.unusedVariables false

/-- A drawn rope; the reader goes on behind it. -/
def DrawnR (w : World) (g c : Nat) (e : Ending) (w' : World) : Prop := ∃ (b cap : Nat) (xs : List Int) (c' : Nat), e = .returned (.slice (some ⟨b, 0, none⟩) xs.length cap) ∧ xs.length ≤ 25 ∧ xs.length ≤ cap ∧ cap ≤ maxLen ∧ b ≠ g ∧ Ints w' b 0 xs ∧ Rd w' g c' ∧ c' ≤ c + 60 ∧ Fr w g w'
theorem DrawnR.own {w w' : World} {g c c' B : Nat} {v : Value} {xs : List Int} (ho : Own w' B v xs) (hn : v ≠ .slice none 0 0) (hg : g < B) (hl : xs.length ≤ 25) (hr : Rd w' g c') (hc : c' ≤ c + 60) (hf : Fr w g w') : DrawnR w g c (.returned v) w' := by
  obtain ⟨b, cap, rfl, h1, _, hI, hcl, hcm⟩ := Own.some ho hn
  exact ⟨b, cap, xs, c', rfl, hl, hcl, hcm, by omega, hI, hr, hc, hf⟩
set_option maxHeartbeats 1000000 in
theorem l20Rope_c (g c : Nat) (m : Int) (w : World) (hr : Rd w g c) (hc : c ≤ 100000) (hm0 : 0 < m) (hm1 : m ≤ 1000000) :
    Calls Try.prog 32 #[.pointer (some ⟨g, 0, none⟩), .int .i64 m] w (DrawnR w g c) := by
  obtain ⟨i0, hi, hz0, hz1, hz2⟩ := info_parts infoInt
  have R : Hid _ := hr
  have F : Hid (Fr w g w) := Fr.refl w g
  clear hr
  go_enter Try.func32, Try.ntmps32
  have hglB := Rd.lt R.out
  obtain ⟨B, hB⟩ : ∃ B, Array.size (World.heap w) = B := ⟨_, rfl⟩
  have HB : Hid _ := hB
  rw [hB] at hglB
  have O : Hid (Own (w.alloc (.cells #[] 3)) B (.slice (some ⟨B, 0, none⟩) 0 0) []) := by rw [← hB]; exact Own.none
  have hBg : B ≠ g := by omega
  clear hB
  have Rn : Hid _ := Rd.alloc R.out (.cells #[] 3)
  have Fn : Hid (Fr w g _) := Fr.alloc F.out (.cells #[] 3)
  clear R F
  have R := Rn
  have F := Fn
  clear Rn Fn
  have hwB : w.heap.size ≤ B := by have := HB.out; omega
  go_wp2_with fail
  rw [HB.out]
  refine (pick_c g _ (5) _ R.out (by omega) (by omega)).mono ?_
  rintro e wn ⟨v, rfl, hv0, p1, v2, v3, v4⟩
  have hv : v ≤ 4 := by omega
  skip
  have Rn : Hid _ := v2
  have Fn : Hid (Fr w g _) := Fr.trans F.out v3
  have On : Hid _ := Own.kept O.out v3 hglB
  clear v3 v2 v4 p1
  clear R F O
  have R := Rn
  have F := Fn
  have O := On
  clear Rn Fn On
  clear HB
  go_wp2_with fail
  refine (pick_c g _ (25) _ R.out (by omega) (by omega)).mono ?_
  rintro e wn ⟨k, rfl, hk0, p1, v2, v3, v4⟩
  have hk : k ≤ 24 := by omega
  skip
  have Rn : Hid _ := v2
  have Fn : Hid (Fr w g _) := Fr.trans F.out v3
  have On : Hid _ := Own.kept O.out v3 hglB
  clear v3 v2 v4 p1
  clear R F O
  have R := Rn
  have F := Fn
  have O := On
  clear Rn Fn On
  go_wp2_with fail
  go_loopw [5, 7] (fun vo vk wr => ∃ (xs : List Int) (k c' : Nat), vk = .int .i64 k ∧ k ≤ 24 ∧ xs.length + k ≤ 24 ∧ Own wr B vo xs ∧ vo ≠ .slice none 0 0 ∧ Rd wr g c' ∧ c' + 2 * k ≤ c + 52 ∧ Fr w g wr) (fun _ vk _ => (intOf vk).toNat)
  case atStart =>
    obtain ⟨k, rfl⟩ := Int.eq_ofNat_of_zero_le hk0
    exact ⟨[], k, _, rfl, by omega, by simp; omega, O.out, by simp, R.out, by omega, F.out⟩
  case round =>
    clear O R F hk0 hk
    obtain ⟨xs, k, c', rfl, hk, hx, h1, h2, h3, hc', h4⟩ := hrel
    have O : Hid _ := h1
    have N : Hid _ := h2
    have R : Hid _ := h3
    have F : Hid _ := h4
    clear h1 h2 h3 h4
    by_cases hk0 : 0 < k
    · have hkI : (0 : Int) < (k : Int) := by omega
      go_wp2_with fail
      refine (pick_c g _ (6) _ R.out (by omega) (by omega)).mono ?_
      rintro e wn ⟨q, rfl, hq0, p1, v2, v3, v4⟩
      have hq : q ≤ 5 := by omega
      skip
      have Rn : Hid _ := v2
      have Fn : Hid (Fr w g _) := Fr.trans F.out v3
      have On : Hid _ := Own.kept O.out v3 hglB
      clear v3 v2 v4 p1
      clear R F O
      have R := Rn
      have F := Fn
      have O := On
      clear Rn Fn On
      by_cases ho : q < 1 + v
      · skip
        go_wp2_with fail
        refine (pick_c g _ (5) _ R.out (by omega) (by omega)).mono ?_
        rintro e wn ⟨x, rfl, hx0, p1, v2, v3, v4⟩
        have hx : x ≤ 4 := by omega
        skip
        have Rn : Hid _ := v2
        have Fn : Hid (Fr w g _) := Fr.trans F.out v3
        have On : Hid _ := Own.kept O.out v3 hglB
        clear v3 v2 v4 p1
        clear R F O
        have R := Rn
        have F := Fn
        have O := On
        clear Rn Fn On
        go_wp2_with ((at_builtin; refine wpList_append_wanted rfl _ _ 23 rfl B 3 i0 (.int .i64 0) 1 8 Try.underlying23 hi hz0 hz1 hz2 rfl (by decide) _ _ _ rfl (Own.alloc O.out _) _ 1 1 [.int .i64 (x)] rfl rfl ?c1 ?c2 ?c3 ?c4 ?c5 ?_))
        case c1 => exact cell_one_new _ _ _
        case c2 => intro u hu; simp at hu; subst hu; rfl
        case c3 => unfold maxLen; omega
        case c4 => omega
        case c5 => exact Own.base (Own.alloc O.out _) N.out
        intro v1 wn hown hgrow hnil hat
        have lt5 := Own.lt O.out
        have On : Hid (Own wn B v1 (xs ++ [x])) := Own.snoc hown
        have Nn : Hid (v1 ≠ .slice none 0 0) := (by first | exact hnil | exact fun e => absurd (hnil.1 e).2 (by simp) | exact fun e => absurd (hnil.1 e).1 (by simp))
        have Rn : Hid _ := Rd.grown (Rd.alloc R.out _) hgrow (fun i e => by have := lt5 i e; omega)
        have Fn : Hid (Fr w g _) := Fr.own (Fr.alloc F.out _) hgrow (fun i e => by have := lt5 i e; omega)
        clear hown hgrow lt5 hnil hat
        clear O N R F
        have O := On
        have N := Nn
        have R := Rn
        have F := Fn
        clear On Nn Rn Fn
        go_wp2_with fail
        go_roundw
        case rel => exact ⟨xs ++ [x], k - 1, _, by go_num, by omega, by simp; omega, O.out, N.out, R.out, by omega, F.out⟩
        case measure => simp [intOf]; omega
      · skip
        go_wp2_with ((at_builtin; refine wpList_append_wanted rfl _ _ 23 rfl B 3 i0 (.int .i64 0) 1 8 Try.underlying23 hi hz0 hz1 hz2 rfl (by decide) _ _ _ rfl (Own.alloc O.out _) _ 1 1 [.int .i64 (0)] rfl rfl ?c1 ?c2 ?c3 ?c4 ?c5 ?_))
        case c1 => exact cell_one_new _ _ _
        case c2 => intro u hu; simp at hu; subst hu; rfl
        case c3 => unfold maxLen; omega
        case c4 => omega
        case c5 => exact Own.base (Own.alloc O.out _) N.out
        intro v1 wn hown hgrow hnil hat
        have lt5 := Own.lt O.out
        have On : Hid (Own wn B v1 (xs ++ [0])) := Own.snoc hown
        have Nn : Hid (v1 ≠ .slice none 0 0) := (by first | exact hnil | exact fun e => absurd (hnil.1 e).2 (by simp) | exact fun e => absurd (hnil.1 e).1 (by simp))
        have Rn : Hid _ := Rd.grown (Rd.alloc R.out _) hgrow (fun i e => by have := lt5 i e; omega)
        have Fn : Hid (Fr w g _) := Fr.own (Fr.alloc F.out _) hgrow (fun i e => by have := lt5 i e; omega)
        clear hown hgrow lt5 hnil hat
        clear O N R F
        have O := On
        have N := Nn
        have R := Rn
        have F := Fn
        clear On Nn Rn Fn
        go_wp2_with fail
        go_roundw
        case rel => exact ⟨xs ++ [0], k - 1, _, by go_num, by omega, by simp; omega, O.out, N.out, R.out, by omega, F.out⟩
        case measure => simp [intOf]; omega
    · obtain rfl : k = 0 := by omega
      go_wp2_with fail
      refine (odd_c g _ (m) _ R.out (by omega) (by omega) (by omega)).mono ?_
      rintro e wn ⟨o, jo, rfl, hjo, v2, v3, v4⟩
      skip
      have Rn : Hid _ := v2
      have Fn : Hid (Fr w g _) := Fr.trans F.out v3
      have On : Hid _ := Own.kept O.out v3 hglB
      clear v3 v2 v4
      clear R F O
      have R := Rn
      have F := Fn
      have O := On
      clear Rn Fn On
      cases o
      · go_wp2_with fail
        go_ret
        exact DrawnR.own O.out N.out hglB (by omega) R.out (by omega) F.out
      · skip
        go_wp2_with fail
        refine (pick_c g _ (2) _ R.out (by omega) (by omega)).mono ?_
        rintro e wn ⟨r, rfl, hr0, p1, v2, v3, v4⟩
        have hr : r ≤ 1 := by omega
        skip
        have Rn : Hid _ := v2
        have Fn : Hid (Fr w g _) := Fr.trans F.out v3
        have On : Hid _ := Own.kept O.out v3 hglB
        clear v3 v2 v4 p1
        clear R F O
        have R := Rn
        have F := Fn
        have O := On
        clear Rn Fn On
        by_cases e0 : r = 0
        · have t0 : (r == 0) = true := by simp [e0]
          have hmk : (Instr.makeSlice 23 (.int .i64 25) (.int .i64 25)).run Try.prog wn = .ok (.slice (some ⟨wn.heap.size, 0, none⟩) 25 25) (wn.alloc (.cells (madeCells #[.int .i64 0] 25) 3)) := run_make_row' (P := Try.prog) 23 3 (.int .i64 0) 8 Try.underlying23 infoInt rfl .i64 .i64 25 (by omega) (by omega) wn
          clear e0
          go_wp2_with fail
          go_ret
          have hI : Ints (wn.alloc (.cells (madeCells #[.int .i64 0] 25) 3)) wn.heap.size 0 (List.replicate 25 0) := ints_of_row (World.rowIs_made wn (.int .i64 0) 25 3) (by simp) (fun j hj => by rw [nth_rep])
          have hgN := Rd.lt R.out
          exact ⟨_, 25, List.replicate 25 0, _, rfl, by simp, by simp, by unfold maxLen; omega, by omega, hI, Rd.alloc R.out _, by omega, Fr.alloc F.out _⟩
        · have t0 : (r == 0) = false := by simp [e0]
          obtain ⟨b, cap, rfl, hb0, hb1, hI, hcl, hcm⟩ := Own.some O.out N.out
          have X : Hid _ := hI
          have hbg : b ≠ g := by omega
          clear e0 hI O hb1 hb0
          have hglH := Rd.lt R.out
          obtain ⟨H, hH⟩ : ∃ H, Array.size (World.heap wn) = H := ⟨_, rfl⟩
          have HH : Hid _ := hH
          rw [hH] at hglH
          have J : Hid (Ints (wn.alloc (.cells #[.int .i64 (-1), .int .i64 10] 3)) H 0 [-1, 10]) := by rw [← hH]; exact one_row wn (-1) 10
          have hHg : H ≠ g := by omega
          clear hH
          have Rn : Hid _ := Rd.alloc R.out (.cells #[.int .i64 (-1), .int .i64 10] 3)
          have Fn : Hid (Fr w g _) := Fr.alloc F.out (.cells #[.int .i64 (-1), .int .i64 10] 3)
          have Xn : Hid _ := Ints.below X.out ((Below.refl _ _).alloc (Nat.le_refl _) (.cells #[.int .i64 (-1), .int .i64 10] 3))
          clear R F X
          have R := Rn
          have F := Fn
          have X := Xn
          clear Rn Fn Xn
          clear hglH
          go_wp2_with fail
          rw [HH.out]
          refine (pick_c g _ (2) _ R.out (by omega) (by omega)).mono ?_
          rintro e wn ⟨p, rfl, hp0, p1, v2, v3, v4⟩
          have hp : p ≤ 1 := by omega
          skip
          have Rn : Hid _ := v2
          have Fn : Hid (Fr w g _) := Fr.trans F.out v3
          have Xn : Hid _ := Ints.fr X.out v3 hbg
          have Jn : Hid _ := Ints.fr J.out v3 hHg
          clear v3 v2 v4 p1
          clear R F X J
          have R := Rn
          have F := Fn
          have X := Xn
          have J := Jn
          clear Rn Fn Xn Jn
          obtain ⟨z, rfl⟩ := Int.eq_ofNat_of_zero_le hp0
          have hz : z < 2 := by omega
          have hzI : (z : Int) < 2 := by omega
          have c5 : wn.cell? ⟨H, z, none⟩ = some (.int .i64 (nth [-1, 10] z)) := by have := J.out z hz; simpa using this
          obtain ⟨x, hx'⟩ : ∃ x, nth [-1, 10] z = x := ⟨_, rfl⟩
          rw [hx'] at c5
          clear hp0 J hx'
          have ON : Hid _ := Own.new (w := wn) x
          have I5 : Hid (Ints (wn.alloc (.cells #[.int .i64 x] 3)) b 0 xs) := Ints.al X.out _
          have R5 : Hid _ := Rd.alloc R.out (.cells #[.int .i64 x] 3)
          have F5 : Hid (Fr w g (wn.alloc (.cells #[.int .i64 x] 3))) := Fr.alloc F.out _
          have s4 : Hid (w.heap.size ≤ wn.heap.size) := F.out.size
          have g4 : Hid (g < wn.heap.size) := Rd.lt R.out
          go_wp2_with ((at_builtin; refine wpList_append_own _ rfl _ _ 23 rfl wn.heap.size 3 i0 (.int .i64 0) 1 8 Try.underlying23 hi hz0 hz1 hz2 rfl (by decide) _ _ _ rfl ON.out ⟨b, 0, none⟩ xs.length cap (xs.map (Value.int .i64)) rfl (by simp) ?c1 ?c2 ?c3 ?c4 ?c5 ?_))
          case c1 => exact Ints.cells I5.out
          case c2 => intro u hu; simp at hu; obtain ⟨a, _, rfl⟩ := hu; rfl
          case c3 => unfold maxLen; simp; omega
          case c4 => simp; omega
          case c5 => simp
          intro v' w5 hown hgrow hnil
          have O6 : Own w5 wn.heap.size v' (x :: xs) := by
            unfold Own
            have h : (x :: xs).length = [x].length + xs.length := by simp; omega
            rw [h]; simpa using hown
          have N6 : v' ≠ .slice none 0 0 := (by first | exact hnil | exact fun e => absurd (hnil.1 e).1 (by simp))
          have F6 : Fr w g w5 := Fr.own F5.out hgrow (fun i e => by
            simp [Value.ownBlock] at e; have := s4.out; omega)
          have R6 := Rd.grown R5.out hgrow (fun i e => by
            simp [Value.ownBlock] at e; have := g4.out; omega)
          have D : Hid _ := DrawnR.own (c := c) O6 N6 g4.out (by simp; omega) R6 (by omega) F6
          clear hown hgrow hnil O6 N6 F6 R6
          go_wp2_with fail
          go_ret
          exact D.out
end Go.Proofs.Ytahfkeogfoejmaa
