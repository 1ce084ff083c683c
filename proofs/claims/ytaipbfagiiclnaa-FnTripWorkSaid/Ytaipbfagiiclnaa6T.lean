/- What the drawing functions of chapter 6 give. -/
import Derived.Test.YtaipbfagiiclnaaT
import Derived.Test.YtaipbfagiiclnaaK
import Derived.Test.Ytaipbfagiiclnaa6P
namespace Go.Proofs.Ytaipbfagiiclnaa
open Go.RowKit
set_option linter.unusedVariables false

/-- A drawn list of any numbers. -/
def DrawnW (w : World) (g : Nat) (n : Nat) (e : Ending) (w' : World) : Prop := ∃ (b off cap : Nat) (xs : List Int), e = .returned (.slice (some ⟨b, off, none⟩) xs.length cap) ∧ xs.length ≤ n ∧ xs.length ≤ cap ∧ cap ≤ maxLen ∧ Ints w' b off xs ∧ Fr w g w'
theorem DrawnW.own {w w' : World} {g n B : Nat} {v : Value} {xs : List Int} (ho : Own w' B v xs) (hn : v ≠ .slice none 0 0) (hl : xs.length ≤ n) (hf : Fr w g w') : DrawnW w g n (.returned v) w' := by
  obtain ⟨b, cap, rfl, _, _, hI, hcl, hcm⟩ := Own.some ho hn
  exact ⟨b, 0, cap, xs, rfl, hl, hcl, hcm, hI, hf⟩
theorem one_row (w : World) (x y : Int) : Ints (w.alloc (.cells #[.int .i64 x, .int .i64 y] 3)) w.heap.size 0 [x, y] := fun i hi => by
  have hi2 : i < 2 := hi
  rcases (by omega : i = 0 ∨ i = 1) with e | e <;> subst e <;> rw [World.cell?_alloc_at _ _ _ _ rfl] <;> rfl
theorem Ints.cells {w : World} {b : Nat} {xs : List Int} (h : Ints w b 0 xs) : ∀ j u, (xs.map (Value.int .i64))[j]? = some u → w.cell? ((⟨b, 0, none⟩ : Addr).add j) = some u := fun j u hu => by
  have hj : j < xs.length := by
    have := List.getElem?_eq_some_iff.1 hu
    obtain ⟨h1, _⟩ := this
    simpa using h1
  have := h j hj
  rw [List.getElem?_map, List.getElem?_eq_getElem hj] at hu
  simp at hu
  subst hu
  by_cases e : j = 0
  · subst e; simpa [Addr.add, nth_eq hj] using this
  · simpa [Addr.add, e, nth_eq hj] using this
theorem nth_rep (n j : Nat) : nth (List.replicate n 0) j = 0 := by
  unfold nth
  simp only [List.getD, List.getElem?_replicate]
  split <;> rfl
set_option maxHeartbeats 1000000 in
theorem l20Weights_c (g c : Nat) (m : Int) (w : World) (hr : Rd w g c) (hc : c ≤ 100000) (hm0 : 0 < m) (hm1 : m ≤ 1000000) :
    Calls Try.prog 32 #[.pointer (some ⟨g, 0, none⟩), .int .i64 m] w (DrawnW w g 9) := by
  obtain ⟨i0, hi, hz0, hz1, hz2⟩ := info_parts infoInt
  have HR : Hid _ := Rd.alloc hr (.cells #[] 3)
  have HF : Hid (Fr w g (w.alloc (.cells #[] 3))) := Fr.alloc (Fr.refl w g) _
  have hgl := hr.lt
  have HO := Own.none (w := w)
  obtain ⟨B, hB⟩ : ∃ B, w.heap.size = B := ⟨_, rfl⟩
  rw [hB] at HO hgl
  have HB : Hid _ := hB
  have HO' : Hid _ := HO
  clear HO hB hr
  go_enter Try.func32, Try.ntmps32
  go_wp2_with fail
  rw [HB.out]
  refine (pick_c g c 9 _ HR.out (by omega) (by omega)).mono ?_
  rintro e w1 ⟨v, rfl, h0, h1, h2, h3, h4⟩
  have F1 : Hid (Fr w g w1) := Fr.trans HF.out h3
  have O1 : Hid (Own w1 B (.slice (some ⟨B, 0, none⟩) 0 0) []) := Own.kept HO'.out h3 hgl
  have R1 : Hid _ := h2
  have hv : v ≤ 8 := by omega
  clear h2 h3 h4 h1 HO' HF HR
  go_wp2_with fail
  go_loopw [5, 6] (fun vo vk wr => ∃ (xs : List Int) (k c' : Nat), vk = .int .i64 k ∧ k ≤ 8 ∧ xs.length + k ≤ 8 ∧ Own wr B vo xs ∧ vo ≠ .slice none 0 0 ∧ Rd wr g c' ∧ c' + k ≤ c + 9 ∧ Fr w g wr) (fun _ vk _ => (intOf vk).toNat)
  case atStart =>
    obtain ⟨k, rfl⟩ := Int.eq_ofNat_of_zero_le h0
    exact ⟨[], k, c + 1, rfl, by omega, by simp; omega, O1.out, by simp, R1.out, by omega, F1.out⟩
  case round =>
    clear F1 O1 R1 h0 hv
    obtain ⟨xs, k, c', rfl, hk, hx, ho, hn, hr, hc', hf⟩ := hrel
    have HOw : Hid _ := ho
    have HN : Hid _ := hn
    have HRd : Hid _ := hr
    have HFr : Hid _ := hf
    clear ho hn hr hf
    by_cases hk0 : 0 < k
    · have hkI : (0 : Int) < (k : Int) := by omega
      go_wp2_with fail
      refine (pick_c g c' 12 _ HRd.out (by omega) (by omega)).mono ?_
      rintro e w2 ⟨q, rfl, q0, q1, q2, q3, q4⟩
      have hq : q ≤ 11 := by omega
      have O2 : Hid (Own w2 B u5 xs) := Own.kept HOw.out q3 hgl
      have F2 : Hid (Fr w g w2) := Fr.trans HFr.out q3
      have R2 : Hid _ := q2
      clear q1 q2 q3 q4
      go_wp2_with ((at_builtin; refine wpList_append_own _ rfl _ _ 23 rfl B 3 i0 (.int .i64 0) 1 8 Try.underlying23 hi hz0 hz1 hz2 rfl (by decide) _ _ _ rfl (Own.alloc O2.out _) ⟨w2.heap.size, 0, none⟩ 1 1 [.int .i64 (1 + q)] rfl rfl ?c1 ?c2 ?c3 ?c4 ?c5 ?_))
      case c1 => exact cell_one_new _ _ _
      case c2 => intro u hu; simp at hu; subst hu; rfl
      case c3 => unfold maxLen; omega
      case c4 => omega
      case c5 => rw [← HB.out]; simp; have := F2.out.size; omega
      intro v' w3 hown hgrow hnil
      have O4 : Hid (Own w3 B v' (xs ++ [1 + q])) := Own.snoc hown
      have N4 : Hid (v' ≠ .slice none 0 0) := (by first | exact hnil | exact fun e => absurd (hnil.1 e).2 (by simp))
      have lt5 : ∀ i, u5.ownBlock = some i → B ≤ i := Own.lt O2.out
      have R4 : Hid (Rd w3 g (c' + 1)) := Rd.grown (Rd.alloc R2.out _) hgrow (fun i e => by have := lt5 i e; omega)
      have F4 : Hid (Fr w g w3) := Fr.own (Fr.alloc F2.out _) hgrow (fun i e => by rw [HB.out]; exact lt5 i e)
      clear hown hgrow lt5 hnil
      go_wp2_with fail
      go_roundw
      case rel => exact ⟨xs ++ [1 + q], k - 1, c' + 1, by go_num, by omega, by simp; omega, O4.out, N4.out, R4.out, by omega, F4.out⟩
      case measure => simp [intOf]; omega
    · obtain rfl : k = 0 := by omega
      go_wp2_with fail
      refine (odd_c g c' m _ HRd.out (by omega) hm1 hm0).mono ?_
      rintro e w2 ⟨q, j, rfl, hj, q2, q3, q4⟩
      have O2 : Hid (Own w2 B u5 xs) := Own.kept HOw.out q3 hgl
      have F2 : Hid (Fr w g w2) := Fr.trans HFr.out q3
      have R2 : Hid _ := q2
      clear q2 q3 q4 HOw HRd HFr
      cases q
      · go_wp2_with fail
        go_ret
        exact DrawnW.own O2.out HN.out (by omega) F2.out
      · go_wp2_with fail
        refine (pick_c g _ 2 _ R2.out (by omega) (by omega)).mono ?_
        rintro e w3 ⟨r, rfl, r0, r1, r2, r3, r4⟩
        have O3 : Hid (Own w3 B u5 xs) := Own.kept O2.out r3 hgl
        have F3 : Hid (Fr w g w3) := Fr.trans F2.out r3
        have R3 : Hid _ := r2
        clear r1 r2 r3 r4 O2 F2 R2
        by_cases e0 : r = 0
        · have t0 : (r == 0) = true := by simp [e0]
          have hmk : (Instr.makeSlice 23 (.int .i64 9) (.int .i64 9)).run Try.prog w3 = .ok (.slice (some ⟨w3.heap.size, 0, none⟩) 9 9) (w3.alloc (.cells (madeCells #[.int .i64 0] 9) 3)) := run_make_row' (P := Try.prog) 23 3 (.int .i64 0) 8 Try.underlying23 infoInt rfl .i64 .i64 9 (by omega) (by omega) w3
          clear e0
          go_wp2_with fail
          go_ret
          have hI : Ints (w3.alloc (.cells (madeCells #[.int .i64 0] 9) 3)) w3.heap.size 0 (List.replicate 9 0) := ints_of_row (World.rowIs_made w3 (.int .i64 0) 9 3) (by simp) (fun j hj => by rw [nth_rep])
          exact ⟨_, 0, 9, List.replicate 9 0, rfl, by simp, by simp, by unfold maxLen; omega, hI, Fr.alloc F3.out _⟩
        · have t0 : (r == 0) = false := by simp [e0]
          obtain ⟨b, cap, rfl, hb0, hb1, hI, hcl, hcm⟩ := Own.some O3.out HN.out
          obtain ⟨H, hH⟩ : ∃ H, w3.heap.size = H := ⟨_, rfl⟩
          have HH : Hid _ := hH
          have J : Hid (Ints (w3.alloc (.cells #[.int .i64 0, .int .i64 41] 3)) H 0 [0, 41]) := by rw [← hH]; exact one_row w3 0 41
          have hgH := Rd.lt R3.out
          rw [hH] at hb1 hgH
          have hbH : b ≠ H := by omega
          have hgH' : H ≠ g := by omega
          have hbg : b ≠ g := by omega
          have I3 : Hid (Ints (w3.alloc (.cells #[.int .i64 0, .int .i64 41] 3)) b 0 xs) := Ints.below hI ((Below.refl _ _).alloc (Nat.le_refl _) _)
          have RA : Hid _ := Rd.alloc R3.out (.cells #[.int .i64 0, .int .i64 41] 3)
          have FA : Hid (Fr w g _) := Fr.alloc F3.out (.cells #[.int .i64 0, .int .i64 41] 3)
          clear e0 hH hI O3 F3 R3 hb1
          go_wp2_with fail
          rw [HH.out]
          refine (pick_c g _ 2 _ RA.out (by omega) (by omega)).mono ?_
          rintro e w4 ⟨p, rfl, p0, p1, v2, v3, v4⟩
          obtain ⟨z, rfl⟩ := Int.eq_ofNat_of_zero_le p0
          have hz : z < 2 := by omega
          have hzI : (z : Int) < 2 := by omega
          have J4 := Ints.fr J.out v3 hgH'
          have c5 : w4.cell? ⟨H, z, none⟩ = some (.int .i64 (nth [0, 41] z)) := by have := J4 z hz; simpa using this
          obtain ⟨x, hx'⟩ : ∃ x, nth [0, 41] z = x := ⟨_, rfl⟩
          rw [hx'] at c5
          have I4 : Hid (Ints w4 b 0 xs) := Ints.fr I3.out v3 hbg
          have F4 : Hid (Fr w g w4) := Fr.trans FA.out v3
          clear p0 p1 v2 v3 v4 J J4 I3 RA FA hx'
          have ON : Hid _ := Own.new (w := w4) x
          have I5 : Hid (Ints (w4.alloc (.cells #[.int .i64 x] 3)) b 0 xs) := Ints.below I4.out ((Below.refl _ _).alloc (Nat.le_refl _) _)
          have F5 : Hid (Fr w g (w4.alloc (.cells #[.int .i64 x] 3))) := Fr.alloc F4.out _
          have s4 : Hid (w.heap.size ≤ w4.heap.size) := F4.out.size
          go_wp2_with ((at_builtin; refine wpList_append_own _ rfl _ _ 23 rfl w4.heap.size 3 i0 (.int .i64 0) 1 8 Try.underlying23 hi hz0 hz1 hz2 rfl (by decide) _ _ _ rfl ON.out ⟨b, 0, none⟩ xs.length cap (xs.map (Value.int .i64)) rfl (by simp) ?c1 ?c2 ?c3 ?c4 ?c5 ?_))
          case c1 => exact Ints.cells I5.out
          case c2 => intro u hu; simp at hu; obtain ⟨a, _, rfl⟩ := hu; rfl
          case c3 => unfold maxLen; simp; omega
          case c4 => simp; omega
          case c5 => simp
          intro v' w5 hown hgrow hnil
          have O6 : Own w5 w4.heap.size v' (x :: xs) := by
            unfold Own
            have h : (x :: xs).length = [x].length + xs.length := by simp; omega
            rw [h]; simpa using hown
          have N6 : v' ≠ .slice none 0 0 := (by first | exact hnil | exact fun e => absurd (hnil.1 e).1 (by simp))
          have F6 : Fr w g w5 := Fr.own F5.out hgrow (fun i e => by
            simp [Value.ownBlock] at e; have := s4.out; omega)
          have D : Hid _ := DrawnW.own (n := 9) O6 N6 (by simp; omega) F6
          clear hown hgrow hnil O6 N6 F6
          go_wp2_with fail
          go_ret
          exact D.out
end Go.Proofs.Ytaipbfagiiclnaa
