/- What the drawing functions of chapter 1 give. -/
import Derived.Test.YtgiioponimiddaaS
namespace Go.Proofs.Ytgiioponimiddaa
open Go.RowKit
set_option linter.unusedVariables false
set_option linter.unusedSimpArgs false

/-- A drawn list: any numbers of a bounded size. -/
def Drawn (w : World) (g c d : Nat) (n : Nat) (e : Ending) (w' : World) : Prop := ∃ (b off cap : Nat) (xs : List Int) (c' : Nat), e = .returned (.slice (some ⟨b, off, none⟩) xs.length cap) ∧ xs.length ≤ n ∧ xs.length ≤ cap ∧ cap ≤ maxLen ∧ (b ≠ g ∧ w.heap.size ≤ b) ∧ (∀ i, i < xs.length → 0 ≤ nth xs i ∧ nth xs i ≤ 1000) ∧ Ints w' b off xs ∧ Rd w' g c' ∧ c' ≤ c + d ∧ Fr w g w'

theorem Drawn.own {w w' : World} {g c d n c' B : Nat} {v : Value} {xs : List Int} (hB : w.heap.size = B) (hgB : g < B) (ho : Own w' B v xs) (h1 : 1 ≤ xs.length) (hl : xs.length ≤ n) (hb : ∀ i, i < xs.length → 0 ≤ nth xs i ∧ nth xs i ≤ 1000) (hr : Rd w' g c') (hc : c' ≤ c + d) (hf : Fr w g w') : Drawn w g c d n (.returned v) w' := by
  obtain ⟨b, cap, rfl, hb0, hI, _, hcl, hcm⟩ := Own.opened ho h1
  exact ⟨b, 0, cap, xs, c', rfl, hl, hcl, hcm, ⟨by omega, by omega⟩, hb, hI, hr, hc, hf⟩

set_option maxHeartbeats 1000000 in
theorem l20Floors_c (g c : Nat) (m : Int) (w : World) (hr : Rd w g c) (hc : c ≤ 100000) (hm0 : 0 < m) (hm1 : m ≤ 1000000) :
    Calls Try.prog 54 #[.pointer (some ⟨g, 0, none⟩), .int .i64 m] w (Drawn w g c 12 9) := by
  obtain ⟨i0, hi, hz0, hz1, hz2⟩ := info_parts infoInt
  have HR : Hid _ := hr
  have hgl := hr.lt
  clear hr
  have HO := Own.new (w := w) 0
  obtain ⟨B, hB⟩ : ∃ B, w.heap.size = B := ⟨_, rfl⟩
  rw [hB] at HO hgl
  have HB : Hid _ := hB
  have HO' : Hid _ := HO
  clear HO hB
  go_enter Try.func54, Try.ntmps54
  go_wp2_with fail
  refine (pick_c g c 8 _ (Rd.alloc HR.out _) (by omega) (by omega)).mono ?_
  rintro e w1 ⟨v, rfl, h0, h1, h2, h3, h4⟩
  have F1 : Fr w g w1 := ((Fr.refl w g).alloc _).trans h3
  have O1 : Own w1 B (.slice (some ⟨w.heap.size, 0, none⟩) 1 1) [0] := by have := Own.kept HO'.out h3 hgl; rw [HB.out]; exact this
  have hv : v ≤ 7 := by omega
  clear h3 h4 h1
  go_wp2_with fail
  go_loopw [5, 6, 7] (fun vo va vk wr => ∃ (xs : List Int) (at_ : Int) (k c' : Nat), vk = .int .i64 k ∧ k ≤ 7 ∧ va = .int .i64 at_ ∧ 0 ≤ at_ ∧ at_ + 10 * k ≤ 100 ∧ 1 ≤ xs.length ∧ xs.length + k ≤ 8 ∧ Own wr B vo xs ∧ (∀ i, i < xs.length → 0 ≤ nth xs i ∧ nth xs i ≤ 1000) ∧ Rd wr g c' ∧ c' + k ≤ c + 8 ∧ Fr w g wr) (fun _ _ vk _ => (intOf vk).toNat)
  case atStart =>
    obtain ⟨k, rfl⟩ := Int.eq_ofNat_of_zero_le h0
    exact ⟨[0], 0, k, c + 1, rfl, by omega, rfl, by omega, by omega, by simp, by simp; omega, O1, by simp [nth], h2, by omega, F1⟩
  case round =>
    clear F1 O1 h2 h0 hv HO'
    obtain ⟨xs, at_, k, c', rfl, hk7, rfl, ha0, ha1, hx1, hx2, ho, hb, hr, hc', hf⟩ := hrel
    have HOw : Hid _ := ho
    have HBd : Hid _ := hb
    have HRd : Hid _ := hr
    have HFr : Hid _ := hf
    clear ho hb hr hf
    by_cases hk : 0 < k
    · have hkI : (0 : Int) < (k : Int) := by omega
      go_wp2_with fail
      refine (pick_c g c' 6 _ HRd.out (by omega) (by omega)).mono ?_
      rintro e w2 ⟨q, rfl, q0, q1, q2, q3, q4⟩
      have hq : q ≤ 5 := by omega
      have O2 : Own w2 B u5 xs := Own.kept HOw.out q3 hgl
      have F2 : Hid (Fr w g w2) := Fr.trans HFr.out q3
      have R2 : Hid _ := q2
      have O3 : Hid _ := O2
      clear q1 q2 q3 q4 O2
      go_wp2_with ((at_builtin; refine wpList_append_own _ rfl _ _ 23 rfl B 3 i0 (.int .i64 0) 1 8 Try.underlying23 hi hz0 hz1 hz2 rfl (by decide) _ _ _ rfl (Own.alloc O3.out _) ⟨w2.heap.size, 0, none⟩ 1 1 [.int .i64 (at_ + 2 + q)] rfl rfl ?c1 ?c2 ?c3 ?c4 ?c5 ?_))
      case c1 => exact cell_one_new _ _ _
      case c2 => intro u hu; simp at hu; subst hu; rfl
      case c3 => unfold maxLen; omega
      case c4 => omega
      case c5 => rw [← HB.out]; simp; have := F2.out.size; omega
      intro v' w3 hown hgrow _
      have O4 : Hid (Own w3 B v' (xs ++ [at_ + 2 + q])) := Own.snoc hown
      have lt5 : ∀ i, u5.ownBlock = some i → B ≤ i := Own.lt O3.out
      have R4 : Hid (Rd w3 g (c' + 1)) := Rd.grown (Rd.alloc R2.out _) hgrow (fun i e => by have := lt5 i e; omega)
      have F4 : Hid (Fr w g w3) := Fr.own (Fr.alloc F2.out _) hgrow (fun i e => by rw [HB.out]; exact lt5 i e)
      clear hown hgrow lt5
      go_wp2_with fail
      go_roundw
      case rel => exact ⟨xs ++ [at_ + 2 + q], at_ + 2 + q, k - 1, c' + 1, by go_num, by omega, rfl, by omega, by omega, by simp, by simp; omega, O4.out, nth_snoc (P := fun x => 0 ≤ x ∧ x ≤ 1000) HBd.out ⟨by omega, by omega⟩, R4.out, by omega, F4.out⟩
      case measure => simp [intOf]; omega
    · obtain rfl : k = 0 := by omega
      go_wp2_with fail
      refine (odd_c g c' m _ HRd.out (by omega) hm1 hm0).mono ?_
      rintro e w2 ⟨q, j, rfl, hj, q2, q3, q4⟩
      have O2 : Own w2 B u5 xs := Own.kept HOw.out q3 hgl
      have F2 : Hid (Fr w g w2) := Fr.trans HFr.out q3
      have R2 : Hid _ := q2
      have O3 : Hid _ := O2
      clear q2 q3 q4 O2
      cases q
      · go_wp2_with fail
        go_ret
        exact Drawn.own HB.out hgl O3.out hx1 (by omega) HBd.out R2.out (by omega) F2.out
      · go_wp2_with fail
        refine (pick_c g _ 4 _ R2.out (by omega) (by omega)).mono ?_
        rintro e w3 ⟨r, rfl, r0, r1, r2, r3, r4⟩
        have O5 : Hid (Own w3 B u5 xs) := Own.kept O3.out r3 hgl
        have F3 : Hid (Fr w g w3) := Fr.trans F2.out r3
        have R3 : Hid _ := r2
        clear r1 r2 r3 r4
        obtain ⟨h, cap, rfl, hh, hI, hfz, hcl, hcm⟩ := Own.opened O5.out hx1
        have c0 : w3.cell? ⟨h, 0, none⟩ = some (.int .i64 (nth xs 0)) := by simpa using hI 0 (by omega)
        have f0 := hfz 0
        have cl : w3.cell? ⟨h, xs.length - 1, none⟩ = some (.int .i64 (nth xs (xs.length - 1))) := by simpa using hI (xs.length - 1) (by omega)
        have hlI : (1 : Int) ≤ (xs.length : Int) := by omega
        have hnl := HBd.out (xs.length - 1) (by omega)
        have HNl : Hid _ := hnl
        have hgh : Hid (∀ k, (Value.slice (some ⟨h, 0, none⟩) xs.length cap).ownBlock = some k → B ≤ k) := Own.lt O5.out
        clear hI hfz hnl
        by_cases e0 : r = 0
        · subst e0
          go_wp2_with fail
          go_ret
          exact ⟨w3.heap.size, 0, _, [], _, rfl, by simp, by simp, by unfold maxLen; omega, ⟨by have := F3.out.size; have := HB.out; omega, F3.out.size⟩, fun i hi => by simp at hi, fun i hi => by simp at hi, Rd.alloc R3.out _, by omega, Fr.alloc F3.out _⟩
        by_cases e1 : r = 1
        · subst e1
          go_wp2_with fail
          go_ret
          exact Drawn.own HB.out hgl (Own.stored O5.out 0 1).1 (by simp; omega) (by simp; omega) (nth_set (P := fun x => 0 ≤ x ∧ x ≤ 1000) HBd.out (by omega)) (Rd.set R3.out _ (by omega)) (by omega) (Fr.set F3.out _ (by rw [HB.out]; exact hh))
        by_cases e2 : r = 2
        · subst e2
          go_wp2_with ((at_builtin; refine wpList_append_own _ rfl _ _ 23 rfl B 3 i0 (.int .i64 0) 1 8 Try.underlying23 hi hz0 hz1 hz2 rfl (by decide) _ _ _ rfl (Own.alloc O5.out _) ⟨w3.heap.size, 0, none⟩ 1 1 [.int .i64 (nth xs (xs.length - 1))] rfl rfl ?c1 ?c2 ?c3 ?c4 ?c5 ?_))
          case c1 => exact cell_one_new _ _ _
          case c2 => intro u hu; simp at hu; subst hu; rfl
          case c3 => unfold maxLen; omega
          case c4 => omega
          case c5 => rw [← HB.out]; simp; have := F3.out.size; omega
          intro v' w4 hown hgrow _
          have O6 : Hid (Own w4 B v' (xs ++ [nth xs (xs.length - 1)])) := Own.snoc hown
          have R6 : Hid (Rd w4 g _) := Rd.grown (Rd.alloc R3.out _) hgrow (fun i e => by have := hgh.out i e; omega)
          have F6 : Hid (Fr w g w4) := Fr.own (Fr.alloc F3.out _) hgrow (fun i e => by rw [HB.out]; exact hgh.out i e)
          clear hown hgrow
          go_wp2_with fail
          go_ret
          exact Drawn.own HB.out hgl O6.out (by simp) (by simp; omega) (nth_snoc (P := fun x => 0 ≤ x ∧ x ≤ 1000) HBd.out HNl.out) R6.out (by omega) F6.out
        · have t0 : (r == 0) = false := by simp [e0]
          have t1 : (r == 1) = false := by simp [e1]
          have t2 : (r == 2) = false := by simp [e2]
          clear e0 e1 e2
          go_wp2_with ((at_builtin; refine wpList_append_own _ rfl _ _ 23 rfl B 3 i0 (.int .i64 0) 1 8 Try.underlying23 hi hz0 hz1 hz2 rfl (by decide) _ _ _ rfl (Own.alloc O5.out _) ⟨w3.heap.size, 0, none⟩ 1 1 [.int .i64 61] rfl rfl ?c1 ?c2 ?c3 ?c4 ?c5 ?_))
          case c1 => exact cell_one_new _ _ _
          case c2 => intro u hu; simp at hu; subst hu; rfl
          case c3 => unfold maxLen; omega
          case c4 => omega
          case c5 => rw [← HB.out]; simp; have := F3.out.size; omega
          intro v' w4 hown hgrow _
          have O6 : Hid (Own w4 B v' (xs ++ [61])) := Own.snoc hown
          have R6 : Hid (Rd w4 g _) := Rd.grown (Rd.alloc R3.out _) hgrow (fun i e => by have := hgh.out i e; omega)
          have F6 : Hid (Fr w g w4) := Fr.own (Fr.alloc F3.out _) hgrow (fun i e => by rw [HB.out]; exact hgh.out i e)
          clear hown hgrow
          go_wp2_with fail
          go_ret
          exact Drawn.own HB.out hgl O6.out (by simp) (by simp; omega) (nth_snoc (P := fun x => 0 ≤ x ∧ x ≤ 1000) HBd.out ⟨by omega, by omega⟩) R6.out (by omega) F6.out

/-- A number drawn beside a list. -/
def At (w : World) (g c d : Nat) (e : Ending) (w' : World) : Prop := ∃ (x : Int) (c' : Nat), e = .returned (.int .i64 x) ∧ -1000 ≤ x ∧ x ≤ 1000 ∧ Rd w' g c' ∧ c' ≤ c + d ∧ Fr w g w'

/-- A drawn list and the numbers beside it: nothing that was there has changed. -/
def DrawnF (w : World) (e : Ending) (w' : World) : Prop := ∃ (b off cap : Nat) (xs : List Int), e = .returned (.slice (some ⟨b, off, none⟩) xs.length cap) ∧ xs.length ≤ 9 ∧ xs.length ≤ cap ∧ cap ≤ maxLen ∧ (∀ i, i < xs.length → 0 ≤ nth xs i ∧ nth xs i ≤ 1000) ∧ Ints w' b off xs ∧ Below w.heap.size w w'
def DrawnF1 (w : World) (e : Ending) (w' : World) : Prop := ∃ (b off cap : Nat) (xs : List Int) (x : Int), e = .returned (.tuple #[.slice (some ⟨b, off, none⟩) xs.length cap, .int .i64 x]) ∧ xs.length ≤ 9 ∧ xs.length ≤ cap ∧ cap ≤ maxLen ∧ (∀ i, i < xs.length → 0 ≤ nth xs i ∧ nth xs i ≤ 1000) ∧ -1000 ≤ x ∧ x ≤ 1000 ∧ Ints w' b off xs ∧ Below w.heap.size w w'
def DrawnF2 (w : World) (e : Ending) (w' : World) : Prop := ∃ (b off cap : Nat) (xs : List Int) (x y : Int), e = .returned (.tuple #[.slice (some ⟨b, off, none⟩) xs.length cap, .int .i64 x, .int .i64 y]) ∧ xs.length ≤ 9 ∧ xs.length ≤ cap ∧ cap ≤ maxLen ∧ (∀ i, i < xs.length → 0 ≤ nth xs i ∧ nth xs i ≤ 1000) ∧ -1000 ≤ x ∧ x ≤ 1000 ∧ -1000 ≤ y ∧ y ≤ 1000 ∧ Ints w' b off xs ∧ Below w.heap.size w w'

end Go.Proofs.Ytgiioponimiddaa
