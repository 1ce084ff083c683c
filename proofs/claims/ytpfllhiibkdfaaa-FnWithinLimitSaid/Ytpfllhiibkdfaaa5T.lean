/- What the drawing functions of chapter 5 give: measured speeds. -/
import Derived.Test.Ytpfllhiibkdfaaa3U
import Derived.Test.Ytpfllhiibkdfaaa5P
namespace Go.Proofs.Ytpfllhiibkdfaaa
open Go.RowKit
set_option linter.unusedVariables false

def two (x y j : Int) : Int := if j = 0 then x else y
/-- A row of two, read at an index. -/
theorem box_two {w : World} {b : Nat} {x y j : Int} (h : Box w b x y) (h0 : 0 ≤ j) (h1 : j ≤ 1) : w.cell? ⟨b, j.toNat, none⟩ = some (.int .i64 (two x y j)) := by
  rcases (by omega : j = 0 ∨ j = 1) with e | e <;> subst e
  · exact h.1.1
  · exact h.1.2
def msp : List Int := [0, 0, 3, -4, 5, 6, -6, 7, -9]
theorem msp_bd : ∀ v : Nat, v < 9 → -9 ≤ nth msp v ∧ nth msp v ≤ 7 := by
  intro v hv
  rcases (by omega : v = 0 ∨ v = 1 ∨ v = 2 ∨ v = 3 ∨ v = 4 ∨ v = 5 ∨ v = 6 ∨ v = 7 ∨ v = 8) with e | e | e | e | e | e | e | e | e <;> subst e <;> decide
theorem msp_row (w : World) : Ints (w.alloc (.cells #[.int .i64 0, .int .i64 0, .int .i64 3, .int .i64 (-4), .int .i64 5, .int .i64 6, .int .i64 (-6), .int .i64 7, .int .i64 (-9)] 3)) w.heap.size 0 msp := fun i hi => by
  have hi9 : i < 9 := hi
  rcases (by omega : i = 0 ∨ i = 1 ∨ i = 2 ∨ i = 3 ∨ i = 4 ∨ i = 5 ∨ i = 6 ∨ i = 7 ∨ i = 8) with e | e | e | e | e | e | e | e | e <;> subst e <;> rw [World.cell?_alloc_at _ _ _ _ rfl] <;> rfl
/-- Drawn speeds. -/
def DrawnS (w : World) (g c : Nat) (e : Ending) (w' : World) : Prop := ∃ (v : Value) (xs : List Int) (c' : Nat), e = .returned v ∧ xs.length ≤ 15 ∧ Own w' w.heap.size v xs ∧ (∀ i, i < xs.length → -9 ≤ nth xs i ∧ nth xs i ≤ 7) ∧ Rd w' g c' ∧ c' ≤ c + 16 ∧ Fr w g w'
set_option maxHeartbeats 1000000 in
theorem l20Measured_c (g c : Nat) (w : World) (hr : Rd w g c) (hc : c ≤ 100000) :
    Calls Try.prog 46 #[.pointer (some ⟨g, 0, none⟩)] w (DrawnS w g c) := by
  obtain ⟨i0, hi, hz0, hz1, hz2⟩ := info_parts infoInt
  have HR : Hid _ := Rd.alloc hr (.cells #[] 3)
  have HF : Hid (Fr w g (w.alloc (.cells #[] 3))) := Fr.alloc (Fr.refl w g) _
  have hgl := hr.lt
  have HO := Own.none (w := w)
  obtain ⟨B, hB⟩ : ∃ B, w.heap.size = B := ⟨_, rfl⟩
  rw [hB] at HO hgl
  have HB : Hid _ := hB
  have HO' : Hid _ := HO
  clear HO hB hr
  go_enter Try.func46, Try.ntmps46
  go_wp2_with fail
  rw [HB.out]
  refine (pick_c g c 16 _ HR.out (by omega) (by omega)).mono ?_
  rintro e w1 ⟨v, rfl, h0, h1, h2, h3, h4⟩
  have F1 : Hid (Fr w g w1) := Fr.trans HF.out h3
  have O1 : Hid (Own w1 B (.slice (some ⟨B, 0, none⟩) 0 0) []) := Own.kept HO'.out h3 hgl
  have R1 : Hid _ := h2
  have hv : v ≤ 15 := by omega
  clear h2 h3 h4 h1 HO' HF HR
  go_wp2_with fail
  go_loopw [3, 4] (fun vo vk wr => ∃ (xs : List Int) (k c' : Nat), vk = .int .i64 k ∧ k ≤ 15 ∧ xs.length + k ≤ 15 ∧ Own wr B vo xs ∧ (∀ i, i < xs.length → -9 ≤ nth xs i ∧ nth xs i ≤ 7) ∧ Rd wr g c' ∧ c' + k ≤ c + 16 ∧ Fr w g wr) (fun _ vk _ => (intOf vk).toNat)
  case atStart =>
    obtain ⟨k, rfl⟩ := Int.eq_ofNat_of_zero_le h0
    exact ⟨[], k, c + 1, rfl, by omega, by simp; omega, O1.out, by simp, R1.out, by omega, F1.out⟩
  case round =>
    clear F1 O1 R1 h0 hv
    obtain ⟨xs, k, c', rfl, hk, hx, ho, hb, hr, hc', hf⟩ := hrel
    have HBd : Hid _ := hb
    by_cases hk0 : 0 < k
    · have hkI : (0 : Int) < (k : Int) := by omega
      have OA : Hid _ := Own.alloc ho (.cells #[.int .i64 0, .int .i64 0, .int .i64 3, .int .i64 (-4), .int .i64 5, .int .i64 6, .int .i64 (-6), .int .i64 7, .int .i64 (-9)] 3)
      have RA : Hid _ := Rd.alloc hr (.cells #[.int .i64 0, .int .i64 0, .int .i64 3, .int .i64 (-4), .int .i64 5, .int .i64 6, .int .i64 (-6), .int .i64 7, .int .i64 (-9)] 3)
      have FA : Hid (Fr w g _) := Fr.alloc hf (.cells #[.int .i64 0, .int .i64 0, .int .i64 3, .int .i64 (-4), .int .i64 5, .int .i64 6, .int .i64 (-6), .int .i64 7, .int .i64 (-9)] 3)
      have MA : Hid _ := msp_row wr
      have hgH : g ≠ wr.heap.size := Nat.ne_of_lt (Rd.lt hr)
      clear ho hr hf hb
      obtain ⟨H, hH⟩ : ∃ H, wr.heap.size = H := ⟨_, rfl⟩
      have HH : Hid _ := hH
      have MA' : Hid (Ints (wr.alloc (.cells #[.int .i64 0, .int .i64 0, .int .i64 3, .int .i64 (-4), .int .i64 5, .int .i64 6, .int .i64 (-6), .int .i64 7, .int .i64 (-9)] 3)) H 0 msp) := by rw [← hH]; exact MA.out
      rw [hH] at hgH
      clear MA hH
      go_wp2_with fail
      rw [HH.out]
      refine (pick_c g c' 9 _ RA.out (by omega) (by omega)).mono ?_
      rintro e w2 ⟨q, rfl, q0, q1, q2, q3, q4⟩
      obtain ⟨j, rfl⟩ := Int.eq_ofNat_of_zero_le q0
      have hj : j < 9 := by omega
      have O2 : Hid (Own w2 B u3 xs) := Own.kept OA.out q3 hgl
      have F2 : Hid (Fr w g w2) := Fr.trans FA.out q3
      have R2 : Hid _ := q2
      have M2 := Ints.fr MA'.out q3 (fun e => hgH e.symm)
      have c5 : w2.cell? ⟨H, j, none⟩ = some (.int .i64 (nth msp j)) := by have := M2 j hj; simpa using this
      have mb := msp_bd j hj
      obtain ⟨x, hx'⟩ : ∃ x, nth msp j = x := ⟨_, rfl⟩
      rw [hx'] at c5 mb
      obtain ⟨mb0, mb1⟩ := mb
      have hjI : (j : Int) < 9 := by omega
      clear q1 q2 q3 q4 M2 hx' MA' q0
      go_wp2_with ((at_builtin; refine wpList_append_own _ rfl _ _ 37 rfl B 3 i0 (.int .i64 0) 1 8 Try.underlying37 hi hz0 hz1 hz2 rfl (by decide) _ _ _ rfl (Own.alloc O2.out _) ⟨w2.heap.size, 0, none⟩ 1 1 [.int .i64 x] rfl rfl ?c1 ?c2 ?c3 ?c4 ?c5 ?_))
      case c1 => exact cell_one_new _ _ _
      case c2 => intro u hu; simp at hu; subst hu; rfl
      case c3 => unfold maxLen; omega
      case c4 => omega
      case c5 => rw [← HB.out]; simp; have := F2.out.size; omega
      intro v' w3 hown hgrow _
      have O4 : Hid (Own w3 B v' (xs ++ [x])) := Own.snoc hown
      have lt5 : ∀ i, u3.ownBlock = some i → B ≤ i := Own.lt O2.out
      have R4 : Hid (Rd w3 g (c' + 1)) := Rd.grown (Rd.alloc R2.out _) hgrow (fun i e => by have := lt5 i e; omega)
      have F4 : Hid (Fr w g w3) := Fr.own (Fr.alloc F2.out _) hgrow (fun i e => by rw [HB.out]; exact lt5 i e)
      clear hown hgrow lt5
      go_wp2_with fail
      go_roundw
      case rel => exact ⟨xs ++ [x], k - 1, c' + 1, by go_num, by omega, by simp; omega, O4.out, nth_snoc (P := fun x => -9 ≤ x ∧ x ≤ 7) HBd.out ⟨mb0, mb1⟩, R4.out, by omega, F4.out⟩
      case measure => simp [intOf]; omega
    · obtain rfl : k = 0 := by omega
      have HOw : Hid _ := ho
      have HRd : Hid _ := hr
      have HFr : Hid _ := hf
      clear ho hr hf hb
      go_wp2_with fail
      go_ret
      exact ⟨u3, xs, c', rfl, by omega, by rw [HB.out]; exact HOw.out, HBd.out, HRd.out, by omega, HFr.out⟩
def DrawnG (w : World) (e : Ending) (w' : World) : Prop := ∃ (t : Bool) (p : Option Addr) (cp : Nat) (xs : List Int) (q : Option Addr) (cq : Nat) (ys : List Int), e = .returned (.tuple #[.bool t, .slice p xs.length cp, .slice q ys.length cq]) ∧ xs.length ≤ 15 ∧ ys.length ≤ 4 ∧ (∀ i, i < xs.length → -9 ≤ nth xs i ∧ nth xs i ≤ 7) ∧ Sl w' p xs ∧ Sl w' q ys ∧ Below w.heap.size w w'
theorem DrawGovernorRun_c (a : Option Addr) (n cap : Nat) (w : World) (hb : Byt w a n) (hn : n ≤ cap) (hcap : cap ≤ maxLen) :
    Calls Try.prog 23 #[.slice a n cap] w (DrawnG w) := by
  go_enter Try.func23, Try.ntmps23
  go_wp2_with fail
  refine (open_c a n cap _ hb hn hcap).mono ?_
  rintro e w1 ⟨g, hg, rfl, hr, hB⟩
  have T1 : Hid _ := hB
  have R1 : Hid _ := hr
  clear hr hB
  go_wp2_with fail
  refine (pick_c g _ 3 _ R1.out (by omega) (by omega)).mono ?_
  rintro e w2 ⟨z, rfl, z0, z1, hr, hf, _⟩
  have T2 : Hid (Below w.heap.size w w2) := Fr.below T1.out hf hg
  have R2 : Hid _ := hr
  clear hr hf z1
  go_wp2_with fail
  refine (l20Measured_c g _ _ R2.out (by omega)).mono ?_
  rintro e w6 ⟨lv, xs, c6, rfl, hx, ho, hxb, hr, hc6, hf⟩
  have T6 : Hid (Below w.heap.size w w6) := Fr.below T2.out hf hg
  have R6 : Hid _ := hr
  have O6 : Hid _ := ho
  have HXB : Hid _ := hxb
  have hg5 : g < w2.heap.size := Rd.lt R2.out
  clear hr hf ho hxb
  go_wp2_with fail
  refine (l20Times_c g _ _ R6.out (by omega)).mono ?_
  rintro e w7 ⟨lz, ys, c7, rfl, hy, ho, hyb, hr, hc7, hf⟩
  have T7 : Hid (Below w.heap.size w w7) := Fr.below T6.out hf hg
  obtain ⟨a1, k1, rfl, S1⟩ := Own.sl (Own.kept O6.out hf hg5)
  obtain ⟨a2, k2, rfl, S2⟩ := Own.sl ho
  have HS1 : Hid _ := S1
  have HS2 : Hid _ := S2
  clear S1 S2 hr hf ho hyb
  go_wp2_with fail
  go_ret3
  exact ⟨_, a1, k1, xs, a2, k2, ys, rfl, hx, hy, HXB.out, HS1.out, HS2.out, T7.out⟩
end Go.Proofs.Ytpfllhiibkdfaaa
