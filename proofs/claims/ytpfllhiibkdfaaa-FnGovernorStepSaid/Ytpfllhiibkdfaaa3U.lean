/- What the drawing functions of chapter 3 give beside a door. -/
import Derived.Test.Ytpfllhiibkdfaaa3T
namespace Go.Proofs.Ytpfllhiibkdfaaa
open Go.RowKit
set_option linter.unusedVariables false

theorem Own.none {w : World} : Own (w.alloc (.cells #[] 3)) w.heap.size (.slice (some ⟨w.heap.size, 0, Option.none⟩) 0 0) [] :=
  ⟨by simp, .inr ⟨w.heap.size, 0, #[], rfl, Nat.le_refl _, heap_alloc_new w _, Nat.le_refl _, by unfold maxLen; omega, rfl, by simp⟩⟩
theorem Own.sl2 {w : World} {B : Nat} {v : Value} {xs : List Int} (h : Own w B v xs) : ∃ a cap, v = .slice a xs.length cap ∧ ∀ w' : World, (∀ b, B ≤ b → ∀ i, w'.cell? ⟨b, i, Option.none⟩ = w.cell? ⟨b, i, Option.none⟩) → Sl w' a xs := by
  by_cases h1 : 1 ≤ xs.length
  · obtain ⟨b, cap, e, hb, hI, _⟩ := Own.opened h h1
    exact ⟨_, cap, e, fun w' hw => .inr ⟨b, 0, rfl, fun i hi => (hw b hb (0 + i)).trans (hI i hi)⟩⟩
  · obtain ⟨a, cap, e, _⟩ := Own.sl h
    exact ⟨a, cap, e, fun w' _ => .inl (List.length_eq_zero_iff.1 (by omega))⟩
theorem far_set (w : World) {B c : Nat} {u v : Value} (h : c < B) : ∀ b, B ≤ b → ∀ i, ((w.setCell ⟨c, 0, Option.none⟩ u).setCell ⟨c, 1, Option.none⟩ v).cell? ⟨b, i, Option.none⟩ = w.cell? ⟨b, i, Option.none⟩ := fun b hb i => by
  rw [World.cell?_setCell_other _ _ _ _ (fun e => by have := congrArg Addr.block e; simp only at this; omega), World.cell?_setCell_other _ _ _ _ (fun e => by have := congrArg Addr.block e; simp only at this; omega)]
/-- A drawn list of ticks. -/
def DrawnT (w : World) (g c : Nat) (e : Ending) (w' : World) : Prop := ∃ (v : Value) (xs : List Int) (c' : Nat), e = .returned v ∧ xs.length ≤ 4 ∧ Own w' w.heap.size v xs ∧ (∀ i, i < xs.length → 0 ≤ nth xs i ∧ nth xs i ≤ 19) ∧ Rd w' g c' ∧ c' ≤ c + 5 ∧ Fr w g w'
set_option maxHeartbeats 1000000 in
theorem l20Times_c (g c : Nat) (w : World) (hr : Rd w g c) (hc : c ≤ 100000) :
    Calls Try.prog 47 #[.pointer (some ⟨g, 0, none⟩)] w (DrawnT w g c) := by
  obtain ⟨i0, hi, hz0, hz1, hz2⟩ := info_parts infoInt
  have HR : Hid _ := Rd.alloc hr (.cells #[] 3)
  have HF : Hid (Fr w g (w.alloc (.cells #[] 3))) := Fr.alloc (Fr.refl w g) _
  have hgl := hr.lt
  have HO := Own.none (w := w)
  obtain ⟨B, hB⟩ : ∃ B, w.heap.size = B := ⟨_, rfl⟩
  rw [hB] at HO hgl
  have HB : Hid _ := hB
  have HO' : Hid _ := HO
  clear HO hB hr
  go_enter Try.func47, Try.ntmps47
  go_wp2_with fail
  rw [HB.out]
  refine (pick_c g c 5 _ HR.out (by omega) (by omega)).mono ?_
  rintro e w1 ⟨v, rfl, h0, h1, h2, h3, h4⟩
  have F1 : Hid (Fr w g w1) := Fr.trans HF.out h3
  have O1 : Hid (Own w1 B (.slice (some ⟨B, 0, none⟩) 0 0) []) := Own.kept HO'.out h3 hgl
  have R1 : Hid _ := h2
  have hv : v ≤ 4 := by omega
  clear h2 h3 h4 h1 HO' HF HR
  go_wp2_with fail
  go_loopw [3, 4] (fun vo vk wr => ∃ (xs : List Int) (k c' : Nat), vk = .int .i64 k ∧ k ≤ 4 ∧ xs.length + k ≤ 4 ∧ Own wr B vo xs ∧ (∀ i, i < xs.length → 0 ≤ nth xs i ∧ nth xs i ≤ 19) ∧ Rd wr g c' ∧ c' + k ≤ c + 5 ∧ Fr w g wr) (fun _ vk _ => (intOf vk).toNat)
  case atStart =>
    obtain ⟨k, rfl⟩ := Int.eq_ofNat_of_zero_le h0
    exact ⟨[], k, c + 1, rfl, by omega, by simp; omega, O1.out, by simp, R1.out, by omega, F1.out⟩
  case round =>
    clear F1 O1 R1 h0 hv
    obtain ⟨xs, k, c', rfl, hk, hx, ho, hb, hr, hc', hf⟩ := hrel
    have HOw : Hid _ := ho
    have HBd : Hid _ := hb
    have HRd : Hid _ := hr
    have HFr : Hid _ := hf
    clear ho hb hr hf
    by_cases hk0 : 0 < k
    · have hkI : (0 : Int) < (k : Int) := by omega
      go_wp2_with fail
      refine (pick_c g c' 20 _ HRd.out (by omega) (by omega)).mono ?_
      rintro e w2 ⟨q, rfl, q0, q1, q2, q3, q4⟩
      have hq : q ≤ 19 := by omega
      have O2 : Hid (Own w2 B u3 xs) := Own.kept HOw.out q3 hgl
      have F2 : Hid (Fr w g w2) := Fr.trans HFr.out q3
      have R2 : Hid _ := q2
      clear q1 q2 q3 q4
      go_wp2_with ((at_builtin; refine wpList_append_own _ rfl _ _ 37 rfl B 3 i0 (.int .i64 0) 1 8 Try.underlying37 hi hz0 hz1 hz2 rfl (by decide) _ _ _ rfl (Own.alloc O2.out _) ⟨w2.heap.size, 0, none⟩ 1 1 [.int .i64 q] rfl rfl ?c1 ?c2 ?c3 ?c4 ?c5 ?_))
      case c1 => exact cell_one_new _ _ _
      case c2 => intro u hu; simp at hu; subst hu; rfl
      case c3 => unfold maxLen; omega
      case c4 => omega
      case c5 => rw [← HB.out]; simp; have := F2.out.size; omega
      intro v' w3 hown hgrow _
      have O4 : Hid (Own w3 B v' (xs ++ [q])) := Own.snoc hown
      have lt5 : ∀ i, u3.ownBlock = some i → B ≤ i := Own.lt O2.out
      have R4 : Hid (Rd w3 g (c' + 1)) := Rd.grown (Rd.alloc R2.out _) hgrow (fun i e => by have := lt5 i e; omega)
      have F4 : Hid (Fr w g w3) := Fr.own (Fr.alloc F2.out _) hgrow (fun i e => by rw [HB.out]; exact lt5 i e)
      clear hown hgrow lt5
      go_wp2_with fail
      go_roundw
      case rel => exact ⟨xs ++ [q], k - 1, c' + 1, by go_num, by omega, by simp; omega, O4.out, nth_snoc (P := fun x => 0 ≤ x ∧ x ≤ 19) HBd.out ⟨by omega, by omega⟩, R4.out, by omega, F4.out⟩
      case measure => simp [intOf]; omega
    · obtain rfl : k = 0 := by omega
      go_wp2_with fail
      go_ret
      exact ⟨u3, xs, c', rfl, by omega, by rw [HB.out]; exact HOw.out, HBd.out, HRd.out, by omega, HFr.out⟩

def DrawnE (w : World) (e : Ending) (w' : World) : Prop := ∃ (a s : Int), e = .returned (Value.agg #[.int .i64 (a), .int .i64 (s)]) ∧ -1 ≤ a ∧ a ≤ 5 ∧ -1 ≤ s ∧ s ≤ 4 ∧ Below w.heap.size w w'
def DrawnE2 (w : World) (e : Ending) (w' : World) : Prop := ∃ (a s : Int) (u v : Bool), e = .returned (.tuple #[(Value.agg #[.int .i64 (a), .int .i64 (s)]), .bool u, .bool v]) ∧ -1 ≤ a ∧ a ≤ 5 ∧ -1 ≤ s ∧ s ≤ 4 ∧ Below w.heap.size w w'
def DrawnE3 (w : World) (e : Ending) (w' : World) : Prop := ∃ (a s t : Int) (p : Option Addr) (cp : Nat) (xs : List Int) (q : Option Addr) (cq : Nat) (ys : List Int), e = .returned (.tuple #[(Value.agg #[.int .i64 (a), .int .i64 (s)]), .int .i64 t, .slice p xs.length cp, .slice q ys.length cq]) ∧ -1 ≤ a ∧ a ≤ 5 ∧ -1 ≤ s ∧ s ≤ 4 ∧ -30 ≤ t ∧ t ≤ 103 ∧ xs.length ≤ 4 ∧ ys.length ≤ 4 ∧ (∀ i, i < xs.length → 0 ≤ nth xs i ∧ nth xs i ≤ 19) ∧ (∀ i, i < ys.length → 0 ≤ nth ys i ∧ nth ys i ≤ 19) ∧ Sl w' p xs ∧ Sl w' q ys ∧ Below w.heap.size w w'
end Go.Proofs.Ytpfllhiibkdfaaa
