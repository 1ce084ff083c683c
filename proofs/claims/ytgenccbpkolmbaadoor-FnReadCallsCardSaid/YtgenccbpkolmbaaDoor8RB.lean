/- Texts read: readRow. -/
import Derived.Test.YtgenccbpkolmbaaDoor8RA
namespace Go.Proofs.YtgenccbpkolmbaaDoor
open Go.RowKit
set_option linter.unusedVariables false

theorem bits_len (s : ByteArray) : (bits s.data.toList).length = s.size := by rw [Lib.size_eq]; simp [bits]
theorem bn_bits {s : ByteArray} {k : Nat} (h : k < s.size) : bn (bits s.data.toList) k = bit (ub s k) := by
  have h' : k < s.data.toList.length := by rw [← Lib.size_eq]; exact h
  rw [bn_eq (by rw [bits_len]; exact h)]
  unfold bits ub
  rw [List.getElem_map, List.getD_eq_getElem?_getD, List.getElem?_eq_getElem h', Option.getD_some]
theorem bit_int (c : UInt8) : ((c.toNat : Int) == 49) = bit c := by
  unfold bit
  by_cases h : c = 49
  · subst h; rfl
  · rw [beq_false_of_ne h]
    refine beq_false_of_ne fun e => h (UInt8.toNat_inj.1 ?_)
    have : c.toNat = 49 := by omega
    rw [this]; rfl
set_option maxHeartbeats 1000000 in
theorem readRow_c (s : ByteArray) (w : World) (hs : s.size ≤ 1048576) : Calls Tryd.prog 29 #[.string s] w fun e w' => ∃ G, e = .returned (.slice (some ⟨G, 0, none⟩) s.size s.size) ∧ OwnB w' w.heap.size (.slice (some ⟨G, 0, none⟩) s.size s.size) (bits s.data.toList) ∧ Below w.heap.size w w' := by
  have hmk := run_make_row' (P := Tryd.prog) 23 4 (.bool false) 1 Tryd.underlying23 infoBool rfl .i64 .i64 s.size (by omega) (by omega)
  go_enter Tryd.func29, Tryd.ntmps29
  go_wp2
  have R0 := World.rowIs_made w (.bool false) s.size 4
  have B0 : Below w.heap.size w (w.alloc (.cells (madeCells #[.bool false] s.size) 4)) := (Below.refl _ _).alloc (Nat.le_refl _) _
  clear hmk
  generalize hw0 : w.alloc (.cells (madeCells #[.bool false] s.size) 4) = w0 at *
  clear hw0
  obtain ⟨G, hG⟩ : ∃ G, w.heap.size = G := ⟨_, rfl⟩
  have HG := Lib.hid hG
  rw [hG] at R0
  rw [hG]
  clear hG
  go_loopw [10] (fun v wr => ∃ k : Nat, k ≤ s.size ∧ v = .int .i64 k ∧ Below w.heap.size w wr ∧ wr.rowIs G 4 s.size (fun j => .bool (if j < k then bn (bits s.data.toList) j else false))) (fun v _ => s.size - (intOf v).toNat)
  case atStart => exact ⟨0, by omega, rfl, B0, R0.congr (fun i hi => by simp)⟩
  case round =>
    clear R0 B0
    obtain ⟨k, hk, rfl, hb, hr⟩ := hrel
    by_cases hlt : k < s.size
    · have hlti : (k : Int) < (s.size : Int) := by omega
      have hix := index_s s k hlt
      have hbit := bit_int (ub s k)
      rw [← bn_bits hlt] at hbit
      obtain ⟨c, hc⟩ : ∃ c, ub s k = c := ⟨_, rfl⟩
      rw [hc] at hix hbit
      have c2 : wr.cell? ⟨G, k, none⟩ = some (.bool (if k < k then bn (bits s.data.toList) k else false)) := hr.cell hlt
      have c3 : wr.frozen? ⟨G, k, none⟩ = false := hr.frozen k
      have hr2 := hr.set k (.bool (bn (bits s.data.toList) k))
      have hb2 := hb.setCell (p := ⟨G, k, none⟩) (by rw [HG.out]; exact Nat.le_refl _) (.bool (bn (bits s.data.toList) k))
      rw [if_neg (by omega)] at c2
      have HR := Lib.hid (World.rowIs.congr (g := fun j => .bool (if j < k + 1 then bn (bits s.data.toList) j else false)) hr2 (fun i hi => by
          by_cases e : i = k
          · subst e; simp
          · simp only [e, if_false]; congr 1; by_cases e2 : i < k <;> simp [e2] <;> omega))
      have HB := Lib.hid hb2
      obtain ⟨t, ht⟩ : ∃ t, bn (bits s.data.toList) k = t := ⟨_, rfl⟩
      rw [ht] at hbit HR HB
      clear hr hb hr2 hb2 hc ht
      go_wp2_with fail
      go_roundw
      case rel => exact ⟨k + 1, by omega, by go_num, HB.out, HR.out⟩
      case measure => first | (simp [intOf]; done) | (simp [intOf]; omega)
    · obtain rfl : k = s.size := by omega
      have HR := Lib.hid hr
      have HB := Lib.hid hb
      clear hr hb
      go_wp2_with fail
      go_ret
      exact ⟨G, rfl, OwnB.of_row (World.rowIs.congr HR.out (fun j hj => by simp [hj])) (bits_len s) (by rw [HG.out]; exact Nat.le_refl _) (by unfold maxLen; omega), HB.out⟩
end Go.Proofs.YtgenccbpkolmbaaDoor
