/- The helpers of the exact laws: copies and comparisons. -/
import Derived.Test.YteeokegkbhpbcaaProg
import Derived.Test.YteeokegkbhpbcaaPre
import Derived.Deep.OwnRows
namespace Go.Proofs.Yteeokegkbhpbcaa
open Go.RowKit
set_option linter.unusedVariables false
set_option linter.unusedSimpArgs false

/-- WHAT THE WALK IS TOLD OF A SLICE OF INTEGERS THAT CAME IN. -/
def IsRow (k : IntKind) (w : World) (a : Option Addr) (len cap : Nat) (zs : List Int) : Prop :=
  (a = none ∧ len = 0 ∧ cap = 0 ∧ zs = []) ∨
  ∃ x, a = some x ∧ len ≤ cap ∧ cap ≤ maxLen ∧ zs.length = cap ∧ (∀ i, i < zs.length → w.cell? (x.add i) = some (.int k (zs.getD i 0))) ∧ ∀ n ∈ zs, (Lit.int k n).wf = true

/-- A slice that reads as a list: an empty one, or a row of cells. -/
def Sl (w : World) (a : Option Addr) (xs : List Int) : Prop := xs = [] ∨ ∃ b off, a = some ⟨b, off, none⟩ ∧ Ints w b off xs
theorem Sl.below {w w' : World} {a : Option Addr} {xs : List Int} (h : Sl w a xs) (hb : Below w.heap.size w w') : Sl w' a xs := by
  rcases h with h | ⟨b, off, ha, h⟩
  · exact .inl h
  · exact .inr ⟨b, off, ha, h.below hb⟩

theorem getD_take (zs : List Int) (len i : Nat) (h : i < len) : (zs.take len).getD i 0 = zs.getD i 0 := by
  simp only [List.getD, List.getElem?_take]; rw [if_pos h]

/-- The numbers of a list are ints of 64 bits. -/
def Fit (xs : List Int) : Prop := ∀ i, i < xs.length → -9223372036854775808 ≤ nth xs i ∧ nth xs i ≤ 9223372036854775807

theorem IsRow.sl {w : World} {a : Option Addr} {len cap : Nat} {zs : List Int} (h : IsRow .i64 w a len cap zs) : ∃ xs, xs.length = len ∧ len ≤ maxLen ∧ Sl w a xs ∧ Fit xs := by
  rcases h with ⟨rfl, rfl, rfl, rfl⟩ | ⟨x, rfl, hl, hm, hz, hcell, hw⟩
  · exact ⟨[], rfl, by unfold maxLen; omega, .inl rfl, fun i hi => by simp at hi⟩
  · refine ⟨zs.take len, by simp; omega, by omega, ?_, fun i hi => ?_⟩
    · by_cases h0 : len = 0
      · subst h0; exact .inl (by simp)
      · obtain ⟨b, off, spot⟩ := x
        have hc := hcell 0 (by omega)
        have hspot : spot = none := by simpa [Addr.add] using World.cell?_spot hc
        subst hspot
        refine .inr ⟨b, off, rfl, fun i hi => ?_⟩
        have hi2 : i < len := by simp at hi; omega
        have := hcell i (by omega)
        unfold nth
        rw [getD_take _ _ _ hi2]
        by_cases e : i = 0
        · subst e; simpa [Addr.add] using this
        · simpa [Addr.add, e] using this
    · have hi2 : i < len := by simp at hi; omega
      unfold nth
      rw [getD_take _ _ _ hi2]
      have hi3 : i < zs.length := by omega
      have := hw zs[i] (List.getElem_mem hi3)
      simp only [List.getD, List.getElem?_eq_getElem hi3, Option.getD_some]
      exact bounds_i64 this

/-- A law's end: true, and nothing that was there has changed. -/
def LawOk (w : World) (e : Ending) (w' : World) : Prop := e = .returned (.bool true) ∧ Below w.heap.size w w'
theorem LawOk.mk {w w' : World} (hb : Below w.heap.size w w') : LawOk w (.returned (.bool true)) w' := ⟨rfl, hb⟩

theorem infoInt : (Try.prog.info? 3).map (fun i => (i.zero, i.size, i.bytes)) = some (some (.int .i64 0), 1, 8) := by kernel_rfl

/-- What a copy is: a new row with the same numbers. -/
def Copied (w : World) (xs : List Int) (e : Ending) (w' : World) : Prop := ∃ g, w.heap.size ≤ g ∧ e = .returned (.slice (some ⟨g, 0, none⟩) xs.length xs.length) ∧ Ints w' g 0 xs ∧ Below w.heap.size w w'

theorem ints_of_row {w : World} {g : Nat} {t : TypeId} {xs : List Int} {n : Nat} {f : Nat → Value} (h : w.rowIs g t n f) (hn : n = xs.length) (hf : ∀ j, j < n → f j = .int .i64 (nth xs j)) : Ints w g 0 xs := fun i hi => by
  have := h.cell (i := i) (by omega)
  rw [hf i (by omega)] at this
  simpa using this

set_option maxHeartbeats 400000 in
theorem toIntS_c (a : Option Addr) (cap : Nat) (xs : List Int) (w : World) (hs : Sl w a xs) (hm : xs.length ≤ 1048576) :
    Calls Try.prog 31 #[.slice a xs.length cap] w (Copied w xs) := by
  have hmk := run_make_row' (P := Try.prog) 23 3 (.int .i64 0) 8 Try.underlying23 infoInt rfl .i64 .i64 xs.length (by omega) (by omega)
  go_enter Try.func31, Try.ntmps31
  go_wp2
  have R0 := World.rowIs_made w (.int .i64 0) xs.length 3
  have B0 : Below w.heap.size w (w.alloc (.cells (madeCells #[.int .i64 0] xs.length) 3)) := (Below.refl _ _).alloc (Nat.le_refl _) _
  clear hmk
  generalize hw0 : w.alloc (.cells (madeCells #[.int .i64 0] xs.length) 3) = w0 at *
  clear hw0
  obtain ⟨G, hG⟩ : ∃ G, w.heap.size = G := ⟨_, rfl⟩
  have HG : Hid _ := hG
  rw [hG] at R0
  rw [hG]
  clear hG
  go_loopw [4] (fun v wr => ∃ k : Nat, k ≤ xs.length ∧ v = .int .i64 k ∧ Below w.heap.size w wr ∧ wr.rowIs G 3 xs.length (fun j => .int .i64 (if j < k then nth xs j else 0))) (fun v _ => xs.length - (intOf v).toNat)
  case atStart => exact ⟨0, by omega, rfl, B0, R0.congr (fun i hi => by simp)⟩
  case round =>
    clear R0 B0
    obtain ⟨k, hk, rfl, hb, hr⟩ := hrel
    have hk63 : k ≤ 1048576 := by omega
    by_cases hlt : k < xs.length
    · rcases hs with rfl | ⟨b, off, rfl, hc⟩
      · simp at hlt
      · have c1 : wr.cell? ⟨b, off + k, none⟩ = some (.int .i64 (nth xs k)) := cell_below (hc k hlt) hb
        have c2 : wr.cell? ⟨G, k, none⟩ = some (.int .i64 (if k < k then nth xs k else 0)) := hr.cell hlt
        have c3 : wr.frozen? ⟨G, k, none⟩ = false := hr.frozen k
        have hr2 := hr.set k (.int .i64 (nth xs k))
        have hb2 := hb.setCell (p := ⟨G, k, none⟩) (by rw [HG.out]; exact Nat.le_refl _) (.int .i64 (nth xs k))
        rw [if_neg (by omega)] at c2
        have HR : Hid _ := hr2
        have HB : Hid _ := hb2
        clear hr hb hr2 hb2
        go_wp2
        go_roundw
        case rel => exact ⟨k + 1, by omega, by go_num, HB.out, World.rowIs.congr HR.out (fun i hi => by
          by_cases e : i = k
          · subst e; simp
          · simp only [e, if_false]; congr 1; by_cases e2 : i < k <;> simp [e2] <;> omega)⟩
        case measure => simp [intOf]; omega
    · obtain rfl : k = xs.length := by omega
      go_wp2
      go_ret
      exact ⟨G, by rw [HG.out]; exact Nat.le_refl _, rfl, ints_of_row hr rfl (fun j hj => by simp [hj]), hb⟩

set_option maxHeartbeats 400000 in
theorem eqIntS_c (b off cap b' off' cap' : Nat) (xs : List Int) (w : World) (hc : Ints w b off xs) (hd : Ints w b' off' xs) (hm : xs.length ≤ 1048576) :
    Calls Try.prog 32 #[.slice (some ⟨b, off, none⟩) xs.length cap, .slice (some ⟨b', off', none⟩) xs.length cap'] w (Ro w (.bool true)) := by
  go_enter Try.func32, Try.ntmps32
  go_wp2
  obtain ⟨wo, hwo⟩ : ∃ wo : World, wo = w := ⟨_, rfl⟩
  go_loopw [5] (fun v wr => ∃ k n : Nat, k ≤ xs.length ∧ v = .int .i64 k ∧ wr = wo.drewN n) (fun v _ => xs.length - (intOf v).toNat)
  case atStart => exact ⟨0, 0, by omega, rfl, by rw [hwo]; rfl⟩
  case round =>
    obtain ⟨k, n, hk, rfl, hw⟩ := hrel
    subst hwo
    replace hc : Ints wr b off xs := by rw [hw]; exact hc
    replace hd : Ints wr b' off' xs := by rw [hw]; exact hd
    have HW : Hid _ := hw
    clear hw
    by_cases hlt : k < xs.length
    · have c1 : wr.cell? ⟨b, off + k, none⟩ = some (.int .i64 (nth xs k)) := hc k hlt
      have c2 : wr.cell? ⟨b', off' + k, none⟩ = some (.int .i64 (nth xs k)) := hd k hlt
      go_wp2
      go_quiet (fail)
      go_wp2
      go_roundw
      case rel => exact ⟨k + 1, _, by omega, by go_num, (by rw [HW.out]; first | exact World.drewN_drewN .. | (simp only [World.drewN_drewN]; rfl) | (simp only [World.drewN_drewN]))⟩
      case measure => simp [intOf]; omega
    · obtain rfl : k = xs.length := by omega
      go_wp2
      go_ret
      exact Ro.b rfl (by rw [HW.out]; (try simp only [World.drewN_drewN]); exact ⟨_, rfl⟩)
end Go.Proofs.Yteeokegkbhpbcaa
