/- The contracts of CanStop and of the steps that it takes. -/
import Derived.Test.Yteeokegkbhpbcaa2A
namespace Go.Proofs.Yteeokegkbhpbcaa
open Go.RowKit
set_option linter.unusedVariables false
set_option linter.unusedSimpArgs false

theorem cs_up {a s t : Int} (h : mvB a s = true) (k : inB 0 t 60 = true) (hs : 0 < s) : csB a s t = decide (a + bw s ≤ t) := by
  have h1 := mvB_iff.1 h
  have h2 := inB_iff.1 k
  by_cases g : a + bw s ≤ t
  · rw [csB_t ⟨h1, h2, fun _ => g, fun _ => by omega⟩]; simp [g]
  · rw [csB_f (fun c => g (c.2.2.1 hs))]; simp [g]
theorem cs_down {a s t : Int} (h : mvB a s = true) (k : inB 0 t 60 = true) (hs : s < 0) : csB a s t = decide (t ≤ a + bw s) := by
  have h1 := mvB_iff.1 h
  have h2 := inB_iff.1 k
  by_cases g : t ≤ a + bw s
  · rw [csB_t ⟨h1, h2, fun _ => by omega, fun _ => g⟩]; simp [g]
  · rw [csB_f (fun c => g (c.2.2.2 hs))]; simp [g]
theorem cs_zero {a s t : Int} (h : mvB a s = true) (k : inB 0 t 60 = true) (hs : s = 0) : csB a s t = true := by
  have h1 := mvB_iff.1 h
  have h2 := inB_iff.1 k
  rw [csB_t ⟨h1, h2, fun _ => by omega, fun _ => by omega⟩]
theorem cs_bad1 {a s t : Int} (h : mvB a s = false) : csB a s t = false := by
  rw [csB_f (fun c => by rw [mvB_t c.1] at h; cases h)]
theorem cs_bad2 {a s t : Int} (h : inB 0 t 60 = false) : csB a s t = false := by
  rw [csB_f (fun c => by rw [inB_t c.2.1] at h; cases h)]
/-- The world behind a boxed pair. -/
theorem box_cells (w : World) (a s : Int) (T : TypeId) : (w.alloc (.cells #[.int .i64 a, .int .i64 s] T)).cell? ⟨w.heap.size, 0, none⟩ = some (.int .i64 a) ∧ (w.alloc (.cells #[.int .i64 a, .int .i64 s] T)).cell? ⟨w.heap.size, 1, none⟩ = some (.int .i64 s) :=
  ⟨by rw [World.cell?_alloc_at _ _ _ _ rfl]; rfl, by rw [World.cell?_alloc_at _ _ _ _ rfl]; rfl⟩
theorem _root_.Go.RowKit.Below.al {w0 w : World} (h : Below w0.heap.size w0 w) (o : Obj) : Below w0.heap.size w0 (w.alloc o) := h.alloc h.size o
theorem _root_.Go.RowKit.Below.dr {w0 w : World} (h : Below w0.heap.size w0 w) (n : Nat) : Below w0.heap.size w0 (w.drewN n) := below_next h (below_drewN' n)
theorem _root_.Go.RowKit.Below.dw {w0 w : World} (h : Below w0.heap.size w0 w) : Below w0.heap.size w0 w.drew := ⟨h.os, h.tape, h.output, h.size, h.block⟩
theorem _root_.Go.RowKit.Below.st {w0 w : World} (h : Below w0.heap.size w0 w) {p : Addr} (hp : w0.heap.size ≤ p.block) (u : Value) : Below w0.heap.size w0 (w.setCell p u) := h.setCell hp u
/-- Block b holds a pair of ints, which can be written. -/
def Box (w : World) (b : Nat) (a s : Int) : Prop := (w.cell? ⟨b, 0, none⟩ = some (.int .i64 a) ∧ w.cell? ⟨b, 1, none⟩ = some (.int .i64 s)) ∧ w.frozen? ⟨b, 0, none⟩ = false ∧ w.frozen? ⟨b, 1, none⟩ = false
theorem Box.lt {w : World} {b : Nat} {a s : Int} (h : Box w b a s) : b < w.heap.size := World.block_lt_of_cell? w _ h.1.1
theorem Box.below {w w' : World} {b : Nat} {a s : Int} (h : Box w b a s) (hb : Below w.heap.size w w') : Box w' b a s :=
  ⟨⟨cell_below h.1.1 hb, cell_below h.1.2 hb⟩, (hb.frozen (p := ⟨b, 0, none⟩) h.lt).trans h.2.1, (hb.frozen (p := ⟨b, 1, none⟩) h.lt).trans h.2.2⟩
theorem Box.new (w : World) (a s : Int) (T : TypeId) : Box (w.alloc (.cells #[.int .i64 a, .int .i64 s] T)) w.heap.size a s :=
  ⟨box_cells w a s T, by rw [World.frozen?_alloc_at _ _ _ _ rfl], by rw [World.frozen?_alloc_at _ _ _ _ rfl]⟩
theorem Box.al {w : World} {b : Nat} {a s : Int} (h : Box w b a s) (o : Obj) : Box (w.alloc o) b a s := h.below ((Below.refl _ _).alloc (Nat.le_refl _) o)
theorem Box.dr {w : World} {b : Nat} {a s : Int} (h : Box w b a s) (n : Nat) : Box (w.drewN n) b a s := h
theorem Box.dw {w : World} {b : Nat} {a s : Int} (h : Box w b a s) : Box w.drew b a s := h
/-- A box, and another one behind it. -/
theorem box2 (w : World) (a s c d : Int) (T U : TypeId) : Box ((w.alloc (.cells #[.int .i64 a, .int .i64 s] T)).alloc (.cells #[.int .i64 c, .int .i64 d] U)) w.heap.size a s ∧ Box ((w.alloc (.cells #[.int .i64 a, .int .i64 s] T)).alloc (.cells #[.int .i64 c, .int .i64 d] U)) (w.heap.size + 1) c d :=
  ⟨(Box.new w a s T).al _, by have := Box.new (w.alloc (.cells #[.int .i64 a, .int .i64 s] T)) c d U; simpa using this⟩
theorem bx {w : World} {o : Obj} {w1 : World} (hb : Below (w.alloc o).heap.size (w.alloc o) w1) : Below w.heap.size w w1 := below_next ((Below.refl _ _).alloc (Nat.le_refl _) _) hb

end Go.Proofs.Yteeokegkbhpbcaa
