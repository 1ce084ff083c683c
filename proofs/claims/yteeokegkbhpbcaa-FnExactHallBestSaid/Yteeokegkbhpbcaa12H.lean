/- Rows of ints in blocks of one's own: stores, copies (also within a round of a range over a function), what lies outside a range of blocks. -/
import Derived.Test.Yteeokegkbhpbcaa12C
import Derived.Test.Yteeokegkbhpbcaa12R
import Derived.TacticsInMore
import Derived.OwnWalkIn
import Derived.Laws.CopyOwn
namespace Go.Proofs.Yteeokegkbhpbcaa
open Go.RowKit
set_option linter.unusedVariables false
set_option linter.unusedSimpArgs false
set_option maxRecDepth 100000

/-- A slice of ints in one block, at m or beyond, that stands for a list. -/
def VI (m : Nat) (x : List Int) (A : World) (v : Value) : Prop := ∃ b cap, v = .slice (some ⟨b, 0, none⟩) x.length cap ∧ x.length ≤ cap ∧ cap ≤ maxLen ∧ m ≤ b ∧ Ints A b 0 x
theorem VI.off {m : Nat} {x : List Int} {A B : World} {v : Value} (h : VI m x A v) (hb : ∀ q, m ≤ q → B.heap[q]? = A.heap[q]?) : VI m x B v := by
  obtain ⟨b, cap, rfl, h1, h2, h3, h4⟩ := h
  refine ⟨b, cap, rfl, h1, h2, h3, fun i hi => ?_⟩
  have := h4 i hi
  unfold World.cell? at this ⊢
  rw [hb b h3]; exact this
theorem Ints.out {w w' : World} {b off lo hi : Nat} {xs : List Int} (h : Ints w b off xs) (ho : Out lo hi w w') (hd : 0 < xs.length → b < lo ∨ hi ≤ b) : Ints w' b off xs := fun i hi' => by
  have h1 := h i hi'
  have hb : b < w.heap.size := World.block_lt_of_cell? w _ h1
  have e := ho.block b hb (hd (by omega))
  unfold World.cell? at h1 ⊢
  rw [e]; exact h1
theorem Sl.out {w w' : World} {a : Option Addr} {lo hi : Nat} {xs : List Int} (h : Sl w a xs) (ho : Out lo hi w w') (hd : ∀ b q, a = some ⟨b, q, none⟩ → 0 < xs.length → b < lo ∨ hi ≤ b) : Sl w' a xs := by
  rcases h with h | ⟨b, off, rfl, h⟩
  · exact .inl h
  · exact .inr ⟨b, off, rfl, h.out ho fun h0 => hd b off rfl h0⟩
theorem own_made (w : World) (n : Nat) (hn : n ≤ 1048576) : Own (w.alloc (.cells (madeCells #[.int .i64 0] n) 3)) w.heap.size (.slice (some ⟨w.heap.size, 0, none⟩) n n) (List.replicate n 0) := by
  have h := World.rowIs_made w (.int .i64 0) n 3
  have e : n = (List.replicate n (0 : Int)).length := by simp
  have h2 := own_of_row (xs := List.replicate n 0) (B := w.heap.size) (G := w.heap.size) (w := w.alloc (.cells (madeCells #[.int .i64 0] n) 3)) (by
    rw [← e]
    exact h.congr fun i hi => by simp [nth, List.getD, hi]) (Nat.le_refl _) (by rw [← e]; exact hn)
  rw [← e] at h2
  exact h2
theorem run_copyI {w : World} (ty : TypeId) (G n cx bx : Nat) (BL x : List Int) (hO : OwnI w G (G + 1) (.slice (some ⟨G, 0, none⟩) n n) BL) (hB : BL.length = n) (hx : Ints w bx 0 x) (hxn : x.length = n) :
    ∃ w', (Builtin.copy_ #[23, 23] ty #[.slice (some ⟨G, 0, none⟩) n n, .slice (some ⟨bx, 0, none⟩) n cx]).run Try.prog w = .ok (goInt n) w' ∧ OwnI w' G (G + 1) (.slice (some ⟨G, 0, none⟩) n n) x ∧ Out G (G + 1) w w' := by
  obtain ⟨i0, hi, hz0, hz1, hz2⟩ := info_parts infoInt
  obtain ⟨⟨hl, h⟩, h2, h3, h4⟩ := hO
  rcases h with ⟨e, _⟩ | ⟨g, cap, cur, e, hb, hh, hlen, hmx, hs, ht⟩
  · simp at e
  · simp only [Value.slice.injEq, Option.some.injEq, Addr.mk.injEq, and_true] at e
    obtain ⟨rfl, -, rfl⟩ := e
    subst hB
    have hcs : (x.map (Value.int .i64)).length = BL.length := by rw [List.length_map, hxn]
    have hrun := run_copy_row (P := Try.prog) w 23 23 ty 3 G 0 BL.length BL.length ⟨bx, 0, none⟩ BL.length cx cur 3 (x.map (Value.int .i64)) Try.underlying23 (by rw [hi]; simp [hz1]) hh (by rw [hcs]; exact (Nat.min_self _).symm) (by rw [← hxn] at *; exact Ints.cells hx) (by rw [hcs]; omega) (by intro u hu; simp at hu; obtain ⟨a, _, rfl⟩ := hu; rfl)
    rw [hcs] at hrun
    have hout : Out G (G + 1) w (w.setRow G (cur.toList.take 0 ++ x.map (Value.int .i64) ++ cur.toList.drop (0 + BL.length)).toArray) := ⟨rfl, rfl, rfl, by simp [World.setRow], fun k hk h => setRow_other w G k _ (by omega)⟩
    refine ⟨_, hrun, ⟨⟨by simp, .inr ⟨G, BL.length, _, by rw [hxn], hb, setRow_heap w G cur _ 3 (0, 0) hh, by omega, hmx, ?_, ?_⟩⟩, h2, h3, Nat.le_trans h4 hout.size⟩, hout⟩
    · simp; omega
    · simp [hxn]
theorem wpListIn_copyI {l : Nat} {ops : Array Oper} {rest : List Oper} {o : Oper} {act : Act} {Q : Exit → Act → World → Prop} {w : World} (hgd : o.guard = none) (d s : Operand)
    (ho : o.op = .call { callee := .builtin .copy, args := #[d, s], argTypes := #[23, 23] }) (G n cx bx : Nat) (BL x : List Int) (hd : act.eval d = .slice (some ⟨G, 0, none⟩) n n) (hs : act.eval s = .slice (some ⟨bx, 0, none⟩) n cx)
    (hO : OwnI w G (G + 1) (.slice (some ⟨G, 0, none⟩) n n) BL) (hB : BL.length = n) (hx : Ints w bx 0 x) (hxn : x.length = n)
    (h : ∀ w', OwnI w' G (G + 1) (.slice (some ⟨G, 0, none⟩) n n) x → Out G (G + 1) w w' → wpListIn (Fence.wide.inRound l) 0 Try.prog ops Q rest (act.put o.dst (goInt n)) w') :
    wpListIn (Fence.wide.inRound l) 0 Try.prog ops Q (o :: rest) act w := by
  obtain ⟨w', hrun, h1, h2⟩ := run_copyI o.type G n cx bx BL x hO hB hx hxn
  refine wpListIn_plain hgd fun K hK => ?_
  unfold Oper.wpIn
  refine ⟨fun f _ => trivial, ?_⟩
  rw [Oper.semAt_plain _ _ _ (by rw [ho]; intro c hc'; cases hc')]
  simp [execOp, ho, resolve, invoke, builtin, hd, hs, hrun, Result.andThen]
  exact hK _ _ (h w' h1 h2)
theorem OwnI.put {w : World} {m n : Nat} {u v : List Int} {c : Int} (d : Int) (h : OwnI w m (m + 1) (.slice (some ⟨m, 0, none⟩) n n) (u ++ c :: v)) : OwnI (w.setCell ⟨m, u.length, none⟩ (.int .i64 d)) m (m + 1) (.slice (some ⟨m, 0, none⟩) n n) (u ++ d :: v) := by
  obtain ⟨⟨hl, h⟩, h2, h3, h4⟩ := h
  rcases h with ⟨e, _⟩ | ⟨g, cap, cur, e, hb, hh, hlen, hmx, hs, ht⟩
  · simp at e
  · simp only [Value.slice.injEq, Option.some.injEq, Addr.mk.injEq, and_true] at e
    obtain ⟨rfl, e1, rfl⟩ := e
    have hsz : (w.setCell ⟨m, u.length, none⟩ (.int .i64 d)).heap.size = w.heap.size := (Out.set (w := w) (q := m) (i := u.length) (lo := m) (hi := m + 1) (.int .i64 d) (Nat.le_refl _) (by omega)) |>.size |> fun h => Nat.le_antisymm (by rw [setCell_eq_setRow w m u.length cur 3 (0, 0) _ hh]; simp [World.setRow]) h
    refine ⟨⟨by simp, .inr ⟨m, n, cur.setIfInBounds u.length (.int .i64 d), by rw [e1]; simp, hb, ?_, by simpa using hlen, hmx, by simpa using hs, ?_⟩⟩, h2, h3, by rw [hsz]; exact h4⟩
    · rw [setCell_eq_setRow w m u.length cur 3 (0, 0) _ hh]
      exact setRow_heap w m cur _ 3 (0, 0) hh
    · have hlt : u.length < (u ++ c :: v).length * 1 := by simp
      have e2 : (u ++ c :: v).length * 1 = (u ++ d :: v).length * 1 := by simp
      rw [Array.toList_setIfInBounds, ← e2, List.take_set, ht]
      simp
theorem OwnI.frz {w : World} {m n : Nat} {u : List Int} (h : OwnI w m (m + 1) (.slice (some ⟨m, 0, none⟩) n n) u) (i : Nat) : w.frozen? ⟨m, i, none⟩ = false := by
  obtain ⟨⟨hl, h⟩, -⟩ := h
  rcases h with ⟨e, _⟩ | ⟨g, cap, cur, e, hb, hh, -⟩
  · simp at e
  · simp only [Value.slice.injEq, Option.some.injEq, Addr.mk.injEq, and_true] at e
    obtain ⟨rfl, -⟩ := e
    simp [World.frozen?, hh]
end Go.Proofs.Yteeokegkbhpbcaa
