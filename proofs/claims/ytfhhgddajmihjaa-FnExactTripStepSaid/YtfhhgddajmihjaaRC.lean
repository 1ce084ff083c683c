/- Rows of records of k ints, read and owned: element i's field j is number i * k + j of a flat list. -/
import Derived.Test.YtfhhgddajmihjaaK
namespace Go.Proofs.Ytfhhgddajmihjaa
open Go.RowKit
set_option linter.unusedVariables false
set_option linter.unusedSimpArgs false

/-- A row of n records (type E, k cells each) of the call's own. -/
def OwnR (E : TypeId) (k : Nat) (w : World) (B : Nat) (v : Value) (n : Nat) (xs : List Int) : Prop := w.ownsRow B E k v n (xs.map (Value.int .i64))
theorem OwnR.len {E : TypeId} {k : Nat} {w : World} {B : Nat} {v : Value} {n : Nat} {xs : List Int} (h : OwnR E k w B v n xs) : xs.length = n * k := by simpa using h.1
theorem OwnR.lt {E : TypeId} {k : Nat} {w : World} {B : Nat} {v : Value} {n : Nat} {xs : List Int} (h : OwnR E k w B v n xs) : ∀ q, v.ownBlock = some q → B ≤ q ∧ q < w.heap.size := fun q hq => World.ownsRow.lt h q hq
theorem OwnR.block {E : TypeId} {k : Nat} {w w' : World} {B : Nat} {v : Value} {n : Nat} {xs : List Int} (h : OwnR E k w B v n xs) (hb : ∀ q, v.ownBlock = some q → w'.heap[q]? = w.heap[q]?) : OwnR E k w' B v n xs := by
  obtain ⟨h1, h⟩ := h
  refine ⟨h1, ?_⟩
  rcases h with h | ⟨g, cap, cur, rfl, r1, r2, r3⟩
  · exact .inl h
  · exact .inr ⟨g, cap, cur, rfl, r1, by rw [hb g rfl]; exact r2, r3⟩
theorem OwnR.below {E : TypeId} {k : Nat} {w w' : World} {B : Nat} {v : Value} {n : Nat} {xs : List Int} (h : OwnR E k w B v n xs) (hb : Below w.heap.size w w') : OwnR E k w' B v n xs := h.block fun q hq => hb.block q (h.lt q hq).2
theorem OwnR.al {E : TypeId} {k : Nat} {w : World} {B : Nat} {v : Value} {n : Nat} {xs : List Int} (h : OwnR E k w B v n xs) (o : Obj) : OwnR E k (w.alloc o) B v n xs := h.below ((Below.refl _ _).alloc (Nat.le_refl _) o)
theorem OwnR.pfar {E : TypeId} {k : Nat} {w : World} {B : Nat} {v : Value} {n : Nat} {xs : List Int} {c j : Nat} {u : Value} (h : OwnR E k w B v n xs) (hne : ∀ q, v.ownBlock = some q → q ≠ c) : OwnR E k (w.setCell ⟨c, j, none⟩ u) B v n xs :=
  h.block fun q hq => Below.heap_setCell _ _ _ _ (by have := hne q hq; simpa using this)
theorem OwnR.mono {E : TypeId} {k : Nat} {w : World} {A B : Nat} {v : Value} {n : Nat} {xs : List Int} (h : OwnR E k w B v n xs) (hA : A ≤ B) : OwnR E k w A v n xs := by
  obtain ⟨h1, h⟩ := h
  refine ⟨h1, ?_⟩
  rcases h with h | ⟨g, cap, cur, e, hb, r⟩
  · exact .inl h
  · exact .inr ⟨g, cap, cur, e, Nat.le_trans hA hb, r⟩
/-- A slice of n records that reads as a flat list. -/
def RS (k : Nat) (w : World) (a : Option Addr) (n : Nat) (xs : List Int) : Prop := xs.length = n * k ∧ (n = 0 ∨ ∃ b off, a = some ⟨b, off, none⟩ ∧ Ints w b off xs)
theorem RS.below {k : Nat} {w w' : World} {a : Option Addr} {n : Nat} {xs : List Int} (h : RS k w a n xs) (hb : Below w.heap.size w w') : RS k w' a n xs := by
  obtain ⟨hl, h | ⟨b, off, e, h⟩⟩ := h
  · exact ⟨hl, .inl h⟩
  · exact ⟨hl, .inr ⟨b, off, e, fun i hi => cell_below (h i hi) hb⟩⟩
theorem OwnR.open {E : TypeId} {k : Nat} {w : World} {B : Nat} {v : Value} {n : Nat} {xs : List Int} (h : OwnR E k w B v n xs) : ∃ a cap, v = .slice a n cap ∧ RS k w a n xs ∧
    ∀ b off sp, a = some ⟨b, off, sp⟩ → off = 0 ∧ sp = none ∧ (∀ i, w.frozen? ⟨b, i, none⟩ = false) ∧ n ≤ cap ∧ cap ≤ maxLen := by
  have hlen := h.len
  obtain ⟨_, h⟩ := h
  rcases h with ⟨rfl, h0⟩ | ⟨g, cap, cur, rfl, hb, hh, hl, hm, hs, ht⟩
  · exact ⟨none, 0, by rw [h0], ⟨hlen, .inl h0⟩, fun b off sp e => by cases e⟩
  · refine ⟨_, cap, rfl, ⟨hlen, .inr ⟨g, 0, rfl, fun i hi => ?_⟩⟩, fun b off sp e => ?_⟩
    · have e : (cur.toList.take (n * k))[i]? = some (.int .i64 (nth xs i)) := by rw [ht]; simp [hi, nth_eq]
      rw [List.getElem?_take, if_pos (by omega)] at e
      simp [World.cell?, hh]
      simpa using e
    · cases e
      exact ⟨rfl, rfl, fun i => by simp [World.frozen?, hh], hl, hm⟩
theorem OwnR.stored {E : TypeId} {k : Nat} {w : World} {B b cap n : Nat} {xs : List Int} (h : OwnR E k w B (.slice (some ⟨b, 0, none⟩) n cap) n xs) (i : Nat) (x : Int) :
    OwnR E k (w.setCell ⟨b, i, none⟩ (.int .i64 x)) B (.slice (some ⟨b, 0, none⟩) n cap) n (xs.set i x) ∧ w.grownBy (w.setCell ⟨b, i, none⟩ (.int .i64 x)) (some b) := by
  have := World.ownsRow.stored h i (.int .i64 x)
  refine ⟨?_, this.2⟩
  unfold OwnR
  rw [List.map_set]
  exact this.1
/-- An empty row without room. -/
theorem OwnR.none0 {E : TypeId} {k : Nat} {w : World} : OwnR E k (w.alloc (.cells #[] E)) w.heap.size (.slice (Option.some ⟨w.heap.size, 0, Option.none⟩) 0 0) 0 [] :=
  ⟨by simp, .inr ⟨w.heap.size, 0, #[], rfl, Nat.le_refl _, heap_alloc_new w _, Nat.le_refl _, by unfold maxLen; omega, by simp, by simp⟩⟩
theorem OwnR.nil {E : TypeId} {k : Nat} (w : World) (B : Nat) : OwnR E k w B (.slice none 0 0) 0 [] := ⟨by simp, .inl ⟨rfl, rfl⟩⟩
/-- append of one record. -/
theorem wpList_append_R {w : World} {ops : Array Oper} {rest : List Oper} {act : Act} {Q : Exit → Act → World → Prop} {d : Option Tmp} {s x : Operand} {ty0 : TypeId} {ps : String} {af : Array Edge} {B G : Nat} {n : Nat} {xs : List Int} {v : Value}
    (E TS : TypeId) (k bytes : Nat) (z : Value) (ys : List Int) (hu : Try.prog.underlying TS = some (.slice E)) (hi : ∃ i, Try.prog.info? E = some i ∧ i.zero = some z ∧ i.size = k ∧ i.bytes = bytes) (hz : z.cells.size = k) (hk : 0 < k) (hby : bytes ≤ 100)
    (hown : OwnR E k w B v n xs) (hs : act.eval s = v) (hx : act.eval x = .slice (some ⟨G, 0, none⟩) 1 1) (hl : ys.length = k) (hc : Ints w G 0 ys) (hn : n ≤ 1048577) (hB : B ≤ w.heap.size)
    (hK : ∀ v' w', OwnR E k w' B v' (n + 1) (xs ++ ys) → w.grownBy w' v.ownBlock → (v'.ownBlock = v.ownBlock ∨ v'.ownBlock = some w.heap.size) → wpList Try.prog ops Q rest (act.put d v') w') :
    wpList Try.prog ops Q ({ dst := d, op := .call { callee := .builtin .append, args := #[s, x], argTypes := #[TS, TS] }, type := ty0, pos := ps, after := af, guard := none } :: rest) act w := by
  obtain ⟨i0, hi, hz0, hz1, hz2⟩ := hi
  refine wpList_append_wanted rfl s x TS rfl B E i0 z k bytes hu hi hz0 hz1 hz2 hz hk v n (xs.map (Value.int .i64)) hs hown ⟨G, 0, none⟩ 1 1 (ys.map (Value.int .i64)) hx (by simpa using hl) (fun j u hu => ?_) (fun u hu => ?_) (by unfold maxLen; omega) ?_ hB (fun v' w' h1 h2 h3 h4 => ?_)
  · exact Ints.cells hc j u hu
  · simp at hu
    obtain ⟨a, _, rfl⟩ := hu
    rfl
  · have : (n + 1) * bytes ≤ (1048577 + 1) * 100 := Nat.mul_le_mul (by omega) hby
    omega
  · refine hK v' w' ?_ h2 h4
    unfold OwnR
    simpa using h1
end Go.Proofs.Ytfhhgddajmihjaa
