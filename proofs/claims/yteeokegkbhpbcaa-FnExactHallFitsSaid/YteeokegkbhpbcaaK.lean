/- Lemmas that serve every chapter: ends of calls, own rows. -/
import Derived.Test.YteeokegkbhpbcaaS
import Derived.Test.Yteeokegkbhpbcaa2B
import Derived.Test.YteeokegkbhpbcaaH
import Derived.Maps.AppendAt
namespace Go.Proofs.Yteeokegkbhpbcaa
open Go.RowKit
set_option linter.unusedVariables false
set_option linter.unusedSimpArgs false

theorem Ro.mk {w w' : World} {v : Value} {e : Ending} (h : Ro w v e w') : Mk w v e w' := by
  obtain ⟨he, n, rfl⟩ := h; exact ⟨he, below_drewN' n⟩
theorem St.mk {w w' : World} {v : Value} {e : Ending} (h : St w v e w') : Mk w v e w' := by
  obtain ⟨he, rfl⟩ := h; exact ⟨he, Below.refl _ _⟩
theorem LawOk.mk' {w w' : World} {e : Ending} (h : LawOk w e w') : Mk w (.bool true) e w' := h
theorem at_base {P : Program} {f : FuncId} {args : Array Value} {w : World} {Q : Ending → World → Prop} (h : ∀ wn, wn = w → Calls P f args wn Q) : Calls P f args w Q := h w rfl
theorem Sl.of {w' : World} {xs : List Int} {g : Nat} (h : Ints w' g 0 xs) : Sl w' (some ⟨g, 0, none⟩) xs := .inr ⟨g, 0, rfl, h⟩
theorem Own.none {w : World} : Own (w.alloc (.cells #[] 3)) w.heap.size (.slice (some ⟨w.heap.size, 0, Option.none⟩) 0 0) [] :=
  ⟨by simp, .inr ⟨w.heap.size, 0, #[], rfl, Nat.le_refl _, heap_alloc_new w _, Nat.le_refl _, by unfold maxLen; omega, rfl, by simp⟩⟩
/-- A row of the call's own that is not nil: a block. -/
theorem Own.some {w : World} {B : Nat} {v : Value} {xs : List Int} (h : Own w B v xs) (hn : v ≠ .slice Option.none 0 0) :
    ∃ b cap, v = .slice (some ⟨b, 0, Option.none⟩) xs.length cap ∧ B ≤ b ∧ b < w.heap.size ∧ Ints w b 0 xs ∧ xs.length ≤ cap ∧ cap ≤ maxLen := by
  by_cases h1 : 1 ≤ xs.length
  · obtain ⟨b, cap, e, hb, hI, _, hl, hm⟩ := Own.opened h h1
    exact ⟨b, cap, e, hb, World.block_lt_of_cell? w _ (hI 0 (by omega)), hI, hl, hm⟩
  · have h0 : xs = [] := List.length_eq_zero_iff.1 (by omega)
    subst h0
    obtain ⟨_, h⟩ := h
    rcases h with ⟨rfl, h0⟩ | ⟨g, cap, cur, rfl, hb, hh, hl, hm, hs, ht⟩
    · exact absurd rfl hn
    · refine ⟨g, cap, rfl, hb, ?_, fun i hi => by simp at hi, by simp, hm⟩
      have := hh
      rw [Array.getElem?_eq_some_iff] at this
      exact this.1
/-- Two rows of the call's own, apart from each other. -/
def Apart (u v : Value) : Prop := ∀ i j, u.ownBlock = Option.some i → v.ownBlock = Option.some j → i ≠ j
theorem Own.apart {w w' : World} {B : Nat} {u v : Value} {xs : List Int} (h : Own w B u xs) (ha : Apart u v) (hg : w.grownBy w' v.ownBlock) : Own w' B u xs :=
  World.ownsRow.kept h hg (by
    rcases e : u.ownBlock with _ | i
    · exact .inl rfl
    · refine .inr fun e2 => ?_
      rcases e3 : v.ownBlock with _ | j
      · rw [e3] at e2; cases e2
      · rw [e3] at e2; cases e2; exact ha _ _ e e3 rfl)
/-- A row that has grown is apart from what its elder form was apart from. -/
theorem Apart.grown {w : World} {B : Nat} {u v v' : Value} {xs : List Int} (h : Own w B u xs) (ha : Apart u v) (hat : v'.ownBlock = v.ownBlock ∨ v'.ownBlock = Option.some w.heap.size) : Apart u v' := by
  intro i j hi hj
  rcases hat with e | e
  · exact ha i j hi (by rw [← e]; exact hj)
  · rw [e] at hj
    cases hj
    have := (World.ownsRow.lt h i hi).2
    omega
theorem Apart.grown1 {w : World} {B : Nat} {u v v' : Value} {xs : List Int} (h : Own w B u xs) (ha : Apart u v) (hat : v'.ownBlock = v.ownBlock ∨ v'.ownBlock = Option.some (w.heap.size + 1)) : Apart u v' := by
  intro i j hi hj
  rcases hat with e | e
  · exact ha i j hi (by rw [← e]; exact hj)
  · rw [e] at hj
    cases hj
    have := (World.ownsRow.lt h i hi).2
    omega
theorem Apart.symm {u v : Value} (h : Apart u v) : Apart v u := fun i j hi hj e => h j i hj hi e.symm
theorem Ints.take {w : World} {b off : Nat} {xs : List Int} (h : Ints w b off xs) (n : Nat) : Ints w b off (xs.take n) := fun i hi => by
  have hi2 : i < n ∧ i < xs.length := by simp at hi; omega
  rw [nth_take xs hi2.1]; exact h i hi2.2
theorem Ints.drop {w : World} {b off : Nat} {xs : List Int} (h : Ints w b off xs) (n : Nat) : Ints w b (off + n) (xs.drop n) := fun i hi => by
  have hi2 : n + i < xs.length := by simp at hi; omega
  rw [nth_drop, Nat.add_assoc]; exact h _ hi2
theorem Ints.drop0 {w : World} {b : Nat} {xs : List Int} (h : Ints w b 0 xs) (n : Nat) : Ints w b n (xs.drop n) := by have := h.drop n; rwa [Nat.zero_add] at this
theorem Own.base {w : World} {B : Nat} {v : Value} {xs : List Int} (h : Own w B v xs) (hn : v ≠ .slice Option.none 0 0) : B ≤ w.heap.size := by
  obtain ⟨b, cap, _, h1, h2, _⟩ := Own.some h hn
  omega
theorem Own.mono {w : World} {A B : Nat} {v : Value} {xs : List Int} (h : Own w B v xs) (hA : A ≤ B) : Own w A v xs := by
  obtain ⟨h1, h⟩ := h
  refine ⟨h1, ?_⟩
  rcases h with h | ⟨g, cap, cur, e, hb, r⟩
  · exact .inl h
  · exact .inr ⟨g, cap, cur, e, Nat.le_trans hA hb, r⟩
theorem _root_.Go.RowKit.Below.own {w w1 w2 : World} {row : Option Nat} (h : Below w.heap.size w w1) (k : w1.grownBy w2 row) (hr : ∀ i, row = Option.some i → w.heap.size ≤ i) : Below w.heap.size w w2 :=
  ⟨k.os.trans h.os, k.tape.trans h.tape, k.output.trans h.output, Nat.le_trans h.size k.size, fun i hi => (k.block i (Nat.lt_of_lt_of_le hi h.size) (fun e => by have := hr i e.symm; omega)).trans (h.block i hi)⟩
theorem Ints.al {w : World} {b off : Nat} {xs : List Int} (h : Ints w b off xs) (o : Obj) : Ints (w.alloc o) b off xs := Ints.below h ((Below.refl _ _).alloc (Nat.le_refl _) o)
theorem Ints.gr {w w' : World} {row : Option Nat} {b off : Nat} {xs : List Int} (h : Ints w b off xs) (k : w.grownBy w' row) (hr : ∀ i, row = Option.some i → 0 < xs.length → b < i) : Ints w' b off xs :=
  fun i hi => World.grownBy.cell k (h i hi) (fun e => by have := hr _ e.symm (by omega); simp at this)
theorem Ints.lt {w : World} {b off : Nat} {xs : List Int} (h : Ints w b off xs) : 0 < xs.length → b < w.heap.size := fun h0 => World.block_lt_of_cell? w _ (h 0 h0)
theorem Box.gr {w w' : World} {row : Option Nat} {b : Nat} {x y : Int} (h : Box w b x y) (k : w.grownBy w' row) (hr : ∀ i, row = Option.some i → b < i) : Box w' b x y := by
  have hb := Box.lt h
  have e := k.block b hb (fun e => by have := hr _ e.symm; omega)
  obtain ⟨⟨h1, h2⟩, h3, h4⟩ := h
  refine ⟨⟨?_, ?_⟩, ?_, ?_⟩
  · rw [World.cell?_of_block e]; exact h1
  · rw [World.cell?_of_block e]; exact h2
  · rw [World.frozen?_of_block e]; exact h3
  · rw [World.frozen?_of_block e]; exact h4
theorem Own.al {w : World} {B : Nat} {v : Value} {xs : List Int} (h : Own w B v xs) (o : Obj) : Own (w.alloc o) B v xs := Own.alloc h o
/-- Where the rest of a slice begins: a slice without room behind its end keeps its address. -/
theorem Ints.cut {w : World} {b off cap h : Nat} {xs : List Int} (I : Ints w b off xs) (hl : xs.length ≤ cap) (hh : h ≤ xs.length) : ∃ A, (cap = h ∧ A = off ∨ cap ≠ h ∧ A = off + h) ∧ Ints w b A (xs.drop h) := by
  by_cases e : cap = h
  · refine ⟨off, .inl ⟨e, rfl⟩, fun i hi => ?_⟩
    simp at hi
    omega
  · exact ⟨off + h, .inr ⟨e, rfl⟩, I.drop h⟩
theorem one_row (w : World) (x y : Int) : Ints (w.alloc (.cells #[.int .i64 x, .int .i64 y] 3)) w.heap.size 0 [x, y] := fun i hi => by
  have hi2 : i < 2 := hi
  rcases (by omega : i = 0 ∨ i = 1) with e | e <;> subst e <;> rw [World.cell?_alloc_at _ _ _ _ rfl] <;> rfl
theorem Ints.cells {w : World} {b : Nat} {xs : List Int} (h : Ints w b 0 xs) : ∀ j u, (xs.map (Value.int .i64))[j]? = some u → w.cell? ((⟨b, 0, none⟩ : Addr).add j) = some u := fun j u hu => by
  have hj : j < xs.length := by
    have := List.getElem?_eq_some_iff.1 hu
    obtain ⟨h1, _⟩ := this
    simpa using h1
  have := h j hj
  rw [List.getElem?_map, List.getElem?_eq_getElem hj] at hu
  simp at hu
  subst hu
  by_cases e : j = 0
  · subst e; simpa [Addr.add, nth_eq hj] using this
  · simpa [Addr.add, e, nth_eq hj] using this
theorem nth_rep (n j : Nat) : nth (List.replicate n 0) j = 0 := by
  unfold nth
  simp only [List.getD, List.getElem?_replicate]
  split <;> rfl
theorem Own.app0 {w : World} {B : Nat} {v : Value} {xs : List Int} (h : w.ownsRow B 3 1 v (([] : List Int).length + xs.length) (([] : List Int).map (Value.int .i64) ++ xs.map (Value.int .i64))) : Own w B v xs := by
  unfold Own; simpa using h
/-- 'wpList_append_own_at' (Derived/Maps/AppendAt.lean) at an operation whose guard says yes. -/
theorem wpList_append_wanted {P : Program} {w : World} {ops : Array Oper} {rest : List Oper} {o : Oper} {a : Act} {Q : Exit → Act → World → Prop} (hgd : Region.wanted o (yielded ops a.tmps) = true) (s x : Operand) (t : TypeId)
    (ho : o.op = .call { callee := .builtin .append, args := #[s, x], argTypes := #[t, t] })
    (base : Nat) (e : TypeId) (i : TypeInfo) (z : Value) (size bytes : Nat) (ht : P.underlying t = Option.some (.slice e)) (hi : P.info? e = Option.some i) (hz : i.zero = Option.some z)
    (hsize : i.size = size) (hby : i.bytes = bytes) (hzs : z.cells.size = size) (hsz : 0 < size)
    (v : Value) (n : Nat) (xs : List Value) (hs : a.eval s = v) (hown : w.ownsRow base e size v n xs)
    (ad : Addr) (m c : Nat) (news : List Value) (hx : a.eval x = .slice (Option.some ad) m c) (hl : news.length = m * size) (hnews : ∀ j u, news[j]? = Option.some u → w.cell? (ad.add j) = Option.some u) (h1 : ∀ u ∈ news, u.oneCell' = true)
    (h63 : n + m ≤ maxLen) (hbytes : (n + m) * bytes ≤ 140737488355328) (hbase : base ≤ w.heap.size)
    (h : ∀ v' w', w'.ownsRow base e size v' (n + m) (xs ++ news) → w.grownBy w' v.ownBlock → (v' = .slice Option.none 0 0 ↔ v = .slice Option.none 0 0 ∧ m = 0) → (v'.ownBlock = v.ownBlock ∨ v'.ownBlock = Option.some w.heap.size) → wpList P ops Q rest (a.put o.dst v') w') :
    wpList P ops Q (o :: rest) a w := by
  refine wpList_step fun K hK => ?_
  rw [if_pos hgd]
  obtain ⟨v', w', hr, h2, h3, h4, h5⟩ := run_append_own_at (P := P) w base t o.type e i z size bytes ht hi hz hsize hby hzs hsz v n xs hown ad m c news hl hnews h1 h63 hbytes hbase
  unfold Oper.wp execOp
  simp only [ho, resolve, invoke, builtin, Sem.run_bind, Sem.run_pure, Result.andThen_ok, List.map_toArray, List.map_cons, List.map_nil, hs, hx, hr]
  exact hK _ _ (h v' w' h2 h3 h4 h5)
end Go.Proofs.Yteeokegkbhpbcaa
