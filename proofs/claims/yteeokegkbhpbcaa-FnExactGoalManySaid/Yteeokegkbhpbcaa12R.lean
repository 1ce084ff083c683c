/- A range over a function whose loop always goes on to the end: what the iterator owes, and the law. The iterator may keep a state of its own in blocks that it made at its start, and yield slices of its own. -/
import Derived.RangeFuncNested
import Derived.RangeFuncBound
import Derived.RangeFuncCalls
import Derived.RangeFuncLeaves
import Derived.Test.Yteeokegkbhpbcaa8R
namespace Go.Proofs.Yteeokegkbhpbcaa
open Go.RowKit
set_option linter.unusedVariables false
set_option linter.unusedSimpArgs false
set_option maxRecDepth 100000

/-- What a round keeps for the iterator: its own k blocks from m on, and what it has captured (blocks c0 to c1). -/
def Kr (m k c0 c1 : Nat) (A B : World) : Prop := A.heap.size ≤ B.heap.size ∧ ∀ q, (m ≤ q ∧ q < m + k) ∨ (c0 ≤ q ∧ q < c1) → B.heap[q]? = A.heap[q]?
/-- The iterator yields, one after the other, values that stand for Xs; between the rounds it turns only its own k blocks, the first ones that it made. -/
def SeqR {α : Type} (P : Program) (gf : Nat) (lb : Array Value) (k c0 c1 : Nat) (Xs : List α) (V : Nat → α → World → Value → Prop) (w : World) : Prop :=
  ∀ (l m : Nat) (J : Nat → World → Prop) (W : World), Below w.heap.size w W → W.heap.size = m → (∀ i A B, J i A → Out m (m + k) A B → J i B) →
    (∀ (i : Nat) (x : α) (A : World) (v : Value), Xs[i]? = some x → J i A → m + k ≤ A.heap.size → V m x A v →
      YieldAt Fence.wide 0 P l #[v] A fun e B => e = .returned (.bool true) ∧ J (i + 1) B ∧ Kr m k c0 c1 A B) →
    J 0 W → CallsIn Fence.wide 0 P gf (#[.func (.yield l) #[] #[]] ++ lb) W fun e B => (∃ v, e = .returned v) ∧ J Xs.length B
/-- A body that goes on. -/
def goOn (I : World → Prop) (d k c0 c1 : Nat) (W : World) : Exit → Act → World → Prop
  | .normal, _, W' => I W' ∧ Kr d (2 + k) c0 c1 W W'
  | _, _, _ => False
theorem putObj_out {W : World} {q lo hi : Nat} {o : Obj} (h1 : lo ≤ q) (h2 : q < hi) : Out lo hi W (W.putObj q o) :=
  Out.grown (grownBy_putObj' W q o) fun i e => by cases e; exact ⟨h1, h2⟩
theorem wp_range1 {P : Program} {α : Type} {g : Operand} {ps : Array Tmp} {assign body : Code} {Q : Exit → Act → World → Prop} {a : Act} {w w0 : World} {gf : Nat} {lb : Array Value} {k c0 c1 : Nat} {Xs : List α} {V : Nat → α → World → Value → Prop}
    (hg : a.eval g = .func (.func gf) #[] lb) (eg : ∀ args w, (callFunc gf args).run P w = .ok (.enter gf args) w)
    (hseq : SeqR P gf lb k c0 c1 Xs V w0) (hb0 : Below w0.heap.size w0 w) (hc1 : c1 ≤ w.heap.size) (hps : ps.size = 1)
    (hV : ∀ m x A B v, V m x A v → (∀ q, m ≤ q → B.heap[q]? = A.heap[q]?) → V m x B v)
    (I : Nat → World → Prop) (hI : ∀ i A B, I i A → Out w.heap.size (w.heap.size + 2 + k) A B → I i B) (h0 : I 0 w) (a₁ : Value → Act)
    (hassign : ∀ (l : Nat) (v : Value) (W : World) (K : Act → World → Prop), K (a₁ v) W →
      assign.wpIn (Fence.wide.inRound l) 0 P (Exit.then K (fun _ _ _ => False)) { tmps := (ps.zip #[v]).foldl (fun t (p, v) => t.setIfInBounds p v) a.tmps, defers := [] } W)
    (hbody : ∀ (l i : Nat) (x : α) (v : Value) (W : World), Xs[i]? = some x → I i W → w.heap.size + 2 + k ≤ W.heap.size → V (w.heap.size + 2) x W v →
      body.wpIn (Fence.wide.inRound l) 0 P (goOn (I (i + 1)) w.heap.size k c0 c1 W) (a₁ v) W)
    (hdone : ∀ W, I Xs.length W → W.heap[w.heap.size]? = some (.deferred (some [])) → Q .normal { a with defers := { target := .collected w.heap.size, args := #[] } :: a.defers } W) :
    (Code.rangeFunc g ps assign body).wp P Q a w := by
  obtain ⟨d, hd⟩ : ∃ d, w.heap.size = d := ⟨_, rfl⟩
  rw [hd] at hc1 hI hbody hdone
  refine (wpIn_wide (n := 0)).1 (wpIn_rangeFunc fun fn hfn => ?_)
  obtain ⟨R, hR⟩ : ∃ R : LoopState → Loop, R = fun s => { state := s, pending := none, fn := fn, tmps := a.tmps, params := ps, assign := assign, body := body, defers := d } := ⟨_, rfl⟩
  obtain ⟨W1, hW1⟩ : ∃ W1, (w.alloc (.deferred (some []))).alloc (.loop (R .ready)) = W1 := ⟨_, rfl⟩
  have hs1 : W1.heap.size = d + 2 := by rw [← hW1]; simp [hd]
  have hL1 : W1.heap[d + 1]? = some (.loop (R .ready)) := by
    have h := World.alloc_heap_new (w.alloc (.deferred (some []))) (.loop (R .ready))
    rwa [World.size_alloc, hd, hW1] at h
  have hD1 : W1.heap[d]? = some (.deferred (some [])) := by
    rw [← hW1, ← hd]
    exact (Below.heap_alloc _ _ _ (by simp)).trans (World.alloc_heap_new w _)
  have hB1 : Below w.heap.size w W1 := by
    rw [← hW1]; exact ((Below.refl _ w).alloc (Nat.le_refl _) _).alloc (by simp) _
  have hI1 : I 0 W1 := hI 0 w W1 h0 (Out.mk' hB1)
  refine ⟨d + 1, [{ target := .collected d, args := #[] }], W1, { target := .fn (.func gf) lb, args := #[.func (.yield (d + 1)) #[] #[]] }, W1, gf, #[.func (.yield (d + 1)) #[] #[]] ++ lb, W1, ?_, ?_, fun _ _ => trivial, ?_, fun h => by simp [Fence.wide] at h, ?_⟩
  · have h := run_enterLoop_outer (P := P) (w := w) fn a.tmps ps assign body
    rw [hd] at h
    rw [← hW1, hR]
    exact h
  · simp only [resolve, hg]
    simp [go_sem]
  · simp [invoke, go_sem, eg]
  refine CallsIn.mono (hseq (d + 1) (d + 2) (fun i W => I i W ∧ W.heap[d + 1]? = some (.loop (R .ready)) ∧ W.heap[d]? = some (.deferred (some [])) ∧ d + 2 ≤ W.heap.size) W1
    (hb0.trans (hB1.mono hb0.size)) hs1 (fun i A B hJ ho => ?_) (fun i x A v hx hJ hsz hv => ?_) ⟨hI1, hL1, hD1, by omega⟩) ?_
  · obtain ⟨h1, h2, h3, h4⟩ := hJ
    exact ⟨hI i A B h1 (ho.wide (by omega) (by omega)), (ho.block (d + 1) (by omega) (by omega)).trans h2, (ho.block d (by omega) (by omega)).trans h3, Nat.le_trans h4 ho.size⟩
  · obtain ⟨h1, h2, h3, h4⟩ := hJ
    have hy := run_yield (P := P) (args := #[v]) h2 (by rw [hR]; simp [hps])
    rw [hR] at hy
    refine ⟨fn, _, assign, body, hy, roundIn_of_wpIn hfn (hassign (d + 1) v A _ ⟨_, run_beginRound h2 (by rw [hR]), ?_⟩)⟩
    obtain ⟨A2, hA2⟩ : ∃ A2, A.putObj (d + 1) (.loop { R .ready with state := .busy }) = A2 := ⟨_, rfl⟩
    rw [hA2]
    have hoff : ∀ q, q ≠ d + 1 → A2.heap[q]? = A.heap[q]? := fun q hq => by rw [← hA2]; exact World.putObj_heap_other (fun e => hq (by omega))
    have hlt : d + 1 < A.heap.size := by omega
    have hb2 : A2.heap[d + 1]? = some (.loop { R .ready with state := .busy }) := by rw [← hA2]; exact World.putObj_heap_same hlt
    have hs2 : A2.heap.size = A.heap.size := by rw [← hA2]; simp
    have hI2 : I i A2 := hI i A A2 h1 (by rw [← hA2]; exact putObj_out (by omega) (by omega))
    refine wpIn_mono (hbody (d + 1) i x v A2 hx hI2 (by omega) (hV _ x A A2 v hv fun q hq => hoff q (by omega))) ?_
    intro e a3 W3 hp
    cases e <;> first | exact hp.elim | skip
    obtain ⟨hI3, hk⟩ := hp
    have hb3 := (hk.2 (d + 1) (.inl ⟨by omega, by omega⟩)).trans hb2
    have hs3 := hk.1
    have hend := run_endRound (P := P) none hb3
    refine ⟨_, _, hend, rfl, ⟨hI _ _ _ hI3 (putObj_out (by omega) (by omega)), ?_, ?_, by simp; omega⟩, ?_⟩
    · rw [World.putObj_heap_same (by omega), hR]; rfl
    · exact (World.putObj_heap_other (by omega)).trans ((hk.2 d (.inl ⟨by omega, by omega⟩)).trans ((hoff d (by omega)).trans h3))
    · refine ⟨by simp; omega, fun q hq => ?_⟩
      exact (World.putObj_heap_other (by omega)).trans ((hk.2 q (by omega)).trans (hoff q (by omega)))
  · rintro e W2 ⟨⟨v, rfl⟩, h1, h2, h3, h4⟩
    have hend := run_endLoop (P := P) h2 (by rw [hR]; simp)
    refine ⟨none, _, by rw [hend, hR], hdone _ (hI _ _ _ h1 (putObj_out (by omega) (by omega))) ((World.putObj_heap_other (by omega)).trans h3)⟩
end Go.Proofs.Yteeokegkbhpbcaa
