/- Regions that draw their order: one walk of the text's order, then some operations that wait for all others, one after the other. -/
import Derived.Test.Yteeokegkbhpbcaa8G
import Derived.Deep.Quiet
namespace Go.Proofs.Yteeokegkbhpbcaa
open Go Go.RowKit
set_option linter.unusedVariables false
set_option linter.unusedSimpArgs false

section
variable {P : Program} {ops : Array Oper} {C : World → Prop} {m : Nat}
theorem Closed.set {listed : Array Bool} {i : Nat} (h : Closed ops listed) (hi : i ∈ Region.ready .any ops listed) : Closed ops (listed.setIfInBounds i true) := by
  intro j o ho hj e he hb
  have up : ∀ k, listed.getD k true = true → (listed.setIfInBounds i true).getD k true = true := fun k hk => by
    by_cases g : i = k
    · subst g
      by_cases hlt : i < listed.size
      · simp [hlt]
      · simp [hlt]
    · rw [getD_set_ne true g]; exact hk
  by_cases g : i = j
  · subst g
    obtain ⟨_, o', ho', ha⟩ := mem_ready.1 hi
    obtain rfl : o = o' := Option.some.inj (ho.symm.trans ho')
    refine up _ ?_
    have := ha e he hb
    rcases Nat.lt_or_ge e.on listed.size with h' | h'
    · simp [h'] at this ⊢; exact this
    · simp [Array.getElem?_eq_none h'] at this
  · rw [getD_set_ne true g] at hj
    exact up _ (h j o ho hj e he hb)
theorem Closed.none (n : Nat) (hn : ops.size = n) : Closed ops (Array.replicate n false) := by
  intro j o ho hj
  have : j < n := by rw [← hn]; exact (Array.getElem?_eq_some_iff.1 ho).1
  simp [this] at hj
/-- What may come up while one of the first m has not: one of the first m. -/
theorem early {listed : Array Bool} {i j : Nat} (hL : lateB ops m = true) (hc : Closed ops listed) (hj : j ∈ Region.ready .any ops listed) (hi : i < m) (hun : listed.getD i true = false) : j < m := by
  obtain ⟨_, o, ho, ha⟩ := mem_ready.1 hj
  have hjs : j < ops.size := (Array.getElem?_eq_some_iff.1 ho).1
  have h1 := List.all_eq_true.1 hL j (List.mem_range.2 hjs)
  rcases Nat.lt_or_ge j m with g | g
  · exact g
  · have h2 : ((List.range m).all fun q => waits ops ops.size j q) = true := by simpa [show ¬ j < m by omega] using h1
    have h3 := List.all_eq_true.1 h2 i (List.mem_range.2 hi)
    have := waits_listed hc _ _ _ o ho (fun e he hb => by
      have := ha e he hb
      rcases Nat.lt_or_ge e.on listed.size with h' | h'
      · simp [h'] at this ⊢; exact this
      · simp [Array.getElem?_eq_none h'] at this) h3
    rw [this] at hun; cases hun
/-- The first m in whatever order, then R. -/
def wpAnyM (P : Program) (ops : Array Oper) (C : World → Prop) (m : Nat) (R : Array Bool → Act → Prop) : Nat → Array Bool → Act → Prop
  | 0, listed, a => (∀ i, i < m → listed.getD i true = true) ∧ R listed a
  | fuel + 1, listed, a => Region.ready .any ops listed ≠ [] ∧ ∀ i ∈ Region.ready .any ops listed, qOp P ops C i (wpAnyM P ops C m R fuel (listed.setIfInBounds i true)) a
theorem wpAny_of_M {Q' : Exit → Act → World → Prop} {L : Nat} : ∀ (fuel : Nat) (listed : Array Bool) (a : Act) (w : World), C w →
    wpAnyM P ops C m (fun l a => ∀ w, C w → wpAny P .any ops Q' L l a w) fuel listed a → wpAny P .any ops Q' (fuel + L) listed a w
  | 0, _, _, _, hw, h => by rw [Nat.zero_add]; exact h.2 _ hw
  | fuel + 1, _, _, _, hw, h => by
    rw [show fuel + 1 + L = (fuel + L) + 1 by omega]
    exact ⟨fun h0 => absurd h0 h.1, fun i hi => wpOp_of_qOp hw (fun a' w' hw' => wpAny_of_M fuel _ a' w' hw') (h.2 i hi)⟩
theorem wpAnyM_first {R : Array Bool → Act → Prop} {i : Nat} {oi : Oper} {v : Value} (hL : lateB ops m = true) (him : i < m) (hi : ops[i]? = some oi) (hsel : ∀ (j : Nat) (o : Oper) cs b, ops[j]? = some o → o.op ≠ .select cs b) :
    ∀ (fuel : Nat) (listed : Array Bool) (a : Act), Closed ops listed →
      (∀ j oj, ops[j]? = some oj → j ≠ i → listed.getD j true = false → (∀ e ∈ oj.after, Region.binds .any e = true → e.on ≠ i) → oi.apart ops oj = true) →
      i ∈ Region.ready .any ops listed → YieldsIn P ops C oi v a →
      wpAnyM P ops C m R fuel (listed.setIfInBounds i true) (a.put oi.dst v) → wpAnyM P ops C m R (fuel + 1) listed a := by
  intro fuel
  induction fuel with
  | zero =>
    intro listed a hc _ hr hy H
    refine ⟨fun h => (by rw [h] at hr; cases hr), fun j hj => ?_⟩
    by_cases hji : j = i
    · subst hji; exact hy.qOp hi H
    · have hjm := early hL hc hj him (mem_ready.1 hr).1
      have h1 := H.1 j hjm
      rw [getD_set_ne true (Ne.symm hji), (mem_ready.1 hj).1] at h1
      cases h1
  | succ fuel ih =>
    intro listed a hc hfree hr hy H
    refine ⟨fun h => (by rw [h] at hr; cases hr), fun j hj => ?_⟩
    by_cases hji : j = i
    · subst hji; exact hy.qOp hi H
    · have h1 := H.2 j (ready_mono hj hji)
      obtain ⟨hjun, oj, hoj, hall⟩ := mem_ready.1 hj
      have hnot : ∀ e ∈ oj.after, Region.binds .any e = true → e.on ≠ i := fun e he hb heq => by
        have h1 := hall e he hb
        have h0 := (mem_ready.1 hr).1
        rw [heq] at h1
        rcases Nat.lt_or_ge i listed.size with h' | h'
        · simp [h'] at h0 h1; rw [h0] at h1; cases h1
        · simp [Array.getElem?_eq_none h'] at h1
      have h2 := qOp_put hoj (hfree j oj hoj hji hjun hnot) (fun cs b => hsel i oi cs b hi) (fun cs b => hsel j oj cs b hoj) hy h1
      have hfree' : ∀ k ok, ops[k]? = some ok → k ≠ i → (listed.setIfInBounds j true).getD k true = false →
          (∀ e ∈ ok.after, Region.binds .any e = true → e.on ≠ i) → oi.apart ops ok = true := fun k ok hk hki hun hno => by
        refine hfree k ok hk hki ?_ hno
        by_cases hjk : j = k
        · subst hjk; exact hjun
        · rw [getD_set_ne true hjk] at hun; exact hun
      refine qOp_mono (fun a' h3 => ih (listed.setIfInBounds j true) a' (Closed.set hc hj) hfree' (ready_mono hr (Ne.symm hji)) h3.1 ?_) h2
      rw [Array.setIfInBounds_comm _ _ hji]
      exact h3.2
def lexM (ops : Array Oper) (m : Nat) : Nat → Nat → Array Bool → Bool
  | 0, k, listed => decide (k = m) && listed == lateArr ops.size m
  | n + 1, k, listed => decide (k < m) && (Region.ready .any ops listed).contains k && Region.free .any ops listed k && lexM ops m n (k + 1) (listed.setIfInBounds k true)
theorem wpAnyM_lex {R : Array Bool → Act → Prop} (hL : lateB ops m = true) (hs : Region.noSelect ops = true) : ∀ (l : List Oper) (k : Nat) (listed : Array Bool) (a : Act), (∀ j o, l[j]? = some o → ops[k + j]? = some o) → Closed ops listed → m ≤ ops.size →
    lexM ops m l.length k listed = true → wpQuiet P ops C (fun a => R (lateArr ops.size m) a) l a → wpAnyM P ops C m R l.length listed a
  | [], k, listed, a, _, hc, hms, hB, h => by
    simp only [List.length_nil, lexM, Bool.and_eq_true, decide_eq_true_eq, beq_iff_eq] at hB
    obtain ⟨rfl, rfl⟩ := hB
    exact ⟨fun i hi => by simp [lateArr, show i < ops.size by omega, hi], h⟩
  | o :: l, k, listed, a, hl, hc, hms, hB, h => by
    have h0 : ops[k]? = some o := by simpa using (hl 0 o rfl)
    simp only [List.length_cons, lexM, Bool.and_eq_true, decide_eq_true_eq] at hB
    obtain ⟨⟨⟨hk, hr⟩, hf⟩, hB'⟩ := hB
    have hr' : k ∈ Region.ready .any ops listed := by simpa using hr
    have hst : qOp P ops C k (wpQuiet P ops C (fun a => R (lateArr ops.size m) a) l) a := by unfold qOp; simp only [h0]; exact h
    obtain ⟨v, hy, hK⟩ := yieldsIn_of_qOp h0 hst
    exact wpAnyM_first hL hk h0 (Region.noSelect_spec hs) l.length listed a hc (Region.free_spec h0 hf) hr' hy
      (wpAnyM_lex hL hs l (k + 1) _ _ (fun j p hj => by have := hl (j + 1) p (by simpa using hj); rwa [show k + 1 + j = k + (j + 1) by omega]) (Closed.set hc hr') hms hB' hK)
end
theorem wpQuiet_mono' {P : Program} {ops : Array Oper} {C : World → Prop} {Q Q' : Act → Prop} (h : ∀ a, Q a → Q' a) : ∀ (l : List Oper) (a : Act), wpQuiet P ops C Q l a → wpQuiet P ops C Q' l a
  | [], a, hh => h a hh
  | o :: l, a, hh => by
    unfold wpQuiet at *
    split
    · rename_i g
      rw [if_pos g] at hh
      exact Oper.quiet_mono (fun a hk => wpQuiet_mono' h l a hk) hh
    · rename_i g
      rw [if_neg g] at hh
      exact wpQuiet_mono' h l _ hh
/-- **THE RULE**. -/
theorem wp_region_quiet_late {P : Program} {id : Nat} {Q : Exit → Act → World → Prop} {a : Act} {w : World} {l : List Oper} {C : World → Prop} (m : Nat) (late : List Oper)
    (hm : P.follows .mixedOrders = true) (hs : Region.noSelect l.toArray = true) (hB : lexM l.toArray m m 0 (Array.replicate l.length false) = true) (hL : lateB l.toArray m = true) (hl : l = l.take m ++ late) (hlm : l.length = m + late.length)
    (hch : chainB l.toArray late.length m (lateArr l.length m) = true) (hC : C { w with drawn := w.drawn + 1 })
    (h : wpQuiet P l.toArray C (fun a' => ∀ w', C w' → wpList P l.toArray Q late a' w') (l.take m) a) : (Code.region id l.toArray true).wp P Q a w := by
  refine wp_region_any hm ?_
  have e : l.toArray.size = m + late.length := by simpa using hlm
  have htk : (l.take m).length = m := by simp; omega
  have h2 := wpAnyM_lex (C := C) (P := P) (R := fun li a' => ∀ w', C w' → wpAny P .any l.toArray Q late.length li a' w') hL hs (l.take m) 0 (Array.replicate l.toArray.size false) a (fun j o hj => by
    have hjm : j < m := by
      obtain ⟨h1, _⟩ := List.getElem?_eq_some_iff.1 hj
      simp at h1; omega
    rw [List.getElem?_take, if_pos hjm] at hj
    simpa using hj) (Closed.none _ rfl) (by omega) (by rw [htk]; simpa using hB) ?_
  · rw [htk] at h2
    have := wpAny_of_M m _ a _ hC h2
    rwa [← e] at this
  · refine wpQuiet_mono' ?_ _ _ h
    intro a' h3 w' hw'
    have hw2 := h3 w' hw'
    have := wpAny_chain (P := P) (Q := Q) late m (lateArr l.toArray.size m) a' w' (fun i o hio => by
      have : l[m + i]? = some o := by
        rw [hl, List.getElem?_append_right (by rw [htk]; omega), htk, show m + i - m = i by omega]; exact hio
      simpa using this) (by simpa using hch) hw2
    exact this
end Go.Proofs.Yteeokegkbhpbcaa
