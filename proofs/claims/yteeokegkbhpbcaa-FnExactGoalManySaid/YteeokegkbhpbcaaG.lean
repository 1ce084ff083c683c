/- Regions that draw their order, by the types of their temporaries: each operation alone keeps a class of worlds and gives a value of its temporary's type; then so does every order. -/
import Derived.Test.YteeokegkbhpbcaaS
import Derived.Orders
namespace Go.Proofs.Yteeokegkbhpbcaa
open Go Go.RowKit
set_option linter.unusedVariables false
set_option linter.unusedSimpArgs false

/-- The values of operands, where the temporaries hold vs. -/
def evOf (vs : Nat → Value) : Operand → Value
  | .tmp t => vs t
  | .const v => v
  | .global g => .pointer (some ⟨g, 0, none⟩)
  | .func f => .func (.func f) #[] #[]
def slots (a : Act) : Nat → Value := fun t => a.tmps.getD t undef
theorem eval_slots (a : Act) : a.eval = evOf (slots a) := funext fun x => by cases x <;> rfl
def dstOk (n : Nat) (o : Oper) : Bool := match o.dst with | none => true | some d => decide (d < n)
/-- What one operation must come to. -/
def Comply (P : Program) (C : Nat → World → Prop) (R : World → World → Prop) (k : Nat) (w : World) (M : Value → World → Prop) : Result Next → Prop
  | .ok (.value u) w' => M u w' ∧ C (k + 1) w' ∧ R w w'
  | .ok .skip w' => M undef w' ∧ C (k + 1) w' ∧ R w w'
  | .ok (.enter f args) w' => Calls P f args w' fun e w'' => ∃ v, e = .returned v ∧ M v w'' ∧ C (k + 1) w'' ∧ R w w''
  | _ => False
/-- The obligation of an operation. -/
def Ob (P : Program) (ops : Array Oper) (C : Nat → World → Prop) (R : World → World → Prop) (T : Nat → Value → World → Prop) (n : Nat) (o : Oper) : Prop :=
  ∀ (k : Nat) (w : World) (vs : Nat → Value), k < n → C k w → (∀ t, t ∈ o.looksAt ops → T t (vs t) w) → Comply P C R k w (fun v w' => ∀ d, o.dst = some d → T d v w') ((execOp (evOf vs) o).run P w)
def Obs (P : Program) (ops : Array Oper) (C : Nat → World → Prop) (R : World → World → Prop) (T : Nat → Value → World → Prop) (n : Nat) : List Oper → Prop
  | [] => True
  | o :: l => Ob P ops C R T n o ∧ Obs P ops C R T n l
theorem Obs.mem {P : Program} {ops : Array Oper} {C : Nat → World → Prop} {R : World → World → Prop} {T : Nat → Value → World → Prop} {n : Nat} : ∀ {l : List Oper}, Obs P ops C R T n l → ∀ o ∈ l, Ob P ops C R T n o
  | [], _, o, h => by cases h
  | x :: l, h, o, hm => by
    rcases List.mem_cons.1 hm with e | e
    · subst e; exact h.1
    · exact Obs.mem h.2 o e
/-- No operation is guarded; each waits for lexically earlier ones alone; and what it looks at was written by one that it waits for, or by none. -/
def plainB (ops : Array Oper) : Bool := Region.noSelect ops && (List.range ops.size).all fun i =>
  match ops[i]? with
  | none => true
  | some o => o.guard.isNone && (o.after.all fun e => !Region.binds .any e || decide (e.on < i)) &&
      (o.looksAt ops).all fun t => (List.range ops.size).all fun j => match ops[j]? with
        | none => true
        | some p => p.dst != some t || o.after.any fun e => Region.binds .any e && e.on == j
theorem plainB_spec {ops : Array Oper} (h : plainB ops = true) : Region.noSelect ops = true ∧ ∀ i o, ops[i]? = some o → o.guard = none ∧ (∀ e ∈ o.after, Region.binds .any e = true → e.on < i) ∧ ∀ t ∈ o.looksAt ops, ∀ j p, ops[j]? = some p → p.dst = some t → ∃ e ∈ o.after, Region.binds .any e = true ∧ e.on = j := by
  unfold plainB at h
  rw [Bool.and_eq_true] at h
  refine ⟨h.1, fun i o hi => ?_⟩
  have hlt : i < ops.size := (Array.getElem?_eq_some_iff.1 hi).1
  have := List.all_eq_true.1 h.2 i (List.mem_range.2 hlt)
  simp only [hi, Bool.and_eq_true] at this
  obtain ⟨⟨h1, h2⟩, h3⟩ := this
  refine ⟨by simpa using h1, fun e he hb => ?_, fun t ht j p hj hd => ?_⟩
  · have := Array.all_eq_true_iff_forall_mem.1 h2 e he
    simpa [hb] using this
  · have h4 := List.all_eq_true.1 h3 t ht
    have h5 := List.all_eq_true.1 h4 j (List.mem_range.2 (Array.getElem?_eq_some_iff.1 hj).1)
    simp only [hj, hd, bne_self_eq_false, Bool.false_or, Array.any_eq_true] at h5
    obtain ⟨q, hq, h6⟩ := h5
    rw [Bool.and_eq_true] at h6
    exact ⟨o.after[q], Array.getElem_mem hq, h6.1, by simpa using h6.2⟩
/-- How many are left. -/
def leftN (l : Array Bool) : Nat := l.toList.count false
theorem leftN_set {l : Array Bool} {i : Nat} (h : l.getD i true = false) : leftN (l.setIfInBounds i true) + 1 = leftN l := by
  have hi : i < l.size := by
    rcases Nat.lt_or_ge i l.size with h' | h'
    · exact h'
    · simp [Array.getElem?_eq_none h'] at h
  have hv : l.toList[i]'(by simpa using hi) = false := by simpa [hi] using h
  unfold leftN
  rw [Array.toList_setIfInBounds, List.count_set (by simpa using hi), hv]
  have : 0 < l.toList.count false := List.count_pos_iff.2 (hv ▸ List.getElem_mem _)
  show _ - 1 + 0 + 1 = _
  omega
theorem leftN_zero {l : Array Bool} (h : leftN l = 0) (i : Nat) : l.getD i true = true := by
  rcases Nat.lt_or_ge i l.size with h' | h'
  · have h1 : ¬ false ∈ l.toList := List.count_eq_zero.1 h
    cases hv : l.getD i true
    · exact absurd (by have : l.toList[i]'(by simpa using h') = false := by simpa [h'] using hv
                       rw [← this]; exact List.getElem_mem _) h1
    · rfl
  · simp [Array.getElem?_eq_none h']
theorem leftN_least {l : Array Bool} (h : leftN l ≠ 0) : ∃ i, l.getD i true = false ∧ ∀ j, j < i → l.getD j true = true := by
  have ex : ∃ i, l.getD i true = false := by
    have : 0 < l.toList.count false := Nat.pos_of_ne_zero h
    obtain ⟨i, hi, hv⟩ := List.getElem_of_mem (List.count_pos_iff.1 this)
    exact ⟨i, by simp at hi hv; simp [hi, hv]⟩
  obtain ⟨i, hi⟩ := ex
  have key : ∀ m, (∃ i, i < m ∧ l.getD i true = false) → ∃ i, l.getD i true = false ∧ ∀ j, j < i → l.getD j true = true := by
    intro m
    induction m with
    | zero => rintro ⟨i, h, _⟩; omega
    | succ m ih =>
      rintro ⟨i, him, hi⟩
      by_cases g : ∃ i, i < m ∧ l.getD i true = false
      · exact ih g
      · refine ⟨i, hi, fun j hj => ?_⟩
        cases hv : l.getD j true
        · exact absurd ⟨j, by omega, hv⟩ g
        · rfl
  exact key (i + 1) ⟨i, by omega, hi⟩
theorem getD_eq {l : Array Bool} {i : Nat} (h : i < l.size) (a b : Bool) : l.getD i a = l.getD i b := by simp [h]

section
variable {P : Program} {ops : Array Oper} {C : Nat → World → Prop} {R : World → World → Prop} {T : Nat → Value → World → Prop} {n : Nat}
theorem slots_put {a : Act} {d : Tmp} {v : Value} (t : Nat) : slots (a.put (some d) v) t = if t = d ∧ d < a.tmps.size then v else slots a t := by
  unfold slots Act.put
  simp only [Array.getD_eq_getD_getElem?]
  by_cases e : t = d
  · subst e
    by_cases h : t < a.tmps.size
    · simp [h]
    · simp [h]
  · simp [e, Array.getElem?_setIfInBounds_ne (Ne.symm e)]
/-- What holds at every moment of every order. -/
def Mid (ops : Array Oper) (C : Nat → World → Prop) (T : Nat → Value → World → Prop) (a0 : Act) (k : Nat) (listed : Array Bool) (a : Act) (w : World) : Prop :=
  C k w ∧ a.defers = a0.defers ∧ a.tmps.size = a0.tmps.size ∧
  (∀ t, (∀ (j : Nat) (o : Oper), ops[j]? = some o → o.dst = some t → listed.getD j true = true) → T t (slots a t) w) ∧
  ∀ t, (∀ (j : Nat) (o : Oper), ops[j]? = some o → o.dst ≠ some t) → slots a t = slots a0 t

theorem Mid.next {a0 a : Act} {k : Nat} {listed : Array Bool} {w w' : World} {i : Nat} {o : Oper} {v : Value} (h : Mid ops C T a0 k listed a w) (hst : ∀ t v w w', R w w' → T t v w → T t v w')
    (hi : ops[i]? = some o) (hd : ∀ d, o.dst = some d → d < a0.tmps.size) (hv : ∀ d, o.dst = some d → T d v w') (hc : C (k + 1) w') (hr : R w w') : Mid ops C T a0 (k + 1) (listed.setIfInBounds i true) (a.put o.dst v) w' := by
  have hput : ∀ t, slots (a.put o.dst v) t = if o.dst = some t then v else slots a t := by
    intro t
    cases e : o.dst with
    | none => simp [Act.put, slots]
    | some d =>
      rw [slots_put]
      have := hd d e
      rw [← h.2.2.1] at this
      by_cases g : t = d
      · subst g; simp [this]
      · have g' : d ≠ t := fun x => g x.symm
        simp [g, g']
  refine ⟨hc, ?_, ?_, fun t ht => ?_, fun t ht => ?_⟩
  · cases e : o.dst <;> simp [Act.put, h.2.1]
  · cases e : o.dst <;> simp [Act.put, h.2.2.1]
  · rw [hput]
    split
    · rename_i e; exact hv t e
    · rename_i e
      refine hst _ _ _ _ hr (h.2.2.2.1 t fun j p hj hp => ?_)
      have := ht j p hj hp
      by_cases g : i = j
      · subst g; rw [hi] at hj; cases hj; exact absurd hp e
      · rwa [getD_set_ne true g] at this
  · rw [hput, if_neg (ht i o hi)]; exact h.2.2.2.2 t ht

theorem typed_any {Q : Exit → Act → World → Prop} {a0 : Act} (hB : plainB ops = true) (hst : ∀ t v w w', R w w' → T t v w → T t v w') (hd : ∀ (i : Nat) (o : Oper) (d : Nat), ops[i]? = some o → o.dst = some d → d < a0.tmps.size)
    (ho : ∀ o ∈ ops.toList, Ob P ops C R T ops.size o)
    (hQ : ∀ a w, C ops.size w → a.defers = a0.defers → a.tmps.size = a0.tmps.size → (∀ t, T t (slots a t) w) → (∀ t, (∀ (j : Nat) (o : Oper), ops[j]? = some o → o.dst ≠ some t) → slots a t = slots a0 t) → Q .normal a w) :
    ∀ (fuel k : Nat) (listed : Array Bool) (a : Act) (w : World), listed.size = ops.size → leftN listed = fuel → k + fuel = ops.size → Mid ops C T a0 k listed a w → wpAny P .any ops Q fuel listed a w
  | 0, k, listed, a, w, hs, hl, hk, h => by
    have all := leftN_zero hl
    refine ⟨?_, hQ a w (by have := h.1; rwa [show k = ops.size by omega] at this) h.2.1 h.2.2.1 (fun t => h.2.2.2.1 t fun j _ _ _ => all j) h.2.2.2.2⟩
    cases hr : Region.ready .any ops listed with
    | nil => rfl
    | cons x l =>
      have := (mem_ready.1 (show x ∈ Region.ready .any ops listed by rw [hr]; exact List.mem_cons_self ..)).1
      rw [all x] at this; cases this
  | fuel + 1, k, listed, a, w, hs, hl, hk, h => by
    obtain ⟨hsel, hp⟩ := plainB_spec hB
    refine ⟨fun hr => ?_, fun i hi => ?_⟩
    · exfalso
      obtain ⟨i, hi, hmin⟩ := leftN_least (l := listed) (by omega)
      have hil : i < ops.size := by
        rw [← hs]
        rcases Nat.lt_or_ge i listed.size with h' | h'
        · exact h'
        · simp [Array.getElem?_eq_none h'] at hi
      have hio : ops[i]? = some ops[i] := by simp [hil]
      have : i ∈ Region.ready .any ops listed := mem_ready.2 ⟨hi, ops[i], hio, fun e he hb => by
        have hlt := (hp i _ hio).2.1 e he hb
        rw [getD_eq (by rw [hs]; omega) false true]; exact hmin _ hlt⟩
      rw [hr] at this; cases this
    · obtain ⟨hun, o, hio, hall⟩ := mem_ready.1 hi
      obtain ⟨hg, hbk, hlook⟩ := hp i o hio
      unfold wpOp
      simp only [hio]
      have hw : Region.wanted o (yielded ops a.tmps) = true := by unfold Region.wanted; rw [hg]
      rw [if_pos hw]
      refine .inl ?_
      have hob := ho o (by simpa using Array.mem_of_getElem? hio) k w (slots a) (by omega) h.1 (fun t ht => h.2.2.2.1 t fun j p hj hdp => by
        obtain ⟨e, he, hb, hon⟩ := hlook t ht j p hj hdp
        have h1 := hall e he hb
        rw [hon] at h1
        rcases Nat.lt_or_ge j listed.size with h' | h'
        · rwa [getD_eq h' true false]
        · simp [Array.getElem?_eq_none h'])
      rw [← eval_slots] at hob
      have go : ∀ v w', (∀ d, o.dst = some d → T d v w') → C (k + 1) w' → R w w' → wpAny P .any ops Q fuel (listed.setIfInBounds i true) (a.put o.dst v) w' := fun v w' hv hc hr =>
        typed_any hB hst hd ho hQ fuel (k + 1) _ _ _ (by simp [hs]) (by have := leftN_set hun; omega) (by omega) (Mid.next h hst hio (fun d hdd => hd i o d hio hdd) hv hc hr)
      unfold Oper.wp
      generalize (execOp a.eval o).run P w = r at *
      cases r with
      | ok nx w' =>
        cases nx <;> simp only [Comply] at hob <;> simp only [Oper.upon]
        case value u => exact go _ _ hob.1 hob.2.1 hob.2.2
        case skip => exact go _ _ hob.1 hob.2.1 hob.2.2
        case enter f args => exact hob.mono fun e w'' ⟨v, he, h1, h2, h3⟩ => by subst he; exact go _ _ h1 h2 h3
      | halt x w' => simp only [Comply] at hob

/-- **THE RULE**: behind the region each temporary that it writes holds some value of its type; the others are as they were. -/
theorem wp_region_typed {id : Nat} {Q : Exit → Act → World → Prop} {a : Act} {w : World} {l : List Oper} (C : Nat → World → Prop) (R : World → World → Prop) (T : Nat → Value → World → Prop)
    (hm : P.follows .mixedOrders = true) (hB : plainB l.toArray = true) (hd : l.all (dstOk a.tmps.size) = true)
    (hst : ∀ t v w w', R w w' → T t v w → T t v w') (h0 : C 0 { w with drawn := w.drawn + 1 }) (hT : ∀ t, (∀ o ∈ l, o.dst ≠ some t) → T t (slots a t) { w with drawn := w.drawn + 1 })
    (ho : Obs P l.toArray C R T l.length l)
    (hQ : ∀ (vs : Nat → Value) (w' : World), C l.length w' → (∀ t, T t (vs t) w') → Q .normal { tmps := a.tmps.mapIdx fun t x => if l.any (fun o => o.dst == some t) then vs t else x, defers := a.defers } w') : (Code.region id l.toArray true).wp P Q a w := by
  refine wp_region_any hm (typed_any (C := C) (R := R) (T := T) (a0 := a) hB hst (fun i o d hi hdd => ?_) (fun o hm => Obs.mem (by simpa using ho) o (by simpa using hm)) (fun b w' hc hdf hsz ht hsame => ?_) l.toArray.size 0 (Array.replicate l.toArray.size false) a _ (by simp) (by simp [leftN]) (by simp) ⟨h0, rfl, rfl, fun t ht => ?_, fun t _ => rfl⟩)
  · have := List.all_eq_true.1 hd o (by simpa using Array.mem_of_getElem? hi)
    unfold dstOk at this; rw [hdd] at this; simpa using this
  · have := hQ (slots b) w' (by simpa using hc) ht
    have e : b = { tmps := a.tmps.mapIdx fun t x => if l.any (fun o => o.dst == some t) then slots b t else x, defers := a.defers } := by
      obtain ⟨bt, bd⟩ := b
      simp only at hdf hsz
      subst hdf
      congr 1
      apply Array.ext
      · simp [hsz]
      · intro i h1 h2
        simp only [Array.getElem_mapIdx]
        split
        · simp [slots, h1]
        · rename_i hno
          have := hsame i (fun j o hj hdd => hno (List.any_eq_true.2 ⟨o, by simpa using Array.mem_of_getElem? hj, by simp [hdd]⟩))
          have h3 : i < a.tmps.size := by simpa using h2
          simpa [slots, h1, h3] using this
    rw [e]; exact this
  · refine hT t fun o hol hdd => ?_
    obtain ⟨i, hi, e⟩ := List.getElem_of_mem hol
    have := ht i o (by simp [← e, hi]) hdd
    simp [hi] at this
end
end Go.Proofs.Yteeokegkbhpbcaa
