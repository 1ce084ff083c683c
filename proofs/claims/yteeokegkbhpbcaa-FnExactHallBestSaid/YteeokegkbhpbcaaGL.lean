/- Regions that draw their order and append to rows of their own: by types, where a temporary's type need hold only as long as something still reads it. -/
import Derived.Test.YteeokegkbhpbcaaGT
import Derived.Test.YteeokegkbhpbcaaK
namespace Go.Proofs.Yteeokegkbhpbcaa
open Go Go.RowKit
set_option linter.unusedVariables false
set_option linter.unusedSimpArgs false

/-- The obligation of operation i. -/
def ObI (P : Program) (ops : Array Oper) (C : Nat → World → Prop) (R : Nat → World → World → Prop) (T : Nat → Value → World → Prop) (n i : Nat) (o : Oper) : Prop :=
  ∀ (k : Nat) (w : World) (vs : Nat → Value), k < n → C k w → (∀ t, t ∈ o.looksAt ops → T t (vs t) w) → Comply P C (R i) k w (fun v w' => ∀ d, o.dst = some d → T d v w') ((execOp (evOf vs) o).run P w)
def ObsI (P : Program) (ops : Array Oper) (C : Nat → World → Prop) (R : Nat → World → World → Prop) (T : Nat → Value → World → Prop) (n : Nat) : Nat → List Oper → Prop
  | _, [] => True
  | i, o :: l => ObI P ops C R T n i o ∧ ObsI P ops C R T n (i + 1) l
theorem ObsI.get {P : Program} {ops : Array Oper} {C : Nat → World → Prop} {R : Nat → World → World → Prop} {T : Nat → Value → World → Prop} {n : Nat} : ∀ {l : List Oper} {i : Nat}, ObsI P ops C R T n i l → ∀ j o, l[j]? = some o → ObI P ops C R T n (i + j) o
  | [], _, _, j, o, h => by simp at h
  | x :: l, i, h, 0, o, e => by simp at e; subst e; exact h.1
  | x :: l, i, h, j + 1, o, e => by
    have := ObsI.get h.2 j o (by simpa using e)
    rwa [show i + 1 + j = i + (j + 1) by omega] at this
/-- Temporary t is still wanted behind operation i, and may have been written before it. -/
def keepsB (ops : Array Oper) (fin : Nat → Bool) (i t : Nat) : Bool :=
  (fin t || (List.range ops.size).any fun j => j != i && match ops[j]? with | none => false | some p => (p.looksAt ops).contains t) &&
  ((List.range ops.size).all fun j => match ops[j]? with | none => true | some p => p.dst != some t || (j != i && !(p.after.any fun e => Region.binds .any e && e.on == i)))
section
variable {P : Program} {ops : Array Oper} {C : Nat → World → Prop} {R : Nat → World → World → Prop} {T : Nat → Value → World → Prop} {n : Nat} {fin : Nat → Bool}
def MidL (ops : Array Oper) (C : Nat → World → Prop) (T : Nat → Value → World → Prop) (fin : Nat → Bool) (a0 : Act) (k : Nat) (listed : Array Bool) (a : Act) (w : World) : Prop :=
  C k w ∧ a.defers = a0.defers ∧ a.tmps.size = a0.tmps.size ∧
  (∀ t, (∀ (j : Nat) (o : Oper), ops[j]? = some o → o.dst = some t → listed.getD j true = true) → (fin t = true ∨ ∃ (j : Nat) (o : Oper), ops[j]? = some o ∧ t ∈ o.looksAt ops ∧ listed.getD j true = false) → T t (slots a t) w) ∧
  (∀ t, (∀ (j : Nat) (o : Oper), ops[j]? = some o → o.dst ≠ some t) → slots a t = slots a0 t) ∧
  ∀ (i : Nat) (o : Oper), ops[i]? = some o → listed.getD i true = true → ∀ e ∈ o.after, Region.binds .any e = true → listed.getD e.on true = true

theorem MidL.next {a0 a : Act} {k : Nat} {listed : Array Bool} {w w' : World} {i : Nat} {o : Oper} {v : Value} (h : MidL ops C T fin a0 k listed a w) (hst : ∀ t v w w', keepsB ops fin i t = true → R i w w' → T t v w → T t v w')
    (hi : ops[i]? = some o) (hun : listed.getD i true = false) (hbi : ∀ e ∈ o.after, Region.binds .any e = true → listed.getD e.on true = true) (hd : ∀ d, o.dst = some d → d < a0.tmps.size) (hv : ∀ d, o.dst = some d → T d v w') (hc : C (k + 1) w') (hr : R i w w') : MidL ops C T fin a0 (k + 1) (listed.setIfInBounds i true) (a.put o.dst v) w' := by
  have hput : ∀ t, slots (a.put o.dst v) t = if o.dst = some t then v else slots a t := by
    intro t
    cases e : o.dst with
    | none => simp [Act.put, slots]
    | some d =>
      rw [slots_put]
      have := hd d e
      rw [← h.2.2.1] at this
      by_cases g : t = d
      · subst g; simp [this]
      · have g' : d ≠ t := fun x => g x.symm
        simp [g, g']
  have hset : ∀ j, j ≠ i → (listed.setIfInBounds i true).getD j true = listed.getD j true := fun j hj => by
    simp only [Array.getD_eq_getD_getElem?, Array.getElem?_setIfInBounds_ne (Ne.symm hj)]
  have hself : (listed.setIfInBounds i true).getD i true = true := by
    by_cases h' : i < listed.size
    · simp [h']
    · simp [Nat.le_of_not_lt h']
  refine ⟨hc, ?_, ?_, fun t ht hlive => ?_, fun t ht => ?_, fun j p hj hl e he hb => ?_⟩
  · cases e : o.dst <;> simp [Act.put, h.2.1]
  · cases e : o.dst <;> simp [Act.put, h.2.2.1]
  · rw [hput]
    split
    · rename_i e; exact hv t e
    · rename_i e
      have hold : ∀ (j : Nat) (p : Oper), ops[j]? = some p → p.dst = some t → j ≠ i ∧ listed.getD j true = true := fun j p hj hp => by
        have hne : j ≠ i := fun g => by subst g; rw [hi] at hj; cases hj; exact e hp
        have := ht j p hj hp
        rw [hset j hne] at this
        exact ⟨hne, this⟩
      have live : fin t = true ∨ ∃ (j : Nat) (p : Oper), ops[j]? = some p ∧ t ∈ p.looksAt ops ∧ j ≠ i ∧ listed.getD j true = false := by
        rcases hlive with h1 | ⟨j, p, hj, hl, hf⟩
        · exact .inl h1
        · have hne : j ≠ i := fun g => by subst g; rw [hself] at hf; cases hf
          rw [hset j hne] at hf
          exact .inr ⟨j, p, hj, hl, hne, hf⟩
      refine hst _ _ _ _ ?_ hr (h.2.2.2.1 t (fun j p hj hp => (hold j p hj hp).2) (by
        rcases live with h1 | ⟨j, p, hj, hl, _, hf⟩
        · exact .inl h1
        · exact .inr ⟨j, p, hj, hl, hf⟩))
      unfold keepsB
      rw [Bool.and_eq_true]
      refine ⟨?_, ?_⟩
      · rw [Bool.or_eq_true]
        rcases live with h1 | ⟨j, p, hj, hl, hne, hf⟩
        · exact .inl h1
        · refine .inr (List.any_eq_true.2 ⟨j, List.mem_range.2 (Array.getElem?_eq_some_iff.1 hj).1, ?_⟩)
          simp only [hj, Bool.and_eq_true, bne_iff_ne]
          exact ⟨hne, by simpa using hl⟩
      · refine List.all_eq_true.2 fun j hjr => ?_
        cases hj : ops[j]? with
        | none => rfl
        | some p =>
          simp only [Bool.or_eq_true, bne_iff_ne, Bool.and_eq_true, Bool.not_eq_true']
          by_cases hp : p.dst = some t
          · right
            refine ⟨(hold j p hj hp).1, ?_⟩
            cases hq : (p.after.any fun e => Region.binds .any e && e.on == i) with
            | false => rfl
            | true =>
              obtain ⟨q, hq1, hq2⟩ := Array.any_eq_true.1 hq
              rw [Bool.and_eq_true] at hq2
              have := h.2.2.2.2.2 j p hj (hold j p hj hp).2 _ (Array.getElem_mem hq1) hq2.1
              rw [show (p.after[q]).on = i by simpa using hq2.2, hun] at this
              cases this
          · exact .inl hp
  · rw [hput, if_neg (ht i o hi)]; exact h.2.2.2.2.1 t ht
  · by_cases g : j = i
    · subst g
      rw [hi] at hj; cases hj
      by_cases g2 : e.on = j
      · rw [g2]; exact hself
      · rw [hset _ g2]; exact hbi e he hb
    · rw [hset j g] at hl
      have := h.2.2.2.2.2 j p hj hl e he hb
      by_cases g2 : e.on = i
      · rw [g2]; exact hself
      · rw [hset _ g2]; exact this

theorem typedL_any {Q : Exit → Act → World → Prop} {a0 : Act} (hB : plainB ops = true) (hst : ∀ i t v w w', keepsB ops fin i t = true → R i w w' → T t v w → T t v w') (hd : ∀ (i : Nat) (o : Oper) (d : Nat), ops[i]? = some o → o.dst = some d → d < a0.tmps.size)
    (ho : ∀ i o, ops[i]? = some o → ObI P ops C R T ops.size i o)
    (hQ : ∀ a w, C ops.size w → a.defers = a0.defers → a.tmps.size = a0.tmps.size → (∀ t, fin t = true → T t (slots a t) w) → (∀ t, (∀ (j : Nat) (o : Oper), ops[j]? = some o → o.dst ≠ some t) → slots a t = slots a0 t) → Q .normal a w) :
    ∀ (fuel k : Nat) (listed : Array Bool) (a : Act) (w : World), listed.size = ops.size → leftN listed = fuel → k + fuel = ops.size → MidL ops C T fin a0 k listed a w → wpAny P .any ops Q fuel listed a w
  | 0, k, listed, a, w, hs, hl, hk, h => by
    have all := leftN_zero hl
    refine ⟨?_, hQ a w (by have := h.1; rwa [show k = ops.size by omega] at this) h.2.1 h.2.2.1 (fun t ht => h.2.2.2.1 t (fun j _ _ _ => all j) (.inl ht)) h.2.2.2.2.1⟩
    cases hr : Region.ready .any ops listed with
    | nil => rfl
    | cons x l =>
      have := (mem_ready.1 (show x ∈ Region.ready .any ops listed by rw [hr]; exact List.mem_cons_self ..)).1
      rw [all x] at this; cases this
  | fuel + 1, k, listed, a, w, hs, hl, hk, h => by
    obtain ⟨hsel, hp⟩ := plainB_spec hB
    refine ⟨fun hr => ?_, fun i hi => ?_⟩
    · exfalso
      obtain ⟨i, hi, hmin⟩ := leftN_least (l := listed) (by omega)
      have hil : i < ops.size := by
        rw [← hs]
        rcases Nat.lt_or_ge i listed.size with h' | h'
        · exact h'
        · simp [Array.getElem?_eq_none h'] at hi
      have hio : ops[i]? = some ops[i] := by simp [hil]
      have : i ∈ Region.ready .any ops listed := mem_ready.2 ⟨hi, ops[i], hio, fun e he hb => by
        have hlt := (hp i _ hio).2.1 e he hb
        rw [getD_eq (by rw [hs]; omega) false true]; exact hmin _ hlt⟩
      rw [hr] at this; cases this
    · obtain ⟨hun, o, hio, hall⟩ := mem_ready.1 hi
      obtain ⟨hg, hbk, hlook⟩ := hp i o hio
      have hall' : ∀ e ∈ o.after, Region.binds .any e = true → listed.getD e.on true = true := fun e he hb => by
        have h1 := hall e he hb
        rcases Nat.lt_or_ge e.on listed.size with h' | h'
        · rwa [getD_eq h' true false]
        · simp [Array.getElem?_eq_none h']
      unfold wpOp
      simp only [hio]
      have hw : Region.wanted o (yielded ops a.tmps) = true := by unfold Region.wanted; rw [hg]
      rw [if_pos hw]
      refine .inl ?_
      have hob := ho i o hio k w (slots a) (by omega) h.1 (fun t ht => h.2.2.2.1 t (fun j p hj hdp => by
        obtain ⟨e, he, hb, hon⟩ := hlook t ht j p hj hdp
        have h1 := hall' e he hb
        rw [hon] at h1
        exact h1) (.inr ⟨i, o, hio, ht, hun⟩))
      rw [← eval_slots] at hob
      have go : ∀ v w', (∀ d, o.dst = some d → T d v w') → C (k + 1) w' → R i w w' → wpAny P .any ops Q fuel (listed.setIfInBounds i true) (a.put o.dst v) w' := fun v w' hv hc hr =>
        typedL_any hB hst hd ho hQ fuel (k + 1) _ _ _ (by simp [hs]) (by have := leftN_set hun; omega) (by omega) (MidL.next h (hst i) hio hun hall' (fun d hdd => hd i o d hio hdd) hv hc hr)
      unfold Oper.wp
      generalize (execOp a.eval o).run P w = r at *
      cases r with
      | ok nx w' =>
        cases nx <;> simp only [Comply] at hob <;> simp only [Oper.upon]
        case value u => exact go _ _ hob.1 hob.2.1 hob.2.2
        case skip => exact go _ _ hob.1 hob.2.1 hob.2.2
        case enter f args => exact hob.mono fun e w'' ⟨v, he, h1, h2, h3⟩ => by subst he; exact go _ _ h1 h2 h3
      | halt x w' => simp only [Comply] at hob

/-- **THE RULE**: behind the region each temporary that is wanted further holds some value of its type. -/
theorem wp_region_typedL {id : Nat} {Q : Exit → Act → World → Prop} {a : Act} {w : World} {l : List Oper} (C : Nat → World → Prop) (R : Nat → World → World → Prop) (T : Nat → Value → World → Prop) (fin : Nat → Bool)
    (hm : P.follows .mixedOrders = true) (hB : plainB l.toArray = true) (hd : l.all (dstOk a.tmps.size) = true)
    (hst : ∀ i t v w w', keepsB l.toArray fin i t = true → R i w w' → T t v w → T t v w') (h0 : C 0 { w with drawn := w.drawn + 1 }) (hT : ∀ t, (∀ o ∈ l, o.dst ≠ some t) → T t (slots a t) { w with drawn := w.drawn + 1 })
    (ho : ObsI P l.toArray C R T l.length 0 l)
    (hQ : ∀ (vs : Nat → Value) (w' : World), C l.length w' → (∀ t, fin t = true → T t (vs t) w') → Q .normal { tmps := a.tmps.mapIdx fun t x => if l.any (fun o => o.dst == some t) then vs t else x, defers := a.defers } w') : (Code.region id l.toArray true).wp P Q a w := by
  refine wp_region_any hm (typedL_any (C := C) (R := R) (T := T) (fin := fin) (a0 := a) hB hst (fun i o d hi hdd => ?_) (fun i o hi => by
      have := ObsI.get ho i o (by simpa using hi)
      simpa using this) (fun b w' hc hdf hsz ht hsame => ?_) l.toArray.size 0 (Array.replicate l.toArray.size false) a _ (by simp) (by simp [leftN]) (by simp) ⟨h0, rfl, rfl, fun t ht _ => ?_, fun t _ => rfl, fun i o hi hl e he hb => ?_⟩)
  · have := List.all_eq_true.1 hd o (by simpa using Array.mem_of_getElem? hi)
    unfold dstOk at this; rw [hdd] at this; simpa using this
  · have := hQ (slots b) w' (by simpa using hc) ht
    have e : b = { tmps := a.tmps.mapIdx fun t x => if l.any (fun o => o.dst == some t) then slots b t else x, defers := a.defers } := by
      obtain ⟨bt, bd⟩ := b
      simp only at hdf hsz
      subst hdf
      congr 1
      apply Array.ext
      · simp [hsz]
      · intro i h1 h2
        simp only [Array.getElem_mapIdx]
        split
        · simp [slots, h1]
        · rename_i hno
          have := hsame i (fun j o hj hdd => hno (List.any_eq_true.2 ⟨o, by simpa using Array.mem_of_getElem? hj, by simp [hdd]⟩))
          have h3 : i < a.tmps.size := by simpa using h2
          simpa [slots, h1, h3] using this
    rw [e]; exact this
  · refine hT t fun o hol hdd => ?_
    obtain ⟨i, hi, e⟩ := List.getElem_of_mem hol
    have := ht i o (by simp [← e, hi]) hdd
    simp [hi] at this
  · have hlt : i < l.length := by
      have := (Array.getElem?_eq_some_iff.1 hi).1
      simpa using this
    simp [hlt] at hl
end

/-- An empty slice that is not nil and has no room. -/
def tE (v : Value) (w : World) : Prop := ∃ h, v = .slice (some ⟨h, 0, none⟩) 0 0
/-- A row of the call's own. -/
def tO (B : Nat) (xs : List Int) (v : Value) (w : World) : Prop := Own w B v xs ∧ v ≠ .slice none 0 0
/-- A new row of one number. -/
def tN (B : Nat) (x : Int) (v : Value) (w : World) : Prop := ∃ h, v = .slice (some ⟨h, 0, none⟩) 1 1 ∧ w.cell? ⟨h, 0, none⟩ = some (.int .i64 x)
/-- Only new memory. -/
def Grow (w w' : World) : Prop := w.grownBy w' none
theorem Grow.refl (w : World) : Grow w w := ⟨rfl, rfl, rfl, Nat.le_refl _, fun _ _ _ => rfl⟩
def StW (M : Value → World → Prop) : Prop := ∀ v w w', M v w → M v w'
def StGrow (M : Value → World → Prop) : Prop := ∀ v w w', Grow w w' → M v w → M v w'
theorem StW.g {M : Value → World → Prop} (h : StW M) : StGrow M := fun v w w' _ => h v w w'
theorem StW.A : StW tA := fun v w w' h => h
theorem StW.V (u : Value) : StW (tV u) := fun v w w' h => h
theorem StW.I (lo hi : Int) : StW (tI lo hi) := fun v w w' h => h
theorem StW.E : StW tE := fun v w w' h => h
theorem StGrow.O (B : Nat) (xs : List Int) : StGrow (tO B xs) := fun v w w' hr h => ⟨World.ownsRow.kept h.1 hr (by
  rcases e : v.ownBlock with _ | k
  · exact .inl rfl
  · exact .inr (fun e2 => by cases e2)), h.2⟩
theorem StGrow.N (B : Nat) (x : Int) : StGrow (tN B x) := fun v w w' hr h => by
  obtain ⟨b, h1, h2⟩ := h
  exact ⟨b, h1, World.grownBy.cell hr h2 (by simp)⟩
def StGAll : List (Nat × (Value → World → Prop)) → Prop
  | [] => True
  | p :: l => StGrow p.2 ∧ StGAll l
theorem StGAll.ty : ∀ {l : List (Nat × (Value → World → Prop))}, StGAll l → ∀ t, StGrow (ty l t)
  | [], _, t => StW.g StW.A
  | p :: l, h, t => by
    unfold Go.Proofs.Yteeokegkbhpbcaa.ty
    split
    · exact h.1
    · exact StGAll.ty h.2 t
def StXAll (ex : List Nat) : List (Nat × (Value → World → Prop)) → Prop
  | [] => True
  | p :: l => (ex.contains p.1 = true ∨ StW p.2) ∧ StXAll ex l
theorem StXAll.ty {ex : List Nat} : ∀ {l : List (Nat × (Value → World → Prop))}, StXAll ex l → ∀ t, ex.contains t = false → StW (ty l t)
  | [], _, t, _ => StW.A
  | p :: l, h, t, ht => by
    unfold Go.Proofs.Yteeokegkbhpbcaa.ty
    split
    · rename_i e
      rcases h.1 with h1 | h1
      · rw [e, ht] at h1; cases h1
      · exact h1
    · exact StXAll.ty h.2 t ht
/-- The class of worlds: what lay before is as it was. -/
def BC (W : World) (k : Nat) (w : World) : Prop := Below W.heap.size W w
theorem bc_pure {P : Program} {W w : World} {k : Nat} {M : Value → World → Prop} {u : Value} {R : World → World → Prop} (hC : BC W k w) (hR : R w w) (h : M u w) : Comply P (BC W) R k w M (.ok (.value u) w) := ⟨h, hC, hR⟩
theorem bc_alloc {P : Program} {W w : World} {k : Nat} {M : Value → World → Prop} {u : Value} {o : Obj} {R : World → World → Prop} (hC : BC W k w) (hR : R w (w.alloc o)) (h : M u (w.alloc o)) : Comply P (BC W) R k w M (.ok (.value u) (w.alloc o)) :=
  ⟨h, Below.al hC o, hR⟩
theorem Grow.al (w : World) (o : Obj) : Grow w (w.alloc o) := World.grownBy_alloc w o none
set_option maxRecDepth 100000 in
/-- append onto an empty slice without room: new memory. -/
theorem bc_append_new {W w : World} {k : Nat} {M : Value → World → Prop} {R : World → World → Prop} {o : Oper} {vs : Nat → Value} {h : Nat} {ad : Addr} {c : Nat} {xs : List Int} (s x : Operand)
    (hop : o.op = Op.call { callee := Callee.builtin Builtin.append, args := #[s, x], argTypes := #[23, 23] }) (hC : BC W k w)
    (hs : evOf vs s = .slice (some ⟨h, 0, none⟩) 0 0) (hx : evOf vs x = .slice (some ad) xs.length c) (hc : ∀ j u, (xs.map (Value.int .i64))[j]? = some u → w.cell? (ad.add j) = some u) (hx1 : 1 ≤ xs.length) (hx2 : xs.length ≤ 10000000)
    (hR : ∀ w', Grow w w' → R w w') (hM : ∀ v w', tO W.heap.size xs v w' → M v w') : Comply Try.prog (BC W) R k w M ((execOp (evOf vs) o).run Try.prog w) := by
  obtain ⟨i0, hi, hz0, hz1, hz2⟩ := info_parts infoInt
  obtain ⟨v', w', hrun, r1, r2⟩ := run_append_arg_grows (P := Try.prog) w 23 o.type 3 i0 (.int .i64 0) 1 8 Try.underlying23 hi hz0 hz1 hz2 rfl (by decide) ⟨h, 0, none⟩ 0 0 [] rfl (fun j u hu => by simp at hu) ad xs.length c (xs.map (Value.int .i64)) (by simp) hc (by omega) (by unfold maxLen; omega) (by omega)
  have e : (execOp (evOf vs) o).run Try.prog w = .ok (.value v') w' := by
    unfold execOp
    simp only [hop, resolve, invoke, builtin, Sem.run_bind, Sem.run_pure, Result.andThen_ok, List.map_toArray, List.map_cons, List.map_nil, hs, hx, hrun]
  rw [e]
  have own : Own w' w.heap.size v' xs := by
    unfold Own
    simpa using r1
  refine ⟨hM _ _ ⟨Own.mono own (Below.size hC), fun e => ?_⟩, ?_, hR _ r2⟩
  · obtain ⟨a1, c1, e1, _⟩ := Own.sl own
    rw [e] at e1
    have : xs.length = 0 := by injection e1 with _ e2 _; exact e2.symm
    omega
  · exact Below.own hC r2 (fun i e => by cases e)
/-- append onto a row of the call's own. -/
theorem bc_append_own {W w : World} {k : Nat} {M : Value → World → Prop} {R : World → World → Prop} {o : Oper} {vs : Nat → Value} {v : Value} {ad : Addr} {c : Nat} {ys xs : List Int} (s x : Operand)
    (hop : o.op = Op.call { callee := Callee.builtin Builtin.append, args := #[s, x], argTypes := #[23, 23] }) (hC : BC W k w)
    (hs : evOf vs s = v) (hv : tO W.heap.size ys v w) (hx : evOf vs x = .slice (some ad) xs.length c) (hc : ∀ j u, (xs.map (Value.int .i64))[j]? = some u → w.cell? (ad.add j) = some u) (hx2 : ys.length + xs.length ≤ 10000000)
    (hR : ∀ w', R w w') (hM : ∀ v w', tO W.heap.size (ys ++ xs) v w' → M v w') : Comply Try.prog (BC W) R k w M ((execOp (evOf vs) o).run Try.prog w) := by
  obtain ⟨i0, hi, hz0, hz1, hz2⟩ := info_parts infoInt
  obtain ⟨v', w', hrun, r1, r2, r3, _⟩ := run_append_own_at (P := Try.prog) w W.heap.size 23 o.type 3 i0 (.int .i64 0) 1 8 Try.underlying23 hi hz0 hz1 hz2 rfl (by decide) v ys.length (ys.map (Value.int .i64)) hv.1 ad xs.length c (xs.map (Value.int .i64)) (by simp) hc (fun u hu => by simp at hu; obtain ⟨a, _, rfl⟩ := hu; rfl) (by unfold maxLen; omega) (by omega) (Below.size hC)
  have e : (execOp (evOf vs) o).run Try.prog w = .ok (.value v') w' := by
    unfold execOp
    simp only [hop, resolve, invoke, builtin, Sem.run_bind, Sem.run_pure, Result.andThen_ok, List.map_toArray, List.map_cons, List.map_nil, hs, hx, hrun]
  rw [e]
  have own : Own w' W.heap.size v' (ys ++ xs) := by
    unfold Own
    rw [List.length_append, List.map_append]
    exact r1
  exact ⟨hM _ _ ⟨own, fun e => hv.2 (r3.1 e).1⟩, Below.own hC r2 (fun i e => Own.lt hv.1 i e), hR _⟩
/-- The rule for such regions: big: the operations that append onto a row of their own; ex: the temporaries whose types may die then. -/
theorem wp_region_grows {P : Program} {id : Nat} {Q : Exit → Act → World → Prop} {zs : List Value} {df : List Deferred} {W : World} {l : List Oper} (ds fin big ex : List Nat) (pre tab : List (Nat × (Value → World → Prop)))
    (hds : (l.filterMap (·.dst)) = ds) (hm : P.follows .mixedOrders = true) (hB : plainB l.toArray = true) (hd : l.all (dstOk zs.length) = true)
    (htab : (tab.all fun p => l.any fun o => o.dst == some p.1) = true) (hst : StGAll (pre ++ tab)) (hsx : StXAll ex (pre ++ tab)) (hbig : (big.all fun i => ex.all fun t => !keepsB l.toArray (fun t => fin.contains t) i t) = true)
    (hpre : PreAll (slots { tmps := zs.toArray, defers := df }) (World.drew W) pre)
    (ho : ObsI P l.toArray (BC W) (fun i a b => big.contains i = true ∨ Grow a b) (ty (pre ++ tab)) l.length 0 l)
    (hQ : ∀ (vs : Nat → Value) (w' : World), Below W.heap.size W w' → (∀ t, fin.contains t = true → ty (pre ++ tab) t (vs t) w') → Q .normal { tmps := (over ds vs 0 zs).toArray, defers := df } w') : (Code.region id l.toArray true).wp P Q { tmps := zs.toArray, defers := df } W :=
  wp_region_typedL (BC W) (fun i a b => big.contains i = true ∨ Grow a b) (ty (pre ++ tab)) (fun t => fin.contains t) hm hB (by simpa using hd) (fun i t v w w' hk hr h => by
      rcases hr with hr | hr
      · refine hsx.ty t ?_ v w w' h
        cases e : ex.contains t with
        | false => rfl
        | true =>
          have h1 := List.all_eq_true.1 (List.all_eq_true.1 hbig i (by simpa using hr)) t (by simpa using e)
          rw [hk] at h1; cases h1
      · exact hst.ty t v w w' hr h) (show Below W.heap.size W (World.drew W) from Below.dw (Below.refl _ _))
    (fun t ht => ty_pre (dsts := fun t => l.any fun o => o.dst == some t) pre tab htab hpre t (by
      show (l.any fun o => o.dst == some t) = false
      cases e : l.any (fun o => o.dst == some t)
      · rfl
      · obtain ⟨o, ho1, ho2⟩ := List.any_eq_true.1 e
        exact absurd (by simpa using ho2) (ht o ho1))) ho (fun vs w' hc ht => by
      have := hQ vs w' hc ht
      rw [← over_mapIdx ds vs zs (fun t => l.any fun o => o.dst == some t) (fun t => ?_)] at this
      · exact this
      · subst hds
        rw [Bool.eq_iff_iff]
        simp [List.mem_filterMap])
end Go.Proofs.Yteeokegkbhpbcaa
