/- Regions that draw their order, append to rows of their own and have guards: by types; what a guard finds is a value that its type determines. -/
import Derived.Test.YteeokegkbhpbcaaGL
import Derived.Test.YteeokegkbhpbcaaK
namespace Go.Proofs.Yteeokegkbhpbcaa
open Go Go.RowKit
set_option linter.unusedVariables false
set_option linter.unusedSimpArgs false

def plainG (ops : Array Oper) : Bool := Region.noSelect ops && (List.range ops.size).all fun i =>
  match ops[i]? with
  | none => true
  | some o => (o.after.all fun e => !Region.binds .any e || decide (e.on < i)) &&
      (o.looksAt ops).all fun t => (List.range ops.size).all fun j => match ops[j]? with
        | none => true
        | some p => p.dst != some t || o.after.any fun e => Region.binds .any e && e.on == j
theorem plainG_spec {ops : Array Oper} (h : plainG ops = true) : Region.noSelect ops = true ∧ ∀ i o, ops[i]? = some o → (∀ e ∈ o.after, Region.binds .any e = true → e.on < i) ∧ ∀ t ∈ o.looksAt ops, ∀ j p, ops[j]? = some p → p.dst = some t → ∃ e ∈ o.after, Region.binds .any e = true ∧ e.on = j := by
  unfold plainG at h
  rw [Bool.and_eq_true] at h
  refine ⟨h.1, fun i o hi => ?_⟩
  have hlt : i < ops.size := (Array.getElem?_eq_some_iff.1 hi).1
  have := List.all_eq_true.1 h.2 i (List.mem_range.2 hlt)
  simp only [hi, Bool.and_eq_true] at this
  obtain ⟨h2, h3⟩ := this
  refine ⟨fun e he hb => ?_, fun t ht j p hj hd => ?_⟩
  · have := Array.all_eq_true_iff_forall_mem.1 h2 e he
    simpa [hb] using this
  · have h4 := List.all_eq_true.1 h3 t ht
    have h5 := List.all_eq_true.1 h4 j (List.mem_range.2 (Array.getElem?_eq_some_iff.1 hj).1)
    simp only [hj, hd, bne_self_eq_false, Bool.false_or, Array.any_eq_true] at h5
    obtain ⟨q, hq, h6⟩ := h5
    rw [Bool.and_eq_true] at h6
    exact ⟨o.after[q], Array.getElem_mem hq, h6.1, by simpa using h6.2⟩
/-- What guards find: temporaries and their values; the operations that are not wanted. -/
def guardG (ops : Array Oper) (gv : List (Nat × Bool)) (off : List Nat) : Bool := (List.range ops.size).all fun i =>
  match ops[i]? with
  | none => true
  | some o => match o.guard with
    | none => !off.contains i
    | some (j, want) => match (ops[j]?).bind (·.dst) with
      | none => false
      | some t => gv.any fun p => p.1 == t && (p.2 == want) == !off.contains i
def GvAll (T : Nat → Value → World → Prop) : List (Nat × Bool) → Prop
  | [] => True
  | p :: l => (∀ v w, T p.1 v w → v = .bool p.2) ∧ GvAll T l
theorem GvAll.get {T : Nat → Value → World → Prop} : ∀ {l : List (Nat × Bool)}, GvAll T l → ∀ p ∈ l, ∀ v w, T p.1 v w → v = .bool p.2
  | [], _, p, h => by cases h
  | q :: l, h, p, hp => by
    rcases List.mem_cons.1 hp with e | e
    · subst e; exact h.1
    · exact GvAll.get h.2 p e
theorem guardG_wanted {ops : Array Oper} {T : Nat → Value → World → Prop} {gv : List (Nat × Bool)} {off : List Nat} (hg : guardG ops gv off = true) (hv : GvAll T gv) {i : Nat} {o : Oper} (hi : ops[i]? = some o) {a : Act} {w : World}
    (h : ∀ t, t ∈ o.looksAt ops → T t (slots a t) w) : Region.wanted o (yielded ops a.tmps) = !off.contains i := by
  have := List.all_eq_true.1 hg i (List.mem_range.2 (Array.getElem?_eq_some_iff.1 hi).1)
  simp only [hi] at this
  unfold Region.wanted
  cases e : o.guard with
  | none =>
    simp only [e] at this
    exact this.symm
  | some p =>
    obtain ⟨j, want⟩ := p
    simp only [e] at this
    cases e2 : (ops[j]?).bind (·.dst) with
    | none => simp only [e2] at this; cases this
    | some t =>
      simp only [e2] at this
      obtain ⟨q, hq, h1⟩ := List.any_eq_true.1 this
      rw [Bool.and_eq_true] at h1
      have ht : q.1 = t := by simpa using h1.1
      have h2 := h t (by unfold Oper.looksAt; rw [e]; simp [e2])
      rw [← ht] at h2
      have h3 := hv.get q hq _ _ h2
      unfold yielded
      show ((match ((ops[j]?).bind (·.dst)).bind fun x => a.tmps[x]? with | some (.bool b) => some b | _ => none) == some want) = !off.contains i
      rw [e2, ← ht]
      unfold slots at h3
      have h4 : a.tmps[q.1]? = some (.bool q.2) := by
        cases e5 : a.tmps[q.1]? with
        | none => simp [Array.getD_eq_getD_getElem?, e5, undef] at h3
        | some v => simp only [Array.getD_eq_getD_getElem?, e5, Option.getD_some] at h3; rw [h3]
      simp only [Option.bind_some, h4]
      have h5 : (q.2 == want) = !off.contains i := by simpa using h1.2
      rw [← h5]
      cases q.2 <;> cases want <;> rfl
def ObJ (P : Program) (ops : Array Oper) (C : Nat → World → Prop) (R : Nat → World → World → Prop) (T : Nat → Value → World → Prop) (n : Nat) (off : List Nat) (i : Nat) (o : Oper) : Prop :=
  (off.contains i = false → ObI P ops C R T n i o) ∧ (off.contains i = true → ∀ k w, C k w → C (k + 1) w ∧ R i w w ∧ ∀ d, o.dst = some d → T d undef w)
def ObsJ (P : Program) (ops : Array Oper) (C : Nat → World → Prop) (R : Nat → World → World → Prop) (T : Nat → Value → World → Prop) (n : Nat) (off : List Nat) : Nat → List Oper → Prop
  | _, [] => True
  | i, o :: l => ObJ P ops C R T n off i o ∧ ObsJ P ops C R T n off (i + 1) l
theorem ObsJ.get {P : Program} {ops : Array Oper} {C : Nat → World → Prop} {R : Nat → World → World → Prop} {T : Nat → Value → World → Prop} {n : Nat} {off : List Nat} : ∀ {l : List Oper} {i : Nat}, ObsJ P ops C R T n off i l → ∀ j o, l[j]? = some o → ObJ P ops C R T n off (i + j) o
  | [], _, _, j, o, h => by simp at h
  | x :: l, i, h, 0, o, e => by simp at e; subst e; exact h.1
  | x :: l, i, h, j + 1, o, e => by
    have := ObsJ.get h.2 j o (by simpa using e)
    rwa [show i + 1 + j = i + (j + 1) by omega] at this
section
variable {P : Program} {ops : Array Oper} {C : Nat → World → Prop} {R : Nat → World → World → Prop} {T : Nat → Value → World → Prop} {n : Nat} {fin : Nat → Bool}
theorem typedG_any {Q : Exit → Act → World → Prop} {a0 : Act} {gv : List (Nat × Bool)} {off : List Nat} (hB : plainG ops = true) (hG : guardG ops gv off = true) (hgv : GvAll T gv) (hst : ∀ i t v w w', keepsB ops fin i t = true → R i w w' → T t v w → T t v w') (hd : ∀ (i : Nat) (o : Oper) (d : Nat), ops[i]? = some o → o.dst = some d → d < a0.tmps.size)
    (ho : ∀ i o, ops[i]? = some o → ObJ P ops C R T ops.size off i o)
    (hQ : ∀ a w, C ops.size w → a.defers = a0.defers → a.tmps.size = a0.tmps.size → (∀ t, fin t = true → T t (slots a t) w) → (∀ t, (∀ (j : Nat) (o : Oper), ops[j]? = some o → o.dst ≠ some t) → slots a t = slots a0 t) → Q .normal a w) :
    ∀ (fuel k : Nat) (listed : Array Bool) (a : Act) (w : World), listed.size = ops.size → leftN listed = fuel → k + fuel = ops.size → MidL ops C T fin a0 k listed a w → wpAny P .any ops Q fuel listed a w
  | 0, k, listed, a, w, hs, hl, hk, h => by
    have all := leftN_zero hl
    refine ⟨?_, hQ a w (by have := h.1; rwa [show k = ops.size by omega] at this) h.2.1 h.2.2.1 (fun t ht => h.2.2.2.1 t (fun j _ _ _ => all j) (.inl ht)) h.2.2.2.2.1⟩
    cases hr : Region.ready .any ops listed with
    | nil => rfl
    | cons x l =>
      have := (mem_ready.1 (show x ∈ Region.ready .any ops listed by rw [hr]; exact List.mem_cons_self ..)).1
      rw [all x] at this; cases this
  | fuel + 1, k, listed, a, w, hs, hl, hk, h => by
    obtain ⟨hsel, hp⟩ := plainG_spec hB
    refine ⟨fun hr => ?_, fun i hi => ?_⟩
    · exfalso
      obtain ⟨i, hi, hmin⟩ := leftN_least (l := listed) (by omega)
      have hil : i < ops.size := by
        rw [← hs]
        rcases Nat.lt_or_ge i listed.size with h' | h'
        · exact h'
        · simp [Array.getElem?_eq_none h'] at hi
      have hio : ops[i]? = some ops[i] := by simp [hil]
      have : i ∈ Region.ready .any ops listed := mem_ready.2 ⟨hi, ops[i], hio, fun e he hb => by
        have hlt := (hp i _ hio).1 e he hb
        rw [getD_eq (by rw [hs]; omega) false true]; exact hmin _ hlt⟩
      rw [hr] at this; cases this
    · obtain ⟨hun, o, hio, hall⟩ := mem_ready.1 hi
      obtain ⟨hbk, hlook⟩ := hp i o hio
      have hall' : ∀ e ∈ o.after, Region.binds .any e = true → listed.getD e.on true = true := fun e he hb => by
        have h1 := hall e he hb
        rcases Nat.lt_or_ge e.on listed.size with h' | h'
        · rwa [getD_eq h' true false]
        · simp [Array.getElem?_eq_none h']
      unfold wpOp
      simp only [hio]
      have hTt : ∀ t, t ∈ o.looksAt ops → T t (slots a t) w := fun t ht => h.2.2.2.1 t (fun j p hj hdp => by
        obtain ⟨e, he, hb, hon⟩ := hlook t ht j p hj hdp
        have h1 := hall' e he hb
        rw [hon] at h1
        exact h1) (.inr ⟨i, o, hio, ht, hun⟩)
      have hw := guardG_wanted (a := a) (w := w) hG hgv hio hTt
      have go : ∀ v w', (∀ d, o.dst = some d → T d v w') → C (k + 1) w' → R i w w' → wpAny P .any ops Q fuel (listed.setIfInBounds i true) (a.put o.dst v) w' := fun v w' hv hc hr =>
        typedG_any hB hG hgv hst hd ho hQ fuel (k + 1) _ _ _ (by simp [hs]) (by have := leftN_set hun; omega) (by omega) (MidL.next h (hst i) hio hun hall' (fun d hdd => hd i o d hio hdd) hv hc hr)
      cases hoff : off.contains i with
      | true =>
        rw [hoff] at hw
        rw [if_neg (by rw [hw]; decide)]
        obtain ⟨h1, h2, h3⟩ := (ho i o hio).2 hoff k w h.1
        exact go _ _ h3 h1 h2
      | false =>
        rw [hoff] at hw
        rw [if_pos (by rw [hw]; rfl)]
        refine .inl ?_
        have hob := (ho i o hio).1 hoff k w (slots a) (by omega) h.1 hTt
        rw [← eval_slots] at hob
        unfold Oper.wp
        generalize (execOp a.eval o).run P w = r at *
        cases r with
        | ok nx w' =>
          cases nx <;> simp only [Comply] at hob <;> simp only [Oper.upon]
          case value u => exact go _ _ hob.1 hob.2.1 hob.2.2
          case skip => exact go _ _ hob.1 hob.2.1 hob.2.2
          case enter f args => exact hob.mono fun e w'' ⟨v, he, h1, h2, h3⟩ => by subst he; exact go _ _ h1 h2 h3
        | halt x w' => simp only [Comply] at hob
theorem wp_region_typedG {id : Nat} {Q : Exit → Act → World → Prop} {a : Act} {w : World} {l : List Oper} (C : Nat → World → Prop) (R : Nat → World → World → Prop) (T : Nat → Value → World → Prop) (fin : Nat → Bool) (gv : List (Nat × Bool)) (off : List Nat)
    (hm : P.follows .mixedOrders = true) (hB : plainG l.toArray = true) (hG : guardG l.toArray gv off = true) (hgv : GvAll T gv) (hd : l.all (dstOk a.tmps.size) = true)
    (hst : ∀ i t v w w', keepsB l.toArray fin i t = true → R i w w' → T t v w → T t v w') (h0 : C 0 { w with drawn := w.drawn + 1 }) (hT : ∀ t, (∀ o ∈ l, o.dst ≠ some t) → T t (slots a t) { w with drawn := w.drawn + 1 })
    (ho : ObsJ P l.toArray C R T l.length off 0 l)
    (hQ : ∀ (vs : Nat → Value) (w' : World), C l.length w' → (∀ t, fin t = true → T t (vs t) w') → Q .normal { tmps := a.tmps.mapIdx fun t x => if l.any (fun o => o.dst == some t) then vs t else x, defers := a.defers } w') : (Code.region id l.toArray true).wp P Q a w := by
  refine wp_region_any hm (typedG_any (C := C) (R := R) (T := T) (fin := fin) (a0 := a) hB hG hgv hst (fun i o d hi hdd => ?_) (fun i o hi => by
      have := ObsJ.get ho i o (by simpa using hi)
      simpa using this) (fun b w' hc hdf hsz ht hsame => ?_) l.toArray.size 0 (Array.replicate l.toArray.size false) a _ (by simp) (by simp [leftN]) (by simp) ⟨h0, rfl, rfl, fun t ht _ => ?_, fun t _ => rfl, fun i o hi hl e he hb => ?_⟩)
  · have := List.all_eq_true.1 hd o (by simpa using Array.mem_of_getElem? hi)
    unfold dstOk at this; rw [hdd] at this; simpa using this
  · have := hQ (slots b) w' (by simpa using hc) ht
    have e : b = { tmps := a.tmps.mapIdx fun t x => if l.any (fun o => o.dst == some t) then slots b t else x, defers := a.defers } := by
      obtain ⟨bt, bd⟩ := b
      simp only at hdf hsz
      subst hdf
      congr 1
      apply Array.ext
      · simp [hsz]
      · intro i h1 h2
        simp only [Array.getElem_mapIdx]
        split
        · simp [slots, h1]
        · rename_i hno
          have := hsame i (fun j o hj hdd => hno (List.any_eq_true.2 ⟨o, by simpa using Array.mem_of_getElem? hj, by simp [hdd]⟩))
          have h3 : i < a.tmps.size := by simpa using h2
          simpa [slots, h1, h3] using this
    rw [e]; exact this
  · refine hT t fun o hol hdd => ?_
    obtain ⟨i, hi, e⟩ := List.getElem_of_mem hol
    have := ht i o (by simp [← e, hi]) hdd
    simp [hi] at this
  · have hlt : i < l.length := by
      have := (Array.getElem?_eq_some_iff.1 hi).1
      simpa using this
    simp [hlt] at hl
end
/-- The rule: fin: temporaries wanted behind; big: operations that append onto a row of their own; ex: temporaries whose types may die then; gv: what guards find; off: operations that are not wanted. -/
theorem wp_region_growsG {P : Program} {id : Nat} {Q : Exit → Act → World → Prop} {zs : List Value} {df : List Deferred} {W : World} {l : List Oper} (ds fin big ex : List Nat) (gv : List (Nat × Bool)) (off : List Nat) (pre tab : List (Nat × (Value → World → Prop)))
    (hds : (l.filterMap (·.dst)) = ds) (hm : P.follows .mixedOrders = true) (hB : plainG l.toArray = true) (hG : guardG l.toArray gv off = true) (hgv : GvAll (ty (pre ++ tab)) gv) (hd : l.all (dstOk zs.length) = true)
    (htab : (tab.all fun p => l.any fun o => o.dst == some p.1) = true) (hst : StGAll (pre ++ tab)) (hsx : StXAll ex (pre ++ tab)) (hbig : (big.all fun i => ex.all fun t => !keepsB l.toArray (fun t => fin.contains t) i t) = true)
    (hpre : PreAll (slots { tmps := zs.toArray, defers := df }) (World.drew W) pre)
    (ho : ObsJ P l.toArray (BC W) (fun i a b => big.contains i = true ∨ Grow a b) (ty (pre ++ tab)) l.length off 0 l)
    (hQ : ∀ (vs : Nat → Value) (w' : World), Below W.heap.size W w' → (∀ t, fin.contains t = true → ty (pre ++ tab) t (vs t) w') → Q .normal { tmps := (over ds vs 0 zs).toArray, defers := df } w') : (Code.region id l.toArray true).wp P Q { tmps := zs.toArray, defers := df } W :=
  wp_region_typedG (BC W) (fun i a b => big.contains i = true ∨ Grow a b) (ty (pre ++ tab)) (fun t => fin.contains t) gv off hm hB hG hgv (by simpa using hd) (fun i t v w w' hk hr h => by
      rcases hr with hr | hr
      · refine hsx.ty t ?_ v w w' h
        cases e : ex.contains t with
        | false => rfl
        | true =>
          have h1 := List.all_eq_true.1 (List.all_eq_true.1 hbig i (by simpa using hr)) t (by simpa using e)
          rw [hk] at h1; cases h1
      · exact hst.ty t v w w' hr h) (show Below W.heap.size W (World.drew W) from Below.dw (Below.refl _ _))
    (fun t ht => ty_pre (dsts := fun t => l.any fun o => o.dst == some t) pre tab htab hpre t (by
      show (l.any fun o => o.dst == some t) = false
      cases e : l.any (fun o => o.dst == some t)
      · rfl
      · obtain ⟨o, ho1, ho2⟩ := List.any_eq_true.1 e
        exact absurd (by simpa using ho2) (ht o ho1))) ho (fun vs w' hc ht => by
      have := hQ vs w' hc ht
      rw [← over_mapIdx ds vs zs (fun t => l.any fun o => o.dst == some t) (fun t => ?_)] at this
      · exact this
      · subst hds
        rw [Bool.eq_iff_iff]
        simp [List.mem_filterMap])
theorem ints_one {w : World} {h : Nat} {x : Int} (hc : w.cell? ⟨h, 0, none⟩ = some (.int .i64 x)) : Ints w h 0 [x] := fun i hi => by
  have : i = 0 := by simp at hi; omega
  subst this
  exact hc
theorem grow_of {w w' : World} (h : Below w.heap.size w w') : Grow w w' := ⟨h.os, h.tape, h.output, h.size, fun k hk _ => h.block k hk⟩
/-- A call that gives a value and makes memory of its own at most. -/
theorem bc_call {P : Program} {W w : World} {k : Nat} {M : Value → World → Prop} {R : World → World → Prop} {f : FuncId} {args : Array Value} {v : Value} (hC : BC W k w) (h : Calls P f args w (Mk w v)) (hR : ∀ w', Grow w w' → R w w') (hM : ∀ w', M v w') :
    Comply P (BC W) R k w M (.ok (.enter f args) w) :=
  h.mono fun e w' ⟨he, hb⟩ => ⟨v, he, hM w', below_next hC hb, hR w' (grow_of hb)⟩
/-- An operation that is not wanted. -/
theorem obJ_off {P : Program} {ops : Array Oper} {W : World} {T : Nat → Value → World → Prop} {n i : Nat} {off : List Nat} {big : List Nat} {o : Oper} (h : off.contains i = true) (hT : ∀ d w, o.dst = some d → T d undef w) : ObJ P ops (BC W) (fun i a b => big.contains i = true ∨ Grow a b) T n off i o :=
  ⟨fun e => (by rw [h] at e; cases e), fun _ k w hC => ⟨hC, .inr (Grow.refl w), fun d hd => hT d w hd⟩⟩
theorem obJ_on {P : Program} {ops : Array Oper} {C : Nat → World → Prop} {R : Nat → World → World → Prop} {T : Nat → Value → World → Prop} {n i : Nat} {off : List Nat} {o : Oper} (h : off.contains i = false) (hO : ObI P ops C R T n i o) : ObJ P ops C R T n off i o :=
  ⟨fun _ => hO, fun e => (by rw [h] at e; cases e)⟩
end Go.Proofs.Yteeokegkbhpbcaa
