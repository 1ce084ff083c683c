/- Regions that draw their order, whose last operations wait for all others: new things made in any order are apart from each other. -/
import Derived.Test.YteeokegkbhpbcaaG
import Derived.Test.YteeokegkbhpbcaaGL
import Derived.Test.Yteeokegkbhpbcaa8R
import Derived.ArgAppend
import Derived.Lib.SliceRun
namespace Go.Proofs.Yteeokegkbhpbcaa
open Go Go.RowKit
set_option linter.unusedVariables false
set_option linter.unusedSimpArgs false
set_option maxRecDepth 100000

section
variable {P : Program} {ops : Array Oper} {C : World → Prop} {R : World → World → Prop} {T : Nat → Value → World → Prop} {fin : Nat → Bool} {F : World → Value → Prop} {A : Value → Value → Prop} {m : Nat}
/-- The obligation of an operation: what it makes is new. -/
def ObA (P : Program) (ops : Array Oper) (C : World → Prop) (R : World → World → Prop) (T : Nat → Value → World → Prop) (fin : Nat → Bool) (F : World → Value → Prop) (o : Oper) : Prop :=
  ∀ (w : World) (vs : Nat → Value), C w → (∀ t, t ∈ o.looksAt ops → T t (vs t) w) → Comply P (fun _ => C) R 0 w (fun v w' => ∀ d, o.dst = some d → T d v w' ∧ (fin d = true → F w v)) ((execOp (evOf vs) o).run P w)
def ObsA (P : Program) (ops : Array Oper) (C : World → Prop) (R : World → World → Prop) (T : Nat → Value → World → Prop) (fin : Nat → Bool) (F : World → Value → Prop) : List Oper → Prop
  | [] => True
  | o :: l => ObA P ops C R T fin F o ∧ ObsA P ops C R T fin F l
theorem ObsA.get : ∀ {l : List Oper}, ObsA P ops C R T fin F l → ∀ (j : Nat) (o : Oper), l[j]? = some o → ObA P ops C R T fin F o
  | [], _, j, o, h => by simp at h
  | x :: l, h, 0, o, e => by simp at e; subst e; exact h.1
  | x :: l, h, j + 1, o, e => ObsA.get h.2 j o (by simpa using e)
/-- What an operation waits for, through others. -/
def waits (ops : Array Oper) : Nat → Nat → Nat → Bool
  | 0, _, _ => false
  | f + 1, i, j => match ops[i]? with | none => false | some o => o.after.any fun e => Region.binds .any e && (e.on == j || waits ops f e.on j)
def Closed (ops : Array Oper) (listed : Array Bool) : Prop := ∀ (i : Nat) (o : Oper), ops[i]? = some o → listed.getD i true = true → ∀ e ∈ o.after, Region.binds .any e = true → listed.getD e.on true = true
theorem waits_listed {listed : Array Bool} (hc : Closed ops listed) : ∀ (f i j : Nat) (o : Oper), ops[i]? = some o → (∀ e ∈ o.after, Region.binds .any e = true → listed.getD e.on true = true) → waits ops f i j = true → listed.getD j true = true
  | 0, _, _, _, _, _, h => by cases h
  | f + 1, i, j, o, ho, ha, h => by
    simp only [waits, ho] at h
    obtain ⟨q, hq, h⟩ := Array.any_eq_true.1 h
    rw [Bool.and_eq_true, Bool.or_eq_true] at h
    have hl := ha _ (Array.getElem_mem hq) h.1
    rcases h.2 with h2 | h2
    · rw [← show (o.after[q]).on = j by simpa using h2]; exact hl
    · cases hp : ops[(o.after[q]).on]? with
      | none => cases f <;> simp [waits, hp] at h2
      | some p => exact waits_listed hc f _ j p hp (hc _ p hp hl) h2
/-- The operations from m on wait for all others. -/
def lateB (ops : Array Oper) (m : Nat) : Bool := (List.range ops.size).all fun i => decide (i < m) || (List.range m).all fun j => waits ops ops.size i j
def doneB (ops : Array Oper) (listed : Array Bool) (t : Nat) : Prop := ∀ (j : Nat) (o : Oper), ops[j]? = some o → o.dst = some t → listed.getD j true = true
def MidA (ops : Array Oper) (C : World → Prop) (T : Nat → Value → World → Prop) (fin : Nat → Bool) (A : Value → Value → Prop) (a0 : Act) (listed : Array Bool) (a : Act) (w : World) : Prop :=
  Mid ops (fun _ => C) T a0 0 listed a w ∧ Closed ops listed ∧ (∀ (t u : Nat), fin t = true → fin u = true → t ≠ u → doneB ops listed t → doneB ops listed u → A (slots a t) (slots a u)) ∧ ∀ t, (∀ (j : Nat) (o : Oper), ops[j]? = some o → o.dst = some t → listed.getD j true = false) → slots a t = slots a0 t
def lateArr (n m : Nat) : Array Bool := ((List.range n).map fun i => decide (i < m)).toArray

theorem typedA_any {Q : Exit → Act → World → Prop} {a0 : Act} (hB : plainB ops = true) (hL : lateB ops m = true) (hst : ∀ t v w w', R w w' → T t v w → T t v w')
    (hA : ∀ (t u : Nat) (x v : Value) (w : World), fin t = true → T t x w → F w v → A x v ∧ A v x) (hd : ∀ (i : Nat) (o : Oper) (d : Nat), ops[i]? = some o → o.dst = some d → d < a0.tmps.size)
    (ho : ∀ i o, i < m → ops[i]? = some o → ObA P ops C R T fin F o)
    (hQ : ∀ a w, MidA ops C T fin A a0 (lateArr ops.size m) a w → wpAny P .any ops Q (leftN (lateArr ops.size m)) (lateArr ops.size m) a w) :
    ∀ (fuel : Nat) (listed : Array Bool) (a : Act) (w : World), listed.size = ops.size → leftN listed = fuel → (∀ j, m ≤ j → j < ops.size → listed.getD j true = false) → MidA ops C T fin A a0 listed a w → wpAny P .any ops Q fuel listed a w := by
  intro fuel
  induction fuel with
  | zero =>
    intro listed a w hs hl hlate h
    have all := leftN_zero hl
    have e : listed = lateArr ops.size m := by
      apply Array.ext
      · simp [lateArr, hs]
      · intro i h1 h2
        have hi : listed[i] = true := by have := all i; simpa [h1] using this
        have : i < m := by
          rcases Nat.lt_or_ge i m with g | g
          · exact g
          · have := hlate i g (by omega)
            simp [h1, hi] at this
        simp [lateArr, hi, this]
    have hQ' := hQ a w (e ▸ h)
    rw [← e, hl] at hQ'
    exact hQ'
  | succ fuel ih =>
    intro listed a w hs hl hlate h
    by_cases hall : ∀ j, j < m → listed.getD j true = true
    · have e : listed = lateArr ops.size m := by
        apply Array.ext
        · simp [lateArr, hs]
        · intro i h1 h2
          by_cases g : i < m
          · have := hall i g
            simp [h1] at this
            simp [lateArr, this, g]
          · have := hlate i (by omega) (by omega)
            simp [h1] at this
            simp [lateArr, this, g]
      have hQ' := hQ a w (e ▸ h)
      rw [← e, hl] at hQ'
      exact hQ'
    obtain ⟨⟨hC, hdf, hsz, hT, hS⟩, hcl, hap, hun0⟩ := h
    obtain ⟨hsel, hp⟩ := plainB_spec hB
    refine ⟨fun hr => ?_, fun i hi => ?_⟩
    · exfalso
      obtain ⟨i, hi, hmin⟩ := leftN_least (l := listed) (by omega)
      have hil : i < ops.size := by
        rw [← hs]
        rcases Nat.lt_or_ge i listed.size with h' | h'
        · exact h'
        · simp [Array.getElem?_eq_none h'] at hi
      have hio : ops[i]? = some ops[i] := by simp [hil]
      have : i ∈ Region.ready .any ops listed := mem_ready.2 ⟨hi, ops[i], hio, fun e he hb => by
        have hlt := (hp i _ hio).2.1 e he hb
        rw [getD_eq (by rw [hs]; omega) false true]; exact hmin _ hlt⟩
      rw [hr] at this; cases this
    · obtain ⟨hun, o, hio, hafter⟩ := mem_ready.1 hi
      obtain ⟨hg, hbk, hlook⟩ := hp i o hio
      have hil : i < ops.size := (Array.getElem?_eq_some_iff.1 hio).1
      have hafter' : ∀ e ∈ o.after, Region.binds .any e = true → listed.getD e.on true = true := fun e he hb => by
        have h1 := hafter e he hb
        rcases Nat.lt_or_ge e.on listed.size with h' | h'
        · rwa [getD_eq h' true false]
        · simp [Array.getElem?_eq_none h']
      have him : i < m := by
        rcases Nat.lt_or_ge i m with g | g
        · exact g
        · exfalso
          apply hall
          intro j hj
          have h1 := List.all_eq_true.1 hL i (List.mem_range.2 hil)
          rw [Bool.or_eq_true] at h1
          rcases h1 with h1 | h1
          · simp at h1; omega
          · exact waits_listed hcl _ i j o hio hafter' (List.all_eq_true.1 h1 j (List.mem_range.2 hj))
      unfold wpOp
      simp only [hio]
      have hw : Region.wanted o (yielded ops a.tmps) = true := by unfold Region.wanted; rw [hg]
      rw [if_pos hw]
      refine .inl ?_
      have hob := ho i o him hio w (slots a) hC (fun t ht => hT t fun j p hj hdp => by
        obtain ⟨e, he, hb, hon⟩ := hlook t ht j p hj hdp
        have h1 := hafter' e he hb
        rw [hon] at h1
        exact h1)
      rw [← eval_slots] at hob
      have hset : ∀ j, j ≠ i → (listed.setIfInBounds i true).getD j true = listed.getD j true := fun j hj => by
        simp only [Array.getD_eq_getD_getElem?, Array.getElem?_setIfInBounds_ne (Ne.symm hj)]
      have hself : (listed.setIfInBounds i true).getD i true = true := by
        by_cases h' : i < listed.size
        · simp [h']
        · simp [Nat.le_of_not_lt h']
      have go : ∀ v w', (∀ d, o.dst = some d → T d v w' ∧ (fin d = true → F w v)) → C w' → R w w' → wpAny P .any ops Q fuel (listed.setIfInBounds i true) (a.put o.dst v) w' := fun v w' hv hc hr => by
        have hput : ∀ t, slots (a.put o.dst v) t = if o.dst = some t then v else slots a t := by
          intro t
          cases e : o.dst with
          | none => simp [Act.put, slots]
          | some d =>
            rw [slots_put]
            have := hd i o d hio e
            rw [← hsz] at this
            by_cases g : t = d
            · subst g; simp [this]
            · have g' : d ≠ t := fun x => g x.symm
              simp [g, g']
        have old : ∀ t, o.dst ≠ some t → doneB ops (listed.setIfInBounds i true) t → doneB ops listed t := fun t ht hdn j p hj hpd => by
          have hne : j ≠ i := fun g => by subst g; rw [hio] at hj; cases hj; exact ht hpd
          have := hdn j p hj hpd
          rwa [hset j hne] at this
        refine ih _ _ _ (by simp [hs]) (by have := leftN_set hun; omega) (fun j h1 h2 => by rw [hset j (by omega)]; exact hlate j h1 h2) ⟨(Mid.next (C := fun _ => C) (k := 0) ⟨hC, hdf, hsz, hT, hS⟩ hst hio (fun d hdd => hd i o d hio hdd) (fun d hdd => (hv d hdd).1) hc hr : Mid ops (fun _ => C) T a0 (0 + 1) (listed.setIfInBounds i true) (a.put o.dst v) w'), ?_, ?_, ?_⟩
        · intro j p hj hl2 e he hb
          by_cases g : j = i
          · subst g
            rw [hio] at hj; cases hj
            by_cases g2 : e.on = j
            · rw [g2]; exact hself
            · rw [hset _ g2]; exact hafter' e he hb
          · rw [hset j g] at hl2
            have := hcl j p hj hl2 e he hb
            by_cases g2 : e.on = i
            · rw [g2]; exact hself
            · rw [hset _ g2]; exact this
        · intro t u ht hu hne d1 d2
          rw [hput, hput]
          by_cases e1 : o.dst = some t
          · have e2 : o.dst ≠ some u := fun g => by rw [e1] at g; cases g; exact hne rfl
            rw [if_pos e1, if_neg e2]
            exact (hA u t _ _ w hu (hT u (old u e2 d2)) ((hv t e1).2 ht)).2
          · by_cases e2 : o.dst = some u
            · rw [if_neg e1, if_pos e2]
              exact (hA t u _ _ w ht (hT t (old t e1 d1)) ((hv u e2).2 hu)).1
            · rw [if_neg e1, if_neg e2]
              exact hap t u ht hu hne (old t e1 d1) (old u e2 d2)
        · intro t ht
          have e1 : o.dst ≠ some t := fun g => by
            have := ht i o hio g
            rw [hself] at this; cases this
          rw [hput, if_neg e1]
          refine hun0 t fun j p hj hp2 => ?_
          have hne : j ≠ i := fun g => by subst g; rw [hio] at hj; cases hj; exact e1 hp2
          have := ht j p hj hp2
          rwa [hset j hne] at this
      unfold Oper.wp
      generalize (execOp a.eval o).run P w = r at *
      cases r with
      | ok nx w' =>
        cases nx <;> simp only [Comply] at hob <;> simp only [Oper.upon]
        case value u => exact go _ _ hob.1 hob.2.1 hob.2.2
        case skip => exact go _ _ hob.1 hob.2.1 hob.2.2
        case enter f args => exact hob.mono fun e w'' ⟨v, he, h1, h2, h3⟩ => by subst he; exact go _ _ h1 h2 h3
      | halt x w' => simp only [Comply] at hob
theorem wpAny_two {Q : Exit → Act → World → Prop} {listed : Array Bool} {i j : Nat} {o p : Oper} {a : Act} {w : World} (hi : ops[i]? = some o) (hj : ops[j]? = some p) (h0 : Region.ready .any ops listed = [i]) (h1 : Region.ready .any ops (listed.setIfInBounds i true) = [j])
    (h2 : Region.ready .any ops ((listed.setIfInBounds i true).setIfInBounds j true) = []) (h : wpList P ops Q [o, p] a w) : wpAny P .any ops Q 2 listed a w := by
  have key : ∀ a w, wpList P ops Q [p] a w → wpAny P .any ops Q 1 (listed.setIfInBounds i true) a w := fun a w h => by
    refine ⟨fun e => (by rw [h1] at e; cases e), fun k hk => ?_⟩
    rw [h1] at hk
    cases List.mem_singleton.1 hk
    unfold wpOp
    simp only [hj]
    unfold wpList at h
    split
    · rename_i g
      rw [if_pos g] at h
      rcases h with h | h
      · exact .inl (Oper.wp_mono (fun a w (h : wpList P ops Q [] a w) => ⟨h2, h⟩) h)
      · exact .inr h
    · rename_i g
      rw [if_neg g] at h
      exact ⟨h2, h⟩
  refine ⟨fun e => (by rw [h0] at e; cases e), fun k hk => ?_⟩
  rw [h0] at hk
  cases List.mem_singleton.1 hk
  unfold wpOp
  simp only [hi]
  unfold wpList at h
  split
  · rename_i g
    rw [if_pos g] at h
    rcases h with h | h
    · exact .inl (Oper.wp_mono key h)
    · exact .inr h
  · rename_i g
    rw [if_neg g] at h
    exact key _ _ h
theorem wpAny_one {Q : Exit → Act → World → Prop} {listed : Array Bool} {j : Nat} {p : Oper} {a : Act} {w : World} (hj : ops[j]? = some p) (h1 : Region.ready .any ops listed = [j])
    (h2 : Region.ready .any ops (listed.setIfInBounds j true) = []) (h : wpList P ops Q [p] a w) : wpAny P .any ops Q 1 listed a w := by
  refine ⟨fun e => (by rw [h1] at e; cases e), fun k hk => ?_⟩
  rw [h1] at hk
  cases List.mem_singleton.1 hk
  unfold wpOp
  simp only [hj]
  unfold wpList at h
  split
  · rename_i g
    rw [if_pos g] at h
    rcases h with h | h
    · exact .inl (Oper.wp_mono (fun a w (h : wpList P ops Q [] a w) => ⟨h2, h⟩) h)
    · exact .inr h
  · rename_i g
    rw [if_neg g] at h
    exact ⟨h2, h⟩
/-- The rule: operations in any order, then some that wait for all. -/
theorem wp_region_apart {id : Nat} {Q : Exit → Act → World → Prop} {zs : List Value} {df : List Deferred} {w : World} {l : List Oper} (C : World → Prop) (R : World → World → Prop) (T : Nat → Value → World → Prop) (fin : Nat → Bool) (F : World → Value → Prop) (A : Value → Value → Prop) (m : Nat) (ds : List Nat)
    (hds : (l.take m).filterMap (·.dst) = ds) (hfin : ∀ t, fin t = true → ds.contains t = true)
    (hm : P.follows .mixedOrders = true) (hB : plainB l.toArray = true) (hL : lateB l.toArray m = true) (hd : l.all (dstOk zs.length) = true) (late : List Oper) (hlm : l.length = m + late.length)
    (hq : ((l.drop m).all fun q => (l.take m).all fun r => q.dst.isNone || q.dst != r.dst) = true)
    (hlate : ∀ a w, wpList P l.toArray Q late a w → wpAny P .any l.toArray Q late.length (lateArr l.length m) a w)
    (hst : ∀ t v w w', R w w' → T t v w → T t v w') (hA : ∀ (t u : Nat) (x v : Value) (w : World), fin t = true → T t x w → F w v → A x v ∧ A v x)
    (h0 : C { w with drawn := w.drawn + 1 }) (hT : ∀ t, (∀ o ∈ l, o.dst ≠ some t) → T t (slots { tmps := zs.toArray, defers := df } t) { w with drawn := w.drawn + 1 })
    (ho : ObsA P l.toArray C R T fin F (l.take m))
    (hQ : ∀ (vs : Nat → Value) (w' : World), C w' → (∀ t, ds.contains t = true → T t (vs t) w') → (∀ (t u : Nat), fin t = true → fin u = true → t ≠ u → A (vs t) (vs u)) → wpList P l.toArray Q late { tmps := (over ds vs 0 zs).toArray, defers := df } w') :
    (Code.region id l.toArray true).wp P Q { tmps := zs.toArray, defers := df } w := by
  have early : ∀ t, ds.contains t = true → doneB l.toArray (lateArr l.length m) t := fun t ht j q hj hqd => by
    by_cases g : j < m
    · simp only [lateArr, Array.getD_eq_getD_getElem?]
      by_cases g2 : j < l.length
      · simp [g2, g]
      · simp [g2]
    · exfalso
      subst hds
      have : t ∈ (l.take m).filterMap (·.dst) := by simpa using ht
      obtain ⟨r, hr1, hr2⟩ := List.mem_filterMap.1 this
      have hjl : j < l.length := by have := (Array.getElem?_eq_some_iff.1 hj).1; simpa using this
      have hqm : q ∈ l.drop m := by
        have h3 : (l.drop m)[j - m]? = some q := by rw [List.getElem?_drop]; rw [show m + (j - m) = j by omega]; simpa using hj
        exact List.mem_of_getElem? h3
      have h4 := List.all_eq_true.1 (List.all_eq_true.1 hq q hqm) r hr1
      rw [hqd, hr2] at h4
      simp at h4
  refine wp_region_any hm (typedA_any (C := C) (R := R) (T := T) (fin := fin) (F := F) (A := A) (m := m) (a0 := { tmps := zs.toArray, defers := df }) hB hL hst hA (fun i q d hi hdd => ?_) (fun i q him hi => ObsA.get ho i q (by rw [List.getElem?_take, if_pos him]; simpa using hi)) (fun b w' hM => ?_) l.toArray.size (Array.replicate l.toArray.size false) _ _ (by simp) (by simp [leftN]) (fun j _ hj => by
      have hj2 : j < l.length := by simpa using hj
      simp [hj2]) ⟨⟨h0, rfl, rfl, fun t ht => hT t fun q hq2 hdd => ?_, fun t _ => rfl⟩, fun i q hi hl2 => ?_, fun t u ht hu hne d1 d2 => ?_, fun t _ => rfl⟩)
  · have := List.all_eq_true.1 hd q (by simpa using Array.mem_of_getElem? hi)
    unfold dstOk at this; rw [hdd] at this; simpa using this
  · have hsz : l.toArray.size = l.length := by simp
    rw [hsz] at hM ⊢
    have hleft : leftN (lateArr l.length m) = late.length := by
      have e : (lateArr l.length m).toList = List.replicate m true ++ List.replicate late.length false := by
        apply List.ext_getElem
        · simp [lateArr, hlm]
        · intro i h1 h2
          simp only [lateArr, List.getElem_map, List.getElem_range]
          by_cases g : i < m
          · rw [List.getElem_append_left (by simpa using g)]; simp [g]
          · rw [List.getElem_append_right (by simp; omega)]
            simp [lateArr, hlm] at h1
            simp [g]
      unfold leftN
      rw [e]
      simp [List.count_append, List.count_replicate]
    rw [hleft]
    refine hlate _ _ ?_
    obtain ⟨⟨hC, hdf, hs2, hTT, hS⟩, _, hap, hun0⟩ := hM
    have := hQ (slots b) w' hC (fun t ht => hTT t (early t ht)) (fun t u ht hu hne => hap t u ht hu hne (early t (hfin t ht)) (early u (hfin u hu)))
    have e : b = { tmps := (over ds (slots b) 0 zs).toArray, defers := df } := by
      obtain ⟨bt, bd⟩ := b
      simp only at hdf hs2
      subst hdf
      congr 1
      apply Array.ext_getElem?
      intro i
      simp only [List.getElem?_toArray, over_get, Nat.zero_add]
      by_cases g : i < zs.length
      · have g1 : i < bt.size := by rw [hs2]; simpa using g
        simp only [List.getElem?_eq_getElem g, Option.map_some, Array.getElem?_eq_getElem g1]
        congr 1
        by_cases g3 : ds.contains i = true
        · rw [if_pos g3]; simp [slots, g1]
        · rw [if_neg g3]
          have := hun0 i fun j q hj hqd => by
            by_cases g4 : j < m
            · exfalso
              apply g3
              subst hds
              have hqm : q ∈ l.take m := by
                have h3 : (l.take m)[j]? = some q := by rw [List.getElem?_take, if_pos g4]; simpa using hj
                exact List.mem_of_getElem? h3
              simpa using List.mem_filterMap.2 ⟨q, hqm, hqd⟩
            · have g5 : j < l.length := by have := (Array.getElem?_eq_some_iff.1 hj).1; simpa using this
              simp [lateArr, g5, g4]
          simpa [slots, g1, g] using this
      · have g1 : ¬ i < bt.size := by rw [hs2]; simpa using g
        simp [g, g1]
    rw [e]; exact this
  · have := List.mem_iff_getElem?.1 hq2
    obtain ⟨j, hj⟩ := this
    have h5 := ht j q (by simpa using hj) hdd
    have hjl : j < l.length := (List.getElem?_eq_some_iff.1 hj).1
    simp [hjl] at h5
  · have hil : i < l.length := by have := (Array.getElem?_eq_some_iff.1 hi).1; simpa using this
    simp [hil] at hl2
  · exfalso
    have h6 := hfin t ht
    subst hds
    have h7 : t ∈ (l.take m).filterMap (·.dst) := by simpa using h6
    obtain ⟨q, hq1, hq2⟩ := List.mem_filterMap.1 h7
    obtain ⟨j, hj⟩ := List.mem_iff_getElem?.1 (List.mem_of_mem_take hq1)
    have h8 := d1 j q (by simpa using hj) hq2
    have hjl : j < l.length := (List.getElem?_eq_some_iff.1 hj).1
    simp [hjl] at h8
end

/-- A row of truths of the call's own, by types. -/
def tOB (B : Nat) (xs : List Bool) (v : Value) (w : World) : Prop := OwnB w B v xs
theorem StGrow.OB (B : Nat) (xs : List Bool) : StGrow (tOB B xs) := fun v w w' hr h => OwnB.block h fun k hk => hr.block k (OwnB.lt h k hk).2 (fun e => by cases e)
def Newer (w : World) (v : Value) : Prop := ∀ k, v.ownBlock = some k → w.heap.size ≤ k
theorem oa_pure {W w : World} {P : Program} {M : Value → World → Prop} {u : Value} (hC : Below W.heap.size W w) (h : M u w) : Comply P (fun _ w => Below W.heap.size W w) Grow 0 w M (.ok (.value u) w) := ⟨h, hC, Grow.refl _⟩
theorem oa_alloc {W w : World} {P : Program} {M : Value → World → Prop} {u : Value} {o : Obj} (hC : Below W.heap.size W w) (h : M u (w.alloc o)) : Comply P (fun _ w => Below W.heap.size W w) Grow 0 w M (.ok (.value u) (w.alloc o)) := ⟨h, Below.al hC o, Grow.al _ _⟩
/-- What is made is new: the rule for operations that make rows of truths, and two that wait for them. -/
theorem wp_region_rows {P : Program} {id : Nat} {Q : Exit → Act → World → Prop} {zs : List Value} {df : List Deferred} {W : World} {l : List Oper} (fin : List Nat) (m : Nat) (ds : List Nat) (pre tab : List (Nat × (Value → World → Prop))) (o p : Oper)
    (hds : (l.take m).filterMap (·.dst) = ds) (hfin : (fin.all fun t => ds.contains t) = true) (hown : ∀ t, fin.contains t = true → ∃ xs, ty (pre ++ tab) t = tOB W.heap.size xs)
    (hm : P.follows .mixedOrders = true) (hB : plainB l.toArray = true) (hL : lateB l.toArray m = true) (hd : l.all (dstOk zs.length) = true) (hl : l = l.take m ++ [o, p]) (hlm : l.length = m + 2)
    (hq : ((l.drop m).all fun q => (l.take m).all fun r => q.dst.isNone || q.dst != r.dst) = true)
    (r0 : Region.ready .any l.toArray (lateArr l.length m) = [m]) (r1 : Region.ready .any l.toArray ((lateArr l.length m).setIfInBounds m true) = [m + 1]) (r2 : Region.ready .any l.toArray (((lateArr l.length m).setIfInBounds m true).setIfInBounds (m + 1) true) = [])
    (htab : (tab.all fun p => l.any fun o => o.dst == some p.1) = true) (hst : StGAll (pre ++ tab)) (hpre : PreAll (slots { tmps := zs.toArray, defers := df }) (World.drew W) pre)
    (ho : ObsA P l.toArray (fun w => Below W.heap.size W w) Grow (ty (pre ++ tab)) (fun t => fin.contains t) Newer (l.take m))
    (hQ : ∀ (vs : Nat → Value) (w' : World), Below W.heap.size W w' → (∀ t, ds.contains t = true → ty (pre ++ tab) t (vs t) w') → (∀ (t u : Nat), fin.contains t = true → fin.contains u = true → t ≠ u → Apart (vs t) (vs u)) → wpList P l.toArray Q [o, p] { tmps := (over ds vs 0 zs).toArray, defers := df } w') :
    (Code.region id l.toArray true).wp P Q { tmps := zs.toArray, defers := df } W :=
  wp_region_apart (fun w => Below W.heap.size W w) Grow (ty (pre ++ tab)) (fun t => fin.contains t) Newer Apart m ds hds (fun t ht => List.all_eq_true.1 hfin t (by simpa using ht)) hm hB hL hd [o, p] hlm hq (fun a w h => by
      have h1 : l[m]? = some o := by rw [hl, List.getElem?_append_right (by simp; omega)]; simp [hlm]
      have h2 : l[m + 1]? = some p := by rw [hl, List.getElem?_append_right (by simp; omega)]; simp [hlm]
      exact wpAny_two (by simpa using h1) (by simpa using h2) r0 r1 r2 h) (fun t v w w' hr h => hst.ty t v w w' hr h)
    (fun t u x v w ht hT hF => by
      obtain ⟨xs, e⟩ := hown t ht
      rw [e] at hT
      exact ⟨fun i j hi hj h => by have h1 := (OwnB.lt hT i hi).2; have h2 := hF j hj; omega, fun i j hi hj h => by have h1 := (OwnB.lt hT j hj).2; have h2 := hF i hi; omega⟩)
    (show Below W.heap.size W (World.drew W) from Below.dw (Below.refl _ _))
    (fun t ht => ty_pre (dsts := fun t => l.any fun o => o.dst == some t) pre tab htab hpre t (by
      show (l.any fun o => o.dst == some t) = false
      cases e : l.any (fun o => o.dst == some t)
      · rfl
      · obtain ⟨o, ho1, ho2⟩ := List.any_eq_true.1 e
        exact absurd (by simpa using ho2) (ht o ho1))) ho hQ
theorem info_bool : ∃ i, Try.prog.info? 4 = some i ∧ i.zero = some (.bool false) ∧ i.size = 1 ∧ i.bytes = 1 := info_b infoBool
theorem cells_b {w : World} {b off : Nat} {xs : List Bool} (h : ∀ i, i < xs.length → w.cell? ⟨b, off + i, none⟩ = some (.bool (bn xs i))) : ∀ j u, (xs.map Value.bool)[j]? = some u → w.cell? ((⟨b, off, none⟩ : Addr).add j) = some u := fun j u hu => by
  have hj : j < xs.length := by
    obtain ⟨h1, _⟩ := List.getElem?_eq_some_iff.1 hu
    simpa using h1
  have := h j hj
  rw [List.getElem?_map, List.getElem?_eq_getElem hj] at hu
  simp at hu
  subst hu
  by_cases e : j = 0
  · subst e; simpa [Addr.add, bn_eq hj] using this
  · simpa [Addr.add, e, bn_eq hj] using this
/-- The rule for a region of reads, and one operation that waits for them all. -/
theorem wp_region_last {P : Program} {id : Nat} {Q : Exit → Act → World → Prop} {zs : List Value} {df : List Deferred} {W : World} {l : List Oper} (m : Nat) (ds : List Nat) (pre tab : List (Nat × (Value → World → Prop))) (p : Oper)
    (hds : (l.take m).filterMap (·.dst) = ds)
    (hm : P.follows .mixedOrders = true) (hB : plainB l.toArray = true) (hL : lateB l.toArray m = true) (hd : l.all (dstOk zs.length) = true) (hl : l = l.take m ++ [p]) (hlm : l.length = m + 1)
    (hq : ((l.drop m).all fun q => (l.take m).all fun r => q.dst.isNone || q.dst != r.dst) = true)
    (r1 : Region.ready .any l.toArray (lateArr l.length m) = [m]) (r2 : Region.ready .any l.toArray ((lateArr l.length m).setIfInBounds m true) = [])
    (htab : (tab.all fun p => l.any fun o => o.dst == some p.1) = true) (hst : StGAll (pre ++ tab)) (hpre : PreAll (slots { tmps := zs.toArray, defers := df }) (World.drew W) pre)
    (ho : ObsA P l.toArray (fun w => Below W.heap.size W w) Grow (ty (pre ++ tab)) (fun _ => false) Newer (l.take m))
    (hQ : ∀ (vs : Nat → Value) (w' : World), Below W.heap.size W w' → (∀ t, ds.contains t = true → ty (pre ++ tab) t (vs t) w') → wpList P l.toArray Q [p] { tmps := (over ds vs 0 zs).toArray, defers := df } w') :
    (Code.region id l.toArray true).wp P Q { tmps := zs.toArray, defers := df } W :=
  wp_region_apart (fun w => Below W.heap.size W w) Grow (ty (pre ++ tab)) (fun _ => false) Newer Apart m ds hds (fun t ht => by cases ht) hm hB hL hd [p] hlm hq (fun a w h => by
      have h1 : l[m]? = some p := by rw [hl, List.getElem?_append_right (by simp; omega)]; simp [hlm]
      exact wpAny_one (by simpa using h1) r1 r2 h) (fun t v w w' hr h => hst.ty t v w w' hr h)
    (fun t u x v w ht hT hF => by cases ht)
    (show Below W.heap.size W (World.drew W) from Below.dw (Below.refl _ _))
    (fun t ht => ty_pre (dsts := fun t => l.any fun o => o.dst == some t) pre tab htab hpre t (by
      show (l.any fun o => o.dst == some t) = false
      cases e : l.any (fun o => o.dst == some t)
      · rfl
      · obtain ⟨o, ho1, ho2⟩ := List.any_eq_true.1 e
        exact absurd (by simpa using ho2) (ht o ho1))) ho (fun vs w' h1 h2 _ => hQ vs w' h1 h2)

/-- The last operations come one after the other. -/
def chainB (ops : Array Oper) : Nat → Nat → Array Bool → Bool
  | 0, _, listed => Region.ready .any ops listed == []
  | n + 1, j, listed => Region.ready .any ops listed == [j] && chainB ops n (j + 1) (listed.setIfInBounds j true)
theorem wpAny_chain {P : Program} {ops : Array Oper} {Q : Exit → Act → World → Prop} : ∀ (late : List Oper) (j : Nat) (listed : Array Bool) (a : Act) (w : World), (∀ i o, late[i]? = some o → ops[j + i]? = some o) → chainB ops late.length j listed = true → wpList P ops Q late a w → wpAny P .any ops Q late.length listed a w
  | [], j, listed, a, w, _, hc, h => ⟨by simpa [chainB] using hc, h⟩
  | o :: late, j, listed, a, w, hl, hc, h => by
    simp only [List.length_cons, chainB, Bool.and_eq_true, beq_iff_eq] at hc
    have hj : ops[j]? = some o := hl 0 o rfl
    have ih := fun a w (h : wpList P ops Q late a w) => wpAny_chain late (j + 1) (listed.setIfInBounds j true) a w (fun i p hp => by rw [show j + 1 + i = j + (i + 1) by omega]; exact hl (i + 1) p (by simpa using hp)) hc.2 h
    refine ⟨fun e => (by rw [hc.1] at e; cases e), fun k hk => ?_⟩
    rw [hc.1] at hk
    cases List.mem_singleton.1 hk
    unfold wpOp
    simp only [hj]
    unfold wpList at h
    split
    · rename_i g
      rw [if_pos g] at h
      rcases h with h | h
      · exact .inl (Oper.wp_mono ih h)
      · exact .inr h
    · rename_i g
      rw [if_neg g] at h
      exact ih _ _ h
/-- The rule for a region of reads and calls, and some operations that wait for them all. -/
theorem wp_region_late {P : Program} {id : Nat} {Q : Exit → Act → World → Prop} {zs : List Value} {df : List Deferred} {W : World} {l : List Oper} (m : Nat) (ds : List Nat) (pre tab : List (Nat × (Value → World → Prop))) (late : List Oper)
    (hds : (l.take m).filterMap (·.dst) = ds)
    (hm : P.follows .mixedOrders = true) (hB : plainB l.toArray = true) (hL : lateB l.toArray m = true) (hd : l.all (dstOk zs.length) = true) (hl : l = l.take m ++ late) (hlm : l.length = m + late.length)
    (hq : ((l.drop m).all fun q => (l.take m).all fun r => q.dst.isNone || q.dst != r.dst) = true)
    (hch : chainB l.toArray late.length m (lateArr l.length m) = true)
    (htab : (tab.all fun p => l.any fun o => o.dst == some p.1) = true) (hst : StGAll (pre ++ tab)) (hpre : PreAll (slots { tmps := zs.toArray, defers := df }) (World.drew W) pre)
    (ho : ObsA P l.toArray (fun w => Below W.heap.size W w) Grow (ty (pre ++ tab)) (fun _ => false) Newer (l.take m))
    (hQ : ∀ (vs : Nat → Value) (w' : World), Below W.heap.size W w' → (∀ t, ds.contains t = true → ty (pre ++ tab) t (vs t) w') → wpList P l.toArray Q late { tmps := (over ds vs 0 zs).toArray, defers := df } w') :
    (Code.region id l.toArray true).wp P Q { tmps := zs.toArray, defers := df } W :=
  wp_region_apart (fun w => Below W.heap.size W w) Grow (ty (pre ++ tab)) (fun _ => false) Newer Apart m ds hds (fun t ht => by cases ht) hm hB hL hd late hlm hq (fun a w h => wpAny_chain late m _ a w (fun i o hio => by
      have : l[m + i]? = some o := by rw [hl, List.getElem?_append_right (by simp; omega)]; simp [hlm]; exact hio
      simpa using this) hch h) (fun t v w w' hr h => hst.ty t v w w' hr h)
    (fun t u x v w ht hT hF => by cases ht)
    (show Below W.heap.size W (World.drew W) from Below.dw (Below.refl _ _))
    (fun t ht => ty_pre (dsts := fun t => l.any fun o => o.dst == some t) pre tab htab hpre t (by
      show (l.any fun o => o.dst == some t) = false
      cases e : l.any (fun o => o.dst == some t)
      · rfl
      · obtain ⟨o, ho1, ho2⟩ := List.any_eq_true.1 e
        exact absurd (by simpa using ho2) (ht o ho1))) ho (fun vs w' h1 h2 _ => hQ vs w' h1 h2)
end Go.Proofs.Yteeokegkbhpbcaa
