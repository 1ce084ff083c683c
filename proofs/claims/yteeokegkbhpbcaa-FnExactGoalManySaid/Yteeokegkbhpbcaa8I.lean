/- Regions that draw their order, by an invariant over what has been done, the temporaries and the world. -/
import Derived.Test.Yteeokegkbhpbcaa8G
namespace Go.Proofs.Yteeokegkbhpbcaa
open Go Go.RowKit
set_option linter.unusedVariables false
set_option linter.unusedSimpArgs false
set_option maxRecDepth 100000

def updL (ln : Nat → Bool) (i j : Nat) : Bool := if j = i then true else ln j
def updV (vs : Nat → Value) (d : Option Tmp) (v : Value) (t : Nat) : Value := match d with
  | none => vs t
  | some d => if t = d then v else vs t
def StepI (P : Program) (I : (Nat → Bool) → (Nat → Value) → World → Prop) (ln : Nat → Bool) (vs : Nat → Value) (d : Option Tmp) : Result Next → Prop
  | .ok (.value u) w' => I ln (updV vs d u) w'
  | .ok .skip w' => I ln (updV vs d undef) w'
  | .ok (.enter f args) w' => Calls P f args w' fun e w'' => ∃ v, e = .returned v ∧ I ln (updV vs d v) w''
  | _ => False
def ObV (P : Program) (I : (Nat → Bool) → (Nat → Value) → World → Prop) (i : Nat) (o : Oper) : Prop :=
  ∀ (ln : Nat → Bool) (vs : Nat → Value) (w : World), ln i = false → (∀ e ∈ o.after.toList, Region.binds .any e = true → ln e.on = true) → I ln vs w → StepI P I (updL ln i) vs o.dst ((execOp (evOf vs) o).run P w)
def ObsV (P : Program) (I : (Nat → Bool) → (Nat → Value) → World → Prop) : Nat → List Oper → Prop
  | _, [] => True
  | i, o :: l => ObV P I i o ∧ ObsV P I (i + 1) l
theorem ObsV.get {P : Program} {I : (Nat → Bool) → (Nat → Value) → World → Prop} : ∀ {l : List Oper} {i : Nat}, ObsV P I i l → ∀ j o, l[j]? = some o → ObV P I (i + j) o
  | [], _, _, j, o, h => by simp at h
  | x :: l, i, h, 0, o, e => by simp at e; subst e; exact h.1
  | x :: l, i, h, j + 1, o, e => by
    have := ObsV.get h.2 j o (by simpa using e)
    rwa [show i + 1 + j = i + (j + 1) by omega] at this
def lnOf (listed : Array Bool) : Nat → Bool := fun i => listed.getD i false
section
variable {P : Program} {ops : Array Oper} {I : (Nat → Bool) → (Nat → Value) → World → Prop}
theorem inv_any {Q : Exit → Act → World → Prop} {a0 : Act} (hB : plainB ops = true) (hd : ∀ (i : Nat) (o : Oper) (d : Nat), ops[i]? = some o → o.dst = some d → d < a0.tmps.size)
    (ho : ∀ i o, ops[i]? = some o → ObV P I i o)
    (hQ : ∀ a w, I (fun i => decide (i < ops.size)) (slots a) w → a.defers = a0.defers → a.tmps.size = a0.tmps.size → (∀ t, (∀ (j : Nat) (o : Oper), ops[j]? = some o → o.dst ≠ some t) → slots a t = slots a0 t) → Q .normal a w) :
    ∀ (fuel : Nat) (listed : Array Bool) (a : Act) (w : World), listed.size = ops.size → leftN listed = fuel → I (lnOf listed) (slots a) w → a.defers = a0.defers → a.tmps.size = a0.tmps.size →
      (∀ t, (∀ (j : Nat) (o : Oper), ops[j]? = some o → o.dst ≠ some t) → slots a t = slots a0 t) → wpAny P .any ops Q fuel listed a w := by
  intro fuel
  induction fuel with
  | zero =>
    intro listed a w hs hl hI hdf hsz hsame
    have all := leftN_zero hl
    refine ⟨?_, hQ a w ?_ hdf hsz hsame⟩
    · cases hr : Region.ready .any ops listed with
      | nil => rfl
      | cons x l =>
        have := (mem_ready.1 (show x ∈ Region.ready .any ops listed by rw [hr]; exact List.mem_cons_self ..)).1
        rw [all x] at this; cases this
    · have e : lnOf listed = fun i => decide (i < ops.size) := by
        funext i
        unfold lnOf
        by_cases g : i < listed.size
        · rw [getD_eq g false true, all i]; simp [← hs, g]
        · simp [← hs, g]
      rw [← e]; exact hI
  | succ fuel ih =>
    intro listed a w hs hl hI hdf hsz hsame
    obtain ⟨hsel, hp⟩ := plainB_spec hB
    refine ⟨fun hr => ?_, fun i hi => ?_⟩
    · exfalso
      obtain ⟨i, hi, hmin⟩ := leftN_least (l := listed) (by omega)
      have hil : i < ops.size := by
        rw [← hs]
        rcases Nat.lt_or_ge i listed.size with h' | h'
        · exact h'
        · simp [Array.getElem?_eq_none h'] at hi
      have hio : ops[i]? = some ops[i] := by simp [hil]
      have : i ∈ Region.ready .any ops listed := mem_ready.2 ⟨hi, ops[i], hio, fun e he hb => by
        have hlt := (hp i _ hio).2.1 e he hb
        rw [getD_eq (by rw [hs]; omega) false true]; exact hmin _ hlt⟩
      rw [hr] at this; cases this
    · obtain ⟨hun, o, hio, hafter⟩ := mem_ready.1 hi
      obtain ⟨hg, hbk, hlook⟩ := hp i o hio
      have hil : i < ops.size := (Array.getElem?_eq_some_iff.1 hio).1
      unfold wpOp
      simp only [hio]
      have hw : Region.wanted o (yielded ops a.tmps) = true := by unfold Region.wanted; rw [hg]
      rw [if_pos hw]
      refine .inl ?_
      have hob := ho i o hio (lnOf listed) (slots a) w (by unfold lnOf; rw [getD_eq (by omega) false true]; exact hun) (fun e he hb => hafter e (by simpa using he) hb) hI
      rw [← eval_slots] at hob
      have hln : lnOf (listed.setIfInBounds i true) = updL (lnOf listed) i := by
        funext j
        unfold lnOf updL
        by_cases g : j = i
        · subst g
          have : j < listed.size := by omega
          simp [this]
        · rw [if_neg g]
          simp only [Array.getD_eq_getD_getElem?, Array.getElem?_setIfInBounds_ne (Ne.symm g)]
      have hput : ∀ v, slots (a.put o.dst v) = updV (slots a) o.dst v := by
        intro v
        funext t
        cases e : o.dst with
        | none => simp [Act.put, slots, updV]
        | some d =>
          rw [slots_put]
          have := hd i o d hio e
          rw [← hsz] at this
          by_cases g : t = d
          · subst g; simp [this, updV]
          · simp [g, updV]
      have go : ∀ v w', I (updL (lnOf listed) i) (updV (slots a) o.dst v) w' → wpAny P .any ops Q fuel (listed.setIfInBounds i true) (a.put o.dst v) w' := fun v w' h => by
        refine ih _ _ _ (by simp [hs]) (by have := leftN_set hun; omega) (by rw [hln, hput]; exact h) (by cases e : o.dst <;> simp [Act.put, hdf]) (by cases e : o.dst <;> simp [Act.put, hsz]) fun t ht => ?_
        rw [hput]
        have h1 := ht i o hio
        unfold updV
        split
        · exact hsame t ht
        · rename_i d e
          rw [if_neg (fun g => h1 (by rw [e, g]))]
          exact hsame t ht
      unfold Oper.wp
      generalize (execOp a.eval o).run P w = r at *
      cases r with
      | ok nx w' =>
        cases nx <;> simp only [StepI] at hob <;> simp only [Oper.upon]
        case value u => exact go _ _ hob
        case skip => exact go _ _ hob
        case enter f args => exact hob.mono fun e w'' ⟨v, he, h1⟩ => by subst he; exact go _ _ h1
      | halt x w' => simp only [StepI] at hob
/-- **THE RULE**. -/
theorem wp_region_inv {id : Nat} {Q : Exit → Act → World → Prop} {zs : List Value} {df : List Deferred} {w : World} {l : List Oper} (I : (Nat → Bool) → (Nat → Value) → World → Prop) (ds : List Nat)
    (hds : l.filterMap (·.dst) = ds) (hm : P.follows .mixedOrders = true) (hB : plainB l.toArray = true) (hd : l.all (dstOk zs.length) = true)
    (h0 : I (fun _ => false) (slots { tmps := zs.toArray, defers := df }) { w with drawn := w.drawn + 1 })
    (ho : ObsV P I 0 l)
    (hQ : ∀ (vs : Nat → Value) (w' : World), I (fun i => decide (i < l.length)) vs w' → Q .normal { tmps := (over ds vs 0 zs).toArray, defers := df } w') : (Code.region id l.toArray true).wp P Q { tmps := zs.toArray, defers := df } w := by
  refine wp_region_any hm (inv_any (I := I) (a0 := { tmps := zs.toArray, defers := df }) hB (fun i o d hi hdd => ?_) (fun i o hi => by
      have := ObsV.get ho i o (by simpa using hi)
      simpa using this) (fun b w' hI hdf hsz hsame => ?_) l.toArray.size (Array.replicate l.toArray.size false) _ _ (by simp) (by simp [leftN]) ?_ rfl rfl (fun t _ => rfl))
  · have := List.all_eq_true.1 hd o (by simpa using Array.mem_of_getElem? hi)
    unfold dstOk at this; rw [hdd] at this; simpa using this
  · have := hQ (slots b) w' (by simpa using hI)
    have e : b = { tmps := (over ds (slots b) 0 zs).toArray, defers := df } := by
      obtain ⟨bt, bd⟩ := b
      simp only at hdf hsz
      subst hdf
      congr 1
      apply Array.ext_getElem?
      intro i
      simp only [List.getElem?_toArray, over_get, Nat.zero_add]
      by_cases g : i < zs.length
      · have g1 : i < bt.size := by rw [hsz]; simpa using g
        simp only [List.getElem?_eq_getElem g, Option.map_some, Array.getElem?_eq_getElem g1]
        congr 1
        by_cases g3 : ds.contains i = true
        · rw [if_pos g3]; simp [slots, g1]
        · rw [if_neg g3]
          have := hsame i fun j q hj hqd => by
            apply g3
            subst hds
            have hqm : q ∈ l := by simpa using Array.mem_of_getElem? hj
            simpa using List.mem_filterMap.2 ⟨q, hqm, hqd⟩
          simpa [slots, g1, g] using this
      · have g1 : ¬ i < bt.size := by rw [hsz]; simpa using g
        simp [g, g1]
    rw [e]; exact this
  · have e : lnOf (Array.replicate l.toArray.size false) = fun _ => false := by
      funext i
      unfold lnOf
      by_cases g : i < l.length <;> simp [g]
    rw [e]; exact h0
end
end Go.Proofs.Yteeokegkbhpbcaa
