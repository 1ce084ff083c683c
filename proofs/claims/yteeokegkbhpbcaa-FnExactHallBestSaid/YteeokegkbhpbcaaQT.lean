/- Regions that draw their order, with guards, by an invariant over what has been done, the temporaries and the world. -/
import Derived.Test.Yteeokegkbhpbcaa8I
import Derived.Test.YteeokegkbhpbcaaGL
import Derived.Test.Yteeokegkbhpbcaa8G
namespace Go.Proofs.Yteeokegkbhpbcaa
open Go Go.RowKit
set_option linter.unusedVariables false
set_option linter.unusedSimpArgs false

def edgesB (ops : Array Oper) : Bool := (List.range ops.size).all fun i => match ops[i]? with
  | none => true
  | some o => o.after.all fun e => !Region.binds .any e || decide (e.on < i)
theorem edgesB_spec {ops : Array Oper} (h : edgesB ops = true) : ∀ i o, ops[i]? = some o → ∀ e ∈ o.after, Region.binds .any e = true → e.on < i := by
  intro i o hi e he hb
  have hlt : i < ops.size := (Array.getElem?_eq_some_iff.1 hi).1
  have := List.all_eq_true.1 h i (List.mem_range.2 hlt)
  simp only [hi] at this
  have := Array.all_eq_true_iff_forall_mem.1 this e he
  simpa [hb] using this
/-- What a guard finds. -/
def yieldV (ops : Array Oper) (vs : Nat → Value) (j : Nat) : Option Bool := yielded ops (((List.range 1000).map vs).toArray) j
def wantV (gd : Option (Nat × Bool)) (vs : Nat → Value) (d : Nat) : Bool := match gd with
  | none => true
  | some (_, want) => match vs d with
    | .bool b => b == want
    | _ => false
/-- The temporary of a guard's operation. -/
def gdst (ops : Array Oper) (o : Oper) : Nat := match o.guard with
  | none => 0
  | some (j, _) => match ops[j]? with
    | some p => p.dst.getD 0
    | none => 0
def guardsB (ops : Array Oper) : Bool := ops.all fun o => match o.guard with
  | none => true
  | some (j, _) => match ops[j]? with
    | some p => p.dst.isSome
    | none => false
def ObG (P : Program) (ops : Array Oper) (I : (Nat → Bool) → (Nat → Value) → World → Prop) (i : Nat) (o : Oper) : Prop :=
  ∀ (ln : Nat → Bool) (vs : Nat → Value) (w : World), ln i = false → (∀ e ∈ o.after.toList, Region.binds .any e = true → ln e.on = true) → I ln vs w →
    (wantV o.guard vs (gdst ops o) = true → StepI P I (updL ln i) vs o.dst ((execOp (evOf vs) o).run P w)) ∧ (wantV o.guard vs (gdst ops o) = false → I (updL ln i) (updV vs o.dst undef) w)
def ObsG (P : Program) (ops : Array Oper) (I : (Nat → Bool) → (Nat → Value) → World → Prop) : Nat → List Oper → Prop
  | _, [] => True
  | i, o :: l => ObG P ops I i o ∧ ObsG P ops I (i + 1) l
theorem ObsG.get {P : Program} {ops : Array Oper} {I : (Nat → Bool) → (Nat → Value) → World → Prop} : ∀ {l : List Oper} {i : Nat}, ObsG P ops I i l → ∀ j o, l[j]? = some o → ObG P ops I (i + j) o
  | [], _, _, j, o, h => by simp at h
  | x :: l, i, h, 0, o, e => by simp at e; subst e; exact h.1
  | x :: l, i, h, j + 1, o, e => by
    have := ObsG.get h.2 j o (by simpa using e)
    rwa [show i + 1 + j = i + (j + 1) by omega] at this
theorem wanted_slots {ops : Array Oper} {o : Oper} {a : Act} (hg : guardsB ops = true) (ho : o ∈ ops) : Region.wanted o (yielded ops a.tmps) = wantV o.guard (slots a) (gdst ops o) := by
  have h := Array.all_eq_true_iff_forall_mem.1 hg o ho
  unfold Region.wanted wantV gdst
  cases e : o.guard with
  | none => rfl
  | some p =>
    obtain ⟨j, want⟩ := p
    simp only [e] at h ⊢
    cases e2 : ops[j]? with
    | none => rw [e2] at h; cases h
    | some q =>
      rw [e2] at h
      simp only [e2]
      obtain ⟨d, hd⟩ := Option.isSome_iff_exists.1 h
      unfold yielded slots
      simp only [e2, hd, Option.getD_some, Option.bind_some]
      cases e3 : a.tmps[d]? with
      | none =>
        have : a.tmps.getD d undef = undef := by simp [Array.getD_eq_getD_getElem?, e3]
        rw [this]; rfl
      | some v =>
        have : a.tmps.getD d undef = v := by simp [Array.getD_eq_getD_getElem?, e3]
        rw [this]
        cases v <;> simp
section
variable {P : Program} {ops : Array Oper} {I : (Nat → Bool) → (Nat → Value) → World → Prop}
theorem invg_any {Q : Exit → Act → World → Prop} {a0 : Act} (hB : edgesB ops = true) (hG : guardsB ops = true) (hd : ∀ (i : Nat) (o : Oper) (d : Nat), ops[i]? = some o → o.dst = some d → d < a0.tmps.size)
    (ho : ∀ i o, ops[i]? = some o → ObG P ops I i o)
    (hQ : ∀ a w, I (fun i => decide (i < ops.size)) (slots a) w → a.defers = a0.defers → a.tmps.size = a0.tmps.size → (∀ t, (∀ (j : Nat) (o : Oper), ops[j]? = some o → o.dst ≠ some t) → slots a t = slots a0 t) → Q .normal a w) :
    ∀ (fuel : Nat) (listed : Array Bool) (a : Act) (w : World), listed.size = ops.size → leftN listed = fuel → I (lnOf listed) (slots a) w → a.defers = a0.defers → a.tmps.size = a0.tmps.size →
      (∀ t, (∀ (j : Nat) (o : Oper), ops[j]? = some o → o.dst ≠ some t) → slots a t = slots a0 t) → wpAny P .any ops Q fuel listed a w := by
  intro fuel
  induction fuel with
  | zero =>
    intro listed a w hs hl hI hdf hsz hsame
    have all := leftN_zero hl
    refine ⟨?_, hQ a w ?_ hdf hsz hsame⟩
    · cases hr : Region.ready .any ops listed with
      | nil => rfl
      | cons x l =>
        have := (mem_ready.1 (show x ∈ Region.ready .any ops listed by rw [hr]; exact List.mem_cons_self ..)).1
        rw [all x] at this; cases this
    · have e : lnOf listed = fun i => decide (i < ops.size) := by
        funext i
        unfold lnOf
        by_cases g : i < listed.size
        · rw [getD_eq g false true, all i]; simp [← hs, g]
        · simp [← hs, g]
      rw [← e]; exact hI
  | succ fuel ih =>
    intro listed a w hs hl hI hdf hsz hsame
    have hp := edgesB_spec hB
    refine ⟨fun hr => ?_, fun i hi => ?_⟩
    · exfalso
      obtain ⟨i, hi, hmin⟩ := leftN_least (l := listed) (by omega)
      have hil : i < ops.size := by
        rw [← hs]
        rcases Nat.lt_or_ge i listed.size with h' | h'
        · exact h'
        · simp [Array.getElem?_eq_none h'] at hi
      have hio : ops[i]? = some ops[i] := by simp [hil]
      have : i ∈ Region.ready .any ops listed := mem_ready.2 ⟨hi, ops[i], hio, fun e he hb => by
        have hlt := hp i _ hio e he hb
        rw [getD_eq (by rw [hs]; omega) false true]; exact hmin _ hlt⟩
      rw [hr] at this; cases this
    · obtain ⟨hun, o, hio, hafter⟩ := mem_ready.1 hi
      have hil : i < ops.size := (Array.getElem?_eq_some_iff.1 hio).1
      unfold wpOp
      simp only [hio]
      have hob := ho i o hio (lnOf listed) (slots a) w (by unfold lnOf; rw [getD_eq (by omega) false true]; exact hun) (fun e he hb => hafter e (by simpa using he) hb) hI
      rw [← eval_slots] at hob
      have hln : lnOf (listed.setIfInBounds i true) = updL (lnOf listed) i := by
        funext j
        unfold lnOf updL
        by_cases g : j = i
        · subst g
          have : j < listed.size := by omega
          simp [this]
        · rw [if_neg g]
          simp only [Array.getD_eq_getD_getElem?, Array.getElem?_setIfInBounds_ne (Ne.symm g)]
      have hput : ∀ v, slots (a.put o.dst v) = updV (slots a) o.dst v := by
        intro v
        funext t
        cases e : o.dst with
        | none => simp [Act.put, slots, updV]
        | some d =>
          rw [slots_put]
          have := hd i o d hio e
          rw [← hsz] at this
          by_cases g : t = d
          · subst g; simp [this, updV]
          · simp [g, updV]
      have go : ∀ v w', I (updL (lnOf listed) i) (updV (slots a) o.dst v) w' → wpAny P .any ops Q fuel (listed.setIfInBounds i true) (a.put o.dst v) w' := fun v w' h => by
        refine ih _ _ _ (by simp [hs]) (by have := leftN_set hun; omega) (by rw [hln, hput]; exact h) (by cases e : o.dst <;> simp [Act.put, hdf]) (by cases e : o.dst <;> simp [Act.put, hsz]) fun t ht => ?_
        rw [hput]
        have h1 := ht i o hio
        unfold updV
        split
        · exact hsame t ht
        · rename_i d e
          rw [if_neg (fun g => h1 (by rw [e, g]))]
          exact hsame t ht
      have hw := wanted_slots (a := a) hG (Array.mem_of_getElem? hio)
      by_cases hwt : Region.wanted o (yielded ops a.tmps) = true
      · rw [if_pos hwt]
        refine .inl ?_
        have hob := hob.1 (hw ▸ hwt)
        unfold Oper.wp
        generalize (execOp a.eval o).run P w = r at *
        cases r with
        | ok nx w' =>
          cases nx <;> simp only [StepI] at hob <;> simp only [Oper.upon]
          case value u => exact go _ _ hob
          case skip => exact go _ _ hob
          case enter f args => exact hob.mono fun e w'' ⟨v, he, h1⟩ => by subst he; exact go _ _ h1
        | halt x w' => simp only [StepI] at hob
      · rw [if_neg hwt]
        have hwf : Region.wanted o (yielded ops a.tmps) = false := by simpa using hwt
        exact go _ _ (hob.2 (hw ▸ hwf))
/-- **THE RULE**. -/
theorem wp_region_invg {id : Nat} {Q : Exit → Act → World → Prop} {zs : List Value} {df : List Deferred} {w : World} {l : List Oper} (I : (Nat → Bool) → (Nat → Value) → World → Prop) (ds : List Nat)
    (hds : l.filterMap (·.dst) = ds) (hm : P.follows .mixedOrders = true) (hB : edgesB l.toArray = true) (hG : guardsB l.toArray = true) (hd : l.all (dstOk zs.length) = true)
    (h0 : I (fun _ => false) (slots { tmps := zs.toArray, defers := df }) { w with drawn := w.drawn + 1 })
    (ho : ObsG P l.toArray I 0 l)
    (hQ : ∀ (vs : Nat → Value) (w' : World), I (fun i => decide (i < l.length)) vs w' → Q .normal { tmps := (over ds vs 0 zs).toArray, defers := df } w') : (Code.region id l.toArray true).wp P Q { tmps := zs.toArray, defers := df } w := by
  refine wp_region_any hm (invg_any (I := I) (a0 := { tmps := zs.toArray, defers := df }) hB hG (fun i o d hi hdd => ?_) (fun i o hi => by
      have := ObsG.get ho i o (by simpa using hi)
      simpa using this) (fun b w' hI hdf hsz hsame => ?_) l.toArray.size (Array.replicate l.toArray.size false) _ _ (by simp) (by simp [leftN]) ?_ rfl rfl (fun t _ => rfl))
  · have := List.all_eq_true.1 hd o (by simpa using Array.mem_of_getElem? hi)
    unfold dstOk at this; rw [hdd] at this; simpa using this
  · have := hQ (slots b) w' (by simpa using hI)
    have e : b = { tmps := (over ds (slots b) 0 zs).toArray, defers := df } := by
      obtain ⟨bt, bd⟩ := b
      simp only at hdf hsz
      subst hdf
      congr 1
      apply Array.ext_getElem?
      intro i
      simp only [List.getElem?_toArray, over_get, Nat.zero_add]
      by_cases g : i < zs.length
      · have g1 : i < bt.size := by rw [hsz]; simpa using g
        simp only [List.getElem?_eq_getElem g, Option.map_some, Array.getElem?_eq_getElem g1]
        congr 1
        by_cases g3 : ds.contains i = true
        · rw [if_pos g3]; simp [slots, g1]
        · rw [if_neg g3]
          have := hsame i fun j q hj hqd => by
            apply g3
            subst hds
            have hqm : q ∈ l := by simpa using Array.mem_of_getElem? hj
            simpa using List.mem_filterMap.2 ⟨q, hqm, hqd⟩
          simpa [slots, g1, g] using this
      · have g1 : ¬ i < bt.size := by rw [hsz]; simpa using g
        simp [g, g1]
    rw [e]; exact this
  · have e : lnOf (Array.replicate l.toArray.size false) = fun _ => false := by
      funext i
      unfold lnOf
      by_cases g : i < l.length <;> simp [g]
    rw [e]; exact h0
end
end Go.Proofs.Yteeokegkbhpbcaa

namespace Go.Proofs.Yteeokegkbhpbcaa
open Go Go.RowKit
set_option linter.unusedVariables false
set_option linter.unusedSimpArgs false

def dstsB (ops : Array Oper) : Bool := (List.range ops.size).all fun i => (List.range ops.size).all fun j => i == j || match ops[i]?, ops[j]? with
  | some o, some p => o.dst.isNone || o.dst != p.dst
  | _, _ => true
theorem dstsB_spec {ops : Array Oper} (h : dstsB ops = true) {i j d : Nat} {o p : Oper} (hi : ops[i]? = some o) (hj : ops[j]? = some p) (ho : o.dst = some d) (hp : p.dst = some d) : i = j := by
  have h1 := List.all_eq_true.1 h i (List.mem_range.2 (Array.getElem?_eq_some_iff.1 hi).1)
  have h2 := List.all_eq_true.1 h1 j (List.mem_range.2 (Array.getElem?_eq_some_iff.1 hj).1)
  rw [Bool.or_eq_true] at h2
  rcases h2 with h2 | h2
  · simpa using h2
  · simp only [hi, hj, ho, hp] at h2
    simp at h2
def availB (ops : Array Oper) (o : Oper) (t : Nat) : Bool := o.after.any fun e => Region.binds .any e && match ops[e.on]? with
  | some p => p.dst == some t
  | none => false
abbrev CL (W w : World) : Prop := Below W.heap.size W w
/-- The obligation of an operation. -/
def ObT (P : Program) (ops : Array Oper) (ds : List Nat) (vs0 : Nat → Value) (tab : List (Nat × (Value → World → Prop))) (W : World) (o : Oper) : Prop :=
  ∀ (w : World) (vs : Nat → Value), CL W w → (∀ t, ds.contains t = false → vs t = vs0 t) → (∀ t, availB ops o t = true → ty tab t (vs t) w) →
    (wantV o.guard vs (gdst ops o) = true → Comply P (fun _ w => CL W w) Grow 0 w (fun v w' => ∀ d, o.dst = some d → ty tab d v w') ((execOp (evOf vs) o).run P w)) ∧
    (wantV o.guard vs (gdst ops o) = false → ∀ d, o.dst = some d → ty tab d undef w)
def ObsT (P : Program) (ops : Array Oper) (ds : List Nat) (vs0 : Nat → Value) (tab : List (Nat × (Value → World → Prop))) (W : World) : List Oper → Prop
  | [] => True
  | o :: l => ObT P ops ds vs0 tab W o ∧ ObsT P ops ds vs0 tab W l
theorem ObsT.mem {P : Program} {ops : Array Oper} {ds : List Nat} {vs0 : Nat → Value} {tab : List (Nat × (Value → World → Prop))} {W : World} : ∀ {l : List Oper}, ObsT P ops ds vs0 tab W l → ∀ o ∈ l, ObT P ops ds vs0 tab W o
  | [], _, o, h => by cases h
  | x :: l, h, o, hm => by
    rcases List.mem_cons.1 hm with e | e
    · subst e; exact h.1
    · exact ObsT.mem h.2 o e
def IT (ops : Array Oper) (ds : List Nat) (vs0 : Nat → Value) (tab : List (Nat × (Value → World → Prop))) (W : World) (ln : Nat → Bool) (vs : Nat → Value) (w : World) : Prop :=
  CL W w ∧ (∀ t, ds.contains t = false → vs t = vs0 t) ∧ ∀ i o d, ops[i]? = some o → o.dst = some d → ln i = true → ty tab d (vs d) w
theorem IT.next {ops : Array Oper} {ds : List Nat} {vs0 : Nat → Value} {tab : List (Nat × (Value → World → Prop))} {W w w' : World} {ln : Nat → Bool} {vs : Nat → Value} {i : Nat} {o : Oper} {u : Value} (hn : dstsB ops = true) (hds : ∀ (o : Oper) (d : Nat), o ∈ ops → o.dst = some d → ds.contains d = true)
    (hst : StGAll tab) (h : IT ops ds vs0 tab W ln vs w) (hi : ops[i]? = some o) (hC : CL W w') (hg : Grow w w') (hu : ∀ d, o.dst = some d → ty tab d u w') : IT ops ds vs0 tab W (updL ln i) (updV vs o.dst u) w' := by
  obtain ⟨_, h2, h3⟩ := h
  refine ⟨hC, fun t ht => ?_, fun j p d hj hp hl => ?_⟩
  · unfold updV
    split
    · exact h2 t ht
    · rename_i d e
      rw [if_neg (fun g => by
        have := hds o d (Array.mem_of_getElem? hi) e
        rw [← g, ht] at this; cases this)]
      exact h2 t ht
  · by_cases e : j = i
    · subst e
      obtain rfl : p = o := Option.some.inj (hj.symm.trans hi)
      unfold updV
      rw [hp]
      simp only [if_true]
      exact hu d hp
    · have hl2 : ln j = true := by
        unfold updL at hl
        rwa [if_neg e] at hl
      have h4 := hst.ty d _ _ _ hg (h3 j p d hj hp hl2)
      unfold updV
      split
      · exact h4
      · rename_i d2 e2
        rw [if_neg (fun g => e (dstsB_spec hn hj hi hp (by rw [e2, g])))]
        exact h4
/-- **THE RULE**. -/
theorem wp_region_tg {P : Program} {id : Nat} {Q : Exit → Act → World → Prop} {zs : List Value} {df : List Deferred} {W : World} {l : List Oper} (ds : List Nat) (tab : List (Nat × (Value → World → Prop)))
    (hds : l.filterMap (·.dst) = ds) (hm : P.follows .mixedOrders = true) (hB : edgesB l.toArray = true) (hG : guardsB l.toArray = true) (hn : dstsB l.toArray = true) (hd : l.all (dstOk zs.length) = true) (hst : StGAll tab)
    (ho : ObsT P l.toArray ds (slots { tmps := zs.toArray, defers := df }) tab W l)
    (hQ : ∀ (vs : Nat → Value) (w' : World), CL W w' → (∀ t, ds.contains t = true → ty tab t (vs t) w') → Q .normal { tmps := (over ds vs 0 zs).toArray, defers := df } w') :
    (Code.region id l.toArray true).wp P Q { tmps := zs.toArray, defers := df } W := by
  have hdd : ∀ (o : Oper) (d : Nat), o ∈ l.toArray → o.dst = some d → ds.contains d = true := fun o d hol hod => by
    subst hds
    simpa using List.mem_filterMap.2 ⟨o, by simpa using hol, hod⟩
  refine wp_region_invg (IT l.toArray ds (slots { tmps := zs.toArray, defers := df }) tab W) ds hds hm hB hG hd ⟨Below.dw (Below.refl _ _), fun t _ => rfl, fun i o d _ _ h => by cases h⟩ ?_ (fun vs w' h => hQ vs w' h.1 fun t ht => ?_)
  · have key : ∀ (k : List Oper) (i : Nat), (∀ j o, k[j]? = some o → l[i + j]? = some o) → ObsG P l.toArray (IT l.toArray ds (slots { tmps := zs.toArray, defers := df }) tab W) i k := by
      intro k
      induction k with
      | nil => intro i _; trivial
      | cons o k ih =>
        intro i hk
        refine ⟨?_, ih (i + 1) fun j p hp => by have := hk (j + 1) p (by simpa using hp); rwa [show i + 1 + j = i + (j + 1) by omega]⟩
        have hio : l[i]? = some o := by simpa using hk 0 o rfl
        have hio' : l.toArray[i]? = some o := by simpa using hio
        have hob := ObsT.mem ho o (List.mem_of_getElem? hio)
        intro ln vs w hun haft hI
        have h1 := hob w vs hI.1 hI.2.1 (fun t ht => by
          unfold availB at ht
          obtain ⟨q, hq, hb⟩ := Array.any_eq_true.1 ht
          rw [Bool.and_eq_true] at hb
          have hl9 := haft (o.after[q]) (by simp) hb.1
          cases e : l.toArray[(o.after[q]).on]? with
          | none => rw [e] at hb; cases hb.2
          | some p =>
            rw [e] at hb
            exact hI.2.2 _ p t e (by simpa using hb.2) hl9)
        refine ⟨fun hw => ?_, fun hw => ?_⟩
        · have h2 := h1.1 hw
          generalize (execOp (evOf vs) o).run P w = r at *
          cases r with
          | ok nx w' =>
            cases nx <;> simp only [Comply] at h2 <;> simp only [StepI]
            case value u => exact IT.next hn hdd hst hI hio' h2.2.1 h2.2.2 h2.1
            case skip => exact IT.next hn hdd hst hI hio' h2.2.1 h2.2.2 h2.1
            case enter f args => exact h2.mono fun e w'' ⟨v, he, hm2, hc, hg⟩ => ⟨v, he, IT.next hn hdd hst hI hio' hc hg hm2⟩
          | halt x w' => simp only [Comply] at h2
        · exact IT.next hn hdd hst hI hio' hI.1 (Grow.refl _) (h1.2 hw)
    exact key l 0 (fun j o h => by simpa using h)
  · subst hds
    have ht2 : t ∈ l.filterMap (·.dst) := by simpa using ht
    obtain ⟨o, hol, hod⟩ := List.mem_filterMap.1 ht2
    obtain ⟨i, hi⟩ := List.getElem?_of_mem hol
    exact h.2.2 i o t (by simpa using hi) hod (by
      have : i < l.length := (List.getElem?_eq_some_iff.1 hi).1
      simpa using this)
end Go.Proofs.Yteeokegkbhpbcaa
