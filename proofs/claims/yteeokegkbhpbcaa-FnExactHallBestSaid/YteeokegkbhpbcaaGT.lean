/- Types for regions of drawing functions. -/
import Derived.Test.YteeokegkbhpbcaaG
namespace Go.Proofs.Yteeokegkbhpbcaa
open Go Go.RowKit
set_option linter.unusedVariables false
set_option linter.unusedSimpArgs false

/-- The class of worlds while a reader draws. -/
def DC (W : World) (g c0 : Nat) (k : Nat) (w : World) : Prop := ∃ c, c ≤ c0 + k ∧ Rd w g c ∧ Fr W g w
theorem DC.up {W w : World} {g c0 k : Nat} (h : DC W g c0 k w) : DC W g c0 (k + 1) w := by
  obtain ⟨c, h1, h2⟩ := h; exact ⟨c, by omega, h2⟩
def tA (v : Value) (w : World) : Prop := True
def tI (lo hi : Int) (v : Value) (w : World) : Prop := ∃ p, v = .int .i64 p ∧ lo ≤ p ∧ p ≤ hi
def tB (v : Value) (w : World) : Prop := ∃ b, v = .bool b
def tV (u : Value) (v : Value) (w : World) : Prop := v = u
def tS (g : Nat) (lo hi : Int) (n : Nat) (v : Value) (w : World) : Prop := ∃ b xs, v = .slice (some ⟨b, 0, none⟩) n n ∧ b ≠ g ∧ xs.length = n ∧ Ints w b 0 xs ∧ ∀ x ∈ xs, lo ≤ x ∧ x ≤ hi
def tC (g : Nat) (lo hi : Int) (v : Value) (w : World) : Prop := ∃ b o x, v = .pointer (some ⟨b, o, none⟩) ∧ b ≠ g ∧ w.cell? ⟨b, o, none⟩ = some (.int .i64 x) ∧ lo ≤ x ∧ x ≤ hi
theorem tS.st {g : Nat} {lo hi : Int} {n : Nat} {v : Value} {w w' : World} (hr : Fr w g w') (h : tS g lo hi n v w) : tS g lo hi n v w' := by
  obtain ⟨b, xs, h1, h2, h3, h4, h5⟩ := h
  exact ⟨b, xs, h1, h2, h3, Ints.fr h4 hr h2, h5⟩
theorem tC.st {g : Nat} {lo hi : Int} {v : Value} {w w' : World} (hr : Fr w g w') (h : tC g lo hi v w) : tC g lo hi v w' := by
  obtain ⟨b, o, x, h1, h2, h3, h4⟩ := h
  exact ⟨b, o, x, h1, h2, World.grownBy.cell hr h3 (by simp; exact h2), h4⟩
theorem nth_mem (xs : List Int) {i : Nat} (h : i < xs.length) : nth xs i ∈ xs := by rw [nth_eq h]; exact List.getElem_mem h
theorem ints_new (xs : List Int) (w : World) (T : TypeId) : Ints (w.alloc (.cells (xs.map (Value.int .i64)).toArray T)) w.heap.size 0 xs := fun i hi => by
  rw [World.cell?_alloc_at _ _ _ _ rfl]
  simp [nth_eq hi, hi]
theorem ints_at {w : World} {b : Nat} {xs : List Int} {j : Int} (h : Ints w b 0 xs) (h0 : 0 ≤ j) (h1 : j < xs.length) : w.cell? ⟨b, j.toNat, none⟩ = some (.int .i64 (nth xs j.toNat)) := by
  have := h j.toNat (by omega)
  simpa using this
theorem DC.lt {W w : World} {g c0 k : Nat} (h : DC W g c0 k w) : g < w.heap.size := by
  obtain ⟨c, _, h2, _⟩ := h; exact Rd.lt h2
theorem evOf_tmp (vs : Nat → Value) (t : Nat) : evOf vs (.tmp t) = vs t := rfl
theorem evOf_const (vs : Nat → Value) (v : Value) : evOf vs (.const v) = v := rfl
theorem evOf_func (vs : Nat → Value) (f : FuncId) : evOf vs (.func f) = .func (.func f) #[] #[] := rfl
theorem evOf_global (vs : Nat → Value) (g : Nat) : evOf vs (.global g) = .pointer (some ⟨g, 0, none⟩) := rfl
/-- What the common operations come to. -/
theorem ob_pure {P : Program} {W w : World} {g c0 k : Nat} {M : Value → World → Prop} {u : Value} (hC : DC W g c0 k w) (h : M u w) : Comply P (DC W g c0) (fun a b => Fr a g b) k w M (.ok (.value u) w) := ⟨h, hC.up, Fr.refl _ _⟩
theorem ob_alloc {P : Program} {W w : World} {g c0 k : Nat} {M : Value → World → Prop} {u : Value} {o : Obj} (hC : DC W g c0 k w) (h : M u (w.alloc o)) : Comply P (DC W g c0) (fun a b => Fr a g b) k w M (.ok (.value u) (w.alloc o)) := by
  obtain ⟨c, h1, h2, h3⟩ := hC
  exact ⟨h, ⟨c, by omega, Rd.alloc h2 o, Fr.alloc h3 o⟩, Fr.alloc (Fr.refl _ _) o⟩
theorem ob_pick {W w : World} {g c0 k : Nat} {M : Value → World → Prop} {m : Int} (hC : DC W g c0 k w) (hc : c0 + k ≤ 1000000) (hm : m ≤ 1000000) (hm0 : 0 < m) (h : ∀ w' p, 0 ≤ p → p < m → M (.int .i64 p) w') :
    Comply Try.prog (DC W g c0) (fun a b => Fr a g b) k w M (.ok (.enter 49 #[.pointer (some ⟨g, 0, none⟩), .int .i64 m]) w) := by
  obtain ⟨c, h1, h2, h3⟩ := hC
  refine (pick_c g c m w h2 (by omega) hm).mono ?_
  rintro e w' ⟨p, rfl, p0, p1, hr, hf, _⟩
  exact ⟨_, rfl, h _ _ p0 (by omega), ⟨c + 1, by omega, hr, Fr.trans h3 hf⟩, hf⟩

/-- A table of types. -/
def ty (l : List (Nat × (Value → World → Prop))) (t : Nat) : Value → World → Prop := match l with
  | [] => tA
  | p :: l => if p.1 = t then p.2 else ty l t
def Stb (g : Nat) (M : Value → World → Prop) : Prop := ∀ v w w', Fr w g w' → M v w → M v w'
def StAll (g : Nat) : List (Nat × (Value → World → Prop)) → Prop
  | [] => True
  | p :: l => Stb g p.2 ∧ StAll g l
theorem StAll.ty {g : Nat} : ∀ {l : List (Nat × (Value → World → Prop))}, StAll g l → ∀ t, Stb g (ty l t)
  | [], _, t => fun v w w' _ h => h
  | p :: l, h, t => by
    unfold Go.Proofs.Yteeokegkbhpbcaa.ty
    split
    · exact h.1
    · exact StAll.ty h.2 t
theorem Stb.A (g : Nat) : Stb g tA := fun v w w' _ h => h
theorem Stb.I (g : Nat) (lo hi : Int) : Stb g (tI lo hi) := fun v w w' _ h => h
theorem Stb.B (g : Nat) : Stb g tB := fun v w w' _ h => h
theorem Stb.V (g : Nat) (u : Value) : Stb g (tV u) := fun v w w' _ h => h
theorem Stb.S (g : Nat) (lo hi : Int) (n : Nat) : Stb g (tS g lo hi n) := fun v w w' hr h => h.st hr
theorem Stb.C (g : Nat) (lo hi : Int) : Stb g (tC g lo hi) := fun v w w' hr h => h.st hr
def PreAll (vs : Nat → Value) (w : World) : List (Nat × (Value → World → Prop)) → Prop
  | [] => True
  | p :: l => p.2 (vs p.1) w ∧ PreAll vs w l
theorem ty_pre {a : Act} {w : World} {dsts : Nat → Bool} : ∀ (pre tab : List (Nat × (Value → World → Prop))), (tab.all fun p => dsts p.1) = true → PreAll (slots a) w pre → ∀ t, dsts t = false → ty (pre ++ tab) t (slots a t) w
  | [], [], _, _, t, _ => trivial
  | [], p :: tab, h, hp, t, ht => by
    simp only [List.all_cons, Bool.and_eq_true] at h
    show ty (p :: tab) t (slots a t) w
    unfold ty
    split
    · rename_i e; rw [e, ht] at h; cases h.1
    · exact ty_pre [] tab h.2 hp t ht
  | p :: pre, tab, h, hp, t, ht => by
    show ty (p :: (pre ++ tab)) t (slots a t) w
    unfold ty
    split
    · rename_i e; rw [← e]; exact hp.1
    · exact ty_pre pre tab h hp.2 t ht
/-- A frame with some temporaries given anew. -/
def over (ds : List Nat) (vs : Nat → Value) : Nat → List Value → List Value
  | _, [] => []
  | t, x :: xs => (if ds.contains t then vs t else x) :: over ds vs (t + 1) xs
theorem over_get (ds : List Nat) (vs : Nat → Value) : ∀ (xs : List Value) (t i : Nat), (over ds vs t xs)[i]? = (xs[i]?).map fun x => if ds.contains (t + i) then vs (t + i) else x
  | [], t, i => by simp [over]
  | x :: xs, t, 0 => by simp [over]
  | x :: xs, t, i + 1 => by
    simp only [over, List.getElem?_cons_succ]
    rw [over_get ds vs xs (t + 1) i, show t + 1 + i = t + (i + 1) by omega]
theorem over_mapIdx (ds : List Nat) (vs : Nat → Value) (xs : List Value) (f : Nat → Bool) (h : ∀ t, f t = ds.contains t) : (xs.toArray.mapIdx fun t x => if f t then vs t else x) = (over ds vs 0 xs).toArray := by
  apply Array.ext_getElem?
  intro i
  simp only [Array.getElem?_mapIdx, List.getElem?_toArray, over_get, Nat.zero_add, h]
/-- The rule for a reader's regions: pre: what is known of temporaries that the region does not write. -/
theorem wp_region_reads {P : Program} {id : Nat} {Q : Exit → Act → World → Prop} {xs : List Value} {df : List Deferred} {w : World} {l : List Oper} (W : World) (g c0 : Nat) (ds : List Nat) (pre tab : List (Nat × (Value → World → Prop)))
    (hds : (l.filterMap (·.dst)) = ds) (hm : P.follows .mixedOrders = true) (hB : plainB l.toArray = true) (hd : l.all (dstOk xs.length) = true)
    (htab : (tab.all fun p => l.any fun o => o.dst == some p.1) = true) (hst : StAll g (pre ++ tab)) (hpre : PreAll (slots { tmps := xs.toArray, defers := df }) (World.drew w) pre)
    (hr : Rd w g c0) (hf : Fr W g w) (ho : Obs P l.toArray (DC W g c0) (fun a b => Fr a g b) (ty (pre ++ tab)) l.length l)
    (hQ : ∀ (vs : Nat → Value) (w' : World), DC W g c0 l.length w' → (∀ t, ty (pre ++ tab) t (vs t) w') → Q .normal { tmps := (over ds vs 0 xs).toArray, defers := df } w') : (Code.region id l.toArray true).wp P Q { tmps := xs.toArray, defers := df } w :=
  wp_region_typed (DC W g c0) (fun a b => Fr a g b) (ty (pre ++ tab)) hm hB (by simpa using hd) (fun t v w w' hr h => hst.ty t v w w' hr h) ⟨c0, by omega, hr, Fr.drewN hf 1⟩
    (fun t ht => ty_pre (dsts := fun t => l.any fun o => o.dst == some t) pre tab htab hpre t (by
      show (l.any fun o => o.dst == some t) = false
      cases e : l.any (fun o => o.dst == some t)
      · rfl
      · obtain ⟨o, ho1, ho2⟩ := List.any_eq_true.1 e
        exact absurd (by simpa using ho2) (ht o ho1))) ho (fun vs w' hc ht => by
      have := hQ vs w' hc ht
      rw [← over_mapIdx ds vs xs (fun t => l.any fun o => o.dst == some t) (fun t => ?_)] at this
      · exact this
      · subst hds
        rw [Bool.eq_iff_iff]
        simp [List.mem_filterMap])
end Go.Proofs.Yteeokegkbhpbcaa
