/- Words of my own on slices of integers, and the plain mathematics of floors. -/
import Derived.WalkKit
import Derived.WalkSpells
import Derived.WalkLawsBesides
import Derived.BigQuiet
import Derived.Deep.QuietTactic
import Derived.Deep.DeepFit
import Derived.OpenShut
namespace Go.Proofs.Yteeokegkbhpbcaa
open Go.RowKit
set_option linter.unusedVariables false
set_option linter.unusedSimpArgs false

/-- Element i of a list. -/
def nth (xs : List Int) (i : Nat) : Int := xs.getD i 0
theorem nth_ext {xs ys : List Int} (hl : xs.length = ys.length) (h : ∀ i, i < xs.length → nth xs i = nth ys i) : xs = ys := by
  apply List.ext_getElem hl
  intro i h1 h2
  have := h i h1
  simpa [nth, List.getD, h1, h2] using this
theorem nth_take (xs : List Int) {n i : Nat} (h : i < n) : nth (xs.take n) i = nth xs i := by unfold nth; simp only [List.getD, List.getElem?_take]; rw [if_pos h]
theorem nth_drop (xs : List Int) (n i : Nat) : nth (xs.drop n) i = nth xs (n + i) := by unfold nth; simp only [List.getD, List.getElem?_drop]
/-- The cells from an address on read as the integers of a list. -/
def Ints (w : World) (b off : Nat) (xs : List Int) : Prop := ∀ i, i < xs.length → w.cell? ⟨b, off + i, none⟩ = some (.int .i64 (nth xs i))

theorem Ints.drewN {w : World} {b off : Nat} {xs : List Int} (h : Ints w b off xs) (n : Nat) : Ints (w.drewN n) b off xs := h
theorem cell_below {w w' : World} {p : Addr} {v : Value} (h : w.cell? p = some v) (hb : Below w.heap.size w w') : w'.cell? p = some v :=
  (hb.cell (World.block_lt_of_cell? w p h)).trans h
theorem Ints.below {w w' : World} {b off : Nat} {xs : List Int} (h : Ints w b off xs) (hb : Below w.heap.size w w') : Ints w' b off xs := fun i hi => cell_below (h i hi) hb
theorem below_drewN' {w : World} (n : Nat) : Below w.heap.size w (w.drewN n) := ⟨rfl, rfl, rfl, Nat.le_refl _, fun _ _ => rfl⟩
theorem below_next {w w1 w2 : World} (h : Below w.heap.size w w1) (k : Below w1.heap.size w1 w2) : Below w.heap.size w w2 := h.trans (k.mono h.size)

/-- A read-only call's end. -/
def Ro (w : World) (v : Value) (e : Ending) (w' : World) : Prop := e = .returned v ∧ ∃ n, w' = w.drewN n

/-- A callee that only reads, met behind some draws. -/
theorem quiet_sum {P : Program} {f : FuncId} {args : Array Value} {w : World} {X n : Nat} {v : Value}
    (h : Calls P f args (w.drewN (X + n)) (Ro (w.drewN (X + n)) v)) : Calls P f args (w.drewN (X + n)) fun e w'' => e = .returned v ∧ ∃ m, w'' = w.drewN (X + m) :=
  h.mono fun _ _ ⟨he, m, hm⟩ => ⟨he, n + m, by rw [hm, World.drewN_drewN, Nat.add_assoc]⟩
theorem Ro.b {w w' : World} {b b' : Bool} (h : b = b') (hw : ∃ n, w' = w.drewN n) : Ro w (.bool b) (.returned (.bool b')) w' := ⟨by rw [h], hw⟩
theorem Ro.i {w w' : World} {b b' : Int} (h : b = b') (hw : ∃ n, w' = w.drewN n) : Ro w (.int .i64 b) (.returned (.int .i64 b')) w' := ⟨by rw [h], hw⟩
/-- The truth of a proposition, as a Bool that the walk does not take apart. -/
noncomputable def tr (p : Prop) : Bool := @decide p (Classical.propDecidable p)
theorem tr_true {p : Prop} (h : p) : tr p = true := by simp [tr, h]
theorem tr_false {p : Prop} (h : ¬ p) : tr p = false := by simp [tr, h]
theorem tr_iff {p q : Prop} (h : p ↔ q) : tr p = tr q := by rw [propext h]
theorem tr_eq {p : Prop} {b : Bool} (h : p ↔ b = true) : tr p = b := by cases b <;> simp at h <;> simp [tr, h]

/-- n is in lo..hi. -/
def inB (lo n hi : Int) : Bool := decide (lo ≤ n ∧ n ≤ hi)
theorem inB_t {lo n hi : Int} (h : lo ≤ n ∧ n ≤ hi) : inB lo n hi = true := by simp [inB, h]
theorem inB_f {lo n hi : Int} (h : ¬ (lo ≤ n ∧ n ≤ hi)) : inB lo n hi = false := by unfold inB; exact decide_eq_false h
/-- The number of which a proposition speaks; 0 if there is none. -/
noncomputable def the (p : Int → Prop) : Int := @dite _ (∃ r, p r) (Classical.propDecidable _) (fun h => Classical.choose h) (fun _ => 0)
theorem the_eq {p : Int → Prop} {r : Int} (h : p r) (u : ∀ s, p s → s = r) : the p = r := by
  unfold the
  rw [dif_pos ⟨r, h⟩]
  exact u _ (Classical.choose_spec (⟨r, h⟩ : ∃ r, p r))

/-- What `FloorsValid` asks. -/
def FV (xs : List Int) : Prop := 1 ≤ xs.length ∧ xs.length ≤ 8 ∧ nth xs 0 = 0 ∧ (∀ i, i + 1 < xs.length → nth xs i < nth xs (i + 1)) ∧ nth xs (xs.length - 1) ≤ 60
theorem FV.asc {xs : List Int} (h : FV xs) : ∀ j i, i < j → j < xs.length → nth xs i < nth xs j := by
  intro j
  induction j with
  | zero => intro i hi; omega
  | succ j ih =>
    intro i hi hj
    have := h.2.2.2.1 j hj
    by_cases e : i = j
    · subst e; exact this
    · have := ih i (by omega) (by omega); omega
theorem FV.ge {xs : List Int} (h : FV xs) (i : Nat) (hi : i < xs.length) : 0 ≤ nth xs i := by
  have h0 := h.2.2.1
  by_cases e : i = 0
  · subst e; omega
  · have := h.asc i 0 (by omega) hi; omega
theorem FV.le {xs : List Int} (h : FV xs) (i : Nat) (hi : i < xs.length) : nth xs i ≤ 60 := by
  have h0 := h.2.2.2.2
  by_cases e : i = xs.length - 1
  · subst e; omega
  · have := h.asc (xs.length - 1) i (by omega) (by omega); omega

noncomputable def fvB (xs : List Int) : Bool := tr (FV xs)
theorem fvB_t {xs : List Int} (h : FV xs) : fvB xs = true := tr_true h
theorem fvB_f {xs : List Int} (h : ¬ FV xs) : fvB xs = false := tr_false h
/-- `FloorAt`. -/
def FA (xs : List Int) (a r : Int) : Prop := (FV xs ∧ ∃ k : Nat, k < xs.length ∧ r = k ∧ nth xs k = a) ∨ (r = -1 ∧ (FV xs → ∀ k : Nat, k < xs.length → nth xs k ≠ a))
noncomputable def fa (xs : List Int) (a : Int) : Int := the (FA xs a)
theorem fa_eq {xs : List Int} {a r : Int} (h : FA xs a r) : fa xs a = r := by
  refine the_eq h fun s hs => ?_
  rcases h with ⟨hv, k, hk, rfl, hn⟩ | ⟨rfl, hn⟩
  · rcases hs with ⟨_, j, hj, rfl, hm⟩ | ⟨rfl, hm⟩
    · rcases Nat.lt_trichotomy j k with g | g | g
      · have := hv.asc k j g hk; omega
      · omega
      · have := hv.asc j k g hj; omega
    · exact absurd hn (hm hv k hk)
  · rcases hs with ⟨hv, j, hj, rfl, hm⟩ | ⟨rfl, hm⟩
    · exact absurd hm (hn hv j hj)
    · rfl
theorem fa_bad {xs : List Int} {a : Int} (h : ¬ FV xs) : fa xs a = -1 := fa_eq (.inr ⟨rfl, fun g => absurd g h⟩)
theorem fa_at {xs : List Int} {a : Int} (h : FV xs) (k : Nat) (hk : k < xs.length) (e : nth xs k = a) : fa xs a = k := fa_eq (.inl ⟨h, k, hk, rfl, e⟩)
theorem fa_no {xs : List Int} {a : Int} (h : ∀ k, k < xs.length → nth xs k ≠ a) : fa xs a = -1 := fa_eq (.inr ⟨rfl, fun _ => h⟩)

/-- The first place of a number in a list. -/
def IX (xs : List Int) (a r : Int) : Prop := (∃ k : Nat, k < xs.length ∧ r = k ∧ nth xs k = a ∧ ∀ j, j < k → nth xs j ≠ a) ∨ (r = -1 ∧ ∀ k : Nat, k < xs.length → nth xs k ≠ a)
noncomputable def ix (xs : List Int) (a : Int) : Int := the (IX xs a)
theorem ix_eq {xs : List Int} {a r : Int} (h : IX xs a r) : ix xs a = r := by
  refine the_eq h fun s hs => ?_
  rcases h with ⟨k, hk, rfl, hn, hu⟩ | ⟨rfl, hn⟩
  · rcases hs with ⟨j, hj, rfl, hm, hw⟩ | ⟨rfl, hm⟩
    · rcases Nat.lt_trichotomy j k with g | g | g
      · exact absurd hm (hu j g)
      · omega
      · exact absurd hn (hw k g)
    · exact absurd hn (hm k hk)
  · rcases hs with ⟨j, hj, rfl, hm, hw⟩ | ⟨rfl, hm⟩
    · exact absurd hm (hn j hj)
    · rfl
theorem ix_cases (xs : List Int) (a : Int) : IX xs a (ix xs a) := by
  have key : ∀ m, m ≤ xs.length → (∃ k : Nat, k < m ∧ nth xs k = a ∧ ∀ j, j < k → nth xs j ≠ a) ∨ ∀ k : Nat, k < m → nth xs k ≠ a := by
    intro m
    induction m with
    | zero => intro _; right; omega
    | succ m ih =>
      intro hm
      rcases ih (by omega) with ⟨k, hk, hn, hu⟩ | h
      · exact .inl ⟨k, by omega, hn, hu⟩
      · by_cases e : nth xs m = a
        · exact .inl ⟨m, by omega, e, h⟩
        · refine .inr fun k hk => ?_
          by_cases e2 : k = m
          · subst e2; exact e
          · exact h k (by omega)
  rcases key xs.length (Nat.le_refl _) with ⟨k, hk, hn, hu⟩ | h
  · rw [ix_eq (.inl ⟨k, hk, rfl, hn, hu⟩)]; exact .inl ⟨k, hk, rfl, hn, hu⟩
  · rw [ix_eq (.inr ⟨rfl, h⟩)]; exact .inr ⟨rfl, h⟩
theorem fa_ix {xs : List Int} {a : Int} (h : FV xs) : fa xs a = ix xs a := by
  rcases ix_cases xs a with ⟨k, hk, e, hn, hu⟩ | ⟨e, hn⟩
  · rw [e]; exact fa_at h k hk hn
  · rw [e]; exact fa_no hn

/-- `FloorBelow`. -/
def FB (xs : List Int) (a r : Int) : Prop := (FV xs ∧ 0 ≤ a ∧ a ≤ 60 ∧ ∃ k : Nat, k < xs.length ∧ r = k ∧ nth xs k ≤ a ∧ ∀ j, k < j → j < xs.length → a < nth xs j) ∨ (r = -1 ∧ ¬ (FV xs ∧ 0 ≤ a ∧ a ≤ 60))
noncomputable def fb (xs : List Int) (a : Int) : Int := the (FB xs a)
theorem fb_eq {xs : List Int} {a r : Int} (h : FB xs a r) : fb xs a = r := by
  refine the_eq h fun s hs => ?_
  rcases h with ⟨hv, h0, h6, k, hk, rfl, hn, hu⟩ | ⟨rfl, hn⟩
  · rcases hs with ⟨_, _, _, j, hj, rfl, hm, hw⟩ | ⟨rfl, hm⟩
    · rcases Nat.lt_trichotomy j k with g | g | g
      · have := hw k g hk; omega
      · omega
      · have := hu j g hj; omega
    · exact absurd ⟨hv, h0, h6⟩ hm
  · rcases hs with ⟨hv, h0, h6, _⟩ | ⟨rfl, hm⟩
    · exact absurd ⟨hv, h0, h6⟩ hn
    · rfl
theorem fb_bad {xs : List Int} {a : Int} (h : ¬ (FV xs ∧ 0 ≤ a ∧ a ≤ 60)) : fb xs a = -1 := fb_eq (.inr ⟨rfl, h⟩)
theorem fb_ok {xs : List Int} {a : Int} (h : FV xs) (h0 : 0 ≤ a) (h6 : a ≤ 60) : ∃ k : Nat, k < xs.length ∧ fb xs a = k ∧ nth xs k ≤ a ∧ ∀ j, k < j → j < xs.length → a < nth xs j := by
  have key : ∀ m : Nat, m < xs.length → ∃ k : Nat, k ≤ m ∧ nth xs k ≤ a ∧ ∀ j, k < j → j ≤ m → a < nth xs j := by
    intro m
    induction m with
    | zero => intro _; exact ⟨0, by omega, by rw [h.2.2.1]; exact h0, by omega⟩
    | succ m ih =>
      intro hm
      by_cases e : nth xs (m + 1) ≤ a
      · exact ⟨m + 1, by omega, e, by omega⟩
      · obtain ⟨k, hk, hn, hu⟩ := ih (by omega)
        refine ⟨k, by omega, hn, fun j hj hj2 => ?_⟩
        by_cases e2 : j = m + 1
        · subst e2; omega
        · exact hu j hj (by omega)
  obtain ⟨k, hk, hn, hu⟩ := key (xs.length - 1) (by have := h.1; omega)
  have hk2 : k < xs.length := by have := h.1; omega
  exact ⟨k, hk2, fb_eq (.inl ⟨h, h0, h6, k, hk2, rfl, hn, fun j hj hj2 => hu j hj (by omega)⟩), hn, fun j hj hj2 => hu j hj (by omega)⟩

def far (a b : Int) : Int := max (a - b) (b - a)
/-- `FloorNear`. -/
def FN (xs : List Int) (a r : Int) : Prop := (FV xs ∧ 0 ≤ a ∧ a ≤ 60 ∧ ∃ k : Nat, k < xs.length ∧ r = k ∧ (∀ j, j < xs.length → far (nth xs k) a ≤ far (nth xs j) a) ∧ ∀ j, j < k → far (nth xs k) a < far (nth xs j) a) ∨ (r = -1 ∧ ¬ (FV xs ∧ 0 ≤ a ∧ a ≤ 60))
noncomputable def fn (xs : List Int) (a : Int) : Int := the (FN xs a)
theorem fn_eq {xs : List Int} {a r : Int} (h : FN xs a r) : fn xs a = r := by
  refine the_eq h fun s hs => ?_
  rcases h with ⟨hv, h0, h6, k, hk, rfl, hn, hu⟩ | ⟨rfl, hn⟩
  · rcases hs with ⟨_, _, _, j, hj, rfl, hm, hw⟩ | ⟨rfl, hm⟩
    · rcases Nat.lt_trichotomy j k with g | g | g
      · have := hu j g; have := hm k hk; omega
      · omega
      · have := hw k g; have := hn j hj; omega
    · exact absurd ⟨hv, h0, h6⟩ hm
  · rcases hs with ⟨hv, h0, h6, _⟩ | ⟨rfl, hm⟩
    · exact absurd ⟨hv, h0, h6⟩ hn
    · rfl
theorem fn_bad {xs : List Int} {a : Int} (h : ¬ (FV xs ∧ 0 ≤ a ∧ a ≤ 60)) : fn xs a = -1 := fn_eq (.inr ⟨rfl, h⟩)
/-- The nearest floor is the one below, or the one above that. -/
theorem fn_of_fb {xs : List Int} {a : Int} (h : FV xs) (h0 : 0 ≤ a) (h6 : a ≤ 60) (k : Nat) (hk : k < xs.length) (hn : nth xs k ≤ a) (hu : ∀ j, k < j → j < xs.length → a < nth xs j) :
    fn xs a = if k + 1 < xs.length ∧ nth xs (k + 1) - a < a - nth xs k then ((k + 1 : Nat) : Int) else (k : Int) := by
  have below : ∀ j, j < k → nth xs j < nth xs k := fun j hj => h.asc k j hj hk
  by_cases e : k + 1 < xs.length
  · have up : ∀ j, k + 1 < j → j < xs.length → nth xs (k + 1) < nth xs j := fun j hj hj2 => h.asc j (k + 1) hj hj2
    have ha := hu (k + 1) (by omega) e
    by_cases e2 : nth xs (k + 1) - a < a - nth xs k
    · rw [if_pos ⟨e, e2⟩]
      refine fn_eq (.inl ⟨h, h0, h6, k + 1, e, rfl, fun j hj => ?_, fun j hj => ?_⟩)
      · unfold far
        rcases Nat.lt_trichotomy j (k + 1) with g | g | g
        · by_cases e3 : j = k
          · subst e3; omega
          · have := below j (by omega); omega
        · subst g; omega
        · have := up j g hj; omega
      · unfold far
        by_cases e3 : j = k
        · subst e3; omega
        · have := below j (by omega); omega
    · rw [if_neg (fun g => e2 g.2)]
      refine fn_eq (.inl ⟨h, h0, h6, k, hk, rfl, fun j hj => ?_, fun j hj => ?_⟩)
      · unfold far
        rcases Nat.lt_trichotomy j k with g | g | g
        · have := below j g; omega
        · subst g; omega
        · by_cases e3 : j = k + 1
          · subst e3; omega
          · have := up j (by omega) hj; omega
      · unfold far; have := below j hj; omega
  · rw [if_neg (fun g => e g.1)]
    refine fn_eq (.inl ⟨h, h0, h6, k, hk, rfl, fun j hj => ?_, fun j hj => ?_⟩)
    · unfold far
      rcases Nat.lt_trichotomy j k with g | g | g
      · have := below j g; omega
      · subst g; omega
      · omega
    · unfold far; have := below j hj; omega

theorem least_at (f : Nat → Int) : ∀ n : Nat, ∃ m : Nat, (∀ j, j ≤ n → f m ≤ f j) ∧ m ≤ n ∧ ∀ j, j < m → f m < f j := by
  intro n
  induction n with
  | zero => exact ⟨0, (fun j hj => by obtain rfl : j = 0 := by omega
                                      exact Int.le_refl _), by omega, by omega⟩
  | succ n ih =>
    obtain ⟨m, h1, h2, h3⟩ := ih
    by_cases g : f (n + 1) < f m
    · refine ⟨n + 1, fun j hj => ?_, by omega, fun j hj => ?_⟩
      · by_cases e : j = n + 1
        · subst e; exact Int.le_refl _
        · have := h1 j (by omega); omega
      · have := h1 j (by omega); omega
    · refine ⟨m, fun j hj => ?_, by omega, h3⟩
      by_cases e : j = n + 1
      · subst e; omega
      · exact h1 j (by omega)
theorem fn_ok {xs : List Int} {x : Int} (hv : FV xs) (h0 : 0 ≤ x) (h6 : x ≤ 60) : ∃ k : Nat, k < xs.length ∧ fn xs x = k ∧ (∀ j, j < xs.length → far (nth xs k) x ≤ far (nth xs j) x) ∧ (∀ j, j < k → far (nth xs k) x < far (nth xs j) x) ∧ (fb xs x = k ∨ (k : Int) = fb xs x + 1) := by
  obtain ⟨q, hq, hfb, hle, hup⟩ := fb_ok hv h0 h6
  have hE := fn_of_fb hv h0 h6 q hq hle hup
  obtain ⟨m, h1, h2, h3⟩ := least_at (fun j => far (nth xs j) x) (xs.length - 1)
  have hm : m < xs.length := by omega
  have e : fn xs x = m := fn_eq (.inl ⟨hv, h0, h6, m, hm, rfl, (fun j hj => h1 j (by omega)), h3⟩)
  refine ⟨m, hm, e, (fun j hj => h1 j (by omega)), h3, ?_⟩
  rw [e] at hE
  rw [hfb]
  split at hE
  · right; omega
  · left; omega
def okF (xs : List Int) (a : Int) : Prop := 0 ≤ a ∧ a < xs.length
noncomputable def okB (xs : List Int) (a : Int) : Bool := tr (okF xs a)
theorem okB_t {xs : List Int} {a : Int} (h : okF xs a) : okB xs a = true := tr_true h
theorem okB_f {xs : List Int} {a : Int} (h : ¬ okF xs a) : okB xs a = false := tr_false h
/-- `FloorWay`. -/
noncomputable def fw (xs : List Int) (a b : Int) : Int := @ite _ (FV xs ∧ okF xs a ∧ okF xs b) (Classical.propDecidable _) (far (nth xs a.toNat) (nth xs b.toNat)) (-1)
theorem fw_bad {xs : List Int} {a b : Int} (h : ¬ (FV xs ∧ okF xs a ∧ okF xs b)) : fw xs a b = -1 := by unfold fw; rw [if_neg h]
theorem fw_ok {xs : List Int} {a b : Int} (h : FV xs) (ha : okF xs a) (hb : okF xs b) : fw xs a b = far (nth xs a.toNat) (nth xs b.toNat) := by unfold fw; rw [if_pos ⟨h, ha, hb⟩]
end Go.Proofs.Yteeokegkbhpbcaa
