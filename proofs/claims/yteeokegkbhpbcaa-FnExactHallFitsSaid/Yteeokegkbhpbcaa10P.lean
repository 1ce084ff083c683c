/- The mathematics of tours: ways over orders, and the shortest one. -/
import Derived.Test.YteeokegkbhpbcaaPre
namespace Go.Proofs.Yteeokegkbhpbcaa
open Go.RowKit
set_option linter.unusedVariables false
set_option linter.unusedSimpArgs false
set_option maxRecDepth 100000

/-- The height of a floor. -/
def hgt (xs : List Int) (a : Int) : Int := nth xs a.toNat
theorem hgt_mono {xs : List Int} (h : FV xs) {a b : Int} (ha : okF xs a) (hb : okF xs b) (hab : a ≤ b) : hgt xs a ≤ hgt xs b := by
  by_cases e : a = b
  · subst e; exact Int.le_refl _
  · have := h.asc b.toNat a.toNat (by have := ha.1; omega) (by have := hb.1; have := hb.2; omega)
    unfold hgt; omega
theorem hgt_bd {xs : List Int} (h : FV xs) {a : Int} (ha : okF xs a) : 0 ≤ hgt xs a ∧ hgt xs a ≤ 60 :=
  ⟨h.ge _ (by have := ha.1; have := ha.2; omega), h.le _ (by have := ha.1; have := ha.2; omega)⟩
def OkL (xs ys : List Int) : Prop := ∀ y, y ∈ ys → okF xs y
/-- The way over an order. -/
def wsum (xs : List Int) : Int → List Int → Int
  | _, [] => 0
  | a, y :: l => far (hgt xs a) (hgt xs y) + wsum xs y l
noncomputable def twk (xs : List Int) : Int → List Int → Int → Int
  | _, [], s => s
  | a, y :: l, s => if fw xs a y < 0 then -1 else twk xs y l (s + fw xs a y)
noncomputable def tw (xs : List Int) (a : Int) (ys : List Int) : Int := if fw xs a a < 0 then -1 else twk xs a ys 0
theorem far_ge (a b : Int) : 0 ≤ far a b := by unfold far; omega
theorem fw_neg {xs : List Int} {a b : Int} : fw xs a b < 0 ↔ ¬ (FV xs ∧ okF xs a ∧ okF xs b) := by
  constructor
  · intro h g
    rw [fw_ok g.1 g.2.1 g.2.2] at h
    have := far_ge (nth xs a.toNat) (nth xs b.toNat)
    omega
  · intro h; rw [fw_bad h]; omega
theorem fw_hg {xs : List Int} {a b : Int} (h : FV xs) (ha : okF xs a) (hb : okF xs b) : fw xs a b = far (hgt xs a) (hgt xs b) := fw_ok h ha hb
theorem fw_bd (xs : List Int) (a b : Int) : -1 ≤ fw xs a b ∧ fw xs a b ≤ 60 := by
  by_cases h : FV xs ∧ okF xs a ∧ okF xs b
  · rw [fw_hg h.1 h.2.1 h.2.2]
    have := hgt_bd h.1 h.2.1
    have := hgt_bd h.1 h.2.2
    unfold far; omega
  · rw [fw_bad h]; omega
theorem fw_self {xs : List Int} {a : Int} : fw xs a a < 0 ↔ ¬ (FV xs ∧ okF xs a) := by
  rw [fw_neg]; exact not_congr ⟨fun h => ⟨h.1, h.2.1⟩, fun h => ⟨h.1, h.2, h.2⟩⟩
theorem twk_ok {xs : List Int} (h : FV xs) : ∀ (ys : List Int) (a s : Int), okF xs a → OkL xs ys → twk xs a ys s = s + wsum xs a ys
  | [], a, s, _, _ => by simp [twk, wsum]
  | y :: l, a, s, ha, hl => by
    have hy := hl y (by simp)
    unfold twk wsum
    rw [if_neg (fun g => fw_neg.1 g ⟨h, ha, hy⟩), twk_ok h l y _ hy (fun z hz => hl z (by simp [hz])), fw_hg h ha hy]
    omega
theorem twk_bad {xs : List Int} : ∀ (ys : List Int) (a s : Int), ¬ OkL xs ys → twk xs a ys s = -1
  | [], a, s, h => absurd (fun y hy => by cases hy) h
  | y :: l, a, s, h => by
    unfold twk
    by_cases g : fw xs a y < 0
    · rw [if_pos g]
    · rw [if_neg g]
      refine twk_bad l y _ fun hl => h fun z hz => ?_
      have := Classical.not_not.1 (fun e => g (fw_neg.2 e))
      rcases List.mem_cons.1 hz with rfl | hz
      · exact this.2.2
      · exact hl z hz
theorem tw_ok {xs : List Int} {a : Int} {ys : List Int} (h : FV xs) (ha : okF xs a) (hl : OkL xs ys) : tw xs a ys = wsum xs a ys := by
  unfold tw
  rw [if_neg (fun g => fw_self.1 g ⟨h, ha⟩), twk_ok h ys a 0 ha hl]; omega
theorem tw_bad {xs : List Int} {a : Int} {ys : List Int} (h : ¬ (FV xs ∧ okF xs a ∧ OkL xs ys)) : tw xs a ys = -1 := by
  unfold tw
  by_cases g : fw xs a a < 0
  · rw [if_pos g]
  · rw [if_neg g]
    have := Classical.not_not.1 (fun e => g (fw_self.2 e))
    exact twk_bad ys a 0 fun hl => h ⟨this.1, this.2, hl⟩
theorem wsum_ge (xs : List Int) : ∀ (ys : List Int) (a : Int), 0 ≤ wsum xs a ys
  | [], a => Int.le_refl _
  | y :: l, a => by unfold wsum; have := wsum_ge xs l y; have := far_ge (hgt xs a) (hgt xs y); omega
theorem tw_cases (xs : List Int) (a : Int) (ys : List Int) : (tw xs a ys = -1 ∧ ¬ (FV xs ∧ okF xs a ∧ OkL xs ys)) ∨ (0 ≤ tw xs a ys ∧ tw xs a ys = wsum xs a ys ∧ FV xs ∧ okF xs a ∧ OkL xs ys) := by
  by_cases h : FV xs ∧ okF xs a ∧ OkL xs ys
  · rw [tw_ok h.1 h.2.1 h.2.2]; exact .inr ⟨wsum_ge _ _ _, rfl, h⟩
  · exact .inl ⟨tw_bad h, h⟩
/-- The last one of a list, or what was before. -/
def lastOf : Int → List Int → Int
  | a, [] => a
  | _, y :: l => lastOf y l
theorem lastOf_app (a y : Int) (l : List Int) : lastOf a (l ++ [y]) = y := by
  induction l generalizing a with
  | nil => rfl
  | cons x l ih => exact ih x
theorem wsum_app (xs : List Int) : ∀ (l m : List Int) (a : Int), wsum xs a (l ++ m) = wsum xs a l + wsum xs (lastOf a l) m
  | [], m, a => by simp [wsum, lastOf]
  | y :: l, m, a => by
    have := wsum_app xs l m y
    show far (hgt xs a) (hgt xs y) + wsum xs y (l ++ m) = far (hgt xs a) (hgt xs y) + wsum xs y l + wsum xs (lastOf y l) m
    omega
theorem wsum_reach (xs : List Int) : ∀ (l : List Int) (a y : Int), y ∈ l → far (hgt xs a) (hgt xs y) ≤ wsum xs a l
  | [], a, y, h => by cases h
  | x :: t, a, y, h => by
    unfold wsum
    have h0 := wsum_ge xs t x
    rcases List.mem_cons.1 h with rfl | h
    · omega
    · have := wsum_reach xs t x y h
      unfold far at *; omega
theorem wsum_two (xs : List Int) : ∀ (l : List Int) (a y z : Int), y ∈ l → z ∈ l → far (hgt xs a) (hgt xs y) + far (hgt xs y) (hgt xs z) ≤ wsum xs a l ∨ far (hgt xs a) (hgt xs z) + far (hgt xs z) (hgt xs y) ≤ wsum xs a l
  | [], a, y, z, h, _ => by cases h
  | x :: t, a, y, z, hy, hz => by
    unfold wsum
    have h0 := wsum_ge xs t x
    rcases List.mem_cons.1 hy with rfl | hy2
    · rcases List.mem_cons.1 hz with rfl | hz2
      · left; unfold far at *; omega
      · left; have := wsum_reach xs t y z hz2; omega
    · rcases List.mem_cons.1 hz with rfl | hz2
      · right; have := wsum_reach xs t z y hy2; omega
      · have := wsum_two xs t x y z hy2 hz2
        unfold far at *; omega
theorem wsum_up {xs : List Int} (h : FV xs) : ∀ (l : List Int) (a : Int), okF xs a → OkL xs l → (a :: l).Pairwise (· ≤ ·) → wsum xs a l = hgt xs (lastOf a l) - hgt xs a
  | [], a, _, _, _ => by simp [wsum, lastOf]
  | y :: l, a, ha, hl, hp => by
    have hy := hl y (by simp)
    obtain ⟨h1, h2⟩ := List.pairwise_cons.1 hp
    have := hgt_mono h ha hy (h1 y (by simp))
    unfold wsum
    rw [wsum_up h l y hy (fun z hz => hl z (by simp [hz])) h2, show lastOf a (y :: l) = lastOf y l from rfl]
    unfold far; omega
theorem wsum_down {xs : List Int} (h : FV xs) : ∀ (l : List Int) (a : Int), okF xs a → OkL xs l → (a :: l).Pairwise (· ≥ ·) → wsum xs a l = hgt xs a - hgt xs (lastOf a l)
  | [], a, _, _, _ => by simp [wsum, lastOf]
  | y :: l, a, ha, hl, hp => by
    have hy := hl y (by simp)
    obtain ⟨h1, h2⟩ := List.pairwise_cons.1 hp
    have := hgt_mono h hy ha (h1 y (by simp))
    unfold wsum
    rw [wsum_down h l y hy (fun z hz => hl z (by simp [hz])) h2, show lastOf a (y :: l) = lastOf y l from rfl]
    unfold far; omega
/-- A floor of a list that may stand there. -/
def VOk (n : Nat) (ys : List Int) (k : Nat) : Prop := 0 ≤ nth ys k ∧ nth ys k < n ∧ (0 < k → nth ys (k - 1) < nth ys k)
def VO (xs ys : List Int) : Prop := FV xs ∧ ∀ k, k < ys.length → VOk xs.length ys k
noncomputable def voB (xs ys : List Int) : Bool := tr (VO xs ys)
theorem voB_t {xs ys : List Int} (h : VO xs ys) : voB xs ys = true := tr_true h
theorem voB_f {xs ys : List Int} (h : ¬ VO xs ys) : voB xs ys = false := tr_false h
theorem mem_nth {ys : List Int} {y : Int} (h : y ∈ ys) : ∃ k, k < ys.length ∧ nth ys k = y := by
  obtain ⟨k, hk, e⟩ := List.getElem_of_mem h
  exact ⟨k, hk, by simp [nth, List.getD, hk, e]⟩
theorem nth_mem {ys : List Int} {k : Nat} (h : k < ys.length) : nth ys k ∈ ys := by
  have : nth ys k = ys[k] := by simp [nth, List.getD, h]
  rw [this]; exact List.getElem_mem h
theorem VO.ok {xs ys : List Int} (h : VO xs ys) : OkL xs ys := fun y hy => by
  obtain ⟨k, hk, rfl⟩ := mem_nth hy
  exact ⟨(h.2 k hk).1, (h.2 k hk).2.1⟩
theorem VO.asc {xs ys : List Int} (h : VO xs ys) : ∀ j i, i < j → j < ys.length → nth ys i < nth ys j := by
  intro j
  induction j with
  | zero => intro i hi; omega
  | succ j ih =>
    intro i hi hj
    have h1 := (h.2 (j + 1) hj).2.2 (by omega)
    rw [Nat.add_sub_cancel] at h1
    by_cases e : i = j
    · subst e; exact h1
    · have := ih i (by omega) (by omega); omega
theorem VO.sorted {xs ys : List Int} (h : VO xs ys) : ys.Pairwise (· < ·) := by
  rw [List.pairwise_iff_getElem]
  intro i j hi hj hij
  have := h.asc j i hij hj
  simpa [nth, List.getD, hi, hj] using this
theorem vo_cons {xs : List Int} {y : Int} {l : List Int} (h : VO xs (y :: l)) : VO xs l := ⟨h.1, fun k hk => by
  have := h.2 (k + 1) (by simp; omega)
  have e : ∀ i, nth (y :: l) (i + 1) = nth l i := fun i => by simp [nth, List.getD]
  refine ⟨by rw [← e]; exact this.1, by rw [← e]; exact this.2.1, fun h0 => ?_⟩
  have h2 := this.2.2 (by omega)
  rw [e, Nat.add_sub_cancel] at h2
  obtain ⟨j, rfl⟩ : ∃ j, k = j + 1 := ⟨k - 1, by omega⟩
  rw [e] at h2
  exact h2⟩
/-- The floors that are served downward. -/
def pd (a : Int) (f : Bool) (v : Int) : Bool := decide (v < a ∨ (v = a ∧ f = true))
def tdn (a : Int) (f : Bool) (ys : List Int) : List Int := (ys.filter (pd a f)).reverse
def tup (a : Int) (f : Bool) (ys : List Int) : List Int := ys.filter (fun v => !pd a f v)
theorem tdn_t {a v : Int} {f : Bool} {l : List Int} (h : pd a f v = true) : tdn a f (l ++ [v]) = v :: tdn a f l := by simp [tdn, h]
theorem tdn_f {a v : Int} {f : Bool} {l : List Int} (h : pd a f v = false) : tdn a f (l ++ [v]) = tdn a f l := by simp [tdn, h]
theorem tup_t {a v : Int} {f : Bool} {l : List Int} (h : pd a f v = true) : tup a f (l ++ [v]) = tup a f l := by simp [tup, h]
theorem tup_f {a v : Int} {f : Bool} {l : List Int} (h : pd a f v = false) : tup a f (l ++ [v]) = tup a f l ++ [v] := by simp [tup, h]
/-- Whether the tour goes down first. -/
def FD (xs : List Int) (a : Int) (ys : List Int) : Prop := nth ys 0 < a ∧ (nth ys (ys.length - 1) ≤ a ∨ fw xs a (nth ys 0) ≤ fw xs a (nth ys (ys.length - 1)))
noncomputable def fdB (xs : List Int) (a : Int) (ys : List Int) : Bool := tr (FD xs a ys)
def tor (a : Int) (f : Bool) (ys : List Int) : List Int := if f = true then tdn a f ys ++ tup a f ys else tup a f ys ++ tdn a f ys
def STV (xs : List Int) (a : Int) (ys : List Int) : Prop := VO xs ys ∧ okF xs a ∧ ys ≠ []
noncomputable def stv (xs : List Int) (a : Int) (ys : List Int) : List Int := @ite _ (STV xs a ys) (Classical.propDecidable _) (tor a (fdB xs a ys) ys) []
theorem stv_t {xs ys : List Int} {a : Int} (h : STV xs a ys) : stv xs a ys = tor a (fdB xs a ys) ys := by unfold stv; rw [if_pos h]
theorem stv_f {xs ys : List Int} {a : Int} (h : ¬ STV xs a ys) : stv xs a ys = [] := by unfold stv; rw [if_neg h]
theorem filter_perm (p : Int → Bool) : ∀ l : List Int, (l.filter p ++ l.filter (fun x => !p x)).Perm l
  | [] => List.Perm.refl _
  | x :: l => by
    cases h : p x
    · simp only [List.filter_cons, h, Bool.false_eq_true, if_false, Bool.not_false, if_true]
      exact List.perm_middle.trans ((filter_perm p l).cons x)
    · simp only [List.filter_cons, h, if_true, Bool.not_true, Bool.false_eq_true, if_false, List.cons_append]
      exact (filter_perm p l).cons x
theorem tor_perm (a : Int) (f : Bool) (ys : List Int) : (tor a f ys).Perm ys := by
  have h1 : (tdn a f ys ++ tup a f ys).Perm ys := ((List.reverse_perm _).append_right _).trans (filter_perm _ _)
  unfold tor
  split
  · exact h1
  · exact List.perm_append_comm.trans h1
theorem tor_len (a : Int) (f : Bool) (ys : List Int) : (tor a f ys).length = ys.length := (tor_perm a f ys).length_eq
theorem stv_len (xs : List Int) (a : Int) (ys : List Int) : (stv xs a ys).length ≤ ys.length := by
  by_cases h : STV xs a ys
  · rw [stv_t h, tor_len]; exact Nat.le_refl _
  · rw [stv_f h]; simp
theorem tor_mem {a : Int} {f : Bool} {ys : List Int} {y : Int} : y ∈ tor a f ys ↔ y ∈ ys := (tor_perm a f ys).mem_iff
theorem tor_nodup {xs : List Int} {a : Int} {f : Bool} {ys : List Int} (h : VO xs ys) : (tor a f ys).Pairwise (· ≠ ·) :=
  (tor_perm a f ys).symm.pairwise (h.sorted.imp fun h => by omega) (fun h => h.symm)
/-- The shortest way. -/
def lo1 (a : Int) (ys : List Int) : Int := min a (nth ys 0)
def hi1 (a : Int) (ys : List Int) : Int := max a (nth ys (ys.length - 1))
def swf (xs : List Int) (a : Int) (ys : List Int) : Int := (hgt xs (hi1 a ys) - hgt xs (lo1 a ys)) + min (hgt xs a - hgt xs (lo1 a ys)) (hgt xs (hi1 a ys) - hgt xs a)
def sw (xs : List Int) (a : Int) (ys : List Int) : Int := if ys = [] then 0 else swf xs a ys
theorem okF_min {xs : List Int} {a b : Int} (ha : okF xs a) (hb : okF xs b) : okF xs (min a b) := by unfold okF at *; omega
theorem okF_max {xs : List Int} {a b : Int} (ha : okF xs a) (hb : okF xs b) : okF xs (max a b) := by unfold okF at *; omega
theorem hgt_min {xs : List Int} (h : FV xs) {a b : Int} (ha : okF xs a) (hb : okF xs b) : hgt xs (min a b) = min (hgt xs a) (hgt xs b) := by
  by_cases e : a ≤ b
  · have := hgt_mono h ha hb e
    rw [Int.min_eq_left e, Int.min_eq_left this]
  · have := hgt_mono h hb ha (by omega)
    rw [Int.min_eq_right (by omega), Int.min_eq_right this]
theorem hgt_max {xs : List Int} (h : FV xs) {a b : Int} (ha : okF xs a) (hb : okF xs b) : hgt xs (max a b) = max (hgt xs a) (hgt xs b) := by
  by_cases e : a ≤ b
  · have := hgt_mono h ha hb e
    rw [Int.max_eq_right e, Int.max_eq_right this]
  · have := hgt_mono h hb ha (by omega)
    rw [Int.max_eq_left (by omega), Int.max_eq_left this]
theorem sw_least {xs : List Int} {a : Int} {ys l : List Int} (h : VO xs ys) (ha : okF xs a) (hs : ∀ y, y ∈ ys → y ∈ l) : sw xs a ys ≤ wsum xs a l := by
  unfold sw
  split
  · exact wsum_ge _ _ _
  · rename_i hne
    have hlen : 0 < ys.length := List.length_pos_iff.2 hne
    have m0 := nth_mem hlen
    have m1 := nth_mem (ys := ys) (k := ys.length - 1) (by omega)
    have o0 := h.ok _ m0
    have o1 := h.ok _ m1
    have hle : nth ys 0 ≤ nth ys (ys.length - 1) := by
      by_cases e : ys.length - 1 = 0
      · rw [e]; exact Int.le_refl _
      · have := h.asc (ys.length - 1) 0 (by omega) (by omega); omega
    have hm := hgt_mono h.1 o0 o1 hle
    have := wsum_two xs l a _ _ (hs _ m0) (hs _ m1)
    unfold swf lo1 hi1
    rw [hgt_min h.1 ha o0, hgt_max h.1 ha o1]
    unfold far at this
    omega
theorem tor_way {xs : List Int} {a : Int} {ys : List Int} (h : VO xs ys) (ha : okF xs a) (hne : ys ≠ []) : wsum xs a (tor a (fdB xs a ys) ys) = swf xs a ys := by
  have hlen : 0 < ys.length := List.length_pos_iff.2 hne
  have m0 := nth_mem hlen
  have m1 := nth_mem (ys := ys) (k := ys.length - 1) (by omega)
  have o0 := h.ok _ m0
  have o1 := h.ok _ m1
  obtain ⟨low, hlow⟩ : ∃ v, nth ys 0 = v := ⟨_, rfl⟩
  obtain ⟨high, hhigh⟩ : ∃ v, nth ys (ys.length - 1) = v := ⟨_, rfl⟩
  have hall : ∀ y, y ∈ ys → low ≤ y ∧ y ≤ high := fun y hy => by
    obtain ⟨k, hk, rfl⟩ := mem_nth hy
    constructor
    · by_cases e : k = 0
      · subst e; omega
      · have := h.asc k 0 (by omega) hk; omega
    · by_cases e : k = ys.length - 1
      · subst e; omega
      · have := h.asc (ys.length - 1) k (by omega) (by omega); omega
  have hsort := h.sorted
  have hf : fdB xs a ys = tr (low < a ∧ (high ≤ a ∨ fw xs a low ≤ fw xs a high)) := by unfold fdB FD; rw [hlow, hhigh]
  rw [hlow] at m0 o0
  rw [hhigh] at m1 o1
  rw [fw_hg h.1 ha o0, fw_hg h.1 ha o1] at hf
  obtain ⟨f, hfe⟩ : ∃ f, fdB xs a ys = f := ⟨_, rfl⟩
  rw [hfe] at hf
  rw [hfe]
  unfold swf lo1 hi1
  rw [hlow, hhigh, hgt_min h.1 ha o0, hgt_max h.1 ha o1]
  have mL : low ≤ a → hgt xs low ≤ hgt xs a := hgt_mono h.1 o0 ha
  have mL2 : a ≤ low → hgt xs a ≤ hgt xs low := hgt_mono h.1 ha o0
  have mH : high ≤ a → hgt xs high ≤ hgt xs a := hgt_mono h.1 o1 ha
  have mH2 : a ≤ high → hgt xs a ≤ hgt xs high := hgt_mono h.1 ha o1
  have mLH := hgt_mono h.1 o0 o1 (hall low m0).2
  -- the parts
  have okd : OkL xs (tdn a f ys) := fun y hy => h.ok y (by unfold tdn at hy; rw [List.mem_reverse, List.mem_filter] at hy; exact hy.1)
  have oku : OkL xs (tup a f ys) := fun y hy => h.ok y (by unfold tup at hy; rw [List.mem_filter] at hy; exact hy.1)
  have hd : ∀ y, y ∈ tdn a f ys ↔ y ∈ ys ∧ pd a f y = true := fun y => by unfold tdn; rw [List.mem_reverse, List.mem_filter]
  have hu : ∀ y, y ∈ tup a f ys ↔ y ∈ ys ∧ pd a f y = false := fun y => by unfold tup; rw [List.mem_filter]; simp
  have sd : (tdn a f ys).Pairwise (· ≥ ·) := by
    unfold tdn
    rw [List.pairwise_reverse]
    exact (hsort.filter _).imp fun h => by omega
  have su : (tup a f ys).Pairwise (· ≤ ·) := (hsort.filter _).imp fun h => by omega
  have ldn : ∀ c, low ∈ tdn a f ys → lastOf c (tdn a f ys) = low := by
    intro c hm
    obtain ⟨l, z, e⟩ : ∃ l z, tdn a f ys = l ++ [z] := by
      rcases List.eq_nil_or_concat (tdn a f ys) with e | ⟨l, z, e⟩
      · rw [e] at hm; cases hm
      · exact ⟨l, z, by simpa using e⟩
    rw [e, lastOf_app]
    rw [e] at sd hm
    have hz : z ∈ ys := ((hd z).1 (by rw [e]; simp)).1
    have h1 := (hall z hz).1
    rcases List.mem_append.1 hm with g | g
    · have := (List.pairwise_append.1 sd).2.2 low g z (by simp); omega
    · exact (List.mem_singleton.1 g).symm
  have lup : ∀ c, high ∈ tup a f ys → lastOf c (tup a f ys) = high := by
    intro c hm
    obtain ⟨l, z, e⟩ : ∃ l z, tup a f ys = l ++ [z] := by
      rcases List.eq_nil_or_concat (tup a f ys) with e | ⟨l, z, e⟩
      · rw [e] at hm; cases hm
      · exact ⟨l, z, by simpa using e⟩
    rw [e, lastOf_app]
    rw [e] at su hm
    have hz : z ∈ ys := ((hu z).1 (by rw [e]; simp)).1
    have h1 := (hall z hz).2
    rcases List.mem_append.1 hm with g | g
    · have := (List.pairwise_append.1 su).2.2 high g z (by simp); omega
    · exact (List.mem_singleton.1 g).symm
  have nilu : ¬ high ∈ tup a f ys → tup a f ys = [] := by
    intro hn
    apply List.eq_nil_iff_forall_not_mem.2
    intro y hy
    have h1 := (hu y).1 hy
    have h2 := hall y h1.1
    apply hn
    rw [hu]
    refine ⟨m1, ?_⟩
    have h3 := h1.2
    unfold pd at h3 ⊢
    simp only [decide_eq_false_iff_not] at h3 ⊢
    intro g
    apply h3
    rcases g with g | ⟨g, g2⟩
    · left; omega
    · by_cases e : y = a
      · exact .inr ⟨e, g2⟩
      · left; omega
  have nild : ¬ low ∈ tdn a f ys → tdn a f ys = [] := by
    intro hn
    apply List.eq_nil_iff_forall_not_mem.2
    intro y hy
    have h1 := (hd y).1 hy
    have h2 := hall y h1.1
    apply hn
    rw [hd]
    refine ⟨m0, ?_⟩
    have h3 := h1.2
    unfold pd at h3 ⊢
    simp only [decide_eq_true_eq] at h3 ⊢
    rcases h3 with h3 | ⟨h3, h4⟩
    · left; omega
    · by_cases e : low = y
      · right; exact ⟨by omega, h4⟩
      · left; omega
  unfold tor
  cases f
  · -- tup first
    simp only [Bool.false_eq_true, if_false]
    have hF : ¬ (low < a ∧ (high ≤ a ∨ far (hgt xs a) (hgt xs low) ≤ far (hgt xs a) (hgt xs high))) := fun g => by rw [tr_true g] at hf; cases hf
    have hah : a ≤ high := by
      have := (hall low m0).2
      by_cases g : low < a
      · by_cases g2 : high ≤ a
        · exact absurd ⟨g, .inl g2⟩ hF
        · omega
      · omega
    have hmu : high ∈ tup a false ys := (hu high).2 ⟨m1, by unfold pd; simp; omega⟩
    have su2 : (a :: tup a false ys).Pairwise (· ≤ ·) := List.pairwise_cons.2 ⟨fun y hy => by
      have := ((hu y).1 hy).2
      unfold pd at this
      simp at this
      omega, su⟩
    rw [wsum_app, wsum_up h.1 _ a ha oku su2, lup a hmu]
    have h1 := mH2 hah
    by_cases g : low < a
    · have hmd : low ∈ tdn a false ys := (hd low).2 ⟨m0, by unfold pd; simp; omega⟩
      have sd2 : (high :: tdn a false ys).Pairwise (· ≥ ·) := List.pairwise_cons.2 ⟨fun y hy => (hall y ((hd y).1 hy).1).2, sd⟩
      rw [wsum_down h.1 _ high o1 okd sd2, ldn high hmd]
      have h2 := mL (by omega)
      have h3 : ¬ far (hgt xs a) (hgt xs low) ≤ far (hgt xs a) (hgt xs high) := fun e => hF ⟨g, .inr e⟩
      unfold far at h3
      omega
    · rw [nild (fun e => by have := ((hd low).1 e).2; unfold pd at this; simp at this; omega)]
      have h2 := mL2 (by omega)
      simp only [wsum]
      omega
  · simp only [if_true]
    have hF : low < a ∧ (high ≤ a ∨ far (hgt xs a) (hgt xs low) ≤ far (hgt xs a) (hgt xs high)) := Classical.not_not.1 (fun g => by rw [tr_false g] at hf; cases hf)
    have hmd : low ∈ tdn a true ys := (hd low).2 ⟨m0, by unfold pd; simp; omega⟩
    have sd2 : (a :: tdn a true ys).Pairwise (· ≥ ·) := List.pairwise_cons.2 ⟨fun y hy => by
      have := ((hd y).1 hy).2
      unfold pd at this
      simp at this
      omega, sd⟩
    rw [wsum_app, wsum_down h.1 _ a ha okd sd2, ldn a hmd]
    have h2 := mL (by omega)
    by_cases g : a < high
    · have hmu : high ∈ tup a true ys := (hu high).2 ⟨m1, by unfold pd; simp; omega⟩
      have su2 : (low :: tup a true ys).Pairwise (· ≤ ·) := List.pairwise_cons.2 ⟨fun y hy => (hall y ((hu y).1 hy).1).1, su⟩
      rw [wsum_up h.1 _ low o0 oku su2, lup low hmu]
      have h1 := mH2 (by omega)
      rcases hF.2 with h3 | h3
      · omega
      · unfold far at h3; omega
    · rw [nilu (fun e => by have := ((hu high).1 e).2; unfold pd at this; simp at this; omega)]
      have h1 := mH (by omega)
      simp only [wsum]
      omega
noncomputable def swv (xs : List Int) (a : Int) (ys : List Int) : Int := @ite _ (VO xs ys) (Classical.propDecidable _) (tw xs a (stv xs a ys)) (-1)
theorem stv_ok {xs ys : List Int} {a : Int} (h : VO xs ys) : OkL xs (stv xs a ys) := by
  by_cases g : STV xs a ys
  · rw [stv_t g]; exact fun y hy => h.ok y (tor_mem.1 hy)
  · rw [stv_f g]; exact fun y hy => by cases hy
theorem swv_ok {xs ys : List Int} {a : Int} (h : VO xs ys) (ha : okF xs a) : swv xs a ys = sw xs a ys ∧ swv xs a ys = wsum xs a (stv xs a ys) := by
  have e : swv xs a ys = wsum xs a (stv xs a ys) := by unfold swv; rw [if_pos h, tw_ok h.1 ha (stv_ok h)]
  refine ⟨?_, e⟩
  rw [e]
  unfold sw
  split
  · rename_i g
    rw [stv_f (fun k => k.2.2 g)]; rfl
  · rename_i g
    rw [stv_t ⟨h, ha, g⟩, tor_way h ha g]
theorem swv_bad {xs ys : List Int} {a : Int} (h : ¬ (VO xs ys ∧ okF xs a)) : swv xs a ys = -1 := by
  unfold swv
  split
  · rename_i g
    exact tw_bad fun k => h ⟨g, k.2.1⟩
  · rfl
theorem wsum_top {xs : List Int} (h : FV xs) : ∀ (ys : List Int) (a : Int), okF xs a → OkL xs ys → wsum xs a ys ≤ 60 * ys.length
  | [], a, _, _ => by simp [wsum]
  | y :: l, a, ha, hl => by
    have hy := hl y (by simp)
    unfold wsum
    have := wsum_top h l y hy (fun z hz => hl z (by simp [hz]))
    have h1 := hgt_bd h ha
    have h2 := hgt_bd h hy
    simp only [List.length_cons]
    unfold far; omega
end Go.Proofs.Yteeokegkbhpbcaa
