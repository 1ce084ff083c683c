/- The mathematics of groups: what each car visits, the longest way, the sum of ways, the best list. -/
import Derived.Test.Yteeokegkbhpbcaa10P
namespace Go.Proofs.Yteeokegkbhpbcaa
open Go.RowKit
set_option linter.unusedVariables false
set_option linter.unusedSimpArgs false
set_option maxRecDepth 100000

theorem tr_t {p : Prop} : tr p = true ↔ p := by
  constructor
  · intro g
    by_cases h : p
    · exact h
    · rw [tr_false h] at g; cases g
  · exact tr_true
/-- Numbers are floors, at most so many. -/
def FlOk (xs ys : List Int) (m : Int) : Prop := OkL xs ys ∧ (ys.length : Int) ≤ m
noncomputable def floB (xs ys : List Int) (m : Int) : Bool := tr (FlOk xs ys m)
theorem okl_nth {xs ys : List Int} : OkL xs ys ↔ ∀ k, k < ys.length → okF xs (nth ys k) :=
  ⟨fun h k hk => h _ (nth_mem hk), fun h y hy => by obtain ⟨k, hk, rfl⟩ := mem_nth hy; exact h k hk⟩
theorem nthm {ys : List Int} {k : Nat} (h : k < ys.length) : nth ys k ∈ ys := nth_mem h
/-- A group. -/
def GOk (xs cs ks : List Int) : Prop := FV xs ∧ 0 < cs.length ∧ FlOk xs cs 4 ∧ FlOk xs ks 5
noncomputable def gokB (xs cs ks : List Int) : Bool := tr (GOk xs cs ks)
theorem gok_none {xs cs ks : List Int} (h : GOk xs cs ks) : GOk xs cs [] := ⟨h.1, h.2.1, h.2.2.1, (fun y hy => by cases hy), by simp⟩
theorem gok_cars {xs ks : List Int} : ¬ GOk xs [] ks := fun h => by have := h.2.1; simp at this
/-- A list tells a car for each call. -/
def GvOk (n m : Nat) (gs : List Int) : Prop := (∀ k, k < gs.length → 0 ≤ nth gs k ∧ nth gs k < n) ∧ gs.length = m
noncomputable def gvB (n m : Nat) (gs : List Int) : Bool := tr (GvOk n m gs)
theorem gv_snoc {n m : Nat} {gs : List Int} {c : Int} (h : GvOk n m gs) (h0 : 0 ≤ c) (h1 : c < n) : GvOk n (m + 1) (gs ++ [c]) := by
  refine ⟨fun k hk => ?_, by simp [h.2]⟩
  by_cases g : k < gs.length
  · rw [show nth (gs ++ [c]) k = nth gs k from by simp [nth, List.getD, List.getElem?_append_left g]]; exact h.1 k g
  · obtain rfl : k = gs.length := by simp at hk; omega
    rw [show nth (gs ++ [c]) gs.length = c from by simp [nth, List.getD]]; exact ⟨h0, h1⟩
/-- The longest way to the first k calls. -/
noncomputable def lng (xs cs ks gs : List Int) : Nat → Int
  | 0 => 0
  | k + 1 => max (lng xs cs ks gs k) (fw xs (nth cs (nth gs k).toNat) (nth ks k))
theorem lng_ge (xs cs ks gs : List Int) : ∀ k, 0 ≤ lng xs cs ks gs k
  | 0 => Int.le_refl _
  | k + 1 => by have := lng_ge xs cs ks gs k; unfold lng; omega
theorem lng_bd (xs cs ks gs : List Int) : ∀ k, lng xs cs ks gs k ≤ 60
  | 0 => by unfold lng; omega
  | k + 1 => by have := lng_bd xs cs ks gs k; have := (fw_bd xs (nth cs (nth gs k).toNat) (nth ks k)).2; unfold lng; omega
theorem lng_all {xs cs ks gs : List Int} : ∀ {n : Nat} {k : Nat}, k < n → fw xs (nth cs (nth gs k).toNat) (nth ks k) ≤ lng xs cs ks gs n
  | 0, k, h => by omega
  | n + 1, k, h => by
    unfold lng
    by_cases e : k = n
    · subst e; omega
    · have := lng_all (xs := xs) (cs := cs) (ks := ks) (gs := gs) (n := n) (k := k) (by omega); omega
theorem lng_some {xs cs ks gs : List Int} : ∀ {n : Nat}, lng xs cs ks gs n = 0 ∨ ∃ k, k < n ∧ fw xs (nth cs (nth gs k).toNat) (nth ks k) = lng xs cs ks gs n
  | 0 => .inl rfl
  | n + 1 => by
    unfold lng
    rcases Int.le_total (lng xs cs ks gs n) (fw xs (nth cs (nth gs n).toNat) (nth ks n)) with h | h
    · exact .inr ⟨n, by omega, by omega⟩
    · rw [Int.max_eq_left h]
      rcases lng_some (xs := xs) (cs := cs) (ks := ks) (gs := gs) (n := n) with e | ⟨k, hk, e⟩
      · exact .inl e
      · exact .inr ⟨k, by omega, e⟩
theorem lng_le {xs cs ks gs : List Int} {m : Int} (h0 : 0 ≤ m) : ∀ {n : Nat}, (∀ k, k < n → fw xs (nth cs (nth gs k).toNat) (nth ks k) ≤ m) → lng xs cs ks gs n ≤ m
  | 0, _ => h0
  | n + 1, h => by
    have := lng_le (xs := xs) (cs := cs) (ks := ks) (gs := gs) h0 (n := n) (fun k hk => h k (by omega))
    have := h n (by omega)
    unfold lng; omega
/-- Whether one of the first k calls is given to car c and at floor f. -/
def hereU (ks gs : List Int) (c f : Int) : Nat → Bool
  | 0 => false
  | k + 1 => hereU ks gs c f k || (decide (nth gs k = c) && decide (nth ks k = f))
theorem here_iff {ks gs : List Int} {c f : Int} : ∀ {n : Nat}, hereU ks gs c f n = true ↔ ∃ k, k < n ∧ nth gs k = c ∧ nth ks k = f
  | 0 => by simp [hereU]
  | n + 1 => by
    unfold hereU
    rw [Bool.or_eq_true, here_iff, Bool.and_eq_true, decide_eq_true_iff, decide_eq_true_iff]
    constructor
    · rintro (⟨k, hk, e⟩ | e)
      · exact ⟨k, by omega, e⟩
      · exact ⟨n, by omega, e⟩
    · rintro ⟨k, hk, e⟩
      by_cases g : k = n
      · subst g; exact .inr e
      · exact .inl ⟨k, by omega, e⟩
/-- The floors below f that car c visits. -/
def visU (ks gs : List Int) (c : Int) : Nat → List Int
  | 0 => []
  | f + 1 => if hereU ks gs c f ks.length = true then visU ks gs c f ++ [(f : Int)] else visU ks gs c f
theorem vis_mem {ks gs : List Int} {c : Int} {y : Int} : ∀ {n : Nat}, y ∈ visU ks gs c n ↔ (0 ≤ y ∧ y < n) ∧ ∃ k, k < ks.length ∧ nth gs k = c ∧ nth ks k = y
  | 0 => by simp [visU]; omega
  | n + 1 => by
    unfold visU
    split
    · rename_i h
      rw [List.mem_append, vis_mem, List.mem_singleton]
      constructor
      · rintro (⟨⟨h0, h1⟩, e⟩ | rfl)
        · exact ⟨⟨h0, by omega⟩, e⟩
        · exact ⟨⟨by omega, by omega⟩, here_iff.1 h⟩
      · rintro ⟨⟨h0, h1⟩, e⟩
        by_cases g : y = n
        · exact .inr g
        · exact .inl ⟨⟨h0, by omega⟩, e⟩
    · rename_i h
      rw [vis_mem]
      constructor
      · rintro ⟨⟨h0, h1⟩, e⟩; exact ⟨⟨h0, by omega⟩, e⟩
      · rintro ⟨⟨h0, h1⟩, e⟩
        by_cases g : y = n
        · subst g; exact absurd (here_iff.2 e) h
        · exact ⟨⟨h0, by omega⟩, e⟩
theorem vis_asc {ks gs : List Int} {c : Int} : ∀ n : Nat, (visU ks gs c n).Pairwise (· < ·)
  | 0 => List.Pairwise.nil
  | n + 1 => by
    unfold visU
    split
    · rw [List.pairwise_append]
      refine ⟨vis_asc n, List.pairwise_singleton _ _, fun a ha b hb => ?_⟩
      rw [List.mem_singleton] at hb
      have := (vis_mem.1 ha).1
      omega
    · exact vis_asc n
theorem vis_len {ks gs : List Int} {c : Int} : ∀ n : Nat, (visU ks gs c n).length ≤ n
  | 0 => Nat.le_refl _
  | n + 1 => by
    have := vis_len (ks := ks) (gs := gs) (c := c) n
    unfold visU
    split
    · simp; omega
    · omega
theorem vo_of {xs ys : List Int} (h : FV xs) (ho : OkL xs ys) (hp : ys.Pairwise (· < ·)) : VO xs ys := by
  refine ⟨h, fun k hk => ⟨(ho _ (nth_mem hk)).1, (ho _ (nth_mem hk)).2, fun h0 => ?_⟩⟩
  have h1 : k - 1 < ys.length := by omega
  have := List.pairwise_iff_getElem.1 hp (k - 1) k h1 hk (by omega)
  simpa [nth, List.getD, hk, h1] using this
/-- What car c visits. -/
def vis (xs ks gs : List Int) (c : Int) : List Int := visU ks gs c xs.length
theorem vis_vo {xs ks gs : List Int} {c : Int} (h : FV xs) : VO xs (vis xs ks gs c) := vo_of h (fun y hy => (vis_mem.1 hy).1) (vis_asc _)
/-- The sum of the ways of the first c cars. -/
noncomputable def gsU (xs cs ks gs : List Int) : Nat → Int
  | 0 => 0
  | c + 1 => gsU xs cs ks gs c + swv xs (nth cs c) (vis xs ks gs c)
noncomputable def gsum (xs cs ks gs : List Int) : Int := gsU xs cs ks gs cs.length
theorem swv_ge {xs : List Int} (h : FV xs) {a : Int} {ys : List Int} (hv : VO xs ys) (ha : okF xs a) : 0 ≤ swv xs a ys := by
  rw [(swv_ok hv ha).2]; exact wsum_ge _ _ _
theorem stv_len8 {xs ys : List Int} {a : Int} (hv : VO xs ys) (hl : ys.length ≤ 8) : (stv xs a ys).length ≤ 8 := Nat.le_trans (stv_len _ _ _) hl
theorem swv_le {xs : List Int} (h : FV xs) {a : Int} {ys : List Int} (hv : VO xs ys) (ha : okF xs a) (hl : ys.length ≤ 8) : swv xs a ys ≤ 480 := by
  rw [(swv_ok hv ha).2]
  have := wsum_top h (stv xs a ys) a ha (stv_ok hv)
  have := stv_len8 (a := a) hv hl
  omega
theorem gsU_bd {xs cs ks gs : List Int} (h : FV xs) (hc : OkL xs cs) : ∀ n : Nat, n ≤ cs.length → 0 ≤ gsU xs cs ks gs n ∧ gsU xs cs ks gs n ≤ 480 * n
  | 0, _ => ⟨Int.le_refl _, by unfold gsU; omega⟩
  | n + 1, hn => by
    have := gsU_bd (ks := ks) (gs := gs) h hc n (by omega)
    have ha := hc _ (nth_mem (show n < cs.length from by omega))
    have h1 := swv_ge h (vis_vo (ks := ks) (gs := gs) (c := (n : Int)) h) ha
    have h2 := swv_le h (vis_vo (ks := ks) (gs := gs) (c := (n : Int)) h) ha (Nat.le_trans (vis_len _) h.2.1)
    unfold gsU; omega
theorem gsU_part {xs cs ks gs : List Int} (h : FV xs) (hc : OkL xs cs) : ∀ n : Nat, n ≤ cs.length → ∀ c : Nat, c < n → swv xs (nth cs c) (vis xs ks gs c) ≤ gsU xs cs ks gs n
  | 0, _, c, hh => by omega
  | n + 1, hn, c, hh => by
    have h0 := gsU_bd (ks := ks) (gs := gs) h hc n (by omega)
    have ha := hc _ (nth_mem (show n < cs.length from by omega))
    have h1 := swv_ge h (vis_vo (ks := ks) (gs := gs) (c := (n : Int)) h) ha
    unfold gsU
    by_cases e : c = n
    · subst e; omega
    · have := gsU_part (ks := ks) (gs := gs) h hc n (by omega) c (by omega); omega
/-- The sum is at least as long as the longest way. -/
theorem lng_gsum {xs cs ks gs : List Int} (h : FV xs) (hc : OkL xs cs) (hk : OkL xs ks) (hg : GvOk cs.length ks.length gs) : lng xs cs ks gs ks.length ≤ gsum xs cs ks gs := by
  have h0 := (gsU_bd (ks := ks) (gs := gs) h hc cs.length (Nat.le_refl _)).1
  refine lng_le h0 fun k hkk => ?_
  have g := hg.1 k (by rw [hg.2]; exact hkk)
  have hcl : (nth gs k).toNat < cs.length := by omega
  have ha := hc _ (nth_mem hcl)
  have hf := hk _ (nth_mem hkk)
  refine Int.le_trans ?_ (gsU_part (ks := ks) (gs := gs) h hc cs.length (Nat.le_refl _) (nth gs k).toNat hcl)
  have hv := vis_vo (xs := xs) (ks := ks) (gs := gs) (c := ((nth gs k).toNat : Int)) h
  rw [(swv_ok hv ha).2, fw_hg h ha hf]
  refine wsum_reach xs _ _ _ ?_
  have hm : nth ks k ∈ vis xs ks gs ((nth gs k).toNat : Int) := vis_mem.2 ⟨hf, k, hkk, by omega, rfl⟩
  rw [stv_t ⟨hv, ha, fun e => by rw [e] at hm; cases hm⟩]
  exact tor_mem.2 hm
/-- A car that gets no calls goes no way. -/
theorem gsU_more {xs cs ks gs : List Int} (a : Int) : ∀ n : Nat, n ≤ cs.length → gsU xs (cs ++ [a]) ks gs n = gsU xs cs ks gs n
  | 0, _ => rfl
  | n + 1, hn => by
    unfold gsU
    rw [gsU_more a n (by omega), show nth (cs ++ [a]) n = nth cs n from by simp [nth, List.getD, List.getElem?_append_left (show n < cs.length from by omega)]]
theorem swv_nil {xs : List Int} {a : Int} (h : FV xs) (ha : okF xs a) : swv xs a [] = 0 := by
  rw [(swv_ok ⟨h, fun k hk => by simp at hk⟩ ha).1]; simp [sw]
theorem gsum_more {xs cs ks gs : List Int} {a : Int} (h : FV xs) (ha : okF xs a) (hg : GvOk cs.length ks.length gs) : gsum xs (cs ++ [a]) ks gs = gsum xs cs ks gs := by
  unfold gsum
  rw [List.length_append, List.length_singleton]
  show gsU xs (cs ++ [a]) ks gs cs.length + swv xs (nth (cs ++ [a]) cs.length) (vis xs ks gs cs.length) = _
  rw [gsU_more a cs.length (Nat.le_refl _), show nth (cs ++ [a]) cs.length = a from by simp [nth, List.getD]]
  have e : vis xs ks gs (cs.length : Int) = [] := by
    rw [List.eq_nil_iff_forall_not_mem]
    intro y hy
    obtain ⟨_, k, hk, e, _⟩ := vis_mem.1 hy
    have := (hg.1 k (by rw [hg.2]; exact hk)).2
    omega
  rw [e, swv_nil h ha, Int.add_zero]
theorem gok_more {xs cs ks : List Int} (h : GOk xs cs ks) (hl : cs.length < 4) : GOk xs (cs ++ [0]) ks := by
  refine ⟨h.1, by simp, ⟨fun y hy => ?_, by simp; omega⟩, h.2.2.2⟩
  rcases List.mem_append.1 hy with g | g
  · exact h.2.2.1.1 y g
  · rw [List.mem_singleton] at g; subst g
    have := h.1.1
    exact ⟨Int.le_refl _, by omega⟩
/-- The best list: the first one, in the order of lists, with the least sum. -/
noncomputable def lb (f : List Int → Int) (n : Nat) : Nat → List Int → List Int
  | 0, gs => gs
  | j + 1, gs => (List.range n).foldl (fun b (c : Nat) => let x := lb f n j (gs ++ [(c : Int)]); if b = [] ∨ f x < f b then x else b) []
noncomputable def lbU (f : List Int → Int) (n j : Nat) (gs : List Int) : Nat → List Int
  | 0 => []
  | c + 1 => if lbU f n j gs c = [] ∨ f (lb f n j (gs ++ [(c : Int)])) < f (lbU f n j gs c) then lb f n j (gs ++ [(c : Int)]) else lbU f n j gs c
theorem lb_succ (f : List Int → Int) (n j : Nat) (gs : List Int) : lb f n (j + 1) gs = lbU f n j gs n := by
  have key : ∀ m, (List.range m).foldl (fun b (c : Nat) => let x := lb f n j (gs ++ [(c : Int)]); if b = [] ∨ f x < f b then x else b) [] = lbU f n j gs m := by
    intro m
    induction m with
    | zero => rfl
    | succ m ih => rw [List.range_succ, List.foldl_append, ih]; rfl
  exact key n
/-- What the best list is. -/
structure Best (f : List Int → Int) (n j : Nat) (gs b : List Int) : Prop where
  ext : ∃ t, b = gs ++ t ∧ GvOk n j t
  least : ∀ t, GvOk n j t → f b ≤ f (gs ++ t)
theorem gv_nil {n : Nat} {t : List Int} : GvOk n 0 t ↔ t = [] := by
  constructor
  · intro h; exact List.length_eq_zero_iff.1 h.2
  · rintro rfl; exact ⟨fun k hk => by simp at hk, rfl⟩
theorem gv_cons {n j : Nat} {c : Int} {t : List Int} : GvOk n (j + 1) (c :: t) ↔ (0 ≤ c ∧ c < n) ∧ GvOk n j t := by
  constructor
  · intro h
    refine ⟨h.1 0 (by simp), fun k hk => ?_, by have := h.2; simpa using this⟩
    have := h.1 (k + 1) (by simp; omega)
    simpa [nth, List.getD] using this
  · rintro ⟨h0, h⟩
    refine ⟨fun k hk => ?_, by simp [h.2]⟩
    cases k with
    | zero => exact h0
    | succ k => have := h.1 k (by simp at hk; omega); simpa [nth, List.getD] using this
theorem lb_best (f : List Int → Int) (n : Nat) (hn : 0 < n) : ∀ (j : Nat) (gs : List Int), Best f n j gs (lb f n j gs)
  | 0, gs => by
    refine ⟨⟨[], by simp [lb], gv_nil.2 rfl⟩, fun t ht => ?_⟩
    obtain rfl := gv_nil.1 ht
    simp [lb]
  | j + 1, gs => by
    rw [lb_succ]
    have key : ∀ m, 0 < m → m ≤ n → (∃ t, lbU f n j gs m = gs ++ t ∧ GvOk n (j + 1) t) ∧ ∀ c : Nat, c < m → ∀ t, GvOk n j t → f (lbU f n j gs m) ≤ f (gs ++ ((c : Int) :: t)) := by
      intro m
      induction m with
      | zero => intro h; omega
      | succ m ih =>
        intro _ hm
        have hb := lb_best f n hn j (gs ++ [(m : Int)])
        obtain ⟨t, et, ht⟩ := hb.ext
        have hx : ∃ t, lb f n j (gs ++ [(m : Int)]) = gs ++ t ∧ GvOk n (j + 1) t := ⟨(m : Int) :: t, by rw [et]; simp, gv_cons.2 ⟨⟨by omega, by omega⟩, ht⟩⟩
        have hl : ∀ t, GvOk n j t → f (lb f n j (gs ++ [(m : Int)])) ≤ f (gs ++ ((m : Int) :: t)) := fun t ht => by have := hb.least t ht; rwa [List.append_assoc] at this
        unfold lbU
        by_cases h0 : m = 0
        · subst h0
          rw [if_pos (.inl rfl)]
          refine ⟨hx, fun c hc t ht => ?_⟩
          obtain rfl : c = 0 := by omega
          exact hl t ht
        · obtain ⟨⟨t', e', ht'⟩, hle⟩ := ih (by omega) (by omega)
          have hne : lbU f n j gs m ≠ [] := by
            rw [e']; intro e
            have := congrArg List.length e
            simp [ht'.2] at this
          split
          · rename_i h
            have h := h.resolve_left hne
            refine ⟨hx, fun c hc t ht => ?_⟩
            by_cases e : c = m
            · subst e; exact hl t ht
            · have := hle c (by omega) t ht; omega
          · rename_i h
            refine ⟨⟨t', e', ht'⟩, fun c hc t ht => ?_⟩
            by_cases e : c = m
            · subst e; have := hl t ht; have := fun g => h (.inr g); omega
            · exact hle c (by omega) t ht
    obtain ⟨he, hle⟩ := key n hn (Nat.le_refl _)
    refine ⟨he, fun t ht => ?_⟩
    cases t with
    | nil => have := ht.2; simp at this
    | cons c t =>
      obtain ⟨⟨h0, h1⟩, ht⟩ := gv_cons.1 ht
      have := hle c.toNat (by omega) t ht
      rwa [show ((c.toNat : Nat) : Int) = c from by omega] at this
/-- All ways to go on, in the order of lists. -/
def alw (n : Nat) : Nat → List (List Int)
  | 0 => [[]]
  | j + 1 => (List.range n).flatMap fun (c : Nat) => (alw n j).map fun t => (c : Int) :: t
/-- The first one with the least number. -/
def fmin (f : List Int → Int) : List Int → List (List Int) → List Int
  | b, [] => b
  | b, x :: l => fmin f (if f x < f b then x else b) l
theorem fmin_app (f : List Int → Int) : ∀ (l m : List (List Int)) (b : List Int), fmin f b (l ++ m) = fmin f (fmin f b l) m
  | [], m, b => rfl
  | x :: l, m, b => fmin_app f l m _
theorem fmin_le (f : List Int → Int) : ∀ (l : List (List Int)) (b : List Int), f (fmin f b l) ≤ f b
  | [], b => Int.le_refl _
  | x :: l, b => by
    have := fmin_le f l (if f x < f b then x else b)
    unfold fmin
    split at this <;> rename_i h
    · rw [if_pos h]; omega
    · rw [if_neg h]; exact this
/-- The first of the least of a list that comes behind b. -/
theorem fmin_head (f : List Int → Int) : ∀ (l : List (List Int)) (b x : List Int), fmin f b (x :: l) = if f (fmin f x l) < f b then fmin f x l else b
  | [], b, x => by unfold fmin; unfold fmin; rfl
  | y :: l, b, x => by
    rw [fmin]
    by_cases h : f x < f b
    · rw [if_pos h]
      have := fmin_le f (y :: l) x
      rw [if_pos (by omega)]
    · rw [if_neg h, fmin_head f l b y, fmin_head f l x y]
      by_cases g : f (fmin f y l) < f b
      · rw [if_pos g, if_pos (show f (fmin f y l) < f x from by omega), if_pos g]
      · rw [if_neg g]
        split <;> rfl
def fm (f : List Int → Int) : List (List Int) → List Int
  | [] => []
  | x :: l => fmin f x l
theorem fm_app (f : List Int → Int) (x y : List Int) (A B : List (List Int)) : fm f ((x :: A) ++ (y :: B)) = if f (fm f (y :: B)) < f (fm f (x :: A)) then fm f (y :: B) else fm f (x :: A) := by
  show fmin f x (A ++ (y :: B)) = _
  rw [fmin_app, fmin_head]; rfl
theorem alw_hd {n : Nat} (hn : 0 < n) : ∀ j, ∃ l, alw n j = List.replicate j 0 :: l
  | 0 => ⟨[], rfl⟩
  | j + 1 => by
    obtain ⟨l, e⟩ := alw_hd hn j
    obtain ⟨m, rfl⟩ : ∃ m, n = m + 1 := ⟨n - 1, by omega⟩
    unfold alw
    rw [List.range_succ_eq_map, List.flatMap_cons, e]
    exact ⟨_, rfl⟩
theorem alw_ok {n : Nat} : ∀ {j : Nat} {t : List Int}, t ∈ alw n j ↔ GvOk n j t
  | 0, t => by simp only [alw, List.mem_singleton]; exact gv_nil.symm
  | j + 1, t => by
    unfold alw
    rw [List.mem_flatMap]
    constructor
    · rintro ⟨c, hc, h⟩
      obtain ⟨u, hu, rfl⟩ := List.mem_map.1 h
      rw [List.mem_range] at hc
      exact gv_cons.2 ⟨⟨by omega, by omega⟩, alw_ok.1 hu⟩
    · intro h
      cases t with
      | nil => have := h.2; simp at this
      | cons c t =>
        obtain ⟨⟨h0, h1⟩, ht⟩ := gv_cons.1 h
        exact ⟨c.toNat, List.mem_range.2 (by omega), List.mem_map.2 ⟨t, alw_ok.2 ht, by rw [show ((c.toNat : Nat) : Int) = c from by omega]⟩⟩
/-- The best list is the first least one of all. -/
theorem lb_fm (f : List Int → Int) {n : Nat} (hn : 0 < n) : ∀ (j : Nat) (gs : List Int), lb f n j gs = fm f ((alw n j).map (gs ++ ·))
  | 0, gs => by simp [lb, alw, fm, fmin]
  | j + 1, gs => by
    obtain ⟨l, e⟩ := alw_hd hn j
    have key : ∀ m, lbU f n j gs m = fm f (((List.range m).flatMap fun (c : Nat) => (alw n j).map fun t => (c : Int) :: t).map (gs ++ ·)) := by
      intro m
      induction m with
      | zero => rfl
      | succ m ih =>
        have hB : (((alw n j).map fun t => (m : Int) :: t).map (gs ++ ·)) = (alw n j).map ((gs ++ [(m : Int)]) ++ ·) := by
          rw [List.map_map]; refine List.map_congr_left fun t _ => ?_; simp
        unfold lbU
        rw [List.range_succ, List.flatMap_append, List.map_append, lb_fm f hn j, ih]
        have h1 : ((([m] : List Nat).flatMap fun (c : Nat) => (alw n j).map fun t => (c : Int) :: t).map (gs ++ ·)) = (alw n j).map ((gs ++ [(m : Int)]) ++ ·) := by
          rw [← hB]; simp
        rw [h1]
        by_cases h0 : m = 0
        · subst h0
          rw [if_pos (.inl rfl)]; rfl
        · obtain ⟨m', rfl⟩ : ∃ k, m = k + 1 := ⟨m - 1, by omega⟩
          obtain ⟨A, hA⟩ : ∃ A, (((List.range (m' + 1)).flatMap fun (c : Nat) => (alw n j).map fun t => (c : Int) :: t).map (gs ++ ·)) = (gs ++ ((0 : Int) :: List.replicate j 0)) :: A := by
            rw [List.range_succ_eq_map, List.flatMap_cons, e]; exact ⟨_, rfl⟩
          obtain ⟨B, hB2⟩ : ∃ B, (alw n j).map ((gs ++ [((m' + 1 : Nat) : Int)]) ++ ·) = (gs ++ [((m' + 1 : Nat) : Int)] ++ List.replicate j 0) :: B := by
            rw [e]; exact ⟨_, rfl⟩
          rw [hA, hB2, fm_app]
          refine (fun {p q : Prop} [Decidable p] [Decidable q] (a b : List Int) (h : p ↔ q) => show (if p then a else b) = (if q then a else b) by by_cases g : p <;> simp [g, h.1, (not_congr h).1, ← h]) _ _ ?_
          constructor
          · rintro (h | h)
            · exfalso
              rw [← hA, ← ih] at h
              obtain ⟨t, et, ht⟩ : ∃ t, lbU f n j gs (m' + 1) = gs ++ t ∧ t ≠ [] := by
                rw [ih, hA]
                have mem : ∀ (L : List (List Int)) (b : List Int), fmin f b L ∈ b :: L := by
                  intro L
                  induction L with
                  | nil => intro b; simp [fmin]
                  | cons x L ihL =>
                    intro b
                    unfold fmin
                    have := ihL (if f x < f b then x else b)
                    rcases List.mem_cons.1 this with g | g
                    · rw [g]; split <;> simp
                    · exact List.mem_cons_of_mem _ (List.mem_cons_of_mem _ g)
                have h2 := mem A (gs ++ ((0 : Int) :: List.replicate j 0))
                rw [← hA] at h2
                obtain ⟨u, hu, e2⟩ := List.mem_map.1 h2
                obtain ⟨c, _, h3⟩ := List.mem_flatMap.1 hu
                obtain ⟨v, _, rfl⟩ := List.mem_map.1 h3
                exact ⟨_, e2.symm, by simp⟩
              rw [et] at h
              exact ht (List.append_eq_nil_iff.1 h).2
            · exact h
          · exact .inr
    rw [lb_succ, key]; rfl
/-- The nearest of the first n, the first one of several. -/
def nbU (h : Nat → Int) : Nat → Nat
  | 0 => 0
  | c + 1 => if h c < h (nbU h c) then c else nbU h c
theorem nbU_le (h : Nat → Int) : ∀ n, nbU h n ≤ n
  | 0 => Nat.le_refl _
  | n + 1 => by have := nbU_le h n; unfold nbU; split <;> omega
theorem nbU_lt (h : Nat → Int) : ∀ n, 0 < n → nbU h n < n
  | 0, h0 => by omega
  | n + 1, _ => by have := nbU_le h n; unfold nbU; split <;> omega
theorem nbU_least (h : Nat → Int) : ∀ n c, c < n → h (nbU h n) ≤ h c
  | 0, c, hc => by omega
  | n + 1, c, hc => by
    unfold nbU
    by_cases e : c = n
    · subst e; split <;> omega
    · have := nbU_least h n c (by omega)
      split <;> omega
theorem nbU_first (h : Nat → Int) : ∀ n c, c < nbU h n → h (nbU h n) < h c
  | 0, c, hc => by simp [nbU] at hc
  | n + 1, c, hc => by
    unfold nbU at hc ⊢
    by_cases g : h n < h (nbU h n)
    · rw [if_pos g] at hc ⊢
      have := nbU_least h n c hc
      omega
    · rw [if_neg g] at hc ⊢
      exact nbU_first h n c hc
noncomputable def nrU (xs cs ks : List Int) : Nat → List Int
  | 0 => []
  | k + 1 => nrU xs cs ks k ++ [(nbU (fun c => fw xs (nth cs c) (nth ks k)) cs.length : Int)]
theorem nrU_len (xs cs ks : List Int) : ∀ k, (nrU xs cs ks k).length = k
  | 0 => rfl
  | k + 1 => by unfold nrU; rw [List.length_append, nrU_len xs cs ks k]; rfl
theorem nrU_nth {xs cs ks : List Int} : ∀ {n k : Nat}, k < n → nth (nrU xs cs ks n) k = (nbU (fun c => fw xs (nth cs c) (nth ks k)) cs.length : Int)
  | 0, k, h => by omega
  | n + 1, k, h => by
    unfold nrU
    by_cases e : k = n
    · subst e
      have := nrU_len xs cs ks k
      simp [nth, List.getD, this]
    · have := nrU_len xs cs ks n
      rw [← nrU_nth (n := n) (k := k) (by omega)]
      simp [nth, List.getD, List.getElem?_append_left (show k < (nrU xs cs ks n).length from by omega)]
noncomputable def nrv (xs cs ks : List Int) : List Int := @ite _ (GOk xs cs ks) (Classical.propDecidable _) (nrU xs cs ks ks.length) []
theorem nrv_t {xs cs ks : List Int} (h : GOk xs cs ks) : nrv xs cs ks = nrU xs cs ks ks.length := by unfold nrv; rw [if_pos h]
theorem nrv_f {xs cs ks : List Int} (h : ¬ GOk xs cs ks) : nrv xs cs ks = [] := by unfold nrv; rw [if_neg h]
theorem nr_gv {xs cs ks : List Int} (h : GOk xs cs ks) : GvOk cs.length ks.length (nrv xs cs ks) := by
  rw [nrv_t h]
  refine ⟨fun k hk => ?_, nrU_len _ _ _ _⟩
  rw [nrU_len] at hk
  rw [nrU_nth hk]
  have := nbU_lt (fun c => fw xs (nth cs c) (nth ks k)) cs.length h.2.1
  omega
/-- No list has a shorter longest way. -/
theorem nr_lng {xs cs ks gs : List Int} (h : GOk xs cs ks) (hg : GvOk cs.length ks.length gs) : lng xs cs ks (nrv xs cs ks) ks.length ≤ lng xs cs ks gs ks.length := by
  refine lng_le (lng_ge _ _ _ _ _) fun k hk => ?_
  refine Int.le_trans ?_ (lng_all hk)
  rw [nrv_t h, nrU_nth hk]
  have g := hg.1 k (by rw [hg.2]; exact hk)
  have := nbU_least (fun c => fw xs (nth cs c) (nth ks k)) cs.length (nth gs k).toNat (by omega)
  simpa using this
end Go.Proofs.Yteeokegkbhpbcaa
