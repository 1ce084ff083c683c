/- The mathematics of halls: who is put where, stops, the best way. -/
import Derived.Test.Yteeokegkbhpbcaa12O
namespace Go.Proofs.Yteeokegkbhpbcaa
open Go.RowKit
set_option linter.unusedVariables false
set_option linter.unusedSimpArgs false
set_option maxRecDepth 100000

/-- The digits of a number, the first one counts most. -/
def dg (n : Nat) : Nat → Nat → List Int
  | 0, _ => []
  | m + 1, i => dg n m (i / n) ++ [((i % n : Nat) : Int)]
theorem dg_len (n : Nat) : ∀ m i, (dg n m i).length = m
  | 0, _ => rfl
  | m + 1, i => by unfold dg; rw [List.length_append, dg_len n m]; rfl
theorem dg_gv {n : Nat} (hn : 0 < n) : ∀ m i, GvOk n m (dg n m i)
  | 0, _ => gv_nil.2 rfl
  | m + 1, i => by
    unfold dg
    exact gv_snoc (dg_gv hn m _) (by omega) (by have := Nat.mod_lt i hn; omega)
theorem vl_snoc (n : Nat) (d : Int) : ∀ x : List Int, vl n (x ++ [d]) = vl n x * n + d.toNat
  | [] => by simp [vl]
  | c :: t => by
    have := vl_snoc n d t
    simp only [List.cons_append, vl, this, List.length_append, List.length_singleton, Nat.pow_succ, Nat.add_mul]
    rw [Nat.mul_assoc]
    omega
theorem vl_dg {n : Nat} (hn : 0 < n) : ∀ m i, i < n ^ m → vl n (dg n m i) = i
  | 0, i, h => by have : i = 0 := by simpa using h
                  subst this; rfl
  | m + 1, i, h => by
    unfold dg
    rw [vl_snoc, vl_dg hn m (i / n) (by rw [Nat.pow_succ] at h; exact Nat.div_lt_of_lt_mul (by rw [Nat.mul_comm]; exact h))]
    have := Nat.div_add_mod i n
    rw [Nat.mul_comm] at this
    rw [Int.toNat_natCast]
    exact this
theorem gv_lt {n m : Nat} {t : List Int} (h : GvOk n m t) : vl n t < n ^ m := by
  have := vl_lt (n := n) (x := t) fun c hc => by obtain ⟨j, hj, rfl⟩ := mem_nth hc; exact h.1 j hj
  rwa [h.2] at this
theorem vl_inj {n : Nat} : ∀ {x y : List Int}, x.length = y.length → (∀ c, c ∈ x → 0 ≤ c ∧ c < (n : Int)) → (∀ c, c ∈ y → 0 ≤ c ∧ c < (n : Int)) → vl n x = vl n y → x = y
  | [], [], _, _, _, _ => rfl
  | c :: t, d :: u, hl, hx, hy, e => by
    have hl' : t.length = u.length := by simpa using hl
    have h1 := vl_lt (x := t) fun a ha => hx a (by simp [ha])
    have h2 := vl_lt (x := u) fun a ha => hy a (by simp [ha])
    have hc := hx c (by simp)
    have hd := hy d (by simp)
    simp only [vl] at e
    rw [hl'] at e h1
    have key : c.toNat = d.toNat := by
      rcases Nat.lt_trichotomy c.toNat d.toNat with g | g | g
      · exfalso
        have := Nat.mul_le_mul_right (n ^ u.length) (show c.toNat + 1 ≤ d.toNat from g)
        rw [Nat.add_mul, Nat.one_mul] at this
        omega
      · exact g
      · exfalso
        have := Nat.mul_le_mul_right (n ^ u.length) (show d.toNat + 1 ≤ c.toNat from g)
        rw [Nat.add_mul, Nat.one_mul] at this
        omega
    rw [key] at e
    have e2 : vl n t = vl n u := by omega
    have e3 : c = d := by omega
    rw [e3, vl_inj hl' (fun a ha => hx a (by simp [ha])) (fun a ha => hy a (by simp [ha])) e2]
theorem gv_dg {n m : Nat} {t : List Int} (hn : 0 < n) (h : GvOk n m t) : dg n m (vl n t) = t := by
  have hd := dg_gv hn m (vl n t)
  refine vl_inj (n := n) (by rw [hd.2, h.2]) (fun c hc => ?_) (fun c hc => ?_) (vl_dg hn m _ (gv_lt h))
  · obtain ⟨j, hj, rfl⟩ := mem_nth hc; exact hd.1 j hj
  · obtain ⟨j, hj, rfl⟩ := mem_nth hc; exact h.1 j hj
/-- A hall: riders with floors to go to, and cars with rooms. -/
def HOk (gs rs : List Int) : Prop := (∀ k, k < gs.length → 0 ≤ nth gs k ∧ nth gs k ≤ 7) ∧ (∀ k, k < rs.length → 0 ≤ nth rs k ∧ nth rs k ≤ 8) ∧ gs.length ≤ 6 ∧ 1 ≤ rs.length ∧ rs.length ≤ 3
noncomputable def hokB (gs rs : List Int) : Bool := tr (HOk gs rs)
/-- How many of the first k are put into car c. -/
def cntU (ps : List Int) (c : Int) : Nat → Int
  | 0 => 0
  | k + 1 => if nth ps k = c then cntU ps c k + 1 else cntU ps c k
theorem cntU_bd (ps : List Int) (c : Int) : ∀ k : Nat, 0 ≤ cntU ps c k ∧ cntU ps c k ≤ k
  | 0 => by simp [cntU]
  | k + 1 => by have := cntU_bd ps c k; unfold cntU; split <;> omega
/-- Everybody is put, and no car is too full. -/
def HFit (gs rs ps : List Int) : Prop := HOk gs rs ∧ GvOk rs.length gs.length ps ∧ ∀ c : Nat, c < rs.length → cntU ps c ps.length ≤ nth rs c
noncomputable def hfB (gs rs ps : List Int) : Bool := tr (HFit gs rs ps)
/-- Whether rider k is the first one with this floor in this car. -/
def frB (gs ps : List Int) (k : Nat) : Nat → Bool
  | 0 => true
  | j + 1 => frB gs ps k j && (decide (nth gs j ≠ nth gs k) || decide (nth ps j ≠ nth ps k))
theorem fr_iff {gs ps : List Int} {k : Nat} : ∀ {n : Nat}, frB gs ps k n = true ↔ ∀ j, j < n → nth gs j ≠ nth gs k ∨ nth ps j ≠ nth ps k
  | 0 => by simp [frB]
  | n + 1 => by
    unfold frB
    rw [Bool.and_eq_true, fr_iff, Bool.or_eq_true, decide_eq_true_iff, decide_eq_true_iff]
    constructor
    · rintro ⟨h, g⟩ j hj
      by_cases e : j = n
      · subst e; exact g
      · exact h j (by omega)
    · intro h
      exact ⟨fun j hj => h j (by omega), h n (by omega)⟩
/-- The stops for the first k riders. -/
def hsU (gs ps : List Int) : Nat → Int
  | 0 => 0
  | k + 1 => if frB gs ps k k = true then hsU gs ps k + 1 else hsU gs ps k
theorem hsU_bd (gs ps : List Int) : ∀ k : Nat, 0 ≤ hsU gs ps k ∧ hsU gs ps k ≤ k
  | 0 => by simp [hsU]
  | k + 1 => by have := hsU_bd gs ps k; unfold hsU; split <;> omega
noncomputable def hsv (gs rs ps : List Int) : Int := @ite _ (HFit gs rs ps) (Classical.propDecidable _) (hsU gs ps gs.length) (-1)
theorem hsv_t {gs rs ps : List Int} (h : HFit gs rs ps) : hsv gs rs ps = hsU gs ps gs.length := by unfold hsv; rw [if_pos h]
theorem hsv_f {gs rs ps : List Int} (h : ¬ HFit gs rs ps) : hsv gs rs ps = -1 := by unfold hsv; rw [if_neg h]
/-- The floors that are different, of the first k riders. -/
def gmU (gs : List Int) : Nat → Int
  | 0 => 0
  | k + 1 => if frB gs [] k k = true then gmU gs k + 1 else gmU gs k
theorem gm_fr {gs : List Int} {k : Nat} : frB gs [] k k = true ↔ ∀ j, j < k → nth gs j ≠ nth gs k := by
  rw [fr_iff]
  constructor
  · intro h j hj
    rcases h j hj with g | g
    · exact g
    · exact absurd rfl g
  · exact fun h j hj => .inl (h j hj)
theorem gmU_bd (gs : List Int) : ∀ k : Nat, 0 ≤ gmU gs k ∧ gmU gs k ≤ k
  | 0 => by simp [gmU]
  | k + 1 => by have := gmU_bd gs k; unfold gmU; split <;> omega
theorem gm_hs (gs ps : List Int) : ∀ k : Nat, gmU gs k ≤ hsU gs ps k
  | 0 => Int.le_refl _
  | k + 1 => by
    have := gm_hs gs ps k
    unfold gmU hsU
    by_cases h : frB gs [] k k = true
    · have h2 : frB gs ps k k = true := fr_iff.2 fun j hj => .inl (gm_fr.1 h j hj)
      rw [if_pos h, if_pos h2]; omega
    · rw [if_neg h]; split <;> omega
/-- All in one car stop as often as there are different floors. -/
theorem hs_one {gs ps : List Int} {c : Int} (hp : ∀ k, k < gs.length → nth ps k = c) : ∀ k : Nat, k ≤ gs.length → hsU gs ps k = gmU gs k
  | 0, _ => rfl
  | k + 1, hk => by
    have := hs_one hp k (by omega)
    unfold gmU hsU
    have e : frB gs ps k k = true ↔ frB gs [] k k = true := by
      rw [gm_fr, fr_iff]
      constructor
      · intro h j hj
        rcases h j hj with g | g
        · exact g
        · exact absurd (by rw [hp j (by omega), hp k (by omega)]) g
      · exact fun h j hj => .inl (h j hj)
    by_cases h : frB gs [] k k = true
    · rw [if_pos h, if_pos (e.2 h), this]
    · rw [if_neg h, if_neg (fun g => h (e.1 g)), this]
noncomputable def gmv (gs rs : List Int) : Int := @ite _ (HOk gs rs) (Classical.propDecidable _) (gmU gs gs.length) (-1)
theorem gmv_t {gs rs : List Int} (h : HOk gs rs) : gmv gs rs = gmU gs gs.length := by unfold gmv; rw [if_pos h]
theorem gmv_f {gs rs : List Int} (h : ¬ HOk gs rs) : gmv gs rs = -1 := by unfold gmv; rw [if_neg h]
/-- The best way so far, over the first i numbers. -/
noncomputable def hbU (gs rs : List Int) : Nat → Option (List Int)
  | 0 => none
  | i + 1 => match hbU gs rs i with
    | none => @ite _ (HFit gs rs (dg rs.length gs.length i)) (Classical.propDecidable _) (some (dg rs.length gs.length i)) none
    | some b => @ite _ (HFit gs rs (dg rs.length gs.length i) ∧ hsU gs (dg rs.length gs.length i) gs.length < hsU gs b gs.length) (Classical.propDecidable _) (some (dg rs.length gs.length i)) (some b)
/-- What the best way is. -/
structure HBest (gs rs b : List Int) : Prop where
  fit : HFit gs rs b
  least : ∀ t, HFit gs rs t → hsU gs b gs.length < hsU gs t gs.length ∨ (hsU gs b gs.length = hsU gs t gs.length ∧ vl rs.length b ≤ vl rs.length t)
theorem HBest.uniq {gs rs b c : List Int} (h : HBest gs rs b) (k : HBest gs rs c) : b = c := by
  have h1 := h.least c k.fit
  have h2 := k.least b h.fit
  have e : vl rs.length b = vl rs.length c := by omega
  have hb := h.fit.2.1
  have hc := k.fit.2.1
  refine vl_inj (n := rs.length) (by rw [hb.2, hc.2]) (fun a ha => ?_) (fun a ha => ?_) e
  · obtain ⟨j, hj, rfl⟩ := mem_nth ha; exact hb.1 j hj
  · obtain ⟨j, hj, rfl⟩ := mem_nth ha; exact hc.1 j hj
theorem hbU_inv {gs rs : List Int} (hn : 0 < rs.length) : ∀ i, i ≤ rs.length ^ gs.length →
    (match hbU gs rs i with
      | none => ∀ j, j < i → ¬ HFit gs rs (dg rs.length gs.length j)
      | some b => HFit gs rs b ∧ vl rs.length b < i ∧ ∀ j, j < i → HFit gs rs (dg rs.length gs.length j) → hsU gs b gs.length < hsU gs (dg rs.length gs.length j) gs.length ∨ (hsU gs b gs.length = hsU gs (dg rs.length gs.length j) gs.length ∧ vl rs.length b ≤ j))
  | 0, _ => by simp [hbU]
  | i + 1, hi => by
    have ih := hbU_inv (gs := gs) (rs := rs) hn i (by omega)
    have hv := vl_dg hn gs.length i (by omega)
    unfold hbU
    cases e : hbU gs rs i with
    | none =>
      rw [e] at ih
      simp only at ih ⊢
      by_cases h : HFit gs rs (dg rs.length gs.length i)
      · rw [if_pos h]
        refine ⟨h, by omega, fun j hj hf => ?_⟩
        by_cases g : j = i
        · subst g; exact .inr ⟨rfl, by omega⟩
        · exact absurd hf (ih j (by omega))
      · rw [if_neg h]
        intro j hj
        by_cases g : j = i
        · subst g; exact h
        · exact ih j (by omega)
    | some b =>
      rw [e] at ih
      simp only at ih ⊢
      obtain ⟨h1, h2, h3⟩ := ih
      by_cases h : HFit gs rs (dg rs.length gs.length i) ∧ hsU gs (dg rs.length gs.length i) gs.length < hsU gs b gs.length
      · rw [if_pos h]
        refine ⟨h.1, by omega, fun j hj hf => ?_⟩
        by_cases g : j = i
        · subst g; exact .inr ⟨rfl, by omega⟩
        · have := h3 j (by omega) hf
          have := h.2
          omega
      · rw [if_neg h]
        refine ⟨h1, by omega, fun j hj hf => ?_⟩
        by_cases g : j = i
        · subst g
          have : ¬ hsU gs (dg rs.length gs.length j) gs.length < hsU gs b gs.length := fun q => h ⟨hf, q⟩
          omega
        · exact h3 j (by omega) hf
noncomputable def hbest (gs rs : List Int) : Option (List Int) := @ite _ (HOk gs rs) (Classical.propDecidable _) (hbU gs rs (rs.length ^ gs.length)) none
theorem hbest_some {gs rs b : List Int} (h : hbest gs rs = some b) : HBest gs rs b := by
  unfold hbest at h
  by_cases g : HOk gs rs
  · rw [if_pos g] at h
    have hn : 0 < rs.length := g.2.2.2.1
    have := hbU_inv (gs := gs) (rs := rs) hn _ (Nat.le_refl _)
    rw [h] at this
    obtain ⟨h1, -, h3⟩ := this
    refine ⟨h1, fun t ht => ?_⟩
    have h5 := h3 (vl rs.length t) (gv_lt ht.2.1) (by rw [gv_dg hn ht.2.1]; exact ht)
    rwa [gv_dg hn ht.2.1] at h5
  · rw [if_neg g] at h; cases h
theorem hbest_none {gs rs : List Int} (h : hbest gs rs = none) : ∀ t, ¬ HFit gs rs t := by
  intro t ht
  unfold hbest at h
  rw [if_pos ht.1] at h
  have hn : 0 < rs.length := ht.1.2.2.2.1
  have := hbU_inv (gs := gs) (rs := rs) hn _ (Nat.le_refl _)
  rw [h] at this
  exact this (vl rs.length t) (gv_lt ht.2.1) (by rw [gv_dg hn ht.2.1]; exact ht)
end Go.Proofs.Yteeokegkbhpbcaa

namespace Go.Proofs.Yteeokegkbhpbcaa
open Go.RowKit
set_option linter.unusedVariables false
set_option linter.unusedSimpArgs false
set_option maxRecDepth 100000

/-- The sum of the first n. -/
def totU (f : Nat → Int) : Nat → Int
  | 0 => 0
  | n + 1 => totU f n + f n
theorem totU_le {f g : Nat → Int} : ∀ {n : Nat}, (∀ c, c < n → f c ≤ g c) → totU f n ≤ totU g n
  | 0, _ => Int.le_refl _
  | n + 1, h => by
    have := totU_le (f := f) (g := g) (n := n) fun c hc => h c (by omega)
    have := h n (by omega)
    unfold totU; omega
theorem totU_lt {f g : Nat → Int} : ∀ {n : Nat}, totU f n < totU g n → ∃ c, c < n ∧ f c < g c
  | 0, h => by simp [totU] at h
  | n + 1, h => by
    by_cases e : f n < g n
    · exact ⟨n, by omega, e⟩
    · have : totU f n < totU g n := by unfold totU at h; omega
      obtain ⟨c, hc, h2⟩ := totU_lt this
      exact ⟨c, by omega, h2⟩
theorem totU_congr {f g : Nat → Int} : ∀ {n : Nat}, (∀ c, c < n → f c = g c) → totU f n = totU g n
  | 0, _ => rfl
  | n + 1, h => by
    unfold totU
    rw [totU_congr (f := f) (g := g) (n := n) fun c hc => h c (by omega), h n (by omega)]
theorem tot_add {ps : List Int} {k : Nat} {v : Nat} (hv : nth ps k = v) : ∀ n : Nat, totU (fun c => cntU ps c (k + 1)) n = totU (fun c => cntU ps c k) n + (if v < n then 1 else 0)
  | 0 => by simp [totU]
  | n + 1 => by
    have := tot_add hv n
    unfold totU
    rw [this]
    show _ + (if nth ps k = (n : Int) then cntU ps n k + 1 else cntU ps n k) = _
    rw [hv]
    by_cases e : v = n
    · have h1 : ((v : Int) = (n : Int)) := by omega
      have h2 : ¬ v < n := by omega
      have h3 : v < n + 1 := by omega
      simp only [h1, h2, h3, if_true, if_false]; omega
    · have h1 : ¬ ((v : Int) = (n : Int)) := by omega
      by_cases g : v < n
      · have h3 : v < n + 1 := by omega
        simp only [h1, g, h3, if_true, if_false]; omega
      · have h3 : ¬ v < n + 1 := by omega
        simp only [h1, g, h3, if_false]; omega
theorem tot_cnt {ps : List Int} {n : Nat} (h : ∀ k, k < ps.length → 0 ≤ nth ps k ∧ nth ps k < n) : ∀ k : Nat, k ≤ ps.length → totU (fun c => cntU ps c k) n = k
  | 0, _ => by
    have : ∀ n, totU (fun c => cntU ps c 0) n = 0 := by
      intro n
      induction n with
      | zero => rfl
      | succ n ih => unfold totU; rw [ih]; rfl
    rw [this]; rfl
  | k + 1, hk => by
    have hb := h k (by omega)
    rw [tot_add (v := (nth ps k).toNat) (by omega) n, tot_cnt h k (by omega), if_pos (by omega)]
    omega
/-- There are at most as many riders as all cars have room. -/
theorem hf_sum {gs rs ps : List Int} (h : HFit gs rs ps) : (gs.length : Int) ≤ totU (nth rs) rs.length := by
  have h1 := tot_cnt h.2.1.1 ps.length (Nat.le_refl _)
  have h2 := totU_le (f := fun c => cntU ps c ps.length) (g := nth rs) (n := rs.length) h.2.2
  rw [h1, h.2.1.2] at h2
  exact h2
theorem cntU_take {ps : List Int} {c : Int} {m : Nat} : ∀ k : Nat, k ≤ m → cntU (ps.take m) c k = cntU ps c k
  | 0, _ => rfl
  | k + 1, h => by unfold cntU; rw [cntU_take k (by omega), nth_take ps (by omega)]
theorem cntU_mono (ps : List Int) (c : Int) (k : Nat) : ∀ d : Nat, cntU ps c k ≤ cntU ps c (k + d)
  | 0 => Int.le_refl _
  | d + 1 => by
    have := cntU_mono ps c k d
    show _ ≤ (if nth ps (k + d) = c then cntU ps c (k + d) + 1 else cntU ps c (k + d))
    split <;> omega
/-- Without the last ones the others fit. -/
theorem hf_take {gs rs ps : List Int} (h : HFit gs rs ps) {m : Nat} (hm : m ≤ gs.length) : HFit (gs.take m) rs (ps.take m) := by
  obtain ⟨⟨a, b, c, d, e⟩, ⟨f, g⟩, r⟩ := h
  have l1 : (gs.take m).length = m := by rw [List.length_take]; omega
  have l2 : (ps.take m).length = m := by rw [List.length_take]; omega
  refine ⟨⟨fun k hk => ?_, b, by omega, d, e⟩, ⟨fun k hk => ?_, by rw [l1, l2]⟩, fun c hc => ?_⟩
  · rw [l1] at hk; rw [nth_take gs hk]; exact a k (by omega)
  · rw [l2] at hk; rw [nth_take ps hk]; exact f k (by omega)
  · rw [l2, cntU_take m (Nat.le_refl _)]
    have := cntU_mono ps c m (ps.length - m)
    rw [show m + (ps.length - m) = ps.length from by omega] at this
    have := r c hc
    omega
theorem cntU_app (ps : List Int) (d c : Int) : ∀ k : Nat, k ≤ ps.length → cntU (ps ++ [d]) c k = cntU ps c k
  | 0, _ => rfl
  | k + 1, h => by
    unfold cntU
    rw [cntU_app ps d c k (by omega), show nth (ps ++ [d]) k = nth ps k from by simp [nth, List.getD, List.getElem?_append_left (show k < ps.length from by omega)]]
/-- If there is room, everybody can be put. -/
theorem put_all {rs : List Int} (hr : ∀ k, k < rs.length → 0 ≤ nth rs k) : ∀ m : Nat, (m : Int) ≤ totU (nth rs) rs.length → ∃ ps, GvOk rs.length m ps ∧ ∀ c : Nat, c < rs.length → cntU ps c ps.length ≤ nth rs c
  | 0, _ => ⟨[], gv_nil.2 rfl, fun c hc => by show (0 : Int) ≤ _; exact hr c hc⟩
  | m + 1, h => by
    obtain ⟨ps, hg, hc⟩ := put_all hr m (by omega)
    have h1 := tot_cnt hg.1 ps.length (Nat.le_refl _)
    rw [hg.2] at h1
    obtain ⟨d, hd, hlt⟩ := totU_lt (f := fun c => cntU ps c m) (g := nth rs) (n := rs.length) (by rw [h1]; omega)
    refine ⟨ps ++ [(d : Int)], gv_snoc hg (by omega) (by omega), fun c hcl => ?_⟩
    rw [List.length_append, List.length_singleton]
    show (if nth (ps ++ [(d : Int)]) ps.length = (c : Int) then cntU (ps ++ [(d : Int)]) c ps.length + 1 else cntU (ps ++ [(d : Int)]) c ps.length) ≤ _
    rw [cntU_app ps d c ps.length (Nat.le_refl _), show nth (ps ++ [(d : Int)]) ps.length = (d : Int) from by simp [nth, List.getD]]
    have h9 := hc c hcl
    by_cases e : (d : Int) = c
    · have e2 : d = c := by omega
      subst e2
      rw [if_pos rfl]
      rw [hg.2]; omega
    · rw [if_neg e]; exact h9
/-- There is a best way exactly if there is room. -/
theorem hbest_iff {gs rs : List Int} (h : HOk gs rs) : (hbest gs rs).isSome = true ↔ (gs.length : Int) ≤ totU (nth rs) rs.length := by
  cases e : hbest gs rs with
  | none =>
    simp only [Option.isSome_none, Bool.false_eq_true, false_iff]
    intro g
    obtain ⟨ps, h1, h2⟩ := put_all (fun k hk => (h.2.1 k hk).1) gs.length g
    exact hbest_none e ps ⟨h, h1, h2⟩
  | some b =>
    simp only [Option.isSome_some, true_iff]
    exact hf_sum (hbest_some e).fit
theorem cntU_rep {c : Int} {m : Nat} (d : Int) : ∀ k : Nat, k ≤ m → cntU (List.replicate m c) d k = if c = d then (k : Int) else 0
  | 0, _ => by simp [cntU]
  | k + 1, h => by
    unfold cntU
    rw [cntU_rep d k (by omega), show nth (List.replicate m c) k = c from by simp [nth, List.getD, show k < m from by omega]]
    by_cases e : c = d
    · rw [if_pos e, if_pos e, if_pos e]; omega
    · rw [if_neg e, if_neg e, if_neg e]
/-- If one car has room for all, there are as many stops as different floors. -/
theorem hbest_one {gs rs b : List Int} (h : hbest gs rs = some b) {c : Nat} (hc : c < rs.length) (hr : (gs.length : Int) ≤ nth rs c) : hsU gs b gs.length = gmU gs gs.length := by
  have hb := hbest_some h
  have hok := hb.fit.1
  have hf : HFit gs rs (List.replicate gs.length (c : Int)) := by
    refine ⟨hok, ⟨fun k hk => ?_, by simp⟩, fun d hd => ?_⟩
    · have hk2 : k < gs.length := by simpa using hk
      rw [show nth (List.replicate gs.length (c : Int)) k = c from by simp [nth, List.getD, hk2]]
      omega
    · rw [List.length_replicate, cntU_rep (d : Int) gs.length (Nat.le_refl _)]
      have := (hok.2.1 d hd).1
      by_cases e : (c : Int) = d
      · have e2 : c = d := by omega
        subst e2
        rw [if_pos rfl]; exact hr
      · rw [if_neg e]; exact this
  have h1 := hb.least _ hf
  have h2 := hs_one (gs := gs) (ps := List.replicate gs.length (c : Int)) (c := c) (fun k hk => by simp [nth, List.getD, hk]) gs.length (Nat.le_refl _)
  have h3 := gm_hs gs b gs.length
  omega
theorem nth_app {gs hs : List Int} {k : Nat} (h : k < gs.length) : nth (gs ++ hs) k = nth gs k := by simp [nth, List.getD, List.getElem?_append_left h]
theorem nth_app2 {gs hs : List Int} {k : Nat} : nth (gs ++ hs) (gs.length + k) = nth hs k := by
  unfold nth List.getD
  rw [List.getElem?_append_right (by omega), Nat.add_sub_cancel_left]
theorem gmU_app {gs hs : List Int} : ∀ k : Nat, k ≤ gs.length → gmU (gs ++ hs) k = gmU gs k
  | 0, _ => rfl
  | k + 1, h => by
    have e : frB (gs ++ hs) [] k k = true ↔ frB gs [] k k = true := by
      rw [gm_fr, gm_fr]
      constructor
      · intro g j hj
        have := g j hj
        rwa [nth_app (by omega), nth_app (by omega)] at this
      · intro g j hj
        rw [nth_app (by omega), nth_app (by omega)]
        exact g j hj
    unfold gmU
    rw [gmU_app k (by omega)]
    by_cases g : frB gs [] k k = true
    · rw [if_pos g, if_pos (e.2 g)]
    · rw [if_neg g, if_neg (fun q => g (e.1 q))]
/-- With all riders twice there are as many floors. -/
theorem gm_twice (gs : List Int) : ∀ k : Nat, k ≤ gs.length → gmU (gs ++ gs) (gs.length + k) = gmU gs gs.length
  | 0, _ => gmU_app gs.length (Nat.le_refl _)
  | k + 1, h => by
    show (if frB (gs ++ gs) [] (gs.length + k) (gs.length + k) = true then gmU (gs ++ gs) (gs.length + k) + 1 else gmU (gs ++ gs) (gs.length + k)) = _
    rw [if_neg (fun g => by
      have := gm_fr.1 g k (by omega)
      rw [nth_app (by omega), nth_app2] at this
      exact this rfl)]
    exact gm_twice gs k (by omega)
/-- One rider more goes to one floor more at most. -/
theorem gm_more (gs : List Int) (d : Int) : gmU (gs ++ [d]) (gs.length + 1) = gmU gs gs.length ∨ gmU (gs ++ [d]) (gs.length + 1) = gmU gs gs.length + 1 := by
  have := gmU_app (gs := gs) (hs := [d]) gs.length (Nat.le_refl _)
  show (if _ then _ else _) = _ ∨ (if _ then _ else _) = _
  rw [this]
  split
  · exact .inr rfl
  · exact .inl rfl
end Go.Proofs.Yteeokegkbhpbcaa

namespace Go.Proofs.Yteeokegkbhpbcaa
open Go.RowKit
set_option linter.unusedVariables false
set_option linter.unusedSimpArgs false
set_option maxRecDepth 100000

/-- Whether one of the first k riders goes to floor g in car c. -/
def stB (gs ps : List Int) (c g : Int) : Nat → Bool
  | 0 => false
  | k + 1 => stB gs ps c g k || (decide (nth ps k = c) && decide (nth gs k = g))
theorem st_iff {gs ps : List Int} {c g : Int} : ∀ {k : Nat}, stB gs ps c g k = true ↔ ∃ j, j < k ∧ nth ps j = c ∧ nth gs j = g
  | 0 => by simp [stB]
  | k + 1 => by
    unfold stB
    rw [Bool.or_eq_true, st_iff, Bool.and_eq_true, decide_eq_true_iff, decide_eq_true_iff]
    constructor
    · rintro (⟨j, hj, h⟩ | h)
      · exact ⟨j, by omega, h⟩
      · exact ⟨k, by omega, h⟩
    · rintro ⟨j, hj, h⟩
      by_cases e : j = k
      · subst e; exact .inr h
      · exact .inl ⟨j, by omega, h⟩
theorem st_fr {gs ps : List Int} {k : Nat} : frB gs ps k k = !stB gs ps (nth ps k) (nth gs k) k := by
  cases h : stB gs ps (nth ps k) (nth gs k) k with
  | true =>
    obtain ⟨j, hj, h1, h2⟩ := st_iff.1 h
    refine Bool.eq_false_iff.2 fun g => ?_
    rcases fr_iff.1 g j hj with e | e
    · exact e h2
    · exact e h1
  | false =>
    refine fr_iff.2 fun j hj => ?_
    by_cases e : nth gs j = nth gs k
    · right
      intro e2
      rw [st_iff.2 ⟨j, hj, e2, e⟩] at h
      cases h
    · exact .inl e
def upI (r : Nat → Int) (c : Nat) (x : Int) : Nat → Int := fun i => if i = c then x else r i
def upB (s : Nat → Bool) (c : Nat) (x : Bool) : Nat → Bool := fun i => if i = c then x else s i
/-- Cars with riders: the rooms left, where each of them stops, and how many stops there are. -/
def cvl (r : Nat → Int) (s : Nat → Bool) (m : Int) : List Value := [.int .i64 (r 0), .int .i64 (r 1), .int .i64 (r 2),
  .bool (s 0), .bool (s 1), .bool (s 2), .bool (s 3), .bool (s 4), .bool (s 5), .bool (s 6), .bool (s 7),
  .bool (s 8), .bool (s 9), .bool (s 10), .bool (s 11), .bool (s 12), .bool (s 13), .bool (s 14), .bool (s 15),
  .bool (s 16), .bool (s 17), .bool (s 18), .bool (s 19), .bool (s 20), .bool (s 21), .bool (s 22), .bool (s 23), .int .i64 m]
theorem cvl_room (r : Nat → Int) (s : Nat → Bool) (m : Int) : ∀ {c : Nat}, c < 3 → (cvl r s m)[c]? = some (.int .i64 (r c))
  | 0, _ => rfl
  | 1, _ => rfl
  | 2, _ => rfl
  | c + 3, h => absurd h (by omega)
theorem lt24 {p : Nat → Prop} (h : p 0 ∧ p 1 ∧ p 2 ∧ p 3 ∧ p 4 ∧ p 5 ∧ p 6 ∧ p 7 ∧ p 8 ∧ p 9 ∧ p 10 ∧ p 11 ∧ p 12 ∧ p 13 ∧ p 14 ∧ p 15 ∧ p 16 ∧ p 17 ∧ p 18 ∧ p 19 ∧ p 20 ∧ p 21 ∧ p 22 ∧ p 23) : ∀ {j : Nat}, j < 24 → p j := by
  obtain ⟨h0, h1, h2, h3, h4, h5, h6, h7, h8, h9, h10, h11, h12, h13, h14, h15, h16, h17, h18, h19, h20, h21, h22, h23⟩ := h
  intro j hj
  rcases j with _ | _ | _ | _ | _ | _ | _ | _ | _ | _ | _ | _ | _ | _ | _ | _ | _ | _ | _ | _ | _ | _ | _ | _ | j <;> first | assumption | exact absurd hj (by omega)
theorem cvl_stop (r : Nat → Int) (s : Nat → Bool) (m : Int) {j : Nat} (h : j < 24) : (cvl r s m)[3 + j]? = some (.bool (s j)) :=
  lt24 (p := fun j => (cvl r s m)[3 + j]? = some (.bool (s j))) ⟨rfl, rfl, rfl, rfl, rfl, rfl, rfl, rfl, rfl, rfl, rfl, rfl, rfl, rfl, rfl, rfl, rfl, rfl, rfl, rfl, rfl, rfl, rfl, rfl⟩ h
theorem cvl_set_room (r : Nat → Int) (s : Nat → Bool) (m x : Int) : ∀ {c : Nat}, c < 3 → (cvl r s m).set c (.int .i64 x) = cvl (upI r c x) s m
  | 0, _ => rfl
  | 1, _ => rfl
  | 2, _ => rfl
  | c + 3, h => absurd h (by omega)
theorem cvl_set_stop (r : Nat → Int) (s : Nat → Bool) (m : Int) (x : Bool) {j : Nat} (h : j < 24) : (cvl r s m).set (3 + j) (.bool x) = cvl r (upB s j x) m :=
  lt24 (p := fun j => (cvl r s m).set (3 + j) (.bool x) = cvl r (upB s j x) m) ⟨rfl, rfl, rfl, rfl, rfl, rfl, rfl, rfl, rfl, rfl, rfl, rfl, rfl, rfl, rfl, rfl, rfl, rfl, rfl, rfl, rfl, rfl, rfl, rfl⟩ h
theorem cvl_set_many (r : Nat → Int) (s : Nat → Bool) (m x : Int) : (cvl r s m).set 27 (.int .i64 x) = cvl r s x := rfl
/-- The rooms left behind the first k riders; where the cars stop then. -/
def rmU (rs ps : List Int) (k : Nat) : Nat → Int := fun c => nth rs c - cntU ps c k
def spU (gs ps : List Int) (k : Nat) : Nat → Bool := fun j => stB gs ps ((j / 8 : Nat) : Int) ((j % 8 : Nat) : Int) k
theorem rm_step {rs ps : List Int} {k c : Nat} (h : nth ps k = (c : Int)) : rmU rs ps (k + 1) = upI (rmU rs ps k) c (rmU rs ps k c - 1) := by
  funext i
  unfold rmU upI
  by_cases e : i = c
  · subst e
    rw [if_pos rfl]
    have e : cntU ps (i : Int) (k + 1) = cntU ps (i : Int) k + 1 := by
      conv => lhs; unfold cntU
      rw [if_pos h]
    show nth rs i - cntU ps i (k + 1) = _
    rw [e]; omega
  · rw [if_neg e]
    show nth rs i - cntU ps i (k + 1) = _
    conv => lhs; unfold cntU
    rw [if_neg (by omega)]
theorem sp_step {gs ps : List Int} {k c g : Nat} (h : nth ps k = (c : Int)) (h2 : nth gs k = (g : Int)) (hg : g < 8) : spU gs ps (k + 1) = upB (spU gs ps k) (8 * c + g) true := by
  funext j
  unfold spU upB
  by_cases e : j = 8 * c + g
  · rw [if_pos e]
    refine st_iff.2 ⟨k, by omega, ?_, ?_⟩
    · rw [h]; omega
    · rw [h2]; omega
  · rw [if_neg e]
    conv => lhs; unfold stB
    have : (decide (nth ps k = ((j / 8 : Nat) : Int)) && decide (nth gs k = ((j % 8 : Nat) : Int))) = false := by
      rw [Bool.and_eq_false_iff, decide_eq_false_iff_not, decide_eq_false_iff_not, h, h2]
      omega
    rw [this, Bool.or_false]
theorem up_same {s : Nat → Bool} {c : Nat} (h : s c = true) : upB s c true = s := by
  funext i
  unfold upB
  split
  · rename_i e; rw [e, h]
  · rfl
theorem sp_at {gs ps : List Int} {k c g : Nat} (hg : g < 8) : spU gs ps k (8 * c + g) = stB gs ps c g k := by
  unfold spU
  rw [show (8 * c + g) / 8 = c from by omega, show (8 * c + g) % 8 = g from by omega]
theorem hs_step {gs ps : List Int} {k c g : Nat} (h : nth ps k = (c : Int)) (h2 : nth gs k = (g : Int)) (hg : g < 8) : hsU gs ps (k + 1) = if spU gs ps k (8 * c + g) = true then hsU gs ps k else hsU gs ps k + 1 := by
  conv => lhs; unfold hsU
  rw [st_fr, sp_at hg, h, h2]
  cases stB gs ps c g k <;> rfl
/-- The first k riders fit. -/
def PFit (rs ps : List Int) (k : Nat) : Prop := (∀ i, i < k → 0 ≤ nth ps i ∧ nth ps i < rs.length) ∧ ∀ c : Nat, c < rs.length → cntU ps c k ≤ nth rs c
theorem cnt_zero {rs ps : List Int} {k c : Nat} (h : ∀ i, i < k → 0 ≤ nth ps i ∧ nth ps i < rs.length) (hc : rs.length ≤ c) : cntU ps c k = 0 := by
  induction k with
  | zero => rfl
  | succ k ih =>
    unfold cntU
    have := h k (by omega)
    rw [if_neg (by omega)]
    exact ih fun i hi => h i (by omega)
theorem cnt_mono (ps : List Int) (c : Int) (k : Nat) : cntU ps c k ≤ cntU ps c (k + 1) := by
  conv => rhs; unfold cntU
  split <;> omega
theorem PFit.prev {rs ps : List Int} {k : Nat} (h : PFit rs ps (k + 1)) : PFit rs ps k :=
  ⟨fun i hi => h.1 i (by omega), fun c hc => by have := h.2 c hc; have := cnt_mono ps c k; omega⟩
theorem PFit.down {rs ps : List Int} {m : Nat} (h : PFit rs ps m) : ∀ {k : Nat}, k ≤ m → PFit rs ps k := by
  intro k hk
  induction m with
  | zero => obtain rfl : k = 0 := by omega
            exact h
  | succ m ih =>
    by_cases e : k = m + 1
    · subst e; exact h
    · exact ih h.prev (by omega)
theorem nth_far {rs : List Int} {c : Nat} (h : rs.length ≤ c) : nth rs c = 0 := by simp [nth, List.getD, List.getElem?_eq_none h]
theorem PFit.room {rs ps : List Int} {k c : Nat} (h : PFit rs ps k) : 0 ≤ rmU rs ps k c := by
  unfold rmU
  by_cases hc : c < rs.length
  · have := h.2 c hc; omega
  · rw [nth_far (by omega), cnt_zero h.1 (by omega)]; omega
theorem PFit.next {rs ps : List Int} {k c : Nat} (h : PFit rs ps k) (hp : nth ps k = (c : Int)) (hr : rmU rs ps k c ≠ 0) : PFit rs ps (k + 1) := by
  have hc : c < rs.length := Classical.not_not.1 fun g => hr (by unfold rmU; rw [nth_far (by omega), cnt_zero h.1 (by omega)]; rfl)
  refine ⟨fun i hi => ?_, fun d hd => ?_⟩
  · by_cases e : i = k
    · subst e; omega
    · exact h.1 i (by omega)
  · have h0 := h.2 d hd
    unfold cntU
    by_cases e : d = c
    · subst e
      rw [if_pos hp]
      have := h.room (c := d)
      unfold rmU at this hr
      omega
    · rw [if_neg (by omega)]; exact h0
theorem PFit.full {rs ps : List Int} {k : Nat} {z : Int} (hn : rs.length ≤ 3) (hp : nth ps k = z) (h : z < 0 ∨ 3 ≤ z ∨ rmU rs ps k z.toNat = 0) : ¬ PFit rs ps (k + 1) := by
  intro g
  have h1 := g.1 k (by omega)
  have h2 := g.2 z.toNat (by omega)
  unfold cntU at h2
  rw [if_pos (by omega)] at h2
  unfold rmU at h
  omega
theorem hfit_iff {gs rs ps : List Int} : HFit gs rs ps ↔ HOk gs rs ∧ ps.length = gs.length ∧ PFit rs ps gs.length := by
  constructor
  · rintro ⟨h1, h2, h3⟩
    exact ⟨h1, h2.2, fun i hi => h2.1 i (by rw [h2.2]; exact hi), fun c hc => by have := h3 c hc; rwa [h2.2] at this⟩
  · rintro ⟨h1, h2, h3⟩
    exact ⟨h1, ⟨fun i hi => h3.1 i (by rw [← h2]; exact hi), h2⟩, fun c hc => by rw [h2]; exact h3.2 c hc⟩
theorem cnt_congr {ps qs : List Int} {c : Int} : ∀ {k : Nat}, (∀ i, i < k → nth ps i = nth qs i) → cntU ps c k = cntU qs c k
  | 0, _ => rfl
  | k + 1, h => by
    unfold cntU
    rw [cnt_congr fun i hi => h i (by omega), h k (by omega)]
theorem st_congr {gs ps qs : List Int} {c g : Int} : ∀ {k : Nat}, (∀ i, i < k → nth ps i = nth qs i) → stB gs ps c g k = stB gs qs c g k
  | 0, _ => rfl
  | k + 1, h => by
    unfold stB
    rw [st_congr fun i hi => h i (by omega), h k (by omega)]
theorem rm_congr {rs ps qs : List Int} {k : Nat} (h : ∀ i, i < k → nth ps i = nth qs i) : rmU rs ps k = rmU rs qs k := by
  funext c; unfold rmU; rw [cnt_congr h]
theorem sp_congr {gs ps qs : List Int} {k : Nat} (h : ∀ i, i < k → nth ps i = nth qs i) : spU gs ps k = spU gs qs k := by
  funext c; unfold spU; rw [st_congr h]
theorem hs_congr {gs ps qs : List Int} : ∀ {k : Nat}, (∀ i, i < k → nth ps i = nth qs i) → hsU gs ps k = hsU gs qs k
  | 0, _ => rfl
  | k + 1, h => by
    unfold hsU
    rw [hs_congr fun i hi => h i (by omega), st_fr, st_fr, st_congr fun i hi => h i (by omega), h k (by omega)]
theorem pf_congr {rs ps qs : List Int} {k : Nat} (h : ∀ i, i < k → nth ps i = nth qs i) (g : PFit rs ps k) : PFit rs qs k :=
  ⟨fun i hi => by rw [← h i hi]; exact g.1 i hi, fun c hc => by rw [← cnt_congr h]; exact g.2 c hc⟩
theorem hs_mono (gs ps : List Int) (k : Nat) : hsU gs ps k ≤ hsU gs ps (k + 1) := by
  conv => rhs; unfold hsU
  split <;> omega
theorem hs_mono' (gs ps : List Int) {k : Nat} : ∀ {m : Nat}, k ≤ m → hsU gs ps k ≤ hsU gs ps m
  | 0, h => by obtain rfl : k = 0 := by omega
               exact Int.le_refl _
  | m + 1, h => by
    by_cases e : k = m + 1
    · subst e; exact Int.le_refl _
    · exact Int.le_trans (hs_mono' gs ps (by omega)) (hs_mono gs ps m)
/-- What a search over the ways A does to the best one so far. -/
structure Sr (gs rs : List Int) (A : List Int → Prop) (b : Option (List Int)) (f : Int) (b' : Option (List Int)) (f' : Int) : Prop where
  le : f' ≤ f
  low : ∀ t, HFit gs rs t → A t → f' ≤ hsU gs t gs.length
  or : (f' = f ∧ b' = b) ∨ (f' < f ∧ ∃ t, b' = some t ∧ HFit gs rs t ∧ A t ∧ hsU gs t gs.length = f' ∧ ∀ u, HFit gs rs u → A u → hsU gs u gs.length = f' → vl rs.length t ≤ vl rs.length u)
theorem Sr.stay {gs rs : List Int} {A : List Int → Prop} {b : Option (List Int)} {f : Int} (h : ∀ t, HFit gs rs t → A t → f ≤ hsU gs t gs.length) : Sr gs rs A b f b f := ⟨Int.le_refl _, h, .inl ⟨rfl, rfl⟩⟩
theorem Sr.leaf {gs rs t : List Int} {A : List Int → Prop} {b : Option (List Int)} {f : Int} (ht : HFit gs rs t) (hA : A t) (h : ∀ u, HFit gs rs u → A u → u = t) (hf : hsU gs t gs.length < f) : Sr gs rs A b f (some t) (hsU gs t gs.length) :=
  ⟨by omega, fun u hu ha => by rw [h u hu ha]; exact Int.le_refl _, .inr ⟨hf, t, rfl, ht, hA, rfl, fun u hu ha _ => by rw [h u hu ha]; exact Nat.le_refl _⟩⟩
theorem Sr.both {gs rs : List Int} {A1 A2 A : List Int → Prop} {b b1 b2 : Option (List Int)} {f f1 f2 : Int} (h1 : Sr gs rs A1 b f b1 f1) (h2 : Sr gs rs A2 b1 f1 b2 f2) (hA : ∀ t, HFit gs rs t → (A t ↔ A1 t ∨ A2 t))
    (ho : ∀ t u, HFit gs rs t → HFit gs rs u → A1 t → A2 u → vl rs.length t ≤ vl rs.length u) : Sr gs rs A b f b2 f2 := by
  refine ⟨Int.le_trans h2.le h1.le, fun t ht ha => ?_, ?_⟩
  · rcases (hA t ht).1 ha with g | g
    · exact Int.le_trans h2.le (h1.low t ht g)
    · exact h2.low t ht g
  · have k1 := h1.le
    rcases h2.or with ⟨e, e2⟩ | ⟨hl, t, e2, ht, hat, he, hm⟩
    · subst e e2
      rcases h1.or with g | ⟨hl, t, e2, ht, hat, he, hm⟩
      · exact .inl g
      · refine .inr ⟨hl, t, e2, ht, (hA t ht).2 (.inl hat), he, fun u hu ha hue => ?_⟩
        rcases (hA u hu).1 ha with g | g
        · exact hm u hu g hue
        · exact ho t u ht hu hat g
    · refine .inr ⟨by omega, t, e2, ht, (hA t ht).2 (.inr hat), he, fun u hu ha hue => ?_⟩
      rcases (hA u hu).1 ha with g | g
      · have := h1.low u hu g; omega
      · exact hm u hu g hue
theorem Sr.congr {gs rs : List Int} {A A' : List Int → Prop} {b b' : Option (List Int)} {f f' : Int} (h : Sr gs rs A b f b' f') (hA : ∀ t, HFit gs rs t → (A' t ↔ A t)) : Sr gs rs A' b f b' f' := by
  refine ⟨h.le, fun t ht ha => h.low t ht ((hA t ht).1 ha), ?_⟩
  rcases h.or with g | ⟨hl, t, e2, ht, hat, he, hm⟩
  · exact .inl g
  · exact .inr ⟨hl, t, e2, ht, (hA t ht).2 hat, he, fun u hu ha hue => hm u hu ((hA u hu).1 ha) hue⟩
theorem vl_first {n : Nat} : ∀ {k : Nat} {x y : List Int}, x.length = y.length → k < x.length → (∀ c, c ∈ x → 0 ≤ c ∧ c < (n : Int)) → (∀ c, c ∈ y → 0 ≤ c ∧ c < (n : Int)) → (∀ i, i < k → nth x i = nth y i) → nth x k < nth y k → vl n x ≤ vl n y
  | _, [], _, _, h, _, _, _, _ => absurd h (by simp)
  | _, c :: t, [], hl, _, _, _, _, _ => by simp at hl
  | 0, c :: t, d :: u, hl, _, hx, hy, _, h => by
    have hl' : t.length = u.length := by simpa using hl
    have h1 := vl_lt (x := t) fun a ha => hx a (by simp [ha])
    have hc := hx c (by simp)
    have hd := hy d (by simp)
    have h' : c < d := h
    have := Nat.mul_le_mul_right (n ^ u.length) (show c.toNat + 1 ≤ d.toNat from by omega)
    rw [Nat.add_mul, Nat.one_mul] at this
    simp only [vl]
    rw [hl'] at h1 ⊢
    omega
  | k + 1, c :: t, d :: u, hl, hk, hx, hy, he, h => by
    have hl' : t.length = u.length := by simpa using hl
    have e : c = d := he 0 (by omega)
    have ih := vl_first (k := k) (x := t) (y := u) hl' (by simpa using hk) (fun a ha => hx a (by simp [ha])) (fun a ha => hy a (by simp [ha])) (fun i hi => he (i + 1) (by omega)) h
    simp only [vl]
    rw [e, hl']
    omega
theorem HFit.dig {gs rs t : List Int} (h : HFit gs rs t) : ∀ c, c ∈ t → 0 ≤ c ∧ c < (rs.length : Int) := fun c hc => by
  obtain ⟨j, hj, rfl⟩ := mem_nth hc; exact h.2.1.1 j hj
/-- The ways that begin as q does. -/
def Beg (q : List Int) (k : Nat) (t : List Int) : Prop := ∀ i, i < k → nth t i = nth q i
/-- Those of them whose next car is less than c. -/
def BegU (q : List Int) (k c : Nat) (t : List Int) : Prop := Beg q k t ∧ nth t k < c
theorem begU_zero {gs rs q : List Int} {k : Nat} (hk : k < gs.length) {b : Option (List Int)} {f : Int} : Sr gs rs (BegU q k 0) b f b f :=
  Sr.stay fun t ht ha => by have := ht.2.1.1 k (by rw [ht.2.1.2]; exact hk); have := ha.2; omega
theorem begU_all {gs rs q : List Int} {k : Nat} (hk : k < gs.length) {b b' : Option (List Int)} {f f' : Int} (h : Sr gs rs (BegU q k 3) b f b' f') : Sr gs rs (Beg q k) b f b' f' :=
  h.congr fun t ht => ⟨fun g => ⟨g, by have := ht.2.1.1 k (by rw [ht.2.1.2]; exact hk); have := ht.1.2.2.2.2; omega⟩, fun g => g.1⟩
theorem nth_set_same {q : List Int} {k : Nat} {x : Int} (h : k < q.length) : nth (q.set k x) k = x := by simp [nth, List.getD, List.getElem?_set_self h]
theorem nth_set_other {q : List Int} {k i : Nat} {x : Int} (h : i ≠ k) : nth (q.set k x) i = nth q i := by simp [nth, List.getD, List.getElem?_set_ne (fun e => h e.symm)]
/-- Car c is tried. -/
theorem begU_try {gs rs q q2 : List Int} {k c : Nat} (hk : k < gs.length) (hq2 : ∀ i, i < k → nth q2 i = nth q i) (hqk : nth q2 k = c) {b b1 b2 : Option (List Int)} {f f1 f2 : Int} (h1 : Sr gs rs (BegU q k c) b f b1 f1) (h2 : Sr gs rs (Beg q2 (k + 1)) b1 f1 b2 f2) : Sr gs rs (BegU q k (c + 1)) b f b2 f2 := by
  refine h1.both h2 (fun t ht => ⟨fun g => ?_, fun g => ?_⟩) (fun t u ht hu g1 g2 => ?_)
  · by_cases e : nth t k = c
    · refine .inr fun i hi => ?_
      by_cases e2 : i = k
      · subst e2; rw [e, hqk]
      · rw [g.1 i (by omega), hq2 i (by omega)]
    · exact .inl ⟨g.1, by have := g.2; omega⟩
  · rcases g with g | g
    · exact ⟨g.1, by have := g.2; omega⟩
    · exact ⟨fun i hi => by rw [g i (by omega), hq2 i hi], by rw [g k (by omega), hqk]; omega⟩
  · refine vl_first (k := k) (by rw [ht.2.1.2, hu.2.1.2]) (by rw [ht.2.1.2]; exact hk) ht.dig hu.dig (fun i hi => ?_) ?_
    · rw [g1.1 i hi, g2 i (by omega), hq2 i hi]
    · rw [g2 k (by omega), hqk]; exact g1.2
/-- Car c has no room. -/
theorem begU_skip {gs rs q : List Int} {k c : Nat} (hk : k < gs.length) (hr : rmU rs q k c = 0) (hc : c < 3) {b b1 : Option (List Int)} {f f1 : Int} (h1 : Sr gs rs (BegU q k c) b f b1 f1) : Sr gs rs (BegU q k (c + 1)) b f b1 f1 :=
  h1.congr fun t ht => ⟨fun g => ⟨g.1, by
    have h2 := g.2
    have : nth t k ≠ c := fun e => by
      have h3 := (hfit_iff.1 ht).2.2.down (k := k + 1) (by omega)
      exact PFit.full (z := c) ht.1.2.2.2.2 e (.inr (.inr (by rw [Int.toNat_natCast, rm_congr g.1]; exact hr))) h3
    omega⟩, fun g => ⟨g.1, by have := g.2; omega⟩⟩
/-- What the whole search finds. -/
theorem search_done {gs rs : List Int} {q : List Int} {b : Option (List Int)} {f : Int} (hok : HOk gs rs) (h : Sr gs rs (Beg q 0) none 7 b f) : b = hbest gs rs ∧ (decide (f < 7) = (hbest gs rs).isSome) := by
  have hall : ∀ t, Beg q 0 t := fun t i hi => absurd hi (by omega)
  have h6 := hok.2.2.1
  cases e : hbest gs rs with
  | none =>
    have hn := hbest_none e
    rcases h.or with ⟨e1, e2⟩ | ⟨_, t, _, ht, _⟩
    · exact ⟨e2, by rw [e1]; rfl⟩
    · exact absurd ht (hn t)
  | some c =>
    have hb := hbest_some e
    have h1 := h.low c hb.fit (hall c)
    have h2 := (hsU_bd gs c gs.length).2
    rcases h.or with ⟨e1, _⟩ | ⟨hl, t, e2, ht, _, he, hm⟩
    · omega
    · refine ⟨?_, by rw [decide_eq_true (show f < 7 from hl)]; rfl⟩
      rw [e2]
      congr 1
      refine HBest.uniq (gs := gs) (rs := rs) ⟨ht, fun u hu => ?_⟩ hb
      have := h.low u hu (hall u)
      by_cases g : hsU gs u gs.length = f
      · exact .inr ⟨by omega, hm u hu (hall u) g⟩
      · exact .inl (by omega)
end Go.Proofs.Yteeokegkbhpbcaa
