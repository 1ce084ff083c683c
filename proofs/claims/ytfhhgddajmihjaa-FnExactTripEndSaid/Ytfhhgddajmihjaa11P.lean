/- The mathematics of trips: calls of riders, a stop, all stops. -/
import Derived.Test.Ytfhhgddajmihjaa9P
namespace Go.Proofs.Ytfhhgddajmihjaa
open Go.RowKit
set_option linter.unusedVariables false
set_option linter.unusedSimpArgs false
set_option maxRecDepth 100000

/-- A rider: from, to, state. -/
structure Ri where
  a : Int
  b : Int
  s : Int
def rdir (r : Ri) : Int := if r.b > r.a then 1 else -1
/-- How many are in the car. -/
def ins : List Ri → Nat
  | [] => 0
  | r :: l => (if r.s = 1 then 1 else 0) + ins l
theorem ins_app (l m : List Ri) : ins (l ++ m) = ins l + ins m := by
  induction l with
  | nil => simp [ins]
  | cons r l ih => simp only [List.cons_append, ins, ih]; omega
theorem ins_le (l : List Ri) : ins l ≤ l.length := by
  induction l with
  | nil => simp [ins]
  | cons r l ih => simp only [ins, List.length_cons]; split <;> omega
def ROk (n f d : Int) (r : Ri) : Prop := (0 ≤ r.a ∧ r.a < n) ∧ (0 ≤ r.b ∧ r.b < n) ∧ r.a ≠ r.b ∧ (0 ≤ r.s ∧ r.s ≤ 2) ∧ (r.s = 1 → rdir r = d ∧ 0 ≤ d * (f - r.a) ∧ 0 < d * (r.b - f))
structure Tp where
  n : Int
  m : Int
  f : Int
  d : Int
  rs : List Ri
def TOk (t : Tp) : Prop := (1 ≤ t.n ∧ t.n ≤ 8) ∧ (1 ≤ t.m ∧ t.m ≤ 8) ∧ (0 ≤ t.f ∧ t.f < t.n) ∧ (t.d = 1 ∨ t.d = -1) ∧ t.rs.length ≤ 8 ∧ (∀ r, r ∈ t.rs → ROk t.n t.f t.d r) ∧ (ins t.rs : Int) ≤ t.m
noncomputable def tokB (t : Tp) : Bool := tr (TOk t)
theorem tokB_t {t : Tp} (h : TOk t) : tokB t = true := tr_true h
theorem tokB_f {t : Tp} (h : ¬ TOk t) : tokB t = false := tr_false h
/-- The call of a rider. -/
def rcall (full : Bool) (x : Cs) (r : Ri) : Cs := if r.s = 1 then cput x 2 r.b.toNat true else if r.s = 0 ∧ full = false ∧ r.b > r.a then cput x 0 r.a.toNat true else if r.s = 0 ∧ full = false then cput x 1 r.a.toNat true else x
def fullB (t : Tp) : Bool := decide (t.m ≤ (ins t.rs : Int))
def tcl (t : Tp) : Cs := t.rs.foldl (rcall (fullB t)) (cn t.n.toNat)
noncomputable def tclT (t : Tp) : Cs := @ite _ (TOk t) (Classical.propDecidable _) (tcl t) cz
theorem rcall_len (full : Bool) (x : Cs) (r : Ri) : (rcall full x r).u.length = x.u.length ∧ (rcall full x r).d.length = x.d.length ∧ (rcall full x r).c.length = x.c.length := by
  unfold rcall
  split
  · exact cput_len _ _ _ _
  split
  · exact cput_len _ _ _ _
  split
  · exact cput_len _ _ _ _
  exact ⟨rfl, rfl, rfl⟩
theorem fold_len (full : Bool) : ∀ (l : List Ri) (x : Cs), (l.foldl (rcall full) x).u.length = x.u.length ∧ (l.foldl (rcall full) x).d.length = x.d.length ∧ (l.foldl (rcall full) x).c.length = x.c.length
  | [], x => ⟨rfl, rfl, rfl⟩
  | r :: l, x => by
    have h := fold_len full l (rcall full x r)
    have k := rcall_len full x r
    simp only [List.foldl_cons]
    exact ⟨h.1.trans k.1, h.2.1.trans k.2.1, h.2.2.trans k.2.2⟩
theorem cput_u (x : Cs) (k : Int) (j i : Nat) (h : k ≠ 0) : bn (cput x k j true).u i = bn x.u i := by unfold cput; rw [if_neg h]; split <;> rfl
theorem cput_d (x : Cs) (k : Int) (j i : Nat) (h : k ≠ 1) : bn (cput x k j true).d i = bn x.d i := by unfold cput; split <;> first | rfl | (rw [if_neg h])
theorem cput_cc (x : Cs) (k : Int) (j i : Nat) (h : k ≠ 2) (h2 : k = 0 ∨ k = 1) : bn (cput x k j true).c i = bn x.c i := by
  unfold cput
  rcases h2 with rfl | rfl <;> rfl
theorem fold_at (full : Bool) (n : Nat) : ∀ (l : List Ri) (x : Cs), x.u.length = n → x.d.length = n → x.c.length = n → (∀ r, r ∈ l → (0 ≤ r.a ∧ r.a < n) ∧ (0 ≤ r.b ∧ r.b < n)) → ∀ i : Nat,
    (bn (l.foldl (rcall full) x).c i = true ↔ bn x.c i = true ∨ ∃ r, r ∈ l ∧ r.s = 1 ∧ r.b = i) ∧
    (bn (l.foldl (rcall full) x).u i = true ↔ bn x.u i = true ∨ ∃ r, r ∈ l ∧ r.s = 0 ∧ full = false ∧ r.b > r.a ∧ r.a = i) ∧
    (bn (l.foldl (rcall full) x).d i = true ↔ bn x.d i = true ∨ ∃ r, r ∈ l ∧ r.s = 0 ∧ full = false ∧ ¬ r.b > r.a ∧ r.a = i)
  | [], x, _, _, _, _, i => by simp
  | r :: l, x, h1, h2, h3, hl, i => by
    obtain ⟨k1, k2, k3⟩ := rcall_len full x r
    have hr := hl r (by simp)
    have ih := fold_at full n l (rcall full x r) (k1.trans h1) (k2.trans h2) (k3.trans h3) (fun q hq => hl q (by simp [hq])) i
    simp only [List.foldl_cons]
    have ec : bn (rcall full x r).c i = true ↔ bn x.c i = true ∨ (r.s = 1 ∧ r.b = i) := by
      unfold rcall
      by_cases g : r.s = 1
      · rw [if_pos g]
        show bn (x.c.set r.b.toNat true) i = true ↔ _
        rw [bn_set _ _ (by omega)]
        by_cases e : i = r.b.toNat
        · rw [if_pos e]; constructor
          · intro _; exact .inr ⟨g, by omega⟩
          · intro _; rfl
        · rw [if_neg e]; constructor
          · exact .inl
          · rintro (h | ⟨_, h⟩)
            · exact h
            · omega
      · rw [if_neg g]
        have : ∀ y : Cs, (bn y.c i = bn x.c i) → (bn y.c i = true ↔ bn x.c i = true ∨ (r.s = 1 ∧ r.b = i)) := fun y hy => by
          rw [hy]; exact ⟨.inl, fun h => h.elim id fun h => absurd h.1 g⟩
        split
        · exact this _ (cput_cc _ _ _ _ (by omega) (.inl rfl))
        split
        · exact this _ (cput_cc _ _ _ _ (by omega) (.inr rfl))
        exact this _ rfl
    have eu : bn (rcall full x r).u i = true ↔ bn x.u i = true ∨ (r.s = 0 ∧ full = false ∧ r.b > r.a ∧ r.a = i) := by
      unfold rcall
      by_cases g : r.s = 1
      · rw [if_pos g, cput_u _ _ _ _ (by omega)]
        exact ⟨.inl, fun h => h.elim id fun h => by omega⟩
      · rw [if_neg g]
        by_cases g2 : r.s = 0 ∧ full = false ∧ r.b > r.a
        · rw [if_pos g2]
          show bn (x.u.set r.a.toNat true) i = true ↔ _
          rw [bn_set _ _ (by omega)]
          by_cases e : i = r.a.toNat
          · rw [if_pos e]; constructor
            · intro _; exact .inr ⟨g2.1, g2.2.1, g2.2.2, by omega⟩
            · intro _; rfl
          · rw [if_neg e]; constructor
            · exact .inl
            · rintro (h | ⟨_, _, _, h⟩)
              · exact h
              · omega
        · rw [if_neg g2]
          split
          · rw [cput_u _ _ _ _ (by omega)]
            exact ⟨.inl, fun h => h.elim id fun h => absurd ⟨h.1, h.2.1, h.2.2.1⟩ g2⟩
          · exact ⟨.inl, fun h => h.elim id fun h => absurd ⟨h.1, h.2.1, h.2.2.1⟩ g2⟩
    have ed : bn (rcall full x r).d i = true ↔ bn x.d i = true ∨ (r.s = 0 ∧ full = false ∧ ¬ r.b > r.a ∧ r.a = i) := by
      unfold rcall
      by_cases g : r.s = 1
      · rw [if_pos g, cput_d _ _ _ _ (by omega)]
        exact ⟨.inl, fun h => h.elim id fun h => by omega⟩
      · rw [if_neg g]
        by_cases g2 : r.s = 0 ∧ full = false ∧ r.b > r.a
        · rw [if_pos g2, cput_d _ _ _ _ (by omega)]
          exact ⟨.inl, fun h => h.elim id fun h => absurd g2.2.2 h.2.2.1⟩
        · rw [if_neg g2]
          by_cases g3 : r.s = 0 ∧ full = false
          · rw [if_pos g3]
            have hba : ¬ r.b > r.a := fun h => g2 ⟨g3.1, g3.2, h⟩
            show bn (x.d.set r.a.toNat true) i = true ↔ _
            rw [bn_set _ _ (by omega)]
            by_cases e : i = r.a.toNat
            · rw [if_pos e]; constructor
              · intro _; exact .inr ⟨g3.1, g3.2, hba, by omega⟩
              · intro _; rfl
            · rw [if_neg e]; constructor
              · exact .inl
              · rintro (h | ⟨_, _, _, h⟩)
                · exact h
                · omega
          · rw [if_neg g3]
            exact ⟨.inl, fun h => h.elim id fun h => absurd ⟨h.1, h.2.1⟩ g3⟩
    refine ⟨ih.1.trans ?_, ih.2.1.trans ?_, ih.2.2.trans ?_⟩
    · rw [ec]
      constructor
      · rintro ((h | h) | ⟨q, hq, h⟩)
        · exact .inl h
        · exact .inr ⟨r, by simp, h⟩
        · exact .inr ⟨q, by simp [hq], h⟩
      · rintro (h | ⟨q, hq, h⟩)
        · exact .inl (.inl h)
        · rcases List.mem_cons.1 hq with rfl | hq
          · exact .inl (.inr h)
          · exact .inr ⟨q, hq, h⟩
    · rw [eu]
      constructor
      · rintro ((h | h) | ⟨q, hq, h⟩)
        · exact .inl h
        · exact .inr ⟨r, by simp, h⟩
        · exact .inr ⟨q, by simp [hq], h⟩
      · rintro (h | ⟨q, hq, h⟩)
        · exact .inl (.inl h)
        · rcases List.mem_cons.1 hq with rfl | hq
          · exact .inl (.inr h)
          · exact .inr ⟨q, hq, h⟩
    · rw [ed]
      constructor
      · rintro ((h | h) | ⟨q, hq, h⟩)
        · exact .inl h
        · exact .inr ⟨r, by simp, h⟩
        · exact .inr ⟨q, by simp [hq], h⟩
      · rintro (h | ⟨q, hq, h⟩)
        · exact .inl (.inl h)
        · rcases List.mem_cons.1 hq with rfl | hq
          · exact .inl (.inr h)
          · exact .inr ⟨q, hq, h⟩
theorem tcl_at {t : Tp} (h : TOk t) (i : Nat) :
    (bn (tcl t).c i = true ↔ ∃ r, r ∈ t.rs ∧ r.s = 1 ∧ r.b = i) ∧
    (bn (tcl t).u i = true ↔ ∃ r, r ∈ t.rs ∧ r.s = 0 ∧ fullB t = false ∧ r.b > r.a ∧ r.a = i) ∧
    (bn (tcl t).d i = true ↔ ∃ r, r ∈ t.rs ∧ r.s = 0 ∧ fullB t = false ∧ ¬ r.b > r.a ∧ r.a = i) := by
  have := fold_at (fullB t) t.n.toNat t.rs (cn t.n.toNat) (by simp [cn]) (by simp [cn]) (by simp [cn]) (fun r hr => by
    have := h.2.2.2.2.2.1 r hr
    have := this.1
    have := (h.2.2.2.2.2.1 r hr).2.1
    omega) i
  unfold tcl
  have e : bn (cn t.n.toNat).c i = false ∧ bn (cn t.n.toNat).u i = false ∧ bn (cn t.n.toNat).d i = false := ⟨bn_rep _ _, bn_rep _ _, bn_rep _ _⟩
  rw [e.1, e.2.1, e.2.2] at this
  simpa using this
theorem tcl_len (t : Tp) : (tcl t).u.length = t.n.toNat ∧ (tcl t).d.length = t.n.toNat ∧ (tcl t).c.length = t.n.toNat := by
  have := fold_len (fullB t) t.rs (cn t.n.toNat)
  unfold tcl
  simpa [cn] using this
theorem tcl_ok {t : Tp} (h : TOk t) : CV (tcl t) := by
  obtain ⟨l1, l2, l3⟩ := tcl_len t
  have h1 := h.1
  refine ⟨by omega, by omega, by omega, by omega, ?_, ?_⟩
  · cases e : bn (tcl t).u ((tcl t).c.length - 1) with
    | false => rfl
    | true =>
      obtain ⟨r, hr, _, _, g1, g2⟩ := (tcl_at h _).2.1.1 e
      have := (h.2.2.2.2.2.1 r hr).2.1
      omega
  · cases e : bn (tcl t).d 0 with
    | false => rfl
    | true =>
      obtain ⟨r, hr, _, _, g1, g2⟩ := (tcl_at h _).2.2.1 e
      have := (h.2.2.2.2.2.1 r hr).2.1
      have := (h.2.2.2.2.2.1 r hr).2.2.1
      omega
/-- Who gets out, who gets in. -/
def gout (k : Int) (r : Ri) : Ri := if r.s = 1 ∧ r.b = k then ⟨r.a, r.b, 2⟩ else r
def gin (m k D : Int) : Nat → List Ri → List Ri
  | _, [] => []
  | c, r :: l => if r.s = 0 ∧ r.a = k ∧ rdir r = D ∧ (c : Int) < m then ⟨r.a, r.b, 1⟩ :: gin m k D (c + 1) l else r :: gin m k D c l
def goR (m k D : Int) (l : List Ri) : List Ri := gin m k D (ins (l.map (gout k))) (l.map (gout k))
def tnx (t : Tp) : Option (Nat × Bool) := nx (tcl t) t.f.toNat (decide (t.d = 1))
def stp (t : Tp) (r : Nat × Bool) : Tp := ⟨t.n, t.m, r.1, dI r.2, goR t.m r.1 (dI r.2) t.rs⟩
theorem gin_len (m k D : Int) : ∀ (l : List Ri) (c : Nat), (gin m k D c l).length = l.length
  | [], _ => rfl
  | r :: l, c => by unfold gin; split <;> simp [gin_len]
theorem goR_len (m k D : Int) (l : List Ri) : (goR m k D l).length = l.length := by unfold goR; rw [gin_len, List.length_map]
/-- How much there is to do. -/
def phi : List Ri → Int
  | [] => 0
  | r :: l => (2 - r.s) + phi l
theorem gin_mem (m k D : Int) : ∀ (l : List Ri) (c : Nat) (q : Ri), q ∈ gin m k D c l → ∃ r, r ∈ l ∧ (q = r ∨ (r.s = 0 ∧ r.a = k ∧ rdir r = D ∧ q = ⟨r.a, r.b, 1⟩))
  | [], _, q, h => by simp [gin] at h
  | r :: l, c, q, h => by
    unfold gin at h
    split at h
    · rename_i g
      rcases List.mem_cons.1 h with rfl | h
      · exact ⟨r, by simp, .inr ⟨g.1, g.2.1, g.2.2.1, rfl⟩⟩
      · obtain ⟨r', h1, h2⟩ := gin_mem m k D l _ q h
        exact ⟨r', by simp [h1], h2⟩
    · rcases List.mem_cons.1 h with rfl | h
      · exact ⟨q, by simp, .inl rfl⟩
      · obtain ⟨r', h1, h2⟩ := gin_mem m k D l _ q h
        exact ⟨r', by simp [h1], h2⟩
theorem gin_ins (m k D : Int) : ∀ (l : List Ri) (c : Nat), (c : Int) ≤ m → ∃ j : Nat, ins (gin m k D c l) = ins l + j ∧ ((c : Int) + j ≤ m)
  | [], c, h => ⟨0, by simp [gin, ins], by omega⟩
  | r :: l, c, h => by
    unfold gin
    split
    · rename_i g
      obtain ⟨j, h1, h2⟩ := gin_ins m k D l (c + 1) (by omega)
      refine ⟨j + 1, ?_, by omega⟩
      simp only [ins, h1]
      rw [if_pos trivial, if_neg (by omega)]
      omega
    · obtain ⟨j, h1, h2⟩ := gin_ins m k D l c h
      refine ⟨j, ?_, h2⟩
      simp only [ins, h1]
      omega
theorem gout_ins (k : Int) (l : List Ri) : ins (l.map (gout k)) ≤ ins l := by
  induction l with
  | nil => simp [ins]
  | cons r l ih =>
    simp only [List.map_cons, ins]
    have : (if (gout k r).s = 1 then 1 else 0) ≤ (if r.s = 1 then 1 else 0) := by
      by_cases g : r.s = 1 ∧ r.b = k
      · have e : (gout k r).s = 2 := by unfold gout; rw [if_pos g]
        rw [e, if_neg (by omega)]; omega
      · have e : gout k r = r := by unfold gout; rw [if_neg g]
        rw [e]; exact Nat.le_refl _
    omega
theorem goR_ins {m k D : Int} {l : List Ri} (h : (ins l : Int) ≤ m) : (ins (goR m k D l) : Int) ≤ m := by
  have h1 := gout_ins k l
  obtain ⟨j, h2, h3⟩ := gin_ins m k D (l.map (gout k)) (ins (l.map (gout k))) (by omega)
  unfold goR
  omega
theorem gout_phi (k : Int) : ∀ l : List Ri, phi (l.map (gout k)) ≤ phi l ∧ ((∃ r, r ∈ l ∧ r.s = 1 ∧ r.b = k) → phi (l.map (gout k)) + 1 ≤ phi l)
  | [] => ⟨by simp [phi], fun ⟨r, h, _⟩ => by cases h⟩
  | r :: l => by
    obtain ⟨h1, h2⟩ := gout_phi k l
    simp only [List.map_cons, phi]
    by_cases g : r.s = 1 ∧ r.b = k
    · have e : (gout k r).s = 2 := by unfold gout; rw [if_pos g]
      rw [e]
      exact ⟨by omega, fun _ => by omega⟩
    · have e : gout k r = r := by unfold gout; rw [if_neg g]
      rw [e]
      refine ⟨by omega, fun ⟨q, hq, h⟩ => ?_⟩
      rcases List.mem_cons.1 hq with rfl | hq
      · exact absurd h g
      · have := h2 ⟨q, hq, h⟩; omega
theorem gin_phi (m k D : Int) : ∀ (l : List Ri) (c : Nat), phi (gin m k D c l) ≤ phi l ∧ ((∃ r, r ∈ l ∧ r.s = 0 ∧ r.a = k ∧ rdir r = D) → (c : Int) < m → phi (gin m k D c l) + 1 ≤ phi l)
  | [], c => ⟨by simp [gin], fun ⟨r, h, _⟩ => by cases h⟩
  | r :: l, c => by
    unfold gin
    split
    · rename_i g
      have h1 := (gin_phi m k D l (c + 1)).1
      simp only [phi]
      exact ⟨by omega, fun _ _ => by omega⟩
    · rename_i g
      obtain ⟨h1, h2⟩ := gin_phi m k D l c
      simp only [phi]
      refine ⟨by omega, fun ⟨q, hq, h⟩ hc => ?_⟩
      rcases List.mem_cons.1 hq with rfl | hq
      · exact absurd ⟨h.1, h.2.1, h.2.2, hc⟩ g
      · have := h2 ⟨q, hq, h⟩ hc; omega
theorem dI_of {d : Int} (h : d = 1 ∨ d = -1) : dI (decide (d = 1)) = d := by rcases h with rfl | rfl <;> rfl
theorem fl_nat {t : Tp} (h : TOk t) : ((t.f.toNat : Nat) : Int) = t.f ∧ t.f.toNat < (tcl t).c.length := by
  have h1 := h.2.2.1
  have := (tcl_len t).2.2
  exact ⟨by omega, by omega⟩
theorem tnx_none {t : Tp} (h : TOk t) (e : tnx t = none) : (∀ r, r ∈ t.rs → r.s = 2) ∧ cm (tcl t) = 0 := by
  have hf := (fl_nat h).2
  have hl := (tcl_len t).2.2
  unfold tnx at e
  rcases nx_spec (tcl t) t.f.toNat (decide (t.d = 1)) hf with ⟨-, -, -, hn⟩ | ⟨k, u, e2, -⟩
  · have noin : ∀ r, r ∈ t.rs → r.s ≠ 1 := fun r hr hs => by
      have hb := (h.2.2.2.2.2.1 r hr).2.1
      have h1 := (hn r.b.toNat (by omega)).1
      have h2 := ((tcl_at h r.b.toNat).1).2 ⟨r, hr, hs, by omega⟩
      rw [h1] at h2; cases h2
    have i0 : ins t.rs = 0 := by
      have key : ∀ l : List Ri, (∀ r, r ∈ l → r.s ≠ 1) → ins l = 0 := by
        intro l
        induction l with
        | nil => intro _; rfl
        | cons r l ih => intro hl; simp only [ins]; rw [if_neg (hl r (by simp)), ih fun q hq => hl q (by simp [hq])]
      exact key _ noin
    have hfull : fullB t = false := by unfold fullB; rw [i0]; have := h.2.1.1; simp; omega
    refine ⟨fun r hr => ?_, cm_zero (tcl_ok h) hn⟩
    have hv := h.2.2.2.2.2.1 r hr
    have h3 := noin r hr
    by_cases h0 : r.s = 0
    · exfalso
      have ha := (hn r.a.toNat (by have := hv.1; omega))
      by_cases g : r.b > r.a
      · have h2 := ((tcl_at h r.a.toNat).2.1).2 ⟨r, hr, h0, hfull, g, by have := hv.1; omega⟩
        rw [ha.2.1] at h2; cases h2
      · have h2 := ((tcl_at h r.a.toNat).2.2).2 ⟨r, hr, h0, hfull, g, by have := hv.1; omega⟩
        rw [ha.2.2] at h2; cases h2
    · have := hv.2.2.2.1
      omega
  · rw [e] at e2; cases e2
theorem tnx_in {t : Tp} {k : Nat} {u : Bool} {r : Ri} (h : TOk t) (e : tnx t = some (k, u)) (hr : r ∈ t.rs) (hs : r.s = 1) : dI u = t.d ∧ 0 ≤ t.d * ((k : Int) - t.f) ∧ 0 ≤ t.d * (r.b - k) := by
  obtain ⟨hf1, hf⟩ := fl_nat h
  have hl := (tcl_len t).2.2
  have hd := h.2.2.2.1
  obtain ⟨hva, hvb, hvn, hvs, hvi⟩ := h.2.2.2.2.2.1 r hr
  obtain ⟨i1, i2, i3⟩ := hvi hs
  obtain ⟨up, hup⟩ : ∃ up, decide (t.d = 1) = up := ⟨_, rfl⟩
  have hon : On up t.f.toNat r.b.toNat := by
    rw [← hup]
    rcases hd with hd | hd
    · rw [hd] at i3 ⊢; exact ⟨fun _ => by omega, fun h => by simp at h⟩
    · rw [hd] at i3 ⊢; exact ⟨fun h => by simp at h, fun _ => by omega⟩
  have hpc : pc (tcl t) up r.b.toNat = true := by
    unfold pc
    rw [((tcl_at h r.b.toNat).1).2 ⟨r, hr, hs, by omega⟩]; rfl
  unfold tnx at e
  rw [hup] at e
  unfold nx at e
  rcases nx1_spec (tcl t) t.f.toNat up hf with ⟨-, -, -, hn⟩ | ⟨k', e2, -, h1, h2, h3, h4⟩ | ⟨k', -, -, -, -, -, -, hn, -⟩
  · have := (hn r.b.toNat (by omega) hon).1
    rw [hpc] at this; cases this
  · rw [e2] at e
    simp only [Option.some.injEq, Prod.mk.injEq] at e
    obtain ⟨rfl, rfl⟩ := e
    have h5 : ¬ (On up r.b.toNat k' ∧ r.b.toNat ≠ k') := fun g => by
      have := h4 r.b.toNat hon g.1 g.2
      rw [hpc] at this; cases this
    refine ⟨by rw [← hup]; exact dI_of hd, ?_⟩
    rcases hd with hd | hd
    · have hu : up = true := by rw [← hup, hd]; rfl
      subst hu
      rw [hd]
      have := h2.1 rfl
      have h6 : ¬ (r.b.toNat < k') := fun g => h5 ⟨⟨fun _ => by omega, fun h => by cases h⟩, by omega⟩
      omega
    · have hu : up = false := by rw [← hup, hd]; rfl
      subst hu
      rw [hd]
      have := h2.2 rfl
      have h6 : ¬ (k' < r.b.toNat) := fun g => h5 ⟨⟨(fun h => by cases h), fun _ => by omega⟩, by omega⟩
      omega
  · have := hn r.b.toNat (by omega) hon
    rw [hpc] at this; cases this
theorem phi_ge {n f d : Int} : ∀ l : List Ri, (∀ r, r ∈ l → ROk n f d r) → 0 ≤ phi l
  | [], _ => Int.le_refl _
  | r :: l, h => by
    have h1 := phi_ge l fun q hq => h q (by simp [hq])
    have h2 := (h r (by simp)).2.2.2.1
    unfold phi; omega
theorem stp_ok {t : Tp} {k : Nat} {u : Bool} (h : TOk t) (e : tnx t = some (k, u)) : (k : Int) < t.n ∧ TOk (stp t (k, u)) ∧ phi (stp t (k, u)).rs + 1 ≤ phi t.rs := by
  obtain ⟨hf1, hf⟩ := fl_nat h
  have hl := (tcl_len t).2.2
  have hk : k < (tcl t).c.length ∧ pc (tcl t) u k = true := by
    unfold tnx at e
    rcases nx_spec (tcl t) t.f.toNat (decide (t.d = 1)) hf with ⟨e2, -⟩ | ⟨k', u', e2, h1, h2⟩
    · rw [e] at e2; cases e2
    · rw [e] at e2
      simp only [Option.some.injEq, Prod.mk.injEq] at e2
      obtain ⟨rfl, rfl⟩ := e2
      exact ⟨h1, h2⟩
  have h1 := h.1
  have hkn : (k : Int) < t.n := by omega
  have hdu : dI u = 1 ∨ dI u = -1 := by cases u <;> simp [dI]
  refine ⟨hkn, ⟨h.1, h.2.1, ⟨by show (0 : Int) ≤ k; omega, hkn⟩, hdu, ?_, ?_, goR_ins h.2.2.2.2.2.2⟩, ?_⟩
  · show (goR _ _ _ _).length ≤ 8
    rw [goR_len]; exact h.2.2.2.2.1
  · intro q hq
    show ROk t.n k (dI u) q
    obtain ⟨r1, hr1, hq1⟩ := gin_mem _ _ _ _ _ q hq
    obtain ⟨r, hr, rfl⟩ := List.mem_map.1 hr1
    have hv := h.2.2.2.2.2.1 r hr
    rcases hq1 with rfl | ⟨g1, g2, g3, rfl⟩
    · unfold gout
      split
      · exact ⟨hv.1, hv.2.1, hv.2.2.1, ⟨by show (0 : Int) ≤ 2; omega, by show (2 : Int) ≤ 2; omega⟩, fun h => by have : (2 : Int) = 1 := h; omega⟩
      · rename_i g
        refine ⟨hv.1, hv.2.1, hv.2.2.1, hv.2.2.2.1, fun hs => ?_⟩
        obtain ⟨t1, t2, t3⟩ := tnx_in h e hr hs
        obtain ⟨i1, i2, i3⟩ := hv.2.2.2.2 hs
        have hne : r.b ≠ k := fun e => g ⟨hs, e⟩
        rw [t1]
        refine ⟨i1, ?_, ?_⟩
        · rcases h.2.2.2.1 with hd | hd <;> rw [hd] at i2 t2 ⊢ <;> omega
        · rcases h.2.2.2.1 with hd | hd <;> rw [hd] at t3 ⊢ <;> omega
    · have g0 : r.s = 0 ∧ gout k r = r := by
        unfold gout at g1 ⊢
        split at g1
        · exact absurd g1 (by show ¬ (2 : Int) = 0; omega)
        · rename_i g; exact ⟨g1, by rw [if_neg g]⟩
      rw [g0.2] at g2 g3 ⊢
      refine ⟨hv.1, hv.2.1, hv.2.2.1, ⟨by show (0 : Int) ≤ 1; omega, by show (1 : Int) ≤ 2; omega⟩, fun _ => ⟨g3, ?_, ?_⟩⟩
      · show 0 ≤ dI u * ((k : Int) - r.a)
        rw [g2, Int.sub_self, Int.mul_zero]; exact Int.le_refl _
      · show 0 < dI u * (r.b - (k : Int))
        rw [← g2, ← g3]
        unfold rdir
        have := hv.2.2.1
        split <;> omega
  · show phi (goR t.m (k : Int) (dI u) t.rs) + 1 ≤ phi t.rs
    have p1 := gout_phi k t.rs
    have p2 := gin_phi t.m k (dI u) (t.rs.map (gout k)) (ins (t.rs.map (gout k)))
    unfold goR
    have hpc := hk.2
    unfold pc at hpc
    rw [Bool.or_eq_true] at hpc
    by_cases hc : bn (tcl t).c k = true
    · obtain ⟨r, hr, hs, hb⟩ := ((tcl_at h k).1).1 hc
      have := p1.2 ⟨r, hr, hs, hb⟩
      have := p2.1
      omega
    · have hh := hpc.resolve_left hc
      have cand : ∃ r, r ∈ t.rs ∧ r.s = 0 ∧ fullB t = false ∧ r.a = k ∧ rdir r = dI u := by
        cases u
        · simp only [Bool.false_eq_true, if_false] at hh
          obtain ⟨r, hr, g1, g2, g3, g4⟩ := ((tcl_at h k).2.2).1 hh
          exact ⟨r, hr, g1, g2, g4, by unfold rdir; rw [if_neg g3]; rfl⟩
        · simp only [if_true] at hh
          obtain ⟨r, hr, g1, g2, g3, g4⟩ := ((tcl_at h k).2.1).1 hh
          exact ⟨r, hr, g1, g2, g4, by unfold rdir; rw [if_pos g3]; rfl⟩
      obtain ⟨r, hr, g1, g2, g3, g4⟩ := cand
      have hfull : ¬ t.m ≤ (ins t.rs : Int) := by unfold fullB at g2; simpa using g2
      have hle := gout_ins k t.rs
      have e : gout k r = r := by unfold gout; rw [if_neg (fun g => by omega)]
      have := p2.2 ⟨r, List.mem_map.2 ⟨r, hr, e⟩, g1, g3, g4⟩ (by omega)
      have := p1.1
      omega
theorem stp_ok' {t : Tp} {r : Nat × Bool} (h : TOk t) (e : tnx t = some r) : (r.1 : Int) < t.n ∧ TOk (stp t r) ∧ phi (stp t r).rs + 1 ≤ phi t.rs := stp_ok (k := r.1) (u := r.2) h e
/-- All stops. -/
def tsn : Nat → Tp → Nat
  | 0, _ => 0
  | m + 1, t => match tnx t with
    | none => 0
    | some r => 1 + tsn m (stp t r)
def ten : Nat → Tp → Tp
  | 0, t => t
  | m + 1, t => match tnx t with
    | none => t
    | some r => ten m (stp t r)
theorem tsn_more : ∀ (m : Nat) (t : Tp), TOk t → phi t.rs ≤ m → tsn (m + 1) t = tsn m t
  | 0, t, h, hp => by
    unfold tsn
    cases e : tnx t with
    | none => rfl
    | some r =>
      exfalso
      obtain ⟨-, h2, h3⟩ := stp_ok' h e
      have := phi_ge _ h2.2.2.2.2.2.1
      omega
  | m + 1, t, h, hp => by
    cases e : tnx t with
    | none => simp [tsn, e]
    | some r =>
      obtain ⟨-, h2, h3⟩ := stp_ok' h e
      have ih := tsn_more m (stp t r) h2 (by omega)
      rw [show tsn (m + 1 + 1) t = 1 + tsn (m + 1) (stp t r) from by rw [tsn]; rw [e], show tsn (m + 1) t = 1 + tsn m (stp t r) from by rw [tsn]; rw [e], ih]
theorem tsn_le : ∀ (m : Nat) (t : Tp), TOk t → (tsn m t : Int) ≤ phi t.rs
  | 0, t, h => phi_ge _ h.2.2.2.2.2.1
  | m + 1, t, h => by
    unfold tsn
    cases e : tnx t with
    | none => exact phi_ge _ h.2.2.2.2.2.1
    | some r =>
      obtain ⟨-, h2, h3⟩ := stp_ok' h e
      have := tsn_le m (stp t r) h2
      show ((1 + tsn m (stp t r) : Nat) : Int) ≤ _
      omega
theorem phi_top {n f d : Int} : ∀ l : List Ri, (∀ r, r ∈ l → ROk n f d r) → phi l ≤ 2 * l.length
  | [], _ => by simp [phi]
  | r :: l, h => by
    have h1 := phi_top l fun q hq => h q (by simp [hq])
    have h2 := (h r (by simp)).2.2.2.1
    unfold phi; rw [List.length_cons]; omega
theorem ten_ok : ∀ (m : Nat) (t : Tp), TOk t → TOk (ten m t) ∧ (ten m t).rs.length = t.rs.length ∧ (phi t.rs ≤ m → tnx (ten m t) = none)
  | 0, t, h => ⟨h, rfl, fun hp => by
    cases e : tnx t with
    | none => exact e
    | some r =>
      exfalso
      obtain ⟨-, h2, h3⟩ := stp_ok' h e
      have := phi_ge _ h2.2.2.2.2.2.1
      omega⟩
  | m + 1, t, h => by
    unfold ten
    cases e : tnx t with
    | none => exact ⟨h, rfl, fun _ => e⟩
    | some r =>
      obtain ⟨-, h2, h3⟩ := stp_ok' h e
      obtain ⟨k1, k2, k3⟩ := ten_ok m (stp t r) h2
      exact ⟨k1, k2.trans (goR_len _ _ _ _), fun hp => k3 (by omega)⟩
end Go.Proofs.Ytfhhgddajmihjaa
