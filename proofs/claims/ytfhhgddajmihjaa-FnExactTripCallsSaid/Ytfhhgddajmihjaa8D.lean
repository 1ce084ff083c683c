/- CallsValid, CallsNone of impl. -/
import Derived.Test.Ytfhhgddajmihjaa8C
namespace Go.Proofs.Ytfhhgddajmihjaa
open Go.RowKit
set_option linter.unusedVariables false
set_option linter.unusedSimpArgs false
set_option maxRecDepth 100000

theorem nw_pe (f : Nat → Bool) {n : Nat} (h1 : 1 ≤ n) (h8 : n ≤ 8) : nw (pe f n) = !(f (n - 1) || f 8) := by
  unfold nw
  congr 1
  rw [Bool.eq_iff_iff]
  constructor
  · intro h
    obtain ⟨i, hi, h⟩ := List.any_eq_true.1 h
    unfold pe at h
    split at h
    · simp [h]
    · split at h
      · simp [h]
      · cases h
  · intro h
    rw [Bool.or_eq_true] at h
    refine List.any_eq_true.2 ?_
    rcases h with h | h
    · exact ⟨n - 1, List.mem_range.2 (by omega), by unfold pe; rw [if_pos rfl]; exact h⟩
    · exact ⟨8, List.mem_range.2 (by omega), by unfold pe; rw [if_neg (by omega), if_pos rfl]; exact h⟩
theorem nw_cv {x : Cs} {n : Nat} (h1 : 1 ≤ n) (h8 : n ≤ 8) (l1 : x.u.length = n) (l2 : x.d.length = n) (l3 : x.c.length = n) : nw (pe (rw3 x) n) = cvB x := by
  rw [nw_pe _ h1 h8]
  have e1 : rw3 x (n - 1) = bn x.u (n - 1) := by unfold rw3; rw [if_pos (by omega)]
  have e2 : rw3 x 8 = bn x.d 0 := by unfold rw3; rw [if_neg (by omega), if_pos (by omega)]
  rw [e1, e2]
  cases a : bn x.u (n - 1)
  · cases b : bn x.d 0
    · rw [cvB_t ⟨by omega, by omega, by omega, by omega, by rw [l3]; exact a, b⟩]; rfl
    · rw [cvB_f (fun h => by have := h.2.2.2.2.2; rw [b] at this; cases this)]; rfl
  · rw [cvB_f (fun h => by have := h.2.2.2.2.1; rw [l3, a] at this; cases this)]; rfl
set_option maxHeartbeats 1000000 in
theorem iCallsValid_c (a1 : Option Addr) (n1 k1 : Nat) (a2 : Option Addr) (n2 k2 : Nat) (a3 : Option Addr) (n3 k3 : Nat) (x : Cs) (w : World) (hX : Cal w a1 n1 a2 n2 a3 n3 x) : Calls Try.prog 22 #[(.agg #[.slice a1 n1 k1, .slice a2 n2 k2, .slice a3 n3 k3])] w (Mk w (.bool (cvB x))) := by
  have B0 := Lib.hid (Bx.new w (.slice a1 n1 k1) (.slice a2 n2 k2) (.slice a3 n3 k3) 36)
  have X := Lib.hid (Cal.al hX (.cells #[.slice a1 n1 k1, .slice a2 n2 k2, .slice a3 n3 k3] 36))
  have l1 := hX.1.1
  have l2 := hX.2.1.1
  have l3 := hX.2.2.1
  have HB := Lib.hid (Below.al (Below.refl w.heap.size w) (.cells #[.slice a1 n1 k1, .slice a2 n2 k2, .slice a3 n3 k3] 36))
  clear hX
  rcases (by omega : n1 < 1 ∨ 8 < n1 ∨ (n2 ≠ n1 ∧ 1 ≤ n1 ∧ n1 ≤ 8) ∨ (n3 ≠ n1 ∧ n2 = n1 ∧ 1 ≤ n1 ∧ n1 ≤ 8) ∨ (n3 = n1 ∧ n2 = n1 ∧ 1 ≤ n1 ∧ n1 ≤ 8)) with h | h | ⟨h, h1, h8⟩ | ⟨h, h2, h1, h8⟩ | ⟨h3, h2, h1, h8⟩
  case inr.inr.inr.inr =>
    subst h2 h3
    have E := Lib.hid (nw_cv (x := x) h1 h8 l1 l2 l3)
    have i1 : (1 : Int) ≤ (n3 : Int) := by omega
    have i8 : (n3 : Int) ≤ 8 := by omega
    clear l1 l2 l3
    go_enter Try.func22, Try.ntmps22
    go_wp2_with fail
    refine (rowsOf_c a1 n3 k1 a2 n3 k2 a3 n3 k3 x _ X.out h8 h8 h8).mono ?_
    rintro e w1 ⟨rfl, hb⟩
    have HB1 := Lib.hid (below_next HB.out hb)
    clear HB hb X B0
    go_wp2_with fail
    refine (pastEnds_c (rw3 x) n3 _ h1 h8).mono ?_
    rintro e w2 ⟨rfl, hb⟩
    have HB2 := Lib.hid (below_next HB1.out hb)
    clear HB1 hb
    go_wp2_with fail
    refine (nothingWaits_c _ _).mono ?_
    rintro e w3 ⟨rfl, hb⟩
    have HB3 := Lib.hid (below_next HB2.out hb)
    clear HB2 hb
    go_wp2_with fail
    go_ret
    exact Mk.b E.out.symm HB3.out
  all_goals
    have E := Lib.hid (cvB_f (x := x) (fun g => by have g1 := g.1; have g2 := g.2.1; have g3 := g.2.2.1; have g4 := g.2.2.2.1; omega))
    clear l1 l2 l3 X
  · have i1 : (n1 : Int) < 1 := by omega
    clear h
    go_enter Try.func22, Try.ntmps22
    go_wp2_with fail
    go_ret
    exact Mk.b E.out HB.out
  · have i1 : ¬ (n1 : Int) < 1 := by omega
    have i2 : (n1 : Int) > 8 := by omega
    clear h
    go_enter Try.func22, Try.ntmps22
    go_wp2_with fail
    go_ret
    exact Mk.b E.out HB.out
  · have i1 : ¬ (n1 : Int) < 1 := by omega
    have i2 : ¬ (n1 : Int) > 8 := by omega
    have i3 : ((n2 : Int) != (n1 : Int)) = true := by simp; omega
    clear h h1 h8
    go_enter Try.func22, Try.ntmps22
    go_wp2_with fail
    go_ret
    exact Mk.b E.out HB.out
  · have i1 : ¬ (n1 : Int) < 1 := by omega
    have i2 : ¬ (n1 : Int) > 8 := by omega
    have i3 : ((n3 : Int) != (n1 : Int)) = true := by simp; omega
    subst h2
    clear h h1 h8
    go_enter Try.func22, Try.ntmps22
    go_wp2_with fail
    go_ret
    exact Mk.b E.out HB.out
/-- The calls that CallsNone gives. -/
noncomputable def cno (n : Int) : Cs := @ite _ (1 ≤ n ∧ n ≤ 8) (Classical.propDecidable _) (cn n.toNat) cz
theorem cno_ok {n : Nat} (h1 : 1 ≤ n) (h8 : n ≤ 8) : cno n = cn n := by unfold cno; rw [if_pos (by omega)]; simp
theorem cno_bad {n : Int} (h : ¬ (1 ≤ n ∧ n ≤ 8)) : cno n = cz := by unfold cno; rw [if_neg h]
theorem csOf_none (n : Nat) : csOf (fun _ => false) n = cn n := by
  have e : ∀ k, rowOf (fun _ => false) k n = List.replicate n false := fun k => by
    apply List.ext_getElem <;> simp [rowOf]
  exact Cs.eq (e 0) (e 1) (e 2)
theorem OwnC.store {w0 w : World} {r lo hi : Nat} {v1 v2 v3 : Value} {x : Cs} (hO : OwnC w lo hi v1 v2 v3 x) (hW : Below w0.heap.size w0 w) (hr : w0.heap.size ≤ r) (hr2 : r < lo) :
    OwnC (((w.setCell ⟨r, 0, none⟩ v1).setCell ⟨r, 1, none⟩ v2).setCell ⟨r, 2, none⟩ v3) w0.heap.size (((w.setCell ⟨r, 0, none⟩ v1).setCell ⟨r, 1, none⟩ v2).setCell ⟨r, 2, none⟩ v3).heap.size v1 v2 v3 x ∧ Below w0.heap.size w0 (((w.setCell ⟨r, 0, none⟩ v1).setCell ⟨r, 1, none⟩ v2).setCell ⟨r, 2, none⟩ v3) := by
  have hsz : (((w.setCell ⟨r, 0, none⟩ v1).setCell ⟨r, 1, none⟩ v2).setCell ⟨r, 2, none⟩ v3).heap.size = w.heap.size := by simp [World.size_setCell]
  have h1 := hO.2.2.1
  refine ⟨OwnC.base (OwnC.block hO (by omega) fun k hk _ => ?_) (by omega) (by omega) (Nat.le_refl _), ?_⟩
  · rw [Below.heap_setCell _ _ _ _ (by simp; omega), Below.heap_setCell _ _ _ _ (by simp; omega), Below.heap_setCell _ _ _ _ (by simp; omega)]
  · refine Below.st (Below.st (Below.st hW ?_ _) ?_ _) ?_ _ <;> simpa using hr
theorem newC_zero {w0 w : World} {r : Nat} (hW : Below w0.heap.size w0 w) (hr : w0.heap.size ≤ r) (f : Value → Value) :
    NewC w0 cz f (.returned (f (.agg #[.slice none 0 0, .slice none 0 0, .slice none 0 0]))) (((w.setCell ⟨r, 0, none⟩ (.slice none 0 0)).setCell ⟨r, 1, none⟩ (.slice none 0 0)).setCell ⟨r, 2, none⟩ (.slice none 0 0)) := by
  have hsz : (((w.setCell ⟨r, 0, none⟩ (.slice none 0 0)).setCell ⟨r, 1, none⟩ (.slice none 0 0)).setCell ⟨r, 2, none⟩ (.slice none 0 0)).heap.size = w.heap.size := by simp [World.size_setCell]
  have := hW.size
  exact ⟨_, _, _, rfl, OwnC.base (OwnC.zero _) (by rw [hsz]; exact this) (Nat.le_refl _) (Nat.le_refl _), by refine Below.st (Below.st (Below.st hW ?_ _) ?_ _) ?_ _ <;> simpa using hr⟩
theorem newC_z {w0 w : World} (hW : Below w0.heap.size w0 w) (f : Value → Value) : NewC w0 cz f (.returned (f (.agg #[.slice none 0 0, .slice none 0 0, .slice none 0 0]))) w :=
  ⟨_, _, _, rfl, OwnC.base (OwnC.zero _) hW.size (Nat.le_refl _) (Nat.le_refl _), hW⟩
end Go.Proofs.Ytfhhgddajmihjaa
