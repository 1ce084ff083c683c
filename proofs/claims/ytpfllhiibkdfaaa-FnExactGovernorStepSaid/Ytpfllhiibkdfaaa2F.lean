/- The contracts of MotionTicks, impl and spec. -/
import Derived.Test.Ytpfllhiibkdfaaa2D
import Derived.Test.Ytpfllhiibkdfaaa2E
namespace Go.Proofs.Ytpfllhiibkdfaaa
open Go.RowKit
set_option linter.unusedVariables false

/-- What is left at most until the car stands at its target. -/
def lft (a s t : Int) : Nat := if csB a s t = true then (2 * far a t + max s (-s)).toNat else (1000 + max s (-s)).toNat
theorem ms_valid {a s t : Int} (h : mvB a s = true) (k : inB 0 t 60 = true) : mvB (ms a s t).1 (ms a s t).2 = true := by
  have h1 := mvB_iff.1 h
  have h2 := inB_iff.1 k
  have hn := ns_cases (a := a) (t := t) h1.2.2
  have b : -5 ≤ ns a s t ∧ ns a s t ≤ 5 := by
    rcases hn with ⟨-, ⟨c, e⟩ | ⟨c, d, e⟩ | ⟨c, d, e⟩⟩ | ⟨c, e⟩
    · rw [e]; exact c.1.2.2
    · rw [e]; exact d.1.2.2
    · rw [e]; exact slow_bd h1.2.2
    · rw [e]; exact slow_bd h1.2.2
  unfold ms
  generalize ns a s t = n at *
  unfold kept
  split
  · exact mvB_t (by simp)
  · split
    · exact mvB_t (by simp)
    · exact mvB_t ⟨by simp only; omega, by simp only; omega, b.1, b.2⟩
theorem ms_next {a s t : Int} (h : CS a s t) : ms a s t = (a + ns a s t, ns a s t) := by
  have := (cs_next h).1.1
  unfold ms; exact kept_in ⟨this.1, this.2.1⟩
/-- A tick leaves less. -/
theorem lft_step {a s t : Int} (h : mvB a s = true) (k : inB 0 t 60 = true) (hne : ¬ (a = t ∧ s = 0)) : lft (ms a s t).1 (ms a s t).2 t < lft a s t := by
  have h1 := mvB_iff.1 h
  have h2 := inB_iff.1 k
  by_cases c : CS a s t
  · have n := cs_next c
    rw [ms_next c]
    unfold lft
    rw [if_pos (csB_t n.1), if_pos (csB_t c)]
    have n1 := n.2
    simp only
    generalize ns a s t = m at *
    unfold far
    omega
  · have e : ns a s t = slow s := by unfold ns; rw [if_neg (by rw [csB_f c]; simp)]
    have s0 : s ≠ 0 := fun h => c ⟨h1, h2, fun _ => by omega, fun _ => by omega⟩
    have hm := ms_valid h k
    have hm2 := mvB_iff.1 hm
    have hs : max (ms a s t).2 (-(ms a s t).2) < max s (-s) := by
      unfold ms; rw [e]
      unfold kept
      have : max (slow s) (-(slow s)) < max s (-s) := by unfold slow sgn; omega
      split
      · simp only; omega
      · split
        · simp only; omega
        · exact this
    generalize ms a s t = p at *
    obtain ⟨x, y⟩ := p
    simp only at *
    have r : lft a s t = (1000 + max s (-s)).toNat := by unfold lft; rw [if_neg (by rw [csB_f c]; simp)]
    rw [r]
    unfold lft
    split
    · unfold far; omega
    · omega
theorem lft_bd {a s t : Int} (h : mvB a s = true) (k : inB 0 t 60 = true) : lft a s t ≤ 1005 := by
  have h1 := mvB_iff.1 h
  have h2 := inB_iff.1 k
  unfold lft
  split
  · unfold far; omega
  · omega
/-- The car after n ticks. -/
def it (t : Int) : Nat → Int × Int → Int × Int
  | 0, p => p
  | n + 1, p => ms (it t n p).1 (it t n p).2 t
/-- It stands there after n ticks, and not before. -/
def MT (a s t : Int) (r : Int) : Prop := ∃ n : Nat, r = n ∧ it t n (a, s) = (t, 0) ∧ ∀ j, j < n → it t j (a, s) ≠ (t, 0)
noncomputable def mt (a s t : Int) : Int := the (MT a s t)
theorem mt_eq {a s t r : Int} (h : MT a s t r) : mt a s t = r := by
  refine the_eq h fun q hq => ?_
  obtain ⟨n, rfl, hn, hl⟩ := h
  obtain ⟨m, rfl, hm, hk⟩ := hq
  rcases Nat.lt_trichotomy n m with g | g | g
  · exact absurd hn (hk n g)
  · rw [g]
  · exact absurd hm (hl m g)
/-- MotionTicks. -/
noncomputable def mtk (a s t : Int) : Int := if mvB a s = true ∧ inB 0 t 60 = true then mt a s t else -1
theorem mtk_ok {a s t : Int} (h : mvB a s = true) (k : inB 0 t 60 = true) : mtk a s t = mt a s t := by unfold mtk; rw [if_pos ⟨h, k⟩]
theorem mtk_bad {a s t : Int} (h : ¬ (mvB a s = true ∧ inB 0 t 60 = true)) : mtk a s t = -1 := by unfold mtk; rw [if_neg h]
theorem Box.set {w : World} {b : Nat} {a s : Int} (a' s' : Int) (h : Box w b a s) : Box ((w.setCell ⟨b, 0, none⟩ (.int .i64 a')).setCell ⟨b, 1, none⟩ (.int .i64 s')) b a' s' := by
  refine ⟨⟨?_, ?_⟩, ?_, ?_⟩
  · rw [World.cell?_setCell_other _ _ _ _ (by simp)]; exact World.cell?_setCell_same _ _ _ h.1.1
  · refine World.cell?_setCell_same _ _ _ (u := .int .i64 s) ?_
    rw [World.cell?_setCell_other _ _ _ _ (by simp)]; exact h.1.2
  · rw [World.frozen?_setCell, World.frozen?_setCell]; exact h.2.1
  · rw [World.frozen?_setCell, World.frozen?_setCell]; exact h.2.2
theorem it_step {t : Int} {n : Nat} {p : Int × Int} {x y : Int} (h : it t n p = (x, y)) : it t (n + 1) p = ((ms x y t).1, (ms x y t).2) := by
  show ms (it t n p).1 (it t n p).2 t = _
  rw [h]
theorem pair_ne {x y t : Int} (h : ¬ (x = t ∧ y = 0)) : (x, y) ≠ (t, 0) := fun e => h ⟨congrArg Prod.fst e, congrArg Prod.snd e⟩

end Go.Proofs.Ytpfllhiibkdfaaa
