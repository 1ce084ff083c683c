/- CallSet of impl. -/
import Derived.Test.Ytfhhgddajmihjaa8H
import Derived.Test.Ytfhhgddajmihjaa8I
namespace Go.Proofs.Ytfhhgddajmihjaa
open Go.RowKit
set_option linter.unusedVariables false
set_option linter.unusedSimpArgs false
set_option maxRecDepth 100000

theorem csOf_rw3 {x : Cs} {n : Nat} (h8 : n ≤ 8) (l1 : x.u.length = n) (l2 : x.d.length = n) (l3 : x.c.length = n) : csOf (rw3 x) n = x := by
  refine Cs.eq ?_ ?_ ?_
  · refine bn_ext (by rw [show (csOf (rw3 x) n).u = rowOf (rw3 x) 0 n from rfl, rowOf_len, l1]) fun i hi => ?_
    have hi2 : i < n := by rwa [show (csOf (rw3 x) n).u = rowOf (rw3 x) 0 n from rfl, rowOf_len] at hi
    rw [show (csOf (rw3 x) n).u = rowOf (rw3 x) 0 n from rfl, bn_rowOf _ hi2]
    unfold rw3
    rw [if_pos (by omega)]
    congr 1; omega
  · refine bn_ext (by rw [show (csOf (rw3 x) n).d = rowOf (rw3 x) 1 n from rfl, rowOf_len, l2]) fun i hi => ?_
    have hi2 : i < n := by rwa [show (csOf (rw3 x) n).d = rowOf (rw3 x) 1 n from rfl, rowOf_len] at hi
    rw [show (csOf (rw3 x) n).d = rowOf (rw3 x) 1 n from rfl, bn_rowOf _ hi2]
    unfold rw3
    rw [if_neg (by omega), if_pos (by omega)]
    congr 1; omega
  · refine bn_ext (by rw [show (csOf (rw3 x) n).c = rowOf (rw3 x) 2 n from rfl, rowOf_len, l3]) fun i hi => ?_
    have hi2 : i < n := by rwa [show (csOf (rw3 x) n).c = rowOf (rw3 x) 2 n from rfl, rowOf_len] at hi
    rw [show (csOf (rw3 x) n).c = rowOf (rw3 x) 2 n from rfl, bn_rowOf _ hi2]
    unfold rw3
    rw [if_neg (by omega), if_neg (by omega)]
    congr 1; omega
theorem rw3_put {x : Cs} {k j n : Nat} (b : Bool) (hk : k < 3) (hj : j < n) (h8 : n ≤ 8) (l1 : x.u.length = n) (l2 : x.d.length = n) (l3 : x.c.length = n) (i : Nat) (hi : i < 24) :
    (if i = k * 8 + j then b else rw3 x i) = rw3 (cput x k j b) i := by
  rcases (by omega : k = 0 ∨ k = 1 ∨ k = 2) with e | e | e <;> subst e
  · rw [show ((0 : Nat) : Int) = 0 from rfl, cput0]
    unfold rw3
    by_cases g : i < 8
    · rw [if_pos g, if_pos g, bn_set _ _ (by omega)]
      by_cases g2 : i = j
      · rw [if_pos (by omega), if_pos g2]
      · rw [if_neg (by omega), if_neg g2]
    · rw [if_neg g, if_neg g, if_neg (by omega)]
  · rw [show ((1 : Nat) : Int) = 1 from rfl, cput1]
    unfold rw3
    by_cases g : i < 8
    · rw [if_pos g, if_pos g, if_neg (by omega)]
    · rw [if_neg g, if_neg g]
      by_cases g3 : i < 16
      · rw [if_pos g3, if_pos g3, bn_set _ _ (by omega)]
        by_cases g2 : i - 8 = j
        · rw [if_pos (by omega), if_pos g2]
        · rw [if_neg (by omega), if_neg g2]
      · rw [if_neg g3, if_neg g3, if_neg (by omega)]
  · rw [show ((2 : Nat) : Int) = 2 from rfl, cput2]
    unfold rw3
    by_cases g : i < 8
    · rw [if_pos g, if_pos g, if_neg (by omega)]
    · rw [if_neg g, if_neg g]
      by_cases g3 : i < 16
      · rw [if_pos g3, if_pos g3, if_neg (by omega)]
      · rw [if_neg g3, if_neg g3, bn_set _ _ (by omega)]
        by_cases g2 : i - 16 = j
        · rw [if_pos (by omega), if_pos g2]
        · rw [if_neg (by omega), if_neg g2]
theorem Grow.of {w w' : World} (h : Below w.heap.size w w') : Grow w w' := ⟨h.os, h.tape, h.output, h.size, fun k hk _ => h.block k hk⟩
theorem ob_mk {P : Program} {W w : World} {M : Value → World → Prop} {f : FuncId} {args : Array Value} {v : Value} (hC : Below W.heap.size W w) (h : Calls P f args w (Mk w v)) (hM : ∀ w', M v w') : Comply P (fun _ w => Below W.heap.size W w) Grow 0 w M (.ok (.enter f args) w) :=
  h.mono fun e w' ⟨he, hb⟩ => ⟨v, he, hM w', below_next hC hb, Grow.of hb⟩
theorem exec_store_arr {w : World} {vs : Nat → Value} {o : Oper} {G : Nat} {t : TypeId} {f g : Nat → Bool} (s x : Operand) (hop : o.op = .store 68 s x) (hs : evOf vs s = .pointer (some ⟨G, 0, none⟩)) (hx : evOf vs x = .agg (arr f)) (h : w.rowIs G t 24 (fun i => .bool (g i))) :
    ∃ w', (execOp (evOf vs) o).run Try.prog w = .ok .skip w' ∧ w'.rowIs G t 24 (fun i => .bool (f i)) ∧ Out G (G + 1) w w' := by
  obtain ⟨w', hr, h2, h3⟩ := run_storeVar_arr (f := f) h
  refine ⟨w', ?_, h2, h3⟩
  unfold execOp
  simp only [hop, hs, hx, Instr.storeAt, Instr.sureAddr, Sem.run_bind, Sem.run_pure, Result.andThen_ok, hr]
theorem stepI_store {I : (Nat → Bool) → (Nat → Value) → World → Prop} {ln : Nat → Bool} {w : World} {vs : Nat → Value} {o : Oper} {G : Nat} {t : TypeId} {f g : Nat → Bool} (s x : Operand) (hop : o.op = .store 68 s x) (hs : evOf vs s = .pointer (some ⟨G, 0, none⟩)) (hx : evOf vs x = .agg (arr f)) (h : w.rowIs G t 24 (fun i => .bool (g i)))
    (hI : ∀ w', w'.rowIs G t 24 (fun i => .bool (f i)) → Out G (G + 1) w w' → I ln (updV vs o.dst undef) w') : StepI Try.prog I ln vs o.dst ((execOp (evOf vs) o).run Try.prog w) := by
  obtain ⟨w', hr, r1, r2⟩ := exec_store_arr s x hop hs hx h
  rw [hr]
  exact hI w' r1 r2
theorem row24 (w : World) : (w.alloc (.cells #[.bool false, .bool false, .bool false, .bool false, .bool false, .bool false, .bool false, .bool false, .bool false, .bool false, .bool false, .bool false, .bool false, .bool false, .bool false, .bool false, .bool false, .bool false, .bool false, .bool false, .bool false, .bool false, .bool false, .bool false] 68)).rowIs w.heap.size 68 24 (fun i => .bool false) := by
  have h9 := World.rowIs_alloc w (arr fun _ => false) 68 (fun i => .bool false) (fun i hi => arr_at _ (by rwa [arr_size] at hi))
  rw [arr_size] at h9; exact h9
end Go.Proofs.Ytfhhgddajmihjaa
