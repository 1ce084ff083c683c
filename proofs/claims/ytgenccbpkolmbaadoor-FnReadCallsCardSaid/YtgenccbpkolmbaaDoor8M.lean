/- CallsMany, impl and model. -/
import Derived.Test.YtgenccbpkolmbaaDoor8E
namespace Go.Proofs.YtgenccbpkolmbaaDoor
open Go.RowKit
set_option linter.unusedVariables false

def ctf (f : Nat → Bool) : Nat → Nat
  | 0 => 0
  | k + 1 => ctf f k + (if f k = true then 1 else 0)
theorem ctf_le (f : Nat → Bool) : ∀ k, ctf f k ≤ k
  | 0 => by simp [ctf]
  | k + 1 => by have := ctf_le f k; unfold ctf; split <;> omega
theorem ctf_ct (f : Nat → Bool) (xs : List Bool) (a : Nat) : ∀ n, (∀ i, i < n → f (a + i) = bn xs i) → ctf f (a + n) = ctf f a + ct xs n
  | 0, _ => rfl
  | n + 1, h => by
    show ctf f (a + n) + (if f (a + n) = true then 1 else 0) = ctf f a + (ct xs n + (if bn xs n = true then 1 else 0))
    rw [ctf_ct f xs a n (fun i hi => h i (by omega)), h n (by omega)]
    omega
theorem ct8 {xs : List Bool} {n : Nat} (h : xs.length = n) (h8 : n ≤ 8) : ct xs 8 = ct xs n := by
  have := ct_out xs n (8 - n) (fun i hi _ => bn_out (by omega))
  rwa [show n + (8 - n) = 8 by omega] at this
theorem ctf_cm {x : Cs} (hv : CV x) : (ctf (rw3 x) 24 : Int) = cm x := by
  have h8 := hv.2.1
  have e1 := ctf_ct (rw3 x) x.u 0 8 (fun i hi => by rw [Nat.zero_add]; unfold rw3; rw [if_pos hi])
  have e2 := ctf_ct (rw3 x) x.d 8 8 (fun i hi => by unfold rw3; rw [if_neg (by omega), if_pos (by omega)]; congr 1; omega)
  have e3 := ctf_ct (rw3 x) x.c 16 8 (fun i hi => by unfold rw3; rw [if_neg (by omega), if_neg (by omega)]; congr 1; omega)
  rw [cm_ok hv]
  have q1 := ct8 hv.2.2.1 h8
  have q2 := ct8 hv.2.2.2.1 h8
  have q3 := ct8 (xs := x.c) rfl h8
  simp only [Nat.zero_add, Nat.reduceAdd] at e1 e2 e3
  have e0 : ctf (rw3 x) 0 = 0 := rfl
  omega
def sm (x : Cs) (k : Nat) : Nat := ct x.u k + ct x.d k + ct x.c k
theorem sm_le (x : Cs) (k : Nat) : sm x k ≤ 3 * k := by
  have h1 := ct_le x.u k
  have h2 := ct_le x.d k
  have h3 := ct_le x.c k
  unfold sm; omega
theorem sm_next (x : Cs) (k : Nat) : sm x (k + 1) = sm x k + (if bn x.u k = true then 1 else 0) + (if bn x.d k = true then 1 else 0) + (if bn x.c k = true then 1 else 0) := by
  have h1 : ct x.u (k + 1) = ct x.u k + (if bn x.u k = true then 1 else 0) := rfl
  have h2 : ct x.d (k + 1) = ct x.d k + (if bn x.d k = true then 1 else 0) := rfl
  have h3 : ct x.c (k + 1) = ct x.c k + (if bn x.c k = true then 1 else 0) := rfl
  unfold sm; omega
def row8 (f : Nat → Bool) (k : Nat) : Array Value := #[.bool (f (k * 8)), .bool (f (k * 8 + 1)), .bool (f (k * 8 + 2)), .bool (f (k * 8 + 3)), .bool (f (k * 8 + 4)), .bool (f (k * 8 + 5)), .bool (f (k * 8 + 6)), .bool (f (k * 8 + 7))]
theorem index_row (f : Nat → Bool) (k : Nat) (hk : k < 3) (w : World) : (Instr.index 44 (.agg (arr f)) (.int .i64 k)).run Tryd.prog w = .ok (.agg #[.bool (f (k * 8)), .bool (f (k * 8 + 1)), .bool (f (k * 8 + 2)), .bool (f (k * 8 + 3)), .bool (f (k * 8 + 4)), .bool (f (k * 8 + 5)), .bool (f (k * 8 + 6)), .bool (f (k * 8 + 7))]) w := by
  have hu : Tryd.prog.underlying 44 = some (.array 3 42) := by kernel_rfl
  have h1 : (0 : Int) ≤ (k : Int) ∧ (k : Int) < ((3 : Nat) : Int) := by omega
  simp only [Instr.index, asIntOf, Sem.run_bind, Sem.run_pure, Result.andThen_ok, run_underlying hu]
  rw [if_pos h1]
  simp only [Sem.run_bind, Tryd.sizeOf42, Result.andThen_ok, part, Tryd.isAgg42, if_true, Int.toNat_natCast, Sem.run_pure]
  congr 2
  rcases (by omega : k = 0 ∨ k = 1 ∨ k = 2) with e | e | e <;> subst e <;> rfl
theorem index_at (f : Nat → Bool) (k i : Nat) (hi : i < 8) (w : World) : (Instr.index 42 (.agg #[.bool (f (k * 8)), .bool (f (k * 8 + 1)), .bool (f (k * 8 + 2)), .bool (f (k * 8 + 3)), .bool (f (k * 8 + 4)), .bool (f (k * 8 + 5)), .bool (f (k * 8 + 6)), .bool (f (k * 8 + 7))]) (.int .i64 i)).run Tryd.prog w = .ok (.bool (f (k * 8 + i))) w := by
  have hu : Tryd.prog.underlying 42 = some (.array 8 4) := by kernel_rfl
  have h1 : (0 : Int) ≤ (i : Int) ∧ (i : Int) < ((8 : Nat) : Int) := by omega
  simp only [Instr.index, asIntOf, Sem.run_bind, Sem.run_pure, Result.andThen_ok, run_underlying hu]
  rw [if_pos h1]
  simp only [Sem.run_bind, Tryd.sizeOf4, Result.andThen_ok, part, Tryd.isAgg4, Int.toNat_natCast, Sem.run_pure]
  rcases (by omega : i = 0 ∨ i = 1 ∨ i = 2 ∨ i = 3 ∨ i = 4 ∨ i = 5 ∨ i = 6 ∨ i = 7) with e | e | e | e | e | e | e | e <;> subst e <;> rfl
end Go.Proofs.YtgenccbpkolmbaaDoor
