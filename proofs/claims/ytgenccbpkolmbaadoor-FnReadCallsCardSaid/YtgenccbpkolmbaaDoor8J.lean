/- The texts of calls, by the model: l8Bits, CallsText. -/
import Derived.Test.YtgenccbpkolmbaaDoor8K
namespace Go.Proofs.YtgenccbpkolmbaaDoor
open Go.RowKit
set_option linter.unusedVariables false

def by1 (b : Bool) : UInt8 := if b then 49 else 48
/-- The first k truths, as bytes. -/
def tbs (xs : List Bool) (k : Nat) : ByteArray := ⟨((List.range k).map fun i => by1 (bn xs i)).toArray⟩
theorem tbs_size (xs : List Bool) (k : Nat) : (tbs xs k).size = k := by simp [tbs, ByteArray.size]
theorem tbs_next (xs : List Bool) (k : Nat) : tbs xs k ++ ⟨#[by1 (bn xs k)]⟩ = tbs xs (k + 1) := by
  apply ByteArray.ext
  rw [ByteArray.data_append]
  simp [tbs, List.range_succ]
theorem l8Bits_c (a : Option Addr) (n cap : Nat) (xs : List Bool) (w : World) (hs : BS w a n xs) (hn : n ≤ 1000) :
    Calls Tryd.prog 23 #[.slice a n cap] w (St w (.string (tbs xs n))) := by
  obtain ⟨hl, hs⟩ := hs
  go_enter Tryd.func23, Tryd.ntmps23
  obtain ⟨wo, hwo⟩ : ∃ wo : World, wo = w := ⟨_, rfl⟩
  go_wp2_with fail
  go_loopw [3, 4] (fun u v wr => ∃ k : Nat, k ≤ n ∧ v = .int .i64 k ∧ u = .string (tbs xs k) ∧ wr = wo) (fun _ v _ => n - (intOf v).toNat)
  case atStart => exact ⟨0, by omega, rfl, rfl, by rw [hwo]⟩
  case round =>
    obtain ⟨k, hk, rfl, rfl, hw⟩ := hrel
    rw [hwo] at hw
    subst hw
    have HZ := Lib.hid hwo
    clear hwo
    by_cases hlt : k < n
    · rcases hs with h0 | ⟨b, off, rfl, hc⟩
      · omega
      have hlti : (k : Int) < (n : Int) := by omega
      have hc0 := hc k hlt
      have TN := Lib.hid (tbs_next xs k)
      have hsz := tbs_size xs k
      obtain ⟨t, ht⟩ : ∃ t, tbs xs k = t := ⟨_, rfl⟩
      rw [ht] at TN hsz ⊢
      have q1 : ¬ (9223372036854775807 < t.size + 1) := by omega
      have q2 : ¬ (t.size + 1 > 9223372036854775807) := by omega
      cases hx : bn xs k
      all_goals
        rw [hx] at hc0 TN
        clear hc hx hl ht
        go_wp2_with fail
        go_roundw
        case rel => exact ⟨k + 1, by omega, by go_num, by first | exact congrArg Value.string TN.out | (rw [← TN.out]; rfl), HZ.out.symm⟩
        case measure => first | (simp [intOf]; done) | (simp [intOf]; omega)
    · obtain rfl : k = n := by omega
      go_wp2_with fail
      go_ret
      exact ⟨rfl, rfl⟩
/-- The text of calls. -/
noncomputable def ctx (x : Cs) : ByteArray := @ite _ (CV x) (Classical.propDecidable _) (tbs x.u x.u.length ++ ⟨#[47]⟩ ++ tbs x.d x.d.length ++ ⟨#[47]⟩ ++ tbs x.c x.c.length) ⟨#[]⟩
theorem ctx_t {x : Cs} (h : CV x) : ctx x = tbs x.u x.u.length ++ ⟨#[47]⟩ ++ tbs x.d x.d.length ++ ⟨#[47]⟩ ++ tbs x.c x.c.length := by unfold ctx; rw [if_pos h]
theorem ctx_f {x : Cs} (h : ¬ CV x) : ctx x = ⟨#[]⟩ := by unfold ctx; rw [if_neg h]
end Go.Proofs.YtgenccbpkolmbaaDoor
