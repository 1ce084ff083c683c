/- The walks of the exact laws of CallsNone and CallSet. -/
import Derived.Test.Ytfhhgddajmihjaa8X
namespace Go.Proofs.Ytfhhgddajmihjaa
open Go.RowKit
set_option linter.unusedVariables false
set_option linter.unusedSimpArgs false
set_option maxRecDepth 100000

theorem eqCalls_t (a1 : Option Addr) (n1 k1 : Nat) (a2 : Option Addr) (n2 k2 : Nat) (a3 : Option Addr) (n3 k3 : Nat) (a4 : Option Addr) (n4 k4 : Nat) (a5 : Option Addr) (n5 k5 : Nat) (a6 : Option Addr) (n6 k6 : Nat) (x : Cs) (w : World) (hX : Cal w a1 n1 a2 n2 a3 n3 x) (hY : Cal w a4 n4 a5 n5 a6 n6 x) (m1 : n1 ≤ 1048577) (m2 : n2 ≤ 1048577) (m3 : n3 ≤ 1048577) :
    Calls Try.prog 37 #[(.agg #[.slice a1 n1 k1, .slice a2 n2 k2, .slice a3 n3 k3]), .agg #[.slice a4 n4 k4, .slice a5 n5 k5, .slice a6 n6 k6]] w (Mk w (.bool true)) := by
  have K := eqCalls_c a1 n1 k1 a2 n2 k2 a3 n3 k3 x a4 n4 k4 a5 n5 k5 a6 n6 k6 x w hX hY m1 m2 m3
  rw [tr_true rfl] at K
  exact K
theorem cno_len (n : Int) : (cno n).u.length ≤ 8 ∧ (cno n).d.length ≤ 8 ∧ (cno n).c.length ≤ 8 := by
  by_cases h : 1 ≤ n ∧ n ≤ 8
  · unfold cno; rw [if_pos h]; simp [cn]; omega
  · rw [cno_bad h]; simp [cz]
theorem cst_len (x : Cs) (k f : Int) (b : Bool) : (cst x k f b).u.length ≤ x.u.length ∧ (cst x k f b).d.length ≤ x.d.length ∧ (cst x k f b).c.length ≤ x.c.length := by
  by_cases hv : CV x
  · by_cases hs : SV x k f b
    · rw [cst_t hs]
      obtain ⟨h1, h2, h3⟩ := cput_len x k f.toNat b
      omega
    · rw [cst_f hv hs]; omega
  · rw [cst_bad hv]; simp [cz]
end Go.Proofs.Ytfhhgddajmihjaa
