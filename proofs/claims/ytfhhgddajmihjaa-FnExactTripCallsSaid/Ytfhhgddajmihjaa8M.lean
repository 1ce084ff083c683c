/- CallsMany, impl and model. -/
import Derived.Test.Ytfhhgddajmihjaa8E
namespace Go.Proofs.Ytfhhgddajmihjaa
open Go.RowKit
set_option linter.unusedVariables false
set_option linter.unusedSimpArgs false
set_option maxRecDepth 100000

def ctf (f : Nat → Bool) : Nat → Nat
  | 0 => 0
  | k + 1 => ctf f k + (if f k = true then 1 else 0)
theorem ctf_le (f : Nat → Bool) : ∀ k, ctf f k ≤ k
  | 0 => by simp [ctf]
  | k + 1 => by have := ctf_le f k; unfold ctf; split <;> omega
theorem ctf_ct (f : Nat → Bool) (xs : List Bool) (a : Nat) : ∀ n, (∀ i, i < n → f (a + i) = bn xs i) → ctf f (a + n) = ctf f a + ct xs n
  | 0, _ => rfl
  | n + 1, h => by
    show ctf f (a + n) + (if f (a + n) = true then 1 else 0) = ctf f a + (ct xs n + (if bn xs n = true then 1 else 0))
    rw [ctf_ct f xs a n (fun i hi => h i (by omega)), h n (by omega)]
    omega
theorem ct8 {xs : List Bool} {n : Nat} (h : xs.length = n) (h8 : n ≤ 8) : ct xs 8 = ct xs n := by
  have := ct_out xs n (8 - n) (fun i hi _ => bn_out (by omega))
  rwa [show n + (8 - n) = 8 by omega] at this
theorem ctf_cm {x : Cs} (hv : CV x) : (ctf (rw3 x) 24 : Int) = cm x := by
  have h8 := hv.2.1
  have e1 := ctf_ct (rw3 x) x.u 0 8 (fun i hi => by rw [Nat.zero_add]; unfold rw3; rw [if_pos hi])
  have e2 := ctf_ct (rw3 x) x.d 8 8 (fun i hi => by unfold rw3; rw [if_neg (by omega), if_pos (by omega)]; congr 1; omega)
  have e3 := ctf_ct (rw3 x) x.c 16 8 (fun i hi => by unfold rw3; rw [if_neg (by omega), if_neg (by omega)]; congr 1; omega)
  rw [cm_ok hv]
  have q1 := ct8 hv.2.2.1 h8
  have q2 := ct8 hv.2.2.2.1 h8
  have q3 := ct8 (xs := x.c) rfl h8
  simp only [Nat.zero_add, Nat.reduceAdd] at e1 e2 e3
  have e0 : ctf (rw3 x) 0 = 0 := rfl
  omega
def sm (x : Cs) (k : Nat) : Nat := ct x.u k + ct x.d k + ct x.c k
theorem sm_le (x : Cs) (k : Nat) : sm x k ≤ 3 * k := by
  have h1 := ct_le x.u k
  have h2 := ct_le x.d k
  have h3 := ct_le x.c k
  unfold sm; omega
theorem sm_next (x : Cs) (k : Nat) : sm x (k + 1) = sm x k + (if bn x.u k = true then 1 else 0) + (if bn x.d k = true then 1 else 0) + (if bn x.c k = true then 1 else 0) := by
  have h1 : ct x.u (k + 1) = ct x.u k + (if bn x.u k = true then 1 else 0) := rfl
  have h2 : ct x.d (k + 1) = ct x.d k + (if bn x.d k = true then 1 else 0) := rfl
  have h3 : ct x.c (k + 1) = ct x.c k + (if bn x.c k = true then 1 else 0) := rfl
  unfold sm; omega
def row8 (f : Nat → Bool) (k : Nat) : Array Value := #[.bool (f (k * 8)), .bool (f (k * 8 + 1)), .bool (f (k * 8 + 2)), .bool (f (k * 8 + 3)), .bool (f (k * 8 + 4)), .bool (f (k * 8 + 5)), .bool (f (k * 8 + 6)), .bool (f (k * 8 + 7))]
theorem index_row (f : Nat → Bool) (k : Nat) (hk : k < 3) (w : World) : (Instr.index 68 (.agg (arr f)) (.int .i64 k)).run Try.prog w = .ok (.agg #[.bool (f (k * 8)), .bool (f (k * 8 + 1)), .bool (f (k * 8 + 2)), .bool (f (k * 8 + 3)), .bool (f (k * 8 + 4)), .bool (f (k * 8 + 5)), .bool (f (k * 8 + 6)), .bool (f (k * 8 + 7))]) w := by
  have hu : Try.prog.underlying 68 = some (.array 3 66) := by kernel_rfl
  have h1 : (0 : Int) ≤ (k : Int) ∧ (k : Int) < ((3 : Nat) : Int) := by omega
  simp only [Instr.index, asIntOf, Sem.run_bind, Sem.run_pure, Result.andThen_ok, run_underlying hu]
  rw [if_pos h1]
  simp only [Sem.run_bind, Try.sizeOf66, Result.andThen_ok, part, Try.isAgg66, if_true, Int.toNat_natCast, Sem.run_pure]
  congr 2
  rcases (by omega : k = 0 ∨ k = 1 ∨ k = 2) with e | e | e <;> subst e <;> rfl
theorem index_at (f : Nat → Bool) (k i : Nat) (hi : i < 8) (w : World) : (Instr.index 66 (.agg #[.bool (f (k * 8)), .bool (f (k * 8 + 1)), .bool (f (k * 8 + 2)), .bool (f (k * 8 + 3)), .bool (f (k * 8 + 4)), .bool (f (k * 8 + 5)), .bool (f (k * 8 + 6)), .bool (f (k * 8 + 7))]) (.int .i64 i)).run Try.prog w = .ok (.bool (f (k * 8 + i))) w := by
  have hu : Try.prog.underlying 66 = some (.array 8 4) := by kernel_rfl
  have h1 : (0 : Int) ≤ (i : Int) ∧ (i : Int) < ((8 : Nat) : Int) := by omega
  simp only [Instr.index, asIntOf, Sem.run_bind, Sem.run_pure, Result.andThen_ok, run_underlying hu]
  rw [if_pos h1]
  simp only [Sem.run_bind, Try.sizeOf4, Result.andThen_ok, part, Try.isAgg4, Int.toNat_natCast, Sem.run_pure]
  rcases (by omega : i = 0 ∨ i = 1 ∨ i = 2 ∨ i = 3 ∨ i = 4 ∨ i = 5 ∨ i = 6 ∨ i = 7) with e | e | e | e | e | e | e | e <;> subst e <;> rfl
set_option maxHeartbeats 4000000 in
theorem iCallsMany_c (a1 : Option Addr) (n1 k1 : Nat) (a2 : Option Addr) (n2 k2 : Nat) (a3 : Option Addr) (n3 k3 : Nat) (x : Cs) (w : World) (hX : Cal w a1 n1 a2 n2 a3 n3 x) : Calls Try.prog 23 #[(.agg #[.slice a1 n1 k1, .slice a2 n2 k2, .slice a3 n3 k3])] w (Mk w (.int .i64 (cm x))) := by
  have X0 := Lib.hid hX
  have l1 := hX.1.1
  have l2 := hX.2.1.1
  have l3 := hX.2.2.1
  have B0 := Lib.hid (Bx.new w (.slice a1 n1 k1) (.slice a2 n2 k2) (.slice a3 n3 k3) 36)
  have HB0 := Lib.hid (Below.al (Below.refl w.heap.size w) (.cells #[.slice a1 n1 k1, .slice a2 n2 k2, .slice a3 n3 k3] 36))
  have V := iCallsValid_c a1 n1 k1 a2 n2 k2 a3 n3 k3 x _ (Cal.al hX (.cells #[.slice a1 n1 k1, .slice a2 n2 k2, .slice a3 n3 k3] 36))
  clear hX
  by_cases hv : CV x
  case neg =>
    rw [cvB_f hv] at V
    have E := Lib.hid (cm_bad hv)
    have HV := Lib.hid V
    clear V hv l1 l2 l3
    go_enter Try.func23, Try.ntmps23
    go_wp2_with fail
    refine HV.out.mono ?_
    rintro e w1 ⟨rfl, hb⟩
    have HB1 := Lib.hid (below_next HB0.out hb)
    clear hb
    go_wp2_with fail
    go_ret
    exact Mk.i E.out HB1.out
  rw [cvB_t hv] at V
  have HV := Lib.hid V
  have h1 := hv.1
  have h8 := hv.2.1
  have e1 := hv.2.2.1
  have e2 := hv.2.2.2.1
  have E := Lib.hid (ctf_cm hv)
  have m1 : n1 ≤ 8 := by omega
  have m2 : n2 ≤ 8 := by omega
  have m3 : n3 ≤ 8 := by omega
  clear V hv l1 l2 l3 e1 e2 h1 h8
  go_enter Try.func23, Try.ntmps23
  go_wp2_with fail
  refine HV.out.mono ?_
  rintro e w1 ⟨rfl, hb⟩
  have HB1 := Lib.hid (below_next HB0.out hb)
  have B1 := Lib.hid (Bx.below B0.out hb)
  clear hb HV B0 HB0
  obtain ⟨⟨d0, d1, d2⟩, -⟩ := B1.out
  go_wp2_with fail
  refine (rowsOf_c a1 n1 k1 a2 n2 k2 a3 n3 k3 x _ (Cal.below X0.out HB1.out) m1 m2 m3).mono ?_
  rintro e w2 ⟨rfl, hb⟩
  have HB2 := Lib.hid (below_next HB1.out hb)
  obtain ⟨f, hf⟩ : ∃ f, rw3 x = f := ⟨_, rfl⟩
  rw [hf] at E
  rw [hf]
  clear hb HB1 B1 d0 d1 d2 hf m1 m2 m3 X0
  go_wp2_with fail
  go_loopw [3, 13] (fun u v wr => ∃ k : Nat, k ≤ 3 ∧ v = .int .i64 k ∧ u = .int .i64 (ctf f (k * 8) : Nat) ∧ Below w.heap.size w wr) (fun _ v _ => 3 - (intOf v).toNat)
  case atStart => exact ⟨0, by omega, rfl, rfl, HB2.out⟩
  case round =>
    clear HB2
    obtain ⟨k, hk, rfl, rfl, hb⟩ := hrel
    have HBr := Lib.hid hb
    clear hb
    by_cases hlt : k < 3
    · have hix := index_row f k hlt
      have hlti : (k : Int) < 3 := by omega
      have sl := ctf_le f (k * 8)
      have sl2 : (ctf f (k * 8) : Int) ≤ 24 := by omega
      have sl0 : (0 : Int) ≤ (ctf f (k * 8) : Nat) := by omega
      obtain ⟨s, hs⟩ : ∃ s : Nat, ctf f (k * 8) = s := ⟨_, rfl⟩
      have HS := Lib.hid hs
      rw [hs] at sl2 sl0
      rw [hs]
      clear hs sl
      go_wp2_with fail
      clear hix
      obtain ⟨wo, hwo⟩ : ∃ wo : World, wo = wr.alloc (.cells #[.bool (f (k * 8)), .bool (f (k * 8 + 1)), .bool (f (k * 8 + 2)), .bool (f (k * 8 + 3)), .bool (f (k * 8 + 4)), .bool (f (k * 8 + 5)), .bool (f (k * 8 + 6)), .bool (f (k * 8 + 7))] 66) := ⟨_, rfl⟩
      rw [← hwo]
      have HBo := Lib.hid (show Below w.heap.size w wo from by rw [hwo]; exact Below.al HBr.out _)
      clear hwo HBr
      obtain ⟨wz, hwz⟩ : ∃ wz : World, wz = wo := ⟨_, rfl⟩
      go_loopw [3, 17] (fun u v wt => ∃ i : Nat, i ≤ 8 ∧ v = .int .i64 i ∧ u = .int .i64 (ctf f (k * 8 + i) : Nat) ∧ wt = wz) (fun _ v _ => 8 - (intOf v).toNat)
      case atStart => exact ⟨0, by omega, rfl, by rw [Nat.add_zero, HS.out], by rw [hwz]⟩
      case round =>
        obtain ⟨i, hi, rfl, rfl, hw⟩ := hrel
        rw [hwz] at hw
        subst hw
        have HZ := Lib.hid hwz
        clear hwz sl2 sl0
        have tl := ctf_le f (k * 8 + i)
        have tl2 : (ctf f (k * 8 + i) : Int) ≤ 24 := by omega
        have tl0 : (0 : Int) ≤ (ctf f (k * 8 + i) : Nat) := by omega
        have TN := Lib.hid (show ctf f (k * 8 + (i + 1)) = ctf f (k * 8 + i) + (if f (k * 8 + i) = true then 1 else 0) from rfl)
        obtain ⟨t, ht⟩ : ∃ t : Nat, ctf f (k * 8 + i) = t := ⟨_, rfl⟩
        have HT := Lib.hid ht
        rw [ht] at tl2 tl0 TN
        rw [ht]
        clear ht tl
        by_cases hl : i < 8
        · have hiy := index_at f k i hl
          have hli : (i : Int) < 8 := by omega
          cases hfi : f (k * 8 + i)
          all_goals
            rw [hfi] at TN
            rw [hfi] at hiy
            clear hfi
            go_wp2_with fail
            go_roundw
            case rel => exact ⟨i + 1, by omega, by go_num, by rw [TN.out]; first | rfl | go_num, HZ.out.symm⟩
            case measure => first | (simp [intOf]; done) | (simp [intOf]; omega)
        · obtain rfl : i = 8 := by omega
          clear TN
          go_wp2_with fail
          go_roundw
          case rel => exact ⟨k + 1, by omega, by go_num, by rw [show (k + 1) * 8 = k * 8 + 8 by omega, HT.out], HBo.out⟩
          case measure => first | (simp [intOf]; done) | (simp [intOf]; omega)
    · obtain rfl : k = 3 := by omega
      go_wp2_with fail
      go_ret
      exact Mk.i E.out.symm HBr.out
end Go.Proofs.Ytfhhgddajmihjaa
