/- The reader of codes: what `l20Open`, `pick` and `odd` give. -/
import Derived.Test.YteeokegkbhpbcaaH
namespace Go.Proofs.Yteeokegkbhpbcaa
open Go.RowKit
set_option linter.unusedVariables false
set_option linter.unusedSimpArgs false

/-- The bytes of a slice can be read. -/
def Byt (w : World) (a : Option Addr) (n : Nat) : Prop := n = 0 ∨ ∃ b off, a = some ⟨b, off, none⟩ ∧ ∃ y : Nat → Nat, (∀ i, y i ≤ 255) ∧ ∀ i, i < n → w.cell? ⟨b, off + i, none⟩ = some (.int .u8 (y i))
theorem IsRow.byt {w : World} {a : Option Addr} {n cap : Nat} {zs : List Int} (h : IsRow .u8 w a n cap zs) : Byt w a n ∧ n ≤ cap ∧ cap ≤ maxLen := by
  rcases h with ⟨rfl, rfl, rfl, rfl⟩ | ⟨x, rfl, hl, hm, hz, hcell, hw⟩
  · exact ⟨.inl rfl, by omega, by unfold maxLen; omega⟩
  · refine ⟨?_, hl, hm⟩
    by_cases h0 : n = 0
    · exact .inl h0
    · obtain ⟨b, off, spot⟩ := x
      have hc := hcell 0 (by omega)
      have hspot : spot = none := by simpa [Addr.add] using World.cell?_spot hc
      subst hspot
      have hb : ∀ i, 0 ≤ zs.getD i 0 ∧ zs.getD i 0 ≤ 255 := fun i => by
        by_cases hi : i < zs.length
        · have := hw zs[i] (List.getElem_mem hi)
          simp only [List.getD, List.getElem?_eq_getElem hi, Option.getD_some]
          exact bounds_u8 this
        · simp [List.getD, List.getElem?_eq_none (by omega : zs.length ≤ i)]
      refine .inr ⟨b, off, rfl, fun i => (zs.getD i 0).toNat, fun i => (by have := hb i; show (zs.getD i 0).toNat ≤ 255; omega), fun i hi => ?_⟩
      have hci := hcell i (by omega)
      have e : ((zs.getD i 0).toNat : Int) = zs.getD i 0 := by have := hb i; omega
      rw [e]
      by_cases e2 : i = 0
      · subst e2; simpa [Addr.add] using hci
      · simpa [Addr.add, e2] using hci
/-- Block g is a reader that has read c bytes. -/
def Rd (w : World) (g c : Nat) : Prop := ∃ a n cap, w.cell? ⟨g, 0, none⟩ = some (.slice a n cap) ∧ w.cell? ⟨g, 1, none⟩ = some (.int .i64 c) ∧ w.frozen? ⟨g, 1, none⟩ = false ∧ n ≤ 2000 ∧ (n = 0 ∨ ∀ x, a = some x → x.block < g) ∧ Byt w a n
/-- What a reading leaves: a number below m, the reader one further, all else as it was. -/
def Picked (w : World) (g c : Nat) (m : Int) (e : Ending) (w' : World) : Prop := ∃ v : Int, e = .returned (.int .i64 v) ∧ 0 ≤ v ∧ (v < m ∨ v = 0) ∧ Rd w' g (c + 1) ∧ w.grownBy w' (some g) ∧ w'.heap.size = w.heap.size

theorem grownBy_set {w : World} {g i : Nat} {v : Value} (n : Nat) : w.grownBy ((w.setCell ⟨g, i, none⟩ v).drewN n) (some g) :=
  ⟨rfl, rfl, rfl, by simp [World.drewN], fun k hk hne => by
    show (w.setCell ⟨g, i, none⟩ v).heap[k]? = _
    exact Below.heap_setCell _ _ _ _ (by intro h; simp at h; subst h; exact hne rfl)⟩
theorem Rd.next {w : World} {g c : Nat} (h : Rd w g c) (n : Nat) : Rd ((w.setCell ⟨g, 1, none⟩ (.int .i64 ((c : Int) + 1))).drewN n) g (c + 1) := by
  obtain ⟨a, m, cap, h0, h1, h2, h3, h4, h5⟩ := h
  refine ⟨a, m, cap, ?_, ?_, ?_, h3, h4, ?_⟩
  · show (w.setCell ⟨g, 1, none⟩ (.int .i64 ((c : Int) + 1))).cell? _ = _
    rw [World.cell?_setCell_other _ _ _ _ (by simp)]; exact h0
  · show (w.setCell ⟨g, 1, none⟩ (.int .i64 ((c : Int) + 1))).cell? _ = _
    rw [World.cell?_setCell_same _ _ _ h1]; rfl
  · show (w.setCell ⟨g, 1, none⟩ (.int .i64 ((c : Int) + 1))).frozen? _ = _
    rw [World.frozen?_setCell]; exact h2
  · rcases h5 with h5 | ⟨b, off, rfl, y, hy, hc⟩
    · exact .inl h5
    · refine .inr ⟨b, off, rfl, y, hy, fun i hi => ?_⟩
      have hbg : b ≠ g := by rcases h4 with h4 | h4; omega; have := h4 _ rfl; simp at this; omega
      show (w.setCell ⟨g, 1, none⟩ (.int .i64 ((c : Int) + 1))).cell? _ = _
      rw [World.cell?_setCell_other _ _ _ _ (by intro h; exact hbg (congrArg Addr.block h).symm)]; exact hc i hi
theorem Picked.mk {w : World} {g c : Nat} {m v : Int} (n : Nat) (h : Rd w g c) (h0 : 0 ≤ v) (h1 : v < m ∨ v = 0) : Picked w g c m (.returned (.int .i64 v)) ((w.setCell ⟨g, 1, none⟩ (.int .i64 ((c : Int) + 1))).drewN n) :=
  ⟨v, rfl, h0, h1, h.next n, grownBy_set n, by simp [World.drewN]⟩

theorem xor_nonneg (a b : Int) (ha : 0 ≤ a) (ha2 : a < 4611686018427387904) (hb : 0 ≤ b) (hb2 : b < 4611686018427387904) : 0 ≤ bits .xor .i64 a b := by
  obtain ⟨p, rfl⟩ := Int.eq_ofNat_of_zero_le ha
  obtain ⟨q, rfl⟩ := Int.eq_ofNat_of_zero_le hb
  have hx : p ^^^ q < 2 ^ 62 := Nat.xor_lt_two_pow (by omega) (by omega)
  have h1 : (BitVec.ofInt 64 (p : Int)).toNat = p := by rw [BitVec.ofInt_natCast, BitVec.toNat_ofNat]; exact Nat.mod_eq_of_lt (by omega)
  have h2 : (BitVec.ofInt 64 (q : Int)).toNat = q := by rw [BitVec.ofInt_natCast, BitVec.toNat_ofNat]; exact Nat.mod_eq_of_lt (by omega)
  show 0 ≤ IntKind.i64.wrap ((BitVec.ofInt 64 (p : Int) ^^^ BitVec.ofInt 64 (q : Int)).toNat : Int)
  rw [BitVec.toNat_xor, h1, h2, IntKind.wrap_i64]
  omega
theorem tmod_ok {x m : Int} (hx : 0 ≤ x) (hm : 1 ≤ m) : 0 ≤ x.tmod m ∧ x.tmod m < m := ⟨Int.tmod_nonneg _ hx, Int.tmod_lt_of_pos _ (by omega)⟩

set_option maxHeartbeats 1000000 in
theorem pick_c (g c : Nat) (m : Int) (w : World) (hr : Rd w g c) (hc : c ≤ 1000000) (hm1 : m ≤ 1000000) :
    Calls Try.prog 49 #[.pointer (some ⟨g, 0, none⟩), .int .i64 m] w (Picked w g c m) := by
  have HR : Hid _ := hr
  obtain ⟨a, n, cap, h0, h1, h2, h3, h4, h5⟩ := hr
  have H0 : Hid _ := Rd.next HR.out 0
  have hn63 : n ≤ 9223372036854775807 := by omega
  by_cases hm : m < 1
  · go_enter Try.func49, Try.ntmps49
    go_wp2
    all_goals (go_ret; exact Picked.mk 0 (HR.out : Rd w g c) (by omega) (.inr rfl))
  obtain ⟨W1, hW1⟩ : ∃ W1 : World, W1 = w.setCell ⟨g, 1, none⟩ (.int .i64 ((c : Int) + 1)) := ⟨_, rfl⟩
  have k0 : W1.cell? ⟨g, 0, none⟩ = some (.slice a n cap) := by rw [hW1, World.cell?_setCell_other _ _ _ _ (by simp)]; exact h0
  have k1 : W1.cell? ⟨g, 1, none⟩ = some (.int .i64 ((c : Int) + 1)) := by rw [hW1]; exact World.cell?_setCell_same _ _ _ h1
  have H1 : Hid _ := hW1
  by_cases hn : n = 0
  · subst hn
    have k0' := k0
    rw [hW1] at k0'
    clear hW1
    go_enter Try.func49, Try.ntmps49
    go_wp2
    all_goals (go_ret; exact Picked.mk 0 (HR.out : Rd w g c) (by omega) (.inr rfl))
  rcases h5 with h5 | ⟨b, off, rfl, y, hy, hcell⟩
  · exact absurd h5 hn
  have hne : (⟨g, 1, none⟩ : Addr).block ≠ b := by rcases h4 with h4 | h4; omega; have := h4 _ rfl; simp at this; simp; omega
  have hcell1 : ∀ i, i < n → W1.cell? ⟨b, off + i, none⟩ = some (.int .u8 (y i)) := fun i hi => by
    rw [hW1, World.cell?_setCell_other _ _ _ _ (by intro h; exact hne (congrArg Addr.block h))]; exact hcell i hi
  clear hcell hne
  have hn0 : ((n : Int) == 0) = false := by simp; omega
  have hn1 : (1 : Int) ≤ (n : Int) := by omega
  by_cases hlt : c < n
  · have kc := hcell1 c hlt
    have hyc := hy c
    have hltI : (c : Int) < (n : Int) := by omega
    rw [hW1] at k0 k1 kc
    clear hW1 hcell1
    go_enter Try.func49, Try.ntmps49
    go_wp2
    go_ret
    exact Picked.mk 0 (HR.out : Rd w g c) (Int.emod_nonneg _ (by omega)) (.inl (Int.emod_lt_of_pos _ (by omega)))
  · have hgeI : ¬ (c : Int) < (n : Int) := by omega
    have l1 : c % n < n := Nat.mod_lt _ (by omega)
    have l2 : (c * 7 + 3) % n < n := Nat.mod_lt _ (by omega)
    have kc := hcell1 _ l1
    have kd := hcell1 _ l2
    rw [hW1] at k0 k1 kc kd
    have hy1 := hy (c % n)
    have hy2 := hy ((c * 7 + 3) % n)
    have hd : ((c : Int) / (n : Int)) ≤ 1000000 := by have : c / n ≤ c := Nat.div_le_self _ _; rw [← Int.natCast_ediv]; omega
    have hd0 : 0 ≤ ((c : Int) / (n : Int)) := Int.ediv_nonneg (by omega) (by omega)
    clear hy
    have l1I : ((c : Int) % (n : Int)) < (n : Int) := by omega
    have l1Z : 0 ≤ ((c : Int) % (n : Int)) := Int.emod_nonneg _ (by omega)
    have l2I : (((c : Int) * 7 + 3) % (n : Int)) < (n : Int) := Int.emod_lt_of_pos _ (by omega)
    have l2Z : 0 ≤ (((c : Int) * 7 + 3) % (n : Int)) := Int.emod_nonneg _ (by omega)
    have l1N : ((c : Int) % (n : Int)).toNat = c % n := by rw [← Int.natCast_emod]; rfl
    have l2N : (((c : Int) * 7 + 3) % (n : Int)).toNat = (c * 7 + 3) % n := by
      have : ((c : Int) * 7 + 3) = ((c * 7 + 3 : Nat) : Int) := by omega
      rw [this, ← Int.natCast_emod]; rfl
    clear hW1 hcell1
    go_enter Try.func49, Try.ntmps49
    go_wp2
    go_quiet (fail)
    go_wp2
    go_ret
    have hv := tmod_ok (m := m) (xor_nonneg ((y (c % n) : Int) * 131 + (y ((c * 7 + 3) % n) : Int) * 1117 + (c : Int) * 29 + (c : Int) / (n : Int) * 53) (((y (c % n) : Int) * 131 + (y ((c * 7 + 3) % n) : Int) * 1117 + (c : Int) * 29 + (c : Int) / (n : Int) * 53) / 64) (by omega) (by omega) (by omega) (by omega)) (by omega)
    exact Picked.mk _ (HR.out : Rd w g c) hv.1 (.inl hv.2)

/-- Whether a draw is odd: one way or the other. -/
def Odd (w : World) (g c : Nat) (e : Ending) (w' : World) : Prop := ∃ (v : Bool) (k : Nat), e = .returned (.bool v) ∧ k ≤ 1 ∧ Rd w' g (c + k) ∧ w.grownBy w' (some g) ∧ w'.heap.size = w.heap.size
theorem odd_c (g c : Nat) (m : Int) (w : World) (hr : Rd w g c) (hc : c ≤ 1000000) (hm1 : m ≤ 1000000) (hm0 : 0 < m) :
    Calls Try.prog 50 #[.pointer (some ⟨g, 0, none⟩), .int .i64 m] w (Odd w g c) := by
  have HR : Hid _ := hr
  clear hr
  go_enter Try.func50, Try.ntmps50
  go_wp2_with fail
  refine (pick_c g c m _ HR.out hc hm1).mono ?_
  rintro e w1 ⟨v, rfl, h0, h1, h2, h3, h4⟩
  have H2 : Hid _ := h2
  have H3 : Hid _ := h3
  have H4 : Hid _ := h4
  clear h2 h3 h4
  by_cases hv : v = m - 1
  · have t : (v == m - 1) = true := by simp [hv]
    have HV : Hid _ := hv
    clear hv h1 
    go_wp2_with fail
    go_ret
    exact ⟨true, 1, rfl, Nat.le_refl _, H2.out, H3.out, H4.out⟩
  · have t : (v == m - 1) = false := by simp [hv]
    clear hv h1
    go_wp2_with fail
    go_ret
    exact ⟨false, 1, rfl, Nat.le_refl _, H2.out, H3.out, H4.out⟩

/-- What opening a code leaves: a new reader. -/
def Opened (w : World) (e : Ending) (w' : World) : Prop := ∃ g, w.heap.size ≤ g ∧ e = .returned (.pointer (some ⟨g, 0, none⟩)) ∧ Rd w' g 0 ∧ Below w.heap.size w w'
theorem Byt.lt {w : World} {b off n : Nat} (h : Byt w (some ⟨b, off, none⟩) n) (hn : n ≠ 0) : b < w.heap.size := by
  rcases h with h | ⟨b', off', e, y, hy, hc⟩
  · exact absurd h hn
  · cases e
    exact World.block_lt_of_cell? w _ (hc 0 (by omega))
theorem Byt.below {w w' : World} {a : Option Addr} {n : Nat} (h : Byt w a n) (hb : Below w.heap.size w w') : Byt w' a n := by
  rcases h with h | ⟨b, off, e, y, hy, hc⟩
  · exact .inl h
  · exact .inr ⟨b, off, e, y, hy, fun i hi => cell_below (hc i hi) hb⟩
theorem Byt.le {w : World} {a : Option Addr} {n m : Nat} (h : Byt w a n) (hm : m ≤ n) : Byt w a m := by
  rcases h with h | ⟨b, off, e, y, hy, hc⟩
  · exact .inl (by omega)
  · exact .inr ⟨b, off, e, y, hy, fun i hi => hc i (by omega)⟩
theorem Opened.mk {w : World} {a : Option Addr} {n cap : Nat} (h : Byt w a n) (hn : n ≤ 2000) : Opened w (.returned (.pointer (some ⟨w.heap.size, 0, none⟩))) (w.alloc (.cells #[.slice a n cap, .int .i64 0] 65)) := by
  refine ⟨w.heap.size, Nat.le_refl _, rfl, ⟨a, n, cap, ?_, ?_, ?_, hn, ?_, h.below ((Below.refl _ _).alloc (Nat.le_refl _) _)⟩, (Below.refl _ _).alloc (Nat.le_refl _) _⟩
  · rw [World.cell?_alloc_at _ _ _ _ rfl]; rfl
  · rw [World.cell?_alloc_at _ _ _ _ rfl]; rfl
  · rw [World.frozen?_alloc_at _ _ _ _ rfl]
  · by_cases h0 : n = 0
    · exact .inl h0
    · rcases h with h | ⟨b, off, e, y, hy, hc⟩
      · exact .inl h
      · refine .inr fun x hx => ?_
        rw [e] at hx; cases hx
        exact World.block_lt_of_cell? w _ (hc 0 (by omega))
theorem open_c (a : Option Addr) (n cap : Nat) (w : World) (hb : Byt w a n) (hn : n ≤ cap) (hcap : cap ≤ maxLen) :
    Calls Try.prog 36 #[.slice a n cap] w (Opened w) := by
  unfold maxLen at hcap
  by_cases hbig : 2000 < n
  · have h20 := hb.le (m := 2000) (by omega)
    rcases hb with h0 | ⟨b, off, rfl, y, hy, hcell⟩
    · omega
    have H : Hid _ := h20
    clear hcell h20
    go_enter Try.func36, Try.ntmps36
    go_wp2
    go_ret
    exact Opened.mk H.out (by omega)
  · have H : Hid _ := hb
    clear hb
    go_enter Try.func36, Try.ntmps36
    go_wp2
    go_ret
    exact Opened.mk H.out (by omega)
end Go.Proofs.Yteeokegkbhpbcaa
