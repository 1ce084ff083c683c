/- Grow of nil, and Concat of two rows. -/
import Derived.Test.Ytgiioponimiddaa10G
namespace Go.Proofs.Ytgiioponimiddaa
open Go.RowKit
set_option linter.unusedVariables false
set_option linter.unusedSimpArgs false
set_option maxRecDepth 100000

set_option maxHeartbeats 1000000 in
theorem grow0_c (n : Nat) (w : World) (h0 : 0 < n) (hm : n ≤ 1048577) :
    Calls Try.prog 78 #[.slice none 0 0, .int .i64 n] w fun e w' => ∃ v, e = .returned v ∧ Own w' w.heap.size v [] ∧ v ≠ .slice none 0 0 ∧ Below w.heap.size w w' := by
  obtain ⟨i0, hi, hz0, hz1, hz2⟩ := info_parts infoInt
  have hold : (Builtin.firstCells i0.size 0 (.slice none 0 0)).run Try.prog w.drew = .ok ([] : List Value).toArray w.drew := run_firstCells_none w.drew i0.size 0 0 0
  have hrz : ∀ ty, ∃ c, n ≤ c ∧ c ≤ maxLen ∧ (Builtin.append_ #[23, 3] ty #[.slice none 0 0, .int .i64 (n : Int)]).run Try.prog w =
      .ok (.slice (some ⟨w.heap.size, 0, none⟩) n c) (w.drew.alloc (.cells ((Builtin.zeroCells (Value.int .i64 0).cells n ++ Builtin.zeroCells (Value.int .i64 0).cells (c - n))) 3)) := fun ty => by
    have h := Lib.run_append_grow_zeros (P := Try.prog) w 23 3 ty 3 i0 (.int .i64 0) .i64 .i64 Try.underlying23 Try.underlying3 hi hz0 none 0 0 [] hold n h0 (by omega) (by omega) (by omega) (by rw [hz2]; omega)
      (by rw [Nat.zero_add, hz2]; exact growslice_fits (by omega) (by omega))
    rw [Nat.zero_add] at h
    exact ⟨_, grownCap_ge w _ _ _, grownCap_le_maxLen w _ _ _ (by unfold maxLen; omega), by simpa using h⟩
  obtain ⟨c, hc1, hc2, hrz⟩ := hrz 23
  have HR := Lib.hid hrz
  have hc3 : c ≤ 9223372036854775807 := by unfold maxLen at hc2; omega
  clear hrz hold
  have hn0 : ¬ ((n : Int) < 0) := by omega
  have hn1 : (n : Int) > 0 := by omega
  go_enter Try.func78, Try.ntmps78
  go_wp2_with (at_builtin; refine Lib.wpList_append_run _ rfl _ _ _ _ rfl _ _ rfl rfl _ _ HR.out ?_)
  go_ret
  refine ⟨_, rfl, ⟨by simp, .inr ⟨w.heap.size, c, _, rfl, Nat.le_refl _, heap_alloc_new _ _, by simp, hc2, ?_, by simp⟩⟩, by simp, (Below.dw (Below.refl _ _)).alloc (Nat.le_refl _) _⟩
  simp [Builtin.zeroCells]
  omega
theorem ints_cells {w : World} {b off : Nat} {xs : List Int} (h : Ints w b off xs) : ∀ j u, (xs.map (Value.int .i64))[j]? = some u → w.cell? ((⟨b, off, none⟩ : Addr).add j) = some u := fun j u hu => by
  have hj : j < xs.length := by
    obtain ⟨h1, _⟩ := List.getElem?_eq_some_iff.1 hu
    simpa using h1
  have := h j hj
  rw [List.getElem?_map, List.getElem?_eq_getElem hj] at hu
  simp at hu
  rw [nth_eq hj] at this
  rw [Addr.add_lit, this, hu]
set_option maxHeartbeats 2000000 in
theorem concat_c (H b1 o1 n1 k1 b2 o2 n2 k2 : Nat) (ys zs : List Int) (w : World) (hX : BoxV w H [.slice (some ⟨b1, o1, none⟩) n1 k1, .slice (some ⟨b2, o2, none⟩) n2 k2]) (h1 : Ints w b1 o1 ys) (hl1 : ys.length = n1) (h2 : Ints w b2 o2 zs) (hl2 : zs.length = n2) (h0 : 0 < n1 + n2) (hm : n1 + n2 ≤ 1048577) :
    Calls Try.prog 72 #[.slice (some ⟨H, 0, none⟩) 2 2] w (NewI w (ys ++ zs)) := by
  have X0 := Lib.hid hX
  have Y0 := Lib.hid h1
  have Z0 := Lib.hid h2
  have HL1 := Lib.hid hl1
  have HL2 := Lib.hid hl2
  obtain ⟨i0, hi, hz0, hz1, hz2⟩ := info_parts infoInt
  clear hX h1 hl1 h2 hl2
  refine at_base fun wn hwn => ?_
  have T := Lib.hid (show Below w.heap.size w wn from by rw [hwn]; exact Below.refl _ _)
  clear hwn
  go_enter Try.func72, Try.ntmps72
  go_wp2_with fail
  go_loopw [3, 11] (fun s v wr => ∃ (k S : Nat), k ≤ 2 ∧ v = .int .i64 k ∧ s = .int .i64 S ∧ (k = 0 ∧ S = 0 ∨ k = 1 ∧ S = n1 ∨ k = 2 ∧ S = n1 + n2) ∧ Below w.heap.size w wr) (fun s v _ => 2 - (intOf v).toNat)
  case atStart => exact ⟨0, 0, by omega, rfl, rfl, .inl ⟨rfl, rfl⟩, T.out⟩
  case' round =>
    clear T
    obtain ⟨k, S, hk, rfl, rfl, hkS, h9T⟩ := hrel
    obtain ⟨wn, hwq⟩ : ∃ w0 : World, w0 = wr := ⟨_, rfl⟩
    rw [← hwq] at h9T ⊢
    clear hwq
    have T := Lib.hid h9T
    clear h9T
    obtain ⟨⟨c0, c1⟩, -, -⟩ := (BoxV.below X0.out T.out).c2
    obtain ⟨rfl, hS⟩ | ⟨rfl, hS⟩ | ⟨rfl, hS⟩ := hkS
    case _ =>
      have HS := Lib.hid hS
      have hs0 : ¬ ((S : Int) + n1 < 0) := by omega
      have hs1 : -9223372036854775808 ≤ (S : Int) + n1 ∧ (S : Int) + n1 ≤ 9223372036854775807 := by omega
      clear hk hS
      go_wp2_with fail
      go_roundw
      case rel => exact ⟨1, S + n1, by omega, by go_num, by go_num, .inr (.inl ⟨rfl, by have := HS.out; omega⟩), T.out⟩
      case measure => first | (simp [intOf]; done) | (simp [intOf]; omega) | omega
    case _ =>
      have HS := Lib.hid hS
      have hs0 : ¬ ((S : Int) + n2 < 0) := by omega
      have hs1 : -9223372036854775808 ≤ (S : Int) + n2 ∧ (S : Int) + n2 ≤ 9223372036854775807 := by omega
      clear hk hS
      go_wp2_with fail
      go_roundw
      case rel => exact ⟨2, S + n2, by omega, by go_num, by go_num, .inr (.inr ⟨rfl, by have := HS.out; omega⟩), T.out⟩
      case measure => first | (simp [intOf]; done) | (simp [intOf]; omega) | omega
    have HS := Lib.hid hS
    have hS0 : 0 < S := by omega
    have hSm : S ≤ 1048577 := by omega
    clear c0 c1 hk hS
    go_wp2_with fail
    refine (grow0_c S wn hS0 hSm).mono ?_
    rintro e w2 ⟨v, rfl, hO, hne, hb⟩
    have T2 := Lib.hid (below_next T.out hb)
    have HB2 := Lib.hid T.out.size
    obtain ⟨B, hB⟩ : ∃ B, wn.heap.size = B := ⟨_, rfl⟩
    have HB := Lib.hid hb.size
    rw [hB] at hO HB HB2
    have O := Lib.hid hO
    have NE := Lib.hid hne
    clear T hO hne hb hB HS
    obtain ⟨wn, hwn⟩ : ∃ w9, w9 = w2 := ⟨_, rfl⟩
    subst hwn
    have T := T2
    clear T2
    go_wp2_with fail
    go_loopw [6, 27] (fun o v wr => ∃ (k : Nat) (u : Value) (L : List Int), k ≤ 2 ∧ v = .int .i64 k ∧ o = u ∧ u ≠ .slice none 0 0 ∧ (k = 0 ∧ L = [] ∨ k = 1 ∧ L = ys ∨ k = 2 ∧ L = ys ++ zs) ∧ Below w.heap.size w wr ∧ Own wr B u L) (fun o v _ => 2 - (intOf v).toNat)
    case atStart => exact ⟨0, _, [], by omega, rfl, rfl, NE.out, .inl ⟨rfl, rfl⟩, T.out, O.out⟩
    case' round =>
      clear T O
      obtain ⟨k, u, L, hk, hv9, hu9, hne, hkL, h9T, h9O⟩ := hrel
      obtain ⟨wn, hwq⟩ : ∃ w0 : World, w0 = wr := ⟨_, rfl⟩
      rw [← hwq] at h9T h9O ⊢
      clear hwq
      have T := Lib.hid h9T
      have O := Lib.hid h9O
      clear h9T h9O
    subst hv9
    subst hu9
    obtain ⟨rfl, hL⟩ | ⟨rfl, hL⟩ | ⟨rfl, hL⟩ := hkL
    case _ =>
      obtain ⟨⟨c0, c1⟩, -, -⟩ := (BoxV.below X0.out T.out).c2
      have NW := Lib.hid (ints_cells (Ints.below Y0.out T.out))
      have HLL := Lib.hid (show L.length = 0 from by rw [hL]; rfl)
      have HE := Lib.hid hL
      have NE := Lib.hid hne
      clear hL hne hk
      go_wp2_with ((at_builtin; refine wpList_append_wanted rfl _ _ 23 rfl B 3 i0 (.int .i64 0) 1 8 Try.underlying23 hi hz0 hz1 hz2 rfl (by decide) _ _ _ rfl O.out ⟨b1, o1, none⟩ n1 k1 (ys.map (Value.int .i64)) rfl (by rw [List.length_map, HL1.out, Nat.mul_one]) NW.out (by intro u hu; obtain ⟨x, _, rfl⟩ := List.mem_map.1 hu; rfl) (by rw [HLL.out]; unfold maxLen; omega) (by rw [HLL.out]; omega) (Own.base O.out NE.out) ?_))
      intro v' w1 hown hgrow hnil hat
      have hO1 := Lib.hid (show Own w1 B v' (L ++ ys) from by unfold Own; rw [List.length_append, List.map_append, HL1.out]; exact hown)
      have hne1 := Lib.hid (show v' ≠ .slice none 0 0 from fun e => NE.out (hnil.1 e).1)
      have T1 := Lib.hid (Below.own T.out hgrow fun i e => Nat.le_trans HB2.out (own_lt2 O.out i e).1)
      clear hown hgrow hnil hat c0 c1 NW T O NE
      have T := T1
      have O := hO1
      clear T1 hO1
      go_wp2_with fail
      go_roundw
      case rel => exact ⟨1, v', L ++ ys, by omega, by go_num, rfl, hne1.out, .inr (.inl ⟨rfl, by rw [HE.out]; rfl⟩), T.out, O.out⟩
      case measure => first | (simp [intOf]; done) | (simp [intOf]; omega) | omega
    case _ =>
      obtain ⟨⟨c0, c1⟩, -, -⟩ := (BoxV.below X0.out T.out).c2
      have NW := Lib.hid (ints_cells (Ints.below Z0.out T.out))
      have HLL := Lib.hid (show L.length = n1 from by rw [hL]; exact HL1.out)
      have HE := Lib.hid hL
      have NE := Lib.hid hne
      clear hL hne hk
      go_wp2_with ((at_builtin; refine wpList_append_wanted rfl _ _ 23 rfl B 3 i0 (.int .i64 0) 1 8 Try.underlying23 hi hz0 hz1 hz2 rfl (by decide) _ _ _ rfl O.out ⟨b2, o2, none⟩ n2 k2 (zs.map (Value.int .i64)) rfl (by rw [List.length_map, HL2.out, Nat.mul_one]) NW.out (by intro u hu; obtain ⟨x, _, rfl⟩ := List.mem_map.1 hu; rfl) (by rw [HLL.out]; unfold maxLen; omega) (by rw [HLL.out]; omega) (Own.base O.out NE.out) ?_))
      intro v' w1 hown hgrow hnil hat
      have hO1 := Lib.hid (show Own w1 B v' (L ++ zs) from by unfold Own; rw [List.length_append, List.map_append, HL2.out]; exact hown)
      have hne1 := Lib.hid (show v' ≠ .slice none 0 0 from fun e => NE.out (hnil.1 e).1)
      have T1 := Lib.hid (Below.own T.out hgrow fun i e => Nat.le_trans HB2.out (own_lt2 O.out i e).1)
      clear hown hgrow hnil hat c0 c1 NW T O NE
      have T := T1
      have O := hO1
      clear T1 hO1
      go_wp2_with fail
      go_roundw
      case rel => exact ⟨2, v', L ++ zs, by omega, by go_num, rfl, hne1.out, .inr (.inr ⟨rfl, by rw [HE.out]⟩), T.out, O.out⟩
      case measure => first | (simp [intOf]; done) | (simp [intOf]; omega) | omega
    have HE := Lib.hid (show Own wn B u6 (ys ++ zs) from by rw [← hL]; exact O.out)
    clear hL hne hk
    go_wp2_with fail
    go_ret
    exact ⟨_, rfl, Own.mono HE.out HB2.out, T.out⟩
end Go.Proofs.Ytgiioponimiddaa
