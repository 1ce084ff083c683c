/- The library's Sort and Compact at a row of ints of one's own. -/
import Derived.Test.Yteeokegkbhpbcaa10G
import Derived.Test.Yteeokegkbhpbcaa12V
import Derived.Lib.SortBridge
namespace Go.Proofs.Yteeokegkbhpbcaa
open Go.RowKit
set_option linter.unusedVariables false
set_option linter.unusedSimpArgs false
set_option maxRecDepth 100000

theorem below_grow (w : World) (os : Array Obj) : Below w.heap.size w (Sort.grow w os) := ⟨rfl, rfl, rfl, by simp [Sort.grow], fun k hk => Sort.heap_grow_old w os hk⟩
theorem bdr {B : Nat} (w : World) (n : Nat) : Below B w (w.drewN n) := ⟨rfl, rfl, rfl, Nat.le_refl _, fun _ _ => rfl⟩
theorem own_holds {w : World} {B q n cap : Nat} {ys : List Int} (h : Own w B (.slice (some ⟨q, 0, none⟩) n cap) ys) : Sort.Holds (Value.int .i64) w q 0 ys.toArray := fun j hj => by
  have hj2 : j < ys.length := by simpa using hj
  have hn : ys.length = n := (own_rd h).2
  obtain ⟨b, c, e, -, -, hI, -, -⟩ := Own.some h (by simp)
  simp only [Value.slice.injEq, Option.some.injEq, Addr.mk.injEq, and_true] at e
  obtain ⟨rfl, -⟩ := e
  refine ⟨?_, ?_⟩
  · rw [hI j hj2, getElem!_pos ys.toArray j hj]
    simp [nth, List.getD, hj2]
  · rw [Nat.zero_add]
    exact World.ownsRow.frozenAt (by unfold Own at h; rw [hn] at h; exact h) j
theorem own_cut {w : World} {B q n cap : Nat} {u v : List Int} (h : Own w B (.slice (some ⟨q, 0, none⟩) n cap) (u ++ v)) : Own w B (.slice (some ⟨q, 0, none⟩) u.length cap) u := by
  obtain ⟨hl, h⟩ := h
  rcases h with ⟨e, _⟩ | ⟨g, c', cur, e, hb, hh, hlen, hmx, hs, ht⟩
  · simp at e
  · simp only [Value.slice.injEq, Option.some.injEq, Addr.mk.injEq, and_true] at e
    obtain ⟨rfl, e1, rfl⟩ := e
    refine ⟨by simp, .inr ⟨q, cap, cur, rfl, hb, hh, by simp at hlen; omega, hmx, hs, ?_⟩⟩
    have h2 := congrArg (List.take (u.length * 1)) ht
    rw [List.take_take, Nat.min_eq_left (by simp), List.map_append, List.take_left' (by simp)] at h2
    exact h2
theorem sort_own {w : World} {B : Nat} {v : Value} {ys : List Int} (h : Own w B v ys) (hB : B ≤ w.heap.size) (hm : ys.length ≤ 1048577) :
    Calls Try.prog 56 #[v] w fun e w' => e = .returned (.tuple #[]) ∧ Own w' B v (srt ys) ∧ Below B w w' := by
  by_cases hn : v = .slice none 0 0
  · subst hn
    obtain rfl : ys = [] := List.length_eq_zero_iff.1 (own_rd h).2
    refine (Try.slices_Sort_int_none none 0 w).mono ?_
    rintro e w' ⟨rfl, rfl⟩
    exact ⟨rfl, by rw [show srt [] = [] from by simp [srt]]; exact own_nil _ _, Below.refl _ _⟩
  · obtain ⟨q, cap, rfl, hq1, hq2, hI, hc1, hc2⟩ := Own.some h hn
    refine (Try.slices_Sort_int q 0 cap ys w (own_holds h) hq2 (by omega)).mono ?_
    rintro e w' ⟨rfl, n, os, hw⟩
    have e1 : w' = Sort.grow ((w.drewN n).setCells q 0 ((srt ys).map (Value.int .i64))) os := by
      rw [hw]; exact Lib.sorted_world (Value.int .i64) w q 0 n ys.toArray (srt ys) os (own_holds h) (by rw [srt_len]; simp)
    have K := own_setCells (srt ys) [] ys (w.drewN n) (by rw [srt_len]) h
    refine ⟨rfl, ?_, ?_⟩
    · rw [e1]; exact own_below K.1 (below_grow _ _)
    · rw [e1]
      have h3 := K.2 B hq1
      exact Below.tr (Below.tr (bdr w n) h3) (Below.mono (below_grow _ _) (Nat.le_trans hB h3.size))
theorem compact_own {w : World} {B : Nat} {v : Value} {ys : List Int} (h : Own w B v ys) (hm : ys.length ≤ 1048577) :
    Calls Try.prog 46 #[v] w fun e w' => ∃ u, e = .returned u ∧ Own w' B u (Lib.compact ys) ∧ Below B w w' := by
  by_cases hn : v = .slice none 0 0
  · subst hn
    obtain rfl : ys = [] := List.length_eq_zero_iff.1 (own_rd h).2
    refine (Try.slices_Compact_int_empty none 0 w).mono ?_
    rintro e w' ⟨rfl, rfl⟩
    exact ⟨_, rfl, by rw [show Lib.compact ([] : List Int) = [] from by simp [Lib.compact, Lib.compactUpTo]]; exact own_nil _ _, Below.refl _ _⟩
  · obtain ⟨q, cap, rfl, hq1, hq2, hI, hc1, hc2⟩ := Own.some h hn
    refine (Try.slices_Compact_int q 0 cap ys w (own_holds h) (by omega) hc1).mono ?_
    rintro e w' ⟨rfl, n, hw⟩
    have hcl : (Lib.compact ys).length ≤ ys.length := by
      unfold Lib.compact Lib.compactUpTo
      rw [List.length_map]
      exact Nat.le_trans (List.length_filter_le _ _) (by rw [List.length_range]; exact Nat.le_refl _)
    have hL : (Lib.compact ys ++ List.replicate (ys.length - (Lib.compact ys).length) 0).length = ys.length := by
      rw [List.length_append, List.length_replicate]; omega
    have e1 : w' = (w.drewN n).setCells q 0 ((Lib.compact ys ++ List.replicate (ys.length - (Lib.compact ys).length) 0).map (Value.int .i64)) := by
      rw [hw]; exact Lib.putRow_eq_setCells (Value.int .i64) w q 0 ys.toArray _ n (own_holds h) (by rw [hL]; simp)
    have K := own_setCells (Lib.compact ys ++ List.replicate (ys.length - (Lib.compact ys).length) 0) [] ys (w.drewN n) hL.symm h
    refine ⟨_, rfl, ?_, ?_⟩
    · rw [e1]; exact own_cut K.1
    · rw [e1]; exact Below.tr (bdr w n) (K.2 B hq1)
end Go.Proofs.Yteeokegkbhpbcaa
