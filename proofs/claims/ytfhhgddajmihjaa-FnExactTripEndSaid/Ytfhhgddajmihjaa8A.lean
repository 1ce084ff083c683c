/- Arrays of rows: the contracts of impl's helpers. -/
import Derived.Test.Ytfhhgddajmihjaa8G
import Derived.Laws.IdiomCopy
import Derived.Lib.LazyBuf
namespace Go.Proofs.Ytfhhgddajmihjaa
open Go.RowKit
set_option linter.unusedVariables false
set_option linter.unusedSimpArgs false
set_option maxRecDepth 100000

/-- The cells of an array of 24 truths. -/
def arr (f : Nat → Bool) : Array Value := ((List.range 24).map fun i => Value.bool (f i)).toArray
theorem arr_size (f : Nat → Bool) : (arr f).size = 24 := by simp [arr]
theorem arr_at (f : Nat → Bool) {i : Nat} (h : i < 24) : (arr f)[i]? = some (.bool (f i)) := by simp [arr, h]
theorem arr_congr {f g : Nat → Bool} (h : ∀ i, i < 24 → f i = g i) : arr f = arr g := by
  unfold arr
  congr 1
  exact List.map_congr_left fun i hi => by rw [h i (List.mem_range.1 hi)]
/-- The rows of calls, one behind the other. -/
def rw3 (x : Cs) (i : Nat) : Bool := if i < 8 then bn x.u i else if i < 16 then bn x.d (i - 8) else bn x.c (i - 16)
/-- Row k of an array. -/
def rowOf (f : Nat → Bool) (k n : Nat) : List Bool := (List.range n).map fun i => f (8 * k + i)
theorem rowOf_len (f : Nat → Bool) (k n : Nat) : (rowOf f k n).length = n := by simp [rowOf]
theorem bn_rowOf (f : Nat → Bool) {k n i : Nat} (h : i < n) : bn (rowOf f k n) i = f (8 * k + i) := by rw [bn_eq (by simpa [rowOf] using h)]; simp [rowOf]
def csOf (f : Nat → Bool) (n : Nat) : Cs := ⟨rowOf f 0 n, rowOf f 1 n, rowOf f 2 n⟩
/-- The end of a function that gives new rows: they lie in its result. -/
theorem newC_store {w0 W w' : World} {r : Nat} {v1 v2 v3 : Value} {x : Cs} (hB : Below W.heap.size W w') (hW : Below w0.heap.size w0 W) (hr : w0.heap.size ≤ r) (hr2 : r < W.heap.size) (h1 : OwnB w' W.heap.size v1 x.u) (h2 : OwnB w' W.heap.size v2 x.d) (h3 : OwnB w' W.heap.size v3 x.c)
    (a12 : Apart v1 v2) (a13 : Apart v1 v3) (a23 : Apart v2 v3) (f : Value → Value) :
    NewC w0 x f (.returned (f (.agg #[v1, v2, v3]))) (((w'.setCell ⟨r, 0, none⟩ v1).setCell ⟨r, 1, none⟩ v2).setCell ⟨r, 2, none⟩ v3) := by
  have hsz : (((w'.setCell ⟨r, 0, none⟩ v1).setCell ⟨r, 1, none⟩ v2).setCell ⟨r, 2, none⟩ v3).heap.size = w'.heap.size := by simp [World.size_setCell]
  have keep : ∀ k, r ≠ k → (((w'.setCell ⟨r, 0, none⟩ v1).setCell ⟨r, 1, none⟩ v2).setCell ⟨r, 2, none⟩ v3).heap[k]? = w'.heap[k]? := fun k hk => by
    rw [Below.heap_setCell _ _ _ _ (by simpa using fun e => hk e.symm), Below.heap_setCell _ _ _ _ (by simpa using fun e => hk e.symm), Below.heap_setCell _ _ _ _ (by simpa using fun e => hk e.symm)]
  have hs := hB.size
  have hs0 := hW.size
  refine ⟨v1, v2, v3, rfl, ⟨⟨(h1.mono (by omega)).block fun k hk => keep k (by have := h1.lt k hk; omega), (h2.mono (by omega)).block fun k hk => keep k (by have := h2.lt k hk; omega), (h3.mono (by omega)).block fun k hk => keep k (by have := h3.lt k hk; omega)⟩, ⟨a12, a13, a23⟩, Nat.le_refl _, by rw [hsz]; omega, fun k hk => ?_⟩, ?_⟩
  · rw [hsz]
    rcases hk with hk | hk | hk
    · exact (h1.lt k hk).2
    · exact (h2.lt k hk).2
    · exact (h3.lt k hk).2
  · have h0 := below_next hW hB
    refine Below.st (Below.st (Below.st h0 ?_ _) ?_ _) ?_ _ <;> simpa using hr
theorem ob_clone {W w : World} {M : Value → World → Prop} {b off n cap : Nat} {xs : List Bool} (hC : Below W.heap.size W w) (hl : xs.length = n) (h1 : 1 ≤ n) (h2 : n ≤ 1000000) (hc : ∀ i, i < n → w.cell? ⟨b, off + i, none⟩ = some (.bool (bn xs i)))
    (hM : ∀ v w', OwnB w' W.heap.size v xs → Newer w v → M v w') : Comply Try.prog (fun _ w => Below W.heap.size W w) Grow 0 w M (.ok (.enter 82 #[.slice (some ⟨b, off, none⟩) n cap]) w) :=
  (Clone_c b off n cap xs w hl h1 h2 hc).mono fun e w' ⟨v, he, own, hg⟩ => ⟨v, he, hM v w' (own.mono (Below.size hC)) (fun k hk => (own.lt k hk).1), Below.own hC hg (fun i e => by cases e), hg⟩
set_option maxHeartbeats 2000000 in
theorem calls_c (f : Nat → Bool) (n : Nat) (w : World) (h1 : 1 ≤ n) (h8 : n ≤ 8) :
    Calls Try.prog 54 #[.agg (arr f), .int .i64 n] w (NewC w (csOf f n) id) := by
  have r0 := World.rowIs_alloc w (arr f) 68 (fun i => .bool (f i)) (fun i hi => arr_at f (by rwa [arr_size] at hi))
  rw [arr_size] at r0
  have R0 : Hid _ := r0
  have B0 : Hid _ := Bx.new (w.alloc (.cells (arr f) 68)) (.slice none 0 0) (.slice none 0 0) (.slice none 0 0) 36
  clear r0
  go_enter Try.func54, Try.ntmps54
  go_wp2_with fail
  obtain ⟨W, hW⟩ : ∃ W, ((w.alloc (.cells (arr f) 68)).alloc (.cells #[.slice none 0 0, .slice none 0 0, .slice none 0 0] 36)) = W := ⟨_, rfl⟩
  have R : Hid (W.rowIs w.heap.size 68 24 (fun i => .bool (f i))) := (show W.rowIs w.heap.size 68 24 (fun i => .bool (f i)) from by rw [← hW]; exact World.rowIs.alloc R0.out _)
  have B : Hid (Bx W (w.heap.size + 1) (.slice none 0 0) (.slice none 0 0) (.slice none 0 0)) := (show Bx W (w.heap.size + 1) (.slice none 0 0) (.slice none 0 0) (.slice none 0 0) from by rw [← hW]; have h9 := B0.out; rw [World.size_alloc] at h9; exact h9)
  have h8i : (n : Int) ≤ 8 := by omega
  have hsz : w.heap.size + 1 < W.heap.size := by rw [← hW]; simp
  have HB : Hid (Below w.heap.size w W) := (show Below w.heap.size w W from by rw [← hW]; exact Below.al (Below.al (Below.refl _ _) _) _)
  rw [hW]
  clear hW R0 B0
  have cells : Hid (∀ k w', k < 3 → Below W.heap.size W w' → ∀ i, i < n → w'.cell? ⟨w.heap.size, 8 * k + i, none⟩ = some (.bool (bn (rowOf f k n) i))) := (fun k w' hk hb i hi => by
    rw [bn_rowOf f hi]
    exact (hb.cell (p := ⟨w.heap.size, 8 * k + i, none⟩) (by simp; omega)).trans (R.out.cell (i := 8 * k + i) (by omega)) : ∀ k w', k < 3 → Below W.heap.size W w' → ∀ i, i < n → w'.cell? ⟨w.heap.size, 8 * k + i, none⟩ = some (.bool (bn (rowOf f k n) i)))
  refine wp_region_rows [8, 12, 16] 12 [5, 6, 7, 8, 9, 10, 11, 12, 13, 14, 15, 16] [(1, tV (.int .i64 n)), (2, tV (.pointer (some ⟨w.heap.size, 0, none⟩)))]
    [(5, tV (.pointer (some ⟨w.heap.size, 0, none⟩))), (6, tV (.int .i64 n)), (7, tV (.slice (some ⟨w.heap.size, 0, none⟩) n 8)), (8, tOB W.heap.size (rowOf f 0 n)), (9, tV (.pointer (some ⟨w.heap.size, 8, none⟩))), (10, tV (.int .i64 n)), (11, tV (.slice (some ⟨w.heap.size, 8, none⟩) n 8)), (12, tOB W.heap.size (rowOf f 1 n)), (13, tV (.pointer (some ⟨w.heap.size, 16, none⟩))), (14, tV (.int .i64 n)), (15, tV (.slice (some ⟨w.heap.size, 16, none⟩) n 8)), (16, tOB W.heap.size (rowOf f 2 n))]
    _ _ (by kernel_rfl) (by kernel_rfl) ?hown (by kernel_rfl) (by kernel_rfl) (by kernel_rfl) (by kernel_rfl) (by rfl) (by rfl) (by kernel_rfl) (by kernel_rfl) (by kernel_rfl) (by kernel_rfl) (by kernel_rfl) ?hst ⟨rfl, rfl, trivial⟩ ?hobs ?_
  case hown =>
    intro t ht
    have : t = 8 ∨ t = 12 ∨ t = 16 := by simpa using ht
    rcases this with e | e | e <;> subst e
    · exact ⟨rowOf f 0 n, rfl⟩
    · exact ⟨rowOf f 1 n, rfl⟩
    · exact ⟨rowOf f 2 n, rfl⟩
  case hst => exact ⟨StW.g (StW.V _), StW.g (StW.V _), StW.g (StW.V _), StW.g (StW.V _), StW.g (StW.V _), StGrow.OB _ _, StW.g (StW.V _), StW.g (StW.V _), StW.g (StW.V _), StGrow.OB _ _, StW.g (StW.V _), StW.g (StW.V _), StW.g (StW.V _), StGrow.OB _ _, trivial⟩
  case hobs =>
    refine ⟨?_, ?_, ?_, ?_, ?_, ?_, ?_, ?_, ?_, ?_, ?_, ?_, trivial⟩
    · intro w1 vs hC hL
      have ha := hL 2 (List.mem_of_elem_eq_true (by kernel_rfl))
      replace ha : vs 2 = .pointer (some ⟨w.heap.size, 0, none⟩) := ha
      go_simp
      simp only [evOf_tmp, evOf_const, ha]
      go_simp
      exact oa_pure hC (show tV _ _ w1 from rfl)
    · intro w1 vs hC hL
      have ha := hL 1 (List.mem_of_elem_eq_true (by kernel_rfl))
      replace ha : vs 1 = .int .i64 n := ha
      go_simp
      exact oa_pure hC (show tV _ (vs 1) w1 from ha)
    · intro w1 vs hC hL
      have ha := hL 5 (List.mem_of_elem_eq_true (by kernel_rfl))
      replace ha : vs 5 = .pointer (some ⟨w.heap.size, 0, none⟩) := ha
      have hb := hL 6 (List.mem_of_elem_eq_true (by kernel_rfl))
      replace hb : vs 6 = .int .i64 n := hb
      go_simp
      simp only [evOf_tmp, ha, hb]
      go_simp
      exact oa_pure hC (show tV _ _ w1 from rfl)
    · intro w1 vs hC hL
      have ha := hL 7 (List.mem_of_elem_eq_true (by kernel_rfl))
      replace ha : vs 7 = .slice (some ⟨w.heap.size, 0, none⟩) n 8 := ha
      have hcc := cells.out 0 w1 (by omega) hC
      have HCC : Hid _ := hcc
      clear hcc
      go_simp
      simp only [evOf_tmp, ha]
      exact ob_clone hC (rowOf_len f 0 n) h1 (by omega) HCC.out (fun v w' h1 h2 => ⟨h1, h2⟩)
    · intro w1 vs hC hL
      have ha := hL 2 (List.mem_of_elem_eq_true (by kernel_rfl))
      replace ha : vs 2 = .pointer (some ⟨w.heap.size, 0, none⟩) := ha
      go_simp
      simp only [evOf_tmp, evOf_const, ha]
      go_simp
      exact oa_pure hC (show tV _ _ w1 from rfl)
    · intro w1 vs hC hL
      have ha := hL 1 (List.mem_of_elem_eq_true (by kernel_rfl))
      replace ha : vs 1 = .int .i64 n := ha
      go_simp
      exact oa_pure hC (show tV _ (vs 1) w1 from ha)
    · intro w1 vs hC hL
      have ha := hL 9 (List.mem_of_elem_eq_true (by kernel_rfl))
      replace ha : vs 9 = .pointer (some ⟨w.heap.size, 8, none⟩) := ha
      have hb := hL 10 (List.mem_of_elem_eq_true (by kernel_rfl))
      replace hb : vs 10 = .int .i64 n := hb
      go_simp
      simp only [evOf_tmp, ha, hb]
      go_simp
      exact oa_pure hC (show tV _ _ w1 from rfl)
    · intro w1 vs hC hL
      have ha := hL 11 (List.mem_of_elem_eq_true (by kernel_rfl))
      replace ha : vs 11 = .slice (some ⟨w.heap.size, 8, none⟩) n 8 := ha
      have hcc := cells.out 1 w1 (by omega) hC
      have HCC : Hid _ := hcc
      clear hcc
      go_simp
      simp only [evOf_tmp, ha]
      exact ob_clone hC (rowOf_len f 1 n) h1 (by omega) HCC.out (fun v w' h1 h2 => ⟨h1, h2⟩)
    · intro w1 vs hC hL
      have ha := hL 2 (List.mem_of_elem_eq_true (by kernel_rfl))
      replace ha : vs 2 = .pointer (some ⟨w.heap.size, 0, none⟩) := ha
      go_simp
      simp only [evOf_tmp, evOf_const, ha]
      go_simp
      exact oa_pure hC (show tV _ _ w1 from rfl)
    · intro w1 vs hC hL
      have ha := hL 1 (List.mem_of_elem_eq_true (by kernel_rfl))
      replace ha : vs 1 = .int .i64 n := ha
      go_simp
      exact oa_pure hC (show tV _ (vs 1) w1 from ha)
    · intro w1 vs hC hL
      have ha := hL 13 (List.mem_of_elem_eq_true (by kernel_rfl))
      replace ha : vs 13 = .pointer (some ⟨w.heap.size, 16, none⟩) := ha
      have hb := hL 14 (List.mem_of_elem_eq_true (by kernel_rfl))
      replace hb : vs 14 = .int .i64 n := hb
      go_simp
      simp only [evOf_tmp, ha, hb]
      go_simp
      exact oa_pure hC (show tV _ _ w1 from rfl)
    · intro w1 vs hC hL
      have ha := hL 15 (List.mem_of_elem_eq_true (by kernel_rfl))
      replace ha : vs 15 = .slice (some ⟨w.heap.size, 16, none⟩) n 8 := ha
      have hcc := cells.out 2 w1 (by omega) hC
      have HCC : Hid _ := hcc
      clear hcc
      go_simp
      simp only [evOf_tmp, ha]
      exact ob_clone hC (rowOf_len f 2 n) h1 (by omega) HCC.out (fun v w' h1 h2 => ⟨h1, h2⟩)
  intro vs w' hB hT hA
  simp (decide := true) only [over, Nat.reduceAdd, if_true, if_false]
  have o1 : OwnB w' W.heap.size (vs 8) (rowOf f 0 n) := hT 8 rfl
  have o2 : OwnB w' W.heap.size (vs 12) (rowOf f 1 n) := hT 12 rfl
  have o3 : OwnB w' W.heap.size (vs 16) (rowOf f 2 n) := hT 16 rfl
  have a12 : Apart (vs 8) (vs 12) := hA 8 12 rfl rfl (by decide)
  have a13 : Apart (vs 8) (vs 16) := hA 8 16 rfl rfl (by decide)
  have a23 : Apart (vs 12) (vs 16) := hA 12 16 rfl rfl (by decide)
  have B2 : Hid _ := Bx.below B.out hB
  obtain ⟨b1, k1, e1, -, -⟩ := o1.open
  obtain ⟨b2, k2, e2, -, -⟩ := o2.open
  obtain ⟨b3, k3, e3, -, -⟩ := o3.open
  have N : Hid _ := newC_store (x := csOf f n) (r := w.heap.size + 1) hB HB.out (by omega) hsz o1 o2 o3 a12 a13 a23 id
  rw [e1, e2, e3] at N
  rw [e1, e2, e3]
  clear o1 o2 o3 a12 a13 a23 e1 e2 e3 hT hA hB
  obtain ⟨⟨c0, c1, c2⟩, hf⟩ := B2.out
  have f0 := hf 0
  have f1 := hf 1
  have f2 := hf 2
  clear hf
  go_wp2_with fail
  exact bodyPost_ret (v := .agg #[.slice b1 _ k1, .slice b2 _ k2, .slice b3 _ k3]) (by simp [results, Try.results54, go_sem, c0, c1, c2]) rfl N.out
end Go.Proofs.Ytfhhgddajmihjaa
