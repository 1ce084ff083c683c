/- pastEnds, nothingWaits. -/
import Derived.Test.Ytfhhgddajmihjaa8B
namespace Go.Proofs.Ytfhhgddajmihjaa
open Go.RowKit
set_option linter.unusedVariables false
set_option linter.unusedSimpArgs false
set_option maxRecDepth 100000

/-- The calls that lead out of a building. -/
def pe (f : Nat → Bool) (n i : Nat) : Bool := if i = n - 1 then f (n - 1) else if i = 8 then f 8 else false
set_option maxHeartbeats 1000000 in
theorem pastEnds_c (f : Nat → Bool) (n : Nat) (w : World) (h1 : 1 ≤ n) (h8 : n ≤ 8) :
    Calls Try.prog 58 #[.agg (arr f), .int .i64 n] w (Mk w (.agg (arr (pe f n)))) := by
  obtain ⟨k, rfl⟩ : ∃ k, n = k + 1 := ⟨n - 1, by omega⟩
  have k8 : (k : Int) < 8 := by omega
  have k8n : k < 8 := by omega
  have k0 : (0 : Int) ≤ k := by omega
  have r0 := World.rowIs_alloc w (arr f) 68 (fun i => .bool (f i)) (fun i hi => arr_at f (by rwa [arr_size] at hi))
  rw [arr_size] at r0
  have R0 := Lib.hid r0
  clear r0
  go_enter Try.func58, Try.ntmps58
  iterate 15 (go_step)
  obtain ⟨W, hW⟩ : ∃ W, ((w.alloc (.cells (arr f) 68)).alloc (.cells (arr fun _ => false) 68)).alloc (.cells (arr fun _ => false) 68) = W := ⟨_, rfl⟩
  obtain ⟨g, hg⟩ : ∃ g, w.heap.size = g := ⟨_, rfl⟩
  have R := Lib.hid (show W.rowIs g 68 24 (fun i => .bool (f i)) from by rw [← hW, ← hg]; exact World.rowIs.alloc (World.rowIs.alloc R0.out _) _)
  have O := Lib.hid (show W.rowIs (g + 2) 68 24 (fun i => .bool ((fun _ => false) i)) from by
    rw [← hW, ← hg]
    have h9 := World.rowIs_alloc ((w.alloc (.cells (arr f) 68)).alloc (.cells (arr fun _ => false) 68)) (arr fun _ => false) 68 (fun i => .bool false) (fun i hi => arr_at _ (by rwa [arr_size] at hi))
    rw [arr_size, World.size_alloc, World.size_alloc] at h9; exact h9)
  have F := Lib.hid (show W.rowIs (g + 1) 68 24 (fun i => .bool ((fun _ => false) i)) from by
    rw [← hW, ← hg]
    have h9 := World.rowIs.alloc (World.rowIs_alloc (w.alloc (.cells (arr f) 68)) (arr fun _ => false) 68 (fun i => .bool false) (fun i hi => arr_at _ (by rwa [arr_size] at hi))) (.cells (arr fun _ => false) 68)
    rw [arr_size, World.size_alloc] at h9; exact h9)
  have HB : Hid (Below w.heap.size w W) := (show Below w.heap.size w W from by rw [← hW]; exact Below.al (Below.al (Below.al (Below.refl _ _) _) _) _)
  have HG : Hid (w.heap.size = g) := hg
  have e0 : (arr fun _ => false) = #[.bool false, .bool false, .bool false, .bool false, .bool false, .bool false, .bool false, .bool false, .bool false, .bool false, .bool false, .bool false, .bool false, .bool false, .bool false, .bool false, .bool false, .bool false, .bool false, .bool false, .bool false, .bool false, .bool false, .bool false] := by rfl
  rw [e0] at hW
  rw [hW, hg]
  clear hW R0 e0 hg
  have c1 := World.rowIs.cell R.out (i := k) (by omega)
  have c2 := World.rowIs.cell R.out (i := 8) (by omega)
  have c3 := World.rowIs.cell O.out (i := k) (by omega)
  have f3 := World.rowIs.frozen O.out k
  have c4 := World.rowIs.cell (World.rowIs.set O.out k (.bool (f k))) (i := 8) (by omega)
  have f4 := World.rowIs.frozen (World.rowIs.set O.out k (.bool (f k))) 8
  have O2 := Lib.hid (World.rowIs.set (World.rowIs.set O.out k (.bool (f k))) 8 (.bool (f 8)))
  have O3 := Lib.hid (World.rowIs.congr O2.out (g := fun i => .bool (pe f (k + 1) i)) fun i hi => by
    unfold pe
    simp only [Nat.add_sub_cancel]
    by_cases h2 : i = 8
    · rw [if_pos h2, if_neg (show ¬ i = k by omega), if_pos h2]
    · rw [if_neg h2, if_neg h2]
      by_cases h3 : i = k
      · rw [if_pos h3, if_pos h3]
      · rw [if_neg h3, if_neg h3])
  have F2 := Lib.hid (World.rowIs.setOther (World.rowIs.setOther F.out (a := ⟨g + 2, k, none⟩) (by simp) (.bool (f k))) (a := ⟨g + 2, 8, none⟩) (by simp) (.bool (f 8)))
  have HB2 : Hid (Below w.heap.size w ((W.setCell ⟨g + 2, k, none⟩ (.bool (f k))).setCell ⟨g + 2, 8, none⟩ (.bool (f 8)))) := (show Below _ _ _ from by have := HG.out; exact Below.st (Below.st HB.out (by show _ ≤ g + 2; omega) _) (by show _ ≤ g + 2; omega) _)
  clear O O2 F R HB
  simp only [] at c1 c2 c3
  go_wp2_with (first | (with_reducible refine wpList_load_arr O3.out rfl ?_) | (with_reducible refine wpList_store_arr F2.out rfl rfl ?_))
  intro wr hr ho
  have hg := HG.out
  have HBr : Hid (Below w.heap.size w wr) := Out.below HB2.out ho (by omega)
  clear hg ho
  have HR := Lib.hid hr
  clear hr
  go_wp2_with fail
  exact bodyPost_ret (results_arr rfl rfl HR.out) rfl ⟨rfl, HBr.out⟩

/-- Whether nobody waits. -/
def nw (f : Nat → Bool) : Bool := !(List.range 24).any f
theorem items_b {xs ys : Array Value} {d : Nat} (w : World) {a b : Nat → Bool} : ∀ is : List Nat, (∀ i ∈ is, xs[i]? = some (.bool (a i)) ∧ ys[i]? = some (.bool (b i))) →
    (Op.eqItems (d + 1) 4 1 xs ys is).run Try.prog w = .ok (is.all fun i => a i == b i) w
  | [], _ => by simp [Op.eqItems]
  | i :: is, h => by
    obtain ⟨h1, h2⟩ := h i (by simp)
    have ih := items_b (d := d) w is (fun j hj => h j (by simp [hj]))
    have q : (Op.equalIn (d + 1) 4 (.bool (a i)) (.bool (b i))).run Try.prog w = .ok (a i == b i) w := Go.run_equalIn_bool' w d 4 (a i) (b i) Try.underlying4
    have p1 : (part 4 xs (i * 1)).run Try.prog w = .ok (.bool (a i)) w := by
      simp [part, Try.isAgg4, h1]
    have p2 : (part 4 ys (i * 1)).run Try.prog w = .ok (.bool (b i)) w := by
      simp [part, Try.isAgg4, h2]
    simp only [Op.eqItems, Sem.run_bind, p1, p2, Result.andThen_ok, q, List.all_cons]
    cases hab : (a i == b i)
    · simp
    · simpa using ih
theorem info8 : ∃ i, Try.prog.info? 66 = some i := by
  have : (Try.prog.info? 66).isSome = true := by kernel_rfl
  exact Option.isSome_iff_exists.1 this
theorem infoB1 : ∃ i, Try.prog.info? 4 = some i := by
  have : (Try.prog.info? 4).isSome = true := by kernel_rfl
  exact Option.isSome_iff_exists.1 this
theorem items_r (d : Nat) (w : World) (f g : Nat → Bool) : ∀ is : List Nat, (∀ i ∈ is, i < 3) →
    (Op.eqItems (d + 2) 66 8 (arr f) (arr g) is).run Try.prog w = .ok (is.all fun j => (List.range 8).all fun i => f (j * 8 + i) == g (j * 8 + i)) w
  | [], _ => by simp [Op.eqItems]
  | j :: is, h => by
    have hj := h j (by simp)
    have ih := items_r d w f g is (fun k hk => h k (by simp [hk]))
    have p1 : ∀ f : Nat → Bool, (part 66 (arr f) (j * 8)).run Try.prog w = .ok (.agg ((arr f).extract (j * 8) (j * 8 + 8))) w := fun f => by
      simp [part, Try.isAgg66, Try.sizeOf66]
    have q : (Op.equalIn (d + 2) 66 (.agg ((arr f).extract (j * 8) (j * 8 + 8))) (.agg ((arr g).extract (j * 8) (j * 8 + 8)))).run Try.prog w = .ok ((List.range 8).all fun i => f (j * 8 + i) == g (j * 8 + i)) w := by
      obtain ⟨i0, hi0⟩ := infoB1
      rw [show d + 2 = (d + 1) + 1 from rfl, run_equalIn_array w (d + 1) _ _ Try.underlying66 hi0]
      have hc : Try.prog.cellsOf 4 = 1 := by kernel_rfl
      rw [hc]
      refine items_b (a := fun i => f (j * 8 + i)) (b := fun i => g (j * 8 + i)) w _ fun i hi => ?_
      have hi8 : i < 8 := List.mem_range.1 hi
      have hj3 : j = 0 ∨ j = 1 ∨ j = 2 := by omega
      have h24 : j * 8 + i < 24 := by omega
      constructor
      · rw [Array.getElem?_extract, if_pos (by rw [arr_size]; omega), arr_at _ h24]
      · rw [Array.getElem?_extract, if_pos (by rw [arr_size]; omega), arr_at _ h24]
    simp only [Op.eqItems, Sem.run_bind, p1, Result.andThen_ok, q, List.all_cons]
    cases hab : ((List.range 8).all fun i => f (j * 8 + i) == g (j * 8 + i))
    · simp
    · simpa using ih
theorem eql_arr (f : Nat → Bool) (w : World) : (binOp .eql 68 (.agg (arr f)) (.agg (arr fun _ => false))).run Try.prog w = .ok (.bool (nw f)) w := by
  obtain ⟨i0, hi0⟩ := info8
  have hc : Try.prog.cellsOf 66 = 8 := by kernel_rfl
  have hu : Try.prog.underlying 68 = some (.array 3 66) := by kernel_rfl
  rw [run_eql_struct, run_equalIn_array w 9999 _ _ hu hi0, hc, items_r 9997 w f _ _ (fun i hi => List.mem_range.1 hi)]
  simp only [Result.andThen_ok]
  congr 2
  unfold nw
  simp only [List.range, List.range.loop, List.all_cons, List.all_nil, List.any_cons, List.any_nil]
  rw [Bool.eq_iff_iff]
  simp [and_assoc]
theorem nothingWaits_c (f : Nat → Bool) (w : World) : Calls Try.prog 59 #[.agg (arr f)] w (Mk w (.bool (nw f))) := by
  have r0 := World.rowIs_alloc w (arr f) 68 (fun i => .bool (f i)) (fun i hi => arr_at f (by rwa [arr_size] at hi))
  rw [arr_size] at r0
  have R0 := Lib.hid r0
  have hq := fun w => eql_arr f w
  have e0 : (arr fun _ => false) = #[.bool false, .bool false, .bool false, .bool false, .bool false, .bool false, .bool false, .bool false, .bool false, .bool false, .bool false, .bool false, .bool false, .bool false, .bool false, .bool false, .bool false, .bool false, .bool false, .bool false, .bool false, .bool false, .bool false, .bool false] := by rfl
  rw [e0] at hq
  clear r0 e0
  go_enter Try.func59, Try.ntmps59
  go_wp2_with (with_reducible refine wpList_load_arr R0.out rfl ?_)
  go_ret
  exact ⟨rfl, (by repeat (first | exact Below.refl _ _ | refine Below.al ?_ _ | refine Below.dr ?_ _ | refine Below.dw ?_ | refine Below.st ?_ (by first | exact Nat.le_refl _ | exact Nat.le_add_right _ _ | (simp; omega)) _ | (refine below_next ?_ (by assumption))))⟩
end Go.Proofs.Ytfhhgddajmihjaa
