/- Arrays of rows: rowsOf, pastEnds, nothingWaits. -/
import Derived.Test.Ytfhhgddajmihjaa8A
import Derived.Lib.Hide
namespace Go.Proofs.Ytfhhgddajmihjaa
open Go.RowKit
set_option linter.unusedVariables false
set_option linter.unusedSimpArgs false
set_option maxRecDepth 100000

theorem heap_setCells (b : Nat) : ∀ (vs : List Value) (o : Nat) (w : World) (k : Nat), k ≠ b → (w.setCells b o vs).heap[k]? = w.heap[k]?
  | [], _, _, _, _ => rfl
  | v :: r, o, w, k, h => by rw [World.setCells, heap_setCells b r _ _ k h, Below.heap_setCell _ _ _ _ (by simpa using h)]
theorem same_setCells (b : Nat) : ∀ (vs : List Value) (o : Nat) (w : World), (w.setCells b o vs).os = w.os ∧ (w.setCells b o vs).tape = w.tape ∧ (w.setCells b o vs).output = w.output ∧ (w.setCells b o vs).heap.size = w.heap.size
  | [], _, _ => ⟨rfl, rfl, rfl, rfl⟩
  | v :: r, o, w => by
    have h1 := same_setCells b r (o + 1) (w.setCell ⟨b, o, none⟩ v)
    have h2 : Below 0 w (w.setCell ⟨b, o, none⟩ v) := (Below.refl 0 w).setCell (Nat.zero_le _) v
    exact ⟨h1.1.trans h2.os, h1.2.1.trans h2.tape, h1.2.2.1.trans h2.output, h1.2.2.2.trans (World.size_setCell _ _ _)⟩
theorem out_setCells (b : Nat) (vs : List Value) (o : Nat) (w : World) : Out b (b + 1) w (w.setCells b o vs) := by
  obtain ⟨h1, h2, h3, h4⟩ := same_setCells b vs o w
  exact ⟨h1, h2, h3, by omega, fun k hk g => heap_setCells b vs o w k (by omega)⟩
/-- copy into row b. -/
theorem copy_row {w : World} {G o c n k : Nat} {t ty0 : TypeId} {a : Option Addr} {f : Nat → Bool} {xs : List Bool} (h : w.rowIs G t 24 (fun i => .bool (f i))) (ho : o + 8 ≤ 24) (hb : BS w a n xs) (hn : n ≤ 8) :
    ∃ w', (Builtin.copy_ #[34, 34] ty0 #[.slice (some ⟨G, o, none⟩) 8 c, .slice a n k]).run Try.prog w = .ok (goInt n) w' ∧ w'.rowIs G t 24 (fun i => .bool (if o ≤ i ∧ i < o + n then bn xs (i - o) else f i)) ∧ Out G (G + 1) w w' := by
  have hs : (Try.prog.info? 4).map (·.size) = some 1 := by kernel_rfl
  obtain ⟨hl, hb⟩ := hb
  by_cases h0 : n = 0
  · subst h0
    refine ⟨w, run_copy_none w 34 34 ty0 4 _ _ _ _ _ _ Try.underlying34 hs (by simp), h.congr fun i hi => ?_, Out.refl _ _ _⟩
    rw [if_neg (by omega)]
  · rcases hb with hb | ⟨b, off, rfl, hb⟩
    · exact absurd hb h0
    have hlen : (xs.map Value.bool).length = n := by simpa using hl
    have := run_copy_cells (P := Try.prog) w 34 34 ty0 4 G o 8 c ⟨b, off, none⟩ n k (xs.map Value.bool) Try.underlying34 hs (by rw [hlen]; exact (Nat.min_eq_left hn).symm) (cells_b (by rw [hl]; exact hb)) (fun j hj => by rw [hlen] at hj; rw [h.cell (i := o + j) (by omega)]; rfl) (fun j hj => h.frozen (o + j)) (fun v hv => by simp at hv; rcases hv with ⟨_, rfl⟩ | ⟨_, rfl⟩ <;> rfl)
    rw [hlen] at this
    refine ⟨_, this, (Go.rowIs_setCells _ o w _ h).congr fun i hi => ?_, out_setCells _ _ _ _⟩
    rw [hlen]
    by_cases g : o ≤ i ∧ i < o + n
    · rw [if_pos g, if_pos g]
      have : i - o < xs.length := by omega
      simp [this, bn_eq this]
    · rw [if_neg g, if_neg g]
theorem wpList_copy_row {w : World} {ops : Array Oper} {rest : List Oper} {p : Oper} {act : Act} {Q : Exit → Act → World → Prop} {G o c n k : Nat} {t : TypeId} {a : Option Addr} {f : Nat → Bool} {xs : List Bool} (hgd : Region.wanted p (yielded ops act.tmps) = true) (s x : Operand)
    (hp : p.op = .call { callee := .builtin .copy, args := #[s, x], argTypes := #[34, 34] }) (hs : act.eval s = .slice (some ⟨G, o, none⟩) 8 c) (hx : act.eval x = .slice a n k)
    (h : w.rowIs G t 24 (fun i => .bool (f i))) (ho : o + 8 ≤ 24) (hb : BS w a n xs) (hn : n ≤ 8)
    (hK : ∀ w', w'.rowIs G t 24 (fun i => .bool (if o ≤ i ∧ i < o + n then bn xs (i - o) else f i)) → Out G (G + 1) w w' → wpList Try.prog ops Q rest (act.put p.dst (goInt n)) w') :
    wpList Try.prog ops Q (p :: rest) act w := by
  refine wpList_step fun K hK2 => ?_
  rw [if_pos hgd]
  obtain ⟨w', hr, h2, h3⟩ := copy_row (ty0 := p.type) (c := c) (k := k) h ho hb hn
  unfold Oper.wp execOp
  simp only [hp, resolve, invoke, builtin, Sem.run_bind, Sem.run_pure, Result.andThen_ok, List.map_toArray, List.map_cons, List.map_nil, hs, hx, hr]
  exact hK2 _ _ (hK w' h2 h3)
theorem run_loadVar_arr {w : World} {G : Nat} {t : TypeId} {f : Nat → Bool} (h : w.rowIs G t 24 (fun i => .bool (f i))) : (loadVar 68 ⟨G, 0, none⟩).run Try.prog w = .ok (.agg (arr f)) w := by
  have hl := run_loadCells (P := Try.prog) w ⟨G, 0, none⟩ 24 (fun i => .bool (f i)) (fun j hj => by
    have := h.cell hj
    unfold Addr.add
    split
    · rename_i e; subst e; exact this
    · simpa using this)
  simp [loadVar, Try.isAgg68, Try.sizeOf68, hl]
  rfl
theorem run_storeVar_arr {w : World} {G : Nat} {t : TypeId} {f g : Nat → Bool} (h : w.rowIs G t 24 (fun i => .bool (g i))) : ∃ w', (storeVar 68 ⟨G, 0, none⟩ (.agg (arr f))).run Try.prog w = .ok () w' ∧ w'.rowIs G t 24 (fun i => .bool (f i)) ∧ Out G (G + 1) w w' := by
  have hl : (arr f).toList.length = 24 := by simp [arr]
  have h1 := run_storeCells_cells (P := Try.prog) G 0 (arr f).toList 0 w (fun j hj => by rw [hl] at hj; simp only [Nat.zero_add]; rw [h.cell hj]; rfl) (fun j hj => h.frozen _) (fun v hv => by simp [arr] at hv; obtain ⟨i, _, rfl⟩ := hv; rfl)
  refine ⟨w.setCells G 0 (arr f).toList, ?_, (Go.rowIs_setCells (arr f).toList 0 w _ h).congr fun i hi => ?_, out_setCells _ _ _ _⟩
  · have hsz : (Value.agg (arr f)).cells.size = 24 := arr_size f
    simp [storeVar, Try.sizeOf68, Value.cells, h1, arr_size]
  · rw [hl, if_pos (by omega)]
    simp [arr, hi]
theorem results_arr {fn : Func} {r : Tmp} (h : fn.results = #[.cell r 68]) {tmps : Array Value} {w : World} {G : Nat} {t : TypeId} {f : Nat → Bool} (hp : tmps.getD r undef = .pointer (some ⟨G, 0, none⟩)) (hr : w.rowIs G t 24 (fun i => .bool (f i))) :
    (results fn tmps).run Try.prog w = .ok (.agg (arr f)) w := by
  simp only [results, h]
  simp only [Array.getD_eq_getD_getElem?] at hp
  simp [hp, asAddr, run_loadVar_arr hr]
theorem wpList_load_arr {w : World} {ops : Array Oper} {rest : List Oper} {act : Act} {Q : Exit → Act → World → Prop} {d : Tmp} {s : Operand} {ty0 : TypeId} {ps : String} {af : Array Edge} {G : Nat} {t : TypeId} {f : Nat → Bool}
    (h : w.rowIs G t 24 (fun i => .bool (f i))) (hs : act.eval s = .pointer (some ⟨G, 0, none⟩)) (hK : wpList Try.prog ops Q rest (act.put (some d) (.agg (arr f))) w) :
    wpList Try.prog ops Q ({ dst := some d, op := .load 68 s, type := ty0, pos := ps, after := af, guard := none } :: rest) act w := by
  refine wpList_step fun K hK2 => ?_
  rw [if_pos (by rfl)]
  unfold Oper.wp execOp
  simp only [hs, Instr.loadAt, Instr.sureAddr, Sem.run_bind, Sem.run_pure, Result.andThen_ok, run_loadVar_arr h]
  exact hK2 _ _ hK
theorem wpList_store_arr {w : World} {ops : Array Oper} {rest : List Oper} {act : Act} {Q : Exit → Act → World → Prop} {s x : Operand} {ty0 : TypeId} {ps : String} {af : Array Edge} {G : Nat} {t : TypeId} {f g : Nat → Bool}
    (h : w.rowIs G t 24 (fun i => .bool (g i))) (hs : act.eval s = .pointer (some ⟨G, 0, none⟩)) (hx : act.eval x = .agg (arr f)) (hK : ∀ w', w'.rowIs G t 24 (fun i => .bool (f i)) → Out G (G + 1) w w' → wpList Try.prog ops Q rest act w') :
    wpList Try.prog ops Q ({ dst := none, op := .store 68 s x, type := ty0, pos := ps, after := af, guard := none } :: rest) act w := by
  refine wpList_step fun K hK2 => ?_
  rw [if_pos (by rfl)]
  obtain ⟨w', hr, h2, h3⟩ := run_storeVar_arr (f := f) h
  unfold Oper.wp execOp
  simp only [hs, hx, Instr.storeAt, Instr.sureAddr, Sem.run_bind, Sem.run_pure, Result.andThen_ok, hr]
  exact hK2 _ _ (hK w' h2 h3)
set_option maxHeartbeats 4000000 in
theorem rowsOf_c (a1 : Option Addr) (n1 k1 : Nat) (a2 : Option Addr) (n2 k2 : Nat) (a3 : Option Addr) (n3 k3 : Nat) (x : Cs) (w : World) (hX : Cal w a1 n1 a2 n2 a3 n3 x) (h1 : n1 ≤ 8) (h2 : n2 ≤ 8) (h3 : n3 ≤ 8) :
    Calls Try.prog 57 #[(.agg #[.slice a1 n1 k1, .slice a2 n2 k2, .slice a3 n3 k3])] w (Mk w (.agg (arr (rw3 x)))) := by
  have B0 : Hid _ := Bx.new w (.slice a1 n1 k1) (.slice a2 n2 k2) (.slice a3 n3 k3) 36
  have X0 : Hid _ := hX
  clear hX
  go_enter Try.func57, Try.ntmps57
  go_wp2_with fail
  obtain ⟨W, hW⟩ : ∃ W, ((w.alloc (.cells #[.slice a1 n1 k1, .slice a2 n2 k2, .slice a3 n3 k3] 36)).alloc (.cells (arr fun _ => false) 68)).alloc (.cells (arr fun _ => false) 68) = W := ⟨_, rfl⟩
  obtain ⟨g, hg⟩ : ∃ g, w.heap.size = g := ⟨_, rfl⟩
  have B : Hid (Bx W g (.slice a1 n1 k1) (.slice a2 n2 k2) (.slice a3 n3 k3)) := (show Bx _ _ _ _ _ from by rw [← hW, ← hg]; exact Bx.al (Bx.al B0.out _) _)
  have R : Hid (W.rowIs (g + 2) 68 24 (fun i => .bool ((fun _ => false) i))) := (show World.rowIs _ _ _ _ _ from by
    rw [← hW, ← hg]
    have h9 := World.rowIs_alloc ((w.alloc (.cells #[.slice a1 n1 k1, .slice a2 n2 k2, .slice a3 n3 k3] 36)).alloc (.cells (arr fun _ => false) 68)) (arr fun _ => false) 68 (fun i => .bool false) (fun i hi => arr_at _ (by rwa [arr_size] at hi))
    rw [arr_size, World.size_alloc, World.size_alloc] at h9; exact h9)
  have F : Hid (W.rowIs (g + 1) 68 24 (fun i => .bool ((fun _ => false) i))) := (show World.rowIs _ _ _ _ _ from by
    rw [← hW, ← hg]
    have h9 := World.rowIs.alloc (World.rowIs_alloc (w.alloc (.cells #[.slice a1 n1 k1, .slice a2 n2 k2, .slice a3 n3 k3] 36)) (arr fun _ => false) 68 (fun i => .bool false) (fun i hi => arr_at _ (by rwa [arr_size] at hi))) (.cells (arr fun _ => false) 68)
    rw [arr_size, World.size_alloc] at h9; exact h9)
  have HB : Hid (Below w.heap.size w W) := (show Below w.heap.size w W from by rw [← hW]; exact Below.al (Below.al (Below.al (Below.refl _ _) _) _) _)
  have HS : Hid (g + 2 < W.heap.size) := (show g + 2 < W.heap.size from by rw [← hW, ← hg]; simp)
  have HG : Hid (w.heap.size = g) := hg
  have e0 : (arr fun _ => false) = #[.bool false, .bool false, .bool false, .bool false, .bool false, .bool false, .bool false, .bool false, .bool false, .bool false, .bool false, .bool false, .bool false, .bool false, .bool false, .bool false, .bool false, .bool false, .bool false, .bool false, .bool false, .bool false, .bool false, .bool false] := by rfl
  rw [e0] at hW
  rw [hW, hg]
  clear hW B0 e0 hg
  refine wp_region_last 4 [4, 5, 6, 7] [(1, tV (.pointer (some ⟨g, 0, none⟩))), (3, tV (.pointer (some ⟨g + 2, 0, none⟩)))]
    [(4, tV (.pointer (some ⟨g + 2, 0, none⟩))), (5, tV (.slice (some ⟨g + 2, 0, none⟩) 8 8)), (6, tV (.pointer (some ⟨g, 0, none⟩))), (7, tV (.slice a1 n1 k1))]
    _ (by kernel_rfl) (by kernel_rfl) (by kernel_rfl) (by kernel_rfl) (by kernel_rfl) (by rfl) (by kernel_rfl) (by kernel_rfl) (by kernel_rfl) (by kernel_rfl) (by kernel_rfl) ⟨StW.g (StW.V _), StW.g (StW.V _), StW.g (StW.V _), StW.g (StW.V _), StW.g (StW.V _), StW.g (StW.V _), trivial⟩ ⟨rfl, rfl, trivial⟩ ?hobs0 ?_
  case hobs0 =>
    refine ⟨?_, ?_, ?_, ?_, trivial⟩
    · intro w1 vs hC hL
      have ha := hL 3 (List.mem_of_elem_eq_true (by kernel_rfl))
      replace ha : vs 3 = .pointer (some ⟨g + 2, 0, none⟩) := ha
      go_simp
      simp only [evOf_tmp, evOf_const, ha]
      go_simp
      exact oa_pure hC (show tV _ _ w1 from rfl)
    · intro w1 vs hC hL
      have ha := hL 4 (List.mem_of_elem_eq_true (by kernel_rfl))
      replace ha : vs 4 = .pointer (some ⟨g + 2, 0, none⟩) := ha
      go_simp
      simp only [evOf_tmp, ha]
      go_simp
      exact oa_pure hC (show tV _ _ w1 from rfl)
    · intro w1 vs hC hL
      have ha := hL 1 (List.mem_of_elem_eq_true (by kernel_rfl))
      replace ha : vs 1 = .pointer (some ⟨g, 0, none⟩) := ha
      go_simp
      simp only [evOf_tmp, ha]
      go_simp
      exact oa_pure hC (show tV _ _ w1 from rfl)
    · intro w1 vs hC hL
      have ha := hL 6 (List.mem_of_elem_eq_true (by kernel_rfl))
      replace ha : vs 6 = .pointer (some ⟨g, 0, none⟩) := ha
      obtain ⟨⟨c0, c1, c2⟩, _⟩ := (Bx.below B.out hC)
      go_simp
      simp only [evOf_tmp, ha]
      go_simp
      exact oa_pure hC (show tV _ _ w1 from rfl)
  intro vs wq hC hT
  simp (decide := true) only [over, Nat.reduceAdd, if_true, if_false]
  have g5 : vs 5 = .slice (some ⟨g + 2, 0, none⟩) 8 8 := hT 5 rfl
  have g7 : vs 7 = .slice a1 n1 k1 := hT 7 rfl
  have hz := HS.out
  have HBq : Hid (Below w.heap.size w wq) := below_next HB.out hC
  have Rq := Lib.hid (World.rowIs.of_block R.out (hC.block _ (by omega)))
  have Fq := Lib.hid (World.rowIs.of_block F.out (hC.block _ (by omega)))
  have Bq : Hid _ := Bx.below B.out hC
  have Sq : Hid (g + 2 < wq.heap.size) := (show g + 2 < wq.heap.size from by have := hC.size; omega)
  clear R F B HS hC HB
  refine wpList_copy_row rfl _ _ rfl g5 g7 Rq.out (by omega) (Cal.below X0.out HBq.out).1 h1 ?_
  intro w0 hr ho
  have hg := HG.out
  have HB : Hid (Below w.heap.size w w0) := Out.below HBq.out ho (by omega)
  have R := Lib.hid hr
  have F := Lib.hid (World.rowIs.of_block Fq.out (ho.block (g + 1) (World.rowIs.lt Fq.out) (by omega)))
  have B : Hid _ := Bx.out Bq.out ho (.inl (by omega))
  have HS : Hid (g + 2 < w0.heap.size) := (show g + 2 < w0.heap.size from by have := ho.size; have := Sq.out; omega)
  clear Rq Fq Bq Sq hr ho HBq hT g5 g7 hg hz
  go_wp2_with (first | (with_reducible refine wpList_load_arr R.out ?_ ?_) | (with_reducible refine wpList_store_arr F.out ?_ ?_ ?_))
  refine wp_region_last 4 [9, 10, 11, 12] [(1, tV (.pointer (some ⟨g, 0, none⟩))), (3, tV (.pointer (some ⟨g + 2, 0, none⟩)))]
    [(9, tV (.pointer (some ⟨g + 2, 8, none⟩))), (10, tV (.slice (some ⟨g + 2, 8, none⟩) 8 8)), (11, tV (.pointer (some ⟨g, 1, none⟩))), (12, tV (.slice a2 n2 k2))]
    _ (by kernel_rfl) (by kernel_rfl) (by kernel_rfl) (by kernel_rfl) (by kernel_rfl) (by rfl) (by kernel_rfl) (by kernel_rfl) (by kernel_rfl) (by kernel_rfl) (by kernel_rfl) ⟨StW.g (StW.V _), StW.g (StW.V _), StW.g (StW.V _), StW.g (StW.V _), StW.g (StW.V _), StW.g (StW.V _), trivial⟩ ⟨rfl, rfl, trivial⟩ ?hobs1 ?_
  case hobs1 =>
    refine ⟨?_, ?_, ?_, ?_, trivial⟩
    · intro w1 vs hC hL
      have ha := hL 3 (List.mem_of_elem_eq_true (by kernel_rfl))
      replace ha : vs 3 = .pointer (some ⟨g + 2, 0, none⟩) := ha
      go_simp
      simp only [evOf_tmp, evOf_const, ha]
      go_simp
      exact oa_pure hC (show tV _ _ w1 from rfl)
    · intro w1 vs hC hL
      have ha := hL 9 (List.mem_of_elem_eq_true (by kernel_rfl))
      replace ha : vs 9 = .pointer (some ⟨g + 2, 8, none⟩) := ha
      go_simp
      simp only [evOf_tmp, ha]
      go_simp
      exact oa_pure hC (show tV _ _ w1 from rfl)
    · intro w1 vs hC hL
      have ha := hL 1 (List.mem_of_elem_eq_true (by kernel_rfl))
      replace ha : vs 1 = .pointer (some ⟨g, 0, none⟩) := ha
      go_simp
      simp only [evOf_tmp, ha]
      go_simp
      exact oa_pure hC (show tV _ _ w1 from rfl)
    · intro w1 vs hC hL
      have ha := hL 11 (List.mem_of_elem_eq_true (by kernel_rfl))
      replace ha : vs 11 = .pointer (some ⟨g, 1, none⟩) := ha
      obtain ⟨⟨c0, c1, c2⟩, _⟩ := (Bx.below B.out hC)
      go_simp
      simp only [evOf_tmp, ha]
      go_simp
      exact oa_pure hC (show tV _ _ w1 from rfl)
  intro vs wq hC hT
  simp (decide := true) only [over, Nat.reduceAdd, if_true, if_false]
  have g10 : vs 10 = .slice (some ⟨g + 2, 8, none⟩) 8 8 := hT 10 rfl
  have g12 : vs 12 = .slice a2 n2 k2 := hT 12 rfl
  have hz := HS.out
  have HBq : Hid (Below w.heap.size w wq) := below_next HB.out hC
  have Rq := Lib.hid (World.rowIs.of_block R.out (hC.block _ (by omega)))
  have Fq := Lib.hid (World.rowIs.of_block F.out (hC.block _ (by omega)))
  have Bq : Hid _ := Bx.below B.out hC
  have Sq : Hid (g + 2 < wq.heap.size) := (show g + 2 < wq.heap.size from by have := hC.size; omega)
  clear R F B HS hC HB
  refine wpList_copy_row rfl _ _ rfl g10 g12 Rq.out (by omega) (Cal.below X0.out HBq.out).2.1 h2 ?_
  intro w1 hr ho
  have hg := HG.out
  have HB : Hid (Below w.heap.size w w1) := Out.below HBq.out ho (by omega)
  have R := Lib.hid hr
  have F := Lib.hid (World.rowIs.of_block Fq.out (ho.block (g + 1) (World.rowIs.lt Fq.out) (by omega)))
  have B : Hid _ := Bx.out Bq.out ho (.inl (by omega))
  have HS : Hid (g + 2 < w1.heap.size) := (show g + 2 < w1.heap.size from by have := ho.size; have := Sq.out; omega)
  clear Rq Fq Bq Sq hr ho HBq hT g10 g12 hg hz
  go_wp2_with (first | (with_reducible refine wpList_load_arr R.out ?_ ?_) | (with_reducible refine wpList_store_arr F.out ?_ ?_ ?_))
  refine wp_region_last 4 [14, 15, 16, 17] [(1, tV (.pointer (some ⟨g, 0, none⟩))), (3, tV (.pointer (some ⟨g + 2, 0, none⟩)))]
    [(14, tV (.pointer (some ⟨g + 2, 16, none⟩))), (15, tV (.slice (some ⟨g + 2, 16, none⟩) 8 8)), (16, tV (.pointer (some ⟨g, 2, none⟩))), (17, tV (.slice a3 n3 k3))]
    _ (by kernel_rfl) (by kernel_rfl) (by kernel_rfl) (by kernel_rfl) (by kernel_rfl) (by rfl) (by kernel_rfl) (by kernel_rfl) (by kernel_rfl) (by kernel_rfl) (by kernel_rfl) ⟨StW.g (StW.V _), StW.g (StW.V _), StW.g (StW.V _), StW.g (StW.V _), StW.g (StW.V _), StW.g (StW.V _), trivial⟩ ⟨rfl, rfl, trivial⟩ ?hobs2 ?_
  case hobs2 =>
    refine ⟨?_, ?_, ?_, ?_, trivial⟩
    · intro w1 vs hC hL
      have ha := hL 3 (List.mem_of_elem_eq_true (by kernel_rfl))
      replace ha : vs 3 = .pointer (some ⟨g + 2, 0, none⟩) := ha
      go_simp
      simp only [evOf_tmp, evOf_const, ha]
      go_simp
      exact oa_pure hC (show tV _ _ w1 from rfl)
    · intro w1 vs hC hL
      have ha := hL 14 (List.mem_of_elem_eq_true (by kernel_rfl))
      replace ha : vs 14 = .pointer (some ⟨g + 2, 16, none⟩) := ha
      go_simp
      simp only [evOf_tmp, ha]
      go_simp
      exact oa_pure hC (show tV _ _ w1 from rfl)
    · intro w1 vs hC hL
      have ha := hL 1 (List.mem_of_elem_eq_true (by kernel_rfl))
      replace ha : vs 1 = .pointer (some ⟨g, 0, none⟩) := ha
      go_simp
      simp only [evOf_tmp, ha]
      go_simp
      exact oa_pure hC (show tV _ _ w1 from rfl)
    · intro w1 vs hC hL
      have ha := hL 16 (List.mem_of_elem_eq_true (by kernel_rfl))
      replace ha : vs 16 = .pointer (some ⟨g, 2, none⟩) := ha
      obtain ⟨⟨c0, c1, c2⟩, _⟩ := (Bx.below B.out hC)
      go_simp
      simp only [evOf_tmp, ha]
      go_simp
      exact oa_pure hC (show tV _ _ w1 from rfl)
  intro vs wq hC hT
  simp (decide := true) only [over, Nat.reduceAdd, if_true, if_false]
  have g15 : vs 15 = .slice (some ⟨g + 2, 16, none⟩) 8 8 := hT 15 rfl
  have g17 : vs 17 = .slice a3 n3 k3 := hT 17 rfl
  have hz := HS.out
  have HBq : Hid (Below w.heap.size w wq) := below_next HB.out hC
  have Rq := Lib.hid (World.rowIs.of_block R.out (hC.block _ (by omega)))
  have Fq := Lib.hid (World.rowIs.of_block F.out (hC.block _ (by omega)))
  have Bq : Hid _ := Bx.below B.out hC
  have Sq : Hid (g + 2 < wq.heap.size) := (show g + 2 < wq.heap.size from by have := hC.size; omega)
  clear R F B HS hC HB
  refine wpList_copy_row rfl _ _ rfl g15 g17 Rq.out (by omega) (Cal.below X0.out HBq.out).2.2 h3 ?_
  intro w2 hr ho
  have hg := HG.out
  have HB : Hid (Below w.heap.size w w2) := Out.below HBq.out ho (by omega)
  have R := Lib.hid hr
  have F := Lib.hid (World.rowIs.of_block Fq.out (ho.block (g + 1) (World.rowIs.lt Fq.out) (by omega)))
  have B : Hid _ := Bx.out Bq.out ho (.inl (by omega))
  have HS : Hid (g + 2 < w2.heap.size) := (show g + 2 < w2.heap.size from by have := ho.size; have := Sq.out; omega)
  clear Rq Fq Bq Sq hr ho HBq hT g15 g17 hg hz
  go_wp2_with (first | (with_reducible refine wpList_load_arr R.out rfl ?_) | (with_reducible refine wpList_store_arr F.out rfl rfl ?_))
  intro wr hr ho
  have hg := HG.out
  have HBr : Hid (Below w.heap.size w wr) := Out.below HB.out ho (by omega)
  clear hg
  have e : ∀ i, i < 24 → (if 16 ≤ i ∧ i < 16 + n3 then bn x.c (i - 16) else if 8 ≤ i ∧ i < 8 + n2 then bn x.d (i - 8) else if 0 ≤ i ∧ i < 0 + n1 then bn x.u (i - 0) else false) = rw3 x i := fun i hi => by
    have l1 := X0.out.1.1
    have l2 := X0.out.2.1.1
    have l3 := X0.out.2.2.1
    unfold rw3
    by_cases g1 : i < 8
    · rw [if_pos g1, if_neg (by omega), if_neg (by omega)]
      split
      · rw [Nat.sub_zero]
      · rw [bn_out (by omega)]
    · rw [if_neg g1]
      by_cases g2 : i < 16
      · rw [if_pos g2, if_neg (by omega)]
        split
        · rfl
        · rw [if_neg (by omega), bn_out (by omega)]
      · rw [if_neg g2]
        split
        · rfl
        · rw [if_neg (by omega), if_neg (by omega), bn_out (by omega)]
  have hr2 := Lib.hid (World.rowIs.congr hr fun i hi => by rw [e i hi])
  clear hr e ho R F B HS
  go_wp2_with fail
  have hr := hr2.out
  exact bodyPost_ret (results_arr rfl rfl hr) rfl ⟨rfl, HBr.out⟩

end Go.Proofs.Ytfhhgddajmihjaa
