/- kindToGo, isPlace, arrays of eight truths. -/
import Derived.Test.Ytkpginkkfobblaa9D
import Derived.Test.Ytkpginkkfobblaa8E
namespace Go.Proofs.Ytkpginkkfobblaa
open Go.RowKit
set_option linter.unusedVariables false

theorem kindToGo_u (w : World) : Calls Try.prog 43 #[.int .i64 1] w (St w (.int .i64 0)) := by
  go_enter Try.func43, Try.ntmps43
  go_wp2
  go_ret
  exact ⟨rfl, rfl⟩
theorem kindToGo_d (w : World) : Calls Try.prog 43 #[.int .i64 (-1)] w (St w (.int .i64 1)) := by
  go_enter Try.func43, Try.ntmps43
  go_wp2
  go_ret
  exact ⟨rfl, rfl⟩
/-- A floor of so many and a direction. -/
def PL (n : Nat) (f d : Int) : Prop := 0 ≤ f ∧ f < n ∧ (d = 1 ∨ d = -1)
noncomputable def plB (n : Nat) (f d : Int) : Bool := tr (PL n f d)
theorem plB_t {n : Nat} {f d : Int} (h : PL n f d) : plB n f d = true := tr_true h
theorem plB_f {n : Nat} {f d : Int} (h : ¬ PL n f d) : plB n f d = false := tr_false h
set_option maxHeartbeats 1000000 in
theorem isPlace_c (n : Nat) (f d : Int) (w : World) (h8 : n ≤ 8) : Calls Try.prog 36 #[.int .i64 n, (Value.agg #[.int .i64 (f), .int .i64 (d)])] w (Mk w (.bool (plB n f d))) := by
  have h8i : (n : Int) ≤ 8 := by omega
  refine at_base fun wn hwn => ?_
  have T := Lib.hid (show Below w.heap.size w wn from by rw [hwn]; exact Below.refl _ _)
  clear hwn
  by_cases h0 : 0 ≤ f
  case neg =>
    have E := Lib.hid (plB_f (n := n) (d := d) (fun h => h0 h.1))
    obtain ⟨g, hg⟩ : ∃ g, Array.size (World.heap wn) = g := ⟨_, rfl⟩
    have HGg := Lib.hid hg
    have hTg : w.heap.size ≤ g := by rw [← hg]; exact T.out.size
    have Tn := Lib.hid (show Below w.heap.size w (wn.alloc (.cells #[.int .i64 (f), .int .i64 (d)] 27)) from (Below.al T.out (.cells #[.int .i64 (f), .int .i64 (d)] 27)))
    have SB := Lib.hid (show Box (wn.alloc (.cells #[.int .i64 (f), .int .i64 (d)] 27)) g (f) (d) from by have h9 := (Box.new wn (f) (d) 27); simp only [World.size_alloc, hg, Nat.add_assoc, Nat.reduceAdd] at h9; exact h9)
    have HZg := Lib.hid (show ((wn.alloc (.cells #[.int .i64 (f), .int .i64 (d)] 27))).heap.size = g + 1 from by simp only [World.size_alloc, hg, Nat.add_assoc, Nat.reduceAdd])
    clear hg
    clear T
    have T := Tn
    clear Tn
    go_enter Try.func36, Try.ntmps36
    obtain ⟨⟨c0, c1⟩, cf0, cf1⟩ := SB.out
    go_wp2_with fail
    go_ret
    exact Mk.b E.out T.out
  by_cases h1 : f < (n : Int)
  case neg =>
    have E := Lib.hid (plB_f (n := n) (d := d) (fun h => h1 h.2.1))
    obtain ⟨g, hg⟩ : ∃ g, Array.size (World.heap wn) = g := ⟨_, rfl⟩
    have HGg := Lib.hid hg
    have hTg : w.heap.size ≤ g := by rw [← hg]; exact T.out.size
    have Tn := Lib.hid (show Below w.heap.size w (wn.alloc (.cells #[.int .i64 (f), .int .i64 (d)] 27)) from (Below.al T.out (.cells #[.int .i64 (f), .int .i64 (d)] 27)))
    have SB := Lib.hid (show Box (wn.alloc (.cells #[.int .i64 (f), .int .i64 (d)] 27)) g (f) (d) from by have h9 := (Box.new wn (f) (d) 27); simp only [World.size_alloc, hg, Nat.add_assoc, Nat.reduceAdd] at h9; exact h9)
    have HZg := Lib.hid (show ((wn.alloc (.cells #[.int .i64 (f), .int .i64 (d)] 27))).heap.size = g + 1 from by simp only [World.size_alloc, hg, Nat.add_assoc, Nat.reduceAdd])
    clear hg
    clear T
    have T := Tn
    clear Tn
    go_enter Try.func36, Try.ntmps36
    obtain ⟨⟨c0, c1⟩, cf0, cf1⟩ := SB.out
    go_wp2_with fail
    go_ret
    exact Mk.b E.out T.out
  rcases (by omega : d = 1 ∨ d = -1 ∨ (d ≠ 1 ∧ d ≠ -1)) with rfl | rfl | ⟨g1, g2⟩
  case inl =>
    have E := Lib.hid (plB_t (n := n) (f := f) (d := 1) ⟨h0, h1, .inl rfl⟩)
    obtain ⟨g, hg⟩ : ∃ g, Array.size (World.heap wn) = g := ⟨_, rfl⟩
    have HGg := Lib.hid hg
    have hTg : w.heap.size ≤ g := by rw [← hg]; exact T.out.size
    have Tn := Lib.hid (show Below w.heap.size w (wn.alloc (.cells #[.int .i64 (f), .int .i64 (1)] 27)) from (Below.al T.out (.cells #[.int .i64 (f), .int .i64 (1)] 27)))
    have SB := Lib.hid (show Box (wn.alloc (.cells #[.int .i64 (f), .int .i64 (1)] 27)) g (f) (1) from by have h9 := (Box.new wn (f) (1) 27); simp only [World.size_alloc, hg, Nat.add_assoc, Nat.reduceAdd] at h9; exact h9)
    have HZg := Lib.hid (show ((wn.alloc (.cells #[.int .i64 (f), .int .i64 (1)] 27))).heap.size = g + 1 from by simp only [World.size_alloc, hg, Nat.add_assoc, Nat.reduceAdd])
    clear hg
    clear T
    have T := Tn
    clear Tn
    go_enter Try.func36, Try.ntmps36
    obtain ⟨⟨c0, c1⟩, cf0, cf1⟩ := SB.out
    go_wp2_with fail
    go_ret
    exact Mk.b E.out T.out
  case inr.inl =>
    have E := Lib.hid (plB_t (n := n) (f := f) (d := -1) ⟨h0, h1, .inr rfl⟩)
    obtain ⟨g, hg⟩ : ∃ g, Array.size (World.heap wn) = g := ⟨_, rfl⟩
    have HGg := Lib.hid hg
    have hTg : w.heap.size ≤ g := by rw [← hg]; exact T.out.size
    have Tn := Lib.hid (show Below w.heap.size w (wn.alloc (.cells #[.int .i64 (f), .int .i64 (-1)] 27)) from (Below.al T.out (.cells #[.int .i64 (f), .int .i64 (-1)] 27)))
    have SB := Lib.hid (show Box (wn.alloc (.cells #[.int .i64 (f), .int .i64 (-1)] 27)) g (f) (-1) from by have h9 := (Box.new wn (f) (-1) 27); simp only [World.size_alloc, hg, Nat.add_assoc, Nat.reduceAdd] at h9; exact h9)
    have HZg := Lib.hid (show ((wn.alloc (.cells #[.int .i64 (f), .int .i64 (-1)] 27))).heap.size = g + 1 from by simp only [World.size_alloc, hg, Nat.add_assoc, Nat.reduceAdd])
    clear hg
    clear T
    have T := Tn
    clear Tn
    go_enter Try.func36, Try.ntmps36
    obtain ⟨⟨c0, c1⟩, cf0, cf1⟩ := SB.out
    go_wp2_with fail
    go_ret
    exact Mk.b E.out T.out
  case inr.inr =>
    have E := Lib.hid (plB_f (n := n) (f := f) (d := d) (fun h => by have := h.2.2; omega))
    have t2 : (d == 1) = false := beq_false_of_ne g1
    have t3 : (d == -1) = false := beq_false_of_ne g2
    obtain ⟨g, hg⟩ : ∃ g, Array.size (World.heap wn) = g := ⟨_, rfl⟩
    have HGg := Lib.hid hg
    have hTg : w.heap.size ≤ g := by rw [← hg]; exact T.out.size
    have Tn := Lib.hid (show Below w.heap.size w (wn.alloc (.cells #[.int .i64 (f), .int .i64 (d)] 27)) from (Below.al T.out (.cells #[.int .i64 (f), .int .i64 (d)] 27)))
    have SB := Lib.hid (show Box (wn.alloc (.cells #[.int .i64 (f), .int .i64 (d)] 27)) g (f) (d) from by have h9 := (Box.new wn (f) (d) 27); simp only [World.size_alloc, hg, Nat.add_assoc, Nat.reduceAdd] at h9; exact h9)
    have HZg := Lib.hid (show ((wn.alloc (.cells #[.int .i64 (f), .int .i64 (d)] 27))).heap.size = g + 1 from by simp only [World.size_alloc, hg, Nat.add_assoc, Nat.reduceAdd])
    clear hg
    clear T
    have T := Tn
    clear Tn
    go_enter Try.func36, Try.ntmps36
    obtain ⟨⟨c0, c1⟩, cf0, cf1⟩ := SB.out
    go_wp2_with fail
    go_ret
    exact Mk.b E.out T.out
theorem iCallsValid_t (a1 : Option Addr) (n1 k1 : Nat) (a2 : Option Addr) (n2 k2 : Nat) (a3 : Option Addr) (n3 k3 : Nat) (x : Cs) (w : World) (hX : Cal w a1 n1 a2 n2 a3 n3 x) (hv : CV x) : Calls Try.prog 19 #[(.agg #[.slice a1 n1 k1, .slice a2 n2 k2, .slice a3 n3 k3])] w (Mk w (.bool true)) := by
  have := iCallsValid_c a1 n1 k1 a2 n2 k2 a3 n3 k3 x w hX
  rwa [cvB_t hv] at this
theorem iCallsValid_f (a1 : Option Addr) (n1 k1 : Nat) (a2 : Option Addr) (n2 k2 : Nat) (a3 : Option Addr) (n3 k3 : Nat) (x : Cs) (w : World) (hX : Cal w a1 n1 a2 n2 a3 n3 x) (hv : ¬ CV x) : Calls Try.prog 19 #[(.agg #[.slice a1 n1 k1, .slice a2 n2 k2, .slice a3 n3 k3])] w (Mk w (.bool false)) := by
  have := iCallsValid_c a1 n1 k1 a2 n2 k2 a3 n3 k3 x w hX
  rwa [cvB_f hv] at this
theorem isPlace_t (n : Nat) (f d : Int) (w : World) (h8 : n ≤ 8) (h : PL n f d) : Calls Try.prog 36 #[.int .i64 n, (Value.agg #[.int .i64 (f), .int .i64 (d)])] w (Mk w (.bool true)) := by
  have := isPlace_c n f d w h8
  rwa [plB_t h] at this
theorem isPlace_f (n : Nat) (f d : Int) (w : World) (h8 : n ≤ 8) (h : ¬ PL n f d) : Calls Try.prog 36 #[.int .i64 n, (Value.agg #[.int .i64 (f), .int .i64 (d)])] w (Mk w (.bool false)) := by
  have := isPlace_c n f d w h8
  rwa [plB_f h] at this
/-- The cells of an array of eight truths. -/
def ar8 (f : Nat → Bool) : Array Value := ((List.range 8).map fun i => Value.bool (f i)).toArray
theorem ar8_size (f : Nat → Bool) : (ar8 f).size = 8 := by simp [ar8]
theorem ar8_at (f : Nat → Bool) {i : Nat} (h : i < 8) : (ar8 f)[i]? = some (.bool (f i)) := by simp [ar8, h]
theorem run_load8 {w : World} {G o : Nat} {t : TypeId} {f g : Nat → Bool} (h : w.rowIs G t 24 (fun i => .bool (f i))) (ho : o + 8 ≤ 24) (hg : ∀ i, i < 8 → f (o + i) = g i) : (loadVar 58 ⟨G, o, none⟩).run Try.prog w = .ok (.agg (ar8 g)) w := by
  have hl := run_loadCells (P := Try.prog) w ⟨G, o, none⟩ 8 (fun i => .bool (g i)) (fun j hj => by
    have := h.cell (i := o + j) (by omega)
    rw [hg j hj] at this
    unfold Addr.add
    split
    · rename_i e; subst e; exact this
    · simpa using this)
  simp [loadVar, Try.isAgg58, Try.sizeOf58, hl]
  rfl
theorem run_store8 {w : World} {G : Nat} {t : TypeId} {f g : Nat → Bool} (h : w.rowIs G t 8 (fun i => .bool (g i))) : ∃ w', (storeVar 58 ⟨G, 0, none⟩ (.agg (ar8 f))).run Try.prog w = .ok () w' ∧ w'.rowIs G t 8 (fun i => .bool (f i)) ∧ Out G (G + 1) w w' := by
  have hl : (ar8 f).toList.length = 8 := by simp [ar8]
  have h1 := run_storeCells_cells (P := Try.prog) G 0 (ar8 f).toList 0 w (fun j hj => by rw [hl] at hj; simp only [Nat.zero_add]; rw [h.cell hj]; rfl) (fun j hj => h.frozen _) (fun v hv => by simp [ar8] at hv; obtain ⟨i, _, rfl⟩ := hv; rfl)
  refine ⟨w.setCells G 0 (ar8 f).toList, ?_, (Go.rowIs_setCells (ar8 f).toList 0 w _ h).congr fun i hi => ?_, out_setCells _ _ _ _⟩
  · have hsz : (Value.agg (ar8 f)).cells.size = 8 := ar8_size f
    simp [storeVar, Try.sizeOf58, Value.cells, h1, ar8_size]
  · rw [hl, if_pos (by omega)]
    simp [ar8, hi]
theorem exec_load8 {w : World} {vs : Nat → Value} {o : Oper} {G of : Nat} {t : TypeId} {f g : Nat → Bool} (s : Operand) (hop : o.op = .load 58 s) (hs : evOf vs s = .pointer (some ⟨G, of, none⟩)) (h : w.rowIs G t 24 (fun i => .bool (f i))) (ho : of + 8 ≤ 24) (hg : ∀ i, i < 8 → f (of + i) = g i) :
    (execOp (evOf vs) o).run Try.prog w = .ok (.value (.agg (ar8 g))) w := by
  unfold execOp
  simp only [hop, hs, Instr.loadAt, Instr.sureAddr, Sem.run_bind, Sem.run_pure, Result.andThen_ok, run_load8 h ho hg]
theorem exec_store8 {w : World} {vs : Nat → Value} {o : Oper} {G : Nat} {t : TypeId} {f g : Nat → Bool} (s x : Operand) (hop : o.op = .store 58 s x) (hs : evOf vs s = .pointer (some ⟨G, 0, none⟩)) (hx : evOf vs x = .agg (ar8 f)) (h : w.rowIs G t 8 (fun i => .bool (g i))) :
    ∃ w', (execOp (evOf vs) o).run Try.prog w = .ok .skip w' ∧ w'.rowIs G t 8 (fun i => .bool (f i)) ∧ Out G (G + 1) w w' := by
  obtain ⟨w', hr, h2, h3⟩ := run_store8 (f := f) h
  refine ⟨w', ?_, h2, h3⟩
  unfold execOp
  simp only [hop, hs, hx, Instr.storeAt, Instr.sureAddr, Sem.run_bind, Sem.run_pure, Result.andThen_ok, hr]
theorem stepI_store8 {I : (Nat → Bool) → (Nat → Value) → World → Prop} {ln : Nat → Bool} {w : World} {vs : Nat → Value} {o : Oper} {G : Nat} {t : TypeId} {f g : Nat → Bool} (s x : Operand) (hop : o.op = .store 58 s x) (hs : evOf vs s = .pointer (some ⟨G, 0, none⟩)) (hx : evOf vs x = .agg (ar8 f)) (h : w.rowIs G t 8 (fun i => .bool (g i)))
    (hI : ∀ w', w'.rowIs G t 8 (fun i => .bool (f i)) → Out G (G + 1) w w' → I ln (updV vs o.dst undef) w') : StepI Try.prog I ln vs o.dst ((execOp (evOf vs) o).run Try.prog w) := by
  obtain ⟨w', hr, r1, r2⟩ := exec_store8 s x hop hs hx h
  rw [hr]
  exact hI w' r1 r2
theorem ar8new (w : World) : (w.alloc (.cells #[.bool false, .bool false, .bool false, .bool false, .bool false, .bool false, .bool false, .bool false] 58)).rowIs w.heap.size 58 8 (fun i => .bool false) := by
  have h9 := World.rowIs_alloc w (ar8 fun _ => false) 58 (fun i => .bool false) (fun i hi => ar8_at _ (by rwa [ar8_size] at hi))
  rw [ar8_size] at h9; exact h9
/-- A row in a block. -/
def Rw (w : World) (b : Nat) (t : TypeId) (n : Nat) (f : Nat → Bool) : Prop := w.rowIs b t n (fun i => .bool (f i))
theorem Rw.lt {w : World} {b : Nat} {t : TypeId} {n : Nat} {f : Nat → Bool} (h : Rw w b t n f) : b < w.heap.size := World.rowIs.lt h
theorem Rw.block {w w' : World} {b : Nat} {t : TypeId} {n : Nat} {f : Nat → Bool} (h : Rw w b t n f) (e : w'.heap[b]? = w.heap[b]?) : Rw w' b t n f := World.rowIs.of_block h e
theorem Rw.below {w w' : World} {b : Nat} {t : TypeId} {n : Nat} {f : Nat → Bool} (h : Rw w b t n f) (hb : Below w.heap.size w w') : Rw w' b t n f := h.block (hb.block b h.lt)
theorem Rw.out {w w' : World} {b lo hi : Nat} {t : TypeId} {n : Nat} {f : Nat → Bool} (h : Rw w b t n f) (ho : Out lo hi w w') (hd : b < lo ∨ hi ≤ b) : Rw w' b t n f := h.block (ho.block b h.lt hd)
theorem Rw.al {w : World} {b : Nat} {t : TypeId} {n : Nat} {f : Nat → Bool} (h : Rw w b t n f) (o : Obj) : Rw (w.alloc o) b t n f := h.below ((Below.refl _ _).alloc (Nat.le_refl _) o)
theorem Rw.cell {w : World} {b : Nat} {t : TypeId} {n : Nat} {f : Nat → Bool} (h : Rw w b t n f) {i : Nat} (hi : i < n) : w.cell? ⟨b, i, none⟩ = some (.bool (f i)) := World.rowIs.cell h hi
theorem Rw.new24 (w : World) : Rw (w.alloc (.cells #[.bool false, .bool false, .bool false, .bool false, .bool false, .bool false, .bool false, .bool false, .bool false, .bool false, .bool false, .bool false, .bool false, .bool false, .bool false, .bool false, .bool false, .bool false, .bool false, .bool false, .bool false, .bool false, .bool false, .bool false] 60)) w.heap.size 60 24 (fun _ => false) := row24 w
end Go.Proofs.Ytkpginkkfobblaa
