/- kindToGo, isPlace, arrays of eight truths. -/
import Derived.Test.Ytfhhgddajmihjaa9D
import Derived.Test.Ytfhhgddajmihjaa8E
namespace Go.Proofs.Ytfhhgddajmihjaa
open Go.RowKit
set_option linter.unusedVariables false
set_option linter.unusedSimpArgs false
set_option maxRecDepth 100000

theorem kindToGo_u (w : World) : Calls Try.prog 52 #[.int .i64 1] w (St w (.int .i64 0)) := by
  go_enter Try.func52, Try.ntmps52
  go_wp2
  go_ret
  exact ⟨rfl, rfl⟩
theorem kindToGo_d (w : World) : Calls Try.prog 52 #[.int .i64 (-1)] w (St w (.int .i64 1)) := by
  go_enter Try.func52, Try.ntmps52
  go_wp2
  go_ret
  exact ⟨rfl, rfl⟩
/-- A floor of so many and a direction. -/
def PL (n : Nat) (f d : Int) : Prop := 0 ≤ f ∧ f < n ∧ (d = 1 ∨ d = -1)
noncomputable def plB (n : Nat) (f d : Int) : Bool := tr (PL n f d)
theorem plB_t {n : Nat} {f d : Int} (h : PL n f d) : plB n f d = true := tr_true h
theorem plB_f {n : Nat} {f d : Int} (h : ¬ PL n f d) : plB n f d = false := tr_false h
set_option maxHeartbeats 1000000 in
theorem isPlace_c (n : Nat) (f d : Int) (w : World) (h8 : n ≤ 8) : Calls Try.prog 44 #[.int .i64 n, (Value.agg #[.int .i64 (f), .int .i64 (d)])] w (Mk w (.bool (plB n f d))) := by
  have h8i : (n : Int) ≤ 8 := by omega
  refine at_base fun wn hwn => ?_
  have T := Lib.hid (show Below w.heap.size w wn from by rw [hwn]; exact Below.refl _ _)
  clear hwn
  by_cases h0 : 0 ≤ f
  case neg =>
    have E := Lib.hid (plB_f (n := n) (d := d) (fun h => h0 h.1))
    obtain ⟨g, hg⟩ : ∃ g, Array.size (World.heap wn) = g := ⟨_, rfl⟩
    have HGg := Lib.hid hg
    have hTg : w.heap.size ≤ g := by rw [← hg]; exact T.out.size
    have Tn := Lib.hid (show Below w.heap.size w (wn.alloc (.cells #[.int .i64 (f), .int .i64 (d)] 24)) from (Below.al T.out (.cells #[.int .i64 (f), .int .i64 (d)] 24)))
    have SB := Lib.hid (show Box (wn.alloc (.cells #[.int .i64 (f), .int .i64 (d)] 24)) g (f) (d) from by have h9 := (Box.new wn (f) (d) 24); simp only [World.size_alloc, hg, Nat.add_assoc, Nat.reduceAdd] at h9; exact h9)
    have HZg := Lib.hid (show ((wn.alloc (.cells #[.int .i64 (f), .int .i64 (d)] 24))).heap.size = g + 1 from by simp only [World.size_alloc, hg, Nat.add_assoc, Nat.reduceAdd])
    clear hg
    clear T
    have T := Tn
    clear Tn
    go_enter Try.func44, Try.ntmps44
    obtain ⟨⟨c0, c1⟩, cf0, cf1⟩ := SB.out
    go_wp2_with fail
    go_ret
    exact Mk.b E.out T.out
  by_cases h1 : f < (n : Int)
  case neg =>
    have E := Lib.hid (plB_f (n := n) (d := d) (fun h => h1 h.2.1))
    obtain ⟨g, hg⟩ : ∃ g, Array.size (World.heap wn) = g := ⟨_, rfl⟩
    have HGg := Lib.hid hg
    have hTg : w.heap.size ≤ g := by rw [← hg]; exact T.out.size
    have Tn := Lib.hid (show Below w.heap.size w (wn.alloc (.cells #[.int .i64 (f), .int .i64 (d)] 24)) from (Below.al T.out (.cells #[.int .i64 (f), .int .i64 (d)] 24)))
    have SB := Lib.hid (show Box (wn.alloc (.cells #[.int .i64 (f), .int .i64 (d)] 24)) g (f) (d) from by have h9 := (Box.new wn (f) (d) 24); simp only [World.size_alloc, hg, Nat.add_assoc, Nat.reduceAdd] at h9; exact h9)
    have HZg := Lib.hid (show ((wn.alloc (.cells #[.int .i64 (f), .int .i64 (d)] 24))).heap.size = g + 1 from by simp only [World.size_alloc, hg, Nat.add_assoc, Nat.reduceAdd])
    clear hg
    clear T
    have T := Tn
    clear Tn
    go_enter Try.func44, Try.ntmps44
    obtain ⟨⟨c0, c1⟩, cf0, cf1⟩ := SB.out
    go_wp2_with fail
    go_ret
    exact Mk.b E.out T.out
  rcases (by omega : d = 1 ∨ d = -1 ∨ (d ≠ 1 ∧ d ≠ -1)) with rfl | rfl | ⟨g1, g2⟩
  case inl =>
    have E := Lib.hid (plB_t (n := n) (f := f) (d := 1) ⟨h0, h1, .inl rfl⟩)
    obtain ⟨g, hg⟩ : ∃ g, Array.size (World.heap wn) = g := ⟨_, rfl⟩
    have HGg := Lib.hid hg
    have hTg : w.heap.size ≤ g := by rw [← hg]; exact T.out.size
    have Tn := Lib.hid (show Below w.heap.size w (wn.alloc (.cells #[.int .i64 (f), .int .i64 (1)] 24)) from (Below.al T.out (.cells #[.int .i64 (f), .int .i64 (1)] 24)))
    have SB := Lib.hid (show Box (wn.alloc (.cells #[.int .i64 (f), .int .i64 (1)] 24)) g (f) (1) from by have h9 := (Box.new wn (f) (1) 24); simp only [World.size_alloc, hg, Nat.add_assoc, Nat.reduceAdd] at h9; exact h9)
    have HZg := Lib.hid (show ((wn.alloc (.cells #[.int .i64 (f), .int .i64 (1)] 24))).heap.size = g + 1 from by simp only [World.size_alloc, hg, Nat.add_assoc, Nat.reduceAdd])
    clear hg
    clear T
    have T := Tn
    clear Tn
    go_enter Try.func44, Try.ntmps44
    obtain ⟨⟨c0, c1⟩, cf0, cf1⟩ := SB.out
    go_wp2_with fail
    go_ret
    exact Mk.b E.out T.out
  case inr.inl =>
    have E := Lib.hid (plB_t (n := n) (f := f) (d := -1) ⟨h0, h1, .inr rfl⟩)
    obtain ⟨g, hg⟩ : ∃ g, Array.size (World.heap wn) = g := ⟨_, rfl⟩
    have HGg := Lib.hid hg
    have hTg : w.heap.size ≤ g := by rw [← hg]; exact T.out.size
    have Tn := Lib.hid (show Below w.heap.size w (wn.alloc (.cells #[.int .i64 (f), .int .i64 (-1)] 24)) from (Below.al T.out (.cells #[.int .i64 (f), .int .i64 (-1)] 24)))
    have SB := Lib.hid (show Box (wn.alloc (.cells #[.int .i64 (f), .int .i64 (-1)] 24)) g (f) (-1) from by have h9 := (Box.new wn (f) (-1) 24); simp only [World.size_alloc, hg, Nat.add_assoc, Nat.reduceAdd] at h9; exact h9)
    have HZg := Lib.hid (show ((wn.alloc (.cells #[.int .i64 (f), .int .i64 (-1)] 24))).heap.size = g + 1 from by simp only [World.size_alloc, hg, Nat.add_assoc, Nat.reduceAdd])
    clear hg
    clear T
    have T := Tn
    clear Tn
    go_enter Try.func44, Try.ntmps44
    obtain ⟨⟨c0, c1⟩, cf0, cf1⟩ := SB.out
    go_wp2_with fail
    go_ret
    exact Mk.b E.out T.out
  case inr.inr =>
    have E := Lib.hid (plB_f (n := n) (f := f) (d := d) (fun h => by have := h.2.2; omega))
    have t2 : (d == 1) = false := beq_false_of_ne g1
    have t3 : (d == -1) = false := beq_false_of_ne g2
    obtain ⟨g, hg⟩ : ∃ g, Array.size (World.heap wn) = g := ⟨_, rfl⟩
    have HGg := Lib.hid hg
    have hTg : w.heap.size ≤ g := by rw [← hg]; exact T.out.size
    have Tn := Lib.hid (show Below w.heap.size w (wn.alloc (.cells #[.int .i64 (f), .int .i64 (d)] 24)) from (Below.al T.out (.cells #[.int .i64 (f), .int .i64 (d)] 24)))
    have SB := Lib.hid (show Box (wn.alloc (.cells #[.int .i64 (f), .int .i64 (d)] 24)) g (f) (d) from by have h9 := (Box.new wn (f) (d) 24); simp only [World.size_alloc, hg, Nat.add_assoc, Nat.reduceAdd] at h9; exact h9)
    have HZg := Lib.hid (show ((wn.alloc (.cells #[.int .i64 (f), .int .i64 (d)] 24))).heap.size = g + 1 from by simp only [World.size_alloc, hg, Nat.add_assoc, Nat.reduceAdd])
    clear hg
    clear T
    have T := Tn
    clear Tn
    go_enter Try.func44, Try.ntmps44
    obtain ⟨⟨c0, c1⟩, cf0, cf1⟩ := SB.out
    go_wp2_with fail
    go_ret
    exact Mk.b E.out T.out
theorem iCallsValid_t (a1 : Option Addr) (n1 k1 : Nat) (a2 : Option Addr) (n2 k2 : Nat) (a3 : Option Addr) (n3 k3 : Nat) (x : Cs) (w : World) (hX : Cal w a1 n1 a2 n2 a3 n3 x) (hv : CV x) : Calls Try.prog 22 #[(.agg #[.slice a1 n1 k1, .slice a2 n2 k2, .slice a3 n3 k3])] w (Mk w (.bool true)) := by
  have := iCallsValid_c a1 n1 k1 a2 n2 k2 a3 n3 k3 x w hX
  rwa [cvB_t hv] at this
theorem iCallsValid_f (a1 : Option Addr) (n1 k1 : Nat) (a2 : Option Addr) (n2 k2 : Nat) (a3 : Option Addr) (n3 k3 : Nat) (x : Cs) (w : World) (hX : Cal w a1 n1 a2 n2 a3 n3 x) (hv : ¬ CV x) : Calls Try.prog 22 #[(.agg #[.slice a1 n1 k1, .slice a2 n2 k2, .slice a3 n3 k3])] w (Mk w (.bool false)) := by
  have := iCallsValid_c a1 n1 k1 a2 n2 k2 a3 n3 k3 x w hX
  rwa [cvB_f hv] at this
theorem isPlace_t (n : Nat) (f d : Int) (w : World) (h8 : n ≤ 8) (h : PL n f d) : Calls Try.prog 44 #[.int .i64 n, (Value.agg #[.int .i64 (f), .int .i64 (d)])] w (Mk w (.bool true)) := by
  have := isPlace_c n f d w h8
  rwa [plB_t h] at this
theorem isPlace_f (n : Nat) (f d : Int) (w : World) (h8 : n ≤ 8) (h : ¬ PL n f d) : Calls Try.prog 44 #[.int .i64 n, (Value.agg #[.int .i64 (f), .int .i64 (d)])] w (Mk w (.bool false)) := by
  have := isPlace_c n f d w h8
  rwa [plB_f h] at this
/-- The cells of an array of eight truths. -/
def ar8 (f : Nat → Bool) : Array Value := ((List.range 8).map fun i => Value.bool (f i)).toArray
theorem ar8_size (f : Nat → Bool) : (ar8 f).size = 8 := by simp [ar8]
theorem ar8_at (f : Nat → Bool) {i : Nat} (h : i < 8) : (ar8 f)[i]? = some (.bool (f i)) := by simp [ar8, h]
theorem run_load8 {w : World} {G o : Nat} {t : TypeId} {f g : Nat → Bool} (h : w.rowIs G t 24 (fun i => .bool (f i))) (ho : o + 8 ≤ 24) (hg : ∀ i, i < 8 → f (o + i) = g i) : (loadVar 66 ⟨G, o, none⟩).run Try.prog w = .ok (.agg (ar8 g)) w := by
  have hl := run_loadCells (P := Try.prog) w ⟨G, o, none⟩ 8 (fun i => .bool (g i)) (fun j hj => by
    have := h.cell (i := o + j) (by omega)
    rw [hg j hj] at this
    unfold Addr.add
    split
    · rename_i e; subst e; exact this
    · simpa using this)
  simp [loadVar, Try.isAgg66, Try.sizeOf66, hl]
  rfl
theorem run_store8 {w : World} {G : Nat} {t : TypeId} {f g : Nat → Bool} (h : w.rowIs G t 8 (fun i => .bool (g i))) : ∃ w', (storeVar 66 ⟨G, 0, none⟩ (.agg (ar8 f))).run Try.prog w = .ok () w' ∧ w'.rowIs G t 8 (fun i => .bool (f i)) ∧ Out G (G + 1) w w' := by
  have hl : (ar8 f).toList.length = 8 := by simp [ar8]
  have h1 := run_storeCells_cells (P := Try.prog) G 0 (ar8 f).toList 0 w (fun j hj => by rw [hl] at hj; simp only [Nat.zero_add]; rw [h.cell hj]; rfl) (fun j hj => h.frozen _) (fun v hv => by simp [ar8] at hv; obtain ⟨i, _, rfl⟩ := hv; rfl)
  refine ⟨w.setCells G 0 (ar8 f).toList, ?_, (Go.rowIs_setCells (ar8 f).toList 0 w _ h).congr fun i hi => ?_, out_setCells _ _ _ _⟩
  · have hsz : (Value.agg (ar8 f)).cells.size = 8 := ar8_size f
    simp [storeVar, Try.sizeOf66, Value.cells, h1, ar8_size]
  · rw [hl, if_pos (by omega)]
    simp [ar8, hi]
theorem exec_load8 {w : World} {vs : Nat → Value} {o : Oper} {G of : Nat} {t : TypeId} {f g : Nat → Bool} (s : Operand) (hop : o.op = .load 66 s) (hs : evOf vs s = .pointer (some ⟨G, of, none⟩)) (h : w.rowIs G t 24 (fun i => .bool (f i))) (ho : of + 8 ≤ 24) (hg : ∀ i, i < 8 → f (of + i) = g i) :
    (execOp (evOf vs) o).run Try.prog w = .ok (.value (.agg (ar8 g))) w := by
  unfold execOp
  simp only [hop, hs, Instr.loadAt, Instr.sureAddr, Sem.run_bind, Sem.run_pure, Result.andThen_ok, run_load8 h ho hg]
theorem exec_store8 {w : World} {vs : Nat → Value} {o : Oper} {G : Nat} {t : TypeId} {f g : Nat → Bool} (s x : Operand) (hop : o.op = .store 66 s x) (hs : evOf vs s = .pointer (some ⟨G, 0, none⟩)) (hx : evOf vs x = .agg (ar8 f)) (h : w.rowIs G t 8 (fun i => .bool (g i))) :
    ∃ w', (execOp (evOf vs) o).run Try.prog w = .ok .skip w' ∧ w'.rowIs G t 8 (fun i => .bool (f i)) ∧ Out G (G + 1) w w' := by
  obtain ⟨w', hr, h2, h3⟩ := run_store8 (f := f) h
  refine ⟨w', ?_, h2, h3⟩
  unfold execOp
  simp only [hop, hs, hx, Instr.storeAt, Instr.sureAddr, Sem.run_bind, Sem.run_pure, Result.andThen_ok, hr]
theorem stepI_store8 {I : (Nat → Bool) → (Nat → Value) → World → Prop} {ln : Nat → Bool} {w : World} {vs : Nat → Value} {o : Oper} {G : Nat} {t : TypeId} {f g : Nat → Bool} (s x : Operand) (hop : o.op = .store 66 s x) (hs : evOf vs s = .pointer (some ⟨G, 0, none⟩)) (hx : evOf vs x = .agg (ar8 f)) (h : w.rowIs G t 8 (fun i => .bool (g i)))
    (hI : ∀ w', w'.rowIs G t 8 (fun i => .bool (f i)) → Out G (G + 1) w w' → I ln (updV vs o.dst undef) w') : StepI Try.prog I ln vs o.dst ((execOp (evOf vs) o).run Try.prog w) := by
  obtain ⟨w', hr, r1, r2⟩ := exec_store8 s x hop hs hx h
  rw [hr]
  exact hI w' r1 r2
theorem ar8new (w : World) : (w.alloc (.cells #[.bool false, .bool false, .bool false, .bool false, .bool false, .bool false, .bool false, .bool false] 66)).rowIs w.heap.size 66 8 (fun i => .bool false) := by
  have h9 := World.rowIs_alloc w (ar8 fun _ => false) 66 (fun i => .bool false) (fun i hi => ar8_at _ (by rwa [ar8_size] at hi))
  rw [ar8_size] at h9; exact h9
/-- A row in a block. -/
def Rw (w : World) (b : Nat) (t : TypeId) (n : Nat) (f : Nat → Bool) : Prop := w.rowIs b t n (fun i => .bool (f i))
theorem Rw.lt {w : World} {b : Nat} {t : TypeId} {n : Nat} {f : Nat → Bool} (h : Rw w b t n f) : b < w.heap.size := World.rowIs.lt h
theorem Rw.block {w w' : World} {b : Nat} {t : TypeId} {n : Nat} {f : Nat → Bool} (h : Rw w b t n f) (e : w'.heap[b]? = w.heap[b]?) : Rw w' b t n f := World.rowIs.of_block h e
theorem Rw.below {w w' : World} {b : Nat} {t : TypeId} {n : Nat} {f : Nat → Bool} (h : Rw w b t n f) (hb : Below w.heap.size w w') : Rw w' b t n f := h.block (hb.block b h.lt)
theorem Rw.out {w w' : World} {b lo hi : Nat} {t : TypeId} {n : Nat} {f : Nat → Bool} (h : Rw w b t n f) (ho : Out lo hi w w') (hd : b < lo ∨ hi ≤ b) : Rw w' b t n f := h.block (ho.block b h.lt hd)
theorem Rw.al {w : World} {b : Nat} {t : TypeId} {n : Nat} {f : Nat → Bool} (h : Rw w b t n f) (o : Obj) : Rw (w.alloc o) b t n f := h.below ((Below.refl _ _).alloc (Nat.le_refl _) o)
theorem Rw.cell {w : World} {b : Nat} {t : TypeId} {n : Nat} {f : Nat → Bool} (h : Rw w b t n f) {i : Nat} (hi : i < n) : w.cell? ⟨b, i, none⟩ = some (.bool (f i)) := World.rowIs.cell h hi
theorem Rw.new24 (w : World) : Rw (w.alloc (.cells #[.bool false, .bool false, .bool false, .bool false, .bool false, .bool false, .bool false, .bool false, .bool false, .bool false, .bool false, .bool false, .bool false, .bool false, .bool false, .bool false, .bool false, .bool false, .bool false, .bool false, .bool false, .bool false, .bool false, .bool false] 68)) w.heap.size 68 24 (fun _ => false) := row24 w
end Go.Proofs.Ytfhhgddajmihjaa

namespace Go.Proofs.Ytfhhgddajmihjaa
open Go.RowKit
set_option linter.unusedVariables false
set_option linter.unusedSimpArgs false
set_option maxRecDepth 100000

/-- Its drawn region: the rows of the calls to go on and to come back. -/
structure RT (w1 : World) (G : Nat) (D nD ka kb : Int) (oa ob : Nat) (fa fb : Nat → Bool) (ln : Nat → Bool) (vs : Nat → Value) (wx : World) : Prop where
  bel : Below w1.heap.size w1 wx
  u2 : vs 2 = .int .i64 D
  u8 : vs 8 = .pointer (some ⟨G, 0, none⟩)
  v16 : ln 0 = true → vs 16 = .int .i64 D
  v17 : ln 1 = true → vs 17 = .int .i64 ka
  v18 : ln 2 = true → vs 18 = .pointer (some ⟨G, oa, none⟩)
  v19 : ln 3 = true → vs 19 = .agg (ar8 fa)
  v20 : ln 4 = true → vs 20 = .int .i64 D
  v21 : ln 5 = true → vs 21 = .int .i64 nD
  v22 : ln 6 = true → vs 22 = .int .i64 kb
  v23 : ln 7 = true → vs 23 = .pointer (some ⟨G, ob, none⟩)
  v24 : ln 8 = true → vs 24 = .agg (ar8 fb)
  r9 : ln 9 = true → ∃ H, vs 9 = .pointer (some ⟨H, 0, none⟩) ∧ w1.heap.size ≤ H ∧ wx.rowIs H 66 8 (fun i => .bool (ln 11 && fa i))
  r10 : ln 10 = true → ∃ H, vs 10 = .pointer (some ⟨H, 0, none⟩) ∧ w1.heap.size ≤ H ∧ wx.rowIs H 66 8 (fun i => .bool (ln 12 && fb i))
  ap : ln 9 = true → ln 10 = true → vs 9 ≠ vs 10
  s11 : ln 11 = true → ln 9 = true
  s12 : ln 12 = true → ln 10 = true
/-- What a search in one direction has found so far. -/
def TV (A : Int) (up : Bool) (F D : Int) (b : Bool) : Prop := (A = -1 ∧ F = 0 ∧ D = 0 ∧ b = false) ∨ (0 ≤ A ∧ F = A ∧ D = dI (!up) ∧ b = true)
def tvF : Option (Nat × Bool) → Int
  | none => 0
  | some r => r.1
def tvD : Option (Nat × Bool) → Int
  | none => 0
  | some r => dI r.2
theorem tv_end {x : Cs} {f : Nat} {up : Bool} {F D : Int} {b : Bool} (ha : ah x up f = -1) (h : TV (la x up f) up F D b) : tvF (nx1 x f up) = F ∧ tvD (nx1 x f up) = D ∧ (nx1 x f up).isSome = b := by
  unfold nx1
  rw [if_neg (by omega)]
  rcases h with ⟨e, rfl, rfl, rfl⟩ | ⟨e, rfl, rfl, rfl⟩
  · rw [if_neg (by omega)]; exact ⟨rfl, rfl, rfl⟩
  · rw [if_pos e]; refine ⟨?_, rfl, rfl⟩
    show ((la x up f).toNat : Int) = _
    omega
theorem tv_hit {x : Cs} {f k : Nat} {up : Bool} (ha : ah x up f = k) : tvF (nx1 x f up) = k ∧ tvD (nx1 x f up) = dI up ∧ (nx1 x f up).isSome = true := by
  unfold nx1
  rw [if_pos (by omega), ha]
  exact ⟨by show ((k : Int).toNat : Int) = _; omega, rfl, rfl⟩
theorem mkT {w w' : World} {F D F' D' : Int} {b b' : Bool} (h : F = F' ∧ D = D' ∧ b = b') (hb : Below w.heap.size w w') : Mk w (.tuple #[(Value.agg #[.int .i64 (F), .int .i64 (D)]), .bool b]) (.returned (.tuple #[(Value.agg #[.int .i64 (F'), .int .i64 (D')]), .bool b'])) w' := by
  obtain ⟨rfl, rfl, rfl⟩ := h
  exact ⟨rfl, hb⟩

set_option maxHeartbeats 4000000 in
theorem stopToward_u (a1 : Option Addr) (k1 : Nat) (a2 : Option Addr) (k2 : Nat) (a3 : Option Addr) (k3 n : Nat) (x : Cs) (f : Nat) (w : World) (hX : Cal w a1 n a2 n a3 n x) (h8 : n ≤ 8) (hf : f < n) :
    Calls Try.prog 83 #[.agg #[.slice a1 n k1, .slice a2 n k2, .slice a3 n k3], .int .i64 f, .int .i64 (1)] w (Mk w (.tuple #[(Value.agg #[.int .i64 (tvF (nx1 x f true)), .int .i64 (tvD (nx1 x f true))]), .bool (nx1 x f true).isSome])) := by
  have hl3 : x.c.length = n := hX.2.2.1
  have HL3 := Lib.hid hl3
  have X0 := Lib.hid hX
  have hfi : (f : Int) < n := by omega
  have hni : (n : Int) ≤ 8 := by omega
  clear hX hl3
  refine at_base fun wn hwn => ?_
  have T := Lib.hid (show Below w.heap.size w wn from by rw [hwn]; exact Below.refl _ _)
  clear hwn
  obtain ⟨g, hg⟩ : ∃ g, Array.size (World.heap wn) = g := ⟨_, rfl⟩
  have HGg := Lib.hid hg
  have hTg : w.heap.size ≤ g := by rw [← hg]; exact T.out.size
  have Tn := Lib.hid (show Below w.heap.size w ((wn.alloc (.cells #[.slice a1 n k1, .slice a2 n k2, .slice a3 n k3] 36)).alloc (.cells #[.int .i64 (0), .int .i64 (0)] 24)) from (Below.al (Below.al T.out (.cells #[.slice a1 n k1, .slice a2 n k2, .slice a3 n k3] 36)) (.cells #[.int .i64 (0), .int .i64 (0)] 24)))
  have CB := Lib.hid (show Bx ((wn.alloc (.cells #[.slice a1 n k1, .slice a2 n k2, .slice a3 n k3] 36)).alloc (.cells #[.int .i64 (0), .int .i64 (0)] 24)) g (.slice a1 n k1) (.slice a2 n k2) (.slice a3 n k3) from by have h9 := (Bx.al (Bx.new wn (.slice a1 n k1) (.slice a2 n k2) (.slice a3 n k3) 36) (.cells #[.int .i64 (0), .int .i64 (0)] 24)); simp only [World.size_alloc, hg, Nat.add_assoc, Nat.reduceAdd] at h9; exact h9)
  have RB := Lib.hid (show Box ((wn.alloc (.cells #[.slice a1 n k1, .slice a2 n k2, .slice a3 n k3] 36)).alloc (.cells #[.int .i64 (0), .int .i64 (0)] 24)) (g + 1) (0) (0) from by have h9 := (Box.new (wn.alloc (.cells #[.slice a1 n k1, .slice a2 n k2, .slice a3 n k3] 36)) (0) (0) 24); simp only [World.size_alloc, hg, Nat.add_assoc, Nat.reduceAdd] at h9; exact h9)
  have HZg := Lib.hid (show (((wn.alloc (.cells #[.slice a1 n k1, .slice a2 n k2, .slice a3 n k3] 36)).alloc (.cells #[.int .i64 (0), .int .i64 (0)] 24))).heap.size = g + 2 from by simp only [World.size_alloc, hg, Nat.add_assoc, Nat.reduceAdd])
  clear hg
  clear T
  have T := Tn
  clear Tn
  go_enter Try.func83, Try.ntmps83
  obtain ⟨⟨c0, c1, c2⟩, -⟩ := CB.out
  go_wp2_with fail
  rw [HGg.out]
  refine Calls.mono (rowsOf_c a1 n k1 a2 n k2 a3 n k3 x _ (Cal.below X0.out T.out) h8 h8 h8) ?_
  intro e wn hh
  obtain ⟨he, hb⟩ := (by first | exact hh | exact Ro.mk hh | exact St.mk hh | exact LawOk.mk' hh : Mk _ _ e wn)
  subst he
  have Tn : Hid (Below w.heap.size w wn) := below_next T.out hb
  have CBn : Hid _ := Bx.below CB.out hb
  have RBn : Hid _ := Box.below RB.out hb
  clear hb hh c0 c1 c2
  clear T CB RB
  have T := Tn
  have CB := CBn
  have RB := RBn
  clear Tn CBn RBn
  have hltCBG := Bx.lt CB.out
  have hltRBG := Box.lt RB.out
  have hWG := T.out.size
  obtain ⟨G, hG⟩ : ∃ G, Array.size (World.heap wn) = G := ⟨_, rfl⟩
  have HG : Hid _ := hG
  rw [hG] at hWG hltCBG hltRBG
  have R0 : Hid (Rw (wn.alloc (.cells #[.bool false, .bool false, .bool false, .bool false, .bool false, .bool false, .bool false, .bool false, .bool false, .bool false, .bool false, .bool false, .bool false, .bool false, .bool false, .bool false, .bool false, .bool false, .bool false, .bool false, .bool false, .bool false, .bool false, .bool false] 68)) G 68 24 (fun _ => false)) := by rw [← hG]; exact Rw.new24 wn
  clear hG
  have Tn : Hid (Below w.heap.size w _) := Below.al T.out (.cells #[.bool false, .bool false, .bool false, .bool false, .bool false, .bool false, .bool false, .bool false, .bool false, .bool false, .bool false, .bool false, .bool false, .bool false, .bool false, .bool false, .bool false, .bool false, .bool false, .bool false, .bool false, .bool false, .bool false, .bool false] 68)
  have CBn : Hid _ := Bx.below CB.out ((Below.refl _ _).alloc (Nat.le_refl _) (.cells #[.bool false, .bool false, .bool false, .bool false, .bool false, .bool false, .bool false, .bool false, .bool false, .bool false, .bool false, .bool false, .bool false, .bool false, .bool false, .bool false, .bool false, .bool false, .bool false, .bool false, .bool false, .bool false, .bool false, .bool false] 68))
  have RBn : Hid _ := Box.below RB.out ((Below.refl _ _).alloc (Nat.le_refl _) (.cells #[.bool false, .bool false, .bool false, .bool false, .bool false, .bool false, .bool false, .bool false, .bool false, .bool false, .bool false, .bool false, .bool false, .bool false, .bool false, .bool false, .bool false, .bool false, .bool false, .bool false, .bool false, .bool false, .bool false, .bool false] 68))
  clear T CB RB
  have T := Tn
  have CB := CBn
  have RB := RBn
  clear Tn CBn RBn
  have F5 := Lib.hid (show (wn.alloc (.cells #[.bool false, .bool false, .bool false, .bool false, .bool false, .bool false, .bool false, .bool false, .bool false, .bool false, .bool false, .bool false, .bool false, .bool false, .bool false, .bool false, .bool false, .bool false, .bool false, .bool false, .bool false, .bool false, .bool false, .bool false] 68)).rowIs G 68 24 (fun i => .bool ((fun _ => false) i)) from R0.out)
  have hGe := HG.out
  go_wp2_with (with_reducible refine wpList_store_arr F5.out rfl rfl ?_)
  intro w1 hr ho

  have R := Lib.hid (show Rw w1 G 68 24 (rw3 x) from hr)
  have CBn := Lib.hid (Bx.out CB.out ho (.inl (by omega)))
  have RBn := Lib.hid (Box.out RB.out ho (.inl (by omega)))
  have Tn := Lib.hid (Out.below T.out ho (by omega))
  clear hr ho F5 R0 CB RB T hGe HG
  have CB := CBn
  have RB := RBn
  have T := Tn
  clear CBn RBn Tn
  obtain ⟨wn, hwq⟩ : ∃ w0 : World, w0 = w1 := ⟨_, rfl⟩
  subst hwq
  go_wp2_with fail
  refine wp_region_inv (fun ln vs wx => RT wn G (1) (-1) (0) (1) 0 8 (bn x.u) (bn x.d) ln vs wx) [16, 17, 18, 19, 20, 21, 22, 23, 24, 9, 10]
    (by kernel_rfl) (by kernel_rfl) (by kernel_rfl) (by kernel_rfl) ?h0 ?hobs ?_
  case h0 => exact { bel := Below.dw (Below.refl _ _), u2 := rfl, u8 := rfl, ap := fun h => (by cases h), v16 := fun h => (by cases h), v17 := fun h => (by cases h), v18 := fun h => (by cases h), v19 := fun h => (by cases h), v20 := fun h => (by cases h), v21 := fun h => (by cases h), v22 := fun h => (by cases h), v23 := fun h => (by cases h), v24 := fun h => (by cases h), r9 := fun h => (by cases h), r10 := fun h => (by cases h), s11 := fun h => (by cases h), s12 := fun h => (by cases h) }
  case hobs =>
    refine ⟨?_, ?_, ?_, ?_, ?_, ?_, ?_, ?_, ?_, ?_, ?_, ?_, ?_, trivial⟩
    · intro ln vs wx hn ha h
      have HH := Lib.hid h
      clear h ha
      go_simp
      have h := HH.out
      exact { bel := h.bel, u2 := h.u2, u8 := h.u8, v16 := fun _ => h.u2, v17 := h.v17, v18 := h.v18, v19 := h.v19, v20 := h.v20, v21 := h.v21, v22 := h.v22, v23 := h.v23, v24 := h.v24, r9 := h.r9, r10 := h.r10, ap := h.ap, s11 := h.s11, s12 := h.s12 }
    · intro ln vs wx hn ha h
      have q0 : ln 0 = true := ha ⟨0, Ground.data⟩ (by simp) rfl
      have wv16 := h.v16 q0
      have HH := Lib.hid h
      clear h ha
      go_simp
      simp only [evOf_tmp, wv16]
      have h := HH.out
      exact (kindToGo_u wx).mono fun e w' ⟨he, hw⟩ => ⟨_, he, (by subst hw; exact { bel := h.bel, u2 := h.u2, u8 := h.u8, v16 := h.v16, v17 := fun _ => rfl, v18 := h.v18, v19 := h.v19, v20 := h.v20, v21 := h.v21, v22 := h.v22, v23 := h.v23, v24 := h.v24, r9 := h.r9, r10 := h.r10, ap := h.ap, s11 := h.s11, s12 := h.s12 })⟩
    · intro ln vs wx hn ha h
      have q1 : ln 1 = true := ha ⟨1, Ground.data⟩ (by simp) rfl
      have w1 := h.v17 q1
      have w8 := h.u8
      have HH := Lib.hid h
      clear h ha
      go_simp
      simp only [evOf_tmp, w1, w8]
      go_simp
      have h := HH.out
      exact { bel := h.bel, u2 := h.u2, u8 := h.u8, v16 := h.v16, v17 := h.v17, v18 := fun _ => rfl, v19 := h.v19, v20 := h.v20, v21 := h.v21, v22 := h.v22, v23 := h.v23, v24 := h.v24, r9 := h.r9, r10 := h.r10, ap := h.ap, s11 := h.s11, s12 := h.s12 }
    · intro ln vs wx hn ha h
      have q2 : ln 2 = true := ha ⟨2, Ground.data⟩ (by simp) rfl
      have wv18 := h.v18 q2
      have R9 := Rw.below R.out h.bel
      rw [exec_load8 (o := _) (g := (bn x.u)) (.tmp 18) rfl wv18 R9 (by omega) (fun i hi => by rw [Nat.zero_add]; unfold rw3; rw [if_pos hi])]
      exact { bel := h.bel, u2 := h.u2, u8 := h.u8, v16 := h.v16, v17 := h.v17, v18 := h.v18, v19 := fun _ => rfl, v20 := h.v20, v21 := h.v21, v22 := h.v22, v23 := h.v23, v24 := h.v24, r9 := h.r9, r10 := h.r10, ap := h.ap, s11 := h.s11, s12 := h.s12 }
    · intro ln vs wx hn ha h
      have HH := Lib.hid h
      clear h ha
      go_simp
      have h := HH.out
      exact { bel := h.bel, u2 := h.u2, u8 := h.u8, v16 := h.v16, v17 := h.v17, v18 := h.v18, v19 := h.v19, v20 := fun _ => h.u2, v21 := h.v21, v22 := h.v22, v23 := h.v23, v24 := h.v24, r9 := h.r9, r10 := h.r10, ap := h.ap, s11 := h.s11, s12 := h.s12 }
    · intro ln vs wx hn ha h
      have q4 : ln 4 = true := ha ⟨4, Ground.data⟩ (by simp) rfl
      have w1 := h.v20 q4
      have HH := Lib.hid h
      clear h ha
      go_simp
      simp only [evOf_tmp, w1]
      go_simp
      have h := HH.out
      exact { bel := h.bel, u2 := h.u2, u8 := h.u8, v16 := h.v16, v17 := h.v17, v18 := h.v18, v19 := h.v19, v20 := h.v20, v21 := fun _ => rfl, v22 := h.v22, v23 := h.v23, v24 := h.v24, r9 := h.r9, r10 := h.r10, ap := h.ap, s11 := h.s11, s12 := h.s12 }
    · intro ln vs wx hn ha h
      have q5 : ln 5 = true := ha ⟨5, Ground.data⟩ (by simp) rfl
      have wv21 := h.v21 q5
      have HH := Lib.hid h
      clear h ha
      go_simp
      simp only [evOf_tmp, wv21]
      have h := HH.out
      exact (kindToGo_d wx).mono fun e w' ⟨he, hw⟩ => ⟨_, he, (by subst hw; exact { bel := h.bel, u2 := h.u2, u8 := h.u8, v16 := h.v16, v17 := h.v17, v18 := h.v18, v19 := h.v19, v20 := h.v20, v21 := h.v21, v22 := fun _ => rfl, v23 := h.v23, v24 := h.v24, r9 := h.r9, r10 := h.r10, ap := h.ap, s11 := h.s11, s12 := h.s12 })⟩
    · intro ln vs wx hn ha h
      have q6 : ln 6 = true := ha ⟨6, Ground.data⟩ (by simp) rfl
      have w1 := h.v22 q6
      have w8 := h.u8
      have HH := Lib.hid h
      clear h ha
      go_simp
      simp only [evOf_tmp, w1, w8]
      go_simp
      have h := HH.out
      exact { bel := h.bel, u2 := h.u2, u8 := h.u8, v16 := h.v16, v17 := h.v17, v18 := h.v18, v19 := h.v19, v20 := h.v20, v21 := h.v21, v22 := h.v22, v23 := fun _ => rfl, v24 := h.v24, r9 := h.r9, r10 := h.r10, ap := h.ap, s11 := h.s11, s12 := h.s12 }
    · intro ln vs wx hn ha h
      have q7 : ln 7 = true := ha ⟨7, Ground.data⟩ (by simp) rfl
      have wv23 := h.v23 q7
      have R9 := Rw.below R.out h.bel
      rw [exec_load8 (o := _) (g := (bn x.d)) (.tmp 23) rfl wv23 R9 (by omega) (fun i hi => by unfold rw3; rw [if_neg (by omega), if_pos (by omega), Nat.add_sub_cancel_left])]
      exact { bel := h.bel, u2 := h.u2, u8 := h.u8, v16 := h.v16, v17 := h.v17, v18 := h.v18, v19 := h.v19, v20 := h.v20, v21 := h.v21, v22 := h.v22, v23 := h.v23, v24 := fun _ => rfl, r9 := h.r9, r10 := h.r10, ap := h.ap, s11 := h.s11, s12 := h.s12 }
    · intro ln vs wx hn ha h
      have n11 : ln 11 = false := by
        cases e : ln 11
        · rfl
        · have := h.s11 e; rw [hn] at this; cases this
      have HH := Lib.hid h
      clear h ha
      go_simp
      have h := HH.out
      exact { bel := Below.al h.bel _, u2 := h.u2, u8 := h.u8, v16 := h.v16, v17 := h.v17, v18 := h.v18, v19 := h.v19, v20 := h.v20, v21 := h.v21, v22 := h.v22, v23 := h.v23, v24 := h.v24, r9 := fun _ => ⟨wx.heap.size, rfl, h.bel.size, (ar8new wx).congr fun i hi => (by show _ = Value.bool (ln 11 && _); rw [n11]; rfl)⟩, r10 := fun hh => (let ⟨H, e, g1, g2⟩ := h.r10 hh; ⟨H, e, g1, World.rowIs.alloc g2 _⟩), ap := fun _ hh => (let ⟨H, e, g1, g2⟩ := h.r10 hh; by intro e2; have e3 : Value.pointer (some ⟨wx.heap.size, 0, none⟩) = .pointer (some ⟨H, 0, none⟩) := e2.trans e; have := World.rowIs.lt g2; simp only [Value.pointer.injEq, Option.some.injEq, Addr.mk.injEq, and_true] at e3; omega), s11 := fun _ => rfl, s12 := h.s12 }
    · intro ln vs wx hn ha h
      have n12 : ln 12 = false := by
        cases e : ln 12
        · rfl
        · have := h.s12 e; rw [hn] at this; cases this
      have HH := Lib.hid h
      clear h ha
      go_simp
      have h := HH.out
      exact { bel := Below.al h.bel _, u2 := h.u2, u8 := h.u8, v16 := h.v16, v17 := h.v17, v18 := h.v18, v19 := h.v19, v20 := h.v20, v21 := h.v21, v22 := h.v22, v23 := h.v23, v24 := h.v24, r9 := fun hh => (let ⟨H, e, g1, g2⟩ := h.r9 hh; ⟨H, e, g1, World.rowIs.alloc g2 _⟩), r10 := fun _ => ⟨wx.heap.size, rfl, h.bel.size, (ar8new wx).congr fun i hi => (by show _ = Value.bool (ln 12 && _); rw [n12]; rfl)⟩, ap := fun hh _ => (let ⟨H, e, g1, g2⟩ := h.r9 hh; by intro e2; have e3 : Value.pointer (some ⟨H, 0, none⟩) = .pointer (some ⟨wx.heap.size, 0, none⟩) := e.symm.trans e2; have := World.rowIs.lt g2; simp only [Value.pointer.injEq, Option.some.injEq, Addr.mk.injEq, and_true] at e3; omega), s11 := h.s11, s12 := fun _ => rfl }
    · intro ln vs wx hn ha h
      have q9 : ln 9 = true := ha ⟨9, Ground.data⟩ (by simp) rfl
      have qs : ln 3 = true := ha ⟨3, Ground.data⟩ (by simp) rfl
      obtain ⟨G1, e1, e2, e3⟩ := h.r9 q9
      refine stepI_store8 (.tmp 9) (.tmp 19) rfl e1 (h.v19 qs) e3 (fun w' r1 r2 => ?_)
      exact { bel := Out.below h.bel r2 e2, u2 := h.u2, u8 := h.u8, v16 := h.v16, v17 := h.v17, v18 := h.v18, v19 := h.v19, v20 := h.v20, v21 := h.v21, v22 := h.v22, v23 := h.v23, v24 := h.v24, r9 := fun _ => ⟨G1, e1, e2, r1⟩, r10 := fun hh => (let ⟨H, e0, g1, g2⟩ := h.r10 hh; ⟨H, e0, g1, World.rowIs.of_block g2 (r2.block H (World.rowIs.lt g2) (by have hne : G1 ≠ H := (by intro e; exact h.ap q9 hh (by rw [e1, e0, e])); omega))⟩), ap := h.ap, s11 := fun _ => q9, s12 := h.s12 }
    · intro ln vs wx hn ha h
      have q10 : ln 10 = true := ha ⟨10, Ground.data⟩ (by simp) rfl
      have qs : ln 8 = true := ha ⟨8, Ground.data⟩ (by simp) rfl
      obtain ⟨G1, e1, e2, e3⟩ := h.r10 q10
      refine stepI_store8 (.tmp 10) (.tmp 24) rfl e1 (h.v24 qs) e3 (fun w' r1 r2 => ?_)
      exact { bel := Out.below h.bel r2 e2, u2 := h.u2, u8 := h.u8, v16 := h.v16, v17 := h.v17, v18 := h.v18, v19 := h.v19, v20 := h.v20, v21 := h.v21, v22 := h.v22, v23 := h.v23, v24 := h.v24, r9 := fun hh => (let ⟨H, e0, g1, g2⟩ := h.r9 hh; ⟨H, e0, g1, World.rowIs.of_block g2 (r2.block H (World.rowIs.lt g2) (by have hne : G1 ≠ H := (by intro e; exact h.ap hh q10 (by rw [e1, e0, e])); omega))⟩), r10 := fun _ => ⟨G1, e1, e2, r1⟩, ap := h.ap, s11 := h.s11, s12 := fun _ => q10 }
  intro vs wq hI
  obtain ⟨H1, e1, g1, p1⟩ := hI.r9 rfl
  obtain ⟨H2, e2, g2, p2⟩ := hI.r10 rfl
  have hne : H1 ≠ H2 := fun e => hI.ap rfl rfl (by rw [e1, e2, e])
  simp (decide := true) only [over, Nat.reduceAdd, if_true, if_false]
  rw [e1, e2]
  have hb := hI.bel
  have hR := Rw.lt R.out
  have O1 := Lib.hid (show Rw wq H1 66 8 (bn x.u) from p1)
  have O2 := Lib.hid (show Rw wq H2 66 8 (bn x.d) from p2)
  clear hI e1 e2 p1 p2
  have Tn := Lib.hid (below_next T.out hb)
  have CBn := Lib.hid (Bx.below CB.out hb)
  have RBn := Lib.hid (Box.below RB.out hb)
  have Rn := Lib.hid (Rw.below R.out hb)
  clear hb
  clear T CB RB R
  have T := Tn
  have CB := CBn
  have RB := RBn
  have R := Rn
  clear Tn CBn RBn Rn
  obtain ⟨wn, hwq⟩ : ∃ w0, w0 = wq := ⟨_, rfl⟩
  subst hwq
  have hltCBHT := Bx.lt CB.out
  have hltRBHT := Box.lt RB.out
  have hltRHT := Rw.lt R.out
  have hltO1HT := Rw.lt O1.out
  have hltO2HT := Rw.lt O2.out
  have hWHT := T.out.size
  obtain ⟨HT, hHT⟩ : ∃ HT, Array.size (World.heap wn) = HT := ⟨_, rfl⟩
  have HHT : Hid _ := hHT
  rw [hHT] at hWHT hltCBHT hltRBHT hltRHT hltO1HT hltO2HT
  have TB : Hid (Box (wn.alloc (.cells #[.int .i64 0, .int .i64 0] 24)) HT 0 0) := by rw [← hHT]; exact Box.new _ _ _ _
  clear hHT
  have Tn : Hid (Below w.heap.size w _) := Below.al T.out (.cells #[.int .i64 0, .int .i64 0] 24)
  have CBn : Hid _ := Bx.below CB.out ((Below.refl _ _).alloc (Nat.le_refl _) (.cells #[.int .i64 0, .int .i64 0] 24))
  have RBn : Hid _ := Box.below RB.out ((Below.refl _ _).alloc (Nat.le_refl _) (.cells #[.int .i64 0, .int .i64 0] 24))
  have Rn : Hid _ := Rw.below R.out ((Below.refl _ _).alloc (Nat.le_refl _) (.cells #[.int .i64 0, .int .i64 0] 24))
  have O1n : Hid _ := Rw.below O1.out ((Below.refl _ _).alloc (Nat.le_refl _) (.cells #[.int .i64 0, .int .i64 0] 24))
  have O2n : Hid _ := Rw.below O2.out ((Below.refl _ _).alloc (Nat.le_refl _) (.cells #[.int .i64 0, .int .i64 0] 24))
  clear T CB RB R O1 O2
  have T := Tn
  have CB := CBn
  have RB := RBn
  have R := Rn
  have O1 := O1n
  have O2 := O2n
  clear Tn CBn RBn Rn O1n O2n
  go_wp2_with fail
  rw [HHT.out]
  go_loopw [12, 13] (fun u v wr => ∃ (k : Nat) (A F D : Int) (b : Bool), f ≤ k ∧ k ≤ n ∧ u = .bool b ∧ v = .int .i64 k ∧ (fu (pc x true) k (n - k) = ah x true f ∧ lu (qc x true) k (n - k) A = la x true f ∧ TV A true F D b) ∧ Below w.heap.size w wr ∧ Bx wr g (.slice a1 n k1) (.slice a2 n k2) (.slice a3 n k3) ∧ Box wr (g + 1) 0 0 ∧ Rw wr G 68 24 (rw3 x) ∧ Rw wr H1 66 8 (bn x.u) ∧ Rw wr H2 66 8 (bn x.d) ∧ Box wr HT F D) (fun u v _ => n - (intOf v).toNat)
  case atStart => exact ⟨f, -1, 0, 0, false, Nat.le_refl _, by omega, rfl, rfl, ⟨by rw [← HL3.out]; rfl, by rw [← HL3.out]; rfl, .inl ⟨rfl, rfl, rfl, rfl⟩⟩, T.out, CB.out, RB.out, R.out, O1.out, O2.out, TB.out⟩
  case' round =>
    clear T CB RB R O1 O2 TB
    obtain ⟨k, A, F, D, b, hk1, hk, rfl, rfl, hR, h9T, h9CB, h9RB, h9R, h9O1, h9O2, h9TB⟩ := hrel
    obtain ⟨wn, hwq⟩ : ∃ w0 : World, w0 = wr := ⟨_, rfl⟩
    rw [← hwq] at h9T h9CB h9RB h9R h9O1 h9O2 h9TB ⊢
    clear hwq
    have T := Lib.hid h9T
    have CB := Lib.hid h9CB
    have RB := Lib.hid h9RB
    have R := Lib.hid h9R
    have O1 := Lib.hid h9O1
    have O2 := Lib.hid h9O2
    have TB := Lib.hid h9TB
    clear h9T h9CB h9RB h9R h9O1 h9O2 h9TB
    have HR := Lib.hid hR
    clear hR
    by_cases hlt : k < n
    case neg =>
      obtain rfl : k = n := by omega
      have E := Lib.hid (show tvF (nx1 x f true) = F ∧ tvD (nx1 x f true) = D ∧ (nx1 x f true).isSome = b from by
        obtain ⟨h1, h2, h3⟩ := HR.out
        rw [Nat.sub_self] at h1 h2
        exact tv_end h1.symm (by rw [← h2]; exact h3))
      obtain ⟨⟨d0, d1, d2⟩, -⟩ := CB.out
      obtain ⟨⟨e0, e1⟩, ef0, ef1⟩ := TB.out
      obtain ⟨⟨c0, c1⟩, f0, f1⟩ := RB.out
      go_wp2_with fail
      exact bodyPost_ret (v := .tuple #[(Value.agg #[.int .i64 (F), .int .i64 (D)]), .bool b]) (by simp [results, Try.results83, go_sem, c0, c1]) rfl (mkT E.out (by have HZ := T.out; exact (by repeat (first | exact Below.refl _ _ | refine Below.al ?_ _ | refine Below.dr ?_ _ | refine Below.dw ?_ | refine Below.st ?_ (by first | exact Nat.le_refl _ | exact Nat.le_add_right _ _ | (simp; omega)) _ | (refine below_next ?_ (by assumption))))))
    have hki : (k : Int) < (n : Int) := by omega
    have y3 := Rw.cell R.out (i := 16 + k) (by omega)
    rw [show rw3 x (16 + k) = bn x.c k from by unfold rw3; rw [if_neg (by omega), if_neg (by omega), Nat.add_sub_cancel_left]] at y3
    have y1 := Rw.cell O1.out (i := k) (by omega)
    have y2 := Rw.cell O2.out (i := k) (by omega)
    obtain ⟨⟨d0, d1, d2⟩, -⟩ := CB.out
    cases hp : pc x true k
    case true =>
      have E := Lib.hid (show tvF (nx1 x f true) = k ∧ tvD (nx1 x f true) = 1 ∧ (nx1 x f true).isSome = true from tv_hit (by
        have := HR.out.1
        rw [show n - k = (n - (k + 1)) + 1 by omega] at this
        unfold fu at this
        rw [if_pos hp] at this
        exact this.symm))
      cases hc : bn x.c k
      case true =>
        rw [hc] at y3
        clear hc hp
        obtain ⟨⟨c0, c1⟩, f0, f1⟩ := RB.out
        go_wp2_with fail
        exact bodyPost_ret (v := .tuple #[(Value.agg #[.int .i64 (k), .int .i64 (1)]), .bool true]) (by simp [results, Try.results83, go_sem, c0, c1]) rfl (mkT E.out (by have HZ := T.out; exact (by repeat (first | exact Below.refl _ _ | refine Below.al ?_ _ | refine Below.dr ?_ _ | refine Below.dw ?_ | refine Below.st ?_ (by first | exact Nat.le_refl _ | exact Nat.le_add_right _ _ | (simp; omega)) _ | (refine below_next ?_ (by assumption))))))
      case false =>
        have hr : bn x.u k = true := by
          unfold pc at hp
          rw [hc] at hp
          simpa using hp
        rw [hc] at y3
        rw [hr] at y1
        clear hc hr hp
        obtain ⟨⟨c0, c1⟩, f0, f1⟩ := RB.out
        go_wp2_with fail
        exact bodyPost_ret (v := .tuple #[(Value.agg #[.int .i64 (k), .int .i64 (1)]), .bool true]) (by simp [results, Try.results83, go_sem, c0, c1]) rfl (mkT E.out (by have HZ := T.out; exact (by repeat (first | exact Below.refl _ _ | refine Below.al ?_ _ | refine Below.dr ?_ _ | refine Below.dw ?_ | refine Below.st ?_ (by first | exact Nat.le_refl _ | exact Nat.le_add_right _ _ | (simp; omega)) _ | (refine below_next ?_ (by assumption))))))
    have hcr : bn x.c k = false ∧ bn x.u k = false := by
      unfold pc at hp
      simpa using hp
    rw [hcr.1] at y3
    rw [hcr.2] at y1
    have E := Lib.hid (show fu (pc x true) (k + 1) (n - (k + 1)) = ah x true f ∧ lu (qc x true) (k + 1) (n - (k + 1)) (if qc x true k = true then (k : Int) else A) = la x true f from by
      obtain ⟨h1, h2, -⟩ := HR.out
      rw [show n - k = (n - (k + 1)) + 1 by omega] at h1 h2
      unfold fu at h1
      rw [if_neg (by rw [hp]; simp)] at h1
      exact ⟨h1, h2⟩)
    have HTV := Lib.hid HR.out.2.2
    clear hp hcr HR
    cases hq : bn x.d k
    case false =>
      rw [hq] at y2
      have E2 := Lib.hid (show _ ∧ _ from by have := E.out; rwa [if_neg (by show ¬ (bn x.d k = true); rw [hq]; simp)] at this)
      clear hq E
      go_wp2_with fail
      go_roundw
      case rel => exact ⟨k + 1, A, F, D, b, by omega, by omega, rfl, by go_num, ⟨E2.out.1, E2.out.2, HTV.out⟩, T.out, CB.out, RB.out, R.out, O1.out, O2.out, TB.out⟩
      case measure => first | (simp [intOf]; done) | (simp [intOf]; omega) | omega
    case true =>
      rw [hq] at y2
      have E2 := Lib.hid (show _ ∧ _ from by have := E.out; rwa [if_pos (by show bn x.d k = true; exact hq)] at this)
      clear hq E
      obtain ⟨⟨e0, e1⟩, ef0, ef1⟩ := TB.out
      have ho1 := Out.trans (Out.set (w := wn) (q := HT) (i := 0) (lo := HT) (hi := HT + 1) (.int .i64 (k : Int)) (Nat.le_refl _) (by omega)) (Out.set (w := wn.setCell ⟨HT, 0, none⟩ (.int .i64 (k : Int))) (q := HT) (i := 1) (lo := HT) (hi := HT + 1) (.int .i64 (-1)) (Nat.le_refl _) (by omega))
      have T2 := Lib.hid (Out.below T.out ho1 (by omega))
      have CB2 := Lib.hid (Bx.out CB.out ho1 (.inl (by omega)))
      have RB2 := Lib.hid (Box.out RB.out ho1 (.inl (by omega)))
      have R2 := Lib.hid (Rw.out R.out ho1 (.inl (by omega)))
      have O12 := Lib.hid (Rw.out O1.out ho1 (.inl (by omega)))
      have O22 := Lib.hid (Rw.out O2.out ho1 (.inl (by omega)))
      have TB2 := Lib.hid (Box.pset1 (-1) (Box.pset0 (k : Int) TB.out))
      clear ho1
      go_wp2_with fail
      go_roundw
      case rel => exact ⟨k + 1, (k : Int), (k : Int), -1, true, by omega, by omega, rfl, by go_num, ⟨E2.out.1, E2.out.2, .inr ⟨by omega, rfl, rfl, rfl⟩⟩, T2.out, CB2.out, RB2.out, R2.out, O12.out, O22.out, TB2.out⟩
      case measure => first | (simp [intOf]; done) | (simp [intOf]; omega) | omega
set_option maxHeartbeats 4000000 in
theorem stopToward_d (a1 : Option Addr) (k1 : Nat) (a2 : Option Addr) (k2 : Nat) (a3 : Option Addr) (k3 n : Nat) (x : Cs) (f : Nat) (w : World) (hX : Cal w a1 n a2 n a3 n x) (h8 : n ≤ 8) (hf : f < n) :
    Calls Try.prog 83 #[.agg #[.slice a1 n k1, .slice a2 n k2, .slice a3 n k3], .int .i64 f, .int .i64 (-1)] w (Mk w (.tuple #[(Value.agg #[.int .i64 (tvF (nx1 x f false)), .int .i64 (tvD (nx1 x f false))]), .bool (nx1 x f false).isSome])) := by
  have hl3 : x.c.length = n := hX.2.2.1
  have HL3 := Lib.hid hl3
  have X0 := Lib.hid hX
  have hfi : (f : Int) < n := by omega
  have hni : (n : Int) ≤ 8 := by omega
  clear hX hl3
  refine at_base fun wn hwn => ?_
  have T := Lib.hid (show Below w.heap.size w wn from by rw [hwn]; exact Below.refl _ _)
  clear hwn
  obtain ⟨g, hg⟩ : ∃ g, Array.size (World.heap wn) = g := ⟨_, rfl⟩
  have HGg := Lib.hid hg
  have hTg : w.heap.size ≤ g := by rw [← hg]; exact T.out.size
  have Tn := Lib.hid (show Below w.heap.size w ((wn.alloc (.cells #[.slice a1 n k1, .slice a2 n k2, .slice a3 n k3] 36)).alloc (.cells #[.int .i64 (0), .int .i64 (0)] 24)) from (Below.al (Below.al T.out (.cells #[.slice a1 n k1, .slice a2 n k2, .slice a3 n k3] 36)) (.cells #[.int .i64 (0), .int .i64 (0)] 24)))
  have CB := Lib.hid (show Bx ((wn.alloc (.cells #[.slice a1 n k1, .slice a2 n k2, .slice a3 n k3] 36)).alloc (.cells #[.int .i64 (0), .int .i64 (0)] 24)) g (.slice a1 n k1) (.slice a2 n k2) (.slice a3 n k3) from by have h9 := (Bx.al (Bx.new wn (.slice a1 n k1) (.slice a2 n k2) (.slice a3 n k3) 36) (.cells #[.int .i64 (0), .int .i64 (0)] 24)); simp only [World.size_alloc, hg, Nat.add_assoc, Nat.reduceAdd] at h9; exact h9)
  have RB := Lib.hid (show Box ((wn.alloc (.cells #[.slice a1 n k1, .slice a2 n k2, .slice a3 n k3] 36)).alloc (.cells #[.int .i64 (0), .int .i64 (0)] 24)) (g + 1) (0) (0) from by have h9 := (Box.new (wn.alloc (.cells #[.slice a1 n k1, .slice a2 n k2, .slice a3 n k3] 36)) (0) (0) 24); simp only [World.size_alloc, hg, Nat.add_assoc, Nat.reduceAdd] at h9; exact h9)
  have HZg := Lib.hid (show (((wn.alloc (.cells #[.slice a1 n k1, .slice a2 n k2, .slice a3 n k3] 36)).alloc (.cells #[.int .i64 (0), .int .i64 (0)] 24))).heap.size = g + 2 from by simp only [World.size_alloc, hg, Nat.add_assoc, Nat.reduceAdd])
  clear hg
  clear T
  have T := Tn
  clear Tn
  go_enter Try.func83, Try.ntmps83
  obtain ⟨⟨c0, c1, c2⟩, -⟩ := CB.out
  go_wp2_with fail
  rw [HGg.out]
  refine Calls.mono (rowsOf_c a1 n k1 a2 n k2 a3 n k3 x _ (Cal.below X0.out T.out) h8 h8 h8) ?_
  intro e wn hh
  obtain ⟨he, hb⟩ := (by first | exact hh | exact Ro.mk hh | exact St.mk hh | exact LawOk.mk' hh : Mk _ _ e wn)
  subst he
  have Tn : Hid (Below w.heap.size w wn) := below_next T.out hb
  have CBn : Hid _ := Bx.below CB.out hb
  have RBn : Hid _ := Box.below RB.out hb
  clear hb hh c0 c1 c2
  clear T CB RB
  have T := Tn
  have CB := CBn
  have RB := RBn
  clear Tn CBn RBn
  have hltCBG := Bx.lt CB.out
  have hltRBG := Box.lt RB.out
  have hWG := T.out.size
  obtain ⟨G, hG⟩ : ∃ G, Array.size (World.heap wn) = G := ⟨_, rfl⟩
  have HG : Hid _ := hG
  rw [hG] at hWG hltCBG hltRBG
  have R0 : Hid (Rw (wn.alloc (.cells #[.bool false, .bool false, .bool false, .bool false, .bool false, .bool false, .bool false, .bool false, .bool false, .bool false, .bool false, .bool false, .bool false, .bool false, .bool false, .bool false, .bool false, .bool false, .bool false, .bool false, .bool false, .bool false, .bool false, .bool false] 68)) G 68 24 (fun _ => false)) := by rw [← hG]; exact Rw.new24 wn
  clear hG
  have Tn : Hid (Below w.heap.size w _) := Below.al T.out (.cells #[.bool false, .bool false, .bool false, .bool false, .bool false, .bool false, .bool false, .bool false, .bool false, .bool false, .bool false, .bool false, .bool false, .bool false, .bool false, .bool false, .bool false, .bool false, .bool false, .bool false, .bool false, .bool false, .bool false, .bool false] 68)
  have CBn : Hid _ := Bx.below CB.out ((Below.refl _ _).alloc (Nat.le_refl _) (.cells #[.bool false, .bool false, .bool false, .bool false, .bool false, .bool false, .bool false, .bool false, .bool false, .bool false, .bool false, .bool false, .bool false, .bool false, .bool false, .bool false, .bool false, .bool false, .bool false, .bool false, .bool false, .bool false, .bool false, .bool false] 68))
  have RBn : Hid _ := Box.below RB.out ((Below.refl _ _).alloc (Nat.le_refl _) (.cells #[.bool false, .bool false, .bool false, .bool false, .bool false, .bool false, .bool false, .bool false, .bool false, .bool false, .bool false, .bool false, .bool false, .bool false, .bool false, .bool false, .bool false, .bool false, .bool false, .bool false, .bool false, .bool false, .bool false, .bool false] 68))
  clear T CB RB
  have T := Tn
  have CB := CBn
  have RB := RBn
  clear Tn CBn RBn
  have F5 := Lib.hid (show (wn.alloc (.cells #[.bool false, .bool false, .bool false, .bool false, .bool false, .bool false, .bool false, .bool false, .bool false, .bool false, .bool false, .bool false, .bool false, .bool false, .bool false, .bool false, .bool false, .bool false, .bool false, .bool false, .bool false, .bool false, .bool false, .bool false] 68)).rowIs G 68 24 (fun i => .bool ((fun _ => false) i)) from R0.out)
  have hGe := HG.out
  go_wp2_with (with_reducible refine wpList_store_arr F5.out rfl rfl ?_)
  intro w1 hr ho

  have R := Lib.hid (show Rw w1 G 68 24 (rw3 x) from hr)
  have CBn := Lib.hid (Bx.out CB.out ho (.inl (by omega)))
  have RBn := Lib.hid (Box.out RB.out ho (.inl (by omega)))
  have Tn := Lib.hid (Out.below T.out ho (by omega))
  clear hr ho F5 R0 CB RB T hGe HG
  have CB := CBn
  have RB := RBn
  have T := Tn
  clear CBn RBn Tn
  obtain ⟨wn, hwq⟩ : ∃ w0 : World, w0 = w1 := ⟨_, rfl⟩
  subst hwq
  go_wp2_with fail
  refine wp_region_inv (fun ln vs wx => RT wn G (-1) (1) (1) (0) 8 0 (bn x.d) (bn x.u) ln vs wx) [16, 17, 18, 19, 20, 21, 22, 23, 24, 9, 10]
    (by kernel_rfl) (by kernel_rfl) (by kernel_rfl) (by kernel_rfl) ?h0 ?hobs ?_
  case h0 => exact { bel := Below.dw (Below.refl _ _), u2 := rfl, u8 := rfl, ap := fun h => (by cases h), v16 := fun h => (by cases h), v17 := fun h => (by cases h), v18 := fun h => (by cases h), v19 := fun h => (by cases h), v20 := fun h => (by cases h), v21 := fun h => (by cases h), v22 := fun h => (by cases h), v23 := fun h => (by cases h), v24 := fun h => (by cases h), r9 := fun h => (by cases h), r10 := fun h => (by cases h), s11 := fun h => (by cases h), s12 := fun h => (by cases h) }
  case hobs =>
    refine ⟨?_, ?_, ?_, ?_, ?_, ?_, ?_, ?_, ?_, ?_, ?_, ?_, ?_, trivial⟩
    · intro ln vs wx hn ha h
      have HH := Lib.hid h
      clear h ha
      go_simp
      have h := HH.out
      exact { bel := h.bel, u2 := h.u2, u8 := h.u8, v16 := fun _ => h.u2, v17 := h.v17, v18 := h.v18, v19 := h.v19, v20 := h.v20, v21 := h.v21, v22 := h.v22, v23 := h.v23, v24 := h.v24, r9 := h.r9, r10 := h.r10, ap := h.ap, s11 := h.s11, s12 := h.s12 }
    · intro ln vs wx hn ha h
      have q0 : ln 0 = true := ha ⟨0, Ground.data⟩ (by simp) rfl
      have wv16 := h.v16 q0
      have HH := Lib.hid h
      clear h ha
      go_simp
      simp only [evOf_tmp, wv16]
      have h := HH.out
      exact (kindToGo_d wx).mono fun e w' ⟨he, hw⟩ => ⟨_, he, (by subst hw; exact { bel := h.bel, u2 := h.u2, u8 := h.u8, v16 := h.v16, v17 := fun _ => rfl, v18 := h.v18, v19 := h.v19, v20 := h.v20, v21 := h.v21, v22 := h.v22, v23 := h.v23, v24 := h.v24, r9 := h.r9, r10 := h.r10, ap := h.ap, s11 := h.s11, s12 := h.s12 })⟩
    · intro ln vs wx hn ha h
      have q1 : ln 1 = true := ha ⟨1, Ground.data⟩ (by simp) rfl
      have w1 := h.v17 q1
      have w8 := h.u8
      have HH := Lib.hid h
      clear h ha
      go_simp
      simp only [evOf_tmp, w1, w8]
      go_simp
      have h := HH.out
      exact { bel := h.bel, u2 := h.u2, u8 := h.u8, v16 := h.v16, v17 := h.v17, v18 := fun _ => rfl, v19 := h.v19, v20 := h.v20, v21 := h.v21, v22 := h.v22, v23 := h.v23, v24 := h.v24, r9 := h.r9, r10 := h.r10, ap := h.ap, s11 := h.s11, s12 := h.s12 }
    · intro ln vs wx hn ha h
      have q2 : ln 2 = true := ha ⟨2, Ground.data⟩ (by simp) rfl
      have wv18 := h.v18 q2
      have R9 := Rw.below R.out h.bel
      rw [exec_load8 (o := _) (g := (bn x.d)) (.tmp 18) rfl wv18 R9 (by omega) (fun i hi => by unfold rw3; rw [if_neg (by omega), if_pos (by omega), Nat.add_sub_cancel_left])]
      exact { bel := h.bel, u2 := h.u2, u8 := h.u8, v16 := h.v16, v17 := h.v17, v18 := h.v18, v19 := fun _ => rfl, v20 := h.v20, v21 := h.v21, v22 := h.v22, v23 := h.v23, v24 := h.v24, r9 := h.r9, r10 := h.r10, ap := h.ap, s11 := h.s11, s12 := h.s12 }
    · intro ln vs wx hn ha h
      have HH := Lib.hid h
      clear h ha
      go_simp
      have h := HH.out
      exact { bel := h.bel, u2 := h.u2, u8 := h.u8, v16 := h.v16, v17 := h.v17, v18 := h.v18, v19 := h.v19, v20 := fun _ => h.u2, v21 := h.v21, v22 := h.v22, v23 := h.v23, v24 := h.v24, r9 := h.r9, r10 := h.r10, ap := h.ap, s11 := h.s11, s12 := h.s12 }
    · intro ln vs wx hn ha h
      have q4 : ln 4 = true := ha ⟨4, Ground.data⟩ (by simp) rfl
      have w1 := h.v20 q4
      have HH := Lib.hid h
      clear h ha
      go_simp
      simp only [evOf_tmp, w1]
      go_simp
      have h := HH.out
      exact { bel := h.bel, u2 := h.u2, u8 := h.u8, v16 := h.v16, v17 := h.v17, v18 := h.v18, v19 := h.v19, v20 := h.v20, v21 := fun _ => rfl, v22 := h.v22, v23 := h.v23, v24 := h.v24, r9 := h.r9, r10 := h.r10, ap := h.ap, s11 := h.s11, s12 := h.s12 }
    · intro ln vs wx hn ha h
      have q5 : ln 5 = true := ha ⟨5, Ground.data⟩ (by simp) rfl
      have wv21 := h.v21 q5
      have HH := Lib.hid h
      clear h ha
      go_simp
      simp only [evOf_tmp, wv21]
      have h := HH.out
      exact (kindToGo_u wx).mono fun e w' ⟨he, hw⟩ => ⟨_, he, (by subst hw; exact { bel := h.bel, u2 := h.u2, u8 := h.u8, v16 := h.v16, v17 := h.v17, v18 := h.v18, v19 := h.v19, v20 := h.v20, v21 := h.v21, v22 := fun _ => rfl, v23 := h.v23, v24 := h.v24, r9 := h.r9, r10 := h.r10, ap := h.ap, s11 := h.s11, s12 := h.s12 })⟩
    · intro ln vs wx hn ha h
      have q6 : ln 6 = true := ha ⟨6, Ground.data⟩ (by simp) rfl
      have w1 := h.v22 q6
      have w8 := h.u8
      have HH := Lib.hid h
      clear h ha
      go_simp
      simp only [evOf_tmp, w1, w8]
      go_simp
      have h := HH.out
      exact { bel := h.bel, u2 := h.u2, u8 := h.u8, v16 := h.v16, v17 := h.v17, v18 := h.v18, v19 := h.v19, v20 := h.v20, v21 := h.v21, v22 := h.v22, v23 := fun _ => rfl, v24 := h.v24, r9 := h.r9, r10 := h.r10, ap := h.ap, s11 := h.s11, s12 := h.s12 }
    · intro ln vs wx hn ha h
      have q7 : ln 7 = true := ha ⟨7, Ground.data⟩ (by simp) rfl
      have wv23 := h.v23 q7
      have R9 := Rw.below R.out h.bel
      rw [exec_load8 (o := _) (g := (bn x.u)) (.tmp 23) rfl wv23 R9 (by omega) (fun i hi => by rw [Nat.zero_add]; unfold rw3; rw [if_pos hi])]
      exact { bel := h.bel, u2 := h.u2, u8 := h.u8, v16 := h.v16, v17 := h.v17, v18 := h.v18, v19 := h.v19, v20 := h.v20, v21 := h.v21, v22 := h.v22, v23 := h.v23, v24 := fun _ => rfl, r9 := h.r9, r10 := h.r10, ap := h.ap, s11 := h.s11, s12 := h.s12 }
    · intro ln vs wx hn ha h
      have n11 : ln 11 = false := by
        cases e : ln 11
        · rfl
        · have := h.s11 e; rw [hn] at this; cases this
      have HH := Lib.hid h
      clear h ha
      go_simp
      have h := HH.out
      exact { bel := Below.al h.bel _, u2 := h.u2, u8 := h.u8, v16 := h.v16, v17 := h.v17, v18 := h.v18, v19 := h.v19, v20 := h.v20, v21 := h.v21, v22 := h.v22, v23 := h.v23, v24 := h.v24, r9 := fun _ => ⟨wx.heap.size, rfl, h.bel.size, (ar8new wx).congr fun i hi => (by show _ = Value.bool (ln 11 && _); rw [n11]; rfl)⟩, r10 := fun hh => (let ⟨H, e, g1, g2⟩ := h.r10 hh; ⟨H, e, g1, World.rowIs.alloc g2 _⟩), ap := fun _ hh => (let ⟨H, e, g1, g2⟩ := h.r10 hh; by intro e2; have e3 : Value.pointer (some ⟨wx.heap.size, 0, none⟩) = .pointer (some ⟨H, 0, none⟩) := e2.trans e; have := World.rowIs.lt g2; simp only [Value.pointer.injEq, Option.some.injEq, Addr.mk.injEq, and_true] at e3; omega), s11 := fun _ => rfl, s12 := h.s12 }
    · intro ln vs wx hn ha h
      have n12 : ln 12 = false := by
        cases e : ln 12
        · rfl
        · have := h.s12 e; rw [hn] at this; cases this
      have HH := Lib.hid h
      clear h ha
      go_simp
      have h := HH.out
      exact { bel := Below.al h.bel _, u2 := h.u2, u8 := h.u8, v16 := h.v16, v17 := h.v17, v18 := h.v18, v19 := h.v19, v20 := h.v20, v21 := h.v21, v22 := h.v22, v23 := h.v23, v24 := h.v24, r9 := fun hh => (let ⟨H, e, g1, g2⟩ := h.r9 hh; ⟨H, e, g1, World.rowIs.alloc g2 _⟩), r10 := fun _ => ⟨wx.heap.size, rfl, h.bel.size, (ar8new wx).congr fun i hi => (by show _ = Value.bool (ln 12 && _); rw [n12]; rfl)⟩, ap := fun hh _ => (let ⟨H, e, g1, g2⟩ := h.r9 hh; by intro e2; have e3 : Value.pointer (some ⟨H, 0, none⟩) = .pointer (some ⟨wx.heap.size, 0, none⟩) := e.symm.trans e2; have := World.rowIs.lt g2; simp only [Value.pointer.injEq, Option.some.injEq, Addr.mk.injEq, and_true] at e3; omega), s11 := h.s11, s12 := fun _ => rfl }
    · intro ln vs wx hn ha h
      have q9 : ln 9 = true := ha ⟨9, Ground.data⟩ (by simp) rfl
      have qs : ln 3 = true := ha ⟨3, Ground.data⟩ (by simp) rfl
      obtain ⟨G1, e1, e2, e3⟩ := h.r9 q9
      refine stepI_store8 (.tmp 9) (.tmp 19) rfl e1 (h.v19 qs) e3 (fun w' r1 r2 => ?_)
      exact { bel := Out.below h.bel r2 e2, u2 := h.u2, u8 := h.u8, v16 := h.v16, v17 := h.v17, v18 := h.v18, v19 := h.v19, v20 := h.v20, v21 := h.v21, v22 := h.v22, v23 := h.v23, v24 := h.v24, r9 := fun _ => ⟨G1, e1, e2, r1⟩, r10 := fun hh => (let ⟨H, e0, g1, g2⟩ := h.r10 hh; ⟨H, e0, g1, World.rowIs.of_block g2 (r2.block H (World.rowIs.lt g2) (by have hne : G1 ≠ H := (by intro e; exact h.ap q9 hh (by rw [e1, e0, e])); omega))⟩), ap := h.ap, s11 := fun _ => q9, s12 := h.s12 }
    · intro ln vs wx hn ha h
      have q10 : ln 10 = true := ha ⟨10, Ground.data⟩ (by simp) rfl
      have qs : ln 8 = true := ha ⟨8, Ground.data⟩ (by simp) rfl
      obtain ⟨G1, e1, e2, e3⟩ := h.r10 q10
      refine stepI_store8 (.tmp 10) (.tmp 24) rfl e1 (h.v24 qs) e3 (fun w' r1 r2 => ?_)
      exact { bel := Out.below h.bel r2 e2, u2 := h.u2, u8 := h.u8, v16 := h.v16, v17 := h.v17, v18 := h.v18, v19 := h.v19, v20 := h.v20, v21 := h.v21, v22 := h.v22, v23 := h.v23, v24 := h.v24, r9 := fun hh => (let ⟨H, e0, g1, g2⟩ := h.r9 hh; ⟨H, e0, g1, World.rowIs.of_block g2 (r2.block H (World.rowIs.lt g2) (by have hne : G1 ≠ H := (by intro e; exact h.ap hh q10 (by rw [e1, e0, e])); omega))⟩), r10 := fun _ => ⟨G1, e1, e2, r1⟩, ap := h.ap, s11 := h.s11, s12 := fun _ => q10 }
  intro vs wq hI
  obtain ⟨H1, e1, g1, p1⟩ := hI.r9 rfl
  obtain ⟨H2, e2, g2, p2⟩ := hI.r10 rfl
  have hne : H1 ≠ H2 := fun e => hI.ap rfl rfl (by rw [e1, e2, e])
  simp (decide := true) only [over, Nat.reduceAdd, if_true, if_false]
  rw [e1, e2]
  have hb := hI.bel
  have hR := Rw.lt R.out
  have O1 := Lib.hid (show Rw wq H1 66 8 (bn x.d) from p1)
  have O2 := Lib.hid (show Rw wq H2 66 8 (bn x.u) from p2)
  clear hI e1 e2 p1 p2
  have Tn := Lib.hid (below_next T.out hb)
  have CBn := Lib.hid (Bx.below CB.out hb)
  have RBn := Lib.hid (Box.below RB.out hb)
  have Rn := Lib.hid (Rw.below R.out hb)
  clear hb
  clear T CB RB R
  have T := Tn
  have CB := CBn
  have RB := RBn
  have R := Rn
  clear Tn CBn RBn Rn
  obtain ⟨wn, hwq⟩ : ∃ w0, w0 = wq := ⟨_, rfl⟩
  subst hwq
  have hltCBHT := Bx.lt CB.out
  have hltRBHT := Box.lt RB.out
  have hltRHT := Rw.lt R.out
  have hltO1HT := Rw.lt O1.out
  have hltO2HT := Rw.lt O2.out
  have hWHT := T.out.size
  obtain ⟨HT, hHT⟩ : ∃ HT, Array.size (World.heap wn) = HT := ⟨_, rfl⟩
  have HHT : Hid _ := hHT
  rw [hHT] at hWHT hltCBHT hltRBHT hltRHT hltO1HT hltO2HT
  have TB : Hid (Box (wn.alloc (.cells #[.int .i64 0, .int .i64 0] 24)) HT 0 0) := by rw [← hHT]; exact Box.new _ _ _ _
  clear hHT
  have Tn : Hid (Below w.heap.size w _) := Below.al T.out (.cells #[.int .i64 0, .int .i64 0] 24)
  have CBn : Hid _ := Bx.below CB.out ((Below.refl _ _).alloc (Nat.le_refl _) (.cells #[.int .i64 0, .int .i64 0] 24))
  have RBn : Hid _ := Box.below RB.out ((Below.refl _ _).alloc (Nat.le_refl _) (.cells #[.int .i64 0, .int .i64 0] 24))
  have Rn : Hid _ := Rw.below R.out ((Below.refl _ _).alloc (Nat.le_refl _) (.cells #[.int .i64 0, .int .i64 0] 24))
  have O1n : Hid _ := Rw.below O1.out ((Below.refl _ _).alloc (Nat.le_refl _) (.cells #[.int .i64 0, .int .i64 0] 24))
  have O2n : Hid _ := Rw.below O2.out ((Below.refl _ _).alloc (Nat.le_refl _) (.cells #[.int .i64 0, .int .i64 0] 24))
  clear T CB RB R O1 O2
  have T := Tn
  have CB := CBn
  have RB := RBn
  have R := Rn
  have O1 := O1n
  have O2 := O2n
  clear Tn CBn RBn Rn O1n O2n
  go_wp2_with fail
  rw [HHT.out]
  go_loopw [12, 13] (fun u v wr => ∃ (k : Nat) (A F D : Int) (b : Bool), k ≤ f + 1 ∧ u = .bool b ∧ v = .int .i64 ((k : Int) - 1) ∧ (fd (pc x false) k = ah x false f ∧ ld (qc x false) k A = la x false f ∧ TV A false F D b) ∧ Below w.heap.size w wr ∧ Bx wr g (.slice a1 n k1) (.slice a2 n k2) (.slice a3 n k3) ∧ Box wr (g + 1) 0 0 ∧ Rw wr G 68 24 (rw3 x) ∧ Rw wr H1 66 8 (bn x.d) ∧ Rw wr H2 66 8 (bn x.u) ∧ Box wr HT F D) (fun u v _ => (intOf v + 1).toNat)
  case atStart => exact ⟨f + 1, -1, 0, 0, false, Nat.le_refl _, rfl, by simp, ⟨rfl, rfl, .inl ⟨rfl, rfl, rfl, rfl⟩⟩, T.out, CB.out, RB.out, R.out, O1.out, O2.out, TB.out⟩
  case' round =>
    clear T CB RB R O1 O2 TB
    obtain ⟨k, A, F, D, b, hk, rfl, rfl, hR, h9T, h9CB, h9RB, h9R, h9O1, h9O2, h9TB⟩ := hrel
    obtain ⟨wn, hwq⟩ : ∃ w0 : World, w0 = wr := ⟨_, rfl⟩
    rw [← hwq] at h9T h9CB h9RB h9R h9O1 h9O2 h9TB ⊢
    clear hwq
    have T := Lib.hid h9T
    have CB := Lib.hid h9CB
    have RB := Lib.hid h9RB
    have R := Lib.hid h9R
    have O1 := Lib.hid h9O1
    have O2 := Lib.hid h9O2
    have TB := Lib.hid h9TB
    clear h9T h9CB h9RB h9R h9O1 h9O2 h9TB
    have HR := Lib.hid hR
    clear hR
    by_cases hlt : 0 < k
    case neg =>
      obtain rfl : k = 0 := by omega
      have E := Lib.hid (show tvF (nx1 x f false) = F ∧ tvD (nx1 x f false) = D ∧ (nx1 x f false).isSome = b from by
        obtain ⟨h1, h2, h3⟩ := HR.out
        exact tv_end h1.symm (by rw [← h2]; exact h3))
      obtain ⟨⟨d0, d1, d2⟩, -⟩ := CB.out
      obtain ⟨⟨e0, e1⟩, ef0, ef1⟩ := TB.out
      obtain ⟨⟨c0, c1⟩, f0, f1⟩ := RB.out
      go_wp2_with fail
      exact bodyPost_ret (v := .tuple #[(Value.agg #[.int .i64 (F), .int .i64 (D)]), .bool b]) (by simp [results, Try.results83, go_sem, c0, c1]) rfl (mkT E.out (by have HZ := T.out; exact (by repeat (first | exact Below.refl _ _ | refine Below.al ?_ _ | refine Below.dr ?_ _ | refine Below.dw ?_ | refine Below.st ?_ (by first | exact Nat.le_refl _ | exact Nat.le_add_right _ _ | (simp; omega)) _ | (refine below_next ?_ (by assumption))))))
    obtain ⟨k, rfl⟩ : ∃ j, k = j + 1 := ⟨k - 1, by omega⟩
    rw [show ((k + 1 : Nat) : Int) - 1 = (k : Int) by omega]
    have hkn : k < n := by omega
    have hki : (k : Int) < (n : Int) := by omega
    have y3 := Rw.cell R.out (i := 16 + k) (by omega)
    rw [show rw3 x (16 + k) = bn x.c k from by unfold rw3; rw [if_neg (by omega), if_neg (by omega), Nat.add_sub_cancel_left]] at y3
    have y1 := Rw.cell O1.out (i := k) (by omega)
    have y2 := Rw.cell O2.out (i := k) (by omega)
    obtain ⟨⟨d0, d1, d2⟩, -⟩ := CB.out
    cases hp : pc x false k
    case true =>
      have E := Lib.hid (show tvF (nx1 x f false) = k ∧ tvD (nx1 x f false) = -1 ∧ (nx1 x f false).isSome = true from tv_hit (by
        have := HR.out.1
        unfold fd at this
        rw [if_pos hp] at this
        exact this.symm))
      cases hc : bn x.c k
      case true =>
        rw [hc] at y3
        clear hc hp
        obtain ⟨⟨c0, c1⟩, f0, f1⟩ := RB.out
        go_wp2_with fail
        exact bodyPost_ret (v := .tuple #[(Value.agg #[.int .i64 (k), .int .i64 (-1)]), .bool true]) (by simp [results, Try.results83, go_sem, c0, c1]) rfl (mkT E.out (by have HZ := T.out; exact (by repeat (first | exact Below.refl _ _ | refine Below.al ?_ _ | refine Below.dr ?_ _ | refine Below.dw ?_ | refine Below.st ?_ (by first | exact Nat.le_refl _ | exact Nat.le_add_right _ _ | (simp; omega)) _ | (refine below_next ?_ (by assumption))))))
      case false =>
        have hr : bn x.d k = true := by
          unfold pc at hp
          rw [hc] at hp
          simpa using hp
        rw [hc] at y3
        rw [hr] at y1
        clear hc hr hp
        obtain ⟨⟨c0, c1⟩, f0, f1⟩ := RB.out
        go_wp2_with fail
        exact bodyPost_ret (v := .tuple #[(Value.agg #[.int .i64 (k), .int .i64 (-1)]), .bool true]) (by simp [results, Try.results83, go_sem, c0, c1]) rfl (mkT E.out (by have HZ := T.out; exact (by repeat (first | exact Below.refl _ _ | refine Below.al ?_ _ | refine Below.dr ?_ _ | refine Below.dw ?_ | refine Below.st ?_ (by first | exact Nat.le_refl _ | exact Nat.le_add_right _ _ | (simp; omega)) _ | (refine below_next ?_ (by assumption))))))
    have hcr : bn x.c k = false ∧ bn x.d k = false := by
      unfold pc at hp
      simpa using hp
    rw [hcr.1] at y3
    rw [hcr.2] at y1
    have E := Lib.hid (show fd (pc x false) k = ah x false f ∧ ld (qc x false) k (if qc x false k = true then (k : Int) else A) = la x false f from by
      obtain ⟨h1, h2, -⟩ := HR.out
      unfold fd at h1
      rw [if_neg (by rw [hp]; simp)] at h1
      exact ⟨h1, h2⟩)
    have HTV := Lib.hid HR.out.2.2
    clear hp hcr HR
    cases hq : bn x.u k
    case false =>
      rw [hq] at y2
      have E2 := Lib.hid (show _ ∧ _ from by have := E.out; rwa [if_neg (by show ¬ (bn x.u k = true); rw [hq]; simp)] at this)
      clear hq E
      go_wp2_with fail
      go_roundw
      case rel => exact ⟨k, A, F, D, b, by omega, rfl, by go_num, ⟨E2.out.1, E2.out.2, HTV.out⟩, T.out, CB.out, RB.out, R.out, O1.out, O2.out, TB.out⟩
      case measure => first | (simp [intOf]; done) | (simp [intOf]; omega) | omega
    case true =>
      rw [hq] at y2
      have E2 := Lib.hid (show _ ∧ _ from by have := E.out; rwa [if_pos (by show bn x.u k = true; exact hq)] at this)
      clear hq E
      obtain ⟨⟨e0, e1⟩, ef0, ef1⟩ := TB.out
      have ho1 := Out.trans (Out.set (w := wn) (q := HT) (i := 0) (lo := HT) (hi := HT + 1) (.int .i64 (k : Int)) (Nat.le_refl _) (by omega)) (Out.set (w := wn.setCell ⟨HT, 0, none⟩ (.int .i64 (k : Int))) (q := HT) (i := 1) (lo := HT) (hi := HT + 1) (.int .i64 (1)) (Nat.le_refl _) (by omega))
      have T2 := Lib.hid (Out.below T.out ho1 (by omega))
      have CB2 := Lib.hid (Bx.out CB.out ho1 (.inl (by omega)))
      have RB2 := Lib.hid (Box.out RB.out ho1 (.inl (by omega)))
      have R2 := Lib.hid (Rw.out R.out ho1 (.inl (by omega)))
      have O12 := Lib.hid (Rw.out O1.out ho1 (.inl (by omega)))
      have O22 := Lib.hid (Rw.out O2.out ho1 (.inl (by omega)))
      have TB2 := Lib.hid (Box.pset1 (1) (Box.pset0 (k : Int) TB.out))
      clear ho1
      go_wp2_with fail
      go_roundw
      case rel => exact ⟨k, (k : Int), (k : Int), 1, true, by omega, rfl, by go_num, ⟨E2.out.1, E2.out.2, .inr ⟨by omega, rfl, rfl, rfl⟩⟩, T2.out, CB2.out, RB2.out, R2.out, O12.out, O22.out, TB2.out⟩
      case measure => first | (simp [intOf]; done) | (simp [intOf]; omega) | omega
theorem stopToward_c (a1 : Option Addr) (k1 : Nat) (a2 : Option Addr) (k2 : Nat) (a3 : Option Addr) (k3 n : Nat) (x : Cs) (f : Nat) (up : Bool) (D : Int) (w : World) (hX : Cal w a1 n a2 n a3 n x) (h8 : n ≤ 8) (hf : f < n) (hD : dI up = D) :
    Calls Try.prog 83 #[.agg #[.slice a1 n k1, .slice a2 n k2, .slice a3 n k3], .int .i64 f, .int .i64 D] w (Mk w (.tuple #[(Value.agg #[.int .i64 (tvF (nx1 x f up)), .int .i64 (tvD (nx1 x f up))]), .bool (nx1 x f up).isSome])) := by
  subst hD
  cases up
  · exact stopToward_d a1 k1 a2 k2 a3 k3 n x f w hX h8 hf
  · exact stopToward_u a1 k1 a2 k2 a3 k3 n x f w hX h8 hf
end Go.Proofs.Ytfhhgddajmihjaa

namespace Go.Proofs.Ytfhhgddajmihjaa
open Go.RowKit
set_option linter.unusedVariables false
set_option linter.unusedSimpArgs false
set_option maxRecDepth 100000

theorem tvF_some {o : Option (Nat × Bool)} (h : o.isSome = true) : oF o = tvF o ∧ oD o = tvD o := by
  cases o with
  | none => cases h
  | some r => exact ⟨rfl, rfl⟩
theorem none_of {o : Option (Nat × Bool)} (h : o.isSome = false) : o = none := by cases o with
  | none => rfl
  | some r => cases h
theorem CV.plen {x : Cs} {n1 n2 n3 : Nat} {a1 a2 a3 : Option Addr} {w : World} (hv : CV x) (h : Cal w a1 n1 a2 n2 a3 n3 x) : n1 = n3 ∧ n2 = n3 ∧ 1 ≤ n3 ∧ n3 ≤ 8 ∧ x.c.length = n3 := by
  have l1 := h.1.1
  have l2 := h.2.1.1
  have l3 := h.2.2.1
  have v1 := hv.1
  have v2 := hv.2.1
  have v3 := hv.2.2.1
  have v4 := hv.2.2.2.1
  exact ⟨by omega, by omega, by omega, by omega, by omega⟩
set_option maxHeartbeats 2000000 in
theorem iNextStop_f (a1 : Option Addr) (n1 k1 : Nat) (a2 : Option Addr) (n2 k2 : Nat) (a3 : Option Addr) (n3 k3 : Nat) (x : Cs) (f d : Int) (w : World) (hX : Cal w a1 n1 a2 n2 a3 n3 x) (h : ¬ SK x f d) : Calls Try.prog 60 #[(.agg #[.slice a1 n1 k1, .slice a2 n2 k2, .slice a3 n3 k3]), (Value.agg #[.int .i64 (f), .int .i64 (d)])] w (Mk w (Value.agg #[.int .i64 (-1), .int .i64 (0)])) := by
  have X0 := Lib.hid hX
  by_cases hv : CV x
  case neg =>
    have HS := Lib.hid hv
    clear h hv hX
    refine at_base fun wn hwn => ?_
    have T := Lib.hid (show Below w.heap.size w wn from by rw [hwn]; exact Below.refl _ _)
    clear hwn
    obtain ⟨g, hg⟩ : ∃ g, Array.size (World.heap wn) = g := ⟨_, rfl⟩
    have HGg := Lib.hid hg
    have hTg : w.heap.size ≤ g := by rw [← hg]; exact T.out.size
    have Tn := Lib.hid (show Below w.heap.size w (((wn.alloc (.cells #[.slice a1 n1 k1, .slice a2 n2 k2, .slice a3 n3 k3] 36)).alloc (.cells #[.int .i64 (f), .int .i64 (d)] 24)).alloc (.cells #[.int .i64 (0), .int .i64 (0)] 24)) from (Below.al (Below.al (Below.al T.out (.cells #[.slice a1 n1 k1, .slice a2 n2 k2, .slice a3 n3 k3] 36)) (.cells #[.int .i64 (f), .int .i64 (d)] 24)) (.cells #[.int .i64 (0), .int .i64 (0)] 24)))
    have CB := Lib.hid (show Bx (((wn.alloc (.cells #[.slice a1 n1 k1, .slice a2 n2 k2, .slice a3 n3 k3] 36)).alloc (.cells #[.int .i64 (f), .int .i64 (d)] 24)).alloc (.cells #[.int .i64 (0), .int .i64 (0)] 24)) g (.slice a1 n1 k1) (.slice a2 n2 k2) (.slice a3 n3 k3) from by have h9 := (Bx.al (Bx.al (Bx.new wn (.slice a1 n1 k1) (.slice a2 n2 k2) (.slice a3 n3 k3) 36) (.cells #[.int .i64 (f), .int .i64 (d)] 24)) (.cells #[.int .i64 (0), .int .i64 (0)] 24)); simp only [World.size_alloc, hg, Nat.add_assoc, Nat.reduceAdd] at h9; exact h9)
    have SB := Lib.hid (show Box (((wn.alloc (.cells #[.slice a1 n1 k1, .slice a2 n2 k2, .slice a3 n3 k3] 36)).alloc (.cells #[.int .i64 (f), .int .i64 (d)] 24)).alloc (.cells #[.int .i64 (0), .int .i64 (0)] 24)) (g + 1) (f) (d) from by have h9 := (Box.al (Box.new (wn.alloc (.cells #[.slice a1 n1 k1, .slice a2 n2 k2, .slice a3 n3 k3] 36)) (f) (d) 24) (.cells #[.int .i64 (0), .int .i64 (0)] 24)); simp only [World.size_alloc, hg, Nat.add_assoc, Nat.reduceAdd] at h9; exact h9)
    have RB := Lib.hid (show Box (((wn.alloc (.cells #[.slice a1 n1 k1, .slice a2 n2 k2, .slice a3 n3 k3] 36)).alloc (.cells #[.int .i64 (f), .int .i64 (d)] 24)).alloc (.cells #[.int .i64 (0), .int .i64 (0)] 24)) (g + 2) (0) (0) from by have h9 := (Box.new ((wn.alloc (.cells #[.slice a1 n1 k1, .slice a2 n2 k2, .slice a3 n3 k3] 36)).alloc (.cells #[.int .i64 (f), .int .i64 (d)] 24)) (0) (0) 24); simp only [World.size_alloc, hg, Nat.add_assoc, Nat.reduceAdd] at h9; exact h9)
    have HZg := Lib.hid (show ((((wn.alloc (.cells #[.slice a1 n1 k1, .slice a2 n2 k2, .slice a3 n3 k3] 36)).alloc (.cells #[.int .i64 (f), .int .i64 (d)] 24)).alloc (.cells #[.int .i64 (0), .int .i64 (0)] 24))).heap.size = g + 3 from by simp only [World.size_alloc, hg, Nat.add_assoc, Nat.reduceAdd])
    clear hg
    clear T
    have T := Tn
    clear Tn
    go_enter Try.func60, Try.ntmps60
    obtain ⟨⟨c0, c1, c2⟩, -⟩ := CB.out
    go_wp2_with fail
    rw [HGg.out]
    refine Calls.mono (iCallsValid_f a1 n1 k1 a2 n2 k2 a3 n3 k3 x _ (Cal.below X0.out T.out) HS.out) ?_
    intro e wn hh
    obtain ⟨he, hb⟩ := (by first | exact hh | exact Ro.mk hh | exact St.mk hh | exact LawOk.mk' hh : Mk _ _ e wn)
    subst he
    have Tn : Hid (Below w.heap.size w wn) := below_next T.out hb
    have CBn : Hid _ := Bx.below CB.out hb
    have SBn : Hid _ := Box.below SB.out hb
    have RBn : Hid _ := Box.below RB.out hb
    clear hb hh c0 c1 c2
    clear T CB SB RB
    have T := Tn
    have CB := CBn
    have SB := SBn
    have RB := RBn
    clear Tn CBn SBn RBn
    obtain ⟨⟨c0, c1⟩, f0, f1⟩ := RB.out
    go_wp2_with fail
    exact bodyPost_ret (v := (Value.agg #[.int .i64 (-1), .int .i64 (0)])) (by simp [results, Try.results60, go_sem, c0, c1]) rfl (Mk.ag (rfl) (rfl) (by have HZ := T.out; exact (by repeat (first | exact Below.refl _ _ | refine Below.al ?_ _ | refine Below.dr ?_ _ | refine Below.dw ?_ | refine Below.st ?_ (by first | exact Nat.le_refl _ | exact Nat.le_add_right _ _ | (simp; omega)) _ | (refine below_next ?_ (by assumption))))))
  obtain ⟨rfl, rfl, q1, q8, q3⟩ := CV.plen hv hX
  have HS := Lib.hid hv
  have HP := Lib.hid (show ¬ PL n2 f d from fun g => h ⟨hv, ⟨g.1, by rw [q3]; exact g.2.1⟩, g.2.2⟩)
  clear h hv hX q3
  refine at_base fun wn hwn => ?_
  have T := Lib.hid (show Below w.heap.size w wn from by rw [hwn]; exact Below.refl _ _)
  clear hwn
  obtain ⟨g, hg⟩ : ∃ g, Array.size (World.heap wn) = g := ⟨_, rfl⟩
  have HGg := Lib.hid hg
  have hTg : w.heap.size ≤ g := by rw [← hg]; exact T.out.size
  have Tn := Lib.hid (show Below w.heap.size w (((wn.alloc (.cells #[.slice a1 n2 k1, .slice a2 n2 k2, .slice a3 n2 k3] 36)).alloc (.cells #[.int .i64 (f), .int .i64 (d)] 24)).alloc (.cells #[.int .i64 (0), .int .i64 (0)] 24)) from (Below.al (Below.al (Below.al T.out (.cells #[.slice a1 n2 k1, .slice a2 n2 k2, .slice a3 n2 k3] 36)) (.cells #[.int .i64 (f), .int .i64 (d)] 24)) (.cells #[.int .i64 (0), .int .i64 (0)] 24)))
  have CB := Lib.hid (show Bx (((wn.alloc (.cells #[.slice a1 n2 k1, .slice a2 n2 k2, .slice a3 n2 k3] 36)).alloc (.cells #[.int .i64 (f), .int .i64 (d)] 24)).alloc (.cells #[.int .i64 (0), .int .i64 (0)] 24)) g (.slice a1 n2 k1) (.slice a2 n2 k2) (.slice a3 n2 k3) from by have h9 := (Bx.al (Bx.al (Bx.new wn (.slice a1 n2 k1) (.slice a2 n2 k2) (.slice a3 n2 k3) 36) (.cells #[.int .i64 (f), .int .i64 (d)] 24)) (.cells #[.int .i64 (0), .int .i64 (0)] 24)); simp only [World.size_alloc, hg, Nat.add_assoc, Nat.reduceAdd] at h9; exact h9)
  have SB := Lib.hid (show Box (((wn.alloc (.cells #[.slice a1 n2 k1, .slice a2 n2 k2, .slice a3 n2 k3] 36)).alloc (.cells #[.int .i64 (f), .int .i64 (d)] 24)).alloc (.cells #[.int .i64 (0), .int .i64 (0)] 24)) (g + 1) (f) (d) from by have h9 := (Box.al (Box.new (wn.alloc (.cells #[.slice a1 n2 k1, .slice a2 n2 k2, .slice a3 n2 k3] 36)) (f) (d) 24) (.cells #[.int .i64 (0), .int .i64 (0)] 24)); simp only [World.size_alloc, hg, Nat.add_assoc, Nat.reduceAdd] at h9; exact h9)
  have RB := Lib.hid (show Box (((wn.alloc (.cells #[.slice a1 n2 k1, .slice a2 n2 k2, .slice a3 n2 k3] 36)).alloc (.cells #[.int .i64 (f), .int .i64 (d)] 24)).alloc (.cells #[.int .i64 (0), .int .i64 (0)] 24)) (g + 2) (0) (0) from by have h9 := (Box.new ((wn.alloc (.cells #[.slice a1 n2 k1, .slice a2 n2 k2, .slice a3 n2 k3] 36)).alloc (.cells #[.int .i64 (f), .int .i64 (d)] 24)) (0) (0) 24); simp only [World.size_alloc, hg, Nat.add_assoc, Nat.reduceAdd] at h9; exact h9)
  have HZg := Lib.hid (show ((((wn.alloc (.cells #[.slice a1 n2 k1, .slice a2 n2 k2, .slice a3 n2 k3] 36)).alloc (.cells #[.int .i64 (f), .int .i64 (d)] 24)).alloc (.cells #[.int .i64 (0), .int .i64 (0)] 24))).heap.size = g + 3 from by simp only [World.size_alloc, hg, Nat.add_assoc, Nat.reduceAdd])
  clear hg
  clear T
  have T := Tn
  clear Tn
  go_enter Try.func60, Try.ntmps60
  obtain ⟨⟨c0, c1, c2⟩, -⟩ := CB.out
  go_wp2_with fail
  rw [HGg.out]
  refine Calls.mono (iCallsValid_t a1 n2 k1 a2 n2 k2 a3 n2 k3 x _ (Cal.below X0.out T.out) HS.out) ?_
  intro e wn hh
  obtain ⟨he, hb⟩ := (by first | exact hh | exact Ro.mk hh | exact St.mk hh | exact LawOk.mk' hh : Mk _ _ e wn)
  subst he
  have Tn : Hid (Below w.heap.size w wn) := below_next T.out hb
  have CBn : Hid _ := Bx.below CB.out hb
  have SBn : Hid _ := Box.below SB.out hb
  have RBn : Hid _ := Box.below RB.out hb
  clear hb hh c0 c1 c2
  clear T CB SB RB
  have T := Tn
  have CB := CBn
  have SB := SBn
  have RB := RBn
  clear Tn CBn SBn RBn
  obtain ⟨⟨c0, c1, c2⟩, -⟩ := CB.out
  obtain ⟨⟨d0, d1⟩, df0, df1⟩ := SB.out
  go_wp2_with fail
  refine Calls.mono (isPlace_f n2 f d _ q8 HP.out) ?_
  intro e wn hh
  obtain ⟨he, hb⟩ := (by first | exact hh | exact Ro.mk hh | exact St.mk hh | exact LawOk.mk' hh : Mk _ _ e wn)
  subst he
  have Tn : Hid (Below w.heap.size w wn) := below_next T.out hb
  have CBn : Hid _ := Bx.below CB.out hb
  have SBn : Hid _ := Box.below SB.out hb
  have RBn : Hid _ := Box.below RB.out hb
  clear hb hh c0 c1 c2 d0 d1 df0 df1
  clear T CB SB RB
  have T := Tn
  have CB := CBn
  have SB := SBn
  have RB := RBn
  clear Tn CBn SBn RBn
  obtain ⟨⟨c0, c1⟩, f0, f1⟩ := RB.out
  go_wp2_with fail
  exact bodyPost_ret (v := (Value.agg #[.int .i64 (-1), .int .i64 (0)])) (by simp [results, Try.results60, go_sem, c0, c1]) rfl (Mk.ag (rfl) (rfl) (by have HZ := T.out; exact (by repeat (first | exact Below.refl _ _ | refine Below.al ?_ _ | refine Below.dr ?_ _ | refine Below.dw ?_ | refine Below.st ?_ (by first | exact Nat.le_refl _ | exact Nat.le_add_right _ _ | (simp; omega)) _ | (refine below_next ?_ (by assumption))))))
set_option maxHeartbeats 4000000 in
theorem iNextStop_t (a1 : Option Addr) (n1 k1 : Nat) (a2 : Option Addr) (n2 k2 : Nat) (a3 : Option Addr) (n3 k3 : Nat) (x : Cs) (f : Nat) (up : Bool) (w : World) (hX : Cal w a1 n1 a2 n2 a3 n3 x) (h : SK x f (dI up)) : Calls Try.prog 60 #[(.agg #[.slice a1 n1 k1, .slice a2 n2 k2, .slice a3 n3 k3]), (Value.agg #[.int .i64 (f), .int .i64 (dI up)])] w (Mk w (Value.agg #[.int .i64 (oF (nx x f up)), .int .i64 (oD (nx x f up))])) := by
  have X0 := Lib.hid hX
  have hv := h.1
  obtain ⟨rfl, rfl, q1, q8, q3⟩ := CV.plen hv hX
  have hf : f < n2 := by have := h.2.1.2; omega
  have HS := Lib.hid hv
  have HP := Lib.hid (show PL n2 f (dI up) from ⟨by omega, by omega, h.2.2⟩)
  obtain ⟨d1, d2, d3⟩ := dI_bd up
  obtain ⟨D, hD⟩ : ∃ D, dI up = D := ⟨_, rfl⟩
  rw [hD] at HP d1 d2 d3
  have HD := Lib.hid hD
  have HD3 := Lib.hid d3
  rw [hD]
  clear h hv hX q3 hD d3
  refine at_base fun wn hwn => ?_
  have T := Lib.hid (show Below w.heap.size w wn from by rw [hwn]; exact Below.refl _ _)
  clear hwn
  obtain ⟨g, hg⟩ : ∃ g, Array.size (World.heap wn) = g := ⟨_, rfl⟩
  have HGg := Lib.hid hg
  have hTg : w.heap.size ≤ g := by rw [← hg]; exact T.out.size
  have Tn := Lib.hid (show Below w.heap.size w (((wn.alloc (.cells #[.slice a1 n2 k1, .slice a2 n2 k2, .slice a3 n2 k3] 36)).alloc (.cells #[.int .i64 (f), .int .i64 (D)] 24)).alloc (.cells #[.int .i64 (0), .int .i64 (0)] 24)) from (Below.al (Below.al (Below.al T.out (.cells #[.slice a1 n2 k1, .slice a2 n2 k2, .slice a3 n2 k3] 36)) (.cells #[.int .i64 (f), .int .i64 (D)] 24)) (.cells #[.int .i64 (0), .int .i64 (0)] 24)))
  have CB := Lib.hid (show Bx (((wn.alloc (.cells #[.slice a1 n2 k1, .slice a2 n2 k2, .slice a3 n2 k3] 36)).alloc (.cells #[.int .i64 (f), .int .i64 (D)] 24)).alloc (.cells #[.int .i64 (0), .int .i64 (0)] 24)) g (.slice a1 n2 k1) (.slice a2 n2 k2) (.slice a3 n2 k3) from by have h9 := (Bx.al (Bx.al (Bx.new wn (.slice a1 n2 k1) (.slice a2 n2 k2) (.slice a3 n2 k3) 36) (.cells #[.int .i64 (f), .int .i64 (D)] 24)) (.cells #[.int .i64 (0), .int .i64 (0)] 24)); simp only [World.size_alloc, hg, Nat.add_assoc, Nat.reduceAdd] at h9; exact h9)
  have SB := Lib.hid (show Box (((wn.alloc (.cells #[.slice a1 n2 k1, .slice a2 n2 k2, .slice a3 n2 k3] 36)).alloc (.cells #[.int .i64 (f), .int .i64 (D)] 24)).alloc (.cells #[.int .i64 (0), .int .i64 (0)] 24)) (g + 1) (f) (D) from by have h9 := (Box.al (Box.new (wn.alloc (.cells #[.slice a1 n2 k1, .slice a2 n2 k2, .slice a3 n2 k3] 36)) (f) (D) 24) (.cells #[.int .i64 (0), .int .i64 (0)] 24)); simp only [World.size_alloc, hg, Nat.add_assoc, Nat.reduceAdd] at h9; exact h9)
  have RB := Lib.hid (show Box (((wn.alloc (.cells #[.slice a1 n2 k1, .slice a2 n2 k2, .slice a3 n2 k3] 36)).alloc (.cells #[.int .i64 (f), .int .i64 (D)] 24)).alloc (.cells #[.int .i64 (0), .int .i64 (0)] 24)) (g + 2) (0) (0) from by have h9 := (Box.new ((wn.alloc (.cells #[.slice a1 n2 k1, .slice a2 n2 k2, .slice a3 n2 k3] 36)).alloc (.cells #[.int .i64 (f), .int .i64 (D)] 24)) (0) (0) 24); simp only [World.size_alloc, hg, Nat.add_assoc, Nat.reduceAdd] at h9; exact h9)
  have HZg := Lib.hid (show ((((wn.alloc (.cells #[.slice a1 n2 k1, .slice a2 n2 k2, .slice a3 n2 k3] 36)).alloc (.cells #[.int .i64 (f), .int .i64 (D)] 24)).alloc (.cells #[.int .i64 (0), .int .i64 (0)] 24))).heap.size = g + 3 from by simp only [World.size_alloc, hg, Nat.add_assoc, Nat.reduceAdd])
  clear hg
  clear T
  have T := Tn
  clear Tn
  go_enter Try.func60, Try.ntmps60
  obtain ⟨⟨c0, c1, c2⟩, -⟩ := CB.out
  go_wp2_with fail
  rw [HGg.out]
  refine Calls.mono (iCallsValid_t a1 n2 k1 a2 n2 k2 a3 n2 k3 x _ (Cal.below X0.out T.out) HS.out) ?_
  intro e wn hh
  obtain ⟨he, hb⟩ := (by first | exact hh | exact Ro.mk hh | exact St.mk hh | exact LawOk.mk' hh : Mk _ _ e wn)
  subst he
  have Tn : Hid (Below w.heap.size w wn) := below_next T.out hb
  have CBn : Hid _ := Bx.below CB.out hb
  have SBn : Hid _ := Box.below SB.out hb
  have RBn : Hid _ := Box.below RB.out hb
  clear hb hh c0 c1 c2
  clear T CB SB RB
  have T := Tn
  have CB := CBn
  have SB := SBn
  have RB := RBn
  clear Tn CBn SBn RBn
  obtain ⟨⟨c0, c1, c2⟩, -⟩ := CB.out
  obtain ⟨⟨d0, d1⟩, df0, df1⟩ := SB.out
  go_wp2_with fail
  refine Calls.mono (isPlace_t n2 f D _ q8 HP.out) ?_
  intro e wn hh
  obtain ⟨he, hb⟩ := (by first | exact hh | exact Ro.mk hh | exact St.mk hh | exact LawOk.mk' hh : Mk _ _ e wn)
  subst he
  have Tn : Hid (Below w.heap.size w wn) := below_next T.out hb
  have CBn : Hid _ := Bx.below CB.out hb
  have SBn : Hid _ := Box.below SB.out hb
  have RBn : Hid _ := Box.below RB.out hb
  clear hb hh c0 c1 c2 d0 d1 df0 df1
  clear T CB SB RB
  have T := Tn
  have CB := CBn
  have SB := SBn
  have RB := RBn
  clear Tn CBn SBn RBn
  obtain ⟨⟨d0, d1⟩, df0, df1⟩ := SB.out
  go_wp2_with fail
  go_loopw [24] (fun v wr => ∃ (t : Nat) (u : Bool), t ≤ 2 ∧ v = .int .i64 t ∧ LP x f up t u ∧ Below w.heap.size w wr ∧ Bx wr g (.slice a1 n2 k1) (.slice a2 n2 k2) (.slice a3 n2 k3) ∧ Box wr (g + 1) (f) (D) ∧ Box wr (g + 2) (0) (0)) (fun v _ => 2 - (intOf v).toNat)
  case atStart => exact ⟨0, up, by omega, rfl, .inl ⟨rfl, rfl⟩, T.out, CB.out, SB.out, RB.out⟩
  case' round =>
    clear T CB SB RB d0 d1 df0 df1
    obtain ⟨t, u, ht, rfl, hL, h9T, h9CB, h9SB, h9RB⟩ := hrel
    obtain ⟨wn, hwq⟩ : ∃ w0 : World, w0 = wr := ⟨_, rfl⟩
    rw [← hwq] at h9T h9CB h9SB h9RB ⊢
    clear hwq
    have T := Lib.hid h9T
    have CB := Lib.hid h9CB
    have SB := Lib.hid h9SB
    have RB := Lib.hid h9RB
    clear h9T h9CB h9SB h9RB
    have HL := Lib.hid hL
    clear hL
    by_cases hlt : t < 2
    case neg =>
      obtain rfl : t = 2 := by omega
      have E2 := Lib.hid (LP.end HL.out)
      obtain ⟨⟨c0, c1⟩, f0, f1⟩ := RB.out
      go_wp2_with fail
      exact bodyPost_ret (v := (Value.agg #[.int .i64 (-1), .int .i64 (0)])) (by simp [results, Try.results60, go_sem, c0, c1]) rfl (Mk.ag (by rw [E2.out]; rfl) (by rw [E2.out]; rfl) (by have HZ := T.out; exact (by repeat (first | exact Below.refl _ _ | refine Below.al ?_ _ | refine Below.dr ?_ _ | refine Below.dw ?_ | refine Below.st ?_ (by first | exact Nat.le_refl _ | exact Nat.le_add_right _ _ | (simp; omega)) _ | (refine below_next ?_ (by assumption))))))
    have KU : ∀ (D' : Int), dI u = D' → ∀ w' (h : Cal w' a1 n2 a2 n2 a3 n2 x), Calls Try.prog 83 #[.agg #[.slice a1 n2 k1, .slice a2 n2 k2, .slice a3 n2 k3], .int .i64 f, .int .i64 D'] w' (Mk w' (.tuple #[(Value.agg #[.int .i64 (tvF (nx1 x f u)), .int .i64 (tvD (nx1 x f u))]), .bool (nx1 x f u).isSome])) :=
      fun D' h w' hc => stopToward_c a1 k1 a2 k2 a3 k3 n2 x f u D' w' hc q8 hf h
    have hsome : (nx1 x f u).isSome = true → nx x f up = nx1 x f u := fun h => by
      obtain ⟨r, hr⟩ := Option.isSome_iff_exists.1 h
      rw [hr]; exact LP.some HL.out hlt hr
    have hnone : (nx1 x f u).isSome = false → LP x f up (t + 1) (!u) := fun h => LP.next HL.out hlt (none_of h)
    have hsm : (nx1 x f u).isSome = true → oF (nx1 x f u) = tvF (nx1 x f u) ∧ oD (nx1 x f u) = tvD (nx1 x f u) := tvF_some
    have HU := Lib.hid (show (t = 0 → dI u = D) ∧ (t = 1 → dI u = -D) from by
      rcases HL.out with ⟨e, rfl⟩ | ⟨e, rfl, -⟩ | ⟨e, -⟩
      · exact ⟨fun _ => HD.out, fun e2 => by omega⟩
      · exact ⟨fun e2 => by omega, fun _ => by rw [HD3.out]⟩
      · exact ⟨fun e2 => by omega, fun e2 => by omega⟩)
    obtain ⟨R, hR⟩ : ∃ R, nx1 x f u = R := ⟨_, rfl⟩
    rw [hR] at KU hsome hnone hsm
    obtain ⟨F', hF'⟩ : ∃ F', tvF R = F' := ⟨_, rfl⟩
    obtain ⟨D', hD'⟩ : ∃ D', tvD R = D' := ⟨_, rfl⟩
    obtain ⟨b, hb'⟩ : ∃ b, R.isSome = b := ⟨_, rfl⟩
    rw [hF', hD', hb'] at KU
    rw [hb'] at hsome hnone hsm
    rw [hF', hD'] at hsm
    have HKU := Lib.hid KU
    have HSO := Lib.hid hsome
    have HNO := Lib.hid hnone
    have HSM := Lib.hid hsm
    clear KU hsome hnone hsm hR hF' hD' hb' HL
    rcases (by omega : t = 0 ∨ t = 1) with rfl | rfl
    · have KK := Lib.hid (HKU.out D (HU.out.1 rfl))
      clear HKU HU
      have hix : ∀ w' : World, Sem.run Try.prog (Instr.index 94 (.agg #[.int .i64 D, .int .i64 (-D)]) (.int .i64 0)) w' = .ok (.int .i64 D) w' := fun _ => rfl
      obtain ⟨⟨c0, c1, c2⟩, -⟩ := CB.out
      obtain ⟨⟨d0, d1⟩, df0, df1⟩ := SB.out
      go_wp2_with fail
      refine Calls.mono (KK.out _ (Cal.below X0.out T.out)) ?_
      intro e wn hh
      obtain ⟨he, hb⟩ := (by first | exact hh | exact Ro.mk hh | exact St.mk hh | exact LawOk.mk' hh : Mk _ _ e wn)
      subst he
      have Tn : Hid (Below w.heap.size w wn) := below_next T.out hb
      have CBn : Hid _ := Bx.below CB.out hb
      have SBn : Hid _ := Box.below SB.out hb
      have RBn : Hid _ := Box.below RB.out hb
      clear hb hh c0 c1 c2 d0 d1 df0 df1
      clear T CB SB RB
      have T := Tn
      have CB := CBn
      have SB := SBn
      have RB := RBn
      clear Tn CBn SBn RBn
      have HT0 := Lib.hid T.out
      have hltCBHT := Bx.lt CB.out
      have hltSBHT := Box.lt SB.out
      have hltRBHT := Box.lt RB.out
      have hWHT := T.out.size
      obtain ⟨HT, hHT⟩ : ∃ HT, Array.size (World.heap wn) = HT := ⟨_, rfl⟩
      have HHT : Hid _ := hHT
      rw [hHT] at hWHT hltCBHT hltSBHT hltRBHT
      have NB : Hid (Box (wn.alloc (.cells #[.int .i64 F', .int .i64 D'] 24)) HT F' D') := by rw [← hHT]; exact Box.new _ _ _ _
      clear hHT
      have Tn : Hid (Below w.heap.size w _) := Below.al T.out (.cells #[.int .i64 F', .int .i64 D'] 24)
      have CBn : Hid _ := Bx.below CB.out ((Below.refl _ _).alloc (Nat.le_refl _) (.cells #[.int .i64 F', .int .i64 D'] 24))
      have SBn : Hid _ := Box.below SB.out ((Below.refl _ _).alloc (Nat.le_refl _) (.cells #[.int .i64 F', .int .i64 D'] 24))
      have RBn : Hid _ := Box.below RB.out ((Below.refl _ _).alloc (Nat.le_refl _) (.cells #[.int .i64 F', .int .i64 D'] 24))
      clear T CB SB RB
      have T := Tn
      have CB := CBn
      have SB := SBn
      have RB := RBn
      clear Tn CBn SBn RBn
      cases b
      case true =>
        have E2 := Lib.hid (show oF (nx x f up) = F' ∧ oD (nx x f up) = D' from by rw [HSO.out rfl]; exact HSM.out rfl)
        obtain ⟨⟨e0, e1⟩, ef0, ef1⟩ := NB.out
        have HZ0 := HT0.out
        obtain ⟨⟨c0, c1⟩, f0, f1⟩ := RB.out
        go_wp2_with fail
        exact bodyPost_ret (v := (Value.agg #[.int .i64 (F'), .int .i64 (D')])) (by simp [results, Try.results60, go_sem, c0, c1]) rfl (Mk.ag (E2.out.1) (E2.out.2) (by have HZ := T.out; exact (by repeat (first | exact Below.refl _ _ | refine Below.al ?_ _ | refine Below.dr ?_ _ | refine Below.dw ?_ | refine Below.st ?_ (by first | exact Nat.le_refl _ | exact Nat.le_add_right _ _ | (simp; omega)) _ | (refine below_next ?_ (by assumption))))))
      case false =>
        have HL := Lib.hid (HNO.out rfl)
        go_wp2_with fail
        go_roundw
        case rel => exact ⟨1, !u, by omega, by go_num, HL.out, T.out, CB.out, SB.out, RB.out⟩
        case measure => first | (simp [intOf]; done) | (simp [intOf]; omega) | omega
    · have KK := Lib.hid (HKU.out (-D) (HU.out.2 rfl))
      clear HKU HU
      have hix : ∀ w' : World, Sem.run Try.prog (Instr.index 94 (.agg #[.int .i64 D, .int .i64 (-D)]) (.int .i64 1)) w' = .ok (.int .i64 (-D)) w' := fun _ => rfl
      obtain ⟨⟨c0, c1, c2⟩, -⟩ := CB.out
      obtain ⟨⟨d0, d1⟩, df0, df1⟩ := SB.out
      go_wp2_with fail
      refine Calls.mono (KK.out _ (Cal.below X0.out T.out)) ?_
      intro e wn hh
      obtain ⟨he, hb⟩ := (by first | exact hh | exact Ro.mk hh | exact St.mk hh | exact LawOk.mk' hh : Mk _ _ e wn)
      subst he
      have Tn : Hid (Below w.heap.size w wn) := below_next T.out hb
      have CBn : Hid _ := Bx.below CB.out hb
      have SBn : Hid _ := Box.below SB.out hb
      have RBn : Hid _ := Box.below RB.out hb
      clear hb hh c0 c1 c2 d0 d1 df0 df1
      clear T CB SB RB
      have T := Tn
      have CB := CBn
      have SB := SBn
      have RB := RBn
      clear Tn CBn SBn RBn
      have HT0 := Lib.hid T.out
      have hltCBHT := Bx.lt CB.out
      have hltSBHT := Box.lt SB.out
      have hltRBHT := Box.lt RB.out
      have hWHT := T.out.size
      obtain ⟨HT, hHT⟩ : ∃ HT, Array.size (World.heap wn) = HT := ⟨_, rfl⟩
      have HHT : Hid _ := hHT
      rw [hHT] at hWHT hltCBHT hltSBHT hltRBHT
      have NB : Hid (Box (wn.alloc (.cells #[.int .i64 F', .int .i64 D'] 24)) HT F' D') := by rw [← hHT]; exact Box.new _ _ _ _
      clear hHT
      have Tn : Hid (Below w.heap.size w _) := Below.al T.out (.cells #[.int .i64 F', .int .i64 D'] 24)
      have CBn : Hid _ := Bx.below CB.out ((Below.refl _ _).alloc (Nat.le_refl _) (.cells #[.int .i64 F', .int .i64 D'] 24))
      have SBn : Hid _ := Box.below SB.out ((Below.refl _ _).alloc (Nat.le_refl _) (.cells #[.int .i64 F', .int .i64 D'] 24))
      have RBn : Hid _ := Box.below RB.out ((Below.refl _ _).alloc (Nat.le_refl _) (.cells #[.int .i64 F', .int .i64 D'] 24))
      clear T CB SB RB
      have T := Tn
      have CB := CBn
      have SB := SBn
      have RB := RBn
      clear Tn CBn SBn RBn
      cases b
      case true =>
        have E2 := Lib.hid (show oF (nx x f up) = F' ∧ oD (nx x f up) = D' from by rw [HSO.out rfl]; exact HSM.out rfl)
        obtain ⟨⟨e0, e1⟩, ef0, ef1⟩ := NB.out
        have HZ0 := HT0.out
        obtain ⟨⟨c0, c1⟩, f0, f1⟩ := RB.out
        go_wp2_with fail
        exact bodyPost_ret (v := (Value.agg #[.int .i64 (F'), .int .i64 (D')])) (by simp [results, Try.results60, go_sem, c0, c1]) rfl (Mk.ag (E2.out.1) (E2.out.2) (by have HZ := T.out; exact (by repeat (first | exact Below.refl _ _ | refine Below.al ?_ _ | refine Below.dr ?_ _ | refine Below.dw ?_ | refine Below.st ?_ (by first | exact Nat.le_refl _ | exact Nat.le_add_right _ _ | (simp; omega)) _ | (refine below_next ?_ (by assumption))))))
      case false =>
        have HL := Lib.hid (HNO.out rfl)
        go_wp2_with fail
        go_roundw
        case rel => exact ⟨2, !u, by omega, by go_num, HL.out, T.out, CB.out, SB.out, RB.out⟩
        case measure => first | (simp [intOf]; done) | (simp [intOf]; omega) | omega
theorem iNextStop_c (a1 : Option Addr) (n1 k1 : Nat) (a2 : Option Addr) (n2 k2 : Nat) (a3 : Option Addr) (n3 k3 : Nat) (x : Cs) (f d : Int) (w : World) (hX : Cal w a1 n1 a2 n2 a3 n3 x) : Calls Try.prog 60 #[(.agg #[.slice a1 n1 k1, .slice a2 n2 k2, .slice a3 n3 k3]), (Value.agg #[.int .i64 (f), .int .i64 (d)])] w (Mk w (Value.agg #[.int .i64 (oF (nsv x f d)), .int .i64 (oD (nsv x f d))])) := by
  by_cases h : SK x f d
  · obtain ⟨f, up, rfl, hf, rfl⟩ := SK.dir h
    rw [nsv_t h]
    exact iNextStop_t a1 n1 k1 a2 n2 k2 a3 n3 k3 x f up w hX h
  · rw [nsv_f h]
    exact iNextStop_f a1 n1 k1 a2 n2 k2 a3 n3 k3 x f d w hX h
end Go.Proofs.Ytfhhgddajmihjaa

namespace Go.Proofs.Ytfhhgddajmihjaa
open Go.RowKit
set_option linter.unusedVariables false
set_option linter.unusedSimpArgs false
set_option maxRecDepth 100000

end Go.Proofs.Ytfhhgddajmihjaa
