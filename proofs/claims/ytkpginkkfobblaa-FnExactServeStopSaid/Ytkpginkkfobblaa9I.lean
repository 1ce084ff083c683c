/- kindToGo, isPlace, arrays of eight truths. -/
import Derived.Test.Ytkpginkkfobblaa9D
import Derived.Test.Ytkpginkkfobblaa8E
namespace Go.Proofs.Ytkpginkkfobblaa
open Go.RowKit
set_option linter.unusedVariables false

theorem kindToGo_u (w : World) : Calls Try.prog 43 #[.int .i64 1] w (St w (.int .i64 0)) := by
  go_enter Try.func43, Try.ntmps43
  go_wp2
  go_ret
  exact ⟨rfl, rfl⟩
theorem kindToGo_d (w : World) : Calls Try.prog 43 #[.int .i64 (-1)] w (St w (.int .i64 1)) := by
  go_enter Try.func43, Try.ntmps43
  go_wp2
  go_ret
  exact ⟨rfl, rfl⟩
/-- A floor of so many and a direction. -/
def PL (n : Nat) (f d : Int) : Prop := 0 ≤ f ∧ f < n ∧ (d = 1 ∨ d = -1)
noncomputable def plB (n : Nat) (f d : Int) : Bool := tr (PL n f d)
theorem plB_t {n : Nat} {f d : Int} (h : PL n f d) : plB n f d = true := tr_true h
theorem plB_f {n : Nat} {f d : Int} (h : ¬ PL n f d) : plB n f d = false := tr_false h
set_option maxHeartbeats 1000000 in
theorem isPlace_c (n : Nat) (f d : Int) (w : World) (h8 : n ≤ 8) : Calls Try.prog 36 #[.int .i64 n, (Value.agg #[.int .i64 (f), .int .i64 (d)])] w (Mk w (.bool (plB n f d))) := by
  have h8i : (n : Int) ≤ 8 := by omega
  refine at_base fun wn hwn => ?_
  have T := Lib.hid (show Below w.heap.size w wn from by rw [hwn]; exact Below.refl _ _)
  clear hwn
  by_cases h0 : 0 ≤ f
  case neg =>
    have E := Lib.hid (plB_f (n := n) (d := d) (fun h => h0 h.1))
    obtain ⟨g, hg⟩ : ∃ g, Array.size (World.heap wn) = g := ⟨_, rfl⟩
    have HGg := Lib.hid hg
    have hTg : w.heap.size ≤ g := by rw [← hg]; exact T.out.size
    have Tn := Lib.hid (show Below w.heap.size w (wn.alloc (.cells #[.int .i64 (f), .int .i64 (d)] 27)) from (Below.al T.out (.cells #[.int .i64 (f), .int .i64 (d)] 27)))
    have SB := Lib.hid (show Box (wn.alloc (.cells #[.int .i64 (f), .int .i64 (d)] 27)) g (f) (d) from by have h9 := (Box.new wn (f) (d) 27); simp only [World.size_alloc, hg, Nat.add_assoc, Nat.reduceAdd] at h9; exact h9)
    have HZg := Lib.hid (show ((wn.alloc (.cells #[.int .i64 (f), .int .i64 (d)] 27))).heap.size = g + 1 from by simp only [World.size_alloc, hg, Nat.add_assoc, Nat.reduceAdd])
    clear hg
    clear T
    have T := Tn
    clear Tn
    go_enter Try.func36, Try.ntmps36
    obtain ⟨⟨c0, c1⟩, cf0, cf1⟩ := SB.out
    go_wp2_with fail
    go_ret
    exact Mk.b E.out T.out
  by_cases h1 : f < (n : Int)
  case neg =>
    have E := Lib.hid (plB_f (n := n) (d := d) (fun h => h1 h.2.1))
    obtain ⟨g, hg⟩ : ∃ g, Array.size (World.heap wn) = g := ⟨_, rfl⟩
    have HGg := Lib.hid hg
    have hTg : w.heap.size ≤ g := by rw [← hg]; exact T.out.size
    have Tn := Lib.hid (show Below w.heap.size w (wn.alloc (.cells #[.int .i64 (f), .int .i64 (d)] 27)) from (Below.al T.out (.cells #[.int .i64 (f), .int .i64 (d)] 27)))
    have SB := Lib.hid (show Box (wn.alloc (.cells #[.int .i64 (f), .int .i64 (d)] 27)) g (f) (d) from by have h9 := (Box.new wn (f) (d) 27); simp only [World.size_alloc, hg, Nat.add_assoc, Nat.reduceAdd] at h9; exact h9)
    have HZg := Lib.hid (show ((wn.alloc (.cells #[.int .i64 (f), .int .i64 (d)] 27))).heap.size = g + 1 from by simp only [World.size_alloc, hg, Nat.add_assoc, Nat.reduceAdd])
    clear hg
    clear T
    have T := Tn
    clear Tn
    go_enter Try.func36, Try.ntmps36
    obtain ⟨⟨c0, c1⟩, cf0, cf1⟩ := SB.out
    go_wp2_with fail
    go_ret
    exact Mk.b E.out T.out
  rcases (by omega : d = 1 ∨ d = -1 ∨ (d ≠ 1 ∧ d ≠ -1)) with rfl | rfl | ⟨g1, g2⟩
  case inl =>
    have E := Lib.hid (plB_t (n := n) (f := f) (d := 1) ⟨h0, h1, .inl rfl⟩)
    obtain ⟨g, hg⟩ : ∃ g, Array.size (World.heap wn) = g := ⟨_, rfl⟩
    have HGg := Lib.hid hg
    have hTg : w.heap.size ≤ g := by rw [← hg]; exact T.out.size
    have Tn := Lib.hid (show Below w.heap.size w (wn.alloc (.cells #[.int .i64 (f), .int .i64 (1)] 27)) from (Below.al T.out (.cells #[.int .i64 (f), .int .i64 (1)] 27)))
    have SB := Lib.hid (show Box (wn.alloc (.cells #[.int .i64 (f), .int .i64 (1)] 27)) g (f) (1) from by have h9 := (Box.new wn (f) (1) 27); simp only [World.size_alloc, hg, Nat.add_assoc, Nat.reduceAdd] at h9; exact h9)
    have HZg := Lib.hid (show ((wn.alloc (.cells #[.int .i64 (f), .int .i64 (1)] 27))).heap.size = g + 1 from by simp only [World.size_alloc, hg, Nat.add_assoc, Nat.reduceAdd])
    clear hg
    clear T
    have T := Tn
    clear Tn
    go_enter Try.func36, Try.ntmps36
    obtain ⟨⟨c0, c1⟩, cf0, cf1⟩ := SB.out
    go_wp2_with fail
    go_ret
    exact Mk.b E.out T.out
  case inr.inl =>
    have E := Lib.hid (plB_t (n := n) (f := f) (d := -1) ⟨h0, h1, .inr rfl⟩)
    obtain ⟨g, hg⟩ : ∃ g, Array.size (World.heap wn) = g := ⟨_, rfl⟩
    have HGg := Lib.hid hg
    have hTg : w.heap.size ≤ g := by rw [← hg]; exact T.out.size
    have Tn := Lib.hid (show Below w.heap.size w (wn.alloc (.cells #[.int .i64 (f), .int .i64 (-1)] 27)) from (Below.al T.out (.cells #[.int .i64 (f), .int .i64 (-1)] 27)))
    have SB := Lib.hid (show Box (wn.alloc (.cells #[.int .i64 (f), .int .i64 (-1)] 27)) g (f) (-1) from by have h9 := (Box.new wn (f) (-1) 27); simp only [World.size_alloc, hg, Nat.add_assoc, Nat.reduceAdd] at h9; exact h9)
    have HZg := Lib.hid (show ((wn.alloc (.cells #[.int .i64 (f), .int .i64 (-1)] 27))).heap.size = g + 1 from by simp only [World.size_alloc, hg, Nat.add_assoc, Nat.reduceAdd])
    clear hg
    clear T
    have T := Tn
    clear Tn
    go_enter Try.func36, Try.ntmps36
    obtain ⟨⟨c0, c1⟩, cf0, cf1⟩ := SB.out
    go_wp2_with fail
    go_ret
    exact Mk.b E.out T.out
  case inr.inr =>
    have E := Lib.hid (plB_f (n := n) (f := f) (d := d) (fun h => by have := h.2.2; omega))
    have t2 : (d == 1) = false := beq_false_of_ne g1
    have t3 : (d == -1) = false := beq_false_of_ne g2
    obtain ⟨g, hg⟩ : ∃ g, Array.size (World.heap wn) = g := ⟨_, rfl⟩
    have HGg := Lib.hid hg
    have hTg : w.heap.size ≤ g := by rw [← hg]; exact T.out.size
    have Tn := Lib.hid (show Below w.heap.size w (wn.alloc (.cells #[.int .i64 (f), .int .i64 (d)] 27)) from (Below.al T.out (.cells #[.int .i64 (f), .int .i64 (d)] 27)))
    have SB := Lib.hid (show Box (wn.alloc (.cells #[.int .i64 (f), .int .i64 (d)] 27)) g (f) (d) from by have h9 := (Box.new wn (f) (d) 27); simp only [World.size_alloc, hg, Nat.add_assoc, Nat.reduceAdd] at h9; exact h9)
    have HZg := Lib.hid (show ((wn.alloc (.cells #[.int .i64 (f), .int .i64 (d)] 27))).heap.size = g + 1 from by simp only [World.size_alloc, hg, Nat.add_assoc, Nat.reduceAdd])
    clear hg
    clear T
    have T := Tn
    clear Tn
    go_enter Try.func36, Try.ntmps36
    obtain ⟨⟨c0, c1⟩, cf0, cf1⟩ := SB.out
    go_wp2_with fail
    go_ret
    exact Mk.b E.out T.out
theorem iCallsValid_t (a1 : Option Addr) (n1 k1 : Nat) (a2 : Option Addr) (n2 k2 : Nat) (a3 : Option Addr) (n3 k3 : Nat) (x : Cs) (w : World) (hX : Cal w a1 n1 a2 n2 a3 n3 x) (hv : CV x) : Calls Try.prog 19 #[(.agg #[.slice a1 n1 k1, .slice a2 n2 k2, .slice a3 n3 k3])] w (Mk w (.bool true)) := by
  have := iCallsValid_c a1 n1 k1 a2 n2 k2 a3 n3 k3 x w hX
  rwa [cvB_t hv] at this
theorem iCallsValid_f (a1 : Option Addr) (n1 k1 : Nat) (a2 : Option Addr) (n2 k2 : Nat) (a3 : Option Addr) (n3 k3 : Nat) (x : Cs) (w : World) (hX : Cal w a1 n1 a2 n2 a3 n3 x) (hv : ¬ CV x) : Calls Try.prog 19 #[(.agg #[.slice a1 n1 k1, .slice a2 n2 k2, .slice a3 n3 k3])] w (Mk w (.bool false)) := by
  have := iCallsValid_c a1 n1 k1 a2 n2 k2 a3 n3 k3 x w hX
  rwa [cvB_f hv] at this
theorem isPlace_t (n : Nat) (f d : Int) (w : World) (h8 : n ≤ 8) (h : PL n f d) : Calls Try.prog 36 #[.int .i64 n, (Value.agg #[.int .i64 (f), .int .i64 (d)])] w (Mk w (.bool true)) := by
  have := isPlace_c n f d w h8
  rwa [plB_t h] at this
theorem isPlace_f (n : Nat) (f d : Int) (w : World) (h8 : n ≤ 8) (h : ¬ PL n f d) : Calls Try.prog 36 #[.int .i64 n, (Value.agg #[.int .i64 (f), .int .i64 (d)])] w (Mk w (.bool false)) := by
  have := isPlace_c n f d w h8
  rwa [plB_f h] at this
/-- The cells of an array of eight truths. -/
def ar8 (f : Nat → Bool) : Array Value := ((List.range 8).map fun i => Value.bool (f i)).toArray
theorem ar8_size (f : Nat → Bool) : (ar8 f).size = 8 := by simp [ar8]
theorem ar8_at (f : Nat → Bool) {i : Nat} (h : i < 8) : (ar8 f)[i]? = some (.bool (f i)) := by simp [ar8, h]
theorem run_load8 {w : World} {G o : Nat} {t : TypeId} {f g : Nat → Bool} (h : w.rowIs G t 24 (fun i => .bool (f i))) (ho : o + 8 ≤ 24) (hg : ∀ i, i < 8 → f (o + i) = g i) : (loadVar 58 ⟨G, o, none⟩).run Try.prog w = .ok (.agg (ar8 g)) w := by
  have hl := run_loadCells (P := Try.prog) w ⟨G, o, none⟩ 8 (fun i => .bool (g i)) (fun j hj => by
    have := h.cell (i := o + j) (by omega)
    rw [hg j hj] at this
    unfold Addr.add
    split
    · rename_i e; subst e; exact this
    · simpa using this)
  simp [loadVar, Try.isAgg58, Try.sizeOf58, hl]
  rfl
theorem run_store8 {w : World} {G : Nat} {t : TypeId} {f g : Nat → Bool} (h : w.rowIs G t 8 (fun i => .bool (g i))) : ∃ w', (storeVar 58 ⟨G, 0, none⟩ (.agg (ar8 f))).run Try.prog w = .ok () w' ∧ w'.rowIs G t 8 (fun i => .bool (f i)) ∧ Out G (G + 1) w w' := by
  have hl : (ar8 f).toList.length = 8 := by simp [ar8]
  have h1 := run_storeCells_cells (P := Try.prog) G 0 (ar8 f).toList 0 w (fun j hj => by rw [hl] at hj; simp only [Nat.zero_add]; rw [h.cell hj]; rfl) (fun j hj => h.frozen _) (fun v hv => by simp [ar8] at hv; obtain ⟨i, _, rfl⟩ := hv; rfl)
  refine ⟨w.setCells G 0 (ar8 f).toList, ?_, (Go.rowIs_setCells (ar8 f).toList 0 w _ h).congr fun i hi => ?_, out_setCells _ _ _ _⟩
  · have hsz : (Value.agg (ar8 f)).cells.size = 8 := ar8_size f
    simp [storeVar, Try.sizeOf58, Value.cells, h1, ar8_size]
  · rw [hl, if_pos (by omega)]
    simp [ar8, hi]
theorem exec_load8 {w : World} {vs : Nat → Value} {o : Oper} {G of : Nat} {t : TypeId} {f g : Nat → Bool} (s : Operand) (hop : o.op = .load 58 s) (hs : evOf vs s = .pointer (some ⟨G, of, none⟩)) (h : w.rowIs G t 24 (fun i => .bool (f i))) (ho : of + 8 ≤ 24) (hg : ∀ i, i < 8 → f (of + i) = g i) :
    (execOp (evOf vs) o).run Try.prog w = .ok (.value (.agg (ar8 g))) w := by
  unfold execOp
  simp only [hop, hs, Instr.loadAt, Instr.sureAddr, Sem.run_bind, Sem.run_pure, Result.andThen_ok, run_load8 h ho hg]
theorem exec_store8 {w : World} {vs : Nat → Value} {o : Oper} {G : Nat} {t : TypeId} {f g : Nat → Bool} (s x : Operand) (hop : o.op = .store 58 s x) (hs : evOf vs s = .pointer (some ⟨G, 0, none⟩)) (hx : evOf vs x = .agg (ar8 f)) (h : w.rowIs G t 8 (fun i => .bool (g i))) :
    ∃ w', (execOp (evOf vs) o).run Try.prog w = .ok .skip w' ∧ w'.rowIs G t 8 (fun i => .bool (f i)) ∧ Out G (G + 1) w w' := by
  obtain ⟨w', hr, h2, h3⟩ := run_store8 (f := f) h
  refine ⟨w', ?_, h2, h3⟩
  unfold execOp
  simp only [hop, hs, hx, Instr.storeAt, Instr.sureAddr, Sem.run_bind, Sem.run_pure, Result.andThen_ok, hr]
theorem stepI_store8 {I : (Nat → Bool) → (Nat → Value) → World → Prop} {ln : Nat → Bool} {w : World} {vs : Nat → Value} {o : Oper} {G : Nat} {t : TypeId} {f g : Nat → Bool} (s x : Operand) (hop : o.op = .store 58 s x) (hs : evOf vs s = .pointer (some ⟨G, 0, none⟩)) (hx : evOf vs x = .agg (ar8 f)) (h : w.rowIs G t 8 (fun i => .bool (g i)))
    (hI : ∀ w', w'.rowIs G t 8 (fun i => .bool (f i)) → Out G (G + 1) w w' → I ln (updV vs o.dst undef) w') : StepI Try.prog I ln vs o.dst ((execOp (evOf vs) o).run Try.prog w) := by
  obtain ⟨w', hr, r1, r2⟩ := exec_store8 s x hop hs hx h
  rw [hr]
  exact hI w' r1 r2
theorem ar8new (w : World) : (w.alloc (.cells #[.bool false, .bool false, .bool false, .bool false, .bool false, .bool false, .bool false, .bool false] 58)).rowIs w.heap.size 58 8 (fun i => .bool false) := by
  have h9 := World.rowIs_alloc w (ar8 fun _ => false) 58 (fun i => .bool false) (fun i hi => ar8_at _ (by rwa [ar8_size] at hi))
  rw [ar8_size] at h9; exact h9
/-- A row in a block. -/
def Rw (w : World) (b : Nat) (t : TypeId) (n : Nat) (f : Nat → Bool) : Prop := w.rowIs b t n (fun i => .bool (f i))
theorem Rw.lt {w : World} {b : Nat} {t : TypeId} {n : Nat} {f : Nat → Bool} (h : Rw w b t n f) : b < w.heap.size := World.rowIs.lt h
theorem Rw.block {w w' : World} {b : Nat} {t : TypeId} {n : Nat} {f : Nat → Bool} (h : Rw w b t n f) (e : w'.heap[b]? = w.heap[b]?) : Rw w' b t n f := World.rowIs.of_block h e
theorem Rw.below {w w' : World} {b : Nat} {t : TypeId} {n : Nat} {f : Nat → Bool} (h : Rw w b t n f) (hb : Below w.heap.size w w') : Rw w' b t n f := h.block (hb.block b h.lt)
theorem Rw.out {w w' : World} {b lo hi : Nat} {t : TypeId} {n : Nat} {f : Nat → Bool} (h : Rw w b t n f) (ho : Out lo hi w w') (hd : b < lo ∨ hi ≤ b) : Rw w' b t n f := h.block (ho.block b h.lt hd)
theorem Rw.al {w : World} {b : Nat} {t : TypeId} {n : Nat} {f : Nat → Bool} (h : Rw w b t n f) (o : Obj) : Rw (w.alloc o) b t n f := h.below ((Below.refl _ _).alloc (Nat.le_refl _) o)
theorem Rw.cell {w : World} {b : Nat} {t : TypeId} {n : Nat} {f : Nat → Bool} (h : Rw w b t n f) {i : Nat} (hi : i < n) : w.cell? ⟨b, i, none⟩ = some (.bool (f i)) := World.rowIs.cell h hi
theorem Rw.new24 (w : World) : Rw (w.alloc (.cells #[.bool false, .bool false, .bool false, .bool false, .bool false, .bool false, .bool false, .bool false, .bool false, .bool false, .bool false, .bool false, .bool false, .bool false, .bool false, .bool false, .bool false, .bool false, .bool false, .bool false, .bool false, .bool false, .bool false, .bool false] 60)) w.heap.size 60 24 (fun _ => false) := row24 w
end Go.Proofs.Ytkpginkkfobblaa

namespace Go.Proofs.Ytkpginkkfobblaa
open Go.RowKit
set_option linter.unusedVariables false

/-- Its drawn region: the rows of the calls to go on and to come back. -/
structure RT (w1 : World) (G : Nat) (D nD ka kb : Int) (oa ob : Nat) (fa fb : Nat → Bool) (ln : Nat → Bool) (vs : Nat → Value) (wx : World) : Prop where
  bel : Below w1.heap.size w1 wx
  u2 : vs 2 = .int .i64 D
  u8 : vs 8 = .pointer (some ⟨G, 0, none⟩)
  v16 : ln 0 = true → vs 16 = .int .i64 D
  v17 : ln 1 = true → vs 17 = .int .i64 ka
  v18 : ln 2 = true → vs 18 = .pointer (some ⟨G, oa, none⟩)
  v19 : ln 3 = true → vs 19 = .agg (ar8 fa)
  v20 : ln 4 = true → vs 20 = .int .i64 D
  v21 : ln 5 = true → vs 21 = .int .i64 nD
  v22 : ln 6 = true → vs 22 = .int .i64 kb
  v23 : ln 7 = true → vs 23 = .pointer (some ⟨G, ob, none⟩)
  v24 : ln 8 = true → vs 24 = .agg (ar8 fb)
  r9 : ln 9 = true → ∃ H, vs 9 = .pointer (some ⟨H, 0, none⟩) ∧ w1.heap.size ≤ H ∧ wx.rowIs H 58 8 (fun i => .bool (ln 11 && fa i))
  r10 : ln 10 = true → ∃ H, vs 10 = .pointer (some ⟨H, 0, none⟩) ∧ w1.heap.size ≤ H ∧ wx.rowIs H 58 8 (fun i => .bool (ln 12 && fb i))
  ap : ln 9 = true → ln 10 = true → vs 9 ≠ vs 10
  s11 : ln 11 = true → ln 9 = true
  s12 : ln 12 = true → ln 10 = true
/-- What a search in one direction has found so far. -/
def TV (A : Int) (up : Bool) (F D : Int) (b : Bool) : Prop := (A = -1 ∧ F = 0 ∧ D = 0 ∧ b = false) ∨ (0 ≤ A ∧ F = A ∧ D = dI (!up) ∧ b = true)
def tvF : Option (Nat × Bool) → Int
  | none => 0
  | some r => r.1
def tvD : Option (Nat × Bool) → Int
  | none => 0
  | some r => dI r.2
theorem tv_end {x : Cs} {f : Nat} {up : Bool} {F D : Int} {b : Bool} (ha : ah x up f = -1) (h : TV (la x up f) up F D b) : tvF (nx1 x f up) = F ∧ tvD (nx1 x f up) = D ∧ (nx1 x f up).isSome = b := by
  unfold nx1
  rw [if_neg (by omega)]
  rcases h with ⟨e, rfl, rfl, rfl⟩ | ⟨e, rfl, rfl, rfl⟩
  · rw [if_neg (by omega)]; exact ⟨rfl, rfl, rfl⟩
  · rw [if_pos e]; refine ⟨?_, rfl, rfl⟩
    show ((la x up f).toNat : Int) = _
    omega
theorem tv_hit {x : Cs} {f k : Nat} {up : Bool} (ha : ah x up f = k) : tvF (nx1 x f up) = k ∧ tvD (nx1 x f up) = dI up ∧ (nx1 x f up).isSome = true := by
  unfold nx1
  rw [if_pos (by omega), ha]
  exact ⟨by show ((k : Int).toNat : Int) = _; omega, rfl, rfl⟩
theorem mkT {w w' : World} {F D F' D' : Int} {b b' : Bool} (h : F = F' ∧ D = D' ∧ b = b') (hb : Below w.heap.size w w') : Mk w (.tuple #[(Value.agg #[.int .i64 (F), .int .i64 (D)]), .bool b]) (.returned (.tuple #[(Value.agg #[.int .i64 (F'), .int .i64 (D')]), .bool b'])) w' := by
  obtain ⟨rfl, rfl, rfl⟩ := h
  exact ⟨rfl, hb⟩

set_option maxHeartbeats 4000000 in
theorem stopToward_u (a1 : Option Addr) (k1 : Nat) (a2 : Option Addr) (k2 : Nat) (a3 : Option Addr) (k3 n : Nat) (x : Cs) (f : Nat) (w : World) (hX : Cal w a1 n a2 n a3 n x) (h8 : n ≤ 8) (hf : f < n) :
    Calls Try.prog 37 #[.agg #[.slice a1 n k1, .slice a2 n k2, .slice a3 n k3], .int .i64 f, .int .i64 (1)] w (Mk w (.tuple #[(Value.agg #[.int .i64 (tvF (nx1 x f true)), .int .i64 (tvD (nx1 x f true))]), .bool (nx1 x f true).isSome])) := by
  have hl3 : x.c.length = n := hX.2.2.1
  have HL3 := Lib.hid hl3
  have X0 := Lib.hid hX
  have hfi : (f : Int) < n := by omega
  have hni : (n : Int) ≤ 8 := by omega
  clear hX hl3
  refine at_base fun wn hwn => ?_
  have T := Lib.hid (show Below w.heap.size w wn from by rw [hwn]; exact Below.refl _ _)
  clear hwn
  obtain ⟨g, hg⟩ : ∃ g, Array.size (World.heap wn) = g := ⟨_, rfl⟩
  have HGg := Lib.hid hg
  have hTg : w.heap.size ≤ g := by rw [← hg]; exact T.out.size
  have Tn := Lib.hid (show Below w.heap.size w ((wn.alloc (.cells #[.slice a1 n k1, .slice a2 n k2, .slice a3 n k3] 25)).alloc (.cells #[.int .i64 (0), .int .i64 (0)] 27)) from (Below.al (Below.al T.out (.cells #[.slice a1 n k1, .slice a2 n k2, .slice a3 n k3] 25)) (.cells #[.int .i64 (0), .int .i64 (0)] 27)))
  have CB := Lib.hid (show Bx ((wn.alloc (.cells #[.slice a1 n k1, .slice a2 n k2, .slice a3 n k3] 25)).alloc (.cells #[.int .i64 (0), .int .i64 (0)] 27)) g (.slice a1 n k1) (.slice a2 n k2) (.slice a3 n k3) from by have h9 := (Bx.al (Bx.new wn (.slice a1 n k1) (.slice a2 n k2) (.slice a3 n k3) 25) (.cells #[.int .i64 (0), .int .i64 (0)] 27)); simp only [World.size_alloc, hg, Nat.add_assoc, Nat.reduceAdd] at h9; exact h9)
  have RB := Lib.hid (show Box ((wn.alloc (.cells #[.slice a1 n k1, .slice a2 n k2, .slice a3 n k3] 25)).alloc (.cells #[.int .i64 (0), .int .i64 (0)] 27)) (g + 1) (0) (0) from by have h9 := (Box.new (wn.alloc (.cells #[.slice a1 n k1, .slice a2 n k2, .slice a3 n k3] 25)) (0) (0) 27); simp only [World.size_alloc, hg, Nat.add_assoc, Nat.reduceAdd] at h9; exact h9)
  have HZg := Lib.hid (show (((wn.alloc (.cells #[.slice a1 n k1, .slice a2 n k2, .slice a3 n k3] 25)).alloc (.cells #[.int .i64 (0), .int .i64 (0)] 27))).heap.size = g + 2 from by simp only [World.size_alloc, hg, Nat.add_assoc, Nat.reduceAdd])
  clear hg
  clear T
  have T := Tn
  clear Tn
  go_enter Try.func37, Try.ntmps37
  obtain ⟨⟨c0, c1, c2⟩, -⟩ := CB.out
  go_wp2_with fail
  rw [HGg.out]
  refine Calls.mono (rowsOf_c a1 n k1 a2 n k2 a3 n k3 x _ (Cal.below X0.out T.out) h8 h8 h8) ?_
  intro e wn hh
  obtain ⟨he, hb⟩ := (by first | exact hh | exact Ro.mk hh | exact St.mk hh | exact LawOk.mk' hh : Mk _ _ e wn)
  subst he
  have Tn : Hid (Below w.heap.size w wn) := below_next T.out hb
  have CBn : Hid _ := Bx.below CB.out hb
  have RBn : Hid _ := Box.below RB.out hb
  clear hb hh c0 c1 c2
  clear T CB RB
  have T := Tn
  have CB := CBn
  have RB := RBn
  clear Tn CBn RBn
  have hltCBG := Bx.lt CB.out
  have hltRBG := Box.lt RB.out
  have hWG := T.out.size
  obtain ⟨G, hG⟩ : ∃ G, Array.size (World.heap wn) = G := ⟨_, rfl⟩
  have HG : Hid _ := hG
  rw [hG] at hWG hltCBG hltRBG
  have R0 : Hid (Rw (wn.alloc (.cells #[.bool false, .bool false, .bool false, .bool false, .bool false, .bool false, .bool false, .bool false, .bool false, .bool false, .bool false, .bool false, .bool false, .bool false, .bool false, .bool false, .bool false, .bool false, .bool false, .bool false, .bool false, .bool false, .bool false, .bool false] 60)) G 60 24 (fun _ => false)) := by rw [← hG]; exact Rw.new24 wn
  clear hG
  have Tn : Hid (Below w.heap.size w _) := Below.al T.out (.cells #[.bool false, .bool false, .bool false, .bool false, .bool false, .bool false, .bool false, .bool false, .bool false, .bool false, .bool false, .bool false, .bool false, .bool false, .bool false, .bool false, .bool false, .bool false, .bool false, .bool false, .bool false, .bool false, .bool false, .bool false] 60)
  have CBn : Hid _ := Bx.below CB.out ((Below.refl _ _).alloc (Nat.le_refl _) (.cells #[.bool false, .bool false, .bool false, .bool false, .bool false, .bool false, .bool false, .bool false, .bool false, .bool false, .bool false, .bool false, .bool false, .bool false, .bool false, .bool false, .bool false, .bool false, .bool false, .bool false, .bool false, .bool false, .bool false, .bool false] 60))
  have RBn : Hid _ := Box.below RB.out ((Below.refl _ _).alloc (Nat.le_refl _) (.cells #[.bool false, .bool false, .bool false, .bool false, .bool false, .bool false, .bool false, .bool false, .bool false, .bool false, .bool false, .bool false, .bool false, .bool false, .bool false, .bool false, .bool false, .bool false, .bool false, .bool false, .bool false, .bool false, .bool false, .bool false] 60))
  clear T CB RB
  have T := Tn
  have CB := CBn
  have RB := RBn
  clear Tn CBn RBn
  have F5 := Lib.hid (show (wn.alloc (.cells #[.bool false, .bool false, .bool false, .bool false, .bool false, .bool false, .bool false, .bool false, .bool false, .bool false, .bool false, .bool false, .bool false, .bool false, .bool false, .bool false, .bool false, .bool false, .bool false, .bool false, .bool false, .bool false, .bool false, .bool false] 60)).rowIs G 60 24 (fun i => .bool ((fun _ => false) i)) from R0.out)
  have hGe := HG.out
  go_wp2_with (with_reducible refine wpList_store_arr F5.out rfl rfl ?_)
  intro w1 hr ho

  have R := Lib.hid (show Rw w1 G 60 24 (rw3 x) from hr)
  have CBn := Lib.hid (Bx.out CB.out ho (.inl (by omega)))
  have RBn := Lib.hid (Box.out RB.out ho (.inl (by omega)))
  have Tn := Lib.hid (Out.below T.out ho (by omega))
  clear hr ho F5 R0 CB RB T hGe HG
  have CB := CBn
  have RB := RBn
  have T := Tn
  clear CBn RBn Tn
  obtain ⟨wn, hwq⟩ : ∃ w0 : World, w0 = w1 := ⟨_, rfl⟩
  subst hwq
  go_wp2_with fail
  refine wp_region_inv (fun ln vs wx => RT wn G (1) (-1) (0) (1) 0 8 (bn x.u) (bn x.d) ln vs wx) [16, 17, 18, 19, 20, 21, 22, 23, 24, 9, 10]
    (by kernel_rfl) (by kernel_rfl) (by kernel_rfl) (by kernel_rfl) ?h0 ?hobs ?_
  case h0 => exact { bel := Below.dw (Below.refl _ _), u2 := rfl, u8 := rfl, ap := fun h => (by cases h), v16 := fun h => (by cases h), v17 := fun h => (by cases h), v18 := fun h => (by cases h), v19 := fun h => (by cases h), v20 := fun h => (by cases h), v21 := fun h => (by cases h), v22 := fun h => (by cases h), v23 := fun h => (by cases h), v24 := fun h => (by cases h), r9 := fun h => (by cases h), r10 := fun h => (by cases h), s11 := fun h => (by cases h), s12 := fun h => (by cases h) }
  case hobs =>
    refine ⟨?_, ?_, ?_, ?_, ?_, ?_, ?_, ?_, ?_, ?_, ?_, ?_, ?_, trivial⟩
    · intro ln vs wx hn ha h
      have HH := Lib.hid h
      clear h ha
      go_simp
      have h := HH.out
      exact { bel := h.bel, u2 := h.u2, u8 := h.u8, v16 := fun _ => h.u2, v17 := h.v17, v18 := h.v18, v19 := h.v19, v20 := h.v20, v21 := h.v21, v22 := h.v22, v23 := h.v23, v24 := h.v24, r9 := h.r9, r10 := h.r10, ap := h.ap, s11 := h.s11, s12 := h.s12 }
    · intro ln vs wx hn ha h
      have q0 : ln 0 = true := ha ⟨0, Ground.data⟩ (by simp) rfl
      have wv16 := h.v16 q0
      have HH := Lib.hid h
      clear h ha
      go_simp
      simp only [evOf_tmp, wv16]
      have h := HH.out
      exact (kindToGo_u wx).mono fun e w' ⟨he, hw⟩ => ⟨_, he, (by subst hw; exact { bel := h.bel, u2 := h.u2, u8 := h.u8, v16 := h.v16, v17 := fun _ => rfl, v18 := h.v18, v19 := h.v19, v20 := h.v20, v21 := h.v21, v22 := h.v22, v23 := h.v23, v24 := h.v24, r9 := h.r9, r10 := h.r10, ap := h.ap, s11 := h.s11, s12 := h.s12 })⟩
    · intro ln vs wx hn ha h
      have q1 : ln 1 = true := ha ⟨1, Ground.data⟩ (by simp) rfl
      have w1 := h.v17 q1
      have w8 := h.u8
      have HH := Lib.hid h
      clear h ha
      go_simp
      simp only [evOf_tmp, w1, w8]
      go_simp
      have h := HH.out
      exact { bel := h.bel, u2 := h.u2, u8 := h.u8, v16 := h.v16, v17 := h.v17, v18 := fun _ => rfl, v19 := h.v19, v20 := h.v20, v21 := h.v21, v22 := h.v22, v23 := h.v23, v24 := h.v24, r9 := h.r9, r10 := h.r10, ap := h.ap, s11 := h.s11, s12 := h.s12 }
    · intro ln vs wx hn ha h
      have q2 : ln 2 = true := ha ⟨2, Ground.data⟩ (by simp) rfl
      have wv18 := h.v18 q2
      have R9 := Rw.below R.out h.bel
      rw [exec_load8 (o := _) (g := (bn x.u)) (.tmp 18) rfl wv18 R9 (by omega) (fun i hi => by rw [Nat.zero_add]; unfold rw3; rw [if_pos hi])]
      exact { bel := h.bel, u2 := h.u2, u8 := h.u8, v16 := h.v16, v17 := h.v17, v18 := h.v18, v19 := fun _ => rfl, v20 := h.v20, v21 := h.v21, v22 := h.v22, v23 := h.v23, v24 := h.v24, r9 := h.r9, r10 := h.r10, ap := h.ap, s11 := h.s11, s12 := h.s12 }
    · intro ln vs wx hn ha h
      have HH := Lib.hid h
      clear h ha
      go_simp
      have h := HH.out
      exact { bel := h.bel, u2 := h.u2, u8 := h.u8, v16 := h.v16, v17 := h.v17, v18 := h.v18, v19 := h.v19, v20 := fun _ => h.u2, v21 := h.v21, v22 := h.v22, v23 := h.v23, v24 := h.v24, r9 := h.r9, r10 := h.r10, ap := h.ap, s11 := h.s11, s12 := h.s12 }
    · intro ln vs wx hn ha h
      have q4 : ln 4 = true := ha ⟨4, Ground.data⟩ (by simp) rfl
      have w1 := h.v20 q4
      have HH := Lib.hid h
      clear h ha
      go_simp
      simp only [evOf_tmp, w1]
      go_simp
      have h := HH.out
      exact { bel := h.bel, u2 := h.u2, u8 := h.u8, v16 := h.v16, v17 := h.v17, v18 := h.v18, v19 := h.v19, v20 := h.v20, v21 := fun _ => rfl, v22 := h.v22, v23 := h.v23, v24 := h.v24, r9 := h.r9, r10 := h.r10, ap := h.ap, s11 := h.s11, s12 := h.s12 }
    · intro ln vs wx hn ha h
      have q5 : ln 5 = true := ha ⟨5, Ground.data⟩ (by simp) rfl
      have wv21 := h.v21 q5
      have HH := Lib.hid h
      clear h ha
      go_simp
      simp only [evOf_tmp, wv21]
      have h := HH.out
      exact (kindToGo_d wx).mono fun e w' ⟨he, hw⟩ => ⟨_, he, (by subst hw; exact { bel := h.bel, u2 := h.u2, u8 := h.u8, v16 := h.v16, v17 := h.v17, v18 := h.v18, v19 := h.v19, v20 := h.v20, v21 := h.v21, v22 := fun _ => rfl, v23 := h.v23, v24 := h.v24, r9 := h.r9, r10 := h.r10, ap := h.ap, s11 := h.s11, s12 := h.s12 })⟩
    · intro ln vs wx hn ha h
      have q6 : ln 6 = true := ha ⟨6, Ground.data⟩ (by simp) rfl
      have w1 := h.v22 q6
      have w8 := h.u8
      have HH := Lib.hid h
      clear h ha
      go_simp
      simp only [evOf_tmp, w1, w8]
      go_simp
      have h := HH.out
      exact { bel := h.bel, u2 := h.u2, u8 := h.u8, v16 := h.v16, v17 := h.v17, v18 := h.v18, v19 := h.v19, v20 := h.v20, v21 := h.v21, v22 := h.v22, v23 := fun _ => rfl, v24 := h.v24, r9 := h.r9, r10 := h.r10, ap := h.ap, s11 := h.s11, s12 := h.s12 }
    · intro ln vs wx hn ha h
      have q7 : ln 7 = true := ha ⟨7, Ground.data⟩ (by simp) rfl
      have wv23 := h.v23 q7
      have R9 := Rw.below R.out h.bel
      rw [exec_load8 (o := _) (g := (bn x.d)) (.tmp 23) rfl wv23 R9 (by omega) (fun i hi => by unfold rw3; rw [if_neg (by omega), if_pos (by omega), Nat.add_sub_cancel_left])]
      exact { bel := h.bel, u2 := h.u2, u8 := h.u8, v16 := h.v16, v17 := h.v17, v18 := h.v18, v19 := h.v19, v20 := h.v20, v21 := h.v21, v22 := h.v22, v23 := h.v23, v24 := fun _ => rfl, r9 := h.r9, r10 := h.r10, ap := h.ap, s11 := h.s11, s12 := h.s12 }
    · intro ln vs wx hn ha h
      have n11 : ln 11 = false := by
        cases e : ln 11
        · rfl
        · have := h.s11 e; rw [hn] at this; cases this
      have HH := Lib.hid h
      clear h ha
      go_simp
      have h := HH.out
      exact { bel := Below.al h.bel _, u2 := h.u2, u8 := h.u8, v16 := h.v16, v17 := h.v17, v18 := h.v18, v19 := h.v19, v20 := h.v20, v21 := h.v21, v22 := h.v22, v23 := h.v23, v24 := h.v24, r9 := fun _ => ⟨wx.heap.size, rfl, h.bel.size, (ar8new wx).congr fun i hi => (by show _ = Value.bool (ln 11 && _); rw [n11]; rfl)⟩, r10 := fun hh => (let ⟨H, e, g1, g2⟩ := h.r10 hh; ⟨H, e, g1, World.rowIs.alloc g2 _⟩), ap := fun _ hh => (let ⟨H, e, g1, g2⟩ := h.r10 hh; by intro e2; have e3 : Value.pointer (some ⟨wx.heap.size, 0, none⟩) = .pointer (some ⟨H, 0, none⟩) := e2.trans e; have := World.rowIs.lt g2; simp only [Value.pointer.injEq, Option.some.injEq, Addr.mk.injEq, and_true] at e3; omega), s11 := fun _ => rfl, s12 := h.s12 }
    · intro ln vs wx hn ha h
      have n12 : ln 12 = false := by
        cases e : ln 12
        · rfl
        · have := h.s12 e; rw [hn] at this; cases this
      have HH := Lib.hid h
      clear h ha
      go_simp
      have h := HH.out
      exact { bel := Below.al h.bel _, u2 := h.u2, u8 := h.u8, v16 := h.v16, v17 := h.v17, v18 := h.v18, v19 := h.v19, v20 := h.v20, v21 := h.v21, v22 := h.v22, v23 := h.v23, v24 := h.v24, r9 := fun hh => (let ⟨H, e, g1, g2⟩ := h.r9 hh; ⟨H, e, g1, World.rowIs.alloc g2 _⟩), r10 := fun _ => ⟨wx.heap.size, rfl, h.bel.size, (ar8new wx).congr fun i hi => (by show _ = Value.bool (ln 12 && _); rw [n12]; rfl)⟩, ap := fun hh _ => (let ⟨H, e, g1, g2⟩ := h.r9 hh; by intro e2; have e3 : Value.pointer (some ⟨H, 0, none⟩) = .pointer (some ⟨wx.heap.size, 0, none⟩) := e.symm.trans e2; have := World.rowIs.lt g2; simp only [Value.pointer.injEq, Option.some.injEq, Addr.mk.injEq, and_true] at e3; omega), s11 := h.s11, s12 := fun _ => rfl }
    · intro ln vs wx hn ha h
      have q9 : ln 9 = true := ha ⟨9, Ground.data⟩ (by simp) rfl
      have qs : ln 3 = true := ha ⟨3, Ground.data⟩ (by simp) rfl
      obtain ⟨G1, e1, e2, e3⟩ := h.r9 q9
      refine stepI_store8 (.tmp 9) (.tmp 19) rfl e1 (h.v19 qs) e3 (fun w' r1 r2 => ?_)
      exact { bel := Out.below h.bel r2 e2, u2 := h.u2, u8 := h.u8, v16 := h.v16, v17 := h.v17, v18 := h.v18, v19 := h.v19, v20 := h.v20, v21 := h.v21, v22 := h.v22, v23 := h.v23, v24 := h.v24, r9 := fun _ => ⟨G1, e1, e2, r1⟩, r10 := fun hh => (let ⟨H, e0, g1, g2⟩ := h.r10 hh; ⟨H, e0, g1, World.rowIs.of_block g2 (r2.block H (World.rowIs.lt g2) (by have hne : G1 ≠ H := (by intro e; exact h.ap q9 hh (by rw [e1, e0, e])); omega))⟩), ap := h.ap, s11 := fun _ => q9, s12 := h.s12 }
    · intro ln vs wx hn ha h
      have q10 : ln 10 = true := ha ⟨10, Ground.data⟩ (by simp) rfl
      have qs : ln 8 = true := ha ⟨8, Ground.data⟩ (by simp) rfl
      obtain ⟨G1, e1, e2, e3⟩ := h.r10 q10
      refine stepI_store8 (.tmp 10) (.tmp 24) rfl e1 (h.v24 qs) e3 (fun w' r1 r2 => ?_)
      exact { bel := Out.below h.bel r2 e2, u2 := h.u2, u8 := h.u8, v16 := h.v16, v17 := h.v17, v18 := h.v18, v19 := h.v19, v20 := h.v20, v21 := h.v21, v22 := h.v22, v23 := h.v23, v24 := h.v24, r9 := fun hh => (let ⟨H, e0, g1, g2⟩ := h.r9 hh; ⟨H, e0, g1, World.rowIs.of_block g2 (r2.block H (World.rowIs.lt g2) (by have hne : G1 ≠ H := (by intro e; exact h.ap hh q10 (by rw [e1, e0, e])); omega))⟩), r10 := fun _ => ⟨G1, e1, e2, r1⟩, ap := h.ap, s11 := h.s11, s12 := fun _ => q10 }
  intro vs wq hI
  obtain ⟨H1, e1, g1, p1⟩ := hI.r9 rfl
  obtain ⟨H2, e2, g2, p2⟩ := hI.r10 rfl
  have hne : H1 ≠ H2 := fun e => hI.ap rfl rfl (by rw [e1, e2, e])
  simp (decide := true) only [over, Nat.reduceAdd, if_true, if_false]
  rw [e1, e2]
  have hb := hI.bel
  have hR := Rw.lt R.out
  have O1 := Lib.hid (show Rw wq H1 58 8 (bn x.u) from p1)
  have O2 := Lib.hid (show Rw wq H2 58 8 (bn x.d) from p2)
  clear hI e1 e2 p1 p2
  have Tn := Lib.hid (below_next T.out hb)
  have CBn := Lib.hid (Bx.below CB.out hb)
  have RBn := Lib.hid (Box.below RB.out hb)
  have Rn := Lib.hid (Rw.below R.out hb)
  clear hb
  clear T CB RB R
  have T := Tn
  have CB := CBn
  have RB := RBn
  have R := Rn
  clear Tn CBn RBn Rn
  obtain ⟨wn, hwq⟩ : ∃ w0, w0 = wq := ⟨_, rfl⟩
  subst hwq
  have hltCBHT := Bx.lt CB.out
  have hltRBHT := Box.lt RB.out
  have hltRHT := Rw.lt R.out
  have hltO1HT := Rw.lt O1.out
  have hltO2HT := Rw.lt O2.out
  have hWHT := T.out.size
  obtain ⟨HT, hHT⟩ : ∃ HT, Array.size (World.heap wn) = HT := ⟨_, rfl⟩
  have HHT : Hid _ := hHT
  rw [hHT] at hWHT hltCBHT hltRBHT hltRHT hltO1HT hltO2HT
  have TB : Hid (Box (wn.alloc (.cells #[.int .i64 0, .int .i64 0] 27)) HT 0 0) := by rw [← hHT]; exact Box.new _ _ _ _
  clear hHT
  have Tn : Hid (Below w.heap.size w _) := Below.al T.out (.cells #[.int .i64 0, .int .i64 0] 27)
  have CBn : Hid _ := Bx.below CB.out ((Below.refl _ _).alloc (Nat.le_refl _) (.cells #[.int .i64 0, .int .i64 0] 27))
  have RBn : Hid _ := Box.below RB.out ((Below.refl _ _).alloc (Nat.le_refl _) (.cells #[.int .i64 0, .int .i64 0] 27))
  have Rn : Hid _ := Rw.below R.out ((Below.refl _ _).alloc (Nat.le_refl _) (.cells #[.int .i64 0, .int .i64 0] 27))
  have O1n : Hid _ := Rw.below O1.out ((Below.refl _ _).alloc (Nat.le_refl _) (.cells #[.int .i64 0, .int .i64 0] 27))
  have O2n : Hid _ := Rw.below O2.out ((Below.refl _ _).alloc (Nat.le_refl _) (.cells #[.int .i64 0, .int .i64 0] 27))
  clear T CB RB R O1 O2
  have T := Tn
  have CB := CBn
  have RB := RBn
  have R := Rn
  have O1 := O1n
  have O2 := O2n
  clear Tn CBn RBn Rn O1n O2n
  go_wp2_with fail
  rw [HHT.out]
  go_loopw [12, 13] (fun u v wr => ∃ (k : Nat) (A F D : Int) (b : Bool), f ≤ k ∧ k ≤ n ∧ u = .bool b ∧ v = .int .i64 k ∧ (fu (pc x true) k (n - k) = ah x true f ∧ lu (qc x true) k (n - k) A = la x true f ∧ TV A true F D b) ∧ Below w.heap.size w wr ∧ Bx wr g (.slice a1 n k1) (.slice a2 n k2) (.slice a3 n k3) ∧ Box wr (g + 1) 0 0 ∧ Rw wr G 60 24 (rw3 x) ∧ Rw wr H1 58 8 (bn x.u) ∧ Rw wr H2 58 8 (bn x.d) ∧ Box wr HT F D) (fun u v _ => n - (intOf v).toNat)
  case atStart => exact ⟨f, -1, 0, 0, false, Nat.le_refl _, by omega, rfl, rfl, ⟨by rw [← HL3.out]; rfl, by rw [← HL3.out]; rfl, .inl ⟨rfl, rfl, rfl, rfl⟩⟩, T.out, CB.out, RB.out, R.out, O1.out, O2.out, TB.out⟩
  case' round =>
    clear T CB RB R O1 O2 TB
    obtain ⟨k, A, F, D, b, hk1, hk, rfl, rfl, hR, h9T, h9CB, h9RB, h9R, h9O1, h9O2, h9TB⟩ := hrel
    obtain ⟨wn, hwq⟩ : ∃ w0 : World, w0 = wr := ⟨_, rfl⟩
    rw [← hwq] at h9T h9CB h9RB h9R h9O1 h9O2 h9TB ⊢
    clear hwq
    have T := Lib.hid h9T
    have CB := Lib.hid h9CB
    have RB := Lib.hid h9RB
    have R := Lib.hid h9R
    have O1 := Lib.hid h9O1
    have O2 := Lib.hid h9O2
    have TB := Lib.hid h9TB
    clear h9T h9CB h9RB h9R h9O1 h9O2 h9TB
    have HR := Lib.hid hR
    clear hR
    by_cases hlt : k < n
    case neg =>
      obtain rfl : k = n := by omega
      have E := Lib.hid (show tvF (nx1 x f true) = F ∧ tvD (nx1 x f true) = D ∧ (nx1 x f true).isSome = b from by
        obtain ⟨h1, h2, h3⟩ := HR.out
        rw [Nat.sub_self] at h1 h2
        exact tv_end h1.symm (by rw [← h2]; exact h3))
      obtain ⟨⟨d0, d1, d2⟩, -⟩ := CB.out
      obtain ⟨⟨e0, e1⟩, ef0, ef1⟩ := TB.out
      obtain ⟨⟨c0, c1⟩, f0, f1⟩ := RB.out
      go_wp2_with fail
      exact bodyPost_ret (v := .tuple #[(Value.agg #[.int .i64 (F), .int .i64 (D)]), .bool b]) (by simp [results, Try.results37, go_sem, c0, c1]) rfl (mkT E.out (by have HZ := T.out; exact (by repeat (first | exact Below.refl _ _ | refine Below.al ?_ _ | refine Below.dr ?_ _ | refine Below.dw ?_ | refine Below.st ?_ (by first | exact Nat.le_refl _ | exact Nat.le_add_right _ _ | (simp; omega)) _ | (refine below_next ?_ (by assumption))))))
    have hki : (k : Int) < (n : Int) := by omega
    have y3 := Rw.cell R.out (i := 16 + k) (by omega)
    rw [show rw3 x (16 + k) = bn x.c k from by unfold rw3; rw [if_neg (by omega), if_neg (by omega), Nat.add_sub_cancel_left]] at y3
    have y1 := Rw.cell O1.out (i := k) (by omega)
    have y2 := Rw.cell O2.out (i := k) (by omega)
    obtain ⟨⟨d0, d1, d2⟩, -⟩ := CB.out
    cases hp : pc x true k
    case true =>
      have E := Lib.hid (show tvF (nx1 x f true) = k ∧ tvD (nx1 x f true) = 1 ∧ (nx1 x f true).isSome = true from tv_hit (by
        have := HR.out.1
        rw [show n - k = (n - (k + 1)) + 1 by omega] at this
        unfold fu at this
        rw [if_pos hp] at this
        exact this.symm))
      cases hc : bn x.c k
      case true =>
        rw [hc] at y3
        clear hc hp
        obtain ⟨⟨c0, c1⟩, f0, f1⟩ := RB.out
        go_wp2_with fail
        exact bodyPost_ret (v := .tuple #[(Value.agg #[.int .i64 (k), .int .i64 (1)]), .bool true]) (by simp [results, Try.results37, go_sem, c0, c1]) rfl (mkT E.out (by have HZ := T.out; exact (by repeat (first | exact Below.refl _ _ | refine Below.al ?_ _ | refine Below.dr ?_ _ | refine Below.dw ?_ | refine Below.st ?_ (by first | exact Nat.le_refl _ | exact Nat.le_add_right _ _ | (simp; omega)) _ | (refine below_next ?_ (by assumption))))))
      case false =>
        have hr : bn x.u k = true := by
          unfold pc at hp
          rw [hc] at hp
          simpa using hp
        rw [hc] at y3
        rw [hr] at y1
        clear hc hr hp
        obtain ⟨⟨c0, c1⟩, f0, f1⟩ := RB.out
        go_wp2_with fail
        exact bodyPost_ret (v := .tuple #[(Value.agg #[.int .i64 (k), .int .i64 (1)]), .bool true]) (by simp [results, Try.results37, go_sem, c0, c1]) rfl (mkT E.out (by have HZ := T.out; exact (by repeat (first | exact Below.refl _ _ | refine Below.al ?_ _ | refine Below.dr ?_ _ | refine Below.dw ?_ | refine Below.st ?_ (by first | exact Nat.le_refl _ | exact Nat.le_add_right _ _ | (simp; omega)) _ | (refine below_next ?_ (by assumption))))))
    have hcr : bn x.c k = false ∧ bn x.u k = false := by
      unfold pc at hp
      simpa using hp
    rw [hcr.1] at y3
    rw [hcr.2] at y1
    have E := Lib.hid (show fu (pc x true) (k + 1) (n - (k + 1)) = ah x true f ∧ lu (qc x true) (k + 1) (n - (k + 1)) (if qc x true k = true then (k : Int) else A) = la x true f from by
      obtain ⟨h1, h2, -⟩ := HR.out
      rw [show n - k = (n - (k + 1)) + 1 by omega] at h1 h2
      unfold fu at h1
      rw [if_neg (by rw [hp]; simp)] at h1
      exact ⟨h1, h2⟩)
    have HTV := Lib.hid HR.out.2.2
    clear hp hcr HR
    cases hq : bn x.d k
    case false =>
      rw [hq] at y2
      have E2 := Lib.hid (show _ ∧ _ from by have := E.out; rwa [if_neg (by show ¬ (bn x.d k = true); rw [hq]; simp)] at this)
      clear hq E
      go_wp2_with fail
      go_roundw
      case rel => exact ⟨k + 1, A, F, D, b, by omega, by omega, rfl, by go_num, ⟨E2.out.1, E2.out.2, HTV.out⟩, T.out, CB.out, RB.out, R.out, O1.out, O2.out, TB.out⟩
      case measure => first | (simp [intOf]; done) | (simp [intOf]; omega) | omega
    case true =>
      rw [hq] at y2
      have E2 := Lib.hid (show _ ∧ _ from by have := E.out; rwa [if_pos (by show bn x.d k = true; exact hq)] at this)
      clear hq E
      obtain ⟨⟨e0, e1⟩, ef0, ef1⟩ := TB.out
      have ho1 := Out.trans (Out.set (w := wn) (q := HT) (i := 0) (lo := HT) (hi := HT + 1) (.int .i64 (k : Int)) (Nat.le_refl _) (by omega)) (Out.set (w := wn.setCell ⟨HT, 0, none⟩ (.int .i64 (k : Int))) (q := HT) (i := 1) (lo := HT) (hi := HT + 1) (.int .i64 (-1)) (Nat.le_refl _) (by omega))
      have T2 := Lib.hid (Out.below T.out ho1 (by omega))
      have CB2 := Lib.hid (Bx.out CB.out ho1 (.inl (by omega)))
      have RB2 := Lib.hid (Box.out RB.out ho1 (.inl (by omega)))
      have R2 := Lib.hid (Rw.out R.out ho1 (.inl (by omega)))
      have O12 := Lib.hid (Rw.out O1.out ho1 (.inl (by omega)))
      have O22 := Lib.hid (Rw.out O2.out ho1 (.inl (by omega)))
      have TB2 := Lib.hid (Box.pset1 (-1) (Box.pset0 (k : Int) TB.out))
      clear ho1
      go_wp2_with fail
      go_roundw
      case rel => exact ⟨k + 1, (k : Int), (k : Int), -1, true, by omega, by omega, rfl, by go_num, ⟨E2.out.1, E2.out.2, .inr ⟨by omega, rfl, rfl, rfl⟩⟩, T2.out, CB2.out, RB2.out, R2.out, O12.out, O22.out, TB2.out⟩
      case measure => first | (simp [intOf]; done) | (simp [intOf]; omega) | omega
set_option maxHeartbeats 4000000 in
theorem stopToward_d (a1 : Option Addr) (k1 : Nat) (a2 : Option Addr) (k2 : Nat) (a3 : Option Addr) (k3 n : Nat) (x : Cs) (f : Nat) (w : World) (hX : Cal w a1 n a2 n a3 n x) (h8 : n ≤ 8) (hf : f < n) :
    Calls Try.prog 37 #[.agg #[.slice a1 n k1, .slice a2 n k2, .slice a3 n k3], .int .i64 f, .int .i64 (-1)] w (Mk w (.tuple #[(Value.agg #[.int .i64 (tvF (nx1 x f false)), .int .i64 (tvD (nx1 x f false))]), .bool (nx1 x f false).isSome])) := by
  have hl3 : x.c.length = n := hX.2.2.1
  have HL3 := Lib.hid hl3
  have X0 := Lib.hid hX
  have hfi : (f : Int) < n := by omega
  have hni : (n : Int) ≤ 8 := by omega
  clear hX hl3
  refine at_base fun wn hwn => ?_
  have T := Lib.hid (show Below w.heap.size w wn from by rw [hwn]; exact Below.refl _ _)
  clear hwn
  obtain ⟨g, hg⟩ : ∃ g, Array.size (World.heap wn) = g := ⟨_, rfl⟩
  have HGg := Lib.hid hg
  have hTg : w.heap.size ≤ g := by rw [← hg]; exact T.out.size
  have Tn := Lib.hid (show Below w.heap.size w ((wn.alloc (.cells #[.slice a1 n k1, .slice a2 n k2, .slice a3 n k3] 25)).alloc (.cells #[.int .i64 (0), .int .i64 (0)] 27)) from (Below.al (Below.al T.out (.cells #[.slice a1 n k1, .slice a2 n k2, .slice a3 n k3] 25)) (.cells #[.int .i64 (0), .int .i64 (0)] 27)))
  have CB := Lib.hid (show Bx ((wn.alloc (.cells #[.slice a1 n k1, .slice a2 n k2, .slice a3 n k3] 25)).alloc (.cells #[.int .i64 (0), .int .i64 (0)] 27)) g (.slice a1 n k1) (.slice a2 n k2) (.slice a3 n k3) from by have h9 := (Bx.al (Bx.new wn (.slice a1 n k1) (.slice a2 n k2) (.slice a3 n k3) 25) (.cells #[.int .i64 (0), .int .i64 (0)] 27)); simp only [World.size_alloc, hg, Nat.add_assoc, Nat.reduceAdd] at h9; exact h9)
  have RB := Lib.hid (show Box ((wn.alloc (.cells #[.slice a1 n k1, .slice a2 n k2, .slice a3 n k3] 25)).alloc (.cells #[.int .i64 (0), .int .i64 (0)] 27)) (g + 1) (0) (0) from by have h9 := (Box.new (wn.alloc (.cells #[.slice a1 n k1, .slice a2 n k2, .slice a3 n k3] 25)) (0) (0) 27); simp only [World.size_alloc, hg, Nat.add_assoc, Nat.reduceAdd] at h9; exact h9)
  have HZg := Lib.hid (show (((wn.alloc (.cells #[.slice a1 n k1, .slice a2 n k2, .slice a3 n k3] 25)).alloc (.cells #[.int .i64 (0), .int .i64 (0)] 27))).heap.size = g + 2 from by simp only [World.size_alloc, hg, Nat.add_assoc, Nat.reduceAdd])
  clear hg
  clear T
  have T := Tn
  clear Tn
  go_enter Try.func37, Try.ntmps37
  obtain ⟨⟨c0, c1, c2⟩, -⟩ := CB.out
  go_wp2_with fail
  rw [HGg.out]
  refine Calls.mono (rowsOf_c a1 n k1 a2 n k2 a3 n k3 x _ (Cal.below X0.out T.out) h8 h8 h8) ?_
  intro e wn hh
  obtain ⟨he, hb⟩ := (by first | exact hh | exact Ro.mk hh | exact St.mk hh | exact LawOk.mk' hh : Mk _ _ e wn)
  subst he
  have Tn : Hid (Below w.heap.size w wn) := below_next T.out hb
  have CBn : Hid _ := Bx.below CB.out hb
  have RBn : Hid _ := Box.below RB.out hb
  clear hb hh c0 c1 c2
  clear T CB RB
  have T := Tn
  have CB := CBn
  have RB := RBn
  clear Tn CBn RBn
  have hltCBG := Bx.lt CB.out
  have hltRBG := Box.lt RB.out
  have hWG := T.out.size
  obtain ⟨G, hG⟩ : ∃ G, Array.size (World.heap wn) = G := ⟨_, rfl⟩
  have HG : Hid _ := hG
  rw [hG] at hWG hltCBG hltRBG
  have R0 : Hid (Rw (wn.alloc (.cells #[.bool false, .bool false, .bool false, .bool false, .bool false, .bool false, .bool false, .bool false, .bool false, .bool false, .bool false, .bool false, .bool false, .bool false, .bool false, .bool false, .bool false, .bool false, .bool false, .bool false, .bool false, .bool false, .bool false, .bool false] 60)) G 60 24 (fun _ => false)) := by rw [← hG]; exact Rw.new24 wn
  clear hG
  have Tn : Hid (Below w.heap.size w _) := Below.al T.out (.cells #[.bool false, .bool false, .bool false, .bool false, .bool false, .bool false, .bool false, .bool false, .bool false, .bool false, .bool false, .bool false, .bool false, .bool false, .bool false, .bool false, .bool false, .bool false, .bool false, .bool false, .bool false, .bool false, .bool false, .bool false] 60)
  have CBn : Hid _ := Bx.below CB.out ((Below.refl _ _).alloc (Nat.le_refl _) (.cells #[.bool false, .bool false, .bool false, .bool false, .bool false, .bool false, .bool false, .bool false, .bool false, .bool false, .bool false, .bool false, .bool false, .bool false, .bool false, .bool false, .bool false, .bool false, .bool false, .bool false, .bool false, .bool false, .bool false, .bool false] 60))
  have RBn : Hid _ := Box.below RB.out ((Below.refl _ _).alloc (Nat.le_refl _) (.cells #[.bool false, .bool false, .bool false, .bool false, .bool false, .bool false, .bool false, .bool false, .bool false, .bool false, .bool false, .bool false, .bool false, .bool false, .bool false, .bool false, .bool false, .bool false, .bool false, .bool false, .bool false, .bool false, .bool false, .bool false] 60))
  clear T CB RB
  have T := Tn
  have CB := CBn
  have RB := RBn
  clear Tn CBn RBn
  have F5 := Lib.hid (show (wn.alloc (.cells #[.bool false, .bool false, .bool false, .bool false, .bool false, .bool false, .bool false, .bool false, .bool false, .bool false, .bool false, .bool false, .bool false, .bool false, .bool false, .bool false, .bool false, .bool false, .bool false, .bool false, .bool false, .bool false, .bool false, .bool false] 60)).rowIs G 60 24 (fun i => .bool ((fun _ => false) i)) from R0.out)
  have hGe := HG.out
  go_wp2_with (with_reducible refine wpList_store_arr F5.out rfl rfl ?_)
  intro w1 hr ho

  have R := Lib.hid (show Rw w1 G 60 24 (rw3 x) from hr)
  have CBn := Lib.hid (Bx.out CB.out ho (.inl (by omega)))
  have RBn := Lib.hid (Box.out RB.out ho (.inl (by omega)))
  have Tn := Lib.hid (Out.below T.out ho (by omega))
  clear hr ho F5 R0 CB RB T hGe HG
  have CB := CBn
  have RB := RBn
  have T := Tn
  clear CBn RBn Tn
  obtain ⟨wn, hwq⟩ : ∃ w0 : World, w0 = w1 := ⟨_, rfl⟩
  subst hwq
  go_wp2_with fail
  refine wp_region_inv (fun ln vs wx => RT wn G (-1) (1) (1) (0) 8 0 (bn x.d) (bn x.u) ln vs wx) [16, 17, 18, 19, 20, 21, 22, 23, 24, 9, 10]
    (by kernel_rfl) (by kernel_rfl) (by kernel_rfl) (by kernel_rfl) ?h0 ?hobs ?_
  case h0 => exact { bel := Below.dw (Below.refl _ _), u2 := rfl, u8 := rfl, ap := fun h => (by cases h), v16 := fun h => (by cases h), v17 := fun h => (by cases h), v18 := fun h => (by cases h), v19 := fun h => (by cases h), v20 := fun h => (by cases h), v21 := fun h => (by cases h), v22 := fun h => (by cases h), v23 := fun h => (by cases h), v24 := fun h => (by cases h), r9 := fun h => (by cases h), r10 := fun h => (by cases h), s11 := fun h => (by cases h), s12 := fun h => (by cases h) }
  case hobs =>
    refine ⟨?_, ?_, ?_, ?_, ?_, ?_, ?_, ?_, ?_, ?_, ?_, ?_, ?_, trivial⟩
    · intro ln vs wx hn ha h
      have HH := Lib.hid h
      clear h ha
      go_simp
      have h := HH.out
      exact { bel := h.bel, u2 := h.u2, u8 := h.u8, v16 := fun _ => h.u2, v17 := h.v17, v18 := h.v18, v19 := h.v19, v20 := h.v20, v21 := h.v21, v22 := h.v22, v23 := h.v23, v24 := h.v24, r9 := h.r9, r10 := h.r10, ap := h.ap, s11 := h.s11, s12 := h.s12 }
    · intro ln vs wx hn ha h
      have q0 : ln 0 = true := ha ⟨0, Ground.data⟩ (by simp) rfl
      have wv16 := h.v16 q0
      have HH := Lib.hid h
      clear h ha
      go_simp
      simp only [evOf_tmp, wv16]
      have h := HH.out
      exact (kindToGo_d wx).mono fun e w' ⟨he, hw⟩ => ⟨_, he, (by subst hw; exact { bel := h.bel, u2 := h.u2, u8 := h.u8, v16 := h.v16, v17 := fun _ => rfl, v18 := h.v18, v19 := h.v19, v20 := h.v20, v21 := h.v21, v22 := h.v22, v23 := h.v23, v24 := h.v24, r9 := h.r9, r10 := h.r10, ap := h.ap, s11 := h.s11, s12 := h.s12 })⟩
    · intro ln vs wx hn ha h
      have q1 : ln 1 = true := ha ⟨1, Ground.data⟩ (by simp) rfl
      have w1 := h.v17 q1
      have w8 := h.u8
      have HH := Lib.hid h
      clear h ha
      go_simp
      simp only [evOf_tmp, w1, w8]
      go_simp
      have h := HH.out
      exact { bel := h.bel, u2 := h.u2, u8 := h.u8, v16 := h.v16, v17 := h.v17, v18 := fun _ => rfl, v19 := h.v19, v20 := h.v20, v21 := h.v21, v22 := h.v22, v23 := h.v23, v24 := h.v24, r9 := h.r9, r10 := h.r10, ap := h.ap, s11 := h.s11, s12 := h.s12 }
    · intro ln vs wx hn ha h
      have q2 : ln 2 = true := ha ⟨2, Ground.data⟩ (by simp) rfl
      have wv18 := h.v18 q2
      have R9 := Rw.below R.out h.bel
      rw [exec_load8 (o := _) (g := (bn x.d)) (.tmp 18) rfl wv18 R9 (by omega) (fun i hi => by unfold rw3; rw [if_neg (by omega), if_pos (by omega), Nat.add_sub_cancel_left])]
      exact { bel := h.bel, u2 := h.u2, u8 := h.u8, v16 := h.v16, v17 := h.v17, v18 := h.v18, v19 := fun _ => rfl, v20 := h.v20, v21 := h.v21, v22 := h.v22, v23 := h.v23, v24 := h.v24, r9 := h.r9, r10 := h.r10, ap := h.ap, s11 := h.s11, s12 := h.s12 }
    · intro ln vs wx hn ha h
      have HH := Lib.hid h
      clear h ha
      go_simp
      have h := HH.out
      exact { bel := h.bel, u2 := h.u2, u8 := h.u8, v16 := h.v16, v17 := h.v17, v18 := h.v18, v19 := h.v19, v20 := fun _ => h.u2, v21 := h.v21, v22 := h.v22, v23 := h.v23, v24 := h.v24, r9 := h.r9, r10 := h.r10, ap := h.ap, s11 := h.s11, s12 := h.s12 }
    · intro ln vs wx hn ha h
      have q4 : ln 4 = true := ha ⟨4, Ground.data⟩ (by simp) rfl
      have w1 := h.v20 q4
      have HH := Lib.hid h
      clear h ha
      go_simp
      simp only [evOf_tmp, w1]
      go_simp
      have h := HH.out
      exact { bel := h.bel, u2 := h.u2, u8 := h.u8, v16 := h.v16, v17 := h.v17, v18 := h.v18, v19 := h.v19, v20 := h.v20, v21 := fun _ => rfl, v22 := h.v22, v23 := h.v23, v24 := h.v24, r9 := h.r9, r10 := h.r10, ap := h.ap, s11 := h.s11, s12 := h.s12 }
    · intro ln vs wx hn ha h
      have q5 : ln 5 = true := ha ⟨5, Ground.data⟩ (by simp) rfl
      have wv21 := h.v21 q5
      have HH := Lib.hid h
      clear h ha
      go_simp
      simp only [evOf_tmp, wv21]
      have h := HH.out
      exact (kindToGo_u wx).mono fun e w' ⟨he, hw⟩ => ⟨_, he, (by subst hw; exact { bel := h.bel, u2 := h.u2, u8 := h.u8, v16 := h.v16, v17 := h.v17, v18 := h.v18, v19 := h.v19, v20 := h.v20, v21 := h.v21, v22 := fun _ => rfl, v23 := h.v23, v24 := h.v24, r9 := h.r9, r10 := h.r10, ap := h.ap, s11 := h.s11, s12 := h.s12 })⟩
    · intro ln vs wx hn ha h
      have q6 : ln 6 = true := ha ⟨6, Ground.data⟩ (by simp) rfl
      have w1 := h.v22 q6
      have w8 := h.u8
      have HH := Lib.hid h
      clear h ha
      go_simp
      simp only [evOf_tmp, w1, w8]
      go_simp
      have h := HH.out
      exact { bel := h.bel, u2 := h.u2, u8 := h.u8, v16 := h.v16, v17 := h.v17, v18 := h.v18, v19 := h.v19, v20 := h.v20, v21 := h.v21, v22 := h.v22, v23 := fun _ => rfl, v24 := h.v24, r9 := h.r9, r10 := h.r10, ap := h.ap, s11 := h.s11, s12 := h.s12 }
    · intro ln vs wx hn ha h
      have q7 : ln 7 = true := ha ⟨7, Ground.data⟩ (by simp) rfl
      have wv23 := h.v23 q7
      have R9 := Rw.below R.out h.bel
      rw [exec_load8 (o := _) (g := (bn x.u)) (.tmp 23) rfl wv23 R9 (by omega) (fun i hi => by rw [Nat.zero_add]; unfold rw3; rw [if_pos hi])]
      exact { bel := h.bel, u2 := h.u2, u8 := h.u8, v16 := h.v16, v17 := h.v17, v18 := h.v18, v19 := h.v19, v20 := h.v20, v21 := h.v21, v22 := h.v22, v23 := h.v23, v24 := fun _ => rfl, r9 := h.r9, r10 := h.r10, ap := h.ap, s11 := h.s11, s12 := h.s12 }
    · intro ln vs wx hn ha h
      have n11 : ln 11 = false := by
        cases e : ln 11
        · rfl
        · have := h.s11 e; rw [hn] at this; cases this
      have HH := Lib.hid h
      clear h ha
      go_simp
      have h := HH.out
      exact { bel := Below.al h.bel _, u2 := h.u2, u8 := h.u8, v16 := h.v16, v17 := h.v17, v18 := h.v18, v19 := h.v19, v20 := h.v20, v21 := h.v21, v22 := h.v22, v23 := h.v23, v24 := h.v24, r9 := fun _ => ⟨wx.heap.size, rfl, h.bel.size, (ar8new wx).congr fun i hi => (by show _ = Value.bool (ln 11 && _); rw [n11]; rfl)⟩, r10 := fun hh => (let ⟨H, e, g1, g2⟩ := h.r10 hh; ⟨H, e, g1, World.rowIs.alloc g2 _⟩), ap := fun _ hh => (let ⟨H, e, g1, g2⟩ := h.r10 hh; by intro e2; have e3 : Value.pointer (some ⟨wx.heap.size, 0, none⟩) = .pointer (some ⟨H, 0, none⟩) := e2.trans e; have := World.rowIs.lt g2; simp only [Value.pointer.injEq, Option.some.injEq, Addr.mk.injEq, and_true] at e3; omega), s11 := fun _ => rfl, s12 := h.s12 }
    · intro ln vs wx hn ha h
      have n12 : ln 12 = false := by
        cases e : ln 12
        · rfl
        · have := h.s12 e; rw [hn] at this; cases this
      have HH := Lib.hid h
      clear h ha
      go_simp
      have h := HH.out
      exact { bel := Below.al h.bel _, u2 := h.u2, u8 := h.u8, v16 := h.v16, v17 := h.v17, v18 := h.v18, v19 := h.v19, v20 := h.v20, v21 := h.v21, v22 := h.v22, v23 := h.v23, v24 := h.v24, r9 := fun hh => (let ⟨H, e, g1, g2⟩ := h.r9 hh; ⟨H, e, g1, World.rowIs.alloc g2 _⟩), r10 := fun _ => ⟨wx.heap.size, rfl, h.bel.size, (ar8new wx).congr fun i hi => (by show _ = Value.bool (ln 12 && _); rw [n12]; rfl)⟩, ap := fun hh _ => (let ⟨H, e, g1, g2⟩ := h.r9 hh; by intro e2; have e3 : Value.pointer (some ⟨H, 0, none⟩) = .pointer (some ⟨wx.heap.size, 0, none⟩) := e.symm.trans e2; have := World.rowIs.lt g2; simp only [Value.pointer.injEq, Option.some.injEq, Addr.mk.injEq, and_true] at e3; omega), s11 := h.s11, s12 := fun _ => rfl }
    · intro ln vs wx hn ha h
      have q9 : ln 9 = true := ha ⟨9, Ground.data⟩ (by simp) rfl
      have qs : ln 3 = true := ha ⟨3, Ground.data⟩ (by simp) rfl
      obtain ⟨G1, e1, e2, e3⟩ := h.r9 q9
      refine stepI_store8 (.tmp 9) (.tmp 19) rfl e1 (h.v19 qs) e3 (fun w' r1 r2 => ?_)
      exact { bel := Out.below h.bel r2 e2, u2 := h.u2, u8 := h.u8, v16 := h.v16, v17 := h.v17, v18 := h.v18, v19 := h.v19, v20 := h.v20, v21 := h.v21, v22 := h.v22, v23 := h.v23, v24 := h.v24, r9 := fun _ => ⟨G1, e1, e2, r1⟩, r10 := fun hh => (let ⟨H, e0, g1, g2⟩ := h.r10 hh; ⟨H, e0, g1, World.rowIs.of_block g2 (r2.block H (World.rowIs.lt g2) (by have hne : G1 ≠ H := (by intro e; exact h.ap q9 hh (by rw [e1, e0, e])); omega))⟩), ap := h.ap, s11 := fun _ => q9, s12 := h.s12 }
    · intro ln vs wx hn ha h
      have q10 : ln 10 = true := ha ⟨10, Ground.data⟩ (by simp) rfl
      have qs : ln 8 = true := ha ⟨8, Ground.data⟩ (by simp) rfl
      obtain ⟨G1, e1, e2, e3⟩ := h.r10 q10
      refine stepI_store8 (.tmp 10) (.tmp 24) rfl e1 (h.v24 qs) e3 (fun w' r1 r2 => ?_)
      exact { bel := Out.below h.bel r2 e2, u2 := h.u2, u8 := h.u8, v16 := h.v16, v17 := h.v17, v18 := h.v18, v19 := h.v19, v20 := h.v20, v21 := h.v21, v22 := h.v22, v23 := h.v23, v24 := h.v24, r9 := fun hh => (let ⟨H, e0, g1, g2⟩ := h.r9 hh; ⟨H, e0, g1, World.rowIs.of_block g2 (r2.block H (World.rowIs.lt g2) (by have hne : G1 ≠ H := (by intro e; exact h.ap hh q10 (by rw [e1, e0, e])); omega))⟩), r10 := fun _ => ⟨G1, e1, e2, r1⟩, ap := h.ap, s11 := h.s11, s12 := fun _ => q10 }
  intro vs wq hI
  obtain ⟨H1, e1, g1, p1⟩ := hI.r9 rfl
  obtain ⟨H2, e2, g2, p2⟩ := hI.r10 rfl
  have hne : H1 ≠ H2 := fun e => hI.ap rfl rfl (by rw [e1, e2, e])
  simp (decide := true) only [over, Nat.reduceAdd, if_true, if_false]
  rw [e1, e2]
  have hb := hI.bel
  have hR := Rw.lt R.out
  have O1 := Lib.hid (show Rw wq H1 58 8 (bn x.d) from p1)
  have O2 := Lib.hid (show Rw wq H2 58 8 (bn x.u) from p2)
  clear hI e1 e2 p1 p2
  have Tn := Lib.hid (below_next T.out hb)
  have CBn := Lib.hid (Bx.below CB.out hb)
  have RBn := Lib.hid (Box.below RB.out hb)
  have Rn := Lib.hid (Rw.below R.out hb)
  clear hb
  clear T CB RB R
  have T := Tn
  have CB := CBn
  have RB := RBn
  have R := Rn
  clear Tn CBn RBn Rn
  obtain ⟨wn, hwq⟩ : ∃ w0, w0 = wq := ⟨_, rfl⟩
  subst hwq
  have hltCBHT := Bx.lt CB.out
  have hltRBHT := Box.lt RB.out
  have hltRHT := Rw.lt R.out
  have hltO1HT := Rw.lt O1.out
  have hltO2HT := Rw.lt O2.out
  have hWHT := T.out.size
  obtain ⟨HT, hHT⟩ : ∃ HT, Array.size (World.heap wn) = HT := ⟨_, rfl⟩
  have HHT : Hid _ := hHT
  rw [hHT] at hWHT hltCBHT hltRBHT hltRHT hltO1HT hltO2HT
  have TB : Hid (Box (wn.alloc (.cells #[.int .i64 0, .int .i64 0] 27)) HT 0 0) := by rw [← hHT]; exact Box.new _ _ _ _
  clear hHT
  have Tn : Hid (Below w.heap.size w _) := Below.al T.out (.cells #[.int .i64 0, .int .i64 0] 27)
  have CBn : Hid _ := Bx.below CB.out ((Below.refl _ _).alloc (Nat.le_refl _) (.cells #[.int .i64 0, .int .i64 0] 27))
  have RBn : Hid _ := Box.below RB.out ((Below.refl _ _).alloc (Nat.le_refl _) (.cells #[.int .i64 0, .int .i64 0] 27))
  have Rn : Hid _ := Rw.below R.out ((Below.refl _ _).alloc (Nat.le_refl _) (.cells #[.int .i64 0, .int .i64 0] 27))
  have O1n : Hid _ := Rw.below O1.out ((Below.refl _ _).alloc (Nat.le_refl _) (.cells #[.int .i64 0, .int .i64 0] 27))
  have O2n : Hid _ := Rw.below O2.out ((Below.refl _ _).alloc (Nat.le_refl _) (.cells #[.int .i64 0, .int .i64 0] 27))
  clear T CB RB R O1 O2
  have T := Tn
  have CB := CBn
  have RB := RBn
  have R := Rn
  have O1 := O1n
  have O2 := O2n
  clear Tn CBn RBn Rn O1n O2n
  go_wp2_with fail
  rw [HHT.out]
  go_loopw [12, 13] (fun u v wr => ∃ (k : Nat) (A F D : Int) (b : Bool), k ≤ f + 1 ∧ u = .bool b ∧ v = .int .i64 ((k : Int) - 1) ∧ (fd (pc x false) k = ah x false f ∧ ld (qc x false) k A = la x false f ∧ TV A false F D b) ∧ Below w.heap.size w wr ∧ Bx wr g (.slice a1 n k1) (.slice a2 n k2) (.slice a3 n k3) ∧ Box wr (g + 1) 0 0 ∧ Rw wr G 60 24 (rw3 x) ∧ Rw wr H1 58 8 (bn x.d) ∧ Rw wr H2 58 8 (bn x.u) ∧ Box wr HT F D) (fun u v _ => (intOf v + 1).toNat)
  case atStart => exact ⟨f + 1, -1, 0, 0, false, Nat.le_refl _, rfl, by simp, ⟨rfl, rfl, .inl ⟨rfl, rfl, rfl, rfl⟩⟩, T.out, CB.out, RB.out, R.out, O1.out, O2.out, TB.out⟩
  case' round =>
    clear T CB RB R O1 O2 TB
    obtain ⟨k, A, F, D, b, hk, rfl, rfl, hR, h9T, h9CB, h9RB, h9R, h9O1, h9O2, h9TB⟩ := hrel
    obtain ⟨wn, hwq⟩ : ∃ w0 : World, w0 = wr := ⟨_, rfl⟩
    rw [← hwq] at h9T h9CB h9RB h9R h9O1 h9O2 h9TB ⊢
    clear hwq
    have T := Lib.hid h9T
    have CB := Lib.hid h9CB
    have RB := Lib.hid h9RB
    have R := Lib.hid h9R
    have O1 := Lib.hid h9O1
    have O2 := Lib.hid h9O2
    have TB := Lib.hid h9TB
    clear h9T h9CB h9RB h9R h9O1 h9O2 h9TB
    have HR := Lib.hid hR
    clear hR
    by_cases hlt : 0 < k
    case neg =>
      obtain rfl : k = 0 := by omega
      have E := Lib.hid (show tvF (nx1 x f false) = F ∧ tvD (nx1 x f false) = D ∧ (nx1 x f false).isSome = b from by
        obtain ⟨h1, h2, h3⟩ := HR.out
        exact tv_end h1.symm (by rw [← h2]; exact h3))
      obtain ⟨⟨d0, d1, d2⟩, -⟩ := CB.out
      obtain ⟨⟨e0, e1⟩, ef0, ef1⟩ := TB.out
      obtain ⟨⟨c0, c1⟩, f0, f1⟩ := RB.out
      go_wp2_with fail
      exact bodyPost_ret (v := .tuple #[(Value.agg #[.int .i64 (F), .int .i64 (D)]), .bool b]) (by simp [results, Try.results37, go_sem, c0, c1]) rfl (mkT E.out (by have HZ := T.out; exact (by repeat (first | exact Below.refl _ _ | refine Below.al ?_ _ | refine Below.dr ?_ _ | refine Below.dw ?_ | refine Below.st ?_ (by first | exact Nat.le_refl _ | exact Nat.le_add_right _ _ | (simp; omega)) _ | (refine below_next ?_ (by assumption))))))
    obtain ⟨k, rfl⟩ : ∃ j, k = j + 1 := ⟨k - 1, by omega⟩
    rw [show ((k + 1 : Nat) : Int) - 1 = (k : Int) by omega]
    have hkn : k < n := by omega
    have hki : (k : Int) < (n : Int) := by omega
    have y3 := Rw.cell R.out (i := 16 + k) (by omega)
    rw [show rw3 x (16 + k) = bn x.c k from by unfold rw3; rw [if_neg (by omega), if_neg (by omega), Nat.add_sub_cancel_left]] at y3
    have y1 := Rw.cell O1.out (i := k) (by omega)
    have y2 := Rw.cell O2.out (i := k) (by omega)
    obtain ⟨⟨d0, d1, d2⟩, -⟩ := CB.out
    cases hp : pc x false k
    case true =>
      have E := Lib.hid (show tvF (nx1 x f false) = k ∧ tvD (nx1 x f false) = -1 ∧ (nx1 x f false).isSome = true from tv_hit (by
        have := HR.out.1
        unfold fd at this
        rw [if_pos hp] at this
        exact this.symm))
      cases hc : bn x.c k
      case true =>
        rw [hc] at y3
        clear hc hp
        obtain ⟨⟨c0, c1⟩, f0, f1⟩ := RB.out
        go_wp2_with fail
        exact bodyPost_ret (v := .tuple #[(Value.agg #[.int .i64 (k), .int .i64 (-1)]), .bool true]) (by simp [results, Try.results37, go_sem, c0, c1]) rfl (mkT E.out (by have HZ := T.out; exact (by repeat (first | exact Below.refl _ _ | refine Below.al ?_ _ | refine Below.dr ?_ _ | refine Below.dw ?_ | refine Below.st ?_ (by first | exact Nat.le_refl _ | exact Nat.le_add_right _ _ | (simp; omega)) _ | (refine below_next ?_ (by assumption))))))
      case false =>
        have hr : bn x.d k = true := by
          unfold pc at hp
          rw [hc] at hp
          simpa using hp
        rw [hc] at y3
        rw [hr] at y1
        clear hc hr hp
        obtain ⟨⟨c0, c1⟩, f0, f1⟩ := RB.out
        go_wp2_with fail
        exact bodyPost_ret (v := .tuple #[(Value.agg #[.int .i64 (k), .int .i64 (-1)]), .bool true]) (by simp [results, Try.results37, go_sem, c0, c1]) rfl (mkT E.out (by have HZ := T.out; exact (by repeat (first | exact Below.refl _ _ | refine Below.al ?_ _ | refine Below.dr ?_ _ | refine Below.dw ?_ | refine Below.st ?_ (by first | exact Nat.le_refl _ | exact Nat.le_add_right _ _ | (simp; omega)) _ | (refine below_next ?_ (by assumption))))))
    have hcr : bn x.c k = false ∧ bn x.d k = false := by
      unfold pc at hp
      simpa using hp
    rw [hcr.1] at y3
    rw [hcr.2] at y1
    have E := Lib.hid (show fd (pc x false) k = ah x false f ∧ ld (qc x false) k (if qc x false k = true then (k : Int) else A) = la x false f from by
      obtain ⟨h1, h2, -⟩ := HR.out
      unfold fd at h1
      rw [if_neg (by rw [hp]; simp)] at h1
      exact ⟨h1, h2⟩)
    have HTV := Lib.hid HR.out.2.2
    clear hp hcr HR
    cases hq : bn x.u k
    case false =>
      rw [hq] at y2
      have E2 := Lib.hid (show _ ∧ _ from by have := E.out; rwa [if_neg (by show ¬ (bn x.u k = true); rw [hq]; simp)] at this)
      clear hq E
      go_wp2_with fail
      go_roundw
      case rel => exact ⟨k, A, F, D, b, by omega, rfl, by go_num, ⟨E2.out.1, E2.out.2, HTV.out⟩, T.out, CB.out, RB.out, R.out, O1.out, O2.out, TB.out⟩
      case measure => first | (simp [intOf]; done) | (simp [intOf]; omega) | omega
    case true =>
      rw [hq] at y2
      have E2 := Lib.hid (show _ ∧ _ from by have := E.out; rwa [if_pos (by show bn x.u k = true; exact hq)] at this)
      clear hq E
      obtain ⟨⟨e0, e1⟩, ef0, ef1⟩ := TB.out
      have ho1 := Out.trans (Out.set (w := wn) (q := HT) (i := 0) (lo := HT) (hi := HT + 1) (.int .i64 (k : Int)) (Nat.le_refl _) (by omega)) (Out.set (w := wn.setCell ⟨HT, 0, none⟩ (.int .i64 (k : Int))) (q := HT) (i := 1) (lo := HT) (hi := HT + 1) (.int .i64 (1)) (Nat.le_refl _) (by omega))
      have T2 := Lib.hid (Out.below T.out ho1 (by omega))
      have CB2 := Lib.hid (Bx.out CB.out ho1 (.inl (by omega)))
      have RB2 := Lib.hid (Box.out RB.out ho1 (.inl (by omega)))
      have R2 := Lib.hid (Rw.out R.out ho1 (.inl (by omega)))
      have O12 := Lib.hid (Rw.out O1.out ho1 (.inl (by omega)))
      have O22 := Lib.hid (Rw.out O2.out ho1 (.inl (by omega)))
      have TB2 := Lib.hid (Box.pset1 (1) (Box.pset0 (k : Int) TB.out))
      clear ho1
      go_wp2_with fail
      go_roundw
      case rel => exact ⟨k, (k : Int), (k : Int), 1, true, by omega, rfl, by go_num, ⟨E2.out.1, E2.out.2, .inr ⟨by omega, rfl, rfl, rfl⟩⟩, T2.out, CB2.out, RB2.out, R2.out, O12.out, O22.out, TB2.out⟩
      case measure => first | (simp [intOf]; done) | (simp [intOf]; omega) | omega
theorem stopToward_c (a1 : Option Addr) (k1 : Nat) (a2 : Option Addr) (k2 : Nat) (a3 : Option Addr) (k3 n : Nat) (x : Cs) (f : Nat) (up : Bool) (D : Int) (w : World) (hX : Cal w a1 n a2 n a3 n x) (h8 : n ≤ 8) (hf : f < n) (hD : dI up = D) :
    Calls Try.prog 37 #[.agg #[.slice a1 n k1, .slice a2 n k2, .slice a3 n k3], .int .i64 f, .int .i64 D] w (Mk w (.tuple #[(Value.agg #[.int .i64 (tvF (nx1 x f up)), .int .i64 (tvD (nx1 x f up))]), .bool (nx1 x f up).isSome])) := by
  subst hD
  cases up
  · exact stopToward_d a1 k1 a2 k2 a3 k3 n x f w hX h8 hf
  · exact stopToward_u a1 k1 a2 k2 a3 k3 n x f w hX h8 hf
end Go.Proofs.Ytkpginkkfobblaa

namespace Go.Proofs.Ytkpginkkfobblaa
open Go.RowKit
set_option linter.unusedVariables false

theorem tvF_some {o : Option (Nat × Bool)} (h : o.isSome = true) : oF o = tvF o ∧ oD o = tvD o := by
  cases o with
  | none => cases h
  | some r => exact ⟨rfl, rfl⟩
theorem none_of {o : Option (Nat × Bool)} (h : o.isSome = false) : o = none := by cases o with
  | none => rfl
  | some r => cases h
theorem CV.plen {x : Cs} {n1 n2 n3 : Nat} {a1 a2 a3 : Option Addr} {w : World} (hv : CV x) (h : Cal w a1 n1 a2 n2 a3 n3 x) : n1 = n3 ∧ n2 = n3 ∧ 1 ≤ n3 ∧ n3 ≤ 8 ∧ x.c.length = n3 := by
  have l1 := h.1.1
  have l2 := h.2.1.1
  have l3 := h.2.2.1
  have v1 := hv.1
  have v2 := hv.2.1
  have v3 := hv.2.2.1
  have v4 := hv.2.2.2.1
  exact ⟨by omega, by omega, by omega, by omega, by omega⟩
set_option maxHeartbeats 2000000 in
theorem iNextStop_f (a1 : Option Addr) (n1 k1 : Nat) (a2 : Option Addr) (n2 k2 : Nat) (a3 : Option Addr) (n3 k3 : Nat) (x : Cs) (f d : Int) (w : World) (hX : Cal w a1 n1 a2 n2 a3 n3 x) (h : ¬ SK x f d) : Calls Try.prog 10 #[(.agg #[.slice a1 n1 k1, .slice a2 n2 k2, .slice a3 n3 k3]), (Value.agg #[.int .i64 (f), .int .i64 (d)])] w (Mk w (Value.agg #[.int .i64 (-1), .int .i64 (0)])) := by
  have X0 := Lib.hid hX
  by_cases hv : CV x
  case neg =>
    have HS := Lib.hid hv
    clear h hv hX
    refine at_base fun wn hwn => ?_
    have T := Lib.hid (show Below w.heap.size w wn from by rw [hwn]; exact Below.refl _ _)
    clear hwn
    obtain ⟨g, hg⟩ : ∃ g, Array.size (World.heap wn) = g := ⟨_, rfl⟩
    have HGg := Lib.hid hg
    have hTg : w.heap.size ≤ g := by rw [← hg]; exact T.out.size
    have Tn := Lib.hid (show Below w.heap.size w (((wn.alloc (.cells #[.slice a1 n1 k1, .slice a2 n2 k2, .slice a3 n3 k3] 25)).alloc (.cells #[.int .i64 (f), .int .i64 (d)] 27)).alloc (.cells #[.int .i64 (0), .int .i64 (0)] 27)) from (Below.al (Below.al (Below.al T.out (.cells #[.slice a1 n1 k1, .slice a2 n2 k2, .slice a3 n3 k3] 25)) (.cells #[.int .i64 (f), .int .i64 (d)] 27)) (.cells #[.int .i64 (0), .int .i64 (0)] 27)))
    have CB := Lib.hid (show Bx (((wn.alloc (.cells #[.slice a1 n1 k1, .slice a2 n2 k2, .slice a3 n3 k3] 25)).alloc (.cells #[.int .i64 (f), .int .i64 (d)] 27)).alloc (.cells #[.int .i64 (0), .int .i64 (0)] 27)) g (.slice a1 n1 k1) (.slice a2 n2 k2) (.slice a3 n3 k3) from by have h9 := (Bx.al (Bx.al (Bx.new wn (.slice a1 n1 k1) (.slice a2 n2 k2) (.slice a3 n3 k3) 25) (.cells #[.int .i64 (f), .int .i64 (d)] 27)) (.cells #[.int .i64 (0), .int .i64 (0)] 27)); simp only [World.size_alloc, hg, Nat.add_assoc, Nat.reduceAdd] at h9; exact h9)
    have SB := Lib.hid (show Box (((wn.alloc (.cells #[.slice a1 n1 k1, .slice a2 n2 k2, .slice a3 n3 k3] 25)).alloc (.cells #[.int .i64 (f), .int .i64 (d)] 27)).alloc (.cells #[.int .i64 (0), .int .i64 (0)] 27)) (g + 1) (f) (d) from by have h9 := (Box.al (Box.new (wn.alloc (.cells #[.slice a1 n1 k1, .slice a2 n2 k2, .slice a3 n3 k3] 25)) (f) (d) 27) (.cells #[.int .i64 (0), .int .i64 (0)] 27)); simp only [World.size_alloc, hg, Nat.add_assoc, Nat.reduceAdd] at h9; exact h9)
    have RB := Lib.hid (show Box (((wn.alloc (.cells #[.slice a1 n1 k1, .slice a2 n2 k2, .slice a3 n3 k3] 25)).alloc (.cells #[.int .i64 (f), .int .i64 (d)] 27)).alloc (.cells #[.int .i64 (0), .int .i64 (0)] 27)) (g + 2) (0) (0) from by have h9 := (Box.new ((wn.alloc (.cells #[.slice a1 n1 k1, .slice a2 n2 k2, .slice a3 n3 k3] 25)).alloc (.cells #[.int .i64 (f), .int .i64 (d)] 27)) (0) (0) 27); simp only [World.size_alloc, hg, Nat.add_assoc, Nat.reduceAdd] at h9; exact h9)
    have HZg := Lib.hid (show ((((wn.alloc (.cells #[.slice a1 n1 k1, .slice a2 n2 k2, .slice a3 n3 k3] 25)).alloc (.cells #[.int .i64 (f), .int .i64 (d)] 27)).alloc (.cells #[.int .i64 (0), .int .i64 (0)] 27))).heap.size = g + 3 from by simp only [World.size_alloc, hg, Nat.add_assoc, Nat.reduceAdd])
    clear hg
    clear T
    have T := Tn
    clear Tn
    go_enter Try.func10, Try.ntmps10
    obtain ⟨⟨c0, c1, c2⟩, -⟩ := CB.out
    go_wp2_with fail
    rw [HGg.out]
    refine Calls.mono (iCallsValid_f a1 n1 k1 a2 n2 k2 a3 n3 k3 x _ (Cal.below X0.out T.out) HS.out) ?_
    intro e wn hh
    obtain ⟨he, hb⟩ := (by first | exact hh | exact Ro.mk hh | exact St.mk hh | exact LawOk.mk' hh : Mk _ _ e wn)
    subst he
    have Tn : Hid (Below w.heap.size w wn) := below_next T.out hb
    have CBn : Hid _ := Bx.below CB.out hb
    have SBn : Hid _ := Box.below SB.out hb
    have RBn : Hid _ := Box.below RB.out hb
    clear hb hh c0 c1 c2
    clear T CB SB RB
    have T := Tn
    have CB := CBn
    have SB := SBn
    have RB := RBn
    clear Tn CBn SBn RBn
    obtain ⟨⟨c0, c1⟩, f0, f1⟩ := RB.out
    go_wp2_with fail
    exact bodyPost_ret (v := (Value.agg #[.int .i64 (-1), .int .i64 (0)])) (by simp [results, Try.results10, go_sem, c0, c1]) rfl (Mk.ag (rfl) (rfl) (by have HZ := T.out; exact (by repeat (first | exact Below.refl _ _ | refine Below.al ?_ _ | refine Below.dr ?_ _ | refine Below.dw ?_ | refine Below.st ?_ (by first | exact Nat.le_refl _ | exact Nat.le_add_right _ _ | (simp; omega)) _ | (refine below_next ?_ (by assumption))))))
  obtain ⟨rfl, rfl, q1, q8, q3⟩ := CV.plen hv hX
  have HS := Lib.hid hv
  have HP := Lib.hid (show ¬ PL n2 f d from fun g => h ⟨hv, ⟨g.1, by rw [q3]; exact g.2.1⟩, g.2.2⟩)
  clear h hv hX q3
  refine at_base fun wn hwn => ?_
  have T := Lib.hid (show Below w.heap.size w wn from by rw [hwn]; exact Below.refl _ _)
  clear hwn
  obtain ⟨g, hg⟩ : ∃ g, Array.size (World.heap wn) = g := ⟨_, rfl⟩
  have HGg := Lib.hid hg
  have hTg : w.heap.size ≤ g := by rw [← hg]; exact T.out.size
  have Tn := Lib.hid (show Below w.heap.size w (((wn.alloc (.cells #[.slice a1 n2 k1, .slice a2 n2 k2, .slice a3 n2 k3] 25)).alloc (.cells #[.int .i64 (f), .int .i64 (d)] 27)).alloc (.cells #[.int .i64 (0), .int .i64 (0)] 27)) from (Below.al (Below.al (Below.al T.out (.cells #[.slice a1 n2 k1, .slice a2 n2 k2, .slice a3 n2 k3] 25)) (.cells #[.int .i64 (f), .int .i64 (d)] 27)) (.cells #[.int .i64 (0), .int .i64 (0)] 27)))
  have CB := Lib.hid (show Bx (((wn.alloc (.cells #[.slice a1 n2 k1, .slice a2 n2 k2, .slice a3 n2 k3] 25)).alloc (.cells #[.int .i64 (f), .int .i64 (d)] 27)).alloc (.cells #[.int .i64 (0), .int .i64 (0)] 27)) g (.slice a1 n2 k1) (.slice a2 n2 k2) (.slice a3 n2 k3) from by have h9 := (Bx.al (Bx.al (Bx.new wn (.slice a1 n2 k1) (.slice a2 n2 k2) (.slice a3 n2 k3) 25) (.cells #[.int .i64 (f), .int .i64 (d)] 27)) (.cells #[.int .i64 (0), .int .i64 (0)] 27)); simp only [World.size_alloc, hg, Nat.add_assoc, Nat.reduceAdd] at h9; exact h9)
  have SB := Lib.hid (show Box (((wn.alloc (.cells #[.slice a1 n2 k1, .slice a2 n2 k2, .slice a3 n2 k3] 25)).alloc (.cells #[.int .i64 (f), .int .i64 (d)] 27)).alloc (.cells #[.int .i64 (0), .int .i64 (0)] 27)) (g + 1) (f) (d) from by have h9 := (Box.al (Box.new (wn.alloc (.cells #[.slice a1 n2 k1, .slice a2 n2 k2, .slice a3 n2 k3] 25)) (f) (d) 27) (.cells #[.int .i64 (0), .int .i64 (0)] 27)); simp only [World.size_alloc, hg, Nat.add_assoc, Nat.reduceAdd] at h9; exact h9)
  have RB := Lib.hid (show Box (((wn.alloc (.cells #[.slice a1 n2 k1, .slice a2 n2 k2, .slice a3 n2 k3] 25)).alloc (.cells #[.int .i64 (f), .int .i64 (d)] 27)).alloc (.cells #[.int .i64 (0), .int .i64 (0)] 27)) (g + 2) (0) (0) from by have h9 := (Box.new ((wn.alloc (.cells #[.slice a1 n2 k1, .slice a2 n2 k2, .slice a3 n2 k3] 25)).alloc (.cells #[.int .i64 (f), .int .i64 (d)] 27)) (0) (0) 27); simp only [World.size_alloc, hg, Nat.add_assoc, Nat.reduceAdd] at h9; exact h9)
  have HZg := Lib.hid (show ((((wn.alloc (.cells #[.slice a1 n2 k1, .slice a2 n2 k2, .slice a3 n2 k3] 25)).alloc (.cells #[.int .i64 (f), .int .i64 (d)] 27)).alloc (.cells #[.int .i64 (0), .int .i64 (0)] 27))).heap.size = g + 3 from by simp only [World.size_alloc, hg, Nat.add_assoc, Nat.reduceAdd])
  clear hg
  clear T
  have T := Tn
  clear Tn
  go_enter Try.func10, Try.ntmps10
  obtain ⟨⟨c0, c1, c2⟩, -⟩ := CB.out
  go_wp2_with fail
  rw [HGg.out]
  refine Calls.mono (iCallsValid_t a1 n2 k1 a2 n2 k2 a3 n2 k3 x _ (Cal.below X0.out T.out) HS.out) ?_
  intro e wn hh
  obtain ⟨he, hb⟩ := (by first | exact hh | exact Ro.mk hh | exact St.mk hh | exact LawOk.mk' hh : Mk _ _ e wn)
  subst he
  have Tn : Hid (Below w.heap.size w wn) := below_next T.out hb
  have CBn : Hid _ := Bx.below CB.out hb
  have SBn : Hid _ := Box.below SB.out hb
  have RBn : Hid _ := Box.below RB.out hb
  clear hb hh c0 c1 c2
  clear T CB SB RB
  have T := Tn
  have CB := CBn
  have SB := SBn
  have RB := RBn
  clear Tn CBn SBn RBn
  obtain ⟨⟨c0, c1, c2⟩, -⟩ := CB.out
  obtain ⟨⟨d0, d1⟩, df0, df1⟩ := SB.out
  go_wp2_with fail
  refine Calls.mono (isPlace_f n2 f d _ q8 HP.out) ?_
  intro e wn hh
  obtain ⟨he, hb⟩ := (by first | exact hh | exact Ro.mk hh | exact St.mk hh | exact LawOk.mk' hh : Mk _ _ e wn)
  subst he
  have Tn : Hid (Below w.heap.size w wn) := below_next T.out hb
  have CBn : Hid _ := Bx.below CB.out hb
  have SBn : Hid _ := Box.below SB.out hb
  have RBn : Hid _ := Box.below RB.out hb
  clear hb hh c0 c1 c2 d0 d1 df0 df1
  clear T CB SB RB
  have T := Tn
  have CB := CBn
  have SB := SBn
  have RB := RBn
  clear Tn CBn SBn RBn
  obtain ⟨⟨c0, c1⟩, f0, f1⟩ := RB.out
  go_wp2_with fail
  exact bodyPost_ret (v := (Value.agg #[.int .i64 (-1), .int .i64 (0)])) (by simp [results, Try.results10, go_sem, c0, c1]) rfl (Mk.ag (rfl) (rfl) (by have HZ := T.out; exact (by repeat (first | exact Below.refl _ _ | refine Below.al ?_ _ | refine Below.dr ?_ _ | refine Below.dw ?_ | refine Below.st ?_ (by first | exact Nat.le_refl _ | exact Nat.le_add_right _ _ | (simp; omega)) _ | (refine below_next ?_ (by assumption))))))
set_option maxHeartbeats 4000000 in
theorem iNextStop_t (a1 : Option Addr) (n1 k1 : Nat) (a2 : Option Addr) (n2 k2 : Nat) (a3 : Option Addr) (n3 k3 : Nat) (x : Cs) (f : Nat) (up : Bool) (w : World) (hX : Cal w a1 n1 a2 n2 a3 n3 x) (h : SK x f (dI up)) : Calls Try.prog 10 #[(.agg #[.slice a1 n1 k1, .slice a2 n2 k2, .slice a3 n3 k3]), (Value.agg #[.int .i64 (f), .int .i64 (dI up)])] w (Mk w (Value.agg #[.int .i64 (oF (nx x f up)), .int .i64 (oD (nx x f up))])) := by
  have X0 := Lib.hid hX
  have hv := h.1
  obtain ⟨rfl, rfl, q1, q8, q3⟩ := CV.plen hv hX
  have hf : f < n2 := by have := h.2.1.2; omega
  have HS := Lib.hid hv
  have HP := Lib.hid (show PL n2 f (dI up) from ⟨by omega, by omega, h.2.2⟩)
  obtain ⟨d1, d2, d3⟩ := dI_bd up
  obtain ⟨D, hD⟩ : ∃ D, dI up = D := ⟨_, rfl⟩
  rw [hD] at HP d1 d2 d3
  have HD := Lib.hid hD
  have HD3 := Lib.hid d3
  rw [hD]
  clear h hv hX q3 hD d3
  refine at_base fun wn hwn => ?_
  have T := Lib.hid (show Below w.heap.size w wn from by rw [hwn]; exact Below.refl _ _)
  clear hwn
  obtain ⟨g, hg⟩ : ∃ g, Array.size (World.heap wn) = g := ⟨_, rfl⟩
  have HGg := Lib.hid hg
  have hTg : w.heap.size ≤ g := by rw [← hg]; exact T.out.size
  have Tn := Lib.hid (show Below w.heap.size w (((wn.alloc (.cells #[.slice a1 n2 k1, .slice a2 n2 k2, .slice a3 n2 k3] 25)).alloc (.cells #[.int .i64 (f), .int .i64 (D)] 27)).alloc (.cells #[.int .i64 (0), .int .i64 (0)] 27)) from (Below.al (Below.al (Below.al T.out (.cells #[.slice a1 n2 k1, .slice a2 n2 k2, .slice a3 n2 k3] 25)) (.cells #[.int .i64 (f), .int .i64 (D)] 27)) (.cells #[.int .i64 (0), .int .i64 (0)] 27)))
  have CB := Lib.hid (show Bx (((wn.alloc (.cells #[.slice a1 n2 k1, .slice a2 n2 k2, .slice a3 n2 k3] 25)).alloc (.cells #[.int .i64 (f), .int .i64 (D)] 27)).alloc (.cells #[.int .i64 (0), .int .i64 (0)] 27)) g (.slice a1 n2 k1) (.slice a2 n2 k2) (.slice a3 n2 k3) from by have h9 := (Bx.al (Bx.al (Bx.new wn (.slice a1 n2 k1) (.slice a2 n2 k2) (.slice a3 n2 k3) 25) (.cells #[.int .i64 (f), .int .i64 (D)] 27)) (.cells #[.int .i64 (0), .int .i64 (0)] 27)); simp only [World.size_alloc, hg, Nat.add_assoc, Nat.reduceAdd] at h9; exact h9)
  have SB := Lib.hid (show Box (((wn.alloc (.cells #[.slice a1 n2 k1, .slice a2 n2 k2, .slice a3 n2 k3] 25)).alloc (.cells #[.int .i64 (f), .int .i64 (D)] 27)).alloc (.cells #[.int .i64 (0), .int .i64 (0)] 27)) (g + 1) (f) (D) from by have h9 := (Box.al (Box.new (wn.alloc (.cells #[.slice a1 n2 k1, .slice a2 n2 k2, .slice a3 n2 k3] 25)) (f) (D) 27) (.cells #[.int .i64 (0), .int .i64 (0)] 27)); simp only [World.size_alloc, hg, Nat.add_assoc, Nat.reduceAdd] at h9; exact h9)
  have RB := Lib.hid (show Box (((wn.alloc (.cells #[.slice a1 n2 k1, .slice a2 n2 k2, .slice a3 n2 k3] 25)).alloc (.cells #[.int .i64 (f), .int .i64 (D)] 27)).alloc (.cells #[.int .i64 (0), .int .i64 (0)] 27)) (g + 2) (0) (0) from by have h9 := (Box.new ((wn.alloc (.cells #[.slice a1 n2 k1, .slice a2 n2 k2, .slice a3 n2 k3] 25)).alloc (.cells #[.int .i64 (f), .int .i64 (D)] 27)) (0) (0) 27); simp only [World.size_alloc, hg, Nat.add_assoc, Nat.reduceAdd] at h9; exact h9)
  have HZg := Lib.hid (show ((((wn.alloc (.cells #[.slice a1 n2 k1, .slice a2 n2 k2, .slice a3 n2 k3] 25)).alloc (.cells #[.int .i64 (f), .int .i64 (D)] 27)).alloc (.cells #[.int .i64 (0), .int .i64 (0)] 27))).heap.size = g + 3 from by simp only [World.size_alloc, hg, Nat.add_assoc, Nat.reduceAdd])
  clear hg
  clear T
  have T := Tn
  clear Tn
  go_enter Try.func10, Try.ntmps10
  obtain ⟨⟨c0, c1, c2⟩, -⟩ := CB.out
  go_wp2_with fail
  rw [HGg.out]
  refine Calls.mono (iCallsValid_t a1 n2 k1 a2 n2 k2 a3 n2 k3 x _ (Cal.below X0.out T.out) HS.out) ?_
  intro e wn hh
  obtain ⟨he, hb⟩ := (by first | exact hh | exact Ro.mk hh | exact St.mk hh | exact LawOk.mk' hh : Mk _ _ e wn)
  subst he
  have Tn : Hid (Below w.heap.size w wn) := below_next T.out hb
  have CBn : Hid _ := Bx.below CB.out hb
  have SBn : Hid _ := Box.below SB.out hb
  have RBn : Hid _ := Box.below RB.out hb
  clear hb hh c0 c1 c2
  clear T CB SB RB
  have T := Tn
  have CB := CBn
  have SB := SBn
  have RB := RBn
  clear Tn CBn SBn RBn
  obtain ⟨⟨c0, c1, c2⟩, -⟩ := CB.out
  obtain ⟨⟨d0, d1⟩, df0, df1⟩ := SB.out
  go_wp2_with fail
  refine Calls.mono (isPlace_t n2 f D _ q8 HP.out) ?_
  intro e wn hh
  obtain ⟨he, hb⟩ := (by first | exact hh | exact Ro.mk hh | exact St.mk hh | exact LawOk.mk' hh : Mk _ _ e wn)
  subst he
  have Tn : Hid (Below w.heap.size w wn) := below_next T.out hb
  have CBn : Hid _ := Bx.below CB.out hb
  have SBn : Hid _ := Box.below SB.out hb
  have RBn : Hid _ := Box.below RB.out hb
  clear hb hh c0 c1 c2 d0 d1 df0 df1
  clear T CB SB RB
  have T := Tn
  have CB := CBn
  have SB := SBn
  have RB := RBn
  clear Tn CBn SBn RBn
  obtain ⟨⟨d0, d1⟩, df0, df1⟩ := SB.out
  go_wp2_with fail
  go_loopw [24] (fun v wr => ∃ (t : Nat) (u : Bool), t ≤ 2 ∧ v = .int .i64 t ∧ LP x f up t u ∧ Below w.heap.size w wr ∧ Bx wr g (.slice a1 n2 k1) (.slice a2 n2 k2) (.slice a3 n2 k3) ∧ Box wr (g + 1) (f) (D) ∧ Box wr (g + 2) (0) (0)) (fun v _ => 2 - (intOf v).toNat)
  case atStart => exact ⟨0, up, by omega, rfl, .inl ⟨rfl, rfl⟩, T.out, CB.out, SB.out, RB.out⟩
  case' round =>
    clear T CB SB RB d0 d1 df0 df1
    obtain ⟨t, u, ht, rfl, hL, h9T, h9CB, h9SB, h9RB⟩ := hrel
    obtain ⟨wn, hwq⟩ : ∃ w0 : World, w0 = wr := ⟨_, rfl⟩
    rw [← hwq] at h9T h9CB h9SB h9RB ⊢
    clear hwq
    have T := Lib.hid h9T
    have CB := Lib.hid h9CB
    have SB := Lib.hid h9SB
    have RB := Lib.hid h9RB
    clear h9T h9CB h9SB h9RB
    have HL := Lib.hid hL
    clear hL
    by_cases hlt : t < 2
    case neg =>
      obtain rfl : t = 2 := by omega
      have E2 := Lib.hid (LP.end HL.out)
      obtain ⟨⟨c0, c1⟩, f0, f1⟩ := RB.out
      go_wp2_with fail
      exact bodyPost_ret (v := (Value.agg #[.int .i64 (-1), .int .i64 (0)])) (by simp [results, Try.results10, go_sem, c0, c1]) rfl (Mk.ag (by rw [E2.out]; rfl) (by rw [E2.out]; rfl) (by have HZ := T.out; exact (by repeat (first | exact Below.refl _ _ | refine Below.al ?_ _ | refine Below.dr ?_ _ | refine Below.dw ?_ | refine Below.st ?_ (by first | exact Nat.le_refl _ | exact Nat.le_add_right _ _ | (simp; omega)) _ | (refine below_next ?_ (by assumption))))))
    have KU : ∀ (D' : Int), dI u = D' → ∀ w' (h : Cal w' a1 n2 a2 n2 a3 n2 x), Calls Try.prog 37 #[.agg #[.slice a1 n2 k1, .slice a2 n2 k2, .slice a3 n2 k3], .int .i64 f, .int .i64 D'] w' (Mk w' (.tuple #[(Value.agg #[.int .i64 (tvF (nx1 x f u)), .int .i64 (tvD (nx1 x f u))]), .bool (nx1 x f u).isSome])) :=
      fun D' h w' hc => stopToward_c a1 k1 a2 k2 a3 k3 n2 x f u D' w' hc q8 hf h
    have hsome : (nx1 x f u).isSome = true → nx x f up = nx1 x f u := fun h => by
      obtain ⟨r, hr⟩ := Option.isSome_iff_exists.1 h
      rw [hr]; exact LP.some HL.out hlt hr
    have hnone : (nx1 x f u).isSome = false → LP x f up (t + 1) (!u) := fun h => LP.next HL.out hlt (none_of h)
    have hsm : (nx1 x f u).isSome = true → oF (nx1 x f u) = tvF (nx1 x f u) ∧ oD (nx1 x f u) = tvD (nx1 x f u) := tvF_some
    have HU := Lib.hid (show (t = 0 → dI u = D) ∧ (t = 1 → dI u = -D) from by
      rcases HL.out with ⟨e, rfl⟩ | ⟨e, rfl, -⟩ | ⟨e, -⟩
      · exact ⟨fun _ => HD.out, fun e2 => by omega⟩
      · exact ⟨fun e2 => by omega, fun _ => by rw [HD3.out]⟩
      · exact ⟨fun e2 => by omega, fun e2 => by omega⟩)
    obtain ⟨R, hR⟩ : ∃ R, nx1 x f u = R := ⟨_, rfl⟩
    rw [hR] at KU hsome hnone hsm
    obtain ⟨F', hF'⟩ : ∃ F', tvF R = F' := ⟨_, rfl⟩
    obtain ⟨D', hD'⟩ : ∃ D', tvD R = D' := ⟨_, rfl⟩
    obtain ⟨b, hb'⟩ : ∃ b, R.isSome = b := ⟨_, rfl⟩
    rw [hF', hD', hb'] at KU
    rw [hb'] at hsome hnone hsm
    rw [hF', hD'] at hsm
    have HKU := Lib.hid KU
    have HSO := Lib.hid hsome
    have HNO := Lib.hid hnone
    have HSM := Lib.hid hsm
    clear KU hsome hnone hsm hR hF' hD' hb' HL
    rcases (by omega : t = 0 ∨ t = 1) with rfl | rfl
    · have KK := Lib.hid (HKU.out D (HU.out.1 rfl))
      clear HKU HU
      have hix : ∀ w' : World, Sem.run Try.prog (Instr.index 54 (.agg #[.int .i64 D, .int .i64 (-D)]) (.int .i64 0)) w' = .ok (.int .i64 D) w' := fun _ => rfl
      obtain ⟨⟨c0, c1, c2⟩, -⟩ := CB.out
      obtain ⟨⟨d0, d1⟩, df0, df1⟩ := SB.out
      go_wp2_with fail
      refine Calls.mono (KK.out _ (Cal.below X0.out T.out)) ?_
      intro e wn hh
      obtain ⟨he, hb⟩ := (by first | exact hh | exact Ro.mk hh | exact St.mk hh | exact LawOk.mk' hh : Mk _ _ e wn)
      subst he
      have Tn : Hid (Below w.heap.size w wn) := below_next T.out hb
      have CBn : Hid _ := Bx.below CB.out hb
      have SBn : Hid _ := Box.below SB.out hb
      have RBn : Hid _ := Box.below RB.out hb
      clear hb hh c0 c1 c2 d0 d1 df0 df1
      clear T CB SB RB
      have T := Tn
      have CB := CBn
      have SB := SBn
      have RB := RBn
      clear Tn CBn SBn RBn
      have HT0 := Lib.hid T.out
      have hltCBHT := Bx.lt CB.out
      have hltSBHT := Box.lt SB.out
      have hltRBHT := Box.lt RB.out
      have hWHT := T.out.size
      obtain ⟨HT, hHT⟩ : ∃ HT, Array.size (World.heap wn) = HT := ⟨_, rfl⟩
      have HHT : Hid _ := hHT
      rw [hHT] at hWHT hltCBHT hltSBHT hltRBHT
      have NB : Hid (Box (wn.alloc (.cells #[.int .i64 F', .int .i64 D'] 27)) HT F' D') := by rw [← hHT]; exact Box.new _ _ _ _
      clear hHT
      have Tn : Hid (Below w.heap.size w _) := Below.al T.out (.cells #[.int .i64 F', .int .i64 D'] 27)
      have CBn : Hid _ := Bx.below CB.out ((Below.refl _ _).alloc (Nat.le_refl _) (.cells #[.int .i64 F', .int .i64 D'] 27))
      have SBn : Hid _ := Box.below SB.out ((Below.refl _ _).alloc (Nat.le_refl _) (.cells #[.int .i64 F', .int .i64 D'] 27))
      have RBn : Hid _ := Box.below RB.out ((Below.refl _ _).alloc (Nat.le_refl _) (.cells #[.int .i64 F', .int .i64 D'] 27))
      clear T CB SB RB
      have T := Tn
      have CB := CBn
      have SB := SBn
      have RB := RBn
      clear Tn CBn SBn RBn
      cases b
      case true =>
        have E2 := Lib.hid (show oF (nx x f up) = F' ∧ oD (nx x f up) = D' from by rw [HSO.out rfl]; exact HSM.out rfl)
        obtain ⟨⟨e0, e1⟩, ef0, ef1⟩ := NB.out
        have HZ0 := HT0.out
        obtain ⟨⟨c0, c1⟩, f0, f1⟩ := RB.out
        go_wp2_with fail
        exact bodyPost_ret (v := (Value.agg #[.int .i64 (F'), .int .i64 (D')])) (by simp [results, Try.results10, go_sem, c0, c1]) rfl (Mk.ag (E2.out.1) (E2.out.2) (by have HZ := T.out; exact (by repeat (first | exact Below.refl _ _ | refine Below.al ?_ _ | refine Below.dr ?_ _ | refine Below.dw ?_ | refine Below.st ?_ (by first | exact Nat.le_refl _ | exact Nat.le_add_right _ _ | (simp; omega)) _ | (refine below_next ?_ (by assumption))))))
      case false =>
        have HL := Lib.hid (HNO.out rfl)
        go_wp2_with fail
        go_roundw
        case rel => exact ⟨1, !u, by omega, by go_num, HL.out, T.out, CB.out, SB.out, RB.out⟩
        case measure => first | (simp [intOf]; done) | (simp [intOf]; omega) | omega
    · have KK := Lib.hid (HKU.out (-D) (HU.out.2 rfl))
      clear HKU HU
      have hix : ∀ w' : World, Sem.run Try.prog (Instr.index 54 (.agg #[.int .i64 D, .int .i64 (-D)]) (.int .i64 1)) w' = .ok (.int .i64 (-D)) w' := fun _ => rfl
      obtain ⟨⟨c0, c1, c2⟩, -⟩ := CB.out
      obtain ⟨⟨d0, d1⟩, df0, df1⟩ := SB.out
      go_wp2_with fail
      refine Calls.mono (KK.out _ (Cal.below X0.out T.out)) ?_
      intro e wn hh
      obtain ⟨he, hb⟩ := (by first | exact hh | exact Ro.mk hh | exact St.mk hh | exact LawOk.mk' hh : Mk _ _ e wn)
      subst he
      have Tn : Hid (Below w.heap.size w wn) := below_next T.out hb
      have CBn : Hid _ := Bx.below CB.out hb
      have SBn : Hid _ := Box.below SB.out hb
      have RBn : Hid _ := Box.below RB.out hb
      clear hb hh c0 c1 c2 d0 d1 df0 df1
      clear T CB SB RB
      have T := Tn
      have CB := CBn
      have SB := SBn
      have RB := RBn
      clear Tn CBn SBn RBn
      have HT0 := Lib.hid T.out
      have hltCBHT := Bx.lt CB.out
      have hltSBHT := Box.lt SB.out
      have hltRBHT := Box.lt RB.out
      have hWHT := T.out.size
      obtain ⟨HT, hHT⟩ : ∃ HT, Array.size (World.heap wn) = HT := ⟨_, rfl⟩
      have HHT : Hid _ := hHT
      rw [hHT] at hWHT hltCBHT hltSBHT hltRBHT
      have NB : Hid (Box (wn.alloc (.cells #[.int .i64 F', .int .i64 D'] 27)) HT F' D') := by rw [← hHT]; exact Box.new _ _ _ _
      clear hHT
      have Tn : Hid (Below w.heap.size w _) := Below.al T.out (.cells #[.int .i64 F', .int .i64 D'] 27)
      have CBn : Hid _ := Bx.below CB.out ((Below.refl _ _).alloc (Nat.le_refl _) (.cells #[.int .i64 F', .int .i64 D'] 27))
      have SBn : Hid _ := Box.below SB.out ((Below.refl _ _).alloc (Nat.le_refl _) (.cells #[.int .i64 F', .int .i64 D'] 27))
      have RBn : Hid _ := Box.below RB.out ((Below.refl _ _).alloc (Nat.le_refl _) (.cells #[.int .i64 F', .int .i64 D'] 27))
      clear T CB SB RB
      have T := Tn
      have CB := CBn
      have SB := SBn
      have RB := RBn
      clear Tn CBn SBn RBn
      cases b
      case true =>
        have E2 := Lib.hid (show oF (nx x f up) = F' ∧ oD (nx x f up) = D' from by rw [HSO.out rfl]; exact HSM.out rfl)
        obtain ⟨⟨e0, e1⟩, ef0, ef1⟩ := NB.out
        have HZ0 := HT0.out
        obtain ⟨⟨c0, c1⟩, f0, f1⟩ := RB.out
        go_wp2_with fail
        exact bodyPost_ret (v := (Value.agg #[.int .i64 (F'), .int .i64 (D')])) (by simp [results, Try.results10, go_sem, c0, c1]) rfl (Mk.ag (E2.out.1) (E2.out.2) (by have HZ := T.out; exact (by repeat (first | exact Below.refl _ _ | refine Below.al ?_ _ | refine Below.dr ?_ _ | refine Below.dw ?_ | refine Below.st ?_ (by first | exact Nat.le_refl _ | exact Nat.le_add_right _ _ | (simp; omega)) _ | (refine below_next ?_ (by assumption))))))
      case false =>
        have HL := Lib.hid (HNO.out rfl)
        go_wp2_with fail
        go_roundw
        case rel => exact ⟨2, !u, by omega, by go_num, HL.out, T.out, CB.out, SB.out, RB.out⟩
        case measure => first | (simp [intOf]; done) | (simp [intOf]; omega) | omega
theorem iNextStop_c (a1 : Option Addr) (n1 k1 : Nat) (a2 : Option Addr) (n2 k2 : Nat) (a3 : Option Addr) (n3 k3 : Nat) (x : Cs) (f d : Int) (w : World) (hX : Cal w a1 n1 a2 n2 a3 n3 x) : Calls Try.prog 10 #[(.agg #[.slice a1 n1 k1, .slice a2 n2 k2, .slice a3 n3 k3]), (Value.agg #[.int .i64 (f), .int .i64 (d)])] w (Mk w (Value.agg #[.int .i64 (oF (nsv x f d)), .int .i64 (oD (nsv x f d))])) := by
  by_cases h : SK x f d
  · obtain ⟨f, up, rfl, hf, rfl⟩ := SK.dir h
    rw [nsv_t h]
    exact iNextStop_t a1 n1 k1 a2 n2 k2 a3 n3 k3 x f up w hX h
  · rw [nsv_f h]
    exact iNextStop_f a1 n1 k1 a2 n2 k2 a3 n3 k3 x f d w hX h
set_option maxHeartbeats 2000000 in
theorem iServeStop_f (a1 : Option Addr) (n1 k1 : Nat) (a2 : Option Addr) (n2 k2 : Nat) (a3 : Option Addr) (n3 k3 : Nat) (x : Cs) (f d : Int) (w : World) (hX : Cal w a1 n1 a2 n2 a3 n3 x) (h : ¬ SK x f d) : Calls Try.prog 15 #[(.agg #[.slice a1 n1 k1, .slice a2 n2 k2, .slice a3 n3 k3]), (Value.agg #[.int .i64 (f), .int .i64 (d)])] w (NewC w cz id) := by
  have X0 := Lib.hid hX
  by_cases hv : CV x
  case neg =>
    have HS := Lib.hid hv
    clear h hv hX
    refine at_base fun wn hwn => ?_
    have T := Lib.hid (show Below w.heap.size w wn from by rw [hwn]; exact Below.refl _ _)
    clear hwn
    obtain ⟨g, hg⟩ : ∃ g, Array.size (World.heap wn) = g := ⟨_, rfl⟩
    have HGg := Lib.hid hg
    have hTg : w.heap.size ≤ g := by rw [← hg]; exact T.out.size
    have Tn := Lib.hid (show Below w.heap.size w (((wn.alloc (.cells #[.slice a1 n1 k1, .slice a2 n2 k2, .slice a3 n3 k3] 25)).alloc (.cells #[.int .i64 (f), .int .i64 (d)] 27)).alloc (.cells #[.slice none 0 0, .slice none 0 0, .slice none 0 0] 25)) from (Below.al (Below.al (Below.al T.out (.cells #[.slice a1 n1 k1, .slice a2 n2 k2, .slice a3 n3 k3] 25)) (.cells #[.int .i64 (f), .int .i64 (d)] 27)) (.cells #[.slice none 0 0, .slice none 0 0, .slice none 0 0] 25)))
    have CB := Lib.hid (show Bx (((wn.alloc (.cells #[.slice a1 n1 k1, .slice a2 n2 k2, .slice a3 n3 k3] 25)).alloc (.cells #[.int .i64 (f), .int .i64 (d)] 27)).alloc (.cells #[.slice none 0 0, .slice none 0 0, .slice none 0 0] 25)) g (.slice a1 n1 k1) (.slice a2 n2 k2) (.slice a3 n3 k3) from by have h9 := (Bx.al (Bx.al (Bx.new wn (.slice a1 n1 k1) (.slice a2 n2 k2) (.slice a3 n3 k3) 25) (.cells #[.int .i64 (f), .int .i64 (d)] 27)) (.cells #[.slice none 0 0, .slice none 0 0, .slice none 0 0] 25)); simp only [World.size_alloc, hg, Nat.add_assoc, Nat.reduceAdd] at h9; exact h9)
    have SB := Lib.hid (show Box (((wn.alloc (.cells #[.slice a1 n1 k1, .slice a2 n2 k2, .slice a3 n3 k3] 25)).alloc (.cells #[.int .i64 (f), .int .i64 (d)] 27)).alloc (.cells #[.slice none 0 0, .slice none 0 0, .slice none 0 0] 25)) (g + 1) (f) (d) from by have h9 := (Box.al (Box.new (wn.alloc (.cells #[.slice a1 n1 k1, .slice a2 n2 k2, .slice a3 n3 k3] 25)) (f) (d) 27) (.cells #[.slice none 0 0, .slice none 0 0, .slice none 0 0] 25)); simp only [World.size_alloc, hg, Nat.add_assoc, Nat.reduceAdd] at h9; exact h9)
    have RB := Lib.hid (show Bx (((wn.alloc (.cells #[.slice a1 n1 k1, .slice a2 n2 k2, .slice a3 n3 k3] 25)).alloc (.cells #[.int .i64 (f), .int .i64 (d)] 27)).alloc (.cells #[.slice none 0 0, .slice none 0 0, .slice none 0 0] 25)) (g + 2) (.slice none 0 0) (.slice none 0 0) (.slice none 0 0) from by have h9 := (Bx.new ((wn.alloc (.cells #[.slice a1 n1 k1, .slice a2 n2 k2, .slice a3 n3 k3] 25)).alloc (.cells #[.int .i64 (f), .int .i64 (d)] 27)) (.slice none 0 0) (.slice none 0 0) (.slice none 0 0) 25); simp only [World.size_alloc, hg, Nat.add_assoc, Nat.reduceAdd] at h9; exact h9)
    have HZg := Lib.hid (show ((((wn.alloc (.cells #[.slice a1 n1 k1, .slice a2 n2 k2, .slice a3 n3 k3] 25)).alloc (.cells #[.int .i64 (f), .int .i64 (d)] 27)).alloc (.cells #[.slice none 0 0, .slice none 0 0, .slice none 0 0] 25))).heap.size = g + 3 from by simp only [World.size_alloc, hg, Nat.add_assoc, Nat.reduceAdd])
    clear hg
    clear T
    have T := Tn
    clear Tn
    go_enter Try.func15, Try.ntmps15
    obtain ⟨⟨c0, c1, c2⟩, -⟩ := CB.out
    go_wp2_with fail
    rw [HGg.out]
    refine Calls.mono (iCallsValid_f a1 n1 k1 a2 n2 k2 a3 n3 k3 x _ (Cal.below X0.out T.out) HS.out) ?_
    intro e wn hh
    obtain ⟨he, hb⟩ := (by first | exact hh | exact Ro.mk hh | exact St.mk hh | exact LawOk.mk' hh : Mk _ _ e wn)
    subst he
    have Tn : Hid (Below w.heap.size w wn) := below_next T.out hb
    have CBn : Hid _ := Bx.below CB.out hb
    have SBn : Hid _ := Box.below SB.out hb
    have RBn : Hid _ := Bx.below RB.out hb
    clear hb hh c0 c1 c2
    clear T CB SB RB
    have T := Tn
    have CB := CBn
    have SB := SBn
    have RB := RBn
    clear Tn CBn SBn RBn
    obtain ⟨⟨c0, c1, c2⟩, hf⟩ := RB.out
    have f0 := hf 0
    have f1 := hf 1
    have f2 := hf 2
    clear hf
    go_wp2_with fail
    have N := newC_zero (r := g + 2) T.out (by omega) id
    exact bodyPost_ret (v := .agg #[.slice none 0 0, .slice none 0 0, .slice none 0 0]) (by simp [results, Try.results15, go_sem, c0, c1, c2]) rfl N
  obtain ⟨rfl, rfl, q1, q8, q3⟩ := CV.plen hv hX
  have HS := Lib.hid hv
  have HP := Lib.hid (show ¬ PL n2 f d from fun g => h ⟨hv, ⟨g.1, by rw [q3]; exact g.2.1⟩, g.2.2⟩)
  clear h hv hX q3
  refine at_base fun wn hwn => ?_
  have T := Lib.hid (show Below w.heap.size w wn from by rw [hwn]; exact Below.refl _ _)
  clear hwn
  obtain ⟨g, hg⟩ : ∃ g, Array.size (World.heap wn) = g := ⟨_, rfl⟩
  have HGg := Lib.hid hg
  have hTg : w.heap.size ≤ g := by rw [← hg]; exact T.out.size
  have Tn := Lib.hid (show Below w.heap.size w (((wn.alloc (.cells #[.slice a1 n2 k1, .slice a2 n2 k2, .slice a3 n2 k3] 25)).alloc (.cells #[.int .i64 (f), .int .i64 (d)] 27)).alloc (.cells #[.slice none 0 0, .slice none 0 0, .slice none 0 0] 25)) from (Below.al (Below.al (Below.al T.out (.cells #[.slice a1 n2 k1, .slice a2 n2 k2, .slice a3 n2 k3] 25)) (.cells #[.int .i64 (f), .int .i64 (d)] 27)) (.cells #[.slice none 0 0, .slice none 0 0, .slice none 0 0] 25)))
  have CB := Lib.hid (show Bx (((wn.alloc (.cells #[.slice a1 n2 k1, .slice a2 n2 k2, .slice a3 n2 k3] 25)).alloc (.cells #[.int .i64 (f), .int .i64 (d)] 27)).alloc (.cells #[.slice none 0 0, .slice none 0 0, .slice none 0 0] 25)) g (.slice a1 n2 k1) (.slice a2 n2 k2) (.slice a3 n2 k3) from by have h9 := (Bx.al (Bx.al (Bx.new wn (.slice a1 n2 k1) (.slice a2 n2 k2) (.slice a3 n2 k3) 25) (.cells #[.int .i64 (f), .int .i64 (d)] 27)) (.cells #[.slice none 0 0, .slice none 0 0, .slice none 0 0] 25)); simp only [World.size_alloc, hg, Nat.add_assoc, Nat.reduceAdd] at h9; exact h9)
  have SB := Lib.hid (show Box (((wn.alloc (.cells #[.slice a1 n2 k1, .slice a2 n2 k2, .slice a3 n2 k3] 25)).alloc (.cells #[.int .i64 (f), .int .i64 (d)] 27)).alloc (.cells #[.slice none 0 0, .slice none 0 0, .slice none 0 0] 25)) (g + 1) (f) (d) from by have h9 := (Box.al (Box.new (wn.alloc (.cells #[.slice a1 n2 k1, .slice a2 n2 k2, .slice a3 n2 k3] 25)) (f) (d) 27) (.cells #[.slice none 0 0, .slice none 0 0, .slice none 0 0] 25)); simp only [World.size_alloc, hg, Nat.add_assoc, Nat.reduceAdd] at h9; exact h9)
  have RB := Lib.hid (show Bx (((wn.alloc (.cells #[.slice a1 n2 k1, .slice a2 n2 k2, .slice a3 n2 k3] 25)).alloc (.cells #[.int .i64 (f), .int .i64 (d)] 27)).alloc (.cells #[.slice none 0 0, .slice none 0 0, .slice none 0 0] 25)) (g + 2) (.slice none 0 0) (.slice none 0 0) (.slice none 0 0) from by have h9 := (Bx.new ((wn.alloc (.cells #[.slice a1 n2 k1, .slice a2 n2 k2, .slice a3 n2 k3] 25)).alloc (.cells #[.int .i64 (f), .int .i64 (d)] 27)) (.slice none 0 0) (.slice none 0 0) (.slice none 0 0) 25); simp only [World.size_alloc, hg, Nat.add_assoc, Nat.reduceAdd] at h9; exact h9)
  have HZg := Lib.hid (show ((((wn.alloc (.cells #[.slice a1 n2 k1, .slice a2 n2 k2, .slice a3 n2 k3] 25)).alloc (.cells #[.int .i64 (f), .int .i64 (d)] 27)).alloc (.cells #[.slice none 0 0, .slice none 0 0, .slice none 0 0] 25))).heap.size = g + 3 from by simp only [World.size_alloc, hg, Nat.add_assoc, Nat.reduceAdd])
  clear hg
  clear T
  have T := Tn
  clear Tn
  go_enter Try.func15, Try.ntmps15
  obtain ⟨⟨c0, c1, c2⟩, -⟩ := CB.out
  go_wp2_with fail
  rw [HGg.out]
  refine Calls.mono (iCallsValid_t a1 n2 k1 a2 n2 k2 a3 n2 k3 x _ (Cal.below X0.out T.out) HS.out) ?_
  intro e wn hh
  obtain ⟨he, hb⟩ := (by first | exact hh | exact Ro.mk hh | exact St.mk hh | exact LawOk.mk' hh : Mk _ _ e wn)
  subst he
  have Tn : Hid (Below w.heap.size w wn) := below_next T.out hb
  have CBn : Hid _ := Bx.below CB.out hb
  have SBn : Hid _ := Box.below SB.out hb
  have RBn : Hid _ := Bx.below RB.out hb
  clear hb hh c0 c1 c2
  clear T CB SB RB
  have T := Tn
  have CB := CBn
  have SB := SBn
  have RB := RBn
  clear Tn CBn SBn RBn
  obtain ⟨⟨c0, c1, c2⟩, -⟩ := CB.out
  obtain ⟨⟨d0, d1⟩, df0, df1⟩ := SB.out
  go_wp2_with fail
  refine Calls.mono (isPlace_f n2 f d _ q8 HP.out) ?_
  intro e wn hh
  obtain ⟨he, hb⟩ := (by first | exact hh | exact Ro.mk hh | exact St.mk hh | exact LawOk.mk' hh : Mk _ _ e wn)
  subst he
  have Tn : Hid (Below w.heap.size w wn) := below_next T.out hb
  have CBn : Hid _ := Bx.below CB.out hb
  have SBn : Hid _ := Box.below SB.out hb
  have RBn : Hid _ := Bx.below RB.out hb
  clear hb hh c0 c1 c2 d0 d1 df0 df1
  clear T CB SB RB
  have T := Tn
  have CB := CBn
  have SB := SBn
  have RB := RBn
  clear Tn CBn SBn RBn
  obtain ⟨⟨c0, c1, c2⟩, hf⟩ := RB.out
  have f0 := hf 0
  have f1 := hf 1
  have f2 := hf 2
  clear hf
  go_wp2_with fail
  have N := newC_zero (r := g + 2) T.out (by omega) id
  exact bodyPost_ret (v := .agg #[.slice none 0 0, .slice none 0 0, .slice none 0 0]) (by simp [results, Try.results15, go_sem, c0, c1, c2]) rfl N
set_option maxHeartbeats 4000000 in
theorem iServeStop_u (a1 : Option Addr) (n1 k1 : Nat) (a2 : Option Addr) (n2 k2 : Nat) (a3 : Option Addr) (n3 k3 : Nat) (x : Cs) (f : Nat) (w : World) (hX : Cal w a1 n1 a2 n2 a3 n3 x) (h : SK x f (1)) : Calls Try.prog 15 #[(.agg #[.slice a1 n1 k1, .slice a2 n2 k2, .slice a3 n3 k3]), (Value.agg #[.int .i64 (f), .int .i64 (1)])] w (NewC w (srv x f true) id) := by
  have X0 := Lib.hid hX
  have hv := h.1
  obtain ⟨rfl, rfl, q1, q8, q3⟩ := CV.plen hv hX
  have hf : f < n2 := by have := h.2.1.2; omega
  have hfi : (f : Int) < 8 := by omega
  have hfi0 : (0 : Int) ≤ f := by omega
  have HS := Lib.hid hv
  have HP := Lib.hid (show PL n2 f (1) from ⟨by omega, by omega, h.2.2⟩)
  have l1 := hX.1.1
  have l2 := hX.2.1.1
  have l3 := hX.2.2.1
  obtain ⟨lp1, lp2, lp3⟩ := srv_len x f true
  have HY := Lib.hid (csOf_rw3 (x := srv x f true) q8 (by omega) (by omega) (by omega))
  have P1 := Lib.hid (fun i hi => rw3_put (x := x) (k := 2) (j := f) false (by omega) hf q8 l1 l2 l3 i hi)
  obtain ⟨m1, m2, m3⟩ := cput_len x 2 f false
  have P2 := Lib.hid (fun i hi => rw3_put (x := cput x 2 f false) (k := 0) (j := f) false (by omega) hf q8 (by omega) (by omega) (by omega) i hi)
  have HL := Lib.hid (show (srv x f true).u.length = n2 ∧ (srv x f true).d.length = n2 ∧ (srv x f true).c.length = n2 from ⟨by omega, by omega, by omega⟩)
  clear h hv hX q3 l1 l2 l3 lp1 lp2 lp3 m1 m2 m3
  refine at_base fun wn hwn => ?_
  have T := Lib.hid (show Below w.heap.size w wn from by rw [hwn]; exact Below.refl _ _)
  clear hwn
  obtain ⟨g, hg⟩ : ∃ g, Array.size (World.heap wn) = g := ⟨_, rfl⟩
  have HGg := Lib.hid hg
  have hTg : w.heap.size ≤ g := by rw [← hg]; exact T.out.size
  have Tn := Lib.hid (show Below w.heap.size w (((wn.alloc (.cells #[.slice a1 n2 k1, .slice a2 n2 k2, .slice a3 n2 k3] 25)).alloc (.cells #[.int .i64 (f), .int .i64 (1)] 27)).alloc (.cells #[.slice none 0 0, .slice none 0 0, .slice none 0 0] 25)) from (Below.al (Below.al (Below.al T.out (.cells #[.slice a1 n2 k1, .slice a2 n2 k2, .slice a3 n2 k3] 25)) (.cells #[.int .i64 (f), .int .i64 (1)] 27)) (.cells #[.slice none 0 0, .slice none 0 0, .slice none 0 0] 25)))
  have CB := Lib.hid (show Bx (((wn.alloc (.cells #[.slice a1 n2 k1, .slice a2 n2 k2, .slice a3 n2 k3] 25)).alloc (.cells #[.int .i64 (f), .int .i64 (1)] 27)).alloc (.cells #[.slice none 0 0, .slice none 0 0, .slice none 0 0] 25)) g (.slice a1 n2 k1) (.slice a2 n2 k2) (.slice a3 n2 k3) from by have h9 := (Bx.al (Bx.al (Bx.new wn (.slice a1 n2 k1) (.slice a2 n2 k2) (.slice a3 n2 k3) 25) (.cells #[.int .i64 (f), .int .i64 (1)] 27)) (.cells #[.slice none 0 0, .slice none 0 0, .slice none 0 0] 25)); simp only [World.size_alloc, hg, Nat.add_assoc, Nat.reduceAdd] at h9; exact h9)
  have SB := Lib.hid (show Box (((wn.alloc (.cells #[.slice a1 n2 k1, .slice a2 n2 k2, .slice a3 n2 k3] 25)).alloc (.cells #[.int .i64 (f), .int .i64 (1)] 27)).alloc (.cells #[.slice none 0 0, .slice none 0 0, .slice none 0 0] 25)) (g + 1) (f) (1) from by have h9 := (Box.al (Box.new (wn.alloc (.cells #[.slice a1 n2 k1, .slice a2 n2 k2, .slice a3 n2 k3] 25)) (f) (1) 27) (.cells #[.slice none 0 0, .slice none 0 0, .slice none 0 0] 25)); simp only [World.size_alloc, hg, Nat.add_assoc, Nat.reduceAdd] at h9; exact h9)
  have RB := Lib.hid (show Bx (((wn.alloc (.cells #[.slice a1 n2 k1, .slice a2 n2 k2, .slice a3 n2 k3] 25)).alloc (.cells #[.int .i64 (f), .int .i64 (1)] 27)).alloc (.cells #[.slice none 0 0, .slice none 0 0, .slice none 0 0] 25)) (g + 2) (.slice none 0 0) (.slice none 0 0) (.slice none 0 0) from by have h9 := (Bx.new ((wn.alloc (.cells #[.slice a1 n2 k1, .slice a2 n2 k2, .slice a3 n2 k3] 25)).alloc (.cells #[.int .i64 (f), .int .i64 (1)] 27)) (.slice none 0 0) (.slice none 0 0) (.slice none 0 0) 25); simp only [World.size_alloc, hg, Nat.add_assoc, Nat.reduceAdd] at h9; exact h9)
  have HZg := Lib.hid (show ((((wn.alloc (.cells #[.slice a1 n2 k1, .slice a2 n2 k2, .slice a3 n2 k3] 25)).alloc (.cells #[.int .i64 (f), .int .i64 (1)] 27)).alloc (.cells #[.slice none 0 0, .slice none 0 0, .slice none 0 0] 25))).heap.size = g + 3 from by simp only [World.size_alloc, hg, Nat.add_assoc, Nat.reduceAdd])
  clear hg
  clear T
  have T := Tn
  clear Tn
  go_enter Try.func15, Try.ntmps15
  obtain ⟨⟨c0, c1, c2⟩, -⟩ := CB.out
  go_wp2_with fail
  rw [HGg.out]
  refine Calls.mono (iCallsValid_t a1 n2 k1 a2 n2 k2 a3 n2 k3 x _ (Cal.below X0.out T.out) HS.out) ?_
  intro e wn hh
  obtain ⟨he, hb⟩ := (by first | exact hh | exact Ro.mk hh | exact St.mk hh | exact LawOk.mk' hh : Mk _ _ e wn)
  subst he
  have Tn : Hid (Below w.heap.size w wn) := below_next T.out hb
  have CBn : Hid _ := Bx.below CB.out hb
  have SBn : Hid _ := Box.below SB.out hb
  have RBn : Hid _ := Bx.below RB.out hb
  clear hb hh c0 c1 c2
  clear T CB SB RB
  have T := Tn
  have CB := CBn
  have SB := SBn
  have RB := RBn
  clear Tn CBn SBn RBn
  obtain ⟨⟨c0, c1, c2⟩, -⟩ := CB.out
  obtain ⟨⟨d0, d1⟩, df0, df1⟩ := SB.out
  go_wp2_with fail
  refine Calls.mono (isPlace_t n2 f (1) _ q8 HP.out) ?_
  intro e wn hh
  obtain ⟨he, hb⟩ := (by first | exact hh | exact Ro.mk hh | exact St.mk hh | exact LawOk.mk' hh : Mk _ _ e wn)
  subst he
  have Tn : Hid (Below w.heap.size w wn) := below_next T.out hb
  have CBn : Hid _ := Bx.below CB.out hb
  have SBn : Hid _ := Box.below SB.out hb
  have RBn : Hid _ := Bx.below RB.out hb
  clear hb hh c0 c1 c2 d0 d1 df0 df1
  clear T CB SB RB
  have T := Tn
  have CB := CBn
  have SB := SBn
  have RB := RBn
  clear Tn CBn SBn RBn
  obtain ⟨⟨c0, c1, c2⟩, -⟩ := CB.out
  go_wp2_with fail
  refine Calls.mono (rowsOf_c a1 n2 k1 a2 n2 k2 a3 n2 k3 x _ (Cal.below X0.out T.out) q8 q8 q8) ?_
  intro e wn hh
  obtain ⟨he, hb⟩ := (by first | exact hh | exact Ro.mk hh | exact St.mk hh | exact LawOk.mk' hh : Mk _ _ e wn)
  subst he
  have Tn : Hid (Below w.heap.size w wn) := below_next T.out hb
  have CBn : Hid _ := Bx.below CB.out hb
  have SBn : Hid _ := Box.below SB.out hb
  have RBn : Hid _ := Bx.below RB.out hb
  clear hb hh c0 c1 c2
  clear T CB SB RB
  have T := Tn
  have CB := CBn
  have SB := SBn
  have RB := RBn
  clear Tn CBn SBn RBn
  have hltCBG := Bx.lt CB.out
  have hltSBG := Box.lt SB.out
  have hltRBG := Bx.lt RB.out
  have hWG := T.out.size
  obtain ⟨G, hG⟩ : ∃ G, Array.size (World.heap wn) = G := ⟨_, rfl⟩
  have HG : Hid _ := hG
  rw [hG] at hWG hltCBG hltSBG hltRBG
  have R0 : Hid (Rw (wn.alloc (.cells #[.bool false, .bool false, .bool false, .bool false, .bool false, .bool false, .bool false, .bool false, .bool false, .bool false, .bool false, .bool false, .bool false, .bool false, .bool false, .bool false, .bool false, .bool false, .bool false, .bool false, .bool false, .bool false, .bool false, .bool false] 60)) G 60 24 (fun _ => false)) := by rw [← hG]; exact Rw.new24 wn
  clear hG
  have Tn : Hid (Below w.heap.size w _) := Below.al T.out (.cells #[.bool false, .bool false, .bool false, .bool false, .bool false, .bool false, .bool false, .bool false, .bool false, .bool false, .bool false, .bool false, .bool false, .bool false, .bool false, .bool false, .bool false, .bool false, .bool false, .bool false, .bool false, .bool false, .bool false, .bool false] 60)
  have CBn : Hid _ := Bx.below CB.out ((Below.refl _ _).alloc (Nat.le_refl _) (.cells #[.bool false, .bool false, .bool false, .bool false, .bool false, .bool false, .bool false, .bool false, .bool false, .bool false, .bool false, .bool false, .bool false, .bool false, .bool false, .bool false, .bool false, .bool false, .bool false, .bool false, .bool false, .bool false, .bool false, .bool false] 60))
  have SBn : Hid _ := Box.below SB.out ((Below.refl _ _).alloc (Nat.le_refl _) (.cells #[.bool false, .bool false, .bool false, .bool false, .bool false, .bool false, .bool false, .bool false, .bool false, .bool false, .bool false, .bool false, .bool false, .bool false, .bool false, .bool false, .bool false, .bool false, .bool false, .bool false, .bool false, .bool false, .bool false, .bool false] 60))
  have RBn : Hid _ := Bx.below RB.out ((Below.refl _ _).alloc (Nat.le_refl _) (.cells #[.bool false, .bool false, .bool false, .bool false, .bool false, .bool false, .bool false, .bool false, .bool false, .bool false, .bool false, .bool false, .bool false, .bool false, .bool false, .bool false, .bool false, .bool false, .bool false, .bool false, .bool false, .bool false, .bool false, .bool false] 60))
  clear T CB SB RB
  have T := Tn
  have CB := CBn
  have SB := SBn
  have RB := RBn
  clear Tn CBn SBn RBn
  have F5 := Lib.hid (show (wn.alloc (.cells #[.bool false, .bool false, .bool false, .bool false, .bool false, .bool false, .bool false, .bool false, .bool false, .bool false, .bool false, .bool false, .bool false, .bool false, .bool false, .bool false, .bool false, .bool false, .bool false, .bool false, .bool false, .bool false, .bool false, .bool false] 60)).rowIs G 60 24 (fun i => .bool ((fun _ => false) i)) from R0.out)
  have hGe := HG.out
  go_wp2_with (with_reducible refine wpList_store_arr F5.out rfl rfl ?_)
  intro w1 hr ho
  have R := Lib.hid (show Rw w1 G 60 24 (rw3 x) from hr)
  have CBn := Lib.hid (Bx.out CB.out ho (.inl (by omega)))
  have SBn := Lib.hid (Box.out SB.out ho (.inl (by omega)))
  have RBn := Lib.hid (Bx.out RB.out ho (.inl (by omega)))
  have Tn := Lib.hid (Out.below T.out ho (by omega))
  clear hr ho F5 R0 CB SB RB T hGe HG
  have CB := CBn
  have SB := SBn
  have RB := RBn
  have T := Tn
  clear CBn SBn RBn Tn
  have ho := Out.set (w := w1) (q := G) (i := 16 + f) (lo := G) (hi := G + 1) (.bool false) (Nat.le_refl _) (by omega)
  have cc := Rw.cell R.out (i := 16 + f) (by omega)
  have ff := World.rowIs.frozen (show World.rowIs _ _ _ _ _ from R.out) (16 + f)
  have R2 := Lib.hid (show Rw (w1.setCell ⟨G, 16 + f, none⟩ (.bool false)) G 60 24 (rw3 (cput x 2 f false)) from World.rowIs.congr (World.rowIs.set (show World.rowIs _ _ _ _ _ from R.out) (16 + f) (.bool false)) fun i hi => by
    have := P1.out i hi
    rw [show rw3 (cput x 2 f false) i = rw3 (cput x ((2 : Nat) : Int) f false) i from rfl, ← this]
    by_cases e : i = 16 + f
    · rw [if_pos e, if_pos (by omega)]
    · rw [if_neg e, if_neg (by omega)])
  have CB2 := Lib.hid (Bx.out CB.out ho (.inl (by omega)))
  have SB2 := Lib.hid (Box.out SB.out ho (.inl (by omega)))
  have RB2 := Lib.hid (Bx.out RB.out ho (.inl (by omega)))
  have T2 := Lib.hid (Out.below T.out ho (by omega))
  obtain ⟨⟨d0, d1⟩, d2, d3⟩ := SB.out
  clear ho
  go_upto_region 5 with fail
  clear cc ff R CB SB RB T d0 d1 d2 d3
  have R := R2
  have CB := CB2
  have SB := SB2
  have RB := RB2
  have T := T2
  clear R2 CB2 SB2 RB2 T2
  generalize w1.setCell ⟨G, 16 + f, none⟩ (.bool false) = w2 at *
  obtain ⟨wn, hwq⟩ : ∃ w0 : World, w0 = w2 := ⟨_, rfl⟩
  subst hwq
  refine wp_region_quiet_late (C := fun w' => Below (World.heap (wn)).size (wn) w') 7 _ (by kernel_rfl) (by kernel_rfl) (by kernel_rfl) (by kernel_rfl) (by rfl) (by kernel_rfl) (by kernel_rfl) (by first | exact ⟨rfl, rfl, rfl, Nat.le_refl _, fun _ _ => rfl⟩ | exact Below.dw (by repeat (first | exact Below.refl _ _ | refine Below.al ?_ _ | refine Below.dr ?_ _ | refine Below.dw ?_ | refine Below.st ?_ (by first | exact Nat.le_refl _ | exact Nat.le_add_right _ _ | (simp; omega)) _ | (refine below_next ?_ (by assumption))))) ?_
  simp only [List.take_succ_cons, List.take_zero]
  repeat (go_big_quiet_step (first | (intro _; with_reducible exact rfl) | (intro hC; go_at_call 43; obtain ⟨⟨d0, d1⟩, -⟩ := Box.below SB.out hC; (refine Calls.mono (kindToGo_u _) ?_); (first | (rintro e wx ⟨rfl, hb⟩; exact ⟨rfl, below_next hC hb⟩) | (rintro e wx ⟨rfl, n, rfl⟩; exact ⟨rfl, Below.dr hC n⟩) | (rintro e wx ⟨rfl, rfl⟩; exact ⟨rfl, hC⟩))) | (intro hC; obtain ⟨⟨d0, d1⟩, -⟩ := Box.below SB.out hC; go_simp; rfl)))
  refine wpQuiet_nil ?_
  intro wq hq
  have hRG := Rw.lt R.out
  have Tn := Lib.hid (below_next T.out hq)
  have CBn := Lib.hid (Bx.below CB.out hq)
  have SBn := Lib.hid (Box.below SB.out hq)
  have RBn := Lib.hid (Bx.below RB.out hq)
  have Rn := Lib.hid (Rw.below R.out hq)
  clear hq
  clear T CB SB RB R
  have T := Tn
  have CB := CBn
  have SB := SBn
  have RB := RBn
  have R := Rn
  clear Tn CBn SBn RBn Rn
  obtain ⟨wn, hwq⟩ : ∃ w0, w0 = wq := ⟨_, rfl⟩
  subst hwq
  have ho := Out.set (w := wn) (q := G) (i := f) (lo := G) (hi := G + 1) (.bool false) (Nat.le_refl _) (by omega)
  have cc := Rw.cell R.out (i := f) (by omega)
  have ff := World.rowIs.frozen (show World.rowIs _ _ _ _ _ from R.out) (f)
  have R2 := Lib.hid (show (wn.setCell ⟨G, f, none⟩ (.bool false)).rowIs G 60 24 (fun i => .bool (rw3 (srv x f true) i)) from World.rowIs.congr (World.rowIs.set (show World.rowIs _ _ _ _ _ from R.out) (f) (.bool false)) fun i hi => by
    have := P2.out i hi
    rw [show srv x f true = cput (cput x 2 f false) ((0 : Nat) : Int) f false from rfl, ← this]
    by_cases e : i = f
    · rw [if_pos e, if_pos (by omega)]
    · rw [if_neg e, if_neg (by omega)])
  have CB2 := Lib.hid (Bx.out CB.out ho (.inl (by omega)))
  have RB2 := Lib.hid (Bx.out RB.out ho (.inl (by omega)))
  have T2 := Lib.hid (Out.below T.out ho (by omega))
  obtain ⟨⟨c0, c1, c2⟩, -⟩ := CB2.out
  clear ho
  go_wp2_with (with_reducible refine wpList_load_arr R2.out rfl ?_)
  clear cc ff c0 c1 c2 R CB SB RB T P1 P2
  have hRG2 := Lib.hid (World.rowIs.lt R2.out)
  generalize wn.setCell ⟨G, f, none⟩ (.bool false) = w3 at *
  have K := calls_c (rw3 (srv x f true)) n2 w3 q1 q8
  rw [HY.out] at K
  refine K.mono ?_
  rintro e w9 ⟨v1, v2, v3, rfl, hO, hb⟩
  obtain ⟨b1, t1', b2, t2', b3, t3', rfl, rfl, rfl, -⟩ := hO.open
  obtain ⟨⟨c0, c1, c2⟩, hf⟩ := Bx.below RB2.out hb
  have f0 := hf 0
  have f1 := hf 1
  have f2 := hf 2
  have N := Lib.hid (newC_end (w0 := w) (r := g + 2) hO (below_next T2.out hb) (by omega) (by have := hRG2.out; omega) id)
  clear hf hb hO K
  go_wp2_with fail
  exact bodyPost_ret (v := .agg #[.slice b1 _ t1', .slice b2 _ t2', .slice b3 _ t3']) (by simp [results, Try.results15, go_sem, c0, c1, c2]) rfl N.out
set_option maxHeartbeats 4000000 in
theorem iServeStop_d (a1 : Option Addr) (n1 k1 : Nat) (a2 : Option Addr) (n2 k2 : Nat) (a3 : Option Addr) (n3 k3 : Nat) (x : Cs) (f : Nat) (w : World) (hX : Cal w a1 n1 a2 n2 a3 n3 x) (h : SK x f (-1)) : Calls Try.prog 15 #[(.agg #[.slice a1 n1 k1, .slice a2 n2 k2, .slice a3 n3 k3]), (Value.agg #[.int .i64 (f), .int .i64 (-1)])] w (NewC w (srv x f false) id) := by
  have X0 := Lib.hid hX
  have hv := h.1
  obtain ⟨rfl, rfl, q1, q8, q3⟩ := CV.plen hv hX
  have hf : f < n2 := by have := h.2.1.2; omega
  have hfi : (f : Int) < 8 := by omega
  have hfi0 : (0 : Int) ≤ f := by omega
  have HS := Lib.hid hv
  have HP := Lib.hid (show PL n2 f (-1) from ⟨by omega, by omega, h.2.2⟩)
  have l1 := hX.1.1
  have l2 := hX.2.1.1
  have l3 := hX.2.2.1
  obtain ⟨lp1, lp2, lp3⟩ := srv_len x f false
  have HY := Lib.hid (csOf_rw3 (x := srv x f false) q8 (by omega) (by omega) (by omega))
  have P1 := Lib.hid (fun i hi => rw3_put (x := x) (k := 2) (j := f) false (by omega) hf q8 l1 l2 l3 i hi)
  obtain ⟨m1, m2, m3⟩ := cput_len x 2 f false
  have P2 := Lib.hid (fun i hi => rw3_put (x := cput x 2 f false) (k := 1) (j := f) false (by omega) hf q8 (by omega) (by omega) (by omega) i hi)
  have HL := Lib.hid (show (srv x f false).u.length = n2 ∧ (srv x f false).d.length = n2 ∧ (srv x f false).c.length = n2 from ⟨by omega, by omega, by omega⟩)
  clear h hv hX q3 l1 l2 l3 lp1 lp2 lp3 m1 m2 m3
  refine at_base fun wn hwn => ?_
  have T := Lib.hid (show Below w.heap.size w wn from by rw [hwn]; exact Below.refl _ _)
  clear hwn
  obtain ⟨g, hg⟩ : ∃ g, Array.size (World.heap wn) = g := ⟨_, rfl⟩
  have HGg := Lib.hid hg
  have hTg : w.heap.size ≤ g := by rw [← hg]; exact T.out.size
  have Tn := Lib.hid (show Below w.heap.size w (((wn.alloc (.cells #[.slice a1 n2 k1, .slice a2 n2 k2, .slice a3 n2 k3] 25)).alloc (.cells #[.int .i64 (f), .int .i64 (-1)] 27)).alloc (.cells #[.slice none 0 0, .slice none 0 0, .slice none 0 0] 25)) from (Below.al (Below.al (Below.al T.out (.cells #[.slice a1 n2 k1, .slice a2 n2 k2, .slice a3 n2 k3] 25)) (.cells #[.int .i64 (f), .int .i64 (-1)] 27)) (.cells #[.slice none 0 0, .slice none 0 0, .slice none 0 0] 25)))
  have CB := Lib.hid (show Bx (((wn.alloc (.cells #[.slice a1 n2 k1, .slice a2 n2 k2, .slice a3 n2 k3] 25)).alloc (.cells #[.int .i64 (f), .int .i64 (-1)] 27)).alloc (.cells #[.slice none 0 0, .slice none 0 0, .slice none 0 0] 25)) g (.slice a1 n2 k1) (.slice a2 n2 k2) (.slice a3 n2 k3) from by have h9 := (Bx.al (Bx.al (Bx.new wn (.slice a1 n2 k1) (.slice a2 n2 k2) (.slice a3 n2 k3) 25) (.cells #[.int .i64 (f), .int .i64 (-1)] 27)) (.cells #[.slice none 0 0, .slice none 0 0, .slice none 0 0] 25)); simp only [World.size_alloc, hg, Nat.add_assoc, Nat.reduceAdd] at h9; exact h9)
  have SB := Lib.hid (show Box (((wn.alloc (.cells #[.slice a1 n2 k1, .slice a2 n2 k2, .slice a3 n2 k3] 25)).alloc (.cells #[.int .i64 (f), .int .i64 (-1)] 27)).alloc (.cells #[.slice none 0 0, .slice none 0 0, .slice none 0 0] 25)) (g + 1) (f) (-1) from by have h9 := (Box.al (Box.new (wn.alloc (.cells #[.slice a1 n2 k1, .slice a2 n2 k2, .slice a3 n2 k3] 25)) (f) (-1) 27) (.cells #[.slice none 0 0, .slice none 0 0, .slice none 0 0] 25)); simp only [World.size_alloc, hg, Nat.add_assoc, Nat.reduceAdd] at h9; exact h9)
  have RB := Lib.hid (show Bx (((wn.alloc (.cells #[.slice a1 n2 k1, .slice a2 n2 k2, .slice a3 n2 k3] 25)).alloc (.cells #[.int .i64 (f), .int .i64 (-1)] 27)).alloc (.cells #[.slice none 0 0, .slice none 0 0, .slice none 0 0] 25)) (g + 2) (.slice none 0 0) (.slice none 0 0) (.slice none 0 0) from by have h9 := (Bx.new ((wn.alloc (.cells #[.slice a1 n2 k1, .slice a2 n2 k2, .slice a3 n2 k3] 25)).alloc (.cells #[.int .i64 (f), .int .i64 (-1)] 27)) (.slice none 0 0) (.slice none 0 0) (.slice none 0 0) 25); simp only [World.size_alloc, hg, Nat.add_assoc, Nat.reduceAdd] at h9; exact h9)
  have HZg := Lib.hid (show ((((wn.alloc (.cells #[.slice a1 n2 k1, .slice a2 n2 k2, .slice a3 n2 k3] 25)).alloc (.cells #[.int .i64 (f), .int .i64 (-1)] 27)).alloc (.cells #[.slice none 0 0, .slice none 0 0, .slice none 0 0] 25))).heap.size = g + 3 from by simp only [World.size_alloc, hg, Nat.add_assoc, Nat.reduceAdd])
  clear hg
  clear T
  have T := Tn
  clear Tn
  go_enter Try.func15, Try.ntmps15
  obtain ⟨⟨c0, c1, c2⟩, -⟩ := CB.out
  go_wp2_with fail
  rw [HGg.out]
  refine Calls.mono (iCallsValid_t a1 n2 k1 a2 n2 k2 a3 n2 k3 x _ (Cal.below X0.out T.out) HS.out) ?_
  intro e wn hh
  obtain ⟨he, hb⟩ := (by first | exact hh | exact Ro.mk hh | exact St.mk hh | exact LawOk.mk' hh : Mk _ _ e wn)
  subst he
  have Tn : Hid (Below w.heap.size w wn) := below_next T.out hb
  have CBn : Hid _ := Bx.below CB.out hb
  have SBn : Hid _ := Box.below SB.out hb
  have RBn : Hid _ := Bx.below RB.out hb
  clear hb hh c0 c1 c2
  clear T CB SB RB
  have T := Tn
  have CB := CBn
  have SB := SBn
  have RB := RBn
  clear Tn CBn SBn RBn
  obtain ⟨⟨c0, c1, c2⟩, -⟩ := CB.out
  obtain ⟨⟨d0, d1⟩, df0, df1⟩ := SB.out
  go_wp2_with fail
  refine Calls.mono (isPlace_t n2 f (-1) _ q8 HP.out) ?_
  intro e wn hh
  obtain ⟨he, hb⟩ := (by first | exact hh | exact Ro.mk hh | exact St.mk hh | exact LawOk.mk' hh : Mk _ _ e wn)
  subst he
  have Tn : Hid (Below w.heap.size w wn) := below_next T.out hb
  have CBn : Hid _ := Bx.below CB.out hb
  have SBn : Hid _ := Box.below SB.out hb
  have RBn : Hid _ := Bx.below RB.out hb
  clear hb hh c0 c1 c2 d0 d1 df0 df1
  clear T CB SB RB
  have T := Tn
  have CB := CBn
  have SB := SBn
  have RB := RBn
  clear Tn CBn SBn RBn
  obtain ⟨⟨c0, c1, c2⟩, -⟩ := CB.out
  go_wp2_with fail
  refine Calls.mono (rowsOf_c a1 n2 k1 a2 n2 k2 a3 n2 k3 x _ (Cal.below X0.out T.out) q8 q8 q8) ?_
  intro e wn hh
  obtain ⟨he, hb⟩ := (by first | exact hh | exact Ro.mk hh | exact St.mk hh | exact LawOk.mk' hh : Mk _ _ e wn)
  subst he
  have Tn : Hid (Below w.heap.size w wn) := below_next T.out hb
  have CBn : Hid _ := Bx.below CB.out hb
  have SBn : Hid _ := Box.below SB.out hb
  have RBn : Hid _ := Bx.below RB.out hb
  clear hb hh c0 c1 c2
  clear T CB SB RB
  have T := Tn
  have CB := CBn
  have SB := SBn
  have RB := RBn
  clear Tn CBn SBn RBn
  have hltCBG := Bx.lt CB.out
  have hltSBG := Box.lt SB.out
  have hltRBG := Bx.lt RB.out
  have hWG := T.out.size
  obtain ⟨G, hG⟩ : ∃ G, Array.size (World.heap wn) = G := ⟨_, rfl⟩
  have HG : Hid _ := hG
  rw [hG] at hWG hltCBG hltSBG hltRBG
  have R0 : Hid (Rw (wn.alloc (.cells #[.bool false, .bool false, .bool false, .bool false, .bool false, .bool false, .bool false, .bool false, .bool false, .bool false, .bool false, .bool false, .bool false, .bool false, .bool false, .bool false, .bool false, .bool false, .bool false, .bool false, .bool false, .bool false, .bool false, .bool false] 60)) G 60 24 (fun _ => false)) := by rw [← hG]; exact Rw.new24 wn
  clear hG
  have Tn : Hid (Below w.heap.size w _) := Below.al T.out (.cells #[.bool false, .bool false, .bool false, .bool false, .bool false, .bool false, .bool false, .bool false, .bool false, .bool false, .bool false, .bool false, .bool false, .bool false, .bool false, .bool false, .bool false, .bool false, .bool false, .bool false, .bool false, .bool false, .bool false, .bool false] 60)
  have CBn : Hid _ := Bx.below CB.out ((Below.refl _ _).alloc (Nat.le_refl _) (.cells #[.bool false, .bool false, .bool false, .bool false, .bool false, .bool false, .bool false, .bool false, .bool false, .bool false, .bool false, .bool false, .bool false, .bool false, .bool false, .bool false, .bool false, .bool false, .bool false, .bool false, .bool false, .bool false, .bool false, .bool false] 60))
  have SBn : Hid _ := Box.below SB.out ((Below.refl _ _).alloc (Nat.le_refl _) (.cells #[.bool false, .bool false, .bool false, .bool false, .bool false, .bool false, .bool false, .bool false, .bool false, .bool false, .bool false, .bool false, .bool false, .bool false, .bool false, .bool false, .bool false, .bool false, .bool false, .bool false, .bool false, .bool false, .bool false, .bool false] 60))
  have RBn : Hid _ := Bx.below RB.out ((Below.refl _ _).alloc (Nat.le_refl _) (.cells #[.bool false, .bool false, .bool false, .bool false, .bool false, .bool false, .bool false, .bool false, .bool false, .bool false, .bool false, .bool false, .bool false, .bool false, .bool false, .bool false, .bool false, .bool false, .bool false, .bool false, .bool false, .bool false, .bool false, .bool false] 60))
  clear T CB SB RB
  have T := Tn
  have CB := CBn
  have SB := SBn
  have RB := RBn
  clear Tn CBn SBn RBn
  have F5 := Lib.hid (show (wn.alloc (.cells #[.bool false, .bool false, .bool false, .bool false, .bool false, .bool false, .bool false, .bool false, .bool false, .bool false, .bool false, .bool false, .bool false, .bool false, .bool false, .bool false, .bool false, .bool false, .bool false, .bool false, .bool false, .bool false, .bool false, .bool false] 60)).rowIs G 60 24 (fun i => .bool ((fun _ => false) i)) from R0.out)
  have hGe := HG.out
  go_wp2_with (with_reducible refine wpList_store_arr F5.out rfl rfl ?_)
  intro w1 hr ho
  have R := Lib.hid (show Rw w1 G 60 24 (rw3 x) from hr)
  have CBn := Lib.hid (Bx.out CB.out ho (.inl (by omega)))
  have SBn := Lib.hid (Box.out SB.out ho (.inl (by omega)))
  have RBn := Lib.hid (Bx.out RB.out ho (.inl (by omega)))
  have Tn := Lib.hid (Out.below T.out ho (by omega))
  clear hr ho F5 R0 CB SB RB T hGe HG
  have CB := CBn
  have SB := SBn
  have RB := RBn
  have T := Tn
  clear CBn SBn RBn Tn
  have ho := Out.set (w := w1) (q := G) (i := 16 + f) (lo := G) (hi := G + 1) (.bool false) (Nat.le_refl _) (by omega)
  have cc := Rw.cell R.out (i := 16 + f) (by omega)
  have ff := World.rowIs.frozen (show World.rowIs _ _ _ _ _ from R.out) (16 + f)
  have R2 := Lib.hid (show Rw (w1.setCell ⟨G, 16 + f, none⟩ (.bool false)) G 60 24 (rw3 (cput x 2 f false)) from World.rowIs.congr (World.rowIs.set (show World.rowIs _ _ _ _ _ from R.out) (16 + f) (.bool false)) fun i hi => by
    have := P1.out i hi
    rw [show rw3 (cput x 2 f false) i = rw3 (cput x ((2 : Nat) : Int) f false) i from rfl, ← this]
    by_cases e : i = 16 + f
    · rw [if_pos e, if_pos (by omega)]
    · rw [if_neg e, if_neg (by omega)])
  have CB2 := Lib.hid (Bx.out CB.out ho (.inl (by omega)))
  have SB2 := Lib.hid (Box.out SB.out ho (.inl (by omega)))
  have RB2 := Lib.hid (Bx.out RB.out ho (.inl (by omega)))
  have T2 := Lib.hid (Out.below T.out ho (by omega))
  obtain ⟨⟨d0, d1⟩, d2, d3⟩ := SB.out
  clear ho
  go_upto_region 5 with fail
  clear cc ff R CB SB RB T d0 d1 d2 d3
  have R := R2
  have CB := CB2
  have SB := SB2
  have RB := RB2
  have T := T2
  clear R2 CB2 SB2 RB2 T2
  generalize w1.setCell ⟨G, 16 + f, none⟩ (.bool false) = w2 at *
  obtain ⟨wn, hwq⟩ : ∃ w0 : World, w0 = w2 := ⟨_, rfl⟩
  subst hwq
  refine wp_region_quiet_late (C := fun w' => Below (World.heap (wn)).size (wn) w') 7 _ (by kernel_rfl) (by kernel_rfl) (by kernel_rfl) (by kernel_rfl) (by rfl) (by kernel_rfl) (by kernel_rfl) (by first | exact ⟨rfl, rfl, rfl, Nat.le_refl _, fun _ _ => rfl⟩ | exact Below.dw (by repeat (first | exact Below.refl _ _ | refine Below.al ?_ _ | refine Below.dr ?_ _ | refine Below.dw ?_ | refine Below.st ?_ (by first | exact Nat.le_refl _ | exact Nat.le_add_right _ _ | (simp; omega)) _ | (refine below_next ?_ (by assumption))))) ?_
  simp only [List.take_succ_cons, List.take_zero]
  repeat (go_big_quiet_step (first | (intro _; with_reducible exact rfl) | (intro hC; go_at_call 43; obtain ⟨⟨d0, d1⟩, -⟩ := Box.below SB.out hC; (refine Calls.mono (kindToGo_d _) ?_); (first | (rintro e wx ⟨rfl, hb⟩; exact ⟨rfl, below_next hC hb⟩) | (rintro e wx ⟨rfl, n, rfl⟩; exact ⟨rfl, Below.dr hC n⟩) | (rintro e wx ⟨rfl, rfl⟩; exact ⟨rfl, hC⟩))) | (intro hC; obtain ⟨⟨d0, d1⟩, -⟩ := Box.below SB.out hC; go_simp; rfl)))
  refine wpQuiet_nil ?_
  intro wq hq
  have hRG := Rw.lt R.out
  have Tn := Lib.hid (below_next T.out hq)
  have CBn := Lib.hid (Bx.below CB.out hq)
  have SBn := Lib.hid (Box.below SB.out hq)
  have RBn := Lib.hid (Bx.below RB.out hq)
  have Rn := Lib.hid (Rw.below R.out hq)
  clear hq
  clear T CB SB RB R
  have T := Tn
  have CB := CBn
  have SB := SBn
  have RB := RBn
  have R := Rn
  clear Tn CBn SBn RBn Rn
  obtain ⟨wn, hwq⟩ : ∃ w0, w0 = wq := ⟨_, rfl⟩
  subst hwq
  have ho := Out.set (w := wn) (q := G) (i := 8 + f) (lo := G) (hi := G + 1) (.bool false) (Nat.le_refl _) (by omega)
  have cc := Rw.cell R.out (i := 8 + f) (by omega)
  have ff := World.rowIs.frozen (show World.rowIs _ _ _ _ _ from R.out) (8 + f)
  have R2 := Lib.hid (show (wn.setCell ⟨G, 8 + f, none⟩ (.bool false)).rowIs G 60 24 (fun i => .bool (rw3 (srv x f false) i)) from World.rowIs.congr (World.rowIs.set (show World.rowIs _ _ _ _ _ from R.out) (8 + f) (.bool false)) fun i hi => by
    have := P2.out i hi
    rw [show srv x f false = cput (cput x 2 f false) ((1 : Nat) : Int) f false from rfl, ← this]
    by_cases e : i = 8 + f
    · rw [if_pos e, if_pos (by omega)]
    · rw [if_neg e, if_neg (by omega)])
  have CB2 := Lib.hid (Bx.out CB.out ho (.inl (by omega)))
  have RB2 := Lib.hid (Bx.out RB.out ho (.inl (by omega)))
  have T2 := Lib.hid (Out.below T.out ho (by omega))
  obtain ⟨⟨c0, c1, c2⟩, -⟩ := CB2.out
  clear ho
  go_wp2_with (with_reducible refine wpList_load_arr R2.out rfl ?_)
  clear cc ff c0 c1 c2 R CB SB RB T P1 P2
  have hRG2 := Lib.hid (World.rowIs.lt R2.out)
  generalize wn.setCell ⟨G, 8 + f, none⟩ (.bool false) = w3 at *
  have K := calls_c (rw3 (srv x f false)) n2 w3 q1 q8
  rw [HY.out] at K
  refine K.mono ?_
  rintro e w9 ⟨v1, v2, v3, rfl, hO, hb⟩
  obtain ⟨b1, t1', b2, t2', b3, t3', rfl, rfl, rfl, -⟩ := hO.open
  obtain ⟨⟨c0, c1, c2⟩, hf⟩ := Bx.below RB2.out hb
  have f0 := hf 0
  have f1 := hf 1
  have f2 := hf 2
  have N := Lib.hid (newC_end (w0 := w) (r := g + 2) hO (below_next T2.out hb) (by omega) (by have := hRG2.out; omega) id)
  clear hf hb hO K
  go_wp2_with fail
  exact bodyPost_ret (v := .agg #[.slice b1 _ t1', .slice b2 _ t2', .slice b3 _ t3']) (by simp [results, Try.results15, go_sem, c0, c1, c2]) rfl N.out
theorem iServeStop_s (a1 : Option Addr) (n1 k1 : Nat) (a2 : Option Addr) (n2 k2 : Nat) (a3 : Option Addr) (n3 k3 : Nat) (x : Cs) (f : Nat) (up : Bool) (w : World) (hX : Cal w a1 n1 a2 n2 a3 n3 x) (h : SK x f (dI up)) : Calls Try.prog 15 #[(.agg #[.slice a1 n1 k1, .slice a2 n2 k2, .slice a3 n3 k3]), (Value.agg #[.int .i64 (f), .int .i64 (dI up)])] w (NewC w (srv x f up) id) := by
  cases up
  · exact iServeStop_d a1 n1 k1 a2 n2 k2 a3 n3 k3 x f w hX h
  · exact iServeStop_u a1 n1 k1 a2 n2 k2 a3 n3 k3 x f w hX h
theorem iServeStop_c (a1 : Option Addr) (n1 k1 : Nat) (a2 : Option Addr) (n2 k2 : Nat) (a3 : Option Addr) (n3 k3 : Nat) (x : Cs) (f d : Int) (w : World) (hX : Cal w a1 n1 a2 n2 a3 n3 x) : Calls Try.prog 15 #[(.agg #[.slice a1 n1 k1, .slice a2 n2 k2, .slice a3 n3 k3]), (Value.agg #[.int .i64 (f), .int .i64 (d)])] w (NewC w (svv x f d) id) := by
  by_cases h : SK x f d
  · obtain ⟨f, up, rfl, hf, rfl⟩ := SK.dir h
    rw [svv_t h]
    exact iServeStop_s a1 n1 k1 a2 n2 k2 a3 n3 k3 x f up w hX h
  · rw [svv_f h]
    exact iServeStop_f a1 n1 k1 a2 n2 k2 a3 n3 k3 x f d w hX h
end Go.Proofs.Ytkpginkkfobblaa

namespace Go.Proofs.Ytkpginkkfobblaa
open Go.RowKit
set_option linter.unusedVariables false

set_option maxHeartbeats 2000000 in
theorem iSweepStops_f (a1 : Option Addr) (n1 k1 : Nat) (a2 : Option Addr) (n2 k2 : Nat) (a3 : Option Addr) (n3 k3 : Nat) (x : Cs) (f d : Int) (w : World) (hX : Cal w a1 n1 a2 n2 a3 n3 x) (h : ¬ SK x f d) : Calls Try.prog 21 #[(.agg #[.slice a1 n1 k1, .slice a2 n2 k2, .slice a3 n3 k3]), (Value.agg #[.int .i64 (f), .int .i64 (d)])] w (DrawnS w []) := by
  have X0 := Lib.hid hX
  have K := fun w' (h : Cal w' a1 n1 a2 n2 a3 n3 x) => iNextStop_c a1 n1 k1 a2 n2 k2 a3 n3 k3 x f d w' h
  rw [nsv_f h] at K
  have HK := Lib.hid (show ∀ w' (h : Cal w' a1 n1 a2 n2 a3 n3 x), Calls Try.prog 10 #[(.agg #[.slice a1 n1 k1, .slice a2 n2 k2, .slice a3 n3 k3]), (Value.agg #[.int .i64 (f), .int .i64 (d)])] w' (Mk w' (Value.agg #[.int .i64 (-1), .int .i64 (0)])) from K)
  clear hX h K
  refine at_base fun wn hwn => ?_
  have T := Lib.hid (show Below w.heap.size w wn from by rw [hwn]; exact Below.refl _ _)
  clear hwn
  obtain ⟨g, hg⟩ : ∃ g, Array.size (World.heap wn) = g := ⟨_, rfl⟩
  have HGg := Lib.hid hg
  have hTg : w.heap.size ≤ g := by rw [← hg]; exact T.out.size
  have Tn := Lib.hid (show Below w.heap.size w ((wn.alloc (.cells #[.slice a1 n1 k1, .slice a2 n2 k2, .slice a3 n3 k3] 25)).alloc (.cells #[.int .i64 (f), .int .i64 (d)] 27)) from (Below.al (Below.al T.out (.cells #[.slice a1 n1 k1, .slice a2 n2 k2, .slice a3 n3 k3] 25)) (.cells #[.int .i64 (f), .int .i64 (d)] 27)))
  have CB := Lib.hid (show Bx ((wn.alloc (.cells #[.slice a1 n1 k1, .slice a2 n2 k2, .slice a3 n3 k3] 25)).alloc (.cells #[.int .i64 (f), .int .i64 (d)] 27)) g (.slice a1 n1 k1) (.slice a2 n2 k2) (.slice a3 n3 k3) from by have h9 := (Bx.al (Bx.new wn (.slice a1 n1 k1) (.slice a2 n2 k2) (.slice a3 n3 k3) 25) (.cells #[.int .i64 (f), .int .i64 (d)] 27)); simp only [World.size_alloc, hg, Nat.add_assoc, Nat.reduceAdd] at h9; exact h9)
  have SB := Lib.hid (show Box ((wn.alloc (.cells #[.slice a1 n1 k1, .slice a2 n2 k2, .slice a3 n3 k3] 25)).alloc (.cells #[.int .i64 (f), .int .i64 (d)] 27)) (g + 1) (f) (d) from by have h9 := (Box.new (wn.alloc (.cells #[.slice a1 n1 k1, .slice a2 n2 k2, .slice a3 n3 k3] 25)) (f) (d) 27); simp only [World.size_alloc, hg, Nat.add_assoc, Nat.reduceAdd] at h9; exact h9)
  have HZg := Lib.hid (show (((wn.alloc (.cells #[.slice a1 n1 k1, .slice a2 n2 k2, .slice a3 n3 k3] 25)).alloc (.cells #[.int .i64 (f), .int .i64 (d)] 27))).heap.size = g + 2 from by simp only [World.size_alloc, hg, Nat.add_assoc, Nat.reduceAdd])
  clear hg
  clear T
  have T := Tn
  clear Tn
  go_enter Try.func21, Try.ntmps21
  go_wp2_with fail
  rw [HGg.out]
  refine Calls.mono (HK.out _ (Cal.below X0.out T.out)) ?_
  intro e wn hh
  obtain ⟨he, hb⟩ := (by first | exact hh | exact Ro.mk hh | exact St.mk hh | exact LawOk.mk' hh : Mk _ _ e wn)
  subst he
  have Tn : Hid (Below w.heap.size w wn) := below_next T.out hb
  have CBn : Hid _ := Bx.below CB.out hb
  have SBn : Hid _ := Box.below SB.out hb
  clear hb hh
  clear T CB SB
  have T := Tn
  have CB := CBn
  have SB := SBn
  clear Tn CBn SBn
  have hltCBHN := Bx.lt CB.out
  have hltSBHN := Box.lt SB.out
  have hWHN := T.out.size
  obtain ⟨HN, hHN⟩ : ∃ HN, Array.size (World.heap wn) = HN := ⟨_, rfl⟩
  have HHN : Hid _ := hHN
  rw [hHN] at hWHN hltCBHN hltSBHN
  have NB : Hid (Box (wn.alloc (.cells #[.int .i64 (-1), .int .i64 0] 27)) HN (-1) 0) := by rw [← hHN]; exact Box.new _ _ _ _
  clear hHN
  have Tn : Hid (Below w.heap.size w _) := Below.al T.out (.cells #[.int .i64 (-1), .int .i64 0] 27)
  have CBn : Hid _ := Bx.below CB.out ((Below.refl _ _).alloc (Nat.le_refl _) (.cells #[.int .i64 (-1), .int .i64 0] 27))
  have SBn : Hid _ := Box.below SB.out ((Below.refl _ _).alloc (Nat.le_refl _) (.cells #[.int .i64 (-1), .int .i64 0] 27))
  clear T CB SB
  have T := Tn
  have CB := CBn
  have SB := SBn
  clear Tn CBn SBn
  go_wp2_with fail
  rw [HHN.out]
  go_loopw [5, 6] (fun v u wr => ∃ (_ : Nat), v = .slice none 0 0 ∧ u = .pointer (some ⟨HN, 0, none⟩) ∧ Below w.heap.size w wr ∧ Bx wr g (.slice a1 n1 k1) (.slice a2 n2 k2) (.slice a3 n3 k3) ∧ Box wr (g + 1) (f) (d) ∧ Box wr HN (-1) 0) (fun v u _ => 0)
  case atStart => exact ⟨0, rfl, rfl, T.out, CB.out, SB.out, NB.out⟩
  case' round =>
    clear T CB SB NB
    obtain ⟨z0, rfl, rfl, h9T, h9CB, h9SB, h9NB⟩ := hrel
    obtain ⟨wn, hwq⟩ : ∃ w0 : World, w0 = wr := ⟨_, rfl⟩
    rw [← hwq] at h9T h9CB h9SB h9NB ⊢
    clear hwq
    have T := Lib.hid h9T
    have CB := Lib.hid h9CB
    have SB := Lib.hid h9SB
    have NB := Lib.hid h9NB
    clear h9T h9CB h9SB h9NB
    obtain ⟨⟨c0, c1⟩, cf0, cf1⟩ := NB.out
    go_wp2_with fail
    go_ret
    exact ⟨_, rfl, OwnR.nil _ _, T.out⟩
set_option maxHeartbeats 4000000 in
theorem iSweepStops_t (a1 : Option Addr) (n1 k1 : Nat) (a2 : Option Addr) (n2 k2 : Nat) (a3 : Option Addr) (n3 k3 : Nat) (x : Cs) (f : Nat) (up : Bool) (w : World) (hX : Cal w a1 n1 a2 n2 a3 n3 x) (h : SK x f (dI up)) : Calls Try.prog 21 #[(.agg #[.slice a1 n1 k1, .slice a2 n2 k2, .slice a3 n3 k3]), (Value.agg #[.int .i64 (f), .int .i64 (dI up)])] w (DrawnS w (swl x f up 30)) := by
  have X0 := Lib.hid hX
  have hv := h.1
  obtain ⟨rfl, rfl, h3, h8, b1, o1, b2, o2, b3, o3, rfl, rfl, rfl⟩ := CV.rows hv hX
  have hf : f < x.c.length := by have := h.2.1.2; omega
  have n1 : 1 ≤ n2 := by rw [h3]; exact hv.1
  have K := fun w' (h : Cal w' (some ⟨b1, o1, none⟩) n2 (some ⟨b2, o2, none⟩) n2 (some ⟨b3, o3, none⟩) n2 x) => iNextStop_c (some ⟨b1, o1, none⟩) n2 k1 (some ⟨b2, o2, none⟩) n2 k2 (some ⟨b3, o3, none⟩) n2 k3 x f (dI up) w' h
  rw [nsv_t h] at K
  have hI : SWI (swl x f up 30) [] x (nx x f up) := swi_of (m := 30) hv hf (by have := cm_bd x; omega) (by have := cm_bd x; simp; omega) rfl
  have l1 : b1 < w.heap.size := World.block_lt_of_cell? w _ (BS.cell hX.1 (i := 0) (by omega))
  have l2 : b2 < w.heap.size := World.block_lt_of_cell? w _ (BS.cell hX.2.1 (i := 0) (by omega))
  have l3 : b3 < w.heap.size := World.block_lt_of_cell? w _ (BS.cell hX.2.2 (i := 0) (by omega))
  obtain ⟨L, hL⟩ : ∃ L, swl x f up 30 = L := ⟨_, rfl⟩
  obtain ⟨r, hr⟩ : ∃ r, nx x f up = r := ⟨_, rfl⟩
  rw [hL, hr] at hI
  rw [hr] at K
  rw [hL]
  have HK := Lib.hid K
  have HI := Lib.hid hI
  clear hX h K hI hL hr hv hf h3 n1
  refine at_base fun wn hwn => ?_
  have T := Lib.hid (show Below w.heap.size w wn from by rw [hwn]; exact Below.refl _ _)
  clear hwn
  obtain ⟨g, hg⟩ : ∃ g, Array.size (World.heap wn) = g := ⟨_, rfl⟩
  have HGg := Lib.hid hg
  have hTg : w.heap.size ≤ g := by rw [← hg]; exact T.out.size
  have Tn := Lib.hid (show Below w.heap.size w ((wn.alloc (.cells #[.slice (some ⟨b1, o1, none⟩) n2 k1, .slice (some ⟨b2, o2, none⟩) n2 k2, .slice (some ⟨b3, o3, none⟩) n2 k3] 25)).alloc (.cells #[.int .i64 (f), .int .i64 (dI up)] 27)) from (Below.al (Below.al T.out (.cells #[.slice (some ⟨b1, o1, none⟩) n2 k1, .slice (some ⟨b2, o2, none⟩) n2 k2, .slice (some ⟨b3, o3, none⟩) n2 k3] 25)) (.cells #[.int .i64 (f), .int .i64 (dI up)] 27)))
  have CB := Lib.hid (show Bx ((wn.alloc (.cells #[.slice (some ⟨b1, o1, none⟩) n2 k1, .slice (some ⟨b2, o2, none⟩) n2 k2, .slice (some ⟨b3, o3, none⟩) n2 k3] 25)).alloc (.cells #[.int .i64 (f), .int .i64 (dI up)] 27)) g (.slice (some ⟨b1, o1, none⟩) n2 k1) (.slice (some ⟨b2, o2, none⟩) n2 k2) (.slice (some ⟨b3, o3, none⟩) n2 k3) from by have h9 := (Bx.al (Bx.new wn (.slice (some ⟨b1, o1, none⟩) n2 k1) (.slice (some ⟨b2, o2, none⟩) n2 k2) (.slice (some ⟨b3, o3, none⟩) n2 k3) 25) (.cells #[.int .i64 (f), .int .i64 (dI up)] 27)); simp only [World.size_alloc, hg, Nat.add_assoc, Nat.reduceAdd] at h9; exact h9)
  have SB := Lib.hid (show Box ((wn.alloc (.cells #[.slice (some ⟨b1, o1, none⟩) n2 k1, .slice (some ⟨b2, o2, none⟩) n2 k2, .slice (some ⟨b3, o3, none⟩) n2 k3] 25)).alloc (.cells #[.int .i64 (f), .int .i64 (dI up)] 27)) (g + 1) (f) (dI up) from by have h9 := (Box.new (wn.alloc (.cells #[.slice (some ⟨b1, o1, none⟩) n2 k1, .slice (some ⟨b2, o2, none⟩) n2 k2, .slice (some ⟨b3, o3, none⟩) n2 k3] 25)) (f) (dI up) 27); simp only [World.size_alloc, hg, Nat.add_assoc, Nat.reduceAdd] at h9; exact h9)
  have HZg := Lib.hid (show (((wn.alloc (.cells #[.slice (some ⟨b1, o1, none⟩) n2 k1, .slice (some ⟨b2, o2, none⟩) n2 k2, .slice (some ⟨b3, o3, none⟩) n2 k3] 25)).alloc (.cells #[.int .i64 (f), .int .i64 (dI up)] 27))).heap.size = g + 2 from by simp only [World.size_alloc, hg, Nat.add_assoc, Nat.reduceAdd])
  clear hg
  clear T
  have T := Tn
  clear Tn
  go_enter Try.func21, Try.ntmps21
  go_wp2_with fail
  rw [HGg.out]
  refine Calls.mono (HK.out _ (Cal.below X0.out T.out)) ?_
  intro e wn hh
  obtain ⟨he, hb⟩ := (by first | exact hh | exact Ro.mk hh | exact St.mk hh | exact LawOk.mk' hh : Mk _ _ e wn)
  subst he
  have Tn : Hid (Below w.heap.size w wn) := below_next T.out hb
  have CBn : Hid _ := Bx.below CB.out hb
  have SBn : Hid _ := Box.below SB.out hb
  clear hb hh
  clear T CB SB
  have T := Tn
  have CB := CBn
  have SB := SBn
  clear Tn CBn SBn
  clear SB
  have hltCBHN := Bx.lt CB.out
  have hWHN := T.out.size
  obtain ⟨HN, hHN⟩ : ∃ HN, Array.size (World.heap wn) = HN := ⟨_, rfl⟩
  have HHN : Hid _ := hHN
  rw [hHN] at hWHN hltCBHN
  have NB : Hid (Box (wn.alloc (.cells #[.int .i64 (oF r), .int .i64 (oD r)] 27)) HN (oF r) (oD r)) := by rw [← hHN]; exact Box.new _ _ _ _
  clear hHN
  have Tn : Hid (Below w.heap.size w _) := Below.al T.out (.cells #[.int .i64 (oF r), .int .i64 (oD r)] 27)
  have CBn : Hid _ := Bx.below CB.out ((Below.refl _ _).alloc (Nat.le_refl _) (.cells #[.int .i64 (oF r), .int .i64 (oD r)] 27))
  clear T CB
  have T := Tn
  have CB := CBn
  clear Tn CBn
  have X1 := Lib.hid (Cal.below X0.out T.out)
  have A0 := Lib.hid (show Away g HN HN (.slice none 0 0) (.slice (some ⟨b1, o1, none⟩) n2 k1) (.slice (some ⟨b2, o2, none⟩) n2 k2) (.slice (some ⟨b3, o3, none⟩) n2 k3) from by
    intro q hq
    have : q = b1 ∨ q = b2 ∨ q = b3 := by
      simp only [Value.ownBlock, Option.some.injEq] at hq
      omega
    exact ⟨by omega, by omega, by omega, fun e => by cases e⟩)
  go_wp2_with fail
  rw [HHN.out]
  go_loopw [5, 6] (fun v u wr => ∃ (acc : List (Nat × Bool)) (y : Cs) (r : Option (Nat × Bool)) (a1 a2 a3 : Option Addr) (j1 j2 j3 H : Nat), u = .pointer (some ⟨H, 0, none⟩) ∧ g < H ∧ SWI L acc y r ∧ OwnR 27 2 wr (g + 2) v acc.length (sfl acc) ∧ (∀ q, v.ownBlock = some q → q ≠ H) ∧ Away g H wr.heap.size v (.slice a1 n2 j1) (.slice a2 n2 j2) (.slice a3 n2 j3) ∧
    Cal wr a1 n2 a2 n2 a3 n2 y ∧ Bx wr g (.slice a1 n2 j1) (.slice a2 n2 j2) (.slice a3 n2 j3) ∧ Box wr H (oF r) (oD r) ∧ Below w.heap.size w wr) (fun v u _ => 30 - slen v)
  case atStart => exact ⟨[], x, r, some ⟨b1, o1, none⟩, some ⟨b2, o2, none⟩, some ⟨b3, o3, none⟩, k1, k2, k3, HN, rfl, by omega, HI.out, OwnR.nil _ _, (fun q e => by cases e), (by rw [World.size_alloc, HHN.out]; exact fun q hq => let ⟨h1, h2, h3, h4⟩ := A0.out q hq; ⟨h1, h2, by omega, h4⟩), X1.out, CB.out, NB.out, T.out⟩
  case round =>
    clear NB CB T HI A0 X1 HK X0
    obtain ⟨acc, y, r, a1, a2, a3, j1, j2, j3, H, rfl, hgH, hI, hO, hNe, hA, hX, hCB, hNB, hT⟩ := hrel
    obtain ⟨wn, hwq⟩ : ∃ w0 : World, w0 = wr := ⟨_, rfl⟩
    rw [← hwq] at hO hA hX hCB hNB hT ⊢
    clear hwq
    clear HHN
    clear hltCBHN
    obtain ⟨HN, hHN⟩ : ∃ k, k = H := ⟨_, rfl⟩
    subst hHN
    obtain ⟨av, cv, hv, -, -⟩ := OwnR.open hO
    subst hv
    have HI := Lib.hid hI
    have O := Lib.hid hO
    have HNE := Lib.hid hNe
    have HA := Lib.hid hA
    have X := Lib.hid hX
    have CB := Lib.hid hCB
    have T := Lib.hid hT
    clear hI hO hNe hA hX hCB hT
    cases r with
    | none =>
      have E := Lib.hid (show acc = L from by
        rcases HI.out.2 with ⟨-, e⟩ | ⟨k, u, m, e, -⟩
        · exact e
        · cases e)
      have NB := Lib.hid (show Box wn HN (-1) 0 from hNB)
      clear hNB
      obtain ⟨⟨c0, c1⟩, cf0, cf1⟩ := NB.out
      go_wp2_with fail
      go_ret
      have e := E.out
      subst e
      exact ⟨_, rfl, OwnR.mono (A := w.heap.size) (B := g + 2) O.out (by omega), T.out⟩
    | some r =>
      obtain ⟨k, u⟩ := r
      obtain ⟨sk1, sk2, hI2, hacc⟩ := swi_next HI.out
      have NB := Lib.hid (show Box wn HN (k : Int) (dI u) from hNB)
      obtain ⟨d1, d2, -⟩ := dI_bd u
      have hk8 : (k : Int) < 8 := by
        have := sk1.2.1
        have := sk1.1.2.1
        omega
      have hl1 := (srv_len y k u)
      have hy1 := X.out.1.1
      have hy2 := X.out.2.1.1
      have hy3 := X.out.2.2.1
      have KN := fun (w' : World) (p1 p2 p3 : Option Addr) (m1 m2 m3 i1 i2 i3 : Nat) (h : Cal w' p1 m1 p2 m2 p3 m3 (srv y k u)) => iNextStop_c p1 m1 i1 p2 m2 i2 p3 m3 i3 (srv y k u) k (dI u) w' h
      rw [nsv_t sk2] at KN
      have KS := fun (w' : World) (h : Cal w' a1 n2 a2 n2 a3 n2 y) => iServeStop_s a1 n2 j1 a2 n2 j2 a3 n2 j3 y k u w' h sk1
      obtain ⟨r2, hr2⟩ : ∃ r2, nx (srv y k u) k u = r2 := ⟨_, rfl⟩
      obtain ⟨y2, hy⟩ : ∃ y2, srv y k u = y2 := ⟨_, rfl⟩
      rw [hr2] at KN
      rw [hy] at hr2
      rw [hy] at KN KS hI2 hl1
      rw [hr2] at hI2
      have HL := Lib.hid (show y2.u.length = n2 ∧ y2.d.length = n2 ∧ y2.c.length = n2 from ⟨by omega, by omega, by omega⟩)
      obtain ⟨D, hD⟩ : ∃ D, dI u = D := ⟨_, rfl⟩
      have HF := Lib.hid (show sfl (acc ++ [(k, u)]) = sfl acc ++ [(k : Int), D] from by rw [sfl_app, ← hD]; rfl)
      rw [hD] at KN KS NB d1 d2
      have HKN := Lib.hid KN
      have HKS := Lib.hid KS
      have HI2 := Lib.hid hI2
      clear KN KS hI2 hl1 hy1 hy2 hy3 hr2 hy hD hNB sk1 sk2 HI
      obtain ⟨S, hS⟩ : ∃ S, wn.heap.size = S := ⟨_, rfl⟩
      have HS := Lib.hid hS
      have hOlt := OwnR.lt O.out
      have hgS : g < S := by rw [← hS]; exact Bx.lt CB.out
      have hNS : HN < S := by rw [← hS]; exact Box.lt NB.out
      have hwS : w.heap.size ≤ S := by rw [← hS]; exact T.out.size
      have OA := Lib.hid (OwnR.al O.out (.cells #[.int .i64 (k : Int), .int .i64 D] 27))
      have IN := Lib.hid (show Ints (wn.alloc (.cells #[.int .i64 (k : Int), .int .i64 D] 27)) S 0 [(k : Int), D] from by
        intro i hi
        have : i = 0 ∨ i = 1 := by simp at hi; omega
        rcases this with rfl | rfl <;> (rw [World.cell?_alloc_at _ _ _ _ hS.symm]; rfl))
      obtain ⟨⟨c0, c1⟩, cf0, cf1⟩ := NB.out
      have hn1 : acc.length ≤ 1048577 := by omega
      have hB1 : g + 2 ≤ (wn.alloc (.cells #[.int .i64 (k : Int), .int .i64 D] 27)).heap.size := by rw [World.size_alloc, hS]; omega
      go_wp2_with (with_reducible refine wpList_append_stop OA.out rfl rfl IN.out hn1 hB1 ?_)
      intro v2 w2 hO2 hgr hat
      rw [World.size_alloc, hS] at hat
      have hbl : ∀ q, q < S → (Value.slice av acc.length cv).ownBlock ≠ some q → w2.heap[q]? = wn.heap[q]? := fun q hq hne => (hgr.block q (by rw [World.size_alloc, hS]; omega) hne.symm).trans (Below.heap_alloc wn _ q (by omega))
      have hlt2 := OwnR.lt hO2
      have O2 := Lib.hid hO2
      have CB2 := Lib.hid (Bx.block CB.out (hbl g hgS (fun e => by have := (hOlt g e).1; omega)))
      have NB2 := Lib.hid (Box.block NB.out (hbl HN hNS (fun e => HNE.out HN e rfl)))
      have X2 := Lib.hid (Cal.keep (w' := w2) (k1 := j1) (k2 := j2) (k3 := j3) X.out (fun q hq => by
        have h9 := HA.out q hq
        rw [hS] at h9
        exact hbl q h9.2.2.1 h9.2.2.2))
      have T2 := Lib.hid (show Below w.heap.size w w2 from Below.own (Below.al T.out (.cells #[.int .i64 (k : Int), .int .i64 D] 27)) hgr (fun i e => by have := (hOlt i e).1; omega))
      have hsz2 : S + 1 ≤ w2.heap.size := by have := hgr.size; rw [World.size_alloc, hS] at this; exact this
      have hv2 : ∀ q, v2.ownBlock = some q → g + 2 ≤ q ∧ q ≠ HN := fun q hq => ⟨(hlt2 q hq).1, by
        rcases hat with h | h
        · rw [h] at hq; exact HNE.out q hq
        · rw [h] at hq; cases hq; omega⟩
      obtain ⟨S2, hS2⟩ : ∃ S2, w2.heap.size = S2 := ⟨_, rfl⟩
      have hv3 : ∀ q, v2.ownBlock = some q → q < S2 := fun q hq => by have := (hlt2 q hq).2; omega
      have HS2 := Lib.hid hS2
      have HV2 := Lib.hid hv2
      have HV3 := Lib.hid hv3
      rw [hS2] at hsz2
      clear O CB NB X T OA IN hO2 hgr hat hbl hlt2 hS hS2 hv2 hv3 hB1 hOlt HNE HA c0 c1 cf0 cf1
      have O := O2
      have CB := CB2
      have NB := NB2
      have X := X2
      have T := T2
      clear O2 CB2 NB2 X2 T2
      obtain ⟨wn, hwq⟩ : ∃ w0 : World, w0 = w2 := ⟨_, rfl⟩
      subst hwq
      obtain ⟨⟨c0, c1, c2⟩, -⟩ := CB.out
      obtain ⟨⟨d0, d1⟩, df0, df1⟩ := NB.out
      go_wp2_with fail
      refine Calls.mono (HKS.out _ X.out) ?_
      intro e wn hh
      obtain ⟨v1, v2, v3, loP, hiP, rfl, hO, hb, hlo, hhi⟩ := NewC.get hh
      have hTP : w.heap.size ≤ loP := by rw [← hlo]; exact T.out.size
      have hltCBP := Bx.lt CB.out
      rw [hlo] at hltCBP
      have hltNBP := Box.lt NB.out
      rw [hlo] at hltNBP
      have hlhP : loP ≤ hiP := by rw [← hlo, ← hhi]; exact hb.size
      obtain ⟨Pa, Pi, Pb, Pj, Pc, Pk, rfl, rfl, rfl, -⟩ := OwnC.open hO
      have Tn := Lib.hid (below_next T.out hb)
      have Xn := Lib.hid (Cal.below X.out hb)
      have CBn := Lib.hid (Bx.below CB.out hb)
      have NBn := Lib.hid (Box.below NB.out hb)
      have On := Lib.hid (OwnR.below O.out hb)
      have P := Lib.hid hO
      have HLOP := Lib.hid hlo
      clear hb hO hh hlo hhi c0 c1 c2 d0 d1 df0 df1
      clear T X CB NB O
      have T := Tn
      have X := Xn
      have CB := CBn
      have NB := NBn
      have O := On
      clear Tn Xn CBn NBn On
      have hSP : S2 = loP := HS2.out.symm.trans HLOP.out
      rw [HL.out.1, HL.out.2.1, HL.out.2.2] at P
      rw [HL.out.1, HL.out.2.1, HL.out.2.2]
      have hs3 := Bx.set3 CB.out (.slice Pa n2 Pi) (.slice Pb n2 Pj) (.slice Pc n2 Pk)
      have CB3 := Lib.hid hs3.1
      have NB3 := Lib.hid (Box.out NB.out hs3.2 (.inr (by omega)))
      have P3 := Lib.hid (OwnC.out P.out hs3.2 (.inr (by omega)))
      have T3 := Lib.hid (Out.below T.out hs3.2 (by omega))
      have O3 := Lib.hid (OwnR.block (w' := (((wn.setCell ⟨g, 0, none⟩ (.slice Pa n2 Pi)).setCell ⟨g, 1, none⟩ (.slice Pb n2 Pj)).setCell ⟨g, 2, none⟩ (.slice Pc n2 Pk))) O.out (fun q hq => hs3.2.block q (OwnR.lt O.out q hq).2 (.inr (by have := (OwnR.lt O.out q hq).1; omega))))
      obtain ⟨⟨e0, e1, e2⟩, ef⟩ := CB.out
      have ef0 := ef 0
      have ef1 := ef 1
      have ef2 := ef 2
      obtain ⟨⟨c0, c1, c2⟩, -⟩ := CB3.out
      obtain ⟨⟨d0, d1'⟩, df0, df1⟩ := NB3.out
      clear ef hs3
      go_upto_region 7 with fail
      clear c0 c1 c2 d0 d1' df0 df1 e0 e1 e2 ef0 ef1 ef2 CB NB P T O X
      generalize (((wn.setCell ⟨g, 0, none⟩ (.slice Pa n2 Pi)).setCell ⟨g, 1, none⟩ (.slice Pb n2 Pj)).setCell ⟨g, 2, none⟩ (.slice Pc n2 Pk)) = w3 at *
      have CB := CB3
      have NB := NB3
      have P := P3
      have T := T3
      have O := O3
      clear CB3 NB3 P3 T3 O3
      obtain ⟨wn, hwq⟩ : ∃ w0 : World, w0 = w3 := ⟨_, rfl⟩
      subst hwq
      obtain ⟨⟨d0, d1⟩, df0, df1⟩ := NB.out
      have hltCBHM := Bx.lt CB.out
      have hltNBHM := Box.lt NB.out
      have hltPHM := P.out.2.2.1
      have hWHM := T.out.size
      obtain ⟨HM, hHM⟩ : ∃ HM, Array.size (World.heap wn) = HM := ⟨_, rfl⟩
      have HHM : Hid _ := hHM
      rw [hHM] at hWHM hltCBHM hltNBHM hltPHM
      have MB : Hid (Box (wn.alloc (.cells #[.int .i64 (k : Int), .int .i64 D] 27)) HM (k : Int) D) := by rw [← hHM]; exact Box.new _ _ _ _
      clear hHM
      have Tn : Hid (Below w.heap.size w _) := Below.al T.out (.cells #[.int .i64 (k : Int), .int .i64 D] 27)
      have CBn : Hid _ := Bx.below CB.out ((Below.refl _ _).alloc (Nat.le_refl _) (.cells #[.int .i64 (k : Int), .int .i64 D] 27))
      have NBn : Hid _ := Box.below NB.out ((Below.refl _ _).alloc (Nat.le_refl _) (.cells #[.int .i64 (k : Int), .int .i64 D] 27))
      have Pn : Hid _ := OwnC.below P.out ((Below.refl _ _).alloc (Nat.le_refl _) (.cells #[.int .i64 (k : Int), .int .i64 D] 27))
      have On : Hid _ := OwnR.below O.out ((Below.refl _ _).alloc (Nat.le_refl _) (.cells #[.int .i64 (k : Int), .int .i64 D] 27))
      clear T CB NB P O
      have T := Tn
      have CB := CBn
      have NB := NBn
      have P := Pn
      have O := On
      clear Tn CBn NBn Pn On
      clear NB
      obtain ⟨⟨c0, c1, c2⟩, -⟩ := CB.out
      obtain ⟨⟨m0, m1⟩, mf0, mf1⟩ := MB.out
      go_wp2_with fail
      rw [HHM.out]
      refine Calls.mono (HKN.out _ _ _ _ _ _ _ _ _ _ (OwnC.cal P.out)) ?_
      intro e wq hh
      obtain ⟨he, hb⟩ := hh
      subst he
      have Tn := Lib.hid (below_next T.out hb)
      have CBn := Lib.hid (Bx.below CB.out hb)
      have Pn := Lib.hid (OwnC.below P.out hb)
      have On := Lib.hid (OwnR.below O.out hb)
      have MBn := Lib.hid (Box.below MB.out hb)
      clear hb
      clear T CB P O MB
      have T := Tn
      have CB := CBn
      have P := Pn
      have O := On
      have MB := MBn
      clear Tn CBn Pn On MBn
      obtain ⟨wn, hwq⟩ : ∃ w0, w0 = wq := ⟨_, rfl⟩
      subst hwq
      have ho := Out.trans (Out.set (w := wn) (q := HM) (i := 0) (lo := HM) (hi := HM + 1) (.int .i64 (oF r2)) (Nat.le_refl _) (by omega)) (Out.set (w := wn.setCell ⟨HM, 0, none⟩ (.int .i64 (oF r2))) (q := HM) (i := 1) (lo := HM) (hi := HM + 1) (.int .i64 (oD r2)) (Nat.le_refl _) (by omega))
      have CB6 := Lib.hid (Bx.out CB.out ho (.inl (by omega)))
      have MB6 := Lib.hid (Box.pset1 (oD r2) (Box.pset0 (oF r2) MB.out))
      have P6 := Lib.hid (OwnC.out P.out ho (.inl (by omega)))
      have O6 := Lib.hid (OwnR.block (w' := (wn.setCell ⟨HM, 0, none⟩ (.int .i64 (oF r2))).setCell ⟨HM, 1, none⟩ (.int .i64 (oD r2))) O.out (fun q hq => ho.block q (OwnR.lt O.out q hq).2 (by have := HV3.out q hq; omega)))
      have T6 := Lib.hid (Out.below T.out ho (by omega))
      have hsz6 := Lib.hid (show HM < ((wn.setCell ⟨HM, 0, none⟩ (.int .i64 (oF r2))).setCell ⟨HM, 1, none⟩ (.int .i64 (oD r2))).heap.size from Box.lt MB6.out)
      obtain ⟨⟨c0, c1⟩, cf0, cf1⟩ := MB.out
      clear ho
      go_wp2_with fail
      obtain ⟨av2, cv2, hv, -, -⟩ := OwnR.open O6.out
      subst hv
      go_roundw
      case rel =>
        refine ⟨acc ++ [(k, u)], y2, r2, Pa, Pb, Pc, Pi, Pj, Pk, HM, rfl, by omega, HI2.out, ?_, fun q hq => (by have := HV3.out q hq; omega), ?_, OwnC.cal P6.out, CB6.out, MB6.out, T6.out⟩
        · rw [HF.out, List.length_append]; exact O6.out
        · intro q hq
          have h1 : loP ≤ q := by
            rcases hq with hq | hq | hq
            · exact (P6.out.1.1.lt q hq).1
            · exact (P6.out.1.2.1.lt q hq).1
            · exact (P6.out.1.2.2.lt q hq).1
          have h2 := P6.out.2.2.2.2 q hq
          have := hsz6.out
          exact ⟨by omega, by omega, by omega, fun e => by have := HV3.out q e; omega⟩
      case measure => simp [slen]; omega

theorem iSweepStops_c (a1 : Option Addr) (n1 k1 : Nat) (a2 : Option Addr) (n2 k2 : Nat) (a3 : Option Addr) (n3 k3 : Nat) (x : Cs) (f d : Int) (w : World) (hX : Cal w a1 n1 a2 n2 a3 n3 x) : Calls Try.prog 21 #[(.agg #[.slice a1 n1 k1, .slice a2 n2 k2, .slice a3 n3 k3]), (Value.agg #[.int .i64 (f), .int .i64 (d)])] w (DrawnS w (swT x f d)) := by
  by_cases h : SK x f d
  · obtain ⟨f, up, rfl, hf, rfl⟩ := SK.dir h
    rw [swT_t h]
    exact iSweepStops_t a1 n1 k1 a2 n2 k2 a3 n3 k3 x f up w hX h
  · rw [swT_f h]
    exact iSweepStops_f a1 n1 k1 a2 n2 k2 a3 n3 k3 x f d w hX h
end Go.Proofs.Ytkpginkkfobblaa
