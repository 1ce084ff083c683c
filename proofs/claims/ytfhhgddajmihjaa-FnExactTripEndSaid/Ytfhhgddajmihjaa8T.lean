/- Drawing calls: l20Calls. -/
import Derived.Test.Ytfhhgddajmihjaa8Y
import Derived.Test.YtfhhgddajmihjaaR
namespace Go.Proofs.Ytfhhgddajmihjaa
open Go.RowKit
set_option linter.unusedVariables false
set_option linter.unusedSimpArgs false
set_option maxRecDepth 100000

/-- Rows of calls of the call's own. -/
def RX (w : World) (B n : Nat) (u1 u2 u3 : Value) (y : Cs) : Prop := (CV y ∧ y.c.length = n) ∧ (OwnB w B u1 y.u ∧ OwnB w B u2 y.d ∧ OwnB w B u3 y.c) ∧ Apart u1 u2 ∧ Apart u1 u3 ∧ Apart u2 u3
def RowsV (w : World) (B n : Nat) (v : Value) : Prop := ∃ u1 u2 u3 y, v = .agg #[u1, u2, u3] ∧ RX w B n u1 u2 u3 y
def RowsT (w : World) (B n : Nat) (v : Value) : Prop := ∃ r fl, v = .tuple #[r, .bool fl] ∧ RowsV w B n r
def PickV (v : Value) (m : Int) : Prop := ∃ p : Int, v = .int .i64 p ∧ 0 ≤ p ∧ p < m
def BoolV (v : Value) : Prop := ∃ b, v = .bool b
def P11 (w : World) (S B n : Nat) (b : Bool) (v : Value) : Prop := ∃ G, v = .pointer (some ⟨G, 0, none⟩) ∧ S ≤ G ∧ (b = false → Bx w G (.slice none 0 0) (.slice none 0 0) (.slice none 0 0)) ∧ (b = true → ∃ u1 u2 u3 y, Bx w G u1 u2 u3 ∧ RX w B n u1 u2 u3 y)
def IR (W : World) (g c0 : Nat) (b2 b6 : Bool) (w : World) : Prop := ∃ c, c ≤ c0 + b2.toNat + b6.toNat ∧ Rd w g c ∧ Fr W g w
theorem RX.block {w w' : World} {B n : Nat} {u1 u2 u3 : Value} {y : Cs} (h : RX w B n u1 u2 u3 y) (hb : ∀ q, (u1.ownBlock = some q ∨ u2.ownBlock = some q ∨ u3.ownBlock = some q) → B ≤ q → q < w.heap.size → w'.heap[q]? = w.heap[q]?) : RX w' B n u1 u2 u3 y := by
  obtain ⟨h0, ⟨h1, h2, h3⟩, ha⟩ := h
  exact ⟨h0, ⟨h1.block fun k hk => hb k (.inl hk) (h1.lt k hk).1 (h1.lt k hk).2, h2.block fun k hk => hb k (.inr (.inl hk)) (h2.lt k hk).1 (h2.lt k hk).2, h3.block fun k hk => hb k (.inr (.inr hk)) (h3.lt k hk).1 (h3.lt k hk).2⟩, ha⟩
theorem RX.gr {w w' : World} {B n g : Nat} {u1 u2 u3 : Value} {y : Cs} (h : RX w B n u1 u2 u3 y) (hg : w.grownBy w' (some g)) (hB : g < B) : RX w' B n u1 u2 u3 y := h.block fun q _ h1 h2 => hg.block q h2 (fun e => by cases e; omega)
theorem RX.al {w : World} {B n : Nat} {u1 u2 u3 : Value} {y : Cs} (h : RX w B n u1 u2 u3 y) (o : Obj) : RX (w.alloc o) B n u1 u2 u3 y := h.block fun q _ _ h2 => Below.heap_alloc w o q h2
theorem RX.below {w w' : World} {B n : Nat} {u1 u2 u3 : Value} {y : Cs} (h : RX w B n u1 u2 u3 y) (hb : Below w.heap.size w w') : RX w' B n u1 u2 u3 y := h.block fun q _ _ h2 => hb.block q h2
theorem OwnB.ne_bx {w : World} {B G q : Nat} {u v2 v3 : Value} {a : Option Addr} {n k : Nat} {xs : List Bool} (h : OwnB w B u xs) (h1 : 1 ≤ xs.length) (hb : Bx w G (.slice a n k) v2 v3) (hq : u.ownBlock = Option.some q) : q ≠ G := by
  intro e
  subst e
  obtain ⟨p, cap, e, _, _, hc, _⟩ := OwnB.some h h1
  rw [e] at hq
  have e2 : p = q := by simpa [Value.ownBlock] using hq
  subst e2
  have := hc 0 h1
  rw [hb.1.1] at this
  cases this
theorem RX.len {w : World} {B n : Nat} {u1 u2 u3 : Value} {y : Cs} (h : RX w B n u1 u2 u3 y) : 1 ≤ n ∧ y.u.length = n ∧ y.d.length = n ∧ y.c.length = n := by
  obtain ⟨⟨hv, hn⟩, _⟩ := h
  have := hv.1
  have := hv.2.2.1
  have := hv.2.2.2.1
  omega
theorem RX.ne {w : World} {B n G q : Nat} {u1 u2 u3 v2 v3 : Value} {a : Option Addr} {m k : Nat} {y : Cs} (h : RX w B n u1 u2 u3 y) (hb : Bx w G (.slice a m k) v2 v3) (hq : u1.ownBlock = some q ∨ u2.ownBlock = some q ∨ u3.ownBlock = some q) : q ≠ G := by
  obtain ⟨l0, l1, l2, l3⟩ := h.len
  obtain ⟨_, ⟨h1, h2, h3⟩, _⟩ := h
  rcases hq with hq | hq | hq
  · exact OwnB.ne_bx h1 (by omega) hb hq
  · exact OwnB.ne_bx h2 (by omega) hb hq
  · exact OwnB.ne_bx h3 (by omega) hb hq
theorem RX.out {w w' : World} {B n G : Nat} {u1 u2 u3 v2 v3 : Value} {a : Option Addr} {m k : Nat} {y : Cs} (h : RX w B n u1 u2 u3 y) (hb : Bx w G (.slice a m k) v2 v3) (ho : Out G (G + 1) w w') : RX w' B n u1 u2 u3 y :=
  h.block fun q hq _ h2 => ho.block q h2 (by have := RX.ne h hb hq; omega)
theorem RX.open {w : World} {B n : Nat} {u1 u2 u3 : Value} {y : Cs} (h : RX w B n u1 u2 u3 y) : ∃ p1 d1 p2 d2 p3 d3, u1 = .slice (some ⟨p1, 0, none⟩) n d1 ∧ u2 = .slice (some ⟨p2, 0, none⟩) n d2 ∧ u3 = .slice (some ⟨p3, 0, none⟩) n d3 := by
  obtain ⟨l0, l1, l2, l3⟩ := h.len
  obtain ⟨_, ⟨h1, h2, h3⟩, _⟩ := h
  obtain ⟨p1, d1, e1, _⟩ := OwnB.some h1 (by omega)
  obtain ⟨p2, d2, e2, _⟩ := OwnB.some h2 (by omega)
  obtain ⟨p3, d3, e3, _⟩ := OwnB.some h3 (by omega)
  rw [l1] at e1
  rw [l2] at e2
  rw [l3] at e3
  exact ⟨p1, d1, p2, d2, p3, d3, e1, e2, e3⟩
theorem RX.cal {w : World} {B n : Nat} {a1 : Option Addr} {k1 : Nat} {a2 : Option Addr} {k2 : Nat} {a3 : Option Addr} {k3 : Nat} {y : Cs} (h : RX w B n (.slice a1 n k1) (.slice a2 n k2) (.slice a3 n k3) y) : Cal w a1 n a2 n a3 n y :=
  ⟨OwnB.cal h.2.1.1, OwnB.cal h.2.1.2.1, OwnB.cal h.2.1.2.2⟩
theorem cst_ok {x : Cs} (k f : Int) (b : Bool) (hv : CV x) : CV (cst x k f b) ∧ (cst x k f b).c.length = x.c.length := by
  by_cases hs : SV x k f b
  · rw [cst_t hs]; exact ⟨hs.2.2, (cput_len x k f.toNat b).2.2⟩
  · rw [cst_f hv hs]; exact ⟨hv, rfl⟩
theorem RowsT.of {w w' : World} {B n : Nat} {x : Cs} {k f : Int} {e : Ending} (hv : CV x) (hn : x.c.length = n) (hB : B ≤ w.heap.size) (h : NewC w (cst x k f true) (fun v => .tuple #[v, .bool (cstB x k f true)]) e w') : ∃ v, e = .returned v ∧ RowsT w' B n v ∧ Below w.heap.size w w' := by
  obtain ⟨v1, v2, v3, rfl, ⟨⟨h1, h2, h3⟩, ha, _⟩, hb⟩ := h
  obtain ⟨hc, hl⟩ := cst_ok k f true hv
  exact ⟨_, rfl, ⟨_, _, rfl, v1, v2, v3, _, rfl, ⟨hc, by omega⟩, ⟨h1.mono hB, h2.mono hB, h3.mono hB⟩, ha⟩, hb⟩
theorem Fr.out {w w1 w2 : World} {g lo hi : Nat} (h : Fr w g w1) (k : Out lo hi w1 w2) (hlo : w.heap.size ≤ lo) : Fr w g w2 :=
  ⟨k.os.trans h.os, k.tape.trans h.tape, k.output.trans h.output, Nat.le_trans h.size k.size, fun i hi hne => (k.block i (Nat.lt_of_lt_of_le hi h.size) (.inl (by omega))).trans (h.block i hi hne)⟩
theorem Rd.out {w w' : World} {g c lo hi : Nat} (h : Rd w g c) (k : Out lo hi w w') (hg : g < lo) : Rd w' g c := h.kept fun q hq => k.block q (by have := h.lt; omega) (.inl (by omega))
theorem Rd.below {w w' : World} {g c : Nat} (h : Rd w g c) (k : Below w.heap.size w w') : Rd w' g c := h.kept fun q hq => k.block q (by have := h.lt; omega)
theorem Fr.bel {w w1 w2 : World} {g : Nat} (h : Fr w g w1) (k : Below w1.heap.size w1 w2) : Fr w g w2 :=
  ⟨k.os.trans h.os, k.tape.trans h.tape, k.output.trans h.output, Nat.le_trans h.size k.size, fun i hi hne => (k.block i (Nat.lt_of_lt_of_le hi h.size)).trans (h.block i hi hne)⟩
theorem Bx.gr {w w' : World} {b g : Nat} {v1 v2 v3 : Value} (h : Bx w b v1 v2 v3) (k : w.grownBy w' (some g)) (hne : b ≠ g) : Bx w' b v1 v2 v3 := h.block (k.block b h.lt (fun e => by cases e; exact hne rfl))
/-- The whole box is written. -/
theorem Bx.set3 {w : World} {b : Nat} {v1 v2 v3 : Value} (h : Bx w b v1 v2 v3) (u1 u2 u3 : Value) : Bx (((w.setCell ⟨b, 0, none⟩ u1).setCell ⟨b, 1, none⟩ u2).setCell ⟨b, 2, none⟩ u3) b u1 u2 u3 ∧ Out b (b + 1) w (((w.setCell ⟨b, 0, none⟩ u1).setCell ⟨b, 1, none⟩ u2).setCell ⟨b, 2, none⟩ u3) :=
  ⟨Bx.set2 (Bx.set1 (Bx.set0 h u1) u2) u3, Out.trans (Out.trans (Out.set u1 (Nat.le_refl _) (by omega)) (Out.set u2 (Nat.le_refl _) (by omega))) (Out.set u3 (Nat.le_refl _) (by omega))⟩
theorem run_store_calls {w : World} {b : Nat} {v1 v2 v3 : Value} {a1 : Option Addr} {n1 k1 : Nat} {a2 : Option Addr} {n2 k2 : Nat} {a3 : Option Addr} {n3 k3 : Nat} {o : Oper} {vs : Nat → Value} (s x : Operand) (hop : o.op = .store 36 s x) (hs : evOf vs s = .pointer (some ⟨b, 0, none⟩)) (hx : evOf vs x = (.agg #[.slice a1 n1 k1, .slice a2 n2 k2, .slice a3 n3 k3])) (h : Bx w b v1 v2 v3) :
    (execOp (evOf vs) o).run Try.prog w = .ok .skip (((w.setCell ⟨b, 0, none⟩ (.slice a1 n1 k1)).setCell ⟨b, 1, none⟩ (.slice a2 n2 k2)).setCell ⟨b, 2, none⟩ (.slice a3 n3 k3)) := by
  have hl : (#[.slice a1 n1 k1, .slice a2 n2 k2, .slice a3 n3 k3] : Array Value).toList.length = 3 := rfl
  have hc : ∀ j, j < (#[.slice a1 n1 k1, .slice a2 n2 k2, .slice a3 n3 k3] : Array Value).toList.length → (w.cell? ⟨b, 0 + 0 + j, none⟩).isSome = true := fun j hj => by
    have : j = 0 ∨ j = 1 ∨ j = 2 := by simp at hj; omega
    rcases this with e | e | e <;> subst e
    · rw [h.1.1]; rfl
    · rw [h.1.2.1]; rfl
    · rw [h.1.2.2]; rfl
  have h1 := run_storeCells_cells (P := Try.prog) b 0 (#[.slice a1 n1 k1, .slice a2 n2 k2, .slice a3 n3 k3] : Array Value).toList 0 w hc (fun j hj => h.2 _) (fun v hv => by simp at hv; rcases hv with rfl | rfl | rfl <;> rfl)
  unfold execOp
  simp only [hop, hs, hx, Instr.storeAt, Instr.sureAddr, Sem.run_bind, Sem.run_pure, Result.andThen_ok]
  simp [storeVar, Try.sizeOf36, Value.cells, h1]
  rfl
def Keep (w w' : World) (g : Nat) : Prop := ∀ q, q < w.heap.size → q ≠ g → w'.heap[q]? = w.heap[q]?
theorem Keep.fr {w w' : World} {g : Nat} (h : w.grownBy w' (some g)) : Keep w w' g := fun q hq hne => h.block q hq (fun e => by cases e; exact hne rfl)
theorem Keep.below {w w' : World} {g : Nat} (h : Below w.heap.size w w') : Keep w w' g := fun q hq _ => h.block q hq
theorem Keep.al (w : World) (o : Obj) (g : Nat) : Keep w (w.alloc o) g := fun q hq _ => Below.heap_alloc w o q hq
theorem RX.keep {w w' : World} {B n g : Nat} {u1 u2 u3 : Value} {y : Cs} (h : RX w B n u1 u2 u3 y) (k : Keep w w' g) (hB : g < B) : RX w' B n u1 u2 u3 y := h.block fun q _ h1 h2 => k q h2 (by omega)
theorem RowsV.keep {w w' : World} {B n g : Nat} {v : Value} (h : RowsV w B n v) (k : Keep w w' g) (hB : g < B) : RowsV w' B n v := by
  obtain ⟨u1, u2, u3, y, e, h⟩ := h
  exact ⟨u1, u2, u3, y, e, h.keep k hB⟩
theorem RowsT.keep {w w' : World} {B n g : Nat} {v : Value} (h : RowsT w B n v) (k : Keep w w' g) (hB : g < B) : RowsT w' B n v := by
  obtain ⟨r, fl, e, h⟩ := h
  exact ⟨r, fl, e, h.keep k hB⟩
theorem RowsV.out {w w' : World} {B n G : Nat} {v v2 v3 : Value} {a : Option Addr} {m k : Nat} (h : RowsV w B n v) (hb : Bx w G (.slice a m k) v2 v3) (ho : Out G (G + 1) w w') : RowsV w' B n v := by
  obtain ⟨u1, u2, u3, y, e, h⟩ := h
  exact ⟨u1, u2, u3, y, e, h.out hb ho⟩
theorem RowsT.out {w w' : World} {B n G : Nat} {v v2 v3 : Value} {a : Option Addr} {m k : Nat} (h : RowsT w B n v) (hb : Bx w G (.slice a m k) v2 v3) (ho : Out G (G + 1) w w') : RowsT w' B n v := by
  obtain ⟨r, fl, e, h⟩ := h
  exact ⟨r, fl, e, h.out hb ho⟩
theorem P11.keep {w w' : World} {S B n g : Nat} {b : Bool} {v : Value} (h : P11 w S B n b v) (k : Keep w w' g) (hB : g < B) (hS : g < S) : P11 w' S B n b v := by
  obtain ⟨G, e, h1, h2, h3⟩ := h
  refine ⟨G, e, h1, fun hb => ?_, fun hb => ?_⟩
  · have := h2 hb
    exact this.block (k G this.lt (by omega))
  · obtain ⟨u1, u2, u3, y, hx, hr⟩ := h3 hb
    exact ⟨u1, u2, u3, y, hx.block (k G hx.lt (by omega)), hr.keep k hB⟩
theorem IR.below {W w w' : World} {g c0 : Nat} {a b : Bool} (h : IR W g c0 a b w) (k : Below w.heap.size w w') : IR W g c0 a b w' := by
  obtain ⟨c, h1, h2, h3⟩ := h
  exact ⟨c, h1, h2.below k, h3.bel k⟩
theorem IR.out {W w w' : World} {g c0 lo hi : Nat} {a b : Bool} (h : IR W g c0 a b w) (k : Out lo hi w w') (hl : W.heap.size ≤ lo) (hg : g < lo) : IR W g c0 a b w' := by
  obtain ⟨c, h1, h2, h3⟩ := h
  exact ⟨c, h1, h2.out k hg, h3.out k hl⟩
def DrawnC (w : World) (g c : Nat) (e : Ending) (w' : World) : Prop := ∃ (a1 : Option Addr) (n1 k1 : Nat) (a2 : Option Addr) (n2 k2 : Nat) (a3 : Option Addr) (n3 k3 : Nat) (x : Cs) (c' : Nat), e = .returned (.agg #[.slice a1 n1 k1, .slice a2 n2 k2, .slice a3 n3 k3]) ∧ (OwnB w' w.heap.size (.slice a1 n1 k1) x.u ∧ OwnB w' w.heap.size (.slice a2 n2 k2) x.d ∧ OwnB w' w.heap.size (.slice a3 n3 k3) x.c) ∧ (n1 ≤ 9 ∧ n2 ≤ 9 ∧ n3 ≤ 9) ∧ Rd w' g c' ∧ c' ≤ c + 20 ∧ Fr w g w'
/-- The end of a store in a drawn region. -/
theorem stepI_eq {P : Program} {I : (Nat → Bool) → (Nat → Value) → World → Prop} {ln : Nat → Bool} {vs : Nat → Value} {o : Oper} {w w' : World} (h : (execOp (evOf vs) o).run P w = .ok .skip w') (hI : I ln (updV vs o.dst undef) w') : StepI P I ln vs o.dst ((execOp (evOf vs) o).run P w) := by
  rw [h]; exact hI
theorem wpList_append_b {w : World} {ops : Array Oper} {rest : List Oper} {act : Act} {Q : Exit → Act → World → Prop} {d : Option Tmp} {s x : Operand} {ty0 : TypeId} {ps : String} {af : Array Edge} {B G : Nat} {xs : List Bool} {v : Value} {b : Bool}
    (hown : OwnB w B v xs) (hs : act.eval s = v) (hx : act.eval x = .slice (some ⟨G, 0, none⟩) 1 1) (hc : w.cell? ⟨G, 0, none⟩ = some (.bool b)) (hl : xs.length ≤ 1000) (hB : B ≤ w.heap.size)
    (hK : ∀ v' w', OwnB w' B v' (xs ++ [b]) → w.grownBy w' v.ownBlock → wpList Try.prog ops Q rest (act.put d v') w') :
    wpList Try.prog ops Q ({ dst := d, op := .call { callee := .builtin .append, args := #[s, x], argTypes := #[34, 34] }, type := ty0, pos := ps, after := af, guard := none } :: rest) act w := by
  obtain ⟨i0, hi, hz0, hz1, hz2⟩ := info_bool
  refine wpList_append_wanted rfl s x 34 rfl B 4 i0 (.bool false) 1 1 Try.underlying34 hi hz0 hz1 hz2 rfl (by decide) v xs.length (xs.map Value.bool) hs hown ⟨G, 0, none⟩ 1 1 [.bool b] hx rfl (fun j u hu => ?_) (fun u hu => ?_) (by unfold maxLen; omega) (by omega) hB (fun v' w' h1 h2 h3 h4 => ?_)
  · have hj : j = 0 := by
      obtain ⟨h, _⟩ := List.getElem?_eq_some_iff.1 hu
      simp at h; omega
    subst hj
    simp at hu
    subst hu
    exact hc
  · simp at hu
    subst hu
    rfl
  · refine hK v' w' ?_ h2
    unfold OwnB
    simpa using h1
theorem lt_of_own {p n d k g : Nat} (h : (Value.slice (some ⟨p, 0, none⟩) n d).ownBlock = some k) (hg : g < p) : g < k := by
  have : p = k := by simpa [Value.ownBlock] using h
  omega
theorem le_of_own {p n d k g : Nat} (h : (Value.slice (some ⟨p, 0, none⟩) n d).ownBlock = some k) (hg : g ≤ p) : g ≤ k := by
  have : p = k := by simpa [Value.ownBlock] using h
  omega
theorem odd_g (g c : Nat) (m : Int) (w : World) (hr : Rd w g c) (hc : c ≤ 1000000) (hm1 : m ≤ 1000000) (hm0 : 0 ≤ m) :
    Calls Try.prog 78 #[.pointer (some ⟨g, 0, none⟩), .int .i64 m] w (Odd w g c) := by
  by_cases h : 0 < m
  · exact odd_c g c m w hr hc hm1 h
  · obtain rfl : m = 0 := by omega
    have HR := Lib.hid hr
    clear hr
    go_enter Try.func78, Try.ntmps78
    go_wp2_with fail
    go_ret
    exact ⟨false, 0, rfl, by omega, HR.out, ⟨rfl, rfl, rfl, Nat.le_refl _, fun _ _ _ => rfl⟩, rfl⟩
theorem DrawnC.fin {w wz : World} {g c c' B : Nat} {a1 : Option Addr} {n1 k1 : Nat} {a2 : Option Addr} {n2 k2 : Nat} {a3 : Option Addr} {n3 k3 : Nat} {x : Cs} (hB : w.heap.size = B) (hR : Rd wz g c') (hgB : g < B) (hc : c' ≤ c + 20) (hF : Fr w g wz) (hV : Bx wz B (.slice none 0 0) (.slice none 0 0) (.slice none 0 0))
    (h1 : OwnB wz B (.slice a1 n1 k1) x.u) (h2 : OwnB wz B (.slice a2 n2 k2) x.d) (h3 : OwnB wz B (.slice a3 n3 k3) x.c) (l1 : 1 ≤ n1 ∧ n1 ≤ 9) (l2 : 1 ≤ n2 ∧ n2 ≤ 9) (l3 : 1 ≤ n3 ∧ n3 ≤ 9) :
    DrawnC w g c (.returned (.agg #[.slice a1 n1 k1, .slice a2 n2 k2, .slice a3 n3 k3])) (((wz.setCell ⟨B, 0, none⟩ (.slice a1 n1 k1)).setCell ⟨B, 1, none⟩ (.slice a2 n2 k2)).setCell ⟨B, 2, none⟩ (.slice a3 n3 k3)) := by
  have hs := Bx.set3 hV (.slice a1 n1 k1) (.slice a2 n2 k2) (.slice a3 n3 k3)
  have e1 := (OwnB.cal h1).1
  have e2 := (OwnB.cal h2).1
  have e3 := (OwnB.cal h3).1
  have o1 := OwnB.outs h1 hs.2 (fun q hq => by have := OwnB.ne_bx h1 (by omega) hV hq; omega)
  have o2 := OwnB.outs h2 hs.2 (fun q hq => by have := OwnB.ne_bx h2 (by omega) hV hq; omega)
  have o3 := OwnB.outs h3 hs.2 (fun q hq => by have := OwnB.ne_bx h3 (by omega) hV hq; omega)
  subst hB
  exact ⟨a1, n1, k1, a2, n2, k2, a3, n3, k3, x, c', rfl, ⟨o1, o2, o3⟩, ⟨l1.2, l2.2, l3.2⟩, Rd.out hR hs.2 hgB, hc, Fr.out hF hs.2 (Nat.le_refl _)⟩
theorem DrawnC.zero {w wz : World} {g c c' B : Nat} (hB : w.heap.size = B) (hR : Rd wz g c') (hgB : g < B) (hc : c' ≤ c + 20) (hF : Fr w g wz) (hV : Bx wz B (.slice none 0 0) (.slice none 0 0) (.slice none 0 0)) :
    DrawnC w g c (.returned (.agg #[.slice none 0 0, .slice none 0 0, .slice none 0 0])) (((wz.setCell ⟨B, 0, none⟩ (.slice none 0 0)).setCell ⟨B, 1, none⟩ (.slice none 0 0)).setCell ⟨B, 2, none⟩ (.slice none 0 0)) := by
  have hs := Bx.set3 hV (.slice none 0 0) (.slice none 0 0) (.slice none 0 0)
  subst hB
  exact ⟨none, 0, 0, none, 0, 0, none, 0, 0, cz, c', rfl, ⟨OwnB.nil _ _, OwnB.nil _ _, OwnB.nil _ _⟩, by omega, Rd.out hR hs.2 hgB, hc, Fr.out hF hs.2 (Nat.le_refl _)⟩
end Go.Proofs.Ytfhhgddajmihjaa
