/- Drawing calls: l20Calls. -/
import Derived.Test.Ytkpginkkfobblaa8Y
import Derived.Test.YtkpginkkfobblaaR
namespace Go.Proofs.Ytkpginkkfobblaa
open Go.RowKit
set_option linter.unusedVariables false

/-- Rows of calls of the call's own. -/
def RX (w : World) (B n : Nat) (u1 u2 u3 : Value) (y : Cs) : Prop := (CV y ∧ y.c.length = n) ∧ (OwnB w B u1 y.u ∧ OwnB w B u2 y.d ∧ OwnB w B u3 y.c) ∧ Apart u1 u2 ∧ Apart u1 u3 ∧ Apart u2 u3
def RowsV (w : World) (B n : Nat) (v : Value) : Prop := ∃ u1 u2 u3 y, v = .agg #[u1, u2, u3] ∧ RX w B n u1 u2 u3 y
def RowsT (w : World) (B n : Nat) (v : Value) : Prop := ∃ r fl, v = .tuple #[r, .bool fl] ∧ RowsV w B n r
def PickV (v : Value) (m : Int) : Prop := ∃ p : Int, v = .int .i64 p ∧ 0 ≤ p ∧ p < m
def BoolV (v : Value) : Prop := ∃ b, v = .bool b
def P11 (w : World) (S B n : Nat) (b : Bool) (v : Value) : Prop := ∃ G, v = .pointer (some ⟨G, 0, none⟩) ∧ S ≤ G ∧ (b = false → Bx w G (.slice none 0 0) (.slice none 0 0) (.slice none 0 0)) ∧ (b = true → ∃ u1 u2 u3 y, Bx w G u1 u2 u3 ∧ RX w B n u1 u2 u3 y)
def IR (W : World) (g c0 : Nat) (b2 b6 : Bool) (w : World) : Prop := ∃ c, c ≤ c0 + b2.toNat + b6.toNat ∧ Rd w g c ∧ Fr W g w
theorem RX.block {w w' : World} {B n : Nat} {u1 u2 u3 : Value} {y : Cs} (h : RX w B n u1 u2 u3 y) (hb : ∀ q, (u1.ownBlock = some q ∨ u2.ownBlock = some q ∨ u3.ownBlock = some q) → B ≤ q → q < w.heap.size → w'.heap[q]? = w.heap[q]?) : RX w' B n u1 u2 u3 y := by
  obtain ⟨h0, ⟨h1, h2, h3⟩, ha⟩ := h
  exact ⟨h0, ⟨h1.block fun k hk => hb k (.inl hk) (h1.lt k hk).1 (h1.lt k hk).2, h2.block fun k hk => hb k (.inr (.inl hk)) (h2.lt k hk).1 (h2.lt k hk).2, h3.block fun k hk => hb k (.inr (.inr hk)) (h3.lt k hk).1 (h3.lt k hk).2⟩, ha⟩
theorem RX.gr {w w' : World} {B n g : Nat} {u1 u2 u3 : Value} {y : Cs} (h : RX w B n u1 u2 u3 y) (hg : w.grownBy w' (some g)) (hB : g < B) : RX w' B n u1 u2 u3 y := h.block fun q _ h1 h2 => hg.block q h2 (fun e => by cases e; omega)
theorem RX.al {w : World} {B n : Nat} {u1 u2 u3 : Value} {y : Cs} (h : RX w B n u1 u2 u3 y) (o : Obj) : RX (w.alloc o) B n u1 u2 u3 y := h.block fun q _ _ h2 => Below.heap_alloc w o q h2
theorem RX.below {w w' : World} {B n : Nat} {u1 u2 u3 : Value} {y : Cs} (h : RX w B n u1 u2 u3 y) (hb : Below w.heap.size w w') : RX w' B n u1 u2 u3 y := h.block fun q _ _ h2 => hb.block q h2
theorem OwnB.ne_bx {w : World} {B G q : Nat} {u v2 v3 : Value} {a : Option Addr} {n k : Nat} {xs : List Bool} (h : OwnB w B u xs) (h1 : 1 ≤ xs.length) (hb : Bx w G (.slice a n k) v2 v3) (hq : u.ownBlock = Option.some q) : q ≠ G := by
  intro e
  subst e
  obtain ⟨p, cap, e, _, _, hc, _⟩ := OwnB.some h h1
  rw [e] at hq
  have e2 : p = q := by simpa [Value.ownBlock] using hq
  subst e2
  have := hc 0 h1
  rw [hb.1.1] at this
  cases this
theorem RX.len {w : World} {B n : Nat} {u1 u2 u3 : Value} {y : Cs} (h : RX w B n u1 u2 u3 y) : 1 ≤ n ∧ y.u.length = n ∧ y.d.length = n ∧ y.c.length = n := by
  obtain ⟨⟨hv, hn⟩, _⟩ := h
  have := hv.1
  have := hv.2.2.1
  have := hv.2.2.2.1
  omega
theorem RX.ne {w : World} {B n G q : Nat} {u1 u2 u3 v2 v3 : Value} {a : Option Addr} {m k : Nat} {y : Cs} (h : RX w B n u1 u2 u3 y) (hb : Bx w G (.slice a m k) v2 v3) (hq : u1.ownBlock = some q ∨ u2.ownBlock = some q ∨ u3.ownBlock = some q) : q ≠ G := by
  obtain ⟨l0, l1, l2, l3⟩ := h.len
  obtain ⟨_, ⟨h1, h2, h3⟩, _⟩ := h
  rcases hq with hq | hq | hq
  · exact OwnB.ne_bx h1 (by omega) hb hq
  · exact OwnB.ne_bx h2 (by omega) hb hq
  · exact OwnB.ne_bx h3 (by omega) hb hq
theorem RX.out {w w' : World} {B n G : Nat} {u1 u2 u3 v2 v3 : Value} {a : Option Addr} {m k : Nat} {y : Cs} (h : RX w B n u1 u2 u3 y) (hb : Bx w G (.slice a m k) v2 v3) (ho : Out G (G + 1) w w') : RX w' B n u1 u2 u3 y :=
  h.block fun q hq _ h2 => ho.block q h2 (by have := RX.ne h hb hq; omega)
theorem RX.open {w : World} {B n : Nat} {u1 u2 u3 : Value} {y : Cs} (h : RX w B n u1 u2 u3 y) : ∃ p1 d1 p2 d2 p3 d3, u1 = .slice (some ⟨p1, 0, none⟩) n d1 ∧ u2 = .slice (some ⟨p2, 0, none⟩) n d2 ∧ u3 = .slice (some ⟨p3, 0, none⟩) n d3 := by
  obtain ⟨l0, l1, l2, l3⟩ := h.len
  obtain ⟨_, ⟨h1, h2, h3⟩, _⟩ := h
  obtain ⟨p1, d1, e1, _⟩ := OwnB.some h1 (by omega)
  obtain ⟨p2, d2, e2, _⟩ := OwnB.some h2 (by omega)
  obtain ⟨p3, d3, e3, _⟩ := OwnB.some h3 (by omega)
  rw [l1] at e1
  rw [l2] at e2
  rw [l3] at e3
  exact ⟨p1, d1, p2, d2, p3, d3, e1, e2, e3⟩
theorem RX.cal {w : World} {B n : Nat} {a1 : Option Addr} {k1 : Nat} {a2 : Option Addr} {k2 : Nat} {a3 : Option Addr} {k3 : Nat} {y : Cs} (h : RX w B n (.slice a1 n k1) (.slice a2 n k2) (.slice a3 n k3) y) : Cal w a1 n a2 n a3 n y :=
  ⟨OwnB.cal h.2.1.1, OwnB.cal h.2.1.2.1, OwnB.cal h.2.1.2.2⟩
theorem cst_ok {x : Cs} (k f : Int) (b : Bool) (hv : CV x) : CV (cst x k f b) ∧ (cst x k f b).c.length = x.c.length := by
  by_cases hs : SV x k f b
  · rw [cst_t hs]; exact ⟨hs.2.2, (cput_len x k f.toNat b).2.2⟩
  · rw [cst_f hv hs]; exact ⟨hv, rfl⟩
theorem RowsT.of {w w' : World} {B n : Nat} {x : Cs} {k f : Int} {e : Ending} (hv : CV x) (hn : x.c.length = n) (hB : B ≤ w.heap.size) (h : NewC w (cst x k f true) (fun v => .tuple #[v, .bool (cstB x k f true)]) e w') : ∃ v, e = .returned v ∧ RowsT w' B n v ∧ Below w.heap.size w w' := by
  obtain ⟨v1, v2, v3, rfl, ⟨⟨h1, h2, h3⟩, ha, _⟩, hb⟩ := h
  obtain ⟨hc, hl⟩ := cst_ok k f true hv
  exact ⟨_, rfl, ⟨_, _, rfl, v1, v2, v3, _, rfl, ⟨hc, by omega⟩, ⟨h1.mono hB, h2.mono hB, h3.mono hB⟩, ha⟩, hb⟩
theorem Fr.out {w w1 w2 : World} {g lo hi : Nat} (h : Fr w g w1) (k : Out lo hi w1 w2) (hlo : w.heap.size ≤ lo) : Fr w g w2 :=
  ⟨k.os.trans h.os, k.tape.trans h.tape, k.output.trans h.output, Nat.le_trans h.size k.size, fun i hi hne => (k.block i (Nat.lt_of_lt_of_le hi h.size) (.inl (by omega))).trans (h.block i hi hne)⟩
theorem Rd.out {w w' : World} {g c lo hi : Nat} (h : Rd w g c) (k : Out lo hi w w') (hg : g < lo) : Rd w' g c := h.kept fun q hq => k.block q (by have := h.lt; omega) (.inl (by omega))
theorem Rd.below {w w' : World} {g c : Nat} (h : Rd w g c) (k : Below w.heap.size w w') : Rd w' g c := h.kept fun q hq => k.block q (by have := h.lt; omega)
theorem Fr.bel {w w1 w2 : World} {g : Nat} (h : Fr w g w1) (k : Below w1.heap.size w1 w2) : Fr w g w2 :=
  ⟨k.os.trans h.os, k.tape.trans h.tape, k.output.trans h.output, Nat.le_trans h.size k.size, fun i hi hne => (k.block i (Nat.lt_of_lt_of_le hi h.size)).trans (h.block i hi hne)⟩
theorem Bx.gr {w w' : World} {b g : Nat} {v1 v2 v3 : Value} (h : Bx w b v1 v2 v3) (k : w.grownBy w' (some g)) (hne : b ≠ g) : Bx w' b v1 v2 v3 := h.block (k.block b h.lt (fun e => by cases e; exact hne rfl))
/-- The whole box is written. -/
theorem Bx.set3 {w : World} {b : Nat} {v1 v2 v3 : Value} (h : Bx w b v1 v2 v3) (u1 u2 u3 : Value) : Bx (((w.setCell ⟨b, 0, none⟩ u1).setCell ⟨b, 1, none⟩ u2).setCell ⟨b, 2, none⟩ u3) b u1 u2 u3 ∧ Out b (b + 1) w (((w.setCell ⟨b, 0, none⟩ u1).setCell ⟨b, 1, none⟩ u2).setCell ⟨b, 2, none⟩ u3) :=
  ⟨Bx.set2 (Bx.set1 (Bx.set0 h u1) u2) u3, Out.trans (Out.trans (Out.set u1 (Nat.le_refl _) (by omega)) (Out.set u2 (Nat.le_refl _) (by omega))) (Out.set u3 (Nat.le_refl _) (by omega))⟩
theorem run_store_calls {w : World} {b : Nat} {v1 v2 v3 : Value} {a1 : Option Addr} {n1 k1 : Nat} {a2 : Option Addr} {n2 k2 : Nat} {a3 : Option Addr} {n3 k3 : Nat} {o : Oper} {vs : Nat → Value} (s x : Operand) (hop : o.op = .store 25 s x) (hs : evOf vs s = .pointer (some ⟨b, 0, none⟩)) (hx : evOf vs x = (.agg #[.slice a1 n1 k1, .slice a2 n2 k2, .slice a3 n3 k3])) (h : Bx w b v1 v2 v3) :
    (execOp (evOf vs) o).run Try.prog w = .ok .skip (((w.setCell ⟨b, 0, none⟩ (.slice a1 n1 k1)).setCell ⟨b, 1, none⟩ (.slice a2 n2 k2)).setCell ⟨b, 2, none⟩ (.slice a3 n3 k3)) := by
  have hl : (#[.slice a1 n1 k1, .slice a2 n2 k2, .slice a3 n3 k3] : Array Value).toList.length = 3 := rfl
  have hc : ∀ j, j < (#[.slice a1 n1 k1, .slice a2 n2 k2, .slice a3 n3 k3] : Array Value).toList.length → (w.cell? ⟨b, 0 + 0 + j, none⟩).isSome = true := fun j hj => by
    have : j = 0 ∨ j = 1 ∨ j = 2 := by simp at hj; omega
    rcases this with e | e | e <;> subst e
    · rw [h.1.1]; rfl
    · rw [h.1.2.1]; rfl
    · rw [h.1.2.2]; rfl
  have h1 := run_storeCells_cells (P := Try.prog) b 0 (#[.slice a1 n1 k1, .slice a2 n2 k2, .slice a3 n3 k3] : Array Value).toList 0 w hc (fun j hj => h.2 _) (fun v hv => by simp at hv; rcases hv with rfl | rfl | rfl <;> rfl)
  unfold execOp
  simp only [hop, hs, hx, Instr.storeAt, Instr.sureAddr, Sem.run_bind, Sem.run_pure, Result.andThen_ok]
  simp [storeVar, Try.sizeOf25, Value.cells, h1]
  rfl
def Keep (w w' : World) (g : Nat) : Prop := ∀ q, q < w.heap.size → q ≠ g → w'.heap[q]? = w.heap[q]?
theorem Keep.fr {w w' : World} {g : Nat} (h : w.grownBy w' (some g)) : Keep w w' g := fun q hq hne => h.block q hq (fun e => by cases e; exact hne rfl)
theorem Keep.below {w w' : World} {g : Nat} (h : Below w.heap.size w w') : Keep w w' g := fun q hq _ => h.block q hq
theorem Keep.al (w : World) (o : Obj) (g : Nat) : Keep w (w.alloc o) g := fun q hq _ => Below.heap_alloc w o q hq
theorem RX.keep {w w' : World} {B n g : Nat} {u1 u2 u3 : Value} {y : Cs} (h : RX w B n u1 u2 u3 y) (k : Keep w w' g) (hB : g < B) : RX w' B n u1 u2 u3 y := h.block fun q _ h1 h2 => k q h2 (by omega)
theorem RowsV.keep {w w' : World} {B n g : Nat} {v : Value} (h : RowsV w B n v) (k : Keep w w' g) (hB : g < B) : RowsV w' B n v := by
  obtain ⟨u1, u2, u3, y, e, h⟩ := h
  exact ⟨u1, u2, u3, y, e, h.keep k hB⟩
theorem RowsT.keep {w w' : World} {B n g : Nat} {v : Value} (h : RowsT w B n v) (k : Keep w w' g) (hB : g < B) : RowsT w' B n v := by
  obtain ⟨r, fl, e, h⟩ := h
  exact ⟨r, fl, e, h.keep k hB⟩
theorem RowsV.out {w w' : World} {B n G : Nat} {v v2 v3 : Value} {a : Option Addr} {m k : Nat} (h : RowsV w B n v) (hb : Bx w G (.slice a m k) v2 v3) (ho : Out G (G + 1) w w') : RowsV w' B n v := by
  obtain ⟨u1, u2, u3, y, e, h⟩ := h
  exact ⟨u1, u2, u3, y, e, h.out hb ho⟩
theorem RowsT.out {w w' : World} {B n G : Nat} {v v2 v3 : Value} {a : Option Addr} {m k : Nat} (h : RowsT w B n v) (hb : Bx w G (.slice a m k) v2 v3) (ho : Out G (G + 1) w w') : RowsT w' B n v := by
  obtain ⟨r, fl, e, h⟩ := h
  exact ⟨r, fl, e, h.out hb ho⟩
theorem P11.keep {w w' : World} {S B n g : Nat} {b : Bool} {v : Value} (h : P11 w S B n b v) (k : Keep w w' g) (hB : g < B) (hS : g < S) : P11 w' S B n b v := by
  obtain ⟨G, e, h1, h2, h3⟩ := h
  refine ⟨G, e, h1, fun hb => ?_, fun hb => ?_⟩
  · have := h2 hb
    exact this.block (k G this.lt (by omega))
  · obtain ⟨u1, u2, u3, y, hx, hr⟩ := h3 hb
    exact ⟨u1, u2, u3, y, hx.block (k G hx.lt (by omega)), hr.keep k hB⟩
theorem IR.below {W w w' : World} {g c0 : Nat} {a b : Bool} (h : IR W g c0 a b w) (k : Below w.heap.size w w') : IR W g c0 a b w' := by
  obtain ⟨c, h1, h2, h3⟩ := h
  exact ⟨c, h1, h2.below k, h3.bel k⟩
theorem IR.out {W w w' : World} {g c0 lo hi : Nat} {a b : Bool} (h : IR W g c0 a b w) (k : Out lo hi w w') (hl : W.heap.size ≤ lo) (hg : g < lo) : IR W g c0 a b w' := by
  obtain ⟨c, h1, h2, h3⟩ := h
  exact ⟨c, h1, h2.out k hg, h3.out k hl⟩
def DrawnC (w : World) (g c : Nat) (e : Ending) (w' : World) : Prop := ∃ (a1 : Option Addr) (n1 k1 : Nat) (a2 : Option Addr) (n2 k2 : Nat) (a3 : Option Addr) (n3 k3 : Nat) (x : Cs) (c' : Nat), e = .returned (.agg #[.slice a1 n1 k1, .slice a2 n2 k2, .slice a3 n3 k3]) ∧ (OwnB w' w.heap.size (.slice a1 n1 k1) x.u ∧ OwnB w' w.heap.size (.slice a2 n2 k2) x.d ∧ OwnB w' w.heap.size (.slice a3 n3 k3) x.c) ∧ (n1 ≤ 9 ∧ n2 ≤ 9 ∧ n3 ≤ 9) ∧ Rd w' g c' ∧ c' ≤ c + 20 ∧ Fr w g w'
/-- The end of a store in a drawn region. -/
theorem stepI_eq {P : Program} {I : (Nat → Bool) → (Nat → Value) → World → Prop} {ln : Nat → Bool} {vs : Nat → Value} {o : Oper} {w w' : World} (h : (execOp (evOf vs) o).run P w = .ok .skip w') (hI : I ln (updV vs o.dst undef) w') : StepI P I ln vs o.dst ((execOp (evOf vs) o).run P w) := by
  rw [h]; exact hI
theorem wpList_append_b {w : World} {ops : Array Oper} {rest : List Oper} {act : Act} {Q : Exit → Act → World → Prop} {d : Option Tmp} {s x : Operand} {ty0 : TypeId} {ps : String} {af : Array Edge} {B G : Nat} {xs : List Bool} {v : Value} {b : Bool}
    (hown : OwnB w B v xs) (hs : act.eval s = v) (hx : act.eval x = .slice (some ⟨G, 0, none⟩) 1 1) (hc : w.cell? ⟨G, 0, none⟩ = some (.bool b)) (hl : xs.length ≤ 1000) (hB : B ≤ w.heap.size)
    (hK : ∀ v' w', OwnB w' B v' (xs ++ [b]) → w.grownBy w' v.ownBlock → wpList Try.prog ops Q rest (act.put d v') w') :
    wpList Try.prog ops Q ({ dst := d, op := .call { callee := .builtin .append, args := #[s, x], argTypes := #[23, 23] }, type := ty0, pos := ps, after := af, guard := none } :: rest) act w := by
  obtain ⟨i0, hi, hz0, hz1, hz2⟩ := info_bool
  refine wpList_append_wanted rfl s x 23 rfl B 4 i0 (.bool false) 1 1 Try.underlying23 hi hz0 hz1 hz2 rfl (by decide) v xs.length (xs.map Value.bool) hs hown ⟨G, 0, none⟩ 1 1 [.bool b] hx rfl (fun j u hu => ?_) (fun u hu => ?_) (by unfold maxLen; omega) (by omega) hB (fun v' w' h1 h2 h3 h4 => ?_)
  · have hj : j = 0 := by
      obtain ⟨h, _⟩ := List.getElem?_eq_some_iff.1 hu
      simp at h; omega
    subst hj
    simp at hu
    subst hu
    exact hc
  · simp at hu
    subst hu
    rfl
  · refine hK v' w' ?_ h2
    unfold OwnB
    simpa using h1
theorem lt_of_own {p n d k g : Nat} (h : (Value.slice (some ⟨p, 0, none⟩) n d).ownBlock = some k) (hg : g < p) : g < k := by
  have : p = k := by simpa [Value.ownBlock] using h
  omega
theorem le_of_own {p n d k g : Nat} (h : (Value.slice (some ⟨p, 0, none⟩) n d).ownBlock = some k) (hg : g ≤ p) : g ≤ k := by
  have : p = k := by simpa [Value.ownBlock] using h
  omega
theorem odd_g (g c : Nat) (m : Int) (w : World) (hr : Rd w g c) (hc : c ≤ 1000000) (hm1 : m ≤ 1000000) (hm0 : 0 ≤ m) :
    Calls Try.prog 64 #[.pointer (some ⟨g, 0, none⟩), .int .i64 m] w (Odd w g c) := by
  by_cases h : 0 < m
  · exact odd_c g c m w hr hc hm1 h
  · obtain rfl : m = 0 := by omega
    have HR := Lib.hid hr
    clear hr
    go_enter Try.func64, Try.ntmps64
    go_wp2_with fail
    go_ret
    exact ⟨false, 0, rfl, by omega, HR.out, ⟨rfl, rfl, rfl, Nat.le_refl _, fun _ _ _ => rfl⟩, rfl⟩
theorem DrawnC.fin {w wz : World} {g c c' B : Nat} {a1 : Option Addr} {n1 k1 : Nat} {a2 : Option Addr} {n2 k2 : Nat} {a3 : Option Addr} {n3 k3 : Nat} {x : Cs} (hB : w.heap.size = B) (hR : Rd wz g c') (hgB : g < B) (hc : c' ≤ c + 20) (hF : Fr w g wz) (hV : Bx wz B (.slice none 0 0) (.slice none 0 0) (.slice none 0 0))
    (h1 : OwnB wz B (.slice a1 n1 k1) x.u) (h2 : OwnB wz B (.slice a2 n2 k2) x.d) (h3 : OwnB wz B (.slice a3 n3 k3) x.c) (l1 : 1 ≤ n1 ∧ n1 ≤ 9) (l2 : 1 ≤ n2 ∧ n2 ≤ 9) (l3 : 1 ≤ n3 ∧ n3 ≤ 9) :
    DrawnC w g c (.returned (.agg #[.slice a1 n1 k1, .slice a2 n2 k2, .slice a3 n3 k3])) (((wz.setCell ⟨B, 0, none⟩ (.slice a1 n1 k1)).setCell ⟨B, 1, none⟩ (.slice a2 n2 k2)).setCell ⟨B, 2, none⟩ (.slice a3 n3 k3)) := by
  have hs := Bx.set3 hV (.slice a1 n1 k1) (.slice a2 n2 k2) (.slice a3 n3 k3)
  have e1 := (OwnB.cal h1).1
  have e2 := (OwnB.cal h2).1
  have e3 := (OwnB.cal h3).1
  have o1 := OwnB.outs h1 hs.2 (fun q hq => by have := OwnB.ne_bx h1 (by omega) hV hq; omega)
  have o2 := OwnB.outs h2 hs.2 (fun q hq => by have := OwnB.ne_bx h2 (by omega) hV hq; omega)
  have o3 := OwnB.outs h3 hs.2 (fun q hq => by have := OwnB.ne_bx h3 (by omega) hV hq; omega)
  subst hB
  exact ⟨a1, n1, k1, a2, n2, k2, a3, n3, k3, x, c', rfl, ⟨o1, o2, o3⟩, ⟨l1.2, l2.2, l3.2⟩, Rd.out hR hs.2 hgB, hc, Fr.out hF hs.2 (Nat.le_refl _)⟩
theorem DrawnC.zero {w wz : World} {g c c' B : Nat} (hB : w.heap.size = B) (hR : Rd wz g c') (hgB : g < B) (hc : c' ≤ c + 20) (hF : Fr w g wz) (hV : Bx wz B (.slice none 0 0) (.slice none 0 0) (.slice none 0 0)) :
    DrawnC w g c (.returned (.agg #[.slice none 0 0, .slice none 0 0, .slice none 0 0])) (((wz.setCell ⟨B, 0, none⟩ (.slice none 0 0)).setCell ⟨B, 1, none⟩ (.slice none 0 0)).setCell ⟨B, 2, none⟩ (.slice none 0 0)) := by
  have hs := Bx.set3 hV (.slice none 0 0) (.slice none 0 0) (.slice none 0 0)
  subst hB
  exact ⟨none, 0, 0, none, 0, 0, none, 0, 0, cz, c', rfl, ⟨OwnB.nil _ _, OwnB.nil _ _, OwnB.nil _ _⟩, by omega, Rd.out hR hs.2 hgB, hc, Fr.out hF hs.2 (Nat.le_refl _)⟩
set_option maxHeartbeats 8000000 in
theorem l20Calls_c (g c n : Nat) (m : Int) (w : World) (hr : Rd w g c) (hc : c ≤ 900000) (h1 : 1 ≤ n) (h8 : n ≤ 8) (hm0 : 0 ≤ m) (hm : m ≤ 100) :
    Calls Try.prog 55 #[.pointer (some ⟨g, 0, none⟩), .int .i64 n, .int .i64 m] w (DrawnC w g c) := by
  have hgw := hr.lt
  obtain ⟨B, hB⟩ : ∃ B, w.heap.size = B := ⟨_, rfl⟩
  have HBB := Lib.hid hB
  have hgB : g < B := by omega
  have h1i : (1 : Int) ≤ (n : Int) := by omega
  have hmx : ¬ (n : Int) < 1 := by omega
  have E0 := Lib.hid (cno_ok h1 h8)
  have K0 := sCallsNone_c n (w.alloc (.cells #[.slice none 0 0, .slice none 0 0, .slice none 0 0] 25))
  rw [cno_ok h1 h8] at K0
  have HK0 := Lib.hid K0
  have R0 := Lib.hid (Rd.alloc hr (.cells #[.slice none 0 0, .slice none 0 0, .slice none 0 0] 25))
  have F0 := Lib.hid (Fr.alloc (Fr.refl w g) (.cells #[.slice none 0 0, .slice none 0 0, .slice none 0 0] 25))
  have V0 := Lib.hid (show Bx (w.alloc (.cells #[.slice none 0 0, .slice none 0 0, .slice none 0 0] 25)) B (.slice none 0 0) (.slice none 0 0) (.slice none 0 0) from by rw [← hB]; exact Bx.new _ _ _ _ _)
  clear hr K0 hB hgw
  go_enter Try.func55, Try.ntmps55
  go_wp2_with fail
  rw [HBB.out]
  refine HK0.out.mono ?_
  intro e w1 hh
  obtain ⟨v1, v2, v3, lo, hi, rfl, hO, hb, hlo, hhi⟩ := NewC.get hh
  have hloB : B ≤ lo := by rw [← hlo, World.size_alloc]; have := HBB.out; omega
  have X0 : RX w1 B n v1 v2 v3 (cn n) := ⟨⟨cn_ok h1 h8, by simp [cn]⟩, ⟨hO.1.1.mono hloB, hO.1.2.1.mono hloB, hO.1.2.2.mono hloB⟩, hO.2.1⟩
  obtain ⟨p1, d1, p2, d2, p3, d3, rfl, rfl, rfl⟩ := X0.open
  have R1 := Lib.hid (Rd.alloc (Rd.below R0.out hb) (.cells #[.slice (some ⟨p1, 0, none⟩) n d1, .slice (some ⟨p2, 0, none⟩) n d2, .slice (some ⟨p3, 0, none⟩) n d3] 25))
  have F1 := Lib.hid (Fr.alloc (Fr.bel F0.out hb) (.cells #[.slice (some ⟨p1, 0, none⟩) n d1, .slice (some ⟨p2, 0, none⟩) n d2, .slice (some ⟨p3, 0, none⟩) n d3] 25))
  have V1 := Lib.hid (Bx.al (Bx.below V0.out hb) (.cells #[.slice (some ⟨p1, 0, none⟩) n d1, .slice (some ⟨p2, 0, none⟩) n d2, .slice (some ⟨p3, 0, none⟩) n d3] 25))
  have X1 := Lib.hid (RX.al X0 (.cells #[.slice (some ⟨p1, 0, none⟩) n d1, .slice (some ⟨p2, 0, none⟩) n d2, .slice (some ⟨p3, 0, none⟩) n d3] 25))
  obtain ⟨G7, hG7⟩ : ∃ G, w1.heap.size = G := ⟨_, rfl⟩
  have BV1 := Lib.hid (show Bx (w1.alloc (.cells #[.slice (some ⟨p1, 0, none⟩) n d1, .slice (some ⟨p2, 0, none⟩) n d2, .slice (some ⟨p3, 0, none⟩) n d3] 25)) G7 (.slice (some ⟨p1, 0, none⟩) n d1) (.slice (some ⟨p2, 0, none⟩) n d2) (.slice (some ⟨p3, 0, none⟩) n d3) from by rw [← hG7]; exact Bx.new _ _ _ _ _)
  have hBG : B < G7 := by have := V0.out.lt; have := hb.size; omega
  clear hO hb hh hlo hhi R0 F0 V0 X0 hloB
  go_wp2_with fail
  try rw [hG7]
  clear hG7
  refine (pick_c g c 8 _ R1.out (by omega) (by omega)).mono ?_
  rintro e w2 ⟨k0, rfl, z0, z1, hr2, hf2, -⟩
  obtain ⟨k, rfl⟩ : ∃ k : Nat, k0 = k := ⟨k0.toNat, by omega⟩
  have R2 := Lib.hid hr2
  have F2 := Lib.hid (Fr.trans F1.out hf2)
  have V2 := Lib.hid (Bx.gr V1.out hf2 (by omega))
  have X2 := Lib.hid (RX.gr X1.out hf2 hgB)
  have B2 := Lib.hid (Bx.gr BV1.out hf2 (by omega))
  have hk7 : k ≤ 7 := by omega
  clear hr2 hf2 R1 F1 V1 X1 BV1 z0 z1
  go_wp2_with fail
  go_loopw [8] (fun v wr => ∃ (k c' p1 d1 p2 d2 p3 d3 : Nat) (x : Cs), v = .int .i64 k ∧ k ≤ 7 ∧ c' + 2 * k ≤ c + 15 ∧ Rd wr g c' ∧ Fr w g wr ∧ Bx wr B (.slice none 0 0) (.slice none 0 0) (.slice none 0 0) ∧ Bx wr G7 (.slice (some ⟨p1, 0, none⟩) n d1) (.slice (some ⟨p2, 0, none⟩) n d2) (.slice (some ⟨p3, 0, none⟩) n d3) ∧ RX wr B n (.slice (some ⟨p1, 0, none⟩) n d1) (.slice (some ⟨p2, 0, none⟩) n d2) (.slice (some ⟨p3, 0, none⟩) n d3) x) (fun v _ => (intOf v).toNat)
  case atStart => exact ⟨k, c + 1, p1, d1, p2, d2, p3, d3, _, rfl, hk7, by omega, R2.out, F2.out, V2.out, B2.out, X2.out⟩
  case round =>
    clear R2 F2 V2 X2 B2 hk7
    obtain ⟨k, c', p1, d1, p2, d2, p3, d3, x, rfl, hk7, hcc, hr, hf, hv, hb7, hx⟩ := hrel
    have R := Lib.hid hr
    have F := Lib.hid hf
    have V := Lib.hid hv
    have BV := Lib.hid hb7
    have XV := Lib.hid hx
    clear hr hf hv hb7 hx
    by_cases hk0 : k = 0
    case neg =>
      obtain ⟨k', rfl⟩ : ∃ k', k = k' + 1 := ⟨k - 1, by omega⟩
      have hki : (0 : Int) < (k' : Int) + 1 := by omega
      have hgS : g < wr.heap.size := R.out.lt
      have hG7s : G7 < wr.heap.size := BV.out.lt
      have hBS : B ≤ wr.heap.size := by have := F.out.size; have := HBB.out; omega
      clear hk0
      go_wp2_with fail
      refine wp_region_inv (fun ln vs wx => IR wr g c' (ln 2) (ln 6) wx ∧ vs 0 = .pointer (some ⟨g, 0, none⟩) ∧ vs 1 = .int .i64 n ∧ vs 7 = .pointer (some ⟨G7, 0, none⟩) ∧ (ln 0 = true → vs 20 = (.agg #[.slice (some ⟨p1, 0, none⟩) n d1, .slice (some ⟨p2, 0, none⟩) n d2, .slice (some ⟨p3, 0, none⟩) n d3])) ∧ (ln 1 = true → vs 21 = .pointer (some ⟨g, 0, none⟩)) ∧ (ln 2 = true → PickV (vs 22) 3) ∧ (ln 3 = true → vs 23 = .pointer (some ⟨g, 0, none⟩)) ∧ (ln 4 = true → vs 24 = .int .i64 n) ∧ (ln 5 = true → vs 25 = .int .i64 n) ∧ (ln 6 = true → PickV (vs 26) n) ∧ (ln 7 = true → RowsT wx B n (vs 27)) ∧ (ln 8 = true → RowsT wx B n (vs 19)) ∧ (ln 9 = true → RowsV wx B n (vs 28)) ∧ (ln 10 = true → BoolV (vs 29)) ∧ (ln 11 = true → P11 wx wr.heap.size B n (ln 12) (vs 9)) ∧ (ln 12 = true → ln 11 = true) ∧ (ln 13 = true → BoolV (vs 10)) ∧ (ln 6 = true → ln 2 = true)) [20, 21, 22, 23, 24, 25, 26, 27, 19, 28, 29, 9, 10]
        (by kernel_rfl) (by kernel_rfl) (by kernel_rfl) (by kernel_rfl) ⟨⟨c', by simp, R.out, Fr.drewN (Fr.refl _ _) 1⟩, rfl, rfl, rfl, fun h => (by cases h), fun h => (by cases h), fun h => (by cases h), fun h => (by cases h), fun h => (by cases h), fun h => (by cases h), fun h => (by cases h), fun h => (by cases h), fun h => (by cases h), fun h => (by cases h), fun h => (by cases h), fun h => (by cases h), fun h => (by cases h), fun h => (by cases h), fun h => (by cases h)⟩ ?hobs ?_
      case hobs =>
        refine ⟨?_, ?_, ?_, ?_, ?_, ?_, ?_, ?_, ?_, ?_, ?_, ?_, ?_, ?_, trivial⟩
        · intro ln vs wx hn ha ⟨hI, u0, u1, u7, i0, i1, i2, i3, i4, i5, i6, i7, i8, i9, i10, i11, i12, i13, i14⟩
          obtain ⟨cc, hcc, hrc, hfc⟩ := id hI
          obtain ⟨⟨c0, c1, c2⟩, _⟩ := (Bx.gr BV.out hfc (by omega))
          clear hcc hrc hfc
          have HI := Lib.hid (And.intro i0 (And.intro i1 (And.intro i2 (And.intro i3 (And.intro i4 (And.intro i5 (And.intro i6 (And.intro i7 (And.intro i8 (And.intro i9 (And.intro i10 (And.intro i11 (And.intro i12 (And.intro i13 (i14)))))))))))))))
          clear i0 i1 i2 i3 i4 i5 i6 i7 i8 i9 i10 i11 i12 i13 i14 ha
          go_simp
          simp only [evOf_tmp, u7]
          go_simp
          obtain ⟨i0, i1, i2, i3, i4, i5, i6, i7, i8, i9, i10, i11, i12, i13, i14⟩ := HI.out
          exact ⟨hI, u0, u1, u7, fun _ => rfl, i1, i2, i3, i4, i5, i6, i7, i8, i9, i10, i11, i12, i13, i14⟩
        · intro ln vs wx hn ha ⟨hI, u0, u1, u7, i0, i1, i2, i3, i4, i5, i6, i7, i8, i9, i10, i11, i12, i13, i14⟩
          have HI := Lib.hid (And.intro i0 (And.intro i1 (And.intro i2 (And.intro i3 (And.intro i4 (And.intro i5 (And.intro i6 (And.intro i7 (And.intro i8 (And.intro i9 (And.intro i10 (And.intro i11 (And.intro i12 (And.intro i13 (i14)))))))))))))))
          clear i0 i1 i2 i3 i4 i5 i6 i7 i8 i9 i10 i11 i12 i13 i14 ha
          go_simp
          obtain ⟨i0, i1, i2, i3, i4, i5, i6, i7, i8, i9, i10, i11, i12, i13, i14⟩ := HI.out
          exact ⟨hI, u0, u1, u7, i0, fun _ => u0, i2, i3, i4, i5, i6, i7, i8, i9, i10, i11, i12, i13, i14⟩
        · intro ln vs wx hn ha ⟨hI, u0, u1, u7, i0, i1, i2, i3, i4, i5, i6, i7, i8, i9, i10, i11, i12, i13, i14⟩
          have q1 : ln 1 = true := ha ⟨1, Ground.data⟩ (by simp) rfl
          have w21 := i1 q1
          obtain ⟨cc, hcc, hrc, hfc⟩ := id hI
          have n6 : ln 6 = false := by
            cases e : ln 6
            · rfl
            · have := i14 e; rw [hn] at this; cases this
          have HI := Lib.hid (And.intro i0 (And.intro i1 (And.intro i2 (And.intro i3 (And.intro i4 (And.intro i5 (And.intro i6 (And.intro i7 (And.intro i8 (And.intro i9 (And.intro i10 (And.intro i11 (And.intro i12 (And.intro i13 (i14)))))))))))))))
          clear i0 i1 i2 i3 i4 i5 i6 i7 i8 i9 i10 i11 i12 i13 i14 ha
          go_simp
          simp only [evOf_tmp, w21]
          obtain ⟨i0, i1, i2, i3, i4, i5, i6, i7, i8, i9, i10, i11, i12, i13, i14⟩ := HI.out
          refine (pick_c g cc 3 wx hrc (by rw [hn, n6] at hcc; simp at hcc; omega) (by omega)).mono ?_
          rintro e w' ⟨pp, rfl, z0, z1, hr2, hf2, -⟩
          have K : Keep wx w' g := Keep.fr hf2
          exact ⟨_, rfl, ⟨cc + 1, by rw [hn] at hcc; show cc + 1 ≤ c' + 1 + (ln 6).toNat; simp at hcc; omega, hr2, Fr.trans hfc hf2⟩, u0, u1, u7, i0, i1, fun _ => ⟨pp, rfl, z0, by omega⟩, i3, i4, i5, i6, fun h => (i7 h).keep K hgB, fun h => (i8 h).keep K hgB, fun h => (i9 h).keep K hgB, i10, fun h => (i11 h).keep K hgB hgS, i12, i13, fun _ => rfl⟩
        · intro ln vs wx hn ha ⟨hI, u0, u1, u7, i0, i1, i2, i3, i4, i5, i6, i7, i8, i9, i10, i11, i12, i13, i14⟩
          have HI := Lib.hid (And.intro i0 (And.intro i1 (And.intro i2 (And.intro i3 (And.intro i4 (And.intro i5 (And.intro i6 (And.intro i7 (And.intro i8 (And.intro i9 (And.intro i10 (And.intro i11 (And.intro i12 (And.intro i13 (i14)))))))))))))))
          clear i0 i1 i2 i3 i4 i5 i6 i7 i8 i9 i10 i11 i12 i13 i14 ha
          go_simp
          obtain ⟨i0, i1, i2, i3, i4, i5, i6, i7, i8, i9, i10, i11, i12, i13, i14⟩ := HI.out
          exact ⟨hI, u0, u1, u7, i0, i1, i2, fun _ => u0, i4, i5, i6, i7, i8, i9, i10, i11, i12, i13, i14⟩
        · intro ln vs wx hn ha ⟨hI, u0, u1, u7, i0, i1, i2, i3, i4, i5, i6, i7, i8, i9, i10, i11, i12, i13, i14⟩
          have HI := Lib.hid (And.intro i0 (And.intro i1 (And.intro i2 (And.intro i3 (And.intro i4 (And.intro i5 (And.intro i6 (And.intro i7 (And.intro i8 (And.intro i9 (And.intro i10 (And.intro i11 (And.intro i12 (And.intro i13 (i14)))))))))))))))
          clear i0 i1 i2 i3 i4 i5 i6 i7 i8 i9 i10 i11 i12 i13 i14 ha
          go_simp
          obtain ⟨i0, i1, i2, i3, i4, i5, i6, i7, i8, i9, i10, i11, i12, i13, i14⟩ := HI.out
          exact ⟨hI, u0, u1, u7, i0, i1, i2, i3, fun _ => u1, i5, i6, i7, i8, i9, i10, i11, i12, i13, i14⟩
        · intro ln vs wx hn ha ⟨hI, u0, u1, u7, i0, i1, i2, i3, i4, i5, i6, i7, i8, i9, i10, i11, i12, i13, i14⟩
          have q4 : ln 4 = true := ha ⟨4, Ground.data⟩ (by simp) rfl
          have w24 := i4 q4
          have HI := Lib.hid (And.intro i0 (And.intro i1 (And.intro i2 (And.intro i3 (And.intro i4 (And.intro i5 (And.intro i6 (And.intro i7 (And.intro i8 (And.intro i9 (And.intro i10 (And.intro i11 (And.intro i12 (And.intro i13 (i14)))))))))))))))
          clear i0 i1 i2 i3 i4 i5 i6 i7 i8 i9 i10 i11 i12 i13 i14 ha
          go_simp
          simp only [evOf_tmp, w24]
          go_simp
          obtain ⟨i0, i1, i2, i3, i4, i5, i6, i7, i8, i9, i10, i11, i12, i13, i14⟩ := HI.out
          exact ⟨hI, u0, u1, u7, i0, i1, i2, i3, i4, fun _ => (by first | rfl | (show Value.int .i64 _ = _; congr 1; omega)), i6, i7, i8, i9, i10, i11, i12, i13, i14⟩
        · intro ln vs wx hn ha ⟨hI, u0, u1, u7, i0, i1, i2, i3, i4, i5, i6, i7, i8, i9, i10, i11, i12, i13, i14⟩
          have q3 : ln 3 = true := ha ⟨3, Ground.data⟩ (by simp) rfl
          have q5 : ln 5 = true := ha ⟨5, Ground.data⟩ (by simp) rfl
          have w23 := i3 q3
          have w25 := i5 q5
          have q2 : ln 2 = true := ha ⟨2, Ground.chain⟩ (by simp) rfl
          obtain ⟨cc, hcc, hrc, hfc⟩ := id hI
          have HI := Lib.hid (And.intro i0 (And.intro i1 (And.intro i2 (And.intro i3 (And.intro i4 (And.intro i5 (And.intro i6 (And.intro i7 (And.intro i8 (And.intro i9 (And.intro i10 (And.intro i11 (And.intro i12 (And.intro i13 (i14)))))))))))))))
          clear i0 i1 i2 i3 i4 i5 i6 i7 i8 i9 i10 i11 i12 i13 i14 ha
          go_simp
          simp only [evOf_tmp, w23, w25]
          obtain ⟨i0, i1, i2, i3, i4, i5, i6, i7, i8, i9, i10, i11, i12, i13, i14⟩ := HI.out
          refine (pick_c g cc n wx hrc (by rw [hn, q2] at hcc; simp at hcc; omega) (by omega)).mono ?_
          rintro e w' ⟨pp, rfl, z0, z1, hr2, hf2, -⟩
          have K : Keep wx w' g := Keep.fr hf2
          exact ⟨_, rfl, ⟨cc + 1, by rw [hn] at hcc; show cc + 1 ≤ c' + (ln 2).toNat + 1; simp at hcc; omega, hr2, Fr.trans hfc hf2⟩, u0, u1, u7, i0, i1, i2, i3, i4, i5, fun _ => ⟨pp, rfl, z0, by omega⟩, fun h => (i7 h).keep K hgB, fun h => (i8 h).keep K hgB, fun h => (i9 h).keep K hgB, i10, fun h => (i11 h).keep K hgB hgS, i12, i13, fun _ => q2⟩
        · intro ln vs wx hn ha ⟨hI, u0, u1, u7, i0, i1, i2, i3, i4, i5, i6, i7, i8, i9, i10, i11, i12, i13, i14⟩
          have q0 : ln 0 = true := ha ⟨0, Ground.data⟩ (by simp) rfl
          have q2 : ln 2 = true := ha ⟨2, Ground.data⟩ (by simp) rfl
          have q6 : ln 6 = true := ha ⟨6, Ground.data⟩ (by simp) rfl
          have w20 := i0 q0
          obtain ⟨pa, w22, -, -⟩ := i2 q2
          obtain ⟨pb, w26, -, -⟩ := i6 q6
          obtain ⟨cc, hcc, hrc, hfc⟩ := id hI
          have HCal := Lib.hid (RX.cal (RX.gr XV.out hfc hgB))
          have hBx := hfc.size
          clear hcc hrc hfc
          have HI := Lib.hid (And.intro i0 (And.intro i1 (And.intro i2 (And.intro i3 (And.intro i4 (And.intro i5 (And.intro i6 (And.intro i7 (And.intro i8 (And.intro i9 (And.intro i10 (And.intro i11 (And.intro i12 (And.intro i13 (i14)))))))))))))))
          clear i0 i1 i2 i3 i4 i5 i6 i7 i8 i9 i10 i11 i12 i13 i14 ha
          go_simp
          simp only [evOf_tmp, evOf_const, w20, w22, w26]
          obtain ⟨i0, i1, i2, i3, i4, i5, i6, i7, i8, i9, i10, i11, i12, i13, i14⟩ := HI.out
          refine (sCallSet_c _ n d1 _ n d2 _ n d3 x pa pb true wx HCal.out).mono ?_
          intro e w' hh
          obtain ⟨v, he, ht, hb⟩ := RowsT.of (B := B) XV.out.1.1 XV.out.1.2 (by omega) hh
          have K : Keep wx w' g := Keep.below hb
          exact ⟨_, he, hI.below hb, u0, u1, u7, i0, i1, i2, i3, i4, i5, i6, fun _ => ht, fun h => (i8 h).keep K hgB, fun h => (i9 h).keep K hgB, i10, fun h => (i11 h).keep K hgB hgS, i12, i13, i14⟩
        · intro ln vs wx hn ha ⟨hI, u0, u1, u7, i0, i1, i2, i3, i4, i5, i6, i7, i8, i9, i10, i11, i12, i13, i14⟩
          have q7 : ln 7 = true := ha ⟨7, Ground.data⟩ (by simp) rfl
          have w27 := i7 q7
          have HI := Lib.hid (And.intro i0 (And.intro i1 (And.intro i2 (And.intro i3 (And.intro i4 (And.intro i5 (And.intro i6 (And.intro i7 (And.intro i8 (And.intro i9 (And.intro i10 (And.intro i11 (And.intro i12 (And.intro i13 (i14)))))))))))))))
          clear i0 i1 i2 i3 i4 i5 i6 i7 i8 i9 i10 i11 i12 i13 i14 ha
          go_simp
          obtain ⟨i0, i1, i2, i3, i4, i5, i6, i7, i8, i9, i10, i11, i12, i13, i14⟩ := HI.out
          exact ⟨hI, u0, u1, u7, i0, i1, i2, i3, i4, i5, i6, i7, fun _ => w27, i9, i10, i11, i12, i13, i14⟩
        · intro ln vs wx hn ha ⟨hI, u0, u1, u7, i0, i1, i2, i3, i4, i5, i6, i7, i8, i9, i10, i11, i12, i13, i14⟩
          have q8 : ln 8 = true := ha ⟨8, Ground.data⟩ (by simp) rfl
          obtain ⟨r, fl, w19, hr⟩ := i8 q8
          have HR := Lib.hid hr
          clear hr
          have HI := Lib.hid (And.intro i0 (And.intro i1 (And.intro i2 (And.intro i3 (And.intro i4 (And.intro i5 (And.intro i6 (And.intro i7 (And.intro i8 (And.intro i9 (And.intro i10 (And.intro i11 (And.intro i12 (And.intro i13 (i14)))))))))))))))
          clear i0 i1 i2 i3 i4 i5 i6 i7 i8 i9 i10 i11 i12 i13 i14 ha
          go_simp
          simp only [evOf_tmp, w19]
          go_simp
          obtain ⟨i0, i1, i2, i3, i4, i5, i6, i7, i8, i9, i10, i11, i12, i13, i14⟩ := HI.out
          exact ⟨hI, u0, u1, u7, i0, i1, i2, i3, i4, i5, i6, i7, i8, fun _ => HR.out, i10, i11, i12, i13, i14⟩
        · intro ln vs wx hn ha ⟨hI, u0, u1, u7, i0, i1, i2, i3, i4, i5, i6, i7, i8, i9, i10, i11, i12, i13, i14⟩
          have q8 : ln 8 = true := ha ⟨8, Ground.data⟩ (by simp) rfl
          obtain ⟨r, fl, w19, hr⟩ := i8 q8
          clear hr
          have HI := Lib.hid (And.intro i0 (And.intro i1 (And.intro i2 (And.intro i3 (And.intro i4 (And.intro i5 (And.intro i6 (And.intro i7 (And.intro i8 (And.intro i9 (And.intro i10 (And.intro i11 (And.intro i12 (And.intro i13 (i14)))))))))))))))
          clear i0 i1 i2 i3 i4 i5 i6 i7 i8 i9 i10 i11 i12 i13 i14 ha
          go_simp
          simp only [evOf_tmp, w19]
          go_simp
          obtain ⟨i0, i1, i2, i3, i4, i5, i6, i7, i8, i9, i10, i11, i12, i13, i14⟩ := HI.out
          exact ⟨hI, u0, u1, u7, i0, i1, i2, i3, i4, i5, i6, i7, i8, i9, fun _ => ⟨fl, rfl⟩, i11, i12, i13, i14⟩
        · intro ln vs wx hn ha ⟨hI, u0, u1, u7, i0, i1, i2, i3, i4, i5, i6, i7, i8, i9, i10, i11, i12, i13, i14⟩
          have n12 : ln 12 = false := by
            cases e : ln 12
            · rfl
            · have := i12 e; rw [hn] at this; cases this
          obtain ⟨cc, hcc, hrc, hfc⟩ := id hI
          have hSx := hfc.size
          clear hcc hrc hfc
          have HI := Lib.hid (And.intro i0 (And.intro i1 (And.intro i2 (And.intro i3 (And.intro i4 (And.intro i5 (And.intro i6 (And.intro i7 (And.intro i8 (And.intro i9 (And.intro i10 (And.intro i11 (And.intro i12 (And.intro i13 (i14)))))))))))))))
          clear i0 i1 i2 i3 i4 i5 i6 i7 i8 i9 i10 i11 i12 i13 i14 ha
          go_simp
          obtain ⟨i0, i1, i2, i3, i4, i5, i6, i7, i8, i9, i10, i11, i12, i13, i14⟩ := HI.out
          have K := Keep.al wx (.cells #[.slice none 0 0, .slice none 0 0, .slice none 0 0] 25) g
          exact ⟨hI.below ((Below.refl _ _).alloc (Nat.le_refl _) _), u0, u1, u7, i0, i1, i2, i3, i4, i5, i6, fun h => (i7 h).keep K hgB, fun h => (i8 h).keep K hgB, fun h => (i9 h).keep K hgB, i10, fun _ => ⟨wx.heap.size, rfl, hSx, fun _ => Bx.new _ _ _ _ _, fun h => (by rw [show updL ln 11 12 = ln 12 from rfl, n12] at h; cases h)⟩, fun _ => rfl, i13, i14⟩
        · intro ln vs wx hn ha ⟨hI, u0, u1, u7, i0, i1, i2, i3, i4, i5, i6, i7, i8, i9, i10, i11, i12, i13, i14⟩
          have q11 : ln 11 = true := ha ⟨11, Ground.data⟩ (by simp) rfl
          have q9 : ln 9 = true := ha ⟨9, Ground.data⟩ (by simp) rfl
          obtain ⟨G, w9, hG, hb0, -⟩ := i11 q11
          obtain ⟨y1, y2, y3, yy, w28, hr⟩ := i9 q9
          obtain ⟨e1, f1, e2, f2, e3, f3, rfl, rfl, rfl⟩ := hr.open
          have hbx := hb0 hn
          have hs3 := Bx.set3 hbx (.slice (some ⟨e1, 0, none⟩) n f1) (.slice (some ⟨e2, 0, none⟩) n f2) (.slice (some ⟨e3, 0, none⟩) n f3)
          refine stepI_eq (run_store_calls (.tmp 9) (.tmp 28) rfl w9 w28 hbx) ?_
          exact ⟨hI.out hs3.2 hG (by omega), u0, u1, u7, i0, i1, i2, i3, i4, i5, i6, fun h => (i7 h).out hbx hs3.2, fun h => (i8 h).out hbx hs3.2, fun h => (i9 h).out hbx hs3.2, i10, fun _ => ⟨G, w9, hG, fun h => (by cases h), fun _ => ⟨_, _, _, yy, hs3.1, hr.out hbx hs3.2⟩⟩, fun _ => q11, i13, i14⟩
        · intro ln vs wx hn ha ⟨hI, u0, u1, u7, i0, i1, i2, i3, i4, i5, i6, i7, i8, i9, i10, i11, i12, i13, i14⟩
          have q10 : ln 10 = true := ha ⟨10, Ground.data⟩ (by simp) rfl
          have w29 := i10 q10
          have HI := Lib.hid (And.intro i0 (And.intro i1 (And.intro i2 (And.intro i3 (And.intro i4 (And.intro i5 (And.intro i6 (And.intro i7 (And.intro i8 (And.intro i9 (And.intro i10 (And.intro i11 (And.intro i12 (And.intro i13 (i14)))))))))))))))
          clear i0 i1 i2 i3 i4 i5 i6 i7 i8 i9 i10 i11 i12 i13 i14 ha
          go_simp
          obtain ⟨i0, i1, i2, i3, i4, i5, i6, i7, i8, i9, i10, i11, i12, i13, i14⟩ := HI.out
          exact ⟨hI, u0, u1, u7, i0, i1, i2, i3, i4, i5, i6, i7, i8, i9, i10, i11, i12, fun _ => w29, i14⟩
      intro vs wq hI
      obtain ⟨⟨cc, hcc2, hr2, hf2⟩, -, -, -, -, -, -, -, -, -, -, -, -, -, -, i11, -, i13, -⟩ := hI
      obtain ⟨G, w9, hG, -, h9⟩ := i11 rfl
      obtain ⟨y1, y2, y3, yy, hbx, hry⟩ := h9 rfl
      obtain ⟨e1, f1, e2, f2, e3, f3, rfl, rfl, rfl⟩ := hry.open
      obtain ⟨fl, w10⟩ := i13 rfl
      have hcc3 : cc ≤ c' + 2 := by simp at hcc2; omega
      have R3 := Lib.hid hr2
      have F3 := Lib.hid (Fr.trans F.out hf2)
      have V3 := Lib.hid (Bx.gr V.out hf2 (by omega))
      have BV3 := Lib.hid (Bx.gr BV.out hf2 (by omega))
      have XV3 := Lib.hid (RX.gr XV.out hf2 hgB)
      have HG := Lib.hid hbx
      have HY := Lib.hid hry
      simp (decide := true) only [over, Nat.reduceAdd, if_true, if_false]
      rw [w9, w10]
      clear hr2 hf2 hbx hry h9 i11 i13 w9 w10 hcc2 R F V BV XV hgS hBS
      cases fl
      · go_wp2_with fail
        go_roundw
        case rel => exact ⟨k', cc, p1, d1, p2, d2, p3, d3, x, by go_num, by omega, by omega, R3.out, F3.out, V3.out, BV3.out, XV3.out⟩
        case measure => simp [intOf]
      · have hs3 := Bx.set3 BV3.out (.slice (some ⟨e1, 0, none⟩) n f1) (.slice (some ⟨e2, 0, none⟩) n f2) (.slice (some ⟨e3, 0, none⟩) n f3)
        have BV4 := Lib.hid hs3.1
        have R4 := Lib.hid (Rd.out R3.out hs3.2 (by omega))
        have F4 := Lib.hid (Fr.out F3.out hs3.2 (by have := HBB.out; omega))
        have V4 := Lib.hid (Bx.out V3.out hs3.2 (.inl hBG))
        have XV4 := Lib.hid (RX.out HY.out BV3.out hs3.2)
        obtain ⟨⟨g0, g1, g2⟩, -⟩ := HG.out
        obtain ⟨⟨c0, c1, c2⟩, bf⟩ := BV3.out
        have f0' := bf 0
        have f1' := bf 1
        have f2' := bf 2
        clear bf hs3 R3 F3 V3 BV3 XV3 HG HY
        go_wp2_with fail
        go_roundw
        case rel => exact ⟨k', cc, e1, f1, e2, f2, e3, f3, yy, by go_num, by omega, by omega, R4.out, F4.out, V4.out, BV4.out, XV4.out⟩
        case measure => simp [intOf]
    have hki : ¬ (0 : Int) < (k : Int) := by omega
    subst hk0
    go_wp2_with fail
    refine (odd_g g c' m _ R.out (by omega) (by omega) hm0).mono ?_
    rintro e w3 ⟨b, j, rfl, hj, hr2, hf2, -⟩
    have R3 := Lib.hid hr2
    have F3 := Lib.hid (Fr.trans F.out hf2)
    have V3 := Lib.hid (Bx.gr V.out hf2 (by omega))
    have BV3 := Lib.hid (Bx.gr BV.out hf2 (by omega))
    have XV3 := Lib.hid (RX.gr XV.out hf2 hgB)
    obtain ⟨-, l1, l2, l3⟩ := XV.out.len
    clear hr2 hf2 R F V BV XV hki hk7
    cases b
    case false =>
      obtain ⟨⟨g0, g1, g2⟩, -⟩ := BV3.out
      obtain ⟨⟨c0, c1, c2⟩, bf⟩ := V3.out
      have f0' := bf 0
      have f1' := bf 1
      have f2' := bf 2
      have N := Lib.hid (DrawnC.fin (c := c) (x := x) HBB.out R3.out hgB (by omega) F3.out V3.out XV3.out.2.1.1 XV3.out.2.1.2.1 XV3.out.2.1.2.2 ⟨h1, by omega⟩ ⟨h1, by omega⟩ ⟨by omega, by omega⟩)
      clear bf
      go_wp2_with fail
      exact bodyPost_ret (v := .agg #[.slice (some ⟨p1, 0, none⟩) n d1, .slice (some ⟨p2, 0, none⟩) n d2, .slice (some ⟨p3, 0, none⟩) n d3]) (by simp [results, Try.results55, go_sem, c0, c1, c2]) rfl N.out
    have hn0 : (0 : Int) < (n : Int) := by omega
    obtain ⟨⟨g0, g1, g2⟩, -⟩ := BV3.out
    go_wp2_with fail
    clear g0 g1 g2
    refine (pick_c g (c' + j) 4 _ R3.out (by omega) (by omega)).mono ?_
    rintro e w4 ⟨p, rfl, z0, z1, hr2, hf2, -⟩
    have R4 := Lib.hid hr2
    have F4 := Lib.hid (Fr.trans F3.out hf2)
    have V4 := Lib.hid (Bx.gr V3.out hf2 (by omega))
    have BV4 := Lib.hid (Bx.gr BV3.out hf2 (by omega))
    have XV4 := Lib.hid (RX.gr XV3.out hf2 hgB)
    clear hr2 hf2 R3 F3 V3 BV3 XV3
    obtain ⟨-, ⟨o1, o2, o3⟩, a12, a13, a23⟩ := XV4.out
    rcases (by omega : p = 0 ∨ p = 1 ∨ p = 2 ∨ p = 3) with e | e | e | e
    all_goals subst e
    all_goals clear z0 z1
    · obtain ⟨nn, rfl⟩ : ∃ nn, n = nn + 1 := ⟨n - 1, by omega⟩
      obtain ⟨q, cap, e, hq1, hq2, hc1, hz1⟩ := OwnB.some o1 (by omega)
      simp only [Value.slice.injEq, Option.some.injEq, Addr.mk.injEq] at e
      obtain ⟨⟨rfl, -, -⟩, -, rfl⟩ := e
      have cc1 := hc1 nn (by omega)
      have ff1 := hz1 nn
      have n0 : (0 : Int) ≤ nn := by omega
      have nnl : nn < nn + 1 := by omega
      have nnli : (nn : Int) < (nn : Int) + 1 := by omega
      have S := Out.set (w := w4) (q := p1) (i := nn) (lo := p1) (hi := p1 + 1) (.bool true) (Nat.le_refl _) (by omega)
      have hne7 := RX.ne (q := p1) XV4.out BV4.out (.inl rfl)
      have hneB := RX.ne (q := p1) XV4.out V4.out (.inl rfl)
      have R5 := Lib.hid (Rd.out R4.out S (by omega))
      have F5 := Lib.hid (Fr.out F4.out S (by have := HBB.out; omega))
      have V5 := Lib.hid (Bx.out V4.out S (by omega))
      have BV5 := Lib.hid (Bx.out BV4.out S (by omega))
      have O1 := Lib.hid (show OwnB (w4.setCell ⟨p1, nn, none⟩ (.bool true)) B (.slice (some ⟨p1, 0, none⟩) (nn + 1) d1) (x.u.set nn true) from by
        have h9 := o1
        rw [← l1] at h9
        have := (OwnB.stored h9 nn true).1
        rwa [l1] at this)
      have O2 := Lib.hid (set_other (q := p1) (i := nn) (u := .bool true) o2 (fun k hk => (a12 p1 k rfl hk).symm))
      have O3 := Lib.hid (set_other (q := p1) (i := nn) (u := .bool true) o3 (fun k hk => (a13 p1 k rfl hk).symm))
      obtain ⟨⟨y0, y1, y2⟩, -⟩ := BV4.out
      clear hc1 hz1 S R4 F4 V4 o1 o2 o3 a12 a13 a23
      obtain ⟨⟨g0, g1, g2⟩, -⟩ := BV5.out
      obtain ⟨⟨c0, c1, c2⟩, bf⟩ := V5.out
      have f0' := bf 0
      have f1' := bf 1
      have f2' := bf 2
      have N := Lib.hid (DrawnC.fin (c := c) (x := ⟨x.u.set nn true, x.d, x.c⟩) HBB.out R5.out hgB (by omega) F5.out V5.out O1.out O2.out O3.out ⟨h1, by omega⟩ ⟨h1, by omega⟩ ⟨by omega, by omega⟩)
      clear bf
      go_wp2_with fail
      exact bodyPost_ret (v := .agg #[.slice (some ⟨p1, 0, none⟩) (nn + 1) d1, .slice (some ⟨p2, 0, none⟩) (nn + 1) d2, .slice (some ⟨p3, 0, none⟩) (nn + 1) d3]) (by simp [results, Try.results55, go_sem, c0, c1, c2]) rfl N.out
    · obtain ⟨q, cap, e, hq1, hq2, hc1, hz1⟩ := OwnB.some o2 (by omega)
      simp only [Value.slice.injEq, Option.some.injEq, Addr.mk.injEq] at e
      obtain ⟨⟨rfl, -, -⟩, -, rfl⟩ := e
      have cc1 := hc1 0 (by omega)
      have ff1 := hz1 0
      have S := Out.set (w := w4) (q := p2) (i := 0) (lo := p2) (hi := p2 + 1) (.bool true) (Nat.le_refl _) (by omega)
      have hne7 := RX.ne (q := p2) XV4.out BV4.out (.inr (.inl rfl))
      have hneB := RX.ne (q := p2) XV4.out V4.out (.inr (.inl rfl))
      have R5 := Lib.hid (Rd.out R4.out S (by omega))
      have F5 := Lib.hid (Fr.out F4.out S (by have := HBB.out; omega))
      have V5 := Lib.hid (Bx.out V4.out S (by omega))
      have BV5 := Lib.hid (Bx.out BV4.out S (by omega))
      have O2 := Lib.hid (show OwnB (w4.setCell ⟨p2, 0, none⟩ (.bool true)) B (.slice (some ⟨p2, 0, none⟩) n d2) (x.d.set 0 true) from by
        have h9 := o2
        rw [← l2] at h9
        have := (OwnB.stored h9 0 true).1
        rwa [l2] at this)
      have O1 := Lib.hid (set_other (q := p2) (i := 0) (u := .bool true) o1 (fun k hk => a12 k p2 hk rfl))
      have O3 := Lib.hid (set_other (q := p2) (i := 0) (u := .bool true) o3 (fun k hk => (a23 p2 k rfl hk).symm))
      obtain ⟨⟨y0, y1, y2⟩, -⟩ := BV4.out
      clear hc1 hz1 S R4 F4 V4 o1 o2 o3 a12 a13 a23
      obtain ⟨⟨g0, g1, g2⟩, -⟩ := BV5.out
      obtain ⟨⟨c0, c1, c2⟩, bf⟩ := V5.out
      have f0' := bf 0
      have f1' := bf 1
      have f2' := bf 2
      have N := Lib.hid (DrawnC.fin (c := c) (x := ⟨x.u, x.d.set 0 true, x.c⟩) HBB.out R5.out hgB (by omega) F5.out V5.out O1.out O2.out O3.out ⟨h1, by omega⟩ ⟨h1, by omega⟩ ⟨by omega, by omega⟩)
      clear bf
      go_wp2_with fail
      exact bodyPost_ret (v := .agg #[.slice (some ⟨p1, 0, none⟩) n d1, .slice (some ⟨p2, 0, none⟩) n d2, .slice (some ⟨p3, 0, none⟩) n d3]) (by simp [results, Try.results55, go_sem, c0, c1, c2]) rfl N.out
    · obtain ⟨i0, hi, hz0, hz1, hz2⟩ := info_bool
      obtain ⟨⟨y0, y1, y2⟩, -⟩ := BV4.out
      have O3a := Lib.hid (OwnB.below o3 ((Below.refl _ _).alloc (Nat.le_refl _) (.cells #[.bool false] 4)))
      have hBw : B ≤ w4.heap.size := by have := F4.out.size; have := HBB.out; omega
      have R4a := Lib.hid (Rd.alloc R4.out (.cells #[.bool false] 4))
      have F4a := Lib.hid (Fr.alloc F4.out (.cells #[.bool false] 4))
      have V4a := Lib.hid (Bx.al V4.out (.cells #[.bool false] 4))
      have BV4a := Lib.hid (Bx.al BV4.out (.cells #[.bool false] 4))
      have O1a := Lib.hid (OwnB.below o1 ((Below.refl _ _).alloc (Nat.le_refl _) (.cells #[.bool false] 4)))
      have O2a := Lib.hid (OwnB.below o2 ((Below.refl _ _).alloc (Nat.le_refl _) (.cells #[.bool false] 4)))
      have HA := Lib.hid (And.intro a12 (And.intro a13 a23))
      have XH := Lib.hid (RX.al XV4.out (.cells #[.bool false] 4))
      clear R4 F4 V4 BV4 XV4 o1 o2 o3 a12 a13 a23 hi hz0 hz1 hz2
      go_wp2_with (with_reducible refine wpList_append_b (b := false) O3a.out rfl rfl ?_ ?_ ?_ ?_)
      case refine_1 => rw [World.cell?_alloc_at _ _ _ _ rfl]; rfl
      case refine_2 => omega
      case refine_3 => simp; omega
      intro v' w5 hown hgrow
      have hg3 : Keep (w4.alloc (.cells #[.bool false] 4)) w5 p3 := Keep.fr hgrow
      have hneB := RX.ne (q := p3) XH.out V4a.out (.inr (.inr rfl))
      have hne7 := RX.ne (q := p3) XH.out BV4a.out (.inr (.inr rfl))
      have hp3 : B ≤ p3 := (O3a.out.lt p3 rfl).1
      have V5 := Bx.block V4a.out (hg3 B V4a.out.lt (by omega))
      have BV5 := Bx.block BV4a.out (hg3 G7 BV4a.out.lt (by omega))
      have R5 := Rd.grown R4a.out hgrow (fun k hk => lt_of_own hk (by omega))
      have F5 := Fr.own F4a.out hgrow (fun k hk => le_of_own hk (by have := HBB.out; omega))
      have o1 := OwnB.block O1a.out (fun k hk => hg3 k (O1a.out.lt k hk).2 (HA.out.2.1 k p3 hk rfl))
      have o2 := OwnB.block O2a.out (fun k hk => hg3 k (O2a.out.lt k hk).2 (HA.out.2.2 k p3 hk rfl))
      have hlen : (x.c ++ [false]).length = n + 1 := by simp [l3]
      obtain ⟨q3, cap3, e, _⟩ := OwnB.some hown (by rw [hlen]; omega)
      rw [hlen] at e
      subst e
      have S := Out.set (w := w5) (q := G7) (i := 2) (lo := G7) (hi := G7 + 1) (.slice (some ⟨q3, 0, none⟩) (n + 1) cap3) (Nat.le_refl _) (by omega)
      have e1 := (OwnB.cal o1).1
      have e2 := (OwnB.cal o2).1
      have O1 := Lib.hid (OwnB.outs o1 S (fun q hq => by have := OwnB.ne_bx o1 (by omega) BV5 hq; omega))
      have O2 := Lib.hid (OwnB.outs o2 S (fun q hq => by have := OwnB.ne_bx o2 (by omega) BV5 hq; omega))
      have O3 := Lib.hid (OwnB.outs hown S (fun q hq => by have := OwnB.ne_bx hown (by rw [hlen]; omega) BV5 hq; omega))
      have R6 := Lib.hid (Rd.out R5 S (by omega))
      have F6 := Lib.hid (Fr.out F5 S (by have := HBB.out; omega))
      have V6 := Lib.hid (Bx.out V5 S (by omega))
      have BV6 := Lib.hid (Bx.set2 BV5 (.slice (some ⟨q3, 0, none⟩) (n + 1) cap3))
      obtain ⟨⟨y0', y1', y2'⟩, yf⟩ := BV5
      have yf2 := yf 2
      clear yf S R5 F5 V5 o1 o2 hown hgrow hg3 e1 e2 R4a F4a V4a BV4a O1a O2a O3a XH hlen y0 y1 y2
      obtain ⟨⟨g0, g1, g2⟩, -⟩ := BV6.out
      obtain ⟨⟨c0, c1, c2⟩, bf⟩ := V6.out
      have f0' := bf 0
      have f1' := bf 1
      have f2' := bf 2
      have N := Lib.hid (DrawnC.fin (c := c) (x := ⟨x.u, x.d, x.c ++ [false]⟩) HBB.out R6.out hgB (by omega) F6.out V6.out O1.out O2.out O3.out ⟨h1, by omega⟩ ⟨h1, by omega⟩ ⟨by omega, by omega⟩)
      clear bf
      go_wp2_with fail
      exact bodyPost_ret (v := .agg #[.slice (some ⟨p1, 0, none⟩) n d1, .slice (some ⟨p2, 0, none⟩) n d2, .slice (some ⟨q3, 0, none⟩) (n + 1) cap3]) (by simp [results, Try.results55, go_sem, c0, c1, c2]) rfl N.out
    · have N := Lib.hid (DrawnC.zero (c := c) HBB.out R4.out hgB (by omega) F4.out V4.out)
      obtain ⟨⟨c0, c1, c2⟩, bf⟩ := V4.out
      have f0' := bf 0
      have f1' := bf 1
      have f2' := bf 2
      clear bf o1 o2 o3 a12 a13 a23
      go_wp2_with fail
      exact bodyPost_ret (v := .agg #[.slice none 0 0, .slice none 0 0, .slice none 0 0]) (by simp [results, Try.results55, go_sem, c0, c1, c2]) rfl N.out
end Go.Proofs.Ytkpginkkfobblaa
