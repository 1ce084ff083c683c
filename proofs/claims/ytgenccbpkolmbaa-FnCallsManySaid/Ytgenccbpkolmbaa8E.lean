/- CallSet of impl. -/
import Derived.Test.Ytgenccbpkolmbaa8H
import Derived.Test.Ytgenccbpkolmbaa8I
namespace Go.Proofs.Ytgenccbpkolmbaa
open Go.RowKit
set_option linter.unusedVariables false

theorem csOf_rw3 {x : Cs} {n : Nat} (h8 : n ≤ 8) (l1 : x.u.length = n) (l2 : x.d.length = n) (l3 : x.c.length = n) : csOf (rw3 x) n = x := by
  refine Cs.eq ?_ ?_ ?_
  · refine bn_ext (by rw [show (csOf (rw3 x) n).u = rowOf (rw3 x) 0 n from rfl, rowOf_len, l1]) fun i hi => ?_
    have hi2 : i < n := by rwa [show (csOf (rw3 x) n).u = rowOf (rw3 x) 0 n from rfl, rowOf_len] at hi
    rw [show (csOf (rw3 x) n).u = rowOf (rw3 x) 0 n from rfl, bn_rowOf _ hi2]
    unfold rw3
    rw [if_pos (by omega)]
    congr 1; omega
  · refine bn_ext (by rw [show (csOf (rw3 x) n).d = rowOf (rw3 x) 1 n from rfl, rowOf_len, l2]) fun i hi => ?_
    have hi2 : i < n := by rwa [show (csOf (rw3 x) n).d = rowOf (rw3 x) 1 n from rfl, rowOf_len] at hi
    rw [show (csOf (rw3 x) n).d = rowOf (rw3 x) 1 n from rfl, bn_rowOf _ hi2]
    unfold rw3
    rw [if_neg (by omega), if_pos (by omega)]
    congr 1; omega
  · refine bn_ext (by rw [show (csOf (rw3 x) n).c = rowOf (rw3 x) 2 n from rfl, rowOf_len, l3]) fun i hi => ?_
    have hi2 : i < n := by rwa [show (csOf (rw3 x) n).c = rowOf (rw3 x) 2 n from rfl, rowOf_len] at hi
    rw [show (csOf (rw3 x) n).c = rowOf (rw3 x) 2 n from rfl, bn_rowOf _ hi2]
    unfold rw3
    rw [if_neg (by omega), if_neg (by omega)]
    congr 1; omega
theorem rw3_put {x : Cs} {k j n : Nat} (b : Bool) (hk : k < 3) (hj : j < n) (h8 : n ≤ 8) (l1 : x.u.length = n) (l2 : x.d.length = n) (l3 : x.c.length = n) (i : Nat) (hi : i < 24) :
    (if i = k * 8 + j then b else rw3 x i) = rw3 (cput x k j b) i := by
  rcases (by omega : k = 0 ∨ k = 1 ∨ k = 2) with e | e | e <;> subst e
  · rw [show ((0 : Nat) : Int) = 0 from rfl, cput0]
    unfold rw3
    by_cases g : i < 8
    · rw [if_pos g, if_pos g, bn_set _ _ (by omega)]
      by_cases g2 : i = j
      · rw [if_pos (by omega), if_pos g2]
      · rw [if_neg (by omega), if_neg g2]
    · rw [if_neg g, if_neg g, if_neg (by omega)]
  · rw [show ((1 : Nat) : Int) = 1 from rfl, cput1]
    unfold rw3
    by_cases g : i < 8
    · rw [if_pos g, if_pos g, if_neg (by omega)]
    · rw [if_neg g, if_neg g]
      by_cases g3 : i < 16
      · rw [if_pos g3, if_pos g3, bn_set _ _ (by omega)]
        by_cases g2 : i - 8 = j
        · rw [if_pos (by omega), if_pos g2]
        · rw [if_neg (by omega), if_neg g2]
      · rw [if_neg g3, if_neg g3, if_neg (by omega)]
  · rw [show ((2 : Nat) : Int) = 2 from rfl, cput2]
    unfold rw3
    by_cases g : i < 8
    · rw [if_pos g, if_pos g, if_neg (by omega)]
    · rw [if_neg g, if_neg g]
      by_cases g3 : i < 16
      · rw [if_pos g3, if_pos g3, if_neg (by omega)]
      · rw [if_neg g3, if_neg g3, bn_set _ _ (by omega)]
        by_cases g2 : i - 16 = j
        · rw [if_pos (by omega), if_pos g2]
        · rw [if_neg (by omega), if_neg g2]
theorem Grow.of {w w' : World} (h : Below w.heap.size w w') : Grow w w' := ⟨h.os, h.tape, h.output, h.size, fun k hk _ => h.block k hk⟩
theorem ob_mk {P : Program} {W w : World} {M : Value → World → Prop} {f : FuncId} {args : Array Value} {v : Value} (hC : Below W.heap.size W w) (h : Calls P f args w (Mk w v)) (hM : ∀ w', M v w') : Comply P (fun _ w => Below W.heap.size W w) Grow 0 w M (.ok (.enter f args) w) :=
  h.mono fun e w' ⟨he, hb⟩ => ⟨v, he, hM w', below_next hC hb, Grow.of hb⟩
theorem exec_store_arr {w : World} {vs : Nat → Value} {o : Oper} {G : Nat} {t : TypeId} {f g : Nat → Bool} (s x : Operand) (hop : o.op = .store 52 s x) (hs : evOf vs s = .pointer (some ⟨G, 0, none⟩)) (hx : evOf vs x = .agg (arr f)) (h : w.rowIs G t 24 (fun i => .bool (g i))) :
    ∃ w', (execOp (evOf vs) o).run Try.prog w = .ok .skip w' ∧ w'.rowIs G t 24 (fun i => .bool (f i)) ∧ Out G (G + 1) w w' := by
  obtain ⟨w', hr, h2, h3⟩ := run_storeVar_arr (f := f) h
  refine ⟨w', ?_, h2, h3⟩
  unfold execOp
  simp only [hop, hs, hx, Instr.storeAt, Instr.sureAddr, Sem.run_bind, Sem.run_pure, Result.andThen_ok, hr]
theorem stepI_store {I : (Nat → Bool) → (Nat → Value) → World → Prop} {ln : Nat → Bool} {w : World} {vs : Nat → Value} {o : Oper} {G : Nat} {t : TypeId} {f g : Nat → Bool} (s x : Operand) (hop : o.op = .store 52 s x) (hs : evOf vs s = .pointer (some ⟨G, 0, none⟩)) (hx : evOf vs x = .agg (arr f)) (h : w.rowIs G t 24 (fun i => .bool (g i)))
    (hI : ∀ w', w'.rowIs G t 24 (fun i => .bool (f i)) → Out G (G + 1) w w' → I ln (updV vs o.dst undef) w') : StepI Try.prog I ln vs o.dst ((execOp (evOf vs) o).run Try.prog w) := by
  obtain ⟨w', hr, r1, r2⟩ := exec_store_arr s x hop hs hx h
  rw [hr]
  exact hI w' r1 r2
theorem row24 (w : World) : (w.alloc (.cells #[.bool false, .bool false, .bool false, .bool false, .bool false, .bool false, .bool false, .bool false, .bool false, .bool false, .bool false, .bool false, .bool false, .bool false, .bool false, .bool false, .bool false, .bool false, .bool false, .bool false, .bool false, .bool false, .bool false, .bool false] 52)).rowIs w.heap.size 52 24 (fun i => .bool false) := by
  have h9 := World.rowIs_alloc w (arr fun _ => false) 52 (fun i => .bool false) (fun i hi => arr_at _ (by rwa [arr_size] at hi))
  rw [arr_size] at h9; exact h9
set_option maxHeartbeats 4000000 in
theorem iCallSet_c (a1 : Option Addr) (n1 k1 : Nat) (a2 : Option Addr) (n2 k2 : Nat) (a3 : Option Addr) (n3 k3 : Nat) (x : Cs) (k f : Int) (b : Bool) (w : World) (hX : Cal w a1 n1 a2 n2 a3 n3 x) :
    Calls Try.prog 22 #[(.agg #[.slice a1 n1 k1, .slice a2 n2 k2, .slice a3 n3 k3]), .int .i64 k, .int .i64 f, .bool b] w (NewC w (cst x k f b) (fun v => .tuple #[v, .bool (cstB x k f b)])) := by
  have X0 := Lib.hid hX
  have l1 := hX.1.1
  have l2 := hX.2.1.1
  have l3 := hX.2.2.1
  clear hX
  obtain ⟨g, hg⟩ : ∃ g, w.heap.size = g := ⟨_, rfl⟩
  have HG := Lib.hid hg
  have C0 := Lib.hid (show Bx ((w.alloc (.cells #[.slice a1 n1 k1, .slice a2 n2 k2, .slice a3 n3 k3] 25)).alloc (.cells #[.slice none 0 0, .slice none 0 0, .slice none 0 0] 25)) g (.slice a1 n1 k1) (.slice a2 n2 k2) (.slice a3 n3 k3) from by rw [← hg]; exact Bx.al (Bx.new _ _ _ _ _) _)
  have B0 := Lib.hid (show Bx ((w.alloc (.cells #[.slice a1 n1 k1, .slice a2 n2 k2, .slice a3 n3 k3] 25)).alloc (.cells #[.slice none 0 0, .slice none 0 0, .slice none 0 0] 25)) (g + 1) (.slice none 0 0) (.slice none 0 0) (.slice none 0 0) from by
    have h9 := Bx.new (w.alloc (.cells #[.slice a1 n1 k1, .slice a2 n2 k2, .slice a3 n3 k3] 25)) (.slice none 0 0) (.slice none 0 0) (.slice none 0 0) 25
    rw [World.size_alloc, hg] at h9; exact h9)
  have HB0 := Lib.hid (Below.al (Below.al (Below.refl w.heap.size w) (.cells #[.slice a1 n1 k1, .slice a2 n2 k2, .slice a3 n3 k3] 25)) (.cells #[.slice none 0 0, .slice none 0 0, .slice none 0 0] 25))
  have hsz : g + 1 < ((w.alloc (.cells #[.slice a1 n1 k1, .slice a2 n2 k2, .slice a3 n3 k3] 25)).alloc (.cells #[.slice none 0 0, .slice none 0 0, .slice none 0 0] 25)).heap.size := by rw [← hg]; simp
  clear hg
  have V := fun w' (h : Cal w' a1 n1 a2 n2 a3 n3 x) => iCallsValid_c a1 n1 k1 a2 n2 k2 a3 n3 k3 x w' h
  by_cases hv : CV x
  case neg =>
    have e := cvB_f hv
    rw [e] at V
    have HV := Lib.hid V
    have E := Lib.hid (show cst x k f b = cz ∧ cstB x k f b = false from ⟨cst_bad hv, cstB_f (fun h => hv h.1)⟩)
    clear e V hv l1 l2 l3
    go_enter Try.func22, Try.ntmps22
    go_wp2_with fail
    refine (HV.out _ (Cal.below X0.out HB0.out)).mono ?_
    rintro e w1 ⟨rfl, hb⟩
    have HB1 := Lib.hid (below_next HB0.out hb)
    obtain ⟨⟨c0, c1, c2⟩, hf⟩ := Bx.below B0.out hb
    have f0 := hf 0
    have f1 := hf 1
    have f2 := hf 2
    clear hf hb HB0 C0 HV hsz
    try rw [HG.out]
    go_wp2_with fail
    have N := newC_zero (r := g + 1) HB1.out (by have := HG.out; omega) (fun v => .tuple #[v, .bool false])
    exact bodyPost_ret (v := .tuple #[.agg #[.slice none 0 0, .slice none 0 0, .slice none 0 0], .bool false]) (by simp [results, Try.results22, go_sem, c0, c1, c2]) rfl (by rw [E.out.1, E.out.2]; exact N)
  have e := cvB_t hv
  rw [e] at V
  have HV := Lib.hid V
  have h1 := hv.1
  have h8 := hv.2.1
  have e1 := hv.2.2.1
  have e2 := hv.2.2.2.1
  have q1 : n1 = n3 := by omega
  have q2 : n2 = n3 := by omega
  subst q1 q2
  have h1 : 1 ≤ n2 := by omega
  have h8 : n2 ≤ 8 := by omega
  have h8i : (n2 : Int) ≤ 8 := by omega
  have L1 := Lib.hid l1
  have L2 := Lib.hid l2
  have L3 := Lib.hid l3
  have HX := Lib.hid (csOf_rw3 h8 l1 l2 l3)
  have HCV := Lib.hid hv
  clear e V hv e1 e2 l1 l2 l3
  rcases (by omega : k < 0 ∨ (¬ k < 0 ∧ k > 2) ∨ (¬ k < 0 ∧ ¬ k > 2 ∧ f < 0) ∨ (¬ k < 0 ∧ ¬ k > 2 ∧ ¬ f < 0 ∧ f ≥ (n2 : Int)) ∨ (¬ k < 0 ∧ ¬ k > 2 ∧ ¬ f < 0 ∧ ¬ f ≥ (n2 : Int))) with y1 | ⟨y1, y2⟩ | ⟨y1, y2, y3⟩ | ⟨y1, y2, y3, y4⟩ | ⟨y1, y2, y3, y4⟩
  · have E := Lib.hid (show cst x k f b = x ∧ cstB x k f b = false from by
      have hn : ¬ SV x k f b := fun h => by have h1 := h.2.1.1; have h2 := h.2.1.2; have := L3.out; omega
      exact ⟨cst_f HCV.out hn, cstB_f hn⟩)
    go_enter Try.func22, Try.ntmps22
    go_wp2_with fail
    refine (HV.out _ (Cal.below X0.out HB0.out)).mono ?_
    rintro e w1 ⟨rfl, hb⟩
    have HB1 := Lib.hid (below_next HB0.out hb)
    have C1 := Lib.hid (Bx.below C0.out hb)
    have B1 := Lib.hid (Bx.below B0.out hb)
    have hs1 := hb.size
    have hsz1 : g + 1 < w1.heap.size := by omega
    clear hb HB0 C0 B0 HV hsz hs1
    try rw [HG.out]
    go_wp2_with fail
    refine wp_region_inv (fun ln vs wx => Below w1.heap.size w1 wx ∧ vs 4 = .pointer (some ⟨g, 0, none⟩) ∧ (ln 0 = true → vs 17 = (.agg #[.slice a1 n2 k1, .slice a2 n2 k2, .slice a3 n2 k3])) ∧ (ln 1 = true → vs 18 = .agg (arr (rw3 x))) ∧ (ln 2 = true → vs 19 = .pointer (some ⟨g, 0, none⟩)) ∧ (ln 3 = true → vs 20 = .slice a1 n2 k1) ∧ (ln 4 = true → vs 21 = .int .i64 n2) ∧
        (ln 5 = true → ∃ G, vs 10 = .pointer (some ⟨G, 0, none⟩) ∧ w1.heap.size ≤ G ∧ wx.rowIs G 52 24 (fun i => .bool ((fun i => ln 6 && rw3 x i) i))) ∧ (ln 6 = true → ln 5 = true) ∧ (ln 7 = true → vs 11 = .int .i64 n2)) [17, 18, 19, 20, 21, 10, 11]
      (by kernel_rfl) (by kernel_rfl) (by kernel_rfl) (by kernel_rfl) ⟨Below.dw (Below.refl _ _), rfl, fun h => (by cases h), fun h => (by cases h), fun h => (by cases h), fun h => (by cases h), fun h => (by cases h), fun h => (by cases h), fun h => (by cases h), fun h => (by cases h)⟩ ?hobs ?_
    case hobs =>
      refine ⟨?_, ?_, ?_, ?_, ?_, ?_, ?_, ?_, trivial⟩
      · intro ln vs wx hn ha ⟨hb, v4, i0, i1, i2, i3, i4, i5, i6, i7⟩
        obtain ⟨⟨c0, c1, c2⟩, _⟩ := (Bx.below C1.out hb)
        have HI := Lib.hid (And.intro i0 (And.intro i1 (And.intro i2 (And.intro i3 (And.intro i4 (And.intro i5 (And.intro i6 i7)))))))
        clear i0 i1 i2 i3 i4 i5 i6 i7 ha
        go_simp
        simp only [evOf_tmp, v4]
        go_simp
        obtain ⟨i0, i1, i2, i3, i4, i5, i6, i7⟩ := HI.out
        exact ⟨hb, v4, fun _ => rfl, i1, i2, i3, i4, i5, i6, i7⟩
      · intro ln vs wx hn ha ⟨hb, v4, i0, i1, i2, i3, i4, i5, i6, i7⟩
        have q0 : ln 0 = true := ha ⟨0, Ground.data⟩ (by simp) rfl
        have u17 := i0 q0
        have HI := Lib.hid (And.intro i0 (And.intro i1 (And.intro i2 (And.intro i3 (And.intro i4 (And.intro i5 (And.intro i6 i7)))))))
        clear i0 i1 i2 i3 i4 i5 i6 i7 ha
        go_simp
        simp only [evOf_tmp, u17]
        obtain ⟨i0, i1, i2, i3, i4, i5, i6, i7⟩ := HI.out
        exact (rowsOf_c a1 n2 k1 a2 n2 k2 a3 n2 k3 x _ (Cal.below X0.out (below_next HB1.out hb)) h8 h8 h8).mono fun e w' ⟨he, hb2⟩ => ⟨_, he, below_next hb hb2, v4, i0, fun _ => rfl, i2, i3, i4, fun h => (let ⟨G, e1, e2, e3⟩ := i5 h; ⟨G, e1, e2, World.rowIs.of_block e3 (hb2.block G (World.rowIs.lt e3))⟩), i6, i7⟩
      · intro ln vs wx hn ha ⟨hb, v4, i0, i1, i2, i3, i4, i5, i6, i7⟩
        have HI := Lib.hid (And.intro i0 (And.intro i1 (And.intro i2 (And.intro i3 (And.intro i4 (And.intro i5 (And.intro i6 i7)))))))
        clear i0 i1 i2 i3 i4 i5 i6 i7 ha
        go_simp
        simp only [evOf_tmp, v4]
        go_simp
        obtain ⟨i0, i1, i2, i3, i4, i5, i6, i7⟩ := HI.out
        exact ⟨hb, v4, i0, i1, fun _ => rfl, i3, i4, i5, i6, i7⟩
      · intro ln vs wx hn ha ⟨hb, v4, i0, i1, i2, i3, i4, i5, i6, i7⟩
        have q2 : ln 2 = true := ha ⟨2, Ground.data⟩ (by simp) rfl
        have u19 := i2 q2
        obtain ⟨⟨c0, c1, c2⟩, _⟩ := (Bx.below C1.out hb)
        have HI := Lib.hid (And.intro i0 (And.intro i1 (And.intro i2 (And.intro i3 (And.intro i4 (And.intro i5 (And.intro i6 i7)))))))
        clear i0 i1 i2 i3 i4 i5 i6 i7 ha
        go_simp
        simp only [evOf_tmp, u19]
        go_simp
        obtain ⟨i0, i1, i2, i3, i4, i5, i6, i7⟩ := HI.out
        exact ⟨hb, v4, i0, i1, i2, fun _ => rfl, i4, i5, i6, i7⟩
      · intro ln vs wx hn ha ⟨hb, v4, i0, i1, i2, i3, i4, i5, i6, i7⟩
        have q3 : ln 3 = true := ha ⟨3, Ground.data⟩ (by simp) rfl
        have u20 := i3 q3
        have HI := Lib.hid (And.intro i0 (And.intro i1 (And.intro i2 (And.intro i3 (And.intro i4 (And.intro i5 (And.intro i6 i7)))))))
        clear i0 i1 i2 i3 i4 i5 i6 i7 ha
        go_simp
        simp only [evOf_tmp, u20]
        go_simp
        obtain ⟨i0, i1, i2, i3, i4, i5, i6, i7⟩ := HI.out
        exact ⟨hb, v4, i0, i1, i2, i3, fun _ => rfl, i5, i6, i7⟩
      · intro ln vs wx hn ha ⟨hb, v4, i0, i1, i2, i3, i4, i5, i6, i7⟩
        have n6 : ln 6 = false := by
          cases e : ln 6
          · rfl
          · have := i6 e; rw [hn] at this; cases this
        have HI := Lib.hid (And.intro i0 (And.intro i1 (And.intro i2 (And.intro i3 (And.intro i4 (And.intro i5 (And.intro i6 i7)))))))
        clear i0 i1 i2 i3 i4 i5 i6 i7 ha
        go_simp
        obtain ⟨i0, i1, i2, i3, i4, i5, i6, i7⟩ := HI.out
        exact ⟨Below.al hb _, v4, i0, i1, i2, i3, i4, fun _ => ⟨wx.heap.size, rfl, hb.size, (row24 wx).congr fun i hi => (by show _ = Value.bool (ln 6 && rw3 x i); rw [n6]; rfl)⟩, fun _ => rfl, i7⟩
      · intro ln vs wx hn ha ⟨hb, v4, i0, i1, i2, i3, i4, i5, i6, i7⟩
        have q5 : ln 5 = true := ha ⟨5, Ground.data⟩ (by simp) rfl
        have q1 : ln 1 = true := ha ⟨1, Ground.data⟩ (by simp) rfl
        obtain ⟨G, e1, e2, e3⟩ := i5 q5
        refine stepI_store (.tmp 10) (.tmp 18) rfl e1 (i1 q1) e3 (fun w' r1 r2 => ?_)
        exact ⟨Out.below hb r2 e2, v4, i0, i1, i2, i3, i4, fun _ => ⟨G, e1, e2, r1⟩, fun _ => q5, i7⟩
      · intro ln vs wx hn ha ⟨hb, v4, i0, i1, i2, i3, i4, i5, i6, i7⟩
        have q4 : ln 4 = true := ha ⟨4, Ground.data⟩ (by simp) rfl
        have u21 := i4 q4
        have HI := Lib.hid (And.intro i0 (And.intro i1 (And.intro i2 (And.intro i3 (And.intro i4 (And.intro i5 (And.intro i6 i7)))))))
        clear i0 i1 i2 i3 i4 i5 i6 i7 ha
        go_simp
        obtain ⟨i0, i1, i2, i3, i4, i5, i6, i7⟩ := HI.out
        exact ⟨hb, v4, i0, i1, i2, i3, i4, i5, i6, fun _ => u21⟩
    intro vs wq hI
    obtain ⟨hb, -, -, -, -, -, -, i5, -, i7⟩ := hI
    obtain ⟨G, v10, hGl, hr⟩ := i5 rfl
    have v11 : vs 11 = .int .i64 n2 := i7 rfl
    replace hr : wq.rowIs G 52 24 (fun i => .bool (rw3 x i)) := hr
    simp (decide := true) only [over, Nat.reduceAdd, if_true, if_false]
    rw [v10, v11]
    have R4 := Lib.hid hr
    have HB4 := Lib.hid (below_next HB1.out hb)
    have B4 := Lib.hid (Bx.below B1.out hb)
    have hz4 := Lib.hid (show G < wq.heap.size from World.rowIs.lt hr)
    have hG1 : g + 1 < G := by omega
    clear hr hb i5 i7 v10 v11 HB1 C1 B1 hsz1 hGl
    obtain ⟨w4, hw4⟩ : ∃ w4, w4 = wq := ⟨_, rfl⟩
    subst hw4
    go_wp2_with (with_reducible refine wpList_load_arr R4.out rfl ?_)
    have K := calls_c (rw3 x) n2 w4 h1 h8
    rw [HX.out] at K
    refine K.mono ?_
    rintro e w9 ⟨v1, v2, v3, rfl, hO, hb⟩
    obtain ⟨b1, t1', b2, t2', b3, t3', rfl, rfl, rfl, -⟩ := hO.open
    obtain ⟨⟨c0, c1, c2⟩, hf⟩ := Bx.below B4.out hb
    have f0 := hf 0
    have f1 := hf 1
    have f2 := hf 2
    have N := Lib.hid (newC_end (w0 := w) (r := g + 1) hO (below_next HB4.out hb) (by have := HG.out; omega) (by have := hz4.out; omega) (fun v => .tuple #[v, .bool false]))
    clear hf hb hO K
    go_wp2_with fail
    exact bodyPost_ret (v := .tuple #[.agg #[.slice b1 x.u.length t1', .slice b2 x.d.length t2', .slice b3 x.c.length t3'], .bool false]) (by simp [results, Try.results22, go_sem, c0, c1, c2]) rfl (by rw [E.out.1, E.out.2]; exact N.out)
  · have E := Lib.hid (show cst x k f b = x ∧ cstB x k f b = false from by
      have hn : ¬ SV x k f b := fun h => by have h1 := h.2.1.1; have h2 := h.2.1.2; have := L3.out; omega
      exact ⟨cst_f HCV.out hn, cstB_f hn⟩)
    go_enter Try.func22, Try.ntmps22
    go_wp2_with fail
    refine (HV.out _ (Cal.below X0.out HB0.out)).mono ?_
    rintro e w1 ⟨rfl, hb⟩
    have HB1 := Lib.hid (below_next HB0.out hb)
    have C1 := Lib.hid (Bx.below C0.out hb)
    have B1 := Lib.hid (Bx.below B0.out hb)
    have hs1 := hb.size
    have hsz1 : g + 1 < w1.heap.size := by omega
    clear hb HB0 C0 B0 HV hsz hs1
    try rw [HG.out]
    go_wp2_with fail
    refine wp_region_inv (fun ln vs wx => Below w1.heap.size w1 wx ∧ vs 4 = .pointer (some ⟨g, 0, none⟩) ∧ (ln 0 = true → vs 17 = (.agg #[.slice a1 n2 k1, .slice a2 n2 k2, .slice a3 n2 k3])) ∧ (ln 1 = true → vs 18 = .agg (arr (rw3 x))) ∧ (ln 2 = true → vs 19 = .pointer (some ⟨g, 0, none⟩)) ∧ (ln 3 = true → vs 20 = .slice a1 n2 k1) ∧ (ln 4 = true → vs 21 = .int .i64 n2) ∧
        (ln 5 = true → ∃ G, vs 10 = .pointer (some ⟨G, 0, none⟩) ∧ w1.heap.size ≤ G ∧ wx.rowIs G 52 24 (fun i => .bool ((fun i => ln 6 && rw3 x i) i))) ∧ (ln 6 = true → ln 5 = true) ∧ (ln 7 = true → vs 11 = .int .i64 n2)) [17, 18, 19, 20, 21, 10, 11]
      (by kernel_rfl) (by kernel_rfl) (by kernel_rfl) (by kernel_rfl) ⟨Below.dw (Below.refl _ _), rfl, fun h => (by cases h), fun h => (by cases h), fun h => (by cases h), fun h => (by cases h), fun h => (by cases h), fun h => (by cases h), fun h => (by cases h), fun h => (by cases h)⟩ ?hobs ?_
    case hobs =>
      refine ⟨?_, ?_, ?_, ?_, ?_, ?_, ?_, ?_, trivial⟩
      · intro ln vs wx hn ha ⟨hb, v4, i0, i1, i2, i3, i4, i5, i6, i7⟩
        obtain ⟨⟨c0, c1, c2⟩, _⟩ := (Bx.below C1.out hb)
        have HI := Lib.hid (And.intro i0 (And.intro i1 (And.intro i2 (And.intro i3 (And.intro i4 (And.intro i5 (And.intro i6 i7)))))))
        clear i0 i1 i2 i3 i4 i5 i6 i7 ha
        go_simp
        simp only [evOf_tmp, v4]
        go_simp
        obtain ⟨i0, i1, i2, i3, i4, i5, i6, i7⟩ := HI.out
        exact ⟨hb, v4, fun _ => rfl, i1, i2, i3, i4, i5, i6, i7⟩
      · intro ln vs wx hn ha ⟨hb, v4, i0, i1, i2, i3, i4, i5, i6, i7⟩
        have q0 : ln 0 = true := ha ⟨0, Ground.data⟩ (by simp) rfl
        have u17 := i0 q0
        have HI := Lib.hid (And.intro i0 (And.intro i1 (And.intro i2 (And.intro i3 (And.intro i4 (And.intro i5 (And.intro i6 i7)))))))
        clear i0 i1 i2 i3 i4 i5 i6 i7 ha
        go_simp
        simp only [evOf_tmp, u17]
        obtain ⟨i0, i1, i2, i3, i4, i5, i6, i7⟩ := HI.out
        exact (rowsOf_c a1 n2 k1 a2 n2 k2 a3 n2 k3 x _ (Cal.below X0.out (below_next HB1.out hb)) h8 h8 h8).mono fun e w' ⟨he, hb2⟩ => ⟨_, he, below_next hb hb2, v4, i0, fun _ => rfl, i2, i3, i4, fun h => (let ⟨G, e1, e2, e3⟩ := i5 h; ⟨G, e1, e2, World.rowIs.of_block e3 (hb2.block G (World.rowIs.lt e3))⟩), i6, i7⟩
      · intro ln vs wx hn ha ⟨hb, v4, i0, i1, i2, i3, i4, i5, i6, i7⟩
        have HI := Lib.hid (And.intro i0 (And.intro i1 (And.intro i2 (And.intro i3 (And.intro i4 (And.intro i5 (And.intro i6 i7)))))))
        clear i0 i1 i2 i3 i4 i5 i6 i7 ha
        go_simp
        simp only [evOf_tmp, v4]
        go_simp
        obtain ⟨i0, i1, i2, i3, i4, i5, i6, i7⟩ := HI.out
        exact ⟨hb, v4, i0, i1, fun _ => rfl, i3, i4, i5, i6, i7⟩
      · intro ln vs wx hn ha ⟨hb, v4, i0, i1, i2, i3, i4, i5, i6, i7⟩
        have q2 : ln 2 = true := ha ⟨2, Ground.data⟩ (by simp) rfl
        have u19 := i2 q2
        obtain ⟨⟨c0, c1, c2⟩, _⟩ := (Bx.below C1.out hb)
        have HI := Lib.hid (And.intro i0 (And.intro i1 (And.intro i2 (And.intro i3 (And.intro i4 (And.intro i5 (And.intro i6 i7)))))))
        clear i0 i1 i2 i3 i4 i5 i6 i7 ha
        go_simp
        simp only [evOf_tmp, u19]
        go_simp
        obtain ⟨i0, i1, i2, i3, i4, i5, i6, i7⟩ := HI.out
        exact ⟨hb, v4, i0, i1, i2, fun _ => rfl, i4, i5, i6, i7⟩
      · intro ln vs wx hn ha ⟨hb, v4, i0, i1, i2, i3, i4, i5, i6, i7⟩
        have q3 : ln 3 = true := ha ⟨3, Ground.data⟩ (by simp) rfl
        have u20 := i3 q3
        have HI := Lib.hid (And.intro i0 (And.intro i1 (And.intro i2 (And.intro i3 (And.intro i4 (And.intro i5 (And.intro i6 i7)))))))
        clear i0 i1 i2 i3 i4 i5 i6 i7 ha
        go_simp
        simp only [evOf_tmp, u20]
        go_simp
        obtain ⟨i0, i1, i2, i3, i4, i5, i6, i7⟩ := HI.out
        exact ⟨hb, v4, i0, i1, i2, i3, fun _ => rfl, i5, i6, i7⟩
      · intro ln vs wx hn ha ⟨hb, v4, i0, i1, i2, i3, i4, i5, i6, i7⟩
        have n6 : ln 6 = false := by
          cases e : ln 6
          · rfl
          · have := i6 e; rw [hn] at this; cases this
        have HI := Lib.hid (And.intro i0 (And.intro i1 (And.intro i2 (And.intro i3 (And.intro i4 (And.intro i5 (And.intro i6 i7)))))))
        clear i0 i1 i2 i3 i4 i5 i6 i7 ha
        go_simp
        obtain ⟨i0, i1, i2, i3, i4, i5, i6, i7⟩ := HI.out
        exact ⟨Below.al hb _, v4, i0, i1, i2, i3, i4, fun _ => ⟨wx.heap.size, rfl, hb.size, (row24 wx).congr fun i hi => (by show _ = Value.bool (ln 6 && rw3 x i); rw [n6]; rfl)⟩, fun _ => rfl, i7⟩
      · intro ln vs wx hn ha ⟨hb, v4, i0, i1, i2, i3, i4, i5, i6, i7⟩
        have q5 : ln 5 = true := ha ⟨5, Ground.data⟩ (by simp) rfl
        have q1 : ln 1 = true := ha ⟨1, Ground.data⟩ (by simp) rfl
        obtain ⟨G, e1, e2, e3⟩ := i5 q5
        refine stepI_store (.tmp 10) (.tmp 18) rfl e1 (i1 q1) e3 (fun w' r1 r2 => ?_)
        exact ⟨Out.below hb r2 e2, v4, i0, i1, i2, i3, i4, fun _ => ⟨G, e1, e2, r1⟩, fun _ => q5, i7⟩
      · intro ln vs wx hn ha ⟨hb, v4, i0, i1, i2, i3, i4, i5, i6, i7⟩
        have q4 : ln 4 = true := ha ⟨4, Ground.data⟩ (by simp) rfl
        have u21 := i4 q4
        have HI := Lib.hid (And.intro i0 (And.intro i1 (And.intro i2 (And.intro i3 (And.intro i4 (And.intro i5 (And.intro i6 i7)))))))
        clear i0 i1 i2 i3 i4 i5 i6 i7 ha
        go_simp
        obtain ⟨i0, i1, i2, i3, i4, i5, i6, i7⟩ := HI.out
        exact ⟨hb, v4, i0, i1, i2, i3, i4, i5, i6, fun _ => u21⟩
    intro vs wq hI
    obtain ⟨hb, -, -, -, -, -, -, i5, -, i7⟩ := hI
    obtain ⟨G, v10, hGl, hr⟩ := i5 rfl
    have v11 : vs 11 = .int .i64 n2 := i7 rfl
    replace hr : wq.rowIs G 52 24 (fun i => .bool (rw3 x i)) := hr
    simp (decide := true) only [over, Nat.reduceAdd, if_true, if_false]
    rw [v10, v11]
    have R4 := Lib.hid hr
    have HB4 := Lib.hid (below_next HB1.out hb)
    have B4 := Lib.hid (Bx.below B1.out hb)
    have hz4 := Lib.hid (show G < wq.heap.size from World.rowIs.lt hr)
    have hG1 : g + 1 < G := by omega
    clear hr hb i5 i7 v10 v11 HB1 C1 B1 hsz1 hGl
    obtain ⟨w4, hw4⟩ : ∃ w4, w4 = wq := ⟨_, rfl⟩
    subst hw4
    go_wp2_with (with_reducible refine wpList_load_arr R4.out rfl ?_)
    have K := calls_c (rw3 x) n2 w4 h1 h8
    rw [HX.out] at K
    refine K.mono ?_
    rintro e w9 ⟨v1, v2, v3, rfl, hO, hb⟩
    obtain ⟨b1, t1', b2, t2', b3, t3', rfl, rfl, rfl, -⟩ := hO.open
    obtain ⟨⟨c0, c1, c2⟩, hf⟩ := Bx.below B4.out hb
    have f0 := hf 0
    have f1 := hf 1
    have f2 := hf 2
    have N := Lib.hid (newC_end (w0 := w) (r := g + 1) hO (below_next HB4.out hb) (by have := HG.out; omega) (by have := hz4.out; omega) (fun v => .tuple #[v, .bool false]))
    clear hf hb hO K
    go_wp2_with fail
    exact bodyPost_ret (v := .tuple #[.agg #[.slice b1 x.u.length t1', .slice b2 x.d.length t2', .slice b3 x.c.length t3'], .bool false]) (by simp [results, Try.results22, go_sem, c0, c1, c2]) rfl (by rw [E.out.1, E.out.2]; exact N.out)
  · have E := Lib.hid (show cst x k f b = x ∧ cstB x k f b = false from by
      have hn : ¬ SV x k f b := fun h => by have h1 := h.2.1.1; have h2 := h.2.1.2; have := L3.out; omega
      exact ⟨cst_f HCV.out hn, cstB_f hn⟩)
    go_enter Try.func22, Try.ntmps22
    go_wp2_with fail
    refine (HV.out _ (Cal.below X0.out HB0.out)).mono ?_
    rintro e w1 ⟨rfl, hb⟩
    have HB1 := Lib.hid (below_next HB0.out hb)
    have C1 := Lib.hid (Bx.below C0.out hb)
    have B1 := Lib.hid (Bx.below B0.out hb)
    have hs1 := hb.size
    have hsz1 : g + 1 < w1.heap.size := by omega
    clear hb HB0 C0 B0 HV hsz hs1
    try rw [HG.out]
    go_wp2_with fail
    refine wp_region_inv (fun ln vs wx => Below w1.heap.size w1 wx ∧ vs 4 = .pointer (some ⟨g, 0, none⟩) ∧ (ln 0 = true → vs 17 = (.agg #[.slice a1 n2 k1, .slice a2 n2 k2, .slice a3 n2 k3])) ∧ (ln 1 = true → vs 18 = .agg (arr (rw3 x))) ∧ (ln 2 = true → vs 19 = .pointer (some ⟨g, 0, none⟩)) ∧ (ln 3 = true → vs 20 = .slice a1 n2 k1) ∧ (ln 4 = true → vs 21 = .int .i64 n2) ∧
        (ln 5 = true → ∃ G, vs 10 = .pointer (some ⟨G, 0, none⟩) ∧ w1.heap.size ≤ G ∧ wx.rowIs G 52 24 (fun i => .bool ((fun i => ln 6 && rw3 x i) i))) ∧ (ln 6 = true → ln 5 = true) ∧ (ln 7 = true → vs 11 = .int .i64 n2)) [17, 18, 19, 20, 21, 10, 11]
      (by kernel_rfl) (by kernel_rfl) (by kernel_rfl) (by kernel_rfl) ⟨Below.dw (Below.refl _ _), rfl, fun h => (by cases h), fun h => (by cases h), fun h => (by cases h), fun h => (by cases h), fun h => (by cases h), fun h => (by cases h), fun h => (by cases h), fun h => (by cases h)⟩ ?hobs ?_
    case hobs =>
      refine ⟨?_, ?_, ?_, ?_, ?_, ?_, ?_, ?_, trivial⟩
      · intro ln vs wx hn ha ⟨hb, v4, i0, i1, i2, i3, i4, i5, i6, i7⟩
        obtain ⟨⟨c0, c1, c2⟩, _⟩ := (Bx.below C1.out hb)
        have HI := Lib.hid (And.intro i0 (And.intro i1 (And.intro i2 (And.intro i3 (And.intro i4 (And.intro i5 (And.intro i6 i7)))))))
        clear i0 i1 i2 i3 i4 i5 i6 i7 ha
        go_simp
        simp only [evOf_tmp, v4]
        go_simp
        obtain ⟨i0, i1, i2, i3, i4, i5, i6, i7⟩ := HI.out
        exact ⟨hb, v4, fun _ => rfl, i1, i2, i3, i4, i5, i6, i7⟩
      · intro ln vs wx hn ha ⟨hb, v4, i0, i1, i2, i3, i4, i5, i6, i7⟩
        have q0 : ln 0 = true := ha ⟨0, Ground.data⟩ (by simp) rfl
        have u17 := i0 q0
        have HI := Lib.hid (And.intro i0 (And.intro i1 (And.intro i2 (And.intro i3 (And.intro i4 (And.intro i5 (And.intro i6 i7)))))))
        clear i0 i1 i2 i3 i4 i5 i6 i7 ha
        go_simp
        simp only [evOf_tmp, u17]
        obtain ⟨i0, i1, i2, i3, i4, i5, i6, i7⟩ := HI.out
        exact (rowsOf_c a1 n2 k1 a2 n2 k2 a3 n2 k3 x _ (Cal.below X0.out (below_next HB1.out hb)) h8 h8 h8).mono fun e w' ⟨he, hb2⟩ => ⟨_, he, below_next hb hb2, v4, i0, fun _ => rfl, i2, i3, i4, fun h => (let ⟨G, e1, e2, e3⟩ := i5 h; ⟨G, e1, e2, World.rowIs.of_block e3 (hb2.block G (World.rowIs.lt e3))⟩), i6, i7⟩
      · intro ln vs wx hn ha ⟨hb, v4, i0, i1, i2, i3, i4, i5, i6, i7⟩
        have HI := Lib.hid (And.intro i0 (And.intro i1 (And.intro i2 (And.intro i3 (And.intro i4 (And.intro i5 (And.intro i6 i7)))))))
        clear i0 i1 i2 i3 i4 i5 i6 i7 ha
        go_simp
        simp only [evOf_tmp, v4]
        go_simp
        obtain ⟨i0, i1, i2, i3, i4, i5, i6, i7⟩ := HI.out
        exact ⟨hb, v4, i0, i1, fun _ => rfl, i3, i4, i5, i6, i7⟩
      · intro ln vs wx hn ha ⟨hb, v4, i0, i1, i2, i3, i4, i5, i6, i7⟩
        have q2 : ln 2 = true := ha ⟨2, Ground.data⟩ (by simp) rfl
        have u19 := i2 q2
        obtain ⟨⟨c0, c1, c2⟩, _⟩ := (Bx.below C1.out hb)
        have HI := Lib.hid (And.intro i0 (And.intro i1 (And.intro i2 (And.intro i3 (And.intro i4 (And.intro i5 (And.intro i6 i7)))))))
        clear i0 i1 i2 i3 i4 i5 i6 i7 ha
        go_simp
        simp only [evOf_tmp, u19]
        go_simp
        obtain ⟨i0, i1, i2, i3, i4, i5, i6, i7⟩ := HI.out
        exact ⟨hb, v4, i0, i1, i2, fun _ => rfl, i4, i5, i6, i7⟩
      · intro ln vs wx hn ha ⟨hb, v4, i0, i1, i2, i3, i4, i5, i6, i7⟩
        have q3 : ln 3 = true := ha ⟨3, Ground.data⟩ (by simp) rfl
        have u20 := i3 q3
        have HI := Lib.hid (And.intro i0 (And.intro i1 (And.intro i2 (And.intro i3 (And.intro i4 (And.intro i5 (And.intro i6 i7)))))))
        clear i0 i1 i2 i3 i4 i5 i6 i7 ha
        go_simp
        simp only [evOf_tmp, u20]
        go_simp
        obtain ⟨i0, i1, i2, i3, i4, i5, i6, i7⟩ := HI.out
        exact ⟨hb, v4, i0, i1, i2, i3, fun _ => rfl, i5, i6, i7⟩
      · intro ln vs wx hn ha ⟨hb, v4, i0, i1, i2, i3, i4, i5, i6, i7⟩
        have n6 : ln 6 = false := by
          cases e : ln 6
          · rfl
          · have := i6 e; rw [hn] at this; cases this
        have HI := Lib.hid (And.intro i0 (And.intro i1 (And.intro i2 (And.intro i3 (And.intro i4 (And.intro i5 (And.intro i6 i7)))))))
        clear i0 i1 i2 i3 i4 i5 i6 i7 ha
        go_simp
        obtain ⟨i0, i1, i2, i3, i4, i5, i6, i7⟩ := HI.out
        exact ⟨Below.al hb _, v4, i0, i1, i2, i3, i4, fun _ => ⟨wx.heap.size, rfl, hb.size, (row24 wx).congr fun i hi => (by show _ = Value.bool (ln 6 && rw3 x i); rw [n6]; rfl)⟩, fun _ => rfl, i7⟩
      · intro ln vs wx hn ha ⟨hb, v4, i0, i1, i2, i3, i4, i5, i6, i7⟩
        have q5 : ln 5 = true := ha ⟨5, Ground.data⟩ (by simp) rfl
        have q1 : ln 1 = true := ha ⟨1, Ground.data⟩ (by simp) rfl
        obtain ⟨G, e1, e2, e3⟩ := i5 q5
        refine stepI_store (.tmp 10) (.tmp 18) rfl e1 (i1 q1) e3 (fun w' r1 r2 => ?_)
        exact ⟨Out.below hb r2 e2, v4, i0, i1, i2, i3, i4, fun _ => ⟨G, e1, e2, r1⟩, fun _ => q5, i7⟩
      · intro ln vs wx hn ha ⟨hb, v4, i0, i1, i2, i3, i4, i5, i6, i7⟩
        have q4 : ln 4 = true := ha ⟨4, Ground.data⟩ (by simp) rfl
        have u21 := i4 q4
        have HI := Lib.hid (And.intro i0 (And.intro i1 (And.intro i2 (And.intro i3 (And.intro i4 (And.intro i5 (And.intro i6 i7)))))))
        clear i0 i1 i2 i3 i4 i5 i6 i7 ha
        go_simp
        obtain ⟨i0, i1, i2, i3, i4, i5, i6, i7⟩ := HI.out
        exact ⟨hb, v4, i0, i1, i2, i3, i4, i5, i6, fun _ => u21⟩
    intro vs wq hI
    obtain ⟨hb, -, -, -, -, -, -, i5, -, i7⟩ := hI
    obtain ⟨G, v10, hGl, hr⟩ := i5 rfl
    have v11 : vs 11 = .int .i64 n2 := i7 rfl
    replace hr : wq.rowIs G 52 24 (fun i => .bool (rw3 x i)) := hr
    simp (decide := true) only [over, Nat.reduceAdd, if_true, if_false]
    rw [v10, v11]
    have R4 := Lib.hid hr
    have HB4 := Lib.hid (below_next HB1.out hb)
    have B4 := Lib.hid (Bx.below B1.out hb)
    have hz4 := Lib.hid (show G < wq.heap.size from World.rowIs.lt hr)
    have hG1 : g + 1 < G := by omega
    clear hr hb i5 i7 v10 v11 HB1 C1 B1 hsz1 hGl
    obtain ⟨w4, hw4⟩ : ∃ w4, w4 = wq := ⟨_, rfl⟩
    subst hw4
    go_wp2_with (with_reducible refine wpList_load_arr R4.out rfl ?_)
    have K := calls_c (rw3 x) n2 w4 h1 h8
    rw [HX.out] at K
    refine K.mono ?_
    rintro e w9 ⟨v1, v2, v3, rfl, hO, hb⟩
    obtain ⟨b1, t1', b2, t2', b3, t3', rfl, rfl, rfl, -⟩ := hO.open
    obtain ⟨⟨c0, c1, c2⟩, hf⟩ := Bx.below B4.out hb
    have f0 := hf 0
    have f1 := hf 1
    have f2 := hf 2
    have N := Lib.hid (newC_end (w0 := w) (r := g + 1) hO (below_next HB4.out hb) (by have := HG.out; omega) (by have := hz4.out; omega) (fun v => .tuple #[v, .bool false]))
    clear hf hb hO K
    go_wp2_with fail
    exact bodyPost_ret (v := .tuple #[.agg #[.slice b1 x.u.length t1', .slice b2 x.d.length t2', .slice b3 x.c.length t3'], .bool false]) (by simp [results, Try.results22, go_sem, c0, c1, c2]) rfl (by rw [E.out.1, E.out.2]; exact N.out)
  · have E := Lib.hid (show cst x k f b = x ∧ cstB x k f b = false from by
      have hn : ¬ SV x k f b := fun h => by have h1 := h.2.1.1; have h2 := h.2.1.2; have := L3.out; omega
      exact ⟨cst_f HCV.out hn, cstB_f hn⟩)
    go_enter Try.func22, Try.ntmps22
    go_wp2_with fail
    refine (HV.out _ (Cal.below X0.out HB0.out)).mono ?_
    rintro e w1 ⟨rfl, hb⟩
    have HB1 := Lib.hid (below_next HB0.out hb)
    have C1 := Lib.hid (Bx.below C0.out hb)
    have B1 := Lib.hid (Bx.below B0.out hb)
    have hs1 := hb.size
    have hsz1 : g + 1 < w1.heap.size := by omega
    clear hb HB0 C0 B0 HV hsz hs1
    try rw [HG.out]
    go_wp2_with fail
    refine wp_region_inv (fun ln vs wx => Below w1.heap.size w1 wx ∧ vs 4 = .pointer (some ⟨g, 0, none⟩) ∧ (ln 0 = true → vs 17 = (.agg #[.slice a1 n2 k1, .slice a2 n2 k2, .slice a3 n2 k3])) ∧ (ln 1 = true → vs 18 = .agg (arr (rw3 x))) ∧ (ln 2 = true → vs 19 = .pointer (some ⟨g, 0, none⟩)) ∧ (ln 3 = true → vs 20 = .slice a1 n2 k1) ∧ (ln 4 = true → vs 21 = .int .i64 n2) ∧
        (ln 5 = true → ∃ G, vs 10 = .pointer (some ⟨G, 0, none⟩) ∧ w1.heap.size ≤ G ∧ wx.rowIs G 52 24 (fun i => .bool ((fun i => ln 6 && rw3 x i) i))) ∧ (ln 6 = true → ln 5 = true) ∧ (ln 7 = true → vs 11 = .int .i64 n2)) [17, 18, 19, 20, 21, 10, 11]
      (by kernel_rfl) (by kernel_rfl) (by kernel_rfl) (by kernel_rfl) ⟨Below.dw (Below.refl _ _), rfl, fun h => (by cases h), fun h => (by cases h), fun h => (by cases h), fun h => (by cases h), fun h => (by cases h), fun h => (by cases h), fun h => (by cases h), fun h => (by cases h)⟩ ?hobs ?_
    case hobs =>
      refine ⟨?_, ?_, ?_, ?_, ?_, ?_, ?_, ?_, trivial⟩
      · intro ln vs wx hn ha ⟨hb, v4, i0, i1, i2, i3, i4, i5, i6, i7⟩
        obtain ⟨⟨c0, c1, c2⟩, _⟩ := (Bx.below C1.out hb)
        have HI := Lib.hid (And.intro i0 (And.intro i1 (And.intro i2 (And.intro i3 (And.intro i4 (And.intro i5 (And.intro i6 i7)))))))
        clear i0 i1 i2 i3 i4 i5 i6 i7 ha
        go_simp
        simp only [evOf_tmp, v4]
        go_simp
        obtain ⟨i0, i1, i2, i3, i4, i5, i6, i7⟩ := HI.out
        exact ⟨hb, v4, fun _ => rfl, i1, i2, i3, i4, i5, i6, i7⟩
      · intro ln vs wx hn ha ⟨hb, v4, i0, i1, i2, i3, i4, i5, i6, i7⟩
        have q0 : ln 0 = true := ha ⟨0, Ground.data⟩ (by simp) rfl
        have u17 := i0 q0
        have HI := Lib.hid (And.intro i0 (And.intro i1 (And.intro i2 (And.intro i3 (And.intro i4 (And.intro i5 (And.intro i6 i7)))))))
        clear i0 i1 i2 i3 i4 i5 i6 i7 ha
        go_simp
        simp only [evOf_tmp, u17]
        obtain ⟨i0, i1, i2, i3, i4, i5, i6, i7⟩ := HI.out
        exact (rowsOf_c a1 n2 k1 a2 n2 k2 a3 n2 k3 x _ (Cal.below X0.out (below_next HB1.out hb)) h8 h8 h8).mono fun e w' ⟨he, hb2⟩ => ⟨_, he, below_next hb hb2, v4, i0, fun _ => rfl, i2, i3, i4, fun h => (let ⟨G, e1, e2, e3⟩ := i5 h; ⟨G, e1, e2, World.rowIs.of_block e3 (hb2.block G (World.rowIs.lt e3))⟩), i6, i7⟩
      · intro ln vs wx hn ha ⟨hb, v4, i0, i1, i2, i3, i4, i5, i6, i7⟩
        have HI := Lib.hid (And.intro i0 (And.intro i1 (And.intro i2 (And.intro i3 (And.intro i4 (And.intro i5 (And.intro i6 i7)))))))
        clear i0 i1 i2 i3 i4 i5 i6 i7 ha
        go_simp
        simp only [evOf_tmp, v4]
        go_simp
        obtain ⟨i0, i1, i2, i3, i4, i5, i6, i7⟩ := HI.out
        exact ⟨hb, v4, i0, i1, fun _ => rfl, i3, i4, i5, i6, i7⟩
      · intro ln vs wx hn ha ⟨hb, v4, i0, i1, i2, i3, i4, i5, i6, i7⟩
        have q2 : ln 2 = true := ha ⟨2, Ground.data⟩ (by simp) rfl
        have u19 := i2 q2
        obtain ⟨⟨c0, c1, c2⟩, _⟩ := (Bx.below C1.out hb)
        have HI := Lib.hid (And.intro i0 (And.intro i1 (And.intro i2 (And.intro i3 (And.intro i4 (And.intro i5 (And.intro i6 i7)))))))
        clear i0 i1 i2 i3 i4 i5 i6 i7 ha
        go_simp
        simp only [evOf_tmp, u19]
        go_simp
        obtain ⟨i0, i1, i2, i3, i4, i5, i6, i7⟩ := HI.out
        exact ⟨hb, v4, i0, i1, i2, fun _ => rfl, i4, i5, i6, i7⟩
      · intro ln vs wx hn ha ⟨hb, v4, i0, i1, i2, i3, i4, i5, i6, i7⟩
        have q3 : ln 3 = true := ha ⟨3, Ground.data⟩ (by simp) rfl
        have u20 := i3 q3
        have HI := Lib.hid (And.intro i0 (And.intro i1 (And.intro i2 (And.intro i3 (And.intro i4 (And.intro i5 (And.intro i6 i7)))))))
        clear i0 i1 i2 i3 i4 i5 i6 i7 ha
        go_simp
        simp only [evOf_tmp, u20]
        go_simp
        obtain ⟨i0, i1, i2, i3, i4, i5, i6, i7⟩ := HI.out
        exact ⟨hb, v4, i0, i1, i2, i3, fun _ => rfl, i5, i6, i7⟩
      · intro ln vs wx hn ha ⟨hb, v4, i0, i1, i2, i3, i4, i5, i6, i7⟩
        have n6 : ln 6 = false := by
          cases e : ln 6
          · rfl
          · have := i6 e; rw [hn] at this; cases this
        have HI := Lib.hid (And.intro i0 (And.intro i1 (And.intro i2 (And.intro i3 (And.intro i4 (And.intro i5 (And.intro i6 i7)))))))
        clear i0 i1 i2 i3 i4 i5 i6 i7 ha
        go_simp
        obtain ⟨i0, i1, i2, i3, i4, i5, i6, i7⟩ := HI.out
        exact ⟨Below.al hb _, v4, i0, i1, i2, i3, i4, fun _ => ⟨wx.heap.size, rfl, hb.size, (row24 wx).congr fun i hi => (by show _ = Value.bool (ln 6 && rw3 x i); rw [n6]; rfl)⟩, fun _ => rfl, i7⟩
      · intro ln vs wx hn ha ⟨hb, v4, i0, i1, i2, i3, i4, i5, i6, i7⟩
        have q5 : ln 5 = true := ha ⟨5, Ground.data⟩ (by simp) rfl
        have q1 : ln 1 = true := ha ⟨1, Ground.data⟩ (by simp) rfl
        obtain ⟨G, e1, e2, e3⟩ := i5 q5
        refine stepI_store (.tmp 10) (.tmp 18) rfl e1 (i1 q1) e3 (fun w' r1 r2 => ?_)
        exact ⟨Out.below hb r2 e2, v4, i0, i1, i2, i3, i4, fun _ => ⟨G, e1, e2, r1⟩, fun _ => q5, i7⟩
      · intro ln vs wx hn ha ⟨hb, v4, i0, i1, i2, i3, i4, i5, i6, i7⟩
        have q4 : ln 4 = true := ha ⟨4, Ground.data⟩ (by simp) rfl
        have u21 := i4 q4
        have HI := Lib.hid (And.intro i0 (And.intro i1 (And.intro i2 (And.intro i3 (And.intro i4 (And.intro i5 (And.intro i6 i7)))))))
        clear i0 i1 i2 i3 i4 i5 i6 i7 ha
        go_simp
        obtain ⟨i0, i1, i2, i3, i4, i5, i6, i7⟩ := HI.out
        exact ⟨hb, v4, i0, i1, i2, i3, i4, i5, i6, fun _ => u21⟩
    intro vs wq hI
    obtain ⟨hb, -, -, -, -, -, -, i5, -, i7⟩ := hI
    obtain ⟨G, v10, hGl, hr⟩ := i5 rfl
    have v11 : vs 11 = .int .i64 n2 := i7 rfl
    replace hr : wq.rowIs G 52 24 (fun i => .bool (rw3 x i)) := hr
    simp (decide := true) only [over, Nat.reduceAdd, if_true, if_false]
    rw [v10, v11]
    have R4 := Lib.hid hr
    have HB4 := Lib.hid (below_next HB1.out hb)
    have B4 := Lib.hid (Bx.below B1.out hb)
    have hz4 := Lib.hid (show G < wq.heap.size from World.rowIs.lt hr)
    have hG1 : g + 1 < G := by omega
    clear hr hb i5 i7 v10 v11 HB1 C1 B1 hsz1 hGl
    obtain ⟨w4, hw4⟩ : ∃ w4, w4 = wq := ⟨_, rfl⟩
    subst hw4
    go_wp2_with (with_reducible refine wpList_load_arr R4.out rfl ?_)
    have K := calls_c (rw3 x) n2 w4 h1 h8
    rw [HX.out] at K
    refine K.mono ?_
    rintro e w9 ⟨v1, v2, v3, rfl, hO, hb⟩
    obtain ⟨b1, t1', b2, t2', b3, t3', rfl, rfl, rfl, -⟩ := hO.open
    obtain ⟨⟨c0, c1, c2⟩, hf⟩ := Bx.below B4.out hb
    have f0 := hf 0
    have f1 := hf 1
    have f2 := hf 2
    have N := Lib.hid (newC_end (w0 := w) (r := g + 1) hO (below_next HB4.out hb) (by have := HG.out; omega) (by have := hz4.out; omega) (fun v => .tuple #[v, .bool false]))
    clear hf hb hO K
    go_wp2_with fail
    exact bodyPost_ret (v := .tuple #[.agg #[.slice b1 x.u.length t1', .slice b2 x.d.length t2', .slice b3 x.c.length t3'], .bool false]) (by simp [results, Try.results22, go_sem, c0, c1, c2]) rfl (by rw [E.out.1, E.out.2]; exact N.out)
  · obtain ⟨kk, rfl⟩ : ∃ kk : Nat, k = kk := ⟨k.toNat, by omega⟩
    obtain ⟨j, rfl⟩ : ∃ j : Nat, f = j := ⟨f.toNat, by omega⟩
    have hk3 : kk < 3 := by omega
    have hk3i : (kk : Int) < 3 := by omega
    have hjn : j < n2 := by omega
    have hj8 : j < 8 := by omega
    have hj8i : (j : Int) < 8 := by omega
    have j0 : (0 : Int) ≤ j := by omega
    have kk0 : (0 : Int) ≤ kk := by omega
    obtain ⟨lp1, lp2, lp3⟩ := cput_len x kk j b
    rw [L1.out] at lp1
    rw [L2.out] at lp2
    rw [L3.out] at lp3
    have HY := Lib.hid (csOf_rw3 h8 lp1 lp2 lp3)
    have HW := Lib.hid (nw_cv h1 h8 lp1 lp2 lp3)
    have RP := Lib.hid (fun i hi => rw3_put (x := x) (k := kk) (j := j) b hk3 hjn h8 L1.out L2.out L3.out i hi)
    clear lp1 lp2 lp3
    go_enter Try.func22, Try.ntmps22
    go_wp2_with fail
    refine (HV.out _ (Cal.below X0.out HB0.out)).mono ?_
    rintro e w1 ⟨rfl, hb⟩
    have HB1 := Lib.hid (below_next HB0.out hb)
    have C1 := Lib.hid (Bx.below C0.out hb)
    have B1 := Lib.hid (Bx.below B0.out hb)
    have hs1 := hb.size
    have hsz1 : g + 1 < w1.heap.size := by omega
    clear hb HB0 C0 B0 HV hsz hs1
    try rw [HG.out]
    go_wp2_with fail
    refine wp_region_inv (fun ln vs wx => Below w1.heap.size w1 wx ∧ vs 4 = .pointer (some ⟨g, 0, none⟩) ∧ (ln 0 = true → vs 17 = (.agg #[.slice a1 n2 k1, .slice a2 n2 k2, .slice a3 n2 k3])) ∧ (ln 1 = true → vs 18 = .agg (arr (rw3 x))) ∧ (ln 2 = true → vs 19 = .pointer (some ⟨g, 0, none⟩)) ∧ (ln 3 = true → vs 20 = .slice a1 n2 k1) ∧ (ln 4 = true → vs 21 = .int .i64 n2) ∧
        (ln 5 = true → ∃ G, vs 10 = .pointer (some ⟨G, 0, none⟩) ∧ w1.heap.size ≤ G ∧ wx.rowIs G 52 24 (fun i => .bool ((fun i => ln 6 && rw3 x i) i))) ∧ (ln 6 = true → ln 5 = true) ∧ (ln 7 = true → vs 11 = .int .i64 n2)) [17, 18, 19, 20, 21, 10, 11]
      (by kernel_rfl) (by kernel_rfl) (by kernel_rfl) (by kernel_rfl) ⟨Below.dw (Below.refl _ _), rfl, fun h => (by cases h), fun h => (by cases h), fun h => (by cases h), fun h => (by cases h), fun h => (by cases h), fun h => (by cases h), fun h => (by cases h), fun h => (by cases h)⟩ ?hobs ?_
    case hobs =>
      refine ⟨?_, ?_, ?_, ?_, ?_, ?_, ?_, ?_, trivial⟩
      · intro ln vs wx hn ha ⟨hb, v4, i0, i1, i2, i3, i4, i5, i6, i7⟩
        obtain ⟨⟨c0, c1, c2⟩, _⟩ := (Bx.below C1.out hb)
        have HI := Lib.hid (And.intro i0 (And.intro i1 (And.intro i2 (And.intro i3 (And.intro i4 (And.intro i5 (And.intro i6 i7)))))))
        clear i0 i1 i2 i3 i4 i5 i6 i7 ha
        go_simp
        simp only [evOf_tmp, v4]
        go_simp
        obtain ⟨i0, i1, i2, i3, i4, i5, i6, i7⟩ := HI.out
        exact ⟨hb, v4, fun _ => rfl, i1, i2, i3, i4, i5, i6, i7⟩
      · intro ln vs wx hn ha ⟨hb, v4, i0, i1, i2, i3, i4, i5, i6, i7⟩
        have q0 : ln 0 = true := ha ⟨0, Ground.data⟩ (by simp) rfl
        have u17 := i0 q0
        have HI := Lib.hid (And.intro i0 (And.intro i1 (And.intro i2 (And.intro i3 (And.intro i4 (And.intro i5 (And.intro i6 i7)))))))
        clear i0 i1 i2 i3 i4 i5 i6 i7 ha
        go_simp
        simp only [evOf_tmp, u17]
        obtain ⟨i0, i1, i2, i3, i4, i5, i6, i7⟩ := HI.out
        exact (rowsOf_c a1 n2 k1 a2 n2 k2 a3 n2 k3 x _ (Cal.below X0.out (below_next HB1.out hb)) h8 h8 h8).mono fun e w' ⟨he, hb2⟩ => ⟨_, he, below_next hb hb2, v4, i0, fun _ => rfl, i2, i3, i4, fun h => (let ⟨G, e1, e2, e3⟩ := i5 h; ⟨G, e1, e2, World.rowIs.of_block e3 (hb2.block G (World.rowIs.lt e3))⟩), i6, i7⟩
      · intro ln vs wx hn ha ⟨hb, v4, i0, i1, i2, i3, i4, i5, i6, i7⟩
        have HI := Lib.hid (And.intro i0 (And.intro i1 (And.intro i2 (And.intro i3 (And.intro i4 (And.intro i5 (And.intro i6 i7)))))))
        clear i0 i1 i2 i3 i4 i5 i6 i7 ha
        go_simp
        simp only [evOf_tmp, v4]
        go_simp
        obtain ⟨i0, i1, i2, i3, i4, i5, i6, i7⟩ := HI.out
        exact ⟨hb, v4, i0, i1, fun _ => rfl, i3, i4, i5, i6, i7⟩
      · intro ln vs wx hn ha ⟨hb, v4, i0, i1, i2, i3, i4, i5, i6, i7⟩
        have q2 : ln 2 = true := ha ⟨2, Ground.data⟩ (by simp) rfl
        have u19 := i2 q2
        obtain ⟨⟨c0, c1, c2⟩, _⟩ := (Bx.below C1.out hb)
        have HI := Lib.hid (And.intro i0 (And.intro i1 (And.intro i2 (And.intro i3 (And.intro i4 (And.intro i5 (And.intro i6 i7)))))))
        clear i0 i1 i2 i3 i4 i5 i6 i7 ha
        go_simp
        simp only [evOf_tmp, u19]
        go_simp
        obtain ⟨i0, i1, i2, i3, i4, i5, i6, i7⟩ := HI.out
        exact ⟨hb, v4, i0, i1, i2, fun _ => rfl, i4, i5, i6, i7⟩
      · intro ln vs wx hn ha ⟨hb, v4, i0, i1, i2, i3, i4, i5, i6, i7⟩
        have q3 : ln 3 = true := ha ⟨3, Ground.data⟩ (by simp) rfl
        have u20 := i3 q3
        have HI := Lib.hid (And.intro i0 (And.intro i1 (And.intro i2 (And.intro i3 (And.intro i4 (And.intro i5 (And.intro i6 i7)))))))
        clear i0 i1 i2 i3 i4 i5 i6 i7 ha
        go_simp
        simp only [evOf_tmp, u20]
        go_simp
        obtain ⟨i0, i1, i2, i3, i4, i5, i6, i7⟩ := HI.out
        exact ⟨hb, v4, i0, i1, i2, i3, fun _ => rfl, i5, i6, i7⟩
      · intro ln vs wx hn ha ⟨hb, v4, i0, i1, i2, i3, i4, i5, i6, i7⟩
        have n6 : ln 6 = false := by
          cases e : ln 6
          · rfl
          · have := i6 e; rw [hn] at this; cases this
        have HI := Lib.hid (And.intro i0 (And.intro i1 (And.intro i2 (And.intro i3 (And.intro i4 (And.intro i5 (And.intro i6 i7)))))))
        clear i0 i1 i2 i3 i4 i5 i6 i7 ha
        go_simp
        obtain ⟨i0, i1, i2, i3, i4, i5, i6, i7⟩ := HI.out
        exact ⟨Below.al hb _, v4, i0, i1, i2, i3, i4, fun _ => ⟨wx.heap.size, rfl, hb.size, (row24 wx).congr fun i hi => (by show _ = Value.bool (ln 6 && rw3 x i); rw [n6]; rfl)⟩, fun _ => rfl, i7⟩
      · intro ln vs wx hn ha ⟨hb, v4, i0, i1, i2, i3, i4, i5, i6, i7⟩
        have q5 : ln 5 = true := ha ⟨5, Ground.data⟩ (by simp) rfl
        have q1 : ln 1 = true := ha ⟨1, Ground.data⟩ (by simp) rfl
        obtain ⟨G, e1, e2, e3⟩ := i5 q5
        refine stepI_store (.tmp 10) (.tmp 18) rfl e1 (i1 q1) e3 (fun w' r1 r2 => ?_)
        exact ⟨Out.below hb r2 e2, v4, i0, i1, i2, i3, i4, fun _ => ⟨G, e1, e2, r1⟩, fun _ => q5, i7⟩
      · intro ln vs wx hn ha ⟨hb, v4, i0, i1, i2, i3, i4, i5, i6, i7⟩
        have q4 : ln 4 = true := ha ⟨4, Ground.data⟩ (by simp) rfl
        have u21 := i4 q4
        have HI := Lib.hid (And.intro i0 (And.intro i1 (And.intro i2 (And.intro i3 (And.intro i4 (And.intro i5 (And.intro i6 i7)))))))
        clear i0 i1 i2 i3 i4 i5 i6 i7 ha
        go_simp
        obtain ⟨i0, i1, i2, i3, i4, i5, i6, i7⟩ := HI.out
        exact ⟨hb, v4, i0, i1, i2, i3, i4, i5, i6, fun _ => u21⟩
    intro vs wq hI
    obtain ⟨hb, -, -, -, -, -, -, i5, -, i7⟩ := hI
    obtain ⟨G, v10, hGl, hr⟩ := i5 rfl
    have v11 : vs 11 = .int .i64 n2 := i7 rfl
    replace hr : wq.rowIs G 52 24 (fun i => .bool (rw3 x i)) := hr
    simp (decide := true) only [over, Nat.reduceAdd, if_true, if_false]
    rw [v10, v11]
    have R4 := Lib.hid hr
    have HB4 := Lib.hid (below_next HB1.out hb)
    have B4 := Lib.hid (Bx.below B1.out hb)
    have hz4 := Lib.hid (show G < wq.heap.size from World.rowIs.lt hr)
    have hG1 : g + 1 < G := by omega
    clear hr hb i5 i7 v10 v11 HB1 C1 B1 hsz1 hGl
    obtain ⟨w4, hw4⟩ : ∃ w4, w4 = wq := ⟨_, rfl⟩
    subst hw4
    obtain ⟨G2, hG2⟩ : ∃ G2, w4.heap.size = G2 := ⟨_, rfl⟩
    have hGG2 : G < G2 := by rw [← hG2]; exact hz4.out
    have F5 := Lib.hid (show (w4.alloc (.cells #[.bool false, .bool false, .bool false, .bool false, .bool false, .bool false, .bool false, .bool false, .bool false, .bool false, .bool false, .bool false, .bool false, .bool false, .bool false, .bool false, .bool false, .bool false, .bool false, .bool false, .bool false, .bool false, .bool false, .bool false] 52)).rowIs G2 52 24 (fun i => .bool ((fun _ => false) i)) from by rw [← hG2]; exact row24 w4)
    go_wp2_with (first | (with_reducible refine wpList_load_arr R4.out rfl ?_) | (with_reducible refine wpList_store_arr F5.out rfl rfl ?_))
    intro w5 hr ho
    have R5 := Lib.hid hr
    have RX := Lib.hid (World.rowIs.of_block (World.rowIs.alloc R4.out (.cells #[.bool false, .bool false, .bool false, .bool false, .bool false, .bool false, .bool false, .bool false, .bool false, .bool false, .bool false, .bool false, .bool false, .bool false, .bool false, .bool false, .bool false, .bool false, .bool false, .bool false, .bool false, .bool false, .bool false, .bool false] 52)) (ho.block G (by rw [World.size_alloc]; omega) (by omega)))
    have HB5 := Lib.hid (Out.below (Below.al HB4.out (.cells #[.bool false, .bool false, .bool false, .bool false, .bool false, .bool false, .bool false, .bool false, .bool false, .bool false, .bool false, .bool false, .bool false, .bool false, .bool false, .bool false, .bool false, .bool false, .bool false, .bool false, .bool false, .bool false, .bool false, .bool false] 52)) ho (by have := HG.out; omega))
    have B5 := Lib.hid (Bx.out (Bx.al B4.out (.cells #[.bool false, .bool false, .bool false, .bool false, .bool false, .bool false, .bool false, .bool false, .bool false, .bool false, .bool false, .bool false, .bool false, .bool false, .bool false, .bool false, .bool false, .bool false, .bool false, .bool false, .bool false, .bool false, .bool false, .bool false] 52)) ho (.inl (by omega)))
    clear hr ho F5 HB4 B4 R4 hz4 hG2
    have cc := World.rowIs.cell R5.out (i := kk * 8 + j) (by omega)
    have ff := World.rowIs.frozen R5.out (kk * 8 + j)
    have R6 := Lib.hid (World.rowIs.congr (World.rowIs.set R5.out (kk * 8 + j) (.bool b)) (g := fun i => .bool (rw3 (cput x kk j b) i)) fun i hi => by rw [← RP.out i hi]; split <;> rfl)
    have RX6 := Lib.hid (World.rowIs.setOther RX.out (a := ⟨G2, kk * 8 + j, none⟩) (by simp; omega) (.bool b))
    have HB6 := Lib.hid (show Below w.heap.size w (w5.setCell ⟨G2, kk * 8 + j, none⟩ (.bool b)) from Below.st HB5.out (by have := HG.out; show _ ≤ G2; omega) _)
    have B6 := Lib.hid (Bx.out B5.out (Out.set (w := w5) (q := G2) (i := kk * 8 + j) (lo := G2) (hi := G2 + 1) (.bool b) (Nat.le_refl _) (by omega)) (.inl (by omega)))
    clear R5 RX HB5 B5 RP
    go_wp2_with (with_reducible refine wpList_load_arr R6.out rfl ?_)
    generalize w5.setCell ⟨G2, kk * 8 + j, none⟩ (.bool b) = w6 at *
    clear cc ff
    refine (pastEnds_c _ n2 _ h1 h8).mono ?_
    rintro e w7 ⟨rfl, hb⟩
    have R7 := Lib.hid (World.rowIs.of_block R6.out (hb.block G2 (World.rowIs.lt R6.out)))
    have RX7 := Lib.hid (World.rowIs.of_block RX6.out (hb.block G (World.rowIs.lt RX6.out)))
    have HB7 := Lib.hid (below_next HB6.out hb)
    have B7 := Lib.hid (Bx.below B6.out hb)
    clear hb R6 RX6 HB6 B6
    go_wp2_with fail
    refine (nothingWaits_c _ _).mono ?_
    rintro e w8 ⟨rfl, hb⟩
    have R8 := Lib.hid (World.rowIs.of_block R7.out (hb.block G2 (World.rowIs.lt R7.out)))
    have RX8 := Lib.hid (World.rowIs.of_block RX7.out (hb.block G (World.rowIs.lt RX7.out)))
    have HB8 := Lib.hid (below_next HB7.out hb)
    have B8 := Lib.hid (Bx.below B7.out hb)
    have hz8 := Lib.hid (World.rowIs.lt R8.out)
    clear hb R7 RX7 HB7 B7
    rw [HW.out]
    by_cases hv2 : CV (cput x kk j b)
    · rw [cvB_t hv2]
      have E := Lib.hid (show cst x kk j b = cput x kk j b ∧ cstB x kk j b = true from by
        have hs : SV x kk j b := ⟨HCV.out, ⟨by omega, by have := L3.out; omega⟩, hv2⟩
        exact ⟨cst_t hs, cstB_t hs⟩)
      clear hv2
      go_wp2_with (with_reducible refine wpList_load_arr R8.out rfl ?_)
      have K := calls_c (rw3 (cput x kk j b)) n2 w8 h1 h8
      rw [HY.out] at K
      refine K.mono ?_
      rintro e w9 ⟨v1, v2, v3, rfl, hO, hb⟩
      obtain ⟨b1, t1', b2, t2', b3, t3', rfl, rfl, rfl, -⟩ := hO.open
      obtain ⟨⟨c0, c1, c2⟩, hf⟩ := Bx.below B8.out hb
      have f0 := hf 0
      have f1 := hf 1
      have f2 := hf 2
      have N := Lib.hid (newC_end (w0 := w) (r := g + 1) hO (below_next HB8.out hb) (by have := HG.out; omega) (by have := hz8.out; omega) (fun v => .tuple #[v, .bool true]))
      clear hf hb hO K
      go_wp2_with fail
      exact bodyPost_ret (v := .tuple #[.agg #[.slice b1 (cput x kk j b).u.length t1', .slice b2 (cput x kk j b).d.length t2', .slice b3 (cput x kk j b).c.length t3'], .bool true]) (by simp [results, Try.results22, go_sem, c0, c1, c2]) rfl (by rw [E.out.1, E.out.2]; exact N.out)
    · rw [cvB_f hv2]
      have E := Lib.hid (show cst x kk j b = x ∧ cstB x kk j b = false from by
        have hs : ¬ SV x kk j b := fun h => hv2 h.2.2
        exact ⟨cst_f HCV.out hs, cstB_f hs⟩)
      clear hv2
      go_wp2_with (with_reducible refine wpList_load_arr RX8.out rfl ?_)
      have K := calls_c (rw3 x) n2 w8 h1 h8
      rw [HX.out] at K
      refine K.mono ?_
      rintro e w9 ⟨v1, v2, v3, rfl, hO, hb⟩
      obtain ⟨b1, t1', b2, t2', b3, t3', rfl, rfl, rfl, -⟩ := hO.open
      obtain ⟨⟨c0, c1, c2⟩, hf⟩ := Bx.below B8.out hb
      have f0 := hf 0
      have f1 := hf 1
      have f2 := hf 2
      have N := Lib.hid (newC_end (w0 := w) (r := g + 1) hO (below_next HB8.out hb) (by have := HG.out; omega) (by have := hz8.out; omega) (fun v => .tuple #[v, .bool false]))
      clear hf hb hO K
      go_wp2_with fail
      exact bodyPost_ret (v := .tuple #[.agg #[.slice b1 (x).u.length t1', .slice b2 (x).d.length t2', .slice b3 (x).c.length t3'], .bool false]) (by simp [results, Try.results22, go_sem, c0, c1, c2]) rfl (by rw [E.out.1, E.out.2]; exact N.out)
end Go.Proofs.Ytgenccbpkolmbaa
