/- CallsValid, CallsNone, l8Copy of the model. -/
import Derived.Test.Ytfhhgddajmihjaa8D
import Derived.Test.YtfhhgddajmihjaaD
namespace Go.Proofs.Ytfhhgddajmihjaa
open Go.RowKit
set_option linter.unusedVariables false
set_option linter.unusedSimpArgs false
set_option maxRecDepth 100000

set_option maxHeartbeats 1000000 in
theorem sCallsValid_c (a1 : Option Addr) (n1 k1 : Nat) (a2 : Option Addr) (n2 k2 : Nat) (a3 : Option Addr) (n3 k3 : Nat) (x : Cs) (w : World) (hX : Cal w a1 n1 a2 n2 a3 n3 x) : Calls Try.prog 90 #[(.agg #[.slice a1 n1 k1, .slice a2 n2 k2, .slice a3 n3 k3])] w (Mk w (.bool (cvB x))) := by
  obtain ⟨W, hW⟩ : ∃ W, w.alloc (.cells #[.slice a1 n1 k1, .slice a2 n2 k2, .slice a3 n3 k3] 36) = W := ⟨_, rfl⟩
  have B0 := Lib.hid (Bx.new w (.slice a1 n1 k1) (.slice a2 n2 k2) (.slice a3 n3 k3) 36)
  have X := Lib.hid (Cal.al hX (.cells #[.slice a1 n1 k1, .slice a2 n2 k2, .slice a3 n3 k3] 36))
  have l1 := hX.1.1
  have l2 := hX.2.1.1
  have l3 := hX.2.2.1
  have HB := Lib.hid (Below.al (Below.refl w.heap.size w) (.cells #[.slice a1 n1 k1, .slice a2 n2 k2, .slice a3 n3 k3] 36))
  clear hX hW
  rcases (by omega : ¬ (1 ≤ (n3 : Int) ∧ (n3 : Int) ≤ 8) ∨ (n1 ≠ n3 ∧ 1 ≤ n3 ∧ n3 ≤ 8) ∨ (n2 ≠ n3 ∧ n1 = n3 ∧ 1 ≤ n3 ∧ n3 ≤ 8) ∨ (n1 = n3 ∧ n2 = n3 ∧ 1 ≤ n3 ∧ n3 ≤ 8)) with h | ⟨h, h1, h8⟩ | ⟨h, h2, h1, h8⟩ | ⟨h3, h2, h1, h8⟩
  case inr.inr.inr =>
    subst h2 h3
    obtain ⟨k, rfl⟩ : ∃ k, n1 = k + 1 := ⟨n1 - 1, by omega⟩
    obtain ⟨⟨_, r1⟩, ⟨_, r2⟩, _⟩ := X.out
    rcases r1 with r1 | ⟨b1, o1, rfl, r1⟩
    · omega
    rcases r2 with r2 | ⟨b2, o2, rfl, r2⟩
    · omega
    have t1 : inB 1 ((k + 1 : Nat) : Int) 8 = true := inB_t ⟨by omega, by omega⟩
    have c1 := r1 k (by omega)
    have c2 := r2 0 (by omega)
    simp only [Nat.add_zero] at c2
    have E := Lib.hid (show (!bn x.u k && !bn x.d 0) = cvB x from by
      cases a : bn x.u k
      · cases b : bn x.d 0
        · rw [cvB_t ⟨by omega, by omega, by omega, by omega, by rw [l3]; exact a, b⟩]; rfl
        · rw [cvB_f (fun h => by have := h.2.2.2.2.2; rw [b] at this; cases this)]; rfl
      · rw [cvB_f (fun h => by have := h.2.2.2.2.1; rw [l3] at this; rw [show k + 1 - 1 = k from rfl, a] at this; cases this)]; rfl)
    have k0 : (0 : Int) ≤ k := by omega
    have k1 : (k : Int) < (k : Int) + 1 := by omega
    have k2 : (1 : Int) ≤ (k : Int) + 1 := by omega
    have kk : k < k + 1 := by omega
    clear l1 l2 l3 r1 r2 X h1
    cases hu : bn x.u k
    · rw [hu] at c1 E
      cases hd : bn x.d 0
      all_goals
        rw [hd] at c2 E
        clear hu hd
        go_enter Try.func90, Try.ntmps90
        go_wp2_with fail
        refine (l1In_c _ _ _ _).mono ?_
        rintro e w' ⟨rfl, m1, rfl⟩
        go_wp2_with fail
        go_ret
        exact Mk.b E.out.symm (Below.dr HB.out _)
    · rw [hu] at c1 E
      clear hu c2
      go_enter Try.func90, Try.ntmps90
      go_wp2_with fail
      refine (l1In_c _ _ _ _).mono ?_
      rintro e w' ⟨rfl, m1, rfl⟩
      go_wp2_with fail
      go_ret
      exact Mk.b E.out.symm (Below.dr HB.out _)
  all_goals
    have E := Lib.hid (cvB_f (x := x) (fun g => by have g1 := g.1; have g2 := g.2.1; have g3 := g.2.2.1; have g4 := g.2.2.2.1; omega))
    clear l1 l2 l3 X
  · have t1 : inB 1 (n3 : Int) 8 = false := inB_f h
    clear h
    go_enter Try.func90, Try.ntmps90
    go_wp2_with fail
    refine (l1In_c _ _ _ _).mono ?_
    rintro e w' ⟨rfl, m1, rfl⟩
    go_wp2_with fail
    go_ret
    exact Mk.b E.out (Below.dr HB.out _)
  · have t1 : inB 1 (n3 : Int) 8 = true := inB_t ⟨by omega, by omega⟩
    have i3 : ((n1 : Int) == (n3 : Int)) = false := by simp; omega
    clear h h1 h8
    go_enter Try.func90, Try.ntmps90
    go_wp2_with fail
    refine (l1In_c _ _ _ _).mono ?_
    rintro e w' ⟨rfl, m1, rfl⟩
    go_wp2_with fail
    go_ret
    exact Mk.b E.out (Below.dr HB.out _)
  · have t1 : inB 1 (n3 : Int) 8 = true := inB_t ⟨by omega, by omega⟩
    have i3 : ((n2 : Int) == (n3 : Int)) = false := by simp; omega
    subst h2
    clear h h1 h8
    go_enter Try.func90, Try.ntmps90
    go_wp2_with fail
    refine (l1In_c _ _ _ _).mono ?_
    rintro e w' ⟨rfl, m1, rfl⟩
    go_wp2_with fail
    go_ret
    exact Mk.b E.out (Below.dr HB.out _)
theorem OwnB.made (w : World) (n : Nat) (h : n ≤ maxLen) : OwnB (w.alloc (.cells (madeCells #[.bool false] n) 4)) w.heap.size (.slice (some ⟨w.heap.size, 0, none⟩) n n) (List.replicate n false) := by
  refine ⟨by simp, .inr ⟨w.heap.size, n, _, by simp, Nat.le_refl _, heap_alloc_new w _, by simp, h, ?_, ?_⟩⟩
  · have := World.rowIs_made w (.bool false) n 4
    obtain ⟨c, h1, h2, h3⟩ := this
    have h4 := heap_alloc_new w (.cells (madeCells #[.bool false] n) 4)
    rw [h4] at h1
    cases h1
    omega
  · obtain ⟨c, h1, h2, h3⟩ := World.rowIs_made w (.bool false) n 4
    have h4 := heap_alloc_new w (.cells (madeCells #[.bool false] n) 4)
    rw [h4] at h1
    cases h1
    apply List.ext_getElem?
    intro i
    simp only [List.length_replicate, Nat.mul_one, List.getElem?_take, List.map_replicate, List.getElem?_replicate, Array.getElem?_toList]
    split
    · rename_i g; exact h3 i g
    · rfl
theorem ob_make {W w : World} {M : Value → World → Prop} {o : Oper} {vs : Nat → Value} {n : Nat} (s : Operand) (hop : o.op = Op.makeSlice 34 s s) (hC : Below W.heap.size W w) (hs : evOf vs s = .int .i64 n) (hn : n ≤ 1000)
    (hM : ∀ v w', OwnB w' W.heap.size v (List.replicate n false) → Newer w v → M v w') : Comply Try.prog (fun _ w => Below W.heap.size W w) Grow 0 w M ((execOp (evOf vs) o).run Try.prog w) := by
  have hmk := run_make_row' (P := Try.prog) 34 4 (.bool false) 1 Try.underlying34 infoBool rfl .i64 .i64 n (by omega) (by omega) w
  have e : (execOp (evOf vs) o).run Try.prog w = .ok (.value (.slice (some ⟨w.heap.size, 0, none⟩) n n)) (w.alloc (.cells (madeCells #[.bool false] n) 4)) := by
    unfold execOp
    simp only [hop, hs, Sem.run_bind, Sem.run_pure, hmk, Result.andThen_ok]
  rw [e]
  have own := OwnB.made w n (by unfold maxLen; omega)
  exact ⟨hM _ _ (own.mono (Below.size hC)) (fun k hk => by simp [Value.ownBlock] at hk; omega), Below.al hC _, Grow.al _ _⟩
set_option maxHeartbeats 2000000 in
theorem sCallsNone_c (n : Int) (w : World) : Calls Try.prog 56 #[.int .i64 n] w (NewC w (cno n) id) := by
  have B0 := Lib.hid (Bx.new w (.slice none 0 0) (.slice none 0 0) (.slice none 0 0) 36)
  have HB := Lib.hid (Below.al (Below.refl w.heap.size w) (.cells #[.slice none 0 0, .slice none 0 0, .slice none 0 0] 36))
  by_cases h : 1 ≤ n ∧ n ≤ 8
  · obtain ⟨k, rfl⟩ : ∃ k : Nat, n = k := ⟨n.toNat, by omega⟩
    have h1n : 1 ≤ k := by omega
    have h8n : k ≤ 8 := by omega
    have E := Lib.hid (cno_ok h1n h8n)
    have t1 : inB 1 (k : Int) 8 = true := inB_t h
    clear h
    go_enter Try.func56, Try.ntmps56
    go_wp2_with fail
    refine (l1In_c _ _ _ _).mono ?_
    rintro e w' ⟨rfl, m1, rfl⟩
    go_wp2_with fail
    obtain ⟨W, hW⟩ : ∃ W, (w.alloc (.cells #[.slice none 0 0, .slice none 0 0, .slice none 0 0] 36)).drewN m1 = W := ⟨_, rfl⟩
    have B := Lib.hid (show Bx W w.heap.size (.slice none 0 0) (.slice none 0 0) (.slice none 0 0) from by rw [← hW]; exact B0.out)
    have HB1 := Lib.hid (show Below w.heap.size w W from by rw [← hW]; exact Below.dr HB.out m1)
    have hsz : w.heap.size < W.heap.size := by rw [← hW]; simp [World.drewN]
    rw [hW]
    clear hW B0 HB
    refine wp_region_rows [8, 10, 12] 6 [7, 8, 9, 10, 11, 12] [(0, tV (.int .i64 k)), (2, tV (.pointer (some ⟨w.heap.size, 0, none⟩)))]
      [(7, tV (.int .i64 k)), (8, tOB W.heap.size (List.replicate k false)), (9, tV (.int .i64 k)), (10, tOB W.heap.size (List.replicate k false)), (11, tV (.int .i64 k)), (12, tOB W.heap.size (List.replicate k false))]
      _ _ (by kernel_rfl) (by kernel_rfl) ?hown (by kernel_rfl) (by kernel_rfl) (by kernel_rfl) (by kernel_rfl) (by rfl) (by rfl) (by kernel_rfl) (by kernel_rfl) (by kernel_rfl) (by kernel_rfl) (by kernel_rfl) ?hst ⟨rfl, rfl, trivial⟩ ?hobs ?_
    case hown =>
      intro t ht
      have : t = 8 ∨ t = 10 ∨ t = 12 := by simpa using ht
      rcases this with e | e | e <;> subst e <;> exact ⟨List.replicate k false, rfl⟩
    case hst => exact ⟨StW.g (StW.V _), StW.g (StW.V _), StW.g (StW.V _), StGrow.OB _ _, StW.g (StW.V _), StGrow.OB _ _, StW.g (StW.V _), StGrow.OB _ _, trivial⟩
    case hobs =>
      refine ⟨?_, ?_, ?_, ?_, ?_, ?_, trivial⟩
      · intro w1 vs hC hL
        have ha := hL 0 (List.mem_of_elem_eq_true (by kernel_rfl))
        replace ha : vs 0 = .int .i64 k := ha
        go_simp
        exact oa_pure hC (show tV _ (vs 0) w1 from ha)
      · intro w1 vs hC hL
        have ha := hL 7 (List.mem_of_elem_eq_true (by kernel_rfl))
        replace ha : vs 7 = .int .i64 k := ha
        exact ob_make (.tmp 7) rfl hC ha (by omega) (fun v w' h1 h2 d hd => by cases hd; exact ⟨h1, fun _ => h2⟩)
      · intro w1 vs hC hL
        have ha := hL 0 (List.mem_of_elem_eq_true (by kernel_rfl))
        replace ha : vs 0 = .int .i64 k := ha
        go_simp
        exact oa_pure hC (show tV _ (vs 0) w1 from ha)
      · intro w1 vs hC hL
        have ha := hL 9 (List.mem_of_elem_eq_true (by kernel_rfl))
        replace ha : vs 9 = .int .i64 k := ha
        exact ob_make (.tmp 9) rfl hC ha (by omega) (fun v w' h1 h2 d hd => by cases hd; exact ⟨h1, fun _ => h2⟩)
      · intro w1 vs hC hL
        have ha := hL 0 (List.mem_of_elem_eq_true (by kernel_rfl))
        replace ha : vs 0 = .int .i64 k := ha
        go_simp
        exact oa_pure hC (show tV _ (vs 0) w1 from ha)
      · intro w1 vs hC hL
        have ha := hL 11 (List.mem_of_elem_eq_true (by kernel_rfl))
        replace ha : vs 11 = .int .i64 k := ha
        exact ob_make (.tmp 11) rfl hC ha (by omega) (fun v w' h1 h2 d hd => by cases hd; exact ⟨h1, fun _ => h2⟩)
    intro vs w' hB hT hA
    simp (decide := true) only [over, Nat.reduceAdd, if_true, if_false]
    have o1 : OwnB w' W.heap.size (vs 8) (List.replicate k false) := hT 8 rfl
    have o2 : OwnB w' W.heap.size (vs 10) (List.replicate k false) := hT 10 rfl
    have o3 : OwnB w' W.heap.size (vs 12) (List.replicate k false) := hT 12 rfl
    have a12 : Apart (vs 8) (vs 10) := hA 8 10 rfl rfl (by decide)
    have a13 : Apart (vs 8) (vs 12) := hA 8 12 rfl rfl (by decide)
    have a23 : Apart (vs 10) (vs 12) := hA 10 12 rfl rfl (by decide)
    have B2 := Lib.hid (Bx.below B.out hB)
    obtain ⟨b1, k1, e1, -, -⟩ := o1.open
    obtain ⟨b2, k2, e2, -, -⟩ := o2.open
    obtain ⟨b3, k3, e3, -, -⟩ := o3.open
    rw [List.length_replicate] at e1 e2 e3
    have N := Lib.hid (newC_store (x := cn k) (r := w.heap.size) hB HB1.out (Nat.le_refl _) hsz o1 o2 o3 a12 a13 a23 id)
    rw [e1, e2, e3] at N
    rw [e1, e2, e3]
    clear o1 o2 o3 a12 a13 a23 e1 e2 e3 hT hA hB
    obtain ⟨⟨c0, c1, c2⟩, hf⟩ := B2.out
    have f0 := hf 0
    have f1 := hf 1
    have f2 := hf 2
    clear hf
    go_wp2_with fail
    exact bodyPost_ret (v := .agg #[.slice b1 k k1, .slice b2 k k2, .slice b3 k k3]) (by simp [results, Try.results56, go_sem, c0, c1, c2]) rfl (by rw [E.out]; exact N.out)
  · have E := Lib.hid (cno_bad h)
    have t1 : inB 1 n 8 = false := inB_f h
    clear h
    go_enter Try.func56, Try.ntmps56
    go_wp2_with fail
    refine (l1In_c _ _ _ _).mono ?_
    rintro e w' ⟨rfl, m1, rfl⟩
    obtain ⟨⟨c0, c1, c2⟩, hf⟩ := B0.out
    have f0 := hf 0
    have f1 := hf 1
    have f2 := hf 2
    clear hf
    go_wp2_with fail
    exact bodyPost_ret (v := .agg #[.slice none 0 0, .slice none 0 0, .slice none 0 0]) (by simp [results, Try.results56, go_sem, c0, c1, c2]) rfl (by rw [E.out]; first | exact newC_zero (Below.dr HB.out _) (Nat.le_refl _) id | exact newC_z (Below.dr HB.out _) id)
end Go.Proofs.Ytfhhgddajmihjaa
