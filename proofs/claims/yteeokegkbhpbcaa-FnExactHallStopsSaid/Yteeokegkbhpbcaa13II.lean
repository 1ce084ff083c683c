/- The library's Values, AppendSeq, Collect, Sorted at []int; the program's GoalMany. -/
import Derived.Test.Yteeokegkbhpbcaa13MI
import Derived.Test.Yteeokegkbhpbcaa12W
import Derived.Test.Yteeokegkbhpbcaa12H
import Derived.Test.YteeokegkbhpbcaaVB
import Derived.Shelf.Abstract
import Derived.Shelf.RegionOpen
import Derived.LoopNIn
import Derived.LoopIn
namespace Go.Proofs.Yteeokegkbhpbcaa
open Go.RowKit Go.Shelf
set_option linter.unusedVariables false
set_option linter.unusedSimpArgs false
set_option maxRecDepth 100000

def VZ (m : Nat) (x : Int) (A : World) (v : Value) : Prop := v = .int .i64 x
theorem Sl.keep {w w' : World} {a : Option Addr} {xs : List Int} (h : Sl w a xs) (hb : ∀ b q, a = some ⟨b, q, none⟩ → 0 < xs.length → w'.heap[b]? = w.heap[b]?) : Sl w' a xs := by
  rcases h with h | ⟨b, o, rfl, h⟩
  · exact .inl h
  · refine .inr ⟨b, o, rfl, fun i hi => ?_⟩
    have := h i hi
    have e := hb b o rfl (by omega)
    unfold World.cell? at this ⊢
    rw [e]; exact this
theorem values_c (a : Option Addr) (n c : Nat) (w : World) : Calls Try.prog 45 #[.slice a n c] w fun e w' => e = .returned (.func (.func 57) #[] #[.pointer (some ⟨w.heap.size, 0, none⟩)]) ∧ BoxV w' w.heap.size [.slice a n c] ∧ Below w.heap.size w w' ∧ w'.heap.size = w.heap.size + 1 := by
  have hmf : ∀ (fn : Fn) (first cap : Array Value) (w : World), (Instr.makeFunc fn first cap).run Try.prog w = .ok (.func fn first cap) w := fun _ _ _ _ => rfl
  go_enter Try.func45, Try.ntmps45
  go_wp2_with fail
  go_ret
  exact ⟨rfl, BoxV.new w [.slice a n c] 23 (by simp) rfl, Below.al (Below.refl _ _) _, by simp⟩
attribute [local go_sem] Oper.semAt_some
set_option maxHeartbeats 4000000 in
theorem values_seq (a : Option Addr) (n c q0 : Nat) (xs : List Int) (w : World) (h0 : BoxV w q0 [.slice a n c]) (hX : Sl w a xs) (hl : xs.length = n) (hn : n ≤ 1048577) (hb : ∀ b q, a = some ⟨b, q, none⟩ → 0 < xs.length → b < q0) :
    SeqR Try.prog 57 #[.pointer (some ⟨q0, 0, none⟩)] 0 0 (q0 + 1) xs VZ w := by
  intro l m J W hB hW hJ hY hJ0
  have b0 := h0.below hB
  have hq0m : q0 < m := by rw [← hW]; exact BoxV.lt b0
  have k0 := b0.c1.1
  have X1 := Lib.hid (Sl.below hX hB)
  have J1 := Lib.hid hJ0
  have HW := Lib.hid hW
  have HJ := Lib.hid hJ
  have HY := Lib.hid hY
  have HL := Lib.hid hl
  have HBK := Lib.hid hb
  clear h0 hB b0 hJ0 hW hJ hY hX hl hb
  refine callsIn_wide.2 ?_
  show Calls Try.prog 57 #[.func (.yield l) #[] #[], .pointer (some ⟨q0, 0, none⟩)] W _
  go_enter Try.func57, Try.ntmps57
  go_wp2_with fail
  clear k0
  go_loopw [7] (fun v wr => ∃ i : Nat, i ≤ n ∧ v = .int .i64 i ∧ J i wr ∧ Sl wr a xs ∧ m ≤ wr.heap.size) (fun v _ => n - (intOf v).toNat)
  case atStart => exact ⟨0, by omega, rfl, J1.out, X1.out, by rw [HW.out]; exact Nat.le_refl _⟩
  case round =>
    clear J1 X1
    obtain ⟨i, hi, rfl, hJi, hS, hm⟩ := hrel
    have JI := Lib.hid hJi
    have XI := Lib.hid hS
    clear hJi hS
    by_cases hlt : i < n
    case neg =>
      obtain rfl : i = n := by omega
      go_wp2_with fail
      go_end0
      refine ⟨⟨_, rfl⟩, ?_⟩
      rw [HL.out]
      exact JI.out
    have hii : (i : Int) < n := by omega
    obtain ⟨b1, o1, rfl, hI1⟩ := Sl.at XI.out (k := i) (by rw [HL.out]; exact hlt)
    have y1 := hI1 i (by rw [HL.out]; exact hlt)
    have hx : xs[i]? = some (nth xs i) := by rw [nth_eq (show i < xs.length from by rw [HL.out]; exact hlt)]; exact List.getElem?_eq_getElem _
    obtain ⟨fn, tmps, asg, bdy, hy, hR⟩ := HY.out i (nth xs i) wr (.int .i64 (nth xs i)) hx JI.out (by omega) rfl
    clear hI1 hx
    refine (wpIn_wide (n := 0)).1 ?_
    gi_wp2_with fail
    refine ⟨rfl, RoundIn.mono hR ?_⟩
    rintro e w2 ⟨rfl, hJ2, hk2⟩
    have X2 := Lib.hid (Sl.keep XI.out fun b q e h => hk2.2 b (.inr ⟨Nat.zero_le _, by have := HBK.out b q e h; omega⟩))
    have J2 := Lib.hid hJ2
    have hm2 : m ≤ w2.heap.size := Nat.le_trans hm hk2.1
    have hiw : -9223372036854775808 ≤ (i : Int) + 1 ∧ (i : Int) + 1 ≤ 9223372036854775807 := by omega
    clear hJ2 hk2 hR hy y1 JI XI
    gi_wp2_with fail
    go_roundw
    case rel => exact ⟨i + 1, by omega, by go_num, J2.out, X2.out, hm2⟩
    case measure => first | (simp [intOf]; done) | (simp [intOf]; omega) | omega
theorem take_snoc {xs : List Int} {i : Nat} {x : Int} (h : xs[i]? = some x) : xs.take (i + 1) = xs.take i ++ [x] := by rw [List.take_add_one, h]; rfl
set_option maxHeartbeats 4000000 in
theorem appendSeq_c (a : Option Addr) (n c q0 : Nat) (xs : List Int) (w : World) (h0 : BoxV w q0 [.slice a n c]) (hX : Sl w a xs) (hl : xs.length = n) (hn : n ≤ 1048577) (hb : ∀ b q, a = some ⟨b, q, none⟩ → 0 < xs.length → b < q0) :
    Calls Try.prog 58 #[.slice none 0 0, .func (.func 57) #[] #[.pointer (some ⟨q0, 0, none⟩)]] w (NewI w xs) := by
  obtain ⟨i0, hi, hz0, hz1, hz2⟩ := info_parts infoInt
  obtain ⟨g, hg⟩ : ∃ g, w.heap.size = g := ⟨_, rfl⟩
  have HG := Lib.hid hg
  have hqg : q0 < g := by rw [← hg]; exact BoxV.lt h0
  have bb := Below.al (Below.refl w.heap.size w) (.cells #[.slice none 0 0] 23)
  have T := Lib.hid bb
  have QB := Lib.hid (BoxV.below h0 bb)
  have X := Lib.hid (Sl.below hX bb)
  have SB := Lib.hid (BoxV.new w [.slice none 0 0] 23 (by simp) hg)
  have HSZ := Lib.hid (show (w.alloc (.cells #[.slice none 0 0] 23)).heap.size = g + 1 from by simp [hg])
  have HL := Lib.hid hl
  have HBK := Lib.hid hb
  clear bb h0 hX hl hb
  refine (callsIn_wide (n := 0)).1 (callsIn_of_wp_marks (F := Fence.wide) Try.func58 rfl trivial (wpIn_wide.2 ?_) rfl)
  simp only [Try.ntmps58, List.size_toArray, List.length_cons, List.length_nil, Nat.reduceAdd, Nat.reduceSub, Array.replicate_succ, Array.replicate_zero, List.push_toArray, List.append_toArray, List.nil_append, List.cons_append]
  go_wp2_with fail
  clear hg
  try rw [HG.out]
  generalize w.alloc _ = wn at *
  have hsz : wn.heap.size = g + 1 := HSZ.out
  have hwg : w.heap.size ≤ g := by rw [HG.out]; exact Nat.le_refl _
  refine wp_range1 (P := Try.prog) (gf := 57) (k := 0) (Xs := xs) (V := VZ) (c0 := 0) (c1 := q0 + 1) (w0 := wn) rfl (enters_of Try.func57 (by kernel_rfl) rfl) (values_seq a n c q0 xs wn QB.out X.out HL.out hn HBK.out) (Below.refl _ _) (by omega) rfl (fun m x A B v h hb => h)
    (fun i W => ∃ (v : Value), Below w.heap.size w W ∧ BoxV W g [v] ∧ Own W (g + 3) v (xs.take i))
    ?hI ?h0 ?a1 ?ass ?body ?done
  case ass =>
    intro l v W K hK
    gi_wp2
    exact hK
  case hI =>
    rintro i A B ⟨v, h1, h2, h3⟩ ho
    rw [hsz] at ho
    exact ⟨v, Out.below h1 ho (by omega), h2.out ho (.inl (by omega)), own_block h3 (fun q hq => ho.block q (own_lt2 h3 q hq).2 (.inr (by have := (own_lt2 h3 q hq).1; omega)))⟩
  case h0 => exact ⟨.slice none 0 0, T.out, SB.out, own_nil _ _⟩
  case body =>
    intro l i x v W hx hI hsz2 hV
    obtain ⟨ov, h1, h2, h3⟩ := hI
    unfold VZ at hV
    subst hV
    have hil : i < n := by rw [← HL.out]; exact (List.getElem?_eq_some_iff.1 hx).1
    have htl : (xs.take i).length = i := by rw [List.length_take, HL.out]; omega
    obtain ⟨PL, hPL⟩ : ∃ PL, xs.take i = PL := ⟨_, rfl⟩
    rw [hPL] at htl h3
    have HSN := Lib.hid (show xs.take (i + 1) = PL ++ [x] from by rw [take_snoc hx, hPL])
    have TW := Lib.hid h1
    have BW := Lib.hid h2
    have OW := Lib.hid h3
    have HTL := Lib.hid htl
    have k0 := h2.c1.1
    have hgW : g < W.heap.size := BoxV.lt h2
    have hlo : ∀ q, ov.ownBlock = some q → g + 3 ≤ q := fun q hq => (own_lt2 h3 q hq).1
    clear hx h1 h2 h3 htl hPL
    have O2 := Lib.hid (show (W.alloc (.cells #[.int .i64 x] 3)).ownsRow (g + 3) 3 1 ov PL.length (PL.map (Value.int .i64)) from Own.alloc OW.out _)
    gi_wp2_with (gi_at_builtin; refine wpListIn_append_own _ rfl _ _ 23 rfl (g + 3) 3 i0 (.int .i64 0) 1 8 Try.underlying23 hi hz0 hz1 hz2 rfl (by decide) _ _ _ rfl O2.out ⟨W.heap.size, 0, none⟩ 1 1 [.int .i64 x] rfl rfl (cell_one_new _ _ _) (by intro u hu; simp at hu; subst hu; rfl) (by unfold maxLen; rw [HTL.out]; omega) (by rw [HTL.out]; omega) (by simp; omega) ?_)
    intro v' w3 hown hgrow hnil
    have O3 := Lib.hid (show Own w3 (g + 3) v' (PL ++ [x]) from Own.snoc hown)
    have B3 := Lib.hid (BoxV.gr (BoxV.al BW.out _) hgrow (fun q e => by have := hlo q e; omega))
    have T3 := Lib.hid (Below.own (Below.al TW.out _) hgrow (fun q e => by have := hlo q e; omega))
    have hne : v' ≠ .slice none 0 0 := by first | exact hnil | exact fun e => absurd (hnil.1 e).2 (by simp) | exact fun e => absurd (hnil.1 e).1 (by simp)
    have HK := Lib.hid (show ∀ q, q < g + 3 → w3.heap[q]? = W.heap[q]? from fun q hq => by
      have h9 := World.grownBy.block hgrow q (by simp; omega) (fun e => by have := hlo q e.symm; omega)
      rw [h9]
      exact Below.heap_alloc _ _ _ (by omega))
    have hs3 := Lib.hid (show W.heap.size ≤ w3.heap.size from by have h9 := World.grownBy.size hgrow; simp at h9; omega)
    obtain ⟨gu, cu, e', -⟩ := Own.some O3.out hne
    subst e'
    have b0 := B3.out.c1.1
    have bf := B3.out.c1.2
    clear hown hgrow hnil O2 k0 hlo hne
    have ho : Out g (g + 1) w3 (w3.setCell ⟨g, 0, none⟩ (.slice (some ⟨gu, 0, none⟩) (PL ++ [x]).length cu)) := Out.set _ (Nat.le_refl _) (by omega)
    have HO := Lib.hid ho
    clear ho
    obtain ⟨LN, hLN⟩ : ∃ LN, (PL ++ [x]).length = LN := ⟨_, rfl⟩
    rw [hLN] at O3 HO
    have HLN := Lib.hid hLN
    clear hLN
    have BS := Lib.hid (BoxV.set B3.out 0 (.slice (some ⟨gu, 0, none⟩) LN cu) (by simp))
    rw [HLN.out]
    gi_wp2_with fail
    have ho := HO.out
    refine ⟨⟨_, Out.below T3.out ho hwg, BS.out, ?_⟩, ?_⟩
    · rw [HSN.out]
      exact own_block O3.out fun q hq => ho.block q (own_lt2 O3.out q hq).2 (.inr (by have := (own_lt2 O3.out q hq).1; omega))
    · refine ⟨Nat.le_trans hs3.out ho.size, fun q hq => ?_⟩
      rw [hsz] at hq
      rw [ho.block q (by have := hs3.out; omega) (by omega), HK.out q (by omega)]
  case done =>
    rintro W ⟨v, h1, h2, h3⟩ hW
    have d0 := h2.c1.1
    have TW := Lib.hid h1
    have OW := Lib.hid h3
    have HW := Lib.hid hW
    clear h1 h2 h3 hW
    go_wp2_with fail
    refine ⟨by simp, .inl ⟨_, _, rfl, run_takeDeferred HW.out, ?_⟩⟩
    have hput : Out wn.heap.size (wn.heap.size + 1) W (W.putObj wn.heap.size (.deferred none)) := putObj_out (by omega) (by omega)
    refine ⟨_, results_tmp rfl _ _ _, ⟨_, rfl, ?_, Out.below TW.out hput (by omega)⟩⟩
    have e : xs = xs.take xs.length := by rw [List.take_length]
    rw [e]
    exact own_mono (own_block OW.out (fun q hq => hput.block q (own_lt2 OW.out q hq).2 (.inr (by have := (own_lt2 OW.out q hq).1; omega)))) (by omega)
end Go.Proofs.Yteeokegkbhpbcaa
