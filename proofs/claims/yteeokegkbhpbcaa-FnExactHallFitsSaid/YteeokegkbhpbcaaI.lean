/- Functions that give a row of ints: contracts; marks of the exact laws; comparisons. -/
import Derived.Test.YteeokegkbhpbcaaK
import Derived.Test.Yteeokegkbhpbcaa8R
import Derived.Lib.Hide
namespace Go.Proofs.Yteeokegkbhpbcaa
open Go.RowKit
set_option linter.unusedVariables false
set_option linter.unusedSimpArgs false

/-- A row of ints of the call's own, in blocks lo..hi-1. -/
def OwnI (w : World) (lo hi : Nat) (v : Value) (xs : List Int) : Prop := Own w lo v xs ∧ (∀ q, v.ownBlock = some q → lo ≤ q ∧ q < hi) ∧ lo ≤ hi ∧ hi ≤ w.heap.size
theorem own_block {w w' : World} {B : Nat} {v : Value} {xs : List Int} (h : Own w B v xs) (hb : ∀ q, v.ownBlock = some q → w'.heap[q]? = w.heap[q]?) : Own w' B v xs := by
  obtain ⟨hl, h⟩ := h
  refine ⟨hl, ?_⟩
  rcases h with h | ⟨g, cap, cur, rfl, h1, h2, h3⟩
  · exact .inl h
  · exact .inr ⟨g, cap, cur, rfl, h1, by rw [hb g rfl]; exact h2, h3⟩
theorem own_lt2 {w : World} {B : Nat} {v : Value} {xs : List Int} (h : Own w B v xs) : ∀ q, v.ownBlock = some q → B ≤ q ∧ q < w.heap.size := fun q hq => World.ownsRow.lt h q hq
theorem own_below {w w' : World} {B : Nat} {v : Value} {xs : List Int} (h : Own w B v xs) (hb : Below w.heap.size w w') : Own w' B v xs := own_block h fun q hq => hb.block q (own_lt2 h q hq).2
theorem Own.below {w w' : World} {B : Nat} {v : Value} {xs : List Int} (h : Own w B v xs) (hb : Below w.heap.size w w') : Own w' B v xs := own_below h hb
theorem own_nil (w : World) (B : Nat) : Own w B (.slice none 0 0) [] := ⟨by simp, .inl ⟨rfl, rfl⟩⟩
theorem OwnI.below {w w' : World} {lo hi : Nat} {v : Value} {xs : List Int} (h : OwnI w lo hi v xs) (hb : Below w.heap.size w w') : OwnI w' lo hi v xs := ⟨own_below h.1 hb, h.2.1, h.2.2.1, Nat.le_trans h.2.2.2 hb.size⟩
theorem OwnI.out {w w' : World} {lo hi lo' hi' : Nat} {v : Value} {xs : List Int} (h : OwnI w lo hi v xs) (ho : Out lo' hi' w w') (hd : hi ≤ lo' ∨ hi' ≤ lo) : OwnI w' lo hi v xs :=
  ⟨own_block h.1 fun q hq => ho.block q (own_lt2 h.1 q hq).2 (by have := h.2.1 q hq; omega), h.2.1, h.2.2.1, Nat.le_trans h.2.2.2 ho.size⟩
theorem OwnI.al {w : World} {lo hi : Nat} {v : Value} {xs : List Int} (h : OwnI w lo hi v xs) (o : Obj) : OwnI (w.alloc o) lo hi v xs := h.below ((Below.refl _ _).alloc (Nat.le_refl _) o)
/-- What a function gives that makes a row. -/
def NewI (w : World) (L : List Int) (e : Ending) (w' : World) : Prop := ∃ v, e = .returned v ∧ Own w' w.heap.size v L ∧ Below w.heap.size w w'
theorem NewI.get {w w' : World} {L : List Int} {e : Ending} (h : NewI w L e w') : ∃ lo hi p u, e = .returned (.slice p L.length u) ∧ w.heap.size = lo ∧ OwnI w' lo hi (.slice p L.length u) L ∧ Below w.heap.size w w' := by
  obtain ⟨v, rfl, hO, hb⟩ := h
  obtain ⟨p, u, rfl, -⟩ := Own.sl hO
  exact ⟨_, w'.heap.size, p, u, rfl, rfl, ⟨hO, fun q hq => own_lt2 hO q hq, hb.size, Nat.le_refl _⟩, hb⟩
theorem own_rd {w : World} {B : Nat} {a : Option Addr} {n cap : Nat} {xs : List Int} (h : Own w B (.slice a n cap) xs) : Sl w a xs ∧ xs.length = n := by
  obtain ⟨a9, c9, e, hs⟩ := Own.sl h
  simp only [Value.slice.injEq] at e
  obtain ⟨rfl, rfl, rfl⟩ := e
  exact ⟨hs, rfl⟩
theorem OwnI.rd {w : World} {lo hi : Nat} {a : Option Addr} {n cap : Nat} {xs : List Int} (h : OwnI w lo hi (.slice a n cap) xs) : Sl w a xs := (own_rd h.1).1
theorem OwnI.len {w : World} {lo hi : Nat} {a : Option Addr} {n cap : Nat} {xs : List Int} (h : OwnI w lo hi (.slice a n cap) xs) : xs.length = n := (own_rd h.1).2
theorem OwnI.ints {w : World} {lo hi b : Nat} {n cap : Nat} {xs : List Int} (h : OwnI w lo hi (.slice (some ⟨b, 0, none⟩) n cap) xs) : Ints w b 0 xs := by
  rcases OwnI.rd h with rfl | ⟨b', off, e, hI⟩
  · exact fun i hi => by simp at hi
  · simp only [Option.some.injEq, Addr.mk.injEq, and_true] at e
    obtain ⟨rfl, rfl⟩ := e
    exact hI
/-- Marks. -/
def mki (k n : Nat) : List Int := (List.range n).map fun i => ((k + i : Nat) : Int)
theorem mki_len (k n : Nat) : (mki k n).length = n := by simp [mki]
theorem nth_mki {k n i : Nat} (h : i < n) : nth (mki k n) i = ((k + i : Nat) : Int) := by simp [mki, nth, List.getD, h]
def mixi (k i : Nat) (xs : List Int) : List Int := mki k i ++ xs.drop i
theorem mixi_len {k i : Nat} {xs : List Int} (h : i ≤ xs.length) : (mixi k i xs).length = xs.length := by simp [mixi, mki_len]; omega
theorem mixi_set {k i : Nat} {xs : List Int} (h : i < xs.length) : (mixi k i xs).set i ((k + i : Nat) : Int) = mixi k (i + 1) xs := by
  unfold mixi
  rw [List.set_append_right _ _ (by rw [mki_len]; omega)]
  rw [mki_len, Nat.sub_self, show mki k (i + 1) = mki k i ++ [((k + i : Nat) : Int)] from by unfold mki; rw [List.range_succ, List.map_append]; rfl]
  rw [List.append_assoc]
  congr 1
  rw [List.drop_eq_getElem_cons h]
  rfl
theorem mixi_all {k : Nat} {xs : List Int} : mixi k xs.length xs = mki k xs.length := by simp [mixi]
set_option maxHeartbeats 1000000 in
theorem markIntS_c (a : Option Addr) (n cap k : Nat) (xs : List Int) (B lo hi : Nat) (w : World) (hO : Own w B (.slice a n cap) xs) (hl : xs.length = n) (hk : k ≤ 8000000) (hn : n ≤ 1048577)
    (hin : ∀ q, (Value.slice a n cap).ownBlock = some q → lo ≤ q ∧ q < hi) : Calls Try.prog 33 #[.slice a n cap, .int .i64 k] w fun e w' => e = .returned (.int .i64 ((k + n : Nat) : Int)) ∧ Own w' B (.slice a n cap) (mki k n) ∧ Out lo hi w w' := by
  have O0 := Lib.hid (show Own w B (.slice a n cap) (mixi k 0 xs) from by show Own w B _ (mki k 0 ++ xs.drop 0); rw [List.drop_zero]; exact hO)
  have HIN := Lib.hid hin
  have HL := Lib.hid hl
  clear hO hin hl
  go_enter Try.func33, Try.ntmps33
  go_wp2_with fail
  obtain ⟨wo, hwo⟩ : ∃ wo : World, wo = w := ⟨_, rfl⟩
  go_loopw [1, 5] (fun u v wr => ∃ i : Nat, i ≤ n ∧ v = .int .i64 i ∧ u = .int .i64 ((k + i : Nat) : Int) ∧ Own wr B (.slice a n cap) (mixi k i xs) ∧ Out lo hi wo wr) (fun _ v _ => n - (intOf v).toNat)
  case atStart => exact ⟨0, by omega, rfl, rfl, O0.out, by rw [hwo]; exact Out.refl _ _ _⟩
  case round =>
    obtain ⟨i, hii, rfl, rfl, hO, hout⟩ := hrel
    have HO := Lib.hid hO
    have HT := Lib.hid hout
    have HW := Lib.hid hwo
    clear hO hout hwo O0
    obtain ⟨j, hj⟩ : ∃ j, k + i = j := ⟨_, rfl⟩
    have HJ := Lib.hid hj
    have hjb : j ≤ 9048577 := by omega
    have hj0 : (0 : Int) ≤ j := by omega
    rw [hj]
    clear hj
    by_cases hlt : i < n
    · have hml := mixi_len (k := k) (i := i) (xs := xs) (by rw [HL.out]; omega)
      rw [HL.out] at hml
      obtain ⟨q, cp, e, hq1, hc, hz, -, -⟩ := Own.opened HO.out (by omega)
      simp only [Value.slice.injEq] at e
      obtain ⟨rfl, -, rfl⟩ := e
      have c1 := hc i (by omega)
      rw [Nat.zero_add] at c1
      have f1 := hz i
      have hO2 := HO.out
      have hS := Lib.hid (show Own (wr.setCell ⟨q, i, none⟩ (.int .i64 (j : Int))) B (.slice (some ⟨q, 0, none⟩) n cap) (mixi k (i + 1) xs) from by
        have h9 := Own.stored (b := q) (cap := cap) (xs := mixi k i xs) (by rw [hml]; exact hO2) i (j : Int)
        rw [hml, ← HJ.out, mixi_set (by rw [HL.out]; exact hlt)] at h9
        rw [← HJ.out]; exact h9.1)
      have hin := HIN.out q rfl
      have hT := Lib.hid (Out.trans HT.out (Out.set (w := wr) (q := q) (i := i) (lo := lo) (hi := hi) (.int .i64 (j : Int)) hin.1 hin.2))
      obtain ⟨y, hy⟩ : ∃ y, nth (mixi k i xs) i = y := ⟨_, rfl⟩
      rw [hy] at c1
      clear HO HT hc hz hO2 hin hml hy
      go_wp2_with fail
      go_roundw
      case rel => exact ⟨i + 1, by omega, by go_num, by rw [← HJ.out]; go_num, hS.out, hT.out⟩
      case measure => simp [intOf]; omega
    · obtain rfl : i = n := by omega
      go_wp2_with fail
      go_ret
      exact ⟨by rw [HJ.out]; rfl, (show mixi k i xs = mki k i from by have := mixi_all (k := k) (xs := xs); rw [HL.out] at this; exact this) ▸ HO.out, by rw [← HW.out]; exact HT.out⟩
set_option maxHeartbeats 1000000 in
theorem heldIntS_c (a : Option Addr) (n cap k : Nat) (w : World) (hb : Sl w a (mki k n)) (hk : k ≤ 8000000) (hn : n ≤ 1048577) : Calls Try.prog 34 #[.slice a n cap, .int .i64 k] w (St w (.int .i64 ((k + n : Nat) : Int))) := by
  have HBB := Lib.hid hb
  clear hb
  go_enter Try.func34, Try.ntmps34
  go_wp2_with fail
  obtain ⟨wo, hwo⟩ : ∃ wo : World, wo = w := ⟨_, rfl⟩
  go_loopw [1, 5] (fun u v wr => ∃ i : Nat, i ≤ n ∧ v = .int .i64 i ∧ u = .int .i64 ((k + i : Nat) : Int) ∧ wr = wo) (fun _ v _ => n - (intOf v).toNat)
  case atStart => exact ⟨0, by omega, rfl, rfl, by rw [hwo]⟩
  case round =>
    obtain ⟨i, hi, rfl, rfl, hw⟩ := hrel
    rw [hwo] at hw
    subst hw
    have HW := Lib.hid hwo
    clear hwo
    obtain ⟨j, hj⟩ : ∃ j, k + i = j := ⟨_, rfl⟩
    have HJ := Lib.hid hj
    have hjb : j ≤ 9048577 := by omega
    have hj0 : (0 : Int) ≤ j := by omega
    rw [hj]
    clear hj
    by_cases hlt : i < n
    · rcases HBB.out with h0 | ⟨b, off, rfl, hc⟩
      · have := congrArg List.length h0
        rw [mki_len] at this
        simp at this
        omega
      have c1 := hc i (by rw [mki_len]; exact hlt)
      rw [nth_mki hlt, HJ.out] at c1
      clear hc
      go_wp2_with fail
      go_roundw
      case rel => exact ⟨i + 1, by omega, by go_num, by rw [← HJ.out]; go_num, HW.out.symm⟩
      case measure => simp [intOf]; omega
    · obtain rfl : i = n := by omega
      go_wp2_with fail
      go_ret
      exact ⟨by rw [HJ.out]; rfl, rfl⟩
/-- Two rows that read as the same list are equal. -/
def sameIG (F : FuncId) : Prop := ∀ (a : Option Addr) (n cap : Nat) (xs : List Int) (a' : Option Addr) (cap' : Nat) (w : World), Sl w a xs → Sl w a' xs → xs.length = n → n ≤ 1048577 → Calls Try.prog F #[.slice a n cap, .slice a' n cap'] w (Ro w (.bool true))
set_option maxHeartbeats 1000000 in
theorem eqIntS_t : sameIG 32 := by
  intro a n cap xs a' cap' w hs hs' hl hn
  have HL := Lib.hid hl
  clear hl
  go_enter Try.func32, Try.ntmps32
  go_wp2_with fail
  obtain ⟨wo, hwo⟩ : ∃ wo : World, wo = w := ⟨_, rfl⟩
  go_loopw [5] (fun v wr => ∃ i m : Nat, i ≤ n ∧ v = .int .i64 i ∧ wr = wo.drewN m) (fun v _ => n - (intOf v).toNat)
  case atStart => exact ⟨0, 0, by omega, rfl, by rw [hwo]; rfl⟩
  case round =>
    obtain ⟨i, m, hi, rfl, hw⟩ := hrel
    subst hwo
    have H1 := Lib.hid (show Sl wr a xs from by rw [hw]; exact Sl.below hs (below_drewN' m))
    have H2 := Lib.hid (show Sl wr a' xs from by rw [hw]; exact Sl.below hs' (below_drewN' m))
    have HW := Lib.hid hw
    clear hw hs hs'
    by_cases hlt : i < n
    · have hne : xs ≠ [] := fun e => by have := HL.out; rw [e] at this; simp at this; omega
      obtain ⟨b, off, rfl, hc⟩ := H1.out.resolve_left hne
      obtain ⟨b', off', rfl, hc'⟩ := H2.out.resolve_left hne
      have c1 := hc i (by rw [HL.out]; exact hlt)
      have c2 := hc' i (by rw [HL.out]; exact hlt)
      obtain ⟨y, hy⟩ : ∃ y, nth xs i = y := ⟨_, rfl⟩
      rw [hy] at c1 c2
      clear hc hc' hne hy
      go_wp2_with fail
      go_quiet (fail)
      go_wp2_with fail
      go_roundw
      case rel => exact ⟨i + 1, _, by omega, by go_num, (by rw [HW.out]; first | exact World.drewN_drewN .. | (simp only [World.drewN_drewN]; rfl) | (simp only [World.drewN_drewN]))⟩
      case measure => simp [intOf]; omega
    · obtain rfl : i = n := by omega
      go_wp2_with fail
      go_ret
      exact Ro.b rfl (by rw [HW.out]; (try simp only [World.drewN_drewN]); exact ⟨_, rfl⟩)
set_option maxHeartbeats 1000000 in
theorem sameInts_t : sameIG 28 := by
  intro a n cap xs a' cap' w hs hs' hl hn
  have HL := Lib.hid hl
  clear hl
  go_enter Try.func28, Try.ntmps28
  go_wp2_with fail
  obtain ⟨wo, hwo⟩ : ∃ wo : World, wo = w := ⟨_, rfl⟩
  go_loopw [5] (fun v wr => ∃ i m : Nat, i ≤ n ∧ v = .int .i64 i ∧ wr = wo.drewN m) (fun v _ => n - (intOf v).toNat)
  case atStart => exact ⟨0, 0, by omega, rfl, by rw [hwo]; rfl⟩
  case round =>
    obtain ⟨i, m, hi, rfl, hw⟩ := hrel
    subst hwo
    have H1 := Lib.hid (show Sl wr a xs from by rw [hw]; exact Sl.below hs (below_drewN' m))
    have H2 := Lib.hid (show Sl wr a' xs from by rw [hw]; exact Sl.below hs' (below_drewN' m))
    have HW := Lib.hid hw
    clear hw hs hs'
    by_cases hlt : i < n
    · have hne : xs ≠ [] := fun e => by have := HL.out; rw [e] at this; simp at this; omega
      obtain ⟨b, off, rfl, hc⟩ := H1.out.resolve_left hne
      obtain ⟨b', off', rfl, hc'⟩ := H2.out.resolve_left hne
      have c1 := hc i (by rw [HL.out]; exact hlt)
      have c2 := hc' i (by rw [HL.out]; exact hlt)
      obtain ⟨y, hy⟩ : ∃ y, nth xs i = y := ⟨_, rfl⟩
      rw [hy] at c1 c2
      clear hc hc' hne hy
      go_wp2_with fail
      go_quiet (fail)
      go_wp2_with fail
      go_roundw
      case rel => exact ⟨i + 1, _, by omega, by go_num, (by rw [HW.out]; first | exact World.drewN_drewN .. | (simp only [World.drewN_drewN]; rfl) | (simp only [World.drewN_drewN]))⟩
      case measure => simp [intOf]; omega
    · obtain rfl : i = n := by omega
      go_wp2_with fail
      go_ret
      exact Ro.b rfl (by rw [HW.out]; (try simp only [World.drewN_drewN]); exact ⟨_, rfl⟩)
/-- A copy as a row of one's own. -/
theorem own_of_row {w : World} {B G : Nat} {xs : List Int} (h : w.rowIs G 3 xs.length (fun j => .int .i64 (nth xs j))) (hB : B ≤ G) (hm : xs.length ≤ 1048576) : Own w B (.slice (some ⟨G, 0, none⟩) xs.length xs.length) xs := by
  obtain ⟨c, h1, h2, h3⟩ := h
  refine ⟨by simp, .inr ⟨G, xs.length, c, rfl, hB, h1, Nat.le_refl _, by unfold maxLen; omega, by omega, ?_⟩⟩
  apply List.ext_getElem?
  intro i
  simp only [Nat.mul_one, List.getElem?_take, List.getElem?_map, Array.getElem?_toList]
  split
  · rename_i g
    rw [h3 i g, List.getElem?_eq_getElem g]
    simp [nth_eq g]
  · rename_i g
    rw [List.getElem?_eq_none (by omega)]
    rfl
set_option maxHeartbeats 400000 in
theorem toIntS_o (a : Option Addr) (n cap : Nat) (xs : List Int) (w : World) (hs : Sl w a xs) (hl : xs.length = n) (hm : n ≤ 1048576) :
    Calls Try.prog 31 #[.slice a n cap] w fun e w' => ∃ G, e = .returned (.slice (some ⟨G, 0, none⟩) n n) ∧ w.heap.size ≤ G ∧ Own w' w.heap.size (.slice (some ⟨G, 0, none⟩) n n) xs ∧ Below w.heap.size w w' := by
  subst hl
  have hmk := run_make_row' (P := Try.prog) 23 3 (.int .i64 0) 8 Try.underlying23 infoInt rfl .i64 .i64 xs.length (by omega) (by omega)
  go_enter Try.func31, Try.ntmps31
  go_wp2
  have R0 := World.rowIs_made w (.int .i64 0) xs.length 3
  have B0 : Below w.heap.size w (w.alloc (.cells (madeCells #[.int .i64 0] xs.length) 3)) := (Below.refl _ _).alloc (Nat.le_refl _) _
  clear hmk
  generalize hw0 : w.alloc (.cells (madeCells #[.int .i64 0] xs.length) 3) = w0 at *
  clear hw0
  obtain ⟨G, hG⟩ : ∃ G, w.heap.size = G := ⟨_, rfl⟩
  have HG : Hid _ := hG
  rw [hG] at R0
  rw [hG]
  clear hG
  go_loopw [4] (fun v wr => ∃ k : Nat, k ≤ xs.length ∧ v = .int .i64 k ∧ Below w.heap.size w wr ∧ wr.rowIs G 3 xs.length (fun j => .int .i64 (if j < k then nth xs j else 0))) (fun v _ => xs.length - (intOf v).toNat)
  case atStart => exact ⟨0, by omega, rfl, B0, R0.congr (fun i hi => by simp)⟩
  case round =>
    clear R0 B0
    obtain ⟨k, hk, rfl, hb, hr⟩ := hrel
    have hk63 : k ≤ 1048576 := by omega
    by_cases hlt : k < xs.length
    · rcases hs with rfl | ⟨b, off, rfl, hc⟩
      · simp at hlt
      · have c1 : wr.cell? ⟨b, off + k, none⟩ = some (.int .i64 (nth xs k)) := cell_below (hc k hlt) hb
        have c2 : wr.cell? ⟨G, k, none⟩ = some (.int .i64 (if k < k then nth xs k else 0)) := hr.cell hlt
        have c3 : wr.frozen? ⟨G, k, none⟩ = false := hr.frozen k
        have hr2 := hr.set k (.int .i64 (nth xs k))
        have hb2 := hb.setCell (p := ⟨G, k, none⟩) (by rw [HG.out]; exact Nat.le_refl _) (.int .i64 (nth xs k))
        rw [if_neg (by omega)] at c2
        have HR : Hid _ := hr2
        have HB : Hid _ := hb2
        clear hr hb hr2 hb2
        go_wp2
        go_roundw
        case rel => exact ⟨k + 1, by omega, by go_num, HB.out, World.rowIs.congr HR.out (fun i hi => by
          by_cases e : i = k
          · subst e; simp
          · simp only [e, if_false]; congr 1; by_cases e2 : i < k <;> simp [e2] <;> omega)⟩
        case measure => simp [intOf]; omega
    · obtain rfl : k = xs.length := by omega
      go_wp2
      go_ret
      exact ⟨G, rfl, by rw [HG.out]; exact Nat.le_refl _, own_of_row (hr.congr fun i hi => by simp [hi]) (by rw [HG.out]; exact Nat.le_refl _) hm, hb⟩
/-- Whether a number is in a list. -/
noncomputable def hmB (xs : List Int) (v : Int) : Bool := tr (v ∈ xs)
theorem hmB_t {xs : List Int} {v : Int} (h : v ∈ xs) : hmB xs v = true := tr_true h
theorem hmB_f {xs : List Int} {v : Int} (h : v ∉ xs) : hmB xs v = false := tr_false h
theorem nth_in {xs : List Int} {k : Nat} (h : k < xs.length) : nth xs k ∈ xs := by rw [nth_eq h]; exact List.getElem_mem h
theorem in_nth {xs : List Int} {v : Int} (h : v ∈ xs) : ∃ k, k < xs.length ∧ nth xs k = v := by
  obtain ⟨k, hk, e⟩ := List.getElem_of_mem h
  exact ⟨k, hk, by rw [nth_eq hk]; exact e⟩
theorem St.b' {w : World} {b b' : Bool} (h : b = b') : St w (.bool b) (.returned (.bool b')) w := ⟨by rw [h], rfl⟩
/-- The builtins min and max of two ints, where the lesser and the greater have names. -/
theorem wpList_min {w : World} {ops : Array Oper} {rest : List Oper} {act : Act} {Q : Exit → Act → World → Prop} {d : Option Tmp} {s x : Operand} {ats : Array TypeId} {ty0 : TypeId} {ps : String} {af : Array Edge} {a b m : Int}
    (hs : act.eval s = .int .i64 a) (hx : act.eval x = .int .i64 b) (hm : (if b < a then b else a) = m) (hK : wpList Try.prog ops Q rest (act.put d (.int .i64 m)) w) :
    wpList Try.prog ops Q ({ dst := d, op := .call { callee := .builtin .min, args := #[s, x], argTypes := ats }, type := ty0, pos := ps, after := af, guard := none } :: rest) act w := by
  refine wpList_step fun K hK2 => ?_
  rw [if_pos (by rfl)]
  unfold Oper.wp execOp
  simp only [resolve, invoke, builtin, Sem.run_bind, Sem.run_pure, Result.andThen_ok, List.map_toArray, List.map_cons, List.map_nil, hs, hx, run_min_int2, hm]
  exact hK2 _ _ hK
theorem wpList_max {w : World} {ops : Array Oper} {rest : List Oper} {act : Act} {Q : Exit → Act → World → Prop} {d : Option Tmp} {s x : Operand} {ats : Array TypeId} {ty0 : TypeId} {ps : String} {af : Array Edge} {a b m : Int}
    (hs : act.eval s = .int .i64 a) (hx : act.eval x = .int .i64 b) (hm : (if b > a then b else a) = m) (hK : wpList Try.prog ops Q rest (act.put d (.int .i64 m)) w) :
    wpList Try.prog ops Q ({ dst := d, op := .call { callee := .builtin .max, args := #[s, x], argTypes := ats }, type := ty0, pos := ps, after := af, guard := none } :: rest) act w := by
  refine wpList_step fun K hK2 => ?_
  rw [if_pos (by rfl)]
  unfold Oper.wp execOp
  simp only [resolve, invoke, builtin, Sem.run_bind, Sem.run_pure, Result.andThen_ok, List.map_toArray, List.map_cons, List.map_nil, hs, hx, run_max_int2, hm]
  exact hK2 _ _ hK
end Go.Proofs.Yteeokegkbhpbcaa
