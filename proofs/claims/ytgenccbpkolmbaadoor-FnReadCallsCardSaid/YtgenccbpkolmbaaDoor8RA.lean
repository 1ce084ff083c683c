/- Texts read: l8Read, readRow. -/
import Derived.Test.YtgenccbpkolmbaaDoor8U
import Derived.Test.YtgenccbpkolmbaaDoor8JB
import Derived.Test.YtgenccbpkolmbaaDoor8CM
namespace Go.Proofs.YtgenccbpkolmbaaDoor
open Go.RowKit
set_option linter.unusedVariables false

theorem wpList_append_B {w : World} {ops : Array Oper} {rest : List Oper} {act : Act} {Q : Exit → Act → World → Prop} {d : Option Tmp} {s x : Operand} {ty0 : TypeId} {ps : String} {af : Array Edge} {B G : Nat} {xs : List Bool} {v : Value} {b : Bool}
    (hown : OwnB w B v xs) (hs : act.eval s = v) (hx : act.eval x = .slice (some ⟨G, 0, none⟩) 1 1) (hc : w.cell? ⟨G, 0, none⟩ = some (.bool b)) (hl : xs.length ≤ 1048577) (hB : B ≤ w.heap.size)
    (hK : ∀ v' w', OwnB w' B v' (xs ++ [b]) → w.grownBy w' v.ownBlock → wpList Tryd.prog ops Q rest (act.put d v') w') :
    wpList Tryd.prog ops Q ({ dst := d, op := .call { callee := .builtin .append, args := #[s, x], argTypes := #[23, 23] }, type := ty0, pos := ps, after := af, guard := none } :: rest) act w := by
  obtain ⟨i0, hi, hz0, hz1, hz2⟩ := info_bool
  refine wpList_append_wanted rfl s x 23 rfl B 4 i0 (.bool false) 1 1 Tryd.underlying23 hi hz0 hz1 hz2 rfl (by decide) v xs.length (xs.map Value.bool) hs hown ⟨G, 0, none⟩ 1 1 [.bool b] hx rfl (fun j u hu => ?_) (fun u hu => ?_) (by unfold maxLen; omega) (by omega) hB (fun v' w' h1 h2 h3 h4 => ?_)
  · have hj : j = 0 := by
      obtain ⟨h, _⟩ := List.getElem?_eq_some_iff.1 hu
      simp at h; omega
    subst hj
    simp at hu
    subst hu
    exact hc
  · simp at hu
    subst hu
    rfl
  · refine hK v' w' ?_ h2
    unfold OwnB
    simpa using h1
theorem OwnB.noneB {w : World} : OwnB (w.alloc (.cells #[] 4)) w.heap.size (.slice (Option.some ⟨w.heap.size, 0, Option.none⟩) 0 0) [] :=
  ⟨by simp, .inr ⟨w.heap.size, 0, #[], rfl, Nat.le_refl _, heap_alloc_new w _, Nat.le_refl _, by unfold maxLen; omega, rfl, by simp⟩⟩
def bit (b : UInt8) : Bool := b == 49
def bits (l : List UInt8) : List Bool := l.map bit
def clean (l : List UInt8) : Prop := ∀ b ∈ l, b = 48 ∨ b = 49
def ub (s : ByteArray) (k : Nat) : UInt8 := s.data.toList.getD k 0
theorem ub_at {s : ByteArray} {k : Nat} (h : k < s.size) : ub s k = s[k] := by
  have h' : k < s.data.toList.length := by rw [← Lib.size_eq]; exact h
  unfold ub
  rw [List.getD_eq_getElem?_getD, List.getElem?_eq_getElem h', Option.getD_some]
  simp; rfl
theorem index_s (s : ByteArray) (k : Nat) (h : k < s.size) (w : World) : (Instr.index 9 (.string s) (.int .i64 k)).run Tryd.prog w = .ok (.int .u8 ((ub s k).toNat : Int)) w := by
  rw [run_index_string w 9 s .i64 k Tryd.underlying9, ub_at h, dif_pos (by omega)]
  simp
theorem take_ub {s : ByteArray} {k : Nat} (h : k < s.size) : s.data.toList.take (k + 1) = s.data.toList.take k ++ [ub s k] := by
  have h' : k < s.data.toList.length := by rw [← Lib.size_eq]; exact h
  rw [List.take_succ_eq_append_getElem h']
  congr 2
  unfold ub
  rw [List.getD_eq_getElem?_getD, List.getElem?_eq_getElem h', Option.getD_some]
def ReadR (s : ByteArray) (w : World) (e : Ending) (w' : World) : Prop := ∃ v xs b, e = .returned (.tuple #[v, .bool b]) ∧ OwnB w' w.heap.size v xs ∧ Below w.heap.size w w' ∧ ((b = true ∧ clean s.data.toList ∧ xs = bits s.data.toList) ∨ (b = false ∧ ¬ clean s.data.toList))
theorem bits_snoc (l : List UInt8) (b : UInt8) : bits (l ++ [b]) = bits l ++ [bit b] := by simp [bits]
set_option maxHeartbeats 2000000 in
theorem l8Read_c (s : ByteArray) (w : World) (hs : s.size ≤ 1048576) : Calls Tryd.prog 32 #[.string s] w (ReadR s w) := by
  obtain ⟨B, hBB⟩ : ∃ B, w.heap.size = B := ⟨_, rfl⟩
  have HBB := Lib.hid hBB
  have O0 := Lib.hid (show OwnB (w.alloc (.cells #[] 4)) B (.slice (some ⟨B, 0, none⟩) 0 0) [] from by
    rw [← hBB]
    exact OwnB.noneB)
  have T0 := Lib.hid (Below.al (Below.refl w.heap.size w) (.cells #[] 4))
  clear hBB
  go_enter Tryd.func32, Tryd.ntmps32
  go_wp2_with fail
  rw [HBB.out]
  go_loopw [4, 5] (fun vo vk wr => ∃ k : Nat, vk = .int .i64 k ∧ k ≤ s.size ∧ clean (s.data.toList.take k) ∧ OwnB wr B vo (bits (s.data.toList.take k)) ∧ Below w.heap.size w wr) (fun _ vk _ => s.size - (intOf vk).toNat)
  case atStart => exact ⟨0, rfl, by omega, (by intro b hb; simp at hb), O0.out, T0.out⟩
  case round =>
    clear O0 T0
    obtain ⟨k, rfl, hk, hcl, ho, ht⟩ := hrel
    have O := Lib.hid ho
    have T := Lib.hid ht
    have HC := Lib.hid hcl
    clear ho ht hcl
    by_cases hlt : k < s.size
    · have hlti : (k : Int) < (s.size : Int) := by omega
      have hix := index_s s k hlt
      have HT := Lib.hid (take_ub hlt)
      have hxl : (bits (s.data.toList.take k)).length ≤ 1048577 := by simp [bits]; omega
      obtain ⟨c, hc⟩ : ∃ c, ub s k = c := ⟨_, rfl⟩
      rw [hc] at hix HT
      have HCN := Lib.hid (show (c = 48 ∨ c = 49) → clean (s.data.toList.take (k + 1)) from fun h => by
        rw [HT.out]
        intro b hb
        rcases List.mem_append.1 hb with hb | hb
        · exact HC.out b hb
        · simp at hb; subst hb; exact h)
      have HNC := Lib.hid (show ¬ (c = 48 ∨ c = 49) → ¬ clean s.data.toList from fun h h2 => h (h2 c (by
        have : c ∈ s.data.toList.take (k + 1) := by rw [HT.out]; simp
        exact List.mem_of_mem_take this)))
      have HXN := Lib.hid (show bits (s.data.toList.take (k + 1)) = bits (s.data.toList.take k) ++ [bit c] from by rw [HT.out, bits_snoc])
      clear hc
      by_cases h48 : c = 48
      · subst h48
        have e48 : ((48 : UInt8).toNat : Int) = 48 := rfl
        rw [e48] at hix
        have OA := Lib.hid (OwnB.below O.out ((Below.refl _ _).alloc (Nat.le_refl _) (.cells #[.bool false] 4)))
        have TA := Lib.hid (Below.al T.out (.cells #[.bool false] 4))
        have hBw : B ≤ wr.heap.size := by have := T.out.size; have := HBB.out; omega
        obtain ⟨xs, hxs⟩ : ∃ xs, bits (s.data.toList.take k) = xs := ⟨_, rfl⟩
        rw [hxs] at OA hxl HXN
        clear O T hxs
        go_wp2_with (with_reducible refine wpList_append_B (b := false) OA.out rfl rfl ?_ ?_ ?_ ?_)
        case refine_3 => first | omega | exact hBw | (simp; omega)
        intro v' w5 hown hgrow
        have lt5 := OA.out.lt
        have TN := Lib.hid (Below.own TA.out hgrow (fun i e => by have := (lt5 i e).1; have := HBB.out; omega))
        have ON := Lib.hid (show OwnB w5 B v' (bits (s.data.toList.take (k + 1))) from by rw [HXN.out]; exact hown)
        clear hown hgrow lt5 hix
        go_wp2_with fail
        go_roundw
        case rel => exact ⟨k + 1, by go_num, by omega, HCN.out (by first | exact .inl rfl | trivial), ON.out, TN.out⟩
        case measure => first | (simp [intOf]; done) | (simp [intOf]; omega)
      · by_cases h49 : c = 49
        · subst h49
          have e49 : ((49 : UInt8).toNat : Int) = 49 := rfl
          rw [e49] at hix
          have OA := Lib.hid (OwnB.below O.out ((Below.refl _ _).alloc (Nat.le_refl _) (.cells #[.bool true] 4)))
          have TA := Lib.hid (Below.al T.out (.cells #[.bool true] 4))
          have hBw : B ≤ wr.heap.size := by have := T.out.size; have := HBB.out; omega
          obtain ⟨xs, hxs⟩ : ∃ xs, bits (s.data.toList.take k) = xs := ⟨_, rfl⟩
          rw [hxs] at OA hxl HXN
          clear O T hxs h48
          go_wp2_with (with_reducible refine wpList_append_B (b := true) OA.out rfl rfl ?_ ?_ ?_ ?_)
          case refine_3 => first | omega | exact hBw | (simp; omega)
          intro v' w5 hown hgrow
          have lt5 := OA.out.lt
          have TN := Lib.hid (Below.own TA.out hgrow (fun i e => by have := (lt5 i e).1; have := HBB.out; omega))
          have ON := Lib.hid (show OwnB w5 B v' (bits (s.data.toList.take (k + 1))) from by rw [HXN.out]; exact hown)
          clear hown hgrow lt5 hix
          go_wp2_with fail
          go_roundw
          case rel => exact ⟨k + 1, by go_num, by omega, HCN.out (by first | exact .inr rfl | trivial), ON.out, TN.out⟩
          case measure => first | (simp [intOf]; done) | (simp [intOf]; omega)
        · have NC := Lib.hid (HNC.out (fun h => by rcases h with h | h; exact h48 h; exact h49 h))
          have b48 : ((c.toNat : Int) != 48) = true := by rw [bne_iff_ne]; intro h; exact h48 (UInt8.toNat_inj.1 (by have : c.toNat = 48 := by omega
                                                                                                                     rw [this]; rfl))
          have b49 : ((c.toNat : Int) != 49) = true := by rw [bne_iff_ne]; intro h; exact h49 (UInt8.toNat_inj.1 (by have : c.toNat = 49 := by omega
                                                                                                                     rw [this]; rfl))
          have TE := Lib.hid (Below.al T.out (.cells #[] 4))
          have OE := Lib.hid (OwnB.mono (OwnB.noneB (w := wr)) (show B ≤ wr.heap.size by have := T.out.size; have := HBB.out; omega))
          clear h48 h49 O HCN HNC HXN HT hxl
          go_wp2_with fail
          exact bodyPost_ret (v := .tuple #[.slice (some ⟨wr.heap.size, 0, none⟩) 0 0, .bool false]) (by simp [results, Tryd.results32, go_sem]) rfl ⟨_, _, _, rfl, by rw [HBB.out]; exact OE.out, TE.out, .inr ⟨rfl, NC.out⟩⟩
    · obtain rfl : k = s.size := by omega
      have e : s.data.toList.take s.size = s.data.toList := by rw [Lib.size_eq, List.take_length]
      rw [e] at O HC
      clear e
      go_wp2_with fail
      exact bodyPost_ret (v := .tuple #[u4, .bool true]) (by simp [results, Tryd.results32, go_sem]) rfl ⟨_, _, _, rfl, by rw [HBB.out]; exact O.out, T.out, .inl ⟨rfl, HC.out, rfl⟩⟩
end Go.Proofs.YtgenccbpkolmbaaDoor
