/- A text cut at its slashes: l1Cut. -/
import Derived.Test.YtgenccbpkolmbaaDoor8RB
namespace Go.Proofs.YtgenccbpkolmbaaDoor
open Go.RowKit
set_option linter.unusedVariables false

theorem infoString : (Tryd.prog.info? 9).map (fun i => (i.zero, i.size, i.bytes)) = some (some (.string ByteArray.empty), 1, 16) := by kernel_rfl
theorem info_string : ∃ i, Tryd.prog.info? 9 = some i ∧ i.zero = some (.string ByteArray.empty) ∧ i.size = 1 ∧ i.bytes = 16 := by
  have h := infoString
  cases e : Tryd.prog.info? 9 with
  | none => rw [e] at h; cases h
  | some i =>
    rw [e] at h
    simp at h
    exact ⟨i, rfl, h.1, h.2.1, h.2.2⟩
/-- A row of texts of the call's own. -/
def OwnS (w : World) (B : Nat) (v : Value) (ps : List ByteArray) : Prop := w.ownsRow B 9 1 v ps.length (ps.map Value.string)
theorem OwnS.lt {w : World} {B : Nat} {v : Value} {ps : List ByteArray} (h : OwnS w B v ps) : ∀ k, v.ownBlock = some k → B ≤ k ∧ k < w.heap.size := fun k hk => World.ownsRow.lt h k hk
theorem OwnS.noneS {w : World} : OwnS (w.alloc (.cells #[] 9)) w.heap.size (.slice (Option.some ⟨w.heap.size, 0, Option.none⟩) 0 0) [] :=
  ⟨by simp, .inr ⟨w.heap.size, 0, #[], rfl, Nat.le_refl _, heap_alloc_new w _, Nat.le_refl _, by unfold maxLen; omega, rfl, by simp⟩⟩
theorem OwnS.al {w : World} {B : Nat} {v : Value} {ps : List ByteArray} (h : OwnS w B v ps) (o : Obj) : OwnS (w.alloc o) B v ps := by
  obtain ⟨h0, h⟩ := h
  refine ⟨h0, ?_⟩
  rcases h with h | ⟨g, cap, cur, e, hb, hh, hr⟩
  · exact .inl h
  · exact .inr ⟨g, cap, cur, e, hb, by rw [((Below.refl w.heap.size w).alloc (Nat.le_refl _) o).block g (by obtain ⟨h1, _⟩ := Array.getElem?_eq_some_iff.1 hh; exact h1)]; exact hh, hr⟩
theorem wpList_append_S {w : World} {ops : Array Oper} {rest : List Oper} {act : Act} {Q : Exit → Act → World → Prop} {d : Option Tmp} {s x : Operand} {ty0 : TypeId} {ps : String} {af : Array Edge} {B G : Nat} {xs : List ByteArray} {v : Value} {b : ByteArray}
    (hown : OwnS w B v xs) (hs : act.eval s = v) (hx : act.eval x = .slice (some ⟨G, 0, none⟩) 1 1) (hc : w.cell? ⟨G, 0, none⟩ = some (.string b)) (hl : xs.length ≤ 1048577) (hB : B ≤ w.heap.size)
    (hK : ∀ v' w', OwnS w' B v' (xs ++ [b]) → w.grownBy w' v.ownBlock → wpList Tryd.prog ops Q rest (act.put d v') w') :
    wpList Tryd.prog ops Q ({ dst := d, op := .call { callee := .builtin .append, args := #[s, x], argTypes := #[49, 49] }, type := ty0, pos := ps, after := af, guard := none } :: rest) act w := by
  obtain ⟨i0, hi, hz0, hz1, hz2⟩ := info_string
  refine wpList_append_wanted rfl s x 49 rfl B 9 i0 (.string ByteArray.empty) 1 16 Tryd.underlying49 hi hz0 hz1 hz2 rfl (by decide) v xs.length (xs.map Value.string) hs hown ⟨G, 0, none⟩ 1 1 [.string b] hx rfl (fun j u hu => ?_) (fun u hu => ?_) (by unfold maxLen; omega) (by omega) hB (fun v' w' h1 h2 h3 h4 => ?_)
  · have hj : j = 0 := by
      obtain ⟨h, _⟩ := List.getElem?_eq_some_iff.1 hu
      simp at h; omega
    subst hj
    simp at hu
    subst hu
    exact hc
  · simp at hu
    subst hu
    rfl
  · refine hK v' w' ?_ h2
    unfold OwnS
    simpa using h1
theorem ub_get {s : ByteArray} {k : Nat} (h : k < s.data.toList.length) : ub s k = s.data.toList[k] := by
  unfold ub
  rw [List.getD_eq_getElem?_getD, List.getElem?_eq_getElem h, Option.getD_some]
theorem ext_data (s : ByteArray) (f k : Nat) : (s.extract f k).data.toList = (s.data.toList.drop f).take (k - f) := by
  simp [ByteArray.data_extract]
/-- No slash since f. -/
def NoS (s : ByteArray) (f k : Nat) : Prop := ∀ i, f ≤ i → i < k → ub s i ≠ 47
theorem NoS.mem {s : ByteArray} {f k : Nat} (h : NoS s f k) (hk : k ≤ s.size) : ∀ b ∈ (s.data.toList.drop f).take (k - f), b ≠ 47 := by
  intro b hb
  obtain ⟨j, hj, rfl⟩ := List.mem_iff_getElem.1 hb
  have hj2 : j < k - f ∧ f + j < s.data.toList.length := by
    simp at hj
    have := Lib.size_eq s
    simp at this ⊢
    omega
  have := h (f + j) (by omega) (by omega)
  rw [ub_get hj2.2] at this
  simpa using this
theorem drop_at {s : ByteArray} {f k : Nat} (hfk : f ≤ k) (hk : k < s.size) (h47 : ub s k = 47) : s.data.toList.drop f = (s.data.toList.drop f).take (k - f) ++ 47 :: s.data.toList.drop (k + 1) := by
  have hk' : k < s.data.toList.length := by rw [← Lib.size_eq]; exact hk
  have e : (s.data.toList.drop f).drop (k - f) = 47 :: s.data.toList.drop (k + 1) := by
    rw [List.drop_drop, show f + (k - f) = k by omega, List.drop_eq_getElem_cons hk', ← ub_get hk', h47]
  conv => lhs; rw [← List.take_append_drop (k - f) (s.data.toList.drop f), e]
def pcs (ps : List ByteArray) : List (List UInt8) := ps.map (·.data.toList)
theorem pcs_snoc (ps : List ByteArray) (p : ByteArray) : pcs (ps ++ [p]) = pcs ps ++ [p.data.toList] := by simp [pcs]
set_option maxHeartbeats 2000000 in
theorem l1Cut_c (s : ByteArray) (w : World) (hs : s.size ≤ 1048576) : Calls Tryd.prog 31 #[.string s, .int .u8 47] w fun e w' => ∃ v ps, e = .returned v ∧ OwnS w' w.heap.size v ps ∧ pcs ps = cut1 s.data.toList ∧ Below w.heap.size w w' := by
  obtain ⟨B, hBB⟩ : ∃ B, w.heap.size = B := ⟨_, rfl⟩
  have HBB := Lib.hid hBB
  have O0 := Lib.hid (show OwnS (w.alloc (.cells #[] 9)) B (.slice (some ⟨B, 0, none⟩) 0 0) [] from by rw [← hBB]; exact OwnS.noneS)
  have T0 := Lib.hid (Below.al (Below.refl w.heap.size w) (.cells #[] 9))
  clear hBB
  go_enter Tryd.func31, Tryd.ntmps31
  go_wp2_with fail
  rw [HBB.out]
  go_loopw [5, 6, 7] (fun vo vf vk wr => ∃ (k f : Nat) (ps : List ByteArray), vk = .int .i64 k ∧ vf = .int .i64 f ∧ k ≤ s.size ∧ f ≤ k ∧ ps.length ≤ k ∧ NoS s f k ∧ pcs ps ++ cut1 (s.data.toList.drop f) = cut1 s.data.toList ∧ OwnS wr B vo ps ∧ Below w.heap.size w wr) (fun _ _ vk _ => s.size - (intOf vk).toNat)
  case atStart => exact ⟨0, 0, [], rfl, rfl, by omega, by omega, by simp, (fun i h1 h2 => by omega), by simp [pcs], O0.out, T0.out⟩
  case round =>
    clear O0 T0
    obtain ⟨k, f, ps, rfl, rfl, hk, hf, hpl, hno, hcut, ho, ht⟩ := hrel
    have O := Lib.hid ho
    have T := Lib.hid ht
    have HN := Lib.hid hno
    have HC := Lib.hid hcut
    clear ho ht hno hcut
    by_cases hlt : k < s.size
    · have hlti : (k : Int) < (s.size : Int) := by omega
      have hix := index_s s k hlt
      obtain ⟨c, hc⟩ : ∃ c, ub s k = c := ⟨_, rfl⟩
      rw [hc] at hix
      have HCC := Lib.hid hc
      clear hc
      by_cases h47 : c = 47
      · subst h47
        have e47 : ((47 : UInt8).toNat : Int) = 47 := rfl
        rw [e47] at hix
        have hsl := fun w' : World => run_slice_string (P := Tryd.prog) w' 9 s .i64 .i64 (f : Int) (k : Int) Tryd.underlying9 (by omega) (by omega) (by omega)
        rw [Int.toNat_natCast, Int.toNat_natCast] at hsl
        have hed := ext_data s f k
        obtain ⟨p, hp⟩ : ∃ p, s.extract f k = p := ⟨_, rfl⟩
        rw [hp] at hsl hed
        have HP := Lib.hid (show pcs (ps ++ [p]) ++ cut1 (s.data.toList.drop (k + 1)) = cut1 s.data.toList from by
          rw [pcs_snoc, ← HC.out, drop_at hf hlt HCC.out, cut1_at _ _ (HN.out.mem hk), hed]
          simp)
        have OA := Lib.hid (OwnS.al O.out (.cells #[.string p] 9))
        have TA := Lib.hid (Below.al T.out (.cells #[.string p] 9))
        have hBw : B ≤ wr.heap.size := by have := T.out.size; have := HBB.out; omega
        have hxl : ps.length ≤ 1048577 := by omega
        clear O T hp hed
        go_wp2_with (with_reducible refine wpList_append_S (b := p) OA.out rfl rfl ?_ ?_ ?_ ?_)
        case refine_1 => rw [World.cell?_alloc_at _ _ _ _ rfl]; rfl
        try case refine_2 => exact hxl
        case refine_3 => first | omega | exact hBw | (simp; omega)
        intro v' w5 hown hgrow
        have lt5 := OA.out.lt
        have TN := Lib.hid (Below.own TA.out hgrow (fun i e => by have := (lt5 i e).1; have := HBB.out; omega))
        have ON := Lib.hid hown
        clear hown hgrow lt5 hix hsl
        go_wp2_with fail
        go_roundw
        case rel => exact ⟨k + 1, k + 1, ps ++ [p], by go_num, by go_num, by omega, by omega, by simp; omega, (fun i h1 h2 => by omega), HP.out, ON.out, TN.out⟩
        case measure => first | (simp [intOf]; done) | (simp [intOf]; omega)
      · have b47 : ((c.toNat : Int) == 47) = false := beq_false_of_ne fun e => h47 (UInt8.toNat_inj.1 (by
          have : c.toNat = 47 := by omega
          rw [this]; rfl))
        have NN := Lib.hid (show NoS s f (k + 1) from fun i h1 h2 => by
          by_cases e : i = k
          · subst e; rw [HCC.out]; exact h47
          · exact HN.out i h1 (by omega))
        clear h47
        go_wp2_with fail
        go_roundw
        case rel => exact ⟨k + 1, f, ps, by go_num, rfl, by omega, by omega, by omega, NN.out, HC.out, O.out, T.out⟩
        case measure => first | (simp [intOf]; done) | (simp [intOf]; omega)
    · obtain rfl : k = s.size := by omega
      have hsl := fun w' : World => run_slice_string_from_if (P := Tryd.prog) w' 9 s .i64 (f : Int) Tryd.underlying9
      have hed := ext_data s f s.size
      have hfi : 0 ≤ (f : Int) ∧ (f : Int) ≤ (s.size : Int) := by omega
      simp only [if_pos hfi, Int.toNat_natCast] at hsl
      obtain ⟨p, hp⟩ : ∃ p, s.extract f s.size = p := ⟨_, rfl⟩
      rw [hp] at hed
      simp only [hp] at hsl
      have e2 : (s.data.toList.drop f).take (s.size - f) = s.data.toList.drop f := by
        rw [List.take_of_length_le]
        rw [List.length_drop, ← Lib.size_eq]
        omega
      have HP := Lib.hid (show pcs (ps ++ [p]) = cut1 s.data.toList from by
        have h1 := HN.out.mem hk
        rw [e2] at h1 hed
        rw [pcs_snoc, ← HC.out, cut1_no _ h1, hed])
      have OA := Lib.hid (OwnS.al O.out (.cells #[.string p] 9))
      have TA := Lib.hid (Below.al T.out (.cells #[.string p] 9))
      have hBw : B ≤ wr.heap.size := by have := T.out.size; have := HBB.out; omega
      have hxl : ps.length ≤ 1048577 := by omega
      clear O T hp hed e2
      go_wp2_with (with_reducible refine wpList_append_S (b := p) OA.out rfl rfl ?_ ?_ ?_ ?_)
      case refine_1 => rw [World.cell?_alloc_at _ _ _ _ rfl]; rfl
      try case refine_2 => exact hxl
      case refine_3 => first | omega | exact hBw | (simp; omega)
      intro v' w5 hown hgrow
      have lt5 := OA.out.lt
      have TN := Lib.hid (Below.own TA.out hgrow (fun i e => by have := (lt5 i e).1; have := HBB.out; omega))
      have ON := Lib.hid hown
      clear hown hgrow lt5 hsl
      go_wp2_with fail
      go_ret
      exact ⟨_, _, rfl, by rw [HBB.out]; exact ON.out, HP.out, TN.out⟩
end Go.Proofs.YtgenccbpkolmbaaDoor
