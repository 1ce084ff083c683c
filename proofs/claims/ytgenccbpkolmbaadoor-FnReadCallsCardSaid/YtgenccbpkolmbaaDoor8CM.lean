/- A text cut at its slashes: mathematics. -/
import Derived.Test.YtgenccbpkolmbaaDoor8P
import Derived.Lib.SplitLaws
namespace Go.Proofs.YtgenccbpkolmbaaDoor
set_option linter.unusedVariables false

def con1 (b : UInt8) : List (List UInt8) → List (List UInt8)
  | [] => [[b]]
  | p :: ps => (b :: p) :: ps
/-- The pieces between the slashes. -/
def cut1 : List UInt8 → List (List UInt8)
  | [] => [[]]
  | b :: l => if b = 47 then [] :: cut1 l else con1 b (cut1 l)
theorem cut1_ne (l : List UInt8) : cut1 l ≠ [] := by
  cases l with
  | nil => simp [cut1]
  | cons b l =>
    unfold cut1
    split
    · simp
    · unfold con1; split <;> simp
theorem cut1_at (p r : List UInt8) (h : ∀ b ∈ p, b ≠ 47) : cut1 (p ++ 47 :: r) = p :: cut1 r := by
  induction p with
  | nil => simp [cut1]
  | cons b p ih =>
    rw [List.cons_append]
    show (if b = 47 then [] :: cut1 (p ++ 47 :: r) else con1 b (cut1 (p ++ 47 :: r))) = (b :: p) :: cut1 r
    rw [if_neg (h b (by simp)), ih (fun c hc => h c (by simp [hc]))]
    rfl
theorem cut1_no (p : List UInt8) (h : ∀ b ∈ p, b ≠ 47) : cut1 p = [p] := by
  induction p with
  | nil => simp [cut1]
  | cons b p ih =>
    unfold cut1
    rw [if_neg (h b (by simp)), ih (fun c hc => h c (by simp [hc]))]
    rfl
/-- The pieces with slashes between them are the text again. -/
def joinS : List (List UInt8) → List UInt8
  | [] => []
  | [p] => p
  | p :: q :: ps => p ++ 47 :: joinS (q :: ps)
theorem joinS_con (b : UInt8) (ps : List (List UInt8)) (h : ps ≠ []) : joinS (con1 b ps) = b :: joinS ps := by
  match ps, h with
  | [p], _ => rfl
  | p :: q :: ps, _ => rfl
theorem joinS_nil (ps : List (List UInt8)) (h : ps ≠ []) : joinS ([] :: ps) = 47 :: joinS ps := by
  match ps, h with
  | p :: ps, _ => rfl
theorem join_cut (l : List UInt8) : joinS (cut1 l) = l := by
  induction l with
  | nil => rfl
  | cons b l ih =>
    unfold cut1
    split
    · rename_i e; rw [joinS_nil _ (cut1_ne l), ih, e]
    · rw [joinS_con _ _ (cut1_ne l), ih]
theorem cut3 {l p q r : List UInt8} (h : cut1 l = [p, q, r]) : l = p ++ 47 :: (q ++ 47 :: r) := by
  rw [← join_cut l, h]; rfl
theorem cut_clean (l : List UInt8) : ∀ p ∈ cut1 l, ∀ b ∈ p, b ≠ 47 := by
  induction l with
  | nil => intro p hp; simp [cut1] at hp; subst hp; simp
  | cons c l ih =>
    intro p hp
    unfold cut1 at hp
    split at hp
    · rcases List.mem_cons.1 hp with rfl | hp
      · simp
      · exact ih p hp
    · rename_i hc
      have hne := cut1_ne l
      match hq : cut1 l, hne with
      | q :: qs, _ =>
        rw [hq] at hp ih
        simp only [con1] at hp
        rcases List.mem_cons.1 hp with rfl | hp
        · intro b hb
          rcases List.mem_cons.1 hb with rfl | hb
          · exact hc
          · exact ih q (by simp) b hb
        · exact ih p (by simp [hp])
/-- The library's cut at one slash. -/
theorem index_47 (b : UInt8) (l : List UInt8) : Lib.index (b :: l) [47] = if b = 47 then 0 else if Lib.index l [47] = -1 then -1 else Lib.index l [47] + 1 := by
  conv => lhs; unfold Lib.index
  by_cases hb : b = 47
  · subst hb; simp [List.isPrefixOf]
  · have : ([47] : List UInt8).isPrefixOf (b :: l) = false := by simp [List.isPrefixOf]; exact fun e => hb e.symm
    rw [this, if_neg hb]
    simp
theorem splitK_con (b : UInt8) (hb : b ≠ 47) (l : List UInt8) : ∀ k, Lib.splitK [47] 0 k (b :: l) = con1 b (Lib.splitK [47] 0 k l)
  | 0 => rfl
  | k + 1 => by
    have hi := index_47 b l
    rw [if_neg hb] at hi
    have hge := Lib.index_ge l [47]
    unfold Lib.splitK
    rw [hi]
    by_cases h : Lib.index l [47] = -1
    · rw [if_pos h, h]; simp [con1]
    · rw [if_neg h, if_neg (by simp; omega), if_neg (by simpa using h)]
      have e : (Lib.index l [47] + 1).toNat = (Lib.index l [47]).toNat + 1 := by omega
      rw [e]
      simp [con1, List.take_succ_cons]
theorem count_con (b : UInt8) (hb : b ≠ 47) (l : List UInt8) : Lib.count (b :: l) [47] = Lib.count l [47] := by
  have hi := index_47 b l
  rw [if_neg hb] at hi
  have hge := Lib.index_ge l [47]
  by_cases h : Lib.index l [47] = -1
  · rw [if_pos h] at hi
    rw [Lib.count_miss hi, Lib.count_miss h]
  · rw [if_neg h] at hi
    obtain ⟨i, hii⟩ : ∃ i : Nat, Lib.index l [47] = i := ⟨(Lib.index l [47]).toNat, by omega⟩
    rw [Lib.count_hit (i := i + 1) (by simp) (by rw [hi, hii]; omega), Lib.count_hit (i := i) (by simp) hii]
    rfl
theorem split_cut (l : List UInt8) : Lib.splitK [47] 0 (Lib.count l [47]) l = cut1 l := by
  induction l with
  | nil => rfl
  | cons b l ih =>
    by_cases hb : b = 47
    · subst hb
      have hi := index_47 47 l
      rw [if_pos rfl] at hi
      rw [Lib.count_hit (i := 0) (by simp) (by rw [hi]; rfl)]
      have e : ((47 : UInt8) :: l).drop (0 + ([47] : List UInt8).length) = l := rfl
      rw [e, Nat.add_comm]
      unfold Lib.splitK cut1
      rw [hi, if_pos rfl, if_neg (by decide), ← ih]
      rfl
    · rw [count_con b hb, splitK_con b hb, ih]
      conv => rhs; unfold cut1
      rw [if_neg hb]
theorem splitB_cut (s : ByteArray) : (Lib.splitB ⟨#[47]⟩ 0 (Lib.countB s ⟨#[47]⟩) s).map (·.data.toList) = cut1 s.data.toList := by
  rw [Lib.splitB_data]
  exact split_cut _
end Go.Proofs.YtgenccbpkolmbaaDoor
