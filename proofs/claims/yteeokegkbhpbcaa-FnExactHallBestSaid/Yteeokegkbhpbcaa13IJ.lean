/- The library's Collect, Sorted at the library's Values of a row of ints; the program's GoalMany. -/
import Derived.Test.Yteeokegkbhpbcaa13II
namespace Go.Proofs.Yteeokegkbhpbcaa
open Go.RowKit Go.Shelf
set_option linter.unusedVariables false
set_option linter.unusedSimpArgs false
set_option maxRecDepth 100000

/-- The floors of the first k riders, each one once, as they come. -/
def dsU (gs : List Int) : Nat → List Int
  | 0 => []
  | k + 1 => if frB gs [] k k = true then dsU gs k ++ [nth gs k] else dsU gs k
theorem ds_len (gs : List Int) : ∀ k, ((dsU gs k).length : Int) = gmU gs k
  | 0 => rfl
  | k + 1 => by
    have ih := ds_len gs k
    unfold dsU gmU
    split
    · rw [List.length_append, List.length_singleton]; omega
    · exact ih
theorem ds_mem {gs : List Int} {y : Int} : ∀ {k}, y ∈ dsU gs k ↔ ∃ j, j < k ∧ nth gs j = y
  | 0 => by simp [dsU]
  | k + 1 => by
    unfold dsU
    by_cases h : frB gs [] k k = true
    · rw [if_pos h, List.mem_append, ds_mem, List.mem_singleton]
      constructor
      · rintro (⟨j, hj, e⟩ | e)
        · exact ⟨j, by omega, e⟩
        · exact ⟨k, by omega, e.symm⟩
      · rintro ⟨j, hj, e⟩
        by_cases g : j = k
        · subst g; exact .inr e.symm
        · exact .inl ⟨j, by omega, e⟩
    · rw [if_neg h, ds_mem]
      constructor
      · rintro ⟨j, hj, e⟩; exact ⟨j, by omega, e⟩
      · rintro ⟨j, hj, e⟩
        by_cases g : j = k
        · subst g
          have h2 : ¬ ∀ i, i < j → nth gs i ≠ nth gs j := fun h3 => h (gm_fr.2 h3)
          obtain ⟨i, hi⟩ := Classical.not_forall.1 h2
          obtain ⟨hi1, hi2⟩ := Classical.not_imp.1 hi
          exact ⟨i, hi1, (Classical.not_not.1 hi2).trans e⟩
        · exact ⟨j, by omega, e⟩
theorem ds_nd (gs : List Int) : ∀ k, (dsU gs k).Nodup
  | 0 => List.nodup_nil
  | k + 1 => by
    unfold dsU
    by_cases h : frB gs [] k k = true
    · rw [if_pos h]
      refine List.nodup_append.2 ⟨ds_nd gs k, by simp, fun a ha b hb => ?_⟩
      rw [List.mem_singleton] at hb
      obtain ⟨j, hj, e⟩ := ds_mem.1 ha
      have := gm_fr.1 h j hj
      rw [← e, hb]; exact this
    · rw [if_neg h]; exact ds_nd gs k
theorem gm_cmp (gs : List Int) : ((Lib.compact (srt gs)).length : Int) = gmU gs gs.length := by
  rw [← ds_len]
  congr 1
  refine List.Perm.length_eq ((List.perm_ext_iff_of_nodup ?_ (ds_nd gs _)).2 fun y => ?_)
  · exact (cmp_asc gs).imp fun h => by omega
  · rw [cmp_mem, ds_mem]
    constructor
    · intro h
      obtain ⟨j, hj, e⟩ := mem_nth h
      exact ⟨j, hj, e⟩
    · rintro ⟨j, hj, rfl⟩
      exact nthm hj
set_option maxHeartbeats 4000000 in
theorem collect_c (a : Option Addr) (n c q0 : Nat) (xs : List Int) (w : World) (h0 : BoxV w q0 [.slice a n c]) (hX : Sl w a xs) (hl : xs.length = n) (hn : n ≤ 1048577) (hb : ∀ b q, a = some ⟨b, q, none⟩ → 0 < xs.length → b < q0) :
    Calls Try.prog 55 #[.func (.func 57) #[] #[.pointer (some ⟨q0, 0, none⟩)]] w (NewI w xs) := by
  have K := Lib.hid (appendSeq_c a n c q0 xs w h0 hX hl hn hb)
  clear h0 hX hl hb
  go_enter Try.func55, Try.ntmps55
  go_wp2_with fail
  refine Calls.mono K.out ?_
  rintro e w' ⟨v, rfl, hO, hb⟩
  go_wp2_with fail
  go_ret
  exact ⟨v, rfl, hO, hb⟩
set_option maxHeartbeats 4000000 in
theorem sorted_c (a : Option Addr) (n c q0 : Nat) (xs : List Int) (w : World) (h0 : BoxV w q0 [.slice a n c]) (hX : Sl w a xs) (hl : xs.length = n) (hn : n ≤ 1048577) (hb : ∀ b q, a = some ⟨b, q, none⟩ → 0 < xs.length → b < q0) :
    Calls Try.prog 44 #[.func (.func 57) #[] #[.pointer (some ⟨q0, 0, none⟩)]] w (NewI w (srt xs)) := by
  have K := Lib.hid (collect_c a n c q0 xs w h0 hX hl hn hb)
  have HL := Lib.hid hl
  clear h0 hX hl hb
  go_enter Try.func44, Try.ntmps44
  go_wp2_with fail
  refine Calls.mono K.out ?_
  rintro e w1 ⟨v, rfl, hO, hb⟩
  have KS := Lib.hid (sort_own (w := w1) (B := w.heap.size) hO hb.size (by rw [HL.out]; exact hn))
  have HB := Lib.hid hb
  clear hO hb K
  go_wp2_with fail
  refine Calls.mono KS.out ?_
  rintro e w2 ⟨rfl, hO2, hb2⟩
  have HB2 := Lib.hid (Below.tr HB.out hb2)
  have HO2 := Lib.hid hO2
  clear hO2 hb2 KS HB
  go_wp2_with fail
  go_ret
  exact ⟨v, rfl, HO2.out, HB2.out⟩
set_option maxHeartbeats 4000000 in
theorem iGoalMany_c (a1 : Option Addr) (n1 c1 : Nat) (gs : List Int) (a2 : Option Addr) (n2 c2 : Nat) (rs : List Int) (w : World) (hs : Sl w a1 gs) (hl : gs.length = n1) (hs2 : Sl w a2 rs) (hl2 : rs.length = n2) (hm : n1 ≤ 1048577) (hm2 : n2 ≤ 1048577) (k1 : n1 ≤ c1 ∧ c1 ≤ 9223372036854775807) (k2 : n2 ≤ c2 ∧ c2 ≤ 9223372036854775807) :
    Calls Try.prog 25 #[.slice a1 n1 c1, .slice a2 n2 c2] w (Mk w (.int .i64 (gmv gs rs))) := by
  obtain ⟨P, hP⟩ : ∃ P, hokB gs rs = P := ⟨_, rfl⟩
  have K0 := fun w' (h : Sl w' a1 gs) (h2 : Sl w' a2 rs) => iHallOk_c a1 n1 c1 gs a2 n2 c2 rs w' h hl h2 hl2 hm hm2 k1 k2
  rw [hP] at K0
  have H0 := Lib.hid K0
  have HP := Lib.hid hP
  have HL := Lib.hid hl
  have HBX := Lib.hid (Sl.lt hs)
  clear K0 hP hl hl2 k1 k2
  refine at_base fun wn hwn => ?_
  have T := Lib.hid (show Below w.heap.size w wn from by rw [hwn]; exact Below.refl _ _)
  rw [← hwn] at hs
  have X := Lib.hid (show Sl wn a1 gs from hs)
  clear hs
  rw [← hwn] at hs2
  have Y := Lib.hid (show Sl wn a2 rs from hs2)
  clear hs2
  clear hwn
  go_enter Try.func25, Try.ntmps25
  go_wp2_with fail
  refine Calls.mono (H0.out _ X.out Y.out) ?_
  intro e wn hh
  obtain ⟨he, hb⟩ := (by first | exact hh | exact Ro.mk hh | exact St.mk hh | exact LawOk.mk' hh : Mk _ _ e wn)
  subst he
  have Tn : Hid (Below w.heap.size w wn) := below_next T.out hb
  have Xn : Hid _ := Sl.below X.out hb
  have Yn : Hid _ := Sl.below Y.out hb
  clear hb hh
  clear T X Y
  have T := Tn
  have X := Xn
  have Y := Yn
  clear Tn Xn Yn
  cases P
  case false =>
    have E := Lib.hid (show gmv gs rs = -1 from gmv_f fun h => by have := tr_true h; rw [show tr (HOk gs rs) = false from HP.out] at this; cases this)
    go_wp2_with fail
    go_ret
    exact Mk.i E.out T.out
  have hok : HOk gs rs := tr_t.1 HP.out
  have hn6 : n1 ≤ 6 := by rw [← HL.out]; exact hok.2.2.1
  have E := Lib.hid (show gmv gs rs = ((Lib.compact (srt gs)).length : Int) from by rw [gmv_t hok, gm_cmp])
  clear hok H0
  go_wp2_with fail
  refine Calls.mono (values_c a1 n1 c1 _) ?_
  rintro e wq ⟨rfl, hB, hq, hqs⟩
  have hTs := T.out.size
  obtain ⟨q0, hq0⟩ : ∃ q0, wn.heap.size = q0 := ⟨_, rfl⟩
  rw [hq0] at hB hqs hTs
  rw [hq0]
  have QB := Lib.hid hB
  clear hB hq0 hqs
  have Tn := Lib.hid (below_next T.out hq)
  have Xn := Lib.hid (Sl.below X.out hq)
  have Yn := Lib.hid (Sl.below Y.out hq)
  clear hq
  clear T X Y
  have T := Tn
  have X := Xn
  have Y := Yn
  clear Tn Xn Yn
  obtain ⟨wn, hwq⟩ : ∃ w0, w0 = wq := ⟨_, rfl⟩
  subst hwq
  have KS := Lib.hid (sorted_c a1 n1 c1 q0 gs wn QB.out X.out HL.out hm (fun b q e h => by have := HBX.out b q e h; omega))
  go_wp2_with fail
  refine Calls.mono KS.out ?_
  rintro e w1 ⟨v, rfl, hO, hb⟩
  have KC := Lib.hid (compact_own hO (by rw [srt_len, HL.out]; exact hm))
  have T1 := Lib.hid (below_next T.out hb)
  have hwn := T.out.size
  clear hO hb KS QB X Y T
  go_wp2_with fail
  refine Calls.mono KC.out ?_
  rintro e w2 ⟨u, rfl, hO2, hb2⟩
  have T2 := Lib.hid (show Below w.heap.size w w2 from Below.tr T1.out (Below.mono hb2 hwn))
  obtain ⟨LN, hLN⟩ : ∃ LN, Lib.compact (srt gs) = LN := ⟨_, rfl⟩
  rw [hLN] at hO2 E
  have HE : ∃ a3 c3, u = .slice a3 LN.length c3 := by
    by_cases hne : u = .slice none 0 0
    · subst hne
      have := (own_rd hO2).2
      exact ⟨none, 0, by rw [this]⟩
    · obtain ⟨b, c, e, -⟩ := Own.some hO2 hne
      exact ⟨_, c, e⟩
  obtain ⟨a3, c3, rfl⟩ := HE
  clear hO2 hb2 KC T1 hLN
  go_wp2_with fail
  go_ret
  exact Mk.i E.out T2.out
end Go.Proofs.Yteeokegkbhpbcaa
