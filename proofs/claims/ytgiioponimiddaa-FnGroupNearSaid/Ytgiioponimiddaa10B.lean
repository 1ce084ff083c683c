/- The model's ShortTour and ShortWay. -/
import Derived.Test.Ytgiioponimiddaa10A
import Derived.Deep.CutRange
namespace Go.Proofs.Ytgiioponimiddaa
open Go.RowKit
set_option linter.unusedVariables false
set_option linter.unusedSimpArgs false
set_option maxRecDepth 100000

theorem sVisitsOk_t (b off cap : Nat) (xs : List Int) (a2 : Option Addr) (n2 c2 : Nat) (ys : List Int) (w : World) (hc : Ints w b off xs) (hs : Sl w a2 ys) (hl : ys.length = n2) (hm : xs.length ≤ 1048576) (hm2 : n2 ≤ 1048577) (h : VO xs ys) :
    Calls Try.prog 65 #[.slice (some ⟨b, off, none⟩) xs.length cap, .slice a2 n2 c2] w (Mk w (.bool true)) := by
  have := sVisitsOk_c b off cap xs a2 n2 c2 ys w hc hs hl hm hm2
  rwa [voB_t h] at this
theorem sVisitsOk_f (b off cap : Nat) (xs : List Int) (a2 : Option Addr) (n2 c2 : Nat) (ys : List Int) (w : World) (hc : Ints w b off xs) (hs : Sl w a2 ys) (hl : ys.length = n2) (hm : xs.length ≤ 1048576) (hm2 : n2 ≤ 1048577) (h : ¬ VO xs ys) :
    Calls Try.prog 65 #[.slice (some ⟨b, off, none⟩) xs.length cap, .slice a2 n2 c2] w (Mk w (.bool false)) := by
  have := sVisitsOk_c b off cap xs a2 n2 c2 ys w hc hs hl hm hm2
  rwa [voB_f h] at this
theorem tdn_len (a : Int) (f : Bool) (l : List Int) : (tdn a f l).length ≤ l.length := by unfold tdn; rw [List.length_reverse]; exact List.length_filter_le _ _
theorem tup_len (a : Int) (f : Bool) (l : List Int) : (tup a f l).length ≤ l.length := List.length_filter_le _ _
theorem own_mono {w : World} {A B : Nat} {v : Value} {xs : List Int} (h : Own w B v xs) (hA : A ≤ B) : Own w A v xs := Own.mono h hA
theorem Own.app {w : World} {B : Nat} {v : Value} {xs ys : List Int} (h : w.ownsRow B 3 1 v (xs.length + ys.length) (xs.map (Value.int .i64) ++ ys.map (Value.int .i64))) : Own w B v (xs ++ ys) := by
  unfold Own; simpa using h
theorem VO.len8 {xs ys : List Int} (h : VO xs ys) : ys.length ≤ 8 := by
  have key : ∀ k : Nat, k < ys.length → (k : Int) ≤ nth ys k := by
    intro k
    induction k with
    | zero => intro hk; exact (h.2 0 hk).1
    | succ k ih =>
      intro hk
      have := ih (by omega)
      have := (h.2 (k + 1) hk).2.2 (by omega)
      rw [Nat.add_sub_cancel] at this
      omega
  by_cases h0 : ys.length = 0
  · omega
  · have h1 := key (ys.length - 1) (by omega)
    have h2 := (h.2 (ys.length - 1) (by omega)).2.1
    have := h.1.2.1
    omega
set_option maxHeartbeats 4000000 in
theorem sShortTour_c (b off cap : Nat) (xs : List Int) (x : Int) (a2 : Option Addr) (n2 c2 : Nat) (ys : List Int) (w : World) (hc : Ints w b off xs) (hs : Sl w a2 ys) (hl : ys.length = n2) (hm : xs.length ≤ 1048576) (hm2 : n2 ≤ 1048577) :
    Calls Try.prog 67 #[.slice (some ⟨b, off, none⟩) xs.length cap, .int .i64 x, .slice a2 n2 c2] w (NewI w (stv xs x ys)) := by
  obtain ⟨i0, hi, hz0, hz1, hz2⟩ := info_parts infoInt
  have HL := Lib.hid hl
  have hmm : xs.length ≤ maxLen := by unfold maxLen; omega
  have hbw := Ints.lt hc
  clear hl
  by_cases hv : VO xs ys
  case neg =>
    have E := Lib.hid (stv_f (xs := xs) (ys := ys) (a := x) (fun h => hv h.1))
    have HV := Lib.hid hv
    clear hv
    refine at_base fun wn hwn => ?_
    have T := Lib.hid (show Below w.heap.size w wn from by rw [hwn]; exact Below.refl _ _)
    rw [← hwn] at hc
    have X := Lib.hid (show Ints wn b off xs from hc)
    clear hc
    rw [← hwn] at hs
    have Y := Lib.hid (show Sl wn a2 ys from hs)
    clear hs
    clear hwn
    obtain ⟨g, hg⟩ : ∃ g, Array.size (World.heap wn) = g := ⟨_, rfl⟩
    have HGg := Lib.hid hg
    have hTg : w.heap.size ≤ g := by rw [← hg]; exact T.out.size
    have Tn := Lib.hid (show Below w.heap.size w ((wn.alloc (.cells #[] 3)).alloc (.cells #[] 3)) from (Below.al (Below.al T.out (.cells #[] 3)) (.cells #[] 3)))
    have Xn := Lib.hid (Ints.below X.out (show Below wn.heap.size wn ((wn.alloc (.cells #[] 3)).alloc (.cells #[] 3)) from (Below.al (Below.al (Below.refl _ _) (.cells #[] 3)) (.cells #[] 3))))
    have Yn := Lib.hid (Sl.below Y.out (show Below wn.heap.size wn ((wn.alloc (.cells #[] 3)).alloc (.cells #[] 3)) from (Below.al (Below.al (Below.refl _ _) (.cells #[] 3)) (.cells #[] 3))))
    have U := Lib.hid (show Own ((wn.alloc (.cells #[] 3)).alloc (.cells #[] 3)) g (.slice (some ⟨g, 0, none⟩) 0 0) [] from by have h9 := (Own.al (Own.none (w := wn)) (.cells #[] 3)); simp only [World.size_alloc, hg, Nat.add_assoc, Nat.reduceAdd] at h9; exact h9)
    have D := Lib.hid (show Own ((wn.alloc (.cells #[] 3)).alloc (.cells #[] 3)) (g + 1) (.slice (some ⟨(g + 1), 0, none⟩) 0 0) [] from by have h9 := (Own.none (w := (wn.alloc (.cells #[] 3)))); simp only [World.size_alloc, hg, Nat.add_assoc, Nat.reduceAdd] at h9; exact h9)
    have HZg := Lib.hid (show (((wn.alloc (.cells #[] 3)).alloc (.cells #[] 3))).heap.size = g + 2 from by simp only [World.size_alloc, hg, Nat.add_assoc, Nat.reduceAdd])
    clear hg
    clear T X Y
    have T := Tn
    have X := Xn
    have Y := Yn
    clear Tn Xn Yn
    go_enter Try.func67, Try.ntmps67
    go_wp2_with fail
    rw [HGg.out]
    refine Calls.mono (sVisitsOk_f b off cap xs a2 n2 c2 ys _ X.out Y.out HL.out hm hm2 HV.out) ?_
    intro e wn hh
    obtain ⟨he, hb⟩ := (by first | exact hh | exact Ro.mk hh | exact St.mk hh | exact LawOk.mk' hh : Mk _ _ e wn)
    subst he
    have Tn : Hid (Below w.heap.size w wn) := below_next T.out hb
    have Xn : Hid _ := Ints.below X.out hb
    have Yn : Hid _ := Sl.below Y.out hb
    have Un : Hid _ := Own.below U.out hb
    have Dn : Hid _ := Own.below D.out hb
    clear hb hh
    clear T X Y U D
    have T := Tn
    have X := Xn
    have Y := Yn
    have U := Un
    have D := Dn
    clear Tn Xn Yn Un Dn
    go_wp2_with fail
    go_ret
    exact ⟨_, rfl, by rw [E.out]; exact own_mono U.out hTg, T.out⟩
  have hv8 := hv.len8
  rw [HL.out] at hv8
  by_cases hx : okF xs x
  case neg =>
    have E := Lib.hid (stv_f (xs := xs) (ys := ys) (a := x) (fun h => hx h.2.1))
    have t1 := inB_f (lo := 0) (n := x) (hi := (xs.length : Int) - 1) (fun h => hx ⟨h.1, by omega⟩)
    have HV := Lib.hid hv
    clear hv hx
    refine at_base fun wn hwn => ?_
    have T := Lib.hid (show Below w.heap.size w wn from by rw [hwn]; exact Below.refl _ _)
    rw [← hwn] at hc
    have X := Lib.hid (show Ints wn b off xs from hc)
    clear hc
    rw [← hwn] at hs
    have Y := Lib.hid (show Sl wn a2 ys from hs)
    clear hs
    clear hwn
    obtain ⟨g, hg⟩ : ∃ g, Array.size (World.heap wn) = g := ⟨_, rfl⟩
    have HGg := Lib.hid hg
    have hTg : w.heap.size ≤ g := by rw [← hg]; exact T.out.size
    have Tn := Lib.hid (show Below w.heap.size w ((wn.alloc (.cells #[] 3)).alloc (.cells #[] 3)) from (Below.al (Below.al T.out (.cells #[] 3)) (.cells #[] 3)))
    have Xn := Lib.hid (Ints.below X.out (show Below wn.heap.size wn ((wn.alloc (.cells #[] 3)).alloc (.cells #[] 3)) from (Below.al (Below.al (Below.refl _ _) (.cells #[] 3)) (.cells #[] 3))))
    have Yn := Lib.hid (Sl.below Y.out (show Below wn.heap.size wn ((wn.alloc (.cells #[] 3)).alloc (.cells #[] 3)) from (Below.al (Below.al (Below.refl _ _) (.cells #[] 3)) (.cells #[] 3))))
    have U := Lib.hid (show Own ((wn.alloc (.cells #[] 3)).alloc (.cells #[] 3)) g (.slice (some ⟨g, 0, none⟩) 0 0) [] from by have h9 := (Own.al (Own.none (w := wn)) (.cells #[] 3)); simp only [World.size_alloc, hg, Nat.add_assoc, Nat.reduceAdd] at h9; exact h9)
    have D := Lib.hid (show Own ((wn.alloc (.cells #[] 3)).alloc (.cells #[] 3)) (g + 1) (.slice (some ⟨(g + 1), 0, none⟩) 0 0) [] from by have h9 := (Own.none (w := (wn.alloc (.cells #[] 3)))); simp only [World.size_alloc, hg, Nat.add_assoc, Nat.reduceAdd] at h9; exact h9)
    have HZg := Lib.hid (show (((wn.alloc (.cells #[] 3)).alloc (.cells #[] 3))).heap.size = g + 2 from by simp only [World.size_alloc, hg, Nat.add_assoc, Nat.reduceAdd])
    clear hg
    clear T X Y
    have T := Tn
    have X := Xn
    have Y := Yn
    clear Tn Xn Yn
    go_enter Try.func67, Try.ntmps67
    go_wp2_with fail
    rw [HGg.out]
    refine Calls.mono (sVisitsOk_t b off cap xs a2 n2 c2 ys _ X.out Y.out HL.out hm hm2 HV.out) ?_
    intro e wn hh
    obtain ⟨he, hb⟩ := (by first | exact hh | exact Ro.mk hh | exact St.mk hh | exact LawOk.mk' hh : Mk _ _ e wn)
    subst he
    have Tn : Hid (Below w.heap.size w wn) := below_next T.out hb
    have Xn : Hid _ := Ints.below X.out hb
    have Yn : Hid _ := Sl.below Y.out hb
    have Un : Hid _ := Own.below U.out hb
    have Dn : Hid _ := Own.below D.out hb
    clear hb hh
    clear T X Y U D
    have T := Tn
    have X := Xn
    have Y := Yn
    have U := Un
    have D := Dn
    clear Tn Xn Yn Un Dn
    go_wp2_with fail
    refine Calls.mono (l1In_c _ _ _ _) ?_
    intro e wn hh
    obtain ⟨he, hb⟩ := (by first | exact hh | exact Ro.mk hh | exact St.mk hh | exact LawOk.mk' hh : Mk _ _ e wn)
    subst he
    have Tn : Hid (Below w.heap.size w wn) := below_next T.out hb
    have Xn : Hid _ := Ints.below X.out hb
    have Yn : Hid _ := Sl.below Y.out hb
    have Un : Hid _ := Own.below U.out hb
    have Dn : Hid _ := Own.below D.out hb
    clear hb hh
    clear T X Y U D
    have T := Tn
    have X := Xn
    have Y := Yn
    have U := Un
    have D := Dn
    clear Tn Xn Yn Un Dn
    go_wp2_with fail
    go_ret
    exact ⟨_, rfl, by rw [E.out]; exact own_mono U.out hTg, T.out⟩
  have t1 := inB_t (lo := 0) (n := x) (hi := (xs.length : Int) - 1) ⟨hx.1, by have := hx.2; omega⟩
  by_cases hn : n2 = 0
  case pos =>
    have E := Lib.hid (stv_f (xs := xs) (ys := ys) (a := x) (fun h => h.2.2 (List.length_eq_zero_iff.1 (by rw [HL.out]; exact hn))))
    have HV := Lib.hid hv
    subst hn
    clear hv hx
    refine at_base fun wn hwn => ?_
    have T := Lib.hid (show Below w.heap.size w wn from by rw [hwn]; exact Below.refl _ _)
    rw [← hwn] at hc
    have X := Lib.hid (show Ints wn b off xs from hc)
    clear hc
    rw [← hwn] at hs
    have Y := Lib.hid (show Sl wn a2 ys from hs)
    clear hs
    clear hwn
    obtain ⟨g, hg⟩ : ∃ g, Array.size (World.heap wn) = g := ⟨_, rfl⟩
    have HGg := Lib.hid hg
    have hTg : w.heap.size ≤ g := by rw [← hg]; exact T.out.size
    have Tn := Lib.hid (show Below w.heap.size w ((wn.alloc (.cells #[] 3)).alloc (.cells #[] 3)) from (Below.al (Below.al T.out (.cells #[] 3)) (.cells #[] 3)))
    have Xn := Lib.hid (Ints.below X.out (show Below wn.heap.size wn ((wn.alloc (.cells #[] 3)).alloc (.cells #[] 3)) from (Below.al (Below.al (Below.refl _ _) (.cells #[] 3)) (.cells #[] 3))))
    have Yn := Lib.hid (Sl.below Y.out (show Below wn.heap.size wn ((wn.alloc (.cells #[] 3)).alloc (.cells #[] 3)) from (Below.al (Below.al (Below.refl _ _) (.cells #[] 3)) (.cells #[] 3))))
    have U := Lib.hid (show Own ((wn.alloc (.cells #[] 3)).alloc (.cells #[] 3)) g (.slice (some ⟨g, 0, none⟩) 0 0) [] from by have h9 := (Own.al (Own.none (w := wn)) (.cells #[] 3)); simp only [World.size_alloc, hg, Nat.add_assoc, Nat.reduceAdd] at h9; exact h9)
    have D := Lib.hid (show Own ((wn.alloc (.cells #[] 3)).alloc (.cells #[] 3)) (g + 1) (.slice (some ⟨(g + 1), 0, none⟩) 0 0) [] from by have h9 := (Own.none (w := (wn.alloc (.cells #[] 3)))); simp only [World.size_alloc, hg, Nat.add_assoc, Nat.reduceAdd] at h9; exact h9)
    have HZg := Lib.hid (show (((wn.alloc (.cells #[] 3)).alloc (.cells #[] 3))).heap.size = g + 2 from by simp only [World.size_alloc, hg, Nat.add_assoc, Nat.reduceAdd])
    clear hg
    clear T X Y
    have T := Tn
    have X := Xn
    have Y := Yn
    clear Tn Xn Yn
    go_enter Try.func67, Try.ntmps67
    go_wp2_with fail
    rw [HGg.out]
    refine Calls.mono (sVisitsOk_t b off cap xs a2 0 c2 ys _ X.out Y.out HL.out hm hm2 HV.out) ?_
    intro e wn hh
    obtain ⟨he, hb⟩ := (by first | exact hh | exact Ro.mk hh | exact St.mk hh | exact LawOk.mk' hh : Mk _ _ e wn)
    subst he
    have Tn : Hid (Below w.heap.size w wn) := below_next T.out hb
    have Xn : Hid _ := Ints.below X.out hb
    have Yn : Hid _ := Sl.below Y.out hb
    have Un : Hid _ := Own.below U.out hb
    have Dn : Hid _ := Own.below D.out hb
    clear hb hh
    clear T X Y U D
    have T := Tn
    have X := Xn
    have Y := Yn
    have U := Un
    have D := Dn
    clear Tn Xn Yn Un Dn
    go_wp2_with fail
    refine Calls.mono (l1In_c _ _ _ _) ?_
    intro e wn hh
    obtain ⟨he, hb⟩ := (by first | exact hh | exact Ro.mk hh | exact St.mk hh | exact LawOk.mk' hh : Mk _ _ e wn)
    subst he
    have Tn : Hid (Below w.heap.size w wn) := below_next T.out hb
    have Xn : Hid _ := Ints.below X.out hb
    have Yn : Hid _ := Sl.below Y.out hb
    have Un : Hid _ := Own.below U.out hb
    have Dn : Hid _ := Own.below D.out hb
    clear hb hh
    clear T X Y U D
    have T := Tn
    have X := Xn
    have Y := Yn
    have U := Un
    have D := Dn
    clear Tn Xn Yn Un Dn
    go_wp2_with fail
    go_ret
    exact ⟨_, rfl, by rw [E.out]; exact own_mono U.out hTg, T.out⟩
  have hne : ys ≠ [] := fun e => hn (by rw [← HL.out, e]; rfl)
  have hn1 : (1 : Int) ≤ n2 := by omega
  have hnz : ((n2 : Int) == 0) = false := beq_false_of_ne (by omega)
  have hp0 : 0 < n2 := by omega
  have hp1 : n2 - 1 < n2 := by omega
  obtain ⟨b2, o2, rfl, hI⟩ := hs.resolve_left hne
  have hb2w := Ints.lt hI (by rw [HL.out]; omega)
  have hbw := hbw (by have := hv.1.1; omega)
  have E := Lib.hid (stv_t (xs := xs) (ys := ys) (a := x) ⟨hv, hx, hne⟩)
  obtain ⟨low, hlow⟩ : ∃ v, nth ys 0 = v := ⟨_, rfl⟩
  obtain ⟨high, hhigh⟩ : ∃ v, nth ys (n2 - 1) = v := ⟨_, rfl⟩
  obtain ⟨F1, hF1⟩ : ∃ v, fw xs x low = v := ⟨_, rfl⟩
  obtain ⟨F2, hF2⟩ : ∃ v, fw xs x high = v := ⟨_, rfl⟩
  obtain ⟨f, hf⟩ : ∃ f, fdB xs x ys = f := ⟨_, rfl⟩
  have hfe : f = tr (low < x ∧ (high ≤ x ∨ F1 ≤ F2)) := by rw [← hf, ← hF1, ← hF2, ← hlow, ← hhigh, ← HL.out]; rfl
  rw [hf] at E
  have K1 := fun w' (h : Ints w' b off xs) => sFloorWay_c b off cap xs x low w' h hmm
  have K2 := fun w' (h : Ints w' b off xs) => sFloorWay_c b off cap xs x high w' h hmm
  rw [hF1] at K1
  rw [hF2] at K2
  have HK1 := Lib.hid K1
  have HK2 := Lib.hid K2
  have HFE := Lib.hid hfe
  have HV := Lib.hid hv
  have HLO := Lib.hid hlow
  have HHI := Lib.hid hhigh
  clear K1 K2 hlow hhigh hF1 hF2 hf hfe hv hx hn hs hne
  refine at_base fun wn hwn => ?_
  have T := Lib.hid (show Below w.heap.size w wn from by rw [hwn]; exact Below.refl _ _)
  rw [← hwn] at hc
  have X := Lib.hid (show Ints wn b off xs from hc)
  clear hc
  rw [← hwn] at hI
  have Y := Lib.hid (show Ints wn b2 o2 ys from hI)
  clear hI
  clear hwn
  obtain ⟨g, hg⟩ : ∃ g, Array.size (World.heap wn) = g := ⟨_, rfl⟩
  have HGg := Lib.hid hg
  have hTg : w.heap.size ≤ g := by rw [← hg]; exact T.out.size
  have Tn := Lib.hid (show Below w.heap.size w ((wn.alloc (.cells #[] 3)).alloc (.cells #[] 3)) from (Below.al (Below.al T.out (.cells #[] 3)) (.cells #[] 3)))
  have Xn := Lib.hid (Ints.below X.out (show Below wn.heap.size wn ((wn.alloc (.cells #[] 3)).alloc (.cells #[] 3)) from (Below.al (Below.al (Below.refl _ _) (.cells #[] 3)) (.cells #[] 3))))
  have Yn := Lib.hid (Ints.below Y.out (show Below wn.heap.size wn ((wn.alloc (.cells #[] 3)).alloc (.cells #[] 3)) from (Below.al (Below.al (Below.refl _ _) (.cells #[] 3)) (.cells #[] 3))))
  have U := Lib.hid (show Own ((wn.alloc (.cells #[] 3)).alloc (.cells #[] 3)) g (.slice (some ⟨g, 0, none⟩) 0 0) [] from by have h9 := (Own.al (Own.none (w := wn)) (.cells #[] 3)); simp only [World.size_alloc, hg, Nat.add_assoc, Nat.reduceAdd] at h9; exact h9)
  have D := Lib.hid (show Own ((wn.alloc (.cells #[] 3)).alloc (.cells #[] 3)) (g + 1) (.slice (some ⟨(g + 1), 0, none⟩) 0 0) [] from by have h9 := (Own.none (w := (wn.alloc (.cells #[] 3)))); simp only [World.size_alloc, hg, Nat.add_assoc, Nat.reduceAdd] at h9; exact h9)
  have HZg := Lib.hid (show (((wn.alloc (.cells #[] 3)).alloc (.cells #[] 3))).heap.size = g + 2 from by simp only [World.size_alloc, hg, Nat.add_assoc, Nat.reduceAdd])
  clear hg
  clear T X Y
  have T := Tn
  have X := Xn
  have Y := Yn
  clear Tn Xn Yn
  go_enter Try.func67, Try.ntmps67
  have NU := Lib.hid (show (Value.slice (some ⟨g, 0, none⟩) 0 0) ≠ .slice none 0 0 from by simp)
  have ND := Lib.hid (show (Value.slice (some ⟨g + 1, 0, none⟩) 0 0) ≠ .slice none 0 0 from by simp)
  have AP := Lib.hid (show Apart (Value.slice (some ⟨g + 1, 0, none⟩) 0 0) (Value.slice (some ⟨g, 0, none⟩) 0 0) from fun i j hi hj => by simp [Value.ownBlock] at hi hj; omega)
  have D0 := Lib.hid (own_mono (A := g) D.out (by omega))
  clear D
  have D := D0
  clear D0
  go_wp2_with fail
  rw [HGg.out]
  refine Calls.mono (sVisitsOk_t b off cap xs _ n2 c2 ys _ X.out (.inr ⟨b2, o2, rfl, Y.out⟩) HL.out hm hm2 HV.out) ?_
  intro e wn hh
  obtain ⟨he, hb⟩ := (by first | exact hh | exact Ro.mk hh | exact St.mk hh | exact LawOk.mk' hh : Mk _ _ e wn)
  subst he
  have Tn : Hid (Below w.heap.size w wn) := below_next T.out hb
  have Xn : Hid _ := Ints.below X.out hb
  have Yn : Hid _ := Ints.below Y.out hb
  have Un : Hid _ := Own.below U.out hb
  have Dn : Hid _ := Own.below D.out hb
  clear hb hh
  clear T X Y U D
  have T := Tn
  have X := Xn
  have Y := Yn
  have U := Un
  have D := Dn
  clear Tn Xn Yn Un Dn
  go_wp2_with fail
  refine Calls.mono (l1In_c _ _ _ _) ?_
  intro e wn hh
  obtain ⟨he, hb⟩ := (by first | exact hh | exact Ro.mk hh | exact St.mk hh | exact LawOk.mk' hh : Mk _ _ e wn)
  subst he
  have Tn : Hid (Below w.heap.size w wn) := below_next T.out hb
  have Xn : Hid _ := Ints.below X.out hb
  have Yn : Hid _ := Ints.below Y.out hb
  have Un : Hid _ := Own.below U.out hb
  have Dn : Hid _ := Own.below D.out hb
  clear hb hh
  clear T X Y U D
  have T := Tn
  have X := Xn
  have Y := Yn
  have U := Un
  have D := Dn
  clear Tn Xn Yn Un Dn
  have y0 : wn.cell? ⟨b2, o2, none⟩ = some (.int .i64 low) := by have := Y.out 0 (by rw [HL.out]; exact hp0); rw [HLO.out] at this; exact this
  have y1 : wn.cell? ⟨b2, o2 + (n2 - 1), none⟩ = some (.int .i64 high) := by have := Y.out (n2 - 1) (by rw [HL.out]; exact hp1); rw [HHI.out] at this; exact this
  go_upto_region 7 with fail
  go_cut [11] from 43 to 61 (fun v wx => v = .bool f ∧ Below w.heap.size w wx ∧ Ints wx b off xs ∧ Ints wx b2 o2 ys ∧ Own wx g (.slice (some ⟨g, 0, none⟩) 0 0) [] ∧ Own wx g (.slice (some ⟨g + 1, 0, none⟩) 0 0) [])
  case first =>
    clear y0 y1
    by_cases g1 : low < x
    case neg =>
      obtain rfl : f = false := by rw [HFE.out]; exact tr_false (fun h => g1 h.1)
      go_wp2_with fail
      go_meet
      case rel => exact ⟨rfl, T.out, X.out, Y.out, U.out, D.out⟩
    by_cases g2 : high ≤ x
    case pos =>
      obtain rfl : f = true := by rw [HFE.out]; exact tr_true ⟨g1, .inl g2⟩
      go_wp2_with fail
      go_meet
      case rel => exact ⟨rfl, T.out, X.out, Y.out, U.out, D.out⟩
    go_wp2_with fail
    refine Calls.mono (HK1.out _ X.out) ?_
    intro e wn hh
    obtain ⟨he, hb⟩ := (by first | exact hh | exact Ro.mk hh | exact St.mk hh | exact LawOk.mk' hh : Mk _ _ e wn)
    subst he
    have Tn : Hid (Below w.heap.size w wn) := below_next T.out hb
    have Xn : Hid _ := Ints.below X.out hb
    have Yn : Hid _ := Ints.below Y.out hb
    have Un : Hid _ := Own.below U.out hb
    have Dn : Hid _ := Own.below D.out hb
    clear hb hh
    clear T X Y U D
    have T := Tn
    have X := Xn
    have Y := Yn
    have U := Un
    have D := Dn
    clear Tn Xn Yn Un Dn
    go_wp2_with fail
    refine Calls.mono (HK2.out _ X.out) ?_
    intro e wn hh
    obtain ⟨he, hb⟩ := (by first | exact hh | exact Ro.mk hh | exact St.mk hh | exact LawOk.mk' hh : Mk _ _ e wn)
    subst he
    have Tn : Hid (Below w.heap.size w wn) := below_next T.out hb
    have Xn : Hid _ := Ints.below X.out hb
    have Yn : Hid _ := Ints.below Y.out hb
    have Un : Hid _ := Own.below U.out hb
    have Dn : Hid _ := Own.below D.out hb
    clear hb hh
    clear T X Y U D
    have T := Tn
    have X := Xn
    have Y := Yn
    have U := Un
    have D := Dn
    clear Tn Xn Yn Un Dn
    by_cases g3 : F1 ≤ F2
    · obtain rfl : f = true := by rw [HFE.out]; exact tr_true ⟨g1, .inr g3⟩
      go_wp2_with fail
      go_meet
      case rel => exact ⟨rfl, T.out, X.out, Y.out, U.out, D.out⟩
    · obtain rfl : f = false := by rw [HFE.out]; exact tr_false (fun h => by omega)
      go_wp2_with fail
      go_meet
      case rel => exact ⟨(congrArg Value.bool (decide_eq_false (by omega))), T.out, X.out, Y.out, U.out, D.out⟩
  case' rest =>
    clear T X Y U D
    obtain ⟨rfl, h9T, h9X, h9Y, h9U, h9D⟩ := hcut
    obtain ⟨wn, hwq⟩ : ∃ w0 : World, w0 = wc := ⟨_, rfl⟩
    rw [← hwq] at h9T h9X h9Y h9U h9D ⊢
    clear hwq
    have T := Lib.hid h9T
    have X := Lib.hid h9X
    have Y := Lib.hid h9Y
    have U := Lib.hid h9U
    have D := Lib.hid h9D
    clear h9T h9X h9Y h9U h9D
    clear y0 y1
    go_wp2_with fail
    have hgB : w.heap.size ≤ g := hTg
    have hbB : b < g := by omega
    have hb2B : b2 < g := by omega
    go_loopw [7, 8, 12] (fun vu vd vk wr => ∃ (k : Nat) (pu pd : Value) (UL DL : List Int), vu = pu ∧ vd = pd ∧ k ≤ n2 ∧ vk = .int .i64 k ∧ (UL = tup x f (ys.take k) ∧ DL = tdn x f (ys.take k)) ∧ pu ≠ .slice none 0 0 ∧ pd ≠ .slice none 0 0 ∧ Apart pd pu ∧ Below w.heap.size w wr ∧ Ints wr b off xs ∧ Ints wr b2 o2 ys ∧ Own wr g pu UL ∧ Own wr g pd DL) (fun vu vd vk _ => n2 - (intOf vk).toNat)
    case atStart => exact ⟨0, _, _, [], [], rfl, rfl, by omega, rfl, ⟨rfl, rfl⟩, NU.out, ND.out, AP.out, T.out, X.out, Y.out, U.out, D.out⟩
    case' round =>
      clear T X Y U D
      obtain ⟨k, pu, pd, UL, DL, rfl, rfl, hk, rfl, hE, hnu, hnd, hap, h9T, h9X, h9Y, h9U, h9D⟩ := hrel
      obtain ⟨wn, hwq⟩ : ∃ w0 : World, w0 = wr := ⟨_, rfl⟩
      rw [← hwq] at h9T h9X h9Y h9U h9D ⊢
      clear hwq
      have T := Lib.hid h9T
      have X := Lib.hid h9X
      have Y := Lib.hid h9Y
      have U := Lib.hid h9U
      have D := Lib.hid h9D
      clear h9T h9X h9Y h9U h9D
      have HE := Lib.hid hE
      have hul : UL.length ≤ k := by rw [hE.1]; exact Nat.le_trans (tup_len _ _ _) (by simp; omega)
      have hdl : DL.length ≤ k := by rw [hE.2]; exact Nat.le_trans (tdn_len _ _ _) (by simp; omega)
      clear NU ND AP hE
      have NU := Lib.hid hnu
      have ND := Lib.hid hnd
      have AP := Lib.hid hap
      clear hnu hnd hap
      by_cases hlt : k < n2
      case neg =>
        obtain rfl : k = n2 := by omega
        have hul2 : UL = tup x f ys := by rw [HE.out.1, List.take_of_length_le (by rw [HL.out]; exact Nat.le_refl _)]
        have hdl2 : DL = tdn x f ys := by rw [HE.out.2, List.take_of_length_le (by rw [HL.out]; exact Nat.le_refl _)]
        have E2 := Lib.hid (show stv xs x ys = if f = true then DL ++ UL else UL ++ DL from by rw [E.out, hul2, hdl2]; rfl)
        clear hul2 hdl2 HE
        cases f
        case true =>
          have E3 := Lib.hid (show stv xs x ys = DL ++ UL from by have := E2.out; simpa using this)
          have hbase := Own.base D.out ND.out
          obtain ⟨bU, cU, rfl, -, -, hIU, -, -⟩ := Own.some U.out NU.out
          have IU := Lib.hid hIU
          clear hIU
          go_wp2_with ((at_builtin; refine wpList_append_wanted rfl _ _ 23 rfl g 3 i0 (.int .i64 0) 1 8 Try.underlying23 hi hz0 hz1 hz2 rfl (by decide) _ _ _ rfl D.out ⟨bU, 0, none⟩ UL.length cU (UL.map (Value.int .i64)) rfl (by simp) (Ints.cells IU.out) (by intro u hu; simp at hu; obtain ⟨a, _, rfl⟩ := hu; rfl) (by unfold maxLen; omega) (by omega) hbase ?_))
          intro v' w' hown hgrow hnil hat
          have O9 := Lib.hid (Own.app hown)
          have lt5 := Own.lt D.out
          have T9 := Lib.hid (Below.own T.out hgrow (fun i e => by have := lt5 i e; omega))
          clear hown hgrow hnil hat
          go_wp2_with fail
          go_ret
          exact ⟨_, rfl, by rw [E3.out]; exact own_mono O9.out hgB, T9.out⟩
        case false =>
          have E3 := Lib.hid (show stv xs x ys = UL ++ DL from by have := E2.out; simpa using this)
          have hbase := Own.base U.out NU.out
          obtain ⟨bD, cD, rfl, -, -, hID, -, -⟩ := Own.some D.out ND.out
          have ID := Lib.hid hID
          clear hID
          go_wp2_with ((at_builtin; refine wpList_append_wanted rfl _ _ 23 rfl g 3 i0 (.int .i64 0) 1 8 Try.underlying23 hi hz0 hz1 hz2 rfl (by decide) _ _ _ rfl U.out ⟨bD, 0, none⟩ DL.length cD (DL.map (Value.int .i64)) rfl (by simp) (Ints.cells ID.out) (by intro u hu; simp at hu; obtain ⟨a, _, rfl⟩ := hu; rfl) (by unfold maxLen; omega) (by omega) hbase ?_))
          intro v' w' hown hgrow hnil hat
          have O9 := Lib.hid (Own.app hown)
          have lt5 := Own.lt U.out
          have T9 := Lib.hid (Below.own T.out hgrow (fun i e => by have := lt5 i e; omega))
          clear hown hgrow hnil hat
          go_wp2_with fail
          go_ret
          exact ⟨_, rfl, by rw [E3.out]; exact own_mono O9.out hgB, T9.out⟩
      have hlen : k < ys.length := by rw [HL.out]; exact hlt
      obtain ⟨v, hv⟩ : ∃ v, nth ys k = v := ⟨_, rfl⟩
      have htk : ys.take (k + 1) = ys.take k ++ [v] := by rw [List.take_add_one, List.getElem?_eq_getElem hlen, ← hv, nth_eq hlen]; rfl
      have y1 := Y.out k hlen
      rw [hv] at y1
      have hki : (k : Int) < n2 := by omega
      have HVK := Lib.hid hv
      have HTK := Lib.hid htk
      clear hv htk hlen
      by_cases hp : pd x f v = true
      case neg =>
        have hpf : pd x f v = false := by simpa using hp
        have HE2 := Lib.hid (show UL ++ [v] = tup x f (ys.take (k + 1)) ∧ DL = tdn x f (ys.take (k + 1)) from by rw [HTK.out, tup_f hpf, tdn_f hpf, ← HE.out.1, ← HE.out.2]; exact ⟨rfl, rfl⟩)
        have q1 : ¬ v < x := fun h => by unfold pd at hpf; simp [h] at hpf
        have q2 : v = x → f = false := fun h => by unfold pd at hpf; simpa [h] using hpf
        clear hp hpf HE
        by_cases q3 : v = x
        · obtain rfl := q2 q3
          have q4 : (v == x) = true := by simp [q3]
          clear q3 q2
          have hvb : True := trivial
          go_wp2_with ((at_builtin; refine wpList_append_wanted rfl _ _ 23 rfl g 3 i0 (.int .i64 0) 1 8 Try.underlying23 hi hz0 hz1 hz2 rfl (by decide) _ _ _ rfl (Own.alloc U.out _) _ 1 1 [.int .i64 (v)] rfl rfl (cell_one_new _ _ _) (by intro u hu; simp at hu; subst hu; rfl) (by unfold maxLen; omega) (by omega) (Own.base (Own.alloc U.out _) NU.out) ?_))
          intro pu2 wn hown hgrow hnil hat
          have lt5 := Own.lt U.out
          have Un : Hid (Own wn g pu2 (UL ++ [v])) := Own.snoc hown
          have NUn : Hid (pu2 ≠ .slice none 0 0) := (by first | exact hnil | exact fun e => absurd (hnil.1 e).2 (by simp) | exact fun e => absurd (hnil.1 e).1 (by simp))
          have Tn : Hid (Below w.heap.size w _) := Below.own (Below.al T.out _) hgrow (fun i e => by have := lt5 i e; omega)
          have Xn : Hid _ := Ints.gr (Ints.al X.out _) hgrow (fun i e h0 => by have := lt5 i e; omega)
          have Yn : Hid _ := Ints.gr (Ints.al Y.out _) hgrow (fun i e h0 => by have := lt5 i e; omega)
          have Dn : Hid _ := Own.apart (Own.alloc D.out _) AP.out hgrow
          have APn : Hid (Apart _ pu2) := (by first | exact Apart.grown1 D.out AP.out hat | exact Apart.grown (Own.alloc D.out _) AP.out hat)
          clear hown hgrow lt5 hnil hat
          clear U NU T X Y D AP
          have U := Un
          have NU := NUn
          have T := Tn
          have X := Xn
          have Y := Yn
          have D := Dn
          have AP := APn
          clear Un NUn Tn Xn Yn Dn APn
          go_wp2_with fail
          go_roundw
          case rel => exact ⟨k + 1, pu2, u8, UL ++ [v], DL, rfl, rfl, by omega, by go_num, HE2.out, NU.out, ND.out, AP.out, T.out, X.out, Y.out, U.out, D.out⟩
          case measure => first | (simp [intOf]; done) | (simp [intOf]; omega) | omega
        · have q4 : (v == x) = false := by simp [q3]
          clear q3 q2
          go_wp2_with ((at_builtin; refine wpList_append_wanted rfl _ _ 23 rfl g 3 i0 (.int .i64 0) 1 8 Try.underlying23 hi hz0 hz1 hz2 rfl (by decide) _ _ _ rfl (Own.alloc U.out _) _ 1 1 [.int .i64 (v)] rfl rfl (cell_one_new _ _ _) (by intro u hu; simp at hu; subst hu; rfl) (by unfold maxLen; omega) (by omega) (Own.base (Own.alloc U.out _) NU.out) ?_))
          intro pu2 wn hown hgrow hnil hat
          have lt5 := Own.lt U.out
          have Un : Hid (Own wn g pu2 (UL ++ [v])) := Own.snoc hown
          have NUn : Hid (pu2 ≠ .slice none 0 0) := (by first | exact hnil | exact fun e => absurd (hnil.1 e).2 (by simp) | exact fun e => absurd (hnil.1 e).1 (by simp))
          have Tn : Hid (Below w.heap.size w _) := Below.own (Below.al T.out _) hgrow (fun i e => by have := lt5 i e; omega)
          have Xn : Hid _ := Ints.gr (Ints.al X.out _) hgrow (fun i e h0 => by have := lt5 i e; omega)
          have Yn : Hid _ := Ints.gr (Ints.al Y.out _) hgrow (fun i e h0 => by have := lt5 i e; omega)
          have Dn : Hid _ := Own.apart (Own.alloc D.out _) AP.out hgrow
          have APn : Hid (Apart _ pu2) := (by first | exact Apart.grown1 D.out AP.out hat | exact Apart.grown (Own.alloc D.out _) AP.out hat)
          clear hown hgrow lt5 hnil hat
          clear U NU T X Y D AP
          have U := Un
          have NU := NUn
          have T := Tn
          have X := Xn
          have Y := Yn
          have D := Dn
          have AP := APn
          clear Un NUn Tn Xn Yn Dn APn
          go_wp2_with fail
          go_roundw
          case rel => exact ⟨k + 1, pu2, u8, UL ++ [v], DL, rfl, rfl, by omega, by go_num, HE2.out, NU.out, ND.out, AP.out, T.out, X.out, Y.out, U.out, D.out⟩
          case measure => first | (simp [intOf]; done) | (simp [intOf]; omega) | omega
      have HE2 := Lib.hid (show UL = tup x f (ys.take (k + 1)) ∧ v :: DL = tdn x f (ys.take (k + 1)) from by rw [HTK.out, tup_t hp, tdn_t hp, ← HE.out.1, ← HE.out.2]; exact ⟨rfl, rfl⟩)
      have q1 : v < x ∨ (¬ v < x ∧ v = x ∧ f = true) := by
        unfold pd at hp
        rcases of_decide_eq_true hp with hp | ⟨hp1, hp2⟩
        · exact .inl hp
        · exact .inr ⟨by omega, hp1, hp2⟩
      clear hp HE
      obtain ⟨bD, cD, rfl, -, hbDlt, hID, -, -⟩ := Own.some D.out ND.out
      have I0 := Lib.hid (show Ints (wn.alloc (.cells #[.int .i64 v] 3)) bD 0 DL from Ints.al hID _)
      obtain ⟨H, hH⟩ : ∃ H, wn.heap.size = H := ⟨_, rfl⟩
      have HH := Lib.hid hH
      have hTH : w.heap.size ≤ H := by rw [← hH]; exact T.out.size
      have hgH : g ≤ H := by have := Own.base U.out NU.out; omega
      have ON := Lib.hid (Own.new (w := wn) v)
      have Xn := Lib.hid (Ints.al X.out (.cells #[.int .i64 v] 3))
      have Yn := Lib.hid (Ints.al Y.out (.cells #[.int .i64 v] 3))
      have Un := Lib.hid (Own.al U.out (.cells #[.int .i64 v] 3))
      have Tn := Lib.hid (Below.al T.out (.cells #[.int .i64 v] 3))
      have hsz : (wn.alloc (.cells #[.int .i64 v] 3)).heap.size = H + 1 := by rw [World.size_alloc, hH]
      have HSZ := Lib.hid hsz
      have UA := Lib.hid (show ∀ q, u7.ownBlock = some q → q < H from fun q hq => by have := (own_lt2 U.out q hq).2; omega)
      clear hID hH hsz X Y U T D
      rcases q1 with q1 | ⟨q1, q2, rfl⟩
      · skip
        go_wp2_with ((at_builtin; refine wpList_append_wanted rfl _ _ 23 rfl (World.heap wn).size 3 i0 (.int .i64 0) 1 8 Try.underlying23 hi hz0 hz1 hz2 rfl (by decide) _ _ _ rfl ON.out ⟨bD, 0, none⟩ DL.length cD (DL.map (Value.int .i64)) rfl (by simp) (Ints.cells I0.out) (by intro u hu; simp at hu; obtain ⟨a, _, rfl⟩ := hu; rfl) (by simp only [List.length_cons, List.length_nil]; unfold maxLen; omega) (by simp only [List.length_cons, List.length_nil]; omega) (by rw [World.size_alloc]; omega) ?_))
        intro pd2 w2 hown hgrow hnil hat
        have O9 := Lib.hid (show Own w2 H pd2 (v :: DL) from by
          have : w2.ownsRow (World.heap wn).size 3 1 pd2 (([v] : List Int).length + DL.length) (([v] : List Int).map (Value.int .i64) ++ DL.map (Value.int .i64)) := hown
          rw [HH.out] at this
          exact Own.app this)
        have hg2 : (wn.alloc (.cells #[.int .i64 v] 3)).grownBy w2 (some H) := by first | exact hgrow | (have h9 := hgrow; rw [HH.out] at h9; exact h9)
        have X := Lib.hid (Ints.gr Xn.out hg2 (fun i e _ => by cases e; omega))
        have Y := Lib.hid (Ints.gr Yn.out hg2 (fun i e _ => by cases e; omega))
        have U := Lib.hid (own_block Un.out (fun q hq => hg2.block q (own_lt2 Un.out q hq).2 (fun e => by cases e; have := UA.out _ hq; omega)))
        have T := Lib.hid (Below.own Tn.out hg2 (fun i e => by cases e; omega))
        have D := Lib.hid (own_mono (A := g) O9.out hgH)
        have ND := Lib.hid (show pd2 ≠ .slice none 0 0 from hnil)
        have AP := Lib.hid (show Apart pd2 u7 from fun i j hi hj => by have := Own.lt O9.out i hi; have := UA.out j hj; omega)
        clear hown hgrow hnil hat hg2
        go_wp2_with fail
        go_roundw
        case rel => exact ⟨k + 1, u7, pd2, UL, v :: DL, rfl, rfl, by omega, by go_num, HE2.out, NU.out, ND.out, AP.out, T.out, X.out, Y.out, U.out, D.out⟩
        case measure => first | (simp [intOf]; done) | (simp [intOf]; omega) | omega
      · have q4 : (v == x) = true := by simp [q2]
        clear q2
        go_wp2_with ((at_builtin; refine wpList_append_wanted rfl _ _ 23 rfl (World.heap wn).size 3 i0 (.int .i64 0) 1 8 Try.underlying23 hi hz0 hz1 hz2 rfl (by decide) _ _ _ rfl ON.out ⟨bD, 0, none⟩ DL.length cD (DL.map (Value.int .i64)) rfl (by simp) (Ints.cells I0.out) (by intro u hu; simp at hu; obtain ⟨a, _, rfl⟩ := hu; rfl) (by simp only [List.length_cons, List.length_nil]; unfold maxLen; omega) (by simp only [List.length_cons, List.length_nil]; omega) (by rw [World.size_alloc]; omega) ?_))
        intro pd2 w2 hown hgrow hnil hat
        have O9 := Lib.hid (show Own w2 H pd2 (v :: DL) from by
          have : w2.ownsRow (World.heap wn).size 3 1 pd2 (([v] : List Int).length + DL.length) (([v] : List Int).map (Value.int .i64) ++ DL.map (Value.int .i64)) := hown
          rw [HH.out] at this
          exact Own.app this)
        have hg2 : (wn.alloc (.cells #[.int .i64 v] 3)).grownBy w2 (some H) := by first | exact hgrow | (have h9 := hgrow; rw [HH.out] at h9; exact h9)
        have X := Lib.hid (Ints.gr Xn.out hg2 (fun i e _ => by cases e; omega))
        have Y := Lib.hid (Ints.gr Yn.out hg2 (fun i e _ => by cases e; omega))
        have U := Lib.hid (own_block Un.out (fun q hq => hg2.block q (own_lt2 Un.out q hq).2 (fun e => by cases e; have := UA.out _ hq; omega)))
        have T := Lib.hid (Below.own Tn.out hg2 (fun i e => by cases e; omega))
        have D := Lib.hid (own_mono (A := g) O9.out hgH)
        have ND := Lib.hid (show pd2 ≠ .slice none 0 0 from hnil)
        have AP := Lib.hid (show Apart pd2 u7 from fun i j hi hj => by have := Own.lt O9.out i hi; have := UA.out j hj; omega)
        clear hown hgrow hnil hat hg2
        go_wp2_with fail
        go_roundw
        case rel => exact ⟨k + 1, u7, pd2, UL, v :: DL, rfl, rfl, by omega, by go_num, HE2.out, NU.out, ND.out, AP.out, T.out, X.out, Y.out, U.out, D.out⟩
        case measure => first | (simp [intOf]; done) | (simp [intOf]; omega) | omega
set_option maxHeartbeats 2000000 in
theorem sShortWay_c (b off cap : Nat) (xs : List Int) (x : Int) (a2 : Option Addr) (n2 c2 : Nat) (ys : List Int) (w : World) (hc : Ints w b off xs) (hs : Sl w a2 ys) (hl : ys.length = n2) (hm : xs.length ≤ 1048576) (hm2 : n2 ≤ 1048577) :
    Calls Try.prog 50 #[.slice (some ⟨b, off, none⟩) xs.length cap, .int .i64 x, .slice a2 n2 c2] w (Mk w (.int .i64 (swv xs x ys))) := by
  have HL := Lib.hid hl
  clear hl
  refine at_base fun wn hwn => ?_
  have T := Lib.hid (show Below w.heap.size w wn from by rw [hwn]; exact Below.refl _ _)
  rw [← hwn] at hc
  have X := Lib.hid (show Ints wn b off xs from hc)
  clear hc
  rw [← hwn] at hs
  have Y := Lib.hid (show Sl wn a2 ys from hs)
  clear hs
  clear hwn
  by_cases hv : VO xs ys
  case neg =>
    have E := Lib.hid (swv_bad (xs := xs) (ys := ys) (a := x) (fun h => hv h.1))
    have HV := Lib.hid hv
    clear hv
    go_enter Try.func50, Try.ntmps50
    go_wp2_with fail
    refine Calls.mono (sVisitsOk_f b off cap xs a2 n2 c2 ys _ X.out Y.out HL.out hm hm2 HV.out) ?_
    intro e wn hh
    obtain ⟨he, hb⟩ := (by first | exact hh | exact Ro.mk hh | exact St.mk hh | exact LawOk.mk' hh : Mk _ _ e wn)
    subst he
    have Tn : Hid (Below w.heap.size w wn) := below_next T.out hb
    have Xn : Hid _ := Ints.below X.out hb
    have Yn : Hid _ := Sl.below Y.out hb
    clear hb hh
    clear T X Y
    have T := Tn
    have X := Xn
    have Y := Yn
    clear Tn Xn Yn
    go_wp2_with fail
    go_ret
    exact Mk.i E.out T.out
  have HV := Lib.hid hv
  have E := Lib.hid (show swv xs x ys = tw xs x (stv xs x ys) from by unfold swv; rw [if_pos hv])
  have hL8 := stv_len xs x ys
  obtain ⟨L, hL⟩ : ∃ L, stv xs x ys = L := ⟨_, rfl⟩
  have K := fun w' (h1 : Ints w' b off xs) (h2 : Sl w' a2 ys) => sShortTour_c b off cap xs x a2 n2 c2 ys w' h1 h2 HL.out hm hm2
  rw [hL] at K E hL8
  rw [HL.out] at hL8
  have HK := Lib.hid K
  clear hv K hL
  go_enter Try.func50, Try.ntmps50
  go_wp2_with fail
  refine Calls.mono (sVisitsOk_t b off cap xs a2 n2 c2 ys _ X.out Y.out HL.out hm hm2 HV.out) ?_
  intro e wn hh
  obtain ⟨he, hb⟩ := (by first | exact hh | exact Ro.mk hh | exact St.mk hh | exact LawOk.mk' hh : Mk _ _ e wn)
  subst he
  have Tn : Hid (Below w.heap.size w wn) := below_next T.out hb
  have Xn : Hid _ := Ints.below X.out hb
  have Yn : Hid _ := Sl.below Y.out hb
  clear hb hh
  clear T X Y
  have T := Tn
  have X := Xn
  have Y := Yn
  clear Tn Xn Yn
  go_wp2_with fail
  refine Calls.mono (HK.out _ X.out Y.out) ?_
  intro e wq hh
  obtain ⟨lo9, hi9, p9, u9, rfl, hlo9, hO, hb⟩ := NewI.get hh
  have R := Lib.hid (OwnI.rd hO)
  clear hO hh hlo9
  have Tn := Lib.hid (below_next T.out hb)
  have Xn := Lib.hid (Ints.below X.out hb)
  have Yn := Lib.hid (Sl.below Y.out hb)
  clear hb
  clear T X Y
  have T := Tn
  have X := Xn
  have Y := Yn
  clear Tn Xn Yn
  obtain ⟨wn, hwq⟩ : ∃ w0, w0 = wq := ⟨_, rfl⟩
  subst hwq
  go_wp2_with fail
  refine Calls.mono (sTourWay_c b off cap xs x p9 L.length u9 L _ X.out R.out rfl hm (by omega)) ?_
  intro e wn hh
  obtain ⟨he, hb⟩ := (by first | exact hh | exact Ro.mk hh | exact St.mk hh | exact LawOk.mk' hh : Mk _ _ e wn)
  subst he
  have Tn : Hid (Below w.heap.size w wn) := below_next T.out hb
  have Xn : Hid _ := Ints.below X.out hb
  have Yn : Hid _ := Sl.below Y.out hb
  clear hb hh
  clear T X Y
  have T := Tn
  have X := Xn
  have Y := Yn
  clear Tn Xn Yn
  go_wp2_with fail
  go_ret
  exact Mk.i E.out T.out
end Go.Proofs.Ytgiioponimiddaa
