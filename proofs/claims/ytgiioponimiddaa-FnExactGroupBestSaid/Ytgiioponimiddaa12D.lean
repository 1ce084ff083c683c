/- The model's l12Best and GroupBest. -/
import Derived.Test.Ytgiioponimiddaa12C
namespace Go.Proofs.Ytgiioponimiddaa
open Go.RowKit
set_option linter.unusedVariables false
set_option linter.unusedSimpArgs false
set_option maxRecDepth 100000

theorem lb_len (f : List Int → Int) (n : Nat) : ∀ (j : Nat) (gs : List Int), (lb f n j gs).length ≤ gs.length + j
  | 0, gs => by simp [lb]
  | j + 1, gs => by
    rw [lb_succ]
    have key : ∀ m, (lbU f n j gs m).length ≤ gs.length + (j + 1) := by
      intro m
      induction m with
      | zero => simp [lbU]
      | succ m ih =>
        have := lb_len f n j (gs ++ [(m : Int)])
        simp at this
        unfold lbU
        split <;> omega
    exact key n
theorem lbU_len (f : List Int → Int) (n j : Nat) (gs : List Int) : ∀ m, (lbU f n j gs m).length ≤ gs.length + (j + 1)
  | 0 => by simp [lbU]
  | m + 1 => by
    have h1 := lbU_len f n j gs m
    have := lb_len f n j (gs ++ [(m : Int)])
    simp at this
    unfold lbU
    split <;> omega
/-- What a function gives that makes a row, or hands one back that lies at B or beyond. -/
def NewB (w : World) (B : Nat) (L : List Int) (e : Ending) (w' : World) : Prop := ∃ v, e = .returned v ∧ Own w' B v L ∧ v ≠ .slice none 0 0 ∧ Below w.heap.size w w'
set_option maxHeartbeats 4000000 in
theorem sL12Best_c (b off cap : Nat) (xs : List Int) (a2 : Option Addr) (n2 c2 : Nat) (cs : List Int) (a3 : Option Addr) (n3 c3 : Nat) (ks : List Int) (hl : cs.length = n2) (hl3 : ks.length = n3) (hm : xs.length ≤ 1048576) (hm2 : n2 ≤ 1048577) (hm3 : n3 ≤ 1048577) :
    ∀ (j : Nat) (gs : List Int) (nG B bG cG : Nat) (w : World), Ints w b off xs → Sl w a2 cs → Sl w a3 ks → Own w B (.slice (some ⟨bG, 0, none⟩) nG cG) gs → gs.length = nG → nG + j = n3 →
      Calls Try.prog 53 #[.slice (some ⟨b, off, none⟩) xs.length cap, .slice a2 n2 c2, .slice a3 n3 c3, .slice (some ⟨bG, 0, none⟩) nG cG] w (NewB w B (lb (gsv xs cs ks) n2 j gs)) := by
  obtain ⟨i0, hi, hz0, hz1, hz2⟩ := info_parts infoInt
  have HL := Lib.hid hl
  have HL3 := Lib.hid hl3
  clear hl hl3
  intro j
  induction j with
  | zero =>
    intro gs nG B bG cG w hc hs hs3 hg hln hj
    have q1 : ((nG : Int) == (n3 : Int)) = true := by rw [show nG = n3 from by omega]; exact beq_self_eq_true _
    have HG := Lib.hid hg
    clear hg hln hj
    go_enter Try.func53, Try.ntmps53
    go_wp2_with fail
    go_ret
    exact ⟨_, rfl, HG.out, by simp, Below.refl _ _⟩
  | succ j ih =>
    intro gs nG B bG cG w hc hs hs3 hg hln hj
    have q1 : ((nG : Int) == (n3 : Int)) = false := beq_false_of_ne (by omega)
    have hBw := Own.base hg (by simp)
    obtain ⟨b', c', e', -, hbG, hIG, hlG, hmG⟩ := Own.some hg (by simp)
    simp only [Value.slice.injEq, Option.some.injEq, Addr.mk.injEq, and_true] at e'
    obtain ⟨rfl, -, rfl⟩ := e'
    have IH := Lib.hid ih
    have hbw := Ints.lt hc
    have HBY := Lib.hid (Sl.lt hs)
    have HBZ := Lib.hid (Sl.lt hs3)
    have HLN := Lib.hid hln
    have hgn : gs.length ≤ 1048577 := by omega
    rw [hln] at hlG
    clear ih hg
    refine at_base fun wn hwn => ?_
    have T := Lib.hid (show Below w.heap.size w wn from by rw [hwn]; exact Below.refl _ _)
    rw [← hwn] at hc
    have X := Lib.hid (show Ints wn b off xs from hc)
    clear hc
    rw [← hwn] at hs
    have Y := Lib.hid (show Sl wn a2 cs from hs)
    clear hs
    rw [← hwn] at hs3
    have Z := Lib.hid (show Sl wn a3 ks from hs3)
    clear hs3
    rw [← hwn] at hIG
    have I := Lib.hid (show Ints wn bG 0 gs from hIG)
    clear hIG
    clear hwn
    go_enter Try.func53, Try.ntmps53
    have hWH := T.out.size
    obtain ⟨H, hH⟩ : ∃ H, Array.size (World.heap wn) = H := ⟨_, rfl⟩
    have HH : Hid _ := hH
    rw [hH] at hWH
    have V : Hid (Own (wn.alloc (.cells #[] 3)) H (.slice (some ⟨H, 0, none⟩) 0 0) []) := by rw [← hH]; exact Own.none
    clear hH
    have Tn : Hid (Below w.heap.size w _) := Below.al T.out (.cells #[] 3)
    have Xn : Hid _ := Ints.below X.out ((Below.refl _ _).alloc (Nat.le_refl _) (.cells #[] 3))
    have Yn : Hid _ := Sl.below Y.out ((Below.refl _ _).alloc (Nat.le_refl _) (.cells #[] 3))
    have Zn : Hid _ := Sl.below Z.out ((Below.refl _ _).alloc (Nat.le_refl _) (.cells #[] 3))
    have In : Hid _ := Ints.below I.out ((Below.refl _ _).alloc (Nat.le_refl _) (.cells #[] 3))
    clear T X Y Z I
    have T := Tn
    have X := Xn
    have Y := Yn
    have Z := Zn
    have I := In
    clear Tn Xn Yn Zn In
    go_wp2_with fail
    rw [HH.out]
    have NV := Lib.hid (show (Value.slice (some ⟨H, 0, none⟩) 0 0) ≠ .slice none 0 0 from by simp)
    clear hln
    go_loopw [9, 10] (fun p u wr => ∃ (c : Nat) (pv : Value) (BL : List Int), p = pv ∧ c ≤ n2 ∧ u = .int .i64 c ∧ BL = lbU (gsv xs cs ks) n2 j gs c ∧ pv ≠ .slice none 0 0 ∧ Below w.heap.size w wr ∧ Ints wr b off xs ∧ Sl wr a2 cs ∧ Sl wr a3 ks ∧ Ints wr bG 0 gs ∧ Own wr H pv BL) (fun p u _ => n2 - (intOf u).toNat)
    case atStart => exact ⟨0, _, [], rfl, by omega, rfl, rfl, NV.out, T.out, X.out, Y.out, Z.out, I.out, V.out⟩
    case' round =>
      clear T X Y Z I V
      obtain ⟨c, pv, BL, rfl, hcn, rfl, hBL, hNV, h9T, h9X, h9Y, h9Z, h9I, h9V⟩ := hrel
      obtain ⟨wn, hwq⟩ : ∃ w0 : World, w0 = wr := ⟨_, rfl⟩
      rw [← hwq] at h9T h9X h9Y h9Z h9I h9V ⊢
      clear hwq
      have T := Lib.hid h9T
      have X := Lib.hid h9X
      have Y := Lib.hid h9Y
      have Z := Lib.hid h9Z
      have I := Lib.hid h9I
      have V := Lib.hid h9V
      clear h9T h9X h9Y h9Z h9I h9V
      have hbl : BL.length ≤ 1048577 := by rw [hBL]; have := lbU_len (gsv xs cs ks) n2 j gs c; have := HLN.out; omega
      have HBL := Lib.hid hBL
      clear NV hBL
      have NV := Lib.hid hNV
      clear hNV
      by_cases hlt : c < n2
      case neg =>
        obtain rfl : c = n2 := by omega
        go_wp2_with fail
        go_ret
        exact ⟨_, rfl, by rw [lb_succ, ← HBL.out]; exact own_mono V.out (by omega), NV.out, T.out⟩
      have hci : (c : Int) < n2 := by omega
      obtain ⟨W0, hW0⟩ : ∃ W0, W0 = wn := ⟨_, rfl⟩
      subst hW0
      have hWW := T.out.size
      have TW := Lib.hid T.out
      have XW := Lib.hid X.out
      have YW := Lib.hid Y.out
      have ZW := Lib.hid Z.out
      have IW := Lib.hid I.out
      have VW := Lib.hid V.out
      have hHW := Own.base V.out NV.out
      clear T X Y Z I V
      obtain ⟨wn, hwn⟩ : ∃ w9, w9 = W0 := ⟨_, rfl⟩
      rw [← hwn]
      have T := Lib.hid (show Below W0.heap.size W0 wn from by rw [hwn]; exact Below.refl _ _)
      have X := Lib.hid (show Ints wn b off xs from by rw [hwn]; exact XW.out)
      have Y := Lib.hid (show Sl wn a2 cs from by rw [hwn]; exact YW.out)
      have Z := Lib.hid (show Sl wn a3 ks from by rw [hwn]; exact ZW.out)
      have I := Lib.hid (show Ints wn bG 0 gs from by rw [hwn]; exact IW.out)
      clear hwn
      obtain rfl := HLN.out
      have O0 : Hid _ := Own.none (w := wn)
      have X0 : Hid (Ints (wn.alloc (.cells #[] 3)) bG 0 gs) := Ints.al I.out _
      have hWH2 := T.out.size
      have hltX := Ints.lt X.out
      have hltY := 0
      have hltZ := 0
      have hltI := Ints.lt I.out
      go_wp2_with ((at_builtin; refine wpList_append_wanted rfl _ _ 23 rfl (World.heap wn).size 3 i0 (.int .i64 0) 1 8 Try.underlying23 hi hz0 hz1 hz2 rfl (by decide) _ _ _ rfl O0.out ⟨bG, 0, none⟩ gs.length cG (gs.map (Value.int .i64)) rfl (by simp) (Ints.cells X0.out) (by intro u hu; simp at hu; obtain ⟨a, _, rfl⟩ := hu; rfl) (by first | (unfold maxLen; simp; omega) | (simp; omega)) (by simp; omega) (by simp) ?_))
      intro v1 wp hown hgrow hnil hat
      obtain ⟨H2, hB⟩ : ∃ H2, (World.heap wn).size = H2 := ⟨_, rfl⟩
      have lt5 : ∀ i, (Value.slice (some ⟨(World.heap wn).size, 0, none⟩) 0 0).ownBlock = some i → H2 ≤ i := fun i e => by rw [← hB]; exact Own.lt O0.out i e
      rw [hB] at hown hWH2 hltX hltI
      have HH2 : Hid _ := hB
      have O : Hid (Own wp H2 v1 gs) := (by first | exact hown | exact Own.app0 hown)
      have N : Hid (v1 ≠ .slice none 0 0) := (by first | exact hnil | exact fun e => absurd (hnil.1 e).2 (by simp) | exact fun e => absurd (hnil.1 e).1 (by simp))
      have Tn : Hid (Below W0.heap.size W0 wp) := Below.own (Below.al T.out _) hgrow (fun i e => by have := lt5 i e; omega)
      have Xn : Hid _ := Ints.gr (Ints.al X.out _) hgrow (fun i e h0 => by have := lt5 i e; omega)
      have Yn : Hid _ := Sl.gr (Sl.al Y.out _) hgrow HBY.out (fun i e => by have := lt5 i e; omega)
      have Zn : Hid _ := Sl.gr (Sl.al Z.out _) hgrow HBZ.out (fun i e => by have := lt5 i e; omega)
      have In : Hid _ := Ints.gr (Ints.al I.out _) hgrow (fun i e h0 => by have := lt5 i e; omega)
      clear hown hgrow lt5 hnil hat hB O0 X0
      clear T X Y Z I
      have T := Tn
      have X := Xn
      have Y := Yn
      have Z := Zn
      have I := In
      clear Tn Xn Yn Zn In
      obtain ⟨wn, hwq⟩ : ∃ w0, w0 = wp := ⟨_, rfl⟩
      subst hwq
      have hbB : 0 < xs.length → b < H2 := hltX
      have hgB : 0 < gs.length → bG < H2 := hltI
      go_wp2_with ((at_builtin; refine wpList_append_wanted rfl _ _ 23 rfl H2 3 i0 (.int .i64 0) 1 8 Try.underlying23 hi hz0 hz1 hz2 rfl (by decide) _ _ _ rfl (Own.alloc O.out _) _ 1 1 [.int .i64 ((c : Int))] rfl rfl (cell_one_new _ _ _) (by intro u hu; simp at hu; subst hu; rfl) (by unfold maxLen; omega) (by omega) (Own.base (Own.alloc O.out _) N.out) ?_))
      intro v2 wn hown hgrow hnil hat
      have lt5 := Own.lt O.out
      have On : Hid (Own wn H2 v2 (gs ++ [(c : Int)])) := Own.snoc hown
      have Nn : Hid (v2 ≠ .slice none 0 0) := (by first | exact hnil | exact fun e => absurd (hnil.1 e).2 (by simp) | exact fun e => absurd (hnil.1 e).1 (by simp))
      have Tn : Hid (Below W0.heap.size W0 _) := Below.own (Below.al T.out _) hgrow (fun i e => by have := lt5 i e; omega)
      have Xn : Hid _ := Ints.gr (Ints.al X.out _) hgrow (fun i e h0 => by have := lt5 i e; omega)
      have Yn : Hid _ := Sl.gr (Sl.al Y.out _) hgrow HBY.out (fun i e => by have := lt5 i e; omega)
      have Zn : Hid _ := Sl.gr (Sl.al Z.out _) hgrow HBZ.out (fun i e => by have := lt5 i e; omega)
      have In : Hid _ := Ints.gr (Ints.al I.out _) hgrow (fun i e h0 => by have := lt5 i e; omega)
      clear hown hgrow lt5 hnil hat
      clear O N T X Y Z I
      have O := On
      have N := Nn
      have T := Tn
      have X := Xn
      have Y := Yn
      have Z := Zn
      have I := In
      clear On Nn Tn Xn Yn Zn In
      have e5 : (gs ++ [(c : Int)]).length = gs.length + 1 := by simp
      obtain ⟨b5, c5, h5, -, -, -, -, -⟩ := Own.some O.out N.out
      rw [e5] at h5
      subst h5
      clear e5
      obtain ⟨L, hL⟩ : ∃ L, lb (gsv xs cs ks) n2 j (gs ++ [(c : Int)]) = L := ⟨_, rfl⟩
      have hLl : L.length ≤ 1048577 := by rw [← hL]; have := lb_len (gsv xs cs ks) n2 j (gs ++ [(c : Int)]); simp at this; omega
      have K := IH.out (gs ++ [(c : Int)]) (gs.length + 1) H2 b5 c5 _ X.out Y.out Z.out O.out (by simp) (by omega)
      rw [hL] at K
      have HK := Lib.hid K
      have HLL := Lib.hid hL
      clear K hL
      go_wp2_with fail
      refine Calls.mono HK.out ?_
      rintro e wq ⟨v3, rfl, hO3, hN3, hb3⟩
      have hb2 := below_next T.out hb3
      have O3 := Lib.hid (own_mono (A := H) hO3 (by omega))
      have N3 := Lib.hid hN3
      clear HK hO3 hN3 hb3 T X Y Z I O N
      have T := TW
      have X := XW
      have Y := YW
      have Z := ZW
      have I := IW
      have V := VW
      clear TW XW YW ZW IW VW
      have O3n := O3
      clear O3
      have Tn := Lib.hid (below_next T.out hb2)
      have Xn := Lib.hid (Ints.below X.out hb2)
      have Yn := Lib.hid (Sl.below Y.out hb2)
      have Zn := Lib.hid (Sl.below Z.out hb2)
      have In := Lib.hid (Ints.below I.out hb2)
      have Vn := Lib.hid (Own.below V.out hb2)
      clear hb2
      clear T X Y Z I V
      have T := Tn
      have X := Xn
      have Y := Yn
      have Z := Zn
      have I := In
      have V := Vn
      clear Tn Xn Yn Zn In Vn
      obtain ⟨wn, hwq⟩ : ∃ w0, w0 = wq := ⟨_, rfl⟩
      subst hwq
      have O3 := O3n
      clear O3n
      obtain ⟨b6, c6, h6, -, -, -, -, -⟩ := Own.some O3.out N3.out
      subst h6
      obtain ⟨b7, c7, h7, -, -, -, -, -⟩ := Own.some V.out NV.out
      rw [h7]
      rw [h7] at V NV
      by_cases h0 : BL = []
      · have q2 : ((BL.length : Int) == 0) = true := by rw [h0]; rfl
        have HN := Lib.hid (show L = lbU (gsv xs cs ks) n2 j gs (c + 1) from by unfold lbU; rw [← HBL.out, if_pos (.inl h0), HLL.out])
        clear V h0
        have V := O3
        clear O3
        go_wp2_with fail
        go_roundw
        case rel => exact ⟨c + 1, _, L, rfl, by omega, by go_num, HN.out, N3.out, T.out, X.out, Y.out, Z.out, I.out, V.out⟩
        case measure => first | (simp [intOf]; done) | (simp [intOf]; omega) | omega
      have q2 : ((BL.length : Int) == 0) = false := beq_false_of_ne (by have : 0 < BL.length := List.length_pos_iff.2 h0; omega)
      obtain ⟨D1, hD1⟩ : ∃ D, gsv xs cs ks L = D := ⟨_, rfl⟩
      obtain ⟨D2, hD2⟩ : ∃ D, gsv xs cs ks BL = D := ⟨_, rfl⟩
      have K1 := fun w' (h : Ints w' b off xs) (h2 : Sl w' a2 cs) (h3 : Sl w' a3 ks) (h4 : Sl w' (some ⟨b6, 0, none⟩) L) => sGroupSum_c b off cap xs a2 n2 c2 cs a3 _ c3 ks (some ⟨b6, 0, none⟩) L.length c6 L w' h h2 HL.out h3 HL3.out h4 rfl hm hm2 hm3 hLl
      have K2 := fun w' (h : Ints w' b off xs) (h2 : Sl w' a2 cs) (h3 : Sl w' a3 ks) (h4 : Sl w' (some ⟨b7, 0, none⟩) BL) => sGroupSum_c b off cap xs a2 n2 c2 cs a3 _ c3 ks (some ⟨b7, 0, none⟩) BL.length c7 BL w' h h2 HL.out h3 HL3.out h4 rfl hm hm2 hm3 hbl
      rw [hD1] at K1
      rw [hD2] at K2
      have H1 := Lib.hid K1
      have H9 := Lib.hid K2
      have HD1 := Lib.hid hD1
      have HD2 := Lib.hid hD2
      have H0 := Lib.hid h0
      clear K1 K2 hD1 hD2 h0
      go_wp2_with fail
      refine Calls.mono (H1.out _ X.out Y.out Z.out (own_rd O3.out).1) ?_
      intro e wn hh
      obtain ⟨he, hb⟩ := (by first | exact hh | exact Ro.mk hh | exact St.mk hh | exact LawOk.mk' hh : Mk _ _ e wn)
      subst he
      have Tn : Hid (Below w.heap.size w wn) := below_next T.out hb
      have Xn : Hid _ := Ints.below X.out hb
      have Yn : Hid _ := Sl.below Y.out hb
      have Zn : Hid _ := Sl.below Z.out hb
      have In : Hid _ := Ints.below I.out hb
      have Vn : Hid _ := Own.below V.out hb
      have O3n : Hid _ := Own.below O3.out hb
      clear hb hh
      clear T X Y Z I V O3
      have T := Tn
      have X := Xn
      have Y := Yn
      have Z := Zn
      have I := In
      have V := Vn
      have O3 := O3n
      clear Tn Xn Yn Zn In Vn O3n
      go_wp2_with fail
      refine Calls.mono (H9.out _ X.out Y.out Z.out (own_rd V.out).1) ?_
      intro e wn hh
      obtain ⟨he, hb⟩ := (by first | exact hh | exact Ro.mk hh | exact St.mk hh | exact LawOk.mk' hh : Mk _ _ e wn)
      subst he
      have Tn : Hid (Below w.heap.size w wn) := below_next T.out hb
      have Xn : Hid _ := Ints.below X.out hb
      have Yn : Hid _ := Sl.below Y.out hb
      have Zn : Hid _ := Sl.below Z.out hb
      have In : Hid _ := Ints.below I.out hb
      have Vn : Hid _ := Own.below V.out hb
      have O3n : Hid _ := Own.below O3.out hb
      clear hb hh
      clear T X Y Z I V O3
      have T := Tn
      have X := Xn
      have Y := Yn
      have Z := Zn
      have I := In
      have V := Vn
      have O3 := O3n
      clear Tn Xn Yn Zn In Vn O3n
      by_cases hD : D1 < D2
      · have HN := Lib.hid (show L = lbU (gsv xs cs ks) n2 j gs (c + 1) from by unfold lbU; rw [← HBL.out, HLL.out, HD1.out, HD2.out, if_pos (.inr hD)])
        clear V
        have V := O3
        clear O3
        go_wp2_with fail
        go_roundw
        case rel => exact ⟨c + 1, _, L, rfl, by omega, by go_num, HN.out, N3.out, T.out, X.out, Y.out, Z.out, I.out, V.out⟩
        case measure => first | (simp [intOf]; done) | (simp [intOf]; omega) | omega
      · have hD3 : D2 ≤ D1 := by omega
        have HN := Lib.hid (show BL = lbU (gsv xs cs ks) n2 j gs (c + 1) from by unfold lbU; rw [← HBL.out, HLL.out, HD1.out, HD2.out, if_neg (fun h => h.elim H0.out hD)])
        go_wp2_with fail
        go_roundw
        case rel => exact ⟨c + 1, _, BL, rfl, by omega, by go_num, HN.out, NV.out, T.out, X.out, Y.out, Z.out, I.out, V.out⟩
        case measure => first | (simp [intOf]; done) | (simp [intOf]; omega) | omega
end Go.Proofs.Ytgiioponimiddaa
