/- The program's GroupBest. -/
import Derived.Test.Ytgiioponimiddaa12IB
import Derived.Test.Ytgiioponimiddaa12IC
import Derived.Test.Ytgiioponimiddaa12ID
import Derived.Test.Ytgiioponimiddaa12IE
namespace Go.Proofs.Ytgiioponimiddaa
open Go.RowKit Go.Shelf
set_option linter.unusedVariables false
set_option linter.unusedSimpArgs false
set_option maxRecDepth 100000

theorem fm_snoc (f : List Int → Int) {L : List (List Int)} (h : L ≠ []) (x : List Int) : fm f (L ++ [x]) = if f x < f (fm f L) then x else fm f L := by
  cases L with
  | nil => exact absurd rfl h
  | cons z l =>
    show fmin f z (l ++ [x]) = _
    rw [fmin_app]; rfl
theorem gsv_ge {xs cs ks gs : List Int} (h : Gv xs cs ks gs) : 0 ≤ gsv xs cs ks gs := by
  rw [gsv_t h]
  exact (gsU_bd (ks := ks) (gs := gs) h.1.1 h.1.2.2.1.1 cs.length (Nat.le_refl _)).1
attribute [local go_sem] Oper.semAt_some
set_option maxHeartbeats 4000000 in
theorem iGroupBest_t (b off cap : Nat) (xs : List Int) (a2 : Option Addr) (n2 c2 : Nat) (cs : List Int) (a3 : Option Addr) (n3 c3 : Nat) (ks : List Int) (w : World) (hc : Ints w b off xs) (hs : Sl w a2 cs) (hl : cs.length = n2) (hs3 : Sl w a3 ks) (hl3 : ks.length = n3) (hm : xs.length ≤ 1048576) (hm2 : n2 ≤ 1048577) (hm3 : n3 ≤ 1048577) (hg : GOk xs cs ks) :
    Calls Try.prog 25 #[.slice (some ⟨b, off, none⟩) xs.length cap, .slice a2 n2 c2, .slice a3 n3 c3] w (NewI w (bev xs cs ks)) := by
  have K0 := fun w' (h : Ints w' b off xs) (h2 : Sl w' a2 cs) (h3 : Sl w' a3 ks) => iGroupOk_c b off cap xs a2 n2 c2 cs a3 n3 c3 ks w' h h2 hl h3 hl3 hm hm2 hm3
  rw [show gokB xs cs ks = true from tr_true hg] at K0
  have K1 := fun (w' : World) (a4 : Option Addr) (c4 : Nat) (gs : List Int) (h : Ints w' b off xs) (h2 : Sl w' a2 cs) (h3 : Sl w' a3 ks) (h4 : Sl w' a4 gs) (h5 : gs.length = n3) => iGroupSum_c b off cap xs a2 n2 c2 cs a3 n3 c3 ks a4 n3 c4 gs w' h h2 hl h3 hl3 h4 h5 hm hm2 hm3 hm3
  have H0 := Lib.hid K0
  have H1 := Lib.hid K1
  have HL := Lib.hid hl
  have HL3 := Lib.hid hl3
  have HG := Lib.hid hg
  have hbw := Ints.lt hc
  have HBY := Lib.hid (Sl.lt hs)
  have HBZ := Lib.hid (Sl.lt hs3)
  have hn35 : n3 ≤ 5 := by have := hg.2.2.2.2; rw [hl3] at this; omega
  have hn24 : n2 ≤ 4 := by have := hg.2.2.1.2; rw [hl] at this; omega
  have hn20 : 0 < n2 := by have := hg.2.1; rw [hl] at this; exact this
  clear K0 K1 hl hl3 hg
  refine at_base fun wn hwn => ?_
  have T := Lib.hid (show Below w.heap.size w wn from by rw [hwn]; exact Below.refl _ _)
  rw [← hwn] at hc
  have X := Lib.hid (show Ints wn b off xs from hc)
  clear hc
  rw [← hwn] at hs
  have Y := Lib.hid (show Sl wn a2 cs from hs)
  clear hs
  rw [← hwn] at hs3
  have Z := Lib.hid (show Sl wn a3 ks from hs3)
  clear hs3
  clear hwn
  obtain ⟨s, hg⟩ : ∃ g, Array.size (World.heap wn) = g := ⟨_, rfl⟩
  have HGs := Lib.hid hg
  have hTs : w.heap.size ≤ s := by rw [← hg]; exact T.out.size
  have Tn := Lib.hid (show Below w.heap.size w (((wn.alloc (.cells #[.slice (some ⟨b, off, none⟩) xs.length cap] 23)).alloc (.cells #[.slice a2 n2 c2] 23)).alloc (.cells #[.slice a3 n3 c3] 23)) from (Below.al (Below.al (Below.al T.out (.cells #[.slice (some ⟨b, off, none⟩) xs.length cap] 23)) (.cells #[.slice a2 n2 c2] 23)) (.cells #[.slice a3 n3 c3] 23)))
  have Xn := Lib.hid (Ints.below X.out (show Below wn.heap.size wn (((wn.alloc (.cells #[.slice (some ⟨b, off, none⟩) xs.length cap] 23)).alloc (.cells #[.slice a2 n2 c2] 23)).alloc (.cells #[.slice a3 n3 c3] 23)) from (Below.al (Below.al (Below.al (Below.refl _ _) (.cells #[.slice (some ⟨b, off, none⟩) xs.length cap] 23)) (.cells #[.slice a2 n2 c2] 23)) (.cells #[.slice a3 n3 c3] 23))))
  have Yn := Lib.hid (Sl.below Y.out (show Below wn.heap.size wn (((wn.alloc (.cells #[.slice (some ⟨b, off, none⟩) xs.length cap] 23)).alloc (.cells #[.slice a2 n2 c2] 23)).alloc (.cells #[.slice a3 n3 c3] 23)) from (Below.al (Below.al (Below.al (Below.refl _ _) (.cells #[.slice (some ⟨b, off, none⟩) xs.length cap] 23)) (.cells #[.slice a2 n2 c2] 23)) (.cells #[.slice a3 n3 c3] 23))))
  have Zn := Lib.hid (Sl.below Z.out (show Below wn.heap.size wn (((wn.alloc (.cells #[.slice (some ⟨b, off, none⟩) xs.length cap] 23)).alloc (.cells #[.slice a2 n2 c2] 23)).alloc (.cells #[.slice a3 n3 c3] 23)) from (Below.al (Below.al (Below.al (Below.refl _ _) (.cells #[.slice (some ⟨b, off, none⟩) xs.length cap] 23)) (.cells #[.slice a2 n2 c2] 23)) (.cells #[.slice a3 n3 c3] 23))))
  have FB := Lib.hid (show BoxV (((wn.alloc (.cells #[.slice (some ⟨b, off, none⟩) xs.length cap] 23)).alloc (.cells #[.slice a2 n2 c2] 23)).alloc (.cells #[.slice a3 n3 c3] 23)) s [.slice (some ⟨b, off, none⟩) xs.length cap] from by have h9 := (BoxV.al (BoxV.al (BoxV.new wn [.slice (some ⟨b, off, none⟩) xs.length cap] 23 (by simp) rfl) (.cells #[.slice a2 n2 c2] 23)) (.cells #[.slice a3 n3 c3] 23)); simp only [World.size_alloc, hg, Nat.add_assoc, Nat.reduceAdd] at h9; exact h9)
  have CB := Lib.hid (show BoxV (((wn.alloc (.cells #[.slice (some ⟨b, off, none⟩) xs.length cap] 23)).alloc (.cells #[.slice a2 n2 c2] 23)).alloc (.cells #[.slice a3 n3 c3] 23)) (s + 1) [.slice a2 n2 c2] from by have h9 := (BoxV.al (BoxV.new (wn.alloc (.cells #[.slice (some ⟨b, off, none⟩) xs.length cap] 23)) [.slice a2 n2 c2] 23 (by simp) rfl) (.cells #[.slice a3 n3 c3] 23)); simp only [World.size_alloc, hg, Nat.add_assoc, Nat.reduceAdd] at h9; exact h9)
  have KB := Lib.hid (show BoxV (((wn.alloc (.cells #[.slice (some ⟨b, off, none⟩) xs.length cap] 23)).alloc (.cells #[.slice a2 n2 c2] 23)).alloc (.cells #[.slice a3 n3 c3] 23)) (s + 2) [.slice a3 n3 c3] from by have h9 := (BoxV.new ((wn.alloc (.cells #[.slice (some ⟨b, off, none⟩) xs.length cap] 23)).alloc (.cells #[.slice a2 n2 c2] 23)) [.slice a3 n3 c3] 23 (by simp) rfl); simp only [World.size_alloc, hg, Nat.add_assoc, Nat.reduceAdd] at h9; exact h9)
  have HZs := Lib.hid (show ((((wn.alloc (.cells #[.slice (some ⟨b, off, none⟩) xs.length cap] 23)).alloc (.cells #[.slice a2 n2 c2] 23)).alloc (.cells #[.slice a3 n3 c3] 23))).heap.size = s + 3 from by simp only [World.size_alloc, hg, Nat.add_assoc, Nat.reduceAdd])
  clear hg
  clear T X Y Z
  have T := Tn
  have X := Xn
  have Y := Yn
  have Z := Zn
  clear Tn Xn Yn Zn
  refine (callsIn_wide (n := 0)).1 (callsIn_of_wp_marks (F := Fence.wide) Try.func25 rfl trivial (wpIn_wide.2 ?_) rfl)
  simp only [Try.ntmps25, List.size_toArray, List.length_cons, List.length_nil, Nat.reduceAdd, Nat.reduceSub, Array.replicate_succ, Array.replicate_zero, List.push_toArray, List.append_toArray, List.nil_append, List.cons_append]
  have f0 := (FB.out.2 0 _ rfl).1
  have c0 := (CB.out.2 0 _ rfl).1
  have k0 := (KB.out.2 0 _ rfl).1
  go_wp2_with fail
  rw [HGs.out]
  simp only [Nat.add_assoc, Nat.reduceAdd]
  go_wp2_with fail
  refine Calls.mono (H0.out _ X.out Y.out Z.out) ?_
  intro e wn hh
  obtain ⟨he, hb⟩ := (by first | exact hh | exact Ro.mk hh | exact St.mk hh | exact LawOk.mk' hh : Mk _ _ e wn)
  subst he
  have Tn : Hid (Below w.heap.size w wn) := below_next T.out hb
  have Xn : Hid _ := Ints.below X.out hb
  have Yn : Hid _ := Sl.below Y.out hb
  have Zn : Hid _ := Sl.below Z.out hb
  have FBn : Hid _ := BoxV.below FB.out hb
  have CBn : Hid _ := BoxV.below CB.out hb
  have KBn : Hid _ := BoxV.below KB.out hb
  clear hb hh f0 c0 k0
  clear T X Y Z FB CB KB
  have T := Tn
  have X := Xn
  have Y := Yn
  have Z := Zn
  have FB := FBn
  have CB := CBn
  have KB := KBn
  clear Tn Xn Yn Zn FBn CBn KBn
  clear H0 HZs HGs
  have k0 := (KB.out.2 0 _ rfl).1
  go_upto_region 5 with fail
  obtain ⟨H, hH⟩ : ∃ H, wn.heap.size = H := ⟨_, rfl⟩
  have hsH : s + 2 < H := by rw [← hH]; exact BoxV.lt KB.out
  have hwH : w.heap.size ≤ H := by rw [← hH]; exact T.out.size
  have BB := Lib.hid (BoxV.al (BoxV.new wn [.slice none 0 0] 23 (by simp) rfl) (.cells #[.int .i64 (-1)] 3))
  have LB := Lib.hid (BoxV.new (wn.alloc (.cells #[.slice none 0 0] 23)) [.int .i64 (-1)] 3 (by simp) rfl)
  have HS2 := Lib.hid (show ((wn.alloc (.cells #[.slice none 0 0] 23)).alloc (.cells #[.int .i64 (-1)] 3)).heap.size = H + 2 from by simp [hH])
  have hB2 : Below wn.heap.size wn ((wn.alloc (.cells #[.slice none 0 0] 23)).alloc (.cells #[.int .i64 (-1)] 3)) := Below.al (Below.al (Below.refl _ _) _) _
  rw [World.size_alloc] at LB
  rw [hH] at BB LB hB2 ⊢
  clear k0
  generalize hw0 : (wn.alloc (.cells #[.slice none 0 0] 23)).alloc (.cells #[.int .i64 (-1)] 3) = wq at *
  clear hw0
  have hq : Below wn.heap.size wn wq := by rw [hH]; exact hB2
  clear hB2 hH
  have Tn := Lib.hid (below_next T.out hq)
  have Xn := Lib.hid (Ints.below X.out hq)
  have Yn := Lib.hid (Sl.below Y.out hq)
  have Zn := Lib.hid (Sl.below Z.out hq)
  have FBn := Lib.hid (BoxV.below FB.out hq)
  have CBn := Lib.hid (BoxV.below CB.out hq)
  have KBn := Lib.hid (BoxV.below KB.out hq)
  clear hq
  clear T X Y Z FB CB KB
  have T := Tn
  have X := Xn
  have Y := Yn
  have Z := Zn
  have FB := FBn
  have CB := CBn
  have KB := KBn
  clear Tn Xn Yn Zn FBn CBn KBn
  obtain ⟨wn, hwq⟩ : ∃ w0, w0 = wq := ⟨_, rfl⟩
  subst hwq
  have c0 := (CB.out.2 0 _ rfl).1
  have k0 := (KB.out.2 0 _ rfl).1
  go_wp2_with fail
  refine Calls.mono (ways_c n2 n3 _) ?_
  rintro e wq ⟨rfl, hq0, hq1, hq, hqs⟩
  rw [HS2.out] at hq0 hq1 hqs
  rw [HS2.out]
  have Q0 := Lib.hid hq0
  have Q1 := Lib.hid hq1
  have HQS := Lib.hid hqs
  clear hq0 hq1 hqs HS2
  have Tn := Lib.hid (below_next T.out hq)
  have Xn := Lib.hid (Ints.below X.out hq)
  have Yn := Lib.hid (Sl.below Y.out hq)
  have Zn := Lib.hid (Sl.below Z.out hq)
  have FBn := Lib.hid (BoxV.below FB.out hq)
  have CBn := Lib.hid (BoxV.below CB.out hq)
  have KBn := Lib.hid (BoxV.below KB.out hq)
  have BBn := Lib.hid (BoxV.below BB.out hq)
  have LBn := Lib.hid (BoxV.below LB.out hq)
  clear hq
  clear T X Y Z FB CB KB BB LB
  have T := Tn
  have X := Xn
  have Y := Yn
  have Z := Zn
  have FB := FBn
  have CB := CBn
  have KB := KBn
  have BB := BBn
  have LB := LBn
  clear Tn Xn Yn Zn FBn CBn KBn BBn LBn
  obtain ⟨wn, hwq⟩ : ∃ w0, w0 = wq := ⟨_, rfl⟩
  subst hwq
  go_wp2_with fail
  have hsz : wn.heap.size = H + 4 := HQS.out
  refine wp_range1 (P := Try.prog) (gf := 68) (k := 1) (Xs := alw n2 n3) (V := VI) (c0 := H + 2) (c1 := H + 4) (w0 := wn) rfl (enters_of Try.func68 (by kernel_rfl) rfl) (ways_seq n2 n3 (H + 2) (H + 2 + 1) (H + 2) (H + 4) wn Q0.out Q1.out hn20 hn24 hn35 (by omega) (by omega)) (Below.refl _ _) (by omega) rfl (fun m x A B v h hb => VI.off h hb)
    (fun i W => ∃ (BL : List Int) (D : Int) (v : Value), BL = fm (gsv xs cs ks) ((alw n2 n3).take i) ∧ (D = -1 ∧ i = 0 ∨ 0 < i ∧ 0 ≤ D ∧ D = gsv xs cs ks BL) ∧ Below w.heap.size w W ∧ Ints W b off xs ∧ Sl W a2 cs ∧ Sl W a3 ks ∧ BoxV W s [.slice (some ⟨b, off, none⟩) xs.length cap] ∧ BoxV W (s + 1) [.slice a2 n2 c2] ∧ BoxV W (s + 2) [.slice a3 n3 c3] ∧ BoxV W H [v] ∧ BoxV W (H + 1) [.int .i64 D] ∧ Own W (H + 7) v BL)
    ?hI ?h0 ?a1 ?ass ?body ?done
  case ass =>
    intro l v W K hK
    gi_wp2
    exact hK
  case hI =>
    rintro i A B ⟨BL, D, v, h1, h2, h3, h4, h5, h6, h7, h8, h9, h10, h11, h12⟩ ho
    rw [hsz] at ho
    exact ⟨BL, D, v, h1, h2, Out.below h3 ho (by omega), h4.out ho (fun h => .inl (by have := hbw h; omega)), h5.out ho (fun b q e h => .inl (by have := HBY.out b q e h; omega)), h6.out ho (fun b q e h => .inl (by have := HBZ.out b q e h; omega)), h7.out ho (.inl (by omega)), h8.out ho (.inl (by omega)), h9.out ho (.inl (by omega)), h10.out ho (.inl (by omega)), h11.out ho (.inl (by omega)), own_block h12 (fun q hq => ho.block q (own_lt2 h12 q hq).2 (.inr (by have := (own_lt2 h12 q hq).1; omega)))⟩
  case h0 => exact ⟨[], -1, .slice none 0 0, rfl, .inl ⟨rfl, rfl⟩, T.out, X.out, Y.out, Z.out, FB.out, CB.out, KB.out, BB.out, LB.out, own_nil _ _⟩
  case body =>
    intro l i x v W hx hI hsz2 hV
    obtain ⟨BL, D, ov, h1, h2, h3, h4, h5, h6, h7, h8, h9, h10, h11, h12⟩ := hI
    obtain ⟨bx, cx, rfl, hxl, hxm, hxb, hxI⟩ := hV
    have hxg : GvOk n2 n3 x := alw_ok.1 (List.mem_of_getElem? hx)
    have hxn : x.length = n3 := hxg.2
    have hD0 : 0 ≤ gsv xs cs ks x := gsv_ge ⟨HG.out, by rw [HL.out, HL3.out]; exact hxg⟩
    rw [hxn]
    have B1 := Lib.hid h1
    have B2 := Lib.hid h2
    have TW := Lib.hid h3
    have XW := Lib.hid h4
    have YW := Lib.hid h5
    have ZW := Lib.hid h6
    have FW := Lib.hid h7
    have CW := Lib.hid h8
    have KW := Lib.hid h9
    have BW := Lib.hid h10
    have LW := Lib.hid h11
    have OW := Lib.hid h12
    have IX := Lib.hid hxI
    have HX := Lib.hid hxn
    have HXG := Lib.hid hx
    have hib : i < (alw n2 n3).length := (List.getElem?_eq_some_iff.1 hx).1
    clear h1 h2 h3 h4 h5 h6 h7 h8 h9 h10 h11 h12 hxI hxn hx hxg
    have f0 := (FW.out.2 0 _ rfl).1
    have c0 := (CW.out.2 0 _ rfl).1
    have k0 := (KW.out.2 0 _ rfl).1
    gi_wp2_with fail
    refine ⟨trivial, rfl, CallsIn.mono (CallsIn.inRound l (callsIn_wide.2 (H1.out W (some ⟨bx, 0, none⟩) cx x XW.out YW.out ZW.out (.inr ⟨bx, 0, rfl, IX.out⟩) HX.out))) ?_⟩
    rintro e W2 ⟨rfl, hb2⟩
    have hk2 : Kr wn.heap.size (2 + 1) (H + 2) (H + 4) W W2 := ⟨hb2.size, fun q hq => hb2.block q (by omega)⟩
    obtain ⟨D1, hD1⟩ : ∃ D, gsv xs cs ks x = D := ⟨_, rfl⟩
    rw [hD1] at hD0
    rw [hD1]
    have HD1 := Lib.hid hD1
    have htk : (alw n2 n3).take (i + 1) = (alw n2 n3).take i ++ [x] := by rw [List.take_add_one, HXG.out]; rfl
    have HTK := Lib.hid htk
    have HB2 := Lib.hid hb2
    have HK2 := Lib.hid hk2
    have l0 := (BoxV.below LW.out hb2).c1.1
    have hW2 : H + 7 ≤ W2.heap.size := by have := hb2.size; omega
    clear hD1 htk f0 c0 k0 hb2 hk2
    have HNE := Lib.hid (show 0 < i → (alw n2 n3).take i ≠ [] from fun h0 e => by
      have h9 := congrArg List.length e
      rw [List.length_take, Nat.min_eq_left (Nat.le_of_lt hib), List.length_nil] at h9
      omega)
    by_cases hlt : D < 0 ∨ D1 < D
    case neg =>
      have hDa : 0 ≤ D := by omega
      have hDb : D ≤ D1 := by omega
      clear hlt
      gi_wp2_with fail
      refine ⟨⟨BL, D, ov, ?_, ?_, below_next TW.out HB2.out, XW.out.below HB2.out, YW.out.below HB2.out, ZW.out.below HB2.out, FW.out.below HB2.out, CW.out.below HB2.out, KW.out.below HB2.out, BW.out.below HB2.out, LW.out.below HB2.out, own_below OW.out HB2.out⟩, HK2.out⟩
      · rcases B2.out with ⟨h, _⟩ | ⟨h0, h1, h2⟩
        · omega
        · rw [HTK.out, fm_snoc _ (HNE.out h0), ← B1.out, HD1.out, ← h2, if_neg (by omega)]
      · rcases B2.out with ⟨h, _⟩ | ⟨h0, h1, h2⟩
        · omega
        · exact .inr ⟨by omega, h1, h2⟩
    have HLT := Lib.hid hlt
    have HCL := Lib.hid (clone_c bx 0 n3 cx x W2 (IX.out.below HB2.out) HX.out (by omega))
    have HWH := Lib.hid hW2
    have fin : ∀ (W3 : World) (u : Value), Own W3 W2.heap.size u x → Below W2.heap.size W2 W3 → (∃ (BL : List Int) (D : Int) (v : Value), BL = fm (gsv xs cs ks) ((alw n2 n3).take (i + 1)) ∧ (D = -1 ∧ i + 1 = 0 ∨ 0 < i + 1 ∧ 0 ≤ D ∧ D = gsv xs cs ks BL) ∧ Below w.heap.size w ((W3.setCell ⟨H + 1, 0, none⟩ (.int .i64 D1)).setCell ⟨H, 0, none⟩ u) ∧ Ints ((W3.setCell ⟨H + 1, 0, none⟩ (.int .i64 D1)).setCell ⟨H, 0, none⟩ u) b off xs ∧ Sl ((W3.setCell ⟨H + 1, 0, none⟩ (.int .i64 D1)).setCell ⟨H, 0, none⟩ u) a2 cs ∧ Sl ((W3.setCell ⟨H + 1, 0, none⟩ (.int .i64 D1)).setCell ⟨H, 0, none⟩ u) a3 ks ∧ BoxV ((W3.setCell ⟨H + 1, 0, none⟩ (.int .i64 D1)).setCell ⟨H, 0, none⟩ u) s [.slice (some ⟨b, off, none⟩) xs.length cap] ∧ BoxV ((W3.setCell ⟨H + 1, 0, none⟩ (.int .i64 D1)).setCell ⟨H, 0, none⟩ u) (s + 1) [.slice a2 n2 c2] ∧ BoxV ((W3.setCell ⟨H + 1, 0, none⟩ (.int .i64 D1)).setCell ⟨H, 0, none⟩ u) (s + 2) [.slice a3 n3 c3] ∧ BoxV ((W3.setCell ⟨H + 1, 0, none⟩ (.int .i64 D1)).setCell ⟨H, 0, none⟩ u) H [v] ∧ BoxV ((W3.setCell ⟨H + 1, 0, none⟩ (.int .i64 D1)).setCell ⟨H, 0, none⟩ u) (H + 1) [.int .i64 D] ∧ Own ((W3.setCell ⟨H + 1, 0, none⟩ (.int .i64 D1)).setCell ⟨H, 0, none⟩ u) (H + 7) v BL) ∧ Kr wn.heap.size (2 + 1) (H + 2) (H + 4) W ((W3.setCell ⟨H + 1, 0, none⟩ (.int .i64 D1)).setCell ⟨H, 0, none⟩ u) := by
      intro W3 u hO hb
      have hb23 : Below W.heap.size W W3 := Below.tr HB2.out (Below.mono hb HB2.out.size)
      have ho : Out H (H + 2) W3 ((W3.setCell ⟨H + 1, 0, none⟩ (.int .i64 D1)).setCell ⟨H, 0, none⟩ u) := Out.trans (Out.set _ (by omega) (by omega)) (Out.set _ (Nat.le_refl _) (by omega))
      have hL3 := BoxV.set (BoxV.below LW.out hb23) 0 (.int .i64 D1) (by simp)
      have hBB3 : BoxV (W3.setCell ⟨H + 1, 0, none⟩ (.int .i64 D1)) H [ov] := BoxV.far (BoxV.below BW.out hb23) (by omega)
      refine ⟨⟨x, D1, u, ?_, .inr ⟨by omega, hD0, HD1.out.symm⟩, Out.below (below_next TW.out hb23) ho (by omega), Ints.out (XW.out.below hb23) ho (fun h => .inl (by have := hbw h; omega)), Sl.out (YW.out.below hb23) ho (fun b q e h => .inl (by have := HBY.out b q e h; omega)), Sl.out (ZW.out.below hb23) ho (fun b q e h => .inl (by have := HBZ.out b q e h; omega)), BoxV.out (FW.out.below hb23) ho (.inl (by omega)), BoxV.out (CW.out.below hb23) ho (.inl (by omega)), BoxV.out (KW.out.below hb23) ho (.inl (by omega)), BoxV.set hBB3 0 u (by simp), BoxV.far hL3 (by omega), ?_⟩, ?_⟩
      · rcases B2.out with ⟨_, rfl⟩ | ⟨h0, h1, h2⟩
        · rw [HTK.out, List.take_zero]; rfl
        · rw [HTK.out, fm_snoc _ (HNE.out h0), ← B1.out, HD1.out, ← h2, if_pos (by have := HLT.out; omega)]
      · exact own_block (own_mono hO HWH.out) (fun q hq => ho.block q (own_lt2 hO q hq).2 (.inr (by have := (own_lt2 hO q hq).1; have := HWH.out; omega)))
      · refine ⟨Nat.le_trans hb23.size ho.size, fun q hq => ?_⟩
        have hqW : q < W.heap.size := by omega
        rw [ho.block q (by have := hb23.size; omega) (by omega), hb23.block q hqW]
    have FIN := Lib.hid fin
    clear fin hlt
    by_cases hDn : D < 0
    case pos =>
      gi_wp2_with fail
      refine ⟨trivial, rfl, CallsIn.mono (CallsIn.inRound l (callsIn_wide.2 HCL.out)) ?_⟩
      rintro e W3 ⟨u, rfl, hO, hne, hb⟩
      obtain ⟨gu, cu, rfl, -⟩ := Own.some hO hne
      have FN := Lib.hid (FIN.out W3 _ hO hb)
      have hL3 := BoxV.below (BoxV.below LW.out HB2.out) hb
      have hBB3 : BoxV (W3.setCell ⟨H + 1, 0, none⟩ (.int .i64 D1)) H [ov] := BoxV.far (BoxV.below (BoxV.below BW.out HB2.out) hb) (by omega)
      have l3 := hL3.c1.1
      have lf3 := hL3.c1.2
      have b3 := hBB3.c1.1
      have bf3 := hBB3.c1.2
      clear hL3 hBB3 hO hne hb l0
      gi_wp2_with fail
      exact FN.out
    case neg =>
      have hDm : D1 < D := by have := HLT.out; omega
      gi_wp2_with fail
      refine ⟨trivial, rfl, CallsIn.mono (CallsIn.inRound l (callsIn_wide.2 HCL.out)) ?_⟩
      rintro e W3 ⟨u, rfl, hO, hne, hb⟩
      obtain ⟨gu, cu, rfl, -⟩ := Own.some hO hne
      have FN := Lib.hid (FIN.out W3 _ hO hb)
      have hL3 := BoxV.below (BoxV.below LW.out HB2.out) hb
      have hBB3 : BoxV (W3.setCell ⟨H + 1, 0, none⟩ (.int .i64 D1)) H [ov] := BoxV.far (BoxV.below (BoxV.below BW.out HB2.out) hb) (by omega)
      have l3 := hL3.c1.1
      have lf3 := hL3.c1.2
      have b3 := hBB3.c1.1
      have bf3 := hBB3.c1.2
      clear hL3 hBB3 hO hne hb l0
      gi_wp2_with fail
      exact FN.out
  case done =>
    rintro W ⟨BL, D, ov, h1, h2, h3, h4, h5, h6, h7, h8, h9, h10, h11, h12⟩ hW
    have d0 := h10.c1.1
    have B1 := Lib.hid h1
    have TW := Lib.hid h3
    have OW := Lib.hid h12
    have HW := Lib.hid hW
    clear h1 h2 h3 h4 h5 h6 h7 h8 h9 h10 h11 h12 hW
    go_wp2_with fail
    refine ⟨by simp, .inl ⟨_, _, rfl, run_takeDeferred HW.out, ?_⟩⟩
    have hput : Out wn.heap.size (wn.heap.size + 1) W (W.putObj wn.heap.size (.deferred none)) := putObj_out (by omega) (by omega)
    refine ⟨_, results_tmp rfl _ _ _, ⟨_, rfl, ?_, Out.below TW.out hput (by omega)⟩⟩
    have e : bev xs cs ks = BL := by
      rw [bev_t HG.out, HL.out, HL3.out, lb_fm _ hn20, B1.out, List.take_length]
      simp only [List.nil_append, List.map_id']
    rw [e]
    exact own_mono (own_block OW.out (fun q hq => hput.block q (own_lt2 OW.out q hq).2 (.inr (by have := (own_lt2 OW.out q hq).1; omega)))) (by omega)
set_option maxHeartbeats 4000000 in
theorem iGroupBest_c (b off cap : Nat) (xs : List Int) (a2 : Option Addr) (n2 c2 : Nat) (cs : List Int) (a3 : Option Addr) (n3 c3 : Nat) (ks : List Int) (w : World) (hc : Ints w b off xs) (hs : Sl w a2 cs) (hl : cs.length = n2) (hs3 : Sl w a3 ks) (hl3 : ks.length = n3) (hm : xs.length ≤ 1048576) (hm2 : n2 ≤ 1048577) (hm3 : n3 ≤ 1048577) :
    Calls Try.prog 25 #[.slice (some ⟨b, off, none⟩) xs.length cap, .slice a2 n2 c2, .slice a3 n3 c3] w (NewI w (bev xs cs ks)) := by
  by_cases hg : GOk xs cs ks
  · exact iGroupBest_t b off cap xs a2 n2 c2 cs a3 n3 c3 ks w hc hs hl hs3 hl3 hm hm2 hm3 hg
  have K0 := fun w' (h : Ints w' b off xs) (h2 : Sl w' a2 cs) (h3 : Sl w' a3 ks) => iGroupOk_c b off cap xs a2 n2 c2 cs a3 n3 c3 ks w' h h2 hl h3 hl3 hm hm2 hm3
  rw [show gokB xs cs ks = false from tr_false hg] at K0
  have H0 := Lib.hid K0
  have HG := Lib.hid hg
  clear K0 hl hl3 hg
  refine at_base fun wn hwn => ?_
  have T := Lib.hid (show Below w.heap.size w wn from by rw [hwn]; exact Below.refl _ _)
  rw [← hwn] at hc
  have X := Lib.hid (show Ints wn b off xs from hc)
  clear hc
  rw [← hwn] at hs
  have Y := Lib.hid (show Sl wn a2 cs from hs)
  clear hs
  rw [← hwn] at hs3
  have Z := Lib.hid (show Sl wn a3 ks from hs3)
  clear hs3
  clear hwn
  obtain ⟨s, hg⟩ : ∃ g, Array.size (World.heap wn) = g := ⟨_, rfl⟩
  have HGs := Lib.hid hg
  have hTs : w.heap.size ≤ s := by rw [← hg]; exact T.out.size
  have Tn := Lib.hid (show Below w.heap.size w (((wn.alloc (.cells #[.slice (some ⟨b, off, none⟩) xs.length cap] 23)).alloc (.cells #[.slice a2 n2 c2] 23)).alloc (.cells #[.slice a3 n3 c3] 23)) from (Below.al (Below.al (Below.al T.out (.cells #[.slice (some ⟨b, off, none⟩) xs.length cap] 23)) (.cells #[.slice a2 n2 c2] 23)) (.cells #[.slice a3 n3 c3] 23)))
  have Xn := Lib.hid (Ints.below X.out (show Below wn.heap.size wn (((wn.alloc (.cells #[.slice (some ⟨b, off, none⟩) xs.length cap] 23)).alloc (.cells #[.slice a2 n2 c2] 23)).alloc (.cells #[.slice a3 n3 c3] 23)) from (Below.al (Below.al (Below.al (Below.refl _ _) (.cells #[.slice (some ⟨b, off, none⟩) xs.length cap] 23)) (.cells #[.slice a2 n2 c2] 23)) (.cells #[.slice a3 n3 c3] 23))))
  have Yn := Lib.hid (Sl.below Y.out (show Below wn.heap.size wn (((wn.alloc (.cells #[.slice (some ⟨b, off, none⟩) xs.length cap] 23)).alloc (.cells #[.slice a2 n2 c2] 23)).alloc (.cells #[.slice a3 n3 c3] 23)) from (Below.al (Below.al (Below.al (Below.refl _ _) (.cells #[.slice (some ⟨b, off, none⟩) xs.length cap] 23)) (.cells #[.slice a2 n2 c2] 23)) (.cells #[.slice a3 n3 c3] 23))))
  have Zn := Lib.hid (Sl.below Z.out (show Below wn.heap.size wn (((wn.alloc (.cells #[.slice (some ⟨b, off, none⟩) xs.length cap] 23)).alloc (.cells #[.slice a2 n2 c2] 23)).alloc (.cells #[.slice a3 n3 c3] 23)) from (Below.al (Below.al (Below.al (Below.refl _ _) (.cells #[.slice (some ⟨b, off, none⟩) xs.length cap] 23)) (.cells #[.slice a2 n2 c2] 23)) (.cells #[.slice a3 n3 c3] 23))))
  have FB := Lib.hid (show BoxV (((wn.alloc (.cells #[.slice (some ⟨b, off, none⟩) xs.length cap] 23)).alloc (.cells #[.slice a2 n2 c2] 23)).alloc (.cells #[.slice a3 n3 c3] 23)) s [.slice (some ⟨b, off, none⟩) xs.length cap] from by have h9 := (BoxV.al (BoxV.al (BoxV.new wn [.slice (some ⟨b, off, none⟩) xs.length cap] 23 (by simp) rfl) (.cells #[.slice a2 n2 c2] 23)) (.cells #[.slice a3 n3 c3] 23)); simp only [World.size_alloc, hg, Nat.add_assoc, Nat.reduceAdd] at h9; exact h9)
  have CB := Lib.hid (show BoxV (((wn.alloc (.cells #[.slice (some ⟨b, off, none⟩) xs.length cap] 23)).alloc (.cells #[.slice a2 n2 c2] 23)).alloc (.cells #[.slice a3 n3 c3] 23)) (s + 1) [.slice a2 n2 c2] from by have h9 := (BoxV.al (BoxV.new (wn.alloc (.cells #[.slice (some ⟨b, off, none⟩) xs.length cap] 23)) [.slice a2 n2 c2] 23 (by simp) rfl) (.cells #[.slice a3 n3 c3] 23)); simp only [World.size_alloc, hg, Nat.add_assoc, Nat.reduceAdd] at h9; exact h9)
  have KB := Lib.hid (show BoxV (((wn.alloc (.cells #[.slice (some ⟨b, off, none⟩) xs.length cap] 23)).alloc (.cells #[.slice a2 n2 c2] 23)).alloc (.cells #[.slice a3 n3 c3] 23)) (s + 2) [.slice a3 n3 c3] from by have h9 := (BoxV.new ((wn.alloc (.cells #[.slice (some ⟨b, off, none⟩) xs.length cap] 23)).alloc (.cells #[.slice a2 n2 c2] 23)) [.slice a3 n3 c3] 23 (by simp) rfl); simp only [World.size_alloc, hg, Nat.add_assoc, Nat.reduceAdd] at h9; exact h9)
  have HZs := Lib.hid (show ((((wn.alloc (.cells #[.slice (some ⟨b, off, none⟩) xs.length cap] 23)).alloc (.cells #[.slice a2 n2 c2] 23)).alloc (.cells #[.slice a3 n3 c3] 23))).heap.size = s + 3 from by simp only [World.size_alloc, hg, Nat.add_assoc, Nat.reduceAdd])
  clear hg
  clear T X Y Z
  have T := Tn
  have X := Xn
  have Y := Yn
  have Z := Zn
  clear Tn Xn Yn Zn
  refine (callsIn_wide (n := 0)).1 (callsIn_of_wp_marks (F := Fence.wide) Try.func25 rfl trivial (wpIn_wide.2 ?_) rfl)
  simp only [Try.ntmps25, List.size_toArray, List.length_cons, List.length_nil, Nat.reduceAdd, Nat.reduceSub, Array.replicate_succ, Array.replicate_zero, List.push_toArray, List.append_toArray, List.nil_append, List.cons_append]
  have f0 := (FB.out.2 0 _ rfl).1
  have c0 := (CB.out.2 0 _ rfl).1
  have k0 := (KB.out.2 0 _ rfl).1
  go_wp2_with fail
  rw [HGs.out]
  simp only [Nat.add_assoc, Nat.reduceAdd]
  go_wp2_with fail
  refine Calls.mono (H0.out _ X.out Y.out Z.out) ?_
  intro e wn hh
  obtain ⟨he, hb⟩ := (by first | exact hh | exact Ro.mk hh | exact St.mk hh | exact LawOk.mk' hh : Mk _ _ e wn)
  subst he
  have Tn : Hid (Below w.heap.size w wn) := below_next T.out hb
  have Xn : Hid _ := Ints.below X.out hb
  have Yn : Hid _ := Sl.below Y.out hb
  have Zn : Hid _ := Sl.below Z.out hb
  have FBn : Hid _ := BoxV.below FB.out hb
  have CBn : Hid _ := BoxV.below CB.out hb
  have KBn : Hid _ := BoxV.below KB.out hb
  clear hb hh f0 c0 k0
  clear T X Y Z FB CB KB
  have T := Tn
  have X := Xn
  have Y := Yn
  have Z := Zn
  have FB := FBn
  have CB := CBn
  have KB := KBn
  clear Tn Xn Yn Zn FBn CBn KBn
  clear H0 HZs HGs
  go_wp2_with fail
  refine ⟨_, results_tmp rfl _ _ _, ⟨_, rfl, ?_, T.out⟩⟩
  rw [bev_f HG.out]
  exact own_nil _ _
end Go.Proofs.Ytgiioponimiddaa
