/- The law of ReadCalls: the walk. -/
import Derived.Test.YtgenccbpkolmbaaDoor8RK
namespace Go.Proofs.YtgenccbpkolmbaaDoor
open Go.RowKit
set_option linter.unusedVariables false

theorem con1_app (b : UInt8) (ps : List (List UInt8)) (q : List UInt8) (h : ps ≠ []) : con1 b (ps ++ [q]) = con1 b ps ++ [q] := by
  match ps, h with
  | p :: ps, _ => rfl
theorem cut_slash (l : List UInt8) : cut1 (l ++ [47]) = cut1 l ++ [[]] := by
  induction l with
  | nil => simp [cut1]
  | cons b l ih =>
    show (if b = 47 then [] :: cut1 (l ++ [47]) else con1 b (cut1 (l ++ [47]))) = (if b = 47 then [] :: cut1 l else con1 b (cut1 l)) ++ [[]]
    rw [ih]
    split
    · rfl
    · exact con1_app _ _ _ (cut1_ne l)
theorem rd_more {s : ByteArray} (h : RdV s) : ¬ RdV (s ++ ⟨#[47]⟩) := by
  obtain ⟨p, q, r, hc, -⟩ := h
  rintro ⟨p', q', r', hc', -⟩
  rw [ByteArray.data_append] at hc'
  simp only [Array.toList_append] at hc'
  rw [cut_slash, hc] at hc'
  simp at hc'
theorem rd_back {s : ByteArray} (h : RdV s) : ctx (rd s) = s ∧ CV (rd s) := by
  obtain ⟨p, q, r, hc, hcl, hv⟩ := id h
  rw [(rd_t hc hcl hv).1]
  exact ⟨(rd_iff hc).2 h, hv⟩
def DrawnT (w : World) (e : Ending) (w' : World) : Prop := ∃ s : ByteArray, e = .returned (.string s) ∧ s.size ≤ 1000 ∧ Below w.heap.size w w'
set_option maxHeartbeats 4000000 in
theorem ReadCalls_of (a : Option Addr) (n cap : Nat) (w : World) (hb : Byt w a n) (hn : n ≤ cap) (hcap : cap ≤ maxLen) (hm : ∃ m, w.cell? ⟨0, 0, none⟩ = some (.int .i64 m))
    (hD : Calls Tryd.prog 13 #[.slice a n cap] w (DrawnT w)) :
    Calls Tryd.prog 4 #[.slice a n cap] w (LawOk w) := by
  have hcap' := hcap
  unfold maxLen at hcap'
  obtain ⟨m, hm⟩ := hm
  have HM := Lib.hid hm
  have HD := Lib.hid hD
  clear hm hD
  by_cases bign : 1048576 < n
  · go_enter Tryd.func4, Tryd.ntmps4
    go_wp2_with fail
    go_ret
    exact LawOk.mk (Below.refl _ _)
  go_enter Tryd.func4, Tryd.ntmps4
  go_wp2_with fail
  refine Calls.mono HD.out ?_
  rintro e wn ⟨s, rfl, hs, hB⟩
  have T := Lib.hid hB
  clear hB hb HD
  obtain ⟨l1, l2, l3⟩ := rd_len s
  have KI := fun w' (h : w'.cell? ⟨0, 0, none⟩ = some (.int .i64 m)) => iReadCalls_c s w' m (by omega) h
  have KS := fun w' => sReadCalls_c s w' (by omega)
  have hsz : (s ++ ⟨#[47]⟩).size ≤ 1048576 := by
    rw [ByteArray.size_append]
    show s.size + 1 ≤ _
    omega
  have KU := fun w' (h : w'.cell? ⟨0, 0, none⟩ = some (.int .i64 m)) => iReadCalls_c (s ++ ⟨#[47]⟩) w' m hsz h
  have q1 : ¬ (9223372036854775807 < s.size + 1) := by omega
  by_cases hv : RdV s
  case neg =>
    obtain ⟨h1, h2⟩ := rd_f hv
    have t0 : (((rd s).c.length : Int) == 0) = true := by rw [h1]; rfl
    rw [h2] at KI KS
    obtain ⟨y, hy⟩ : ∃ y, rd s = y := ⟨_, rfl⟩
    rw [hy] at KI KS t0 l1 l2 l3
    have m1 : y.u.length ≤ 1048577 := by omega
    have m2 : y.d.length ≤ 1048577 := by omega
    have m3 : y.c.length ≤ 1048577 := by omega
    have HKI := Lib.hid KI
    have HKS := Lib.hid KS
    clear KI KS KU hy h1 h2 hv l1 l2 l3 hsz
    go_wp2_with fail
    refine Calls.mono (HKI.out _ (cell_below HM.out T.out)) ?_
    intro e wn hh
    obtain ⟨v1, v2, v3, loP, hiP, rfl, hO, hb, hlo, hhi⟩ := NewC.get hh
    have hTP : w.heap.size ≤ loP := by rw [← hlo]; exact T.out.size
    have hlhP : loP ≤ hiP := by rw [← hlo, ← hhi]; exact hb.size
    obtain ⟨Pa, Pi, Pb, Pj, Pc, Pk, rfl, rfl, rfl, -⟩ := OwnC.open hO
    have Tn := Lib.hid (below_next T.out hb)
    have P := Lib.hid hO
    clear hb hO hh hlo hhi
    clear T
    have T := Tn
    clear Tn
    have hltPHP := P.out.2.2.1
    have hWHP := T.out.size
    obtain ⟨HP, hHP⟩ : ∃ HP, Array.size (World.heap wn) = HP := ⟨_, rfl⟩
    have HHP : Hid _ := hHP
    rw [hHP] at hWHP hltPHP
    have PB : Hid (Bx (wn.alloc (.cells #[.slice Pa y.u.length Pi, .slice Pb y.d.length Pj, .slice Pc y.c.length Pk] 25)) HP (.slice Pa y.u.length Pi) (.slice Pb y.d.length Pj) (.slice Pc y.c.length Pk)) := by rw [← hHP]; exact Bx.new _ _ _ _ _
    clear hHP
    have Tn : Hid (Below w.heap.size w _) := Below.al T.out (.cells #[.slice Pa y.u.length Pi, .slice Pb y.d.length Pj, .slice Pc y.c.length Pk] 25)
    have Pn : Hid _ := OwnC.below P.out ((Below.refl _ _).alloc (Nat.le_refl _) (.cells #[.slice Pa y.u.length Pi, .slice Pb y.d.length Pj, .slice Pc y.c.length Pk] 25))
    clear T P
    have T := Tn
    have P := Pn
    clear Tn Pn
    go_wp2_with fail
    rw [HHP.out]
    refine Calls.mono (HKS.out _) ?_
    intro e wn hh
    obtain ⟨v1, v2, v3, loG, hiG, rfl, hO, hb, hlo, hhi⟩ := NewC.get hh
    have hTG : w.heap.size ≤ loG := by rw [← hlo]; exact T.out.size
    have hhPG := P.out.2.2.1
    rw [hlo] at hhPG
    have hltPBG := Bx.lt PB.out
    rw [hlo] at hltPBG
    have hlhG : loG ≤ hiG := by rw [← hlo, ← hhi]; exact hb.size
    obtain ⟨Ga, Gi, Gb, Gj, Gc, Gk, rfl, rfl, rfl, -⟩ := OwnC.open hO
    have Tn := Lib.hid (below_next T.out hb)
    have Pn := Lib.hid (OwnC.below P.out hb)
    have PBn := Lib.hid (Bx.below PB.out hb)
    have G := Lib.hid hO
    clear hb hO hh hlo hhi
    clear T P PB
    have T := Tn
    have P := Pn
    have PB := PBn
    clear Tn Pn PBn
    have hltPHG := P.out.2.2.1
    have hltPBHG := Bx.lt PB.out
    have hltGHG := G.out.2.2.1
    have hWHG := T.out.size
    obtain ⟨HG, hHG⟩ : ∃ HG, Array.size (World.heap wn) = HG := ⟨_, rfl⟩
    have HHG : Hid _ := hHG
    rw [hHG] at hWHG hltPHG hltPBHG hltGHG
    have GB : Hid (Bx (wn.alloc (.cells #[.slice Ga y.u.length Gi, .slice Gb y.d.length Gj, .slice Gc y.c.length Gk] 25)) HG (.slice Ga y.u.length Gi) (.slice Gb y.d.length Gj) (.slice Gc y.c.length Gk)) := by rw [← hHG]; exact Bx.new _ _ _ _ _
    clear hHG
    have Tn : Hid (Below w.heap.size w _) := Below.al T.out (.cells #[.slice Ga y.u.length Gi, .slice Gb y.d.length Gj, .slice Gc y.c.length Gk] 25)
    have Pn : Hid _ := OwnC.below P.out ((Below.refl _ _).alloc (Nat.le_refl _) (.cells #[.slice Ga y.u.length Gi, .slice Gb y.d.length Gj, .slice Gc y.c.length Gk] 25))
    have PBn : Hid _ := Bx.below PB.out ((Below.refl _ _).alloc (Nat.le_refl _) (.cells #[.slice Ga y.u.length Gi, .slice Gb y.d.length Gj, .slice Gc y.c.length Gk] 25))
    have Gn : Hid _ := OwnC.below G.out ((Below.refl _ _).alloc (Nat.le_refl _) (.cells #[.slice Ga y.u.length Gi, .slice Gb y.d.length Gj, .slice Gc y.c.length Gk] 25))
    clear T P PB G
    have T := Tn
    have P := Pn
    have PB := PBn
    have G := Gn
    clear Tn Pn PBn Gn
    obtain ⟨⟨c0, c1, c2⟩, -⟩ := PB.out
    obtain ⟨⟨d0, d1, d2⟩, -⟩ := GB.out
    go_wp2_with fail
    rw [HHG.out]
    refine Calls.mono (sameCalls_q Pa y.u.length Pi Pb y.d.length Pj Pc y.c.length Pk Ga y.u.length Gi Gb y.d.length Gj Gc y.c.length Gk y _ (OwnC.cal P.out) (OwnC.cal G.out) m1 m2 m3) ?_
    intro e wn hh
    obtain ⟨he, hb⟩ := (by first | exact hh | exact Ro.mk hh | exact St.mk hh | exact LawOk.mk' hh : Mk _ _ e wn)
    subst he
    have Tn : Hid (Below w.heap.size w wn) := below_next T.out hb
    have Pn : Hid _ := OwnC.below P.out hb
    have PBn : Hid _ := Bx.below PB.out hb
    have Gn : Hid _ := OwnC.below G.out hb
    have GBn : Hid _ := Bx.below GB.out hb
    clear hb hh c0 c1 c2 d0 d1 d2
    clear T P PB G GB
    have T := Tn
    have P := Pn
    have PB := PBn
    have G := Gn
    have GB := GBn
    clear Tn Pn PBn Gn GBn
    obtain ⟨⟨c0, c1, c2⟩, -⟩ := PB.out
    go_wp2_with fail
    refine Calls.mono (alive_c _) ?_
    intro e wn hh
    obtain ⟨he, hb⟩ := (by first | exact hh | exact Ro.mk hh | exact St.mk hh | exact LawOk.mk' hh : Mk _ _ e wn)
    subst he
    have Tn : Hid (Below w.heap.size w wn) := below_next T.out hb
    have Pn : Hid _ := OwnC.below P.out hb
    have PBn : Hid _ := Bx.below PB.out hb
    have Gn : Hid _ := OwnC.below G.out hb
    have GBn : Hid _ := Bx.below GB.out hb
    clear hb hh c0 c1 c2
    clear T P PB G GB
    have T := Tn
    have P := Pn
    have PB := PBn
    have G := Gn
    have GB := GBn
    clear Tn Pn PBn Gn GBn
    go_wp2_with fail
    go_ret
    first | exact LawOk.mk T.out | exact LawOk.mk (Below.dr T.out _)
  obtain ⟨p0, p1⟩ := rd_back hv
  obtain ⟨h3, h4⟩ := rd_f (rd_more hv)
  have h2 : rdB s = true := tr_true hv
  rw [h2] at KI KS
  rw [h3, h4] at KU
  obtain ⟨y, hy⟩ : ∃ y, rd s = y := ⟨_, rfl⟩
  rw [hy] at KI KS p0 p1 l1 l2 l3
  have KT := fun (w' : World) (p1 p2 p3 : Option Addr) (m1 m2 m3 j1 j2 j3 : Nat) (h : Cal w' p1 m1 p2 m2 p3 m3 y) => iCallsText_c p1 m1 j1 p2 m2 j2 p3 m3 j3 y w' h
  have KV := fun (w' : World) (p1 p2 p3 : Option Addr) (m1 m2 m3 j1 j2 j3 : Nat) (h : Cal w' p1 m1 p2 m2 p3 m3 y) => iCallsValid_c p1 m1 j1 p2 m2 j2 p3 m3 j3 y w' h
  rw [p0] at KT
  rw [cvB_t p1] at KV
  have m1 : y.u.length ≤ 1048577 := by omega
  have m2 : y.d.length ≤ 1048577 := by omega
  have m3 : y.c.length ≤ 1048577 := by omega
  have HKI := Lib.hid KI
  have HKS := Lib.hid KS
  have HKU := Lib.hid KU
  have HKT := Lib.hid KT
  have HKV := Lib.hid KV
  clear KI KS KU KT KV hy p0 p1 h2 h3 h4 hv l1 l2 l3 hsz
  go_wp2_with fail
  refine Calls.mono (HKI.out _ (cell_below HM.out T.out)) ?_
  intro e wn hh
  obtain ⟨v1, v2, v3, loP, hiP, rfl, hO, hb, hlo, hhi⟩ := NewC.get hh
  have hTP : w.heap.size ≤ loP := by rw [← hlo]; exact T.out.size
  have hlhP : loP ≤ hiP := by rw [← hlo, ← hhi]; exact hb.size
  obtain ⟨Pa, Pi, Pb, Pj, Pc, Pk, rfl, rfl, rfl, -⟩ := OwnC.open hO
  have Tn := Lib.hid (below_next T.out hb)
  have P := Lib.hid hO
  clear hb hO hh hlo hhi
  clear T
  have T := Tn
  clear Tn
  have hltPHP := P.out.2.2.1
  have hWHP := T.out.size
  obtain ⟨HP, hHP⟩ : ∃ HP, Array.size (World.heap wn) = HP := ⟨_, rfl⟩
  have HHP : Hid _ := hHP
  rw [hHP] at hWHP hltPHP
  have PB : Hid (Bx (wn.alloc (.cells #[.slice Pa y.u.length Pi, .slice Pb y.d.length Pj, .slice Pc y.c.length Pk] 25)) HP (.slice Pa y.u.length Pi) (.slice Pb y.d.length Pj) (.slice Pc y.c.length Pk)) := by rw [← hHP]; exact Bx.new _ _ _ _ _
  clear hHP
  have Tn : Hid (Below w.heap.size w _) := Below.al T.out (.cells #[.slice Pa y.u.length Pi, .slice Pb y.d.length Pj, .slice Pc y.c.length Pk] 25)
  have Pn : Hid _ := OwnC.below P.out ((Below.refl _ _).alloc (Nat.le_refl _) (.cells #[.slice Pa y.u.length Pi, .slice Pb y.d.length Pj, .slice Pc y.c.length Pk] 25))
  clear T P
  have T := Tn
  have P := Pn
  clear Tn Pn
  go_wp2_with fail
  rw [HHP.out]
  refine Calls.mono (HKS.out _) ?_
  intro e wn hh
  obtain ⟨v1, v2, v3, loG, hiG, rfl, hO, hb, hlo, hhi⟩ := NewC.get hh
  have hTG : w.heap.size ≤ loG := by rw [← hlo]; exact T.out.size
  have hhPG := P.out.2.2.1
  rw [hlo] at hhPG
  have hltPBG := Bx.lt PB.out
  rw [hlo] at hltPBG
  have hlhG : loG ≤ hiG := by rw [← hlo, ← hhi]; exact hb.size
  obtain ⟨Ga, Gi, Gb, Gj, Gc, Gk, rfl, rfl, rfl, -⟩ := OwnC.open hO
  have Tn := Lib.hid (below_next T.out hb)
  have Pn := Lib.hid (OwnC.below P.out hb)
  have PBn := Lib.hid (Bx.below PB.out hb)
  have G := Lib.hid hO
  clear hb hO hh hlo hhi
  clear T P PB
  have T := Tn
  have P := Pn
  have PB := PBn
  clear Tn Pn PBn
  have hltPHG := P.out.2.2.1
  have hltPBHG := Bx.lt PB.out
  have hltGHG := G.out.2.2.1
  have hWHG := T.out.size
  obtain ⟨HG, hHG⟩ : ∃ HG, Array.size (World.heap wn) = HG := ⟨_, rfl⟩
  have HHG : Hid _ := hHG
  rw [hHG] at hWHG hltPHG hltPBHG hltGHG
  have GB : Hid (Bx (wn.alloc (.cells #[.slice Ga y.u.length Gi, .slice Gb y.d.length Gj, .slice Gc y.c.length Gk] 25)) HG (.slice Ga y.u.length Gi) (.slice Gb y.d.length Gj) (.slice Gc y.c.length Gk)) := by rw [← hHG]; exact Bx.new _ _ _ _ _
  clear hHG
  have Tn : Hid (Below w.heap.size w _) := Below.al T.out (.cells #[.slice Ga y.u.length Gi, .slice Gb y.d.length Gj, .slice Gc y.c.length Gk] 25)
  have Pn : Hid _ := OwnC.below P.out ((Below.refl _ _).alloc (Nat.le_refl _) (.cells #[.slice Ga y.u.length Gi, .slice Gb y.d.length Gj, .slice Gc y.c.length Gk] 25))
  have PBn : Hid _ := Bx.below PB.out ((Below.refl _ _).alloc (Nat.le_refl _) (.cells #[.slice Ga y.u.length Gi, .slice Gb y.d.length Gj, .slice Gc y.c.length Gk] 25))
  have Gn : Hid _ := OwnC.below G.out ((Below.refl _ _).alloc (Nat.le_refl _) (.cells #[.slice Ga y.u.length Gi, .slice Gb y.d.length Gj, .slice Gc y.c.length Gk] 25))
  clear T P PB G
  have T := Tn
  have P := Pn
  have PB := PBn
  have G := Gn
  clear Tn Pn PBn Gn
  obtain ⟨⟨c0, c1, c2⟩, -⟩ := PB.out
  obtain ⟨⟨d0, d1, d2⟩, -⟩ := GB.out
  go_wp2_with fail
  rw [HHG.out]
  refine Calls.mono (sameCalls_q Pa y.u.length Pi Pb y.d.length Pj Pc y.c.length Pk Ga y.u.length Gi Gb y.d.length Gj Gc y.c.length Gk y _ (OwnC.cal P.out) (OwnC.cal G.out) m1 m2 m3) ?_
  intro e wn hh
  obtain ⟨he, hb⟩ := (by first | exact hh | exact Ro.mk hh | exact St.mk hh | exact LawOk.mk' hh : Mk _ _ e wn)
  subst he
  have Tn : Hid (Below w.heap.size w wn) := below_next T.out hb
  have Pn : Hid _ := OwnC.below P.out hb
  have PBn : Hid _ := Bx.below PB.out hb
  have Gn : Hid _ := OwnC.below G.out hb
  have GBn : Hid _ := Bx.below GB.out hb
  clear hb hh c0 c1 c2 d0 d1 d2
  clear T P PB G GB
  have T := Tn
  have P := Pn
  have PB := PBn
  have G := Gn
  have GB := GBn
  clear Tn Pn PBn Gn GBn
  go_wp2_with fail
  refine Calls.mono (HKU.out _ (cell_below HM.out T.out)) ?_
  intro e wn hh
  obtain ⟨v1, v2, v3, loU, hiU, rfl, hO, hb, hlo, hhi⟩ := NewC.get hh
  have hTU : w.heap.size ≤ loU := by rw [← hlo]; exact T.out.size
  have hhPU := P.out.2.2.1
  rw [hlo] at hhPU
  have hltPBU := Bx.lt PB.out
  rw [hlo] at hltPBU
  have hhGU := G.out.2.2.1
  rw [hlo] at hhGU
  have hltGBU := Bx.lt GB.out
  rw [hlo] at hltGBU
  have hlhU : loU ≤ hiU := by rw [← hlo, ← hhi]; exact hb.size
  obtain ⟨Ua, Ui, Ub, Uj, Uc, Uk, rfl, rfl, rfl, -⟩ := OwnC.open hO
  have Tn := Lib.hid (below_next T.out hb)
  have Pn := Lib.hid (OwnC.below P.out hb)
  have PBn := Lib.hid (Bx.below PB.out hb)
  have Gn := Lib.hid (OwnC.below G.out hb)
  have GBn := Lib.hid (Bx.below GB.out hb)
  have U := Lib.hid hO
  clear hb hO hh hlo hhi
  clear T P PB G GB
  have T := Tn
  have P := Pn
  have PB := PBn
  have G := Gn
  have GB := GBn
  clear Tn Pn PBn Gn GBn
  have hltPHU := P.out.2.2.1
  have hltPBHU := Bx.lt PB.out
  have hltGHU := G.out.2.2.1
  have hltGBHU := Bx.lt GB.out
  have hltUHU := U.out.2.2.1
  have hWHU := T.out.size
  obtain ⟨HU, hHU⟩ : ∃ HU, Array.size (World.heap wn) = HU := ⟨_, rfl⟩
  have HHU : Hid _ := hHU
  rw [hHU] at hWHU hltPHU hltPBHU hltGHU hltGBHU hltUHU
  have UB : Hid (Bx (wn.alloc (.cells #[.slice Ua cz.u.length Ui, .slice Ub cz.d.length Uj, .slice Uc cz.c.length Uk] 25)) HU (.slice Ua cz.u.length Ui) (.slice Ub cz.d.length Uj) (.slice Uc cz.c.length Uk)) := by rw [← hHU]; exact Bx.new _ _ _ _ _
  clear hHU
  have Tn : Hid (Below w.heap.size w _) := Below.al T.out (.cells #[.slice Ua cz.u.length Ui, .slice Ub cz.d.length Uj, .slice Uc cz.c.length Uk] 25)
  have Pn : Hid _ := OwnC.below P.out ((Below.refl _ _).alloc (Nat.le_refl _) (.cells #[.slice Ua cz.u.length Ui, .slice Ub cz.d.length Uj, .slice Uc cz.c.length Uk] 25))
  have PBn : Hid _ := Bx.below PB.out ((Below.refl _ _).alloc (Nat.le_refl _) (.cells #[.slice Ua cz.u.length Ui, .slice Ub cz.d.length Uj, .slice Uc cz.c.length Uk] 25))
  have Gn : Hid _ := OwnC.below G.out ((Below.refl _ _).alloc (Nat.le_refl _) (.cells #[.slice Ua cz.u.length Ui, .slice Ub cz.d.length Uj, .slice Uc cz.c.length Uk] 25))
  have GBn : Hid _ := Bx.below GB.out ((Below.refl _ _).alloc (Nat.le_refl _) (.cells #[.slice Ua cz.u.length Ui, .slice Ub cz.d.length Uj, .slice Uc cz.c.length Uk] 25))
  have Un : Hid _ := OwnC.below U.out ((Below.refl _ _).alloc (Nat.le_refl _) (.cells #[.slice Ua cz.u.length Ui, .slice Ub cz.d.length Uj, .slice Uc cz.c.length Uk] 25))
  clear T P PB G GB U
  have T := Tn
  have P := Pn
  have PB := PBn
  have G := Gn
  have GB := GBn
  have U := Un
  clear Tn Pn PBn Gn GBn Un
  obtain ⟨⟨c0, c1, c2⟩, -⟩ := PB.out
  go_wp2_with fail
  rw [HHU.out]
  refine Calls.mono (HKV.out _ _ _ _ _ _ _ _ _ _ (OwnC.cal P.out)) ?_
  intro e wn hh
  obtain ⟨he, hb⟩ := (by first | exact hh | exact Ro.mk hh | exact St.mk hh | exact LawOk.mk' hh : Mk _ _ e wn)
  subst he
  have Tn : Hid (Below w.heap.size w wn) := below_next T.out hb
  have Pn : Hid _ := OwnC.below P.out hb
  have PBn : Hid _ := Bx.below PB.out hb
  have Gn : Hid _ := OwnC.below G.out hb
  have GBn : Hid _ := Bx.below GB.out hb
  have Un : Hid _ := OwnC.below U.out hb
  have UBn : Hid _ := Bx.below UB.out hb
  clear hb hh c0 c1 c2
  clear T P PB G GB U UB
  have T := Tn
  have P := Pn
  have PB := PBn
  have G := Gn
  have GB := GBn
  have U := Un
  have UB := UBn
  clear Tn Pn PBn Gn GBn Un UBn
  obtain ⟨⟨c0, c1, c2⟩, -⟩ := PB.out
  go_wp2_with fail
  refine Calls.mono (HKT.out _ _ _ _ _ _ _ _ _ _ (OwnC.cal P.out)) ?_
  intro e wn hh
  obtain ⟨he, hb⟩ := (by first | exact hh | exact Ro.mk hh | exact St.mk hh | exact LawOk.mk' hh : Mk _ _ e wn)
  subst he
  have Tn : Hid (Below w.heap.size w wn) := below_next T.out hb
  have Pn : Hid _ := OwnC.below P.out hb
  have PBn : Hid _ := Bx.below PB.out hb
  have Gn : Hid _ := OwnC.below G.out hb
  have GBn : Hid _ := Bx.below GB.out hb
  have Un : Hid _ := OwnC.below U.out hb
  have UBn : Hid _ := Bx.below UB.out hb
  clear hb hh c0 c1 c2
  clear T P PB G GB U UB
  have T := Tn
  have P := Pn
  have PB := PBn
  have G := Gn
  have GB := GBn
  have U := Un
  have UB := UBn
  clear Tn Pn PBn Gn GBn Un UBn
  go_wp2_with fail
  go_ret
  first | exact LawOk.mk T.out | exact LawOk.mk (Below.dr T.out _)
end Go.Proofs.YtgenccbpkolmbaaDoor

namespace Go.Proofs.YtgenccbpkolmbaaDoor
open Go.RowKit
set_option linter.unusedVariables false

def CellT (w : World) (G i : Nat) : Prop := ∃ t : ByteArray, w.cell? ⟨G, i, none⟩ = some (.string t) ∧ t.size ≤ 1
theorem CellT.lt {w : World} {G i : Nat} (h : CellT w G i) : G < w.heap.size := by
  obtain ⟨t, h, _⟩ := h
  exact World.block_lt_of_cell? w _ h
theorem CellT.al {w : World} {G i : Nat} (h : CellT w G i) (o : Obj) : CellT (w.alloc o) G i := by
  obtain ⟨t, h1, h2⟩ := h
  exact ⟨t, cell_below h1 ((Below.refl _ _).alloc (Nat.le_refl _) o), h2⟩
theorem CellT.fr {w w' : World} {G i g : Nat} (h : CellT w G i) (k : Fr w g w') (hne : G ≠ g) : CellT w' G i := by
  obtain ⟨t, h1, h2⟩ := h
  exact ⟨t, World.grownBy.cell k h1 (by simp; exact hne), h2⟩
structure RJ (W : World) (g c0 k : Nat) (s : ByteArray) (ln : Nat → Bool) (vs : Nat → Value) (w : World) : Prop where
  fr : Fr W g w
  rd : ln 5 = false → Rd w g c0
  gw : g < w.heap.size
  u3 : vs 3 = .pointer (some ⟨g, 0, none⟩)
  u4 : vs 4 = .string s
  u5 : vs 5 = .int .i64 k
  v26 : ln 0 = true → vs 26 = .string s
  v27 : ln 1 = true → vs 27 = .int .i64 k
  v28 : ln 2 = true → ∃ t : ByteArray, vs 28 = .string t ∧ t.size ≤ k
  v29 : ln 3 = true → ∃ G, vs 29 = .slice (some ⟨G, 0, none⟩) 4 4 ∧ G ≠ g ∧ ∀ i, i < 4 → CellT w G i
  v30 : ln 4 = true → vs 30 = .pointer (some ⟨g, 0, none⟩)
  v31 : ln 5 = true → ∃ p : Nat, vs 31 = .int .i64 p ∧ p < 4
  v32 : ln 6 = true → ∃ G i, vs 32 = .pointer (some ⟨G, i, none⟩) ∧ G ≠ g ∧ CellT w G i
  v33 : ln 7 = true → ∃ t : ByteArray, vs 33 = .string t ∧ t.size ≤ 1
  v34 : ln 8 = true → ∃ t : ByteArray, vs 34 = .string t ∧ t.size ≤ k + 1
  v35 : ln 9 = true → vs 35 = .string s
  v36 : ln 10 = true → vs 36 = .int .i64 k
  v37 : ln 11 = true → vs 37 = .int .i64 ((k : Int) + 1)
  v38 : ln 12 = true → ∃ t : ByteArray, vs 38 = .string t ∧ t.size + (k + 1) ≤ s.size
  v39 : ln 13 = true → ∃ t : ByteArray, vs 39 = .string t ∧ t.size ≤ s.size + 1
  v2 : ln 14 = true → ∃ t : ByteArray, vs 2 = .string t ∧ t.size ≤ s.size + 1

set_option maxHeartbeats 2000000 in
theorem DrawReadCalls_c (a : Option Addr) (n cap : Nat) (w : World) (hb : Byt w a n) (hn : n ≤ cap) (hcap : cap ≤ maxLen) :
    Calls Tryd.prog 13 #[.slice a n cap] w (DrawnT w) := by
  go_enter Tryd.func13, Tryd.ntmps13
  go_wp2_with fail
  refine (open_c a n cap _ hb hn hcap).mono ?_
  rintro e w1 ⟨g, hg, rfl, hr, hB⟩
  have R1 := Lib.hid hr
  have HB1 := Lib.hid hB
  have HG := Lib.hid hg
  clear hr hB hb hn hcap hg
  go_wp2_with fail
  refine (pick_c g 0 8 _ R1.out (by omega) (by omega)).mono ?_
  rintro e w2 ⟨p, rfl, z0, z1, hr2, hf2, -⟩
  obtain ⟨q, hq⟩ : ∃ q : Nat, 1 + p = q := ⟨(1 + p).toNat, by omega⟩
  have R2 := Lib.hid hr2
  have HF2 := Lib.hid (show Below w.heap.size w w2 from Fr.below HB1.out hf2 HG.out)
  have q1 : 1 ≤ q := by omega
  have q8 : q ≤ 8 := by omega
  clear hr2 hf2 R1 HB1
  go_wp2_with fail
  try rw [hq]
  clear hq z0 z1
  refine Calls.mono (l20Calls_c g 1 q 0 _ R2.out (by omega) q1 q8 (by omega) (by omega)) ?_
  intro e w3 hh
  obtain ⟨a1, n1, k1, a2, n2, k2, a3, n3, k3, x, c', rfl, ⟨o1, o2, o3⟩, hl, hr3, hc3, hf⟩ := DrawnC.cal hh
  have R3 := Lib.hid hr3
  have HF3 := Lib.hid (show Below w.heap.size w w3 from Fr.below HF2.out hf HG.out)
  have HC := Lib.hid (show Cal w3 a1 n1 a2 n2 a3 n3 x from ⟨OwnB.cal o1, OwnB.cal o2, OwnB.cal o3⟩)
  obtain ⟨s, hs⟩ : ∃ s, ctx x = s := ⟨_, rfl⟩
  have KT := sCallsText_c a1 n1 k1 a2 n2 k2 a3 n3 k3 x w3 HC.out
  rw [hs] at KT
  have hsz : s.size ≤ 100 := by
    obtain ⟨⟨l1, -⟩, ⟨l2, -⟩, ⟨l3, -⟩⟩ := HC.out
    obtain ⟨m1, m2, m3⟩ := hl
    subst hs
    by_cases hv : CV x
    · rw [ctx_t hv]
      simp only [ByteArray.size_append, tbs_size]
      show x.u.length + 1 + x.d.length + 1 + x.c.length ≤ 100
      omega
    · rw [ctx_f hv]
      show 0 ≤ 100
      omega
  have HT := Lib.hid KT
  clear KT hs o1 o2 o3 hh hf hl hr3 HF2 R2
  go_wp2_with fail
  refine Calls.mono HT.out ?_
  rintro e w4 ⟨rfl, hb4⟩
  have R4 := Lib.hid (R3.out.below hb4)
  have HB4 := Lib.hid (below_next HF3.out hb4)
  clear hb4 R3 HF3 HC HT
  go_wp2_with fail
  refine (pick_c g c' 3 _ R4.out (by omega) (by omega)).mono ?_
  rintro e w5 ⟨p, rfl, z0, z1, hr5, hf5, -⟩
  have R5 := Lib.hid hr5
  have HB5 := Lib.hid (show Below w.heap.size w w5 from Fr.below HB4.out hf5 HG.out)
  clear hr5 hf5 R4 HB4
  by_cases hp : p = 0
  case neg =>
    have t0 : (p == 0) = false := beq_false_of_ne hp
    go_wp2_with fail
    go_ret
    exact ⟨s, rfl, by omega, HB5.out⟩
  subst hp
  by_cases h0 : s.size = 0
  case pos =>
    go_wp2_with fail
    go_ret
    exact ⟨s, rfl, by omega, HB5.out⟩
  go_wp2_with fail
  refine (pick_c g (c' + 1) (s.size : Int) _ R5.out (by omega) (by omega)).mono ?_
  rintro e w6 ⟨p, rfl, y0, y1, hr6, hf6, -⟩
  obtain ⟨k, rfl⟩ : ∃ k : Nat, p = k := ⟨p.toNat, by omega⟩
  have hk : k < s.size := by omega
  have R6 := Lib.hid hr6
  have HB6 := Lib.hid (show Below w.heap.size w w6 from Fr.below HB5.out hf6 HG.out)
  clear hr6 hf6 R5 HB5
  go_wp2_with fail
  refine wp_region_inv (fun ln vs wx => RJ w6 g (c' + 1 + 1) k s ln vs wx) [26, 27, 28, 29, 30, 31, 32, 33, 34, 35, 36, 37, 38, 39, 2]
    (by kernel_rfl) (by kernel_rfl) (by kernel_rfl) (by kernel_rfl) ?h0 ?hobs ?_
  case h0 => exact { fr := Fr.drewN (Fr.refl _ _) 1, rd := fun _ => R6.out.drewN 1, gw := R6.out.lt, u3 := rfl, u4 := rfl, u5 := rfl, v26 := fun h => (by cases h), v27 := fun h => (by cases h), v28 := fun h => (by cases h), v29 := fun h => (by cases h), v30 := fun h => (by cases h), v31 := fun h => (by cases h), v32 := fun h => (by cases h), v33 := fun h => (by cases h), v34 := fun h => (by cases h), v35 := fun h => (by cases h), v36 := fun h => (by cases h), v37 := fun h => (by cases h), v38 := fun h => (by cases h), v39 := fun h => (by cases h), v2 := fun h => (by cases h) }
  case hobs =>
    refine ⟨?_, ?_, ?_, ?_, ?_, ?_, ?_, ?_, ?_, ?_, ?_, ?_, ?_, ?_, ?_, trivial⟩
    · intro ln vs wx hn ha h
      have HH := Lib.hid h
      clear h ha
      go_simp
      have h := HH.out
      exact { fr := h.fr, rd := h.rd, gw := h.gw, u3 := h.u3, u4 := h.u4, u5 := h.u5, v26 := fun _ => h.u4, v27 := h.v27, v28 := h.v28, v29 := h.v29, v30 := h.v30, v31 := h.v31, v32 := h.v32, v33 := h.v33, v34 := h.v34, v35 := h.v35, v36 := h.v36, v37 := h.v37, v38 := h.v38, v39 := h.v39, v2 := h.v2 }
    · intro ln vs wx hn ha h
      have HH := Lib.hid h
      clear h ha
      go_simp
      have h := HH.out
      exact { fr := h.fr, rd := h.rd, gw := h.gw, u3 := h.u3, u4 := h.u4, u5 := h.u5, v26 := h.v26, v27 := fun _ => h.u5, v28 := h.v28, v29 := h.v29, v30 := h.v30, v31 := h.v31, v32 := h.v32, v33 := h.v33, v34 := h.v34, v35 := h.v35, v36 := h.v36, v37 := h.v37, v38 := h.v38, v39 := h.v39, v2 := h.v2 }
    · intro ln vs wx hn ha h
      have q0 : ln 0 = true := ha ⟨0, Ground.data⟩ (by simp) rfl
      have q1 : ln 1 = true := ha ⟨1, Ground.data⟩ (by simp) rfl
      have w1 := h.v26 q0
      have w2 := h.v27 q1
      have qk : k ≤ s.size := by omega
      have HH := Lib.hid h
      clear h ha
      go_simp
      simp only [evOf_tmp, w1, w2]
      go_simp
      have h := HH.out
      exact { fr := h.fr, rd := h.rd, gw := h.gw, u3 := h.u3, u4 := h.u4, u5 := h.u5, v26 := h.v26, v27 := h.v27, v28 := fun _ => ⟨_, rfl, by rw [ByteArray.size_extract]; omega⟩, v29 := h.v29, v30 := h.v30, v31 := h.v31, v32 := h.v32, v33 := h.v33, v34 := h.v34, v35 := h.v35, v36 := h.v36, v37 := h.v37, v38 := h.v38, v39 := h.v39, v2 := h.v2 }
    · intro ln vs wx hn ha h
      have hgx := h.gw
      have hc4 : ∀ i, i < 4 → CellT (wx.alloc (.cells #[.string ⟨#[]⟩, .string ⟨#[49]⟩, .string ⟨#[47]⟩, .string ⟨#[50]⟩] 9)) wx.heap.size i := by
        intro i hi
        have : i = 0 ∨ i = 1 ∨ i = 2 ∨ i = 3 := by omega
        rcases this with rfl | rfl | rfl | rfl <;> exact ⟨_, World.cell?_alloc_at _ _ _ _ rfl, by decide⟩
      have HC4 := Lib.hid hc4
      have HH := Lib.hid h
      clear h ha hc4
      go_simp
      simp only [evOf]
      go_simp
      have h := HH.out
      exact { fr := h.fr.alloc _, rd := fun hh => (h.rd hh).alloc _, gw := (by show g < (wx.alloc _).heap.size; simp; omega), u3 := h.u3, u4 := h.u4, u5 := h.u5, v26 := h.v26, v27 := h.v27, v28 := h.v28, v29 := fun _ => ⟨wx.heap.size, rfl, by omega, HC4.out⟩, v30 := h.v30, v31 := h.v31, v32 := fun hh => (let ⟨G, i, e, hne, hc⟩ := h.v32 hh; ⟨G, i, e, hne, hc.al _⟩), v33 := h.v33, v34 := h.v34, v35 := h.v35, v36 := h.v36, v37 := h.v37, v38 := h.v38, v39 := h.v39, v2 := h.v2 }
    · intro ln vs wx hn ha h
      have HH := Lib.hid h
      clear h ha
      go_simp
      have h := HH.out
      exact { fr := h.fr, rd := h.rd, gw := h.gw, u3 := h.u3, u4 := h.u4, u5 := h.u5, v26 := h.v26, v27 := h.v27, v28 := h.v28, v29 := h.v29, v30 := fun _ => h.u3, v31 := h.v31, v32 := h.v32, v33 := h.v33, v34 := h.v34, v35 := h.v35, v36 := h.v36, v37 := h.v37, v38 := h.v38, v39 := h.v39, v2 := h.v2 }
    · intro ln vs wx hn ha h
      have q4 : ln 4 = true := ha ⟨4, Ground.data⟩ (by simp) rfl
      have w1 := h.v30 q4
      have RR := Lib.hid (h.rd hn)
      have HH := Lib.hid h
      clear h ha
      go_simp
      simp only [evOf_tmp, w1]
      have h := HH.out
      refine (pick_c g (c' + 1 + 1) 4 wx RR.out (by omega) (by omega)).mono ?_
      rintro e w' ⟨p, rfl, y0, y1, -, hf, -⟩
      obtain ⟨j, rfl⟩ : ∃ j : Nat, p = j := ⟨p.toNat, by omega⟩
      exact ⟨_, rfl, { fr := Fr.trans h.fr hf, rd := fun hh => (by cases hh), gw := Nat.lt_of_lt_of_le h.gw hf.size, u3 := h.u3, u4 := h.u4, u5 := h.u5, v26 := h.v26, v27 := h.v27, v28 := h.v28, v29 := fun hh => (let ⟨G, e, hne, hc⟩ := h.v29 hh; ⟨G, e, hne, fun i hi => (hc i hi).fr hf hne⟩), v30 := h.v30, v31 := fun _ => ⟨j, rfl, by omega⟩, v32 := fun hh => (let ⟨G, i, e, hne, hc⟩ := h.v32 hh; ⟨G, i, e, hne, hc.fr hf hne⟩), v33 := h.v33, v34 := h.v34, v35 := h.v35, v36 := h.v36, v37 := h.v37, v38 := h.v38, v39 := h.v39, v2 := h.v2 }⟩
    · intro ln vs wx hn ha h
      have q3 : ln 3 = true := ha ⟨3, Ground.data⟩ (by simp) rfl
      have q5 : ln 5 = true := ha ⟨5, Ground.data⟩ (by simp) rfl
      obtain ⟨G, w1, hne, hc⟩ := h.v29 q3
      obtain ⟨j, w2, hj⟩ := h.v31 q5
      have hj4 : (j : Int) < 4 := by omega
      have HH := Lib.hid h
      clear h ha
      go_simp
      simp only [evOf_tmp, w1, w2]
      go_simp
      have h := HH.out
      exact { fr := h.fr, rd := h.rd, gw := h.gw, u3 := h.u3, u4 := h.u4, u5 := h.u5, v26 := h.v26, v27 := h.v27, v28 := h.v28, v29 := h.v29, v30 := h.v30, v31 := h.v31, v32 := fun _ => ⟨G, j, rfl, hne, hc j hj⟩, v33 := h.v33, v34 := h.v34, v35 := h.v35, v36 := h.v36, v37 := h.v37, v38 := h.v38, v39 := h.v39, v2 := h.v2 }
    · intro ln vs wx hn ha h
      have q6 : ln 6 = true := ha ⟨6, Ground.data⟩ (by simp) rfl
      obtain ⟨G, j, w1, hne, t, hc, ht⟩ := h.v32 q6
      have HH := Lib.hid h
      clear h ha
      go_simp
      simp only [evOf_tmp, w1]
      go_simp
      have h := HH.out
      exact { fr := h.fr, rd := h.rd, gw := h.gw, u3 := h.u3, u4 := h.u4, u5 := h.u5, v26 := h.v26, v27 := h.v27, v28 := h.v28, v29 := h.v29, v30 := h.v30, v31 := h.v31, v32 := h.v32, v33 := fun _ => ⟨t, rfl, ht⟩, v34 := h.v34, v35 := h.v35, v36 := h.v36, v37 := h.v37, v38 := h.v38, v39 := h.v39, v2 := h.v2 }
    · intro ln vs wx hn ha h
      have q2 : ln 2 = true := ha ⟨2, Ground.data⟩ (by simp) rfl
      have q7 : ln 7 = true := ha ⟨7, Ground.data⟩ (by simp) rfl
      obtain ⟨t1, w1, k1⟩ := h.v28 q2
      obtain ⟨t2, w2, k2⟩ := h.v33 q7
      have q9 : ¬ (9223372036854775807 < t1.size + t2.size) := by omega
      have HH := Lib.hid h
      clear h ha
      go_simp
      simp only [evOf_tmp, w1, w2]
      go_simp
      have h := HH.out
      exact { fr := h.fr, rd := h.rd, gw := h.gw, u3 := h.u3, u4 := h.u4, u5 := h.u5, v26 := h.v26, v27 := h.v27, v28 := h.v28, v29 := h.v29, v30 := h.v30, v31 := h.v31, v32 := h.v32, v33 := h.v33, v34 := fun _ => ⟨_, rfl, by rw [ByteArray.size_append]; omega⟩, v35 := h.v35, v36 := h.v36, v37 := h.v37, v38 := h.v38, v39 := h.v39, v2 := h.v2 }
    · intro ln vs wx hn ha h
      have HH := Lib.hid h
      clear h ha
      go_simp
      have h := HH.out
      exact { fr := h.fr, rd := h.rd, gw := h.gw, u3 := h.u3, u4 := h.u4, u5 := h.u5, v26 := h.v26, v27 := h.v27, v28 := h.v28, v29 := h.v29, v30 := h.v30, v31 := h.v31, v32 := h.v32, v33 := h.v33, v34 := h.v34, v35 := fun _ => h.u4, v36 := h.v36, v37 := h.v37, v38 := h.v38, v39 := h.v39, v2 := h.v2 }
    · intro ln vs wx hn ha h
      have HH := Lib.hid h
      clear h ha
      go_simp
      have h := HH.out
      exact { fr := h.fr, rd := h.rd, gw := h.gw, u3 := h.u3, u4 := h.u4, u5 := h.u5, v26 := h.v26, v27 := h.v27, v28 := h.v28, v29 := h.v29, v30 := h.v30, v31 := h.v31, v32 := h.v32, v33 := h.v33, v34 := h.v34, v35 := h.v35, v36 := fun _ => h.u5, v37 := h.v37, v38 := h.v38, v39 := h.v39, v2 := h.v2 }
    · intro ln vs wx hn ha h
      have q10 : ln 10 = true := ha ⟨10, Ground.data⟩ (by simp) rfl
      have w1 := h.v36 q10
      have HW := Lib.hid (show IntKind.i64.wrap ((k : Int) + 1) = (k : Int) + 1 from by rw [IntKind.wrap_i64]; omega)
      have HH := Lib.hid h
      clear h ha
      go_simp
      simp only [evOf_tmp, w1]
      go_simp
      have h := HH.out
      exact { fr := h.fr, rd := h.rd, gw := h.gw, u3 := h.u3, u4 := h.u4, u5 := h.u5, v26 := h.v26, v27 := h.v27, v28 := h.v28, v29 := h.v29, v30 := h.v30, v31 := h.v31, v32 := h.v32, v33 := h.v33, v34 := h.v34, v35 := h.v35, v36 := h.v36, v37 := fun _ => congrArg (Value.int .i64) HW.out, v38 := h.v38, v39 := h.v39, v2 := h.v2 }
    · intro ln vs wx hn ha h
      have q9 : ln 9 = true := ha ⟨9, Ground.data⟩ (by simp) rfl
      have q11 : ln 11 = true := ha ⟨11, Ground.data⟩ (by simp) rfl
      have w1 := h.v35 q9
      have w2 := h.v37 q11
      have qk : 0 ≤ (k : Int) + 1 ∧ (k : Int) + 1 ≤ s.size := by omega
      have HH := Lib.hid h
      clear h ha
      go_simp
      simp only [evOf_tmp, w1, w2]
      go_simp
      have h := HH.out
      exact { fr := h.fr, rd := h.rd, gw := h.gw, u3 := h.u3, u4 := h.u4, u5 := h.u5, v26 := h.v26, v27 := h.v27, v28 := h.v28, v29 := h.v29, v30 := h.v30, v31 := h.v31, v32 := h.v32, v33 := h.v33, v34 := h.v34, v35 := h.v35, v36 := h.v36, v37 := h.v37, v38 := fun _ => ⟨_, rfl, by rw [ByteArray.size_extract]; omega⟩, v39 := h.v39, v2 := h.v2 }
    · intro ln vs wx hn ha h
      have q8 : ln 8 = true := ha ⟨8, Ground.data⟩ (by simp) rfl
      have q12 : ln 12 = true := ha ⟨12, Ground.data⟩ (by simp) rfl
      obtain ⟨t1, w1, k1⟩ := h.v34 q8
      obtain ⟨t2, w2, k2⟩ := h.v38 q12
      have q9 : ¬ (9223372036854775807 < t1.size + t2.size) := by omega
      have HH := Lib.hid h
      clear h ha
      go_simp
      simp only [evOf_tmp, w1, w2]
      go_simp
      have h := HH.out
      exact { fr := h.fr, rd := h.rd, gw := h.gw, u3 := h.u3, u4 := h.u4, u5 := h.u5, v26 := h.v26, v27 := h.v27, v28 := h.v28, v29 := h.v29, v30 := h.v30, v31 := h.v31, v32 := h.v32, v33 := h.v33, v34 := h.v34, v35 := h.v35, v36 := h.v36, v37 := h.v37, v38 := h.v38, v39 := fun _ => ⟨_, rfl, by rw [ByteArray.size_append]; omega⟩, v2 := h.v2 }
    · intro ln vs wx hn ha h
      have q13 : ln 13 = true := ha ⟨13, Ground.data⟩ (by simp) rfl
      obtain ⟨t, w1, ht⟩ := h.v39 q13
      have HH := Lib.hid h
      clear h ha
      go_simp
      simp only [evOf_tmp, w1]
      go_simp
      have h := HH.out
      exact { fr := h.fr, rd := h.rd, gw := h.gw, u3 := h.u3, u4 := h.u4, u5 := h.u5, v26 := h.v26, v27 := h.v27, v28 := h.v28, v29 := h.v29, v30 := h.v30, v31 := h.v31, v32 := h.v32, v33 := h.v33, v34 := h.v34, v35 := h.v35, v36 := h.v36, v37 := h.v37, v38 := h.v38, v39 := h.v39, v2 := fun _ => ⟨t, rfl, ht⟩ }
  intro vs wq hI
  obtain ⟨t, e, ht⟩ := hI.v2 rfl
  have N := Lib.hid (show DrawnT w (.returned (.string t)) wq from ⟨t, rfl, by omega, Fr.below HB6.out hI.fr HG.out⟩)
  simp (decide := true) only [over, Nat.reduceAdd, if_true, if_false]
  rw [e]
  clear hI e R6 HB6
  go_wp2_with fail
  go_ret
  exact N.out
theorem ReadCalls_w (a : Option Addr) (n cap : Nat) (w : World) (hb : Byt w a n) (hn : n ≤ cap) (hcap : cap ≤ maxLen) (hm : ∃ m, w.cell? ⟨0, 0, none⟩ = some (.int .i64 m)) : Calls Tryd.prog 4 #[.slice a n cap] w (LawOk w) :=
  ReadCalls_of a n cap w hb hn hcap hm (DrawReadCalls_c a n cap w hb hn hcap)
end Go.Proofs.YtgenccbpkolmbaaDoor
