/- The law of CallsText: the walk. -/
import Derived.Test.YtgenccbpkolmbaaDoor8RJ
import Derived.Test.YtgenccbpkolmbaaDoor8RG
namespace Go.Proofs.YtgenccbpkolmbaaDoor
open Go.RowKit
set_option linter.unusedVariables false

theorem bits_tbl (xs : List Bool) : bits (tbl xs) = xs := by
  unfold bits tbl
  rw [List.map_map]
  refine (List.map_congr_left fun b hb => ?_).trans (List.map_id xs)
  cases b <;> rfl
theorem cut_ctx {x : Cs} (h : CV x) : cut1 (ctx x).data.toList = [tbl x.u, tbl x.d, tbl x.c] := by
  rw [ctx_data h, cut1_at _ _ (clean_no (tbl_clean _)), cut1_at _ _ (clean_no (tbl_clean _)), cut1_no _ (clean_no (tbl_clean _))]
theorem rd_ctx {x : Cs} (h : CV x) : rd (ctx x) = x ∧ rdB (ctx x) = true := by
  have e : (⟨bits (tbl x.u), bits (tbl x.d), bits (tbl x.c)⟩ : Cs) = x := Cs.eq (bits_tbl _) (bits_tbl _) (bits_tbl _)
  have := rd_t (cut_ctx h) ⟨tbl_clean _, tbl_clean _, tbl_clean _⟩ (by rw [e]; exact h)
  rw [e] at this
  exact this
theorem ctx_size {x : Cs} (h : CV x) : (ctx x).size ≤ 1048576 ∧ (ctx x).toList ≠ [] := by
  obtain ⟨h1, h2, h3, h4, -⟩ := id h
  rw [Lib.toList_data, Lib.size_eq, ctx_data h]
  refine ⟨?_, by simp⟩
  simp [tbl]
  omega
theorem sameCalls_q (a1 : Option Addr) (n1 k1 : Nat) (a2 : Option Addr) (n2 k2 : Nat) (a3 : Option Addr) (n3 k3 : Nat) (a4 : Option Addr) (n4 k4 : Nat) (a5 : Option Addr) (n5 k5 : Nat) (a6 : Option Addr) (n6 k6 : Nat) (x : Cs) (w : World) (hX : Cal w a1 n1 a2 n2 a3 n3 x) (hY : Cal w a4 n4 a5 n5 a6 n6 x) (m1 : n1 ≤ 1048577) (m2 : n2 ≤ 1048577) (m3 : n3 ≤ 1048577) :
    Calls Tryd.prog 12 #[(.agg #[.slice a1 n1 k1, .slice a2 n2 k2, .slice a3 n3 k3]), .agg #[.slice a4 n4 k4, .slice a5 n5 k5, .slice a6 n6 k6]] w (Mk w (.bool true)) := by
  have K := sameCalls_c a1 n1 k1 a2 n2 k2 a3 n3 k3 x a4 n4 k4 a5 n5 k5 a6 n6 k6 x w hX hY m1 m2 m3
  rw [tr_true rfl] at K
  exact K
set_option maxHeartbeats 4000000 in
theorem CallsText_w (a : Option Addr) (n cap : Nat) (w : World) (hb : Byt w a n) (hn : n ≤ cap) (hcap : cap ≤ maxLen) (hm : ∃ m, w.cell? ⟨0, 0, none⟩ = some (.int .i64 m)) :
    Calls Tryd.prog 3 #[.slice a n cap] w (LawOk w) := by
  have hcap' := hcap
  unfold maxLen at hcap'
  obtain ⟨m, hm⟩ := hm
  have HM := Lib.hid hm
  clear hm
  by_cases bign : 1048576 < n
  · go_enter Tryd.func3, Tryd.ntmps3
    go_wp2_with fail
    go_ret
    exact LawOk.mk (Below.refl _ _)
  go_enter Tryd.func3, Tryd.ntmps3
  go_wp2_with fail
  refine (DrawCallsText_c a n cap _ hb hn hcap).mono ?_
  rintro e wn ⟨a1, n1, k1, a2, n2, k2, a3, n3, k3, x, rfl, hX, ⟨l1, l2, l3⟩, hB⟩
  have T := Lib.hid hB
  have X := Lib.hid hX
  have x1 := hX.1.1
  have x2 := hX.2.1.1
  have x3 := hX.2.2.1
  have KI := fun w' (h : Cal w' a1 n1 a2 n2 a3 n3 x) => iCallsText_c a1 n1 k1 a2 n2 k2 a3 n3 k3 x w' h
  have KS := fun w' (h : Cal w' a1 n1 a2 n2 a3 n3 x) => sCallsText_c a1 n1 k1 a2 n2 k2 a3 n3 k3 x w' h
  have KV := fun w' (h : Cal w' a1 n1 a2 n2 a3 n3 x) => iCallsValid_c a1 n1 k1 a2 n2 k2 a3 n3 k3 x w' h
  clear hB hX hb
  have hWHC := T.out.size
  obtain ⟨HC, hHC⟩ : ∃ HC, Array.size (World.heap wn) = HC := ⟨_, rfl⟩
  have HHC : Hid _ := hHC
  rw [hHC] at hWHC
  have CB : Hid (Bx (wn.alloc (.cells #[.slice a1 n1 k1, .slice a2 n2 k2, .slice a3 n3 k3] 25)) HC (.slice a1 n1 k1) (.slice a2 n2 k2) (.slice a3 n3 k3)) := by rw [← hHC]; exact Bx.new _ _ _ _ _
  clear hHC
  have Tn : Hid (Below w.heap.size w _) := Below.al T.out (.cells #[.slice a1 n1 k1, .slice a2 n2 k2, .slice a3 n3 k3] 25)
  have Xn : Hid _ := Cal.below X.out ((Below.refl _ _).alloc (Nat.le_refl _) (.cells #[.slice a1 n1 k1, .slice a2 n2 k2, .slice a3 n3 k3] 25))
  clear T X
  have T := Tn
  have X := Xn
  clear Tn Xn
  by_cases hv : CV x
  case neg =>
    rw [ctx_f hv] at KI KS
    rw [cvB_f hv] at KV
    have HKI := Lib.hid KI
    have HKS := Lib.hid KS
    have HKV := Lib.hid KV
    clear KI KS KV hv x1 x2 x3 l1 l2 l3
    obtain ⟨⟨c0, c1, c2⟩, -⟩ := CB.out
    go_wp2_with fail
    rw [HHC.out]
    refine Calls.mono (HKI.out _ X.out) ?_
    intro e wn hh
    obtain ⟨he, hb⟩ := (by first | exact hh | exact Ro.mk hh | exact St.mk hh | exact LawOk.mk' hh : Mk _ _ e wn)
    subst he
    have Tn : Hid (Below w.heap.size w wn) := below_next T.out hb
    have Xn : Hid _ := Cal.below X.out hb
    have CBn : Hid _ := Bx.below CB.out hb
    clear hb hh c0 c1 c2
    clear T X CB
    have T := Tn
    have X := Xn
    have CB := CBn
    clear Tn Xn CBn
    obtain ⟨⟨c0, c1, c2⟩, -⟩ := CB.out
    go_wp2_with fail
    refine Calls.mono (HKS.out _ X.out) ?_
    intro e wn hh
    obtain ⟨he, hb⟩ := (by first | exact hh | exact Ro.mk hh | exact St.mk hh | exact LawOk.mk' hh : Mk _ _ e wn)
    subst he
    have Tn : Hid (Below w.heap.size w wn) := below_next T.out hb
    have Xn : Hid _ := Cal.below X.out hb
    have CBn : Hid _ := Bx.below CB.out hb
    clear hb hh c0 c1 c2
    clear T X CB
    have T := Tn
    have X := Xn
    have CB := CBn
    clear Tn Xn CBn
    obtain ⟨⟨c0, c1, c2⟩, -⟩ := CB.out
    go_wp2_with fail
    refine Calls.mono (HKV.out _ X.out) ?_
    intro e wn hh
    obtain ⟨he, hb⟩ := (by first | exact hh | exact Ro.mk hh | exact St.mk hh | exact LawOk.mk' hh : Mk _ _ e wn)
    subst he
    have Tn : Hid (Below w.heap.size w wn) := below_next T.out hb
    have Xn : Hid _ := Cal.below X.out hb
    have CBn : Hid _ := Bx.below CB.out hb
    clear hb hh c0 c1 c2
    clear T X CB
    have T := Tn
    have X := Xn
    have CB := CBn
    clear Tn Xn CBn
    go_wp2_with fail
    refine Calls.mono (alive_c _) ?_
    intro e wn hh
    obtain ⟨he, hb⟩ := (by first | exact hh | exact Ro.mk hh | exact St.mk hh | exact LawOk.mk' hh : Mk _ _ e wn)
    subst he
    have Tn : Hid (Below w.heap.size w wn) := below_next T.out hb
    have Xn : Hid _ := Cal.below X.out hb
    have CBn : Hid _ := Bx.below CB.out hb
    clear hb hh
    clear T X CB
    have T := Tn
    have X := Xn
    have CB := CBn
    clear Tn Xn CBn
    go_wp2_with fail
    go_ret
    first | exact LawOk.mk T.out | exact LawOk.mk (Below.dr T.out _)
  obtain ⟨hsz, hne⟩ := ctx_size hv
  obtain ⟨hr1, hr2⟩ := rd_ctx hv
  have KR := fun w' (h : w'.cell? ⟨0, 0, none⟩ = some (.int .i64 m)) => iReadCalls_c (ctx x) w' m hsz h
  rw [hr1, hr2] at KR
  have en : (ByteArray.mk #[]).toList = [] := by rw [Lib.toList_data]
  have hne0 : ((ctx x).toList == []) = false := beq_false_of_ne hne
  have e0 : ((ctx x).toList == (ByteArray.mk #[]).toList) = false := by rw [en]; exact hne0
  clear en
  obtain ⟨y, hy⟩ : ∃ y, ctx x = y := ⟨_, rfl⟩
  rw [hy] at KI KS KR e0 hne0
  have HKI := Lib.hid KI
  have HKS := Lib.hid KS
  have HKR := Lib.hid KR
  have m1 : x.u.length ≤ 1048577 := by omega
  have m2 : x.d.length ≤ 1048577 := by omega
  have m3 : x.c.length ≤ 1048577 := by omega
  clear KI KS KR KV hv hy hsz hne hr1 hr2 x1 x2 x3 l1 l2 l3
  obtain ⟨⟨c0, c1, c2⟩, -⟩ := CB.out
  go_wp2_with fail
  rw [HHC.out]
  refine Calls.mono (HKI.out _ X.out) ?_
  intro e wn hh
  obtain ⟨he, hb⟩ := (by first | exact hh | exact Ro.mk hh | exact St.mk hh | exact LawOk.mk' hh : Mk _ _ e wn)
  subst he
  have Tn : Hid (Below w.heap.size w wn) := below_next T.out hb
  have Xn : Hid _ := Cal.below X.out hb
  have CBn : Hid _ := Bx.below CB.out hb
  clear hb hh c0 c1 c2
  clear T X CB
  have T := Tn
  have X := Xn
  have CB := CBn
  clear Tn Xn CBn
  obtain ⟨⟨c0, c1, c2⟩, -⟩ := CB.out
  go_wp2_with fail
  refine Calls.mono (HKS.out _ X.out) ?_
  intro e wn hh
  obtain ⟨he, hb⟩ := (by first | exact hh | exact Ro.mk hh | exact St.mk hh | exact LawOk.mk' hh : Mk _ _ e wn)
  subst he
  have Tn : Hid (Below w.heap.size w wn) := below_next T.out hb
  have Xn : Hid _ := Cal.below X.out hb
  have CBn : Hid _ := Bx.below CB.out hb
  clear hb hh c0 c1 c2
  clear T X CB
  have T := Tn
  have X := Xn
  have CB := CBn
  clear Tn Xn CBn
  go_wp2_with fail
  refine Calls.mono (HKR.out _ (cell_below HM.out T.out)) ?_
  intro e wn hh
  obtain ⟨v1, v2, v3, loP, hiP, rfl, hO, hb, hlo, hhi⟩ := NewC.get hh
  have hTP : w.heap.size ≤ loP := by rw [← hlo]; exact T.out.size
  have hltCBP := Bx.lt CB.out
  rw [hlo] at hltCBP
  have hlhP : loP ≤ hiP := by rw [← hlo, ← hhi]; exact hb.size
  obtain ⟨Pa, Pi, Pb, Pj, Pc, Pk, rfl, rfl, rfl, -⟩ := OwnC.open hO
  have Tn := Lib.hid (below_next T.out hb)
  have Xn := Lib.hid (Cal.below X.out hb)
  have CBn := Lib.hid (Bx.below CB.out hb)
  have P := Lib.hid hO
  clear hb hO hh hlo hhi
  clear T X CB
  have T := Tn
  have X := Xn
  have CB := CBn
  clear Tn Xn CBn
  have hltCBHP := Bx.lt CB.out
  have hltPHP := P.out.2.2.1
  have hWHP := T.out.size
  obtain ⟨HP, hHP⟩ : ∃ HP, Array.size (World.heap wn) = HP := ⟨_, rfl⟩
  have HHP : Hid _ := hHP
  rw [hHP] at hWHP hltCBHP hltPHP
  have PB : Hid (Bx (wn.alloc (.cells #[.slice Pa x.u.length Pi, .slice Pb x.d.length Pj, .slice Pc x.c.length Pk] 25)) HP (.slice Pa x.u.length Pi) (.slice Pb x.d.length Pj) (.slice Pc x.c.length Pk)) := by rw [← hHP]; exact Bx.new _ _ _ _ _
  clear hHP
  have Tn : Hid (Below w.heap.size w _) := Below.al T.out (.cells #[.slice Pa x.u.length Pi, .slice Pb x.d.length Pj, .slice Pc x.c.length Pk] 25)
  have Xn : Hid _ := Cal.below X.out ((Below.refl _ _).alloc (Nat.le_refl _) (.cells #[.slice Pa x.u.length Pi, .slice Pb x.d.length Pj, .slice Pc x.c.length Pk] 25))
  have CBn : Hid _ := Bx.below CB.out ((Below.refl _ _).alloc (Nat.le_refl _) (.cells #[.slice Pa x.u.length Pi, .slice Pb x.d.length Pj, .slice Pc x.c.length Pk] 25))
  have Pn : Hid _ := OwnC.below P.out ((Below.refl _ _).alloc (Nat.le_refl _) (.cells #[.slice Pa x.u.length Pi, .slice Pb x.d.length Pj, .slice Pc x.c.length Pk] 25))
  clear T X CB P
  have T := Tn
  have X := Xn
  have CB := CBn
  have P := Pn
  clear Tn Xn CBn Pn
  obtain ⟨⟨c0, c1, c2⟩, -⟩ := PB.out
  obtain ⟨⟨d0, d1, d2⟩, -⟩ := CB.out
  go_wp2_with fail
  rw [HHP.out]
  refine Calls.mono (sameCalls_q Pa x.u.length Pi Pb x.d.length Pj Pc x.c.length Pk a1 n1 k1 a2 n2 k2 a3 n3 k3 x _ (OwnC.cal P.out) X.out m1 m2 m3) ?_
  intro e wn hh
  obtain ⟨he, hb⟩ := (by first | exact hh | exact Ro.mk hh | exact St.mk hh | exact LawOk.mk' hh : Mk _ _ e wn)
  subst he
  have Tn : Hid (Below w.heap.size w wn) := below_next T.out hb
  have Xn : Hid _ := Cal.below X.out hb
  have CBn : Hid _ := Bx.below CB.out hb
  have Pn : Hid _ := OwnC.below P.out hb
  have PBn : Hid _ := Bx.below PB.out hb
  clear hb hh c0 c1 c2 d0 d1 d2
  clear T X CB P PB
  have T := Tn
  have X := Xn
  have CB := CBn
  have P := Pn
  have PB := PBn
  clear Tn Xn CBn Pn PBn
  go_wp2_with fail
  go_ret
  first | exact LawOk.mk T.out | exact LawOk.mk (Below.dr T.out _)
end Go.Proofs.YtgenccbpkolmbaaDoor
