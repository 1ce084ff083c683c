/- The law of CallsValid: the walk. -/
import Derived.Test.Ytgenccbpkolmbaa8L
namespace Go.Proofs.Ytgenccbpkolmbaa
open Go.RowKit
set_option linter.unusedVariables false

theorem wpList_dup_b {w : World} {ops : Array Oper} {rest : List Oper} {act : Act} {Q : Exit → Act → World → Prop} {d : Option Tmp} {s x : Operand} {ty0 : TypeId} {ps : String} {af : Array Edge} {h b off n c : Nat} (xs : List Bool)
    (hs : act.eval s = .slice (some ⟨h, 0, none⟩) 0 0) (hx : act.eval x = .slice (some ⟨b, off, none⟩) n c) (hl : xs.length = n) (hc : ∀ i, i < n → w.cell? ⟨b, off + i, none⟩ = some (.bool (bn xs i))) (h1 : 1 ≤ n) (h2 : n ≤ 1000)
    (hK : ∀ v' w', OwnB w' w.heap.size v' xs → Grow w w' → wpList Try.prog ops Q rest (act.put d v') w') :
    wpList Try.prog ops Q ({ dst := d, op := .call { callee := .builtin .append, args := #[s, x], argTypes := #[23, 23] }, type := ty0, pos := ps, after := af, guard := none } :: rest) act w := by
  subst hl
  refine wpList_step fun K hK2 => ?_
  rw [if_pos (by rfl)]
  obtain ⟨v', w', hr, h3, h4⟩ := append_fresh (w := w) (xs := xs) (ty0 := ty0) (h := h) (c := c) (cells_b hc) h1 (by omega)
  unfold Oper.wp execOp
  simp only [resolve, invoke, builtin, Sem.run_bind, Sem.run_pure, Result.andThen_ok, List.map_toArray, List.map_cons, List.map_nil, hs, hx, hr]
  exact hK2 _ _ (hK v' w' h3 h4)
theorem Grow.bel {w w' : World} (h : Grow w w') : Below w.heap.size w w' := ⟨h.os, h.tape, h.output, h.size, fun k hk => h.block k hk (fun e => by cases e)⟩
set_option maxHeartbeats 8000000 in
theorem CallsValid_w (a : Option Addr) (n cap : Nat) (w : World) (hb : Byt w a n) (hn : n ≤ cap) (hcap : cap ≤ maxLen) :
    Calls Try.prog 3 #[.slice a n cap] w (LawOk w) := by
  have hcap' := hcap
  unfold maxLen at hcap'
  by_cases bign : 1048576 < n
  · go_enter Try.func3, Try.ntmps3
    go_wp2_with fail
    go_ret
    exact LawOk.mk (Below.refl _ _)
  go_enter Try.func3, Try.ntmps3
  go_wp2_with fail
  refine (DrawCallsValid_c a n cap _ hb hn hcap).mono ?_
  rintro e wn ⟨a1, n1, k1, a2, n2, k2, a3, n3, k3, x, rfl, hX, ⟨l1, l2, l3⟩, hB⟩
  have T := Lib.hid hB
  have X := Lib.hid hX
  clear hB hX hb
  have hWHC := T.out.size
  obtain ⟨HC, hHC⟩ : ∃ HC, Array.size (World.heap wn) = HC := ⟨_, rfl⟩
  have HHC : Hid _ := hHC
  rw [hHC] at hWHC
  have CB : Hid (Bx (wn.alloc (.cells #[.slice a1 n1 k1, .slice a2 n2 k2, .slice a3 n3 k3] 25)) HC (.slice a1 n1 k1) (.slice a2 n2 k2) (.slice a3 n3 k3)) := by rw [← hHC]; exact Bx.new _ _ _ _ _
  clear hHC
  have Tn : Hid (Below w.heap.size w _) := Below.al T.out (.cells #[.slice a1 n1 k1, .slice a2 n2 k2, .slice a3 n3 k3] 25)
  have Xn : Hid _ := Cal.below X.out ((Below.refl _ _).alloc (Nat.le_refl _) (.cells #[.slice a1 n1 k1, .slice a2 n2 k2, .slice a3 n3 k3] 25))
  clear T X
  have T := Tn
  have X := Xn
  clear Tn Xn
  have V1 := fun w' (h : Cal w' a1 n1 a2 n2 a3 n3 x) => iCallsValid_c a1 n1 k1 a2 n2 k2 a3 n3 k3 x w' h
  have V2 := fun w' (h : Cal w' a1 n1 a2 n2 a3 n3 x) => sCallsValid_c a1 n1 k1 a2 n2 k2 a3 n3 k3 x w' h
  by_cases hv : CV x
  case neg =>
    rw [cvB_f hv] at V1 V2
    have HV1 := Lib.hid V1
    have HV2 := Lib.hid V2
    have V3 := fun w' => iCallsValid_c none 0 0 none 0 0 none 0 0 cz w' ⟨⟨rfl, .inl rfl⟩, ⟨rfl, .inl rfl⟩, ⟨rfl, .inl rfl⟩⟩
    rw [cvB_f cz_no] at V3
    have HV3 := Lib.hid V3
    clear V1 V2 V3 hv l1 l2 l3
    go_wp2_with fail
    rw [HHC.out]
    refine Calls.mono (HV1.out _ X.out) ?_
    intro e wn hh
    obtain ⟨he, hb⟩ := (by first | exact hh | exact Ro.mk hh | exact St.mk hh | exact LawOk.mk' hh : Mk _ _ e wn)
    subst he
    have Tn : Hid (Below w.heap.size w wn) := below_next T.out hb
    have Xn : Hid _ := Cal.below X.out hb
    have CBn : Hid _ := Bx.below CB.out hb
    clear hb hh
    clear T X CB
    have T := Tn
    have X := Xn
    have CB := CBn
    clear Tn Xn CBn
    obtain ⟨⟨c0, c1, c2⟩, -⟩ := CB.out
    go_wp2_with fail
    refine Calls.mono (HV2.out _ X.out) ?_
    intro e wn hh
    obtain ⟨he, hb⟩ := (by first | exact hh | exact Ro.mk hh | exact St.mk hh | exact LawOk.mk' hh : Mk _ _ e wn)
    subst he
    have Tn : Hid (Below w.heap.size w wn) := below_next T.out hb
    have Xn : Hid _ := Cal.below X.out hb
    have CBn : Hid _ := Bx.below CB.out hb
    clear hb hh c0 c1 c2
    clear T X CB
    have T := Tn
    have X := Xn
    have CB := CBn
    clear Tn Xn CBn
    go_wp2_with fail
    refine Calls.mono (HV3.out _) ?_
    intro e wn hh
    obtain ⟨he, hb⟩ := (by first | exact hh | exact Ro.mk hh | exact St.mk hh | exact LawOk.mk' hh : Mk _ _ e wn)
    subst he
    have Tn : Hid (Below w.heap.size w wn) := below_next T.out hb
    have Xn : Hid _ := Cal.below X.out hb
    have CBn : Hid _ := Bx.below CB.out hb
    clear hb hh
    clear T X CB
    have T := Tn
    have X := Xn
    have CB := CBn
    clear Tn Xn CBn
    go_wp2_with fail
    refine Calls.mono (alive_c _) ?_
    intro e wn hh
    obtain ⟨he, hb⟩ := (by first | exact hh | exact Ro.mk hh | exact St.mk hh | exact LawOk.mk' hh : Mk _ _ e wn)
    subst he
    have Tn : Hid (Below w.heap.size w wn) := below_next T.out hb
    have Xn : Hid _ := Cal.below X.out hb
    have CBn : Hid _ := Bx.below CB.out hb
    clear hb hh
    clear T X CB
    have T := Tn
    have X := Xn
    have CB := CBn
    clear Tn Xn CBn
    go_wp2_with fail
    go_ret
    first | exact LawOk.mk T.out | exact LawOk.mk (Below.dr T.out _)
  rw [cvB_t hv] at V1 V2
  have HV1 := Lib.hid V1
  have HV2 := Lib.hid V2
  have g1 := hv.1
  have g2 := hv.2.1
  have g3 := hv.2.2.1
  have g4 := hv.2.2.2.1
  have r1 := X.out.1.1
  have r2 := X.out.2.1.1
  have r3 := X.out.2.2.1
  obtain ⟨k, hk⟩ : ∃ k, n3 = k + 1 := ⟨n3 - 1, by omega⟩
  have hn1 : n1 = k + 1 := by omega
  have hn2 : n2 = k + 1 := by omega
  subst hk hn1 hn2
  obtain ⟨⟨_, s1⟩, _, _⟩ := X.out
  rcases s1 with s1 | ⟨b1, o1, rfl, s1⟩
  · omega
  have k8 : k + 1 ≤ 8 := by omega
  have k0 : (0 : Int) ≤ k := by omega
  have kk : (k : Int) < (k : Int) + 1 := by omega
  have kl : k < k + 1 := by omega
  have k7 : (k : Int) ≤ 7 := by omega
  have V4 := fun w' => iCallsNone_c ((k + 1 : Nat) : Int) w'
  rw [cno_ok (by omega) k8] at V4
  have HN0 := cvB_t (cn_ok (n := k + 1) (by omega) k8)
  obtain ⟨y, hy⟩ : ∃ y, cn (k + 1) = y := ⟨_, rfl⟩
  rw [hy] at HN0 V4
  have HN := Lib.hid HN0
  have HV4 := Lib.hid V4
  clear HN0 hy
  have HL1 := Lib.hid r1
  have HL3 := Lib.hid r3
  clear V1 V2 V4 hv g1 g2 g3 g4 r1 r2 r3 s1 l1 l2 l3
  go_wp2_with fail
  rw [HHC.out]
  refine Calls.mono (HV1.out _ X.out) ?_
  intro e wn hh
  obtain ⟨he, hb⟩ := (by first | exact hh | exact Ro.mk hh | exact St.mk hh | exact LawOk.mk' hh : Mk _ _ e wn)
  subst he
  have Tn : Hid (Below w.heap.size w wn) := below_next T.out hb
  have Xn : Hid _ := Cal.below X.out hb
  have CBn : Hid _ := Bx.below CB.out hb
  clear hb hh
  clear T X CB
  have T := Tn
  have X := Xn
  have CB := CBn
  clear Tn Xn CBn
  obtain ⟨⟨c0, c1, c2⟩, -⟩ := CB.out
  go_wp2_with fail
  refine Calls.mono (HV2.out _ X.out) ?_
  intro e wn hh
  obtain ⟨he, hb⟩ := (by first | exact hh | exact Ro.mk hh | exact St.mk hh | exact LawOk.mk' hh : Mk _ _ e wn)
  subst he
  have Tn : Hid (Below w.heap.size w wn) := below_next T.out hb
  have Xn : Hid _ := Cal.below X.out hb
  have CBn : Hid _ := Bx.below CB.out hb
  clear hb hh c0 c1 c2
  clear T X CB
  have T := Tn
  have X := Xn
  have CB := CBn
  clear Tn Xn CBn
  obtain ⟨⟨c0, c1, c2⟩, -⟩ := Bx.al CB.out (.cells #[] 4)
  have XA := Lib.hid (Cal.al X.out (.cells #[] 4))
  obtain ⟨_, sx⟩ := XA.out.1
  have SX := Lib.hid (show ∀ i, i < k + 1 → (wn.alloc (.cells #[] 4)).cell? ⟨b1, o1 + i, none⟩ = some (.bool (bn x.u i)) from by
    rcases sx with h | ⟨b, o, e, h⟩
    · omega
    · simp only [Option.some.injEq, Addr.mk.injEq] at e
      obtain ⟨rfl, rfl, -⟩ := e
      exact h)
  clear sx
  go_wp2_with (with_reducible refine wpList_dup_b x.u rfl rfl HL1.out SX.out ?_ ?_ ?_)
  case refine_1 => omega
  case refine_2 => omega
  intro v' wp hown hgrow
  have hbel := Below.al (Below.refl wn.heap.size wn) (.cells #[] 4)
  have hbel2 := below_next hbel hgrow.bel
  have T2 := Lib.hid (below_next T.out hbel2)
  have X2 := Lib.hid (Cal.below X.out hbel2)
  have CB2 := Lib.hid (Bx.below CB.out hbel2)
  obtain ⟨q, cp, e, hq1, hq2, hc, hz⟩ := OwnB.some hown (by rw [HL1.out]; omega)
  rw [HL1.out] at e
  subst e
  have cc := hc k (by rw [HL1.out]; exact kl)
  have ff := hz k
  have hlt := X.out
  have S := Out.set (w := wp) (q := q) (i := k) (lo := q) (hi := q + 1) (.bool true) (Nat.le_refl _) (by omega)
  have hqn : wn.heap.size ≤ q := by rw [World.size_alloc] at hq1; omega
  have T3 := Lib.hid (Out.below T2.out S (by have := T.out.size; omega))
  have O3 := Lib.hid (show OwnB (wp.setCell ⟨q, k, none⟩ (.bool true)) (wn.alloc (.cells #[] 4)).heap.size (.slice (some ⟨q, 0, none⟩) (k + 1) cp) (x.u.set k true) from by
    have h9 := hown
    rw [← HL1.out] at h9
    have := (OwnB.stored h9 k true).1
    rwa [HL1.out] at this)
  have CB3 := Lib.hid (Bx.out CB2.out S (.inl (by have := Bx.lt CB.out; omega)))
  have BSk : ∀ (a : Option Addr) (m : Nat) (ys : List Bool), BS wn a m ys → BS (wp.setCell ⟨q, k, none⟩ (.bool true)) a m ys := fun a m ys h => by
    refine ⟨h.1, ?_⟩
    rcases h.2 with h0 | ⟨b, off, e, h0⟩
    · exact .inl h0
    · refine .inr ⟨b, off, e, fun i hi => ?_⟩
      have hb := World.block_lt_of_cell? wn _ (h0 i hi)
      simp only [] at hb
      rw [World.cell?_setCell_other _ _ _ _ (by simp <;> omega)]
      exact cell_below (h0 i hi) hbel2
  have XN := Lib.hid (show Cal (wp.setCell ⟨q, k, none⟩ (.bool true)) (some ⟨q, 0, none⟩) (k + 1) a2 (k + 1) a3 (k + 1) ⟨x.u.set k true, x.d, x.c⟩ from ⟨OwnB.cal O3.out, BSk _ _ _ X.out.2.1, BSk _ _ _ X.out.2.2⟩)
  have V5 := iCallsValid_c (some ⟨q, 0, none⟩) (k + 1) cp a2 (k + 1) k2 a3 (k + 1) k3 ⟨x.u.set k true, x.d, x.c⟩ _ XN.out
  rw [cvB_f (fun h : CV ⟨x.u.set k true, x.d, x.c⟩ => by
    have h5 := h.2.2.2.2.1
    simp only [] at h5
    rw [HL3.out, show k + 1 - 1 = k from rfl, bn_set _ _ (by rw [HL1.out]; exact kl), if_pos rfl] at h5
    cases h5)] at V5
  have HV5 := Lib.hid V5
  obtain ⟨⟨d0, d1, d2⟩, -⟩ := CB3.out
  obtain ⟨⟨e0, e1, e2⟩, -⟩ := CB2.out
  clear V5 BSk hown hgrow hbel hbel2 hc hz hlt S T X CB X2 T2 SX XA c0 c1 c2 hqn hq1 hq2
  go_wp2_with fail
  refine HV5.out.mono ?_
  rintro e wn ⟨rfl, hb⟩
  have T := Lib.hid (below_next T3.out hb)
  have CB := Lib.hid (Bx.below CB3.out hb)
  clear hb T3 CB3 CB2 d0 d1 d2 e0 e1 e2 cc ff O3 XN HV5
  obtain ⟨⟨c0, c1, c2⟩, -⟩ := CB.out
  go_wp2_with fail
  refine Calls.mono (HV4.out _) ?_
  intro e wn hh
  obtain ⟨v1, v2, v3, loZ, hiZ, rfl, hO, hb, hlo, hhi⟩ := NewC.get hh
  have hTZ : w.heap.size ≤ loZ := by rw [← hlo]; exact T.out.size
  have hltCBZ := Bx.lt CB.out
  rw [hlo] at hltCBZ
  have hlhZ : loZ ≤ hiZ := by rw [← hlo, ← hhi]; exact hb.size
  obtain ⟨Za, Zi, Zb, Zj, Zc, Zk, rfl, rfl, rfl, -⟩ := OwnC.open hO
  have Tn := Lib.hid (below_next T.out hb)
  have CBn := Lib.hid (Bx.below CB.out hb)
  have Z := Lib.hid hO
  clear hb hO hh hlo hhi
  clear T CB
  have T := Tn
  have CB := CBn
  clear Tn CBn
  clear c0 c1 c2
  have V6 := Lib.hid (iCallsValid_c Za y.u.length Zi Zb y.d.length Zj Zc y.c.length Zk y wn (OwnC.cal Z.out))
  rw [HN.out] at V6
  go_wp2_with fail
  refine Calls.mono (V6.out) ?_
  intro e wn hh
  obtain ⟨he, hb⟩ := (by first | exact hh | exact Ro.mk hh | exact St.mk hh | exact LawOk.mk' hh : Mk _ _ e wn)
  subst he
  have Tn : Hid (Below w.heap.size w wn) := below_next T.out hb
  have CBn : Hid _ := Bx.below CB.out hb
  have Zn : Hid _ := OwnC.below Z.out hb
  clear hb hh
  clear T CB Z
  have T := Tn
  have CB := CBn
  have Z := Zn
  clear Tn CBn Zn
  go_wp2_with fail
  go_ret
  first | exact LawOk.mk T.out | exact LawOk.mk (Below.dr T.out _)
end Go.Proofs.Ytgenccbpkolmbaa
