/- The law of NextStop: the walk. -/
import Derived.Test.Ytkpginkkfobblaa9LS
namespace Go.Proofs.Ytkpginkkfobblaa
open Go.RowKit
set_option linter.unusedVariables false

theorem Grow.ofB {w w' : World} (h : Below w.heap.size w w') : Grow w w' := ⟨h.os, h.tape, h.output, h.size, fun k hk _ => h.block k hk⟩
theorem oa_call {W w : World} {P : Program} {M : Value → World → Prop} {f : FuncId} {args : Array Value} (hC : Below W.heap.size W w) (h : Calls P f args w fun e w2 => ∃ v, e = .returned v ∧ M v w2 ∧ Below w.heap.size w w2) : Comply P (fun _ w => Below W.heap.size W w) Grow 0 w M (.ok (.enter f args) w) :=
  h.mono fun e w2 ⟨v, he, hm, hb⟩ => ⟨v, he, hm, below_next hC hb, Grow.ofB hb⟩
/-- Fresh calls, by types. -/
def tF (x : Cs) (v : Value) (w : World) : Prop := Fre v x w
theorem StGrow.F (x : Cs) : StGrow (tF x) := fun v w w' hr h => by
  obtain ⟨q1, j1, q2, j2, q3, j3, e, hC⟩ := h
  exact ⟨q1, j1, q2, j2, q3, j3, e, hC.below ⟨hr.os, hr.tape, hr.output, hr.size, fun k hk => hr.block k hk (fun e => by cases e)⟩⟩
/-- Between a car and its next stop. -/
theorem nx_between {x : Cs} {f k : Nat} {up u : Bool} (hf : f < x.c.length) (h : nx x f up = some (k, u)) :
    k < x.c.length ∧ pc x u k = true ∧ ∀ j, j ≠ k → (f ≤ j ∧ j ≤ k ∨ k ≤ j ∧ j ≤ f) → bn x.c j = false ∧ (f < k → bn x.u j = false) ∧ (k < f → bn x.d j = false) := by
  have key : ∀ v k u, nx1 x f v = some (k, u) → k < x.c.length ∧ pc x u k = true ∧ On v f k ∧ ∀ j, On v f j → On v j k → j ≠ k → pc x v j = false := by
    intro v k u e
    rcases nx1_spec x f v hf with ⟨e2, -⟩ | ⟨k2, e2, -, h1, h2, h3, h4⟩ | ⟨k2, e2, -, -, h1, h2, h3, h4, -⟩
    · rw [e2] at e; cases e
    · rw [e2] at e
      simp only [Option.some.injEq, Prod.mk.injEq] at e
      obtain ⟨rfl, rfl⟩ := e
      exact ⟨h1, h3, h2, h4⟩
    · rw [e2] at e
      simp only [Option.some.injEq, Prod.mk.injEq] at e
      obtain ⟨rfl, rfl⟩ := e
      exact ⟨h1, qc_pc h3, h2, fun j g1 g2 g3 => h4 j (by
        have q1 := g2.1
        have q2 := g1.2
        cases v
        · have := q2 rfl; omega
        · have := q1 rfl; omega) g1⟩
  have fin : ∀ v, nx1 x f v = some (k, u) → k < x.c.length ∧ pc x u k = true ∧ ∀ j, j ≠ k → (f ≤ j ∧ j ≤ k ∨ k ≤ j ∧ j ≤ f) → bn x.c j = false ∧ (f < k → bn x.u j = false) ∧ (k < f → bn x.d j = false) := by
    intro v e
    obtain ⟨h1, h2, h3, h4⟩ := key v k u e
    refine ⟨h1, h2, fun j hj hb => ?_⟩
    have hp : pc x v j = false := by
      refine h4 j ?_ ?_ hj <;> (have h5 := h3.1; have h6 := h3.2; cases v <;> simp [On] at * <;> omega)
    refine ⟨pc_c hp, fun hfk => ?_, fun hkf => ?_⟩
    · have : v = true := by
        cases v
        · have := h3.2 rfl; omega
        · rfl
      subst this
      have := pc_q hp
      exact this
    · have : v = false := by
        cases v
        · rfl
        · have := h3.1 rfl; omega
      subst this
      have := pc_q hp
      exact this
  unfold nx at h
  cases e : nx1 x f up with
  | none => rw [e] at h; exact fin _ h
  | some r => rw [e] at h; cases h; exact fin _ e

set_option maxHeartbeats 16000000 in
theorem NextStop_w (a : Option Addr) (n cap : Nat) (w : World) (hb : Byt w a n) (hn : n ≤ cap) (hcap : cap ≤ maxLen) :
    Calls Try.prog 3 #[.slice a n cap] w (LawOk w) := by
  have hcap' := hcap
  unfold maxLen at hcap'
  by_cases bign : 1048576 < n
  · go_enter Try.func3, Try.ntmps3
    go_wp2_with fail
    go_ret
    exact LawOk.mk (Below.refl _ _)
  go_enter Try.func3, Try.ntmps3
  go_wp2_with fail
  refine Calls.mono (DrawNextStop_c a n cap _ hb hn hcap) ?_
  rintro e wn ⟨a1, n1, k1, a2, n2, k2, a3, n3, k3, x, f, d, rfl, hX, ⟨l1, l2, l3⟩, ⟨⟨f0, f1⟩, d0, d1⟩, hB⟩
  have T := Lib.hid hB
  have X := Lib.hid hX
  have KI := fun w' (h : Cal w' a1 n1 a2 n2 a3 n3 x) => iNextStop_c a1 n1 k1 a2 n2 k2 a3 n3 k3 x f d w' h
  have KS := fun w' (h : Cal w' a1 n1 a2 n2 a3 n3 x) => sNextStop_c a1 n1 k1 a2 n2 k2 a3 n3 k3 x f d w' h
  have KO := fun w' (h : Cal w' a1 n1 a2 n2 a3 n3 x) => stopOk_c a1 n1 k1 a2 n2 k2 a3 n3 k3 x f d w' h
  have KM := fun w' (h : Cal w' a1 n1 a2 n2 a3 n3 x) => iCallsMany_c a1 n1 k1 a2 n2 k2 a3 n3 k3 x w' h
  clear hB hX hb
  obtain ⟨h, hg⟩ : ∃ g, Array.size (World.heap wn) = g := ⟨_, rfl⟩
  have HGh := Lib.hid hg
  have hTh : w.heap.size ≤ h := by rw [← hg]; exact T.out.size
  have Tn := Lib.hid (show Below w.heap.size w ((wn.alloc (.cells #[.slice a1 n1 k1, .slice a2 n2 k2, .slice a3 n3 k3] 25)).alloc (.cells #[.int .i64 (f), .int .i64 (d)] 27)) from (Below.al (Below.al T.out (.cells #[.slice a1 n1 k1, .slice a2 n2 k2, .slice a3 n3 k3] 25)) (.cells #[.int .i64 (f), .int .i64 (d)] 27)))
  have Xn := Lib.hid (Cal.below X.out (show Below wn.heap.size wn ((wn.alloc (.cells #[.slice a1 n1 k1, .slice a2 n2 k2, .slice a3 n3 k3] 25)).alloc (.cells #[.int .i64 (f), .int .i64 (d)] 27)) from (Below.al (Below.al (Below.refl _ _) (.cells #[.slice a1 n1 k1, .slice a2 n2 k2, .slice a3 n3 k3] 25)) (.cells #[.int .i64 (f), .int .i64 (d)] 27))))
  have CB := Lib.hid (show Bx ((wn.alloc (.cells #[.slice a1 n1 k1, .slice a2 n2 k2, .slice a3 n3 k3] 25)).alloc (.cells #[.int .i64 (f), .int .i64 (d)] 27)) h (.slice a1 n1 k1) (.slice a2 n2 k2) (.slice a3 n3 k3) from by have h9 := (Bx.al (Bx.new wn (.slice a1 n1 k1) (.slice a2 n2 k2) (.slice a3 n3 k3) 25) (.cells #[.int .i64 (f), .int .i64 (d)] 27)); simp only [World.size_alloc, hg, Nat.add_assoc, Nat.reduceAdd] at h9; exact h9)
  have SB := Lib.hid (show Box ((wn.alloc (.cells #[.slice a1 n1 k1, .slice a2 n2 k2, .slice a3 n3 k3] 25)).alloc (.cells #[.int .i64 (f), .int .i64 (d)] 27)) (h + 1) (f) (d) from by have h9 := (Box.new (wn.alloc (.cells #[.slice a1 n1 k1, .slice a2 n2 k2, .slice a3 n3 k3] 25)) (f) (d) 27); simp only [World.size_alloc, hg, Nat.add_assoc, Nat.reduceAdd] at h9; exact h9)
  have HZh := Lib.hid (show (((wn.alloc (.cells #[.slice a1 n1 k1, .slice a2 n2 k2, .slice a3 n3 k3] 25)).alloc (.cells #[.int .i64 (f), .int .i64 (d)] 27))).heap.size = h + 2 from by simp only [World.size_alloc, hg, Nat.add_assoc, Nat.reduceAdd])
  clear hg
  clear T X
  have T := Tn
  have X := Xn
  clear Tn Xn

  by_cases hs : SK x f d
  case neg =>
    rw [nsv_f hs] at KI KS
    rw [skB_f hs] at KO
    have HKI := Lib.hid (show ∀ w' (h : Cal w' a1 n1 a2 n2 a3 n3 x), Calls Try.prog 10 #[(.agg #[.slice a1 n1 k1, .slice a2 n2 k2, .slice a3 n3 k3]), (Value.agg #[.int .i64 (f), .int .i64 (d)])] w' (Mk w' (Value.agg #[.int .i64 (-1), .int .i64 (0)])) from KI)
    have HKS := Lib.hid (show ∀ w' (h : Cal w' a1 n1 a2 n2 a3 n3 x), Calls Try.prog 11 #[(.agg #[.slice a1 n1 k1, .slice a2 n2 k2, .slice a3 n3 k3]), (Value.agg #[.int .i64 (f), .int .i64 (d)])] w' (Mk w' (Value.agg #[.int .i64 (-1), .int .i64 (0)])) from KS)
    have HKO := Lib.hid KO
    clear KI KS KO KM hs
    obtain ⟨⟨c0, c1, c2⟩, -⟩ := CB.out
    obtain ⟨⟨d0, d1⟩, df0, df1⟩ := SB.out
    go_wp2_with fail
    rw [HGh.out]
    refine Calls.mono (HKI.out _ X.out) ?_
    intro e wn hh
    obtain ⟨he, hb⟩ := (by first | exact hh | exact Ro.mk hh | exact St.mk hh | exact LawOk.mk' hh : Mk _ _ e wn)
    subst he
    have Tn : Hid (Below w.heap.size w wn) := below_next T.out hb
    have Xn : Hid _ := Cal.below X.out hb
    have CBn : Hid _ := Bx.below CB.out hb
    have SBn : Hid _ := Box.below SB.out hb
    clear hb hh c0 c1 c2 d0 d1 df0 df1
    clear T X CB SB
    have T := Tn
    have X := Xn
    have CB := CBn
    have SB := SBn
    clear Tn Xn CBn SBn
    have hltCBHN := Bx.lt CB.out
    have hltSBHN := Box.lt SB.out
    have hWHN := T.out.size
    obtain ⟨HN, hHN⟩ : ∃ HN, Array.size (World.heap wn) = HN := ⟨_, rfl⟩
    have HHN : Hid _ := hHN
    rw [hHN] at hWHN hltCBHN hltSBHN
    have NB : Hid (Box (wn.alloc (.cells #[.int .i64 (-1), .int .i64 (0)] 27)) HN (-1) (0)) := by rw [← hHN]; exact Box.new _ _ _ _
    clear hHN
    have Tn : Hid (Below w.heap.size w _) := Below.al T.out (.cells #[.int .i64 (-1), .int .i64 (0)] 27)
    have Xn : Hid _ := Cal.below X.out ((Below.refl _ _).alloc (Nat.le_refl _) (.cells #[.int .i64 (-1), .int .i64 (0)] 27))
    have CBn : Hid _ := Bx.below CB.out ((Below.refl _ _).alloc (Nat.le_refl _) (.cells #[.int .i64 (-1), .int .i64 (0)] 27))
    have SBn : Hid _ := Box.below SB.out ((Below.refl _ _).alloc (Nat.le_refl _) (.cells #[.int .i64 (-1), .int .i64 (0)] 27))
    clear T X CB SB
    have T := Tn
    have X := Xn
    have CB := CBn
    have SB := SBn
    clear Tn Xn CBn SBn
    go_wp2_with fail
    rw [HHN.out]
    generalize wn.alloc (.cells #[.int .i64 (-1), .int .i64 (0)] 27) = w0 at *
    refine wp_region_quiet (C := fun w' => Below (World.heap (w0)).size (w0) w') (by kernel_rfl) (by kernel_rfl) (by first | exact ⟨rfl, rfl, rfl, Nat.le_refl _, fun _ _ => rfl⟩ | exact Below.dw (by repeat (first | exact Below.refl _ _ | refine Below.al ?_ _ | refine Below.dr ?_ _ | refine Below.dw ?_ | refine Below.st ?_ (by first | exact Nat.le_refl _ | exact Nat.le_add_right _ _ | (simp; omega)) _ | (refine below_next ?_ (by assumption))))) ?_
    simp only []
    repeat (go_big_quiet_step (first | (intro _; with_reducible exact rfl) | (intro hC; go_at_call 11; obtain ⟨⟨c0, c1, c2⟩, -⟩ := Bx.below CB.out hC; obtain ⟨⟨d0, d1⟩, -⟩ := Box.below SB.out hC; obtain ⟨⟨e0, e1⟩, -⟩ := Box.below NB.out hC; have ZY := Lib.hid (HKS.out _ (Cal.below X.out hC)); (with_reducible refine Calls.mono (ZY.out) ?_); (first | (rintro e wx ⟨rfl, hb⟩; exact ⟨rfl, below_next hC hb⟩) | (rintro e wx ⟨rfl, n, rfl⟩; exact ⟨rfl, Below.dr hC n⟩) | (rintro e wx ⟨rfl, rfl⟩; exact ⟨rfl, hC⟩))) | (intro hC; obtain ⟨⟨c0, c1, c2⟩, -⟩ := Bx.below CB.out hC; obtain ⟨⟨d0, d1⟩, -⟩ := Box.below SB.out hC; obtain ⟨⟨e0, e1⟩, -⟩ := Box.below NB.out hC; have ZY := Lib.hid (HKS.out _ (Cal.below X.out hC)); go_simp; rfl)))
    refine wpQuiet_nil ?_
    intro wq hq
    have Tn := Lib.hid (below_next T.out hq)
    have Xn := Lib.hid (Cal.below X.out hq)
    have CBn := Lib.hid (Bx.below CB.out hq)
    have SBn := Lib.hid (Box.below SB.out hq)
    have NBn := Lib.hid (Box.below NB.out hq)
    clear hq
    clear T X CB SB NB
    have T := Tn
    have X := Xn
    have CB := CBn
    have SB := SBn
    have NB := NBn
    clear Tn Xn CBn SBn NBn
    obtain ⟨wn, hwq⟩ : ∃ w0, w0 = wq := ⟨_, rfl⟩
    subst hwq
    obtain ⟨⟨e0, e1⟩, ef0, ef1⟩ := NB.out
    obtain ⟨⟨c0, c1, c2⟩, -⟩ := CB.out
    obtain ⟨⟨d0, d1⟩, df0, df1⟩ := SB.out
    go_wp2_with fail
    refine Calls.mono (HKO.out _ X.out) ?_
    intro e wn hh
    obtain ⟨he, hb⟩ := (by first | exact hh | exact Ro.mk hh | exact St.mk hh | exact LawOk.mk' hh : Mk _ _ e wn)
    subst he
    have Tn : Hid (Below w.heap.size w wn) := below_next T.out hb
    have Xn : Hid _ := Cal.below X.out hb
    have CBn : Hid _ := Bx.below CB.out hb
    have SBn : Hid _ := Box.below SB.out hb
    have NBn : Hid _ := Box.below NB.out hb
    clear hb hh e0 e1 ef0 ef1 c0 c1 c2 d0 d1 df0 df1
    clear T X CB SB NB
    have T := Tn
    have X := Xn
    have CB := CBn
    have SB := SBn
    have NB := NBn
    clear Tn Xn CBn SBn NBn
    go_wp2_with fail
    refine Calls.mono (alive_c _) ?_
    intro e wn hh
    obtain ⟨he, hb⟩ := (by first | exact hh | exact Ro.mk hh | exact St.mk hh | exact LawOk.mk' hh : Mk _ _ e wn)
    subst he
    have Tn : Hid (Below w.heap.size w wn) := below_next T.out hb
    have Xn : Hid _ := Cal.below X.out hb
    have CBn : Hid _ := Bx.below CB.out hb
    have SBn : Hid _ := Box.below SB.out hb
    have NBn : Hid _ := Box.below NB.out hb
    clear hb hh
    clear T X CB SB NB
    have T := Tn
    have X := Xn
    have CB := CBn
    have SB := SBn
    have NB := NBn
    clear Tn Xn CBn SBn NBn
    go_wp2_with fail
    go_ret
    first | exact LawOk.mk T.out | exact LawOk.mk (Below.dr T.out _)
  obtain ⟨f, up, rfl, hf, rfl⟩ := SK.dir hs
  rw [nsv_t hs] at KI KS
  rw [skB_t hs] at KO
  have hv := hs.1
  have hsp := nx_spec x f up hf
  obtain ⟨D, hD⟩ : ∃ D, dI up = D := ⟨_, rfl⟩
  have hnx := fun k u (h : nx x f up = some (k, u)) => nx_between hf h
  cases hr : nx x f up with
  | none =>
    rw [hr] at KI KS hsp
    have hz : cm x = 0 := by
      rcases hsp with ⟨-, -, -, hn⟩ | ⟨k, u, e, -⟩
      · exact cm_zero hv hn
      · cases e
    rw [hz] at KM
    rw [hD] at KI KS KO d0 d1
    have HKI := Lib.hid (show ∀ w' (h : Cal w' a1 n1 a2 n2 a3 n3 x), Calls Try.prog 10 #[(.agg #[.slice a1 n1 k1, .slice a2 n2 k2, .slice a3 n3 k3]), (Value.agg #[.int .i64 (f), .int .i64 (D)])] w' (Mk w' (Value.agg #[.int .i64 (-1), .int .i64 (0)])) from KI)
    have HKS := Lib.hid (show ∀ w' (h : Cal w' a1 n1 a2 n2 a3 n3 x), Calls Try.prog 11 #[(.agg #[.slice a1 n1 k1, .slice a2 n2 k2, .slice a3 n3 k3]), (Value.agg #[.int .i64 (f), .int .i64 (D)])] w' (Mk w' (Value.agg #[.int .i64 (-1), .int .i64 (0)])) from KS)
    have HKO := Lib.hid KO
    have HKM := Lib.hid KM
    rw [hD] at CB SB T X
    rw [hD]
    clear KI KS KO KM hs hsp hnx hz hr hv hD hf
    obtain ⟨⟨c0, c1, c2⟩, -⟩ := CB.out
    obtain ⟨⟨d0, d1⟩, df0, df1⟩ := SB.out
    go_wp2_with fail
    rw [HGh.out]
    refine Calls.mono (HKI.out _ X.out) ?_
    intro e wn hh
    obtain ⟨he, hb⟩ := (by first | exact hh | exact Ro.mk hh | exact St.mk hh | exact LawOk.mk' hh : Mk _ _ e wn)
    subst he
    have Tn : Hid (Below w.heap.size w wn) := below_next T.out hb
    have Xn : Hid _ := Cal.below X.out hb
    have CBn : Hid _ := Bx.below CB.out hb
    have SBn : Hid _ := Box.below SB.out hb
    clear hb hh c0 c1 c2 d0 d1 df0 df1
    clear T X CB SB
    have T := Tn
    have X := Xn
    have CB := CBn
    have SB := SBn
    clear Tn Xn CBn SBn
    have hltCBHN := Bx.lt CB.out
    have hltSBHN := Box.lt SB.out
    have hWHN := T.out.size
    obtain ⟨HN, hHN⟩ : ∃ HN, Array.size (World.heap wn) = HN := ⟨_, rfl⟩
    have HHN : Hid _ := hHN
    rw [hHN] at hWHN hltCBHN hltSBHN
    have NB : Hid (Box (wn.alloc (.cells #[.int .i64 (-1), .int .i64 (0)] 27)) HN (-1) (0)) := by rw [← hHN]; exact Box.new _ _ _ _
    clear hHN
    have Tn : Hid (Below w.heap.size w _) := Below.al T.out (.cells #[.int .i64 (-1), .int .i64 (0)] 27)
    have Xn : Hid _ := Cal.below X.out ((Below.refl _ _).alloc (Nat.le_refl _) (.cells #[.int .i64 (-1), .int .i64 (0)] 27))
    have CBn : Hid _ := Bx.below CB.out ((Below.refl _ _).alloc (Nat.le_refl _) (.cells #[.int .i64 (-1), .int .i64 (0)] 27))
    have SBn : Hid _ := Box.below SB.out ((Below.refl _ _).alloc (Nat.le_refl _) (.cells #[.int .i64 (-1), .int .i64 (0)] 27))
    clear T X CB SB
    have T := Tn
    have X := Xn
    have CB := CBn
    have SB := SBn
    clear Tn Xn CBn SBn
    go_wp2_with fail
    rw [HHN.out]
    generalize wn.alloc (.cells #[.int .i64 (-1), .int .i64 (0)] 27) = w0 at *
    refine wp_region_quiet (C := fun w' => Below (World.heap (w0)).size (w0) w') (by kernel_rfl) (by kernel_rfl) (by first | exact ⟨rfl, rfl, rfl, Nat.le_refl _, fun _ _ => rfl⟩ | exact Below.dw (by repeat (first | exact Below.refl _ _ | refine Below.al ?_ _ | refine Below.dr ?_ _ | refine Below.dw ?_ | refine Below.st ?_ (by first | exact Nat.le_refl _ | exact Nat.le_add_right _ _ | (simp; omega)) _ | (refine below_next ?_ (by assumption))))) ?_
    simp only []
    repeat (go_big_quiet_step (first | (intro _; with_reducible exact rfl) | (intro hC; go_at_call 11; obtain ⟨⟨c0, c1, c2⟩, -⟩ := Bx.below CB.out hC; obtain ⟨⟨d0, d1⟩, -⟩ := Box.below SB.out hC; obtain ⟨⟨e0, e1⟩, -⟩ := Box.below NB.out hC; have ZY := Lib.hid (HKS.out _ (Cal.below X.out hC)); (with_reducible refine Calls.mono (ZY.out) ?_); (first | (rintro e wx ⟨rfl, hb⟩; exact ⟨rfl, below_next hC hb⟩) | (rintro e wx ⟨rfl, n, rfl⟩; exact ⟨rfl, Below.dr hC n⟩) | (rintro e wx ⟨rfl, rfl⟩; exact ⟨rfl, hC⟩))) | (intro hC; obtain ⟨⟨c0, c1, c2⟩, -⟩ := Bx.below CB.out hC; obtain ⟨⟨d0, d1⟩, -⟩ := Box.below SB.out hC; obtain ⟨⟨e0, e1⟩, -⟩ := Box.below NB.out hC; have ZY := Lib.hid (HKS.out _ (Cal.below X.out hC)); go_simp; rfl)))
    refine wpQuiet_nil ?_
    intro wq hq
    have Tn := Lib.hid (below_next T.out hq)
    have Xn := Lib.hid (Cal.below X.out hq)
    have CBn := Lib.hid (Bx.below CB.out hq)
    have SBn := Lib.hid (Box.below SB.out hq)
    have NBn := Lib.hid (Box.below NB.out hq)
    clear hq
    clear T X CB SB NB
    have T := Tn
    have X := Xn
    have CB := CBn
    have SB := SBn
    have NB := NBn
    clear Tn Xn CBn SBn NBn
    obtain ⟨wn, hwq⟩ : ∃ w0, w0 = wq := ⟨_, rfl⟩
    subst hwq
    obtain ⟨⟨e0, e1⟩, ef0, ef1⟩ := NB.out
    obtain ⟨⟨c0, c1, c2⟩, -⟩ := CB.out
    obtain ⟨⟨d0, d1⟩, df0, df1⟩ := SB.out
    go_wp2_with fail
    refine Calls.mono (HKO.out _ X.out) ?_
    intro e wn hh
    obtain ⟨he, hb⟩ := (by first | exact hh | exact Ro.mk hh | exact St.mk hh | exact LawOk.mk' hh : Mk _ _ e wn)
    subst he
    have Tn : Hid (Below w.heap.size w wn) := below_next T.out hb
    have Xn : Hid _ := Cal.below X.out hb
    have CBn : Hid _ := Bx.below CB.out hb
    have SBn : Hid _ := Box.below SB.out hb
    have NBn : Hid _ := Box.below NB.out hb
    clear hb hh e0 e1 ef0 ef1 c0 c1 c2 d0 d1 df0 df1
    clear T X CB SB NB
    have T := Tn
    have X := Xn
    have CB := CBn
    have SB := SBn
    have NB := NBn
    clear Tn Xn CBn SBn NBn
    obtain ⟨⟨c0, c1, c2⟩, -⟩ := CB.out
    go_wp2_with fail
    refine Calls.mono (HKM.out _ X.out) ?_
    intro e wn hh
    obtain ⟨he, hb⟩ := (by first | exact hh | exact Ro.mk hh | exact St.mk hh | exact LawOk.mk' hh : Mk _ _ e wn)
    subst he
    have Tn : Hid (Below w.heap.size w wn) := below_next T.out hb
    have Xn : Hid _ := Cal.below X.out hb
    have CBn : Hid _ := Bx.below CB.out hb
    have SBn : Hid _ := Box.below SB.out hb
    have NBn : Hid _ := Box.below NB.out hb
    clear hb hh c0 c1 c2
    clear T X CB SB NB
    have T := Tn
    have X := Xn
    have CB := CBn
    have SB := SBn
    have NB := NBn
    clear Tn Xn CBn SBn NBn
    go_wp2_with fail
    refine Calls.mono (alive_c _) ?_
    intro e wn hh
    obtain ⟨he, hb⟩ := (by first | exact hh | exact Ro.mk hh | exact St.mk hh | exact LawOk.mk' hh : Mk _ _ e wn)
    subst he
    have Tn : Hid (Below w.heap.size w wn) := below_next T.out hb
    have Xn : Hid _ := Cal.below X.out hb
    have CBn : Hid _ := Bx.below CB.out hb
    have SBn : Hid _ := Box.below SB.out hb
    have NBn : Hid _ := Box.below NB.out hb
    clear hb hh
    clear T X CB SB NB
    have T := Tn
    have X := Xn
    have CB := CBn
    have SB := SBn
    have NB := NBn
    clear Tn Xn CBn SBn NBn
    go_wp2_with fail
    go_ret
    first | exact LawOk.mk T.out | exact LawOk.mk (Below.dr T.out _)
  | some r =>
    obtain ⟨k, u⟩ := r
    obtain ⟨hk, hp, hbt⟩ := hnx k u hr
    rw [hr] at KI KS
    have hsu : SK x k (dI u) := ⟨hv, ⟨by omega, by omega⟩, by cases u <;> simp [dI]⟩
    have KV := fun w' (h : Cal w' a1 n1 a2 n2 a3 n3 x) => iServeStop_c a1 n1 k1 a2 n2 k2 a3 n3 k3 x k (dI u) w' h
    rw [svv_t hsu] at KV
    have hcm := srv_cm hv hk hp
    have hcb := cm_bd x
    have hc0 := (cm_top (srv_ok u hv hk)).1
    obtain ⟨y, hy⟩ : ∃ y, srv x k u = y := ⟨_, rfl⟩
    rw [hy] at KV hcm hc0
    have KW := fun (w' : World) (p1 p2 p3 : Option Addr) (m1 m2 m3 i1 i2 i3 : Nat) (h : Cal w' p1 m1 p2 m2 p3 m3 y) => iCallsMany_c p1 m1 i1 p2 m2 i2 p3 m3 i3 y w' h
    obtain ⟨M, hM⟩ : ∃ M, cm x = M := ⟨_, rfl⟩
    obtain ⟨M2, hM2⟩ : ∃ M, cm y = M := ⟨_, rfl⟩
    rw [hM] at KM hcm hcb
    rw [hM2] at KW hcm hc0
    obtain ⟨E, hE⟩ : ∃ E, dI u = E := ⟨_, rfl⟩
    have hEb : -1 ≤ E ∧ E ≤ 1 := by have := dI_bd u; omega
    rw [hE] at KV
    rw [hD] at KI KS d0 d1
    have HKI := Lib.hid (show ∀ w' (h : Cal w' a1 n1 a2 n2 a3 n3 x), Calls Try.prog 10 #[(.agg #[.slice a1 n1 k1, .slice a2 n2 k2, .slice a3 n3 k3]), (Value.agg #[.int .i64 (f), .int .i64 (D)])] w' (Mk w' (Value.agg #[.int .i64 ((k : Int)), .int .i64 (E)])) from by rw [← hE]; exact KI)
    have HKS := Lib.hid (show ∀ w' (h : Cal w' a1 n1 a2 n2 a3 n3 x), Calls Try.prog 11 #[(.agg #[.slice a1 n1 k1, .slice a2 n2 k2, .slice a3 n3 k3]), (Value.agg #[.int .i64 (f), .int .i64 (D)])] w' (Mk w' (Value.agg #[.int .i64 ((k : Int)), .int .i64 (E)])) from by rw [← hE]; exact KS)
    have HKM := Lib.hid KM
    have HKV := Lib.hid KV
    have HKW := Lib.hid KW
    have HBT := Lib.hid hbt
    obtain ⟨r1, r2, r3, r4, b1, o1, b2, o2, b3, o3, rfl, rfl, rfl⟩ := CV.rows hv X.out
    have hkn : k < n3 := by omega
    have hfn : f < n3 := by omega
    have HEQ := Lib.hid (And.intro r1 r2)
    rw [hD] at CB SB T X
    rw [hD]
    subst r1 r2
    clear KI KS KO KM KV KW hs hsp hnx hbt hr hv hD hf hk hsu hy hM hM2 hE hp r3
    obtain ⟨⟨c0, c1, c2⟩, -⟩ := CB.out
    obtain ⟨⟨d0, d1⟩, df0, df1⟩ := SB.out
    go_wp2_with fail
    rw [HGh.out]
    refine Calls.mono (HKI.out _ X.out) ?_
    intro e wn hh
    obtain ⟨he, hb⟩ := (by first | exact hh | exact Ro.mk hh | exact St.mk hh | exact LawOk.mk' hh : Mk _ _ e wn)
    subst he
    have Tn : Hid (Below w.heap.size w wn) := below_next T.out hb
    have Xn : Hid _ := Cal.below X.out hb
    have CBn : Hid _ := Bx.below CB.out hb
    have SBn : Hid _ := Box.below SB.out hb
    clear hb hh c0 c1 c2 d0 d1 df0 df1
    clear T X CB SB
    have T := Tn
    have X := Xn
    have CB := CBn
    have SB := SBn
    clear Tn Xn CBn SBn
    have hltCBHN := Bx.lt CB.out
    have hltSBHN := Box.lt SB.out
    have hWHN := T.out.size
    obtain ⟨HN, hHN⟩ : ∃ HN, Array.size (World.heap wn) = HN := ⟨_, rfl⟩
    have HHN : Hid _ := hHN
    rw [hHN] at hWHN hltCBHN hltSBHN
    have NB : Hid (Box (wn.alloc (.cells #[.int .i64 (k), .int .i64 (E)] 27)) HN (k) (E)) := by rw [← hHN]; exact Box.new _ _ _ _
    clear hHN
    have Tn : Hid (Below w.heap.size w _) := Below.al T.out (.cells #[.int .i64 (k), .int .i64 (E)] 27)
    have Xn : Hid _ := Cal.below X.out ((Below.refl _ _).alloc (Nat.le_refl _) (.cells #[.int .i64 (k), .int .i64 (E)] 27))
    have CBn : Hid _ := Bx.below CB.out ((Below.refl _ _).alloc (Nat.le_refl _) (.cells #[.int .i64 (k), .int .i64 (E)] 27))
    have SBn : Hid _ := Box.below SB.out ((Below.refl _ _).alloc (Nat.le_refl _) (.cells #[.int .i64 (k), .int .i64 (E)] 27))
    clear T X CB SB
    have T := Tn
    have X := Xn
    have CB := CBn
    have SB := SBn
    clear Tn Xn CBn SBn
    go_wp2_with fail
    rw [HHN.out]
    generalize wn.alloc (.cells #[.int .i64 (k), .int .i64 (E)] 27) = w0 at *
    refine wp_region_quiet (C := fun w' => Below (World.heap (w0)).size (w0) w') (by kernel_rfl) (by kernel_rfl) (by first | exact ⟨rfl, rfl, rfl, Nat.le_refl _, fun _ _ => rfl⟩ | exact Below.dw (by repeat (first | exact Below.refl _ _ | refine Below.al ?_ _ | refine Below.dr ?_ _ | refine Below.dw ?_ | refine Below.st ?_ (by first | exact Nat.le_refl _ | exact Nat.le_add_right _ _ | (simp; omega)) _ | (refine below_next ?_ (by assumption))))) ?_
    simp only []
    repeat (go_big_quiet_step (first | (intro _; with_reducible exact rfl) | (intro hC; go_at_call 11; obtain ⟨⟨c0, c1, c2⟩, -⟩ := Bx.below CB.out hC; obtain ⟨⟨d0, d1⟩, -⟩ := Box.below SB.out hC; obtain ⟨⟨e0, e1⟩, -⟩ := Box.below NB.out hC; have ZY := Lib.hid (HKS.out _ (Cal.below X.out hC)); (with_reducible refine Calls.mono (ZY.out) ?_); (first | (rintro e wx ⟨rfl, hb⟩; exact ⟨rfl, below_next hC hb⟩) | (rintro e wx ⟨rfl, n, rfl⟩; exact ⟨rfl, Below.dr hC n⟩) | (rintro e wx ⟨rfl, rfl⟩; exact ⟨rfl, hC⟩))) | (intro hC; obtain ⟨⟨c0, c1, c2⟩, -⟩ := Bx.below CB.out hC; obtain ⟨⟨d0, d1⟩, -⟩ := Box.below SB.out hC; obtain ⟨⟨e0, e1⟩, -⟩ := Box.below NB.out hC; have ZY := Lib.hid (HKS.out _ (Cal.below X.out hC)); go_simp; rfl)))
    refine wpQuiet_nil ?_
    intro wq hq
    have Tn := Lib.hid (below_next T.out hq)
    have Xn := Lib.hid (Cal.below X.out hq)
    have CBn := Lib.hid (Bx.below CB.out hq)
    have SBn := Lib.hid (Box.below SB.out hq)
    have NBn := Lib.hid (Box.below NB.out hq)
    clear hq
    clear T X CB SB NB
    have T := Tn
    have X := Xn
    have CB := CBn
    have SB := SBn
    have NB := NBn
    clear Tn Xn CBn SBn NBn
    obtain ⟨wn, hwq⟩ : ∃ w0, w0 = wq := ⟨_, rfl⟩
    subst hwq
    have HBX := Lib.hid (fun (w' : World) (h : Below wn.heap.size wn w') (j : Nat) (hj : j < n2) => And.intro (BS.cell (Cal.below X.out h).1 hj) (And.intro (BS.cell (Cal.below X.out h).2.1 hj) (BS.cell (Cal.below X.out h).2.2 hj)))
    have HSV := Lib.hid (And.intro T.out (And.intro X.out (And.intro CB.out (And.intro SB.out NB.out))))
    rcases (by omega : f < k ∨ k < f ∨ f = k) with hfk | hfk | hfk
    · have hfki : (f : Int) < (k : Int) := by omega
      have hn1 : ((k : Int) == (f : Int)) = false := beq_false_of_ne (by omega)
      obtain ⟨⟨d0, d1⟩, df0, df1⟩ := SB.out
      obtain ⟨⟨e0, e1⟩, ef0, ef1⟩ := NB.out

      go_wp2_with fail
      go_loopw [6] (fun v wr => ∃ j : Nat, f ≤ j ∧ j ≤ k + 1 ∧ v = .int .i64 j ∧ Below w.heap.size w wr ∧ Cal wr (some ⟨b1, o1, none⟩) n2 (some ⟨b2, o2, none⟩) n2 (some ⟨b3, o3, none⟩) n2 x ∧ Bx wr h (.slice (some ⟨b1, o1, none⟩) n2 k1) (.slice (some ⟨b2, o2, none⟩) n2 k2) (.slice (some ⟨b3, o3, none⟩) n2 k3) ∧ Box wr (h + 1) (f : Int) D ∧ Box wr HN (k : Int) E) (fun v _ => k + 1 - (intOf v).toNat)
      case atStart => exact ⟨f, by omega, by omega, rfl, T.out, X.out, CB.out, SB.out, NB.out⟩
      case' round =>
        clear T X CB SB NB d0 d1 df0 df1 e0 e1 ef0 ef1
        obtain ⟨j, hj1, hj2, rfl, h9T, h9X, h9CB, h9SB, h9NB⟩ := hrel
        obtain ⟨wn, hwq⟩ : ∃ w0 : World, w0 = wr := ⟨_, rfl⟩
        rw [← hwq] at h9T h9X h9CB h9SB h9NB ⊢
        clear hwq
        have T := Lib.hid h9T
        have X := Lib.hid h9X
        have CB := Lib.hid h9CB
        have SB := Lib.hid h9SB
        have NB := Lib.hid h9NB
        clear h9T h9X h9CB h9SB h9NB
        by_cases hlt : j < k + 1
        case neg =>
          obtain rfl : j = k + 1 := by omega
          have hgt : ¬ (((k + 1 : Nat) : Int) ≤ (k : Int)) := by omega
          obtain ⟨⟨d0, d1⟩, df0, df1⟩ := SB.out
          obtain ⟨⟨e0, e1⟩, ef0, ef1⟩ := NB.out
          go_wp2_with fail
          refine wp_region_late 6 [107, 108, 109, 110, 111, 112] [(3, tV (.pointer (some ⟨h, 0, none⟩))), (5, tV (.pointer (some ⟨HN, 0, none⟩)))]
            [(107, tV (.agg #[.slice (some ⟨b1, o1, none⟩) n2 k1, .slice (some ⟨b2, o2, none⟩) n2 k2, .slice (some ⟨b3, o3, none⟩) n2 k3])), (108, tV (.agg #[.int .i64 (k : Int), .int .i64 E])), (109, tF y), (110, tV (.int .i64 M2)), (111, tV (.agg #[.slice (some ⟨b1, o1, none⟩) n2 k1, .slice (some ⟨b2, o2, none⟩) n2 k2, .slice (some ⟨b3, o3, none⟩) n2 k3])), (112, tV (.int .i64 M))]
            _ (by kernel_rfl) (by kernel_rfl) (by kernel_rfl) (by kernel_rfl) (by kernel_rfl) (by rfl) (by kernel_rfl) (by kernel_rfl) (by kernel_rfl) (by kernel_rfl) ⟨StW.g (StW.V _), StW.g (StW.V _), StW.g (StW.V _), StW.g (StW.V _), StGrow.F _, StW.g (StW.V _), StW.g (StW.V _), StW.g (StW.V _), trivial⟩ ⟨rfl, rfl, trivial⟩ ?hobf ?_
          case hobf =>
            refine ⟨?_, ?_, ?_, ?_, ?_, ?_, trivial⟩
            · intro w1 vs hC hL
              have u3 := hL 3 (List.mem_of_elem_eq_true (by kernel_rfl))
              replace u3 : vs 3 = .pointer (some ⟨h, 0, none⟩) := u3
              obtain ⟨⟨c0, c1, c2⟩, -⟩ := Bx.below CB.out hC
              go_simp
              simp only [evOf_tmp, u3]
              go_simp
              exact oa_pure hC (show tV _ _ w1 from rfl)
            · intro w1 vs hC hL
              have u5 := hL 5 (List.mem_of_elem_eq_true (by kernel_rfl))
              replace u5 : vs 5 = .pointer (some ⟨HN, 0, none⟩) := u5
              obtain ⟨⟨c0, c1⟩, -⟩ := Box.below NB.out hC
              go_simp
              simp only [evOf_tmp, u5]
              go_simp
              exact oa_pure hC (show tV _ _ w1 from rfl)
            · intro w1 vs hC hL
              have u107 := hL 107 (List.mem_of_elem_eq_true (by kernel_rfl))
              replace u107 : vs 107 = .agg #[.slice (some ⟨b1, o1, none⟩) n2 k1, .slice (some ⟨b2, o2, none⟩) n2 k2, .slice (some ⟨b3, o3, none⟩) n2 k3] := u107
              have u108 := hL 108 (List.mem_of_elem_eq_true (by kernel_rfl))
              replace u108 : vs 108 = .agg #[.int .i64 (k : Int), .int .i64 E] := u108
              go_simp
              simp only [evOf_tmp, u107, u108]
              exact oa_call hC (Calls.mono (HKV.out _ (Cal.below X.out hC)) (fun e w2 hh => (by obtain ⟨v1, v2, v3, lo, hi, rfl, hO, hb2, -, -⟩ := NewC.get hh; obtain ⟨q1, j1, q2, j2, q3, j3, rfl, rfl, rfl, hCC⟩ := OwnC.open hO; exact ⟨_, rfl, (show Fre _ _ w2 from ⟨q1, j1, q2, j2, q3, j3, rfl, hCC⟩), hb2⟩)))
            · intro w1 vs hC hL
              have u109 := hL 109 (List.mem_of_elem_eq_true (by kernel_rfl))
              replace u109 : Fre (vs 109) y w1 := u109
              obtain ⟨p1091, i1091, p1092, i1092, p1093, i1093, u109, hF109⟩ := u109
              go_simp
              simp only [evOf_tmp, u109]
              exact oa_call hC (Calls.mono (HKW.out _ _ _ _ _ _ _ _ _ _ hF109) (fun e w2 hh => (by obtain ⟨he, hb⟩ := (by first | exact hh | exact Ro.mk hh | exact St.mk hh : Mk _ _ e w2); exact ⟨_, he, (show tV _ _ w2 from rfl), hb⟩)))
            · intro w1 vs hC hL
              have u3 := hL 3 (List.mem_of_elem_eq_true (by kernel_rfl))
              replace u3 : vs 3 = .pointer (some ⟨h, 0, none⟩) := u3
              obtain ⟨⟨c0, c1, c2⟩, -⟩ := Bx.below CB.out hC
              go_simp
              simp only [evOf_tmp, u3]
              go_simp
              exact oa_pure hC (show tV _ _ w1 from rfl)
            · intro w1 vs hC hL
              have u111 := hL 111 (List.mem_of_elem_eq_true (by kernel_rfl))
              replace u111 : vs 111 = .agg #[.slice (some ⟨b1, o1, none⟩) n2 k1, .slice (some ⟨b2, o2, none⟩) n2 k2, .slice (some ⟨b3, o3, none⟩) n2 k3] := u111
              go_simp
              simp only [evOf_tmp, u111]
              exact oa_call hC (Calls.mono (HKM.out _ (Cal.below X.out hC)) (fun e w2 hh => (by obtain ⟨he, hb⟩ := (by first | exact hh | exact Ro.mk hh | exact St.mk hh : Mk _ _ e w2); exact ⟨_, he, (show tV _ _ w2 from rfl), hb⟩)))
          intro vs wq hq hT
          have t1 : vs 110 = .int .i64 M2 := hT 110 rfl
          have t2 : vs 112 = .int .i64 M := hT 112 rfl
          simp (decide := true) only [over, Nat.reduceAdd, if_true, if_false]
          rw [t1, t2]
          clear hT t1 t2
          have hlt9 : M2 < M := by omega
          have Tn := Lib.hid (below_next T.out hq)
          have Xn := Lib.hid (Cal.below X.out hq)
          have CBn := Lib.hid (Bx.below CB.out hq)
          have SBn := Lib.hid (Box.below SB.out hq)
          have NBn := Lib.hid (Box.below NB.out hq)
          clear hq
          clear T X CB SB NB
          have T := Tn
          have X := Xn
          have CB := CBn
          have SB := SBn
          have NB := NBn
          clear Tn Xn CBn SBn NBn
          obtain ⟨wn, hwq⟩ : ∃ w0, w0 = wq := ⟨_, rfl⟩
          subst hwq
          go_wp2_with fail
          go_ret
          first | exact LawOk.mk T.out | exact LawOk.mk (Below.dr T.out _)
        have hjn : j < n2 := by omega
        have hjn2 : (j : Int) < (n2 : Int) := by omega
        have hjle : (j : Int) ≤ (k : Int) := by omega
        obtain ⟨y1, y2, y3⟩ := And.intro (BS.cell X.out.1 hjn) (And.intro (BS.cell X.out.2.1 hjn) (BS.cell X.out.2.2 hjn))
        by_cases hjk : j = k
        · subst hjk
          obtain ⟨⟨c0, c1, c2⟩, -⟩ := CB.out
          obtain ⟨⟨d0, d1⟩, df0, df1⟩ := SB.out
          obtain ⟨⟨e0, e1⟩, ef0, ef1⟩ := NB.out
          go_wp2_with fail
          go_roundw
          case rel => exact ⟨j + 1, by omega, by omega, by go_num, T.out, X.out, CB.out, SB.out, NB.out⟩
          case measure => first | (simp [intOf]; done) | (simp [intOf]; omega) | omega
        · have hb9 := HBT.out j hjk (by omega)
          have hne : ((j : Int) != (k : Int)) = true := by rw [bne_iff_ne]; omega
          rw [hb9.1] at y3
          rw [hb9.2.1 (by omega)] at y1
          clear hb9
          obtain ⟨⟨c0, c1, c2⟩, -⟩ := CB.out
          obtain ⟨⟨d0, d1⟩, df0, df1⟩ := SB.out
          obtain ⟨⟨e0, e1⟩, ef0, ef1⟩ := NB.out
          go_wp2_with fail
          go_roundw
          case rel => exact ⟨j + 1, by omega, by omega, by go_num, T.out, X.out, CB.out, SB.out, NB.out⟩
          case measure => first | (simp [intOf]; done) | (simp [intOf]; omega) | omega

    · have hfki : (k : Int) < (f : Int) := by omega
      have hn1 : ((k : Int) == (f : Int)) = false := beq_false_of_ne (by omega)
      obtain ⟨⟨d0, d1⟩, df0, df1⟩ := SB.out
      obtain ⟨⟨e0, e1⟩, ef0, ef1⟩ := NB.out

      go_wp2_with fail
      go_loopw [6] (fun v wr => ∃ j : Nat, k ≤ j ∧ j ≤ f + 1 ∧ v = .int .i64 j ∧ Below w.heap.size w wr ∧ Cal wr (some ⟨b1, o1, none⟩) n2 (some ⟨b2, o2, none⟩) n2 (some ⟨b3, o3, none⟩) n2 x ∧ Bx wr h (.slice (some ⟨b1, o1, none⟩) n2 k1) (.slice (some ⟨b2, o2, none⟩) n2 k2) (.slice (some ⟨b3, o3, none⟩) n2 k3) ∧ Box wr (h + 1) (f : Int) D ∧ Box wr HN (k : Int) E) (fun v _ => f + 1 - (intOf v).toNat)
      case atStart => exact ⟨k, by omega, by omega, rfl, T.out, X.out, CB.out, SB.out, NB.out⟩
      case' round =>
        clear T X CB SB NB d0 d1 df0 df1 e0 e1 ef0 ef1
        obtain ⟨j, hj1, hj2, rfl, h9T, h9X, h9CB, h9SB, h9NB⟩ := hrel
        obtain ⟨wn, hwq⟩ : ∃ w0 : World, w0 = wr := ⟨_, rfl⟩
        rw [← hwq] at h9T h9X h9CB h9SB h9NB ⊢
        clear hwq
        have T := Lib.hid h9T
        have X := Lib.hid h9X
        have CB := Lib.hid h9CB
        have SB := Lib.hid h9SB
        have NB := Lib.hid h9NB
        clear h9T h9X h9CB h9SB h9NB
        by_cases hlt : j < f + 1
        case neg =>
          obtain rfl : j = f + 1 := by omega
          have hgt : ¬ (((f + 1 : Nat) : Int) ≤ (f : Int)) := by omega
          obtain ⟨⟨d0, d1⟩, df0, df1⟩ := SB.out
          obtain ⟨⟨e0, e1⟩, ef0, ef1⟩ := NB.out
          go_wp2_with fail
          refine wp_region_late 6 [107, 108, 109, 110, 111, 112] [(3, tV (.pointer (some ⟨h, 0, none⟩))), (5, tV (.pointer (some ⟨HN, 0, none⟩)))]
            [(107, tV (.agg #[.slice (some ⟨b1, o1, none⟩) n2 k1, .slice (some ⟨b2, o2, none⟩) n2 k2, .slice (some ⟨b3, o3, none⟩) n2 k3])), (108, tV (.agg #[.int .i64 (k : Int), .int .i64 E])), (109, tF y), (110, tV (.int .i64 M2)), (111, tV (.agg #[.slice (some ⟨b1, o1, none⟩) n2 k1, .slice (some ⟨b2, o2, none⟩) n2 k2, .slice (some ⟨b3, o3, none⟩) n2 k3])), (112, tV (.int .i64 M))]
            _ (by kernel_rfl) (by kernel_rfl) (by kernel_rfl) (by kernel_rfl) (by kernel_rfl) (by rfl) (by kernel_rfl) (by kernel_rfl) (by kernel_rfl) (by kernel_rfl) ⟨StW.g (StW.V _), StW.g (StW.V _), StW.g (StW.V _), StW.g (StW.V _), StGrow.F _, StW.g (StW.V _), StW.g (StW.V _), StW.g (StW.V _), trivial⟩ ⟨rfl, rfl, trivial⟩ ?hobf ?_
          case hobf =>
            refine ⟨?_, ?_, ?_, ?_, ?_, ?_, trivial⟩
            · intro w1 vs hC hL
              have u3 := hL 3 (List.mem_of_elem_eq_true (by kernel_rfl))
              replace u3 : vs 3 = .pointer (some ⟨h, 0, none⟩) := u3
              obtain ⟨⟨c0, c1, c2⟩, -⟩ := Bx.below CB.out hC
              go_simp
              simp only [evOf_tmp, u3]
              go_simp
              exact oa_pure hC (show tV _ _ w1 from rfl)
            · intro w1 vs hC hL
              have u5 := hL 5 (List.mem_of_elem_eq_true (by kernel_rfl))
              replace u5 : vs 5 = .pointer (some ⟨HN, 0, none⟩) := u5
              obtain ⟨⟨c0, c1⟩, -⟩ := Box.below NB.out hC
              go_simp
              simp only [evOf_tmp, u5]
              go_simp
              exact oa_pure hC (show tV _ _ w1 from rfl)
            · intro w1 vs hC hL
              have u107 := hL 107 (List.mem_of_elem_eq_true (by kernel_rfl))
              replace u107 : vs 107 = .agg #[.slice (some ⟨b1, o1, none⟩) n2 k1, .slice (some ⟨b2, o2, none⟩) n2 k2, .slice (some ⟨b3, o3, none⟩) n2 k3] := u107
              have u108 := hL 108 (List.mem_of_elem_eq_true (by kernel_rfl))
              replace u108 : vs 108 = .agg #[.int .i64 (k : Int), .int .i64 E] := u108
              go_simp
              simp only [evOf_tmp, u107, u108]
              exact oa_call hC (Calls.mono (HKV.out _ (Cal.below X.out hC)) (fun e w2 hh => (by obtain ⟨v1, v2, v3, lo, hi, rfl, hO, hb2, -, -⟩ := NewC.get hh; obtain ⟨q1, j1, q2, j2, q3, j3, rfl, rfl, rfl, hCC⟩ := OwnC.open hO; exact ⟨_, rfl, (show Fre _ _ w2 from ⟨q1, j1, q2, j2, q3, j3, rfl, hCC⟩), hb2⟩)))
            · intro w1 vs hC hL
              have u109 := hL 109 (List.mem_of_elem_eq_true (by kernel_rfl))
              replace u109 : Fre (vs 109) y w1 := u109
              obtain ⟨p1091, i1091, p1092, i1092, p1093, i1093, u109, hF109⟩ := u109
              go_simp
              simp only [evOf_tmp, u109]
              exact oa_call hC (Calls.mono (HKW.out _ _ _ _ _ _ _ _ _ _ hF109) (fun e w2 hh => (by obtain ⟨he, hb⟩ := (by first | exact hh | exact Ro.mk hh | exact St.mk hh : Mk _ _ e w2); exact ⟨_, he, (show tV _ _ w2 from rfl), hb⟩)))
            · intro w1 vs hC hL
              have u3 := hL 3 (List.mem_of_elem_eq_true (by kernel_rfl))
              replace u3 : vs 3 = .pointer (some ⟨h, 0, none⟩) := u3
              obtain ⟨⟨c0, c1, c2⟩, -⟩ := Bx.below CB.out hC
              go_simp
              simp only [evOf_tmp, u3]
              go_simp
              exact oa_pure hC (show tV _ _ w1 from rfl)
            · intro w1 vs hC hL
              have u111 := hL 111 (List.mem_of_elem_eq_true (by kernel_rfl))
              replace u111 : vs 111 = .agg #[.slice (some ⟨b1, o1, none⟩) n2 k1, .slice (some ⟨b2, o2, none⟩) n2 k2, .slice (some ⟨b3, o3, none⟩) n2 k3] := u111
              go_simp
              simp only [evOf_tmp, u111]
              exact oa_call hC (Calls.mono (HKM.out _ (Cal.below X.out hC)) (fun e w2 hh => (by obtain ⟨he, hb⟩ := (by first | exact hh | exact Ro.mk hh | exact St.mk hh : Mk _ _ e w2); exact ⟨_, he, (show tV _ _ w2 from rfl), hb⟩)))
          intro vs wq hq hT
          have t1 : vs 110 = .int .i64 M2 := hT 110 rfl
          have t2 : vs 112 = .int .i64 M := hT 112 rfl
          simp (decide := true) only [over, Nat.reduceAdd, if_true, if_false]
          rw [t1, t2]
          clear hT t1 t2
          have hlt9 : M2 < M := by omega
          have Tn := Lib.hid (below_next T.out hq)
          have Xn := Lib.hid (Cal.below X.out hq)
          have CBn := Lib.hid (Bx.below CB.out hq)
          have SBn := Lib.hid (Box.below SB.out hq)
          have NBn := Lib.hid (Box.below NB.out hq)
          clear hq
          clear T X CB SB NB
          have T := Tn
          have X := Xn
          have CB := CBn
          have SB := SBn
          have NB := NBn
          clear Tn Xn CBn SBn NBn
          obtain ⟨wn, hwq⟩ : ∃ w0, w0 = wq := ⟨_, rfl⟩
          subst hwq
          go_wp2_with fail
          go_ret
          first | exact LawOk.mk T.out | exact LawOk.mk (Below.dr T.out _)
        have hjn : j < n2 := by omega
        have hjn2 : (j : Int) < (n2 : Int) := by omega
        have hjle : (j : Int) ≤ (f : Int) := by omega
        obtain ⟨y1, y2, y3⟩ := And.intro (BS.cell X.out.1 hjn) (And.intro (BS.cell X.out.2.1 hjn) (BS.cell X.out.2.2 hjn))
        by_cases hjk : j = k
        · subst hjk
          obtain ⟨⟨c0, c1, c2⟩, -⟩ := CB.out
          obtain ⟨⟨d0, d1⟩, df0, df1⟩ := SB.out
          obtain ⟨⟨e0, e1⟩, ef0, ef1⟩ := NB.out
          go_wp2_with fail
          go_roundw
          case rel => exact ⟨j + 1, by omega, by omega, by go_num, T.out, X.out, CB.out, SB.out, NB.out⟩
          case measure => first | (simp [intOf]; done) | (simp [intOf]; omega) | omega
        · have hb9 := HBT.out j hjk (by omega)
          have hne : ((j : Int) != (k : Int)) = true := by rw [bne_iff_ne]; omega
          rw [hb9.1] at y3
          rw [hb9.2.2 (by omega)] at y2
          clear hb9
          obtain ⟨⟨c0, c1, c2⟩, -⟩ := CB.out
          obtain ⟨⟨d0, d1⟩, df0, df1⟩ := SB.out
          obtain ⟨⟨e0, e1⟩, ef0, ef1⟩ := NB.out
          go_wp2_with fail
          go_roundw
          case rel => exact ⟨j + 1, by omega, by omega, by go_num, T.out, X.out, CB.out, SB.out, NB.out⟩
          case measure => first | (simp [intOf]; done) | (simp [intOf]; omega) | omega

    · obtain rfl : k = f := hfk.symm
      clear hfk
      obtain ⟨⟨d0, d1⟩, df0, df1⟩ := SB.out
      obtain ⟨⟨e0, e1⟩, ef0, ef1⟩ := NB.out
      go_wp2_with fail
      go_loopw [6] (fun v wr => ∃ j : Nat, k ≤ j ∧ j ≤ k + 1 ∧ v = .int .i64 j ∧ Below w.heap.size w wr ∧ Cal wr (some ⟨b1, o1, none⟩) n2 (some ⟨b2, o2, none⟩) n2 (some ⟨b3, o3, none⟩) n2 x ∧ Bx wr h (.slice (some ⟨b1, o1, none⟩) n2 k1) (.slice (some ⟨b2, o2, none⟩) n2 k2) (.slice (some ⟨b3, o3, none⟩) n2 k3) ∧ Box wr (h + 1) (k : Int) D ∧ Box wr HN (k : Int) E) (fun v _ => k + 1 - (intOf v).toNat)
      case atStart => exact ⟨k, by omega, by omega, rfl, T.out, X.out, CB.out, SB.out, NB.out⟩
      case' round =>
        clear T X CB SB NB d0 d1 df0 df1 e0 e1 ef0 ef1
        obtain ⟨j, hj1, hj2, rfl, h9T, h9X, h9CB, h9SB, h9NB⟩ := hrel
        obtain ⟨wn, hwq⟩ : ∃ w0 : World, w0 = wr := ⟨_, rfl⟩
        rw [← hwq] at h9T h9X h9CB h9SB h9NB ⊢
        clear hwq
        have T := Lib.hid h9T
        have X := Lib.hid h9X
        have CB := Lib.hid h9CB
        have SB := Lib.hid h9SB
        have NB := Lib.hid h9NB
        clear h9T h9X h9CB h9SB h9NB
        by_cases hlt : j < k + 1
        case neg =>
          obtain rfl : j = k + 1 := by omega
          have hgt : ¬ (((k + 1 : Nat) : Int) ≤ (k : Int)) := by omega
          obtain ⟨⟨d0, d1⟩, df0, df1⟩ := SB.out
          obtain ⟨⟨e0, e1⟩, ef0, ef1⟩ := NB.out
          go_wp2_with fail
          refine wp_region_late 6 [107, 108, 109, 110, 111, 112] [(3, tV (.pointer (some ⟨h, 0, none⟩))), (5, tV (.pointer (some ⟨HN, 0, none⟩)))]
            [(107, tV (.agg #[.slice (some ⟨b1, o1, none⟩) n2 k1, .slice (some ⟨b2, o2, none⟩) n2 k2, .slice (some ⟨b3, o3, none⟩) n2 k3])), (108, tV (.agg #[.int .i64 (k : Int), .int .i64 E])), (109, tF y), (110, tV (.int .i64 M2)), (111, tV (.agg #[.slice (some ⟨b1, o1, none⟩) n2 k1, .slice (some ⟨b2, o2, none⟩) n2 k2, .slice (some ⟨b3, o3, none⟩) n2 k3])), (112, tV (.int .i64 M))]
            _ (by kernel_rfl) (by kernel_rfl) (by kernel_rfl) (by kernel_rfl) (by kernel_rfl) (by rfl) (by kernel_rfl) (by kernel_rfl) (by kernel_rfl) (by kernel_rfl) ⟨StW.g (StW.V _), StW.g (StW.V _), StW.g (StW.V _), StW.g (StW.V _), StGrow.F _, StW.g (StW.V _), StW.g (StW.V _), StW.g (StW.V _), trivial⟩ ⟨rfl, rfl, trivial⟩ ?hobf ?_
          case hobf =>
            refine ⟨?_, ?_, ?_, ?_, ?_, ?_, trivial⟩
            · intro w1 vs hC hL
              have u3 := hL 3 (List.mem_of_elem_eq_true (by kernel_rfl))
              replace u3 : vs 3 = .pointer (some ⟨h, 0, none⟩) := u3
              obtain ⟨⟨c0, c1, c2⟩, -⟩ := Bx.below CB.out hC
              go_simp
              simp only [evOf_tmp, u3]
              go_simp
              exact oa_pure hC (show tV _ _ w1 from rfl)
            · intro w1 vs hC hL
              have u5 := hL 5 (List.mem_of_elem_eq_true (by kernel_rfl))
              replace u5 : vs 5 = .pointer (some ⟨HN, 0, none⟩) := u5
              obtain ⟨⟨c0, c1⟩, -⟩ := Box.below NB.out hC
              go_simp
              simp only [evOf_tmp, u5]
              go_simp
              exact oa_pure hC (show tV _ _ w1 from rfl)
            · intro w1 vs hC hL
              have u107 := hL 107 (List.mem_of_elem_eq_true (by kernel_rfl))
              replace u107 : vs 107 = .agg #[.slice (some ⟨b1, o1, none⟩) n2 k1, .slice (some ⟨b2, o2, none⟩) n2 k2, .slice (some ⟨b3, o3, none⟩) n2 k3] := u107
              have u108 := hL 108 (List.mem_of_elem_eq_true (by kernel_rfl))
              replace u108 : vs 108 = .agg #[.int .i64 (k : Int), .int .i64 E] := u108
              go_simp
              simp only [evOf_tmp, u107, u108]
              exact oa_call hC (Calls.mono (HKV.out _ (Cal.below X.out hC)) (fun e w2 hh => (by obtain ⟨v1, v2, v3, lo, hi, rfl, hO, hb2, -, -⟩ := NewC.get hh; obtain ⟨q1, j1, q2, j2, q3, j3, rfl, rfl, rfl, hCC⟩ := OwnC.open hO; exact ⟨_, rfl, (show Fre _ _ w2 from ⟨q1, j1, q2, j2, q3, j3, rfl, hCC⟩), hb2⟩)))
            · intro w1 vs hC hL
              have u109 := hL 109 (List.mem_of_elem_eq_true (by kernel_rfl))
              replace u109 : Fre (vs 109) y w1 := u109
              obtain ⟨p1091, i1091, p1092, i1092, p1093, i1093, u109, hF109⟩ := u109
              go_simp
              simp only [evOf_tmp, u109]
              exact oa_call hC (Calls.mono (HKW.out _ _ _ _ _ _ _ _ _ _ hF109) (fun e w2 hh => (by obtain ⟨he, hb⟩ := (by first | exact hh | exact Ro.mk hh | exact St.mk hh : Mk _ _ e w2); exact ⟨_, he, (show tV _ _ w2 from rfl), hb⟩)))
            · intro w1 vs hC hL
              have u3 := hL 3 (List.mem_of_elem_eq_true (by kernel_rfl))
              replace u3 : vs 3 = .pointer (some ⟨h, 0, none⟩) := u3
              obtain ⟨⟨c0, c1, c2⟩, -⟩ := Bx.below CB.out hC
              go_simp
              simp only [evOf_tmp, u3]
              go_simp
              exact oa_pure hC (show tV _ _ w1 from rfl)
            · intro w1 vs hC hL
              have u111 := hL 111 (List.mem_of_elem_eq_true (by kernel_rfl))
              replace u111 : vs 111 = .agg #[.slice (some ⟨b1, o1, none⟩) n2 k1, .slice (some ⟨b2, o2, none⟩) n2 k2, .slice (some ⟨b3, o3, none⟩) n2 k3] := u111
              go_simp
              simp only [evOf_tmp, u111]
              exact oa_call hC (Calls.mono (HKM.out _ (Cal.below X.out hC)) (fun e w2 hh => (by obtain ⟨he, hb⟩ := (by first | exact hh | exact Ro.mk hh | exact St.mk hh : Mk _ _ e w2); exact ⟨_, he, (show tV _ _ w2 from rfl), hb⟩)))
          intro vs wq hq hT
          have t1 : vs 110 = .int .i64 M2 := hT 110 rfl
          have t2 : vs 112 = .int .i64 M := hT 112 rfl
          simp (decide := true) only [over, Nat.reduceAdd, if_true, if_false]
          rw [t1, t2]
          clear hT t1 t2
          have hlt9 : M2 < M := by omega
          have Tn := Lib.hid (below_next T.out hq)
          have Xn := Lib.hid (Cal.below X.out hq)
          have CBn := Lib.hid (Bx.below CB.out hq)
          have SBn := Lib.hid (Box.below SB.out hq)
          have NBn := Lib.hid (Box.below NB.out hq)
          clear hq
          clear T X CB SB NB
          have T := Tn
          have X := Xn
          have CB := CBn
          have SB := SBn
          have NB := NBn
          clear Tn Xn CBn SBn NBn
          obtain ⟨wn, hwq⟩ : ∃ w0, w0 = wq := ⟨_, rfl⟩
          subst hwq
          go_wp2_with fail
          go_ret
          first | exact LawOk.mk T.out | exact LawOk.mk (Below.dr T.out _)
        obtain rfl : j = k := by omega
        by_cases hE : E = 1
        · have tE : (E == 1) = true := by simp [hE]
          clear hE
          obtain ⟨⟨c0, c1, c2⟩, -⟩ := CB.out
          obtain ⟨⟨d0, d1⟩, df0, df1⟩ := SB.out
          obtain ⟨⟨e0, e1⟩, ef0, ef1⟩ := NB.out
          go_wp2_with fail
          go_roundw
          case rel => exact ⟨j + 1, by omega, by omega, by go_num, T.out, X.out, CB.out, SB.out, NB.out⟩
          case measure => first | (simp [intOf]; done) | (simp [intOf]; omega) | omega
        · have tE : (E == 1) = false := beq_false_of_ne hE
          clear hE
          obtain ⟨⟨c0, c1, c2⟩, -⟩ := CB.out
          obtain ⟨⟨d0, d1⟩, df0, df1⟩ := SB.out
          obtain ⟨⟨e0, e1⟩, ef0, ef1⟩ := NB.out
          go_wp2_with fail
          go_roundw
          case rel => exact ⟨j + 1, by omega, by omega, by go_num, T.out, X.out, CB.out, SB.out, NB.out⟩
          case measure => first | (simp [intOf]; done) | (simp [intOf]; omega) | omega

end Go.Proofs.Ytkpginkkfobblaa
