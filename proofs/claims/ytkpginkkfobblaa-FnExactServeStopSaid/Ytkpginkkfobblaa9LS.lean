/- The law of SweepStops: the walk. -/
import Derived.Test.Ytkpginkkfobblaa9H
import Derived.Test.Ytkpginkkfobblaa9I
import Derived.Test.Ytkpginkkfobblaa9U
namespace Go.Proofs.Ytkpginkkfobblaa
open Go.RowKit
set_option linter.unusedVariables false

theorem svs_snoc (l : List (Nat × Bool)) : ∀ (x : Cs) (r : Nat × Bool), svs x (l ++ [r]) = srv (svs x l) r.1 r.2 := by
  induction l with
  | nil => intro x r; rfl
  | cons q l ih => intro x r; exact ih _ r
def ldir (up : Bool) : List (Nat × Bool) → Bool
  | [] => up
  | r :: l => ldir r.2 l
theorem ldir_snoc (l : List (Nat × Bool)) : ∀ (up : Bool) (r : Nat × Bool), ldir up (l ++ [r]) = r.2 := by
  induction l with
  | nil => intro up r; rfl
  | cons q l ih => intro up r; exact ih _ r
theorem tn_snoc (l : List (Nat × Bool)) : ∀ (up : Bool) (r : Nat × Bool), tn up (l ++ [r]) = tn up l + (if r.2 = ldir up l then 0 else 1) := by
  induction l with
  | nil => intro up r; by_cases h : r.2 = up <;> simp [tn, ldir, h]
  | cons q l ih =>
    intro up r
    have := ih q.2 r
    by_cases h : r.2 = ldir q.2 l <;> simp only [List.cons_append, tn, ldir, h, if_true, if_false] at this ⊢ <;> omega
theorem Cal.lt {w : World} {a1 : Option Addr} {n1 : Nat} {a2 : Option Addr} {n2 : Nat} {a3 : Option Addr} {n3 k1 k2 k3 : Nat} {x : Cs} (hv : CV x) (h : Cal w a1 n1 a2 n2 a3 n3 x) : ∀ q, ((Value.slice a1 n1 k1).ownBlock = some q ∨ (Value.slice a2 n2 k2).ownBlock = some q ∨ (Value.slice a3 n3 k3).ownBlock = some q) → q < w.heap.size := by
  obtain ⟨rfl, rfl, h3, h8, b1, o1, b2, o2, b3, o3, rfl, rfl, rfl⟩ := CV.rows hv h
  have n0 : 0 < n2 := by rw [h3]; exact hv.1
  intro q hq
  rcases hq with hq | hq | hq <;> (simp only [Value.ownBlock, Option.some.injEq] at hq; subst hq)
  · exact World.block_lt_of_cell? w _ (BS.cell h.1 n0)
  · exact World.block_lt_of_cell? w _ (BS.cell h.2.1 n0)
  · exact World.block_lt_of_cell? w _ (BS.cell h.2.2 n0)
theorem dI_inj {a b : Bool} : dI a = dI b ↔ a = b := by cases a <;> cases b <;> simp [dI]
theorem swl_mem : ∀ (m : Nat) (x : Cs) (f : Nat) (up : Bool), f < x.c.length → ∀ r ∈ swl x f up m, r.1 < x.c.length
  | 0, x, f, up, hf, r, h => by cases h
  | m + 1, x, f, up, hf, r, h => by
    unfold swl at h
    rcases nx_spec x f up hf with ⟨e, -⟩ | ⟨k, u, e, hk, -⟩
    · rw [e] at h; cases h
    · rw [e] at h
      rcases List.mem_cons.1 h with rfl | h
      · exact hk
      · have := swl_mem m (srv x k u) k u (by rw [(srv_len x k u).2.2]; exact hk) r h
        rwa [(srv_len x k u).2.2] at this
theorem svs_ok (l : List (Nat × Bool)) : ∀ (x : Cs), CV x → (∀ r ∈ l, r.1 < x.c.length) → CV (svs x l) ∧ (svs x l).c.length = x.c.length := by
  induction l with
  | nil => intro x hv _; exact ⟨hv, rfl⟩
  | cons q l ih =>
    intro x hv hm
    have hq := hm q (List.mem_cons_self ..)
    have hc := (srv_len x q.1 q.2).2.2
    have := ih (srv x q.1 q.2) (srv_ok q.2 hv hq) (fun r hr => by rw [hc]; exact hm r (List.mem_cons_of_mem _ hr))
    exact ⟨this.1, this.2.trans hc⟩
theorem sfl_nth : ∀ (l : List (Nat × Bool)) (k : Nat) (h : k < l.length), nth (sfl l) (k * 2) = (l[k].1 : Int) ∧ nth (sfl l) (k * 2 + 1) = dI l[k].2
  | r :: l, 0, _ => ⟨rfl, rfl⟩
  | r :: l, k + 1, h => by
    have := sfl_nth l k (by simpa using h)
    rw [show (k + 1) * 2 = k * 2 + 1 + 1 by omega]
    exact this
theorem take_snoc {l : List (Nat × Bool)} {k : Nat} (h : k < l.length) : l.take (k + 1) = l.take k ++ [l[k]] := by simp
/-- One step of the law's count. -/
theorem sw_step {x : Cs} {L : List (Nat × Bool)} {up : Bool} {k : Nat} (hv : CV x) (hm : ∀ r ∈ L, r.1 < x.c.length) (hk : k < L.length) :
    SK (svs x (L.take k)) (L[k].1 : Nat) (dI L[k].2) ∧ svs x (L.take (k + 1)) = srv (svs x (L.take k)) L[k].1 L[k].2 ∧ ldir up (L.take (k + 1)) = L[k].2 ∧
    tn up (L.take (k + 1)) = tn up (L.take k) + (if L[k].2 = ldir up (L.take k) then 0 else 1) ∧ tn up (L.take k) ≤ k := by
  have h1 := svs_ok (L.take k) x hv (fun r hr => hm r (List.mem_of_mem_take hr))
  have h2 := hm L[k] (List.getElem_mem hk)
  have h3 : dI L[k].2 = 1 ∨ dI L[k].2 = -1 := by cases L[k].2 <;> simp [dI]
  refine ⟨⟨h1.1, ⟨by omega, by rw [h1.2]; omega⟩, h3⟩, ?_, ?_, ?_, ?_⟩
  · rw [take_snoc hk, svs_snoc]
  · rw [take_snoc hk, ldir_snoc]
  · rw [take_snoc hk, tn_snoc]
  · have : ∀ (l : List (Nat × Bool)) (v : Bool), tn v l ≤ l.length := by
      intro l
      induction l with
      | nil => intro v; simp [tn]
      | cons r l ih => intro v; have := ih r.2; simp only [tn, List.length_cons]; split <;> omega
    have := this (L.take k) up
    simp at this
    omega
set_option maxHeartbeats 16000000 in
theorem SweepStops_w (a : Option Addr) (n cap : Nat) (w : World) (hb : Byt w a n) (hn : n ≤ cap) (hcap : cap ≤ maxLen) :
    Calls Try.prog 5 #[.slice a n cap] w (LawOk w) := by
  have hcap' := hcap
  unfold maxLen at hcap'
  by_cases bign : 1048576 < n
  · go_enter Try.func5, Try.ntmps5
    go_wp2_with fail
    go_ret
    exact LawOk.mk (Below.refl _ _)
  go_enter Try.func5, Try.ntmps5
  go_wp2_with fail
  refine Calls.mono (DrawSweepStops_c a n cap _ hb hn hcap) ?_
  rintro e wn ⟨a1, n1, k1, a2, n2, k2, a3, n3, k3, x, f, d, rfl, hX, ⟨l1, l2, l3⟩, ⟨⟨f0, f1⟩, d0, d1⟩, hB⟩
  have T := Lib.hid hB
  have X := Lib.hid hX
  have x1 := hX.1.1
  have x2 := hX.2.1.1
  have x3 := hX.2.2.1
  have KI := fun w' (h : Cal w' a1 n1 a2 n2 a3 n3 x) => iSweepStops_c a1 n1 k1 a2 n2 k2 a3 n3 k3 x f d w' h
  have KO := fun w' (h : Cal w' a1 n1 a2 n2 a3 n3 x) => stopOk_c a1 n1 k1 a2 n2 k2 a3 n3 k3 x f d w' h
  clear hB hX hb
  obtain ⟨h, hg⟩ : ∃ g, Array.size (World.heap wn) = g := ⟨_, rfl⟩
  have HGh := Lib.hid hg
  have hTh : w.heap.size ≤ h := by rw [← hg]; exact T.out.size
  have Tn := Lib.hid (show Below w.heap.size w ((wn.alloc (.cells #[.slice a1 n1 k1, .slice a2 n2 k2, .slice a3 n3 k3] 25)).alloc (.cells #[.int .i64 (f), .int .i64 (d)] 27)) from (Below.al (Below.al T.out (.cells #[.slice a1 n1 k1, .slice a2 n2 k2, .slice a3 n3 k3] 25)) (.cells #[.int .i64 (f), .int .i64 (d)] 27)))
  have Xn := Lib.hid (Cal.below X.out (show Below wn.heap.size wn ((wn.alloc (.cells #[.slice a1 n1 k1, .slice a2 n2 k2, .slice a3 n3 k3] 25)).alloc (.cells #[.int .i64 (f), .int .i64 (d)] 27)) from (Below.al (Below.al (Below.refl _ _) (.cells #[.slice a1 n1 k1, .slice a2 n2 k2, .slice a3 n3 k3] 25)) (.cells #[.int .i64 (f), .int .i64 (d)] 27))))
  have CB := Lib.hid (show Bx ((wn.alloc (.cells #[.slice a1 n1 k1, .slice a2 n2 k2, .slice a3 n3 k3] 25)).alloc (.cells #[.int .i64 (f), .int .i64 (d)] 27)) h (.slice a1 n1 k1) (.slice a2 n2 k2) (.slice a3 n3 k3) from by have h9 := (Bx.al (Bx.new wn (.slice a1 n1 k1) (.slice a2 n2 k2) (.slice a3 n3 k3) 25) (.cells #[.int .i64 (f), .int .i64 (d)] 27)); simp only [World.size_alloc, hg, Nat.add_assoc, Nat.reduceAdd] at h9; exact h9)
  have SB := Lib.hid (show Box ((wn.alloc (.cells #[.slice a1 n1 k1, .slice a2 n2 k2, .slice a3 n3 k3] 25)).alloc (.cells #[.int .i64 (f), .int .i64 (d)] 27)) (h + 1) (f) (d) from by have h9 := (Box.new (wn.alloc (.cells #[.slice a1 n1 k1, .slice a2 n2 k2, .slice a3 n3 k3] 25)) (f) (d) 27); simp only [World.size_alloc, hg, Nat.add_assoc, Nat.reduceAdd] at h9; exact h9)
  have HZh := Lib.hid (show (((wn.alloc (.cells #[.slice a1 n1 k1, .slice a2 n2 k2, .slice a3 n3 k3] 25)).alloc (.cells #[.int .i64 (f), .int .i64 (d)] 27))).heap.size = h + 2 from by simp only [World.size_alloc, hg, Nat.add_assoc, Nat.reduceAdd])
  clear hg
  clear T X
  have T := Tn
  have X := Xn
  clear Tn Xn
  by_cases hs : SK x f d
  case neg =>
    rw [swT_f hs] at KI
    rw [skB_f hs] at KO
    have KS := fun w' (h : Cal w' a1 n1 a2 n2 a3 n3 x) => sSweepStops_f a1 n1 k1 a2 n2 k2 a3 n3 k3 x f d w' h hs
    have HKI := Lib.hid KI
    have HKS := Lib.hid KS
    have HKO := Lib.hid KO
    clear KI KS KO hs x1 x2 x3
    go_wp2_with fail
    rw [HGh.out]
    refine Calls.mono (HKI.out _ X.out) ?_
    rintro e wq ⟨v1, rfl, hO, hb⟩
    have Tn := Lib.hid (below_next T.out hb)
    have Xn := Lib.hid (Cal.below X.out hb)
    have CBn := Lib.hid (Bx.below CB.out hb)
    have SBn := Lib.hid (Box.below SB.out hb)
    clear hb
    clear T X CB SB
    have T := Tn
    have X := Xn
    have CB := CBn
    have SB := SBn
    clear Tn Xn CBn SBn
    obtain ⟨wn, hwq⟩ : ∃ w0, w0 = wq := ⟨_, rfl⟩
    subst hwq
    obtain ⟨p1, u1, rfl, -, -⟩ := OwnR.open hO
    have R1 := Lib.hid hO
    clear hO
    obtain ⟨⟨c0, c1, c2⟩, -⟩ := CB.out
    obtain ⟨⟨d0, d1⟩, df0, df1⟩ := SB.out
    go_wp2_with fail
    refine Calls.mono (HKS.out _ X.out) ?_
    rintro e wq ⟨v2, rfl, hO, hb⟩
    have Tn := Lib.hid (below_next T.out hb)
    have Xn := Lib.hid (Cal.below X.out hb)
    have CBn := Lib.hid (Bx.below CB.out hb)
    have SBn := Lib.hid (Box.below SB.out hb)
    have R1n := Lib.hid (OwnR.below R1.out hb)
    clear hb
    clear T X CB SB R1
    have T := Tn
    have X := Xn
    have CB := CBn
    have SB := SBn
    have R1 := R1n
    clear Tn Xn CBn SBn R1n
    obtain ⟨wn, hwq⟩ : ∃ w0, w0 = wq := ⟨_, rfl⟩
    subst hwq
    obtain ⟨p2, u2, rfl, hr2, -⟩ := OwnR.open hO
    obtain ⟨q1, q2, e1, hr1, -⟩ := OwnR.open R1.out
    simp only [Value.slice.injEq] at e1
    obtain ⟨rfl, -, rfl⟩ := e1
    have K := sameStops_c p1 0 u1 (sfl []) p2 0 u2 (sfl []) wn hr1 hr2 (by omega)
    rw [tr_true rfl] at K
    have HK := Lib.hid K
    clear hO hr1 hr2 K
    go_wp2_with fail
    refine Calls.mono (HK.out) ?_
    intro e wn hh
    obtain ⟨he, hb⟩ := (by first | exact hh | exact Ro.mk hh | exact St.mk hh | exact LawOk.mk' hh : Mk _ _ e wn)
    subst he
    have Tn : Hid (Below w.heap.size w wn) := below_next T.out hb
    have Xn : Hid _ := Cal.below X.out hb
    have CBn : Hid _ := Bx.below CB.out hb
    have SBn : Hid _ := Box.below SB.out hb
    have R1n : Hid _ := OwnR.below R1.out hb
    clear hb hh c0 c1 c2 d0 d1 df0 df1
    clear T X CB SB R1
    have T := Tn
    have X := Xn
    have CB := CBn
    have SB := SBn
    have R1 := R1n
    clear Tn Xn CBn SBn R1n
    clear HK
    obtain ⟨⟨c0, c1, c2⟩, -⟩ := CB.out
    obtain ⟨⟨d0, d1⟩, df0, df1⟩ := SB.out
    go_wp2_with fail
    refine Calls.mono (HKO.out _ X.out) ?_
    intro e wn hh
    obtain ⟨he, hb⟩ := (by first | exact hh | exact Ro.mk hh | exact St.mk hh | exact LawOk.mk' hh : Mk _ _ e wn)
    subst he
    have Tn : Hid (Below w.heap.size w wn) := below_next T.out hb
    have Xn : Hid _ := Cal.below X.out hb
    have CBn : Hid _ := Bx.below CB.out hb
    have SBn : Hid _ := Box.below SB.out hb
    have R1n : Hid _ := OwnR.below R1.out hb
    clear hb hh c0 c1 c2 d0 d1 df0 df1
    clear T X CB SB R1
    have T := Tn
    have X := Xn
    have CB := CBn
    have SB := SBn
    have R1 := R1n
    clear Tn Xn CBn SBn R1n
    go_wp2_with fail
    refine Calls.mono (alive_c _) ?_
    intro e wn hh
    obtain ⟨he, hb⟩ := (by first | exact hh | exact Ro.mk hh | exact St.mk hh | exact LawOk.mk' hh : Mk _ _ e wn)
    subst he
    have Tn : Hid (Below w.heap.size w wn) := below_next T.out hb
    have Xn : Hid _ := Cal.below X.out hb
    have CBn : Hid _ := Bx.below CB.out hb
    have SBn : Hid _ := Box.below SB.out hb
    have R1n : Hid _ := OwnR.below R1.out hb
    clear hb hh
    clear T X CB SB R1
    have T := Tn
    have X := Xn
    have CB := CBn
    have SB := SBn
    have R1 := R1n
    clear Tn Xn CBn SBn R1n
    go_wp2_with fail
    go_ret
    first | exact LawOk.mk T.out | exact LawOk.mk (Below.dr T.out _)
  obtain ⟨f, up, rfl, hf, rfl⟩ := SK.dir hs
  rw [swT_t hs] at KI
  rw [skB_t hs] at KO
  have KS := fun w' (h : Cal w' a1 n1 a2 n2 a3 n3 x) => sSweepStops_t a1 n1 k1 a2 n2 k2 a3 n3 k3 x f up w' h hs
  have hv := hs.1
  obtain ⟨z0, z1⟩ := cm_top hv
  have hE := swl_end 30 x f up hv hf (by have := cm_bd x; omega)
  have hM := swl_mem 30 x f up hf
  have hT2 := (tn_le 30 x f up hf).2.2
  have KM := fun w' (h : Cal w' a1 n1 a2 n2 a3 n3 x) => iCallsMany_c a1 n1 k1 a2 n2 k2 a3 n3 k3 x w' h
  have m24 := (cm_bd x).2
  obtain ⟨L, hL⟩ : ∃ L, swl x f up 30 = L := ⟨_, rfl⟩
  rw [hL] at KI KS hE hM hT2
  obtain ⟨M, hMM⟩ : ∃ M, cm x = M := ⟨_, rfl⟩
  rw [hMM] at KM hE m24 z0 z1
  have hlen : L.length ≤ 24 := by have := hE.2.2; omega
  have KE := fun (w' : World) (p1 p2 p3 : Option Addr) (m1 m2 m3 i1 i2 i3 : Nat) (h : Cal w' p1 m1 p2 m2 p3 m3 (svs x L)) => iCallsMany_c p1 m1 i1 p2 m2 i2 p3 m3 i3 (svs x L) w' h
  rw [hE.1] at KE
  have HKE := Lib.hid KE
  have HKI := Lib.hid KI
  have HKS := Lib.hid KS
  have HKO := Lib.hid KO
  have HKM := Lib.hid KM
  have HV := Lib.hid hv
  have HM := Lib.hid hM
  have hLM := hE.2.2
  have HEQ := Lib.hid (show n1 = n3 ∧ n2 = n3 ∧ n3 = x.c.length from let ⟨e1, e2, e3, _⟩ := CV.rows hv X.out; ⟨e1, e2, e3⟩)
  clear KI KS KO KM KE hs x1 x2 x3 hv hE hM hL hMM hf
  go_wp2_with fail
  rw [HGh.out]
  refine Calls.mono (HKI.out _ X.out) ?_
  rintro e wq ⟨v1, rfl, hO, hb⟩
  replace hO := OwnR.mono (A := w.heap.size) hO T.out.size
  have Tn := Lib.hid (below_next T.out hb)
  have Xn := Lib.hid (Cal.below X.out hb)
  have CBn := Lib.hid (Bx.below CB.out hb)
  have SBn := Lib.hid (Box.below SB.out hb)
  clear hb
  clear T X CB SB
  have T := Tn
  have X := Xn
  have CB := CBn
  have SB := SBn
  clear Tn Xn CBn SBn
  obtain ⟨wn, hwq⟩ : ∃ w0, w0 = wq := ⟨_, rfl⟩
  subst hwq
  obtain ⟨p1, u1, rfl, -, -⟩ := OwnR.open hO
  have R1 := Lib.hid hO
  clear hO
  obtain ⟨⟨c0, c1, c2⟩, -⟩ := CB.out
  obtain ⟨⟨d0, d1⟩, df0, df1⟩ := SB.out
  go_wp2_with fail
  refine Calls.mono (HKS.out _ X.out) ?_
  rintro e wq ⟨v2, rfl, hO, hb⟩
  have Tn := Lib.hid (below_next T.out hb)
  have Xn := Lib.hid (Cal.below X.out hb)
  have CBn := Lib.hid (Bx.below CB.out hb)
  have SBn := Lib.hid (Box.below SB.out hb)
  have R1n := Lib.hid (OwnR.below R1.out hb)
  clear hb
  clear T X CB SB R1
  have T := Tn
  have X := Xn
  have CB := CBn
  have SB := SBn
  have R1 := R1n
  clear Tn Xn CBn SBn R1n
  obtain ⟨wn, hwq⟩ : ∃ w0, w0 = wq := ⟨_, rfl⟩
  subst hwq
  obtain ⟨p2, u2, rfl, hr2, -⟩ := OwnR.open hO
  obtain ⟨q1, q2, e1, hr1, -⟩ := OwnR.open R1.out
  simp only [Value.slice.injEq] at e1
  obtain ⟨rfl, -, rfl⟩ := e1
  have K := sameStops_c p1 L.length u1 (sfl L) p2 L.length u2 (sfl L) wn hr1 hr2 (by omega)
  rw [tr_true rfl] at K
  have HK := Lib.hid K
  clear hO hr1 hr2 K
  go_wp2_with fail
  refine Calls.mono (HK.out) ?_
  intro e wn hh
  obtain ⟨he, hb⟩ := (by first | exact hh | exact Ro.mk hh | exact St.mk hh | exact LawOk.mk' hh : Mk _ _ e wn)
  subst he
  have Tn : Hid (Below w.heap.size w wn) := below_next T.out hb
  have Xn : Hid _ := Cal.below X.out hb
  have CBn : Hid _ := Bx.below CB.out hb
  have SBn : Hid _ := Box.below SB.out hb
  have R1n : Hid _ := OwnR.below R1.out hb
  clear hb hh c0 c1 c2 d0 d1 df0 df1
  clear T X CB SB R1
  have T := Tn
  have X := Xn
  have CB := CBn
  have SB := SBn
  have R1 := R1n
  clear Tn Xn CBn SBn R1n
  clear HK HKI HKS
  obtain ⟨⟨c0, c1, c2⟩, -⟩ := CB.out
  obtain ⟨⟨d0, d1⟩, df0, df1⟩ := SB.out
  go_wp2_with fail
  refine Calls.mono (HKO.out _ X.out) ?_
  intro e wn hh
  obtain ⟨he, hb⟩ := (by first | exact hh | exact Ro.mk hh | exact St.mk hh | exact LawOk.mk' hh : Mk _ _ e wn)
  subst he
  have Tn : Hid (Below w.heap.size w wn) := below_next T.out hb
  have Xn : Hid _ := Cal.below X.out hb
  have CBn : Hid _ := Bx.below CB.out hb
  have SBn : Hid _ := Box.below SB.out hb
  have R1n : Hid _ := OwnR.below R1.out hb
  clear hb hh c0 c1 c2 d0 d1 df0 df1
  clear T X CB SB R1
  have T := Tn
  have X := Xn
  have CB := CBn
  have SB := SBn
  have R1 := R1n
  clear Tn Xn CBn SBn R1n
  clear HKO
  have hlR := fun q (hq : (Value.slice p1 L.length u1).ownBlock = some q) => (OwnR.lt R1.out q hq).2
  have hlX := Cal.lt (k1 := k1) (k2 := k2) (k3 := k3) HV.out X.out
  obtain ⟨⟨c0, c1, c2⟩, -⟩ := CB.out
  obtain ⟨⟨d0, d1⟩, df0, df1⟩ := SB.out
  have hltCBHN := Bx.lt CB.out
  have hltSBHN := Box.lt SB.out
  have hWHN := T.out.size
  obtain ⟨HN, hHN⟩ : ∃ HN, Array.size (World.heap wn) = HN := ⟨_, rfl⟩
  have HHN : Hid _ := hHN
  rw [hHN] at hWHN hltCBHN hltSBHN
  have NB : Hid (Bx (wn.alloc (.cells #[.slice a1 n1 k1, .slice a2 n2 k2, .slice a3 n3 k3] 25)) HN (.slice a1 n1 k1) (.slice a2 n2 k2) (.slice a3 n3 k3)) := by rw [← hHN]; exact Bx.new _ _ _ _ _
  clear hHN
  have Tn : Hid (Below w.heap.size w _) := Below.al T.out (.cells #[.slice a1 n1 k1, .slice a2 n2 k2, .slice a3 n3 k3] 25)
  have Xn : Hid _ := Cal.below X.out ((Below.refl _ _).alloc (Nat.le_refl _) (.cells #[.slice a1 n1 k1, .slice a2 n2 k2, .slice a3 n3 k3] 25))
  have CBn : Hid _ := Bx.below CB.out ((Below.refl _ _).alloc (Nat.le_refl _) (.cells #[.slice a1 n1 k1, .slice a2 n2 k2, .slice a3 n3 k3] 25))
  have SBn : Hid _ := Box.below SB.out ((Below.refl _ _).alloc (Nat.le_refl _) (.cells #[.slice a1 n1 k1, .slice a2 n2 k2, .slice a3 n3 k3] 25))
  have R1n : Hid _ := OwnR.below R1.out ((Below.refl _ _).alloc (Nat.le_refl _) (.cells #[.slice a1 n1 k1, .slice a2 n2 k2, .slice a3 n3 k3] 25))
  clear T X CB SB R1
  have T := Tn
  have X := Xn
  have CB := CBn
  have SB := SBn
  have R1 := R1n
  clear Tn Xn CBn SBn R1n
  rw [HHN.out] at hlR hlX
  have HLR := Lib.hid hlR
  have HLX := Lib.hid hlX
  clear hlR hlX
  go_wp2_with fail
  rw [HHN.out]
  clear c0 c1 c2 d0 d1 df0 df1
  go_loopw [6, 7, 9] (fun t dd kk wr => ∃ (k : Nat) (b1 b2 b3 : Option Addr) (m1 m2 m3 j1 j2 j3 : Nat), k ≤ L.length ∧ t = .int .i64 (tn up (L.take k) : Nat) ∧ dd = .int .i64 (dI (ldir up (L.take k))) ∧ kk = .int .i64 k ∧ Cal wr b1 m1 b2 m2 b3 m3 (svs x (L.take k)) ∧ Bx wr HN (.slice b1 m1 j1) (.slice b2 m2 j2) (.slice b3 m3 j3) ∧
    (∀ q, ((Value.slice b1 m1 j1).ownBlock = some q ∨ (Value.slice b2 m2 j2).ownBlock = some q ∨ (Value.slice b3 m3 j3).ownBlock = some q) → q ≠ HN) ∧ Below w.heap.size w wr ∧ Cal wr a1 n1 a2 n2 a3 n3 x ∧ Bx wr h (.slice a1 n1 k1) (.slice a2 n2 k2) (.slice a3 n3 k3) ∧ OwnR 27 2 wr w.heap.size (.slice p1 L.length u1) L.length (sfl L)) (fun _ _ kk _ => L.length - (intOf kk).toNat)
  case atStart => exact ⟨0, a1, a2, a3, n1, n2, n3, k1, k2, k3, by omega, rfl, rfl, rfl, X.out, NB.out, (fun q hq => by have := HLX.out q hq; omega), T.out, X.out, CB.out, R1.out⟩
  case round =>
    clear T X CB SB R1 NB
    obtain ⟨k, b1, b2, b3, m1, m2, m3, j1, j2, j3, hk, rfl, rfl, rfl, hY, hNB, hne, hT, hX, hCB, hR⟩ := hrel
    obtain ⟨wn, hwq⟩ : ∃ w0 : World, w0 = wr := ⟨_, rfl⟩
    rw [← hwq] at hY hNB hT hX hCB hR ⊢
    clear hwq
    have Y := Lib.hid hY
    have NB := Lib.hid hNB
    have T := Lib.hid hT
    have X := Lib.hid hX
    have CB := Lib.hid hCB
    have R1 := Lib.hid hR
    have HNE := Lib.hid hne
    clear hY hNB hT hX hCB hR hne
    obtain ⟨p9, u9, e9, hrs, -⟩ := OwnR.open R1.out
    simp only [Value.slice.injEq] at e9
    obtain ⟨rfl, -, rfl⟩ := e9
    by_cases hlt : k < L.length
    · obtain ⟨s1, s2, s3, s4, s5⟩ := sw_step (up := up) HV.out HM.out hlt
      obtain ⟨pb, po, rfl⟩ := RS.some hrs (by omega)
      have hcell := fun (w' : World) (h : Below wn.heap.size wn w') => RS.two (RS.below hrs h) hlt
      obtain ⟨g5, g6⟩ := sfl_nth L k hlt
      rw [g5, g6] at hcell
      obtain ⟨fk, hfk⟩ : ∃ fk, L[k].1 = fk := ⟨_, rfl⟩
      obtain ⟨vk, hvk⟩ : ∃ vk, L[k].2 = vk := ⟨_, rfl⟩
      obtain ⟨lv, hlv⟩ : ∃ lv, ldir up (L.take k) = lv := ⟨_, rfl⟩
      obtain ⟨tk, htk⟩ : ∃ tk, tn up (L.take k) = tk := ⟨_, rfl⟩
      rw [hfk, hvk] at s1 s2 hcell
      rw [hvk] at s3
      rw [hvk, hlv, htk] at s4
      rw [htk] at s5
      obtain ⟨y, hy⟩ : ∃ y, svs x (L.take k) = y := ⟨_, rfl⟩
      rw [hy] at Y s1 s2
      rw [hlv, htk]
      have KSV := fun (w' : World) (h : Cal w' b1 m1 b2 m2 b3 m3 y) => iServeStop_c b1 m1 j1 b2 m2 j2 b3 m3 j3 y fk (dI vk) w' h
      rw [svv_t s1, ← s2] at KSV
      obtain ⟨y2, hy2⟩ : ∃ y2, svs x (L.take (k + 1)) = y2 := ⟨_, rfl⟩
      rw [hy2] at KSV
      have HY2 := Lib.hid hy2
      have H3 := Lib.hid s3
      have H4 := Lib.hid s4
      have HC := Lib.hid hcell
      have HSV := Lib.hid KSV
      have hfb : (fk : Int) < 9 := by
        have h1 := s1.2.1
        have h2 := s1.1.2.1
        omega
      obtain ⟨D, hD⟩ : ∃ D, dI vk = D := ⟨_, rfl⟩
      obtain ⟨D2, hD2⟩ : ∃ D2, dI lv = D2 := ⟨_, rfl⟩
      have hdd : D = D2 ↔ vk = lv := by rw [← hD, ← hD2]; exact dI_inj
      have HD := Lib.hid hD
      rw [hD] at HC HSV
      rw [hD2]
      have hki : (k : Int) < (L.length : Int) := by omega
      have htb : (tk : Int) ≤ 24 := by omega
      clear KSV hcell g5 g6 hfk hvk hlv htk hy hy2 s1 s2 s3 s4 hD hD2 hrs s5
      have HDD := Lib.hid hdd
      clear hdd
      by_cases hv : D = D2
      · have hv2 := HDD.out.1 hv
        subst hv
        obtain ⟨g0, g1⟩ := HC.out _ (Below.refl _ _)
        go_wp2_with fail
        clear g0 g1
        refine wp_region_quiet_late (C := fun w' => Below (World.heap (wn)).size (wn) w') 5 _ (by kernel_rfl) (by kernel_rfl) (by kernel_rfl) (by kernel_rfl) (by rfl) (by kernel_rfl) (by kernel_rfl) (by first | exact ⟨rfl, rfl, rfl, Nat.le_refl _, fun _ _ => rfl⟩ | exact Below.dw (by repeat (first | exact Below.refl _ _ | refine Below.al ?_ _ | refine Below.dr ?_ _ | refine Below.dw ?_ | refine Below.st ?_ (by first | exact Nat.le_refl _ | exact Nat.le_add_right _ _ | (simp; omega)) _ | (refine below_next ?_ (by assumption))))) ?_
        simp only [List.take_succ_cons, List.take_zero]
        repeat (go_big_quiet_step (first | (intro _; with_reducible exact rfl) | (intro hC; obtain ⟨⟨c0, c1, c2⟩, -⟩ := Bx.below NB.out hC; obtain ⟨g0, g1⟩ := HC.out _ hC; go_simp; rfl)))
        refine wpQuiet_nil ?_
        intro wq hq
        have Tn := Lib.hid (below_next T.out hq)
        have Yn := Lib.hid (Cal.below Y.out hq)
        have NBn := Lib.hid (Bx.below NB.out hq)
        have Xn := Lib.hid (Cal.below X.out hq)
        have CBn := Lib.hid (Bx.below CB.out hq)
        have R1n := Lib.hid (OwnR.below R1.out hq)
        clear hq
        clear T Y NB X CB R1
        have T := Tn
        have Y := Yn
        have NB := NBn
        have X := Xn
        have CB := CBn
        have R1 := R1n
        clear Tn Yn NBn Xn CBn R1n
        obtain ⟨wn, hwq⟩ : ∃ w0, w0 = wq := ⟨_, rfl⟩
        subst hwq
        go_wp2_with fail
        refine Calls.mono (HSV.out _ Y.out) ?_
        intro e wn hh
        obtain ⟨v1, v2, v3, loP, hiP, rfl, hO, hb, hlo, hhi⟩ := NewC.get hh
        have hTP : w.heap.size ≤ loP := by rw [← hlo]; exact T.out.size
        have hltNBP := Bx.lt NB.out
        rw [hlo] at hltNBP
        have hltCBP := Bx.lt CB.out
        rw [hlo] at hltCBP
        have hlhP : loP ≤ hiP := by rw [← hlo, ← hhi]; exact hb.size
        obtain ⟨Pa, Pi, Pb, Pj, Pc, Pk, rfl, rfl, rfl, -⟩ := OwnC.open hO
        have Tn := Lib.hid (below_next T.out hb)
        have Yn := Lib.hid (Cal.below Y.out hb)
        have NBn := Lib.hid (Bx.below NB.out hb)
        have Xn := Lib.hid (Cal.below X.out hb)
        have CBn := Lib.hid (Bx.below CB.out hb)
        have R1n := Lib.hid (OwnR.below R1.out hb)
        have P := Lib.hid hO
        have HLOP := Lib.hid hlo
        clear hb hO hh hlo hhi
        clear T Y NB X CB R1
        have T := Tn
        have Y := Yn
        have NB := NBn
        have X := Xn
        have CB := CBn
        have R1 := R1n
        clear Tn Yn NBn Xn CBn R1n
        have hs3 := Bx.set3 NB.out (.slice Pa y2.u.length Pi) (.slice Pb y2.d.length Pj) (.slice Pc y2.c.length Pk)
        have NB6 := Lib.hid hs3.1
        have P6 := Lib.hid (OwnC.out P.out hs3.2 (.inr (by omega)))
        have T6 := Lib.hid (Out.below T.out hs3.2 (by omega))
        have X6 := Lib.hid (Cal.keep (w' := (((wn.setCell ⟨HN, 0, none⟩ (.slice Pa y2.u.length Pi)).setCell ⟨HN, 1, none⟩ (.slice Pb y2.d.length Pj)).setCell ⟨HN, 2, none⟩ (.slice Pc y2.c.length Pk))) (k1 := k1) (k2 := k2) (k3 := k3) X.out (fun q hq => hs3.2.block q (by have := HLX.out q hq; have := Bx.lt NB.out; omega) (.inl (HLX.out q hq))))
        have CB6 := Lib.hid (Bx.out CB.out hs3.2 (.inl (by omega)))
        have R6 := Lib.hid (OwnR.block (w' := (((wn.setCell ⟨HN, 0, none⟩ (.slice Pa y2.u.length Pi)).setCell ⟨HN, 1, none⟩ (.slice Pb y2.d.length Pj)).setCell ⟨HN, 2, none⟩ (.slice Pc y2.c.length Pk))) R1.out (fun q hq => hs3.2.block q (by have := HLR.out q hq; have := Bx.lt NB.out; omega) (.inl (HLR.out q hq))))
        have NE6 := Lib.hid (show ∀ q, ((Value.slice Pa y2.u.length Pi).ownBlock = some q ∨ (Value.slice Pb y2.d.length Pj).ownBlock = some q ∨ (Value.slice Pc y2.c.length Pk).ownBlock = some q) → q ≠ HN from fun q hq => by
          have : loP ≤ q := by
            rcases hq with hq | hq | hq
            · exact (P.out.1.1.lt q hq).1
            · exact (P.out.1.2.1.lt q hq).1
            · exact (P.out.1.2.2.lt q hq).1
          omega)
        obtain ⟨⟨i0, i1, i2⟩, jf⟩ := NB.out
        have jf0 := jf 0
        have jf1 := jf 1
        have jf2 := jf 2
        clear hs3 jf
        go_wp2_with fail
        go_roundw
        case rel => exact ⟨k + 1, Pa, Pb, Pc, y2.u.length, y2.d.length, y2.c.length, Pi, Pj, Pk, by omega, by rw [H4.out, if_pos hv2]; rfl, by rw [H3.out, HD.out], by go_num, by rw [HY2.out]; exact OwnC.cal P6.out, NB6.out, NE6.out, T6.out, X6.out, CB6.out, R6.out⟩
        case measure => simp [intOf]; omega
      · have hv2 : ¬ vk = lv := fun e => hv (HDD.out.2 e)
        have g7 : (D != D2) = true := by rw [bne_iff_ne]; exact hv
        obtain ⟨g0, g1⟩ := HC.out _ (Below.refl _ _)
        go_wp2_with fail
        clear g0 g1
        refine wp_region_quiet_late (C := fun w' => Below (World.heap (wn)).size (wn) w') 5 _ (by kernel_rfl) (by kernel_rfl) (by kernel_rfl) (by kernel_rfl) (by rfl) (by kernel_rfl) (by kernel_rfl) (by first | exact ⟨rfl, rfl, rfl, Nat.le_refl _, fun _ _ => rfl⟩ | exact Below.dw (by repeat (first | exact Below.refl _ _ | refine Below.al ?_ _ | refine Below.dr ?_ _ | refine Below.dw ?_ | refine Below.st ?_ (by first | exact Nat.le_refl _ | exact Nat.le_add_right _ _ | (simp; omega)) _ | (refine below_next ?_ (by assumption))))) ?_
        simp only [List.take_succ_cons, List.take_zero]
        repeat (go_big_quiet_step (first | (intro _; with_reducible exact rfl) | (intro hC; obtain ⟨⟨c0, c1, c2⟩, -⟩ := Bx.below NB.out hC; obtain ⟨g0, g1⟩ := HC.out _ hC; go_simp; rfl)))
        refine wpQuiet_nil ?_
        intro wq hq
        have Tn := Lib.hid (below_next T.out hq)
        have Yn := Lib.hid (Cal.below Y.out hq)
        have NBn := Lib.hid (Bx.below NB.out hq)
        have Xn := Lib.hid (Cal.below X.out hq)
        have CBn := Lib.hid (Bx.below CB.out hq)
        have R1n := Lib.hid (OwnR.below R1.out hq)
        clear hq
        clear T Y NB X CB R1
        have T := Tn
        have Y := Yn
        have NB := NBn
        have X := Xn
        have CB := CBn
        have R1 := R1n
        clear Tn Yn NBn Xn CBn R1n
        obtain ⟨wn, hwq⟩ : ∃ w0, w0 = wq := ⟨_, rfl⟩
        subst hwq
        go_wp2_with fail
        refine Calls.mono (HSV.out _ Y.out) ?_
        intro e wn hh
        obtain ⟨v1, v2, v3, loP, hiP, rfl, hO, hb, hlo, hhi⟩ := NewC.get hh
        have hTP : w.heap.size ≤ loP := by rw [← hlo]; exact T.out.size
        have hltNBP := Bx.lt NB.out
        rw [hlo] at hltNBP
        have hltCBP := Bx.lt CB.out
        rw [hlo] at hltCBP
        have hlhP : loP ≤ hiP := by rw [← hlo, ← hhi]; exact hb.size
        obtain ⟨Pa, Pi, Pb, Pj, Pc, Pk, rfl, rfl, rfl, -⟩ := OwnC.open hO
        have Tn := Lib.hid (below_next T.out hb)
        have Yn := Lib.hid (Cal.below Y.out hb)
        have NBn := Lib.hid (Bx.below NB.out hb)
        have Xn := Lib.hid (Cal.below X.out hb)
        have CBn := Lib.hid (Bx.below CB.out hb)
        have R1n := Lib.hid (OwnR.below R1.out hb)
        have P := Lib.hid hO
        have HLOP := Lib.hid hlo
        clear hb hO hh hlo hhi
        clear T Y NB X CB R1
        have T := Tn
        have Y := Yn
        have NB := NBn
        have X := Xn
        have CB := CBn
        have R1 := R1n
        clear Tn Yn NBn Xn CBn R1n
        have hs3 := Bx.set3 NB.out (.slice Pa y2.u.length Pi) (.slice Pb y2.d.length Pj) (.slice Pc y2.c.length Pk)
        have NB6 := Lib.hid hs3.1
        have P6 := Lib.hid (OwnC.out P.out hs3.2 (.inr (by omega)))
        have T6 := Lib.hid (Out.below T.out hs3.2 (by omega))
        have X6 := Lib.hid (Cal.keep (w' := (((wn.setCell ⟨HN, 0, none⟩ (.slice Pa y2.u.length Pi)).setCell ⟨HN, 1, none⟩ (.slice Pb y2.d.length Pj)).setCell ⟨HN, 2, none⟩ (.slice Pc y2.c.length Pk))) (k1 := k1) (k2 := k2) (k3 := k3) X.out (fun q hq => hs3.2.block q (by have := HLX.out q hq; have := Bx.lt NB.out; omega) (.inl (HLX.out q hq))))
        have CB6 := Lib.hid (Bx.out CB.out hs3.2 (.inl (by omega)))
        have R6 := Lib.hid (OwnR.block (w' := (((wn.setCell ⟨HN, 0, none⟩ (.slice Pa y2.u.length Pi)).setCell ⟨HN, 1, none⟩ (.slice Pb y2.d.length Pj)).setCell ⟨HN, 2, none⟩ (.slice Pc y2.c.length Pk))) R1.out (fun q hq => hs3.2.block q (by have := HLR.out q hq; have := Bx.lt NB.out; omega) (.inl (HLR.out q hq))))
        have NE6 := Lib.hid (show ∀ q, ((Value.slice Pa y2.u.length Pi).ownBlock = some q ∨ (Value.slice Pb y2.d.length Pj).ownBlock = some q ∨ (Value.slice Pc y2.c.length Pk).ownBlock = some q) → q ≠ HN from fun q hq => by
          have : loP ≤ q := by
            rcases hq with hq | hq | hq
            · exact (P.out.1.1.lt q hq).1
            · exact (P.out.1.2.1.lt q hq).1
            · exact (P.out.1.2.2.lt q hq).1
          omega)
        obtain ⟨⟨i0, i1, i2⟩, jf⟩ := NB.out
        have jf0 := jf 0
        have jf1 := jf 1
        have jf2 := jf 2
        clear hs3 jf
        go_wp2_with fail
        go_roundw
        case rel => exact ⟨k + 1, Pa, Pb, Pc, y2.u.length, y2.d.length, y2.c.length, Pi, Pj, Pk, by omega, by rw [H4.out, if_neg hv2]; go_num, by rw [H3.out, HD.out], by go_num, by rw [HY2.out]; exact OwnC.cal P6.out, NB6.out, NE6.out, T6.out, X6.out, CB6.out, R6.out⟩
        case measure => simp [intOf]; omega
    · obtain rfl : k = L.length := by omega
      rw [List.take_length] at Y ⊢
      have hT3 : ((tn up L : Nat) : Int) ≤ 2 := by omega
      clear hrs hlt
      obtain ⟨⟨c0, c1, c2⟩, -⟩ := NB.out
      go_wp2_with fail
      refine Calls.mono (HKE.out _ _ _ _ _ _ _ _ _ _ Y.out) ?_
      intro e wn hh
      obtain ⟨he, hb⟩ := (by first | exact hh | exact Ro.mk hh | exact St.mk hh | exact LawOk.mk' hh : Mk _ _ e wn)
      subst he
      have Tn : Hid (Below w.heap.size w wn) := below_next T.out hb
      have Yn : Hid _ := Cal.below Y.out hb
      have NBn : Hid _ := Bx.below NB.out hb
      have Xn : Hid _ := Cal.below X.out hb
      have CBn : Hid _ := Bx.below CB.out hb
      have R1n : Hid _ := OwnR.below R1.out hb
      clear hb hh c0 c1 c2
      clear T Y NB X CB R1
      have T := Tn
      have Y := Yn
      have NB := NBn
      have X := Xn
      have CB := CBn
      have R1 := R1n
      clear Tn Yn NBn Xn CBn R1n
      obtain ⟨⟨c0, c1, c2⟩, -⟩ := CB.out
      go_wp2_with fail
      refine Calls.mono (HKM.out _ X.out) ?_
      intro e wn hh
      obtain ⟨he, hb⟩ := (by first | exact hh | exact Ro.mk hh | exact St.mk hh | exact LawOk.mk' hh : Mk _ _ e wn)
      subst he
      have Tn : Hid (Below w.heap.size w wn) := below_next T.out hb
      have Yn : Hid _ := Cal.below Y.out hb
      have NBn : Hid _ := Bx.below NB.out hb
      have Xn : Hid _ := Cal.below X.out hb
      have CBn : Hid _ := Bx.below CB.out hb
      have R1n : Hid _ := OwnR.below R1.out hb
      clear hb hh c0 c1 c2
      clear T Y NB X CB R1
      have T := Tn
      have Y := Yn
      have NB := NBn
      have X := Xn
      have CB := CBn
      have R1 := R1n
      clear Tn Yn NBn Xn CBn R1n
      go_wp2_with fail
      go_ret
      first | exact LawOk.mk T.out | exact LawOk.mk (Below.dr T.out _)

end Go.Proofs.Ytkpginkkfobblaa
