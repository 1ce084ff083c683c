/- The law of ServeStop: the walk. -/
import Derived.Test.Ytkpginkkfobblaa9LN
import Derived.Test.YtkpginkkfobblaaQT
namespace Go.Proofs.Ytkpginkkfobblaa
open Go.RowKit
set_option linter.unusedVariables false

theorem sameCalls_y (a1 : Option Addr) (n1 k1 : Nat) (a2 : Option Addr) (n2 k2 : Nat) (a3 : Option Addr) (n3 k3 : Nat) (a4 : Option Addr) (n4 k4 : Nat) (a5 : Option Addr) (n5 k5 : Nat) (a6 : Option Addr) (n6 k6 : Nat) (x : Cs) (w : World) (hX : Cal w a1 n1 a2 n2 a3 n3 x) (hY : Cal w a4 n4 a5 n5 a6 n6 x) (m1 : n1 ≤ 1048577) (m2 : n2 ≤ 1048577) (m3 : n3 ≤ 1048577) :
    Calls Try.prog 17 #[(.agg #[.slice a1 n1 k1, .slice a2 n2 k2, .slice a3 n3 k3]), .agg #[.slice a4 n4 k4, .slice a5 n5 k5, .slice a6 n6 k6]] w (Mk w (.bool true)) := by
  have K := sameCalls_c a1 n1 k1 a2 n2 k2 a3 n3 k3 x a4 n4 k4 a5 n5 k5 a6 n6 k6 x w hX hY m1 m2 m3
  rw [tr_true rfl] at K
  exact K
theorem srv_same (x : Cs) (k : Nat) (up : Bool) : srv (srv x k up) k up = srv x k up := by
  cases up
  · rw [srv_f, srv_f]; simp
  · rw [srv_t, srv_t]; simp
theorem bn_set_ne {xs : List Bool} {i j : Nat} (b : Bool) (h : i ≠ j) : bn (xs.set j b) i = bn xs i := by
  unfold bn
  simp only [List.getD, List.getElem?_set]
  rw [if_neg (fun e => h e.symm)]
theorem srv_bn (x : Cs) (k : Nat) (up : Bool) : (∀ j, j ≠ k → bn (srv x k up).c j = bn x.c j ∧ bn (srv x k up).u j = bn x.u j ∧ bn (srv x k up).d j = bn x.d j) ∧ (k < x.c.length → bn (srv x k up).c k = false) ∧ (up = true → (srv x k up).d = x.d) ∧ (up = false → (srv x k up).u = x.u) := by
  cases up
  · rw [srv_f]
    exact ⟨fun j h => ⟨bn_set_ne _ h, rfl, bn_set_ne _ h⟩, fun h => by show bn (x.c.set k false) k = false; rw [bn_set _ _ h, if_pos rfl], (fun h => by cases h), fun _ => rfl⟩
  · rw [srv_t]
    exact ⟨fun j h => ⟨bn_set_ne _ h, bn_set_ne _ h, rfl⟩, fun h => by show bn (x.c.set k false) k = false; rw [bn_set _ _ h, if_pos rfl], fun _ => rfl, (fun h => by cases h)⟩
set_option maxHeartbeats 16000000 in
theorem ServeStop_w (a : Option Addr) (n cap : Nat) (w : World) (hb : Byt w a n) (hn : n ≤ cap) (hcap : cap ≤ maxLen) :
    Calls Try.prog 4 #[.slice a n cap] w (LawOk w) := by
  have hcap' := hcap
  unfold maxLen at hcap'
  by_cases bign : 1048576 < n
  · go_enter Try.func4, Try.ntmps4
    go_wp2_with fail
    go_ret
    exact LawOk.mk (Below.refl _ _)
  go_enter Try.func4, Try.ntmps4
  go_wp2_with fail
  refine Calls.mono (DrawServeStop_c a n cap _ hb hn hcap) ?_
  rintro e wn ⟨a1, n1, k1, a2, n2, k2, a3, n3, k3, x, f, d, rfl, hX, ⟨l1, l2, l3⟩, ⟨⟨f0, f1⟩, d0, d1⟩, hB⟩
  have T := Lib.hid hB
  have X := Lib.hid hX
  have KI := fun w' (h : Cal w' a1 n1 a2 n2 a3 n3 x) => iServeStop_c a1 n1 k1 a2 n2 k2 a3 n3 k3 x f d w' h
  clear hB hX hb
  obtain ⟨h, hg⟩ : ∃ g, Array.size (World.heap wn) = g := ⟨_, rfl⟩
  have HGh := Lib.hid hg
  have hTh : w.heap.size ≤ h := by rw [← hg]; exact T.out.size
  have Tn := Lib.hid (show Below w.heap.size w ((wn.alloc (.cells #[.slice a1 n1 k1, .slice a2 n2 k2, .slice a3 n3 k3] 25)).alloc (.cells #[.int .i64 (f), .int .i64 (d)] 27)) from (Below.al (Below.al T.out (.cells #[.slice a1 n1 k1, .slice a2 n2 k2, .slice a3 n3 k3] 25)) (.cells #[.int .i64 (f), .int .i64 (d)] 27)))
  have Xn := Lib.hid (Cal.below X.out (show Below wn.heap.size wn ((wn.alloc (.cells #[.slice a1 n1 k1, .slice a2 n2 k2, .slice a3 n3 k3] 25)).alloc (.cells #[.int .i64 (f), .int .i64 (d)] 27)) from (Below.al (Below.al (Below.refl _ _) (.cells #[.slice a1 n1 k1, .slice a2 n2 k2, .slice a3 n3 k3] 25)) (.cells #[.int .i64 (f), .int .i64 (d)] 27))))
  have CB := Lib.hid (show Bx ((wn.alloc (.cells #[.slice a1 n1 k1, .slice a2 n2 k2, .slice a3 n3 k3] 25)).alloc (.cells #[.int .i64 (f), .int .i64 (d)] 27)) h (.slice a1 n1 k1) (.slice a2 n2 k2) (.slice a3 n3 k3) from by have h9 := (Bx.al (Bx.new wn (.slice a1 n1 k1) (.slice a2 n2 k2) (.slice a3 n3 k3) 25) (.cells #[.int .i64 (f), .int .i64 (d)] 27)); simp only [World.size_alloc, hg, Nat.add_assoc, Nat.reduceAdd] at h9; exact h9)
  have SB := Lib.hid (show Box ((wn.alloc (.cells #[.slice a1 n1 k1, .slice a2 n2 k2, .slice a3 n3 k3] 25)).alloc (.cells #[.int .i64 (f), .int .i64 (d)] 27)) (h + 1) (f) (d) from by have h9 := (Box.new (wn.alloc (.cells #[.slice a1 n1 k1, .slice a2 n2 k2, .slice a3 n3 k3] 25)) (f) (d) 27); simp only [World.size_alloc, hg, Nat.add_assoc, Nat.reduceAdd] at h9; exact h9)
  have HZh := Lib.hid (show (((wn.alloc (.cells #[.slice a1 n1 k1, .slice a2 n2 k2, .slice a3 n3 k3] 25)).alloc (.cells #[.int .i64 (f), .int .i64 (d)] 27))).heap.size = h + 2 from by simp only [World.size_alloc, hg, Nat.add_assoc, Nat.reduceAdd])
  clear hg
  clear T X
  have T := Tn
  have X := Xn
  clear Tn Xn
  by_cases hs : SK x f d
  case neg =>
    rw [svv_f hs] at KI
    have KS := fun w' (h : Cal w' a1 n1 a2 n2 a3 n3 x) => sServeStop_f a1 n1 k1 a2 n2 k2 a3 n3 k3 x f d w' h hs
    have t0 : (((cz).c.length : Int) == 0) = true := rfl
    have m1 : cz.u.length ≤ 1048577 := by decide
    have m2 : cz.d.length ≤ 1048577 := by decide
    have m3 : cz.c.length ≤ 1048577 := by decide
    obtain ⟨y, hy⟩ : ∃ y, cz = y := ⟨_, rfl⟩
    rw [hy] at KI KS t0 m1 m2 m3
    have HKI := Lib.hid KI
    have HKS := Lib.hid KS
    clear KI KS hs hy
    obtain ⟨⟨c0, c1, c2⟩, -⟩ := CB.out
    obtain ⟨⟨d0, d1⟩, df0, df1⟩ := SB.out
    go_wp2_with fail
    rw [HGh.out]
    refine Calls.mono (HKI.out _ X.out) ?_
    intro e wn hh
    obtain ⟨v1, v2, v3, loP, hiP, rfl, hO, hb, hlo, hhi⟩ := NewC.get hh
    have hTP : w.heap.size ≤ loP := by rw [← hlo]; exact T.out.size
    have hltCBP := Bx.lt CB.out
    rw [hlo] at hltCBP
    have hltSBP := Box.lt SB.out
    rw [hlo] at hltSBP
    have hlhP : loP ≤ hiP := by rw [← hlo, ← hhi]; exact hb.size
    obtain ⟨Pa, Pi, Pb, Pj, Pc, Pk, rfl, rfl, rfl, -⟩ := OwnC.open hO
    have Tn := Lib.hid (below_next T.out hb)
    have Xn := Lib.hid (Cal.below X.out hb)
    have CBn := Lib.hid (Bx.below CB.out hb)
    have SBn := Lib.hid (Box.below SB.out hb)
    have P := Lib.hid hO
    have HLOP := Lib.hid hlo
    clear hb hO hh hlo hhi c0 c1 c2 d0 d1 df0 df1
    clear T X CB SB
    have T := Tn
    have X := Xn
    have CB := CBn
    have SB := SBn
    clear Tn Xn CBn SBn
    have hltCBHP := Bx.lt CB.out
    have hltSBHP := Box.lt SB.out
    have hltPHP := P.out.2.2.1
    have hWHP := T.out.size
    obtain ⟨HP, hHP⟩ : ∃ HP, Array.size (World.heap wn) = HP := ⟨_, rfl⟩
    have HHP : Hid _ := hHP
    rw [hHP] at hWHP hltCBHP hltSBHP hltPHP
    have PB : Hid (Bx (wn.alloc (.cells #[.slice Pa y.u.length Pi, .slice Pb y.d.length Pj, .slice Pc y.c.length Pk] 25)) HP (.slice Pa y.u.length Pi) (.slice Pb y.d.length Pj) (.slice Pc y.c.length Pk)) := by rw [← hHP]; exact Bx.new _ _ _ _ _
    clear hHP
    have Tn : Hid (Below w.heap.size w _) := Below.al T.out (.cells #[.slice Pa y.u.length Pi, .slice Pb y.d.length Pj, .slice Pc y.c.length Pk] 25)
    have Xn : Hid _ := Cal.below X.out ((Below.refl _ _).alloc (Nat.le_refl _) (.cells #[.slice Pa y.u.length Pi, .slice Pb y.d.length Pj, .slice Pc y.c.length Pk] 25))
    have CBn : Hid _ := Bx.below CB.out ((Below.refl _ _).alloc (Nat.le_refl _) (.cells #[.slice Pa y.u.length Pi, .slice Pb y.d.length Pj, .slice Pc y.c.length Pk] 25))
    have SBn : Hid _ := Box.below SB.out ((Below.refl _ _).alloc (Nat.le_refl _) (.cells #[.slice Pa y.u.length Pi, .slice Pb y.d.length Pj, .slice Pc y.c.length Pk] 25))
    have Pn : Hid _ := OwnC.below P.out ((Below.refl _ _).alloc (Nat.le_refl _) (.cells #[.slice Pa y.u.length Pi, .slice Pb y.d.length Pj, .slice Pc y.c.length Pk] 25))
    clear T X CB SB P
    have T := Tn
    have X := Xn
    have CB := CBn
    have SB := SBn
    have P := Pn
    clear Tn Xn CBn SBn Pn
    go_wp2_with fail
    rw [HHP.out]
    generalize wn.alloc (.cells #[.slice Pa y.u.length Pi, .slice Pb y.d.length Pj, .slice Pc y.c.length Pk] 25) = w0 at *
    obtain ⟨wn, hwq⟩ : ∃ w9 : World, w9 = w0 := ⟨_, rfl⟩
    subst hwq
    refine wp_region_tg [19, 20, 21, 22, 23, 24]
      [(19, tV (.agg #[.slice Pa y.u.length Pi, .slice Pb y.d.length Pj, .slice Pc y.c.length Pk])), (20, tV (.agg #[.slice a1 n1 k1, .slice a2 n2 k2, .slice a3 n3 k3])), (21, tV (.agg #[.int .i64 f, .int .i64 d])), (22, tF y), (23, tV (.bool true)), (24, tV (.bool false))]
      (by kernel_rfl) (by kernel_rfl) (by kernel_rfl) (by kernel_rfl) (by kernel_rfl) (by kernel_rfl) ⟨StW.g (StW.V _), StW.g (StW.V _), StW.g (StW.V _), StGrow.F _, StW.g (StW.V _), StW.g (StW.V _), trivial⟩ ?hob5 ?_
    case hob5 =>
      refine ⟨?_, ?_, ?_, ?_, ?_, ?_, trivial⟩
      · intro w1 vs hC hP hL
        refine ⟨fun hw => ?_, fun hw => ?_⟩
        · clear hw
          have u5 : vs 5 = .pointer (some ⟨HP, 0, none⟩) := hP 5 (by kernel_rfl)
          obtain ⟨⟨c0, c1, c2⟩, -⟩ := Bx.below PB.out hC
          go_simp
          simp only [evOf_tmp, evOf_const, u5]
          go_simp
          exact oa_pure hC (show tV _ _ w1 from rfl)
        · exact absurd hw (fun e => (by cases (show true = false from e)))
      · intro w1 vs hC hP hL
        refine ⟨fun hw => ?_, fun hw => ?_⟩
        · clear hw
          have u3 : vs 3 = .pointer (some ⟨h, 0, none⟩) := hP 3 (by kernel_rfl)
          obtain ⟨⟨c0, c1, c2⟩, -⟩ := Bx.below CB.out hC
          go_simp
          simp only [evOf_tmp, evOf_const, u3]
          go_simp
          exact oa_pure hC (show tV _ _ w1 from rfl)
        · exact absurd hw (fun e => (by cases (show true = false from e)))
      · intro w1 vs hC hP hL
        refine ⟨fun hw => ?_, fun hw => ?_⟩
        · clear hw
          have u4 : vs 4 = .pointer (some ⟨h + 1, 0, none⟩) := hP 4 (by kernel_rfl)
          obtain ⟨⟨c0, c1⟩, -⟩ := Box.below SB.out hC
          go_simp
          simp only [evOf_tmp, evOf_const, u4]
          go_simp
          exact oa_pure hC (show tV _ _ w1 from rfl)
        · exact absurd hw (fun e => (by cases (show true = false from e)))
      · intro w1 vs hC hP hL
        refine ⟨fun hw => ?_, fun hw => ?_⟩
        · clear hw
          have u20 : vs 20 = .agg #[.slice a1 n1 k1, .slice a2 n2 k2, .slice a3 n3 k3] := hL 20 (by kernel_rfl)
          have u21 : vs 21 = .agg #[.int .i64 f, .int .i64 d] := hL 21 (by kernel_rfl)
          go_simp
          simp only [evOf_tmp, u20, u21]
          exact oa_call hC (Calls.mono (HKS.out _ (Cal.below X.out hC)) (fun e w2 hh => (by obtain ⟨v1, v2, v3, lo, hi, rfl, hO, hb2, -, -⟩ := NewC.get hh; obtain ⟨q1, j1, q2, j2, q3, j3, rfl, rfl, rfl, hCC⟩ := OwnC.open hO; exact ⟨_, rfl, (show Fre _ _ w2 from ⟨q1, j1, q2, j2, q3, j3, rfl, hCC⟩), hb2⟩)))
        · exact absurd hw (fun e => (by cases (show true = false from e)))
      · intro w1 vs hC hP hL
        refine ⟨fun hw => ?_, fun hw => ?_⟩
        · clear hw
          have u19 : vs 19 = .agg #[.slice Pa y.u.length Pi, .slice Pb y.d.length Pj, .slice Pc y.c.length Pk] := hL 19 (by kernel_rfl)
          have u22 : Fre (vs 22) y w1 := hL 22 (by kernel_rfl)
          obtain ⟨p221, i221, p222, i222, p223, i223, u22, hF22⟩ := u22
          go_simp
          simp only [evOf_tmp, u19, u22]
          exact oa_call hC (Calls.mono (sameCalls_y _ _ _ _ _ _ _ _ _ _ _ _ _ _ _ _ _ _ y _ (OwnC.cal (OwnC.below P.out hC)) hF22 m1 m2 m3) (fun e w2 hh => (by obtain ⟨he, hb⟩ := (by first | exact hh | exact Ro.mk hh | exact St.mk hh : Mk _ _ e w2); exact ⟨_, he, (show tV _ _ w2 from rfl), hb⟩)))
        · exact absurd hw (fun e => (by cases (show true = false from e)))
      · intro w1 vs hC hP hL
        refine ⟨fun hw => ?_, fun hw => ?_⟩
        · clear hw
          have u23 : vs 23 = .bool true := hL 23 (by kernel_rfl)
          go_simp
          simp only [evOf_tmp, evOf_const, u23]
          go_simp
          exact oa_pure hC (show tV _ _ w1 from rfl)
        · exact absurd hw (fun e => (by cases (show true = false from e)))
    intro vs wq hq hT
    have t1 : vs 24 = .bool false := hT 24 rfl
    simp (decide := true) only [over, Nat.reduceAdd, if_true, if_false]
    rw [t1]
    clear hT t1
    have Tn := Lib.hid (below_next T.out hq)
    have Xn := Lib.hid (Cal.below X.out hq)
    have CBn := Lib.hid (Bx.below CB.out hq)
    have SBn := Lib.hid (Box.below SB.out hq)
    have Pn := Lib.hid (OwnC.below P.out hq)
    have PBn := Lib.hid (Bx.below PB.out hq)
    clear hq
    clear T X CB SB P PB
    have T := Tn
    have X := Xn
    have CB := CBn
    have SB := SBn
    have P := Pn
    have PB := PBn
    clear Tn Xn CBn SBn Pn PBn
    obtain ⟨wn, hwq⟩ : ∃ w0, w0 = wq := ⟨_, rfl⟩
    subst hwq
    obtain ⟨⟨c0, c1, c2⟩, -⟩ := PB.out
    go_wp2_with fail
    refine Calls.mono (alive_c _) ?_
    intro e wn hh
    obtain ⟨he, hb⟩ := (by first | exact hh | exact Ro.mk hh | exact St.mk hh | exact LawOk.mk' hh : Mk _ _ e wn)
    subst he
    have Tn : Hid (Below w.heap.size w wn) := below_next T.out hb
    have Xn : Hid _ := Cal.below X.out hb
    have CBn : Hid _ := Bx.below CB.out hb
    have SBn : Hid _ := Box.below SB.out hb
    have Pn : Hid _ := OwnC.below P.out hb
    have PBn : Hid _ := Bx.below PB.out hb
    clear hb hh c0 c1 c2
    clear T X CB SB P PB
    have T := Tn
    have X := Xn
    have CB := CBn
    have SB := SBn
    have P := Pn
    have PB := PBn
    clear Tn Xn CBn SBn Pn PBn
    go_wp2_with fail
    go_ret
    first | exact LawOk.mk T.out | exact LawOk.mk (Below.dr T.out _)
  obtain ⟨f, up, rfl, hf, rfl⟩ := SK.dir hs
  rw [svv_t hs] at KI
  have KS := fun w' (h : Cal w' a1 n1 a2 n2 a3 n3 x) => sServeStop_c a1 n1 k1 a2 n2 k2 a3 n3 k3 x f up w' h hs
  have hv := hs.1
  obtain ⟨r1, r2, r3, r4, b1, o1, b2, o2, b3, o3, rfl, rfl, rfl⟩ := CV.rows hv X.out
  have hsl := srv_len x f up
  have hsb := srv_bn x f up
  have hsv := srv_ok up hv hf
  have hss := srv_same x f up
  have v3 := hv.2.2.1
  have v4 := hv.2.2.2.1
  have hx1 := hv.1
  have hsk : SK (srv x f up) f (dI up) := ⟨hsv, ⟨by omega, by omega⟩, hs.2.2⟩
  obtain ⟨y, hy⟩ : ∃ y, srv x f up = y := ⟨_, rfl⟩
  rw [hy] at KI KS hsl hsb hsv hss hsk
  have HL := Lib.hid (show y.u.length = n3 ∧ y.d.length = n3 ∧ y.c.length = n3 from ⟨by omega, by omega, by omega⟩)
  have KY := fun (w' : World) (p1 p2 p3 : Option Addr) (m1 m2 m3 i1 i2 i3 : Nat) (h : Cal w' p1 m1 p2 m2 p3 m3 y) => iServeStop_c p1 m1 i1 p2 m2 i2 p3 m3 i3 y f (dI up) w' h
  rw [svv_t hsk, hss] at KY
  have KC := fun (w' : World) (p1 p2 p3 : Option Addr) (m1 m2 m3 i1 i2 i3 : Nat) (h : Cal w' p1 m1 p2 m2 p3 m3 y) => iCallsValid_c p1 m1 i1 p2 m2 i2 p3 m3 i3 y w' h
  rw [cvB_t hsv] at KC
  have HSB := Lib.hid hsb
  have hyf := Lib.hid (hsb.2.1 hf)
  have hfn : f < n3 := by omega
  have hn3 : 1 ≤ n3 := by omega
  obtain ⟨D, hD⟩ : ∃ D, dI up = D := ⟨_, rfl⟩
  have HD := Lib.hid hD
  rw [hD] at KI KS KY d0 d1 CB SB T X
  rw [hD]
  have HKI := Lib.hid KI
  have HKS := Lib.hid KS
  have HKY := Lib.hid KY
  have HKC := Lib.hid KC
  subst r1 r2
  have hfi : (f : Int) < (n2 : Int) := by omega
  clear KI KS KY KC hs hv hf hsl hsb hsv hss hsk hy hD r3 v3 v4 hx1
  obtain ⟨⟨c0, c1, c2⟩, -⟩ := CB.out
  obtain ⟨⟨d0, d1⟩, df0, df1⟩ := SB.out
  go_wp2_with fail
  rw [HGh.out]
  refine Calls.mono (HKI.out _ X.out) ?_
  intro e wn hh
  obtain ⟨v1, v2, v3, loP, hiP, rfl, hO, hb, hlo, hhi⟩ := NewC.get hh
  have hTP : w.heap.size ≤ loP := by rw [← hlo]; exact T.out.size
  have hltCBP := Bx.lt CB.out
  rw [hlo] at hltCBP
  have hltSBP := Box.lt SB.out
  rw [hlo] at hltSBP
  have hlhP : loP ≤ hiP := by rw [← hlo, ← hhi]; exact hb.size
  obtain ⟨Pa, Pi, Pb, Pj, Pc, Pk, rfl, rfl, rfl, -⟩ := OwnC.open hO
  have Tn := Lib.hid (below_next T.out hb)
  have Xn := Lib.hid (Cal.below X.out hb)
  have CBn := Lib.hid (Bx.below CB.out hb)
  have SBn := Lib.hid (Box.below SB.out hb)
  have P := Lib.hid hO
  have HLOP := Lib.hid hlo
  clear hb hO hh hlo hhi c0 c1 c2 d0 d1 df0 df1
  clear T X CB SB
  have T := Tn
  have X := Xn
  have CB := CBn
  have SB := SBn
  clear Tn Xn CBn SBn
  obtain ⟨p1, p2, p3, ⟨e1, e2, e3⟩, -, ⟨q1, q2, q3, q4, q5, q6⟩, -⟩ := OwnC.somes P.out (by rw [HL.out.1]; omega) (by rw [HL.out.2.1]; omega) (by rw [HL.out.2.2]; omega)
  subst e1 e2 e3
  rw [HL.out.1, HL.out.2.1, HL.out.2.2] at P
  rw [HL.out.1, HL.out.2.1, HL.out.2.2]
  have hltCBHP := Bx.lt CB.out
  have hltSBHP := Box.lt SB.out
  have hltPHP := P.out.2.2.1
  have hWHP := T.out.size
  obtain ⟨HP, hHP⟩ : ∃ HP, Array.size (World.heap wn) = HP := ⟨_, rfl⟩
  have HHP : Hid _ := hHP
  rw [hHP] at hWHP hltCBHP hltSBHP hltPHP
  have PB : Hid (Bx (wn.alloc (.cells #[.slice (some ⟨p1, 0, none⟩) n2 Pi, .slice (some ⟨p2, 0, none⟩) n2 Pj, .slice (some ⟨p3, 0, none⟩) n2 Pk] 25)) HP (.slice (some ⟨p1, 0, none⟩) n2 Pi) (.slice (some ⟨p2, 0, none⟩) n2 Pj) (.slice (some ⟨p3, 0, none⟩) n2 Pk)) := by rw [← hHP]; exact Bx.new _ _ _ _ _
  clear hHP
  have Tn : Hid (Below w.heap.size w _) := Below.al T.out (.cells #[.slice (some ⟨p1, 0, none⟩) n2 Pi, .slice (some ⟨p2, 0, none⟩) n2 Pj, .slice (some ⟨p3, 0, none⟩) n2 Pk] 25)
  have Xn : Hid _ := Cal.below X.out ((Below.refl _ _).alloc (Nat.le_refl _) (.cells #[.slice (some ⟨p1, 0, none⟩) n2 Pi, .slice (some ⟨p2, 0, none⟩) n2 Pj, .slice (some ⟨p3, 0, none⟩) n2 Pk] 25))
  have CBn : Hid _ := Bx.below CB.out ((Below.refl _ _).alloc (Nat.le_refl _) (.cells #[.slice (some ⟨p1, 0, none⟩) n2 Pi, .slice (some ⟨p2, 0, none⟩) n2 Pj, .slice (some ⟨p3, 0, none⟩) n2 Pk] 25))
  have SBn : Hid _ := Box.below SB.out ((Below.refl _ _).alloc (Nat.le_refl _) (.cells #[.slice (some ⟨p1, 0, none⟩) n2 Pi, .slice (some ⟨p2, 0, none⟩) n2 Pj, .slice (some ⟨p3, 0, none⟩) n2 Pk] 25))
  have Pn : Hid _ := OwnC.below P.out ((Below.refl _ _).alloc (Nat.le_refl _) (.cells #[.slice (some ⟨p1, 0, none⟩) n2 Pi, .slice (some ⟨p2, 0, none⟩) n2 Pj, .slice (some ⟨p3, 0, none⟩) n2 Pk] 25))
  clear T X CB SB P
  have T := Tn
  have X := Xn
  have CB := CBn
  have SB := SBn
  have P := Pn
  clear Tn Xn CBn SBn Pn
  go_wp2_with fail
  rw [HHP.out]
  generalize wn.alloc (.cells #[.slice (some ⟨p1, 0, none⟩) n2 Pi, .slice (some ⟨p2, 0, none⟩) n2 Pj, .slice (some ⟨p3, 0, none⟩) n2 Pk] 25) = w0 at *
  obtain ⟨wn, hwq⟩ : ∃ w9 : World, w9 = w0 := ⟨_, rfl⟩
  subst hwq
  refine wp_region_tg [19, 20, 21, 22, 23, 24]
    [(19, tV (.agg #[.slice (some ⟨p1, 0, none⟩) n2 Pi, .slice (some ⟨p2, 0, none⟩) n2 Pj, .slice (some ⟨p3, 0, none⟩) n2 Pk])), (20, tV (.agg #[.slice (some ⟨b1, o1, none⟩) n2 k1, .slice (some ⟨b2, o2, none⟩) n2 k2, .slice (some ⟨b3, o3, none⟩) n2 k3])), (21, tV (.agg #[.int .i64 (f : Int), .int .i64 D])), (22, tF y), (23, tV (.bool true)), (24, tV (.bool false))]
    (by kernel_rfl) (by kernel_rfl) (by kernel_rfl) (by kernel_rfl) (by kernel_rfl) (by kernel_rfl) ⟨StW.g (StW.V _), StW.g (StW.V _), StW.g (StW.V _), StGrow.F _, StW.g (StW.V _), StW.g (StW.V _), trivial⟩ ?hob5 ?_
  case hob5 =>
    refine ⟨?_, ?_, ?_, ?_, ?_, ?_, trivial⟩
    · intro w1 vs hC hP hL
      refine ⟨fun hw => ?_, fun hw => ?_⟩
      · clear hw
        have u5 : vs 5 = .pointer (some ⟨HP, 0, none⟩) := hP 5 (by kernel_rfl)
        obtain ⟨⟨c0, c1, c2⟩, -⟩ := Bx.below PB.out hC
        go_simp
        simp only [evOf_tmp, evOf_const, u5]
        go_simp
        exact oa_pure hC (show tV _ _ w1 from rfl)
      · exact absurd hw (fun e => (by cases (show true = false from e)))
    · intro w1 vs hC hP hL
      refine ⟨fun hw => ?_, fun hw => ?_⟩
      · clear hw
        have u3 : vs 3 = .pointer (some ⟨h, 0, none⟩) := hP 3 (by kernel_rfl)
        obtain ⟨⟨c0, c1, c2⟩, -⟩ := Bx.below CB.out hC
        go_simp
        simp only [evOf_tmp, evOf_const, u3]
        go_simp
        exact oa_pure hC (show tV _ _ w1 from rfl)
      · exact absurd hw (fun e => (by cases (show true = false from e)))
    · intro w1 vs hC hP hL
      refine ⟨fun hw => ?_, fun hw => ?_⟩
      · clear hw
        have u4 : vs 4 = .pointer (some ⟨h + 1, 0, none⟩) := hP 4 (by kernel_rfl)
        obtain ⟨⟨c0, c1⟩, -⟩ := Box.below SB.out hC
        go_simp
        simp only [evOf_tmp, evOf_const, u4]
        go_simp
        exact oa_pure hC (show tV _ _ w1 from rfl)
      · exact absurd hw (fun e => (by cases (show true = false from e)))
    · intro w1 vs hC hP hL
      refine ⟨fun hw => ?_, fun hw => ?_⟩
      · clear hw
        have u20 : vs 20 = .agg #[.slice (some ⟨b1, o1, none⟩) n2 k1, .slice (some ⟨b2, o2, none⟩) n2 k2, .slice (some ⟨b3, o3, none⟩) n2 k3] := hL 20 (by kernel_rfl)
        have u21 : vs 21 = .agg #[.int .i64 (f : Int), .int .i64 D] := hL 21 (by kernel_rfl)
        go_simp
        simp only [evOf_tmp, u20, u21]
        exact oa_call hC (Calls.mono (HKS.out _ (Cal.below X.out hC)) (fun e w2 hh => (by obtain ⟨v1, v2, v3, lo, hi, rfl, hO, hb2, -, -⟩ := NewC.get hh; obtain ⟨q1, j1, q2, j2, q3, j3, rfl, rfl, rfl, hCC⟩ := OwnC.open hO; exact ⟨_, rfl, (show Fre _ _ w2 from ⟨q1, j1, q2, j2, q3, j3, rfl, hCC⟩), hb2⟩)))
      · exact absurd hw (fun e => (by cases (show true = false from e)))
    · intro w1 vs hC hP hL
      refine ⟨fun hw => ?_, fun hw => ?_⟩
      · clear hw
        have u19 : vs 19 = .agg #[.slice (some ⟨p1, 0, none⟩) n2 Pi, .slice (some ⟨p2, 0, none⟩) n2 Pj, .slice (some ⟨p3, 0, none⟩) n2 Pk] := hL 19 (by kernel_rfl)
        have u22 : Fre (vs 22) y w1 := hL 22 (by kernel_rfl)
        obtain ⟨p221, i221, p222, i222, p223, i223, u22, hF22⟩ := u22
        go_simp
        simp only [evOf_tmp, u19, u22]
        exact oa_call hC (Calls.mono (sameCalls_y _ _ _ _ _ _ _ _ _ _ _ _ _ _ _ _ _ _ y _ (OwnC.cal (OwnC.below P.out hC)) hF22 (by omega) (by have := HL.out; omega) (by have := HL.out; omega)) (fun e w2 hh => (by obtain ⟨he, hb⟩ := (by first | exact hh | exact Ro.mk hh | exact St.mk hh : Mk _ _ e w2); exact ⟨_, he, (show tV _ _ w2 from rfl), hb⟩)))
      · exact absurd hw (fun e => (by cases (show true = false from e)))
    · intro w1 vs hC hP hL
      refine ⟨fun hw => ?_, fun hw => ?_⟩
      · clear hw
        have u23 : vs 23 = .bool true := hL 23 (by kernel_rfl)
        go_simp
        simp only [evOf_tmp, evOf_const, u23]
        go_simp
        exact oa_pure hC (show tV _ _ w1 from rfl)
      · exact absurd hw (fun e => (by cases (show true = false from e)))
  intro vs wq hq hT
  have t1 : vs 24 = .bool false := hT 24 rfl
  simp (decide := true) only [over, Nat.reduceAdd, if_true, if_false]
  rw [t1]
  clear hT t1
  have Tn := Lib.hid (below_next T.out hq)
  have Xn := Lib.hid (Cal.below X.out hq)
  have CBn := Lib.hid (Bx.below CB.out hq)
  have SBn := Lib.hid (Box.below SB.out hq)
  have Pn := Lib.hid (OwnC.below P.out hq)
  have PBn := Lib.hid (Bx.below PB.out hq)
  clear hq
  clear T X CB SB P PB
  have T := Tn
  have X := Xn
  have CB := CBn
  have SB := SBn
  have P := Pn
  have PB := PBn
  clear Tn Xn CBn SBn Pn PBn
  obtain ⟨wn, hwq⟩ : ∃ w0, w0 = wq := ⟨_, rfl⟩
  subst hwq
  obtain ⟨⟨c0, c1, c2⟩, -⟩ := PB.out
  have tn : ((n2 : Int) == 0) = false := beq_false_of_ne (by omega)
  go_wp2_with fail
  go_loopw [6] (fun v wr => ∃ j : Nat, j ≤ n2 ∧ v = .int .i64 j ∧ Below w.heap.size w wr ∧ Cal wr (some ⟨b1, o1, none⟩) n2 (some ⟨b2, o2, none⟩) n2 (some ⟨b3, o3, none⟩) n2 x ∧ Bx wr h (.slice (some ⟨b1, o1, none⟩) n2 k1) (.slice (some ⟨b2, o2, none⟩) n2 k2) (.slice (some ⟨b3, o3, none⟩) n2 k3) ∧ Box wr (h + 1) (f : Int) D ∧ OwnC wr loP hiP (.slice (some ⟨p1, 0, none⟩) n2 Pi) (.slice (some ⟨p2, 0, none⟩) n2 Pj) (.slice (some ⟨p3, 0, none⟩) n2 Pk) y ∧ Bx wr HP (.slice (some ⟨p1, 0, none⟩) n2 Pi) (.slice (some ⟨p2, 0, none⟩) n2 Pj) (.slice (some ⟨p3, 0, none⟩) n2 Pk)) (fun v _ => n2 - (intOf v).toNat)
  case atStart => exact ⟨0, by omega, rfl, T.out, X.out, CB.out, SB.out, P.out, PB.out⟩
  case' round =>
    clear T X CB SB P PB c0 c1 c2
    obtain ⟨j, hj, rfl, h9T, h9X, h9CB, h9SB, h9P, h9PB⟩ := hrel
    obtain ⟨wn, hwq⟩ : ∃ w0 : World, w0 = wr := ⟨_, rfl⟩
    rw [← hwq] at h9T h9X h9CB h9SB h9P h9PB ⊢
    clear hwq
    have T := Lib.hid h9T
    have X := Lib.hid h9X
    have CB := Lib.hid h9CB
    have SB := Lib.hid h9SB
    have P := Lib.hid h9P
    have PB := Lib.hid h9PB
    clear h9T h9X h9CB h9SB h9P h9PB
    by_cases hlt : j < n2
    case pos =>
      have hji : (j : Int) < (n2 : Int) := by omega
      obtain ⟨y1, y2, y3⟩ := And.intro (BS.cell X.out.1 hlt) (And.intro (BS.cell X.out.2.1 hlt) (BS.cell X.out.2.2 hlt))
      obtain ⟨z1, z2, z3⟩ := And.intro (BS.cell (OwnC.cal P.out).1 hlt) (And.intro (BS.cell (OwnC.cal P.out).2.1 hlt) (BS.cell (OwnC.cal P.out).2.2 hlt))
      simp only [Nat.zero_add] at z1 z2 z3
      by_cases hjf : j = f
      · have hne : ((j : Int) != (f : Int)) = false := by subst hjf; simp
        clear hjf
        obtain ⟨⟨c0, c1, c2⟩, -⟩ := CB.out
        obtain ⟨⟨d0, d1⟩, df0, df1⟩ := SB.out
        go_wp2_with fail
        go_quiet (fail)
        have Tn : Hid (Below w.heap.size w (World.drewN wn nq)) := Below.dr T.out nq
        have Xn : Hid _ := Cal.below X.out (below_drewN' nq)
        have CBn : Hid _ := Bx.below CB.out (below_drewN' nq)
        have SBn : Hid _ := Box.below SB.out (below_drewN' nq)
        have Pn : Hid _ := OwnC.below P.out (below_drewN' nq)
        have PBn : Hid _ := Bx.below PB.out (below_drewN' nq)
        clear T X CB SB P PB c0 c1 c2 d0 d1 df0 df1
        generalize hwq : World.drewN wn nq = wq at *
        clear hwq
        have T := Tn
        have X := Xn
        have CB := CBn
        have SB := SBn
        have P := Pn
        have PB := PBn
        clear Tn Xn CBn SBn Pn PBn
        obtain ⟨wn, hwq⟩ : ∃ w0, w0 = wq := ⟨_, rfl⟩
        subst hwq
        go_wp2_with fail
        go_roundw
        case rel => exact ⟨j + 1, by omega, by go_num, T.out, X.out, CB.out, SB.out, P.out, PB.out⟩
        case measure => first | (simp [intOf]; done) | (simp [intOf]; omega) | omega
      · have hne : ((j : Int) != (f : Int)) = true := by rw [bne_iff_ne]; omega
        have h9 := HSB.out.1 j hjf
        rw [h9.1] at z3
        rw [h9.2.1] at z1
        rw [h9.2.2] at z2
        clear hjf h9
        obtain ⟨⟨e0, e1, e2⟩, -⟩ := PB.out
        obtain ⟨⟨c0, c1, c2⟩, -⟩ := CB.out
        obtain ⟨⟨d0, d1⟩, df0, df1⟩ := SB.out
        go_wp2_with fail
        go_quiet (fail)
        have Tn : Hid (Below w.heap.size w (World.drewN wn nq)) := Below.dr T.out nq
        have Xn : Hid _ := Cal.below X.out (below_drewN' nq)
        have CBn : Hid _ := Bx.below CB.out (below_drewN' nq)
        have SBn : Hid _ := Box.below SB.out (below_drewN' nq)
        have Pn : Hid _ := OwnC.below P.out (below_drewN' nq)
        have PBn : Hid _ := Bx.below PB.out (below_drewN' nq)
        clear T X CB SB P PB e0 e1 e2 c0 c1 c2 d0 d1 df0 df1
        generalize hwq : World.drewN wn nq = wq at *
        clear hwq
        have T := Tn
        have X := Xn
        have CB := CBn
        have SB := SBn
        have P := Pn
        have PB := PBn
        clear Tn Xn CBn SBn Pn PBn
        obtain ⟨wn, hwq⟩ : ∃ w0, w0 = wq := ⟨_, rfl⟩
        subst hwq
        go_wp2_with fail
        go_roundw
        case rel => exact ⟨j + 1, by omega, by go_num, T.out, X.out, CB.out, SB.out, P.out, PB.out⟩
        case measure => first | (simp [intOf]; done) | (simp [intOf]; omega) | omega
    obtain rfl : n2 = j := by omega
    obtain ⟨y1, y2, -⟩ := And.intro (BS.cell X.out.1 hfn) (And.intro (BS.cell X.out.2.1 hfn) (BS.cell X.out.2.2 hfn))
    obtain ⟨z1, z2, -⟩ := And.intro (BS.cell (OwnC.cal P.out).1 hfn) (And.intro (BS.cell (OwnC.cal P.out).2.1 hfn) (BS.cell (OwnC.cal P.out).2.2 hfn))
    simp only [Nat.zero_add] at z1 z2
    cases up
    case true =>
      have hd9 := HSB.out.2.2.1 rfl
      rw [hd9] at z2
      have e9 : D = 1 := HD.out.symm
      subst e9
      obtain ⟨⟨e0, e1, e2⟩, -⟩ := PB.out
      obtain ⟨⟨c0, c1, c2⟩, -⟩ := CB.out
      obtain ⟨⟨d0, d1⟩, df0, df1⟩ := SB.out
      go_wp2_with fail
      go_quiet (fail)
      have Tn : Hid (Below w.heap.size w (World.drewN wn nq)) := Below.dr T.out nq
      have Xn : Hid _ := Cal.below X.out (below_drewN' nq)
      have CBn : Hid _ := Bx.below CB.out (below_drewN' nq)
      have SBn : Hid _ := Box.below SB.out (below_drewN' nq)
      have Pn : Hid _ := OwnC.below P.out (below_drewN' nq)
      have PBn : Hid _ := Bx.below PB.out (below_drewN' nq)
      clear T X CB SB P PB e0 e1 e2 c0 c1 c2 d0 d1 df0 df1
      generalize hwq : World.drewN wn nq = wq at *
      clear hwq
      have T := Tn
      have X := Xn
      have CB := CBn
      have SB := SBn
      have P := Pn
      have PB := PBn
      clear Tn Xn CBn SBn Pn PBn
      obtain ⟨wn, hwq⟩ : ∃ w0, w0 = wq := ⟨_, rfl⟩
      subst hwq
      obtain ⟨⟨d0, d1⟩, df0, df1⟩ := SB.out
      go_wp2_with fail
      refine wp_region_tg [109, 110, 111, 112, 113, 114, 115, 116, 117, 118, 119, 120, 121, 122, 123, 124, 125, 126, 127, 128, 129, 2]
        [(109, tV (.agg #[.slice (some ⟨p1, 0, none⟩) n2 Pi, .slice (some ⟨p2, 0, none⟩) n2 Pj, .slice (some ⟨p3, 0, none⟩) n2 Pk])), (110, tV (.bool true)), (111, tV (.bool true)), (112, tV (.pointer (some ⟨HP, 2, none⟩))), (113, tV (.slice (some ⟨p3, 0, none⟩) n2 Pk)), (114, tV (.pointer (some ⟨h + 1, 0, none⟩))), (115, tV (.int .i64 (f : Int))), (116, tV (.pointer (some ⟨p3, f, none⟩))), (117, tV (.bool false)), (118, tV (.bool true)), (119, tV (.bool true)), (120, tV (.bool true)), (121, tV (.bool true)), (122, tV (.bool true)), (123, tV (.bool true)), (124, tV (.agg #[.slice (some ⟨p1, 0, none⟩) n2 Pi, .slice (some ⟨p2, 0, none⟩) n2 Pj, .slice (some ⟨p3, 0, none⟩) n2 Pk])), (125, tV (.agg #[.int .i64 (f : Int), .int .i64 (1)])), (126, tF y), (127, tV (.agg #[.slice (some ⟨p1, 0, none⟩) n2 Pi, .slice (some ⟨p2, 0, none⟩) n2 Pj, .slice (some ⟨p3, 0, none⟩) n2 Pk])), (128, tV (.bool true)), (129, tV (.bool true)), (2, tV (.bool true))]
        (by kernel_rfl) (by kernel_rfl) (by kernel_rfl) (by kernel_rfl) (by kernel_rfl) (by kernel_rfl) ⟨StW.g (StW.V _), StW.g (StW.V _), StW.g (StW.V _), StW.g (StW.V _), StW.g (StW.V _), StW.g (StW.V _), StW.g (StW.V _), StW.g (StW.V _), StW.g (StW.V _), StW.g (StW.V _), StW.g (StW.V _), StW.g (StW.V _), StW.g (StW.V _), StW.g (StW.V _), StW.g (StW.V _), StW.g (StW.V _), StW.g (StW.V _), StGrow.F _, StW.g (StW.V _), StW.g (StW.V _), StW.g (StW.V _), StW.g (StW.V _), trivial⟩ ?hob17 ?_
      case hob17 =>
        refine ⟨?_, ?_, ?_, ?_, ?_, ?_, ?_, ?_, ?_, ?_, ?_, ?_, ?_, ?_, ?_, ?_, ?_, ?_, ?_, ?_, ?_, ?_, trivial⟩
        · intro w1 vs hC hP hL
          refine ⟨fun hw => ?_, fun hw => ?_⟩
          · clear hw
            have u5 : vs 5 = .pointer (some ⟨HP, 0, none⟩) := hP 5 (by kernel_rfl)
            obtain ⟨⟨c0, c1, c2⟩, -⟩ := Bx.below PB.out hC
            go_simp
            simp only [evOf_tmp, evOf_const, u5]
            go_simp
            exact oa_pure hC (show tV _ _ w1 from rfl)
          · exact absurd hw (fun e => (by cases (show true = false from e)))
        · intro w1 vs hC hP hL
          refine ⟨fun hw => ?_, fun hw => ?_⟩
          · clear hw
            have u109 : vs 109 = .agg #[.slice (some ⟨p1, 0, none⟩) n2 Pi, .slice (some ⟨p2, 0, none⟩) n2 Pj, .slice (some ⟨p3, 0, none⟩) n2 Pk] := hL 109 (by kernel_rfl)
            go_simp
            simp only [evOf_tmp, u109]
            exact oa_call hC (Calls.mono (HKC.out _ _ _ _ _ _ _ _ _ _ (OwnC.cal (OwnC.below P.out hC))) (fun e w2 hh => (by obtain ⟨he, hb⟩ := (by first | exact hh | exact Ro.mk hh | exact St.mk hh : Mk _ _ e w2); exact ⟨_, he, (show tV _ _ w2 from rfl), hb⟩)))
          · exact absurd hw (fun e => (by cases (show true = false from e)))
        · intro w1 vs hC hP hL
          refine ⟨fun hw => ?_, fun hw => ?_⟩
          · clear hw
            have u110 : vs 110 = .bool true := hL 110 (by kernel_rfl)
            go_simp
            simp only [evOf_tmp, evOf_const, u110]
            go_simp
            exact oa_pure hC (show tV _ _ w1 from rfl)
          · exact absurd hw (fun e => (by cases (show true = false from e)))
        · intro w1 vs hC hP hL
          have ug : vs 111 = .bool true := hL 111 (by kernel_rfl)
          refine ⟨fun hw => ?_, fun hw => ?_⟩
          · clear hw
            have u5 : vs 5 = .pointer (some ⟨HP, 0, none⟩) := hP 5 (by kernel_rfl)
            go_simp
            simp only [evOf_tmp, evOf_const, u5]
            go_simp
            exact oa_pure hC (show tV _ _ w1 from rfl)
          · exact absurd hw (by show ¬ wantV (some (_, _)) vs 111 = false; unfold wantV; rw [ug]; decide)
        · intro w1 vs hC hP hL
          have ug : vs 111 = .bool true := hL 111 (by kernel_rfl)
          refine ⟨fun hw => ?_, fun hw => ?_⟩
          · clear hw
            have u112 : vs 112 = .pointer (some ⟨HP, 2, none⟩) := hL 112 (by kernel_rfl)
            obtain ⟨⟨c0, c1, c2⟩, -⟩ := Bx.below PB.out hC
            go_simp
            simp only [evOf_tmp, evOf_const, u112]
            go_simp
            exact oa_pure hC (show tV _ _ w1 from rfl)
          · exact absurd hw (by show ¬ wantV (some (_, _)) vs 111 = false; unfold wantV; rw [ug]; decide)
        · intro w1 vs hC hP hL
          have ug : vs 111 = .bool true := hL 111 (by kernel_rfl)
          refine ⟨fun hw => ?_, fun hw => ?_⟩
          · clear hw
            have u4 : vs 4 = .pointer (some ⟨h + 1, 0, none⟩) := hP 4 (by kernel_rfl)
            go_simp
            simp only [evOf_tmp, evOf_const, u4]
            go_simp
            exact oa_pure hC (show tV _ _ w1 from rfl)
          · exact absurd hw (by show ¬ wantV (some (_, _)) vs 111 = false; unfold wantV; rw [ug]; decide)
        · intro w1 vs hC hP hL
          have ug : vs 111 = .bool true := hL 111 (by kernel_rfl)
          refine ⟨fun hw => ?_, fun hw => ?_⟩
          · clear hw
            have u114 : vs 114 = .pointer (some ⟨h + 1, 0, none⟩) := hL 114 (by kernel_rfl)
            obtain ⟨⟨c0, c1⟩, -⟩ := Box.below SB.out hC
            go_simp
            simp only [evOf_tmp, evOf_const, u114]
            go_simp
            exact oa_pure hC (show tV _ _ w1 from rfl)
          · exact absurd hw (by show ¬ wantV (some (_, _)) vs 111 = false; unfold wantV; rw [ug]; decide)
        · intro w1 vs hC hP hL
          have ug : vs 111 = .bool true := hL 111 (by kernel_rfl)
          refine ⟨fun hw => ?_, fun hw => ?_⟩
          · clear hw
            have u113 : vs 113 = .slice (some ⟨p3, 0, none⟩) n2 Pk := hL 113 (by kernel_rfl)
            have u115 : vs 115 = .int .i64 (f : Int) := hL 115 (by kernel_rfl)
            go_simp
            simp only [evOf_tmp, evOf_const, u113, u115]
            go_simp
            exact oa_pure hC (show tV _ _ w1 from rfl)
          · exact absurd hw (by show ¬ wantV (some (_, _)) vs 111 = false; unfold wantV; rw [ug]; decide)
        · intro w1 vs hC hP hL
          have ug : vs 111 = .bool true := hL 111 (by kernel_rfl)
          refine ⟨fun hw => ?_, fun hw => ?_⟩
          · clear hw
            have u116 : vs 116 = .pointer (some ⟨p3, f, none⟩) := hL 116 (by kernel_rfl)
            have cz : w1.cell? ⟨p3, f, none⟩ = some (.bool false) := by have h9 := BS.cell (OwnC.cal (OwnC.below P.out hC)).2.2 hfn; rw [hyf.out] at h9; simpa using h9
            go_simp
            simp only [evOf_tmp, evOf_const, u116]
            go_simp
            exact oa_pure hC (show tV _ _ w1 from rfl)
          · exact absurd hw (by show ¬ wantV (some (_, _)) vs 111 = false; unfold wantV; rw [ug]; decide)
        · intro w1 vs hC hP hL
          have ug : vs 111 = .bool true := hL 111 (by kernel_rfl)
          refine ⟨fun hw => ?_, fun hw => ?_⟩
          · clear hw
            have u117 : vs 117 = .bool false := hL 117 (by kernel_rfl)
            go_simp
            simp only [evOf_tmp, evOf_const, u117]
            go_simp
            exact oa_pure hC (show tV _ _ w1 from rfl)
          · exact absurd hw (by show ¬ wantV (some (_, _)) vs 111 = false; unfold wantV; rw [ug]; decide)
        · intro w1 vs hC hP hL
          refine ⟨fun hw => ?_, fun hw => ?_⟩
          · clear hw
            have u111 : vs 111 = .bool true := hL 111 (by kernel_rfl)
            have u118 : vs 118 = .bool true := hL 118 (by kernel_rfl)
            go_simp
            simp only [evOf_tmp, evOf_const, u111, u118]
            go_simp
            exact oa_pure hC (show tV _ _ w1 from rfl)
          · exact absurd hw (fun e => (by cases (show true = false from e)))
        · intro w1 vs hC hP hL
          refine ⟨fun hw => ?_, fun hw => ?_⟩
          · clear hw
            have u119 : vs 119 = .bool true := hL 119 (by kernel_rfl)
            go_simp
            simp only [evOf_tmp, evOf_const, u119]
            go_simp
            exact oa_pure hC (show tV _ _ w1 from rfl)
          · exact absurd hw (fun e => (by cases (show true = false from e)))
        · intro w1 vs hC hP hL
          have ug : vs 120 = .bool true := hL 120 (by kernel_rfl)
          refine ⟨fun hw => ?_, fun hw => ?_⟩
          · clear hw
            have u7 : vs 7 = .bool true := hP 7 (by kernel_rfl)
            go_simp
            simp only [evOf_tmp, evOf_const, u7]
            go_simp
            exact oa_pure hC (show tV _ _ w1 from rfl)
          · exact absurd hw (by show ¬ wantV (some (_, _)) vs 120 = false; unfold wantV; rw [ug]; decide)
        · intro w1 vs hC hP hL
          refine ⟨fun hw => ?_, fun hw => ?_⟩
          · clear hw
            have u120 : vs 120 = .bool true := hL 120 (by kernel_rfl)
            have u121 : vs 121 = .bool true := hL 121 (by kernel_rfl)
            go_simp
            simp only [evOf_tmp, evOf_const, u120, u121]
            go_simp
            exact oa_pure hC (show tV _ _ w1 from rfl)
          · exact absurd hw (fun e => (by cases (show true = false from e)))
        · intro w1 vs hC hP hL
          refine ⟨fun hw => ?_, fun hw => ?_⟩
          · clear hw
            have u122 : vs 122 = .bool true := hL 122 (by kernel_rfl)
            go_simp
            simp only [evOf_tmp, evOf_const, u122]
            go_simp
            exact oa_pure hC (show tV _ _ w1 from rfl)
          · exact absurd hw (fun e => (by cases (show true = false from e)))
        · intro w1 vs hC hP hL
          have ug : vs 123 = .bool true := hL 123 (by kernel_rfl)
          refine ⟨fun hw => ?_, fun hw => ?_⟩
          · clear hw
            have u5 : vs 5 = .pointer (some ⟨HP, 0, none⟩) := hP 5 (by kernel_rfl)
            obtain ⟨⟨c0, c1, c2⟩, -⟩ := Bx.below PB.out hC
            go_simp
            simp only [evOf_tmp, evOf_const, u5]
            go_simp
            exact oa_pure hC (show tV _ _ w1 from rfl)
          · exact absurd hw (by show ¬ wantV (some (_, _)) vs 123 = false; unfold wantV; rw [ug]; decide)
        · intro w1 vs hC hP hL
          have ug : vs 123 = .bool true := hL 123 (by kernel_rfl)
          refine ⟨fun hw => ?_, fun hw => ?_⟩
          · clear hw
            have u4 : vs 4 = .pointer (some ⟨h + 1, 0, none⟩) := hP 4 (by kernel_rfl)
            obtain ⟨⟨c0, c1⟩, -⟩ := Box.below SB.out hC
            go_simp
            simp only [evOf_tmp, evOf_const, u4]
            go_simp
            exact oa_pure hC (show tV _ _ w1 from rfl)
          · exact absurd hw (by show ¬ wantV (some (_, _)) vs 123 = false; unfold wantV; rw [ug]; decide)
        · intro w1 vs hC hP hL
          have ug : vs 123 = .bool true := hL 123 (by kernel_rfl)
          refine ⟨fun hw => ?_, fun hw => ?_⟩
          · clear hw
            have u124 : vs 124 = .agg #[.slice (some ⟨p1, 0, none⟩) n2 Pi, .slice (some ⟨p2, 0, none⟩) n2 Pj, .slice (some ⟨p3, 0, none⟩) n2 Pk] := hL 124 (by kernel_rfl)
            have u125 : vs 125 = .agg #[.int .i64 (f : Int), .int .i64 (1)] := hL 125 (by kernel_rfl)
            go_simp
            simp only [evOf_tmp, u124, u125]
            exact oa_call hC (Calls.mono (HKY.out _ _ _ _ _ _ _ _ _ _ (OwnC.cal (OwnC.below P.out hC))) (fun e w2 hh => (by obtain ⟨v1, v2, v3, lo, hi, rfl, hO, hb2, -, -⟩ := NewC.get hh; obtain ⟨q1, j1, q2, j2, q3, j3, rfl, rfl, rfl, hCC⟩ := OwnC.open hO; exact ⟨_, rfl, (show Fre _ _ w2 from ⟨q1, j1, q2, j2, q3, j3, rfl, hCC⟩), hb2⟩)))
          · exact absurd hw (by show ¬ wantV (some (_, _)) vs 123 = false; unfold wantV; rw [ug]; decide)
        · intro w1 vs hC hP hL
          have ug : vs 123 = .bool true := hL 123 (by kernel_rfl)
          refine ⟨fun hw => ?_, fun hw => ?_⟩
          · clear hw
            have u5 : vs 5 = .pointer (some ⟨HP, 0, none⟩) := hP 5 (by kernel_rfl)
            obtain ⟨⟨c0, c1, c2⟩, -⟩ := Bx.below PB.out hC
            go_simp
            simp only [evOf_tmp, evOf_const, u5]
            go_simp
            exact oa_pure hC (show tV _ _ w1 from rfl)
          · exact absurd hw (by show ¬ wantV (some (_, _)) vs 123 = false; unfold wantV; rw [ug]; decide)
        · intro w1 vs hC hP hL
          have ug : vs 123 = .bool true := hL 123 (by kernel_rfl)
          refine ⟨fun hw => ?_, fun hw => ?_⟩
          · clear hw
            have u126 : Fre (vs 126) y w1 := hL 126 (by kernel_rfl)
            obtain ⟨p1261, i1261, p1262, i1262, p1263, i1263, u126, hF126⟩ := u126
            have u127 : vs 127 = .agg #[.slice (some ⟨p1, 0, none⟩) n2 Pi, .slice (some ⟨p2, 0, none⟩) n2 Pj, .slice (some ⟨p3, 0, none⟩) n2 Pk] := hL 127 (by kernel_rfl)
            go_simp
            simp only [evOf_tmp, u126, u127]
            exact oa_call hC (Calls.mono (sameCalls_y _ _ _ _ _ _ _ _ _ _ _ _ _ _ _ _ _ _ y _ hF126 (OwnC.cal (OwnC.below P.out hC)) (by have := HL.out; omega) (by have := HL.out; omega) (by have := HL.out; omega)) (fun e w2 hh => (by obtain ⟨he, hb⟩ := (by first | exact hh | exact Ro.mk hh | exact St.mk hh : Mk _ _ e w2); exact ⟨_, he, (show tV _ _ w2 from rfl), hb⟩)))
          · exact absurd hw (by show ¬ wantV (some (_, _)) vs 123 = false; unfold wantV; rw [ug]; decide)
        · intro w1 vs hC hP hL
          refine ⟨fun hw => ?_, fun hw => ?_⟩
          · clear hw
            have u123 : vs 123 = .bool true := hL 123 (by kernel_rfl)
            have u128 : vs 128 = .bool true := hL 128 (by kernel_rfl)
            go_simp
            simp only [evOf_tmp, evOf_const, u123, u128]
            go_simp
            exact oa_pure hC (show tV _ _ w1 from rfl)
          · exact absurd hw (fun e => (by cases (show true = false from e)))
        · intro w1 vs hC hP hL
          refine ⟨fun hw => ?_, fun hw => ?_⟩
          · clear hw
            have u129 : vs 129 = .bool true := hL 129 (by kernel_rfl)
            go_simp
            simp only [evOf_tmp, evOf_const, u129]
            go_simp
            exact oa_pure hC (show tV _ _ w1 from rfl)
          · exact absurd hw (fun e => (by cases (show true = false from e)))
      intro vs wq hq hT
      have t1 : vs 2 = .bool true := hT 2 rfl
      simp (decide := true) only [over, Nat.reduceAdd, if_true, if_false]
      rw [t1]
      clear hT t1
      have Tn := Lib.hid (below_next T.out hq)
      have Xn := Lib.hid (Cal.below X.out hq)
      have CBn := Lib.hid (Bx.below CB.out hq)
      have SBn := Lib.hid (Box.below SB.out hq)
      have Pn := Lib.hid (OwnC.below P.out hq)
      have PBn := Lib.hid (Bx.below PB.out hq)
      clear hq
      clear T X CB SB P PB
      have T := Tn
      have X := Xn
      have CB := CBn
      have SB := SBn
      have P := Pn
      have PB := PBn
      clear Tn Xn CBn SBn Pn PBn
      obtain ⟨wn, hwq⟩ : ∃ w0, w0 = wq := ⟨_, rfl⟩
      subst hwq
      go_wp2_with fail
      go_ret
      first | exact LawOk.mk T.out | exact LawOk.mk (Below.dr T.out _)
    case false =>
      have hd9 := HSB.out.2.2.2 rfl
      rw [hd9] at z1
      have e9 : D = -1 := HD.out.symm
      subst e9
      obtain ⟨⟨e0, e1, e2⟩, -⟩ := PB.out
      obtain ⟨⟨c0, c1, c2⟩, -⟩ := CB.out
      obtain ⟨⟨d0, d1⟩, df0, df1⟩ := SB.out
      go_wp2_with fail
      go_quiet (fail)
      have Tn : Hid (Below w.heap.size w (World.drewN wn nq)) := Below.dr T.out nq
      have Xn : Hid _ := Cal.below X.out (below_drewN' nq)
      have CBn : Hid _ := Bx.below CB.out (below_drewN' nq)
      have SBn : Hid _ := Box.below SB.out (below_drewN' nq)
      have Pn : Hid _ := OwnC.below P.out (below_drewN' nq)
      have PBn : Hid _ := Bx.below PB.out (below_drewN' nq)
      clear T X CB SB P PB e0 e1 e2 c0 c1 c2 d0 d1 df0 df1
      generalize hwq : World.drewN wn nq = wq at *
      clear hwq
      have T := Tn
      have X := Xn
      have CB := CBn
      have SB := SBn
      have P := Pn
      have PB := PBn
      clear Tn Xn CBn SBn Pn PBn
      obtain ⟨wn, hwq⟩ : ∃ w0, w0 = wq := ⟨_, rfl⟩
      subst hwq
      obtain ⟨y1, y2, -⟩ := And.intro (BS.cell X.out.1 hfn) (And.intro (BS.cell X.out.2.1 hfn) (BS.cell X.out.2.2 hfn))
      obtain ⟨z1, z2, -⟩ := And.intro (BS.cell (OwnC.cal P.out).1 hfn) (And.intro (BS.cell (OwnC.cal P.out).2.1 hfn) (BS.cell (OwnC.cal P.out).2.2 hfn))
      simp only [Nat.zero_add] at z1 z2
      rw [hd9] at z1
      obtain ⟨⟨e0, e1, e2⟩, -⟩ := PB.out
      obtain ⟨⟨c0, c1, c2⟩, -⟩ := CB.out
      obtain ⟨⟨d0, d1⟩, df0, df1⟩ := SB.out
      go_wp2_with fail
      go_quiet (fail)
      have Tn : Hid (Below w.heap.size w (World.drewN wn nq)) := Below.dr T.out nq
      have Xn : Hid _ := Cal.below X.out (below_drewN' nq)
      have CBn : Hid _ := Bx.below CB.out (below_drewN' nq)
      have SBn : Hid _ := Box.below SB.out (below_drewN' nq)
      have Pn : Hid _ := OwnC.below P.out (below_drewN' nq)
      have PBn : Hid _ := Bx.below PB.out (below_drewN' nq)
      clear T X CB SB P PB e0 e1 e2 c0 c1 c2 d0 d1 df0 df1
      generalize hwq : World.drewN wn nq = wq at *
      clear hwq
      have T := Tn
      have X := Xn
      have CB := CBn
      have SB := SBn
      have P := Pn
      have PB := PBn
      clear Tn Xn CBn SBn Pn PBn
      obtain ⟨wn, hwq⟩ : ∃ w0, w0 = wq := ⟨_, rfl⟩
      subst hwq
      go_wp2_with fail
      refine wp_region_tg [109, 110, 111, 112, 113, 114, 115, 116, 117, 118, 119, 120, 121, 122, 123, 124, 125, 126, 127, 128, 129, 2]
        [(109, tV (.agg #[.slice (some ⟨p1, 0, none⟩) n2 Pi, .slice (some ⟨p2, 0, none⟩) n2 Pj, .slice (some ⟨p3, 0, none⟩) n2 Pk])), (110, tV (.bool true)), (111, tV (.bool true)), (112, tV (.pointer (some ⟨HP, 2, none⟩))), (113, tV (.slice (some ⟨p3, 0, none⟩) n2 Pk)), (114, tV (.pointer (some ⟨h + 1, 0, none⟩))), (115, tV (.int .i64 (f : Int))), (116, tV (.pointer (some ⟨p3, f, none⟩))), (117, tV (.bool false)), (118, tV (.bool true)), (119, tV (.bool true)), (120, tV (.bool true)), (121, tV (.bool true)), (122, tV (.bool true)), (123, tV (.bool true)), (124, tV (.agg #[.slice (some ⟨p1, 0, none⟩) n2 Pi, .slice (some ⟨p2, 0, none⟩) n2 Pj, .slice (some ⟨p3, 0, none⟩) n2 Pk])), (125, tV (.agg #[.int .i64 (f : Int), .int .i64 (-1)])), (126, tF y), (127, tV (.agg #[.slice (some ⟨p1, 0, none⟩) n2 Pi, .slice (some ⟨p2, 0, none⟩) n2 Pj, .slice (some ⟨p3, 0, none⟩) n2 Pk])), (128, tV (.bool true)), (129, tV (.bool true)), (2, tV (.bool true))]
        (by kernel_rfl) (by kernel_rfl) (by kernel_rfl) (by kernel_rfl) (by kernel_rfl) (by kernel_rfl) ⟨StW.g (StW.V _), StW.g (StW.V _), StW.g (StW.V _), StW.g (StW.V _), StW.g (StW.V _), StW.g (StW.V _), StW.g (StW.V _), StW.g (StW.V _), StW.g (StW.V _), StW.g (StW.V _), StW.g (StW.V _), StW.g (StW.V _), StW.g (StW.V _), StW.g (StW.V _), StW.g (StW.V _), StW.g (StW.V _), StW.g (StW.V _), StGrow.F _, StW.g (StW.V _), StW.g (StW.V _), StW.g (StW.V _), StW.g (StW.V _), trivial⟩ ?hob17 ?_
      case hob17 =>
        refine ⟨?_, ?_, ?_, ?_, ?_, ?_, ?_, ?_, ?_, ?_, ?_, ?_, ?_, ?_, ?_, ?_, ?_, ?_, ?_, ?_, ?_, ?_, trivial⟩
        · intro w1 vs hC hP hL
          refine ⟨fun hw => ?_, fun hw => ?_⟩
          · clear hw
            have u5 : vs 5 = .pointer (some ⟨HP, 0, none⟩) := hP 5 (by kernel_rfl)
            obtain ⟨⟨c0, c1, c2⟩, -⟩ := Bx.below PB.out hC
            go_simp
            simp only [evOf_tmp, evOf_const, u5]
            go_simp
            exact oa_pure hC (show tV _ _ w1 from rfl)
          · exact absurd hw (fun e => (by cases (show true = false from e)))
        · intro w1 vs hC hP hL
          refine ⟨fun hw => ?_, fun hw => ?_⟩
          · clear hw
            have u109 : vs 109 = .agg #[.slice (some ⟨p1, 0, none⟩) n2 Pi, .slice (some ⟨p2, 0, none⟩) n2 Pj, .slice (some ⟨p3, 0, none⟩) n2 Pk] := hL 109 (by kernel_rfl)
            go_simp
            simp only [evOf_tmp, u109]
            exact oa_call hC (Calls.mono (HKC.out _ _ _ _ _ _ _ _ _ _ (OwnC.cal (OwnC.below P.out hC))) (fun e w2 hh => (by obtain ⟨he, hb⟩ := (by first | exact hh | exact Ro.mk hh | exact St.mk hh : Mk _ _ e w2); exact ⟨_, he, (show tV _ _ w2 from rfl), hb⟩)))
          · exact absurd hw (fun e => (by cases (show true = false from e)))
        · intro w1 vs hC hP hL
          refine ⟨fun hw => ?_, fun hw => ?_⟩
          · clear hw
            have u110 : vs 110 = .bool true := hL 110 (by kernel_rfl)
            go_simp
            simp only [evOf_tmp, evOf_const, u110]
            go_simp
            exact oa_pure hC (show tV _ _ w1 from rfl)
          · exact absurd hw (fun e => (by cases (show true = false from e)))
        · intro w1 vs hC hP hL
          have ug : vs 111 = .bool true := hL 111 (by kernel_rfl)
          refine ⟨fun hw => ?_, fun hw => ?_⟩
          · clear hw
            have u5 : vs 5 = .pointer (some ⟨HP, 0, none⟩) := hP 5 (by kernel_rfl)
            go_simp
            simp only [evOf_tmp, evOf_const, u5]
            go_simp
            exact oa_pure hC (show tV _ _ w1 from rfl)
          · exact absurd hw (by show ¬ wantV (some (_, _)) vs 111 = false; unfold wantV; rw [ug]; decide)
        · intro w1 vs hC hP hL
          have ug : vs 111 = .bool true := hL 111 (by kernel_rfl)
          refine ⟨fun hw => ?_, fun hw => ?_⟩
          · clear hw
            have u112 : vs 112 = .pointer (some ⟨HP, 2, none⟩) := hL 112 (by kernel_rfl)
            obtain ⟨⟨c0, c1, c2⟩, -⟩ := Bx.below PB.out hC
            go_simp
            simp only [evOf_tmp, evOf_const, u112]
            go_simp
            exact oa_pure hC (show tV _ _ w1 from rfl)
          · exact absurd hw (by show ¬ wantV (some (_, _)) vs 111 = false; unfold wantV; rw [ug]; decide)
        · intro w1 vs hC hP hL
          have ug : vs 111 = .bool true := hL 111 (by kernel_rfl)
          refine ⟨fun hw => ?_, fun hw => ?_⟩
          · clear hw
            have u4 : vs 4 = .pointer (some ⟨h + 1, 0, none⟩) := hP 4 (by kernel_rfl)
            go_simp
            simp only [evOf_tmp, evOf_const, u4]
            go_simp
            exact oa_pure hC (show tV _ _ w1 from rfl)
          · exact absurd hw (by show ¬ wantV (some (_, _)) vs 111 = false; unfold wantV; rw [ug]; decide)
        · intro w1 vs hC hP hL
          have ug : vs 111 = .bool true := hL 111 (by kernel_rfl)
          refine ⟨fun hw => ?_, fun hw => ?_⟩
          · clear hw
            have u114 : vs 114 = .pointer (some ⟨h + 1, 0, none⟩) := hL 114 (by kernel_rfl)
            obtain ⟨⟨c0, c1⟩, -⟩ := Box.below SB.out hC
            go_simp
            simp only [evOf_tmp, evOf_const, u114]
            go_simp
            exact oa_pure hC (show tV _ _ w1 from rfl)
          · exact absurd hw (by show ¬ wantV (some (_, _)) vs 111 = false; unfold wantV; rw [ug]; decide)
        · intro w1 vs hC hP hL
          have ug : vs 111 = .bool true := hL 111 (by kernel_rfl)
          refine ⟨fun hw => ?_, fun hw => ?_⟩
          · clear hw
            have u113 : vs 113 = .slice (some ⟨p3, 0, none⟩) n2 Pk := hL 113 (by kernel_rfl)
            have u115 : vs 115 = .int .i64 (f : Int) := hL 115 (by kernel_rfl)
            go_simp
            simp only [evOf_tmp, evOf_const, u113, u115]
            go_simp
            exact oa_pure hC (show tV _ _ w1 from rfl)
          · exact absurd hw (by show ¬ wantV (some (_, _)) vs 111 = false; unfold wantV; rw [ug]; decide)
        · intro w1 vs hC hP hL
          have ug : vs 111 = .bool true := hL 111 (by kernel_rfl)
          refine ⟨fun hw => ?_, fun hw => ?_⟩
          · clear hw
            have u116 : vs 116 = .pointer (some ⟨p3, f, none⟩) := hL 116 (by kernel_rfl)
            have cz : w1.cell? ⟨p3, f, none⟩ = some (.bool false) := by have h9 := BS.cell (OwnC.cal (OwnC.below P.out hC)).2.2 hfn; rw [hyf.out] at h9; simpa using h9
            go_simp
            simp only [evOf_tmp, evOf_const, u116]
            go_simp
            exact oa_pure hC (show tV _ _ w1 from rfl)
          · exact absurd hw (by show ¬ wantV (some (_, _)) vs 111 = false; unfold wantV; rw [ug]; decide)
        · intro w1 vs hC hP hL
          have ug : vs 111 = .bool true := hL 111 (by kernel_rfl)
          refine ⟨fun hw => ?_, fun hw => ?_⟩
          · clear hw
            have u117 : vs 117 = .bool false := hL 117 (by kernel_rfl)
            go_simp
            simp only [evOf_tmp, evOf_const, u117]
            go_simp
            exact oa_pure hC (show tV _ _ w1 from rfl)
          · exact absurd hw (by show ¬ wantV (some (_, _)) vs 111 = false; unfold wantV; rw [ug]; decide)
        · intro w1 vs hC hP hL
          refine ⟨fun hw => ?_, fun hw => ?_⟩
          · clear hw
            have u111 : vs 111 = .bool true := hL 111 (by kernel_rfl)
            have u118 : vs 118 = .bool true := hL 118 (by kernel_rfl)
            go_simp
            simp only [evOf_tmp, evOf_const, u111, u118]
            go_simp
            exact oa_pure hC (show tV _ _ w1 from rfl)
          · exact absurd hw (fun e => (by cases (show true = false from e)))
        · intro w1 vs hC hP hL
          refine ⟨fun hw => ?_, fun hw => ?_⟩
          · clear hw
            have u119 : vs 119 = .bool true := hL 119 (by kernel_rfl)
            go_simp
            simp only [evOf_tmp, evOf_const, u119]
            go_simp
            exact oa_pure hC (show tV _ _ w1 from rfl)
          · exact absurd hw (fun e => (by cases (show true = false from e)))
        · intro w1 vs hC hP hL
          have ug : vs 120 = .bool true := hL 120 (by kernel_rfl)
          refine ⟨fun hw => ?_, fun hw => ?_⟩
          · clear hw
            have u7 : vs 7 = .bool true := hP 7 (by kernel_rfl)
            go_simp
            simp only [evOf_tmp, evOf_const, u7]
            go_simp
            exact oa_pure hC (show tV _ _ w1 from rfl)
          · exact absurd hw (by show ¬ wantV (some (_, _)) vs 120 = false; unfold wantV; rw [ug]; decide)
        · intro w1 vs hC hP hL
          refine ⟨fun hw => ?_, fun hw => ?_⟩
          · clear hw
            have u120 : vs 120 = .bool true := hL 120 (by kernel_rfl)
            have u121 : vs 121 = .bool true := hL 121 (by kernel_rfl)
            go_simp
            simp only [evOf_tmp, evOf_const, u120, u121]
            go_simp
            exact oa_pure hC (show tV _ _ w1 from rfl)
          · exact absurd hw (fun e => (by cases (show true = false from e)))
        · intro w1 vs hC hP hL
          refine ⟨fun hw => ?_, fun hw => ?_⟩
          · clear hw
            have u122 : vs 122 = .bool true := hL 122 (by kernel_rfl)
            go_simp
            simp only [evOf_tmp, evOf_const, u122]
            go_simp
            exact oa_pure hC (show tV _ _ w1 from rfl)
          · exact absurd hw (fun e => (by cases (show true = false from e)))
        · intro w1 vs hC hP hL
          have ug : vs 123 = .bool true := hL 123 (by kernel_rfl)
          refine ⟨fun hw => ?_, fun hw => ?_⟩
          · clear hw
            have u5 : vs 5 = .pointer (some ⟨HP, 0, none⟩) := hP 5 (by kernel_rfl)
            obtain ⟨⟨c0, c1, c2⟩, -⟩ := Bx.below PB.out hC
            go_simp
            simp only [evOf_tmp, evOf_const, u5]
            go_simp
            exact oa_pure hC (show tV _ _ w1 from rfl)
          · exact absurd hw (by show ¬ wantV (some (_, _)) vs 123 = false; unfold wantV; rw [ug]; decide)
        · intro w1 vs hC hP hL
          have ug : vs 123 = .bool true := hL 123 (by kernel_rfl)
          refine ⟨fun hw => ?_, fun hw => ?_⟩
          · clear hw
            have u4 : vs 4 = .pointer (some ⟨h + 1, 0, none⟩) := hP 4 (by kernel_rfl)
            obtain ⟨⟨c0, c1⟩, -⟩ := Box.below SB.out hC
            go_simp
            simp only [evOf_tmp, evOf_const, u4]
            go_simp
            exact oa_pure hC (show tV _ _ w1 from rfl)
          · exact absurd hw (by show ¬ wantV (some (_, _)) vs 123 = false; unfold wantV; rw [ug]; decide)
        · intro w1 vs hC hP hL
          have ug : vs 123 = .bool true := hL 123 (by kernel_rfl)
          refine ⟨fun hw => ?_, fun hw => ?_⟩
          · clear hw
            have u124 : vs 124 = .agg #[.slice (some ⟨p1, 0, none⟩) n2 Pi, .slice (some ⟨p2, 0, none⟩) n2 Pj, .slice (some ⟨p3, 0, none⟩) n2 Pk] := hL 124 (by kernel_rfl)
            have u125 : vs 125 = .agg #[.int .i64 (f : Int), .int .i64 (-1)] := hL 125 (by kernel_rfl)
            go_simp
            simp only [evOf_tmp, u124, u125]
            exact oa_call hC (Calls.mono (HKY.out _ _ _ _ _ _ _ _ _ _ (OwnC.cal (OwnC.below P.out hC))) (fun e w2 hh => (by obtain ⟨v1, v2, v3, lo, hi, rfl, hO, hb2, -, -⟩ := NewC.get hh; obtain ⟨q1, j1, q2, j2, q3, j3, rfl, rfl, rfl, hCC⟩ := OwnC.open hO; exact ⟨_, rfl, (show Fre _ _ w2 from ⟨q1, j1, q2, j2, q3, j3, rfl, hCC⟩), hb2⟩)))
          · exact absurd hw (by show ¬ wantV (some (_, _)) vs 123 = false; unfold wantV; rw [ug]; decide)
        · intro w1 vs hC hP hL
          have ug : vs 123 = .bool true := hL 123 (by kernel_rfl)
          refine ⟨fun hw => ?_, fun hw => ?_⟩
          · clear hw
            have u5 : vs 5 = .pointer (some ⟨HP, 0, none⟩) := hP 5 (by kernel_rfl)
            obtain ⟨⟨c0, c1, c2⟩, -⟩ := Bx.below PB.out hC
            go_simp
            simp only [evOf_tmp, evOf_const, u5]
            go_simp
            exact oa_pure hC (show tV _ _ w1 from rfl)
          · exact absurd hw (by show ¬ wantV (some (_, _)) vs 123 = false; unfold wantV; rw [ug]; decide)
        · intro w1 vs hC hP hL
          have ug : vs 123 = .bool true := hL 123 (by kernel_rfl)
          refine ⟨fun hw => ?_, fun hw => ?_⟩
          · clear hw
            have u126 : Fre (vs 126) y w1 := hL 126 (by kernel_rfl)
            obtain ⟨p1261, i1261, p1262, i1262, p1263, i1263, u126, hF126⟩ := u126
            have u127 : vs 127 = .agg #[.slice (some ⟨p1, 0, none⟩) n2 Pi, .slice (some ⟨p2, 0, none⟩) n2 Pj, .slice (some ⟨p3, 0, none⟩) n2 Pk] := hL 127 (by kernel_rfl)
            go_simp
            simp only [evOf_tmp, u126, u127]
            exact oa_call hC (Calls.mono (sameCalls_y _ _ _ _ _ _ _ _ _ _ _ _ _ _ _ _ _ _ y _ hF126 (OwnC.cal (OwnC.below P.out hC)) (by have := HL.out; omega) (by have := HL.out; omega) (by have := HL.out; omega)) (fun e w2 hh => (by obtain ⟨he, hb⟩ := (by first | exact hh | exact Ro.mk hh | exact St.mk hh : Mk _ _ e w2); exact ⟨_, he, (show tV _ _ w2 from rfl), hb⟩)))
          · exact absurd hw (by show ¬ wantV (some (_, _)) vs 123 = false; unfold wantV; rw [ug]; decide)
        · intro w1 vs hC hP hL
          refine ⟨fun hw => ?_, fun hw => ?_⟩
          · clear hw
            have u123 : vs 123 = .bool true := hL 123 (by kernel_rfl)
            have u128 : vs 128 = .bool true := hL 128 (by kernel_rfl)
            go_simp
            simp only [evOf_tmp, evOf_const, u123, u128]
            go_simp
            exact oa_pure hC (show tV _ _ w1 from rfl)
          · exact absurd hw (fun e => (by cases (show true = false from e)))
        · intro w1 vs hC hP hL
          refine ⟨fun hw => ?_, fun hw => ?_⟩
          · clear hw
            have u129 : vs 129 = .bool true := hL 129 (by kernel_rfl)
            go_simp
            simp only [evOf_tmp, evOf_const, u129]
            go_simp
            exact oa_pure hC (show tV _ _ w1 from rfl)
          · exact absurd hw (fun e => (by cases (show true = false from e)))
      intro vs wq hq hT
      have t1 : vs 2 = .bool true := hT 2 rfl
      simp (decide := true) only [over, Nat.reduceAdd, if_true, if_false]
      rw [t1]
      clear hT t1
      have Tn := Lib.hid (below_next T.out hq)
      have Xn := Lib.hid (Cal.below X.out hq)
      have CBn := Lib.hid (Bx.below CB.out hq)
      have SBn := Lib.hid (Box.below SB.out hq)
      have Pn := Lib.hid (OwnC.below P.out hq)
      have PBn := Lib.hid (Bx.below PB.out hq)
      clear hq
      clear T X CB SB P PB
      have T := Tn
      have X := Xn
      have CB := CBn
      have SB := SBn
      have P := Pn
      have PB := PBn
      clear Tn Xn CBn SBn Pn PBn
      obtain ⟨wn, hwq⟩ : ∃ w0, w0 = wq := ⟨_, rfl⟩
      subst hwq
      go_wp2_with fail
      go_ret
      first | exact LawOk.mk T.out | exact LawOk.mk (Below.dr T.out _)

end Go.Proofs.Ytkpginkkfobblaa
