/- The exact law of ServeStop: the walk. -/
import Derived.Test.Ytkpginkkfobblaa9XS
namespace Go.Proofs.Ytkpginkkfobblaa
open Go.RowKit
set_option linter.unusedVariables false

/-- What a call has made, and a box for it, apart from each other. -/
def KO (W : World) (y : Cs) (v p : Value) (b4 b5 b6 : Bool) (w : World) : Prop := ∃ (lo hi H : Nat) (a1 : Option Addr) (k1 : Nat) (a2 : Option Addr) (k2 : Nat) (a3 : Option Addr) (k3 : Nat), W.heap.size ≤ lo ∧ lo ≤ hi ∧ W.heap.size ≤ H ∧
  (b4 = true → v = .agg #[.slice a1 y.u.length k1, .slice a2 y.d.length k2, .slice a3 y.c.length k3] ∧ OwnC w lo hi (.slice a1 y.u.length k1) (.slice a2 y.d.length k2) (.slice a3 y.c.length k3) y) ∧
  (b5 = true → p = .pointer (some ⟨H, 0, none⟩) ∧ H < w.heap.size ∧ (b6 = false → Bx w H (.slice none 0 0) (.slice none 0 0) (.slice none 0 0)) ∧ (b6 = true → Bx w H (.slice a1 y.u.length k1) (.slice a2 y.d.length k2) (.slice a3 y.c.length k3))) ∧
  (b4 = true → b5 = true → H < lo ∨ hi ≤ H) ∧ (b6 = true → b4 = true ∧ b5 = true)
theorem KO.start (W w : World) (y : Cs) (v p : Value) : KO W y v p false false false w :=
  ⟨W.heap.size, W.heap.size, W.heap.size, none, 0, none, 0, none, 0, Nat.le_refl _, Nat.le_refl _, Nat.le_refl _, (fun h => by cases h), (fun h => by cases h), (fun h => by cases h), (fun h => by cases h)⟩
theorem KO.below {W w w' : World} {y : Cs} {v p : Value} {b4 b5 b6 : Bool} (h : KO W y v p b4 b5 b6 w) (hb : Below w.heap.size w w') : KO W y v p b4 b5 b6 w' := by
  obtain ⟨lo, hi, H, a1, k1, a2, k2, a3, k3, h1, h2, h3, h4, h5, h6, h7⟩ := h
  exact ⟨lo, hi, H, a1, k1, a2, k2, a3, k3, h1, h2, h3, fun e => ⟨(h4 e).1, (h4 e).2.below hb⟩, fun e => ⟨(h5 e).1, Nat.lt_of_lt_of_le (h5 e).2.1 hb.size, fun g => ((h5 e).2.2.1 g).below hb, fun g => ((h5 e).2.2.2 g).below hb⟩, h6, h7⟩
theorem KO.call {W w w' : World} {y : Cs} {v p u : Value} {b5 b6 : Bool} {e : Ending} (h : KO W y v p false b5 b6 w) (hW : W.heap.size ≤ w.heap.size) (hc : NewC w y id e w') (he : e = .returned u) : KO W y u p true b5 b6 w' ∧ Below w.heap.size w w' := by
  obtain ⟨lo, hi, H, _, _, _, _, _, _, h1, h2, h3, h4, h5, h6, h7⟩ := h
  obtain ⟨v1, v2, v3, lo9, hi9, e2, hO, hb, hlo, hhi⟩ := NewC.get hc
  obtain ⟨a1, k1, a2, k2, a3, k3, rfl, rfl, rfl, -⟩ := OwnC.open hO
  rw [he] at e2
  simp only [id, Ending.returned.injEq] at e2
  refine ⟨⟨lo9, hi9, H, a1, k1, a2, k2, a3, k3, by omega, by have := hb.size; omega, h3, fun _ => ⟨e2, hO⟩, fun e5 => ?_, fun _ e5 => .inl (by have := (h5 e5).2.1; omega), fun e6 => by have := (h7 e6).1; cases this⟩, hb⟩
  have hf : b6 = false := by cases b6 with
    | false => rfl
    | true => have := (h7 rfl).1; cases this
  subst hf
  exact ⟨(h5 e5).1, Nat.lt_of_lt_of_le (h5 e5).2.1 hb.size, fun g => ((h5 e5).2.2.1 g).below hb, fun g => by cases g⟩
theorem KO.alloc {W w : World} {y : Cs} {v p : Value} {b4 b6 : Bool} (h : KO W y v p b4 false b6 w) (hW : W.heap.size ≤ w.heap.size) : KO W y v (.pointer (some ⟨w.heap.size, 0, none⟩)) b4 true b6 (w.alloc (.cells #[.slice none 0 0, .slice none 0 0, .slice none 0 0] 25)) := by
  obtain ⟨lo, hi, H, a1, k1, a2, k2, a3, k3, h1, h2, h3, h4, h5, h6, h7⟩ := h
  have hf : b6 = false := by cases b6 with
    | false => rfl
    | true => have := (h7 rfl).2; cases this
  subst hf
  exact ⟨lo, hi, w.heap.size, a1, k1, a2, k2, a3, k3, h1, h2, hW, fun e => ⟨(h4 e).1, (h4 e).2.below ((Below.refl _ _).alloc (Nat.le_refl _) _)⟩, fun _ => ⟨rfl, by simp, fun _ => Bx.new _ _ _ _ _, fun g => by cases g⟩, fun e _ => .inr (h4 e).2.2.2.1, fun e => by cases e⟩
theorem KO.store {W w : World} {y : Cs} {vs : Nat → Value} {I : (Nat → Bool) → (Nat → Value) → World → Prop} {ln : Nat → Bool} {o : Oper} {s x : Operand} (hop : o.op = .store 25 s x) (h : KO W y (evOf vs x) (evOf vs s) true true false w) (hB : Below W.heap.size W w)
    (hI : ∀ (w' : World) (H : Nat), W.heap.size ≤ H → Out H (H + 1) w w' → KO W y (evOf vs x) (evOf vs s) true true true w' → I ln (updV vs o.dst undef) w') : StepI Try.prog I ln vs o.dst ((execOp (evOf vs) o).run Try.prog w) := by
  obtain ⟨lo, hi, H, a1, k1, a2, k2, a3, k3, h1, h2, h3, h4, h5, h6, h7⟩ := h
  obtain ⟨e4, hO⟩ := h4 rfl
  obtain ⟨e5, hH, hz, -⟩ := h5 rfl
  have hbx := hz rfl
  have hs3 := Bx.set3 hbx (.slice a1 y.u.length k1) (.slice a2 y.d.length k2) (.slice a3 y.c.length k3)
  refine stepI_eq (run_store_calls s x hop e5 e4 hbx) (hI _ H h3 hs3.2 ?_)
  exact ⟨lo, hi, H, a1, k1, a2, k2, a3, k3, h1, h2, h3, fun _ => ⟨e4, hO.out hs3.2 (by have := h6 rfl rfl; omega)⟩, fun _ => ⟨e5, Nat.lt_of_lt_of_le hH hs3.2.size, (fun g => by cases g), fun _ => hs3.1⟩, h6, fun _ => ⟨rfl, rfl⟩⟩
structure RV (W : World) (q3 q2 : Nat) (p2 p3 cv sv : Value) (x y : Cs) (t0 tw : Nat) (ln : Nat → Bool) (vs : Nat → Value) (w : World) : Prop where
  bel : Below W.heap.size W w
  s2 : vs q2 = p2
  s3 : vs q3 = p3
  v0 : ln 0 = true → vs t0 = cv
  v1 : ln 1 = true → ln 4 = false → Fre (vs (t0 + 1)) x w
  v2 : ln 2 = true → vs (t0 + 2) = sv
  v3 : ln 3 = true → vs (t0 + 3) = sv
  v4 : KO W y (vs (t0 + 4)) (vs tw) (ln 4) (ln 5) (ln 6) w
structure RU (W : World) (q3 q2 : Nat) (p2 p3 cv sv : Value) (y : Cs) (t0 tw : Nat) (ln : Nat → Bool) (vs : Nat → Value) (w : World) : Prop where
  bel : Below W.heap.size W w
  s2 : vs q2 = p2
  s3 : vs q3 = p3
  v0 : ln 0 = true → vs t0 = cv
  v1 : ln 1 = true → vs (t0 + 1) = sv
  v2 : ln 2 = true → vs (t0 + 2) = sv
  v4 : KO W y (vs (t0 + 3)) (vs tw) (ln 3) (ln 4) (ln 5) w
theorem Fre.below {v : Value} {x : Cs} {w w' : World} (h : Fre v x w) (hb : Below w.heap.size w w') : Fre v x w' := by
  obtain ⟨q1, j1, q2, j2, q3, j3, e, hC⟩ := h
  exact ⟨q1, j1, q2, j2, q3, j3, e, hC.below hb⟩

theorem newC_ret {w w' : World} {x : Cs} {e : Ending} (h : NewC w x id e w') : ∃ v, e = .returned v := by
  obtain ⟨v1, v2, v3, he, _⟩ := h
  exact ⟨_, he⟩

theorem sServeStop_e (a1 : Option Addr) (n1 k1 : Nat) (a2 : Option Addr) (n2 k2 : Nat) (a3 : Option Addr) (n3 k3 : Nat) (x : Cs) (f d : Int) (w : World) (hX : Cal w a1 n1 a2 n2 a3 n3 x) : Calls Try.prog 18 #[(.agg #[.slice a1 n1 k1, .slice a2 n2 k2, .slice a3 n3 k3]), (Value.agg #[.int .i64 (f), .int .i64 (d)])] w (NewC w (svv x f d) id) := by
  by_cases h : SK x f d
  · obtain ⟨k, up, rfl, hk, rfl⟩ := SK.dir h
    rw [svv_t h]; exact sServeStop_c a1 n1 k1 a2 n2 k2 a3 n3 k3 x k up w hX h
  · rw [svv_f h]; exact sServeStop_f a1 n1 k1 a2 n2 k2 a3 n3 k3 x f d w hX h
theorem svv_len (x : Cs) (f d : Int) : (svv x f d).u.length ≤ x.u.length ∧ (svv x f d).d.length ≤ x.d.length ∧ (svv x f d).c.length ≤ x.c.length := by
  by_cases h : SK x f d
  · obtain ⟨k, up, rfl, hk, rfl⟩ := SK.dir h
    rw [svv_t h]
    have := srv_len x k up
    omega
  · rw [svv_f h]; simp [cz]
set_option maxHeartbeats 16000000 in
theorem ExactServeStop_w (a1 : Option Addr) (n1 k1 : Nat) (a2 : Option Addr) (n2 k2 : Nat) (a3 : Option Addr) (n3 k3 : Nat) (x : Cs) (f d : Int) (w : World) (hX : Cal w a1 n1 a2 n2 a3 n3 x) (b1 : n1 ≤ maxLen) (b2 : n2 ≤ maxLen) (b3 : n3 ≤ maxLen) : Calls Try.prog 7 #[(.agg #[.slice a1 n1 k1, .slice a2 n2 k2, .slice a3 n3 k3]), (Value.agg #[.int .i64 (f), .int .i64 (d)])] w (LawOk w) := by
  have X0 := Lib.hid hX
  have l1 := hX.1.1
  have l2 := hX.2.1.1
  have l3 := hX.2.2.1
  clear hX
  by_cases hbig : n1 + n2 + n3 ≤ 1048576
  case neg =>
    have K := fun w' => szCalls_c a1 n1 k1 a2 n2 k2 a3 n3 k3 w' b1 b2 b3
    rw [sz_big hbig] at K
    have HK := Lib.hid K
    clear K hbig l1 l2 l3
    refine at_base fun wn hwn => ?_
    have T := Lib.hid (show Below w.heap.size w wn from by rw [hwn]; exact Below.refl _ _)
    clear hwn
    obtain ⟨g, hg⟩ : ∃ g, Array.size (World.heap wn) = g := ⟨_, rfl⟩
    have HGg := Lib.hid hg
    have hTg : w.heap.size ≤ g := by rw [← hg]; exact T.out.size
    have Tn := Lib.hid (show Below w.heap.size w ((wn.alloc (.cells #[.slice a1 n1 k1, .slice a2 n2 k2, .slice a3 n3 k3] 41)).alloc (.cells #[.int .i64 (f), .int .i64 (d)] 42)) from (Below.al (Below.al T.out (.cells #[.slice a1 n1 k1, .slice a2 n2 k2, .slice a3 n3 k3] 41)) (.cells #[.int .i64 (f), .int .i64 (d)] 42)))
    have A := Lib.hid (show Bx ((wn.alloc (.cells #[.slice a1 n1 k1, .slice a2 n2 k2, .slice a3 n3 k3] 41)).alloc (.cells #[.int .i64 (f), .int .i64 (d)] 42)) g (.slice a1 n1 k1) (.slice a2 n2 k2) (.slice a3 n3 k3) from by have h9 := (Bx.al (Bx.new wn (.slice a1 n1 k1) (.slice a2 n2 k2) (.slice a3 n3 k3) 41) (.cells #[.int .i64 (f), .int .i64 (d)] 42)); simp only [World.size_alloc, hg, Nat.add_assoc, Nat.reduceAdd] at h9; exact h9)
    have SA := Lib.hid (show Box ((wn.alloc (.cells #[.slice a1 n1 k1, .slice a2 n2 k2, .slice a3 n3 k3] 41)).alloc (.cells #[.int .i64 (f), .int .i64 (d)] 42)) (g + 1) (f) (d) from by have h9 := (Box.new (wn.alloc (.cells #[.slice a1 n1 k1, .slice a2 n2 k2, .slice a3 n3 k3] 41)) (f) (d) 42); simp only [World.size_alloc, hg, Nat.add_assoc, Nat.reduceAdd] at h9; exact h9)
    have HZg := Lib.hid (show (((wn.alloc (.cells #[.slice a1 n1 k1, .slice a2 n2 k2, .slice a3 n3 k3] 41)).alloc (.cells #[.int .i64 (f), .int .i64 (d)] 42))).heap.size = g + 2 from by simp only [World.size_alloc, hg, Nat.add_assoc, Nat.reduceAdd])
    clear hg
    clear T
    have T := Tn
    clear Tn
    go_enter Try.func7, Try.ntmps7
    go_wp2_with fail
    rw [HGg.out]
    refine Calls.mono (HK.out _) ?_
    intro e wn hh
    obtain ⟨he, hb⟩ := (by first | exact hh | exact Ro.mk hh | exact St.mk hh | exact LawOk.mk' hh : Mk _ _ e wn)
    subst he
    have Tn : Hid (Below w.heap.size w wn) := below_next T.out hb
    have An : Hid _ := Bx.below A.out hb
    have SAn : Hid _ := Box.below SA.out hb
    clear hb hh
    clear T A SA
    have T := Tn
    have A := An
    have SA := SAn
    clear Tn An SAn
    go_wp2_with fail
    go_ret
    first | exact LawOk.mk T.out | exact LawOk.mk (Below.dr T.out _)
  have K := fun w' => szCalls_c a1 n1 k1 a2 n2 k2 a3 n3 k3 w' b1 b2 b3
  rw [sz_ok hbig] at K
  have HK := Lib.hid K
  obtain ⟨z, hz⟩ : ∃ z, 1048576 - (n1 + n2 + n3) = z := ⟨_, rfl⟩
  rw [hz] at HK
  have m1 : x.u.length ≤ 1048576 := by omega
  have m2 : x.d.length ≤ 1048576 := by omega
  have m3 : x.c.length ≤ 1048576 := by omega
  have q1 : n1 ≤ 1048576 := by omega
  have q2 : n2 ≤ 1048576 := by omega
  have q3 : n3 ≤ 1048576 := by omega
  have hzn : ¬ (z : Int) < 0 := by omega
  have KS := fun p1 m1 i1 p2 m2 i2 p3 m3 i3 w' (h : Cal w' p1 m1 p2 m2 p3 m3 x) => sServeStop_e p1 m1 i1 p2 m2 i2 p3 m3 i3 x f d w' h
  have KI := fun p1 m1 i1 p2 m2 i2 p3 m3 i3 w' (h : Cal w' p1 m1 p2 m2 p3 m3 x) => iServeStop_c p1 m1 i1 p2 m2 i2 p3 m3 i3 x f d w' h
  have hyl := svv_len x f d
  obtain ⟨y, hy⟩ : ∃ y, svv x f d = y := ⟨_, rfl⟩
  rw [hy] at KS KI hyl
  have HKS := Lib.hid KS
  have HKI := Lib.hid KI
  have s1 : y.u.length + y.d.length + y.c.length ≤ 1048576 := by omega
  have s2 : x.u.length + x.d.length + x.c.length ≤ 1048576 := by omega
  obtain ⟨z1, hz1⟩ : ∃ z, 1 + y.u.length + y.d.length + y.c.length = z := ⟨_, rfl⟩
  obtain ⟨z2, hz2⟩ : ∃ z, 1 + x.u.length + x.d.length + x.c.length = z := ⟨_, rfl⟩
  have HZ1 := Lib.hid hz1
  have HZ2 := Lib.hid hz2
  have hzn1 : ¬ (z1 : Int) < 0 := by omega
  have hzn2 : ¬ (z2 : Int) < 0 := by omega
  clear KS KI hy hyl hz1 hz2
  clear K hz l1 l2 l3
  refine at_base fun wn hwn => ?_
  have T := Lib.hid (show Below w.heap.size w wn from by rw [hwn]; exact Below.refl _ _)
  clear hwn
  obtain ⟨g, hg⟩ : ∃ g, Array.size (World.heap wn) = g := ⟨_, rfl⟩
  have HGg := Lib.hid hg
  have hTg : w.heap.size ≤ g := by rw [← hg]; exact T.out.size
  have Tn := Lib.hid (show Below w.heap.size w ((wn.alloc (.cells #[.slice a1 n1 k1, .slice a2 n2 k2, .slice a3 n3 k3] 41)).alloc (.cells #[.int .i64 (f), .int .i64 (d)] 42)) from (Below.al (Below.al T.out (.cells #[.slice a1 n1 k1, .slice a2 n2 k2, .slice a3 n3 k3] 41)) (.cells #[.int .i64 (f), .int .i64 (d)] 42)))
  have A := Lib.hid (show Bx ((wn.alloc (.cells #[.slice a1 n1 k1, .slice a2 n2 k2, .slice a3 n3 k3] 41)).alloc (.cells #[.int .i64 (f), .int .i64 (d)] 42)) g (.slice a1 n1 k1) (.slice a2 n2 k2) (.slice a3 n3 k3) from by have h9 := (Bx.al (Bx.new wn (.slice a1 n1 k1) (.slice a2 n2 k2) (.slice a3 n3 k3) 41) (.cells #[.int .i64 (f), .int .i64 (d)] 42)); simp only [World.size_alloc, hg, Nat.add_assoc, Nat.reduceAdd] at h9; exact h9)
  have SA := Lib.hid (show Box ((wn.alloc (.cells #[.slice a1 n1 k1, .slice a2 n2 k2, .slice a3 n3 k3] 41)).alloc (.cells #[.int .i64 (f), .int .i64 (d)] 42)) (g + 1) (f) (d) from by have h9 := (Box.new (wn.alloc (.cells #[.slice a1 n1 k1, .slice a2 n2 k2, .slice a3 n3 k3] 41)) (f) (d) 42); simp only [World.size_alloc, hg, Nat.add_assoc, Nat.reduceAdd] at h9; exact h9)
  have HZg := Lib.hid (show (((wn.alloc (.cells #[.slice a1 n1 k1, .slice a2 n2 k2, .slice a3 n3 k3] 41)).alloc (.cells #[.int .i64 (f), .int .i64 (d)] 42))).heap.size = g + 2 from by simp only [World.size_alloc, hg, Nat.add_assoc, Nat.reduceAdd])
  clear hg
  clear T
  have T := Tn
  clear Tn
  go_enter Try.func7, Try.ntmps7
  go_wp2_with fail
  rw [HGg.out]
  refine Calls.mono (HK.out _) ?_
  intro e wn hh
  obtain ⟨he, hb⟩ := (by first | exact hh | exact Ro.mk hh | exact St.mk hh | exact LawOk.mk' hh : Mk _ _ e wn)
  subst he
  have Tn : Hid (Below w.heap.size w wn) := below_next T.out hb
  have An : Hid _ := Bx.below A.out hb
  have SAn : Hid _ := Box.below SA.out hb
  clear hb hh
  clear T A SA
  have T := Tn
  have A := An
  have SA := SAn
  clear Tn An SAn
  clear HK
  go_wp2_with fail

  obtain ⟨B0, hB0⟩ : ∃ B0, wn.heap.size = B0 := ⟨_, rfl⟩
  have HB0 := Lib.hid hB0
  have hT0 : w.heap.size ≤ B0 := by rw [← hB0]; exact T.out.size
  have hbSA := Box.lt SA.out
  rw [hB0] at hbSA
  clear hB0
  refine wp_region_inv (fun ln vs wx => RV wn 3 2 (.pointer (some ⟨g, 0, none⟩)) (.pointer (some ⟨g + 1, 0, none⟩)) (.agg #[.slice a1 n1 k1, .slice a2 n2 k2, .slice a3 n3 k3]) (.agg #[.int .i64 f, .int .i64 d]) x y 18 6 ln vs wx) [18, 19, 20, 21, 22, 6]
    (by kernel_rfl) (by kernel_rfl) (by kernel_rfl) (by kernel_rfl) ?h0W ?hobsW ?_
  case h0W => exact { bel := Below.dw (Below.refl _ _), s2 := rfl, s3 := rfl, v0 := fun h => (by cases h), v1 := fun h => (by cases h), v2 := fun h => (by cases h), v3 := fun h => (by cases h), v4 := KO.start _ _ _ _ _ }
  case hobsW =>
    refine ⟨?_, ?_, ?_, ?_, ?_, ?_, ?_, trivial⟩
    · intro ln vs wx hn ha h
      have w2 := h.s2
      obtain ⟨⟨c0, c1, c2⟩, -⟩ := Bx.below A.out h.bel
      have HH := Lib.hid h
      clear h ha
      go_simp
      simp only [evOf_tmp, w2]
      go_simp
      have h := HH.out
      exact { bel := h.bel, s2 := h.s2, s3 := h.s3, v0 := fun _ => rfl, v1 := h.v1, v2 := h.v2, v3 := h.v3, v4 := h.v4 }
    · intro ln vs wx hn ha h
      have y0 : ln 0 = true := ha ⟨0, Ground.data⟩ (by simp) rfl
      have w1 := h.v0 y0
      have HH := Lib.hid h
      clear h ha
      go_simp
      simp only [evOf_tmp, w1]
      have h := HH.out
      exact Calls.mono (toCalls_c a1 n1 k1 a2 n2 k2 a3 n3 k3 x _ (Cal.below X0.out (below_next T.out h.bel)) q1 q2 q3) (fun e w2 hh => (by obtain ⟨v1, v2, v3, lo, hi, rfl, hO, hb, -, -⟩ := NewC.get hh; obtain ⟨q1, j1, q2, j2, q3, j3, rfl, rfl, rfl, hCC⟩ := OwnC.open hO; exact ⟨_, rfl, { bel := below_next h.bel hb, s2 := h.s2, s3 := h.s3, v0 := h.v0, v1 := fun _ _ => ⟨q1, j1, q2, j2, q3, j3, rfl, hCC⟩, v2 := h.v2, v3 := h.v3, v4 := h.v4.below hb }⟩))
    · intro ln vs wx hn ha h
      have w2 := h.s3
      obtain ⟨⟨c0, c1⟩, -⟩ := Box.below SA.out h.bel
      have HH := Lib.hid h
      clear h ha
      go_simp
      simp only [evOf_tmp, w2]
      go_simp
      have h := HH.out
      exact { bel := h.bel, s2 := h.s2, s3 := h.s3, v0 := h.v0, v1 := h.v1, v2 := fun _ => rfl, v3 := h.v3, v4 := h.v4 }
    · intro ln vs wx hn ha h
      have y2 : ln 2 = true := ha ⟨2, Ground.data⟩ (by simp) rfl
      have w1 := h.v2 y2
      have HH := Lib.hid h
      clear h ha
      go_simp
      simp only [evOf_tmp, w1]
      have h := HH.out
      exact Calls.mono (toStop_c f d _) (fun e w2 hh => (by obtain ⟨rfl, hb⟩ := hh; exact ⟨_, rfl, { bel := below_next h.bel hb, s2 := h.s2, s3 := h.s3, v0 := h.v0, v1 := fun hh hq => Fre.below (h.v1 hh hq) hb, v2 := h.v2, v3 := fun _ => rfl, v4 := h.v4.below hb }⟩))
    · intro ln vs wx hn ha h
      have y1 : ln 1 = true := ha ⟨1, Ground.data⟩ (by simp) rfl
      have y3 : ln 3 = true := ha ⟨3, Ground.data⟩ (by simp) rfl
      obtain ⟨ra, ri, rb, rj, rc, rk, w1, hF⟩ := h.v1 y1 hn
      have w2 := h.v3 y3
      have HH := Lib.hid h
      have HF := Lib.hid hF
      clear h ha hF
      go_simp
      simp only [evOf_tmp, w1, w2]
      have h := HH.out
      have hk := h.v4
      rw [show ln 4 = false from hn] at hk
      exact Calls.mono (HKS.out _ _ _ _ _ _ _ _ _ _ HF.out) (fun e w2 hh => (by obtain ⟨v9, he⟩ := newC_ret hh; have hkk := KO.call hk h.bel.size hh he; have hb := hkk.2; exact ⟨v9, he, { bel := below_next h.bel hb, s2 := h.s2, s3 := h.s3, v0 := h.v0, v1 := fun _ h9 => (by cases h9), v2 := h.v2, v3 := h.v3, v4 := hkk.1 }⟩))
    · intro ln vs wx hn ha h
      have hk := h.v4
      rw [show ln 5 = false from hn] at hk
      have hk2 := KO.alloc hk h.bel.size
      have hb : Below wx.heap.size wx (wx.alloc (.cells #[.slice none 0 0, .slice none 0 0, .slice none 0 0] 25)) := (Below.refl _ _).alloc (Nat.le_refl _) _
      have HH := Lib.hid h
      have HK := Lib.hid hk2
      clear h ha hk hk2
      go_simp
      have h := HH.out
      exact { bel := below_next h.bel hb, s2 := h.s2, s3 := h.s3, v0 := h.v0, v1 := fun hh hq => Fre.below (h.v1 hh hq) hb, v2 := h.v2, v3 := h.v3, v4 := HK.out }
    · intro ln vs wx hn ha h
      have y4 : ln 4 = true := ha ⟨4, Ground.data⟩ (by simp) rfl
      have y5 : ln 5 = true := ha ⟨5, Ground.data⟩ (by simp) rfl
      have hk := h.v4
      rw [y4, y5, show ln 6 = false from hn] at hk
      exact KO.store (s := .tmp 6) (x := .tmp 22) rfl hk h.bel (fun w2 H hH ho hk2 => { bel := Out.below h.bel ho hH, s2 := h.s2, s3 := h.s3, v0 := h.v0, v1 := fun hh h9 => (by have h8 : ln 4 = false := h9; rw [y4] at h8; cases h8), v2 := h.v2, v3 := h.v3, v4 := (by show KO _ _ _ _ (updL ln 6 4) (updL ln 6 5) _ _; simp only [updL, Nat.reduceEqDiff, if_false]; rw [y4, y5]; exact hk2) })

  intro vs wq hI
  have hq := hI.bel
  have hk : KO wn y (vs 22) (vs 6) true true true wq := hI.v4
  obtain ⟨loW, hiW, HW, Wa, Wi, Wb, Wj, Wc, Wk, h1, hlhW, h3, h4, h5, h6, -⟩ := hk
  obtain ⟨-, hO⟩ := h4 rfl
  obtain ⟨e5, -, -, hbx⟩ := h5 rfl
  have hbx := hbx rfl
  have hapW := h6 rfl rfl
  rw [HB0.out] at h1 h3
  have hloW := h1
  have hHbW := h3
  simp (decide := true) only [over, Nat.reduceAdd, if_true, if_false]
  rw [e5]
  have W := Lib.hid hO
  have WB := Lib.hid hbx
  clear hI h1 h3 h4 h5 h6 e5 hO hbx HB0
  have Tn := Lib.hid (below_next T.out hq)
  have An := Lib.hid (Bx.below A.out hq)
  have SAn := Lib.hid (Box.below SA.out hq)
  clear hq
  clear T A SA
  have T := Tn
  have A := An
  have SA := SAn
  clear Tn An SAn
  obtain ⟨wn, hwq⟩ : ∃ w0, w0 = wq := ⟨_, rfl⟩
  subst hwq

  obtain ⟨⟨c0, c1, c2⟩, -⟩ := A.out
  go_wp2_with fail
  refine Calls.mono (toCalls_c a1 n1 k1 a2 n2 k2 a3 n3 k3 x _ (Cal.below X0.out T.out) q1 q2 q3) ?_
  intro e wn hh
  obtain ⟨v1, v2, v3, loS, hiS, rfl, hO, hb, hlo, hhi⟩ := NewC.get hh
  have hTS : w.heap.size ≤ loS := by rw [← hlo]; exact T.out.size
  have hltAS := Bx.lt A.out
  rw [hlo] at hltAS
  have hltSAS := Box.lt SA.out
  rw [hlo] at hltSAS
  have hhWS := W.out.2.2.1
  rw [hlo] at hhWS
  have hltWBS := Bx.lt WB.out
  rw [hlo] at hltWBS
  have hlhS : loS ≤ hiS := by rw [← hlo, ← hhi]; exact hb.size
  obtain ⟨Sa, Si, Sb, Sj, Sc, Sk, rfl, rfl, rfl, -⟩ := OwnC.open hO
  have Tn := Lib.hid (below_next T.out hb)
  have An := Lib.hid (Bx.below A.out hb)
  have SAn := Lib.hid (Box.below SA.out hb)
  have Wn := Lib.hid (OwnC.below W.out hb)
  have WBn := Lib.hid (Bx.below WB.out hb)
  have S := Lib.hid hO
  have HLOS := Lib.hid hlo
  clear hb hO hh hlo hhi c0 c1 c2
  clear T A SA W WB
  have T := Tn
  have A := An
  have SA := SAn
  have W := Wn
  have WB := WBn
  clear Tn An SAn Wn WBn
  have hltAHS := Bx.lt A.out
  have hltSAHS := Box.lt SA.out
  have hltWHS := W.out.2.2.1
  have hltWBHS := Bx.lt WB.out
  have hltSHS := S.out.2.2.1
  have hWHS := T.out.size
  obtain ⟨HS, hHS⟩ : ∃ HS, Array.size (World.heap wn) = HS := ⟨_, rfl⟩
  have HHS : Hid _ := hHS
  rw [hHS] at hWHS hltAHS hltSAHS hltWHS hltWBHS hltSHS
  have SB : Hid (Bx (wn.alloc (.cells #[.slice Sa x.u.length Si, .slice Sb x.d.length Sj, .slice Sc x.c.length Sk] 25)) HS (.slice Sa x.u.length Si) (.slice Sb x.d.length Sj) (.slice Sc x.c.length Sk)) := by rw [← hHS]; exact Bx.new _ _ _ _ _
  clear hHS
  have Tn : Hid (Below w.heap.size w _) := Below.al T.out (.cells #[.slice Sa x.u.length Si, .slice Sb x.d.length Sj, .slice Sc x.c.length Sk] 25)
  have An : Hid _ := Bx.below A.out ((Below.refl _ _).alloc (Nat.le_refl _) (.cells #[.slice Sa x.u.length Si, .slice Sb x.d.length Sj, .slice Sc x.c.length Sk] 25))
  have SAn : Hid _ := Box.below SA.out ((Below.refl _ _).alloc (Nat.le_refl _) (.cells #[.slice Sa x.u.length Si, .slice Sb x.d.length Sj, .slice Sc x.c.length Sk] 25))
  have Wn : Hid _ := OwnC.below W.out ((Below.refl _ _).alloc (Nat.le_refl _) (.cells #[.slice Sa x.u.length Si, .slice Sb x.d.length Sj, .slice Sc x.c.length Sk] 25))
  have WBn : Hid _ := Bx.below WB.out ((Below.refl _ _).alloc (Nat.le_refl _) (.cells #[.slice Sa x.u.length Si, .slice Sb x.d.length Sj, .slice Sc x.c.length Sk] 25))
  have Sn : Hid _ := OwnC.below S.out ((Below.refl _ _).alloc (Nat.le_refl _) (.cells #[.slice Sa x.u.length Si, .slice Sb x.d.length Sj, .slice Sc x.c.length Sk] 25))
  clear T A SA W WB S
  have T := Tn
  have A := An
  have SA := SAn
  have W := Wn
  have WB := WBn
  have S := Sn
  clear Tn An SAn Wn WBn Sn
  go_wp2_with fail
  rw [HHS.out]
  generalize wn.alloc (.cells #[.slice Sa x.u.length Si, .slice Sb x.d.length Sj, .slice Sc x.c.length Sk] 25) = w0 at *
  obtain ⟨wn, hwq⟩ : ∃ w9 : World, w9 = w0 := ⟨_, rfl⟩
  subst hwq

  obtain ⟨B0, hB0⟩ : ∃ B0, wn.heap.size = B0 := ⟨_, rfl⟩
  have HB0 := Lib.hid hB0
  have hT0 : w.heap.size ≤ B0 := by rw [← hB0]; exact T.out.size
  have hbWB := Bx.lt WB.out
  have hbW := W.out.2.2.1
  have hbSB := Bx.lt SB.out
  have hbS := S.out.2.2.1
  rw [hB0] at hbWB hbW hbSB hbS
  clear hB0

  refine wp_region_inv (fun ln vs wx => RU wn 3 7 (.pointer (some ⟨HS, 0, none⟩)) (.pointer (some ⟨g + 1, 0, none⟩)) (.agg #[.slice Sa x.u.length Si, .slice Sb x.d.length Sj, .slice Sc x.c.length Sk]) (.agg #[.int .i64 f, .int .i64 d]) y 25 8 ln vs wx) [25, 26, 27, 28, 8]
    (by kernel_rfl) (by kernel_rfl) (by kernel_rfl) (by kernel_rfl) ?h0G ?hobsG ?_
  case h0G => exact { bel := Below.dw (Below.refl _ _), s2 := rfl, s3 := rfl, v0 := fun h => (by cases h), v1 := fun h => (by cases h), v2 := fun h => (by cases h), v4 := KO.start _ _ _ _ _ }
  case hobsG =>
    refine ⟨?_, ?_, ?_, ?_, ?_, ?_, trivial⟩
    · intro ln vs wx hn ha h
      have w2 := h.s2
      obtain ⟨⟨c0, c1, c2⟩, -⟩ := Bx.below SB.out h.bel
      have HH := Lib.hid h
      clear h ha
      go_simp
      simp only [evOf_tmp, w2]
      go_simp
      have h := HH.out
      exact { bel := h.bel, s2 := h.s2, s3 := h.s3, v0 := fun _ => rfl, v1 := h.v1, v2 := h.v2, v4 := h.v4 }
    · intro ln vs wx hn ha h
      have w2 := h.s3
      obtain ⟨⟨c0, c1⟩, -⟩ := Box.below SA.out h.bel
      have HH := Lib.hid h
      clear h ha
      go_simp
      simp only [evOf_tmp, w2]
      go_simp
      have h := HH.out
      exact { bel := h.bel, s2 := h.s2, s3 := h.s3, v0 := h.v0, v1 := fun _ => rfl, v2 := h.v2, v4 := h.v4 }
    · intro ln vs wx hn ha h
      have y1 : ln 1 = true := ha ⟨1, Ground.data⟩ (by simp) rfl
      have w1 := h.v1 y1
      have HH := Lib.hid h
      clear h ha
      go_simp
      simp only [evOf_tmp, w1]
      have h := HH.out
      exact Calls.mono (toStop_c f d _) (fun e w2 hh => (by obtain ⟨rfl, hb⟩ := hh; exact ⟨_, rfl, { bel := below_next h.bel hb, s2 := h.s2, s3 := h.s3, v0 := h.v0, v1 := h.v1, v2 := fun _ => rfl, v4 := h.v4.below hb }⟩))
    · intro ln vs wx hn ha h
      have y0 : ln 0 = true := ha ⟨0, Ground.data⟩ (by simp) rfl
      have y2 : ln 2 = true := ha ⟨2, Ground.data⟩ (by simp) rfl
      have w1 := h.v0 y0
      have w2 := h.v2 y2
      have HH := Lib.hid h
      clear h ha
      go_simp
      simp only [evOf_tmp, w1, w2]
      have h := HH.out
      have hk := h.v4
      rw [show ln 3 = false from hn] at hk
      exact Calls.mono (HKI.out _ _ _ _ _ _ _ _ _ _ (OwnC.cal (OwnC.below S.out h.bel))) (fun e w2 hh => (by obtain ⟨v9, he⟩ := newC_ret hh; have hkk := KO.call hk h.bel.size hh he; have hb := hkk.2; exact ⟨v9, he, { bel := below_next h.bel hb, s2 := h.s2, s3 := h.s3, v0 := h.v0, v1 := h.v1, v2 := h.v2, v4 := hkk.1 }⟩))
    · intro ln vs wx hn ha h
      have hk := h.v4
      rw [show ln 4 = false from hn] at hk
      have hk2 := KO.alloc hk h.bel.size
      have hb : Below wx.heap.size wx (wx.alloc (.cells #[.slice none 0 0, .slice none 0 0, .slice none 0 0] 25)) := (Below.refl _ _).alloc (Nat.le_refl _) _
      have HH := Lib.hid h
      have HK := Lib.hid hk2
      clear h ha hk hk2
      go_simp
      have h := HH.out
      exact { bel := below_next h.bel hb, s2 := h.s2, s3 := h.s3, v0 := h.v0, v1 := h.v1, v2 := h.v2, v4 := HK.out }
    · intro ln vs wx hn ha h
      have y3 : ln 3 = true := ha ⟨3, Ground.data⟩ (by simp) rfl
      have y4 : ln 4 = true := ha ⟨4, Ground.data⟩ (by simp) rfl
      have hk := h.v4
      rw [y3, y4, show ln 5 = false from hn] at hk
      exact KO.store (s := .tmp 8) (x := .tmp 28) rfl hk h.bel (fun w2 H hH ho hk2 => { bel := Out.below h.bel ho hH, s2 := h.s2, s3 := h.s3, v0 := h.v0, v1 := h.v1, v2 := h.v2, v4 := (by show KO _ _ _ _ (updL ln 5 3) (updL ln 5 4) _ _; simp only [updL, Nat.reduceEqDiff, if_false]; rw [y3, y4]; exact hk2) })

  intro vs wq hI
  have hq := hI.bel
  have hk : KO wn y (vs 28) (vs 8) true true true wq := hI.v4
  obtain ⟨loG, hiG, HG, Ga, Gi, Gb, Gj, Gc, Gk, h1, hlhG, h3, h4, h5, h6, -⟩ := hk
  obtain ⟨-, hO⟩ := h4 rfl
  obtain ⟨e5, -, -, hbx⟩ := h5 rfl
  have hbx := hbx rfl
  have hapG := h6 rfl rfl
  rw [HB0.out] at h1 h3
  have hloG := h1
  have hHbG := h3
  simp (decide := true) only [over, Nat.reduceAdd, if_true, if_false]
  rw [e5]
  have G := Lib.hid hO
  have GB := Lib.hid hbx
  clear hI h1 h3 h4 h5 h6 e5 hO hbx HB0
  have Tn := Lib.hid (below_next T.out hq)
  have An := Lib.hid (Bx.below A.out hq)
  have SAn := Lib.hid (Box.below SA.out hq)
  have Wn := Lib.hid (OwnC.below W.out hq)
  have WBn := Lib.hid (Bx.below WB.out hq)
  have Sn := Lib.hid (OwnC.below S.out hq)
  have SBn := Lib.hid (Bx.below SB.out hq)
  clear hq
  clear T A SA W WB S SB
  have T := Tn
  have A := An
  have SA := SAn
  have W := Wn
  have WB := WBn
  have S := Sn
  have SB := SBn
  clear Tn An SAn Wn WBn Sn SBn
  obtain ⟨wn, hwq⟩ : ∃ w0, w0 = wq := ⟨_, rfl⟩
  subst hwq

  obtain ⟨⟨p0, p1, p2⟩, -⟩ := WB.out
  obtain ⟨⟨q0, q1, q2⟩, -⟩ := GB.out
  go_wp2_with fail
  refine Calls.mono (eqCalls_t Ga y.u.length Gi Gb y.d.length Gj Gc y.c.length Gk Wa y.u.length Wi Wb y.d.length Wj Wc y.c.length Wk y _ (OwnC.cal G.out) (OwnC.cal W.out) (by omega) (by omega) (by omega)) ?_
  intro e wn hh
  obtain ⟨he, hb⟩ := (by first | exact hh | exact Ro.mk hh | exact St.mk hh | exact LawOk.mk' hh : Mk _ _ e wn)
  subst he
  have Tn : Hid (Below w.heap.size w wn) := below_next T.out hb
  have An : Hid _ := Bx.below A.out hb
  have SAn : Hid _ := Box.below SA.out hb
  have Wn : Hid _ := OwnC.below W.out hb
  have WBn : Hid _ := Bx.below WB.out hb
  have Sn : Hid _ := OwnC.below S.out hb
  have SBn : Hid _ := Bx.below SB.out hb
  have Gn : Hid _ := OwnC.below G.out hb
  have GBn : Hid _ := Bx.below GB.out hb
  clear hb hh p0 p1 p2 q0 q1 q2
  clear T A SA W WB S SB G GB
  have T := Tn
  have A := An
  have SA := SAn
  have W := Wn
  have WB := WBn
  have S := Sn
  have SB := SBn
  have G := Gn
  have GB := GBn
  clear Tn An SAn Wn WBn Sn SBn Gn GBn
  go_wp2_with fail
  refine wp_region_inv (fun ln vs wx => Below (World.heap wn).size wn wx ∧ vs 7 = .pointer (some ⟨HS, 0, none⟩) ∧ vs 2 = .pointer (some ⟨g, 0, none⟩) ∧ (ln 0 = true → vs 33 = (.agg #[.slice Sa x.u.length Si, .slice Sb x.d.length Sj, .slice Sc x.c.length Sk])) ∧ (ln 1 = true → vs 34 = (.agg #[.slice a1 n1 k1, .slice a2 n2 k2, .slice a3 n3 k3])) ∧
      (ln 2 = true → Fre (vs 35) x wx) ∧ (ln 3 = true → vs 36 = .bool true) ∧ (ln 4 = true → vs 37 = .bool false)) [33, 34, 35, 36, 37]
    (by kernel_rfl) (by kernel_rfl) (by kernel_rfl) (by kernel_rfl) ⟨Below.dw (Below.refl _ _), rfl, rfl, fun h => (by cases h), fun h => (by cases h), fun h => (by cases h), fun h => (by cases h), fun h => (by cases h)⟩ ?hobs33 ?_
  case hobs33 =>
    refine ⟨?_, ?_, ?_, ?_, ?_, trivial⟩
    · intro ln vs wx hn ha ⟨hb, uX, uA, i0, i1, i2, i3, i4⟩
      obtain ⟨⟨c0, c1, c2⟩, _⟩ := (Bx.below SB.out hb)
      have HI := Lib.hid (And.intro i0 (And.intro i1 (And.intro i2 (And.intro i3 i4))))
      clear i0 i1 i2 i3 i4 ha
      go_simp
      simp only [evOf_tmp, uX]
      go_simp
      obtain ⟨i0, i1, i2, i3, i4⟩ := HI.out
      exact ⟨hb, uX, uA, fun _ => rfl, i1, i2, i3, i4⟩
    · intro ln vs wx hn ha ⟨hb, uX, uA, i0, i1, i2, i3, i4⟩
      obtain ⟨⟨c0, c1, c2⟩, _⟩ := (Bx.below A.out hb)
      have HI := Lib.hid (And.intro i0 (And.intro i1 (And.intro i2 (And.intro i3 i4))))
      clear i0 i1 i2 i3 i4 ha
      go_simp
      simp only [evOf_tmp, uA]
      go_simp
      obtain ⟨i0, i1, i2, i3, i4⟩ := HI.out
      exact ⟨hb, uX, uA, i0, fun _ => rfl, i2, i3, i4⟩
    · intro ln vs wx hn ha ⟨hb, uX, uA, i0, i1, i2, i3, i4⟩
      have q1 : ln 1 = true := ha ⟨1, Ground.data⟩ (by simp) rfl
      have u1 := i1 q1
      have HI := Lib.hid (And.intro i0 (And.intro i1 (And.intro i2 (And.intro i3 i4))))
      clear i0 i1 i2 i3 i4 ha
      go_simp
      simp only [evOf_tmp, u1]
      obtain ⟨i0, i1, i2, i3, i4⟩ := HI.out
      exact (toCalls_c a1 n1 k1 a2 n2 k2 a3 n3 k3 x _ (Cal.below X0.out (below_next T.out hb)) (by omega) (by omega) (by omega)).mono fun e w' hh => (by
        obtain ⟨v1, v2, v3, lo, hi, rfl, hO, hb2, -, -⟩ := NewC.get hh
        obtain ⟨q1, j1, q2, j2, q3, j3, rfl, rfl, rfl, hC⟩ := OwnC.open hO
        exact ⟨_, rfl, below_next hb hb2, uX, uA, i0, i1, fun _ => ⟨q1, j1, q2, j2, q3, j3, rfl, hC⟩, i3, i4⟩)
    · intro ln vs wx hn ha ⟨hb, uX, uA, i0, i1, i2, i3, i4⟩
      have q0 : ln 0 = true := ha ⟨0, Ground.data⟩ (by simp) rfl
      have q2 : ln 2 = true := ha ⟨2, Ground.data⟩ (by simp) rfl
      have u0 := i0 q0
      obtain ⟨p1, j1, p2, j2, p3, j3, u2, hC⟩ := i2 q2
      have HI := Lib.hid (And.intro i0 (And.intro i1 (And.intro i2 (And.intro i3 i4))))
      clear i0 i1 i2 i3 i4 ha
      have HCC := Lib.hid hC
      clear hC
      go_simp
      simp only [evOf_tmp, u0, u2]
      obtain ⟨i0, i1, i2, i3, i4⟩ := HI.out
      have K := eqCalls_c Sa x.u.length Si Sb x.d.length Sj Sc x.c.length Sk x p1 x.u.length j1 p2 x.d.length j2 p3 x.c.length j3 x wx (Cal.below (OwnC.cal S.out) hb) HCC.out (by omega) (by omega) (by omega)
      rw [tr_true rfl] at K
      exact K.mono fun e w' ⟨he, hb2⟩ => ⟨_, he, below_next hb hb2, uX, uA, i0, i1, fun h => (let ⟨a1', a2', a3', a4', a5', a6', a7', a8'⟩ := i2 h; ⟨a1', a2', a3', a4', a5', a6', a7', Cal.below a8' hb2⟩), fun _ => rfl, i4⟩
    · intro ln vs wx hn ha ⟨hb, uX, uA, i0, i1, i2, i3, i4⟩
      have q3 : ln 3 = true := ha ⟨3, Ground.data⟩ (by simp) rfl
      have u3 := i3 q3
      have HI := Lib.hid (And.intro i0 (And.intro i1 (And.intro i2 (And.intro i3 i4))))
      clear i0 i1 i2 i3 i4 ha
      go_simp
      simp only [evOf_tmp, u3]
      go_simp
      obtain ⟨i0, i1, i2, i3, i4⟩ := HI.out
      exact ⟨hb, uX, uA, i0, i1, i2, i3, fun _ => rfl⟩
  intro vs wq hI
  obtain ⟨hb, -, -, -, -, -, -, i4⟩ := hI
  have u4 : vs 37 = .bool false := i4 rfl
  simp (decide := true) only [over, Nat.reduceAdd, if_true, if_false]
  rw [u4]
  have Tn := Lib.hid (below_next T.out hb)
  have An := Lib.hid (Bx.below A.out hb)
  have SAn := Lib.hid (Box.below SA.out hb)
  have Wn := Lib.hid (OwnC.below W.out hb)
  have WBn := Lib.hid (Bx.below WB.out hb)
  have Sn := Lib.hid (OwnC.below S.out hb)
  have SBn := Lib.hid (Bx.below SB.out hb)
  have Gn := Lib.hid (OwnC.below G.out hb)
  have GBn := Lib.hid (Bx.below GB.out hb)
  clear hb i4 u4
  clear T A SA W WB S SB G GB
  have T := Tn
  have A := An
  have SA := SAn
  have W := Wn
  have WB := WBn
  have S := Sn
  have SB := SBn
  have G := Gn
  have GB := GBn
  clear Tn An SAn Wn WBn Sn SBn Gn GBn
  obtain ⟨wn, hwq⟩ : ∃ w0, w0 = wq := ⟨_, rfl⟩
  subst hwq
  obtain ⟨⟨d0, d1, d2⟩, -⟩ := SB.out
  go_wp2_with fail
  refine Calls.mono (markCalls_c Sa x.u.length Si Sb x.d.length Sj Sc x.c.length Sk 1 x loS hiS _ S.out (by omega) s2) ?_
  rintro e wn ⟨rfl, hO, ho⟩
  have Tn := Lib.hid (Out.below T.out ho (by omega))
  have An := Lib.hid (Bx.out A.out ho (by omega))
  have SAn := Lib.hid (Box.out SA.out ho (by omega))
  have Wn := Lib.hid (OwnC.out W.out ho (by omega))
  have WBn := Lib.hid (Bx.out WB.out ho (by omega))
  have Sn := Lib.hid hO
  have SBn := Lib.hid (Bx.out SB.out ho (by omega))
  have Gn := Lib.hid (OwnC.out G.out ho (by omega))
  have GBn := Lib.hid (Bx.out GB.out ho (by omega))
  clear hO ho d0 d1 d2
  clear T A SA W WB S SB G GB
  have T := Tn
  have A := An
  have SA := SAn
  have W := Wn
  have WB := WBn
  have S := Sn
  have SB := SBn
  have G := Gn
  have GB := GBn
  clear Tn An SAn Wn WBn Sn SBn Gn GBn
  rw [HZ2.out]
  obtain ⟨⟨p0, p1, p2⟩, -⟩ := WB.out
  obtain ⟨⟨q0, q1, q2⟩, -⟩ := GB.out
  go_wp2_with fail
  refine Calls.mono (eqCalls_t Ga y.u.length Gi Gb y.d.length Gj Gc y.c.length Gk Wa y.u.length Wi Wb y.d.length Wj Wc y.c.length Wk y _ (OwnC.cal G.out) (OwnC.cal W.out) (by omega) (by omega) (by omega)) ?_
  intro e wn hh
  obtain ⟨he, hb⟩ := (by first | exact hh | exact Ro.mk hh | exact St.mk hh | exact LawOk.mk' hh : Mk _ _ e wn)
  subst he
  have Tn : Hid (Below w.heap.size w wn) := below_next T.out hb
  have An : Hid _ := Bx.below A.out hb
  have SAn : Hid _ := Box.below SA.out hb
  have Wn : Hid _ := OwnC.below W.out hb
  have WBn : Hid _ := Bx.below WB.out hb
  have Sn : Hid _ := OwnC.below S.out hb
  have SBn : Hid _ := Bx.below SB.out hb
  have Gn : Hid _ := OwnC.below G.out hb
  have GBn : Hid _ := Bx.below GB.out hb
  clear hb hh p0 p1 p2 q0 q1 q2
  clear T A SA W WB S SB G GB
  have T := Tn
  have A := An
  have SA := SAn
  have W := Wn
  have WB := WBn
  have S := Sn
  have SB := SBn
  have G := Gn
  have GB := GBn
  clear Tn An SAn Wn WBn Sn SBn Gn GBn
  obtain ⟨⟨q0, q1, q2⟩, -⟩ := GB.out
  go_wp2_with fail
  refine Calls.mono (markCalls_c Ga y.u.length Gi Gb y.d.length Gj Gc y.c.length Gk 1 y loG hiG _ G.out (by omega) s1) ?_
  rintro e wn ⟨rfl, hO, ho⟩
  have Tn := Lib.hid (Out.below T.out ho (by omega))
  have An := Lib.hid (Bx.out A.out ho (by omega))
  have SAn := Lib.hid (Box.out SA.out ho (by omega))
  have Wn := Lib.hid (OwnC.out W.out ho (by omega))
  have WBn := Lib.hid (Bx.out WB.out ho (by omega))
  have Sn := Lib.hid (OwnC.out S.out ho (by omega))
  have SBn := Lib.hid (Bx.out SB.out ho (by omega))
  have Gn := Lib.hid hO
  have GBn := Lib.hid (Bx.out GB.out ho (by omega))
  clear hO ho q0 q1 q2
  clear T A SA W WB S SB G GB
  have T := Tn
  have A := An
  have SA := SAn
  have W := Wn
  have WB := WBn
  have S := Sn
  have SB := SBn
  have G := Gn
  have GB := GBn
  clear Tn An SAn Wn WBn Sn SBn Gn GBn
  rw [HZ1.out]
  obtain ⟨⟨q0, q1, q2⟩, -⟩ := GB.out
  have HK1 := Lib.hid (heldCalls_c Ga y.u.length Gi Gb y.d.length Gj Gc y.c.length Gk 1 wn (OwnC.cal G.out) (by omega) s1)
  rw [HZ1.out] at HK1
  go_wp2_with fail
  refine Calls.mono (HK1.out) ?_
  intro e wn hh
  obtain ⟨he, hb⟩ := (by first | exact hh | exact Ro.mk hh | exact St.mk hh | exact LawOk.mk' hh : Mk _ _ e wn)
  subst he
  have Tn : Hid (Below w.heap.size w wn) := below_next T.out hb
  have An : Hid _ := Bx.below A.out hb
  have SAn : Hid _ := Box.below SA.out hb
  have Wn : Hid _ := OwnC.below W.out hb
  have WBn : Hid _ := Bx.below WB.out hb
  have Sn : Hid _ := OwnC.below S.out hb
  have SBn : Hid _ := Bx.below SB.out hb
  have Gn : Hid _ := OwnC.below G.out hb
  have GBn : Hid _ := Bx.below GB.out hb
  clear hb hh q0 q1 q2
  clear T A SA W WB S SB G GB
  have T := Tn
  have A := An
  have SA := SAn
  have W := Wn
  have WB := WBn
  have S := Sn
  have SB := SBn
  have G := Gn
  have GB := GBn
  clear Tn An SAn Wn WBn Sn SBn Gn GBn
  clear HK1
  go_wp2_with fail

  obtain ⟨B0, hB0⟩ : ∃ B0, wn.heap.size = B0 := ⟨_, rfl⟩
  have HB0 := Lib.hid hB0
  have hT0 : w.heap.size ≤ B0 := by rw [← hB0]; exact T.out.size
  have hbSA := Box.lt SA.out
  have hbWB := Bx.lt WB.out
  have hbW := W.out.2.2.1
  have hbGB := Bx.lt GB.out
  have hbG := G.out.2.2.1
  rw [hB0] at hbSA hbWB hbW hbGB hbG
  clear hB0

  refine wp_region_inv (fun ln vs wx => RV wn 3 2 (.pointer (some ⟨g, 0, none⟩)) (.pointer (some ⟨g + 1, 0, none⟩)) (.agg #[.slice a1 n1 k1, .slice a2 n2 k2, .slice a3 n3 k3]) (.agg #[.int .i64 f, .int .i64 d]) x y 60 12 ln vs wx) [60, 61, 62, 63, 64, 12]
    (by kernel_rfl) (by kernel_rfl) (by kernel_rfl) (by kernel_rfl) ?h0H ?hobsH ?_
  case h0H => exact { bel := Below.dw (Below.refl _ _), s2 := rfl, s3 := rfl, v0 := fun h => (by cases h), v1 := fun h => (by cases h), v2 := fun h => (by cases h), v3 := fun h => (by cases h), v4 := KO.start _ _ _ _ _ }
  case hobsH =>
    refine ⟨?_, ?_, ?_, ?_, ?_, ?_, ?_, trivial⟩
    · intro ln vs wx hn ha h
      have w2 := h.s2
      obtain ⟨⟨c0, c1, c2⟩, -⟩ := Bx.below A.out h.bel
      have HH := Lib.hid h
      clear h ha
      go_simp
      simp only [evOf_tmp, w2]
      go_simp
      have h := HH.out
      exact { bel := h.bel, s2 := h.s2, s3 := h.s3, v0 := fun _ => rfl, v1 := h.v1, v2 := h.v2, v3 := h.v3, v4 := h.v4 }
    · intro ln vs wx hn ha h
      have y0 : ln 0 = true := ha ⟨0, Ground.data⟩ (by simp) rfl
      have w1 := h.v0 y0
      have HH := Lib.hid h
      clear h ha
      go_simp
      simp only [evOf_tmp, w1]
      have h := HH.out
      exact Calls.mono (toCalls_c a1 n1 k1 a2 n2 k2 a3 n3 k3 x _ (Cal.below X0.out (below_next T.out h.bel)) q1 q2 q3) (fun e w2 hh => (by obtain ⟨v1, v2, v3, lo, hi, rfl, hO, hb, -, -⟩ := NewC.get hh; obtain ⟨q1, j1, q2, j2, q3, j3, rfl, rfl, rfl, hCC⟩ := OwnC.open hO; exact ⟨_, rfl, { bel := below_next h.bel hb, s2 := h.s2, s3 := h.s3, v0 := h.v0, v1 := fun _ _ => ⟨q1, j1, q2, j2, q3, j3, rfl, hCC⟩, v2 := h.v2, v3 := h.v3, v4 := h.v4.below hb }⟩))
    · intro ln vs wx hn ha h
      have w2 := h.s3
      obtain ⟨⟨c0, c1⟩, -⟩ := Box.below SA.out h.bel
      have HH := Lib.hid h
      clear h ha
      go_simp
      simp only [evOf_tmp, w2]
      go_simp
      have h := HH.out
      exact { bel := h.bel, s2 := h.s2, s3 := h.s3, v0 := h.v0, v1 := h.v1, v2 := fun _ => rfl, v3 := h.v3, v4 := h.v4 }
    · intro ln vs wx hn ha h
      have y2 : ln 2 = true := ha ⟨2, Ground.data⟩ (by simp) rfl
      have w1 := h.v2 y2
      have HH := Lib.hid h
      clear h ha
      go_simp
      simp only [evOf_tmp, w1]
      have h := HH.out
      exact Calls.mono (toStop_c f d _) (fun e w2 hh => (by obtain ⟨rfl, hb⟩ := hh; exact ⟨_, rfl, { bel := below_next h.bel hb, s2 := h.s2, s3 := h.s3, v0 := h.v0, v1 := fun hh hq => Fre.below (h.v1 hh hq) hb, v2 := h.v2, v3 := fun _ => rfl, v4 := h.v4.below hb }⟩))
    · intro ln vs wx hn ha h
      have y1 : ln 1 = true := ha ⟨1, Ground.data⟩ (by simp) rfl
      have y3 : ln 3 = true := ha ⟨3, Ground.data⟩ (by simp) rfl
      obtain ⟨ra, ri, rb, rj, rc, rk, w1, hF⟩ := h.v1 y1 hn
      have w2 := h.v3 y3
      have HH := Lib.hid h
      have HF := Lib.hid hF
      clear h ha hF
      go_simp
      simp only [evOf_tmp, w1, w2]
      have h := HH.out
      have hk := h.v4
      rw [show ln 4 = false from hn] at hk
      exact Calls.mono (HKI.out _ _ _ _ _ _ _ _ _ _ HF.out) (fun e w2 hh => (by obtain ⟨v9, he⟩ := newC_ret hh; have hkk := KO.call hk h.bel.size hh he; have hb := hkk.2; exact ⟨v9, he, { bel := below_next h.bel hb, s2 := h.s2, s3 := h.s3, v0 := h.v0, v1 := fun _ h9 => (by cases h9), v2 := h.v2, v3 := h.v3, v4 := hkk.1 }⟩))
    · intro ln vs wx hn ha h
      have hk := h.v4
      rw [show ln 5 = false from hn] at hk
      have hk2 := KO.alloc hk h.bel.size
      have hb : Below wx.heap.size wx (wx.alloc (.cells #[.slice none 0 0, .slice none 0 0, .slice none 0 0] 25)) := (Below.refl _ _).alloc (Nat.le_refl _) _
      have HH := Lib.hid h
      have HK := Lib.hid hk2
      clear h ha hk hk2
      go_simp
      have h := HH.out
      exact { bel := below_next h.bel hb, s2 := h.s2, s3 := h.s3, v0 := h.v0, v1 := fun hh hq => Fre.below (h.v1 hh hq) hb, v2 := h.v2, v3 := h.v3, v4 := HK.out }
    · intro ln vs wx hn ha h
      have y4 : ln 4 = true := ha ⟨4, Ground.data⟩ (by simp) rfl
      have y5 : ln 5 = true := ha ⟨5, Ground.data⟩ (by simp) rfl
      have hk := h.v4
      rw [y4, y5, show ln 6 = false from hn] at hk
      exact KO.store (s := .tmp 12) (x := .tmp 64) rfl hk h.bel (fun w2 H hH ho hk2 => { bel := Out.below h.bel ho hH, s2 := h.s2, s3 := h.s3, v0 := h.v0, v1 := fun hh h9 => (by have h8 : ln 4 = false := h9; rw [y4] at h8; cases h8), v2 := h.v2, v3 := h.v3, v4 := (by show KO _ _ _ _ (updL ln 6 4) (updL ln 6 5) _ _; simp only [updL, Nat.reduceEqDiff, if_false]; rw [y4, y5]; exact hk2) })

  intro vs wq hI
  have hq := hI.bel
  have hk : KO wn y (vs 64) (vs 12) true true true wq := hI.v4
  obtain ⟨loH, hiH, HH, Ha, Hi, Hb, Hj, Hc, Hk, h1, hlhH, h3, h4, h5, h6, -⟩ := hk
  obtain ⟨-, hO⟩ := h4 rfl
  obtain ⟨e5, -, -, hbx⟩ := h5 rfl
  have hbx := hbx rfl
  have hapH := h6 rfl rfl
  rw [HB0.out] at h1 h3
  have hloH := h1
  have hHbH := h3
  simp (decide := true) only [over, Nat.reduceAdd, if_true, if_false]
  rw [e5]
  have H := Lib.hid hO
  have HB := Lib.hid hbx
  clear hI h1 h3 h4 h5 h6 e5 hO hbx HB0
  have Tn := Lib.hid (below_next T.out hq)
  have An := Lib.hid (Bx.below A.out hq)
  have SAn := Lib.hid (Box.below SA.out hq)
  have Wn := Lib.hid (OwnC.below W.out hq)
  have WBn := Lib.hid (Bx.below WB.out hq)
  have Sn := Lib.hid (OwnC.below S.out hq)
  have SBn := Lib.hid (Bx.below SB.out hq)
  have Gn := Lib.hid (OwnC.below G.out hq)
  have GBn := Lib.hid (Bx.below GB.out hq)
  clear hq
  clear T A SA W WB S SB G GB
  have T := Tn
  have A := An
  have SA := SAn
  have W := Wn
  have WB := WBn
  have S := Sn
  have SB := SBn
  have G := Gn
  have GB := GBn
  clear Tn An SAn Wn WBn Sn SBn Gn GBn
  obtain ⟨wn, hwq⟩ : ∃ w0, w0 = wq := ⟨_, rfl⟩
  subst hwq

  obtain ⟨⟨p0, p1, p2⟩, -⟩ := WB.out
  obtain ⟨⟨q0, q1, q2⟩, -⟩ := HB.out
  go_wp2_with fail
  refine Calls.mono (eqCalls_t Ha y.u.length Hi Hb y.d.length Hj Hc y.c.length Hk Wa y.u.length Wi Wb y.d.length Wj Wc y.c.length Wk y _ (OwnC.cal H.out) (OwnC.cal W.out) (by omega) (by omega) (by omega)) ?_
  intro e wn hh
  obtain ⟨he, hb⟩ := (by first | exact hh | exact Ro.mk hh | exact St.mk hh | exact LawOk.mk' hh : Mk _ _ e wn)
  subst he
  have Tn : Hid (Below w.heap.size w wn) := below_next T.out hb
  have An : Hid _ := Bx.below A.out hb
  have SAn : Hid _ := Box.below SA.out hb
  have Wn : Hid _ := OwnC.below W.out hb
  have WBn : Hid _ := Bx.below WB.out hb
  have Sn : Hid _ := OwnC.below S.out hb
  have SBn : Hid _ := Bx.below SB.out hb
  have Gn : Hid _ := OwnC.below G.out hb
  have GBn : Hid _ := Bx.below GB.out hb
  have Hn : Hid _ := OwnC.below H.out hb
  have HBn : Hid _ := Bx.below HB.out hb
  clear hb hh p0 p1 p2 q0 q1 q2
  clear T A SA W WB S SB G GB H HB
  have T := Tn
  have A := An
  have SA := SAn
  have W := Wn
  have WB := WBn
  have S := Sn
  have SB := SBn
  have G := Gn
  have GB := GBn
  have H := Hn
  have HB := HBn
  clear Tn An SAn Wn WBn Sn SBn Gn GBn Hn HBn
  obtain ⟨⟨q0, q1, q2⟩, -⟩ := GB.out
  have HK1 := Lib.hid (heldCalls_c Ga y.u.length Gi Gb y.d.length Gj Gc y.c.length Gk 1 wn (OwnC.cal G.out) (by omega) s1)
  rw [HZ1.out] at HK1
  go_wp2_with fail
  refine Calls.mono (HK1.out) ?_
  intro e wn hh
  obtain ⟨he, hb⟩ := (by first | exact hh | exact Ro.mk hh | exact St.mk hh | exact LawOk.mk' hh : Mk _ _ e wn)
  subst he
  have Tn : Hid (Below w.heap.size w wn) := below_next T.out hb
  have An : Hid _ := Bx.below A.out hb
  have SAn : Hid _ := Box.below SA.out hb
  have Wn : Hid _ := OwnC.below W.out hb
  have WBn : Hid _ := Bx.below WB.out hb
  have Sn : Hid _ := OwnC.below S.out hb
  have SBn : Hid _ := Bx.below SB.out hb
  have Gn : Hid _ := OwnC.below G.out hb
  have GBn : Hid _ := Bx.below GB.out hb
  have Hn : Hid _ := OwnC.below H.out hb
  have HBn : Hid _ := Bx.below HB.out hb
  clear hb hh q0 q1 q2
  clear T A SA W WB S SB G GB H HB
  have T := Tn
  have A := An
  have SA := SAn
  have W := Wn
  have WB := WBn
  have S := Sn
  have SB := SBn
  have G := Gn
  have GB := GBn
  have H := Hn
  have HB := HBn
  clear Tn An SAn Wn WBn Sn SBn Gn GBn Hn HBn
  go_wp2_with fail
  go_ret
  first | exact LawOk.mk T.out | exact LawOk.mk (Below.dr T.out _)

end Go.Proofs.Ytkpginkkfobblaa
