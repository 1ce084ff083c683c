/- CallSet of the model. -/
import Derived.Test.Ytkpginkkfobblaa8F
namespace Go.Proofs.Ytkpginkkfobblaa
open Go.RowKit
set_option linter.unusedVariables false

theorem OwnB.some {w : World} {B : Nat} {v : Value} {xs : List Bool} (h : OwnB w B v xs) (h1 : 1 ≤ xs.length) :
    ∃ q cap, v = .slice (Option.some ⟨q, 0, none⟩) xs.length cap ∧ B ≤ q ∧ q < w.heap.size ∧ (∀ i, i < xs.length → w.cell? ⟨q, i, none⟩ = Option.some (.bool (bn xs i))) ∧ ∀ i, w.frozen? ⟨q, i, none⟩ = false := by
  obtain ⟨a, cap, e, ⟨_, hb⟩, hf⟩ := h.open
  rcases hb with hb | ⟨q, off, rfl, hb⟩
  · omega
  · obtain ⟨rfl, _, hz, _, _⟩ := hf q off none rfl
    have := h.lt q (by rw [e]; rfl)
    exact ⟨q, cap, e, this.1, this.2, fun i hi => by simpa using hb i hi, hz⟩
theorem set_other {w : World} {q i : Nat} {u : Value} {B : Nat} {v : Value} {xs : List Bool} (h : OwnB w B v xs) (hne : ∀ k, v.ownBlock = Option.some k → k ≠ q) : OwnB (w.setCell ⟨q, i, none⟩ u) B v xs :=
  h.block fun k hk => Below.heap_setCell _ _ _ _ (by have := hne k hk; simpa using this)
theorem OwnC.set1 {w : World} {lo hi q c1 i : Nat} {v2 v3 : Value} {x : Cs} (b : Bool) (h : OwnC w lo hi (.slice (Option.some ⟨q, 0, none⟩) x.u.length c1) v2 v3 x) :
    OwnC (w.setCell ⟨q, i, none⟩ (.bool b)) lo hi (.slice (Option.some ⟨q, 0, none⟩) x.u.length c1) v2 v3 ⟨x.u.set i b, x.d, x.c⟩ := by
  obtain ⟨⟨h1, h2, h3⟩, ⟨a12, a13, a23⟩, h4, h5, h6⟩ := h
  exact ⟨⟨(OwnB.stored h1 i b).1, set_other h2 (fun k hk => (a12 q k rfl hk).symm), set_other h3 (fun k hk => (a13 q k rfl hk).symm)⟩, ⟨a12, a13, a23⟩, by rw [World.size_setCell]; exact h4, h5, h6⟩
theorem OwnC.set2 {w : World} {lo hi q c1 i : Nat} {v1 v3 : Value} {x : Cs} (b : Bool) (h : OwnC w lo hi v1 (.slice (Option.some ⟨q, 0, none⟩) x.d.length c1) v3 x) :
    OwnC (w.setCell ⟨q, i, none⟩ (.bool b)) lo hi v1 (.slice (Option.some ⟨q, 0, none⟩) x.d.length c1) v3 ⟨x.u, x.d.set i b, x.c⟩ := by
  obtain ⟨⟨h1, h2, h3⟩, ⟨a12, a13, a23⟩, h4, h5, h6⟩ := h
  exact ⟨⟨set_other h1 (fun k hk => a12 k q hk rfl), (OwnB.stored h2 i b).1, set_other h3 (fun k hk => (a23 q k rfl hk).symm)⟩, ⟨a12, a13, a23⟩, by rw [World.size_setCell]; exact h4, h5, h6⟩
theorem OwnC.set3 {w : World} {lo hi q c1 i : Nat} {v1 v2 : Value} {x : Cs} (b : Bool) (h : OwnC w lo hi v1 v2 (.slice (Option.some ⟨q, 0, none⟩) x.c.length c1) x) :
    OwnC (w.setCell ⟨q, i, none⟩ (.bool b)) lo hi v1 v2 (.slice (Option.some ⟨q, 0, none⟩) x.c.length c1) ⟨x.u, x.d, x.c.set i b⟩ := by
  obtain ⟨⟨h1, h2, h3⟩, ⟨a12, a13, a23⟩, h4, h5, h6⟩ := h
  exact ⟨⟨set_other h1 (fun k hk => a13 k q hk rfl), set_other h2 (fun k hk => a23 k q hk rfl), (OwnB.stored h3 i b).1⟩, ⟨a12, a13, a23⟩, by rw [World.size_setCell]; exact h4, h5, h6⟩
theorem newC_end {w0 w : World} {r lo hi : Nat} {v1 v2 v3 : Value} {x : Cs} (hO : OwnC w lo hi v1 v2 v3 x) (hW : Below w0.heap.size w0 w) (hr : w0.heap.size ≤ r) (hr2 : r < lo) (f : Value → Value) :
    NewC w0 x f (.returned (f (.agg #[v1, v2, v3]))) (((w.setCell ⟨r, 0, none⟩ v1).setCell ⟨r, 1, none⟩ v2).setCell ⟨r, 2, none⟩ v3) := by
  have := OwnC.store hO hW hr hr2
  exact ⟨v1, v2, v3, rfl, this.1, this.2⟩
theorem Out.set {w : World} {q i lo hi : Nat} (u : Value) (h1 : lo ≤ q) (h2 : q < hi) : Out lo hi w (w.setCell ⟨q, i, none⟩ u) := by
  have h := (Below.refl 0 w).setCell (p := ⟨q, i, none⟩) (Nat.zero_le _) u
  exact ⟨h.os, h.tape, h.output, by rw [World.size_setCell]; exact Nat.le_refl _, fun k hk g => Below.heap_setCell _ _ _ _ (by simp; omega)⟩
theorem cput0 (x : Cs) (j : Nat) (b : Bool) : cput x 0 j b = ⟨x.u.set j b, x.d, x.c⟩ := rfl
theorem cput1 (x : Cs) (j : Nat) (b : Bool) : cput x 1 j b = ⟨x.u, x.d.set j b, x.c⟩ := rfl
theorem cput2 (x : Cs) (j : Nat) (b : Bool) : cput x 2 j b = ⟨x.u, x.d, x.c.set j b⟩ := rfl
set_option maxHeartbeats 4000000 in
theorem sCallSet_c (a1 : Option Addr) (n1 k1 : Nat) (a2 : Option Addr) (n2 k2 : Nat) (a3 : Option Addr) (n3 k3 : Nat) (x : Cs) (k f : Int) (b : Bool) (w : World) (hX : Cal w a1 n1 a2 n2 a3 n3 x) :
    Calls Try.prog 63 #[(.agg #[.slice a1 n1 k1, .slice a2 n2 k2, .slice a3 n3 k3]), .int .i64 k, .int .i64 f, .bool b] w (NewC w (cst x k f b) (fun v => .tuple #[v, .bool (cstB x k f b)])) := by
  have X0 := Lib.hid hX
  have l1 := hX.1.1
  have l2 := hX.2.1.1
  have l3 := hX.2.2.1
  clear hX
  obtain ⟨g, hg⟩ : ∃ g, w.heap.size = g := ⟨_, rfl⟩
  have HG := Lib.hid hg
  have C0 := Lib.hid (show Bx ((w.alloc (.cells #[.slice a1 n1 k1, .slice a2 n2 k2, .slice a3 n3 k3] 25)).alloc (.cells #[.slice none 0 0, .slice none 0 0, .slice none 0 0] 25)) g (.slice a1 n1 k1) (.slice a2 n2 k2) (.slice a3 n3 k3) from by rw [← hg]; exact Bx.al (Bx.new _ _ _ _ _) _)
  have B0 := Lib.hid (show Bx ((w.alloc (.cells #[.slice a1 n1 k1, .slice a2 n2 k2, .slice a3 n3 k3] 25)).alloc (.cells #[.slice none 0 0, .slice none 0 0, .slice none 0 0] 25)) (g + 1) (.slice none 0 0) (.slice none 0 0) (.slice none 0 0) from by
    have h9 := Bx.new (w.alloc (.cells #[.slice a1 n1 k1, .slice a2 n2 k2, .slice a3 n3 k3] 25)) (.slice none 0 0) (.slice none 0 0) (.slice none 0 0) 25
    rw [World.size_alloc, hg] at h9; exact h9)
  have HB0 := Lib.hid (Below.al (Below.al (Below.refl w.heap.size w) (.cells #[.slice a1 n1 k1, .slice a2 n2 k2, .slice a3 n3 k3] 25)) (.cells #[.slice none 0 0, .slice none 0 0, .slice none 0 0] 25))
  have hsz : g + 1 < ((w.alloc (.cells #[.slice a1 n1 k1, .slice a2 n2 k2, .slice a3 n3 k3] 25)).alloc (.cells #[.slice none 0 0, .slice none 0 0, .slice none 0 0] 25)).heap.size := by rw [← hg]; simp
  clear hg
  have hk0 : Hid ((w.alloc (.cells #[.slice a1 n1 k1, .slice a2 n2 k2, .slice a3 n3 k3] 25)).heap.size = g + 1) := (show _ = _ from by rw [World.size_alloc, HG.out])
  have V := fun w' (h : Cal w' a1 n1 a2 n2 a3 n3 x) => sCallsValid_c a1 n1 k1 a2 n2 k2 a3 n3 k3 x w' h
  by_cases hv : CV x
  case neg =>
    have e := cvB_f hv
    rw [e] at V
    have HV := Lib.hid V
    have E := Lib.hid (show cst x k f b = cz ∧ cstB x k f b = false from ⟨cst_bad hv, cstB_f (fun h => hv h.1)⟩)
    clear e V hv l1 l2 l3
    go_enter Try.func63, Try.ntmps63
    go_wp2_with fail
    refine (HV.out _ (Cal.below X0.out HB0.out)).mono ?_
    rintro e w1 ⟨rfl, hb⟩
    have HB1 := Lib.hid (below_next HB0.out hb)
    obtain ⟨⟨c0, c1, c2⟩, hf⟩ := Bx.below B0.out hb
    have f0 := hf 0
    have f1 := hf 1
    have f2 := hf 2
    clear hf hb HB0 C0 HV hsz
    try rw [HG.out]
    go_wp2_with fail
    have N := newC_zero (r := g + 1) HB1.out (by have := HG.out; omega) (fun v => .tuple #[v, .bool false])
    exact bodyPost_ret (v := .tuple #[.agg #[.slice none 0 0, .slice none 0 0, .slice none 0 0], .bool false]) (by simp [results, Try.results63, go_sem, c0, c1, c2]) rfl (by rw [E.out.1, E.out.2]; exact N)
  have e := cvB_t hv
  rw [e] at V
  have HV := Lib.hid V
  have h1 := hv.1
  have h8 := hv.2.1
  have e1 := hv.2.2.1
  have e2 := hv.2.2.2.1
  have q1 : n1 = n3 := by omega
  have q2 : n2 = n3 := by omega
  subst q1 q2
  obtain ⟨n, rfl⟩ : ∃ n, n2 = n + 1 := ⟨n2 - 1, by omega⟩
  have K := fun w' (h : Cal w' a1 (n + 1) a2 (n + 1) a3 (n + 1) x) => l8Copy_c a1 (n + 1) k1 a2 (n + 1) k2 a3 (n + 1) k3 x w' h (by omega) (by omega) (by omega) (by omega) (by omega) (by omega)
  have HK := Lib.hid K
  have n7 : (n : Int) ≤ 7 := by omega
  have L1 := Lib.hid l1
  have L2 := Lib.hid l2
  have L3 := Lib.hid l3
  have HCV := Lib.hid hv
  clear e V hv e1 e2 l1 l2 l3 h1 h8 K
  -- how the walk goes as far as the copy
  by_cases hf : 0 ≤ f ∧ f ≤ (n : Int)
  case neg =>
    have t1 := inB_f hf
    have E := Lib.hid (show cst x k f b = x ∧ cstB x k f b = false from by
      have hn : ¬ SV x k f b := fun h => hf (by have := h.2.1.2; have := L3.out; omega)
      exact ⟨cst_f HCV.out hn, cstB_f hn⟩)
    clear hf
    go_enter Try.func63, Try.ntmps63
    go_wp2_with fail
    refine (HV.out _ (Cal.below X0.out HB0.out)).mono ?_
    rintro e w1 ⟨rfl, hb⟩
    have HB1 := Lib.hid (below_next HB0.out hb)
    have C1 := Lib.hid (Bx.below C0.out hb)
    have B1 := Lib.hid (Bx.below B0.out hb)
    have hs1 := hb.size
    have hsz1 : g + 1 < w1.heap.size := by omega
    clear hb HB0 C0 B0 HV hsz hs1
    obtain ⟨⟨c0, c1, c2⟩, -⟩ := C1.out
    try rw [HG.out]
    go_wp2_with fail
    clear c0 c1 c2
    refine (HK.out _ (Cal.below X0.out HB1.out)).mono ?_
    rintro e w2 ⟨v1, v2, v3, rfl, hO, hb⟩
    have HB2 := Lib.hid (Below.al (below_next HB1.out hb) (.cells #[v1, v2, v3] 25))
    have C2 := Lib.hid (Bx.al (Bx.below C1.out hb) (.cells #[v1, v2, v3] 25))
    have B2 := Lib.hid (Bx.al (Bx.below B1.out hb) (.cells #[v1, v2, v3] 25))
    obtain ⟨hi, hhi⟩ : ∃ hi, w2.heap.size = hi := ⟨_, rfl⟩
    obtain ⟨lo, hlo⟩ : ∃ lo, w1.heap.size = lo := ⟨_, rfl⟩
    rw [hhi, hlo] at hO
    have H2 := Lib.hid (show Bx (w2.alloc (.cells #[v1, v2, v3] 25)) hi v1 v2 v3 from by rw [← hhi]; exact Bx.new _ _ _ _ _)
    have O2 := Lib.hid (OwnC.below hO ((Below.refl _ _).alloc (Nat.le_refl _) (.cells #[v1, v2, v3] 25)))
    have hs2 := hb.size
    rw [hhi, hlo] at hs2
    rw [hlo] at hsz1
    have HHI := Lib.hid hhi
    obtain ⟨⟨ob1, ob2, ob3⟩, _⟩ := O2.out
    obtain ⟨p1, d1, rfl, p1a, p1b, r1, z1⟩ := OwnB.some ob1 (by rw [L1.out]; omega)
    obtain ⟨p2, d2, rfl, p2a, p2b, r2, z2⟩ := OwnB.some ob2 (by rw [L2.out]; omega)
    obtain ⟨p3, d3, rfl, p3a, p3b, r3, z3⟩ := OwnB.some ob3 (by rw [L3.out]; omega)
    have up : p1 < hi ∧ p2 < hi ∧ p3 < hi := ⟨O2.out.2.2.2.2 p1 (.inl rfl), O2.out.2.2.2.2 p2 (.inr (.inl rfl)), O2.out.2.2.2.2 p3 (.inr (.inr rfl))⟩
    simp only [L1.out, L2.out, L3.out] at r1 r2 r3 z1 z2 z3 H2 O2 HB2 C2 B2
    rw [L1.out, L2.out, L3.out]
    clear ob1 ob2 ob3 hO hb hhi hlo HB1 C1 B1 p1b p2b p3b
    obtain ⟨u1, u2, u3⟩ := up
    obtain ⟨⟨c0, c1, c2⟩, -⟩ := C2.out
    go_wp2_with fail
    rw [HHI.out]
    clear c0 c1 c2
    have hs3 := Lib.hid (show hi < (w2.alloc (.cells #[.slice (some ⟨p1, 0, none⟩) (n + 1) d1, .slice (some ⟨p2, 0, none⟩) (n + 1) d2, .slice (some ⟨p3, 0, none⟩) (n + 1) d3] 25)).heap.size from by rw [World.size_alloc, HHI.out]; omega)
    generalize w2.alloc (.cells #[.slice (some ⟨p1, 0, none⟩) (n + 1) d1, .slice (some ⟨p2, 0, none⟩) (n + 1) d2, .slice (some ⟨p3, 0, none⟩) (n + 1) d3] 25) = w3 at *
    clear HHI
    refine (l1In_c _ _ _ _).mono ?_
    rintro e w' ⟨rfl, m1, rfl⟩
    have O4 := Lib.hid (show OwnC (w3.drewN m1) lo hi _ _ _ x from O2.out)
    have HB4 := Lib.hid (show Below w.heap.size w (w3.drewN m1) from Below.dr HB2.out m1)
    have C4 := Lib.hid (show Bx (w3.drewN m1) g _ _ _ from C2.out)
    have B4 := Lib.hid (show Bx (w3.drewN m1) (g + 1) _ _ _ from B2.out)
    have H4 := Lib.hid (show Bx (w3.drewN m1) hi _ _ _ from H2.out)
    have hs4 := Lib.hid (show hi < (w3.drewN m1).heap.size from hs3.out)
    replace r1 : ∀ i, i < n + 1 → (w3.drewN m1).cell? ⟨p1, i, none⟩ = _ := r1
    replace r2 : ∀ i, i < n + 1 → (w3.drewN m1).cell? ⟨p2, i, none⟩ = _ := r2
    replace r3 : ∀ i, i < n + 1 → (w3.drewN m1).cell? ⟨p3, i, none⟩ = _ := r3
    replace z1 : ∀ i, (w3.drewN m1).frozen? ⟨p1, i, none⟩ = false := z1
    replace z2 : ∀ i, (w3.drewN m1).frozen? ⟨p2, i, none⟩ = false := z2
    replace z3 : ∀ i, (w3.drewN m1).frozen? ⟨p3, i, none⟩ = false := z3
    clear O2 HB2 C2 B2 H2 hs3
    generalize w3.drewN m1 = w4 at *
    obtain ⟨⟨i0, i1, i2⟩, -⟩ := H4.out
    clear r1 r2 r3 z1 z2 z3
    obtain ⟨⟨c0, c1, c2⟩, hf⟩ := B4.out
    have f0 := hf 0
    have f1 := hf 1
    have f2 := hf 2
    clear hf
    have N := Lib.hid (newC_end (w0 := w) (r := g + 1) (w := w4) O4.out HB4.out (by have := HG.out; omega) (by omega) (fun v => .tuple #[v, .bool false]))
    clear O4 HB4 C4 B4 H4
    go_wp2_with fail
    exact bodyPost_ret (v := .tuple #[.agg #[.slice (some ⟨p1, 0, none⟩) (n + 1) d1, .slice (some ⟨p2, 0, none⟩) (n + 1) d2, .slice (some ⟨p3, 0, none⟩) (n + 1) d3], .bool false]) (by simp [results, Try.results63, go_sem, c0, c1, c2]) rfl (by rw [E.out.1, E.out.2]; exact N.out)
  have t1 := inB_t hf
  obtain ⟨j, rfl⟩ : ∃ j : Nat, f = j := ⟨f.toNat, by omega⟩
  have hjn : j < n + 1 := by omega
  have ji : (j : Int) < (n : Int) + 1 := by omega
  have j0 : (0 : Int) ≤ j := by omega
  clear hf
  by_cases hk : k = 0 ∨ k = 1 ∨ k = 2
  case neg =>
    have E := Lib.hid (show cst x k j b = x ∧ cstB x k j b = false from by
      have hn : ¬ SV x k j b := fun h => hk (by have := h.2.1.1; omega)
      exact ⟨cst_f HCV.out hn, cstB_f hn⟩)
    have y0 : (k == 0) = false := by simp; omega
    have y1 : (k == 1) = false := by simp; omega
    have y2 : (k == 2) = false := by simp; omega
    clear hk
    go_enter Try.func63, Try.ntmps63
    go_wp2_with fail
    refine (HV.out _ (Cal.below X0.out HB0.out)).mono ?_
    rintro e w1 ⟨rfl, hb⟩
    have HB1 := Lib.hid (below_next HB0.out hb)
    have C1 := Lib.hid (Bx.below C0.out hb)
    have B1 := Lib.hid (Bx.below B0.out hb)
    have hs1 := hb.size
    have hsz1 : g + 1 < w1.heap.size := by omega
    clear hb HB0 C0 B0 HV hsz hs1
    obtain ⟨⟨c0, c1, c2⟩, -⟩ := C1.out
    try rw [HG.out]
    go_wp2_with fail
    clear c0 c1 c2
    refine (HK.out _ (Cal.below X0.out HB1.out)).mono ?_
    rintro e w2 ⟨v1, v2, v3, rfl, hO, hb⟩
    have HB2 := Lib.hid (Below.al (below_next HB1.out hb) (.cells #[v1, v2, v3] 25))
    have C2 := Lib.hid (Bx.al (Bx.below C1.out hb) (.cells #[v1, v2, v3] 25))
    have B2 := Lib.hid (Bx.al (Bx.below B1.out hb) (.cells #[v1, v2, v3] 25))
    obtain ⟨hi, hhi⟩ : ∃ hi, w2.heap.size = hi := ⟨_, rfl⟩
    obtain ⟨lo, hlo⟩ : ∃ lo, w1.heap.size = lo := ⟨_, rfl⟩
    rw [hhi, hlo] at hO
    have H2 := Lib.hid (show Bx (w2.alloc (.cells #[v1, v2, v3] 25)) hi v1 v2 v3 from by rw [← hhi]; exact Bx.new _ _ _ _ _)
    have O2 := Lib.hid (OwnC.below hO ((Below.refl _ _).alloc (Nat.le_refl _) (.cells #[v1, v2, v3] 25)))
    have hs2 := hb.size
    rw [hhi, hlo] at hs2
    rw [hlo] at hsz1
    have HHI := Lib.hid hhi
    obtain ⟨⟨ob1, ob2, ob3⟩, _⟩ := O2.out
    obtain ⟨p1, d1, rfl, p1a, p1b, r1, z1⟩ := OwnB.some ob1 (by rw [L1.out]; omega)
    obtain ⟨p2, d2, rfl, p2a, p2b, r2, z2⟩ := OwnB.some ob2 (by rw [L2.out]; omega)
    obtain ⟨p3, d3, rfl, p3a, p3b, r3, z3⟩ := OwnB.some ob3 (by rw [L3.out]; omega)
    have up : p1 < hi ∧ p2 < hi ∧ p3 < hi := ⟨O2.out.2.2.2.2 p1 (.inl rfl), O2.out.2.2.2.2 p2 (.inr (.inl rfl)), O2.out.2.2.2.2 p3 (.inr (.inr rfl))⟩
    simp only [L1.out, L2.out, L3.out] at r1 r2 r3 z1 z2 z3 H2 O2 HB2 C2 B2
    rw [L1.out, L2.out, L3.out]
    clear ob1 ob2 ob3 hO hb hhi hlo HB1 C1 B1 p1b p2b p3b
    obtain ⟨u1, u2, u3⟩ := up
    obtain ⟨⟨c0, c1, c2⟩, -⟩ := C2.out
    go_wp2_with fail
    rw [HHI.out]
    clear c0 c1 c2
    have hs3 := Lib.hid (show hi < (w2.alloc (.cells #[.slice (some ⟨p1, 0, none⟩) (n + 1) d1, .slice (some ⟨p2, 0, none⟩) (n + 1) d2, .slice (some ⟨p3, 0, none⟩) (n + 1) d3] 25)).heap.size from by rw [World.size_alloc, HHI.out]; omega)
    generalize w2.alloc (.cells #[.slice (some ⟨p1, 0, none⟩) (n + 1) d1, .slice (some ⟨p2, 0, none⟩) (n + 1) d2, .slice (some ⟨p3, 0, none⟩) (n + 1) d3] 25) = w3 at *
    clear HHI
    refine (l1In_c _ _ _ _).mono ?_
    rintro e w' ⟨rfl, m1, rfl⟩
    have O4 := Lib.hid (show OwnC (w3.drewN m1) lo hi _ _ _ x from O2.out)
    have HB4 := Lib.hid (show Below w.heap.size w (w3.drewN m1) from Below.dr HB2.out m1)
    have C4 := Lib.hid (show Bx (w3.drewN m1) g _ _ _ from C2.out)
    have B4 := Lib.hid (show Bx (w3.drewN m1) (g + 1) _ _ _ from B2.out)
    have H4 := Lib.hid (show Bx (w3.drewN m1) hi _ _ _ from H2.out)
    have hs4 := Lib.hid (show hi < (w3.drewN m1).heap.size from hs3.out)
    replace r1 : ∀ i, i < n + 1 → (w3.drewN m1).cell? ⟨p1, i, none⟩ = _ := r1
    replace r2 : ∀ i, i < n + 1 → (w3.drewN m1).cell? ⟨p2, i, none⟩ = _ := r2
    replace r3 : ∀ i, i < n + 1 → (w3.drewN m1).cell? ⟨p3, i, none⟩ = _ := r3
    replace z1 : ∀ i, (w3.drewN m1).frozen? ⟨p1, i, none⟩ = false := z1
    replace z2 : ∀ i, (w3.drewN m1).frozen? ⟨p2, i, none⟩ = false := z2
    replace z3 : ∀ i, (w3.drewN m1).frozen? ⟨p3, i, none⟩ = false := z3
    clear O2 HB2 C2 B2 H2 hs3
    generalize w3.drewN m1 = w4 at *
    obtain ⟨⟨i0, i1, i2⟩, -⟩ := H4.out
    clear r1 r2 r3 z1 z2 z3
    obtain ⟨⟨c0, c1, c2⟩, hf⟩ := B4.out
    have f0 := hf 0
    have f1 := hf 1
    have f2 := hf 2
    clear hf
    have N := Lib.hid (newC_end (w0 := w) (r := g + 1) (w := w4) O4.out HB4.out (by have := HG.out; omega) (by omega) (fun v => .tuple #[v, .bool false]))
    clear O4 HB4 C4 B4 H4
    go_wp2_with fail
    exact bodyPost_ret (v := .tuple #[.agg #[.slice (some ⟨p1, 0, none⟩) (n + 1) d1, .slice (some ⟨p2, 0, none⟩) (n + 1) d2, .slice (some ⟨p3, 0, none⟩) (n + 1) d3], .bool false]) (by simp [results, Try.results63, go_sem, c0, c1, c2]) rfl (by rw [E.out.1, E.out.2]; exact N.out)
  rcases hk with rfl | rfl | rfl
  · have hput := Lib.hid (cput0 x j b)
    go_enter Try.func63, Try.ntmps63
    go_wp2_with fail
    refine (HV.out _ (Cal.below X0.out HB0.out)).mono ?_
    rintro e w1 ⟨rfl, hb⟩
    have HB1 := Lib.hid (below_next HB0.out hb)
    have C1 := Lib.hid (Bx.below C0.out hb)
    have B1 := Lib.hid (Bx.below B0.out hb)
    have hs1 := hb.size
    have hsz1 : g + 1 < w1.heap.size := by omega
    clear hb HB0 C0 B0 HV hsz hs1
    obtain ⟨⟨c0, c1, c2⟩, -⟩ := C1.out
    try rw [HG.out]
    go_wp2_with fail
    clear c0 c1 c2
    refine (HK.out _ (Cal.below X0.out HB1.out)).mono ?_
    rintro e w2 ⟨v1, v2, v3, rfl, hO, hb⟩
    have HB2 := Lib.hid (Below.al (below_next HB1.out hb) (.cells #[v1, v2, v3] 25))
    have C2 := Lib.hid (Bx.al (Bx.below C1.out hb) (.cells #[v1, v2, v3] 25))
    have B2 := Lib.hid (Bx.al (Bx.below B1.out hb) (.cells #[v1, v2, v3] 25))
    obtain ⟨hi, hhi⟩ : ∃ hi, w2.heap.size = hi := ⟨_, rfl⟩
    obtain ⟨lo, hlo⟩ : ∃ lo, w1.heap.size = lo := ⟨_, rfl⟩
    rw [hhi, hlo] at hO
    have H2 := Lib.hid (show Bx (w2.alloc (.cells #[v1, v2, v3] 25)) hi v1 v2 v3 from by rw [← hhi]; exact Bx.new _ _ _ _ _)
    have O2 := Lib.hid (OwnC.below hO ((Below.refl _ _).alloc (Nat.le_refl _) (.cells #[v1, v2, v3] 25)))
    have hs2 := hb.size
    rw [hhi, hlo] at hs2
    rw [hlo] at hsz1
    have HHI := Lib.hid hhi
    obtain ⟨⟨ob1, ob2, ob3⟩, _⟩ := O2.out
    obtain ⟨p1, d1, rfl, p1a, p1b, r1, z1⟩ := OwnB.some ob1 (by rw [L1.out]; omega)
    obtain ⟨p2, d2, rfl, p2a, p2b, r2, z2⟩ := OwnB.some ob2 (by rw [L2.out]; omega)
    obtain ⟨p3, d3, rfl, p3a, p3b, r3, z3⟩ := OwnB.some ob3 (by rw [L3.out]; omega)
    have up : p1 < hi ∧ p2 < hi ∧ p3 < hi := ⟨O2.out.2.2.2.2 p1 (.inl rfl), O2.out.2.2.2.2 p2 (.inr (.inl rfl)), O2.out.2.2.2.2 p3 (.inr (.inr rfl))⟩
    simp only [L1.out, L2.out, L3.out] at r1 r2 r3 z1 z2 z3 H2 O2 HB2 C2 B2
    rw [L1.out, L2.out, L3.out]
    clear ob1 ob2 ob3 hO hb hhi hlo HB1 C1 B1 p1b p2b p3b
    obtain ⟨u1, u2, u3⟩ := up
    obtain ⟨⟨c0, c1, c2⟩, -⟩ := C2.out
    go_wp2_with fail
    rw [HHI.out]
    clear c0 c1 c2
    have hs3 := Lib.hid (show hi < (w2.alloc (.cells #[.slice (some ⟨p1, 0, none⟩) (n + 1) d1, .slice (some ⟨p2, 0, none⟩) (n + 1) d2, .slice (some ⟨p3, 0, none⟩) (n + 1) d3] 25)).heap.size from by rw [World.size_alloc, HHI.out]; omega)
    generalize w2.alloc (.cells #[.slice (some ⟨p1, 0, none⟩) (n + 1) d1, .slice (some ⟨p2, 0, none⟩) (n + 1) d2, .slice (some ⟨p3, 0, none⟩) (n + 1) d3] 25) = w3 at *
    clear HHI
    refine (l1In_c _ _ _ _).mono ?_
    rintro e w' ⟨rfl, m1, rfl⟩
    have O4 := Lib.hid (show OwnC (w3.drewN m1) lo hi _ _ _ x from O2.out)
    have HB4 := Lib.hid (show Below w.heap.size w (w3.drewN m1) from Below.dr HB2.out m1)
    have C4 := Lib.hid (show Bx (w3.drewN m1) g _ _ _ from C2.out)
    have B4 := Lib.hid (show Bx (w3.drewN m1) (g + 1) _ _ _ from B2.out)
    have H4 := Lib.hid (show Bx (w3.drewN m1) hi _ _ _ from H2.out)
    have hs4 := Lib.hid (show hi < (w3.drewN m1).heap.size from hs3.out)
    replace r1 : ∀ i, i < n + 1 → (w3.drewN m1).cell? ⟨p1, i, none⟩ = _ := r1
    replace r2 : ∀ i, i < n + 1 → (w3.drewN m1).cell? ⟨p2, i, none⟩ = _ := r2
    replace r3 : ∀ i, i < n + 1 → (w3.drewN m1).cell? ⟨p3, i, none⟩ = _ := r3
    replace z1 : ∀ i, (w3.drewN m1).frozen? ⟨p1, i, none⟩ = false := z1
    replace z2 : ∀ i, (w3.drewN m1).frozen? ⟨p2, i, none⟩ = false := z2
    replace z3 : ∀ i, (w3.drewN m1).frozen? ⟨p3, i, none⟩ = false := z3
    clear O2 HB2 C2 B2 H2 hs3
    generalize w3.drewN m1 = w4 at *
    obtain ⟨⟨i0, i1, i2⟩, -⟩ := H4.out
    have cc := r1 j hjn
    have zc := z1 j
    clear r1 r2 r3 z1 z2 z3
    have O3 := Lib.hid (show OwnC (w4.setCell ⟨p1, j, none⟩ (.bool b)) lo hi (.slice (some ⟨p1, 0, none⟩) (n + 1) d1) (.slice (some ⟨p2, 0, none⟩) (n + 1) d2) (.slice (some ⟨p3, 0, none⟩) (n + 1) d3) (cput x 0 j b) from by
      have h9 := O4.out
      rw [show n + 1 = x.u.length from L1.out.symm] at h9
      have h8 := OwnC.set1 (i := j) b h9
      rw [L1.out] at h8
      rw [hput.out]
      exact h8)
    have S3 := Lib.hid (Out.set (w := w4) (q := p1) (i := j) (lo := lo) (hi := hi) (.bool b) p1a u1)
    have HB3 := Lib.hid (Out.below HB4.out S3.out (by have := HG.out; omega))
    have C3 := Lib.hid (Bx.out C4.out S3.out (.inl (by omega)))
    have B3 := Lib.hid (Bx.out B4.out S3.out (.inl (by omega)))
    have H3 := Lib.hid (Bx.out H4.out S3.out (.inr (Nat.le_refl _)))
    clear O4 HB4 C4 B4 H4 S3 hput
    obtain ⟨a1', e1', a2', e2', a3', e3', x1, x2, x3, CX⟩ := O3.out.open
    simp only [Value.slice.injEq] at x1 x2 x3
    obtain ⟨rfl, y1, rfl⟩ := x1
    obtain ⟨rfl, y2, rfl⟩ := x2
    obtain ⟨rfl, y3, rfl⟩ := x3
    rw [← y1, ← y2, ← y3] at CX
    clear y1 y2 y3
    have CXH := Lib.hid CX
    clear CX
    obtain ⟨⟨s0, s1, s2⟩, -⟩ := H3.out
    go_wp2_with fail
    clear i0 i1 i2 cc zc s0 s1 s2
    generalize w4.setCell ⟨p1, j, none⟩ (.bool b) = w5 at *
    by_cases hv2 : CV (cput x 0 j b)
    · have V2 := sCallsValid_c (some ⟨p1, 0, none⟩) (n + 1) d1 (some ⟨p2, 0, none⟩) (n + 1) d2 (some ⟨p3, 0, none⟩) (n + 1) d3 (cput x 0 j b) w5 CXH.out
      rw [cvB_t hv2] at V2
      have E := Lib.hid (show cst x 0 j b = cput x 0 j b ∧ cstB x 0 j b = true from by
        have hs : SV x 0 j b := ⟨HCV.out, ⟨by omega, by have := L3.out; omega⟩, hv2⟩
        exact ⟨cst_t hs, cstB_t hs⟩)
      clear hv2
      refine V2.mono ?_
      rintro e w6 ⟨rfl, hb⟩
      clear V2
      have B6 := Bx.below B3.out hb
      have H6 := Bx.below H3.out hb
      obtain ⟨⟨c0, c1, c2⟩, hf⟩ := B6
      obtain ⟨⟨i0, i1, i2⟩, -⟩ := H6
      have f0 := hf 0
      have f1 := hf 1
      have f2 := hf 2
      have N := Lib.hid (newC_end (w0 := w) (r := g + 1) (OwnC.below O3.out hb) (below_next HB3.out hb) (by have := HG.out; omega) (by omega) (fun v => .tuple #[v, .bool true]))
      clear hf hb O3 HB3 C3 B3 H3 CXH
      go_wp2_with fail
      exact bodyPost_ret (v := .tuple #[.agg #[.slice (some ⟨p1, 0, none⟩) (n + 1) d1, .slice (some ⟨p2, 0, none⟩) (n + 1) d2, .slice (some ⟨p3, 0, none⟩) (n + 1) d3], .bool true]) (by simp [results, Try.results63, go_sem, c0, c1, c2]) rfl (by rw [E.out.1, E.out.2]; exact N.out)
    · have V2 := sCallsValid_c (some ⟨p1, 0, none⟩) (n + 1) d1 (some ⟨p2, 0, none⟩) (n + 1) d2 (some ⟨p3, 0, none⟩) (n + 1) d3 (cput x 0 j b) w5 CXH.out
      rw [cvB_f hv2] at V2
      have E := Lib.hid (show cst x 0 j b = x ∧ cstB x 0 j b = false from by
        have hs : ¬ SV x 0 j b := fun h => hv2 h.2.2
        exact ⟨cst_f HCV.out hs, cstB_f hs⟩)
      clear hv2
      refine V2.mono ?_
      rintro e w6 ⟨rfl, hb⟩
      clear V2
      have B6 := Lib.hid (Bx.below B3.out hb)
      have HB6 := Lib.hid (below_next HB3.out hb)
      have hz6 : hi < w6.heap.size := by have := (Bx.below H3.out hb).lt; exact this
      obtain ⟨⟨i0, i1, i2⟩, -⟩ := Bx.below C3.out hb
      clear hb O3 HB3 C3 B3 H3 CXH
      go_wp2_with fail
      clear i0 i1 i2
      refine (HK.out _ (Cal.below X0.out HB6.out)).mono ?_
      rintro e w7 ⟨v1, v2, v3, rfl, hO, hb⟩
      obtain ⟨b1, t1', b2, t2', b3, t3', rfl, rfl, rfl, -⟩ := hO.open
      rw [L1.out, L2.out, L3.out] at hO ⊢
      obtain ⟨⟨c0, c1, c2⟩, hf⟩ := Bx.below B6.out hb
      have f0 := hf 0
      have f1 := hf 1
      have f2 := hf 2
      have N := Lib.hid (newC_end (w0 := w) (r := g + 1) hO (below_next HB6.out hb) (by have := HG.out; omega) (by omega) (fun v => .tuple #[v, .bool false]))
      clear hf hb hO B6 HB6
      go_wp2_with fail
      exact bodyPost_ret (v := .tuple #[.agg #[.slice b1 (n + 1) t1', .slice b2 (n + 1) t2', .slice b3 (n + 1) t3'], .bool false]) (by simp [results, Try.results63, go_sem, c0, c1, c2]) rfl (by rw [E.out.1, E.out.2]; exact N.out)
  · have hput := Lib.hid (cput1 x j b)
    go_enter Try.func63, Try.ntmps63
    go_wp2_with fail
    refine (HV.out _ (Cal.below X0.out HB0.out)).mono ?_
    rintro e w1 ⟨rfl, hb⟩
    have HB1 := Lib.hid (below_next HB0.out hb)
    have C1 := Lib.hid (Bx.below C0.out hb)
    have B1 := Lib.hid (Bx.below B0.out hb)
    have hs1 := hb.size
    have hsz1 : g + 1 < w1.heap.size := by omega
    clear hb HB0 C0 B0 HV hsz hs1
    obtain ⟨⟨c0, c1, c2⟩, -⟩ := C1.out
    try rw [HG.out]
    go_wp2_with fail
    clear c0 c1 c2
    refine (HK.out _ (Cal.below X0.out HB1.out)).mono ?_
    rintro e w2 ⟨v1, v2, v3, rfl, hO, hb⟩
    have HB2 := Lib.hid (Below.al (below_next HB1.out hb) (.cells #[v1, v2, v3] 25))
    have C2 := Lib.hid (Bx.al (Bx.below C1.out hb) (.cells #[v1, v2, v3] 25))
    have B2 := Lib.hid (Bx.al (Bx.below B1.out hb) (.cells #[v1, v2, v3] 25))
    obtain ⟨hi, hhi⟩ : ∃ hi, w2.heap.size = hi := ⟨_, rfl⟩
    obtain ⟨lo, hlo⟩ : ∃ lo, w1.heap.size = lo := ⟨_, rfl⟩
    rw [hhi, hlo] at hO
    have H2 := Lib.hid (show Bx (w2.alloc (.cells #[v1, v2, v3] 25)) hi v1 v2 v3 from by rw [← hhi]; exact Bx.new _ _ _ _ _)
    have O2 := Lib.hid (OwnC.below hO ((Below.refl _ _).alloc (Nat.le_refl _) (.cells #[v1, v2, v3] 25)))
    have hs2 := hb.size
    rw [hhi, hlo] at hs2
    rw [hlo] at hsz1
    have HHI := Lib.hid hhi
    obtain ⟨⟨ob1, ob2, ob3⟩, _⟩ := O2.out
    obtain ⟨p1, d1, rfl, p1a, p1b, r1, z1⟩ := OwnB.some ob1 (by rw [L1.out]; omega)
    obtain ⟨p2, d2, rfl, p2a, p2b, r2, z2⟩ := OwnB.some ob2 (by rw [L2.out]; omega)
    obtain ⟨p3, d3, rfl, p3a, p3b, r3, z3⟩ := OwnB.some ob3 (by rw [L3.out]; omega)
    have up : p1 < hi ∧ p2 < hi ∧ p3 < hi := ⟨O2.out.2.2.2.2 p1 (.inl rfl), O2.out.2.2.2.2 p2 (.inr (.inl rfl)), O2.out.2.2.2.2 p3 (.inr (.inr rfl))⟩
    simp only [L1.out, L2.out, L3.out] at r1 r2 r3 z1 z2 z3 H2 O2 HB2 C2 B2
    rw [L1.out, L2.out, L3.out]
    clear ob1 ob2 ob3 hO hb hhi hlo HB1 C1 B1 p1b p2b p3b
    obtain ⟨u1, u2, u3⟩ := up
    obtain ⟨⟨c0, c1, c2⟩, -⟩ := C2.out
    go_wp2_with fail
    rw [HHI.out]
    clear c0 c1 c2
    have hs3 := Lib.hid (show hi < (w2.alloc (.cells #[.slice (some ⟨p1, 0, none⟩) (n + 1) d1, .slice (some ⟨p2, 0, none⟩) (n + 1) d2, .slice (some ⟨p3, 0, none⟩) (n + 1) d3] 25)).heap.size from by rw [World.size_alloc, HHI.out]; omega)
    generalize w2.alloc (.cells #[.slice (some ⟨p1, 0, none⟩) (n + 1) d1, .slice (some ⟨p2, 0, none⟩) (n + 1) d2, .slice (some ⟨p3, 0, none⟩) (n + 1) d3] 25) = w3 at *
    clear HHI
    refine (l1In_c _ _ _ _).mono ?_
    rintro e w' ⟨rfl, m1, rfl⟩
    have O4 := Lib.hid (show OwnC (w3.drewN m1) lo hi _ _ _ x from O2.out)
    have HB4 := Lib.hid (show Below w.heap.size w (w3.drewN m1) from Below.dr HB2.out m1)
    have C4 := Lib.hid (show Bx (w3.drewN m1) g _ _ _ from C2.out)
    have B4 := Lib.hid (show Bx (w3.drewN m1) (g + 1) _ _ _ from B2.out)
    have H4 := Lib.hid (show Bx (w3.drewN m1) hi _ _ _ from H2.out)
    have hs4 := Lib.hid (show hi < (w3.drewN m1).heap.size from hs3.out)
    replace r1 : ∀ i, i < n + 1 → (w3.drewN m1).cell? ⟨p1, i, none⟩ = _ := r1
    replace r2 : ∀ i, i < n + 1 → (w3.drewN m1).cell? ⟨p2, i, none⟩ = _ := r2
    replace r3 : ∀ i, i < n + 1 → (w3.drewN m1).cell? ⟨p3, i, none⟩ = _ := r3
    replace z1 : ∀ i, (w3.drewN m1).frozen? ⟨p1, i, none⟩ = false := z1
    replace z2 : ∀ i, (w3.drewN m1).frozen? ⟨p2, i, none⟩ = false := z2
    replace z3 : ∀ i, (w3.drewN m1).frozen? ⟨p3, i, none⟩ = false := z3
    clear O2 HB2 C2 B2 H2 hs3
    generalize w3.drewN m1 = w4 at *
    obtain ⟨⟨i0, i1, i2⟩, -⟩ := H4.out
    have cc := r2 j hjn
    have zc := z2 j
    clear r1 r2 r3 z1 z2 z3
    have O3 := Lib.hid (show OwnC (w4.setCell ⟨p2, j, none⟩ (.bool b)) lo hi (.slice (some ⟨p1, 0, none⟩) (n + 1) d1) (.slice (some ⟨p2, 0, none⟩) (n + 1) d2) (.slice (some ⟨p3, 0, none⟩) (n + 1) d3) (cput x 1 j b) from by
      have h9 := O4.out
      rw [show n + 1 = x.d.length from L2.out.symm] at h9
      have h8 := OwnC.set2 (i := j) b h9
      rw [L2.out] at h8
      rw [hput.out]
      exact h8)
    have S3 := Lib.hid (Out.set (w := w4) (q := p2) (i := j) (lo := lo) (hi := hi) (.bool b) p2a u2)
    have HB3 := Lib.hid (Out.below HB4.out S3.out (by have := HG.out; omega))
    have C3 := Lib.hid (Bx.out C4.out S3.out (.inl (by omega)))
    have B3 := Lib.hid (Bx.out B4.out S3.out (.inl (by omega)))
    have H3 := Lib.hid (Bx.out H4.out S3.out (.inr (Nat.le_refl _)))
    clear O4 HB4 C4 B4 H4 S3 hput
    obtain ⟨a1', e1', a2', e2', a3', e3', x1, x2, x3, CX⟩ := O3.out.open
    simp only [Value.slice.injEq] at x1 x2 x3
    obtain ⟨rfl, y1, rfl⟩ := x1
    obtain ⟨rfl, y2, rfl⟩ := x2
    obtain ⟨rfl, y3, rfl⟩ := x3
    rw [← y1, ← y2, ← y3] at CX
    clear y1 y2 y3
    have CXH := Lib.hid CX
    clear CX
    obtain ⟨⟨s0, s1, s2⟩, -⟩ := H3.out
    go_wp2_with fail
    clear i0 i1 i2 cc zc s0 s1 s2
    generalize w4.setCell ⟨p2, j, none⟩ (.bool b) = w5 at *
    by_cases hv2 : CV (cput x 1 j b)
    · have V2 := sCallsValid_c (some ⟨p1, 0, none⟩) (n + 1) d1 (some ⟨p2, 0, none⟩) (n + 1) d2 (some ⟨p3, 0, none⟩) (n + 1) d3 (cput x 1 j b) w5 CXH.out
      rw [cvB_t hv2] at V2
      have E := Lib.hid (show cst x 1 j b = cput x 1 j b ∧ cstB x 1 j b = true from by
        have hs : SV x 1 j b := ⟨HCV.out, ⟨by omega, by have := L3.out; omega⟩, hv2⟩
        exact ⟨cst_t hs, cstB_t hs⟩)
      clear hv2
      refine V2.mono ?_
      rintro e w6 ⟨rfl, hb⟩
      clear V2
      have B6 := Bx.below B3.out hb
      have H6 := Bx.below H3.out hb
      obtain ⟨⟨c0, c1, c2⟩, hf⟩ := B6
      obtain ⟨⟨i0, i1, i2⟩, -⟩ := H6
      have f0 := hf 0
      have f1 := hf 1
      have f2 := hf 2
      have N := Lib.hid (newC_end (w0 := w) (r := g + 1) (OwnC.below O3.out hb) (below_next HB3.out hb) (by have := HG.out; omega) (by omega) (fun v => .tuple #[v, .bool true]))
      clear hf hb O3 HB3 C3 B3 H3 CXH
      go_wp2_with fail
      exact bodyPost_ret (v := .tuple #[.agg #[.slice (some ⟨p1, 0, none⟩) (n + 1) d1, .slice (some ⟨p2, 0, none⟩) (n + 1) d2, .slice (some ⟨p3, 0, none⟩) (n + 1) d3], .bool true]) (by simp [results, Try.results63, go_sem, c0, c1, c2]) rfl (by rw [E.out.1, E.out.2]; exact N.out)
    · have V2 := sCallsValid_c (some ⟨p1, 0, none⟩) (n + 1) d1 (some ⟨p2, 0, none⟩) (n + 1) d2 (some ⟨p3, 0, none⟩) (n + 1) d3 (cput x 1 j b) w5 CXH.out
      rw [cvB_f hv2] at V2
      have E := Lib.hid (show cst x 1 j b = x ∧ cstB x 1 j b = false from by
        have hs : ¬ SV x 1 j b := fun h => hv2 h.2.2
        exact ⟨cst_f HCV.out hs, cstB_f hs⟩)
      clear hv2
      refine V2.mono ?_
      rintro e w6 ⟨rfl, hb⟩
      clear V2
      have B6 := Lib.hid (Bx.below B3.out hb)
      have HB6 := Lib.hid (below_next HB3.out hb)
      have hz6 : hi < w6.heap.size := by have := (Bx.below H3.out hb).lt; exact this
      obtain ⟨⟨i0, i1, i2⟩, -⟩ := Bx.below C3.out hb
      clear hb O3 HB3 C3 B3 H3 CXH
      go_wp2_with fail
      clear i0 i1 i2
      refine (HK.out _ (Cal.below X0.out HB6.out)).mono ?_
      rintro e w7 ⟨v1, v2, v3, rfl, hO, hb⟩
      obtain ⟨b1, t1', b2, t2', b3, t3', rfl, rfl, rfl, -⟩ := hO.open
      rw [L1.out, L2.out, L3.out] at hO ⊢
      obtain ⟨⟨c0, c1, c2⟩, hf⟩ := Bx.below B6.out hb
      have f0 := hf 0
      have f1 := hf 1
      have f2 := hf 2
      have N := Lib.hid (newC_end (w0 := w) (r := g + 1) hO (below_next HB6.out hb) (by have := HG.out; omega) (by omega) (fun v => .tuple #[v, .bool false]))
      clear hf hb hO B6 HB6
      go_wp2_with fail
      exact bodyPost_ret (v := .tuple #[.agg #[.slice b1 (n + 1) t1', .slice b2 (n + 1) t2', .slice b3 (n + 1) t3'], .bool false]) (by simp [results, Try.results63, go_sem, c0, c1, c2]) rfl (by rw [E.out.1, E.out.2]; exact N.out)
  · have hput := Lib.hid (cput2 x j b)
    go_enter Try.func63, Try.ntmps63
    go_wp2_with fail
    refine (HV.out _ (Cal.below X0.out HB0.out)).mono ?_
    rintro e w1 ⟨rfl, hb⟩
    have HB1 := Lib.hid (below_next HB0.out hb)
    have C1 := Lib.hid (Bx.below C0.out hb)
    have B1 := Lib.hid (Bx.below B0.out hb)
    have hs1 := hb.size
    have hsz1 : g + 1 < w1.heap.size := by omega
    clear hb HB0 C0 B0 HV hsz hs1
    obtain ⟨⟨c0, c1, c2⟩, -⟩ := C1.out
    try rw [HG.out]
    go_wp2_with fail
    clear c0 c1 c2
    refine (HK.out _ (Cal.below X0.out HB1.out)).mono ?_
    rintro e w2 ⟨v1, v2, v3, rfl, hO, hb⟩
    have HB2 := Lib.hid (Below.al (below_next HB1.out hb) (.cells #[v1, v2, v3] 25))
    have C2 := Lib.hid (Bx.al (Bx.below C1.out hb) (.cells #[v1, v2, v3] 25))
    have B2 := Lib.hid (Bx.al (Bx.below B1.out hb) (.cells #[v1, v2, v3] 25))
    obtain ⟨hi, hhi⟩ : ∃ hi, w2.heap.size = hi := ⟨_, rfl⟩
    obtain ⟨lo, hlo⟩ : ∃ lo, w1.heap.size = lo := ⟨_, rfl⟩
    rw [hhi, hlo] at hO
    have H2 := Lib.hid (show Bx (w2.alloc (.cells #[v1, v2, v3] 25)) hi v1 v2 v3 from by rw [← hhi]; exact Bx.new _ _ _ _ _)
    have O2 := Lib.hid (OwnC.below hO ((Below.refl _ _).alloc (Nat.le_refl _) (.cells #[v1, v2, v3] 25)))
    have hs2 := hb.size
    rw [hhi, hlo] at hs2
    rw [hlo] at hsz1
    have HHI := Lib.hid hhi
    obtain ⟨⟨ob1, ob2, ob3⟩, _⟩ := O2.out
    obtain ⟨p1, d1, rfl, p1a, p1b, r1, z1⟩ := OwnB.some ob1 (by rw [L1.out]; omega)
    obtain ⟨p2, d2, rfl, p2a, p2b, r2, z2⟩ := OwnB.some ob2 (by rw [L2.out]; omega)
    obtain ⟨p3, d3, rfl, p3a, p3b, r3, z3⟩ := OwnB.some ob3 (by rw [L3.out]; omega)
    have up : p1 < hi ∧ p2 < hi ∧ p3 < hi := ⟨O2.out.2.2.2.2 p1 (.inl rfl), O2.out.2.2.2.2 p2 (.inr (.inl rfl)), O2.out.2.2.2.2 p3 (.inr (.inr rfl))⟩
    simp only [L1.out, L2.out, L3.out] at r1 r2 r3 z1 z2 z3 H2 O2 HB2 C2 B2
    rw [L1.out, L2.out, L3.out]
    clear ob1 ob2 ob3 hO hb hhi hlo HB1 C1 B1 p1b p2b p3b
    obtain ⟨u1, u2, u3⟩ := up
    obtain ⟨⟨c0, c1, c2⟩, -⟩ := C2.out
    go_wp2_with fail
    rw [HHI.out]
    clear c0 c1 c2
    have hs3 := Lib.hid (show hi < (w2.alloc (.cells #[.slice (some ⟨p1, 0, none⟩) (n + 1) d1, .slice (some ⟨p2, 0, none⟩) (n + 1) d2, .slice (some ⟨p3, 0, none⟩) (n + 1) d3] 25)).heap.size from by rw [World.size_alloc, HHI.out]; omega)
    generalize w2.alloc (.cells #[.slice (some ⟨p1, 0, none⟩) (n + 1) d1, .slice (some ⟨p2, 0, none⟩) (n + 1) d2, .slice (some ⟨p3, 0, none⟩) (n + 1) d3] 25) = w3 at *
    clear HHI
    refine (l1In_c _ _ _ _).mono ?_
    rintro e w' ⟨rfl, m1, rfl⟩
    have O4 := Lib.hid (show OwnC (w3.drewN m1) lo hi _ _ _ x from O2.out)
    have HB4 := Lib.hid (show Below w.heap.size w (w3.drewN m1) from Below.dr HB2.out m1)
    have C4 := Lib.hid (show Bx (w3.drewN m1) g _ _ _ from C2.out)
    have B4 := Lib.hid (show Bx (w3.drewN m1) (g + 1) _ _ _ from B2.out)
    have H4 := Lib.hid (show Bx (w3.drewN m1) hi _ _ _ from H2.out)
    have hs4 := Lib.hid (show hi < (w3.drewN m1).heap.size from hs3.out)
    replace r1 : ∀ i, i < n + 1 → (w3.drewN m1).cell? ⟨p1, i, none⟩ = _ := r1
    replace r2 : ∀ i, i < n + 1 → (w3.drewN m1).cell? ⟨p2, i, none⟩ = _ := r2
    replace r3 : ∀ i, i < n + 1 → (w3.drewN m1).cell? ⟨p3, i, none⟩ = _ := r3
    replace z1 : ∀ i, (w3.drewN m1).frozen? ⟨p1, i, none⟩ = false := z1
    replace z2 : ∀ i, (w3.drewN m1).frozen? ⟨p2, i, none⟩ = false := z2
    replace z3 : ∀ i, (w3.drewN m1).frozen? ⟨p3, i, none⟩ = false := z3
    clear O2 HB2 C2 B2 H2 hs3
    generalize w3.drewN m1 = w4 at *
    obtain ⟨⟨i0, i1, i2⟩, -⟩ := H4.out
    have cc := r3 j hjn
    have zc := z3 j
    clear r1 r2 r3 z1 z2 z3
    have O3 := Lib.hid (show OwnC (w4.setCell ⟨p3, j, none⟩ (.bool b)) lo hi (.slice (some ⟨p1, 0, none⟩) (n + 1) d1) (.slice (some ⟨p2, 0, none⟩) (n + 1) d2) (.slice (some ⟨p3, 0, none⟩) (n + 1) d3) (cput x 2 j b) from by
      have h9 := O4.out
      rw [show n + 1 = x.c.length from L3.out.symm] at h9
      have h8 := OwnC.set3 (i := j) b h9
      rw [L3.out] at h8
      rw [hput.out]
      exact h8)
    have S3 := Lib.hid (Out.set (w := w4) (q := p3) (i := j) (lo := lo) (hi := hi) (.bool b) p3a u3)
    have HB3 := Lib.hid (Out.below HB4.out S3.out (by have := HG.out; omega))
    have C3 := Lib.hid (Bx.out C4.out S3.out (.inl (by omega)))
    have B3 := Lib.hid (Bx.out B4.out S3.out (.inl (by omega)))
    have H3 := Lib.hid (Bx.out H4.out S3.out (.inr (Nat.le_refl _)))
    clear O4 HB4 C4 B4 H4 S3 hput
    obtain ⟨a1', e1', a2', e2', a3', e3', x1, x2, x3, CX⟩ := O3.out.open
    simp only [Value.slice.injEq] at x1 x2 x3
    obtain ⟨rfl, y1, rfl⟩ := x1
    obtain ⟨rfl, y2, rfl⟩ := x2
    obtain ⟨rfl, y3, rfl⟩ := x3
    rw [← y1, ← y2, ← y3] at CX
    clear y1 y2 y3
    have CXH := Lib.hid CX
    clear CX
    obtain ⟨⟨s0, s1, s2⟩, -⟩ := H3.out
    go_wp2_with fail
    clear i0 i1 i2 cc zc s0 s1 s2
    generalize w4.setCell ⟨p3, j, none⟩ (.bool b) = w5 at *
    by_cases hv2 : CV (cput x 2 j b)
    · have V2 := sCallsValid_c (some ⟨p1, 0, none⟩) (n + 1) d1 (some ⟨p2, 0, none⟩) (n + 1) d2 (some ⟨p3, 0, none⟩) (n + 1) d3 (cput x 2 j b) w5 CXH.out
      rw [cvB_t hv2] at V2
      have E := Lib.hid (show cst x 2 j b = cput x 2 j b ∧ cstB x 2 j b = true from by
        have hs : SV x 2 j b := ⟨HCV.out, ⟨by omega, by have := L3.out; omega⟩, hv2⟩
        exact ⟨cst_t hs, cstB_t hs⟩)
      clear hv2
      refine V2.mono ?_
      rintro e w6 ⟨rfl, hb⟩
      clear V2
      have B6 := Bx.below B3.out hb
      have H6 := Bx.below H3.out hb
      obtain ⟨⟨c0, c1, c2⟩, hf⟩ := B6
      obtain ⟨⟨i0, i1, i2⟩, -⟩ := H6
      have f0 := hf 0
      have f1 := hf 1
      have f2 := hf 2
      have N := Lib.hid (newC_end (w0 := w) (r := g + 1) (OwnC.below O3.out hb) (below_next HB3.out hb) (by have := HG.out; omega) (by omega) (fun v => .tuple #[v, .bool true]))
      clear hf hb O3 HB3 C3 B3 H3 CXH
      go_wp2_with fail
      exact bodyPost_ret (v := .tuple #[.agg #[.slice (some ⟨p1, 0, none⟩) (n + 1) d1, .slice (some ⟨p2, 0, none⟩) (n + 1) d2, .slice (some ⟨p3, 0, none⟩) (n + 1) d3], .bool true]) (by simp [results, Try.results63, go_sem, c0, c1, c2]) rfl (by rw [E.out.1, E.out.2]; exact N.out)
    · have V2 := sCallsValid_c (some ⟨p1, 0, none⟩) (n + 1) d1 (some ⟨p2, 0, none⟩) (n + 1) d2 (some ⟨p3, 0, none⟩) (n + 1) d3 (cput x 2 j b) w5 CXH.out
      rw [cvB_f hv2] at V2
      have E := Lib.hid (show cst x 2 j b = x ∧ cstB x 2 j b = false from by
        have hs : ¬ SV x 2 j b := fun h => hv2 h.2.2
        exact ⟨cst_f HCV.out hs, cstB_f hs⟩)
      clear hv2
      refine V2.mono ?_
      rintro e w6 ⟨rfl, hb⟩
      clear V2
      have B6 := Lib.hid (Bx.below B3.out hb)
      have HB6 := Lib.hid (below_next HB3.out hb)
      have hz6 : hi < w6.heap.size := by have := (Bx.below H3.out hb).lt; exact this
      obtain ⟨⟨i0, i1, i2⟩, -⟩ := Bx.below C3.out hb
      clear hb O3 HB3 C3 B3 H3 CXH
      go_wp2_with fail
      clear i0 i1 i2
      refine (HK.out _ (Cal.below X0.out HB6.out)).mono ?_
      rintro e w7 ⟨v1, v2, v3, rfl, hO, hb⟩
      obtain ⟨b1, t1', b2, t2', b3, t3', rfl, rfl, rfl, -⟩ := hO.open
      rw [L1.out, L2.out, L3.out] at hO ⊢
      obtain ⟨⟨c0, c1, c2⟩, hf⟩ := Bx.below B6.out hb
      have f0 := hf 0
      have f1 := hf 1
      have f2 := hf 2
      have N := Lib.hid (newC_end (w0 := w) (r := g + 1) hO (below_next HB6.out hb) (by have := HG.out; omega) (by omega) (fun v => .tuple #[v, .bool false]))
      clear hf hb hO B6 HB6
      go_wp2_with fail
      exact bodyPost_ret (v := .tuple #[.agg #[.slice b1 (n + 1) t1', .slice b2 (n + 1) t2', .slice b3 (n + 1) t3'], .bool false]) (by simp [results, Try.results63, go_sem, c0, c1, c2]) rfl (by rw [E.out.1, E.out.2]; exact N.out)
end Go.Proofs.Ytkpginkkfobblaa
