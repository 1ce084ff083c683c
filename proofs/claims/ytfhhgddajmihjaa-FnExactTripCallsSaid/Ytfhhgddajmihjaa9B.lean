/- The contracts of NextStop and ServeStop of the model. -/
import Derived.Test.Ytfhhgddajmihjaa9A
import Derived.Test.YtfhhgddajmihjaaQ
namespace Go.Proofs.Ytfhhgddajmihjaa
open Go.RowKit
set_option linter.unusedVariables false
set_option linter.unusedSimpArgs false
set_option maxRecDepth 100000

theorem CV.rows {w : World} {a1 : Option Addr} {n1 : Nat} {a2 : Option Addr} {n2 : Nat} {a3 : Option Addr} {n3 : Nat} {x : Cs} (hv : CV x) (h : Cal w a1 n1 a2 n2 a3 n3 x) :
    n1 = n3 ∧ n2 = n3 ∧ n3 = x.c.length ∧ n3 ≤ 8 ∧ ∃ b1 o1 b2 o2 b3 o3, a1 = some ⟨b1, o1, none⟩ ∧ a2 = some ⟨b2, o2, none⟩ ∧ a3 = some ⟨b3, o3, none⟩ := by
  have l1 := h.1.1
  have l2 := h.2.1.1
  have l3 := h.2.2.1
  have v1 := hv.1
  have v2 := hv.2.1
  have v3 := hv.2.2.1
  have v4 := hv.2.2.2.1
  obtain ⟨b1, o1, e1⟩ := BS.some h.1 (by omega)
  obtain ⟨b2, o2, e2⟩ := BS.some h.2.1 (by omega)
  obtain ⟨b3, o3, e3⟩ := BS.some h.2.2 (by omega)
  exact ⟨by omega, by omega, by omega, by omega, b1, o1, b2, o2, b3, o3, e1, e2, e3⟩
theorem l9Ahead_c (a1 : Option Addr) (n1 k1 : Nat) (a2 : Option Addr) (n2 k2 : Nat) (a3 : Option Addr) (n3 k3 : Nat) (x : Cs) (f : Nat) (up : Bool) (D : Int) (w : World) (hX : Cal w a1 n1 a2 n2 a3 n3 x) (hv : CV x) (hf : f < x.c.length) (hD : dI up = D) : Calls Try.prog 85 #[(.agg #[.slice a1 n1 k1, .slice a2 n2 k2, .slice a3 n3 k3]), (Value.agg #[.int .i64 (f), .int .i64 (D)])] w (Mk w (.int .i64 (ah x up f))) := by
  obtain ⟨rfl, rfl, h3, h8, b1, o1, b2, o2, b3, o3, rfl, rfl, rfl⟩ := CV.rows hv hX
  subst hD
  cases up
  · exact l9Ahead_d b1 o1 k1 b2 o2 k2 b3 o3 k3 n2 x f w hX h8 (by omega) _ rfl
  · exact l9Ahead_u b1 o1 k1 b2 o2 k2 b3 o3 k3 n2 x f w hX h8 (by omega) _ (by rw [h3]; rfl)
theorem l9Last_c (a1 : Option Addr) (n1 k1 : Nat) (a2 : Option Addr) (n2 k2 : Nat) (a3 : Option Addr) (n3 k3 : Nat) (x : Cs) (f : Nat) (up : Bool) (D : Int) (w : World) (hX : Cal w a1 n1 a2 n2 a3 n3 x) (hv : CV x) (hf : f < x.c.length) (hD : dI up = D) : Calls Try.prog 86 #[(.agg #[.slice a1 n1 k1, .slice a2 n2 k2, .slice a3 n3 k3]), (Value.agg #[.int .i64 (f), .int .i64 (D)])] w (Mk w (.int .i64 (la x up f))) := by
  obtain ⟨rfl, rfl, h3, h8, b1, o1, b2, o2, b3, o3, rfl, rfl, rfl⟩ := CV.rows hv hX
  subst hD
  cases up
  · exact l9Last_d b1 o1 k1 b2 o2 k2 b3 o3 k3 n2 x f w hX h8 (by omega) _ rfl
  · exact l9Last_u b1 o1 k1 b2 o2 k2 b3 o3 k3 n2 x f w hX h8 (by omega) _ (by rw [h3]; rfl)
/-- Where NextStop is within its two turns. -/
def LP (x : Cs) (f : Nat) (up : Bool) (t : Nat) (u : Bool) : Prop := (t = 0 ∧ u = up) ∨ (t = 1 ∧ u = (!up) ∧ nx1 x f up = none) ∨ (t = 2 ∧ nx x f up = none)
theorem LP.some {x : Cs} {f : Nat} {up : Bool} {t : Nat} {u : Bool} {r : Nat × Bool} (h : LP x f up t u) (ht : t < 2) (hr : nx1 x f u = Option.some r) : nx x f up = Option.some r := by
  unfold nx
  rcases h with ⟨-, rfl⟩ | ⟨-, rfl, h⟩ | ⟨h, -⟩
  · rw [hr]
  · rw [h]; exact hr
  · omega
theorem LP.next {x : Cs} {f : Nat} {up : Bool} {t : Nat} {u : Bool} (h : LP x f up t u) (ht : t < 2) (hr : nx1 x f u = none) : LP x f up (t + 1) (!u) := by
  rcases h with ⟨rfl, rfl⟩ | ⟨rfl, rfl, h⟩ | ⟨h, -⟩
  · exact .inr (.inl ⟨rfl, rfl, hr⟩)
  · exact .inr (.inr ⟨rfl, by unfold nx; rw [h]; exact hr⟩)
  · omega
theorem LP.end {x : Cs} {f : Nat} {up : Bool} {u : Bool} (h : LP x f up 2 u) : nx x f up = none := by
  rcases h with ⟨h, -⟩ | ⟨h, -⟩ | ⟨-, h⟩
  · omega
  · omega
  · exact h
def oF : Option (Nat × Bool) → Int
  | none => -1
  | some r => r.1
def oD : Option (Nat × Bool) → Int
  | none => 0
  | some r => dI r.2
noncomputable def nsv (x : Cs) (f d : Int) : Option (Nat × Bool) := @ite _ (SK x f d) (Classical.propDecidable _) (nx x f.toNat (decide (d = 1))) none
theorem nsv_t {x : Cs} {f : Nat} {up : Bool} (h : SK x f (dI up)) : nsv x f (dI up) = nx x f up := by
  unfold nsv; rw [if_pos h]; cases up <;> rfl
theorem nsv_f {x : Cs} {f d : Int} (h : ¬ SK x f d) : nsv x f d = none := by unfold nsv; rw [if_neg h]
theorem SK.dir {x : Cs} {f d : Int} (h : SK x f d) : ∃ (k : Nat) (up : Bool), f = k ∧ k < x.c.length ∧ d = dI up := by
  obtain ⟨_, ⟨h0, h1⟩, h2⟩ := h
  refine ⟨f.toNat, decide (d = 1), by omega, by omega, ?_⟩
  rcases h2 with rfl | rfl <;> rfl
theorem dI_bd (u : Bool) : -1 ≤ dI u ∧ dI u ≤ 1 ∧ dI (!u) = -dI u := by cases u <;> simp [dI]
theorem l9Ok_t (a1 : Option Addr) (n1 k1 : Nat) (a2 : Option Addr) (n2 k2 : Nat) (a3 : Option Addr) (n3 k3 : Nat) (x : Cs) (f d : Int) (w : World) (hX : Cal w a1 n1 a2 n2 a3 n3 x) (h : SK x f d) : Calls Try.prog 84 #[(.agg #[.slice a1 n1 k1, .slice a2 n2 k2, .slice a3 n3 k3]), (Value.agg #[.int .i64 (f), .int .i64 (d)])] w (Mk w (.bool true)) := by
  have := l9Ok_c a1 n1 k1 a2 n2 k2 a3 n3 k3 x f d w hX
  rwa [skB_t h] at this
theorem l9Ok_f (a1 : Option Addr) (n1 k1 : Nat) (a2 : Option Addr) (n2 k2 : Nat) (a3 : Option Addr) (n3 k3 : Nat) (x : Cs) (f d : Int) (w : World) (hX : Cal w a1 n1 a2 n2 a3 n3 x) (h : ¬ SK x f d) : Calls Try.prog 84 #[(.agg #[.slice a1 n1 k1, .slice a2 n2 k2, .slice a3 n3 k3]), (Value.agg #[.int .i64 (f), .int .i64 (d)])] w (Mk w (.bool false)) := by
  have := l9Ok_c a1 n1 k1 a2 n2 k2 a3 n3 k3 x f d w hX
  rwa [skB_f h] at this
set_option maxHeartbeats 2000000 in
theorem sNextStop_c (a1 : Option Addr) (n1 k1 : Nat) (a2 : Option Addr) (n2 k2 : Nat) (a3 : Option Addr) (n3 k3 : Nat) (x : Cs) (f d : Int) (w : World) (hX : Cal w a1 n1 a2 n2 a3 n3 x) : Calls Try.prog 64 #[(.agg #[.slice a1 n1 k1, .slice a2 n2 k2, .slice a3 n3 k3]), (Value.agg #[.int .i64 (f), .int .i64 (d)])] w (Mk w (Value.agg #[.int .i64 (oF (nsv x f d)), .int .i64 (oD (nsv x f d))])) := by
  have X0 := Lib.hid hX
  clear hX
  refine at_base fun wn hwn => ?_
  have T := Lib.hid (show Below w.heap.size w wn from by rw [hwn]; exact Below.refl _ _)
  clear hwn
  by_cases h : SK x f d
  case neg =>
    have E := Lib.hid (nsv_f h)
    have HS := Lib.hid h
    clear h
    obtain ⟨g, hg⟩ : ∃ g, Array.size (World.heap wn) = g := ⟨_, rfl⟩
    have HGg := Lib.hid hg
    have hTg : w.heap.size ≤ g := by rw [← hg]; exact T.out.size
    have Tn := Lib.hid (show Below w.heap.size w (((wn.alloc (.cells #[.slice a1 n1 k1, .slice a2 n2 k2, .slice a3 n3 k3] 36)).alloc (.cells #[.int .i64 (f), .int .i64 (d)] 24)).alloc (.cells #[.int .i64 (0), .int .i64 (0)] 24)) from (Below.al (Below.al (Below.al T.out (.cells #[.slice a1 n1 k1, .slice a2 n2 k2, .slice a3 n3 k3] 36)) (.cells #[.int .i64 (f), .int .i64 (d)] 24)) (.cells #[.int .i64 (0), .int .i64 (0)] 24)))
    have CB := Lib.hid (show Bx (((wn.alloc (.cells #[.slice a1 n1 k1, .slice a2 n2 k2, .slice a3 n3 k3] 36)).alloc (.cells #[.int .i64 (f), .int .i64 (d)] 24)).alloc (.cells #[.int .i64 (0), .int .i64 (0)] 24)) g (.slice a1 n1 k1) (.slice a2 n2 k2) (.slice a3 n3 k3) from by have h9 := (Bx.al (Bx.al (Bx.new wn (.slice a1 n1 k1) (.slice a2 n2 k2) (.slice a3 n3 k3) 36) (.cells #[.int .i64 (f), .int .i64 (d)] 24)) (.cells #[.int .i64 (0), .int .i64 (0)] 24)); simp only [World.size_alloc, hg, Nat.add_assoc, Nat.reduceAdd] at h9; exact h9)
    have SB := Lib.hid (show Box (((wn.alloc (.cells #[.slice a1 n1 k1, .slice a2 n2 k2, .slice a3 n3 k3] 36)).alloc (.cells #[.int .i64 (f), .int .i64 (d)] 24)).alloc (.cells #[.int .i64 (0), .int .i64 (0)] 24)) (g + 1) (f) (d) from by have h9 := (Box.al (Box.new (wn.alloc (.cells #[.slice a1 n1 k1, .slice a2 n2 k2, .slice a3 n3 k3] 36)) (f) (d) 24) (.cells #[.int .i64 (0), .int .i64 (0)] 24)); simp only [World.size_alloc, hg, Nat.add_assoc, Nat.reduceAdd] at h9; exact h9)
    have RB := Lib.hid (show Box (((wn.alloc (.cells #[.slice a1 n1 k1, .slice a2 n2 k2, .slice a3 n3 k3] 36)).alloc (.cells #[.int .i64 (f), .int .i64 (d)] 24)).alloc (.cells #[.int .i64 (0), .int .i64 (0)] 24)) (g + 2) (0) (0) from by have h9 := (Box.new ((wn.alloc (.cells #[.slice a1 n1 k1, .slice a2 n2 k2, .slice a3 n3 k3] 36)).alloc (.cells #[.int .i64 (f), .int .i64 (d)] 24)) (0) (0) 24); simp only [World.size_alloc, hg, Nat.add_assoc, Nat.reduceAdd] at h9; exact h9)
    have HZg := Lib.hid (show ((((wn.alloc (.cells #[.slice a1 n1 k1, .slice a2 n2 k2, .slice a3 n3 k3] 36)).alloc (.cells #[.int .i64 (f), .int .i64 (d)] 24)).alloc (.cells #[.int .i64 (0), .int .i64 (0)] 24))).heap.size = g + 3 from by simp only [World.size_alloc, hg, Nat.add_assoc, Nat.reduceAdd])
    clear hg
    clear T
    have T := Tn
    clear Tn
    go_enter Try.func64, Try.ntmps64
    go_wp2_with fail
    rw [HGg.out]
    refine Calls.mono (l9Ok_f a1 n1 k1 a2 n2 k2 a3 n3 k3 x f d _ (Cal.below X0.out T.out) HS.out) ?_
    intro e wn hh
    obtain ⟨he, hb⟩ := (by first | exact hh | exact Ro.mk hh | exact St.mk hh | exact LawOk.mk' hh : Mk _ _ e wn)
    subst he
    have Tn : Hid (Below w.heap.size w wn) := below_next T.out hb
    have CBn : Hid _ := Bx.below CB.out hb
    have SBn : Hid _ := Box.below SB.out hb
    have RBn : Hid _ := Box.below RB.out hb
    clear hb hh
    clear T CB SB RB
    have T := Tn
    have CB := CBn
    have SB := SBn
    have RB := RBn
    clear Tn CBn SBn RBn
    obtain ⟨⟨c0, c1⟩, f0, f1⟩ := RB.out
    go_wp2_with fail
    exact bodyPost_ret (v := (Value.agg #[.int .i64 (-1), .int .i64 (0)])) (by simp [results, Try.results64, go_sem, c0, c1]) rfl (Mk.ag (by rw [E.out]; rfl) (by rw [E.out]; rfl) (by have HZ := T.out; exact (by repeat (first | exact Below.refl _ _ | refine Below.al ?_ _ | refine Below.dr ?_ _ | refine Below.dw ?_ | refine Below.st ?_ (by first | exact Nat.le_refl _ | exact Nat.le_add_right _ _ | (simp; omega)) _ | (refine below_next ?_ (by assumption))))))
  obtain ⟨f, up, rfl, hf, rfl⟩ := SK.dir h
  have E := Lib.hid (nsv_t h)
  have HV := Lib.hid h.1
  have HS := Lib.hid h
  have HF := Lib.hid hf
  have hf8 : f < 8 := by have := h.1.2.1; omega
  clear h hf
  obtain ⟨g, hg⟩ : ∃ g, Array.size (World.heap wn) = g := ⟨_, rfl⟩
  have HGg := Lib.hid hg
  have hTg : w.heap.size ≤ g := by rw [← hg]; exact T.out.size
  have Tn := Lib.hid (show Below w.heap.size w (((wn.alloc (.cells #[.slice a1 n1 k1, .slice a2 n2 k2, .slice a3 n3 k3] 36)).alloc (.cells #[.int .i64 (f), .int .i64 (dI up)] 24)).alloc (.cells #[.int .i64 (0), .int .i64 (0)] 24)) from (Below.al (Below.al (Below.al T.out (.cells #[.slice a1 n1 k1, .slice a2 n2 k2, .slice a3 n3 k3] 36)) (.cells #[.int .i64 (f), .int .i64 (dI up)] 24)) (.cells #[.int .i64 (0), .int .i64 (0)] 24)))
  have CB := Lib.hid (show Bx (((wn.alloc (.cells #[.slice a1 n1 k1, .slice a2 n2 k2, .slice a3 n3 k3] 36)).alloc (.cells #[.int .i64 (f), .int .i64 (dI up)] 24)).alloc (.cells #[.int .i64 (0), .int .i64 (0)] 24)) g (.slice a1 n1 k1) (.slice a2 n2 k2) (.slice a3 n3 k3) from by have h9 := (Bx.al (Bx.al (Bx.new wn (.slice a1 n1 k1) (.slice a2 n2 k2) (.slice a3 n3 k3) 36) (.cells #[.int .i64 (f), .int .i64 (dI up)] 24)) (.cells #[.int .i64 (0), .int .i64 (0)] 24)); simp only [World.size_alloc, hg, Nat.add_assoc, Nat.reduceAdd] at h9; exact h9)
  have SB := Lib.hid (show Box (((wn.alloc (.cells #[.slice a1 n1 k1, .slice a2 n2 k2, .slice a3 n3 k3] 36)).alloc (.cells #[.int .i64 (f), .int .i64 (dI up)] 24)).alloc (.cells #[.int .i64 (0), .int .i64 (0)] 24)) (g + 1) (f) (dI up) from by have h9 := (Box.al (Box.new (wn.alloc (.cells #[.slice a1 n1 k1, .slice a2 n2 k2, .slice a3 n3 k3] 36)) (f) (dI up) 24) (.cells #[.int .i64 (0), .int .i64 (0)] 24)); simp only [World.size_alloc, hg, Nat.add_assoc, Nat.reduceAdd] at h9; exact h9)
  have RB := Lib.hid (show Box (((wn.alloc (.cells #[.slice a1 n1 k1, .slice a2 n2 k2, .slice a3 n3 k3] 36)).alloc (.cells #[.int .i64 (f), .int .i64 (dI up)] 24)).alloc (.cells #[.int .i64 (0), .int .i64 (0)] 24)) (g + 2) (0) (0) from by have h9 := (Box.new ((wn.alloc (.cells #[.slice a1 n1 k1, .slice a2 n2 k2, .slice a3 n3 k3] 36)).alloc (.cells #[.int .i64 (f), .int .i64 (dI up)] 24)) (0) (0) 24); simp only [World.size_alloc, hg, Nat.add_assoc, Nat.reduceAdd] at h9; exact h9)
  have HZg := Lib.hid (show ((((wn.alloc (.cells #[.slice a1 n1 k1, .slice a2 n2 k2, .slice a3 n3 k3] 36)).alloc (.cells #[.int .i64 (f), .int .i64 (dI up)] 24)).alloc (.cells #[.int .i64 (0), .int .i64 (0)] 24))).heap.size = g + 3 from by simp only [World.size_alloc, hg, Nat.add_assoc, Nat.reduceAdd])
  clear hg
  clear T
  have T := Tn
  clear Tn
  go_enter Try.func64, Try.ntmps64
  go_wp2_with fail
  rw [HGg.out]
  refine Calls.mono (l9Ok_t a1 n1 k1 a2 n2 k2 a3 n3 k3 x f (dI up) _ (Cal.below X0.out T.out) HS.out) ?_
  intro e wn hh
  obtain ⟨he, hb⟩ := (by first | exact hh | exact Ro.mk hh | exact St.mk hh | exact LawOk.mk' hh : Mk _ _ e wn)
  subst he
  have Tn : Hid (Below w.heap.size w wn) := below_next T.out hb
  have CBn : Hid _ := Bx.below CB.out hb
  have SBn : Hid _ := Box.below SB.out hb
  have RBn : Hid _ := Box.below RB.out hb
  clear hb hh
  clear T CB SB RB
  have T := Tn
  have CB := CBn
  have SB := SBn
  have RB := RBn
  clear Tn CBn SBn RBn
  go_wp2_with fail
  go_loopw [5] (fun v wr => ∃ (t : Nat) (u : Bool), t ≤ 2 ∧ v = .int .i64 t ∧ LP x f up t u ∧ Below w.heap.size w wr ∧ Bx wr g (.slice a1 n1 k1) (.slice a2 n2 k2) (.slice a3 n3 k3) ∧ Box wr (g + 1) f (dI u) ∧ Box wr (g + 2) (0) (0)) (fun v _ => 2 - (intOf v).toNat)
  case atStart => exact ⟨0, up, by omega, rfl, .inl ⟨rfl, rfl⟩, T.out, CB.out, SB.out, RB.out⟩
  case' round =>
    clear T CB SB RB
    obtain ⟨t, u, ht, rfl, hL, h9T, h9CB, h9SB, h9RB⟩ := hrel
    obtain ⟨wn, hwq⟩ : ∃ w0 : World, w0 = wr := ⟨_, rfl⟩
    rw [← hwq] at h9T h9CB h9SB h9RB ⊢
    clear hwq
    have T := Lib.hid h9T
    have CB := Lib.hid h9CB
    have SB := Lib.hid h9SB
    have RB := Lib.hid h9RB
    clear h9T h9CB h9SB h9RB
    have HL := Lib.hid hL
    clear hL
    obtain ⟨q1, q2, q3⟩ := dI_bd u
    obtain ⟨D, hD⟩ : ∃ D, dI u = D := ⟨_, rfl⟩
    rw [hD] at q1 q2 q3 SB
    have HD := Lib.hid hD
    have HN := Lib.hid q3
    clear hD q3
    by_cases hlt : t < 2
    case neg =>
      obtain rfl : t = 2 := by omega
      have E2 := Lib.hid (show nsv x f (dI up) = none from by rw [E.out]; exact LP.end HL.out)
      obtain ⟨⟨c0, c1⟩, f0, f1⟩ := RB.out
      go_wp2_with fail
      exact bodyPost_ret (v := (Value.agg #[.int .i64 (-1), .int .i64 (0)])) (by simp [results, Try.results64, go_sem, c0, c1]) rfl (Mk.ag (by rw [E2.out]; rfl) (by rw [E2.out]; rfl) (by have HZ := T.out; exact (by repeat (first | exact Below.refl _ _ | refine Below.al ?_ _ | refine Below.dr ?_ _ | refine Below.dw ?_ | refine Below.st ?_ (by first | exact Nat.le_refl _ | exact Nat.le_add_right _ _ | (simp; omega)) _ | (refine below_next ?_ (by assumption))))))
    have hti : (t : Int) < 2 := by omega
    have hsp := ah_spec x u f HF.out
    have hsp2 := la_spec x u f HF.out
    have n8 : x.c.length ≤ 8 := HV.out.2.1
    have KA := fun w' (h : Cal w' a1 n1 a2 n2 a3 n3 x) => l9Ahead_c a1 n1 k1 a2 n2 k2 a3 n3 k3 x f u D w' h HV.out HF.out HD.out
    have KL := fun w' (h : Cal w' a1 n1 a2 n2 a3 n3 x) => l9Last_c a1 n1 k1 a2 n2 k2 a3 n3 k3 x f u D w' h HV.out HF.out HD.out
    have hn1 : nx1 x f u = if 0 ≤ ah x u f then some ((ah x u f).toNat, u) else if 0 ≤ la x u f then some ((la x u f).toNat, !u) else none := rfl
    obtain ⟨A, hA⟩ : ∃ A, ah x u f = A := ⟨_, rfl⟩
    obtain ⟨L, hL⟩ : ∃ L, la x u f = L := ⟨_, rfl⟩
    rw [hA] at KA hn1 hsp
    rw [hL] at KL hn1 hsp2
    have A8 : -1 ≤ A ∧ A ≤ 8 := by
      rcases hsp with ⟨e, -⟩ | ⟨k, e, h1, -⟩ <;> omega
    have L8 : -1 ≤ L ∧ L ≤ 8 := by
      rcases hsp2 with ⟨e, -⟩ | ⟨k, e, h1, -⟩ <;> omega
    have HN1 := Lib.hid hn1
    have HKA := Lib.hid KA
    have HKL := Lib.hid KL
    clear hA hL KA KL hn1 hsp hsp2 n8
    obtain ⟨⟨c0, c1, c2⟩, -⟩ := CB.out
    obtain ⟨⟨d0, d1⟩, df0, df1⟩ := SB.out
    go_wp2_with fail
    refine Calls.mono (HKA.out _ (Cal.below X0.out T.out)) ?_
    intro e wn hh
    obtain ⟨he, hb⟩ := (by first | exact hh | exact Ro.mk hh | exact St.mk hh | exact LawOk.mk' hh : Mk _ _ e wn)
    subst he
    have Tn : Hid (Below w.heap.size w wn) := below_next T.out hb
    have CBn : Hid _ := Bx.below CB.out hb
    have SBn : Hid _ := Box.below SB.out hb
    have RBn : Hid _ := Box.below RB.out hb
    clear hb hh c0 c1 c2 d0 d1 df0 df1
    clear T CB SB RB
    have T := Tn
    have CB := CBn
    have SB := SBn
    have RB := RBn
    clear Tn CBn SBn RBn
    by_cases hA : 0 ≤ A
    · have E1 := Lib.hid (LP.some HL.out hlt (show nx1 x f u = some (A.toNat, u) from by rw [HN1.out, if_pos hA]))
      have E2 := Lib.hid (show nsv x f (dI up) = some (A.toNat, u) from by rw [E.out, E1.out])
      go_wp2_with fail
      refine wp_region_quiet_late (C := fun w' => Below (World.heap (wn)).size (wn) w') 6 _ (by kernel_rfl) (by kernel_rfl) (by kernel_rfl) (by kernel_rfl) (by rfl) (by kernel_rfl) (by kernel_rfl) (by first | exact ⟨rfl, rfl, rfl, Nat.le_refl _, fun _ _ => rfl⟩ | exact Below.dw (by repeat (first | exact Below.refl _ _ | refine Below.al ?_ _ | refine Below.dr ?_ _ | refine Below.dw ?_ | refine Below.st ?_ (by first | exact Nat.le_refl _ | exact Nat.le_add_right _ _ | (simp; omega)) _ | (refine below_next ?_ (by assumption))))) ?_
      simp only [List.take_succ_cons, List.take_zero]
      repeat (go_big_quiet_step (first | (intro _; with_reducible exact rfl) | (intro hC; go_at_call 85; obtain ⟨⟨c0, c1, c2⟩, -⟩ := Bx.below CB.out hC; obtain ⟨⟨d0, d1⟩, -⟩ := Box.below SB.out hC; have ZY := Lib.hid (HKA.out _ (Cal.below X0.out (below_next T.out hC))); (with_reducible refine Calls.mono (ZY.out) ?_); (first | (rintro e wx ⟨rfl, hb⟩; exact ⟨rfl, below_next hC hb⟩) | (rintro e wx ⟨rfl, n, rfl⟩; exact ⟨rfl, Below.dr hC n⟩) | (rintro e wx ⟨rfl, rfl⟩; exact ⟨rfl, hC⟩))) | (intro hC; obtain ⟨⟨c0, c1, c2⟩, -⟩ := Bx.below CB.out hC; obtain ⟨⟨d0, d1⟩, -⟩ := Box.below SB.out hC; have ZY := Lib.hid (HKA.out _ (Cal.below X0.out (below_next T.out hC))); go_simp; rfl)))
      refine wpQuiet_nil ?_
      intro wq hq
      have Tn := Lib.hid (below_next T.out hq)
      have CBn := Lib.hid (Bx.below CB.out hq)
      have SBn := Lib.hid (Box.below SB.out hq)
      have RBn := Lib.hid (Box.below RB.out hq)
      clear hq
      clear T CB SB RB
      have T := Tn
      have CB := CBn
      have SB := SBn
      have RB := RBn
      clear Tn CBn SBn RBn
      obtain ⟨wn, hwq⟩ : ∃ w0, w0 = wq := ⟨_, rfl⟩
      subst hwq
      obtain ⟨⟨c0, c1⟩, f0, f1⟩ := RB.out
      go_wp2_with fail
      exact bodyPost_ret (v := (Value.agg #[.int .i64 (A), .int .i64 (D)])) (by simp [results, Try.results64, go_sem, c0, c1]) rfl (Mk.ag (by rw [E2.out]; show (A.toNat : Int) = A; omega) (by rw [E2.out]; exact HD.out) (by have HZ := T.out; exact (by repeat (first | exact Below.refl _ _ | refine Below.al ?_ _ | refine Below.dr ?_ _ | refine Below.dw ?_ | refine Below.st ?_ (by first | exact Nat.le_refl _ | exact Nat.le_add_right _ _ | (simp; omega)) _ | (refine below_next ?_ (by assumption))))))
    obtain ⟨⟨c0, c1, c2⟩, -⟩ := CB.out
    obtain ⟨⟨d0, d1⟩, df0, df1⟩ := SB.out
    go_wp2_with fail
    refine Calls.mono (HKL.out _ (Cal.below X0.out T.out)) ?_
    intro e wn hh
    obtain ⟨he, hb⟩ := (by first | exact hh | exact Ro.mk hh | exact St.mk hh | exact LawOk.mk' hh : Mk _ _ e wn)
    subst he
    have Tn : Hid (Below w.heap.size w wn) := below_next T.out hb
    have CBn : Hid _ := Bx.below CB.out hb
    have SBn : Hid _ := Box.below SB.out hb
    have RBn : Hid _ := Box.below RB.out hb
    clear hb hh c0 c1 c2 d0 d1 df0 df1
    clear T CB SB RB
    have T := Tn
    have CB := CBn
    have SB := SBn
    have RB := RBn
    clear Tn CBn SBn RBn
    by_cases hL : 0 ≤ L
    · have E1 := Lib.hid (LP.some HL.out hlt (show nx1 x f u = some (L.toNat, !u) from by rw [HN1.out, if_neg (by omega), if_pos hL]))
      have E2 := Lib.hid (show nsv x f (dI up) = some (L.toNat, !u) from by rw [E.out, E1.out])
      go_wp2_with fail
      refine wp_region_quiet_late (C := fun w' => Below (World.heap (wn)).size (wn) w') 7 _ (by kernel_rfl) (by kernel_rfl) (by kernel_rfl) (by kernel_rfl) (by rfl) (by kernel_rfl) (by kernel_rfl) (by first | exact ⟨rfl, rfl, rfl, Nat.le_refl _, fun _ _ => rfl⟩ | exact Below.dw (by repeat (first | exact Below.refl _ _ | refine Below.al ?_ _ | refine Below.dr ?_ _ | refine Below.dw ?_ | refine Below.st ?_ (by first | exact Nat.le_refl _ | exact Nat.le_add_right _ _ | (simp; omega)) _ | (refine below_next ?_ (by assumption))))) ?_
      simp only [List.take_succ_cons, List.take_zero]
      repeat (go_big_quiet_step (first | (intro _; with_reducible exact rfl) | (intro hC; go_at_call 86; obtain ⟨⟨c0, c1, c2⟩, -⟩ := Bx.below CB.out hC; obtain ⟨⟨d0, d1⟩, -⟩ := Box.below SB.out hC; have ZY := Lib.hid (HKL.out _ (Cal.below X0.out (below_next T.out hC))); (with_reducible refine Calls.mono (ZY.out) ?_); (first | (rintro e wx ⟨rfl, hb⟩; exact ⟨rfl, below_next hC hb⟩) | (rintro e wx ⟨rfl, n, rfl⟩; exact ⟨rfl, Below.dr hC n⟩) | (rintro e wx ⟨rfl, rfl⟩; exact ⟨rfl, hC⟩))) | (intro hC; obtain ⟨⟨c0, c1, c2⟩, -⟩ := Bx.below CB.out hC; obtain ⟨⟨d0, d1⟩, -⟩ := Box.below SB.out hC; have ZY := Lib.hid (HKL.out _ (Cal.below X0.out (below_next T.out hC))); go_simp; rfl)))
      refine wpQuiet_nil ?_
      intro wq hq
      have Tn := Lib.hid (below_next T.out hq)
      have CBn := Lib.hid (Bx.below CB.out hq)
      have SBn := Lib.hid (Box.below SB.out hq)
      have RBn := Lib.hid (Box.below RB.out hq)
      clear hq
      clear T CB SB RB
      have T := Tn
      have CB := CBn
      have SB := SBn
      have RB := RBn
      clear Tn CBn SBn RBn
      obtain ⟨wn, hwq⟩ : ∃ w0, w0 = wq := ⟨_, rfl⟩
      subst hwq
      obtain ⟨⟨c0, c1⟩, f0, f1⟩ := RB.out
      go_wp2_with fail
      exact bodyPost_ret (v := (Value.agg #[.int .i64 (L), .int .i64 (-D)])) (by simp [results, Try.results64, go_sem, c0, c1]) rfl (Mk.ag (by rw [E2.out]; show (L.toNat : Int) = L; omega) (by rw [E2.out]; exact HN.out) (by have HZ := T.out; exact (by repeat (first | exact Below.refl _ _ | refine Below.al ?_ _ | refine Below.dr ?_ _ | refine Below.dw ?_ | refine Below.st ?_ (by first | exact Nat.le_refl _ | exact Nat.le_add_right _ _ | (simp; omega)) _ | (refine below_next ?_ (by assumption))))))
    have HL2 := Lib.hid (LP.next HL.out hlt (show nx1 x f u = none from by rw [HN1.out, if_neg (by omega), if_neg (by omega)]))
    have hgl := Box.lt SB.out
    obtain ⟨⟨d0, d1⟩, df0, df1⟩ := SB.out
    go_wp2_with fail
    go_roundw
    case rel => exact ⟨t + 1, !u, by omega, by go_num, HL2.out, by have HZ := T.out; exact (by repeat (first | exact Below.refl _ _ | refine Below.al ?_ _ | refine Below.dr ?_ _ | refine Below.dw ?_ | refine Below.st ?_ (by first | exact Nat.le_refl _ | exact Nat.le_add_right _ _ | (simp; omega)) _ | (refine below_next ?_ (by assumption)))), Bx.pfar CB.out (by omega), by rw [HN.out]; exact Box.pset1 _ SB.out, Box.pfar RB.out (by omega)⟩
    case measure => first | (simp [intOf]; done) | (simp [intOf]; omega) | omega
end Go.Proofs.Ytfhhgddajmihjaa
