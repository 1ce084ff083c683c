/- The contracts of l9Ok, l9Ahead and l9Last. -/
import Derived.Test.Ytfhhgddajmihjaa9P
import Derived.Test.Ytfhhgddajmihjaa8U
namespace Go.Proofs.Ytfhhgddajmihjaa
open Go.RowKit
set_option linter.unusedVariables false
set_option linter.unusedSimpArgs false
set_option maxRecDepth 100000

theorem Mk.ag {w w' : World} {a b a' b' : Int} (h : a = a') (k : b = b') (hb : Below w.heap.size w w') : Mk w (Value.agg #[.int .i64 (a), .int .i64 (b)]) (.returned (.agg #[.int .i64 a', .int .i64 b'])) w' := ⟨by rw [h, k], hb⟩
theorem Box.block {w w' : World} {b : Nat} {a s : Int} (h : Box w b a s) (e : w'.heap[b]? = w.heap[b]?) : Box w' b a s :=
  ⟨⟨by rw [World.cell?_of_block e]; exact h.1.1, by rw [World.cell?_of_block e]; exact h.1.2⟩, by rw [World.frozen?_of_block e]; exact h.2.1, by rw [World.frozen?_of_block e]; exact h.2.2⟩
theorem Box.pfar {w : World} {b c j : Nat} {a s : Int} {v : Value} (h : Box w b a s) (hne : b ≠ c) : Box (w.setCell ⟨c, j, none⟩ v) b a s := h.block (Below.heap_setCell _ _ _ _ (by simpa using hne))
theorem Bx.pfar {w : World} {b c j : Nat} {v1 v2 v3 v : Value} (h : Bx w b v1 v2 v3) (hne : b ≠ c) : Bx (w.setCell ⟨c, j, none⟩ v) b v1 v2 v3 := h.block (Below.heap_setCell _ _ _ _ (by simpa using hne))
theorem Box.pset0 {w : World} {b : Nat} {a s : Int} (a' : Int) (h : Box w b a s) : Box (w.setCell ⟨b, 0, none⟩ (.int .i64 a')) b a' s :=
  ⟨⟨World.cell?_setCell_same _ _ _ h.1.1, by rw [World.cell?_setCell_other _ _ _ _ (by simp)]; exact h.1.2⟩, by rw [World.frozen?_setCell]; exact h.2.1, by rw [World.frozen?_setCell]; exact h.2.2⟩
theorem Box.pset1 {w : World} {b : Nat} {a s : Int} (s' : Int) (h : Box w b a s) : Box (w.setCell ⟨b, 1, none⟩ (.int .i64 s')) b a s' :=
  ⟨⟨by rw [World.cell?_setCell_other _ _ _ _ (by simp)]; exact h.1.1, World.cell?_setCell_same _ _ _ h.1.2⟩, by rw [World.frozen?_setCell]; exact h.2.1, by rw [World.frozen?_setCell]; exact h.2.2⟩
/-- Valid calls, a floor and a direction. -/
def SK (x : Cs) (f d : Int) : Prop := CV x ∧ (0 ≤ f ∧ f < x.c.length) ∧ (d = 1 ∨ d = -1)
noncomputable def skB (x : Cs) (f d : Int) : Bool := tr (SK x f d)
theorem skB_t {x : Cs} {f d : Int} (h : SK x f d) : skB x f d = true := tr_true h
theorem skB_f {x : Cs} {f d : Int} (h : ¬ SK x f d) : skB x f d = false := tr_false h
theorem sCallsValid_t (a1 : Option Addr) (n1 k1 : Nat) (a2 : Option Addr) (n2 k2 : Nat) (a3 : Option Addr) (n3 k3 : Nat) (x : Cs) (w : World) (hX : Cal w a1 n1 a2 n2 a3 n3 x) (hv : CV x) : Calls Try.prog 90 #[(.agg #[.slice a1 n1 k1, .slice a2 n2 k2, .slice a3 n3 k3])] w (Mk w (.bool true)) := by
  have := sCallsValid_c a1 n1 k1 a2 n2 k2 a3 n3 k3 x w hX
  rwa [cvB_t hv] at this
theorem sCallsValid_f (a1 : Option Addr) (n1 k1 : Nat) (a2 : Option Addr) (n2 k2 : Nat) (a3 : Option Addr) (n3 k3 : Nat) (x : Cs) (w : World) (hX : Cal w a1 n1 a2 n2 a3 n3 x) (hv : ¬ CV x) : Calls Try.prog 90 #[(.agg #[.slice a1 n1 k1, .slice a2 n2 k2, .slice a3 n3 k3])] w (Mk w (.bool false)) := by
  have := sCallsValid_c a1 n1 k1 a2 n2 k2 a3 n3 k3 x w hX
  rwa [cvB_f hv] at this
theorem BS.cell {w : World} {b o n i : Nat} {xs : List Bool} (h : BS w (some ⟨b, o, none⟩) n xs) (hi : i < n) : w.cell? ⟨b, o + i, none⟩ = some (.bool (bn xs i)) := by
  obtain ⟨_, h | ⟨b', o', e, h⟩⟩ := h
  · omega
  · simp at e
    obtain ⟨rfl, rfl⟩ := e
    exact h i hi
theorem BS.some {w : World} {a : Option Addr} {n : Nat} {xs : List Bool} (h : BS w a n xs) (hn : 1 ≤ n) : ∃ b o, a = Option.some ⟨b, o, Option.none⟩ := by
  obtain ⟨_, h | ⟨b', o', e, h⟩⟩ := h
  · omega
  · exact ⟨_, _, e⟩
set_option maxHeartbeats 1000000 in
theorem l9Ok_c (a1 : Option Addr) (n1 k1 : Nat) (a2 : Option Addr) (n2 k2 : Nat) (a3 : Option Addr) (n3 k3 : Nat) (x : Cs) (f d : Int) (w : World) (hX : Cal w a1 n1 a2 n2 a3 n3 x) : Calls Try.prog 84 #[(.agg #[.slice a1 n1 k1, .slice a2 n2 k2, .slice a3 n3 k3]), (Value.agg #[.int .i64 (f), .int .i64 (d)])] w (Mk w (.bool (skB x f d))) := by
  have l3 := hX.2.2.1
  refine at_base fun wn hwn => ?_
  have T := Lib.hid (show Below w.heap.size w wn from by rw [hwn]; exact Below.refl _ _)
  rw [← hwn] at hX
  have X := Lib.hid (show Cal wn a1 n1 a2 n2 a3 n3 x from hX)
  clear hX
  clear hwn
  by_cases hv : CV x
  case neg =>
    have E := Lib.hid (skB_f (f := f) (d := d) (fun h => hv h.1))
    obtain ⟨g, hg⟩ : ∃ g, Array.size (World.heap wn) = g := ⟨_, rfl⟩
    have HGg := Lib.hid hg
    have hTg : w.heap.size ≤ g := by rw [← hg]; exact T.out.size
    have Tn := Lib.hid (show Below w.heap.size w ((wn.alloc (.cells #[.slice a1 n1 k1, .slice a2 n2 k2, .slice a3 n3 k3] 36)).alloc (.cells #[.int .i64 (f), .int .i64 (d)] 24)) from (Below.al (Below.al T.out (.cells #[.slice a1 n1 k1, .slice a2 n2 k2, .slice a3 n3 k3] 36)) (.cells #[.int .i64 (f), .int .i64 (d)] 24)))
    have Xn := Lib.hid (Cal.below X.out (show Below wn.heap.size wn ((wn.alloc (.cells #[.slice a1 n1 k1, .slice a2 n2 k2, .slice a3 n3 k3] 36)).alloc (.cells #[.int .i64 (f), .int .i64 (d)] 24)) from (Below.al (Below.al (Below.refl _ _) (.cells #[.slice a1 n1 k1, .slice a2 n2 k2, .slice a3 n3 k3] 36)) (.cells #[.int .i64 (f), .int .i64 (d)] 24))))
    have CB := Lib.hid (show Bx ((wn.alloc (.cells #[.slice a1 n1 k1, .slice a2 n2 k2, .slice a3 n3 k3] 36)).alloc (.cells #[.int .i64 (f), .int .i64 (d)] 24)) g (.slice a1 n1 k1) (.slice a2 n2 k2) (.slice a3 n3 k3) from by have h9 := (Bx.al (Bx.new wn (.slice a1 n1 k1) (.slice a2 n2 k2) (.slice a3 n3 k3) 36) (.cells #[.int .i64 (f), .int .i64 (d)] 24)); simp only [World.size_alloc, hg, Nat.add_assoc, Nat.reduceAdd] at h9; exact h9)
    have SB := Lib.hid (show Box ((wn.alloc (.cells #[.slice a1 n1 k1, .slice a2 n2 k2, .slice a3 n3 k3] 36)).alloc (.cells #[.int .i64 (f), .int .i64 (d)] 24)) (g + 1) (f) (d) from by have h9 := (Box.new (wn.alloc (.cells #[.slice a1 n1 k1, .slice a2 n2 k2, .slice a3 n3 k3] 36)) (f) (d) 24); simp only [World.size_alloc, hg, Nat.add_assoc, Nat.reduceAdd] at h9; exact h9)
    have HZg := Lib.hid (show (((wn.alloc (.cells #[.slice a1 n1 k1, .slice a2 n2 k2, .slice a3 n3 k3] 36)).alloc (.cells #[.int .i64 (f), .int .i64 (d)] 24))).heap.size = g + 2 from by simp only [World.size_alloc, hg, Nat.add_assoc, Nat.reduceAdd])
    clear hg
    clear T X
    have T := Tn
    have X := Xn
    clear Tn Xn
    go_enter Try.func84, Try.ntmps84
    go_wp2_with fail
    rw [HGg.out]
    refine Calls.mono (sCallsValid_f a1 n1 k1 a2 n2 k2 a3 n3 k3 x _ X.out hv) ?_
    intro e wn hh
    obtain ⟨he, hb⟩ := (by first | exact hh | exact Ro.mk hh | exact St.mk hh | exact LawOk.mk' hh : Mk _ _ e wn)
    subst he
    have Tn : Hid (Below w.heap.size w wn) := below_next T.out hb
    have Xn : Hid _ := Cal.below X.out hb
    have CBn : Hid _ := Bx.below CB.out hb
    have SBn : Hid _ := Box.below SB.out hb
    clear hb hh
    clear T X CB SB
    have T := Tn
    have X := Xn
    have CB := CBn
    have SB := SBn
    clear Tn Xn CBn SBn
    go_wp2_with fail
    go_ret
    exact Mk.b E.out T.out
  have h8 := hv.2.1
  have h1 := hv.1
  rw [l3] at h8 h1
  have K := sCallsValid_t a1 n1 k1 a2 n2 k2 a3 n3 k3 x
  by_cases hf : 0 ≤ f ∧ f ≤ (n3 : Int) - 1
  case neg =>
    have E := Lib.hid (skB_f (x := x) (f := f) (d := d) (fun h => hf (by have := h.2.1; omega)))
    have t1 := inB_f hf
    have HV := Lib.hid hv
    clear hf hv l3
    obtain ⟨g, hg⟩ : ∃ g, Array.size (World.heap wn) = g := ⟨_, rfl⟩
    have HGg := Lib.hid hg
    have hTg : w.heap.size ≤ g := by rw [← hg]; exact T.out.size
    have Tn := Lib.hid (show Below w.heap.size w ((wn.alloc (.cells #[.slice a1 n1 k1, .slice a2 n2 k2, .slice a3 n3 k3] 36)).alloc (.cells #[.int .i64 (f), .int .i64 (d)] 24)) from (Below.al (Below.al T.out (.cells #[.slice a1 n1 k1, .slice a2 n2 k2, .slice a3 n3 k3] 36)) (.cells #[.int .i64 (f), .int .i64 (d)] 24)))
    have Xn := Lib.hid (Cal.below X.out (show Below wn.heap.size wn ((wn.alloc (.cells #[.slice a1 n1 k1, .slice a2 n2 k2, .slice a3 n3 k3] 36)).alloc (.cells #[.int .i64 (f), .int .i64 (d)] 24)) from (Below.al (Below.al (Below.refl _ _) (.cells #[.slice a1 n1 k1, .slice a2 n2 k2, .slice a3 n3 k3] 36)) (.cells #[.int .i64 (f), .int .i64 (d)] 24))))
    have CB := Lib.hid (show Bx ((wn.alloc (.cells #[.slice a1 n1 k1, .slice a2 n2 k2, .slice a3 n3 k3] 36)).alloc (.cells #[.int .i64 (f), .int .i64 (d)] 24)) g (.slice a1 n1 k1) (.slice a2 n2 k2) (.slice a3 n3 k3) from by have h9 := (Bx.al (Bx.new wn (.slice a1 n1 k1) (.slice a2 n2 k2) (.slice a3 n3 k3) 36) (.cells #[.int .i64 (f), .int .i64 (d)] 24)); simp only [World.size_alloc, hg, Nat.add_assoc, Nat.reduceAdd] at h9; exact h9)
    have SB := Lib.hid (show Box ((wn.alloc (.cells #[.slice a1 n1 k1, .slice a2 n2 k2, .slice a3 n3 k3] 36)).alloc (.cells #[.int .i64 (f), .int .i64 (d)] 24)) (g + 1) (f) (d) from by have h9 := (Box.new (wn.alloc (.cells #[.slice a1 n1 k1, .slice a2 n2 k2, .slice a3 n3 k3] 36)) (f) (d) 24); simp only [World.size_alloc, hg, Nat.add_assoc, Nat.reduceAdd] at h9; exact h9)
    have HZg := Lib.hid (show (((wn.alloc (.cells #[.slice a1 n1 k1, .slice a2 n2 k2, .slice a3 n3 k3] 36)).alloc (.cells #[.int .i64 (f), .int .i64 (d)] 24))).heap.size = g + 2 from by simp only [World.size_alloc, hg, Nat.add_assoc, Nat.reduceAdd])
    clear hg
    clear T X
    have T := Tn
    have X := Xn
    clear Tn Xn
    go_enter Try.func84, Try.ntmps84
    go_wp2_with fail
    rw [HGg.out]
    refine Calls.mono (K _ X.out HV.out) ?_
    intro e wn hh
    obtain ⟨he, hb⟩ := (by first | exact hh | exact Ro.mk hh | exact St.mk hh | exact LawOk.mk' hh : Mk _ _ e wn)
    subst he
    have Tn : Hid (Below w.heap.size w wn) := below_next T.out hb
    have Xn : Hid _ := Cal.below X.out hb
    have CBn : Hid _ := Bx.below CB.out hb
    have SBn : Hid _ := Box.below SB.out hb
    clear hb hh
    clear T X CB SB
    have T := Tn
    have X := Xn
    have CB := CBn
    have SB := SBn
    clear Tn Xn CBn SBn
    obtain ⟨⟨c0, c1, c2⟩, -⟩ := CB.out
    obtain ⟨⟨d0, d1⟩, df0, df1⟩ := SB.out
    go_wp2_with fail
    refine Calls.mono (l1In_c _ _ _ _) ?_
    intro e wn hh
    obtain ⟨he, hb⟩ := (by first | exact hh | exact Ro.mk hh | exact St.mk hh | exact LawOk.mk' hh : Mk _ _ e wn)
    subst he
    have Tn : Hid (Below w.heap.size w wn) := below_next T.out hb
    have Xn : Hid _ := Cal.below X.out hb
    have CBn : Hid _ := Bx.below CB.out hb
    have SBn : Hid _ := Box.below SB.out hb
    clear hb hh c0 c1 c2 d0 d1 df0 df1
    clear T X CB SB
    have T := Tn
    have X := Xn
    have CB := CBn
    have SB := SBn
    clear Tn Xn CBn SBn
    go_wp2_with fail
    go_ret
    exact Mk.b E.out T.out
  have t1 := inB_t hf
  rcases (by omega : d = 1 ∨ d = -1 ∨ (d ≠ 1 ∧ d ≠ -1)) with rfl | rfl | ⟨g1, g2⟩
  case inr.inr =>
    have E := Lib.hid (skB_f (x := x) (f := f) (d := d) (fun h => by have := h.2.2; omega))
    have t2 : (d == 1) = false := beq_false_of_ne g1
    have t3 : (d == -1) = false := beq_false_of_ne g2
    have HV := Lib.hid hv
    clear hf hv l3
    obtain ⟨g, hg⟩ : ∃ g, Array.size (World.heap wn) = g := ⟨_, rfl⟩
    have HGg := Lib.hid hg
    have hTg : w.heap.size ≤ g := by rw [← hg]; exact T.out.size
    have Tn := Lib.hid (show Below w.heap.size w ((wn.alloc (.cells #[.slice a1 n1 k1, .slice a2 n2 k2, .slice a3 n3 k3] 36)).alloc (.cells #[.int .i64 (f), .int .i64 (d)] 24)) from (Below.al (Below.al T.out (.cells #[.slice a1 n1 k1, .slice a2 n2 k2, .slice a3 n3 k3] 36)) (.cells #[.int .i64 (f), .int .i64 (d)] 24)))
    have Xn := Lib.hid (Cal.below X.out (show Below wn.heap.size wn ((wn.alloc (.cells #[.slice a1 n1 k1, .slice a2 n2 k2, .slice a3 n3 k3] 36)).alloc (.cells #[.int .i64 (f), .int .i64 (d)] 24)) from (Below.al (Below.al (Below.refl _ _) (.cells #[.slice a1 n1 k1, .slice a2 n2 k2, .slice a3 n3 k3] 36)) (.cells #[.int .i64 (f), .int .i64 (d)] 24))))
    have CB := Lib.hid (show Bx ((wn.alloc (.cells #[.slice a1 n1 k1, .slice a2 n2 k2, .slice a3 n3 k3] 36)).alloc (.cells #[.int .i64 (f), .int .i64 (d)] 24)) g (.slice a1 n1 k1) (.slice a2 n2 k2) (.slice a3 n3 k3) from by have h9 := (Bx.al (Bx.new wn (.slice a1 n1 k1) (.slice a2 n2 k2) (.slice a3 n3 k3) 36) (.cells #[.int .i64 (f), .int .i64 (d)] 24)); simp only [World.size_alloc, hg, Nat.add_assoc, Nat.reduceAdd] at h9; exact h9)
    have SB := Lib.hid (show Box ((wn.alloc (.cells #[.slice a1 n1 k1, .slice a2 n2 k2, .slice a3 n3 k3] 36)).alloc (.cells #[.int .i64 (f), .int .i64 (d)] 24)) (g + 1) (f) (d) from by have h9 := (Box.new (wn.alloc (.cells #[.slice a1 n1 k1, .slice a2 n2 k2, .slice a3 n3 k3] 36)) (f) (d) 24); simp only [World.size_alloc, hg, Nat.add_assoc, Nat.reduceAdd] at h9; exact h9)
    have HZg := Lib.hid (show (((wn.alloc (.cells #[.slice a1 n1 k1, .slice a2 n2 k2, .slice a3 n3 k3] 36)).alloc (.cells #[.int .i64 (f), .int .i64 (d)] 24))).heap.size = g + 2 from by simp only [World.size_alloc, hg, Nat.add_assoc, Nat.reduceAdd])
    clear hg
    clear T X
    have T := Tn
    have X := Xn
    clear Tn Xn
    go_enter Try.func84, Try.ntmps84
    go_wp2_with fail
    rw [HGg.out]
    refine Calls.mono (K _ X.out HV.out) ?_
    intro e wn hh
    obtain ⟨he, hb⟩ := (by first | exact hh | exact Ro.mk hh | exact St.mk hh | exact LawOk.mk' hh : Mk _ _ e wn)
    subst he
    have Tn : Hid (Below w.heap.size w wn) := below_next T.out hb
    have Xn : Hid _ := Cal.below X.out hb
    have CBn : Hid _ := Bx.below CB.out hb
    have SBn : Hid _ := Box.below SB.out hb
    clear hb hh
    clear T X CB SB
    have T := Tn
    have X := Xn
    have CB := CBn
    have SB := SBn
    clear Tn Xn CBn SBn
    obtain ⟨⟨c0, c1, c2⟩, -⟩ := CB.out
    obtain ⟨⟨d0, d1⟩, df0, df1⟩ := SB.out
    go_wp2_with fail
    refine Calls.mono (l1In_c _ _ _ _) ?_
    intro e wn hh
    obtain ⟨he, hb⟩ := (by first | exact hh | exact Ro.mk hh | exact St.mk hh | exact LawOk.mk' hh : Mk _ _ e wn)
    subst he
    have Tn : Hid (Below w.heap.size w wn) := below_next T.out hb
    have Xn : Hid _ := Cal.below X.out hb
    have CBn : Hid _ := Bx.below CB.out hb
    have SBn : Hid _ := Box.below SB.out hb
    clear hb hh c0 c1 c2 d0 d1 df0 df1
    clear T X CB SB
    have T := Tn
    have X := Xn
    have CB := CBn
    have SB := SBn
    clear Tn Xn CBn SBn
    obtain ⟨⟨c0, c1, c2⟩, -⟩ := CB.out
    obtain ⟨⟨d0, d1⟩, df0, df1⟩ := SB.out
    go_wp2_with fail
    go_ret
    exact Mk.b E.out T.out
  case inl =>
    have E := Lib.hid (skB_t (x := x) (f := f) ⟨hv, ⟨hf.1, by omega⟩, .inl rfl⟩)
    have HV := Lib.hid hv
    clear hf hv l3
    obtain ⟨g, hg⟩ : ∃ g, Array.size (World.heap wn) = g := ⟨_, rfl⟩
    have HGg := Lib.hid hg
    have hTg : w.heap.size ≤ g := by rw [← hg]; exact T.out.size
    have Tn := Lib.hid (show Below w.heap.size w ((wn.alloc (.cells #[.slice a1 n1 k1, .slice a2 n2 k2, .slice a3 n3 k3] 36)).alloc (.cells #[.int .i64 (f), .int .i64 (1)] 24)) from (Below.al (Below.al T.out (.cells #[.slice a1 n1 k1, .slice a2 n2 k2, .slice a3 n3 k3] 36)) (.cells #[.int .i64 (f), .int .i64 (1)] 24)))
    have Xn := Lib.hid (Cal.below X.out (show Below wn.heap.size wn ((wn.alloc (.cells #[.slice a1 n1 k1, .slice a2 n2 k2, .slice a3 n3 k3] 36)).alloc (.cells #[.int .i64 (f), .int .i64 (1)] 24)) from (Below.al (Below.al (Below.refl _ _) (.cells #[.slice a1 n1 k1, .slice a2 n2 k2, .slice a3 n3 k3] 36)) (.cells #[.int .i64 (f), .int .i64 (1)] 24))))
    have CB := Lib.hid (show Bx ((wn.alloc (.cells #[.slice a1 n1 k1, .slice a2 n2 k2, .slice a3 n3 k3] 36)).alloc (.cells #[.int .i64 (f), .int .i64 (1)] 24)) g (.slice a1 n1 k1) (.slice a2 n2 k2) (.slice a3 n3 k3) from by have h9 := (Bx.al (Bx.new wn (.slice a1 n1 k1) (.slice a2 n2 k2) (.slice a3 n3 k3) 36) (.cells #[.int .i64 (f), .int .i64 (1)] 24)); simp only [World.size_alloc, hg, Nat.add_assoc, Nat.reduceAdd] at h9; exact h9)
    have SB := Lib.hid (show Box ((wn.alloc (.cells #[.slice a1 n1 k1, .slice a2 n2 k2, .slice a3 n3 k3] 36)).alloc (.cells #[.int .i64 (f), .int .i64 (1)] 24)) (g + 1) (f) (1) from by have h9 := (Box.new (wn.alloc (.cells #[.slice a1 n1 k1, .slice a2 n2 k2, .slice a3 n3 k3] 36)) (f) (1) 24); simp only [World.size_alloc, hg, Nat.add_assoc, Nat.reduceAdd] at h9; exact h9)
    have HZg := Lib.hid (show (((wn.alloc (.cells #[.slice a1 n1 k1, .slice a2 n2 k2, .slice a3 n3 k3] 36)).alloc (.cells #[.int .i64 (f), .int .i64 (1)] 24))).heap.size = g + 2 from by simp only [World.size_alloc, hg, Nat.add_assoc, Nat.reduceAdd])
    clear hg
    clear T X
    have T := Tn
    have X := Xn
    clear Tn Xn
    go_enter Try.func84, Try.ntmps84
    go_wp2_with fail
    rw [HGg.out]
    refine Calls.mono (K _ X.out HV.out) ?_
    intro e wn hh
    obtain ⟨he, hb⟩ := (by first | exact hh | exact Ro.mk hh | exact St.mk hh | exact LawOk.mk' hh : Mk _ _ e wn)
    subst he
    have Tn : Hid (Below w.heap.size w wn) := below_next T.out hb
    have Xn : Hid _ := Cal.below X.out hb
    have CBn : Hid _ := Bx.below CB.out hb
    have SBn : Hid _ := Box.below SB.out hb
    clear hb hh
    clear T X CB SB
    have T := Tn
    have X := Xn
    have CB := CBn
    have SB := SBn
    clear Tn Xn CBn SBn
    obtain ⟨⟨c0, c1, c2⟩, -⟩ := CB.out
    obtain ⟨⟨d0, d1⟩, df0, df1⟩ := SB.out
    go_wp2_with fail
    refine Calls.mono (l1In_c _ _ _ _) ?_
    intro e wn hh
    obtain ⟨he, hb⟩ := (by first | exact hh | exact Ro.mk hh | exact St.mk hh | exact LawOk.mk' hh : Mk _ _ e wn)
    subst he
    have Tn : Hid (Below w.heap.size w wn) := below_next T.out hb
    have Xn : Hid _ := Cal.below X.out hb
    have CBn : Hid _ := Bx.below CB.out hb
    have SBn : Hid _ := Box.below SB.out hb
    clear hb hh c0 c1 c2 d0 d1 df0 df1
    clear T X CB SB
    have T := Tn
    have X := Xn
    have CB := CBn
    have SB := SBn
    clear Tn Xn CBn SBn
    obtain ⟨⟨c0, c1, c2⟩, -⟩ := CB.out
    obtain ⟨⟨d0, d1⟩, df0, df1⟩ := SB.out
    go_wp2_with fail
    go_ret
    exact Mk.b E.out T.out
  case inr.inl =>
    have E := Lib.hid (skB_t (x := x) (f := f) ⟨hv, ⟨hf.1, by omega⟩, .inr rfl⟩)
    have HV := Lib.hid hv
    clear hf hv l3
    obtain ⟨g, hg⟩ : ∃ g, Array.size (World.heap wn) = g := ⟨_, rfl⟩
    have HGg := Lib.hid hg
    have hTg : w.heap.size ≤ g := by rw [← hg]; exact T.out.size
    have Tn := Lib.hid (show Below w.heap.size w ((wn.alloc (.cells #[.slice a1 n1 k1, .slice a2 n2 k2, .slice a3 n3 k3] 36)).alloc (.cells #[.int .i64 (f), .int .i64 (-1)] 24)) from (Below.al (Below.al T.out (.cells #[.slice a1 n1 k1, .slice a2 n2 k2, .slice a3 n3 k3] 36)) (.cells #[.int .i64 (f), .int .i64 (-1)] 24)))
    have Xn := Lib.hid (Cal.below X.out (show Below wn.heap.size wn ((wn.alloc (.cells #[.slice a1 n1 k1, .slice a2 n2 k2, .slice a3 n3 k3] 36)).alloc (.cells #[.int .i64 (f), .int .i64 (-1)] 24)) from (Below.al (Below.al (Below.refl _ _) (.cells #[.slice a1 n1 k1, .slice a2 n2 k2, .slice a3 n3 k3] 36)) (.cells #[.int .i64 (f), .int .i64 (-1)] 24))))
    have CB := Lib.hid (show Bx ((wn.alloc (.cells #[.slice a1 n1 k1, .slice a2 n2 k2, .slice a3 n3 k3] 36)).alloc (.cells #[.int .i64 (f), .int .i64 (-1)] 24)) g (.slice a1 n1 k1) (.slice a2 n2 k2) (.slice a3 n3 k3) from by have h9 := (Bx.al (Bx.new wn (.slice a1 n1 k1) (.slice a2 n2 k2) (.slice a3 n3 k3) 36) (.cells #[.int .i64 (f), .int .i64 (-1)] 24)); simp only [World.size_alloc, hg, Nat.add_assoc, Nat.reduceAdd] at h9; exact h9)
    have SB := Lib.hid (show Box ((wn.alloc (.cells #[.slice a1 n1 k1, .slice a2 n2 k2, .slice a3 n3 k3] 36)).alloc (.cells #[.int .i64 (f), .int .i64 (-1)] 24)) (g + 1) (f) (-1) from by have h9 := (Box.new (wn.alloc (.cells #[.slice a1 n1 k1, .slice a2 n2 k2, .slice a3 n3 k3] 36)) (f) (-1) 24); simp only [World.size_alloc, hg, Nat.add_assoc, Nat.reduceAdd] at h9; exact h9)
    have HZg := Lib.hid (show (((wn.alloc (.cells #[.slice a1 n1 k1, .slice a2 n2 k2, .slice a3 n3 k3] 36)).alloc (.cells #[.int .i64 (f), .int .i64 (-1)] 24))).heap.size = g + 2 from by simp only [World.size_alloc, hg, Nat.add_assoc, Nat.reduceAdd])
    clear hg
    clear T X
    have T := Tn
    have X := Xn
    clear Tn Xn
    go_enter Try.func84, Try.ntmps84
    go_wp2_with fail
    rw [HGg.out]
    refine Calls.mono (K _ X.out HV.out) ?_
    intro e wn hh
    obtain ⟨he, hb⟩ := (by first | exact hh | exact Ro.mk hh | exact St.mk hh | exact LawOk.mk' hh : Mk _ _ e wn)
    subst he
    have Tn : Hid (Below w.heap.size w wn) := below_next T.out hb
    have Xn : Hid _ := Cal.below X.out hb
    have CBn : Hid _ := Bx.below CB.out hb
    have SBn : Hid _ := Box.below SB.out hb
    clear hb hh
    clear T X CB SB
    have T := Tn
    have X := Xn
    have CB := CBn
    have SB := SBn
    clear Tn Xn CBn SBn
    obtain ⟨⟨c0, c1, c2⟩, -⟩ := CB.out
    obtain ⟨⟨d0, d1⟩, df0, df1⟩ := SB.out
    go_wp2_with fail
    refine Calls.mono (l1In_c _ _ _ _) ?_
    intro e wn hh
    obtain ⟨he, hb⟩ := (by first | exact hh | exact Ro.mk hh | exact St.mk hh | exact LawOk.mk' hh : Mk _ _ e wn)
    subst he
    have Tn : Hid (Below w.heap.size w wn) := below_next T.out hb
    have Xn : Hid _ := Cal.below X.out hb
    have CBn : Hid _ := Bx.below CB.out hb
    have SBn : Hid _ := Box.below SB.out hb
    clear hb hh c0 c1 c2 d0 d1 df0 df1
    clear T X CB SB
    have T := Tn
    have X := Xn
    have CB := CBn
    have SB := SBn
    clear Tn Xn CBn SBn
    obtain ⟨⟨c0, c1, c2⟩, -⟩ := CB.out
    obtain ⟨⟨d0, d1⟩, df0, df1⟩ := SB.out
    go_wp2_with fail
    go_ret
    exact Mk.b E.out T.out
set_option maxHeartbeats 2000000 in
theorem l9Ahead_u (b1 o1 k1 b2 o2 k2 b3 o3 k3 n : Nat) (x : Cs) (f : Nat) (w : World) (hX : Cal w (some ⟨b1, o1, none⟩) n (some ⟨b2, o2, none⟩) n (some ⟨b3, o3, none⟩) n x) (h8 : n ≤ 8) (hf : f < n) (R : Int) (hR : fu (pc x true) f (n - f) = R) :
    Calls Try.prog 85 #[.agg #[.slice (some ⟨b1, o1, none⟩) n k1, .slice (some ⟨b2, o2, none⟩) n k2, .slice (some ⟨b3, o3, none⟩) n k3], (Value.agg #[.int .i64 (f), .int .i64 (1)])] w (Mk w (.int .i64 R)) := by
  have HR0 := Lib.hid hR
  clear hR
  refine at_base fun wn hwn => ?_
  have T := Lib.hid (show Below w.heap.size w wn from by rw [hwn]; exact Below.refl _ _)
  rw [← hwn] at hX
  have X := Lib.hid (show Cal wn (some ⟨b1, o1, none⟩) n (some ⟨b2, o2, none⟩) n (some ⟨b3, o3, none⟩) n x from hX)
  clear hX
  clear hwn
  obtain ⟨g, hg⟩ : ∃ g, Array.size (World.heap wn) = g := ⟨_, rfl⟩
  have HGg := Lib.hid hg
  have hTg : w.heap.size ≤ g := by rw [← hg]; exact T.out.size
  have Tn := Lib.hid (show Below w.heap.size w ((wn.alloc (.cells #[.slice (some ⟨b1, o1, none⟩) n k1, .slice (some ⟨b2, o2, none⟩) n k2, .slice (some ⟨b3, o3, none⟩) n k3] 36)).alloc (.cells #[.int .i64 (f), .int .i64 (1)] 24)) from (Below.al (Below.al T.out (.cells #[.slice (some ⟨b1, o1, none⟩) n k1, .slice (some ⟨b2, o2, none⟩) n k2, .slice (some ⟨b3, o3, none⟩) n k3] 36)) (.cells #[.int .i64 (f), .int .i64 (1)] 24)))
  have Xn := Lib.hid (Cal.below X.out (show Below wn.heap.size wn ((wn.alloc (.cells #[.slice (some ⟨b1, o1, none⟩) n k1, .slice (some ⟨b2, o2, none⟩) n k2, .slice (some ⟨b3, o3, none⟩) n k3] 36)).alloc (.cells #[.int .i64 (f), .int .i64 (1)] 24)) from (Below.al (Below.al (Below.refl _ _) (.cells #[.slice (some ⟨b1, o1, none⟩) n k1, .slice (some ⟨b2, o2, none⟩) n k2, .slice (some ⟨b3, o3, none⟩) n k3] 36)) (.cells #[.int .i64 (f), .int .i64 (1)] 24))))
  have CB := Lib.hid (show Bx ((wn.alloc (.cells #[.slice (some ⟨b1, o1, none⟩) n k1, .slice (some ⟨b2, o2, none⟩) n k2, .slice (some ⟨b3, o3, none⟩) n k3] 36)).alloc (.cells #[.int .i64 (f), .int .i64 (1)] 24)) g (.slice (some ⟨b1, o1, none⟩) n k1) (.slice (some ⟨b2, o2, none⟩) n k2) (.slice (some ⟨b3, o3, none⟩) n k3) from by have h9 := (Bx.al (Bx.new wn (.slice (some ⟨b1, o1, none⟩) n k1) (.slice (some ⟨b2, o2, none⟩) n k2) (.slice (some ⟨b3, o3, none⟩) n k3) 36) (.cells #[.int .i64 (f), .int .i64 (1)] 24)); simp only [World.size_alloc, hg, Nat.add_assoc, Nat.reduceAdd] at h9; exact h9)
  have SB := Lib.hid (show Box ((wn.alloc (.cells #[.slice (some ⟨b1, o1, none⟩) n k1, .slice (some ⟨b2, o2, none⟩) n k2, .slice (some ⟨b3, o3, none⟩) n k3] 36)).alloc (.cells #[.int .i64 (f), .int .i64 (1)] 24)) (g + 1) (f) (1) from by have h9 := (Box.new (wn.alloc (.cells #[.slice (some ⟨b1, o1, none⟩) n k1, .slice (some ⟨b2, o2, none⟩) n k2, .slice (some ⟨b3, o3, none⟩) n k3] 36)) (f) (1) 24); simp only [World.size_alloc, hg, Nat.add_assoc, Nat.reduceAdd] at h9; exact h9)
  have HZg := Lib.hid (show (((wn.alloc (.cells #[.slice (some ⟨b1, o1, none⟩) n k1, .slice (some ⟨b2, o2, none⟩) n k2, .slice (some ⟨b3, o3, none⟩) n k3] 36)).alloc (.cells #[.int .i64 (f), .int .i64 (1)] 24))).heap.size = g + 2 from by simp only [World.size_alloc, hg, Nat.add_assoc, Nat.reduceAdd])
  clear hg
  clear T X
  have T := Tn
  have X := Xn
  clear Tn Xn
  go_enter Try.func85, Try.ntmps85
  go_wp2_with fail
  rw [HGg.out]
  go_loopw [5] (fun v wr => ∃ k : Nat, f ≤ k ∧ k ≤ n ∧ v = .int .i64 k ∧ fu (pc x true) k (n - k) = R ∧ Below w.heap.size w wr ∧ Cal wr (some ⟨b1, o1, none⟩) n (some ⟨b2, o2, none⟩) n (some ⟨b3, o3, none⟩) n x ∧ Bx wr g (.slice (some ⟨b1, o1, none⟩) n k1) (.slice (some ⟨b2, o2, none⟩) n k2) (.slice (some ⟨b3, o3, none⟩) n k3) ∧ Box wr (g + 1) (f) (1)) (fun v _ => n - (intOf v).toNat)
  case atStart => exact ⟨f, Nat.le_refl _, by omega, rfl, HR0.out, T.out, X.out, CB.out, SB.out⟩
  case' round =>
    clear T X CB SB
    obtain ⟨k, hk1, hk, rfl, hR, h9T, h9X, h9CB, h9SB⟩ := hrel
    obtain ⟨wn, hwq⟩ : ∃ w0 : World, w0 = wr := ⟨_, rfl⟩
    rw [← hwq] at h9T h9X h9CB h9SB ⊢
    clear hwq
    have T := Lib.hid h9T
    have X := Lib.hid h9X
    have CB := Lib.hid h9CB
    have SB := Lib.hid h9SB
    clear h9T h9X h9CB h9SB
    have HR := Lib.hid hR
    clear hR HR0
    by_cases hlt : k < n
    case neg =>
      obtain rfl : k = n := by omega
      have E := Lib.hid (show (-1 : Int) = R from by have := HR.out; rw [Nat.sub_self] at this; exact this)
      have t1 := inB_f (lo := 0) (n := (k : Int)) (hi := (k : Int) - 1) (by omega)
      obtain ⟨⟨c0, c1, c2⟩, -⟩ := CB.out
      go_wp2_with fail
      refine Calls.mono (l1In_c _ _ _ _) ?_
      intro e wn hh
      obtain ⟨he, hb⟩ := (by first | exact hh | exact Ro.mk hh | exact St.mk hh | exact LawOk.mk' hh : Mk _ _ e wn)
      subst he
      have Tn : Hid (Below w.heap.size w wn) := below_next T.out hb
      have Xn : Hid _ := Cal.below X.out hb
      have CBn : Hid _ := Bx.below CB.out hb
      have SBn : Hid _ := Box.below SB.out hb
      clear hb hh c0 c1 c2
      clear T X CB SB
      have T := Tn
      have X := Xn
      have CB := CBn
      have SB := SBn
      clear Tn Xn CBn SBn
      go_wp2_with fail
      go_ret
      exact Mk.i E.out.symm T.out
    have t1 := inB_t (lo := 0) (n := (k : Int)) (hi := (n : Int) - 1) (by omega)
    have hki : (k : Int) < (n : Int) := by omega
    have E := Lib.hid (show (if pc x true k = true then (k : Int) else fu (pc x true) (k + 1) (n - (k + 1))) = R from by have := HR.out; rw [show n - k = (n - (k + 1)) + 1 by omega] at this; exact this)
    clear HR
    obtain ⟨⟨c0, c1, c2⟩, -⟩ := CB.out
    go_wp2_with fail
    refine Calls.mono (l1In_c _ _ _ _) ?_
    intro e wn hh
    obtain ⟨he, hb⟩ := (by first | exact hh | exact Ro.mk hh | exact St.mk hh | exact LawOk.mk' hh : Mk _ _ e wn)
    subst he
    have Tn : Hid (Below w.heap.size w wn) := below_next T.out hb
    have Xn : Hid _ := Cal.below X.out hb
    have CBn : Hid _ := Bx.below CB.out hb
    have SBn : Hid _ := Box.below SB.out hb
    clear hb hh c0 c1 c2
    clear T X CB SB
    have T := Tn
    have X := Xn
    have CB := CBn
    have SB := SBn
    clear Tn Xn CBn SBn
    have y1 := BS.cell X.out.1 hlt
    have y3 := BS.cell X.out.2.2 hlt
    obtain ⟨⟨c0, c1, c2⟩, -⟩ := CB.out
    obtain ⟨⟨d0, d1⟩, df0, df1⟩ := SB.out
    cases hc : bn x.c k
    case true =>
      rw [hc] at y3
      have E2 := Lib.hid (show (k : Int) = R from by have := E.out; rwa [if_pos (by unfold pc; rw [hc]; rfl)] at this)
      clear hc
      go_wp2_with fail
      go_ret
      exact Mk.i E2.out.symm T.out
    cases hu : bn x.u k
    case true =>
      rw [hc] at y3
      rw [hu] at y1
      have E2 := Lib.hid (show (k : Int) = R from by have := E.out; rwa [if_pos (by unfold pc; rw [hc, hu]; rfl)] at this)
      clear hc hu
      go_wp2_with fail
      go_ret
      exact Mk.i E2.out.symm T.out
    rw [hc] at y3
    rw [hu] at y1
    have E2 := Lib.hid (show fu (pc x true) (k + 1) (n - (k + 1)) = R from by have := E.out; rwa [if_neg (by unfold pc; rw [hc, hu]; simp)] at this)
    clear hc hu E
    go_wp2_with fail
    go_roundw
    case rel => exact ⟨k + 1, by omega, by omega, by go_num, E2.out, T.out, X.out, CB.out, SB.out⟩
    case measure => first | (simp [intOf]; done) | (simp [intOf]; omega) | omega
set_option maxHeartbeats 2000000 in
theorem l9Ahead_d (b1 o1 k1 b2 o2 k2 b3 o3 k3 n : Nat) (x : Cs) (f : Nat) (w : World) (hX : Cal w (some ⟨b1, o1, none⟩) n (some ⟨b2, o2, none⟩) n (some ⟨b3, o3, none⟩) n x) (h8 : n ≤ 8) (hf : f < n) (R : Int) (hR : fd (pc x false) (f + 1) = R) :
    Calls Try.prog 85 #[.agg #[.slice (some ⟨b1, o1, none⟩) n k1, .slice (some ⟨b2, o2, none⟩) n k2, .slice (some ⟨b3, o3, none⟩) n k3], (Value.agg #[.int .i64 (f), .int .i64 (-1)])] w (Mk w (.int .i64 R)) := by
  have HR0 := Lib.hid hR
  clear hR
  refine at_base fun wn hwn => ?_
  have T := Lib.hid (show Below w.heap.size w wn from by rw [hwn]; exact Below.refl _ _)
  rw [← hwn] at hX
  have X := Lib.hid (show Cal wn (some ⟨b1, o1, none⟩) n (some ⟨b2, o2, none⟩) n (some ⟨b3, o3, none⟩) n x from hX)
  clear hX
  clear hwn
  obtain ⟨g, hg⟩ : ∃ g, Array.size (World.heap wn) = g := ⟨_, rfl⟩
  have HGg := Lib.hid hg
  have hTg : w.heap.size ≤ g := by rw [← hg]; exact T.out.size
  have Tn := Lib.hid (show Below w.heap.size w ((wn.alloc (.cells #[.slice (some ⟨b1, o1, none⟩) n k1, .slice (some ⟨b2, o2, none⟩) n k2, .slice (some ⟨b3, o3, none⟩) n k3] 36)).alloc (.cells #[.int .i64 (f), .int .i64 (-1)] 24)) from (Below.al (Below.al T.out (.cells #[.slice (some ⟨b1, o1, none⟩) n k1, .slice (some ⟨b2, o2, none⟩) n k2, .slice (some ⟨b3, o3, none⟩) n k3] 36)) (.cells #[.int .i64 (f), .int .i64 (-1)] 24)))
  have Xn := Lib.hid (Cal.below X.out (show Below wn.heap.size wn ((wn.alloc (.cells #[.slice (some ⟨b1, o1, none⟩) n k1, .slice (some ⟨b2, o2, none⟩) n k2, .slice (some ⟨b3, o3, none⟩) n k3] 36)).alloc (.cells #[.int .i64 (f), .int .i64 (-1)] 24)) from (Below.al (Below.al (Below.refl _ _) (.cells #[.slice (some ⟨b1, o1, none⟩) n k1, .slice (some ⟨b2, o2, none⟩) n k2, .slice (some ⟨b3, o3, none⟩) n k3] 36)) (.cells #[.int .i64 (f), .int .i64 (-1)] 24))))
  have CB := Lib.hid (show Bx ((wn.alloc (.cells #[.slice (some ⟨b1, o1, none⟩) n k1, .slice (some ⟨b2, o2, none⟩) n k2, .slice (some ⟨b3, o3, none⟩) n k3] 36)).alloc (.cells #[.int .i64 (f), .int .i64 (-1)] 24)) g (.slice (some ⟨b1, o1, none⟩) n k1) (.slice (some ⟨b2, o2, none⟩) n k2) (.slice (some ⟨b3, o3, none⟩) n k3) from by have h9 := (Bx.al (Bx.new wn (.slice (some ⟨b1, o1, none⟩) n k1) (.slice (some ⟨b2, o2, none⟩) n k2) (.slice (some ⟨b3, o3, none⟩) n k3) 36) (.cells #[.int .i64 (f), .int .i64 (-1)] 24)); simp only [World.size_alloc, hg, Nat.add_assoc, Nat.reduceAdd] at h9; exact h9)
  have SB := Lib.hid (show Box ((wn.alloc (.cells #[.slice (some ⟨b1, o1, none⟩) n k1, .slice (some ⟨b2, o2, none⟩) n k2, .slice (some ⟨b3, o3, none⟩) n k3] 36)).alloc (.cells #[.int .i64 (f), .int .i64 (-1)] 24)) (g + 1) (f) (-1) from by have h9 := (Box.new (wn.alloc (.cells #[.slice (some ⟨b1, o1, none⟩) n k1, .slice (some ⟨b2, o2, none⟩) n k2, .slice (some ⟨b3, o3, none⟩) n k3] 36)) (f) (-1) 24); simp only [World.size_alloc, hg, Nat.add_assoc, Nat.reduceAdd] at h9; exact h9)
  have HZg := Lib.hid (show (((wn.alloc (.cells #[.slice (some ⟨b1, o1, none⟩) n k1, .slice (some ⟨b2, o2, none⟩) n k2, .slice (some ⟨b3, o3, none⟩) n k3] 36)).alloc (.cells #[.int .i64 (f), .int .i64 (-1)] 24))).heap.size = g + 2 from by simp only [World.size_alloc, hg, Nat.add_assoc, Nat.reduceAdd])
  clear hg
  clear T X
  have T := Tn
  have X := Xn
  clear Tn Xn
  go_enter Try.func85, Try.ntmps85
  go_wp2_with fail
  rw [HGg.out]
  go_loopw [5] (fun v wr => ∃ k : Nat, k ≤ f + 1 ∧ v = .int .i64 ((k : Int) - 1) ∧ fd (pc x false) k = R ∧ Below w.heap.size w wr ∧ Cal wr (some ⟨b1, o1, none⟩) n (some ⟨b2, o2, none⟩) n (some ⟨b3, o3, none⟩) n x ∧ Bx wr g (.slice (some ⟨b1, o1, none⟩) n k1) (.slice (some ⟨b2, o2, none⟩) n k2) (.slice (some ⟨b3, o3, none⟩) n k3) ∧ Box wr (g + 1) (f) (-1)) (fun v _ => (intOf v + 1).toNat)
  case atStart => exact ⟨f + 1, Nat.le_refl _, by simp, HR0.out, T.out, X.out, CB.out, SB.out⟩
  case' round =>
    clear T X CB SB
    obtain ⟨k, hk, rfl, hR, h9T, h9X, h9CB, h9SB⟩ := hrel
    obtain ⟨wn, hwq⟩ : ∃ w0 : World, w0 = wr := ⟨_, rfl⟩
    rw [← hwq] at h9T h9X h9CB h9SB ⊢
    clear hwq
    have T := Lib.hid h9T
    have X := Lib.hid h9X
    have CB := Lib.hid h9CB
    have SB := Lib.hid h9SB
    clear h9T h9X h9CB h9SB
    have HR := Lib.hid hR
    clear hR HR0
    by_cases hlt : 0 < k
    case neg =>
      obtain rfl : k = 0 := by omega
      have E := Lib.hid (show (-1 : Int) = R from HR.out)
      have t1 := inB_f (lo := 0) (n := (-1 : Int)) (hi := (n : Int) - 1) (by omega)
      obtain ⟨⟨c0, c1, c2⟩, -⟩ := CB.out
      go_wp2_with fail
      refine Calls.mono (l1In_c _ _ _ _) ?_
      intro e wn hh
      obtain ⟨he, hb⟩ := (by first | exact hh | exact Ro.mk hh | exact St.mk hh | exact LawOk.mk' hh : Mk _ _ e wn)
      subst he
      have Tn : Hid (Below w.heap.size w wn) := below_next T.out hb
      have Xn : Hid _ := Cal.below X.out hb
      have CBn : Hid _ := Bx.below CB.out hb
      have SBn : Hid _ := Box.below SB.out hb
      clear hb hh c0 c1 c2
      clear T X CB SB
      have T := Tn
      have X := Xn
      have CB := CBn
      have SB := SBn
      clear Tn Xn CBn SBn
      go_wp2_with fail
      go_ret
      exact Mk.i E.out.symm T.out
    obtain ⟨k, rfl⟩ : ∃ j, k = j + 1 := ⟨k - 1, by omega⟩
    rw [show ((k + 1 : Nat) : Int) - 1 = (k : Int) by omega]
    have hkn : k < n := by omega
    have t1 := inB_t (lo := 0) (n := (k : Int)) (hi := (n : Int) - 1) (by omega)
    have hki : (k : Int) < (n : Int) := by omega
    have E := Lib.hid (show (if pc x false k = true then (k : Int) else fd (pc x false) k) = R from HR.out)
    clear HR hlt
    obtain ⟨⟨c0, c1, c2⟩, -⟩ := CB.out
    go_wp2_with fail
    refine Calls.mono (l1In_c _ _ _ _) ?_
    intro e wn hh
    obtain ⟨he, hb⟩ := (by first | exact hh | exact Ro.mk hh | exact St.mk hh | exact LawOk.mk' hh : Mk _ _ e wn)
    subst he
    have Tn : Hid (Below w.heap.size w wn) := below_next T.out hb
    have Xn : Hid _ := Cal.below X.out hb
    have CBn : Hid _ := Bx.below CB.out hb
    have SBn : Hid _ := Box.below SB.out hb
    clear hb hh c0 c1 c2
    clear T X CB SB
    have T := Tn
    have X := Xn
    have CB := CBn
    have SB := SBn
    clear Tn Xn CBn SBn
    have y2 := BS.cell X.out.2.1 hkn
    have y3 := BS.cell X.out.2.2 hkn
    obtain ⟨⟨c0, c1, c2⟩, -⟩ := CB.out
    obtain ⟨⟨d0, d1⟩, df0, df1⟩ := SB.out
    cases hc : bn x.c k
    case true =>
      rw [hc] at y3
      have E2 := Lib.hid (show (k : Int) = R from by have := E.out; rwa [if_pos (by unfold pc; rw [hc]; rfl)] at this)
      clear hc
      go_wp2_with fail
      go_ret
      exact Mk.i E2.out.symm T.out
    cases hu : bn x.d k
    case true =>
      rw [hc] at y3
      rw [hu] at y2
      have E2 := Lib.hid (show (k : Int) = R from by have := E.out; rwa [if_pos (by unfold pc; rw [hc, hu]; rfl)] at this)
      clear hc hu
      go_wp2_with fail
      go_ret
      exact Mk.i E2.out.symm T.out
    rw [hc] at y3
    rw [hu] at y2
    have E2 := Lib.hid (show fd (pc x false) k = R from by have := E.out; rwa [if_neg (by unfold pc; rw [hc, hu]; simp)] at this)
    clear hc hu E
    go_wp2_with fail
    go_roundw
    case rel => exact ⟨k, by omega, by go_num, E2.out, T.out, X.out, CB.out, SB.out⟩
    case measure => first | (simp [intOf]; done) | (simp [intOf]; omega) | omega
set_option maxHeartbeats 2000000 in
theorem l9Last_u (b1 o1 k1 b2 o2 k2 b3 o3 k3 n : Nat) (x : Cs) (f : Nat) (w : World) (hX : Cal w (some ⟨b1, o1, none⟩) n (some ⟨b2, o2, none⟩) n (some ⟨b3, o3, none⟩) n x) (h8 : n ≤ 8) (hf : f < n) (R : Int) (hR : lu (qc x true) f (n - f) (-1) = R) :
    Calls Try.prog 86 #[.agg #[.slice (some ⟨b1, o1, none⟩) n k1, .slice (some ⟨b2, o2, none⟩) n k2, .slice (some ⟨b3, o3, none⟩) n k3], (Value.agg #[.int .i64 (f), .int .i64 (1)])] w (Mk w (.int .i64 R)) := by
  have HR0 := Lib.hid hR
  clear hR
  refine at_base fun wn hwn => ?_
  have T := Lib.hid (show Below w.heap.size w wn from by rw [hwn]; exact Below.refl _ _)
  rw [← hwn] at hX
  have X := Lib.hid (show Cal wn (some ⟨b1, o1, none⟩) n (some ⟨b2, o2, none⟩) n (some ⟨b3, o3, none⟩) n x from hX)
  clear hX
  clear hwn
  obtain ⟨g, hg⟩ : ∃ g, Array.size (World.heap wn) = g := ⟨_, rfl⟩
  have HGg := Lib.hid hg
  have hTg : w.heap.size ≤ g := by rw [← hg]; exact T.out.size
  have Tn := Lib.hid (show Below w.heap.size w ((wn.alloc (.cells #[.slice (some ⟨b1, o1, none⟩) n k1, .slice (some ⟨b2, o2, none⟩) n k2, .slice (some ⟨b3, o3, none⟩) n k3] 36)).alloc (.cells #[.int .i64 (f), .int .i64 (1)] 24)) from (Below.al (Below.al T.out (.cells #[.slice (some ⟨b1, o1, none⟩) n k1, .slice (some ⟨b2, o2, none⟩) n k2, .slice (some ⟨b3, o3, none⟩) n k3] 36)) (.cells #[.int .i64 (f), .int .i64 (1)] 24)))
  have Xn := Lib.hid (Cal.below X.out (show Below wn.heap.size wn ((wn.alloc (.cells #[.slice (some ⟨b1, o1, none⟩) n k1, .slice (some ⟨b2, o2, none⟩) n k2, .slice (some ⟨b3, o3, none⟩) n k3] 36)).alloc (.cells #[.int .i64 (f), .int .i64 (1)] 24)) from (Below.al (Below.al (Below.refl _ _) (.cells #[.slice (some ⟨b1, o1, none⟩) n k1, .slice (some ⟨b2, o2, none⟩) n k2, .slice (some ⟨b3, o3, none⟩) n k3] 36)) (.cells #[.int .i64 (f), .int .i64 (1)] 24))))
  have CB := Lib.hid (show Bx ((wn.alloc (.cells #[.slice (some ⟨b1, o1, none⟩) n k1, .slice (some ⟨b2, o2, none⟩) n k2, .slice (some ⟨b3, o3, none⟩) n k3] 36)).alloc (.cells #[.int .i64 (f), .int .i64 (1)] 24)) g (.slice (some ⟨b1, o1, none⟩) n k1) (.slice (some ⟨b2, o2, none⟩) n k2) (.slice (some ⟨b3, o3, none⟩) n k3) from by have h9 := (Bx.al (Bx.new wn (.slice (some ⟨b1, o1, none⟩) n k1) (.slice (some ⟨b2, o2, none⟩) n k2) (.slice (some ⟨b3, o3, none⟩) n k3) 36) (.cells #[.int .i64 (f), .int .i64 (1)] 24)); simp only [World.size_alloc, hg, Nat.add_assoc, Nat.reduceAdd] at h9; exact h9)
  have SB := Lib.hid (show Box ((wn.alloc (.cells #[.slice (some ⟨b1, o1, none⟩) n k1, .slice (some ⟨b2, o2, none⟩) n k2, .slice (some ⟨b3, o3, none⟩) n k3] 36)).alloc (.cells #[.int .i64 (f), .int .i64 (1)] 24)) (g + 1) (f) (1) from by have h9 := (Box.new (wn.alloc (.cells #[.slice (some ⟨b1, o1, none⟩) n k1, .slice (some ⟨b2, o2, none⟩) n k2, .slice (some ⟨b3, o3, none⟩) n k3] 36)) (f) (1) 24); simp only [World.size_alloc, hg, Nat.add_assoc, Nat.reduceAdd] at h9; exact h9)
  have HZg := Lib.hid (show (((wn.alloc (.cells #[.slice (some ⟨b1, o1, none⟩) n k1, .slice (some ⟨b2, o2, none⟩) n k2, .slice (some ⟨b3, o3, none⟩) n k3] 36)).alloc (.cells #[.int .i64 (f), .int .i64 (1)] 24))).heap.size = g + 2 from by simp only [World.size_alloc, hg, Nat.add_assoc, Nat.reduceAdd])
  clear hg
  clear T X
  have T := Tn
  have X := Xn
  clear Tn Xn
  go_enter Try.func86, Try.ntmps86
  go_wp2_with fail
  rw [HGg.out]
  go_loopw [5, 6] (fun u v wr => ∃ (k : Nat) (A : Int), f ≤ k ∧ k ≤ n ∧ u = .int .i64 A ∧ v = .int .i64 k ∧ lu (qc x true) k (n - k) A = R ∧ Below w.heap.size w wr ∧ Cal wr (some ⟨b1, o1, none⟩) n (some ⟨b2, o2, none⟩) n (some ⟨b3, o3, none⟩) n x ∧ Bx wr g (.slice (some ⟨b1, o1, none⟩) n k1) (.slice (some ⟨b2, o2, none⟩) n k2) (.slice (some ⟨b3, o3, none⟩) n k3) ∧ Box wr (g + 1) (f) (1)) (fun u v _ => n - (intOf v).toNat)
  case atStart => exact ⟨f, -1, Nat.le_refl _, by omega, rfl, rfl, HR0.out, T.out, X.out, CB.out, SB.out⟩
  case' round =>
    clear T X CB SB
    obtain ⟨k, A, hk1, hk, rfl, rfl, hR, h9T, h9X, h9CB, h9SB⟩ := hrel
    obtain ⟨wn, hwq⟩ : ∃ w0 : World, w0 = wr := ⟨_, rfl⟩
    rw [← hwq] at h9T h9X h9CB h9SB ⊢
    clear hwq
    have T := Lib.hid h9T
    have X := Lib.hid h9X
    have CB := Lib.hid h9CB
    have SB := Lib.hid h9SB
    clear h9T h9X h9CB h9SB
    have HR := Lib.hid hR
    clear hR HR0
    by_cases hlt : k < n
    case neg =>
      obtain rfl : k = n := by omega
      have E := Lib.hid (show A = R from by have := HR.out; rw [Nat.sub_self] at this; exact this)
      have t1 := inB_f (lo := 0) (n := (k : Int)) (hi := (k : Int) - 1) (by omega)
      obtain ⟨⟨c0, c1, c2⟩, -⟩ := CB.out
      go_wp2_with fail
      refine Calls.mono (l1In_c _ _ _ _) ?_
      intro e wn hh
      obtain ⟨he, hb⟩ := (by first | exact hh | exact Ro.mk hh | exact St.mk hh | exact LawOk.mk' hh : Mk _ _ e wn)
      subst he
      have Tn : Hid (Below w.heap.size w wn) := below_next T.out hb
      have Xn : Hid _ := Cal.below X.out hb
      have CBn : Hid _ := Bx.below CB.out hb
      have SBn : Hid _ := Box.below SB.out hb
      clear hb hh c0 c1 c2
      clear T X CB SB
      have T := Tn
      have X := Xn
      have CB := CBn
      have SB := SBn
      clear Tn Xn CBn SBn
      go_wp2_with fail
      go_ret
      exact Mk.i E.out.symm T.out
    have t1 := inB_t (lo := 0) (n := (k : Int)) (hi := (n : Int) - 1) (by omega)
    have hki : (k : Int) < (n : Int) := by omega
    have E := Lib.hid (show lu (qc x true) (k + 1) (n - (k + 1)) (if qc x true k = true then (k : Int) else A) = R from by have := HR.out; rw [show n - k = (n - (k + 1)) + 1 by omega] at this; exact this)
    clear HR
    obtain ⟨⟨c0, c1, c2⟩, -⟩ := CB.out
    go_wp2_with fail
    refine Calls.mono (l1In_c _ _ _ _) ?_
    intro e wn hh
    obtain ⟨he, hb⟩ := (by first | exact hh | exact Ro.mk hh | exact St.mk hh | exact LawOk.mk' hh : Mk _ _ e wn)
    subst he
    have Tn : Hid (Below w.heap.size w wn) := below_next T.out hb
    have Xn : Hid _ := Cal.below X.out hb
    have CBn : Hid _ := Bx.below CB.out hb
    have SBn : Hid _ := Box.below SB.out hb
    clear hb hh c0 c1 c2
    clear T X CB SB
    have T := Tn
    have X := Xn
    have CB := CBn
    have SB := SBn
    clear Tn Xn CBn SBn
    have y2 := BS.cell X.out.2.1 hlt
    obtain ⟨⟨c0, c1, c2⟩, -⟩ := CB.out
    obtain ⟨⟨d0, d1⟩, df0, df1⟩ := SB.out
    cases hu : bn x.d k
    case true =>
      rw [hu] at y2
      have E2 := Lib.hid (show lu (qc x true) (k + 1) (n - (k + 1)) k = R from by have := E.out; rwa [if_pos (show qc x true k = true from hu)] at this)
      clear hu E
      go_wp2_with fail
      go_roundw
      case rel => exact ⟨k + 1, (k : Int), by omega, by omega, rfl, by go_num, E2.out, T.out, X.out, CB.out, SB.out⟩
      case measure => first | (simp [intOf]; done) | (simp [intOf]; omega) | omega
    rw [hu] at y2
    have E2 := Lib.hid (show lu (qc x true) (k + 1) (n - (k + 1)) A = R from by have := E.out; rwa [if_neg (by show ¬ bn x.d k = true; rw [hu]; simp)] at this)
    clear hu E
    go_wp2_with fail
    go_roundw
    case rel => exact ⟨k + 1, A, by omega, by omega, rfl, by go_num, E2.out, T.out, X.out, CB.out, SB.out⟩
    case measure => first | (simp [intOf]; done) | (simp [intOf]; omega) | omega
set_option maxHeartbeats 2000000 in
theorem l9Last_d (b1 o1 k1 b2 o2 k2 b3 o3 k3 n : Nat) (x : Cs) (f : Nat) (w : World) (hX : Cal w (some ⟨b1, o1, none⟩) n (some ⟨b2, o2, none⟩) n (some ⟨b3, o3, none⟩) n x) (h8 : n ≤ 8) (hf : f < n) (R : Int) (hR : ld (qc x false) (f + 1) (-1) = R) :
    Calls Try.prog 86 #[.agg #[.slice (some ⟨b1, o1, none⟩) n k1, .slice (some ⟨b2, o2, none⟩) n k2, .slice (some ⟨b3, o3, none⟩) n k3], (Value.agg #[.int .i64 (f), .int .i64 (-1)])] w (Mk w (.int .i64 R)) := by
  have HR0 := Lib.hid hR
  clear hR
  refine at_base fun wn hwn => ?_
  have T := Lib.hid (show Below w.heap.size w wn from by rw [hwn]; exact Below.refl _ _)
  rw [← hwn] at hX
  have X := Lib.hid (show Cal wn (some ⟨b1, o1, none⟩) n (some ⟨b2, o2, none⟩) n (some ⟨b3, o3, none⟩) n x from hX)
  clear hX
  clear hwn
  obtain ⟨g, hg⟩ : ∃ g, Array.size (World.heap wn) = g := ⟨_, rfl⟩
  have HGg := Lib.hid hg
  have hTg : w.heap.size ≤ g := by rw [← hg]; exact T.out.size
  have Tn := Lib.hid (show Below w.heap.size w ((wn.alloc (.cells #[.slice (some ⟨b1, o1, none⟩) n k1, .slice (some ⟨b2, o2, none⟩) n k2, .slice (some ⟨b3, o3, none⟩) n k3] 36)).alloc (.cells #[.int .i64 (f), .int .i64 (-1)] 24)) from (Below.al (Below.al T.out (.cells #[.slice (some ⟨b1, o1, none⟩) n k1, .slice (some ⟨b2, o2, none⟩) n k2, .slice (some ⟨b3, o3, none⟩) n k3] 36)) (.cells #[.int .i64 (f), .int .i64 (-1)] 24)))
  have Xn := Lib.hid (Cal.below X.out (show Below wn.heap.size wn ((wn.alloc (.cells #[.slice (some ⟨b1, o1, none⟩) n k1, .slice (some ⟨b2, o2, none⟩) n k2, .slice (some ⟨b3, o3, none⟩) n k3] 36)).alloc (.cells #[.int .i64 (f), .int .i64 (-1)] 24)) from (Below.al (Below.al (Below.refl _ _) (.cells #[.slice (some ⟨b1, o1, none⟩) n k1, .slice (some ⟨b2, o2, none⟩) n k2, .slice (some ⟨b3, o3, none⟩) n k3] 36)) (.cells #[.int .i64 (f), .int .i64 (-1)] 24))))
  have CB := Lib.hid (show Bx ((wn.alloc (.cells #[.slice (some ⟨b1, o1, none⟩) n k1, .slice (some ⟨b2, o2, none⟩) n k2, .slice (some ⟨b3, o3, none⟩) n k3] 36)).alloc (.cells #[.int .i64 (f), .int .i64 (-1)] 24)) g (.slice (some ⟨b1, o1, none⟩) n k1) (.slice (some ⟨b2, o2, none⟩) n k2) (.slice (some ⟨b3, o3, none⟩) n k3) from by have h9 := (Bx.al (Bx.new wn (.slice (some ⟨b1, o1, none⟩) n k1) (.slice (some ⟨b2, o2, none⟩) n k2) (.slice (some ⟨b3, o3, none⟩) n k3) 36) (.cells #[.int .i64 (f), .int .i64 (-1)] 24)); simp only [World.size_alloc, hg, Nat.add_assoc, Nat.reduceAdd] at h9; exact h9)
  have SB := Lib.hid (show Box ((wn.alloc (.cells #[.slice (some ⟨b1, o1, none⟩) n k1, .slice (some ⟨b2, o2, none⟩) n k2, .slice (some ⟨b3, o3, none⟩) n k3] 36)).alloc (.cells #[.int .i64 (f), .int .i64 (-1)] 24)) (g + 1) (f) (-1) from by have h9 := (Box.new (wn.alloc (.cells #[.slice (some ⟨b1, o1, none⟩) n k1, .slice (some ⟨b2, o2, none⟩) n k2, .slice (some ⟨b3, o3, none⟩) n k3] 36)) (f) (-1) 24); simp only [World.size_alloc, hg, Nat.add_assoc, Nat.reduceAdd] at h9; exact h9)
  have HZg := Lib.hid (show (((wn.alloc (.cells #[.slice (some ⟨b1, o1, none⟩) n k1, .slice (some ⟨b2, o2, none⟩) n k2, .slice (some ⟨b3, o3, none⟩) n k3] 36)).alloc (.cells #[.int .i64 (f), .int .i64 (-1)] 24))).heap.size = g + 2 from by simp only [World.size_alloc, hg, Nat.add_assoc, Nat.reduceAdd])
  clear hg
  clear T X
  have T := Tn
  have X := Xn
  clear Tn Xn
  go_enter Try.func86, Try.ntmps86
  go_wp2_with fail
  rw [HGg.out]
  go_loopw [5, 6] (fun u v wr => ∃ (k : Nat) (A : Int), k ≤ f + 1 ∧ u = .int .i64 A ∧ v = .int .i64 ((k : Int) - 1) ∧ ld (qc x false) k A = R ∧ Below w.heap.size w wr ∧ Cal wr (some ⟨b1, o1, none⟩) n (some ⟨b2, o2, none⟩) n (some ⟨b3, o3, none⟩) n x ∧ Bx wr g (.slice (some ⟨b1, o1, none⟩) n k1) (.slice (some ⟨b2, o2, none⟩) n k2) (.slice (some ⟨b3, o3, none⟩) n k3) ∧ Box wr (g + 1) (f) (-1)) (fun u v _ => (intOf v + 1).toNat)
  case atStart => exact ⟨f + 1, -1, Nat.le_refl _, rfl, by simp, HR0.out, T.out, X.out, CB.out, SB.out⟩
  case' round =>
    clear T X CB SB
    obtain ⟨k, A, hk, rfl, rfl, hR, h9T, h9X, h9CB, h9SB⟩ := hrel
    obtain ⟨wn, hwq⟩ : ∃ w0 : World, w0 = wr := ⟨_, rfl⟩
    rw [← hwq] at h9T h9X h9CB h9SB ⊢
    clear hwq
    have T := Lib.hid h9T
    have X := Lib.hid h9X
    have CB := Lib.hid h9CB
    have SB := Lib.hid h9SB
    clear h9T h9X h9CB h9SB
    have HR := Lib.hid hR
    clear hR HR0
    by_cases hlt : 0 < k
    case neg =>
      obtain rfl : k = 0 := by omega
      have E := Lib.hid (show A = R from HR.out)
      have t1 := inB_f (lo := 0) (n := (-1 : Int)) (hi := (n : Int) - 1) (by omega)
      obtain ⟨⟨c0, c1, c2⟩, -⟩ := CB.out
      go_wp2_with fail
      refine Calls.mono (l1In_c _ _ _ _) ?_
      intro e wn hh
      obtain ⟨he, hb⟩ := (by first | exact hh | exact Ro.mk hh | exact St.mk hh | exact LawOk.mk' hh : Mk _ _ e wn)
      subst he
      have Tn : Hid (Below w.heap.size w wn) := below_next T.out hb
      have Xn : Hid _ := Cal.below X.out hb
      have CBn : Hid _ := Bx.below CB.out hb
      have SBn : Hid _ := Box.below SB.out hb
      clear hb hh c0 c1 c2
      clear T X CB SB
      have T := Tn
      have X := Xn
      have CB := CBn
      have SB := SBn
      clear Tn Xn CBn SBn
      go_wp2_with fail
      go_ret
      exact Mk.i E.out.symm T.out
    obtain ⟨k, rfl⟩ : ∃ j, k = j + 1 := ⟨k - 1, by omega⟩
    rw [show ((k + 1 : Nat) : Int) - 1 = (k : Int) by omega]
    have hkn : k < n := by omega
    have t1 := inB_t (lo := 0) (n := (k : Int)) (hi := (n : Int) - 1) (by omega)
    have hki : (k : Int) < (n : Int) := by omega
    have E := Lib.hid (show ld (qc x false) k (if qc x false k = true then (k : Int) else A) = R from HR.out)
    clear HR hlt
    obtain ⟨⟨c0, c1, c2⟩, -⟩ := CB.out
    go_wp2_with fail
    refine Calls.mono (l1In_c _ _ _ _) ?_
    intro e wn hh
    obtain ⟨he, hb⟩ := (by first | exact hh | exact Ro.mk hh | exact St.mk hh | exact LawOk.mk' hh : Mk _ _ e wn)
    subst he
    have Tn : Hid (Below w.heap.size w wn) := below_next T.out hb
    have Xn : Hid _ := Cal.below X.out hb
    have CBn : Hid _ := Bx.below CB.out hb
    have SBn : Hid _ := Box.below SB.out hb
    clear hb hh c0 c1 c2
    clear T X CB SB
    have T := Tn
    have X := Xn
    have CB := CBn
    have SB := SBn
    clear Tn Xn CBn SBn
    have y1 := BS.cell X.out.1 hkn
    obtain ⟨⟨c0, c1, c2⟩, -⟩ := CB.out
    obtain ⟨⟨d0, d1⟩, df0, df1⟩ := SB.out
    cases hu : bn x.u k
    case true =>
      rw [hu] at y1
      have E2 := Lib.hid (show ld (qc x false) k (k : Int) = R from by have := E.out; rwa [if_pos (show qc x false k = true from hu)] at this)
      clear hu E
      go_wp2_with fail
      go_roundw
      case rel => exact ⟨k, (k : Int), by omega, rfl, by go_num, E2.out, T.out, X.out, CB.out, SB.out⟩
      case measure => first | (simp [intOf]; done) | (simp [intOf]; omega) | omega
    rw [hu] at y1
    have E2 := Lib.hid (show ld (qc x false) k A = R from by have := E.out; rwa [if_neg (by show ¬ bn x.u k = true; rw [hu]; simp)] at this)
    clear hu E
    go_wp2_with fail
    go_roundw
    case rel => exact ⟨k, A, by omega, rfl, by go_num, E2.out, T.out, X.out, CB.out, SB.out⟩
    case measure => first | (simp [intOf]; done) | (simp [intOf]; omega) | omega
end Go.Proofs.Ytfhhgddajmihjaa
