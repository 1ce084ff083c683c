/- The laws' helpers over stops. -/
import Derived.Test.Ytkpginkkfobblaa9D
import Derived.Test.Ytkpginkkfobblaa8Y
import Derived.Deep.CutRange
namespace Go.Proofs.Ytkpginkkfobblaa
open Go.RowKit
set_option linter.unusedVariables false

theorem RS.two {w : World} {b off n i : Nat} {xs : List Int} (h : RS 2 w (some ⟨b, off, none⟩) n xs) (hi : i < n) : w.cell? ⟨b, off + i * 2, none⟩ = some (.int .i64 (nth xs (i * 2))) ∧ w.cell? ⟨b, off + i * 2 + 1, none⟩ = some (.int .i64 (nth xs (i * 2 + 1))) := by
  obtain ⟨hl, h | ⟨b', o', e, h⟩⟩ := h
  · omega
  · simp at e
    obtain ⟨rfl, rfl⟩ := e
    exact ⟨h (i * 2) (by omega), by have := h (i * 2 + 1) (by omega); rwa [← Nat.add_assoc] at this⟩
theorem RS.some {k : Nat} {w : World} {a : Option Addr} {n : Nat} {xs : List Int} (h : RS k w a n xs) (hn : 1 ≤ n) : ∃ b o, a = Option.some ⟨b, o, Option.none⟩ := by
  obtain ⟨_, h | ⟨b', o', e, h⟩⟩ := h
  · omega
  · exact ⟨_, _, e⟩
theorem nth_ext2 {xs ys : List Int} {n : Nat} (h1 : xs.length = n * 2) (h2 : ys.length = n * 2) (h : ∀ i, i < n → nth xs (i * 2) = nth ys (i * 2) ∧ nth xs (i * 2 + 1) = nth ys (i * 2 + 1)) : xs = ys := by
  apply List.ext_getElem (by omega)
  intro i hi1 hi2
  have q := h (i / 2) (by omega)
  rw [← nth_eq hi1, ← nth_eq hi2]
  rcases (by omega : i = i / 2 * 2 ∨ i = i / 2 * 2 + 1) with e | e
  · rw [e]; exact q.1
  · rw [e]; exact q.2
set_option maxHeartbeats 1000000 in
theorem sameStops_c (a : Option Addr) (n cap : Nat) (xs : List Int) (a' : Option Addr) (n' cap' : Nat) (ys : List Int) (w : World) (hx : RS 2 w a n xs) (hy : RS 2 w a' n' ys) (hm : n ≤ 1048577) :
    Calls Try.prog 22 #[.slice a n cap, .slice a' n' cap'] w (Ro w (.bool (tr (xs = ys)))) := by
  have l1 := hx.1
  have l2 := hy.1
  have HX := Lib.hid hx
  have HY := Lib.hid hy
  clear hx hy
  by_cases hl : n = n'
  case neg =>
    have t : ((n : Int) != (n' : Int)) = true := by simp; omega
    have E := Lib.hid (tr_false (fun h : xs = ys => hl (by have := congrArg List.length h; omega)))
    clear hl l1 l2
    go_enter Try.func22, Try.ntmps22
    go_wp2_with fail
    go_ret
    exact Ro.b E.out (by first | exact ⟨0, rfl⟩ | (simp only [World.drewN_drewN]; exact ⟨_, rfl⟩) | exact ⟨_, rfl⟩)
  subst hl
  have L1 := Lib.hid l1
  have L2 := Lib.hid l2
  clear l1 l2
  go_enter Try.func22, Try.ntmps22
  go_wp2_with fail
  obtain ⟨wo, hwo⟩ : ∃ wo : World, wo = w := ⟨_, rfl⟩
  go_loopw [5] (fun v wr => ∃ k m : Nat, k ≤ n ∧ v = .int .i64 k ∧ wr = wo.drewN m ∧ ∀ i, i < k → nth xs (i * 2) = nth ys (i * 2) ∧ nth xs (i * 2 + 1) = nth ys (i * 2 + 1)) (fun v _ => n - (intOf v).toNat)
  case atStart => exact ⟨0, 0, by omega, rfl, by rw [hwo]; rfl, by omega⟩
  case round =>
    obtain ⟨k, m, hk, rfl, hw, hall⟩ := hrel
    subst hwo
    have HA := Lib.hid hall
    have HW := Lib.hid hw
    clear hw hall
    by_cases hlt : k < n
    · obtain ⟨b, off, rfl⟩ := RS.some HX.out (by omega)
      obtain ⟨b', off', rfl⟩ := RS.some HY.out (by omega)
      obtain ⟨c0, c1⟩ : wr.cell? ⟨b, off + k * 2, none⟩ = some (.int .i64 (nth xs (k * 2))) ∧ wr.cell? ⟨b, off + k * 2 + 1, none⟩ = some (.int .i64 (nth xs (k * 2 + 1))) := by rw [HW.out]; exact RS.two HX.out hlt
      obtain ⟨d0, d1⟩ : wr.cell? ⟨b', off' + k * 2, none⟩ = some (.int .i64 (nth ys (k * 2))) ∧ wr.cell? ⟨b', off' + k * 2 + 1, none⟩ = some (.int .i64 (nth ys (k * 2 + 1))) := by rw [HW.out]; exact RS.two HY.out hlt
      have hlti : (k : Int) < (n : Int) := by omega
      by_cases he : nth xs (k * 2) = nth ys (k * 2) ∧ nth xs (k * 2 + 1) = nth ys (k * 2 + 1)
      · rw [he.1] at c0
        rw [he.2] at c1
        have HE := Lib.hid he
        clear he
        go_wp2_with fail
        go_quiet (fail)
        go_wp2_with fail
        go_roundw
        case rel => exact ⟨k + 1, _, by omega, by go_num, (by rw [HW.out]; first | exact World.drewN_drewN .. | (simp only [World.drewN_drewN]; rfl) | (simp only [World.drewN_drewN])), fun i hi => by
          by_cases e : i = k
          · subst e; exact HE.out
          · exact HA.out i (by omega)⟩
        case measure => simp [intOf]; omega
      · have E := Lib.hid (tr_false (fun h : xs = ys => he (by rw [h]; exact ⟨rfl, rfl⟩)))
        obtain ⟨p, hp⟩ : ∃ p, nth xs (k * 2) = p := ⟨_, rfl⟩
        obtain ⟨q, hq⟩ : ∃ q, nth xs (k * 2 + 1) = q := ⟨_, rfl⟩
        obtain ⟨p', hp'⟩ : ∃ p, nth ys (k * 2) = p := ⟨_, rfl⟩
        obtain ⟨q', hq'⟩ : ∃ q, nth ys (k * 2 + 1) = q := ⟨_, rfl⟩
        rw [hp, hp', hq, hq'] at he
        rw [hp] at c0
        rw [hq] at c1
        rw [hp'] at d0
        rw [hq'] at d1
        clear hp hq hp' hq'
        rcases (by omega : p ≠ p' ∨ (p = p' ∧ q ≠ q')) with g | ⟨rfl, g⟩
        · have g2 : (p == p') = false := beq_false_of_ne g
          have g3 : ¬ p = p' := g
          clear he
          go_wp2_with fail
          go_quiet (fail)
          go_wp2_with fail
          go_ret
          exact Ro.b E.out (by rw [HW.out]; (try simp only [World.drewN_drewN]); exact ⟨_, rfl⟩)
        · have g2 : (q == q') = false := beq_false_of_ne g
          have g3 : ¬ q = q' := g
          clear he
          go_wp2_with fail
          go_quiet (fail)
          go_wp2_with fail
          go_ret
          exact Ro.b E.out (by rw [HW.out]; (try simp only [World.drewN_drewN]); exact ⟨_, rfl⟩)
    · obtain rfl : k = n := by omega
      have E := Lib.hid (tr_true (nth_ext2 (xs := xs) (ys := ys) L1.out L2.out HA.out))
      go_wp2_with fail
      go_ret
      exact Ro.b E.out (by rw [HW.out]; (try simp only [World.drewN_drewN]); exact ⟨_, rfl⟩)
set_option maxHeartbeats 1000000 in
theorem stopOk_c (a1 : Option Addr) (n1 k1 : Nat) (a2 : Option Addr) (n2 k2 : Nat) (a3 : Option Addr) (n3 k3 : Nat) (x : Cs) (f d : Int) (w : World) (hX : Cal w a1 n1 a2 n2 a3 n3 x) : Calls Try.prog 12 #[(.agg #[.slice a1 n1 k1, .slice a2 n2 k2, .slice a3 n3 k3]), (Value.agg #[.int .i64 (f), .int .i64 (d)])] w (Mk w (.bool (skB x f d))) := by
  have l3 := hX.2.2.1
  have X0 := Lib.hid hX
  have KV := fun w' (h : Cal w' a1 n1 a2 n2 a3 n3 x) => iCallsValid_c a1 n1 k1 a2 n2 k2 a3 n3 k3 x w' h
  clear hX
  refine at_base fun wn hwn => ?_
  have T := Lib.hid (show Below w.heap.size w wn from by rw [hwn]; exact Below.refl _ _)
  clear hwn
  by_cases hv : CV x
  case neg =>
    rw [cvB_f hv] at KV
    have HKV := Lib.hid KV
    have E := Lib.hid (skB_f (f := f) (d := d) (fun h => hv h.1))
    clear KV hv l3
    obtain ⟨g, hg⟩ : ∃ g, Array.size (World.heap wn) = g := ⟨_, rfl⟩
    have HGg := Lib.hid hg
    have hTg : w.heap.size ≤ g := by rw [← hg]; exact T.out.size
    have Tn := Lib.hid (show Below w.heap.size w ((wn.alloc (.cells #[.slice a1 n1 k1, .slice a2 n2 k2, .slice a3 n3 k3] 25)).alloc (.cells #[.int .i64 (f), .int .i64 (d)] 27)) from (Below.al (Below.al T.out (.cells #[.slice a1 n1 k1, .slice a2 n2 k2, .slice a3 n3 k3] 25)) (.cells #[.int .i64 (f), .int .i64 (d)] 27)))
    have CB := Lib.hid (show Bx ((wn.alloc (.cells #[.slice a1 n1 k1, .slice a2 n2 k2, .slice a3 n3 k3] 25)).alloc (.cells #[.int .i64 (f), .int .i64 (d)] 27)) g (.slice a1 n1 k1) (.slice a2 n2 k2) (.slice a3 n3 k3) from by have h9 := (Bx.al (Bx.new wn (.slice a1 n1 k1) (.slice a2 n2 k2) (.slice a3 n3 k3) 25) (.cells #[.int .i64 (f), .int .i64 (d)] 27)); simp only [World.size_alloc, hg, Nat.add_assoc, Nat.reduceAdd] at h9; exact h9)
    have SB := Lib.hid (show Box ((wn.alloc (.cells #[.slice a1 n1 k1, .slice a2 n2 k2, .slice a3 n3 k3] 25)).alloc (.cells #[.int .i64 (f), .int .i64 (d)] 27)) (g + 1) (f) (d) from by have h9 := (Box.new (wn.alloc (.cells #[.slice a1 n1 k1, .slice a2 n2 k2, .slice a3 n3 k3] 25)) (f) (d) 27); simp only [World.size_alloc, hg, Nat.add_assoc, Nat.reduceAdd] at h9; exact h9)
    have HZg := Lib.hid (show (((wn.alloc (.cells #[.slice a1 n1 k1, .slice a2 n2 k2, .slice a3 n3 k3] 25)).alloc (.cells #[.int .i64 (f), .int .i64 (d)] 27))).heap.size = g + 2 from by simp only [World.size_alloc, hg, Nat.add_assoc, Nat.reduceAdd])
    clear hg
    clear T
    have T := Tn
    clear Tn
    go_enter Try.func12, Try.ntmps12
    go_wp2_with fail
    rw [HGg.out]
    refine Calls.mono (HKV.out _ (Cal.below X0.out T.out)) ?_
    intro e wn hh
    obtain ⟨he, hb⟩ := (by first | exact hh | exact Ro.mk hh | exact St.mk hh | exact LawOk.mk' hh : Mk _ _ e wn)
    subst he
    have Tn : Hid (Below w.heap.size w wn) := below_next T.out hb
    have CBn : Hid _ := Bx.below CB.out hb
    have SBn : Hid _ := Box.below SB.out hb
    clear hb hh
    clear T CB SB
    have T := Tn
    have CB := CBn
    have SB := SBn
    clear Tn CBn SBn
    go_wp2_with fail
    go_ret
    exact Mk.b E.out T.out
  rw [cvB_t hv] at KV
  have HKV := Lib.hid KV
  have h8 := hv.2.1
  have h1 := hv.1
  rw [l3] at h8 h1
  by_cases hf : 0 ≤ f
  case neg =>
    have E := Lib.hid (skB_f (x := x) (f := f) (d := d) (fun h => hf (by have := h.2.1; omega)))
    clear KV hv l3
    obtain ⟨g, hg⟩ : ∃ g, Array.size (World.heap wn) = g := ⟨_, rfl⟩
    have HGg := Lib.hid hg
    have hTg : w.heap.size ≤ g := by rw [← hg]; exact T.out.size
    have Tn := Lib.hid (show Below w.heap.size w ((wn.alloc (.cells #[.slice a1 n1 k1, .slice a2 n2 k2, .slice a3 n3 k3] 25)).alloc (.cells #[.int .i64 (f), .int .i64 (d)] 27)) from (Below.al (Below.al T.out (.cells #[.slice a1 n1 k1, .slice a2 n2 k2, .slice a3 n3 k3] 25)) (.cells #[.int .i64 (f), .int .i64 (d)] 27)))
    have CB := Lib.hid (show Bx ((wn.alloc (.cells #[.slice a1 n1 k1, .slice a2 n2 k2, .slice a3 n3 k3] 25)).alloc (.cells #[.int .i64 (f), .int .i64 (d)] 27)) g (.slice a1 n1 k1) (.slice a2 n2 k2) (.slice a3 n3 k3) from by have h9 := (Bx.al (Bx.new wn (.slice a1 n1 k1) (.slice a2 n2 k2) (.slice a3 n3 k3) 25) (.cells #[.int .i64 (f), .int .i64 (d)] 27)); simp only [World.size_alloc, hg, Nat.add_assoc, Nat.reduceAdd] at h9; exact h9)
    have SB := Lib.hid (show Box ((wn.alloc (.cells #[.slice a1 n1 k1, .slice a2 n2 k2, .slice a3 n3 k3] 25)).alloc (.cells #[.int .i64 (f), .int .i64 (d)] 27)) (g + 1) (f) (d) from by have h9 := (Box.new (wn.alloc (.cells #[.slice a1 n1 k1, .slice a2 n2 k2, .slice a3 n3 k3] 25)) (f) (d) 27); simp only [World.size_alloc, hg, Nat.add_assoc, Nat.reduceAdd] at h9; exact h9)
    have HZg := Lib.hid (show (((wn.alloc (.cells #[.slice a1 n1 k1, .slice a2 n2 k2, .slice a3 n3 k3] 25)).alloc (.cells #[.int .i64 (f), .int .i64 (d)] 27))).heap.size = g + 2 from by simp only [World.size_alloc, hg, Nat.add_assoc, Nat.reduceAdd])
    clear hg
    clear T
    have T := Tn
    clear Tn
    go_enter Try.func12, Try.ntmps12
    go_wp2_with fail
    rw [HGg.out]
    refine Calls.mono (HKV.out _ (Cal.below X0.out T.out)) ?_
    intro e wn hh
    obtain ⟨he, hb⟩ := (by first | exact hh | exact Ro.mk hh | exact St.mk hh | exact LawOk.mk' hh : Mk _ _ e wn)
    subst he
    have Tn : Hid (Below w.heap.size w wn) := below_next T.out hb
    have CBn : Hid _ := Bx.below CB.out hb
    have SBn : Hid _ := Box.below SB.out hb
    clear hb hh
    clear T CB SB
    have T := Tn
    have CB := CBn
    have SB := SBn
    clear Tn CBn SBn
    obtain ⟨⟨c0, c1, c2⟩, -⟩ := CB.out
    obtain ⟨⟨d0, d1⟩, df0, df1⟩ := SB.out
    go_wp2_with fail
    go_ret
    exact Mk.b E.out T.out
  by_cases hf2 : f < (n3 : Int)
  case neg =>
    have E := Lib.hid (skB_f (x := x) (f := f) (d := d) (fun h => hf2 (by have := h.2.1; omega)))
    clear KV hv l3
    obtain ⟨g, hg⟩ : ∃ g, Array.size (World.heap wn) = g := ⟨_, rfl⟩
    have HGg := Lib.hid hg
    have hTg : w.heap.size ≤ g := by rw [← hg]; exact T.out.size
    have Tn := Lib.hid (show Below w.heap.size w ((wn.alloc (.cells #[.slice a1 n1 k1, .slice a2 n2 k2, .slice a3 n3 k3] 25)).alloc (.cells #[.int .i64 (f), .int .i64 (d)] 27)) from (Below.al (Below.al T.out (.cells #[.slice a1 n1 k1, .slice a2 n2 k2, .slice a3 n3 k3] 25)) (.cells #[.int .i64 (f), .int .i64 (d)] 27)))
    have CB := Lib.hid (show Bx ((wn.alloc (.cells #[.slice a1 n1 k1, .slice a2 n2 k2, .slice a3 n3 k3] 25)).alloc (.cells #[.int .i64 (f), .int .i64 (d)] 27)) g (.slice a1 n1 k1) (.slice a2 n2 k2) (.slice a3 n3 k3) from by have h9 := (Bx.al (Bx.new wn (.slice a1 n1 k1) (.slice a2 n2 k2) (.slice a3 n3 k3) 25) (.cells #[.int .i64 (f), .int .i64 (d)] 27)); simp only [World.size_alloc, hg, Nat.add_assoc, Nat.reduceAdd] at h9; exact h9)
    have SB := Lib.hid (show Box ((wn.alloc (.cells #[.slice a1 n1 k1, .slice a2 n2 k2, .slice a3 n3 k3] 25)).alloc (.cells #[.int .i64 (f), .int .i64 (d)] 27)) (g + 1) (f) (d) from by have h9 := (Box.new (wn.alloc (.cells #[.slice a1 n1 k1, .slice a2 n2 k2, .slice a3 n3 k3] 25)) (f) (d) 27); simp only [World.size_alloc, hg, Nat.add_assoc, Nat.reduceAdd] at h9; exact h9)
    have HZg := Lib.hid (show (((wn.alloc (.cells #[.slice a1 n1 k1, .slice a2 n2 k2, .slice a3 n3 k3] 25)).alloc (.cells #[.int .i64 (f), .int .i64 (d)] 27))).heap.size = g + 2 from by simp only [World.size_alloc, hg, Nat.add_assoc, Nat.reduceAdd])
    clear hg
    clear T
    have T := Tn
    clear Tn
    go_enter Try.func12, Try.ntmps12
    go_wp2_with fail
    rw [HGg.out]
    refine Calls.mono (HKV.out _ (Cal.below X0.out T.out)) ?_
    intro e wn hh
    obtain ⟨he, hb⟩ := (by first | exact hh | exact Ro.mk hh | exact St.mk hh | exact LawOk.mk' hh : Mk _ _ e wn)
    subst he
    have Tn : Hid (Below w.heap.size w wn) := below_next T.out hb
    have CBn : Hid _ := Bx.below CB.out hb
    have SBn : Hid _ := Box.below SB.out hb
    clear hb hh
    clear T CB SB
    have T := Tn
    have CB := CBn
    have SB := SBn
    clear Tn CBn SBn
    obtain ⟨⟨c0, c1, c2⟩, -⟩ := CB.out
    obtain ⟨⟨d0, d1⟩, df0, df1⟩ := SB.out
    go_wp2_with fail
    go_ret
    exact Mk.b E.out T.out
  rcases (by omega : d = 1 ∨ d = -1 ∨ (d ≠ 1 ∧ d ≠ -1)) with rfl | rfl | ⟨g1, g2⟩
  case inr.inr =>
    have E := Lib.hid (skB_f (x := x) (f := f) (d := d) (fun h => by have := h.2.2; omega))
    have t2 : (d == 1) = false := beq_false_of_ne g1
    have t3 : (d == -1) = false := beq_false_of_ne g2
    clear KV hv l3
    obtain ⟨g, hg⟩ : ∃ g, Array.size (World.heap wn) = g := ⟨_, rfl⟩
    have HGg := Lib.hid hg
    have hTg : w.heap.size ≤ g := by rw [← hg]; exact T.out.size
    have Tn := Lib.hid (show Below w.heap.size w ((wn.alloc (.cells #[.slice a1 n1 k1, .slice a2 n2 k2, .slice a3 n3 k3] 25)).alloc (.cells #[.int .i64 (f), .int .i64 (d)] 27)) from (Below.al (Below.al T.out (.cells #[.slice a1 n1 k1, .slice a2 n2 k2, .slice a3 n3 k3] 25)) (.cells #[.int .i64 (f), .int .i64 (d)] 27)))
    have CB := Lib.hid (show Bx ((wn.alloc (.cells #[.slice a1 n1 k1, .slice a2 n2 k2, .slice a3 n3 k3] 25)).alloc (.cells #[.int .i64 (f), .int .i64 (d)] 27)) g (.slice a1 n1 k1) (.slice a2 n2 k2) (.slice a3 n3 k3) from by have h9 := (Bx.al (Bx.new wn (.slice a1 n1 k1) (.slice a2 n2 k2) (.slice a3 n3 k3) 25) (.cells #[.int .i64 (f), .int .i64 (d)] 27)); simp only [World.size_alloc, hg, Nat.add_assoc, Nat.reduceAdd] at h9; exact h9)
    have SB := Lib.hid (show Box ((wn.alloc (.cells #[.slice a1 n1 k1, .slice a2 n2 k2, .slice a3 n3 k3] 25)).alloc (.cells #[.int .i64 (f), .int .i64 (d)] 27)) (g + 1) (f) (d) from by have h9 := (Box.new (wn.alloc (.cells #[.slice a1 n1 k1, .slice a2 n2 k2, .slice a3 n3 k3] 25)) (f) (d) 27); simp only [World.size_alloc, hg, Nat.add_assoc, Nat.reduceAdd] at h9; exact h9)
    have HZg := Lib.hid (show (((wn.alloc (.cells #[.slice a1 n1 k1, .slice a2 n2 k2, .slice a3 n3 k3] 25)).alloc (.cells #[.int .i64 (f), .int .i64 (d)] 27))).heap.size = g + 2 from by simp only [World.size_alloc, hg, Nat.add_assoc, Nat.reduceAdd])
    clear hg
    clear T
    have T := Tn
    clear Tn
    go_enter Try.func12, Try.ntmps12
    go_wp2_with fail
    rw [HGg.out]
    refine Calls.mono (HKV.out _ (Cal.below X0.out T.out)) ?_
    intro e wn hh
    obtain ⟨he, hb⟩ := (by first | exact hh | exact Ro.mk hh | exact St.mk hh | exact LawOk.mk' hh : Mk _ _ e wn)
    subst he
    have Tn : Hid (Below w.heap.size w wn) := below_next T.out hb
    have CBn : Hid _ := Bx.below CB.out hb
    have SBn : Hid _ := Box.below SB.out hb
    clear hb hh
    clear T CB SB
    have T := Tn
    have CB := CBn
    have SB := SBn
    clear Tn CBn SBn
    obtain ⟨⟨c0, c1, c2⟩, -⟩ := CB.out
    obtain ⟨⟨d0, d1⟩, df0, df1⟩ := SB.out
    go_wp2_with fail
    go_ret
    exact Mk.b E.out T.out
  case inl =>
    have E := Lib.hid (skB_t (x := x) (f := f) ⟨hv, ⟨hf, by omega⟩, .inl rfl⟩)
    clear KV hv l3
    obtain ⟨g, hg⟩ : ∃ g, Array.size (World.heap wn) = g := ⟨_, rfl⟩
    have HGg := Lib.hid hg
    have hTg : w.heap.size ≤ g := by rw [← hg]; exact T.out.size
    have Tn := Lib.hid (show Below w.heap.size w ((wn.alloc (.cells #[.slice a1 n1 k1, .slice a2 n2 k2, .slice a3 n3 k3] 25)).alloc (.cells #[.int .i64 (f), .int .i64 (1)] 27)) from (Below.al (Below.al T.out (.cells #[.slice a1 n1 k1, .slice a2 n2 k2, .slice a3 n3 k3] 25)) (.cells #[.int .i64 (f), .int .i64 (1)] 27)))
    have CB := Lib.hid (show Bx ((wn.alloc (.cells #[.slice a1 n1 k1, .slice a2 n2 k2, .slice a3 n3 k3] 25)).alloc (.cells #[.int .i64 (f), .int .i64 (1)] 27)) g (.slice a1 n1 k1) (.slice a2 n2 k2) (.slice a3 n3 k3) from by have h9 := (Bx.al (Bx.new wn (.slice a1 n1 k1) (.slice a2 n2 k2) (.slice a3 n3 k3) 25) (.cells #[.int .i64 (f), .int .i64 (1)] 27)); simp only [World.size_alloc, hg, Nat.add_assoc, Nat.reduceAdd] at h9; exact h9)
    have SB := Lib.hid (show Box ((wn.alloc (.cells #[.slice a1 n1 k1, .slice a2 n2 k2, .slice a3 n3 k3] 25)).alloc (.cells #[.int .i64 (f), .int .i64 (1)] 27)) (g + 1) (f) (1) from by have h9 := (Box.new (wn.alloc (.cells #[.slice a1 n1 k1, .slice a2 n2 k2, .slice a3 n3 k3] 25)) (f) (1) 27); simp only [World.size_alloc, hg, Nat.add_assoc, Nat.reduceAdd] at h9; exact h9)
    have HZg := Lib.hid (show (((wn.alloc (.cells #[.slice a1 n1 k1, .slice a2 n2 k2, .slice a3 n3 k3] 25)).alloc (.cells #[.int .i64 (f), .int .i64 (1)] 27))).heap.size = g + 2 from by simp only [World.size_alloc, hg, Nat.add_assoc, Nat.reduceAdd])
    clear hg
    clear T
    have T := Tn
    clear Tn
    go_enter Try.func12, Try.ntmps12
    go_wp2_with fail
    rw [HGg.out]
    refine Calls.mono (HKV.out _ (Cal.below X0.out T.out)) ?_
    intro e wn hh
    obtain ⟨he, hb⟩ := (by first | exact hh | exact Ro.mk hh | exact St.mk hh | exact LawOk.mk' hh : Mk _ _ e wn)
    subst he
    have Tn : Hid (Below w.heap.size w wn) := below_next T.out hb
    have CBn : Hid _ := Bx.below CB.out hb
    have SBn : Hid _ := Box.below SB.out hb
    clear hb hh
    clear T CB SB
    have T := Tn
    have CB := CBn
    have SB := SBn
    clear Tn CBn SBn
    obtain ⟨⟨c0, c1, c2⟩, -⟩ := CB.out
    obtain ⟨⟨d0, d1⟩, df0, df1⟩ := SB.out
    go_wp2_with fail
    go_ret
    exact Mk.b E.out T.out
  case inr.inl =>
    have E := Lib.hid (skB_t (x := x) (f := f) ⟨hv, ⟨hf, by omega⟩, .inr rfl⟩)
    clear KV hv l3
    obtain ⟨g, hg⟩ : ∃ g, Array.size (World.heap wn) = g := ⟨_, rfl⟩
    have HGg := Lib.hid hg
    have hTg : w.heap.size ≤ g := by rw [← hg]; exact T.out.size
    have Tn := Lib.hid (show Below w.heap.size w ((wn.alloc (.cells #[.slice a1 n1 k1, .slice a2 n2 k2, .slice a3 n3 k3] 25)).alloc (.cells #[.int .i64 (f), .int .i64 (-1)] 27)) from (Below.al (Below.al T.out (.cells #[.slice a1 n1 k1, .slice a2 n2 k2, .slice a3 n3 k3] 25)) (.cells #[.int .i64 (f), .int .i64 (-1)] 27)))
    have CB := Lib.hid (show Bx ((wn.alloc (.cells #[.slice a1 n1 k1, .slice a2 n2 k2, .slice a3 n3 k3] 25)).alloc (.cells #[.int .i64 (f), .int .i64 (-1)] 27)) g (.slice a1 n1 k1) (.slice a2 n2 k2) (.slice a3 n3 k3) from by have h9 := (Bx.al (Bx.new wn (.slice a1 n1 k1) (.slice a2 n2 k2) (.slice a3 n3 k3) 25) (.cells #[.int .i64 (f), .int .i64 (-1)] 27)); simp only [World.size_alloc, hg, Nat.add_assoc, Nat.reduceAdd] at h9; exact h9)
    have SB := Lib.hid (show Box ((wn.alloc (.cells #[.slice a1 n1 k1, .slice a2 n2 k2, .slice a3 n3 k3] 25)).alloc (.cells #[.int .i64 (f), .int .i64 (-1)] 27)) (g + 1) (f) (-1) from by have h9 := (Box.new (wn.alloc (.cells #[.slice a1 n1 k1, .slice a2 n2 k2, .slice a3 n3 k3] 25)) (f) (-1) 27); simp only [World.size_alloc, hg, Nat.add_assoc, Nat.reduceAdd] at h9; exact h9)
    have HZg := Lib.hid (show (((wn.alloc (.cells #[.slice a1 n1 k1, .slice a2 n2 k2, .slice a3 n3 k3] 25)).alloc (.cells #[.int .i64 (f), .int .i64 (-1)] 27))).heap.size = g + 2 from by simp only [World.size_alloc, hg, Nat.add_assoc, Nat.reduceAdd])
    clear hg
    clear T
    have T := Tn
    clear Tn
    go_enter Try.func12, Try.ntmps12
    go_wp2_with fail
    rw [HGg.out]
    refine Calls.mono (HKV.out _ (Cal.below X0.out T.out)) ?_
    intro e wn hh
    obtain ⟨he, hb⟩ := (by first | exact hh | exact Ro.mk hh | exact St.mk hh | exact LawOk.mk' hh : Mk _ _ e wn)
    subst he
    have Tn : Hid (Below w.heap.size w wn) := below_next T.out hb
    have CBn : Hid _ := Bx.below CB.out hb
    have SBn : Hid _ := Box.below SB.out hb
    clear hb hh
    clear T CB SB
    have T := Tn
    have CB := CBn
    have SB := SBn
    clear Tn CBn SBn
    obtain ⟨⟨c0, c1, c2⟩, -⟩ := CB.out
    obtain ⟨⟨d0, d1⟩, df0, df1⟩ := SB.out
    go_wp2_with fail
    go_ret
    exact Mk.b E.out T.out
set_option maxHeartbeats 1000000 in
theorem toStop_c (f d : Int) (w : World) : Calls Try.prog 26 #[(Value.agg #[.int .i64 (f), .int .i64 (d)])] w (Mk w (Value.agg #[.int .i64 (f), .int .i64 (d)])) := by
  refine at_base fun wn hwn => ?_
  have T := Lib.hid (show Below w.heap.size w wn from by rw [hwn]; exact Below.refl _ _)
  clear hwn
  obtain ⟨g, hg⟩ : ∃ g, Array.size (World.heap wn) = g := ⟨_, rfl⟩
  have HGg := Lib.hid hg
  have hTg : w.heap.size ≤ g := by rw [← hg]; exact T.out.size
  have Tn := Lib.hid (show Below w.heap.size w (((wn.alloc (.cells #[.int .i64 (f), .int .i64 (d)] 42)).alloc (.cells #[.int .i64 (0), .int .i64 (0)] 27)).alloc (.cells #[.int .i64 (0), .int .i64 (0)] 27)) from (Below.al (Below.al (Below.al T.out (.cells #[.int .i64 (f), .int .i64 (d)] 42)) (.cells #[.int .i64 (0), .int .i64 (0)] 27)) (.cells #[.int .i64 (0), .int .i64 (0)] 27)))
  have AB := Lib.hid (show Box (((wn.alloc (.cells #[.int .i64 (f), .int .i64 (d)] 42)).alloc (.cells #[.int .i64 (0), .int .i64 (0)] 27)).alloc (.cells #[.int .i64 (0), .int .i64 (0)] 27)) g (f) (d) from by have h9 := (Box.al (Box.al (Box.new wn (f) (d) 42) (.cells #[.int .i64 (0), .int .i64 (0)] 27)) (.cells #[.int .i64 (0), .int .i64 (0)] 27)); simp only [World.size_alloc, hg, Nat.add_assoc, Nat.reduceAdd] at h9; exact h9)
  have RB := Lib.hid (show Box (((wn.alloc (.cells #[.int .i64 (f), .int .i64 (d)] 42)).alloc (.cells #[.int .i64 (0), .int .i64 (0)] 27)).alloc (.cells #[.int .i64 (0), .int .i64 (0)] 27)) (g + 1) (0) (0) from by have h9 := (Box.al (Box.new (wn.alloc (.cells #[.int .i64 (f), .int .i64 (d)] 42)) (0) (0) 27) (.cells #[.int .i64 (0), .int .i64 (0)] 27)); simp only [World.size_alloc, hg, Nat.add_assoc, Nat.reduceAdd] at h9; exact h9)
  have OB := Lib.hid (show Box (((wn.alloc (.cells #[.int .i64 (f), .int .i64 (d)] 42)).alloc (.cells #[.int .i64 (0), .int .i64 (0)] 27)).alloc (.cells #[.int .i64 (0), .int .i64 (0)] 27)) (g + 2) (0) (0) from by have h9 := (Box.new ((wn.alloc (.cells #[.int .i64 (f), .int .i64 (d)] 42)).alloc (.cells #[.int .i64 (0), .int .i64 (0)] 27)) (0) (0) 27); simp only [World.size_alloc, hg, Nat.add_assoc, Nat.reduceAdd] at h9; exact h9)
  have HZg := Lib.hid (show ((((wn.alloc (.cells #[.int .i64 (f), .int .i64 (d)] 42)).alloc (.cells #[.int .i64 (0), .int .i64 (0)] 27)).alloc (.cells #[.int .i64 (0), .int .i64 (0)] 27))).heap.size = g + 3 from by simp only [World.size_alloc, hg, Nat.add_assoc, Nat.reduceAdd])
  clear hg
  clear T
  have T := Tn
  clear Tn
  go_enter Try.func26, Try.ntmps26
  have O1 := Box.pset0 f OB.out
  have A1 := Box.pfar (c := g + 2) (j := 0) (v := .int .i64 f) AB.out (by omega)
  have O2 := Box.pset1 d O1
  have R2 := Box.pfar (c := g + 2) (j := 1) (v := .int .i64 d) (Box.pfar (c := g + 2) (j := 0) (v := .int .i64 f) RB.out (by omega)) (by omega)
  go_upto_region 2 with fail
  rw [HGg.out]
  generalize hW : ((wn.alloc _).alloc _).alloc _ = W at *
  obtain ⟨⟨o0, o1⟩, of0, of1⟩ := OB.out
  obtain ⟨⟨a0, a1⟩, af0, af1⟩ := AB.out
  obtain ⟨⟨b0, b1⟩, -, -⟩ := A1
  obtain ⟨⟨p0, p1⟩, -, -⟩ := O2
  obtain ⟨⟨q0, q1⟩, qf0, qf1⟩ := O1
  obtain ⟨⟨c0, c1⟩, f0, f1⟩ := R2
  go_wp2_with fail
  exact bodyPost_ret (v := (Value.agg #[.int .i64 (f), .int .i64 (d)])) (by simp [results, Try.results26, go_sem, c0, c1]) rfl (Mk.ag rfl rfl (by have HZ := T.out; exact (by repeat (first | exact Below.refl _ _ | refine Below.al ?_ _ | refine Below.dr ?_ _ | refine Below.dw ?_ | refine Below.st ?_ (by first | exact Nat.le_refl _ | exact Nat.le_add_right _ _ | (simp; omega)) _ | (refine below_next ?_ (by assumption))))))
end Go.Proofs.Ytkpginkkfobblaa

namespace Go.Proofs.Ytkpginkkfobblaa
open Go.RowKit
set_option linter.unusedVariables false

def eq2 (a b c d : Int) : Bool := if a = c ∧ b = d then true else false
theorem eq2_t {a b c d : Int} (h : a = c ∧ b = d) : eq2 a b c d = true := by unfold eq2; rw [if_pos h]
theorem eq2_f {a b c d : Int} (h : ¬ (a = c ∧ b = d)) : eq2 a b c d = false := by unfold eq2; rw [if_neg h]
set_option maxHeartbeats 1000000 in
theorem eqStop_c (f d f' d' : Int) (w : World) : Calls Try.prog 27 #[(Value.agg #[.int .i64 (f), .int .i64 (d)]), (Value.agg #[.int .i64 (f'), .int .i64 (d')])] w (Mk w (.bool (eq2 f d f' d'))) := by
  refine at_base fun wn hwn => ?_
  have T := Lib.hid (show Below w.heap.size w wn from by rw [hwn]; exact Below.refl _ _)
  clear hwn
  rcases (by omega : f ≠ f' ∨ (f = f' ∧ d ≠ d') ∨ (f = f' ∧ d = d')) with h | ⟨rfl, h⟩ | ⟨rfl, rfl⟩
  · have E := Lib.hid (eq2_f (fun h9 : f = f' ∧ d = d' => h h9.1))
    have t : (f != f') = true := by rw [bne_iff_ne]; exact h
    clear h
    obtain ⟨g, hg⟩ : ∃ g, Array.size (World.heap wn) = g := ⟨_, rfl⟩
    have HGg := Lib.hid hg
    have hTg : w.heap.size ≤ g := by rw [← hg]; exact T.out.size
    have Tn := Lib.hid (show Below w.heap.size w ((wn.alloc (.cells #[.int .i64 (f), .int .i64 (d)] 27)).alloc (.cells #[.int .i64 (f'), .int .i64 (d')] 27)) from (Below.al (Below.al T.out (.cells #[.int .i64 (f), .int .i64 (d)] 27)) (.cells #[.int .i64 (f'), .int .i64 (d')] 27)))
    have AB := Lib.hid (show Box ((wn.alloc (.cells #[.int .i64 (f), .int .i64 (d)] 27)).alloc (.cells #[.int .i64 (f'), .int .i64 (d')] 27)) g (f) (d) from by have h9 := (Box.al (Box.new wn (f) (d) 27) (.cells #[.int .i64 (f'), .int .i64 (d')] 27)); simp only [World.size_alloc, hg, Nat.add_assoc, Nat.reduceAdd] at h9; exact h9)
    have BB := Lib.hid (show Box ((wn.alloc (.cells #[.int .i64 (f), .int .i64 (d)] 27)).alloc (.cells #[.int .i64 (f'), .int .i64 (d')] 27)) (g + 1) (f') (d') from by have h9 := (Box.new (wn.alloc (.cells #[.int .i64 (f), .int .i64 (d)] 27)) (f') (d') 27); simp only [World.size_alloc, hg, Nat.add_assoc, Nat.reduceAdd] at h9; exact h9)
    have HZg := Lib.hid (show (((wn.alloc (.cells #[.int .i64 (f), .int .i64 (d)] 27)).alloc (.cells #[.int .i64 (f'), .int .i64 (d')] 27))).heap.size = g + 2 from by simp only [World.size_alloc, hg, Nat.add_assoc, Nat.reduceAdd])
    clear hg
    clear T
    have T := Tn
    clear Tn
    go_enter Try.func27, Try.ntmps27
    obtain ⟨⟨a0, a1⟩, af0, af1⟩ := AB.out
    obtain ⟨⟨b0, b1⟩, bf0, bf1⟩ := BB.out
    go_wp2_with fail
    go_ret
    exact Mk.b E.out T.out
  · have E := Lib.hid (eq2_f (fun h9 : f = f ∧ d = d' => h h9.2))
    have t : (d != d') = true := by rw [bne_iff_ne]; exact h
    clear h
    obtain ⟨g, hg⟩ : ∃ g, Array.size (World.heap wn) = g := ⟨_, rfl⟩
    have HGg := Lib.hid hg
    have hTg : w.heap.size ≤ g := by rw [← hg]; exact T.out.size
    have Tn := Lib.hid (show Below w.heap.size w ((wn.alloc (.cells #[.int .i64 (f), .int .i64 (d)] 27)).alloc (.cells #[.int .i64 (f), .int .i64 (d')] 27)) from (Below.al (Below.al T.out (.cells #[.int .i64 (f), .int .i64 (d)] 27)) (.cells #[.int .i64 (f), .int .i64 (d')] 27)))
    have AB := Lib.hid (show Box ((wn.alloc (.cells #[.int .i64 (f), .int .i64 (d)] 27)).alloc (.cells #[.int .i64 (f), .int .i64 (d')] 27)) g (f) (d) from by have h9 := (Box.al (Box.new wn (f) (d) 27) (.cells #[.int .i64 (f), .int .i64 (d')] 27)); simp only [World.size_alloc, hg, Nat.add_assoc, Nat.reduceAdd] at h9; exact h9)
    have BB := Lib.hid (show Box ((wn.alloc (.cells #[.int .i64 (f), .int .i64 (d)] 27)).alloc (.cells #[.int .i64 (f), .int .i64 (d')] 27)) (g + 1) (f) (d') from by have h9 := (Box.new (wn.alloc (.cells #[.int .i64 (f), .int .i64 (d)] 27)) (f) (d') 27); simp only [World.size_alloc, hg, Nat.add_assoc, Nat.reduceAdd] at h9; exact h9)
    have HZg := Lib.hid (show (((wn.alloc (.cells #[.int .i64 (f), .int .i64 (d)] 27)).alloc (.cells #[.int .i64 (f), .int .i64 (d')] 27))).heap.size = g + 2 from by simp only [World.size_alloc, hg, Nat.add_assoc, Nat.reduceAdd])
    clear hg
    clear T
    have T := Tn
    clear Tn
    go_enter Try.func27, Try.ntmps27
    obtain ⟨⟨a0, a1⟩, af0, af1⟩ := AB.out
    obtain ⟨⟨b0, b1⟩, bf0, bf1⟩ := BB.out
    go_wp2_with fail
    go_ret
    exact Mk.b E.out T.out
  · have E := Lib.hid (eq2_t (show f = f ∧ d = d from ⟨rfl, rfl⟩))
    obtain ⟨g, hg⟩ : ∃ g, Array.size (World.heap wn) = g := ⟨_, rfl⟩
    have HGg := Lib.hid hg
    have hTg : w.heap.size ≤ g := by rw [← hg]; exact T.out.size
    have Tn := Lib.hid (show Below w.heap.size w ((wn.alloc (.cells #[.int .i64 (f), .int .i64 (d)] 27)).alloc (.cells #[.int .i64 (f), .int .i64 (d)] 27)) from (Below.al (Below.al T.out (.cells #[.int .i64 (f), .int .i64 (d)] 27)) (.cells #[.int .i64 (f), .int .i64 (d)] 27)))
    have AB := Lib.hid (show Box ((wn.alloc (.cells #[.int .i64 (f), .int .i64 (d)] 27)).alloc (.cells #[.int .i64 (f), .int .i64 (d)] 27)) g (f) (d) from by have h9 := (Box.al (Box.new wn (f) (d) 27) (.cells #[.int .i64 (f), .int .i64 (d)] 27)); simp only [World.size_alloc, hg, Nat.add_assoc, Nat.reduceAdd] at h9; exact h9)
    have BB := Lib.hid (show Box ((wn.alloc (.cells #[.int .i64 (f), .int .i64 (d)] 27)).alloc (.cells #[.int .i64 (f), .int .i64 (d)] 27)) (g + 1) (f) (d) from by have h9 := (Box.new (wn.alloc (.cells #[.int .i64 (f), .int .i64 (d)] 27)) (f) (d) 27); simp only [World.size_alloc, hg, Nat.add_assoc, Nat.reduceAdd] at h9; exact h9)
    have HZg := Lib.hid (show (((wn.alloc (.cells #[.int .i64 (f), .int .i64 (d)] 27)).alloc (.cells #[.int .i64 (f), .int .i64 (d)] 27))).heap.size = g + 2 from by simp only [World.size_alloc, hg, Nat.add_assoc, Nat.reduceAdd])
    clear hg
    clear T
    have T := Tn
    clear Tn
    go_enter Try.func27, Try.ntmps27
    obtain ⟨⟨a0, a1⟩, af0, af1⟩ := AB.out
    obtain ⟨⟨b0, b1⟩, bf0, bf1⟩ := BB.out
    go_wp2_with fail
    go_ret
    exact Mk.b E.out T.out
set_option maxHeartbeats 1000000 in
theorem eqStopS_c (a : Option Addr) (n cap : Nat) (xs : List Int) (a' : Option Addr) (n' cap' : Nat) (ys : List Int) (w : World) (hx : RS 2 w a n xs) (hy : RS 2 w a' n' ys) (hm : n ≤ 1048577) :
    Calls Try.prog 31 #[.slice a n cap, .slice a' n' cap'] w (Mk w (.bool (tr (xs = ys)))) := by
  have l1 := hx.1
  have l2 := hy.1
  have HX := Lib.hid hx
  have HY := Lib.hid hy
  clear hx hy
  by_cases hl : n = n'
  case neg =>
    have t : ((n : Int) != (n' : Int)) = true := by simp; omega
    have E := Lib.hid (tr_false (fun h : xs = ys => hl (by have := congrArg List.length h; omega)))
    clear hl l1 l2
    go_enter Try.func31, Try.ntmps31
    go_wp2_with fail
    go_ret
    exact Mk.b E.out (Below.refl _ _)
  subst hl
  have L1 := Lib.hid l1
  have L2 := Lib.hid l2
  clear l1 l2
  refine at_base fun wn hwn => ?_
  have T := Lib.hid (show Below w.heap.size w wn from by rw [hwn]; exact Below.refl _ _)
  clear hwn
  go_enter Try.func31, Try.ntmps31
  go_wp2_with fail
  go_loopw [5] (fun v wr => ∃ k : Nat, k ≤ n ∧ v = .int .i64 k ∧ (∀ i, i < k → nth xs (i * 2) = nth ys (i * 2) ∧ nth xs (i * 2 + 1) = nth ys (i * 2 + 1)) ∧ Below w.heap.size w wr) (fun v _ => n - (intOf v).toNat)
  case atStart => exact ⟨0, by omega, rfl, by omega, T.out⟩
  case' round =>
    clear T
    obtain ⟨k, hk, rfl, hall, h9T⟩ := hrel
    obtain ⟨wn, hwq⟩ : ∃ w0 : World, w0 = wr := ⟨_, rfl⟩
    rw [← hwq] at h9T ⊢
    clear hwq
    have T := Lib.hid h9T
    clear h9T
    have HA := Lib.hid hall
    clear hall
    by_cases hlt : k < n
    case neg =>
      obtain rfl : k = n := by omega
      have E := Lib.hid (tr_true (nth_ext2 (xs := xs) (ys := ys) L1.out L2.out HA.out))
      go_wp2_with fail
      go_ret
      exact Mk.b E.out T.out
    obtain ⟨b, off, rfl⟩ := RS.some HX.out (by omega)
    obtain ⟨b', off', rfl⟩ := RS.some HY.out (by omega)
    have C := Lib.hid (fun (w' : World) (h : Below w.heap.size w w') => And.intro (RS.two (RS.below HX.out h) hlt) (RS.two (RS.below HY.out h) hlt))
    have hlti : (k : Int) < (n : Int) := by omega
    have HE0 := Lib.hid (show (nth xs (k * 2) = nth ys (k * 2) ∧ nth xs (k * 2 + 1) = nth ys (k * 2 + 1)) ∨ ¬ (nth xs (k * 2) = nth ys (k * 2) ∧ nth xs (k * 2 + 1) = nth ys (k * 2 + 1)) from Classical.em _)
    have HN := Lib.hid (fun (he : ¬ (nth xs (k * 2) = nth ys (k * 2) ∧ nth xs (k * 2 + 1) = nth ys (k * 2 + 1))) => tr_false (fun h : xs = ys => he (by rw [h]; exact ⟨rfl, rfl⟩)))
    have HS := Lib.hid (fun (he : nth xs (k * 2) = nth ys (k * 2) ∧ nth xs (k * 2 + 1) = nth ys (k * 2 + 1)) => (show ∀ i, i < k + 1 → nth xs (i * 2) = nth ys (i * 2) ∧ nth xs (i * 2 + 1) = nth ys (i * 2 + 1) from fun i hi => by
      by_cases e : i = k
      · subst e; exact he
      · exact HA.out i (by omega)))
    obtain ⟨p, hp⟩ : ∃ p, nth xs (k * 2) = p := ⟨_, rfl⟩
    obtain ⟨q, hq⟩ : ∃ q, nth xs (k * 2 + 1) = q := ⟨_, rfl⟩
    obtain ⟨p', hp'⟩ : ∃ p, nth ys (k * 2) = p := ⟨_, rfl⟩
    obtain ⟨q', hq'⟩ : ∃ q, nth ys (k * 2 + 1) = q := ⟨_, rfl⟩
    rw [hp, hq, hp', hq'] at C HE0 HN HS
    clear hp hq hp' hq' HA
    rcases HE0.out with he | he
    · have t : eq2 p q p' q' = true := eq2_t he
      have KE := fun w' => eqStop_c p q p' q' w'
      rw [t] at KE
      have HK := Lib.hid KE
      have HSE := Lib.hid (HS.out he)
      clear t KE he HE0 HN HS
      go_wp2_with fail
      refine wp_region_quiet (C := fun w' => Below (World.heap (wn)).size (wn) w') (by kernel_rfl) (by kernel_rfl) (by first | exact ⟨rfl, rfl, rfl, Nat.le_refl _, fun _ _ => rfl⟩ | exact Below.dw (by repeat (first | exact Below.refl _ _ | refine Below.al ?_ _ | refine Below.dr ?_ _ | refine Below.dw ?_ | refine Below.st ?_ (by first | exact Nat.le_refl _ | exact Nat.le_add_right _ _ | (simp; omega)) _ | (refine below_next ?_ (by assumption))))) ?_
      simp only []
      repeat (go_big_quiet_step (first | (intro _; with_reducible exact rfl) | (intro hC; go_at_call 27; obtain ⟨⟨c0, c1⟩, d0, d1⟩ := C.out _ (below_next T.out hC); (refine Calls.mono (HK.out _) ?_); (first | (rintro e wx ⟨rfl, hb⟩; exact ⟨rfl, below_next hC hb⟩) | (rintro e wx ⟨rfl, n, rfl⟩; exact ⟨rfl, Below.dr hC n⟩) | (rintro e wx ⟨rfl, rfl⟩; exact ⟨rfl, hC⟩))) | (intro hC; obtain ⟨⟨c0, c1⟩, d0, d1⟩ := C.out _ (below_next T.out hC); go_simp; rfl)))
      refine wpQuiet_nil ?_
      intro wq hq
      have Tn := Lib.hid (below_next T.out hq)
      clear hq
      clear T
      have T := Tn
      clear Tn
      obtain ⟨wn, hwq⟩ : ∃ w0, w0 = wq := ⟨_, rfl⟩
      subst hwq
      go_wp2_with fail
      go_roundw
      case rel => exact ⟨k + 1, by omega, by go_num, HSE.out, T.out⟩
      case measure => first | (simp [intOf]; done) | (simp [intOf]; omega) | omega
    · have t : eq2 p q p' q' = false := eq2_f he
      have KE := fun w' => eqStop_c p q p' q' w'
      rw [t] at KE
      have HK := Lib.hid KE
      have E := Lib.hid (HN.out he)
      clear t KE he HE0 HN HS
      go_wp2_with fail
      refine wp_region_quiet (C := fun w' => Below (World.heap (wn)).size (wn) w') (by kernel_rfl) (by kernel_rfl) (by first | exact ⟨rfl, rfl, rfl, Nat.le_refl _, fun _ _ => rfl⟩ | exact Below.dw (by repeat (first | exact Below.refl _ _ | refine Below.al ?_ _ | refine Below.dr ?_ _ | refine Below.dw ?_ | refine Below.st ?_ (by first | exact Nat.le_refl _ | exact Nat.le_add_right _ _ | (simp; omega)) _ | (refine below_next ?_ (by assumption))))) ?_
      simp only []
      repeat (go_big_quiet_step (first | (intro _; with_reducible exact rfl) | (intro hC; go_at_call 27; obtain ⟨⟨c0, c1⟩, d0, d1⟩ := C.out _ (below_next T.out hC); (refine Calls.mono (HK.out _) ?_); (first | (rintro e wx ⟨rfl, hb⟩; exact ⟨rfl, below_next hC hb⟩) | (rintro e wx ⟨rfl, n, rfl⟩; exact ⟨rfl, Below.dr hC n⟩) | (rintro e wx ⟨rfl, rfl⟩; exact ⟨rfl, hC⟩))) | (intro hC; obtain ⟨⟨c0, c1⟩, d0, d1⟩ := C.out _ (below_next T.out hC); go_simp; rfl)))
      refine wpQuiet_nil ?_
      intro wq hq
      have Tn := Lib.hid (below_next T.out hq)
      clear hq
      clear T
      have T := Tn
      clear Tn
      obtain ⟨wn, hwq⟩ : ∃ w0, w0 = wq := ⟨_, rfl⟩
      subst hwq
      go_wp2_with fail
      go_ret
      exact Mk.b E.out T.out
/-- Marks: k, k + 1, .. -/
def mks (k m : Nat) : List Int := (List.range m).map fun i => ((k + i : Nat) : Int)
theorem mks_len (k m : Nat) : (mks k m).length = m := by simp [mks]
theorem mks_nth {k m i : Nat} (h : i < m) : nth (mks k m) i = ((k + i : Nat) : Int) := by simp [mks, nth, List.getD, h]
theorem mks_set {k j : Nat} {xs : List Int} {x : Int} (h : j < xs.length) (hx : x = ((k + j : Nat) : Int)) : (mks k j ++ xs.drop j).set j x = mks k (j + 1) ++ xs.drop (j + 1) := by
  subst hx
  have e : mks k (j + 1) = mks k j ++ [((k + j : Nat) : Int)] := by simp [mks, List.range_succ]
  rw [e, List.drop_eq_getElem_cons h, List.set_append]
  simp only [mks_len, Nat.lt_irrefl, if_false, Nat.sub_self, List.set_cons_zero, List.append_assoc, List.singleton_append]
theorem mix_len {k j : Nat} {xs : List Int} (h : j ≤ xs.length) : (mks k j ++ xs.drop j).length = xs.length := by simp [mks_len]; omega
set_option maxHeartbeats 2000000 in
theorem markStopS_c (a : Option Addr) (n cap k : Nat) (xs : List Int) (B lo hi : Nat) (w : World) (hO : OwnR 27 2 w B (.slice a n cap) n xs) (hk : k ≤ 10) (hn : n ≤ 1048576)
    (hb : ∀ q, (Value.slice a n cap).ownBlock = some q → lo ≤ q ∧ q < hi) :
    Calls Try.prog 32 #[.slice a n cap, .int .i64 k] w fun e w' => e = .returned (.int .i64 ((k + n * 2 : Nat) : Int)) ∧ OwnR 27 2 w' B (.slice a n cap) n (mks k (n * 2)) ∧ Out lo hi w w' := by
  have hlen := hO.len
  have HO := Lib.hid hO
  have HB := Lib.hid hb
  clear hO hb
  go_enter Try.func32, Try.ntmps32
  go_wp2_with fail
  go_loopw [1, 5] (fun u v wr => ∃ i : Nat, i ≤ n ∧ u = .int .i64 ((k + i * 2 : Nat) : Int) ∧ v = .int .i64 i ∧ OwnR 27 2 wr B (.slice a n cap) n (mks k (i * 2) ++ xs.drop (i * 2)) ∧ Out lo hi w wr) (fun _ v _ => n - (intOf v).toNat)
  case atStart => exact ⟨0, by omega, by simp, rfl, by simpa [mks] using HO.out, Out.refl _ _ _⟩
  case round =>
    clear HO
    obtain ⟨i, hin, rfl, rfl, hO, ho⟩ := hrel
    have O := Lib.hid hO
    have OT := Lib.hid ho
    clear hO ho
    by_cases hlt : i < n
    · obtain ⟨a9, cap9, e9, hrs, hfz⟩ := OwnR.open O.out
      simp only [Value.slice.injEq] at e9
      obtain ⟨rfl, -, rfl⟩ := e9
      obtain ⟨b, off, rfl⟩ := RS.some hrs (by omega)
      obtain ⟨rfl, -, fz, -, -⟩ := hfz b off none rfl
      obtain ⟨c0, c1⟩ := RS.two hrs hlt
      simp only [Nat.zero_add] at c0 c1
      have f0 := fz (i * 2)
      have f1 := fz (i * 2 + 1)
      have hbb := HB.out b rfl
      obtain ⟨z, hz⟩ : ∃ z : Nat, k + i * 2 = z := ⟨_, rfl⟩
      have s1 := (OwnR.stored O.out (i * 2) (z : Int)).1
      rw [mks_set (by omega) (by omega)] at s1
      have s2 := (OwnR.stored s1 (i * 2 + 1) ((z : Int) + 1)).1
      rw [mks_set (by omega) (by omega)] at s2
      have hset : Out lo hi w _ := Out.trans OT.out (Out.trans (Out.set (w := wr) (q := b) (i := i * 2) (.int .i64 (z : Int)) hbb.1 hbb.2) (Out.set (w := wr.setCell ⟨b, i * 2, none⟩ (.int .i64 (z : Int))) (q := b) (i := i * 2 + 1) (.int .i64 ((z : Int) + 1)) hbb.1 hbb.2))
      have c1' : (wr.setCell ⟨b, i * 2, none⟩ (.int .i64 (z : Int))).cell? ⟨b, i * 2 + 1, none⟩ = some (.int .i64 (nth (mks k (i * 2) ++ xs.drop (i * 2)) (i * 2 + 1))) := by
        rw [World.cell?_setCell_other _ _ _ _ (by simp)]; exact c1
      have HS2 := Lib.hid s2
      have HSET := Lib.hid hset
      have hlti : (i : Int) < (n : Int) := by omega
      have hzb : (z : Int) ≤ 3000000 := by omega
      rw [hz]
      have HZ := Lib.hid hz
      clear s1 s2 hset fz hfz hrs O OT c1 HB hz
      go_wp2_with fail
      go_roundw
      case rel => exact ⟨i + 1, by omega, by have := HZ.out; go_num, by go_num, by rw [show (i + 1) * 2 = i * 2 + 1 + 1 by omega]; exact HS2.out, HSET.out⟩
      case measure => simp [intOf]; omega
    · obtain rfl : i = n := by omega
      have h9 := O.out
      rw [List.drop_eq_nil_of_le (by omega), List.append_nil] at h9
      have O9 := Lib.hid h9
      obtain ⟨z, hz⟩ : ∃ z : Nat, k + i * 2 = z := ⟨_, rfl⟩
      rw [hz]
      have HZ := Lib.hid hz
      clear h9 hz O
      go_wp2_with fail
      go_ret
      exact ⟨by rw [HZ.out]; rfl, O9.out, OT.out⟩
set_option maxHeartbeats 2000000 in
theorem heldStopS_c (a : Option Addr) (n cap k : Nat) (w : World) (hx : RS 2 w a n (mks k (n * 2))) (hk : k ≤ 10) (hn : n ≤ 1048576) :
    Calls Try.prog 33 #[.slice a n cap, .int .i64 k] w (St w (.int .i64 ((k + n * 2 : Nat) : Int))) := by
  have HX := Lib.hid hx
  clear hx
  obtain ⟨wo, hwo⟩ : ∃ wo : World, wo = w := ⟨_, rfl⟩
  go_enter Try.func33, Try.ntmps33
  go_wp2_with fail
  go_loopw [1, 5] (fun u v wr => ∃ i : Nat, i ≤ n ∧ u = .int .i64 ((k + i * 2 : Nat) : Int) ∧ v = .int .i64 i ∧ wr = wo) (fun _ v _ => n - (intOf v).toNat)
  case atStart => exact ⟨0, by omega, by simp, rfl, hwo.symm⟩
  case round =>
    obtain ⟨i, hin, rfl, rfl, hw⟩ := hrel
    rw [hwo] at hw
    subst hw
    have HW := Lib.hid hwo
    clear hwo
    obtain ⟨z, hz⟩ : ∃ z : Nat, k + i * 2 = z := ⟨_, rfl⟩
    have HZ := Lib.hid hz
    by_cases hlt : i < n
    · obtain ⟨b, off, rfl⟩ := RS.some HX.out (by omega)
      obtain ⟨c0, c1⟩ := RS.two HX.out hlt
      rw [mks_nth (by omega)] at c0 c1
      rw [show ((k + i * 2 : Nat) : Int) = (z : Int) by omega] at c0
      rw [show ((k + (i * 2 + 1) : Nat) : Int) = (z : Int) + 1 by omega] at c1
      have hlti : (i : Int) < (n : Int) := by omega
      have hzb : (z : Int) ≤ 3000000 := by omega
      rw [hz]
      clear hz
      go_wp2_with fail
      go_roundw
      case rel => exact ⟨i + 1, by omega, by have := HZ.out; go_num, by go_num, HW.out.symm⟩
      case measure => simp [intOf]; omega
    · obtain rfl : i = n := by omega
      rw [hz]
      clear hz
      go_wp2_with fail
      go_ret
      exact ⟨by rw [HZ.out]; rfl, rfl⟩
end Go.Proofs.Ytkpginkkfobblaa
