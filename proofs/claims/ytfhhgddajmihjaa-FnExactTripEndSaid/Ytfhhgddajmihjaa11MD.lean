/- The exact laws' eqRider, eqRiderS. -/
import Derived.Test.Ytfhhgddajmihjaa11MA
import Derived.Test.Ytfhhgddajmihjaa9H
import Derived.Laws.OwnMore
namespace Go.Proofs.Ytfhhgddajmihjaa
open Go.RowKit
set_option linter.unusedVariables false
set_option linter.unusedSimpArgs false
set_option maxRecDepth 100000

set_option maxHeartbeats 2000000 in
theorem eqRider_c (r r' : Ri) (w : World) : Calls Try.prog 88 #[.agg #[.int .i64 r.a, .int .i64 r.b, .int .i64 r.s], .agg #[.int .i64 r'.a, .int .i64 r'.b, .int .i64 r'.s]] w (Mk w (.bool (tr (r = r')))) := by
  obtain ⟨x, y, s⟩ := r
  obtain ⟨x', y', s'⟩ := r'
  show Calls Try.prog 88 #[.agg #[.int .i64 x, .int .i64 y, .int .i64 s], .agg #[.int .i64 x', .int .i64 y', .int .i64 s']] w (Mk w (.bool (tr ((⟨x, y, s⟩ : Ri) = ⟨x', y', s'⟩))))
  refine at_base fun wn hwn => ?_
  have T := Lib.hid (show Below w.heap.size w wn from by rw [hwn]; exact Below.refl _ _)
  clear hwn
  by_cases h0 : x = x'
  case neg =>
    have E := Lib.hid (tr_false (fun h : (⟨x, y, s⟩ : Ri) = ⟨x', y', s'⟩ => h0 (by simp only [Ri.mk.injEq] at h; exact h.1)))
    have t : (x != x') = true := by rw [bne_iff_ne]; exact h0
    clear h0
    obtain ⟨g, hg⟩ : ∃ g, Array.size (World.heap wn) = g := ⟨_, rfl⟩
    have HGg := Lib.hid hg
    have hTg : w.heap.size ≤ g := by rw [← hg]; exact T.out.size
    have Tn := Lib.hid (show Below w.heap.size w ((wn.alloc (.cells #[.int .i64 x, .int .i64 y, .int .i64 s] 32)).alloc (.cells #[.int .i64 x', .int .i64 y', .int .i64 s'] 32)) from (Below.al (Below.al T.out (.cells #[.int .i64 x, .int .i64 y, .int .i64 s] 32)) (.cells #[.int .i64 x', .int .i64 y', .int .i64 s'] 32)))
    have AB := Lib.hid (show BoxV ((wn.alloc (.cells #[.int .i64 x, .int .i64 y, .int .i64 s] 32)).alloc (.cells #[.int .i64 x', .int .i64 y', .int .i64 s'] 32)) g [.int .i64 x, .int .i64 y, .int .i64 s] from by have h9 := (BoxV.al (BoxV.new wn [.int .i64 x, .int .i64 y, .int .i64 s] 32 (by simp) rfl) (.cells #[.int .i64 x', .int .i64 y', .int .i64 s'] 32)); simp only [World.size_alloc, hg, Nat.add_assoc, Nat.reduceAdd] at h9; exact h9)
    have BB := Lib.hid (show BoxV ((wn.alloc (.cells #[.int .i64 x, .int .i64 y, .int .i64 s] 32)).alloc (.cells #[.int .i64 x', .int .i64 y', .int .i64 s'] 32)) (g + 1) [.int .i64 x', .int .i64 y', .int .i64 s'] from by have h9 := (BoxV.new (wn.alloc (.cells #[.int .i64 x, .int .i64 y, .int .i64 s] 32)) [.int .i64 x', .int .i64 y', .int .i64 s'] 32 (by simp) rfl); simp only [World.size_alloc, hg, Nat.add_assoc, Nat.reduceAdd] at h9; exact h9)
    have HZg := Lib.hid (show (((wn.alloc (.cells #[.int .i64 x, .int .i64 y, .int .i64 s] 32)).alloc (.cells #[.int .i64 x', .int .i64 y', .int .i64 s'] 32))).heap.size = g + 2 from by simp only [World.size_alloc, hg, Nat.add_assoc, Nat.reduceAdd])
    clear hg
    clear T
    have T := Tn
    clear Tn
    go_enter Try.func88, Try.ntmps88
    have c0 := (AB.out.2 0 _ rfl).1
    have c1 := (AB.out.2 1 _ rfl).1
    have c2 := (AB.out.2 2 _ rfl).1
    have d0 := (BB.out.2 0 _ rfl).1
    have d1 := (BB.out.2 1 _ rfl).1
    have d2 := (BB.out.2 2 _ rfl).1
    go_wp2_with fail
    go_ret
    exact Mk.b E.out T.out
  subst h0
  by_cases h1 : y = y'
  case neg =>
    have E := Lib.hid (tr_false (fun h : (⟨x, y, s⟩ : Ri) = ⟨x, y', s'⟩ => h1 (by simp only [Ri.mk.injEq] at h; exact h.2.1)))
    have t : (y != y') = true := by rw [bne_iff_ne]; exact h1
    clear h1
    obtain ⟨g, hg⟩ : ∃ g, Array.size (World.heap wn) = g := ⟨_, rfl⟩
    have HGg := Lib.hid hg
    have hTg : w.heap.size ≤ g := by rw [← hg]; exact T.out.size
    have Tn := Lib.hid (show Below w.heap.size w ((wn.alloc (.cells #[.int .i64 x, .int .i64 y, .int .i64 s] 32)).alloc (.cells #[.int .i64 x, .int .i64 y', .int .i64 s'] 32)) from (Below.al (Below.al T.out (.cells #[.int .i64 x, .int .i64 y, .int .i64 s] 32)) (.cells #[.int .i64 x, .int .i64 y', .int .i64 s'] 32)))
    have AB := Lib.hid (show BoxV ((wn.alloc (.cells #[.int .i64 x, .int .i64 y, .int .i64 s] 32)).alloc (.cells #[.int .i64 x, .int .i64 y', .int .i64 s'] 32)) g [.int .i64 x, .int .i64 y, .int .i64 s] from by have h9 := (BoxV.al (BoxV.new wn [.int .i64 x, .int .i64 y, .int .i64 s] 32 (by simp) rfl) (.cells #[.int .i64 x, .int .i64 y', .int .i64 s'] 32)); simp only [World.size_alloc, hg, Nat.add_assoc, Nat.reduceAdd] at h9; exact h9)
    have BB := Lib.hid (show BoxV ((wn.alloc (.cells #[.int .i64 x, .int .i64 y, .int .i64 s] 32)).alloc (.cells #[.int .i64 x, .int .i64 y', .int .i64 s'] 32)) (g + 1) [.int .i64 x, .int .i64 y', .int .i64 s'] from by have h9 := (BoxV.new (wn.alloc (.cells #[.int .i64 x, .int .i64 y, .int .i64 s] 32)) [.int .i64 x, .int .i64 y', .int .i64 s'] 32 (by simp) rfl); simp only [World.size_alloc, hg, Nat.add_assoc, Nat.reduceAdd] at h9; exact h9)
    have HZg := Lib.hid (show (((wn.alloc (.cells #[.int .i64 x, .int .i64 y, .int .i64 s] 32)).alloc (.cells #[.int .i64 x, .int .i64 y', .int .i64 s'] 32))).heap.size = g + 2 from by simp only [World.size_alloc, hg, Nat.add_assoc, Nat.reduceAdd])
    clear hg
    clear T
    have T := Tn
    clear Tn
    go_enter Try.func88, Try.ntmps88
    have c0 := (AB.out.2 0 _ rfl).1
    have c1 := (AB.out.2 1 _ rfl).1
    have c2 := (AB.out.2 2 _ rfl).1
    have d0 := (BB.out.2 0 _ rfl).1
    have d1 := (BB.out.2 1 _ rfl).1
    have d2 := (BB.out.2 2 _ rfl).1
    go_wp2_with fail
    go_ret
    exact Mk.b E.out T.out
  subst h1
  by_cases h2 : s = s'
  case neg =>
    have E := Lib.hid (tr_false (fun h : (⟨x, y, s⟩ : Ri) = ⟨x, y, s'⟩ => h2 (by simp only [Ri.mk.injEq] at h; exact h.2.2)))
    have t : (s != s') = true := by rw [bne_iff_ne]; exact h2
    clear h2
    obtain ⟨g, hg⟩ : ∃ g, Array.size (World.heap wn) = g := ⟨_, rfl⟩
    have HGg := Lib.hid hg
    have hTg : w.heap.size ≤ g := by rw [← hg]; exact T.out.size
    have Tn := Lib.hid (show Below w.heap.size w ((wn.alloc (.cells #[.int .i64 x, .int .i64 y, .int .i64 s] 32)).alloc (.cells #[.int .i64 x, .int .i64 y, .int .i64 s'] 32)) from (Below.al (Below.al T.out (.cells #[.int .i64 x, .int .i64 y, .int .i64 s] 32)) (.cells #[.int .i64 x, .int .i64 y, .int .i64 s'] 32)))
    have AB := Lib.hid (show BoxV ((wn.alloc (.cells #[.int .i64 x, .int .i64 y, .int .i64 s] 32)).alloc (.cells #[.int .i64 x, .int .i64 y, .int .i64 s'] 32)) g [.int .i64 x, .int .i64 y, .int .i64 s] from by have h9 := (BoxV.al (BoxV.new wn [.int .i64 x, .int .i64 y, .int .i64 s] 32 (by simp) rfl) (.cells #[.int .i64 x, .int .i64 y, .int .i64 s'] 32)); simp only [World.size_alloc, hg, Nat.add_assoc, Nat.reduceAdd] at h9; exact h9)
    have BB := Lib.hid (show BoxV ((wn.alloc (.cells #[.int .i64 x, .int .i64 y, .int .i64 s] 32)).alloc (.cells #[.int .i64 x, .int .i64 y, .int .i64 s'] 32)) (g + 1) [.int .i64 x, .int .i64 y, .int .i64 s'] from by have h9 := (BoxV.new (wn.alloc (.cells #[.int .i64 x, .int .i64 y, .int .i64 s] 32)) [.int .i64 x, .int .i64 y, .int .i64 s'] 32 (by simp) rfl); simp only [World.size_alloc, hg, Nat.add_assoc, Nat.reduceAdd] at h9; exact h9)
    have HZg := Lib.hid (show (((wn.alloc (.cells #[.int .i64 x, .int .i64 y, .int .i64 s] 32)).alloc (.cells #[.int .i64 x, .int .i64 y, .int .i64 s'] 32))).heap.size = g + 2 from by simp only [World.size_alloc, hg, Nat.add_assoc, Nat.reduceAdd])
    clear hg
    clear T
    have T := Tn
    clear Tn
    go_enter Try.func88, Try.ntmps88
    have c0 := (AB.out.2 0 _ rfl).1
    have c1 := (AB.out.2 1 _ rfl).1
    have c2 := (AB.out.2 2 _ rfl).1
    have d0 := (BB.out.2 0 _ rfl).1
    have d1 := (BB.out.2 1 _ rfl).1
    have d2 := (BB.out.2 2 _ rfl).1
    go_wp2_with fail
    go_ret
    exact Mk.b E.out T.out
  subst h2
  have E := Lib.hid (tr_true (show (⟨x, y, s⟩ : Ri) = ⟨x, y, s⟩ from rfl))
  obtain ⟨g, hg⟩ : ∃ g, Array.size (World.heap wn) = g := ⟨_, rfl⟩
  have HGg := Lib.hid hg
  have hTg : w.heap.size ≤ g := by rw [← hg]; exact T.out.size
  have Tn := Lib.hid (show Below w.heap.size w ((wn.alloc (.cells #[.int .i64 x, .int .i64 y, .int .i64 s] 32)).alloc (.cells #[.int .i64 x, .int .i64 y, .int .i64 s] 32)) from (Below.al (Below.al T.out (.cells #[.int .i64 x, .int .i64 y, .int .i64 s] 32)) (.cells #[.int .i64 x, .int .i64 y, .int .i64 s] 32)))
  have AB := Lib.hid (show BoxV ((wn.alloc (.cells #[.int .i64 x, .int .i64 y, .int .i64 s] 32)).alloc (.cells #[.int .i64 x, .int .i64 y, .int .i64 s] 32)) g [.int .i64 x, .int .i64 y, .int .i64 s] from by have h9 := (BoxV.al (BoxV.new wn [.int .i64 x, .int .i64 y, .int .i64 s] 32 (by simp) rfl) (.cells #[.int .i64 x, .int .i64 y, .int .i64 s] 32)); simp only [World.size_alloc, hg, Nat.add_assoc, Nat.reduceAdd] at h9; exact h9)
  have BB := Lib.hid (show BoxV ((wn.alloc (.cells #[.int .i64 x, .int .i64 y, .int .i64 s] 32)).alloc (.cells #[.int .i64 x, .int .i64 y, .int .i64 s] 32)) (g + 1) [.int .i64 x, .int .i64 y, .int .i64 s] from by have h9 := (BoxV.new (wn.alloc (.cells #[.int .i64 x, .int .i64 y, .int .i64 s] 32)) [.int .i64 x, .int .i64 y, .int .i64 s] 32 (by simp) rfl); simp only [World.size_alloc, hg, Nat.add_assoc, Nat.reduceAdd] at h9; exact h9)
  have HZg := Lib.hid (show (((wn.alloc (.cells #[.int .i64 x, .int .i64 y, .int .i64 s] 32)).alloc (.cells #[.int .i64 x, .int .i64 y, .int .i64 s] 32))).heap.size = g + 2 from by simp only [World.size_alloc, hg, Nat.add_assoc, Nat.reduceAdd])
  clear hg
  clear T
  have T := Tn
  clear Tn
  go_enter Try.func88, Try.ntmps88
  have c0 := (AB.out.2 0 _ rfl).1
  have c1 := (AB.out.2 1 _ rfl).1
  have c2 := (AB.out.2 2 _ rfl).1
  have d0 := (BB.out.2 0 _ rfl).1
  have d1 := (BB.out.2 1 _ rfl).1
  have d2 := (BB.out.2 2 _ rfl).1
  go_wp2_with fail
  go_ret
  exact Mk.b E.out T.out
set_option maxHeartbeats 2000000 in
theorem eqRiderS_c (a : Option Addr) (n cap : Nat) (xs : List Ri) (a' : Option Addr) (n' cap' : Nat) (ys : List Ri) (w : World) (hx : Rid w a n xs) (hy : Rid w a' n' ys) (hm : n ≤ 1048577) :
    Calls Try.prog 70 #[.slice a n cap, .slice a' n' cap'] w (Mk w (.bool (tr (xs = ys)))) := by
  have HX := Lib.hid hx
  have HY := Lib.hid hy
  have L1 := Lib.hid hx.2
  have L2 := Lib.hid hy.2
  clear hx hy
  by_cases hl : n = n'
  case neg =>
    have t : ((n : Int) != (n' : Int)) = true := by simp; omega
    have E := Lib.hid (tr_false (fun h : xs = ys => hl (by rw [← L1.out, ← L2.out, h])))
    clear hl
    go_enter Try.func70, Try.ntmps70
    go_wp2_with fail
    go_ret
    exact Mk.b E.out (Below.refl _ _)
  subst hl
  refine at_base fun wn hwn => ?_
  have T := Lib.hid (show Below w.heap.size w wn from by rw [hwn]; exact Below.refl _ _)
  clear hwn
  go_enter Try.func70, Try.ntmps70
  go_wp2_with fail
  go_loopw [5] (fun v wr => ∃ i : Nat, i ≤ n ∧ v = .int .i64 i ∧ (∀ j, j < i → rat xs j = rat ys j) ∧ Below w.heap.size w wr) (fun v _ => n - (intOf v).toNat)
  case atStart => exact ⟨0, by omega, rfl, (fun j hj => by omega), T.out⟩
  case' round =>
    clear T
    obtain ⟨i, hi, rfl, hall, h9T⟩ := hrel
    obtain ⟨wn, hwq⟩ : ∃ w0 : World, w0 = wr := ⟨_, rfl⟩
    rw [← hwq] at h9T ⊢
    clear hwq
    have T := Lib.hid h9T
    clear h9T
    have HA := Lib.hid hall
    clear hall
    by_cases hlt : i < n
    case neg =>
      obtain rfl : i = n := by omega
      have E := Lib.hid (tr_true (rid_ext (l := xs) (l' := ys) (by rw [L1.out, L2.out]) (fun j hj => HA.out j (by rw [← L1.out]; exact hj))))
      go_wp2_with fail
      go_ret
      exact Mk.b E.out T.out
    obtain ⟨b, off, rfl⟩ := Rid.some HX.out (by omega)
    obtain ⟨b', off', rfl⟩ := Rid.some HY.out (by omega)
    have C := Lib.hid (fun (w' : World) (h : Below w.heap.size w w') => And.intro (Rid.three (Rid.below HX.out h) hlt) (Rid.three (Rid.below HY.out h) hlt))
    have hii : (i : Int) < n := by omega
    have HN := Lib.hid (show rat xs i = rat ys i → ∀ j, j < i + 1 → rat xs j = rat ys j from fun h j hj => by
      by_cases e : j = i
      · subst e; exact h
      · exact HA.out j (by omega))
    have HF := Lib.hid (show rat xs i ≠ rat ys i → tr (xs = ys) = false from fun h => tr_false (fun g => h (by rw [g])))
    have KE := fun w' => eqRider_c (rat xs i) (rat ys i) w'
    have HE0 := Classical.em (rat xs i = rat ys i)
    obtain ⟨⟨x, y, s⟩, hr⟩ : ∃ r, rat xs i = r := ⟨_, rfl⟩
    obtain ⟨⟨x', y', s'⟩, hr'⟩ : ∃ r, rat ys i = r := ⟨_, rfl⟩
    rw [hr, hr'] at C HN HF KE HE0
    clear hr hr' HA
    rcases HE0 with he | he
    · rw [tr_true he] at KE
      have HK := Lib.hid (show ∀ w', Calls Try.prog 88 #[.agg #[.int .i64 x, .int .i64 y, .int .i64 s], .agg #[.int .i64 x', .int .i64 y', .int .i64 s']] w' (Mk w' (.bool true)) from KE)
      have HSE := Lib.hid (HN.out he)
      clear KE he HN HF
      go_wp2_with fail
      refine wp_region_quiet (C := fun w' => Below (World.heap (wn)).size (wn) w') (by kernel_rfl) (by kernel_rfl) (by first | exact ⟨rfl, rfl, rfl, Nat.le_refl _, fun _ _ => rfl⟩ | exact Below.dw (by repeat (first | exact Below.refl _ _ | refine Below.al ?_ _ | refine Below.dr ?_ _ | refine Below.dw ?_ | refine Below.st ?_ (by first | exact Nat.le_refl _ | exact Nat.le_add_right _ _ | (simp; omega)) _ | (refine below_next ?_ (by assumption))))) ?_
      simp only []
      repeat (go_big_quiet_step (first | (intro _; with_reducible exact rfl) | (intro hC; go_at_call 88; obtain ⟨⟨c0, c1, c2⟩, d0, d1, d2⟩ := C.out _ (below_next T.out hC); (refine Calls.mono (HK.out _) ?_); (first | (rintro e wx ⟨rfl, hb⟩; exact ⟨rfl, below_next hC hb⟩) | (rintro e wx ⟨rfl, n, rfl⟩; exact ⟨rfl, Below.dr hC n⟩) | (rintro e wx ⟨rfl, rfl⟩; exact ⟨rfl, hC⟩))) | (intro hC; obtain ⟨⟨c0, c1, c2⟩, d0, d1, d2⟩ := C.out _ (below_next T.out hC); go_simp; rfl)))
      refine wpQuiet_nil ?_
      intro wq hq
      have Tn := Lib.hid (below_next T.out hq)
      clear hq
      clear T
      have T := Tn
      clear Tn
      obtain ⟨wn, hwq⟩ : ∃ w0, w0 = wq := ⟨_, rfl⟩
      subst hwq
      go_wp2_with fail
      go_roundw
      case rel => exact ⟨i + 1, by omega, by go_num, HSE.out, T.out⟩
      case measure => first | (simp [intOf]; done) | (simp [intOf]; omega) | omega
    · rw [tr_false he] at KE
      have HK := Lib.hid (show ∀ w', Calls Try.prog 88 #[.agg #[.int .i64 x, .int .i64 y, .int .i64 s], .agg #[.int .i64 x', .int .i64 y', .int .i64 s']] w' (Mk w' (.bool false)) from KE)
      have E := Lib.hid (HF.out he)
      clear KE he HN HF
      go_wp2_with fail
      refine wp_region_quiet (C := fun w' => Below (World.heap (wn)).size (wn) w') (by kernel_rfl) (by kernel_rfl) (by first | exact ⟨rfl, rfl, rfl, Nat.le_refl _, fun _ _ => rfl⟩ | exact Below.dw (by repeat (first | exact Below.refl _ _ | refine Below.al ?_ _ | refine Below.dr ?_ _ | refine Below.dw ?_ | refine Below.st ?_ (by first | exact Nat.le_refl _ | exact Nat.le_add_right _ _ | (simp; omega)) _ | (refine below_next ?_ (by assumption))))) ?_
      simp only []
      repeat (go_big_quiet_step (first | (intro _; with_reducible exact rfl) | (intro hC; go_at_call 88; obtain ⟨⟨c0, c1, c2⟩, d0, d1, d2⟩ := C.out _ (below_next T.out hC); (refine Calls.mono (HK.out _) ?_); (first | (rintro e wx ⟨rfl, hb⟩; exact ⟨rfl, below_next hC hb⟩) | (rintro e wx ⟨rfl, n, rfl⟩; exact ⟨rfl, Below.dr hC n⟩) | (rintro e wx ⟨rfl, rfl⟩; exact ⟨rfl, hC⟩))) | (intro hC; obtain ⟨⟨c0, c1, c2⟩, d0, d1, d2⟩ := C.out _ (below_next T.out hC); go_simp; rfl)))
      refine wpQuiet_nil ?_
      intro wq hq
      have Tn := Lib.hid (below_next T.out hq)
      clear hq
      clear T
      have T := Tn
      clear Tn
      obtain ⟨wn, hwq⟩ : ∃ w0, w0 = wq := ⟨_, rfl⟩
      subst hwq
      go_wp2_with fail
      go_ret
      exact Mk.b E.out T.out
end Go.Proofs.Ytfhhgddajmihjaa

namespace Go.Proofs.Ytfhhgddajmihjaa
open Go.RowKit
set_option linter.unusedVariables false
set_option linter.unusedSimpArgs false
set_option maxRecDepth 100000

set_option maxHeartbeats 4000000 in
theorem eqTrip_c (n m f d : Int) (a : Option Addr) (k c : Nat) (l : List Ri) (n' m' f' d' : Int) (a' : Option Addr) (k' c' : Nat) (l' : List Ri) (w : World) (hX : Rid w a k l) (hY : Rid w a' k' l') (hk : k ≤ 1048577) :
    Calls Try.prog 36 #[.agg #[.int .i64 n, .int .i64 m, .int .i64 f, .int .i64 d, .slice a k c], .agg #[.int .i64 n', .int .i64 m', .int .i64 f', .int .i64 d', .slice a' k' c']] w (Mk w (.bool (tr ((⟨n, m, f, d, l⟩ : Tp) = ⟨n', m', f', d', l'⟩)))) := by
  have X0 := Lib.hid hX
  have Y0 := Lib.hid hY
  have KR := fun w' (h : Below w.heap.size w w') => eqRiderS_c a k c l a' k' c' l' w' (Rid.below hX h) (Rid.below hY h) hk
  clear hX hY
  refine at_base fun wn hwn => ?_
  have T := Lib.hid (show Below w.heap.size w wn from by rw [hwn]; exact Below.refl _ _)
  clear hwn
  by_cases h0 : n = n'
  case neg =>
    have E := Lib.hid (tr_false (fun h : (⟨n, m, f, d, l⟩ : Tp) = ⟨n', m', f', d', l'⟩ => h0 (by simp only [Tp.mk.injEq] at h; exact h.1)))
    have t : (n != n') = true := by rw [bne_iff_ne]; exact h0
    clear h0 KR
    obtain ⟨g, hg⟩ : ∃ g, Array.size (World.heap wn) = g := ⟨_, rfl⟩
    have HGg := Lib.hid hg
    have hTg : w.heap.size ≤ g := by rw [← hg]; exact T.out.size
    have Tn := Lib.hid (show Below w.heap.size w ((wn.alloc (.cells #[.int .i64 n, .int .i64 m, .int .i64 f, .int .i64 d, .slice a k c] 27)).alloc (.cells #[.int .i64 n', .int .i64 m', .int .i64 f', .int .i64 d', .slice a' k' c'] 27)) from (Below.al (Below.al T.out (.cells #[.int .i64 n, .int .i64 m, .int .i64 f, .int .i64 d, .slice a k c] 27)) (.cells #[.int .i64 n', .int .i64 m', .int .i64 f', .int .i64 d', .slice a' k' c'] 27)))
    have TA := Lib.hid (show BoxV ((wn.alloc (.cells #[.int .i64 n, .int .i64 m, .int .i64 f, .int .i64 d, .slice a k c] 27)).alloc (.cells #[.int .i64 n', .int .i64 m', .int .i64 f', .int .i64 d', .slice a' k' c'] 27)) g [.int .i64 n, .int .i64 m, .int .i64 f, .int .i64 d, .slice a k c] from by have h9 := (BoxV.al (BoxV.new wn [.int .i64 n, .int .i64 m, .int .i64 f, .int .i64 d, .slice a k c] 27 (by simp) rfl) (.cells #[.int .i64 n', .int .i64 m', .int .i64 f', .int .i64 d', .slice a' k' c'] 27)); simp only [World.size_alloc, hg, Nat.add_assoc, Nat.reduceAdd] at h9; exact h9)
    have TB := Lib.hid (show BoxV ((wn.alloc (.cells #[.int .i64 n, .int .i64 m, .int .i64 f, .int .i64 d, .slice a k c] 27)).alloc (.cells #[.int .i64 n', .int .i64 m', .int .i64 f', .int .i64 d', .slice a' k' c'] 27)) (g + 1) [.int .i64 n', .int .i64 m', .int .i64 f', .int .i64 d', .slice a' k' c'] from by have h9 := (BoxV.new (wn.alloc (.cells #[.int .i64 n, .int .i64 m, .int .i64 f, .int .i64 d, .slice a k c] 27)) [.int .i64 n', .int .i64 m', .int .i64 f', .int .i64 d', .slice a' k' c'] 27 (by simp) rfl); simp only [World.size_alloc, hg, Nat.add_assoc, Nat.reduceAdd] at h9; exact h9)
    have HZg := Lib.hid (show (((wn.alloc (.cells #[.int .i64 n, .int .i64 m, .int .i64 f, .int .i64 d, .slice a k c] 27)).alloc (.cells #[.int .i64 n', .int .i64 m', .int .i64 f', .int .i64 d', .slice a' k' c'] 27))).heap.size = g + 2 from by simp only [World.size_alloc, hg, Nat.add_assoc, Nat.reduceAdd])
    clear hg
    clear T
    have T := Tn
    clear Tn
    go_enter Try.func36, Try.ntmps36
    have p0 := (TA.out.2 0 _ rfl).1
    have p1 := (TA.out.2 1 _ rfl).1
    have p2 := (TA.out.2 2 _ rfl).1
    have p3 := (TA.out.2 3 _ rfl).1
    have p4 := (TA.out.2 4 _ rfl).1
    have q0 := (TB.out.2 0 _ rfl).1
    have q1 := (TB.out.2 1 _ rfl).1
    have q2 := (TB.out.2 2 _ rfl).1
    have q3 := (TB.out.2 3 _ rfl).1
    have q4 := (TB.out.2 4 _ rfl).1
    go_wp2_with fail
    go_ret
    exact Mk.b E.out T.out
  subst h0
  by_cases h1 : m = m'
  case neg =>
    have E := Lib.hid (tr_false (fun h : (⟨n, m, f, d, l⟩ : Tp) = ⟨n, m', f', d', l'⟩ => h1 (by simp only [Tp.mk.injEq] at h; exact h.2.1)))
    have t : (m != m') = true := by rw [bne_iff_ne]; exact h1
    clear h1 KR
    obtain ⟨g, hg⟩ : ∃ g, Array.size (World.heap wn) = g := ⟨_, rfl⟩
    have HGg := Lib.hid hg
    have hTg : w.heap.size ≤ g := by rw [← hg]; exact T.out.size
    have Tn := Lib.hid (show Below w.heap.size w ((wn.alloc (.cells #[.int .i64 n, .int .i64 m, .int .i64 f, .int .i64 d, .slice a k c] 27)).alloc (.cells #[.int .i64 n, .int .i64 m', .int .i64 f', .int .i64 d', .slice a' k' c'] 27)) from (Below.al (Below.al T.out (.cells #[.int .i64 n, .int .i64 m, .int .i64 f, .int .i64 d, .slice a k c] 27)) (.cells #[.int .i64 n, .int .i64 m', .int .i64 f', .int .i64 d', .slice a' k' c'] 27)))
    have TA := Lib.hid (show BoxV ((wn.alloc (.cells #[.int .i64 n, .int .i64 m, .int .i64 f, .int .i64 d, .slice a k c] 27)).alloc (.cells #[.int .i64 n, .int .i64 m', .int .i64 f', .int .i64 d', .slice a' k' c'] 27)) g [.int .i64 n, .int .i64 m, .int .i64 f, .int .i64 d, .slice a k c] from by have h9 := (BoxV.al (BoxV.new wn [.int .i64 n, .int .i64 m, .int .i64 f, .int .i64 d, .slice a k c] 27 (by simp) rfl) (.cells #[.int .i64 n, .int .i64 m', .int .i64 f', .int .i64 d', .slice a' k' c'] 27)); simp only [World.size_alloc, hg, Nat.add_assoc, Nat.reduceAdd] at h9; exact h9)
    have TB := Lib.hid (show BoxV ((wn.alloc (.cells #[.int .i64 n, .int .i64 m, .int .i64 f, .int .i64 d, .slice a k c] 27)).alloc (.cells #[.int .i64 n, .int .i64 m', .int .i64 f', .int .i64 d', .slice a' k' c'] 27)) (g + 1) [.int .i64 n, .int .i64 m', .int .i64 f', .int .i64 d', .slice a' k' c'] from by have h9 := (BoxV.new (wn.alloc (.cells #[.int .i64 n, .int .i64 m, .int .i64 f, .int .i64 d, .slice a k c] 27)) [.int .i64 n, .int .i64 m', .int .i64 f', .int .i64 d', .slice a' k' c'] 27 (by simp) rfl); simp only [World.size_alloc, hg, Nat.add_assoc, Nat.reduceAdd] at h9; exact h9)
    have HZg := Lib.hid (show (((wn.alloc (.cells #[.int .i64 n, .int .i64 m, .int .i64 f, .int .i64 d, .slice a k c] 27)).alloc (.cells #[.int .i64 n, .int .i64 m', .int .i64 f', .int .i64 d', .slice a' k' c'] 27))).heap.size = g + 2 from by simp only [World.size_alloc, hg, Nat.add_assoc, Nat.reduceAdd])
    clear hg
    clear T
    have T := Tn
    clear Tn
    go_enter Try.func36, Try.ntmps36
    have p0 := (TA.out.2 0 _ rfl).1
    have p1 := (TA.out.2 1 _ rfl).1
    have p2 := (TA.out.2 2 _ rfl).1
    have p3 := (TA.out.2 3 _ rfl).1
    have p4 := (TA.out.2 4 _ rfl).1
    have q0 := (TB.out.2 0 _ rfl).1
    have q1 := (TB.out.2 1 _ rfl).1
    have q2 := (TB.out.2 2 _ rfl).1
    have q3 := (TB.out.2 3 _ rfl).1
    have q4 := (TB.out.2 4 _ rfl).1
    go_wp2_with fail
    go_ret
    exact Mk.b E.out T.out
  subst h1
  by_cases h2 : f = f' ∧ d = d'
  case neg =>
    have E := Lib.hid (tr_false (fun h : (⟨n, m, f, d, l⟩ : Tp) = ⟨n, m, f', d', l'⟩ => h2 (by simp only [Tp.mk.injEq] at h; exact ⟨h.2.2.1, h.2.2.2.1⟩)))
    have KE := fun w' => eqStop_c f d f' d' w'
    rw [eq2_f h2] at KE
    have HK := Lib.hid KE
    clear h2 KR KE
    obtain ⟨g, hg⟩ : ∃ g, Array.size (World.heap wn) = g := ⟨_, rfl⟩
    have HGg := Lib.hid hg
    have hTg : w.heap.size ≤ g := by rw [← hg]; exact T.out.size
    have Tn := Lib.hid (show Below w.heap.size w ((wn.alloc (.cells #[.int .i64 n, .int .i64 m, .int .i64 f, .int .i64 d, .slice a k c] 27)).alloc (.cells #[.int .i64 n, .int .i64 m, .int .i64 f', .int .i64 d', .slice a' k' c'] 27)) from (Below.al (Below.al T.out (.cells #[.int .i64 n, .int .i64 m, .int .i64 f, .int .i64 d, .slice a k c] 27)) (.cells #[.int .i64 n, .int .i64 m, .int .i64 f', .int .i64 d', .slice a' k' c'] 27)))
    have TA := Lib.hid (show BoxV ((wn.alloc (.cells #[.int .i64 n, .int .i64 m, .int .i64 f, .int .i64 d, .slice a k c] 27)).alloc (.cells #[.int .i64 n, .int .i64 m, .int .i64 f', .int .i64 d', .slice a' k' c'] 27)) g [.int .i64 n, .int .i64 m, .int .i64 f, .int .i64 d, .slice a k c] from by have h9 := (BoxV.al (BoxV.new wn [.int .i64 n, .int .i64 m, .int .i64 f, .int .i64 d, .slice a k c] 27 (by simp) rfl) (.cells #[.int .i64 n, .int .i64 m, .int .i64 f', .int .i64 d', .slice a' k' c'] 27)); simp only [World.size_alloc, hg, Nat.add_assoc, Nat.reduceAdd] at h9; exact h9)
    have TB := Lib.hid (show BoxV ((wn.alloc (.cells #[.int .i64 n, .int .i64 m, .int .i64 f, .int .i64 d, .slice a k c] 27)).alloc (.cells #[.int .i64 n, .int .i64 m, .int .i64 f', .int .i64 d', .slice a' k' c'] 27)) (g + 1) [.int .i64 n, .int .i64 m, .int .i64 f', .int .i64 d', .slice a' k' c'] from by have h9 := (BoxV.new (wn.alloc (.cells #[.int .i64 n, .int .i64 m, .int .i64 f, .int .i64 d, .slice a k c] 27)) [.int .i64 n, .int .i64 m, .int .i64 f', .int .i64 d', .slice a' k' c'] 27 (by simp) rfl); simp only [World.size_alloc, hg, Nat.add_assoc, Nat.reduceAdd] at h9; exact h9)
    have HZg := Lib.hid (show (((wn.alloc (.cells #[.int .i64 n, .int .i64 m, .int .i64 f, .int .i64 d, .slice a k c] 27)).alloc (.cells #[.int .i64 n, .int .i64 m, .int .i64 f', .int .i64 d', .slice a' k' c'] 27))).heap.size = g + 2 from by simp only [World.size_alloc, hg, Nat.add_assoc, Nat.reduceAdd])
    clear hg
    clear T
    have T := Tn
    clear Tn
    go_enter Try.func36, Try.ntmps36
    have p0 := (TA.out.2 0 _ rfl).1
    have p1 := (TA.out.2 1 _ rfl).1
    have p2 := (TA.out.2 2 _ rfl).1
    have p3 := (TA.out.2 3 _ rfl).1
    have p4 := (TA.out.2 4 _ rfl).1
    have q0 := (TB.out.2 0 _ rfl).1
    have q1 := (TB.out.2 1 _ rfl).1
    have q2 := (TB.out.2 2 _ rfl).1
    have q3 := (TB.out.2 3 _ rfl).1
    have q4 := (TB.out.2 4 _ rfl).1
    go_wp2_with fail
    rw [HGg.out]
    refine Calls.mono (HK.out _) ?_
    intro e wn hh
    obtain ⟨he, hb⟩ := (by first | exact hh | exact Ro.mk hh | exact St.mk hh | exact LawOk.mk' hh : Mk _ _ e wn)
    subst he
    have Tn : Hid (Below w.heap.size w wn) := below_next T.out hb
    have TAn : Hid _ := BoxV.below TA.out hb
    have TBn : Hid _ := BoxV.below TB.out hb
    clear hb hh p0 p1 p2 p3 p4 q0 q1 q2 q3 q4
    clear T TA TB
    have T := Tn
    have TA := TAn
    have TB := TBn
    clear Tn TAn TBn
    go_wp2_with fail
    go_ret
    exact Mk.b E.out T.out
  obtain ⟨rfl, rfl⟩ := h2
  have KE := fun w' => eqStop_c f d f d w'
  rw [eq2_t ⟨rfl, rfl⟩] at KE
  have HK := Lib.hid KE
  clear KE
  by_cases h4 : l = l'
  case neg =>
    have E := Lib.hid (tr_false (fun h : (⟨n, m, f, d, l⟩ : Tp) = ⟨n, m, f, d, l'⟩ => h4 (by simp only [Tp.mk.injEq] at h; exact h.2.2.2.2)))
    rw [tr_false h4] at KR
    have HR := Lib.hid KR
    clear h4 KR
    obtain ⟨g, hg⟩ : ∃ g, Array.size (World.heap wn) = g := ⟨_, rfl⟩
    have HGg := Lib.hid hg
    have hTg : w.heap.size ≤ g := by rw [← hg]; exact T.out.size
    have Tn := Lib.hid (show Below w.heap.size w ((wn.alloc (.cells #[.int .i64 n, .int .i64 m, .int .i64 f, .int .i64 d, .slice a k c] 27)).alloc (.cells #[.int .i64 n, .int .i64 m, .int .i64 f, .int .i64 d, .slice a' k' c'] 27)) from (Below.al (Below.al T.out (.cells #[.int .i64 n, .int .i64 m, .int .i64 f, .int .i64 d, .slice a k c] 27)) (.cells #[.int .i64 n, .int .i64 m, .int .i64 f, .int .i64 d, .slice a' k' c'] 27)))
    have TA := Lib.hid (show BoxV ((wn.alloc (.cells #[.int .i64 n, .int .i64 m, .int .i64 f, .int .i64 d, .slice a k c] 27)).alloc (.cells #[.int .i64 n, .int .i64 m, .int .i64 f, .int .i64 d, .slice a' k' c'] 27)) g [.int .i64 n, .int .i64 m, .int .i64 f, .int .i64 d, .slice a k c] from by have h9 := (BoxV.al (BoxV.new wn [.int .i64 n, .int .i64 m, .int .i64 f, .int .i64 d, .slice a k c] 27 (by simp) rfl) (.cells #[.int .i64 n, .int .i64 m, .int .i64 f, .int .i64 d, .slice a' k' c'] 27)); simp only [World.size_alloc, hg, Nat.add_assoc, Nat.reduceAdd] at h9; exact h9)
    have TB := Lib.hid (show BoxV ((wn.alloc (.cells #[.int .i64 n, .int .i64 m, .int .i64 f, .int .i64 d, .slice a k c] 27)).alloc (.cells #[.int .i64 n, .int .i64 m, .int .i64 f, .int .i64 d, .slice a' k' c'] 27)) (g + 1) [.int .i64 n, .int .i64 m, .int .i64 f, .int .i64 d, .slice a' k' c'] from by have h9 := (BoxV.new (wn.alloc (.cells #[.int .i64 n, .int .i64 m, .int .i64 f, .int .i64 d, .slice a k c] 27)) [.int .i64 n, .int .i64 m, .int .i64 f, .int .i64 d, .slice a' k' c'] 27 (by simp) rfl); simp only [World.size_alloc, hg, Nat.add_assoc, Nat.reduceAdd] at h9; exact h9)
    have HZg := Lib.hid (show (((wn.alloc (.cells #[.int .i64 n, .int .i64 m, .int .i64 f, .int .i64 d, .slice a k c] 27)).alloc (.cells #[.int .i64 n, .int .i64 m, .int .i64 f, .int .i64 d, .slice a' k' c'] 27))).heap.size = g + 2 from by simp only [World.size_alloc, hg, Nat.add_assoc, Nat.reduceAdd])
    clear hg
    clear T
    have T := Tn
    clear Tn
    go_enter Try.func36, Try.ntmps36
    have p0 := (TA.out.2 0 _ rfl).1
    have p1 := (TA.out.2 1 _ rfl).1
    have p2 := (TA.out.2 2 _ rfl).1
    have p3 := (TA.out.2 3 _ rfl).1
    have p4 := (TA.out.2 4 _ rfl).1
    have q0 := (TB.out.2 0 _ rfl).1
    have q1 := (TB.out.2 1 _ rfl).1
    have q2 := (TB.out.2 2 _ rfl).1
    have q3 := (TB.out.2 3 _ rfl).1
    have q4 := (TB.out.2 4 _ rfl).1
    go_wp2_with fail
    rw [HGg.out]
    refine Calls.mono (HK.out _) ?_
    intro e wn hh
    obtain ⟨he, hb⟩ := (by first | exact hh | exact Ro.mk hh | exact St.mk hh | exact LawOk.mk' hh : Mk _ _ e wn)
    subst he
    have Tn : Hid (Below w.heap.size w wn) := below_next T.out hb
    have TAn : Hid _ := BoxV.below TA.out hb
    have TBn : Hid _ := BoxV.below TB.out hb
    clear hb hh p0 p1 p2 p3 p4 q0 q1 q2 q3 q4
    clear T TA TB
    have T := Tn
    have TA := TAn
    have TB := TBn
    clear Tn TAn TBn
    have p0 := (TA.out.2 0 _ rfl).1
    have p1 := (TA.out.2 1 _ rfl).1
    have p2 := (TA.out.2 2 _ rfl).1
    have p3 := (TA.out.2 3 _ rfl).1
    have p4 := (TA.out.2 4 _ rfl).1
    have q0 := (TB.out.2 0 _ rfl).1
    have q1 := (TB.out.2 1 _ rfl).1
    have q2 := (TB.out.2 2 _ rfl).1
    have q3 := (TB.out.2 3 _ rfl).1
    have q4 := (TB.out.2 4 _ rfl).1
    go_wp2_with fail
    refine Calls.mono (HR.out _ T.out) ?_
    intro e wn hh
    obtain ⟨he, hb⟩ := (by first | exact hh | exact Ro.mk hh | exact St.mk hh | exact LawOk.mk' hh : Mk _ _ e wn)
    subst he
    have Tn : Hid (Below w.heap.size w wn) := below_next T.out hb
    have TAn : Hid _ := BoxV.below TA.out hb
    have TBn : Hid _ := BoxV.below TB.out hb
    clear hb hh p0 p1 p2 p3 p4 q0 q1 q2 q3 q4
    clear T TA TB
    have T := Tn
    have TA := TAn
    have TB := TBn
    clear Tn TAn TBn
    go_wp2_with fail
    go_ret
    exact Mk.b E.out T.out
  have E := Lib.hid (tr_true (show (⟨n, m, f, d, l⟩ : Tp) = ⟨n, m, f, d, l'⟩ from by rw [h4]))
  rw [tr_true h4] at KR
  have HR := Lib.hid KR
  clear h4 KR
  obtain ⟨g, hg⟩ : ∃ g, Array.size (World.heap wn) = g := ⟨_, rfl⟩
  have HGg := Lib.hid hg
  have hTg : w.heap.size ≤ g := by rw [← hg]; exact T.out.size
  have Tn := Lib.hid (show Below w.heap.size w ((wn.alloc (.cells #[.int .i64 n, .int .i64 m, .int .i64 f, .int .i64 d, .slice a k c] 27)).alloc (.cells #[.int .i64 n, .int .i64 m, .int .i64 f, .int .i64 d, .slice a' k' c'] 27)) from (Below.al (Below.al T.out (.cells #[.int .i64 n, .int .i64 m, .int .i64 f, .int .i64 d, .slice a k c] 27)) (.cells #[.int .i64 n, .int .i64 m, .int .i64 f, .int .i64 d, .slice a' k' c'] 27)))
  have TA := Lib.hid (show BoxV ((wn.alloc (.cells #[.int .i64 n, .int .i64 m, .int .i64 f, .int .i64 d, .slice a k c] 27)).alloc (.cells #[.int .i64 n, .int .i64 m, .int .i64 f, .int .i64 d, .slice a' k' c'] 27)) g [.int .i64 n, .int .i64 m, .int .i64 f, .int .i64 d, .slice a k c] from by have h9 := (BoxV.al (BoxV.new wn [.int .i64 n, .int .i64 m, .int .i64 f, .int .i64 d, .slice a k c] 27 (by simp) rfl) (.cells #[.int .i64 n, .int .i64 m, .int .i64 f, .int .i64 d, .slice a' k' c'] 27)); simp only [World.size_alloc, hg, Nat.add_assoc, Nat.reduceAdd] at h9; exact h9)
  have TB := Lib.hid (show BoxV ((wn.alloc (.cells #[.int .i64 n, .int .i64 m, .int .i64 f, .int .i64 d, .slice a k c] 27)).alloc (.cells #[.int .i64 n, .int .i64 m, .int .i64 f, .int .i64 d, .slice a' k' c'] 27)) (g + 1) [.int .i64 n, .int .i64 m, .int .i64 f, .int .i64 d, .slice a' k' c'] from by have h9 := (BoxV.new (wn.alloc (.cells #[.int .i64 n, .int .i64 m, .int .i64 f, .int .i64 d, .slice a k c] 27)) [.int .i64 n, .int .i64 m, .int .i64 f, .int .i64 d, .slice a' k' c'] 27 (by simp) rfl); simp only [World.size_alloc, hg, Nat.add_assoc, Nat.reduceAdd] at h9; exact h9)
  have HZg := Lib.hid (show (((wn.alloc (.cells #[.int .i64 n, .int .i64 m, .int .i64 f, .int .i64 d, .slice a k c] 27)).alloc (.cells #[.int .i64 n, .int .i64 m, .int .i64 f, .int .i64 d, .slice a' k' c'] 27))).heap.size = g + 2 from by simp only [World.size_alloc, hg, Nat.add_assoc, Nat.reduceAdd])
  clear hg
  clear T
  have T := Tn
  clear Tn
  go_enter Try.func36, Try.ntmps36
  have p0 := (TA.out.2 0 _ rfl).1
  have p1 := (TA.out.2 1 _ rfl).1
  have p2 := (TA.out.2 2 _ rfl).1
  have p3 := (TA.out.2 3 _ rfl).1
  have p4 := (TA.out.2 4 _ rfl).1
  have q0 := (TB.out.2 0 _ rfl).1
  have q1 := (TB.out.2 1 _ rfl).1
  have q2 := (TB.out.2 2 _ rfl).1
  have q3 := (TB.out.2 3 _ rfl).1
  have q4 := (TB.out.2 4 _ rfl).1
  go_wp2_with fail
  rw [HGg.out]
  refine Calls.mono (HK.out _) ?_
  intro e wn hh
  obtain ⟨he, hb⟩ := (by first | exact hh | exact Ro.mk hh | exact St.mk hh | exact LawOk.mk' hh : Mk _ _ e wn)
  subst he
  have Tn : Hid (Below w.heap.size w wn) := below_next T.out hb
  have TAn : Hid _ := BoxV.below TA.out hb
  have TBn : Hid _ := BoxV.below TB.out hb
  clear hb hh p0 p1 p2 p3 p4 q0 q1 q2 q3 q4
  clear T TA TB
  have T := Tn
  have TA := TAn
  have TB := TBn
  clear Tn TAn TBn
  have p0 := (TA.out.2 0 _ rfl).1
  have p1 := (TA.out.2 1 _ rfl).1
  have p2 := (TA.out.2 2 _ rfl).1
  have p3 := (TA.out.2 3 _ rfl).1
  have p4 := (TA.out.2 4 _ rfl).1
  have q0 := (TB.out.2 0 _ rfl).1
  have q1 := (TB.out.2 1 _ rfl).1
  have q2 := (TB.out.2 2 _ rfl).1
  have q3 := (TB.out.2 3 _ rfl).1
  have q4 := (TB.out.2 4 _ rfl).1
  go_wp2_with fail
  refine Calls.mono (HR.out _ T.out) ?_
  intro e wn hh
  obtain ⟨he, hb⟩ := (by first | exact hh | exact Ro.mk hh | exact St.mk hh | exact LawOk.mk' hh : Mk _ _ e wn)
  subst he
  have Tn : Hid (Below w.heap.size w wn) := below_next T.out hb
  have TAn : Hid _ := BoxV.below TA.out hb
  have TBn : Hid _ := BoxV.below TB.out hb
  clear hb hh p0 p1 p2 p3 p4 q0 q1 q2 q3 q4
  clear T TA TB
  have T := Tn
  have TA := TAn
  have TB := TBn
  clear Tn TAn TBn
  go_wp2_with fail
  go_ret
  exact Mk.b E.out T.out
set_option maxHeartbeats 2000000 in
theorem toRider_c (x y s : Int) (w : World) : Calls Try.prog 87 #[.agg #[.int .i64 x, .int .i64 y, .int .i64 s]] w (Mk w (.agg #[.int .i64 x, .int .i64 y, .int .i64 s])) := by
  refine at_base fun wn hwn => ?_
  have T := Lib.hid (show Below w.heap.size w wn from by rw [hwn]; exact Below.refl _ _)
  clear hwn
  obtain ⟨g, hg⟩ : ∃ g, Array.size (World.heap wn) = g := ⟨_, rfl⟩
  have HGg := Lib.hid hg
  have hTg : w.heap.size ≤ g := by rw [← hg]; exact T.out.size
  have Tn := Lib.hid (show Below w.heap.size w (((wn.alloc (.cells #[.int .i64 x, .int .i64 y, .int .i64 s] 100)).alloc (.cells #[.int .i64 0, .int .i64 0, .int .i64 0] 32)).alloc (.cells #[.int .i64 0, .int .i64 0, .int .i64 0] 32)) from (Below.al (Below.al (Below.al T.out (.cells #[.int .i64 x, .int .i64 y, .int .i64 s] 100)) (.cells #[.int .i64 0, .int .i64 0, .int .i64 0] 32)) (.cells #[.int .i64 0, .int .i64 0, .int .i64 0] 32)))
  have AB := Lib.hid (show BoxV (((wn.alloc (.cells #[.int .i64 x, .int .i64 y, .int .i64 s] 100)).alloc (.cells #[.int .i64 0, .int .i64 0, .int .i64 0] 32)).alloc (.cells #[.int .i64 0, .int .i64 0, .int .i64 0] 32)) g [.int .i64 x, .int .i64 y, .int .i64 s] from by have h9 := (BoxV.al (BoxV.al (BoxV.new wn [.int .i64 x, .int .i64 y, .int .i64 s] 100 (by simp) rfl) (.cells #[.int .i64 0, .int .i64 0, .int .i64 0] 32)) (.cells #[.int .i64 0, .int .i64 0, .int .i64 0] 32)); simp only [World.size_alloc, hg, Nat.add_assoc, Nat.reduceAdd] at h9; exact h9)
  have RB := Lib.hid (show BoxV (((wn.alloc (.cells #[.int .i64 x, .int .i64 y, .int .i64 s] 100)).alloc (.cells #[.int .i64 0, .int .i64 0, .int .i64 0] 32)).alloc (.cells #[.int .i64 0, .int .i64 0, .int .i64 0] 32)) (g + 1) [.int .i64 0, .int .i64 0, .int .i64 0] from by have h9 := (BoxV.al (BoxV.new (wn.alloc (.cells #[.int .i64 x, .int .i64 y, .int .i64 s] 100)) [.int .i64 0, .int .i64 0, .int .i64 0] 32 (by simp) rfl) (.cells #[.int .i64 0, .int .i64 0, .int .i64 0] 32)); simp only [World.size_alloc, hg, Nat.add_assoc, Nat.reduceAdd] at h9; exact h9)
  have OB := Lib.hid (show BoxV (((wn.alloc (.cells #[.int .i64 x, .int .i64 y, .int .i64 s] 100)).alloc (.cells #[.int .i64 0, .int .i64 0, .int .i64 0] 32)).alloc (.cells #[.int .i64 0, .int .i64 0, .int .i64 0] 32)) (g + 2) [.int .i64 0, .int .i64 0, .int .i64 0] from by have h9 := (BoxV.new ((wn.alloc (.cells #[.int .i64 x, .int .i64 y, .int .i64 s] 100)).alloc (.cells #[.int .i64 0, .int .i64 0, .int .i64 0] 32)) [.int .i64 0, .int .i64 0, .int .i64 0] 32 (by simp) rfl); simp only [World.size_alloc, hg, Nat.add_assoc, Nat.reduceAdd] at h9; exact h9)
  have HZg := Lib.hid (show ((((wn.alloc (.cells #[.int .i64 x, .int .i64 y, .int .i64 s] 100)).alloc (.cells #[.int .i64 0, .int .i64 0, .int .i64 0] 32)).alloc (.cells #[.int .i64 0, .int .i64 0, .int .i64 0] 32))).heap.size = g + 3 from by simp only [World.size_alloc, hg, Nat.add_assoc, Nat.reduceAdd])
  clear hg
  clear T
  have T := Tn
  clear Tn
  go_enter Try.func87, Try.ntmps87
  have O1 := BoxV.set OB.out 0 (.int .i64 x) (by simp)
  have O2 := BoxV.set O1 1 (.int .i64 y) (by simp)
  have O3 := BoxV.set O2 2 (.int .i64 s) (by simp)
  have A1 := BoxV.far (c := g + 2) (j := 0) (u := .int .i64 x) AB.out (by omega)
  have A2 := BoxV.far (c := g + 2) (j := 1) (u := .int .i64 y) A1 (by omega)
  have R3 := BoxV.far (c := g + 2) (j := 2) (u := .int .i64 s) (BoxV.far (c := g + 2) (j := 1) (u := .int .i64 y) (BoxV.far (c := g + 2) (j := 0) (u := .int .i64 x) RB.out (by omega)) (by omega)) (by omega)
  go_upto_region 2 with fail
  rw [HGg.out]
  generalize hW : ((wn.alloc _).alloc _).alloc _ = W at *
  have a0 := (AB.out.2 0 _ rfl).1
  have a1 := (A1.2 1 _ rfl).1
  have a2 := (A2.2 2 _ rfl).1
  obtain ⟨o0, of0⟩ := OB.out.2 0 _ rfl
  obtain ⟨o1, of1⟩ := O1.2 1 _ rfl
  obtain ⟨o2, of2⟩ := O2.2 2 _ rfl
  have p0 := (O3.2 0 _ rfl).1
  have p1 := (O3.2 1 _ rfl).1
  have p2 := (O3.2 2 _ rfl).1
  obtain ⟨c0, f0⟩ := R3.2 0 _ rfl
  obtain ⟨c1, f1⟩ := R3.2 1 _ rfl
  obtain ⟨c2, f2⟩ := R3.2 2 _ rfl
  have N := Below.st (Below.st (Below.st (Below.st (Below.st (Below.st T.out (p := ⟨g + 2, 0, none⟩) (show w.heap.size ≤ g + 2 by omega) (.int .i64 x)) (p := ⟨g + 2, 1, none⟩) (show w.heap.size ≤ g + 2 by omega) (.int .i64 y)) (p := ⟨g + 2, 2, none⟩) (show w.heap.size ≤ g + 2 by omega) (.int .i64 s)) (p := ⟨g + 1, 0, none⟩) (show w.heap.size ≤ g + 1 by omega) (.int .i64 x)) (p := ⟨g + 1, 1, none⟩) (show w.heap.size ≤ g + 1 by omega) (.int .i64 y)) (p := ⟨g + 1, 2, none⟩) (show w.heap.size ≤ g + 1 by omega) (.int .i64 s)
  have N2 := Lib.hid N
  clear O1 O2 O3 A1 A2 R3 N
  go_wp2_with fail
  exact bodyPost_ret (v := .agg #[.int .i64 x, .int .i64 y, .int .i64 s]) (by simp [results, Try.results87, go_sem, c0, c1, c2]) rfl ⟨rfl, N2.out⟩
end Go.Proofs.Ytfhhgddajmihjaa

namespace Go.Proofs.Ytfhhgddajmihjaa
open Go.RowKit
set_option linter.unusedVariables false
set_option linter.unusedSimpArgs false
set_option maxRecDepth 100000

theorem rs_three {w : World} {b off n i : Nat} {xs : List Int} (h : RS 3 w (some ⟨b, off, none⟩) n xs) (hi : i < n) : w.cell? ⟨b, off + i * 3, none⟩ = some (.int .i64 (nth xs (i * 3))) ∧ w.cell? ⟨b, off + i * 3 + 1, none⟩ = some (.int .i64 (nth xs (i * 3 + 1))) ∧ w.cell? ⟨b, off + i * 3 + 2, none⟩ = some (.int .i64 (nth xs (i * 3 + 2))) := by
  obtain ⟨hl, h | ⟨b', o', e, h⟩⟩ := h
  · omega
  · simp at e
    obtain ⟨rfl, rfl⟩ := e
    exact ⟨h (i * 3) (by omega), by have := h (i * 3 + 1) (by omega); rwa [← Nat.add_assoc] at this, by have := h (i * 3 + 2) (by omega); rwa [← Nat.add_assoc] at this⟩
set_option maxHeartbeats 4000000 in
theorem markRiderS_c (a : Option Addr) (n cap k : Nat) (xs : List Int) (B lo hi : Nat) (w : World) (hO : OwnR 32 3 w B (.slice a n cap) n xs) (hk : k ≤ 10) (hn : n ≤ 1048576)
    (hb : ∀ q, (Value.slice a n cap).ownBlock = some q → lo ≤ q ∧ q < hi) :
    Calls Try.prog 72 #[.slice a n cap, .int .i64 k] w fun e w' => e = .returned (.int .i64 ((k + n * 3 : Nat) : Int)) ∧ OwnR 32 3 w' B (.slice a n cap) n (mks k (n * 3)) ∧ Out lo hi w w' := by
  have hlen := hO.len
  have HO := Lib.hid hO
  have HB := Lib.hid hb
  clear hO hb
  go_enter Try.func72, Try.ntmps72
  go_wp2_with fail
  go_loopw [1, 5] (fun u v wr => ∃ i : Nat, i ≤ n ∧ u = .int .i64 ((k + i * 3 : Nat) : Int) ∧ v = .int .i64 i ∧ OwnR 32 3 wr B (.slice a n cap) n (mks k (i * 3) ++ xs.drop (i * 3)) ∧ Out lo hi w wr) (fun _ v _ => n - (intOf v).toNat)
  case atStart => exact ⟨0, by omega, by simp, rfl, by simpa [mks] using HO.out, Out.refl _ _ _⟩
  case round =>
    clear HO
    obtain ⟨i, hin, rfl, rfl, hO, ho⟩ := hrel
    have O := Lib.hid hO
    have OT := Lib.hid ho
    clear hO ho
    by_cases hlt : i < n
    · obtain ⟨a9, cap9, e9, hrs, hfz⟩ := OwnR.open O.out
      simp only [Value.slice.injEq] at e9
      obtain ⟨rfl, -, rfl⟩ := e9
      obtain ⟨b, off, rfl⟩ := RS.some hrs (by omega)
      obtain ⟨rfl, -, fz, -, -⟩ := hfz b off none rfl
      obtain ⟨c0, c1, c2⟩ := rs_three hrs hlt
      simp only [Nat.zero_add] at c0 c1 c2
      have f0 := fz (i * 3)
      have f1 := fz (i * 3 + 1)
      have f2 := fz (i * 3 + 2)
      have hbb := HB.out b rfl
      obtain ⟨z, hz⟩ : ∃ z : Nat, k + i * 3 = z := ⟨_, rfl⟩
      have s1 := (OwnR.stored O.out (i * 3) (z : Int)).1
      rw [mks_set (by omega) (by omega)] at s1
      have s2 := (OwnR.stored s1 (i * 3 + 1) ((z : Int) + 1)).1
      rw [mks_set (by omega) (by omega)] at s2
      have s3 := (OwnR.stored s2 (i * 3 + 1 + 1) ((z : Int) + 1 + 1)).1
      rw [mks_set (by omega) (by omega)] at s3
      have hset : Out lo hi w _ := Out.trans OT.out (Out.trans (Out.trans (Out.set (w := wr) (q := b) (i := i * 3) (.int .i64 (z : Int)) hbb.1 hbb.2) (Out.set (w := wr.setCell ⟨b, i * 3, none⟩ (.int .i64 (z : Int))) (q := b) (i := i * 3 + 1) (.int .i64 ((z : Int) + 1)) hbb.1 hbb.2)) (Out.set (w := (wr.setCell ⟨b, i * 3, none⟩ (.int .i64 (z : Int))).setCell ⟨b, i * 3 + 1, none⟩ (.int .i64 ((z : Int) + 1))) (q := b) (i := i * 3 + 2) (.int .i64 ((z : Int) + 1 + 1)) hbb.1 hbb.2))
      have c1' : (wr.setCell ⟨b, i * 3, none⟩ (.int .i64 (z : Int))).cell? ⟨b, i * 3 + 1, none⟩ = some (.int .i64 (nth (mks k (i * 3) ++ xs.drop (i * 3)) (i * 3 + 1))) := by
        rw [World.cell?_setCell_other _ _ _ _ (by simp)]; exact c1
      have c2' : ((wr.setCell ⟨b, i * 3, none⟩ (.int .i64 (z : Int))).setCell ⟨b, i * 3 + 1, none⟩ (.int .i64 ((z : Int) + 1))).cell? ⟨b, i * 3 + 2, none⟩ = some (.int .i64 (nth (mks k (i * 3) ++ xs.drop (i * 3)) (i * 3 + 2))) := by
        rw [World.cell?_setCell_other _ _ _ _ (by simp), World.cell?_setCell_other _ _ _ _ (by simp)]; exact c2
      have HS2 := Lib.hid s3
      have HSET := Lib.hid hset
      have hlti : (i : Int) < (n : Int) := by omega
      have hzb : (z : Int) ≤ 4000000 := by omega
      rw [hz]
      have HZ := Lib.hid hz
      clear s1 s2 s3 hset fz hfz hrs O OT c1 c2 HB hz
      go_wp2_with fail
      go_roundw
      case rel => exact ⟨i + 1, by omega, by have := HZ.out; go_num, by go_num, by rw [show (i + 1) * 3 = i * 3 + 1 + 1 + 1 by omega]; exact HS2.out, HSET.out⟩
      case measure => simp [intOf]; omega
    · obtain rfl : i = n := by omega
      have h9 := O.out
      rw [List.drop_eq_nil_of_le (by omega), List.append_nil] at h9
      have O9 := Lib.hid h9
      obtain ⟨z, hz⟩ : ∃ z : Nat, k + i * 3 = z := ⟨_, rfl⟩
      rw [hz]
      have HZ := Lib.hid hz
      clear h9 hz O
      go_wp2_with fail
      go_ret
      exact ⟨by rw [HZ.out]; rfl, O9.out, OT.out⟩
set_option maxHeartbeats 2000000 in
theorem heldRiderS_c (a : Option Addr) (n cap k : Nat) (w : World) (hx : RS 3 w a n (mks k (n * 3))) (hk : k ≤ 10) (hn : n ≤ 1048576) :
    Calls Try.prog 75 #[.slice a n cap, .int .i64 k] w (St w (.int .i64 ((k + n * 3 : Nat) : Int))) := by
  have HX := Lib.hid hx
  clear hx
  obtain ⟨wo, hwo⟩ : ∃ wo : World, wo = w := ⟨_, rfl⟩
  go_enter Try.func75, Try.ntmps75
  go_wp2_with fail
  go_loopw [1, 5] (fun u v wr => ∃ i : Nat, i ≤ n ∧ u = .int .i64 ((k + i * 3 : Nat) : Int) ∧ v = .int .i64 i ∧ wr = wo) (fun _ v _ => n - (intOf v).toNat)
  case atStart => exact ⟨0, by omega, by simp, rfl, hwo.symm⟩
  case round =>
    obtain ⟨i, hin, rfl, rfl, hw⟩ := hrel
    rw [hwo] at hw
    subst hw
    have HW := Lib.hid hwo
    clear hwo
    obtain ⟨z, hz⟩ : ∃ z : Nat, k + i * 3 = z := ⟨_, rfl⟩
    have HZ := Lib.hid hz
    by_cases hlt : i < n
    · obtain ⟨b, off, rfl⟩ := RS.some HX.out (by omega)
      obtain ⟨c0, c1, c2⟩ := rs_three HX.out hlt
      rw [mks_nth (by omega)] at c0 c1 c2
      rw [show ((k + i * 3 : Nat) : Int) = (z : Int) by omega] at c0
      rw [show ((k + (i * 3 + 1) : Nat) : Int) = (z : Int) + 1 by omega] at c1
      rw [show ((k + (i * 3 + 2) : Nat) : Int) = (z : Int) + 1 + 1 by omega] at c2
      have hlti : (i : Int) < (n : Int) := by omega
      have hzb : (z : Int) ≤ 4000000 := by omega
      rw [hz]
      clear hz
      go_wp2_with fail
      go_roundw
      case rel => exact ⟨i + 1, by omega, by have := HZ.out; go_num, by go_num, HW.out.symm⟩
      case measure => simp [intOf]; omega
    · obtain rfl : i = n := by omega
      rw [hz]
      clear hz
      go_wp2_with fail
      go_ret
      exact ⟨by rw [HZ.out]; rfl, rfl⟩
end Go.Proofs.Ytfhhgddajmihjaa

namespace Go.Proofs.Ytfhhgddajmihjaa
open Go.RowKit
set_option linter.unusedVariables false
set_option linter.unusedSimpArgs false
set_option maxRecDepth 100000

theorem rfl3_rep : ∀ n : Nat, rfl3 (List.replicate n ⟨0, 0, 0⟩) = List.replicate (n * 3) 0
  | 0 => rfl
  | n + 1 => by
    rw [List.replicate_succ, show (n + 1) * 3 = n * 3 + 1 + 1 + 1 by omega, List.replicate_succ, List.replicate_succ, List.replicate_succ, ← rfl3_rep n]
    rfl
theorem made3 (n : Nat) : (madeCells #[.int .i64 0, .int .i64 0, .int .i64 0] (n * 3)).toList = (rfl3 (List.replicate n ⟨0, 0, 0⟩)).map (Value.int .i64) := by
  rw [rfl3_rep]
  apply List.ext_getElem?
  intro j
  by_cases hj : j < n * 3
  · have h3 : j % 3 = 0 ∨ j % 3 = 1 ∨ j % 3 = 2 := by omega
    rcases h3 with e | e | e <;> simp [madeCells, hj, e]
  · simp [madeCells, hj]
theorem rfl3_put : ∀ (l : List Ri) (i : Nat) (r : Ri), i < l.length → (((rfl3 l).set (i * 3) r.a).set (i * 3 + 1) r.b).set (i * 3 + 2) r.s = rfl3 (l.set i r)
  | [], i, r, h => by simp at h
  | q :: l, 0, r, h => rfl
  | q :: l, i + 1, r, h => by
    have := rfl3_put l i r (by simpa using h)
    rw [show (i + 1) * 3 + 2 = (i * 3 + 2) + 1 + 1 + 1 by omega, show (i + 1) * 3 + 1 = (i * 3 + 1) + 1 + 1 + 1 by omega, show (i + 1) * 3 = i * 3 + 1 + 1 + 1 by omega]
    simp only [rfl3, List.set_cons_succ]
    rw [this]
theorem OwnR.rs {E : TypeId} {k : Nat} {w : World} {B G n c : Nat} {xs : List Int} (h : OwnR E k w B (.slice (Option.some ⟨G, 0, Option.none⟩) n c) n xs) : RS k w (Option.some ⟨G, 0, Option.none⟩) n xs := by
  obtain ⟨a', c', e, hr, _⟩ := OwnR.open h
  cases e
  exact hr
theorem OwnR.fr {E : TypeId} {k : Nat} {w : World} {B G n c : Nat} {xs : List Int} (h : OwnR E k w B (.slice (Option.some ⟨G, 0, Option.none⟩) n c) n xs) (j : Nat) : w.frozen? ⟨G, j, Option.none⟩ = false := by
  obtain ⟨a', c', e, _, hf⟩ := OwnR.open h
  cases e
  exact (hf G 0 Option.none rfl).2.2.1 j
/-- The first i are there. -/
def mixR (xs : List Ri) (n i : Nat) : List Ri := xs.take i ++ List.replicate (n - i) ⟨0, 0, 0⟩
theorem mixR_next {xs : List Ri} {n i : Nat} (h : i < n) (hn : xs.length = n) : (mixR xs n i).set i (rat xs i) = mixR xs n (i + 1) := by
  unfold mixR
  rw [show n - i = (n - (i + 1)) + 1 by omega, List.replicate_succ, mid_set (by simp; omega), rat_take (by omega)]
  simp
theorem mixR_len {xs : List Ri} {n i : Nat} (h : i ≤ n) (hn : xs.length = n) : (mixR xs n i).length = n := by simp [mixR]; omega
set_option maxHeartbeats 2000000 in
theorem toRiderS_c (a : Option Addr) (n cap : Nat) (xs : List Ri) (w : World) (hx : Rid w a n xs) (hm : n ≤ 1048576) :
    Calls Try.prog 68 #[.slice a n cap] w fun e w' => ∃ G, e = .returned (.slice (some ⟨G, 0, none⟩) n n) ∧ OwnR 32 3 w' w.heap.size (.slice (some ⟨G, 0, none⟩) n n) n (rfl3 xs) ∧ Below w.heap.size w w' := by
  have X0 := Lib.hid hx
  have HL := Lib.hid hx.2
  clear hx
  obtain ⟨i0, hi, hz0, hz1, hz2⟩ := info_rider
  obtain ⟨w1, hmk, hO, hgr⟩ := run_make_full (P := Try.prog) w w.heap.size 25 32 i0 (.agg #[.int .i64 0, .int .i64 0, .int .i64 0]) 3 Try.underlying25 hi hz0 hz1 .i64 .i64 n (by rw [hz2]; omega) (by unfold maxLen; omega) (Nat.le_refl _)
  have hO2 : OwnR 32 3 w1 w.heap.size (.slice (some ⟨w.heap.size, 0, none⟩) n n) n (rfl3 (mixR xs n 0)) := by
    unfold OwnR
    rw [show mixR xs n 0 = List.replicate n ⟨0, 0, 0⟩ from by simp [mixR], ← made3]
    exact hO
  have hT : Below w.heap.size w w1 := Below.own (Below.refl _ _) hgr (fun i e => by cases e)
  have O := Lib.hid hO2
  have T := Lib.hid hT
  obtain ⟨G, hG⟩ : ∃ G, w.heap.size = G := ⟨_, rfl⟩
  have hwG : w.heap.size ≤ G := by omega
  rw [hG] at hmk
  rw [show (Value.slice (some ⟨w.heap.size, 0, none⟩) n n) = .slice (some ⟨G, 0, none⟩) n n from by rw [hG]] at O
  clear hO hgr hO2 hT hi hz0 hz1 hz2
  go_enter Try.func68, Try.ntmps68
  go_wp2_with fail
  clear hmk hG
  obtain ⟨wn, hwq⟩ : ∃ w9 : World, w9 = w1 := ⟨_, rfl⟩
  subst hwq
  go_loopw [4] (fun v wr => ∃ i : Nat, i ≤ n ∧ v = .int .i64 i ∧ Below w.heap.size w wr ∧ OwnR 32 3 wr w.heap.size (.slice (some ⟨G, 0, none⟩) n n) n (rfl3 (mixR xs n i))) (fun v _ => n - (intOf v).toNat)
  case atStart => exact ⟨0, by omega, rfl, T.out, O.out⟩
  case' round =>
    clear T O
    obtain ⟨i, hi, rfl, h9T, h9O⟩ := hrel
    obtain ⟨wn, hwq⟩ : ∃ w0 : World, w0 = wr := ⟨_, rfl⟩
    rw [← hwq] at h9T h9O ⊢
    clear hwq
    have T := Lib.hid h9T
    have O := Lib.hid h9O
    clear h9T h9O
    by_cases hlt : i < n
    case neg =>
      obtain rfl : i = n := by omega
      have h9 := O.out
      rw [show mixR xs i i = xs from by simp [mixR, List.take_of_length_le (Nat.le_of_eq HL.out)]] at h9
      have O9 := Lib.hid h9
      clear h9 O
      go_wp2_with fail
      go_ret
      exact ⟨G, rfl, O9.out, T.out⟩
    obtain ⟨b, off, rfl⟩ := Rid.some X0.out (by omega)
    obtain ⟨y0, y1, y2⟩ := Rid.three (Rid.below X0.out T.out) hlt
    have hnx := rfl3_put (mixR xs n i) i (rat xs i) (by rw [mixR_len (by omega) HL.out]; exact hlt)
    rw [mixR_next hlt HL.out] at hnx
    obtain ⟨⟨x, y, s⟩, hr⟩ : ∃ r, rat xs i = r := ⟨_, rfl⟩
    rw [hr] at y0 y1 y2 hnx
    have hii : (i : Int) < n := by omega
    have HNX := Lib.hid hnx
    clear hnx hr
    go_wp2_with fail
    refine Calls.mono (toRider_c x y s _) ?_
    intro e wn hh
    obtain ⟨he, hb⟩ := (by first | exact hh | exact Ro.mk hh | exact St.mk hh | exact LawOk.mk' hh : Mk _ _ e wn)
    subst he
    have Tn : Hid (Below w.heap.size w wn) := below_next T.out hb
    have On : Hid _ := OwnR.below O.out hb
    clear hb hh
    clear T O
    have T := Tn
    have O := On
    clear Tn On
    clear y0 y1 y2
    obtain ⟨c0, c1, c2⟩ := rs_three (OwnR.rs O.out) hlt
    simp only [Nat.zero_add] at c0 c1 c2
    have f0 := OwnR.fr O.out (i * 3)
    have f1 := OwnR.fr O.out (i * 3 + 1)
    have f2 := OwnR.fr O.out (i * 3 + 2)
    have O3 := Lib.hid (show OwnR 32 3 (((wn.setCell ⟨G, i * 3, none⟩ (.int .i64 x)).setCell ⟨G, i * 3 + 1, none⟩ (.int .i64 y)).setCell ⟨G, i * 3 + 2, none⟩ (.int .i64 s)) w.heap.size (.slice (some ⟨G, 0, none⟩) n n) n (rfl3 (mixR xs n (i + 1))) from by
      rw [← HNX.out]
      exact (OwnR.stored (OwnR.stored (OwnR.stored O.out (i * 3) x).1 (i * 3 + 1) y).1 (i * 3 + 2) s).1)
    have T3 := Lib.hid (Below.st (Below.st (Below.st T.out (p := ⟨G, i * 3, none⟩) hwG (.int .i64 x)) (p := ⟨G, i * 3 + 1, none⟩) hwG (.int .i64 y)) (p := ⟨G, i * 3 + 2, none⟩) hwG (.int .i64 s))
    clear O T
    go_wp2_with fail
    exact ⟨⟨i + 1, by omega, by go_num, T3.out, O3.out⟩, by first | (simp [intOf]; done) | (simp [intOf]; omega) | omega⟩
end Go.Proofs.Ytfhhgddajmihjaa

namespace Go.Proofs.Ytfhhgddajmihjaa
open Go.RowKit
set_option linter.unusedVariables false
set_option linter.unusedSimpArgs false
set_option maxRecDepth 100000

set_option maxHeartbeats 4000000 in
theorem toTrip_c (n m f d : Int) (a : Option Addr) (k c : Nat) (l : List Ri) (w : World) (hX : Rid w a k l) (hk : k ≤ 1048576) :
    Calls Try.prog 35 #[.agg #[.int .i64 n, .int .i64 m, .int .i64 f, .int .i64 d, .slice a k c]] w (NewT w ⟨n, m, f, d, l⟩ id) := by
  have X0 := Lib.hid hX
  have HL := Lib.hid hX.2
  clear hX
  refine at_base fun wn hwn => ?_
  have T := Lib.hid (show Below w.heap.size w wn from by rw [hwn]; exact Below.refl _ _)
  clear hwn
  obtain ⟨g, hg⟩ : ∃ g, Array.size (World.heap wn) = g := ⟨_, rfl⟩
  have HGg := Lib.hid hg
  have hTg : w.heap.size ≤ g := by rw [← hg]; exact T.out.size
  have Tn := Lib.hid (show Below w.heap.size w (((wn.alloc (.cells #[.int .i64 n, .int .i64 m, .int .i64 f, .int .i64 d, .slice a k c] 50)).alloc (.cells #[.int .i64 0, .int .i64 0, .int .i64 0, .int .i64 0, .slice none 0 0] 27)).alloc (.cells #[.int .i64 0, .int .i64 0, .int .i64 0, .int .i64 0, .slice none 0 0] 27)) from (Below.al (Below.al (Below.al T.out (.cells #[.int .i64 n, .int .i64 m, .int .i64 f, .int .i64 d, .slice a k c] 50)) (.cells #[.int .i64 0, .int .i64 0, .int .i64 0, .int .i64 0, .slice none 0 0] 27)) (.cells #[.int .i64 0, .int .i64 0, .int .i64 0, .int .i64 0, .slice none 0 0] 27)))
  have AB := Lib.hid (show BoxV (((wn.alloc (.cells #[.int .i64 n, .int .i64 m, .int .i64 f, .int .i64 d, .slice a k c] 50)).alloc (.cells #[.int .i64 0, .int .i64 0, .int .i64 0, .int .i64 0, .slice none 0 0] 27)).alloc (.cells #[.int .i64 0, .int .i64 0, .int .i64 0, .int .i64 0, .slice none 0 0] 27)) g [.int .i64 n, .int .i64 m, .int .i64 f, .int .i64 d, .slice a k c] from by have h9 := (BoxV.al (BoxV.al (BoxV.new wn [.int .i64 n, .int .i64 m, .int .i64 f, .int .i64 d, .slice a k c] 50 (by simp) rfl) (.cells #[.int .i64 0, .int .i64 0, .int .i64 0, .int .i64 0, .slice none 0 0] 27)) (.cells #[.int .i64 0, .int .i64 0, .int .i64 0, .int .i64 0, .slice none 0 0] 27)); simp only [World.size_alloc, hg, Nat.add_assoc, Nat.reduceAdd] at h9; exact h9)
  have RB := Lib.hid (show BoxV (((wn.alloc (.cells #[.int .i64 n, .int .i64 m, .int .i64 f, .int .i64 d, .slice a k c] 50)).alloc (.cells #[.int .i64 0, .int .i64 0, .int .i64 0, .int .i64 0, .slice none 0 0] 27)).alloc (.cells #[.int .i64 0, .int .i64 0, .int .i64 0, .int .i64 0, .slice none 0 0] 27)) (g + 1) [.int .i64 0, .int .i64 0, .int .i64 0, .int .i64 0, .slice none 0 0] from by have h9 := (BoxV.al (BoxV.new (wn.alloc (.cells #[.int .i64 n, .int .i64 m, .int .i64 f, .int .i64 d, .slice a k c] 50)) [.int .i64 0, .int .i64 0, .int .i64 0, .int .i64 0, .slice none 0 0] 27 (by simp) rfl) (.cells #[.int .i64 0, .int .i64 0, .int .i64 0, .int .i64 0, .slice none 0 0] 27)); simp only [World.size_alloc, hg, Nat.add_assoc, Nat.reduceAdd] at h9; exact h9)
  have OB := Lib.hid (show BoxV (((wn.alloc (.cells #[.int .i64 n, .int .i64 m, .int .i64 f, .int .i64 d, .slice a k c] 50)).alloc (.cells #[.int .i64 0, .int .i64 0, .int .i64 0, .int .i64 0, .slice none 0 0] 27)).alloc (.cells #[.int .i64 0, .int .i64 0, .int .i64 0, .int .i64 0, .slice none 0 0] 27)) (g + 2) [.int .i64 0, .int .i64 0, .int .i64 0, .int .i64 0, .slice none 0 0] from by have h9 := (BoxV.new ((wn.alloc (.cells #[.int .i64 n, .int .i64 m, .int .i64 f, .int .i64 d, .slice a k c] 50)).alloc (.cells #[.int .i64 0, .int .i64 0, .int .i64 0, .int .i64 0, .slice none 0 0] 27)) [.int .i64 0, .int .i64 0, .int .i64 0, .int .i64 0, .slice none 0 0] 27 (by simp) rfl); simp only [World.size_alloc, hg, Nat.add_assoc, Nat.reduceAdd] at h9; exact h9)
  have HZg := Lib.hid (show ((((wn.alloc (.cells #[.int .i64 n, .int .i64 m, .int .i64 f, .int .i64 d, .slice a k c] 50)).alloc (.cells #[.int .i64 0, .int .i64 0, .int .i64 0, .int .i64 0, .slice none 0 0] 27)).alloc (.cells #[.int .i64 0, .int .i64 0, .int .i64 0, .int .i64 0, .slice none 0 0] 27))).heap.size = g + 3 from by simp only [World.size_alloc, hg, Nat.add_assoc, Nat.reduceAdd])
  clear hg
  clear T
  have T := Tn
  clear Tn
  go_enter Try.func35, Try.ntmps35
  go_upto_region 2 with fail
  rw [HGg.out]
  generalize ((wn.alloc _).alloc _).alloc _ = w0 at *
  obtain ⟨wn, hwq⟩ : ∃ w9 : World, w9 = w0 := ⟨_, rfl⟩
  subst hwq
  have ho := Out.trans (Out.set (w := wn) (q := g + 2) (i := 0) (lo := g + 2) (hi := g + 3) (.int .i64 n) (Nat.le_refl _) (by omega)) (Out.set (w := wn.setCell ⟨g + 2, 0, none⟩ (.int .i64 n)) (q := g + 2) (i := 1) (lo := g + 2) (hi := g + 3) (.int .i64 m) (Nat.le_refl _) (by omega))
  have T2 := Lib.hid (Out.below T.out ho (by omega))
  have A1 := BoxV.far (c := g + 2) (j := 0) (u := .int .i64 n) AB.out (by omega)
  have AB2 := Lib.hid (BoxV.out AB.out ho (.inl (by omega)))
  have RB2 := Lib.hid (BoxV.out RB.out ho (.inl (by omega)))
  have O1 := BoxV.set OB.out 0 (.int .i64 n) (by simp)
  have OB2 := Lib.hid (show BoxV _ (g + 2) [.int .i64 n, .int .i64 m, .int .i64 0, .int .i64 0, .slice none 0 0] from BoxV.set O1 1 (.int .i64 m) (by simp))
  have a0 := (AB.out.2 0 _ rfl).1
  have a1 := (A1.2 1 _ rfl).1
  obtain ⟨o0, of0⟩ := OB.out.2 0 _ rfl
  obtain ⟨o1, of1⟩ := O1.2 1 _ rfl
  clear A1 O1 ho
  go_upto_region 4 with fail
  clear a0 a1 o0 of0 o1 of1 T AB RB OB
  have T := T2
  have AB := AB2
  have RB := RB2
  have OB := OB2
  clear T2 AB2 RB2 OB2
  generalize (wn.setCell ⟨g + 2, 0, none⟩ (.int .i64 n)).setCell ⟨g + 2, 1, none⟩ (.int .i64 m) = w0 at *
  obtain ⟨wn, hwq⟩ : ∃ w9 : World, w9 = w0 := ⟨_, rfl⟩
  subst hwq
  have c0 := (AB.out.2 0 _ rfl).1
  have c1 := (AB.out.2 1 _ rfl).1
  have c2 := (AB.out.2 2 _ rfl).1
  have c3 := (AB.out.2 3 _ rfl).1
  have c4 := (AB.out.2 4 _ rfl).1
  go_wp2_with fail
  refine Calls.mono (toStop_c f d _) ?_
  intro e wn hh
  obtain ⟨he, hb⟩ := (by first | exact hh | exact Ro.mk hh | exact St.mk hh | exact LawOk.mk' hh : Mk _ _ e wn)
  subst he
  have Tn : Hid (Below w.heap.size w wn) := below_next T.out hb
  have ABn : Hid _ := BoxV.below AB.out hb
  have RBn : Hid _ := BoxV.below RB.out hb
  have OBn : Hid _ := BoxV.below OB.out hb
  clear hb hh c0 c1 c2 c3 c4
  clear T AB RB OB
  have T := Tn
  have AB := ABn
  have RB := RBn
  have OB := OBn
  clear Tn ABn RBn OBn
  have ho := Out.trans (Out.set (w := wn) (q := g + 2) (i := 2) (lo := g + 2) (hi := g + 3) (.int .i64 f) (Nat.le_refl _) (by omega)) (Out.set (w := wn.setCell ⟨g + 2, 2, none⟩ (.int .i64 f)) (q := g + 2) (i := 3) (lo := g + 2) (hi := g + 3) (.int .i64 d) (Nat.le_refl _) (by omega))
  have T2 := Lib.hid (Out.below T.out ho (by omega))
  have AB2 := Lib.hid (BoxV.out AB.out ho (.inl (by omega)))
  have RB2 := Lib.hid (BoxV.out RB.out ho (.inl (by omega)))
  have OB2 := Lib.hid (show BoxV _ (g + 2) [.int .i64 n, .int .i64 m, .int .i64 f, .int .i64 d, .slice none 0 0] from BoxV.set (BoxV.set OB.out 2 (.int .i64 f) (by simp)) 3 (.int .i64 d) (by simp))
  obtain ⟨o2, of2⟩ := OB.out.2 2 _ rfl
  obtain ⟨o3, of3⟩ := OB.out.2 3 _ rfl
  clear ho
  go_upto_region 5 with fail
  clear o2 of2 o3 of3 T AB RB OB
  have T := T2
  have AB := AB2
  have RB := RB2
  have OB := OB2
  clear T2 AB2 RB2 OB2
  generalize (wn.setCell ⟨g + 2, 2, none⟩ (.int .i64 f)).setCell ⟨g + 2, 3, none⟩ (.int .i64 d) = w0 at *
  obtain ⟨wn, hwq⟩ : ∃ w9 : World, w9 = w0 := ⟨_, rfl⟩
  subst hwq
  have c0 := (AB.out.2 0 _ rfl).1
  have c1 := (AB.out.2 1 _ rfl).1
  have c2 := (AB.out.2 2 _ rfl).1
  have c3 := (AB.out.2 3 _ rfl).1
  have c4 := (AB.out.2 4 _ rfl).1
  go_wp2_with fail
  have hgl := BoxV.lt OB.out
  refine Calls.mono (toRiderS_c a k c l _ (Rid.below X0.out T.out) hk) ?_
  intro e wq hh
  obtain ⟨G, he, hO, hb⟩ := hh
  subst he
  have hGl := (OwnR.lt hO G rfl).1
  have hGg : g + 2 < G := by omega
  have O := Lib.hid (OwnR.mono hO T.out.size)
  clear hO hGl hgl c0 c1 c2 c3 c4
  have Tn := Lib.hid (below_next T.out hb)
  have RBn := Lib.hid (BoxV.below RB.out hb)
  have OBn := Lib.hid (BoxV.below OB.out hb)
  clear hb
  clear T RB OB
  have T := Tn
  have RB := RBn
  have OB := OBn
  clear Tn RBn OBn
  obtain ⟨wn, hwq⟩ : ∃ w0, w0 = wq := ⟨_, rfl⟩
  subst hwq
  have hne : ∀ q, (Value.slice (some ⟨G, 0, none⟩) k k).ownBlock = some q → q ≠ g + 2 := by
    intro q hq
    have e : G = q := by simpa [Value.ownBlock] using hq
    omega
  have hne1 : ∀ q, (Value.slice (some ⟨G, 0, none⟩) k k).ownBlock = some q → q ≠ g + 1 := by
    intro q hq
    have e : G = q := by simpa [Value.ownBlock] using hq
    omega
  have ho := Out.set (w := wn) (q := g + 2) (i := 4) (lo := g + 2) (hi := g + 3) (.slice (some ⟨G, 0, none⟩) k k) (Nat.le_refl _) (by omega)
  have T2 := Lib.hid (Out.below T.out ho (by omega))
  have RB2 := Lib.hid (BoxV.out RB.out ho (.inl (by omega)))
  have OB2 := Lib.hid (show BoxV _ (g + 2) [.int .i64 n, .int .i64 m, .int .i64 f, .int .i64 d, .slice (some ⟨G, 0, none⟩) k k] from BoxV.set OB.out 4 (.slice (some ⟨G, 0, none⟩) k k) (by simp))
  have O2 := Lib.hid (OwnR.pfar (c := g + 2) (j := 4) (u := .slice (some ⟨G, 0, none⟩) k k) O.out hne)
  obtain ⟨o4, of4⟩ := OB.out.2 4 _ rfl
  have hl := HL.out
  have N := newT_end (n := n) (m := m) (f := f) (d := d) (l := l) (r := g + 1) (v := .slice (some ⟨G, 0, none⟩) k k) (B := w.heap.size) (by rw [hl]; exact O2.out) (Nat.le_refl _) T2.out (by omega) hne1 id
  unfold set5 at N
  have N2 := Lib.hid N
  have p0 := (OB2.out.2 0 _ rfl).1
  have p1 := (OB2.out.2 1 _ rfl).1
  have p2 := (OB2.out.2 2 _ rfl).1
  have p3 := (OB2.out.2 3 _ rfl).1
  have p4 := (OB2.out.2 4 _ rfl).1
  obtain ⟨c0, f0⟩ := RB2.out.2 0 _ rfl
  obtain ⟨c1, f1⟩ := RB2.out.2 1 _ rfl
  obtain ⟨c2, f2⟩ := RB2.out.2 2 _ rfl
  obtain ⟨c3, f3⟩ := RB2.out.2 3 _ rfl
  obtain ⟨c4, f4⟩ := RB2.out.2 4 _ rfl
  clear hne hne1 N T T2 RB RB2 OB OB2 O O2 ho hl
  go_wp2_with fail
  clear p0 p1 p2 p3 p4
  exact bodyPost_ret (v := .agg #[.int .i64 n, .int .i64 m, .int .i64 f, .int .i64 d, .slice (some ⟨G, 0, none⟩) k k]) (by simp [results, Try.results35, go_sem, c0, c1, c2, c3, c4]) rfl N2.out
end Go.Proofs.Ytfhhgddajmihjaa

namespace Go.Proofs.Ytfhhgddajmihjaa
open Go.RowKit
set_option linter.unusedVariables false
set_option linter.unusedSimpArgs false
set_option maxRecDepth 100000

theorem szRiderS_c (a : Option Addr) (n cap : Nat) (l : Int) (w : World) (h0 : 0 ≤ l) (h1 : l ≤ 1048576) (hn : n ≤ maxLen) :
    Calls Try.prog 66 #[.slice a n cap, .int .i64 l] w (St w (.int .i64 (if (n : Int) ≤ l then l - n else -1))) := by
  unfold maxLen at hn
  by_cases h : (n : Int) ≤ l
  · have E := Lib.hid (if_pos h : (if (n : Int) ≤ l then l - (n : Int) else -1) = _)
    have h2 : ¬ (l - n : Int) < 0 := by omega
    go_enter Try.func66, Try.ntmps66
    go_wp2_with fail
    go_ret
    first | exact St.i E.out | exact St.i rfl
  · have E := Lib.hid (if_neg h : (if (n : Int) ≤ l then l - (n : Int) else -1) = _)
    have h2 : (l - n : Int) < 0 := by omega
    go_enter Try.func66, Try.ntmps66
    go_wp2_with fail
    go_ret
    first | exact St.i E.out | exact St.i rfl
def szT (k : Nat) : Int := if (k : Int) ≤ 1048576 then 1048576 - k else -1
set_option maxHeartbeats 1000000 in
theorem szTrip_c (n m f d : Int) (a : Option Addr) (k c : Nat) (w : World) (hk : k ≤ maxLen) :
    Calls Try.prog 34 #[.agg #[.int .i64 n, .int .i64 m, .int .i64 f, .int .i64 d, .slice a k c], .int .i64 1048576] w (Mk w (.int .i64 (szT k))) := by
  have KS := fun w' => (szRiderS_c a k c 1048576 w' (by omega) (by omega) hk).mono (fun _ _ h => St.mk h)
  rw [show (if (k : Int) ≤ 1048576 then (1048576 : Int) - k else -1) = szT k from rfl] at KS
  have HK := Lib.hid KS
  clear KS
  refine at_base fun wn hwn => ?_
  have T := Lib.hid (show Below w.heap.size w wn from by rw [hwn]; exact Below.refl _ _)
  clear hwn
  by_cases h : (k : Int) ≤ 1048576
  · have h2 : ¬ szT k < 0 := by unfold szT; rw [if_pos h]; omega
    clear h
    obtain ⟨g, hg⟩ : ∃ g, Array.size (World.heap wn) = g := ⟨_, rfl⟩
    have HGg := Lib.hid hg
    have hTg : w.heap.size ≤ g := by rw [← hg]; exact T.out.size
    have Tn := Lib.hid (show Below w.heap.size w (wn.alloc (.cells #[.int .i64 n, .int .i64 m, .int .i64 f, .int .i64 d, .slice a k c] 50)) from (Below.al T.out (.cells #[.int .i64 n, .int .i64 m, .int .i64 f, .int .i64 d, .slice a k c] 50)))
    have AB := Lib.hid (show BoxV (wn.alloc (.cells #[.int .i64 n, .int .i64 m, .int .i64 f, .int .i64 d, .slice a k c] 50)) g [.int .i64 n, .int .i64 m, .int .i64 f, .int .i64 d, .slice a k c] from by have h9 := (BoxV.new wn [.int .i64 n, .int .i64 m, .int .i64 f, .int .i64 d, .slice a k c] 50 (by simp) rfl); simp only [World.size_alloc, hg, Nat.add_assoc, Nat.reduceAdd] at h9; exact h9)
    have HZg := Lib.hid (show ((wn.alloc (.cells #[.int .i64 n, .int .i64 m, .int .i64 f, .int .i64 d, .slice a k c] 50))).heap.size = g + 1 from by simp only [World.size_alloc, hg, Nat.add_assoc, Nat.reduceAdd])
    clear hg
    clear T
    have T := Tn
    clear Tn
    go_enter Try.func34, Try.ntmps34
    have c0 := (AB.out.2 0 _ rfl).1
    have c1 := (AB.out.2 1 _ rfl).1
    have c2 := (AB.out.2 2 _ rfl).1
    have c3 := (AB.out.2 3 _ rfl).1
    have c4 := (AB.out.2 4 _ rfl).1
    go_wp2_with fail
    rw [HGg.out]
    refine Calls.mono (HK.out _) ?_
    intro e wn hh
    obtain ⟨he, hb⟩ := (by first | exact hh | exact Ro.mk hh | exact St.mk hh | exact LawOk.mk' hh : Mk _ _ e wn)
    subst he
    have Tn : Hid (Below w.heap.size w wn) := below_next T.out hb
    have ABn : Hid _ := BoxV.below AB.out hb
    clear hb hh c0 c1 c2 c3 c4
    clear T AB
    have T := Tn
    have AB := ABn
    clear Tn ABn
    go_wp2_with fail
    go_ret
    exact Mk.i rfl T.out
  · have h2 : szT k < 0 := by unfold szT; rw [if_neg h]; omega
    have E := Lib.hid (show szT k = -1 from by unfold szT; rw [if_neg h])
    clear h
    obtain ⟨g, hg⟩ : ∃ g, Array.size (World.heap wn) = g := ⟨_, rfl⟩
    have HGg := Lib.hid hg
    have hTg : w.heap.size ≤ g := by rw [← hg]; exact T.out.size
    have Tn := Lib.hid (show Below w.heap.size w (wn.alloc (.cells #[.int .i64 n, .int .i64 m, .int .i64 f, .int .i64 d, .slice a k c] 50)) from (Below.al T.out (.cells #[.int .i64 n, .int .i64 m, .int .i64 f, .int .i64 d, .slice a k c] 50)))
    have AB := Lib.hid (show BoxV (wn.alloc (.cells #[.int .i64 n, .int .i64 m, .int .i64 f, .int .i64 d, .slice a k c] 50)) g [.int .i64 n, .int .i64 m, .int .i64 f, .int .i64 d, .slice a k c] from by have h9 := (BoxV.new wn [.int .i64 n, .int .i64 m, .int .i64 f, .int .i64 d, .slice a k c] 50 (by simp) rfl); simp only [World.size_alloc, hg, Nat.add_assoc, Nat.reduceAdd] at h9; exact h9)
    have HZg := Lib.hid (show ((wn.alloc (.cells #[.int .i64 n, .int .i64 m, .int .i64 f, .int .i64 d, .slice a k c] 50))).heap.size = g + 1 from by simp only [World.size_alloc, hg, Nat.add_assoc, Nat.reduceAdd])
    clear hg
    clear T
    have T := Tn
    clear Tn
    go_enter Try.func34, Try.ntmps34
    have c0 := (AB.out.2 0 _ rfl).1
    have c1 := (AB.out.2 1 _ rfl).1
    have c2 := (AB.out.2 2 _ rfl).1
    have c3 := (AB.out.2 3 _ rfl).1
    have c4 := (AB.out.2 4 _ rfl).1
    go_wp2_with fail
    rw [HGg.out]
    refine Calls.mono (HK.out _) ?_
    intro e wn hh
    obtain ⟨he, hb⟩ := (by first | exact hh | exact Ro.mk hh | exact St.mk hh | exact LawOk.mk' hh : Mk _ _ e wn)
    subst he
    have Tn : Hid (Below w.heap.size w wn) := below_next T.out hb
    have ABn : Hid _ := BoxV.below AB.out hb
    clear hb hh c0 c1 c2 c3 c4
    clear T AB
    have T := Tn
    have AB := ABn
    clear Tn ABn
    go_wp2_with fail
    go_ret
    exact Mk.i E.out T.out
end Go.Proofs.Ytfhhgddajmihjaa

namespace Go.Proofs.Ytfhhgddajmihjaa
open Go.RowKit
set_option linter.unusedVariables false
set_option linter.unusedSimpArgs false
set_option maxRecDepth 100000

set_option maxHeartbeats 1000000 in
theorem markTrip_c (n m f d : Int) (a : Option Addr) (j c k : Nat) (xs : List Int) (B lo hi : Nat) (w : World) (hO : OwnR 32 3 w B (.slice a j c) j xs) (hk : k ≤ 10) (hn : j ≤ 1048576)
    (hb : ∀ q, (Value.slice a j c).ownBlock = some q → lo ≤ q ∧ q < hi) :
    Calls Try.prog 38 #[.agg #[.int .i64 n, .int .i64 m, .int .i64 f, .int .i64 d, .slice a j c], .int .i64 k] w fun e w' => e = .returned (.int .i64 ((k + j * 3 : Nat) : Int)) ∧ OwnR 32 3 w' B (.slice a j c) j (mks k (j * 3)) ∧ Out lo hi w w' := by
  have O0 := Lib.hid hO
  have HB := Lib.hid hb
  clear hO hb
  refine at_base fun wn hwn => ?_
  have T := Lib.hid (show Below w.heap.size w wn from by rw [hwn]; exact Below.refl _ _)
  clear hwn
  obtain ⟨g, hg⟩ : ∃ g, Array.size (World.heap wn) = g := ⟨_, rfl⟩
  have HGg := Lib.hid hg
  have hTg : w.heap.size ≤ g := by rw [← hg]; exact T.out.size
  have Tn := Lib.hid (show Below w.heap.size w (wn.alloc (.cells #[.int .i64 n, .int .i64 m, .int .i64 f, .int .i64 d, .slice a j c] 27)) from (Below.al T.out (.cells #[.int .i64 n, .int .i64 m, .int .i64 f, .int .i64 d, .slice a j c] 27)))
  have AB := Lib.hid (show BoxV (wn.alloc (.cells #[.int .i64 n, .int .i64 m, .int .i64 f, .int .i64 d, .slice a j c] 27)) g [.int .i64 n, .int .i64 m, .int .i64 f, .int .i64 d, .slice a j c] from by have h9 := (BoxV.new wn [.int .i64 n, .int .i64 m, .int .i64 f, .int .i64 d, .slice a j c] 27 (by simp) rfl); simp only [World.size_alloc, hg, Nat.add_assoc, Nat.reduceAdd] at h9; exact h9)
  have HZg := Lib.hid (show ((wn.alloc (.cells #[.int .i64 n, .int .i64 m, .int .i64 f, .int .i64 d, .slice a j c] 27))).heap.size = g + 1 from by simp only [World.size_alloc, hg, Nat.add_assoc, Nat.reduceAdd])
  clear hg
  clear T
  have T := Tn
  clear Tn
  go_enter Try.func38, Try.ntmps38
  have p0 := (AB.out.2 0 _ rfl).1
  have p1 := (AB.out.2 1 _ rfl).1
  have p2 := (AB.out.2 2 _ rfl).1
  have p3 := (AB.out.2 3 _ rfl).1
  have p4 := (AB.out.2 4 _ rfl).1
  go_wp2_with fail
  rw [HGg.out]
  refine Calls.mono (markRiderS_c a j c k xs B lo hi _ (OwnR.below O0.out T.out) hk hn HB.out) ?_
  rintro e wq ⟨rfl, hO, ho⟩
  have O1 := Lib.hid hO
  have H1 := Lib.hid (Out.trans (Out.mk' (lo := lo) (hi := hi) T.out) ho)
  obtain ⟨z, hz⟩ : ∃ z : Nat, k + j * 3 = z := ⟨_, rfl⟩
  rw [hz]
  have HZ := Lib.hid hz
  clear hO ho hz
  go_wp2_with fail
  go_ret
  exact ⟨by rw [HZ.out]; rfl, O1.out, H1.out⟩
set_option maxHeartbeats 1000000 in
theorem heldTrip_c (n m f d : Int) (a : Option Addr) (j c k : Nat) (w : World) (hx : RS 3 w a j (mks k (j * 3))) (hk : k ≤ 10) (hn : j ≤ 1048576) :
    Calls Try.prog 41 #[.agg #[.int .i64 n, .int .i64 m, .int .i64 f, .int .i64 d, .slice a j c], .int .i64 k] w (Mk w (.int .i64 ((k + j * 3 : Nat) : Int))) := by
  have KS := fun w' (h : Below w.heap.size w w') => (heldRiderS_c a j c k w' (RS.below hx h) hk hn).mono (fun _ _ h => St.mk h)
  obtain ⟨z, hz⟩ : ∃ z : Nat, k + j * 3 = z := ⟨_, rfl⟩
  rw [hz] at KS
  rw [hz]
  have HK := Lib.hid KS
  have h0 : ¬ (z : Int) < 0 := by omega
  clear KS hx hz
  refine at_base fun wn hwn => ?_
  have T := Lib.hid (show Below w.heap.size w wn from by rw [hwn]; exact Below.refl _ _)
  clear hwn
  obtain ⟨g, hg⟩ : ∃ g, Array.size (World.heap wn) = g := ⟨_, rfl⟩
  have HGg := Lib.hid hg
  have hTg : w.heap.size ≤ g := by rw [← hg]; exact T.out.size
  have Tn := Lib.hid (show Below w.heap.size w (wn.alloc (.cells #[.int .i64 n, .int .i64 m, .int .i64 f, .int .i64 d, .slice a j c] 27)) from (Below.al T.out (.cells #[.int .i64 n, .int .i64 m, .int .i64 f, .int .i64 d, .slice a j c] 27)))
  have AB := Lib.hid (show BoxV (wn.alloc (.cells #[.int .i64 n, .int .i64 m, .int .i64 f, .int .i64 d, .slice a j c] 27)) g [.int .i64 n, .int .i64 m, .int .i64 f, .int .i64 d, .slice a j c] from by have h9 := (BoxV.new wn [.int .i64 n, .int .i64 m, .int .i64 f, .int .i64 d, .slice a j c] 27 (by simp) rfl); simp only [World.size_alloc, hg, Nat.add_assoc, Nat.reduceAdd] at h9; exact h9)
  have HZg := Lib.hid (show ((wn.alloc (.cells #[.int .i64 n, .int .i64 m, .int .i64 f, .int .i64 d, .slice a j c] 27))).heap.size = g + 1 from by simp only [World.size_alloc, hg, Nat.add_assoc, Nat.reduceAdd])
  clear hg
  clear T
  have T := Tn
  clear Tn
  go_enter Try.func41, Try.ntmps41
  have p0 := (AB.out.2 0 _ rfl).1
  have p1 := (AB.out.2 1 _ rfl).1
  have p2 := (AB.out.2 2 _ rfl).1
  have p3 := (AB.out.2 3 _ rfl).1
  have p4 := (AB.out.2 4 _ rfl).1
  go_wp2_with fail
  rw [HGg.out]
  refine Calls.mono (HK.out _ T.out) ?_
  intro e wn hh
  obtain ⟨he, hb⟩ := (by first | exact hh | exact Ro.mk hh | exact St.mk hh | exact LawOk.mk' hh : Mk _ _ e wn)
  subst he
  have Tn : Hid (Below w.heap.size w wn) := below_next T.out hb
  have ABn : Hid _ := BoxV.below AB.out hb
  clear hb hh p0 p1 p2 p3 p4
  clear T AB
  have T := Tn
  have AB := ABn
  clear Tn ABn
  go_wp2_with fail
  go_ret
  exact Mk.i rfl T.out
end Go.Proofs.Ytfhhgddajmihjaa
