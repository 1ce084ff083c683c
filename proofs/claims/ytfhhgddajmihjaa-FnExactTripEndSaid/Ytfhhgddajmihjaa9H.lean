/- The laws' helpers over stops. -/
import Derived.Test.Ytfhhgddajmihjaa9D
import Derived.Test.Ytfhhgddajmihjaa8Y
import Derived.Deep.CutRange
namespace Go.Proofs.Ytfhhgddajmihjaa
open Go.RowKit
set_option linter.unusedVariables false
set_option linter.unusedSimpArgs false
set_option maxRecDepth 100000

theorem RS.two {w : World} {b off n i : Nat} {xs : List Int} (h : RS 2 w (some ⟨b, off, none⟩) n xs) (hi : i < n) : w.cell? ⟨b, off + i * 2, none⟩ = some (.int .i64 (nth xs (i * 2))) ∧ w.cell? ⟨b, off + i * 2 + 1, none⟩ = some (.int .i64 (nth xs (i * 2 + 1))) := by
  obtain ⟨hl, h | ⟨b', o', e, h⟩⟩ := h
  · omega
  · simp at e
    obtain ⟨rfl, rfl⟩ := e
    exact ⟨h (i * 2) (by omega), by have := h (i * 2 + 1) (by omega); rwa [← Nat.add_assoc] at this⟩
theorem RS.some {k : Nat} {w : World} {a : Option Addr} {n : Nat} {xs : List Int} (h : RS k w a n xs) (hn : 1 ≤ n) : ∃ b o, a = Option.some ⟨b, o, Option.none⟩ := by
  obtain ⟨_, h | ⟨b', o', e, h⟩⟩ := h
  · omega
  · exact ⟨_, _, e⟩
theorem nth_ext2 {xs ys : List Int} {n : Nat} (h1 : xs.length = n * 2) (h2 : ys.length = n * 2) (h : ∀ i, i < n → nth xs (i * 2) = nth ys (i * 2) ∧ nth xs (i * 2 + 1) = nth ys (i * 2 + 1)) : xs = ys := by
  apply List.ext_getElem (by omega)
  intro i hi1 hi2
  have q := h (i / 2) (by omega)
  rw [← nth_eq hi1, ← nth_eq hi2]
  rcases (by omega : i = i / 2 * 2 ∨ i = i / 2 * 2 + 1) with e | e
  · rw [e]; exact q.1
  · rw [e]; exact q.2
set_option maxHeartbeats 1000000 in
theorem toStop_c (f d : Int) (w : World) : Calls Try.prog 67 #[(Value.agg #[.int .i64 (f), .int .i64 (d)])] w (Mk w (Value.agg #[.int .i64 (f), .int .i64 (d)])) := by
  refine at_base fun wn hwn => ?_
  have T := Lib.hid (show Below w.heap.size w wn from by rw [hwn]; exact Below.refl _ _)
  clear hwn
  obtain ⟨g, hg⟩ : ∃ g, Array.size (World.heap wn) = g := ⟨_, rfl⟩
  have HGg := Lib.hid hg
  have hTg : w.heap.size ≤ g := by rw [← hg]; exact T.out.size
  have Tn := Lib.hid (show Below w.heap.size w (((wn.alloc (.cells #[.int .i64 (f), .int .i64 (d)] 47)).alloc (.cells #[.int .i64 (0), .int .i64 (0)] 24)).alloc (.cells #[.int .i64 (0), .int .i64 (0)] 24)) from (Below.al (Below.al (Below.al T.out (.cells #[.int .i64 (f), .int .i64 (d)] 47)) (.cells #[.int .i64 (0), .int .i64 (0)] 24)) (.cells #[.int .i64 (0), .int .i64 (0)] 24)))
  have AB := Lib.hid (show Box (((wn.alloc (.cells #[.int .i64 (f), .int .i64 (d)] 47)).alloc (.cells #[.int .i64 (0), .int .i64 (0)] 24)).alloc (.cells #[.int .i64 (0), .int .i64 (0)] 24)) g (f) (d) from by have h9 := (Box.al (Box.al (Box.new wn (f) (d) 47) (.cells #[.int .i64 (0), .int .i64 (0)] 24)) (.cells #[.int .i64 (0), .int .i64 (0)] 24)); simp only [World.size_alloc, hg, Nat.add_assoc, Nat.reduceAdd] at h9; exact h9)
  have RB := Lib.hid (show Box (((wn.alloc (.cells #[.int .i64 (f), .int .i64 (d)] 47)).alloc (.cells #[.int .i64 (0), .int .i64 (0)] 24)).alloc (.cells #[.int .i64 (0), .int .i64 (0)] 24)) (g + 1) (0) (0) from by have h9 := (Box.al (Box.new (wn.alloc (.cells #[.int .i64 (f), .int .i64 (d)] 47)) (0) (0) 24) (.cells #[.int .i64 (0), .int .i64 (0)] 24)); simp only [World.size_alloc, hg, Nat.add_assoc, Nat.reduceAdd] at h9; exact h9)
  have OB := Lib.hid (show Box (((wn.alloc (.cells #[.int .i64 (f), .int .i64 (d)] 47)).alloc (.cells #[.int .i64 (0), .int .i64 (0)] 24)).alloc (.cells #[.int .i64 (0), .int .i64 (0)] 24)) (g + 2) (0) (0) from by have h9 := (Box.new ((wn.alloc (.cells #[.int .i64 (f), .int .i64 (d)] 47)).alloc (.cells #[.int .i64 (0), .int .i64 (0)] 24)) (0) (0) 24); simp only [World.size_alloc, hg, Nat.add_assoc, Nat.reduceAdd] at h9; exact h9)
  have HZg := Lib.hid (show ((((wn.alloc (.cells #[.int .i64 (f), .int .i64 (d)] 47)).alloc (.cells #[.int .i64 (0), .int .i64 (0)] 24)).alloc (.cells #[.int .i64 (0), .int .i64 (0)] 24))).heap.size = g + 3 from by simp only [World.size_alloc, hg, Nat.add_assoc, Nat.reduceAdd])
  clear hg
  clear T
  have T := Tn
  clear Tn
  go_enter Try.func67, Try.ntmps67
  have O1 := Box.pset0 f OB.out
  have A1 := Box.pfar (c := g + 2) (j := 0) (v := .int .i64 f) AB.out (by omega)
  have O2 := Box.pset1 d O1
  have R2 := Box.pfar (c := g + 2) (j := 1) (v := .int .i64 d) (Box.pfar (c := g + 2) (j := 0) (v := .int .i64 f) RB.out (by omega)) (by omega)
  go_upto_region 2 with fail
  rw [HGg.out]
  generalize hW : ((wn.alloc _).alloc _).alloc _ = W at *
  obtain ⟨⟨o0, o1⟩, of0, of1⟩ := OB.out
  obtain ⟨⟨a0, a1⟩, af0, af1⟩ := AB.out
  obtain ⟨⟨b0, b1⟩, -, -⟩ := A1
  obtain ⟨⟨p0, p1⟩, -, -⟩ := O2
  obtain ⟨⟨q0, q1⟩, qf0, qf1⟩ := O1
  obtain ⟨⟨c0, c1⟩, f0, f1⟩ := R2
  go_wp2_with fail
  exact bodyPost_ret (v := (Value.agg #[.int .i64 (f), .int .i64 (d)])) (by simp [results, Try.results67, go_sem, c0, c1]) rfl (Mk.ag rfl rfl (by have HZ := T.out; exact (by repeat (first | exact Below.refl _ _ | refine Below.al ?_ _ | refine Below.dr ?_ _ | refine Below.dw ?_ | refine Below.st ?_ (by first | exact Nat.le_refl _ | exact Nat.le_add_right _ _ | (simp; omega)) _ | (refine below_next ?_ (by assumption))))))
end Go.Proofs.Ytfhhgddajmihjaa

namespace Go.Proofs.Ytfhhgddajmihjaa
open Go.RowKit
set_option linter.unusedVariables false
set_option linter.unusedSimpArgs false
set_option maxRecDepth 100000

def eq2 (a b c d : Int) : Bool := if a = c ∧ b = d then true else false
theorem eq2_t {a b c d : Int} (h : a = c ∧ b = d) : eq2 a b c d = true := by unfold eq2; rw [if_pos h]
theorem eq2_f {a b c d : Int} (h : ¬ (a = c ∧ b = d)) : eq2 a b c d = false := by unfold eq2; rw [if_neg h]
set_option maxHeartbeats 1000000 in
theorem eqStop_c (f d f' d' : Int) (w : World) : Calls Try.prog 69 #[(Value.agg #[.int .i64 (f), .int .i64 (d)]), (Value.agg #[.int .i64 (f'), .int .i64 (d')])] w (Mk w (.bool (eq2 f d f' d'))) := by
  refine at_base fun wn hwn => ?_
  have T := Lib.hid (show Below w.heap.size w wn from by rw [hwn]; exact Below.refl _ _)
  clear hwn
  rcases (by omega : f ≠ f' ∨ (f = f' ∧ d ≠ d') ∨ (f = f' ∧ d = d')) with h | ⟨rfl, h⟩ | ⟨rfl, rfl⟩
  · have E := Lib.hid (eq2_f (fun h9 : f = f' ∧ d = d' => h h9.1))
    have t : (f != f') = true := by rw [bne_iff_ne]; exact h
    clear h
    obtain ⟨g, hg⟩ : ∃ g, Array.size (World.heap wn) = g := ⟨_, rfl⟩
    have HGg := Lib.hid hg
    have hTg : w.heap.size ≤ g := by rw [← hg]; exact T.out.size
    have Tn := Lib.hid (show Below w.heap.size w ((wn.alloc (.cells #[.int .i64 (f), .int .i64 (d)] 24)).alloc (.cells #[.int .i64 (f'), .int .i64 (d')] 24)) from (Below.al (Below.al T.out (.cells #[.int .i64 (f), .int .i64 (d)] 24)) (.cells #[.int .i64 (f'), .int .i64 (d')] 24)))
    have AB := Lib.hid (show Box ((wn.alloc (.cells #[.int .i64 (f), .int .i64 (d)] 24)).alloc (.cells #[.int .i64 (f'), .int .i64 (d')] 24)) g (f) (d) from by have h9 := (Box.al (Box.new wn (f) (d) 24) (.cells #[.int .i64 (f'), .int .i64 (d')] 24)); simp only [World.size_alloc, hg, Nat.add_assoc, Nat.reduceAdd] at h9; exact h9)
    have BB := Lib.hid (show Box ((wn.alloc (.cells #[.int .i64 (f), .int .i64 (d)] 24)).alloc (.cells #[.int .i64 (f'), .int .i64 (d')] 24)) (g + 1) (f') (d') from by have h9 := (Box.new (wn.alloc (.cells #[.int .i64 (f), .int .i64 (d)] 24)) (f') (d') 24); simp only [World.size_alloc, hg, Nat.add_assoc, Nat.reduceAdd] at h9; exact h9)
    have HZg := Lib.hid (show (((wn.alloc (.cells #[.int .i64 (f), .int .i64 (d)] 24)).alloc (.cells #[.int .i64 (f'), .int .i64 (d')] 24))).heap.size = g + 2 from by simp only [World.size_alloc, hg, Nat.add_assoc, Nat.reduceAdd])
    clear hg
    clear T
    have T := Tn
    clear Tn
    go_enter Try.func69, Try.ntmps69
    obtain ⟨⟨a0, a1⟩, af0, af1⟩ := AB.out
    obtain ⟨⟨b0, b1⟩, bf0, bf1⟩ := BB.out
    go_wp2_with fail
    go_ret
    exact Mk.b E.out T.out
  · have E := Lib.hid (eq2_f (fun h9 : f = f ∧ d = d' => h h9.2))
    have t : (d != d') = true := by rw [bne_iff_ne]; exact h
    clear h
    obtain ⟨g, hg⟩ : ∃ g, Array.size (World.heap wn) = g := ⟨_, rfl⟩
    have HGg := Lib.hid hg
    have hTg : w.heap.size ≤ g := by rw [← hg]; exact T.out.size
    have Tn := Lib.hid (show Below w.heap.size w ((wn.alloc (.cells #[.int .i64 (f), .int .i64 (d)] 24)).alloc (.cells #[.int .i64 (f), .int .i64 (d')] 24)) from (Below.al (Below.al T.out (.cells #[.int .i64 (f), .int .i64 (d)] 24)) (.cells #[.int .i64 (f), .int .i64 (d')] 24)))
    have AB := Lib.hid (show Box ((wn.alloc (.cells #[.int .i64 (f), .int .i64 (d)] 24)).alloc (.cells #[.int .i64 (f), .int .i64 (d')] 24)) g (f) (d) from by have h9 := (Box.al (Box.new wn (f) (d) 24) (.cells #[.int .i64 (f), .int .i64 (d')] 24)); simp only [World.size_alloc, hg, Nat.add_assoc, Nat.reduceAdd] at h9; exact h9)
    have BB := Lib.hid (show Box ((wn.alloc (.cells #[.int .i64 (f), .int .i64 (d)] 24)).alloc (.cells #[.int .i64 (f), .int .i64 (d')] 24)) (g + 1) (f) (d') from by have h9 := (Box.new (wn.alloc (.cells #[.int .i64 (f), .int .i64 (d)] 24)) (f) (d') 24); simp only [World.size_alloc, hg, Nat.add_assoc, Nat.reduceAdd] at h9; exact h9)
    have HZg := Lib.hid (show (((wn.alloc (.cells #[.int .i64 (f), .int .i64 (d)] 24)).alloc (.cells #[.int .i64 (f), .int .i64 (d')] 24))).heap.size = g + 2 from by simp only [World.size_alloc, hg, Nat.add_assoc, Nat.reduceAdd])
    clear hg
    clear T
    have T := Tn
    clear Tn
    go_enter Try.func69, Try.ntmps69
    obtain ⟨⟨a0, a1⟩, af0, af1⟩ := AB.out
    obtain ⟨⟨b0, b1⟩, bf0, bf1⟩ := BB.out
    go_wp2_with fail
    go_ret
    exact Mk.b E.out T.out
  · have E := Lib.hid (eq2_t (show f = f ∧ d = d from ⟨rfl, rfl⟩))
    obtain ⟨g, hg⟩ : ∃ g, Array.size (World.heap wn) = g := ⟨_, rfl⟩
    have HGg := Lib.hid hg
    have hTg : w.heap.size ≤ g := by rw [← hg]; exact T.out.size
    have Tn := Lib.hid (show Below w.heap.size w ((wn.alloc (.cells #[.int .i64 (f), .int .i64 (d)] 24)).alloc (.cells #[.int .i64 (f), .int .i64 (d)] 24)) from (Below.al (Below.al T.out (.cells #[.int .i64 (f), .int .i64 (d)] 24)) (.cells #[.int .i64 (f), .int .i64 (d)] 24)))
    have AB := Lib.hid (show Box ((wn.alloc (.cells #[.int .i64 (f), .int .i64 (d)] 24)).alloc (.cells #[.int .i64 (f), .int .i64 (d)] 24)) g (f) (d) from by have h9 := (Box.al (Box.new wn (f) (d) 24) (.cells #[.int .i64 (f), .int .i64 (d)] 24)); simp only [World.size_alloc, hg, Nat.add_assoc, Nat.reduceAdd] at h9; exact h9)
    have BB := Lib.hid (show Box ((wn.alloc (.cells #[.int .i64 (f), .int .i64 (d)] 24)).alloc (.cells #[.int .i64 (f), .int .i64 (d)] 24)) (g + 1) (f) (d) from by have h9 := (Box.new (wn.alloc (.cells #[.int .i64 (f), .int .i64 (d)] 24)) (f) (d) 24); simp only [World.size_alloc, hg, Nat.add_assoc, Nat.reduceAdd] at h9; exact h9)
    have HZg := Lib.hid (show (((wn.alloc (.cells #[.int .i64 (f), .int .i64 (d)] 24)).alloc (.cells #[.int .i64 (f), .int .i64 (d)] 24))).heap.size = g + 2 from by simp only [World.size_alloc, hg, Nat.add_assoc, Nat.reduceAdd])
    clear hg
    clear T
    have T := Tn
    clear Tn
    go_enter Try.func69, Try.ntmps69
    obtain ⟨⟨a0, a1⟩, af0, af1⟩ := AB.out
    obtain ⟨⟨b0, b1⟩, bf0, bf1⟩ := BB.out
    go_wp2_with fail
    go_ret
    exact Mk.b E.out T.out
/-- Marks: k, k + 1, .. -/
def mks (k m : Nat) : List Int := (List.range m).map fun i => ((k + i : Nat) : Int)
theorem mks_len (k m : Nat) : (mks k m).length = m := by simp [mks]
theorem mks_nth {k m i : Nat} (h : i < m) : nth (mks k m) i = ((k + i : Nat) : Int) := by simp [mks, nth, List.getD, h]
theorem mks_set {k j : Nat} {xs : List Int} {x : Int} (h : j < xs.length) (hx : x = ((k + j : Nat) : Int)) : (mks k j ++ xs.drop j).set j x = mks k (j + 1) ++ xs.drop (j + 1) := by
  subst hx
  have e : mks k (j + 1) = mks k j ++ [((k + j : Nat) : Int)] := by simp [mks, List.range_succ]
  rw [e, List.drop_eq_getElem_cons h, List.set_append]
  simp only [mks_len, Nat.lt_irrefl, if_false, Nat.sub_self, List.set_cons_zero, List.append_assoc, List.singleton_append]
theorem mix_len {k j : Nat} {xs : List Int} (h : j ≤ xs.length) : (mks k j ++ xs.drop j).length = xs.length := by simp [mks_len]; omega
end Go.Proofs.Ytfhhgddajmihjaa
