/- Riders in memory: rows of records of three numbers; trips. -/
import Derived.Test.YtfhhgddajmihjaaRC
import Derived.Test.Ytfhhgddajmihjaa11P
import Derived.Test.Ytfhhgddajmihjaa9D
import Derived.Test.YtfhhgddajmihjaaVB
import Derived.Test.Ytfhhgddajmihjaa9B
import Derived.Test.Ytfhhgddajmihjaa9C
namespace Go.Proofs.Ytfhhgddajmihjaa
open Go.RowKit
set_option linter.unusedVariables false
set_option linter.unusedSimpArgs false
set_option maxRecDepth 100000

/-- A list of riders, flat. -/
def rfl3 : List Ri → List Int
  | [] => []
  | r :: l => r.a :: r.b :: r.s :: rfl3 l
theorem rfl3_len : ∀ l : List Ri, (rfl3 l).length = l.length * 3
  | [] => rfl
  | r :: l => by simp [rfl3, rfl3_len l]; omega
theorem rfl3_app : ∀ l m : List Ri, rfl3 (l ++ m) = rfl3 l ++ rfl3 m
  | [], m => rfl
  | r :: l, m => by simp [rfl3, rfl3_app l m]
theorem nth_cons3 (x y z : Int) (l : List Int) (i : Nat) : nth (x :: y :: z :: l) (i + 3) = nth l i := by simp [nth, List.getD]
theorem rfl3_at : ∀ (l : List Ri) (i : Nat) (h : i < l.length), nth (rfl3 l) (i * 3) = l[i].a ∧ nth (rfl3 l) (i * 3 + 1) = l[i].b ∧ nth (rfl3 l) (i * 3 + 2) = l[i].s
  | [], i, h => by simp at h
  | r :: l, 0, h => ⟨rfl, rfl, rfl⟩
  | r :: l, i + 1, h => by
    have := rfl3_at l i (by simpa using h)
    rw [show (i + 1) * 3 = i * 3 + 3 by omega, show i * 3 + 3 + 1 = (i * 3 + 1) + 3 by omega, show i * 3 + 3 + 2 = (i * 3 + 2) + 3 by omega]
    unfold rfl3
    rw [nth_cons3, nth_cons3, nth_cons3]
    simpa using this
/-- A slice of n riders that reads as a list. -/
def Rid (w : World) (a : Option Addr) (n : Nat) (l : List Ri) : Prop := RS 3 w a n (rfl3 l) ∧ l.length = n
theorem Rid.below {w w' : World} {a : Option Addr} {n : Nat} {l : List Ri} (h : Rid w a n l) (hb : Below w.heap.size w w') : Rid w' a n l := ⟨RS.below h.1 hb, h.2⟩
theorem Rid.some {w : World} {a : Option Addr} {n : Nat} {l : List Ri} (h : Rid w a n l) (hn : 1 ≤ n) : ∃ b o, a = Option.some ⟨b, o, Option.none⟩ := by
  obtain ⟨⟨_, h | ⟨b', o', e, h⟩⟩, _⟩ := h
  · omega
  · exact ⟨_, _, e⟩
/-- Rider number i. -/
def rat (l : List Ri) (i : Nat) : Ri := l.getD i ⟨0, 0, 0⟩
theorem rat_eq {l : List Ri} {i : Nat} (h : i < l.length) : rat l i = l[i] := by simp [rat, List.getD, h]
theorem rat_mem {l : List Ri} {i : Nat} (h : i < l.length) : rat l i ∈ l := by rw [rat_eq h]; exact List.getElem_mem h
theorem rat_take {l : List Ri} {i : Nat} (h : i < l.length) : l.take (i + 1) = l.take i ++ [rat l i] := by rw [List.take_add_one, List.getElem?_eq_getElem h, rat_eq h]; rfl
theorem Rid.three {w : World} {b off n i : Nat} {l : List Ri} (h : Rid w (Option.some ⟨b, off, Option.none⟩) n l) (hi : i < n) :
    w.cell? ⟨b, off + i * 3, none⟩ = Option.some (.int .i64 (rat l i).a) ∧ w.cell? ⟨b, off + i * 3 + 1, none⟩ = Option.some (.int .i64 (rat l i).b) ∧ w.cell? ⟨b, off + i * 3 + 2, none⟩ = Option.some (.int .i64 (rat l i).s) := by
  obtain ⟨⟨hl, h⟩, hn⟩ := h
  have h3 := rfl3_at l i (by omega)
  rw [← rat_eq (by omega)] at h3
  have hlen := rfl3_len l
  rcases h with h | ⟨b', o', e, h⟩
  · omega
  · simp at e
    obtain ⟨rfl, rfl⟩ := e
    have g0 := h (i * 3) (by omega)
    have g1 := h (i * 3 + 1) (by omega)
    have g2 := h (i * 3 + 2) (by omega)
    rw [h3.1] at g0
    rw [h3.2.1, ← Nat.add_assoc] at g1
    rw [h3.2.2, ← Nat.add_assoc] at g2
    exact ⟨g0, g1, g2⟩
end Go.Proofs.Ytfhhgddajmihjaa

namespace Go.Proofs.Ytfhhgddajmihjaa
open Go.RowKit
set_option linter.unusedVariables false
set_option linter.unusedSimpArgs false
set_option maxRecDepth 100000

theorem ins_take {l : List Ri} {i : Nat} (h : i < l.length) : ins (l.take (i + 1)) = ins (l.take i) + (if (rat l i).s = 1 then 1 else 0) := by rw [rat_take h, ins_app]; simp [ins]
set_option maxHeartbeats 2000000 in
theorem l11Inside_c (n m f d : Int) (a : Option Addr) (k c : Nat) (l : List Ri) (w : World) (hX : Rid w a k l) (hk : k ≤ 1048577) :
    Calls Try.prog 50 #[.agg #[.int .i64 n, .int .i64 m, .int .i64 f, .int .i64 d, .slice a k c]] w (Mk w (.int .i64 (ins l : Nat))) := by
  have HL := Lib.hid hX.2
  refine at_base fun wn hwn => ?_
  have T := Lib.hid (show Below w.heap.size w wn from by rw [hwn]; exact Below.refl _ _)
  rw [← hwn] at hX
  have X := Lib.hid (show Rid wn a k l from hX)
  clear hX
  clear hwn
  obtain ⟨g, hg⟩ : ∃ g, Array.size (World.heap wn) = g := ⟨_, rfl⟩
  have HGg := Lib.hid hg
  have hTg : w.heap.size ≤ g := by rw [← hg]; exact T.out.size
  have Tn := Lib.hid (show Below w.heap.size w (wn.alloc (.cells #[.int .i64 n, .int .i64 m, .int .i64 f, .int .i64 d, .slice a k c] 27)) from (Below.al T.out (.cells #[.int .i64 n, .int .i64 m, .int .i64 f, .int .i64 d, .slice a k c] 27)))
  have Xn := Lib.hid (Rid.below X.out (show Below wn.heap.size wn (wn.alloc (.cells #[.int .i64 n, .int .i64 m, .int .i64 f, .int .i64 d, .slice a k c] 27)) from (Below.al (Below.refl _ _) (.cells #[.int .i64 n, .int .i64 m, .int .i64 f, .int .i64 d, .slice a k c] 27))))
  have TB := Lib.hid (show BoxV (wn.alloc (.cells #[.int .i64 n, .int .i64 m, .int .i64 f, .int .i64 d, .slice a k c] 27)) g [.int .i64 n, .int .i64 m, .int .i64 f, .int .i64 d, .slice a k c] from by have h9 := (BoxV.new wn [.int .i64 n, .int .i64 m, .int .i64 f, .int .i64 d, .slice a k c] 27 (by simp) rfl); simp only [World.size_alloc, hg, Nat.add_assoc, Nat.reduceAdd] at h9; exact h9)
  have HZg := Lib.hid (show ((wn.alloc (.cells #[.int .i64 n, .int .i64 m, .int .i64 f, .int .i64 d, .slice a k c] 27))).heap.size = g + 1 from by simp only [World.size_alloc, hg, Nat.add_assoc, Nat.reduceAdd])
  clear hg
  clear T X
  have T := Tn
  have X := Xn
  clear Tn Xn
  go_enter Try.func50, Try.ntmps50
  go_wp2_with fail
  rw [HGg.out]
  go_loopw [3, 4] (fun u v wr => ∃ i j : Nat, i ≤ k ∧ u = .int .i64 j ∧ v = .int .i64 i ∧ j = ins (l.take i) ∧ j ≤ i ∧ Below w.heap.size w wr ∧ Rid wr a k l ∧ BoxV wr g [.int .i64 n, .int .i64 m, .int .i64 f, .int .i64 d, .slice a k c]) (fun u v _ => k - (intOf v).toNat)
  case atStart => exact ⟨0, 0, by omega, rfl, rfl, rfl, by omega, T.out, X.out, TB.out⟩
  case' round =>
    clear T X TB
    obtain ⟨i, j, hi, rfl, rfl, hj, hji, h9T, h9X, h9TB⟩ := hrel
    obtain ⟨wn, hwq⟩ : ∃ w0 : World, w0 = wr := ⟨_, rfl⟩
    rw [← hwq] at h9T h9X h9TB ⊢
    clear hwq
    have T := Lib.hid h9T
    have X := Lib.hid h9X
    have TB := Lib.hid h9TB
    clear h9T h9X h9TB
    have HJ := Lib.hid hj
    clear hj
    by_cases hlt : i < k
    case neg =>
      obtain rfl : i = k := by omega
      have E := Lib.hid (show ((ins l : Nat) : Int) = (j : Int) from by rw [HJ.out, List.take_of_length_le (by rw [HL.out]; exact Nat.le_refl _)])
      have c0 := (TB.out.2 0 _ rfl).1
      have c1 := (TB.out.2 1 _ rfl).1
      have c2 := (TB.out.2 2 _ rfl).1
      have c3 := (TB.out.2 3 _ rfl).1
      have c4 := (TB.out.2 4 _ rfl).1
      go_wp2_with fail
      go_ret
      exact Mk.i E.out T.out
    obtain ⟨b, off, rfl⟩ := Rid.some X.out (by omega)
    obtain ⟨y0, y1, y2⟩ := Rid.three X.out hlt
    have hin := ins_take (l := l) (i := i) (by rw [HL.out]; exact hlt)
    obtain ⟨s, hs⟩ : ∃ s, (rat l i).s = s := ⟨_, rfl⟩
    rw [hs] at y2 hin
    have hii : (i : Int) < k := by omega
    clear y0 y1 hs
    have c0 := (TB.out.2 0 _ rfl).1
    have c1 := (TB.out.2 1 _ rfl).1
    have c2 := (TB.out.2 2 _ rfl).1
    have c3 := (TB.out.2 3 _ rfl).1
    have c4 := (TB.out.2 4 _ rfl).1
    by_cases e : s = 1
    case pos =>
      have E := Lib.hid (show j + 1 = ins (l.take (i + 1)) from by rw [hin, if_pos e, HJ.out])
      have t : (s == 1) = true := by simp [e]
      clear e hin
      go_wp2_with fail
      go_roundw
      case rel => exact ⟨i + 1, j + 1, by omega, by go_num, by go_num, E.out, by omega, T.out, X.out, TB.out⟩
      case measure => first | (simp [intOf]; done) | (simp [intOf]; omega) | omega
    have E := Lib.hid (show j = ins (l.take (i + 1)) from by rw [hin, if_neg e, HJ.out]; rfl)
    have t : (s == 1) = false := by simp [e]
    clear e hin
    go_wp2_with fail
    go_roundw
    case rel => exact ⟨i + 1, j, by omega, rfl, by go_num, E.out, by omega, T.out, X.out, TB.out⟩
    case measure => first | (simp [intOf]; done) | (simp [intOf]; omega) | omega
theorem l11Dir_c (r : Ri) (w : World) : Calls Try.prog 49 #[.agg #[.int .i64 r.a, .int .i64 r.b, .int .i64 r.s]] w (Mk w (.int .i64 (rdir r))) := by
  obtain ⟨x, y, s⟩ := r
  refine at_base fun wn hwn => ?_
  have T := Lib.hid (show Below w.heap.size w wn from by rw [hwn]; exact Below.refl _ _)
  clear hwn
  by_cases h : y > x
  · have E := Lib.hid (show rdir ⟨x, y, s⟩ = 1 from if_pos h)
    obtain ⟨g, hg⟩ : ∃ g, Array.size (World.heap wn) = g := ⟨_, rfl⟩
    have HGg := Lib.hid hg
    have hTg : w.heap.size ≤ g := by rw [← hg]; exact T.out.size
    have Tn := Lib.hid (show Below w.heap.size w (wn.alloc (.cells #[.int .i64 x, .int .i64 y, .int .i64 s] 32)) from (Below.al T.out (.cells #[.int .i64 x, .int .i64 y, .int .i64 s] 32)))
    have RB := Lib.hid (show BoxV (wn.alloc (.cells #[.int .i64 x, .int .i64 y, .int .i64 s] 32)) g [.int .i64 x, .int .i64 y, .int .i64 s] from by have h9 := (BoxV.new wn [.int .i64 x, .int .i64 y, .int .i64 s] 32 (by simp) rfl); simp only [World.size_alloc, hg, Nat.add_assoc, Nat.reduceAdd] at h9; exact h9)
    have HZg := Lib.hid (show ((wn.alloc (.cells #[.int .i64 x, .int .i64 y, .int .i64 s] 32))).heap.size = g + 1 from by simp only [World.size_alloc, hg, Nat.add_assoc, Nat.reduceAdd])
    clear hg
    clear T
    have T := Tn
    clear Tn
    go_enter Try.func49, Try.ntmps49
    have c0 := (RB.out.2 0 _ rfl).1
    have c1 := (RB.out.2 1 _ rfl).1
    have c2 := (RB.out.2 2 _ rfl).1
    go_wp2_with fail
    go_ret
    exact Mk.i E.out T.out
  · have E := Lib.hid (show rdir ⟨x, y, s⟩ = -1 from if_neg h)
    obtain ⟨g, hg⟩ : ∃ g, Array.size (World.heap wn) = g := ⟨_, rfl⟩
    have HGg := Lib.hid hg
    have hTg : w.heap.size ≤ g := by rw [← hg]; exact T.out.size
    have Tn := Lib.hid (show Below w.heap.size w (wn.alloc (.cells #[.int .i64 x, .int .i64 y, .int .i64 s] 32)) from (Below.al T.out (.cells #[.int .i64 x, .int .i64 y, .int .i64 s] 32)))
    have RB := Lib.hid (show BoxV (wn.alloc (.cells #[.int .i64 x, .int .i64 y, .int .i64 s] 32)) g [.int .i64 x, .int .i64 y, .int .i64 s] from by have h9 := (BoxV.new wn [.int .i64 x, .int .i64 y, .int .i64 s] 32 (by simp) rfl); simp only [World.size_alloc, hg, Nat.add_assoc, Nat.reduceAdd] at h9; exact h9)
    have HZg := Lib.hid (show ((wn.alloc (.cells #[.int .i64 x, .int .i64 y, .int .i64 s] 32))).heap.size = g + 1 from by simp only [World.size_alloc, hg, Nat.add_assoc, Nat.reduceAdd])
    clear hg
    clear T
    have T := Tn
    clear Tn
    go_enter Try.func49, Try.ntmps49
    have c0 := (RB.out.2 0 _ rfl).1
    have c1 := (RB.out.2 1 _ rfl).1
    have c2 := (RB.out.2 2 _ rfl).1
    go_wp2_with fail
    go_ret
    exact Mk.i E.out T.out
end Go.Proofs.Ytfhhgddajmihjaa

namespace Go.Proofs.Ytfhhgddajmihjaa
open Go.RowKit
set_option linter.unusedVariables false
set_option linter.unusedSimpArgs false
set_option maxRecDepth 100000


theorem tok_of {n m f d : Int} {l : List Ri} (h0 : 1 ≤ n ∧ n ≤ 8) (h1 : 1 ≤ m ∧ m ≤ 8) (h2 : 0 ≤ f ∧ f ≤ n - 1) (h3 : d = 1 ∨ d = -1) (h4 : l.length ≤ 8) : TOk ⟨n, m, f, d, l⟩ ↔ (∀ i, i < l.length → ROk n f d (rat l i)) ∧ (ins l : Int) ≤ m :=
  ⟨fun h => ⟨fun i hi => h.2.2.2.2.2.1 _ (rat_mem hi), h.2.2.2.2.2.2⟩, fun h => ⟨h0, h1, ⟨h2.1, by show f < n; omega⟩, h3, h4, fun r hr => by
    obtain ⟨i, hi, e⟩ := List.getElem_of_mem hr
    have := h.1 i hi
    rwa [rat_eq hi, e] at this, h.2⟩⟩
set_option maxRecDepth 100000 in
set_option maxHeartbeats 4000000 in
theorem sTripValid_p (n m f : Int) (a : Option Addr) (k c : Nat) (l : List Ri) (w : World) (hX : Rid w a k l) (h0 : 1 ≤ n ∧ n ≤ 8) (h1 : 1 ≤ m ∧ m ≤ 8) (h2 : 0 ≤ f ∧ f ≤ n - 1) (hk : k ≤ 8) :
    Calls Try.prog 15 #[.agg #[.int .i64 n, .int .i64 m, .int .i64 f, .int .i64 (1), .slice a k c]] w (Mk w (.bool (tokB ⟨n, m, f, 1, l⟩))) := by
  have HL := Lib.hid hX.2
  have HT := Lib.hid (tok_of (d := 1) (l := l) h0 h1 h2 (.inl rfl) (by rw [hX.2]; exact hk))
  have t1 := inB_t h0
  have t2 := inB_t h1
  have t3 := inB_t h2
  obtain ⟨p1, p2⟩ := h0
  obtain ⟨p3, p4⟩ := h1
  obtain ⟨p5, p6⟩ := h2
  have u3 : ¬ (k : Int) > 8 := by omega
  refine at_base fun wn hwn => ?_
  have T := Lib.hid (show Below w.heap.size w wn from by rw [hwn]; exact Below.refl _ _)
  rw [← hwn] at hX
  have X := Lib.hid (show Rid wn a k l from hX)
  clear hX
  clear hwn
  obtain ⟨g, hg⟩ : ∃ g, Array.size (World.heap wn) = g := ⟨_, rfl⟩
  have HGg := Lib.hid hg
  have hTg : w.heap.size ≤ g := by rw [← hg]; exact T.out.size
  have Tn := Lib.hid (show Below w.heap.size w (wn.alloc (.cells #[.int .i64 n, .int .i64 m, .int .i64 f, .int .i64 (1), .slice a k c] 27)) from (Below.al T.out (.cells #[.int .i64 n, .int .i64 m, .int .i64 f, .int .i64 (1), .slice a k c] 27)))
  have Xn := Lib.hid (Rid.below X.out (show Below wn.heap.size wn (wn.alloc (.cells #[.int .i64 n, .int .i64 m, .int .i64 f, .int .i64 (1), .slice a k c] 27)) from (Below.al (Below.refl _ _) (.cells #[.int .i64 n, .int .i64 m, .int .i64 f, .int .i64 (1), .slice a k c] 27))))
  have TB := Lib.hid (show BoxV (wn.alloc (.cells #[.int .i64 n, .int .i64 m, .int .i64 f, .int .i64 (1), .slice a k c] 27)) g [.int .i64 n, .int .i64 m, .int .i64 f, .int .i64 (1), .slice a k c] from by have h9 := (BoxV.new wn [.int .i64 n, .int .i64 m, .int .i64 f, .int .i64 (1), .slice a k c] 27 (by simp) rfl); simp only [World.size_alloc, hg, Nat.add_assoc, Nat.reduceAdd] at h9; exact h9)
  have HZg := Lib.hid (show ((wn.alloc (.cells #[.int .i64 n, .int .i64 m, .int .i64 f, .int .i64 (1), .slice a k c] 27))).heap.size = g + 1 from by simp only [World.size_alloc, hg, Nat.add_assoc, Nat.reduceAdd])
  clear hg
  clear T X
  have T := Tn
  have X := Xn
  clear Tn Xn
  go_enter Try.func15, Try.ntmps15
  have c0 := (TB.out.2 0 _ rfl).1
  have c1 := (TB.out.2 1 _ rfl).1
  have c2 := (TB.out.2 2 _ rfl).1
  have c3 := (TB.out.2 3 _ rfl).1
  have c4 := (TB.out.2 4 _ rfl).1
  go_wp2_with fail
  rw [HGg.out]
  refine Calls.mono (l1In_c _ _ _ _) ?_
  intro e wn hh
  obtain ⟨he, hb⟩ := (by first | exact hh | exact Ro.mk hh | exact St.mk hh | exact LawOk.mk' hh : Mk _ _ e wn)
  subst he
  have Tn : Hid (Below w.heap.size w wn) := below_next T.out hb
  have Xn : Hid _ := Rid.below X.out hb
  have TBn : Hid _ := BoxV.below TB.out hb
  clear hb hh c0 c1 c2 c3 c4
  clear T X TB
  have T := Tn
  have X := Xn
  have TB := TBn
  clear Tn Xn TBn
  have c0 := (TB.out.2 0 _ rfl).1
  have c1 := (TB.out.2 1 _ rfl).1
  have c2 := (TB.out.2 2 _ rfl).1
  have c3 := (TB.out.2 3 _ rfl).1
  have c4 := (TB.out.2 4 _ rfl).1
  go_wp2_with fail
  refine Calls.mono (l1In_c _ _ _ _) ?_
  intro e wn hh
  obtain ⟨he, hb⟩ := (by first | exact hh | exact Ro.mk hh | exact St.mk hh | exact LawOk.mk' hh : Mk _ _ e wn)
  subst he
  have Tn : Hid (Below w.heap.size w wn) := below_next T.out hb
  have Xn : Hid _ := Rid.below X.out hb
  have TBn : Hid _ := BoxV.below TB.out hb
  clear hb hh c0 c1 c2 c3 c4
  clear T X TB
  have T := Tn
  have X := Xn
  have TB := TBn
  clear Tn Xn TBn
  have c0 := (TB.out.2 0 _ rfl).1
  have c1 := (TB.out.2 1 _ rfl).1
  have c2 := (TB.out.2 2 _ rfl).1
  have c3 := (TB.out.2 3 _ rfl).1
  have c4 := (TB.out.2 4 _ rfl).1
  go_wp2_with fail
  refine Calls.mono (l1In_c _ _ _ _) ?_
  intro e wn hh
  obtain ⟨he, hb⟩ := (by first | exact hh | exact Ro.mk hh | exact St.mk hh | exact LawOk.mk' hh : Mk _ _ e wn)
  subst he
  have Tn : Hid (Below w.heap.size w wn) := below_next T.out hb
  have Xn : Hid _ := Rid.below X.out hb
  have TBn : Hid _ := BoxV.below TB.out hb
  clear hb hh c0 c1 c2 c3 c4
  clear T X TB
  have T := Tn
  have X := Xn
  have TB := TBn
  clear Tn Xn TBn
  have c0 := (TB.out.2 0 _ rfl).1
  have c1 := (TB.out.2 1 _ rfl).1
  have c2 := (TB.out.2 2 _ rfl).1
  have c3 := (TB.out.2 3 _ rfl).1
  have c4 := (TB.out.2 4 _ rfl).1
  go_wp2_with fail
  go_loopw [3] (fun v wr => ∃ i : Nat, i ≤ k ∧ v = .int .i64 i ∧ (∀ j, j < i → ROk n f (1) (rat l j)) ∧ Below w.heap.size w wr ∧ Rid wr a k l ∧ BoxV wr g [.int .i64 n, .int .i64 m, .int .i64 f, .int .i64 (1), .slice a k c]) (fun v _ => k - (intOf v).toNat)
  case atStart => exact ⟨0, by omega, rfl, (fun j hj => by omega), T.out, X.out, TB.out⟩
  case' round =>
    clear T X TB c0 c1 c2 c3 c4
    obtain ⟨i, hi, rfl, hall, h9T, h9X, h9TB⟩ := hrel
    obtain ⟨wn, hwq⟩ : ∃ w0 : World, w0 = wr := ⟨_, rfl⟩
    rw [← hwq] at h9T h9X h9TB ⊢
    clear hwq
    have T := Lib.hid h9T
    have X := Lib.hid h9X
    have TB := Lib.hid h9TB
    clear h9T h9X h9TB
    have HA := Lib.hid hall
    clear hall
    by_cases hlt : i < k
    case neg =>
      obtain rfl : i = k := by omega
      have HA2 := Lib.hid (show ∀ j, j < l.length → ROk n f (1) (rat l j) from fun j hj => HA.out j (by rw [← HL.out]; exact hj))
      have K := fun w' (h : Rid w' a i l) => l11Inside_c n m f (1) a i c l w' h (by omega)
      obtain ⟨z, hz⟩ : ∃ z : Nat, ins l = z := ⟨_, rfl⟩
      rw [hz] at K
      have HK := Lib.hid K
      have HZ := Lib.hid hz
      clear K hz
      have c0 := (TB.out.2 0 _ rfl).1
      have c1 := (TB.out.2 1 _ rfl).1
      have c2 := (TB.out.2 2 _ rfl).1
      have c3 := (TB.out.2 3 _ rfl).1
      have c4 := (TB.out.2 4 _ rfl).1
      go_wp2_with fail
      refine wp_region_quiet (C := fun w' => Below (World.heap (wn)).size (wn) w') (by kernel_rfl) (by kernel_rfl) (by first | exact ⟨rfl, rfl, rfl, Nat.le_refl _, fun _ _ => rfl⟩ | exact Below.dw (by repeat (first | exact Below.refl _ _ | refine Below.al ?_ _ | refine Below.dr ?_ _ | refine Below.dw ?_ | refine Below.st ?_ (by first | exact Nat.le_refl _ | exact Nat.le_add_right _ _ | (simp; omega)) _ | (refine below_next ?_ (by assumption))))) ?_
      simp only []
      repeat (go_big_quiet_step (first | (intro _; with_reducible exact rfl) | (intro hC; go_at_call 50; have TB9 := BoxV.below TB.out hC; have c0 := (TB9.2 0 _ rfl).1; have c1 := (TB9.2 1 _ rfl).1; have c2 := (TB9.2 2 _ rfl).1; have c3 := (TB9.2 3 _ rfl).1; have c4 := (TB9.2 4 _ rfl).1; clear TB9; (refine Calls.mono (HK.out _ (Rid.below X.out hC)) ?_); (first | (rintro e wx ⟨rfl, hb⟩; exact ⟨rfl, below_next hC hb⟩) | (rintro e wx ⟨rfl, n, rfl⟩; exact ⟨rfl, Below.dr hC n⟩) | (rintro e wx ⟨rfl, rfl⟩; exact ⟨rfl, hC⟩))) | (intro hC; have TB9 := BoxV.below TB.out hC; have c0 := (TB9.2 0 _ rfl).1; have c1 := (TB9.2 1 _ rfl).1; have c2 := (TB9.2 2 _ rfl).1; have c3 := (TB9.2 3 _ rfl).1; have c4 := (TB9.2 4 _ rfl).1; clear TB9; go_simp; rfl)))
      refine wpQuiet_nil ?_
      intro wq hq
      have Tn := Lib.hid (below_next T.out hq)
      have Xn := Lib.hid (Rid.below X.out hq)
      have TBn := Lib.hid (BoxV.below TB.out hq)
      clear hq
      clear T X TB
      have T := Tn
      have X := Xn
      have TB := TBn
      clear Tn Xn TBn
      obtain ⟨wn, hwq⟩ : ∃ w0, w0 = wq := ⟨_, rfl⟩
      subst hwq
      have E := Lib.hid (show tokB ⟨n, m, f, 1, l⟩ = decide ((z : Int) ≤ m) from by
        by_cases g : (z : Int) ≤ m
        · rw [decide_eq_true g]; exact tokB_t (HT.out.2 ⟨HA2.out, by rw [HZ.out]; exact g⟩)
        · rw [decide_eq_false g]; exact tokB_f (fun h => g (by have := (HT.out.1 h).2; rwa [HZ.out] at this)))
      go_wp2_with fail
      go_ret
      exact Mk.b E.out T.out
    have HF := Lib.hid (show ¬ ROk n f (1) (rat l i) → tokB ⟨n, m, f, 1, l⟩ = false from fun h => tokB_f (fun g => h ((HT.out.1 g).1 i (by rw [HL.out]; exact hlt))))
    have HN := Lib.hid (show ROk n f (1) (rat l i) → ∀ j, j < i + 1 → ROk n f (1) (rat l j) from fun h j hj => by
      by_cases e : j = i
      · subst e; exact h
      · exact HA.out j (by omega))
    obtain ⟨b, off, rfl⟩ := Rid.some X.out (by omega)
    obtain ⟨y0, y1, y2⟩ := Rid.three X.out hlt
    have KD := fun w' => l11Dir_c (rat l i) w'
    have hii : (i : Int) < k := by omega
    obtain ⟨⟨x, y, s⟩, hr⟩ : ∃ r, rat l i = r := ⟨_, rfl⟩
    rw [hr] at y0 y1 y2 KD HF HN
    obtain ⟨e, he⟩ : ∃ e, rdir ⟨x, y, s⟩ = e := ⟨_, rfl⟩
    rw [he] at KD
    have HD := Lib.hid KD
    have HE := Lib.hid he
    clear hr KD he HA
    have c0 := (TB.out.2 0 _ rfl).1
    have c1 := (TB.out.2 1 _ rfl).1
    have c2 := (TB.out.2 2 _ rfl).1
    have c3 := (TB.out.2 3 _ rfl).1
    have c4 := (TB.out.2 4 _ rfl).1
    have hltTBHR := BoxV.lt TB.out
    have hWHR := T.out.size
    obtain ⟨HR, hHR⟩ : ∃ HR, Array.size (World.heap wn) = HR := ⟨_, rfl⟩
    have HHR : Hid _ := hHR
    rw [hHR] at hWHR hltTBHR
    have RB : Hid (BoxV (wn.alloc (.cells #[.int .i64 x, .int .i64 y, .int .i64 s] 32)) HR [.int .i64 x, .int .i64 y, .int .i64 s]) := by rw [← hHR]; exact BoxV.new _ _ _ (by simp) rfl
    clear hHR
    have Tn : Hid (Below w.heap.size w _) := Below.al T.out (.cells #[.int .i64 x, .int .i64 y, .int .i64 s] 32)
    have Xn : Hid _ := Rid.below X.out ((Below.refl _ _).alloc (Nat.le_refl _) (.cells #[.int .i64 x, .int .i64 y, .int .i64 s] 32))
    have TBn : Hid _ := BoxV.below TB.out ((Below.refl _ _).alloc (Nat.le_refl _) (.cells #[.int .i64 x, .int .i64 y, .int .i64 s] 32))
    clear T X TB
    have T := Tn
    have X := Xn
    have TB := TBn
    clear Tn Xn TBn
    go_upto_region 7 with fail
    rw [HHR.out]
    clear y0 y1 y2
    generalize wn.alloc (.cells #[.int .i64 x, .int .i64 y, .int .i64 s] 32) = w0 at *
    obtain ⟨wn, hwq⟩ : ∃ w9 : World, w9 = w0 := ⟨_, rfl⟩
    subst hwq
    clear HHR
    by_cases h : 0 ≤ x ∧ x ≤ n - 1
    case neg =>
      have v1 := inB_f h
      have E := Lib.hid (HF.out (fun g => h ⟨g.1.1, by have : x < n := g.1.2; omega⟩))
      clear h
      have c0 := (TB.out.2 0 _ rfl).1
      have c1 := (TB.out.2 1 _ rfl).1
      have c2 := (TB.out.2 2 _ rfl).1
      have c3 := (TB.out.2 3 _ rfl).1
      have c4 := (TB.out.2 4 _ rfl).1
      have d0 := (RB.out.2 0 _ rfl).1
      have d1 := (RB.out.2 1 _ rfl).1
      have d2 := (RB.out.2 2 _ rfl).1
      go_wp2_with fail
      refine Calls.mono (l1In_c _ _ _ _) ?_
      intro e wn hh
      obtain ⟨he, hb⟩ := (by first | exact hh | exact Ro.mk hh | exact St.mk hh | exact LawOk.mk' hh : Mk _ _ e wn)
      subst he
      have Tn : Hid (Below w.heap.size w wn) := below_next T.out hb
      have Xn : Hid _ := Rid.below X.out hb
      have TBn : Hid _ := BoxV.below TB.out hb
      have RBn : Hid _ := BoxV.below RB.out hb
      clear hb hh c0 c1 c2 c3 c4 d0 d1 d2
      clear T X TB RB
      have T := Tn
      have X := Xn
      have TB := TBn
      have RB := RBn
      clear Tn Xn TBn RBn
      have c0 := (TB.out.2 0 _ rfl).1
      have c1 := (TB.out.2 1 _ rfl).1
      have c2 := (TB.out.2 2 _ rfl).1
      have c3 := (TB.out.2 3 _ rfl).1
      have c4 := (TB.out.2 4 _ rfl).1
      have d0 := (RB.out.2 0 _ rfl).1
      have d1 := (RB.out.2 1 _ rfl).1
      have d2 := (RB.out.2 2 _ rfl).1
      go_wp2_with fail
      go_ret
      exact Mk.b E.out T.out
    have v1 := inB_t h
    obtain ⟨v1a, v1b⟩ := h
    by_cases h : 0 ≤ y ∧ y ≤ n - 1
    case neg =>
      have v2 := inB_f h
      have E := Lib.hid (HF.out (fun g => h ⟨g.2.1.1, by have : y < n := g.2.1.2; omega⟩))
      clear h
      have c0 := (TB.out.2 0 _ rfl).1
      have c1 := (TB.out.2 1 _ rfl).1
      have c2 := (TB.out.2 2 _ rfl).1
      have c3 := (TB.out.2 3 _ rfl).1
      have c4 := (TB.out.2 4 _ rfl).1
      have d0 := (RB.out.2 0 _ rfl).1
      have d1 := (RB.out.2 1 _ rfl).1
      have d2 := (RB.out.2 2 _ rfl).1
      go_wp2_with fail
      refine Calls.mono (l1In_c _ _ _ _) ?_
      intro e wn hh
      obtain ⟨he, hb⟩ := (by first | exact hh | exact Ro.mk hh | exact St.mk hh | exact LawOk.mk' hh : Mk _ _ e wn)
      subst he
      have Tn : Hid (Below w.heap.size w wn) := below_next T.out hb
      have Xn : Hid _ := Rid.below X.out hb
      have TBn : Hid _ := BoxV.below TB.out hb
      have RBn : Hid _ := BoxV.below RB.out hb
      clear hb hh c0 c1 c2 c3 c4 d0 d1 d2
      clear T X TB RB
      have T := Tn
      have X := Xn
      have TB := TBn
      have RB := RBn
      clear Tn Xn TBn RBn
      have c0 := (TB.out.2 0 _ rfl).1
      have c1 := (TB.out.2 1 _ rfl).1
      have c2 := (TB.out.2 2 _ rfl).1
      have c3 := (TB.out.2 3 _ rfl).1
      have c4 := (TB.out.2 4 _ rfl).1
      have d0 := (RB.out.2 0 _ rfl).1
      have d1 := (RB.out.2 1 _ rfl).1
      have d2 := (RB.out.2 2 _ rfl).1
      go_wp2_with fail
      refine Calls.mono (l1In_c _ _ _ _) ?_
      intro e wn hh
      obtain ⟨he, hb⟩ := (by first | exact hh | exact Ro.mk hh | exact St.mk hh | exact LawOk.mk' hh : Mk _ _ e wn)
      subst he
      have Tn : Hid (Below w.heap.size w wn) := below_next T.out hb
      have Xn : Hid _ := Rid.below X.out hb
      have TBn : Hid _ := BoxV.below TB.out hb
      have RBn : Hid _ := BoxV.below RB.out hb
      clear hb hh c0 c1 c2 c3 c4 d0 d1 d2
      clear T X TB RB
      have T := Tn
      have X := Xn
      have TB := TBn
      have RB := RBn
      clear Tn Xn TBn RBn
      have c0 := (TB.out.2 0 _ rfl).1
      have c1 := (TB.out.2 1 _ rfl).1
      have c2 := (TB.out.2 2 _ rfl).1
      have c3 := (TB.out.2 3 _ rfl).1
      have c4 := (TB.out.2 4 _ rfl).1
      have d0 := (RB.out.2 0 _ rfl).1
      have d1 := (RB.out.2 1 _ rfl).1
      have d2 := (RB.out.2 2 _ rfl).1
      go_wp2_with fail
      go_ret
      exact Mk.b E.out T.out
    have v2 := inB_t h
    obtain ⟨v2a, v2b⟩ := h
    by_cases hxy : x = y
    case pos =>
      have E := Lib.hid (HF.out (fun g => g.2.2.1 hxy))
      have v3 : (x == y) = true := by simp [hxy]
      clear hxy
      have c0 := (TB.out.2 0 _ rfl).1
      have c1 := (TB.out.2 1 _ rfl).1
      have c2 := (TB.out.2 2 _ rfl).1
      have c3 := (TB.out.2 3 _ rfl).1
      have c4 := (TB.out.2 4 _ rfl).1
      have d0 := (RB.out.2 0 _ rfl).1
      have d1 := (RB.out.2 1 _ rfl).1
      have d2 := (RB.out.2 2 _ rfl).1
      go_wp2_with fail
      refine Calls.mono (l1In_c _ _ _ _) ?_
      intro e wn hh
      obtain ⟨he, hb⟩ := (by first | exact hh | exact Ro.mk hh | exact St.mk hh | exact LawOk.mk' hh : Mk _ _ e wn)
      subst he
      have Tn : Hid (Below w.heap.size w wn) := below_next T.out hb
      have Xn : Hid _ := Rid.below X.out hb
      have TBn : Hid _ := BoxV.below TB.out hb
      have RBn : Hid _ := BoxV.below RB.out hb
      clear hb hh c0 c1 c2 c3 c4 d0 d1 d2
      clear T X TB RB
      have T := Tn
      have X := Xn
      have TB := TBn
      have RB := RBn
      clear Tn Xn TBn RBn
      have c0 := (TB.out.2 0 _ rfl).1
      have c1 := (TB.out.2 1 _ rfl).1
      have c2 := (TB.out.2 2 _ rfl).1
      have c3 := (TB.out.2 3 _ rfl).1
      have c4 := (TB.out.2 4 _ rfl).1
      have d0 := (RB.out.2 0 _ rfl).1
      have d1 := (RB.out.2 1 _ rfl).1
      have d2 := (RB.out.2 2 _ rfl).1
      go_wp2_with fail
      refine Calls.mono (l1In_c _ _ _ _) ?_
      intro e wn hh
      obtain ⟨he, hb⟩ := (by first | exact hh | exact Ro.mk hh | exact St.mk hh | exact LawOk.mk' hh : Mk _ _ e wn)
      subst he
      have Tn : Hid (Below w.heap.size w wn) := below_next T.out hb
      have Xn : Hid _ := Rid.below X.out hb
      have TBn : Hid _ := BoxV.below TB.out hb
      have RBn : Hid _ := BoxV.below RB.out hb
      clear hb hh c0 c1 c2 c3 c4 d0 d1 d2
      clear T X TB RB
      have T := Tn
      have X := Xn
      have TB := TBn
      have RB := RBn
      clear Tn Xn TBn RBn
      have c0 := (TB.out.2 0 _ rfl).1
      have c1 := (TB.out.2 1 _ rfl).1
      have c2 := (TB.out.2 2 _ rfl).1
      have c3 := (TB.out.2 3 _ rfl).1
      have c4 := (TB.out.2 4 _ rfl).1
      have d0 := (RB.out.2 0 _ rfl).1
      have d1 := (RB.out.2 1 _ rfl).1
      have d2 := (RB.out.2 2 _ rfl).1
      go_wp2_with fail
      go_ret
      exact Mk.b E.out T.out
    have v3 : (x == y) = false := beq_false_of_ne hxy
    have HXY := Lib.hid hxy
    clear hxy
    by_cases h : 0 ≤ s ∧ s ≤ 2
    case neg =>
      have v4 := inB_f h
      have E := Lib.hid (HF.out (fun g => h g.2.2.2.1))
      clear h
      have c0 := (TB.out.2 0 _ rfl).1
      have c1 := (TB.out.2 1 _ rfl).1
      have c2 := (TB.out.2 2 _ rfl).1
      have c3 := (TB.out.2 3 _ rfl).1
      have c4 := (TB.out.2 4 _ rfl).1
      have d0 := (RB.out.2 0 _ rfl).1
      have d1 := (RB.out.2 1 _ rfl).1
      have d2 := (RB.out.2 2 _ rfl).1
      go_wp2_with fail
      refine Calls.mono (l1In_c _ _ _ _) ?_
      intro e wn hh
      obtain ⟨he, hb⟩ := (by first | exact hh | exact Ro.mk hh | exact St.mk hh | exact LawOk.mk' hh : Mk _ _ e wn)
      subst he
      have Tn : Hid (Below w.heap.size w wn) := below_next T.out hb
      have Xn : Hid _ := Rid.below X.out hb
      have TBn : Hid _ := BoxV.below TB.out hb
      have RBn : Hid _ := BoxV.below RB.out hb
      clear hb hh c0 c1 c2 c3 c4 d0 d1 d2
      clear T X TB RB
      have T := Tn
      have X := Xn
      have TB := TBn
      have RB := RBn
      clear Tn Xn TBn RBn
      have c0 := (TB.out.2 0 _ rfl).1
      have c1 := (TB.out.2 1 _ rfl).1
      have c2 := (TB.out.2 2 _ rfl).1
      have c3 := (TB.out.2 3 _ rfl).1
      have c4 := (TB.out.2 4 _ rfl).1
      have d0 := (RB.out.2 0 _ rfl).1
      have d1 := (RB.out.2 1 _ rfl).1
      have d2 := (RB.out.2 2 _ rfl).1
      go_wp2_with fail
      refine Calls.mono (l1In_c _ _ _ _) ?_
      intro e wn hh
      obtain ⟨he, hb⟩ := (by first | exact hh | exact Ro.mk hh | exact St.mk hh | exact LawOk.mk' hh : Mk _ _ e wn)
      subst he
      have Tn : Hid (Below w.heap.size w wn) := below_next T.out hb
      have Xn : Hid _ := Rid.below X.out hb
      have TBn : Hid _ := BoxV.below TB.out hb
      have RBn : Hid _ := BoxV.below RB.out hb
      clear hb hh c0 c1 c2 c3 c4 d0 d1 d2
      clear T X TB RB
      have T := Tn
      have X := Xn
      have TB := TBn
      have RB := RBn
      clear Tn Xn TBn RBn
      have c0 := (TB.out.2 0 _ rfl).1
      have c1 := (TB.out.2 1 _ rfl).1
      have c2 := (TB.out.2 2 _ rfl).1
      have c3 := (TB.out.2 3 _ rfl).1
      have c4 := (TB.out.2 4 _ rfl).1
      have d0 := (RB.out.2 0 _ rfl).1
      have d1 := (RB.out.2 1 _ rfl).1
      have d2 := (RB.out.2 2 _ rfl).1
      go_wp2_with fail
      refine Calls.mono (l1In_c _ _ _ _) ?_
      intro e wn hh
      obtain ⟨he, hb⟩ := (by first | exact hh | exact Ro.mk hh | exact St.mk hh | exact LawOk.mk' hh : Mk _ _ e wn)
      subst he
      have Tn : Hid (Below w.heap.size w wn) := below_next T.out hb
      have Xn : Hid _ := Rid.below X.out hb
      have TBn : Hid _ := BoxV.below TB.out hb
      have RBn : Hid _ := BoxV.below RB.out hb
      clear hb hh c0 c1 c2 c3 c4 d0 d1 d2
      clear T X TB RB
      have T := Tn
      have X := Xn
      have TB := TBn
      have RB := RBn
      clear Tn Xn TBn RBn
      have c0 := (TB.out.2 0 _ rfl).1
      have c1 := (TB.out.2 1 _ rfl).1
      have c2 := (TB.out.2 2 _ rfl).1
      have c3 := (TB.out.2 3 _ rfl).1
      have c4 := (TB.out.2 4 _ rfl).1
      have d0 := (RB.out.2 0 _ rfl).1
      have d1 := (RB.out.2 1 _ rfl).1
      have d2 := (RB.out.2 2 _ rfl).1
      go_wp2_with fail
      go_ret
      exact Mk.b E.out T.out
    have v4 := inB_t h
    have HS := Lib.hid h
    by_cases h1 : s = 1
    case neg =>
      have v5 : (s == 1) = false := beq_false_of_ne h1
      have E := Lib.hid (HN.out ⟨⟨v1a, by show x < n; omega⟩, ⟨v2a, by show y < n; omega⟩, HXY.out, h, fun g => absurd g h1⟩)
      clear h h1
      have c0 := (TB.out.2 0 _ rfl).1
      have c1 := (TB.out.2 1 _ rfl).1
      have c2 := (TB.out.2 2 _ rfl).1
      have c3 := (TB.out.2 3 _ rfl).1
      have c4 := (TB.out.2 4 _ rfl).1
      have d0 := (RB.out.2 0 _ rfl).1
      have d1 := (RB.out.2 1 _ rfl).1
      have d2 := (RB.out.2 2 _ rfl).1
      go_wp2_with fail
      refine Calls.mono (l1In_c _ _ _ _) ?_
      intro e wn hh
      obtain ⟨he, hb⟩ := (by first | exact hh | exact Ro.mk hh | exact St.mk hh | exact LawOk.mk' hh : Mk _ _ e wn)
      subst he
      have Tn : Hid (Below w.heap.size w wn) := below_next T.out hb
      have Xn : Hid _ := Rid.below X.out hb
      have TBn : Hid _ := BoxV.below TB.out hb
      have RBn : Hid _ := BoxV.below RB.out hb
      clear hb hh c0 c1 c2 c3 c4 d0 d1 d2
      clear T X TB RB
      have T := Tn
      have X := Xn
      have TB := TBn
      have RB := RBn
      clear Tn Xn TBn RBn
      have c0 := (TB.out.2 0 _ rfl).1
      have c1 := (TB.out.2 1 _ rfl).1
      have c2 := (TB.out.2 2 _ rfl).1
      have c3 := (TB.out.2 3 _ rfl).1
      have c4 := (TB.out.2 4 _ rfl).1
      have d0 := (RB.out.2 0 _ rfl).1
      have d1 := (RB.out.2 1 _ rfl).1
      have d2 := (RB.out.2 2 _ rfl).1
      go_wp2_with fail
      refine Calls.mono (l1In_c _ _ _ _) ?_
      intro e wn hh
      obtain ⟨he, hb⟩ := (by first | exact hh | exact Ro.mk hh | exact St.mk hh | exact LawOk.mk' hh : Mk _ _ e wn)
      subst he
      have Tn : Hid (Below w.heap.size w wn) := below_next T.out hb
      have Xn : Hid _ := Rid.below X.out hb
      have TBn : Hid _ := BoxV.below TB.out hb
      have RBn : Hid _ := BoxV.below RB.out hb
      clear hb hh c0 c1 c2 c3 c4 d0 d1 d2
      clear T X TB RB
      have T := Tn
      have X := Xn
      have TB := TBn
      have RB := RBn
      clear Tn Xn TBn RBn
      have c0 := (TB.out.2 0 _ rfl).1
      have c1 := (TB.out.2 1 _ rfl).1
      have c2 := (TB.out.2 2 _ rfl).1
      have c3 := (TB.out.2 3 _ rfl).1
      have c4 := (TB.out.2 4 _ rfl).1
      have d0 := (RB.out.2 0 _ rfl).1
      have d1 := (RB.out.2 1 _ rfl).1
      have d2 := (RB.out.2 2 _ rfl).1
      go_wp2_with fail
      refine Calls.mono (l1In_c _ _ _ _) ?_
      intro e wn hh
      obtain ⟨he, hb⟩ := (by first | exact hh | exact Ro.mk hh | exact St.mk hh | exact LawOk.mk' hh : Mk _ _ e wn)
      subst he
      have Tn : Hid (Below w.heap.size w wn) := below_next T.out hb
      have Xn : Hid _ := Rid.below X.out hb
      have TBn : Hid _ := BoxV.below TB.out hb
      have RBn : Hid _ := BoxV.below RB.out hb
      clear hb hh c0 c1 c2 c3 c4 d0 d1 d2
      clear T X TB RB
      have T := Tn
      have X := Xn
      have TB := TBn
      have RB := RBn
      clear Tn Xn TBn RBn
      have c0 := (TB.out.2 0 _ rfl).1
      have c1 := (TB.out.2 1 _ rfl).1
      have c2 := (TB.out.2 2 _ rfl).1
      have c3 := (TB.out.2 3 _ rfl).1
      have c4 := (TB.out.2 4 _ rfl).1
      have d0 := (RB.out.2 0 _ rfl).1
      have d1 := (RB.out.2 1 _ rfl).1
      have d2 := (RB.out.2 2 _ rfl).1
      clear RB
      go_wp2_with fail
      go_roundw
      case rel => exact ⟨i + 1, by omega, by go_num, E.out, T.out, X.out, TB.out⟩
      case measure => first | (simp [intOf]; done) | (simp [intOf]; omega) | omega
    have v5 : (s == 1) = true := by simp [h1]
    by_cases he : e = 1
    case neg =>
      have v6 : (e != 1) = true := by rw [bne_iff_ne]; exact he
      have E := Lib.hid (HF.out (fun g => he (by rw [← HE.out]; exact (g.2.2.2.2 h1).1)))
      clear h h1 he
      have c0 := (TB.out.2 0 _ rfl).1
      have c1 := (TB.out.2 1 _ rfl).1
      have c2 := (TB.out.2 2 _ rfl).1
      have c3 := (TB.out.2 3 _ rfl).1
      have c4 := (TB.out.2 4 _ rfl).1
      have d0 := (RB.out.2 0 _ rfl).1
      have d1 := (RB.out.2 1 _ rfl).1
      have d2 := (RB.out.2 2 _ rfl).1
      go_wp2_with fail
      refine Calls.mono (l1In_c _ _ _ _) ?_
      intro e wn hh
      obtain ⟨he, hb⟩ := (by first | exact hh | exact Ro.mk hh | exact St.mk hh | exact LawOk.mk' hh : Mk _ _ e wn)
      subst he
      have Tn : Hid (Below w.heap.size w wn) := below_next T.out hb
      have Xn : Hid _ := Rid.below X.out hb
      have TBn : Hid _ := BoxV.below TB.out hb
      have RBn : Hid _ := BoxV.below RB.out hb
      clear hb hh c0 c1 c2 c3 c4 d0 d1 d2
      clear T X TB RB
      have T := Tn
      have X := Xn
      have TB := TBn
      have RB := RBn
      clear Tn Xn TBn RBn
      have c0 := (TB.out.2 0 _ rfl).1
      have c1 := (TB.out.2 1 _ rfl).1
      have c2 := (TB.out.2 2 _ rfl).1
      have c3 := (TB.out.2 3 _ rfl).1
      have c4 := (TB.out.2 4 _ rfl).1
      have d0 := (RB.out.2 0 _ rfl).1
      have d1 := (RB.out.2 1 _ rfl).1
      have d2 := (RB.out.2 2 _ rfl).1
      go_wp2_with fail
      refine Calls.mono (l1In_c _ _ _ _) ?_
      intro e wn hh
      obtain ⟨he, hb⟩ := (by first | exact hh | exact Ro.mk hh | exact St.mk hh | exact LawOk.mk' hh : Mk _ _ e wn)
      subst he
      have Tn : Hid (Below w.heap.size w wn) := below_next T.out hb
      have Xn : Hid _ := Rid.below X.out hb
      have TBn : Hid _ := BoxV.below TB.out hb
      have RBn : Hid _ := BoxV.below RB.out hb
      clear hb hh c0 c1 c2 c3 c4 d0 d1 d2
      clear T X TB RB
      have T := Tn
      have X := Xn
      have TB := TBn
      have RB := RBn
      clear Tn Xn TBn RBn
      have c0 := (TB.out.2 0 _ rfl).1
      have c1 := (TB.out.2 1 _ rfl).1
      have c2 := (TB.out.2 2 _ rfl).1
      have c3 := (TB.out.2 3 _ rfl).1
      have c4 := (TB.out.2 4 _ rfl).1
      have d0 := (RB.out.2 0 _ rfl).1
      have d1 := (RB.out.2 1 _ rfl).1
      have d2 := (RB.out.2 2 _ rfl).1
      go_wp2_with fail
      refine Calls.mono (l1In_c _ _ _ _) ?_
      intro e wn hh
      obtain ⟨he, hb⟩ := (by first | exact hh | exact Ro.mk hh | exact St.mk hh | exact LawOk.mk' hh : Mk _ _ e wn)
      subst he
      have Tn : Hid (Below w.heap.size w wn) := below_next T.out hb
      have Xn : Hid _ := Rid.below X.out hb
      have TBn : Hid _ := BoxV.below TB.out hb
      have RBn : Hid _ := BoxV.below RB.out hb
      clear hb hh c0 c1 c2 c3 c4 d0 d1 d2
      clear T X TB RB
      have T := Tn
      have X := Xn
      have TB := TBn
      have RB := RBn
      clear Tn Xn TBn RBn
      have c0 := (TB.out.2 0 _ rfl).1
      have c1 := (TB.out.2 1 _ rfl).1
      have c2 := (TB.out.2 2 _ rfl).1
      have c3 := (TB.out.2 3 _ rfl).1
      have c4 := (TB.out.2 4 _ rfl).1
      have d0 := (RB.out.2 0 _ rfl).1
      have d1 := (RB.out.2 1 _ rfl).1
      have d2 := (RB.out.2 2 _ rfl).1
      go_wp2_with fail
      refine Calls.mono (HD.out _) ?_
      intro e wn hh
      obtain ⟨he, hb⟩ := (by first | exact hh | exact Ro.mk hh | exact St.mk hh | exact LawOk.mk' hh : Mk _ _ e wn)
      subst he
      have Tn : Hid (Below w.heap.size w wn) := below_next T.out hb
      have Xn : Hid _ := Rid.below X.out hb
      have TBn : Hid _ := BoxV.below TB.out hb
      have RBn : Hid _ := BoxV.below RB.out hb
      clear hb hh c0 c1 c2 c3 c4 d0 d1 d2
      clear T X TB RB
      have T := Tn
      have X := Xn
      have TB := TBn
      have RB := RBn
      clear Tn Xn TBn RBn
      have c0 := (TB.out.2 0 _ rfl).1
      have c1 := (TB.out.2 1 _ rfl).1
      have c2 := (TB.out.2 2 _ rfl).1
      have c3 := (TB.out.2 3 _ rfl).1
      have c4 := (TB.out.2 4 _ rfl).1
      have d0 := (RB.out.2 0 _ rfl).1
      have d1 := (RB.out.2 1 _ rfl).1
      have d2 := (RB.out.2 2 _ rfl).1
      go_wp2_with fail
      go_ret
      exact Mk.b E.out T.out
    have v6 : (e != 1) = false := by simp [he]
    by_cases hq1 : 0 ≤ (1) * (f - x)
    case neg =>
      have E := Lib.hid (HF.out (fun g => hq1 (g.2.2.2.2 h1).2.1))
      have v7 : (1) * (f - x) < 0 := by omega
      clear h h1 he hq1
      have c0 := (TB.out.2 0 _ rfl).1
      have c1 := (TB.out.2 1 _ rfl).1
      have c2 := (TB.out.2 2 _ rfl).1
      have c3 := (TB.out.2 3 _ rfl).1
      have c4 := (TB.out.2 4 _ rfl).1
      have d0 := (RB.out.2 0 _ rfl).1
      have d1 := (RB.out.2 1 _ rfl).1
      have d2 := (RB.out.2 2 _ rfl).1
      go_wp2_with fail
      refine Calls.mono (l1In_c _ _ _ _) ?_
      intro e wn hh
      obtain ⟨he, hb⟩ := (by first | exact hh | exact Ro.mk hh | exact St.mk hh | exact LawOk.mk' hh : Mk _ _ e wn)
      subst he
      have Tn : Hid (Below w.heap.size w wn) := below_next T.out hb
      have Xn : Hid _ := Rid.below X.out hb
      have TBn : Hid _ := BoxV.below TB.out hb
      have RBn : Hid _ := BoxV.below RB.out hb
      clear hb hh c0 c1 c2 c3 c4 d0 d1 d2
      clear T X TB RB
      have T := Tn
      have X := Xn
      have TB := TBn
      have RB := RBn
      clear Tn Xn TBn RBn
      have c0 := (TB.out.2 0 _ rfl).1
      have c1 := (TB.out.2 1 _ rfl).1
      have c2 := (TB.out.2 2 _ rfl).1
      have c3 := (TB.out.2 3 _ rfl).1
      have c4 := (TB.out.2 4 _ rfl).1
      have d0 := (RB.out.2 0 _ rfl).1
      have d1 := (RB.out.2 1 _ rfl).1
      have d2 := (RB.out.2 2 _ rfl).1
      go_wp2_with fail
      refine Calls.mono (l1In_c _ _ _ _) ?_
      intro e wn hh
      obtain ⟨he, hb⟩ := (by first | exact hh | exact Ro.mk hh | exact St.mk hh | exact LawOk.mk' hh : Mk _ _ e wn)
      subst he
      have Tn : Hid (Below w.heap.size w wn) := below_next T.out hb
      have Xn : Hid _ := Rid.below X.out hb
      have TBn : Hid _ := BoxV.below TB.out hb
      have RBn : Hid _ := BoxV.below RB.out hb
      clear hb hh c0 c1 c2 c3 c4 d0 d1 d2
      clear T X TB RB
      have T := Tn
      have X := Xn
      have TB := TBn
      have RB := RBn
      clear Tn Xn TBn RBn
      have c0 := (TB.out.2 0 _ rfl).1
      have c1 := (TB.out.2 1 _ rfl).1
      have c2 := (TB.out.2 2 _ rfl).1
      have c3 := (TB.out.2 3 _ rfl).1
      have c4 := (TB.out.2 4 _ rfl).1
      have d0 := (RB.out.2 0 _ rfl).1
      have d1 := (RB.out.2 1 _ rfl).1
      have d2 := (RB.out.2 2 _ rfl).1
      go_wp2_with fail
      refine Calls.mono (l1In_c _ _ _ _) ?_
      intro e wn hh
      obtain ⟨he, hb⟩ := (by first | exact hh | exact Ro.mk hh | exact St.mk hh | exact LawOk.mk' hh : Mk _ _ e wn)
      subst he
      have Tn : Hid (Below w.heap.size w wn) := below_next T.out hb
      have Xn : Hid _ := Rid.below X.out hb
      have TBn : Hid _ := BoxV.below TB.out hb
      have RBn : Hid _ := BoxV.below RB.out hb
      clear hb hh c0 c1 c2 c3 c4 d0 d1 d2
      clear T X TB RB
      have T := Tn
      have X := Xn
      have TB := TBn
      have RB := RBn
      clear Tn Xn TBn RBn
      have c0 := (TB.out.2 0 _ rfl).1
      have c1 := (TB.out.2 1 _ rfl).1
      have c2 := (TB.out.2 2 _ rfl).1
      have c3 := (TB.out.2 3 _ rfl).1
      have c4 := (TB.out.2 4 _ rfl).1
      have d0 := (RB.out.2 0 _ rfl).1
      have d1 := (RB.out.2 1 _ rfl).1
      have d2 := (RB.out.2 2 _ rfl).1
      go_wp2_with fail
      refine Calls.mono (HD.out _) ?_
      intro e wn hh
      obtain ⟨he, hb⟩ := (by first | exact hh | exact Ro.mk hh | exact St.mk hh | exact LawOk.mk' hh : Mk _ _ e wn)
      subst he
      have Tn : Hid (Below w.heap.size w wn) := below_next T.out hb
      have Xn : Hid _ := Rid.below X.out hb
      have TBn : Hid _ := BoxV.below TB.out hb
      have RBn : Hid _ := BoxV.below RB.out hb
      clear hb hh c0 c1 c2 c3 c4 d0 d1 d2
      clear T X TB RB
      have T := Tn
      have X := Xn
      have TB := TBn
      have RB := RBn
      clear Tn Xn TBn RBn
      have c0 := (TB.out.2 0 _ rfl).1
      have c1 := (TB.out.2 1 _ rfl).1
      have c2 := (TB.out.2 2 _ rfl).1
      have c3 := (TB.out.2 3 _ rfl).1
      have c4 := (TB.out.2 4 _ rfl).1
      have d0 := (RB.out.2 0 _ rfl).1
      have d1 := (RB.out.2 1 _ rfl).1
      have d2 := (RB.out.2 2 _ rfl).1
      go_wp2_with fail
      go_ret
      exact Mk.b E.out T.out
    by_cases hq2 : 0 < (1) * (y - f)
    case neg =>
      have E := Lib.hid (HF.out (fun g => hq2 (g.2.2.2.2 h1).2.2))
      have v7 : ¬ (1) * (f - x) < 0 := by omega
      have v8 : (1) * (y - f) ≤ 0 := by omega
      clear h h1 he hq1 hq2
      have c0 := (TB.out.2 0 _ rfl).1
      have c1 := (TB.out.2 1 _ rfl).1
      have c2 := (TB.out.2 2 _ rfl).1
      have c3 := (TB.out.2 3 _ rfl).1
      have c4 := (TB.out.2 4 _ rfl).1
      have d0 := (RB.out.2 0 _ rfl).1
      have d1 := (RB.out.2 1 _ rfl).1
      have d2 := (RB.out.2 2 _ rfl).1
      go_wp2_with fail
      refine Calls.mono (l1In_c _ _ _ _) ?_
      intro e wn hh
      obtain ⟨he, hb⟩ := (by first | exact hh | exact Ro.mk hh | exact St.mk hh | exact LawOk.mk' hh : Mk _ _ e wn)
      subst he
      have Tn : Hid (Below w.heap.size w wn) := below_next T.out hb
      have Xn : Hid _ := Rid.below X.out hb
      have TBn : Hid _ := BoxV.below TB.out hb
      have RBn : Hid _ := BoxV.below RB.out hb
      clear hb hh c0 c1 c2 c3 c4 d0 d1 d2
      clear T X TB RB
      have T := Tn
      have X := Xn
      have TB := TBn
      have RB := RBn
      clear Tn Xn TBn RBn
      have c0 := (TB.out.2 0 _ rfl).1
      have c1 := (TB.out.2 1 _ rfl).1
      have c2 := (TB.out.2 2 _ rfl).1
      have c3 := (TB.out.2 3 _ rfl).1
      have c4 := (TB.out.2 4 _ rfl).1
      have d0 := (RB.out.2 0 _ rfl).1
      have d1 := (RB.out.2 1 _ rfl).1
      have d2 := (RB.out.2 2 _ rfl).1
      go_wp2_with fail
      refine Calls.mono (l1In_c _ _ _ _) ?_
      intro e wn hh
      obtain ⟨he, hb⟩ := (by first | exact hh | exact Ro.mk hh | exact St.mk hh | exact LawOk.mk' hh : Mk _ _ e wn)
      subst he
      have Tn : Hid (Below w.heap.size w wn) := below_next T.out hb
      have Xn : Hid _ := Rid.below X.out hb
      have TBn : Hid _ := BoxV.below TB.out hb
      have RBn : Hid _ := BoxV.below RB.out hb
      clear hb hh c0 c1 c2 c3 c4 d0 d1 d2
      clear T X TB RB
      have T := Tn
      have X := Xn
      have TB := TBn
      have RB := RBn
      clear Tn Xn TBn RBn
      have c0 := (TB.out.2 0 _ rfl).1
      have c1 := (TB.out.2 1 _ rfl).1
      have c2 := (TB.out.2 2 _ rfl).1
      have c3 := (TB.out.2 3 _ rfl).1
      have c4 := (TB.out.2 4 _ rfl).1
      have d0 := (RB.out.2 0 _ rfl).1
      have d1 := (RB.out.2 1 _ rfl).1
      have d2 := (RB.out.2 2 _ rfl).1
      go_wp2_with fail
      refine Calls.mono (l1In_c _ _ _ _) ?_
      intro e wn hh
      obtain ⟨he, hb⟩ := (by first | exact hh | exact Ro.mk hh | exact St.mk hh | exact LawOk.mk' hh : Mk _ _ e wn)
      subst he
      have Tn : Hid (Below w.heap.size w wn) := below_next T.out hb
      have Xn : Hid _ := Rid.below X.out hb
      have TBn : Hid _ := BoxV.below TB.out hb
      have RBn : Hid _ := BoxV.below RB.out hb
      clear hb hh c0 c1 c2 c3 c4 d0 d1 d2
      clear T X TB RB
      have T := Tn
      have X := Xn
      have TB := TBn
      have RB := RBn
      clear Tn Xn TBn RBn
      have c0 := (TB.out.2 0 _ rfl).1
      have c1 := (TB.out.2 1 _ rfl).1
      have c2 := (TB.out.2 2 _ rfl).1
      have c3 := (TB.out.2 3 _ rfl).1
      have c4 := (TB.out.2 4 _ rfl).1
      have d0 := (RB.out.2 0 _ rfl).1
      have d1 := (RB.out.2 1 _ rfl).1
      have d2 := (RB.out.2 2 _ rfl).1
      go_wp2_with fail
      refine Calls.mono (HD.out _) ?_
      intro e wn hh
      obtain ⟨he, hb⟩ := (by first | exact hh | exact Ro.mk hh | exact St.mk hh | exact LawOk.mk' hh : Mk _ _ e wn)
      subst he
      have Tn : Hid (Below w.heap.size w wn) := below_next T.out hb
      have Xn : Hid _ := Rid.below X.out hb
      have TBn : Hid _ := BoxV.below TB.out hb
      have RBn : Hid _ := BoxV.below RB.out hb
      clear hb hh c0 c1 c2 c3 c4 d0 d1 d2
      clear T X TB RB
      have T := Tn
      have X := Xn
      have TB := TBn
      have RB := RBn
      clear Tn Xn TBn RBn
      have c0 := (TB.out.2 0 _ rfl).1
      have c1 := (TB.out.2 1 _ rfl).1
      have c2 := (TB.out.2 2 _ rfl).1
      have c3 := (TB.out.2 3 _ rfl).1
      have c4 := (TB.out.2 4 _ rfl).1
      have d0 := (RB.out.2 0 _ rfl).1
      have d1 := (RB.out.2 1 _ rfl).1
      have d2 := (RB.out.2 2 _ rfl).1
      go_wp2_with fail
      go_ret
      exact Mk.b E.out T.out
    have E := Lib.hid (HN.out ⟨⟨v1a, by show x < n; omega⟩, ⟨v2a, by show y < n; omega⟩, HXY.out, h, fun _ => ⟨by rw [HE.out]; exact he, hq1, hq2⟩⟩)
    have v7 : ¬ (1) * (f - x) < 0 := by omega
    have v8 : ¬ (1) * (y - f) ≤ 0 := by omega
    clear h h1 he hq1 hq2
    have c0 := (TB.out.2 0 _ rfl).1
    have c1 := (TB.out.2 1 _ rfl).1
    have c2 := (TB.out.2 2 _ rfl).1
    have c3 := (TB.out.2 3 _ rfl).1
    have c4 := (TB.out.2 4 _ rfl).1
    have d0 := (RB.out.2 0 _ rfl).1
    have d1 := (RB.out.2 1 _ rfl).1
    have d2 := (RB.out.2 2 _ rfl).1
    go_wp2_with fail
    refine Calls.mono (l1In_c _ _ _ _) ?_
    intro e wn hh
    obtain ⟨he, hb⟩ := (by first | exact hh | exact Ro.mk hh | exact St.mk hh | exact LawOk.mk' hh : Mk _ _ e wn)
    subst he
    have Tn : Hid (Below w.heap.size w wn) := below_next T.out hb
    have Xn : Hid _ := Rid.below X.out hb
    have TBn : Hid _ := BoxV.below TB.out hb
    have RBn : Hid _ := BoxV.below RB.out hb
    clear hb hh c0 c1 c2 c3 c4 d0 d1 d2
    clear T X TB RB
    have T := Tn
    have X := Xn
    have TB := TBn
    have RB := RBn
    clear Tn Xn TBn RBn
    have c0 := (TB.out.2 0 _ rfl).1
    have c1 := (TB.out.2 1 _ rfl).1
    have c2 := (TB.out.2 2 _ rfl).1
    have c3 := (TB.out.2 3 _ rfl).1
    have c4 := (TB.out.2 4 _ rfl).1
    have d0 := (RB.out.2 0 _ rfl).1
    have d1 := (RB.out.2 1 _ rfl).1
    have d2 := (RB.out.2 2 _ rfl).1
    go_wp2_with fail
    refine Calls.mono (l1In_c _ _ _ _) ?_
    intro e wn hh
    obtain ⟨he, hb⟩ := (by first | exact hh | exact Ro.mk hh | exact St.mk hh | exact LawOk.mk' hh : Mk _ _ e wn)
    subst he
    have Tn : Hid (Below w.heap.size w wn) := below_next T.out hb
    have Xn : Hid _ := Rid.below X.out hb
    have TBn : Hid _ := BoxV.below TB.out hb
    have RBn : Hid _ := BoxV.below RB.out hb
    clear hb hh c0 c1 c2 c3 c4 d0 d1 d2
    clear T X TB RB
    have T := Tn
    have X := Xn
    have TB := TBn
    have RB := RBn
    clear Tn Xn TBn RBn
    have c0 := (TB.out.2 0 _ rfl).1
    have c1 := (TB.out.2 1 _ rfl).1
    have c2 := (TB.out.2 2 _ rfl).1
    have c3 := (TB.out.2 3 _ rfl).1
    have c4 := (TB.out.2 4 _ rfl).1
    have d0 := (RB.out.2 0 _ rfl).1
    have d1 := (RB.out.2 1 _ rfl).1
    have d2 := (RB.out.2 2 _ rfl).1
    go_wp2_with fail
    refine Calls.mono (l1In_c _ _ _ _) ?_
    intro e wn hh
    obtain ⟨he, hb⟩ := (by first | exact hh | exact Ro.mk hh | exact St.mk hh | exact LawOk.mk' hh : Mk _ _ e wn)
    subst he
    have Tn : Hid (Below w.heap.size w wn) := below_next T.out hb
    have Xn : Hid _ := Rid.below X.out hb
    have TBn : Hid _ := BoxV.below TB.out hb
    have RBn : Hid _ := BoxV.below RB.out hb
    clear hb hh c0 c1 c2 c3 c4 d0 d1 d2
    clear T X TB RB
    have T := Tn
    have X := Xn
    have TB := TBn
    have RB := RBn
    clear Tn Xn TBn RBn
    have c0 := (TB.out.2 0 _ rfl).1
    have c1 := (TB.out.2 1 _ rfl).1
    have c2 := (TB.out.2 2 _ rfl).1
    have c3 := (TB.out.2 3 _ rfl).1
    have c4 := (TB.out.2 4 _ rfl).1
    have d0 := (RB.out.2 0 _ rfl).1
    have d1 := (RB.out.2 1 _ rfl).1
    have d2 := (RB.out.2 2 _ rfl).1
    go_wp2_with fail
    refine Calls.mono (HD.out _) ?_
    intro e wn hh
    obtain ⟨he, hb⟩ := (by first | exact hh | exact Ro.mk hh | exact St.mk hh | exact LawOk.mk' hh : Mk _ _ e wn)
    subst he
    have Tn : Hid (Below w.heap.size w wn) := below_next T.out hb
    have Xn : Hid _ := Rid.below X.out hb
    have TBn : Hid _ := BoxV.below TB.out hb
    have RBn : Hid _ := BoxV.below RB.out hb
    clear hb hh c0 c1 c2 c3 c4 d0 d1 d2
    clear T X TB RB
    have T := Tn
    have X := Xn
    have TB := TBn
    have RB := RBn
    clear Tn Xn TBn RBn
    have c0 := (TB.out.2 0 _ rfl).1
    have c1 := (TB.out.2 1 _ rfl).1
    have c2 := (TB.out.2 2 _ rfl).1
    have c3 := (TB.out.2 3 _ rfl).1
    have c4 := (TB.out.2 4 _ rfl).1
    have d0 := (RB.out.2 0 _ rfl).1
    have d1 := (RB.out.2 1 _ rfl).1
    have d2 := (RB.out.2 2 _ rfl).1
    clear RB
    go_wp2_with fail
    go_roundw
    case rel => exact ⟨i + 1, by omega, by go_num, E.out, T.out, X.out, TB.out⟩
    case measure => first | (simp [intOf]; done) | (simp [intOf]; omega) | omega
set_option maxRecDepth 100000 in
set_option maxHeartbeats 4000000 in
theorem sTripValid_q (n m f : Int) (a : Option Addr) (k c : Nat) (l : List Ri) (w : World) (hX : Rid w a k l) (h0 : 1 ≤ n ∧ n ≤ 8) (h1 : 1 ≤ m ∧ m ≤ 8) (h2 : 0 ≤ f ∧ f ≤ n - 1) (hk : k ≤ 8) :
    Calls Try.prog 15 #[.agg #[.int .i64 n, .int .i64 m, .int .i64 f, .int .i64 (-1), .slice a k c]] w (Mk w (.bool (tokB ⟨n, m, f, -1, l⟩))) := by
  have HL := Lib.hid hX.2
  have HT := Lib.hid (tok_of (d := -1) (l := l) h0 h1 h2 (.inr rfl) (by rw [hX.2]; exact hk))
  have t1 := inB_t h0
  have t2 := inB_t h1
  have t3 := inB_t h2
  obtain ⟨p1, p2⟩ := h0
  obtain ⟨p3, p4⟩ := h1
  obtain ⟨p5, p6⟩ := h2
  have u3 : ¬ (k : Int) > 8 := by omega
  refine at_base fun wn hwn => ?_
  have T := Lib.hid (show Below w.heap.size w wn from by rw [hwn]; exact Below.refl _ _)
  rw [← hwn] at hX
  have X := Lib.hid (show Rid wn a k l from hX)
  clear hX
  clear hwn
  obtain ⟨g, hg⟩ : ∃ g, Array.size (World.heap wn) = g := ⟨_, rfl⟩
  have HGg := Lib.hid hg
  have hTg : w.heap.size ≤ g := by rw [← hg]; exact T.out.size
  have Tn := Lib.hid (show Below w.heap.size w (wn.alloc (.cells #[.int .i64 n, .int .i64 m, .int .i64 f, .int .i64 (-1), .slice a k c] 27)) from (Below.al T.out (.cells #[.int .i64 n, .int .i64 m, .int .i64 f, .int .i64 (-1), .slice a k c] 27)))
  have Xn := Lib.hid (Rid.below X.out (show Below wn.heap.size wn (wn.alloc (.cells #[.int .i64 n, .int .i64 m, .int .i64 f, .int .i64 (-1), .slice a k c] 27)) from (Below.al (Below.refl _ _) (.cells #[.int .i64 n, .int .i64 m, .int .i64 f, .int .i64 (-1), .slice a k c] 27))))
  have TB := Lib.hid (show BoxV (wn.alloc (.cells #[.int .i64 n, .int .i64 m, .int .i64 f, .int .i64 (-1), .slice a k c] 27)) g [.int .i64 n, .int .i64 m, .int .i64 f, .int .i64 (-1), .slice a k c] from by have h9 := (BoxV.new wn [.int .i64 n, .int .i64 m, .int .i64 f, .int .i64 (-1), .slice a k c] 27 (by simp) rfl); simp only [World.size_alloc, hg, Nat.add_assoc, Nat.reduceAdd] at h9; exact h9)
  have HZg := Lib.hid (show ((wn.alloc (.cells #[.int .i64 n, .int .i64 m, .int .i64 f, .int .i64 (-1), .slice a k c] 27))).heap.size = g + 1 from by simp only [World.size_alloc, hg, Nat.add_assoc, Nat.reduceAdd])
  clear hg
  clear T X
  have T := Tn
  have X := Xn
  clear Tn Xn
  go_enter Try.func15, Try.ntmps15
  have c0 := (TB.out.2 0 _ rfl).1
  have c1 := (TB.out.2 1 _ rfl).1
  have c2 := (TB.out.2 2 _ rfl).1
  have c3 := (TB.out.2 3 _ rfl).1
  have c4 := (TB.out.2 4 _ rfl).1
  go_wp2_with fail
  rw [HGg.out]
  refine Calls.mono (l1In_c _ _ _ _) ?_
  intro e wn hh
  obtain ⟨he, hb⟩ := (by first | exact hh | exact Ro.mk hh | exact St.mk hh | exact LawOk.mk' hh : Mk _ _ e wn)
  subst he
  have Tn : Hid (Below w.heap.size w wn) := below_next T.out hb
  have Xn : Hid _ := Rid.below X.out hb
  have TBn : Hid _ := BoxV.below TB.out hb
  clear hb hh c0 c1 c2 c3 c4
  clear T X TB
  have T := Tn
  have X := Xn
  have TB := TBn
  clear Tn Xn TBn
  have c0 := (TB.out.2 0 _ rfl).1
  have c1 := (TB.out.2 1 _ rfl).1
  have c2 := (TB.out.2 2 _ rfl).1
  have c3 := (TB.out.2 3 _ rfl).1
  have c4 := (TB.out.2 4 _ rfl).1
  go_wp2_with fail
  refine Calls.mono (l1In_c _ _ _ _) ?_
  intro e wn hh
  obtain ⟨he, hb⟩ := (by first | exact hh | exact Ro.mk hh | exact St.mk hh | exact LawOk.mk' hh : Mk _ _ e wn)
  subst he
  have Tn : Hid (Below w.heap.size w wn) := below_next T.out hb
  have Xn : Hid _ := Rid.below X.out hb
  have TBn : Hid _ := BoxV.below TB.out hb
  clear hb hh c0 c1 c2 c3 c4
  clear T X TB
  have T := Tn
  have X := Xn
  have TB := TBn
  clear Tn Xn TBn
  have c0 := (TB.out.2 0 _ rfl).1
  have c1 := (TB.out.2 1 _ rfl).1
  have c2 := (TB.out.2 2 _ rfl).1
  have c3 := (TB.out.2 3 _ rfl).1
  have c4 := (TB.out.2 4 _ rfl).1
  go_wp2_with fail
  refine Calls.mono (l1In_c _ _ _ _) ?_
  intro e wn hh
  obtain ⟨he, hb⟩ := (by first | exact hh | exact Ro.mk hh | exact St.mk hh | exact LawOk.mk' hh : Mk _ _ e wn)
  subst he
  have Tn : Hid (Below w.heap.size w wn) := below_next T.out hb
  have Xn : Hid _ := Rid.below X.out hb
  have TBn : Hid _ := BoxV.below TB.out hb
  clear hb hh c0 c1 c2 c3 c4
  clear T X TB
  have T := Tn
  have X := Xn
  have TB := TBn
  clear Tn Xn TBn
  have c0 := (TB.out.2 0 _ rfl).1
  have c1 := (TB.out.2 1 _ rfl).1
  have c2 := (TB.out.2 2 _ rfl).1
  have c3 := (TB.out.2 3 _ rfl).1
  have c4 := (TB.out.2 4 _ rfl).1
  go_wp2_with fail
  go_loopw [3] (fun v wr => ∃ i : Nat, i ≤ k ∧ v = .int .i64 i ∧ (∀ j, j < i → ROk n f (-1) (rat l j)) ∧ Below w.heap.size w wr ∧ Rid wr a k l ∧ BoxV wr g [.int .i64 n, .int .i64 m, .int .i64 f, .int .i64 (-1), .slice a k c]) (fun v _ => k - (intOf v).toNat)
  case atStart => exact ⟨0, by omega, rfl, (fun j hj => by omega), T.out, X.out, TB.out⟩
  case' round =>
    clear T X TB c0 c1 c2 c3 c4
    obtain ⟨i, hi, rfl, hall, h9T, h9X, h9TB⟩ := hrel
    obtain ⟨wn, hwq⟩ : ∃ w0 : World, w0 = wr := ⟨_, rfl⟩
    rw [← hwq] at h9T h9X h9TB ⊢
    clear hwq
    have T := Lib.hid h9T
    have X := Lib.hid h9X
    have TB := Lib.hid h9TB
    clear h9T h9X h9TB
    have HA := Lib.hid hall
    clear hall
    by_cases hlt : i < k
    case neg =>
      obtain rfl : i = k := by omega
      have HA2 := Lib.hid (show ∀ j, j < l.length → ROk n f (-1) (rat l j) from fun j hj => HA.out j (by rw [← HL.out]; exact hj))
      have K := fun w' (h : Rid w' a i l) => l11Inside_c n m f (-1) a i c l w' h (by omega)
      obtain ⟨z, hz⟩ : ∃ z : Nat, ins l = z := ⟨_, rfl⟩
      rw [hz] at K
      have HK := Lib.hid K
      have HZ := Lib.hid hz
      clear K hz
      have c0 := (TB.out.2 0 _ rfl).1
      have c1 := (TB.out.2 1 _ rfl).1
      have c2 := (TB.out.2 2 _ rfl).1
      have c3 := (TB.out.2 3 _ rfl).1
      have c4 := (TB.out.2 4 _ rfl).1
      go_wp2_with fail
      refine wp_region_quiet (C := fun w' => Below (World.heap (wn)).size (wn) w') (by kernel_rfl) (by kernel_rfl) (by first | exact ⟨rfl, rfl, rfl, Nat.le_refl _, fun _ _ => rfl⟩ | exact Below.dw (by repeat (first | exact Below.refl _ _ | refine Below.al ?_ _ | refine Below.dr ?_ _ | refine Below.dw ?_ | refine Below.st ?_ (by first | exact Nat.le_refl _ | exact Nat.le_add_right _ _ | (simp; omega)) _ | (refine below_next ?_ (by assumption))))) ?_
      simp only []
      repeat (go_big_quiet_step (first | (intro _; with_reducible exact rfl) | (intro hC; go_at_call 50; have TB9 := BoxV.below TB.out hC; have c0 := (TB9.2 0 _ rfl).1; have c1 := (TB9.2 1 _ rfl).1; have c2 := (TB9.2 2 _ rfl).1; have c3 := (TB9.2 3 _ rfl).1; have c4 := (TB9.2 4 _ rfl).1; clear TB9; (refine Calls.mono (HK.out _ (Rid.below X.out hC)) ?_); (first | (rintro e wx ⟨rfl, hb⟩; exact ⟨rfl, below_next hC hb⟩) | (rintro e wx ⟨rfl, n, rfl⟩; exact ⟨rfl, Below.dr hC n⟩) | (rintro e wx ⟨rfl, rfl⟩; exact ⟨rfl, hC⟩))) | (intro hC; have TB9 := BoxV.below TB.out hC; have c0 := (TB9.2 0 _ rfl).1; have c1 := (TB9.2 1 _ rfl).1; have c2 := (TB9.2 2 _ rfl).1; have c3 := (TB9.2 3 _ rfl).1; have c4 := (TB9.2 4 _ rfl).1; clear TB9; go_simp; rfl)))
      refine wpQuiet_nil ?_
      intro wq hq
      have Tn := Lib.hid (below_next T.out hq)
      have Xn := Lib.hid (Rid.below X.out hq)
      have TBn := Lib.hid (BoxV.below TB.out hq)
      clear hq
      clear T X TB
      have T := Tn
      have X := Xn
      have TB := TBn
      clear Tn Xn TBn
      obtain ⟨wn, hwq⟩ : ∃ w0, w0 = wq := ⟨_, rfl⟩
      subst hwq
      have E := Lib.hid (show tokB ⟨n, m, f, -1, l⟩ = decide ((z : Int) ≤ m) from by
        by_cases g : (z : Int) ≤ m
        · rw [decide_eq_true g]; exact tokB_t (HT.out.2 ⟨HA2.out, by rw [HZ.out]; exact g⟩)
        · rw [decide_eq_false g]; exact tokB_f (fun h => g (by have := (HT.out.1 h).2; rwa [HZ.out] at this)))
      go_wp2_with fail
      go_ret
      exact Mk.b E.out T.out
    have HF := Lib.hid (show ¬ ROk n f (-1) (rat l i) → tokB ⟨n, m, f, -1, l⟩ = false from fun h => tokB_f (fun g => h ((HT.out.1 g).1 i (by rw [HL.out]; exact hlt))))
    have HN := Lib.hid (show ROk n f (-1) (rat l i) → ∀ j, j < i + 1 → ROk n f (-1) (rat l j) from fun h j hj => by
      by_cases e : j = i
      · subst e; exact h
      · exact HA.out j (by omega))
    obtain ⟨b, off, rfl⟩ := Rid.some X.out (by omega)
    obtain ⟨y0, y1, y2⟩ := Rid.three X.out hlt
    have KD := fun w' => l11Dir_c (rat l i) w'
    have hii : (i : Int) < k := by omega
    obtain ⟨⟨x, y, s⟩, hr⟩ : ∃ r, rat l i = r := ⟨_, rfl⟩
    rw [hr] at y0 y1 y2 KD HF HN
    obtain ⟨e, he⟩ : ∃ e, rdir ⟨x, y, s⟩ = e := ⟨_, rfl⟩
    rw [he] at KD
    have HD := Lib.hid KD
    have HE := Lib.hid he
    clear hr KD he HA
    have c0 := (TB.out.2 0 _ rfl).1
    have c1 := (TB.out.2 1 _ rfl).1
    have c2 := (TB.out.2 2 _ rfl).1
    have c3 := (TB.out.2 3 _ rfl).1
    have c4 := (TB.out.2 4 _ rfl).1
    have hltTBHR := BoxV.lt TB.out
    have hWHR := T.out.size
    obtain ⟨HR, hHR⟩ : ∃ HR, Array.size (World.heap wn) = HR := ⟨_, rfl⟩
    have HHR : Hid _ := hHR
    rw [hHR] at hWHR hltTBHR
    have RB : Hid (BoxV (wn.alloc (.cells #[.int .i64 x, .int .i64 y, .int .i64 s] 32)) HR [.int .i64 x, .int .i64 y, .int .i64 s]) := by rw [← hHR]; exact BoxV.new _ _ _ (by simp) rfl
    clear hHR
    have Tn : Hid (Below w.heap.size w _) := Below.al T.out (.cells #[.int .i64 x, .int .i64 y, .int .i64 s] 32)
    have Xn : Hid _ := Rid.below X.out ((Below.refl _ _).alloc (Nat.le_refl _) (.cells #[.int .i64 x, .int .i64 y, .int .i64 s] 32))
    have TBn : Hid _ := BoxV.below TB.out ((Below.refl _ _).alloc (Nat.le_refl _) (.cells #[.int .i64 x, .int .i64 y, .int .i64 s] 32))
    clear T X TB
    have T := Tn
    have X := Xn
    have TB := TBn
    clear Tn Xn TBn
    go_upto_region 7 with fail
    rw [HHR.out]
    clear y0 y1 y2
    generalize wn.alloc (.cells #[.int .i64 x, .int .i64 y, .int .i64 s] 32) = w0 at *
    obtain ⟨wn, hwq⟩ : ∃ w9 : World, w9 = w0 := ⟨_, rfl⟩
    subst hwq
    clear HHR
    by_cases h : 0 ≤ x ∧ x ≤ n - 1
    case neg =>
      have v1 := inB_f h
      have E := Lib.hid (HF.out (fun g => h ⟨g.1.1, by have : x < n := g.1.2; omega⟩))
      clear h
      have c0 := (TB.out.2 0 _ rfl).1
      have c1 := (TB.out.2 1 _ rfl).1
      have c2 := (TB.out.2 2 _ rfl).1
      have c3 := (TB.out.2 3 _ rfl).1
      have c4 := (TB.out.2 4 _ rfl).1
      have d0 := (RB.out.2 0 _ rfl).1
      have d1 := (RB.out.2 1 _ rfl).1
      have d2 := (RB.out.2 2 _ rfl).1
      go_wp2_with fail
      refine Calls.mono (l1In_c _ _ _ _) ?_
      intro e wn hh
      obtain ⟨he, hb⟩ := (by first | exact hh | exact Ro.mk hh | exact St.mk hh | exact LawOk.mk' hh : Mk _ _ e wn)
      subst he
      have Tn : Hid (Below w.heap.size w wn) := below_next T.out hb
      have Xn : Hid _ := Rid.below X.out hb
      have TBn : Hid _ := BoxV.below TB.out hb
      have RBn : Hid _ := BoxV.below RB.out hb
      clear hb hh c0 c1 c2 c3 c4 d0 d1 d2
      clear T X TB RB
      have T := Tn
      have X := Xn
      have TB := TBn
      have RB := RBn
      clear Tn Xn TBn RBn
      have c0 := (TB.out.2 0 _ rfl).1
      have c1 := (TB.out.2 1 _ rfl).1
      have c2 := (TB.out.2 2 _ rfl).1
      have c3 := (TB.out.2 3 _ rfl).1
      have c4 := (TB.out.2 4 _ rfl).1
      have d0 := (RB.out.2 0 _ rfl).1
      have d1 := (RB.out.2 1 _ rfl).1
      have d2 := (RB.out.2 2 _ rfl).1
      go_wp2_with fail
      go_ret
      exact Mk.b E.out T.out
    have v1 := inB_t h
    obtain ⟨v1a, v1b⟩ := h
    by_cases h : 0 ≤ y ∧ y ≤ n - 1
    case neg =>
      have v2 := inB_f h
      have E := Lib.hid (HF.out (fun g => h ⟨g.2.1.1, by have : y < n := g.2.1.2; omega⟩))
      clear h
      have c0 := (TB.out.2 0 _ rfl).1
      have c1 := (TB.out.2 1 _ rfl).1
      have c2 := (TB.out.2 2 _ rfl).1
      have c3 := (TB.out.2 3 _ rfl).1
      have c4 := (TB.out.2 4 _ rfl).1
      have d0 := (RB.out.2 0 _ rfl).1
      have d1 := (RB.out.2 1 _ rfl).1
      have d2 := (RB.out.2 2 _ rfl).1
      go_wp2_with fail
      refine Calls.mono (l1In_c _ _ _ _) ?_
      intro e wn hh
      obtain ⟨he, hb⟩ := (by first | exact hh | exact Ro.mk hh | exact St.mk hh | exact LawOk.mk' hh : Mk _ _ e wn)
      subst he
      have Tn : Hid (Below w.heap.size w wn) := below_next T.out hb
      have Xn : Hid _ := Rid.below X.out hb
      have TBn : Hid _ := BoxV.below TB.out hb
      have RBn : Hid _ := BoxV.below RB.out hb
      clear hb hh c0 c1 c2 c3 c4 d0 d1 d2
      clear T X TB RB
      have T := Tn
      have X := Xn
      have TB := TBn
      have RB := RBn
      clear Tn Xn TBn RBn
      have c0 := (TB.out.2 0 _ rfl).1
      have c1 := (TB.out.2 1 _ rfl).1
      have c2 := (TB.out.2 2 _ rfl).1
      have c3 := (TB.out.2 3 _ rfl).1
      have c4 := (TB.out.2 4 _ rfl).1
      have d0 := (RB.out.2 0 _ rfl).1
      have d1 := (RB.out.2 1 _ rfl).1
      have d2 := (RB.out.2 2 _ rfl).1
      go_wp2_with fail
      refine Calls.mono (l1In_c _ _ _ _) ?_
      intro e wn hh
      obtain ⟨he, hb⟩ := (by first | exact hh | exact Ro.mk hh | exact St.mk hh | exact LawOk.mk' hh : Mk _ _ e wn)
      subst he
      have Tn : Hid (Below w.heap.size w wn) := below_next T.out hb
      have Xn : Hid _ := Rid.below X.out hb
      have TBn : Hid _ := BoxV.below TB.out hb
      have RBn : Hid _ := BoxV.below RB.out hb
      clear hb hh c0 c1 c2 c3 c4 d0 d1 d2
      clear T X TB RB
      have T := Tn
      have X := Xn
      have TB := TBn
      have RB := RBn
      clear Tn Xn TBn RBn
      have c0 := (TB.out.2 0 _ rfl).1
      have c1 := (TB.out.2 1 _ rfl).1
      have c2 := (TB.out.2 2 _ rfl).1
      have c3 := (TB.out.2 3 _ rfl).1
      have c4 := (TB.out.2 4 _ rfl).1
      have d0 := (RB.out.2 0 _ rfl).1
      have d1 := (RB.out.2 1 _ rfl).1
      have d2 := (RB.out.2 2 _ rfl).1
      go_wp2_with fail
      go_ret
      exact Mk.b E.out T.out
    have v2 := inB_t h
    obtain ⟨v2a, v2b⟩ := h
    by_cases hxy : x = y
    case pos =>
      have E := Lib.hid (HF.out (fun g => g.2.2.1 hxy))
      have v3 : (x == y) = true := by simp [hxy]
      clear hxy
      have c0 := (TB.out.2 0 _ rfl).1
      have c1 := (TB.out.2 1 _ rfl).1
      have c2 := (TB.out.2 2 _ rfl).1
      have c3 := (TB.out.2 3 _ rfl).1
      have c4 := (TB.out.2 4 _ rfl).1
      have d0 := (RB.out.2 0 _ rfl).1
      have d1 := (RB.out.2 1 _ rfl).1
      have d2 := (RB.out.2 2 _ rfl).1
      go_wp2_with fail
      refine Calls.mono (l1In_c _ _ _ _) ?_
      intro e wn hh
      obtain ⟨he, hb⟩ := (by first | exact hh | exact Ro.mk hh | exact St.mk hh | exact LawOk.mk' hh : Mk _ _ e wn)
      subst he
      have Tn : Hid (Below w.heap.size w wn) := below_next T.out hb
      have Xn : Hid _ := Rid.below X.out hb
      have TBn : Hid _ := BoxV.below TB.out hb
      have RBn : Hid _ := BoxV.below RB.out hb
      clear hb hh c0 c1 c2 c3 c4 d0 d1 d2
      clear T X TB RB
      have T := Tn
      have X := Xn
      have TB := TBn
      have RB := RBn
      clear Tn Xn TBn RBn
      have c0 := (TB.out.2 0 _ rfl).1
      have c1 := (TB.out.2 1 _ rfl).1
      have c2 := (TB.out.2 2 _ rfl).1
      have c3 := (TB.out.2 3 _ rfl).1
      have c4 := (TB.out.2 4 _ rfl).1
      have d0 := (RB.out.2 0 _ rfl).1
      have d1 := (RB.out.2 1 _ rfl).1
      have d2 := (RB.out.2 2 _ rfl).1
      go_wp2_with fail
      refine Calls.mono (l1In_c _ _ _ _) ?_
      intro e wn hh
      obtain ⟨he, hb⟩ := (by first | exact hh | exact Ro.mk hh | exact St.mk hh | exact LawOk.mk' hh : Mk _ _ e wn)
      subst he
      have Tn : Hid (Below w.heap.size w wn) := below_next T.out hb
      have Xn : Hid _ := Rid.below X.out hb
      have TBn : Hid _ := BoxV.below TB.out hb
      have RBn : Hid _ := BoxV.below RB.out hb
      clear hb hh c0 c1 c2 c3 c4 d0 d1 d2
      clear T X TB RB
      have T := Tn
      have X := Xn
      have TB := TBn
      have RB := RBn
      clear Tn Xn TBn RBn
      have c0 := (TB.out.2 0 _ rfl).1
      have c1 := (TB.out.2 1 _ rfl).1
      have c2 := (TB.out.2 2 _ rfl).1
      have c3 := (TB.out.2 3 _ rfl).1
      have c4 := (TB.out.2 4 _ rfl).1
      have d0 := (RB.out.2 0 _ rfl).1
      have d1 := (RB.out.2 1 _ rfl).1
      have d2 := (RB.out.2 2 _ rfl).1
      go_wp2_with fail
      go_ret
      exact Mk.b E.out T.out
    have v3 : (x == y) = false := beq_false_of_ne hxy
    have HXY := Lib.hid hxy
    clear hxy
    by_cases h : 0 ≤ s ∧ s ≤ 2
    case neg =>
      have v4 := inB_f h
      have E := Lib.hid (HF.out (fun g => h g.2.2.2.1))
      clear h
      have c0 := (TB.out.2 0 _ rfl).1
      have c1 := (TB.out.2 1 _ rfl).1
      have c2 := (TB.out.2 2 _ rfl).1
      have c3 := (TB.out.2 3 _ rfl).1
      have c4 := (TB.out.2 4 _ rfl).1
      have d0 := (RB.out.2 0 _ rfl).1
      have d1 := (RB.out.2 1 _ rfl).1
      have d2 := (RB.out.2 2 _ rfl).1
      go_wp2_with fail
      refine Calls.mono (l1In_c _ _ _ _) ?_
      intro e wn hh
      obtain ⟨he, hb⟩ := (by first | exact hh | exact Ro.mk hh | exact St.mk hh | exact LawOk.mk' hh : Mk _ _ e wn)
      subst he
      have Tn : Hid (Below w.heap.size w wn) := below_next T.out hb
      have Xn : Hid _ := Rid.below X.out hb
      have TBn : Hid _ := BoxV.below TB.out hb
      have RBn : Hid _ := BoxV.below RB.out hb
      clear hb hh c0 c1 c2 c3 c4 d0 d1 d2
      clear T X TB RB
      have T := Tn
      have X := Xn
      have TB := TBn
      have RB := RBn
      clear Tn Xn TBn RBn
      have c0 := (TB.out.2 0 _ rfl).1
      have c1 := (TB.out.2 1 _ rfl).1
      have c2 := (TB.out.2 2 _ rfl).1
      have c3 := (TB.out.2 3 _ rfl).1
      have c4 := (TB.out.2 4 _ rfl).1
      have d0 := (RB.out.2 0 _ rfl).1
      have d1 := (RB.out.2 1 _ rfl).1
      have d2 := (RB.out.2 2 _ rfl).1
      go_wp2_with fail
      refine Calls.mono (l1In_c _ _ _ _) ?_
      intro e wn hh
      obtain ⟨he, hb⟩ := (by first | exact hh | exact Ro.mk hh | exact St.mk hh | exact LawOk.mk' hh : Mk _ _ e wn)
      subst he
      have Tn : Hid (Below w.heap.size w wn) := below_next T.out hb
      have Xn : Hid _ := Rid.below X.out hb
      have TBn : Hid _ := BoxV.below TB.out hb
      have RBn : Hid _ := BoxV.below RB.out hb
      clear hb hh c0 c1 c2 c3 c4 d0 d1 d2
      clear T X TB RB
      have T := Tn
      have X := Xn
      have TB := TBn
      have RB := RBn
      clear Tn Xn TBn RBn
      have c0 := (TB.out.2 0 _ rfl).1
      have c1 := (TB.out.2 1 _ rfl).1
      have c2 := (TB.out.2 2 _ rfl).1
      have c3 := (TB.out.2 3 _ rfl).1
      have c4 := (TB.out.2 4 _ rfl).1
      have d0 := (RB.out.2 0 _ rfl).1
      have d1 := (RB.out.2 1 _ rfl).1
      have d2 := (RB.out.2 2 _ rfl).1
      go_wp2_with fail
      refine Calls.mono (l1In_c _ _ _ _) ?_
      intro e wn hh
      obtain ⟨he, hb⟩ := (by first | exact hh | exact Ro.mk hh | exact St.mk hh | exact LawOk.mk' hh : Mk _ _ e wn)
      subst he
      have Tn : Hid (Below w.heap.size w wn) := below_next T.out hb
      have Xn : Hid _ := Rid.below X.out hb
      have TBn : Hid _ := BoxV.below TB.out hb
      have RBn : Hid _ := BoxV.below RB.out hb
      clear hb hh c0 c1 c2 c3 c4 d0 d1 d2
      clear T X TB RB
      have T := Tn
      have X := Xn
      have TB := TBn
      have RB := RBn
      clear Tn Xn TBn RBn
      have c0 := (TB.out.2 0 _ rfl).1
      have c1 := (TB.out.2 1 _ rfl).1
      have c2 := (TB.out.2 2 _ rfl).1
      have c3 := (TB.out.2 3 _ rfl).1
      have c4 := (TB.out.2 4 _ rfl).1
      have d0 := (RB.out.2 0 _ rfl).1
      have d1 := (RB.out.2 1 _ rfl).1
      have d2 := (RB.out.2 2 _ rfl).1
      go_wp2_with fail
      go_ret
      exact Mk.b E.out T.out
    have v4 := inB_t h
    have HS := Lib.hid h
    by_cases h1 : s = 1
    case neg =>
      have v5 : (s == 1) = false := beq_false_of_ne h1
      have E := Lib.hid (HN.out ⟨⟨v1a, by show x < n; omega⟩, ⟨v2a, by show y < n; omega⟩, HXY.out, h, fun g => absurd g h1⟩)
      clear h h1
      have c0 := (TB.out.2 0 _ rfl).1
      have c1 := (TB.out.2 1 _ rfl).1
      have c2 := (TB.out.2 2 _ rfl).1
      have c3 := (TB.out.2 3 _ rfl).1
      have c4 := (TB.out.2 4 _ rfl).1
      have d0 := (RB.out.2 0 _ rfl).1
      have d1 := (RB.out.2 1 _ rfl).1
      have d2 := (RB.out.2 2 _ rfl).1
      go_wp2_with fail
      refine Calls.mono (l1In_c _ _ _ _) ?_
      intro e wn hh
      obtain ⟨he, hb⟩ := (by first | exact hh | exact Ro.mk hh | exact St.mk hh | exact LawOk.mk' hh : Mk _ _ e wn)
      subst he
      have Tn : Hid (Below w.heap.size w wn) := below_next T.out hb
      have Xn : Hid _ := Rid.below X.out hb
      have TBn : Hid _ := BoxV.below TB.out hb
      have RBn : Hid _ := BoxV.below RB.out hb
      clear hb hh c0 c1 c2 c3 c4 d0 d1 d2
      clear T X TB RB
      have T := Tn
      have X := Xn
      have TB := TBn
      have RB := RBn
      clear Tn Xn TBn RBn
      have c0 := (TB.out.2 0 _ rfl).1
      have c1 := (TB.out.2 1 _ rfl).1
      have c2 := (TB.out.2 2 _ rfl).1
      have c3 := (TB.out.2 3 _ rfl).1
      have c4 := (TB.out.2 4 _ rfl).1
      have d0 := (RB.out.2 0 _ rfl).1
      have d1 := (RB.out.2 1 _ rfl).1
      have d2 := (RB.out.2 2 _ rfl).1
      go_wp2_with fail
      refine Calls.mono (l1In_c _ _ _ _) ?_
      intro e wn hh
      obtain ⟨he, hb⟩ := (by first | exact hh | exact Ro.mk hh | exact St.mk hh | exact LawOk.mk' hh : Mk _ _ e wn)
      subst he
      have Tn : Hid (Below w.heap.size w wn) := below_next T.out hb
      have Xn : Hid _ := Rid.below X.out hb
      have TBn : Hid _ := BoxV.below TB.out hb
      have RBn : Hid _ := BoxV.below RB.out hb
      clear hb hh c0 c1 c2 c3 c4 d0 d1 d2
      clear T X TB RB
      have T := Tn
      have X := Xn
      have TB := TBn
      have RB := RBn
      clear Tn Xn TBn RBn
      have c0 := (TB.out.2 0 _ rfl).1
      have c1 := (TB.out.2 1 _ rfl).1
      have c2 := (TB.out.2 2 _ rfl).1
      have c3 := (TB.out.2 3 _ rfl).1
      have c4 := (TB.out.2 4 _ rfl).1
      have d0 := (RB.out.2 0 _ rfl).1
      have d1 := (RB.out.2 1 _ rfl).1
      have d2 := (RB.out.2 2 _ rfl).1
      go_wp2_with fail
      refine Calls.mono (l1In_c _ _ _ _) ?_
      intro e wn hh
      obtain ⟨he, hb⟩ := (by first | exact hh | exact Ro.mk hh | exact St.mk hh | exact LawOk.mk' hh : Mk _ _ e wn)
      subst he
      have Tn : Hid (Below w.heap.size w wn) := below_next T.out hb
      have Xn : Hid _ := Rid.below X.out hb
      have TBn : Hid _ := BoxV.below TB.out hb
      have RBn : Hid _ := BoxV.below RB.out hb
      clear hb hh c0 c1 c2 c3 c4 d0 d1 d2
      clear T X TB RB
      have T := Tn
      have X := Xn
      have TB := TBn
      have RB := RBn
      clear Tn Xn TBn RBn
      have c0 := (TB.out.2 0 _ rfl).1
      have c1 := (TB.out.2 1 _ rfl).1
      have c2 := (TB.out.2 2 _ rfl).1
      have c3 := (TB.out.2 3 _ rfl).1
      have c4 := (TB.out.2 4 _ rfl).1
      have d0 := (RB.out.2 0 _ rfl).1
      have d1 := (RB.out.2 1 _ rfl).1
      have d2 := (RB.out.2 2 _ rfl).1
      clear RB
      go_wp2_with fail
      go_roundw
      case rel => exact ⟨i + 1, by omega, by go_num, E.out, T.out, X.out, TB.out⟩
      case measure => first | (simp [intOf]; done) | (simp [intOf]; omega) | omega
    have v5 : (s == 1) = true := by simp [h1]
    by_cases he : e = -1
    case neg =>
      have v6 : (e != -1) = true := by rw [bne_iff_ne]; exact he
      have E := Lib.hid (HF.out (fun g => he (by rw [← HE.out]; exact (g.2.2.2.2 h1).1)))
      clear h h1 he
      have c0 := (TB.out.2 0 _ rfl).1
      have c1 := (TB.out.2 1 _ rfl).1
      have c2 := (TB.out.2 2 _ rfl).1
      have c3 := (TB.out.2 3 _ rfl).1
      have c4 := (TB.out.2 4 _ rfl).1
      have d0 := (RB.out.2 0 _ rfl).1
      have d1 := (RB.out.2 1 _ rfl).1
      have d2 := (RB.out.2 2 _ rfl).1
      go_wp2_with fail
      refine Calls.mono (l1In_c _ _ _ _) ?_
      intro e wn hh
      obtain ⟨he, hb⟩ := (by first | exact hh | exact Ro.mk hh | exact St.mk hh | exact LawOk.mk' hh : Mk _ _ e wn)
      subst he
      have Tn : Hid (Below w.heap.size w wn) := below_next T.out hb
      have Xn : Hid _ := Rid.below X.out hb
      have TBn : Hid _ := BoxV.below TB.out hb
      have RBn : Hid _ := BoxV.below RB.out hb
      clear hb hh c0 c1 c2 c3 c4 d0 d1 d2
      clear T X TB RB
      have T := Tn
      have X := Xn
      have TB := TBn
      have RB := RBn
      clear Tn Xn TBn RBn
      have c0 := (TB.out.2 0 _ rfl).1
      have c1 := (TB.out.2 1 _ rfl).1
      have c2 := (TB.out.2 2 _ rfl).1
      have c3 := (TB.out.2 3 _ rfl).1
      have c4 := (TB.out.2 4 _ rfl).1
      have d0 := (RB.out.2 0 _ rfl).1
      have d1 := (RB.out.2 1 _ rfl).1
      have d2 := (RB.out.2 2 _ rfl).1
      go_wp2_with fail
      refine Calls.mono (l1In_c _ _ _ _) ?_
      intro e wn hh
      obtain ⟨he, hb⟩ := (by first | exact hh | exact Ro.mk hh | exact St.mk hh | exact LawOk.mk' hh : Mk _ _ e wn)
      subst he
      have Tn : Hid (Below w.heap.size w wn) := below_next T.out hb
      have Xn : Hid _ := Rid.below X.out hb
      have TBn : Hid _ := BoxV.below TB.out hb
      have RBn : Hid _ := BoxV.below RB.out hb
      clear hb hh c0 c1 c2 c3 c4 d0 d1 d2
      clear T X TB RB
      have T := Tn
      have X := Xn
      have TB := TBn
      have RB := RBn
      clear Tn Xn TBn RBn
      have c0 := (TB.out.2 0 _ rfl).1
      have c1 := (TB.out.2 1 _ rfl).1
      have c2 := (TB.out.2 2 _ rfl).1
      have c3 := (TB.out.2 3 _ rfl).1
      have c4 := (TB.out.2 4 _ rfl).1
      have d0 := (RB.out.2 0 _ rfl).1
      have d1 := (RB.out.2 1 _ rfl).1
      have d2 := (RB.out.2 2 _ rfl).1
      go_wp2_with fail
      refine Calls.mono (l1In_c _ _ _ _) ?_
      intro e wn hh
      obtain ⟨he, hb⟩ := (by first | exact hh | exact Ro.mk hh | exact St.mk hh | exact LawOk.mk' hh : Mk _ _ e wn)
      subst he
      have Tn : Hid (Below w.heap.size w wn) := below_next T.out hb
      have Xn : Hid _ := Rid.below X.out hb
      have TBn : Hid _ := BoxV.below TB.out hb
      have RBn : Hid _ := BoxV.below RB.out hb
      clear hb hh c0 c1 c2 c3 c4 d0 d1 d2
      clear T X TB RB
      have T := Tn
      have X := Xn
      have TB := TBn
      have RB := RBn
      clear Tn Xn TBn RBn
      have c0 := (TB.out.2 0 _ rfl).1
      have c1 := (TB.out.2 1 _ rfl).1
      have c2 := (TB.out.2 2 _ rfl).1
      have c3 := (TB.out.2 3 _ rfl).1
      have c4 := (TB.out.2 4 _ rfl).1
      have d0 := (RB.out.2 0 _ rfl).1
      have d1 := (RB.out.2 1 _ rfl).1
      have d2 := (RB.out.2 2 _ rfl).1
      go_wp2_with fail
      refine Calls.mono (HD.out _) ?_
      intro e wn hh
      obtain ⟨he, hb⟩ := (by first | exact hh | exact Ro.mk hh | exact St.mk hh | exact LawOk.mk' hh : Mk _ _ e wn)
      subst he
      have Tn : Hid (Below w.heap.size w wn) := below_next T.out hb
      have Xn : Hid _ := Rid.below X.out hb
      have TBn : Hid _ := BoxV.below TB.out hb
      have RBn : Hid _ := BoxV.below RB.out hb
      clear hb hh c0 c1 c2 c3 c4 d0 d1 d2
      clear T X TB RB
      have T := Tn
      have X := Xn
      have TB := TBn
      have RB := RBn
      clear Tn Xn TBn RBn
      have c0 := (TB.out.2 0 _ rfl).1
      have c1 := (TB.out.2 1 _ rfl).1
      have c2 := (TB.out.2 2 _ rfl).1
      have c3 := (TB.out.2 3 _ rfl).1
      have c4 := (TB.out.2 4 _ rfl).1
      have d0 := (RB.out.2 0 _ rfl).1
      have d1 := (RB.out.2 1 _ rfl).1
      have d2 := (RB.out.2 2 _ rfl).1
      go_wp2_with fail
      go_ret
      exact Mk.b E.out T.out
    have v6 : (e != -1) = false := by simp [he]
    by_cases hq1 : 0 ≤ (-1) * (f - x)
    case neg =>
      have E := Lib.hid (HF.out (fun g => hq1 (g.2.2.2.2 h1).2.1))
      have v7 : (-1) * (f - x) < 0 := by omega
      clear h h1 he hq1
      have c0 := (TB.out.2 0 _ rfl).1
      have c1 := (TB.out.2 1 _ rfl).1
      have c2 := (TB.out.2 2 _ rfl).1
      have c3 := (TB.out.2 3 _ rfl).1
      have c4 := (TB.out.2 4 _ rfl).1
      have d0 := (RB.out.2 0 _ rfl).1
      have d1 := (RB.out.2 1 _ rfl).1
      have d2 := (RB.out.2 2 _ rfl).1
      go_wp2_with fail
      refine Calls.mono (l1In_c _ _ _ _) ?_
      intro e wn hh
      obtain ⟨he, hb⟩ := (by first | exact hh | exact Ro.mk hh | exact St.mk hh | exact LawOk.mk' hh : Mk _ _ e wn)
      subst he
      have Tn : Hid (Below w.heap.size w wn) := below_next T.out hb
      have Xn : Hid _ := Rid.below X.out hb
      have TBn : Hid _ := BoxV.below TB.out hb
      have RBn : Hid _ := BoxV.below RB.out hb
      clear hb hh c0 c1 c2 c3 c4 d0 d1 d2
      clear T X TB RB
      have T := Tn
      have X := Xn
      have TB := TBn
      have RB := RBn
      clear Tn Xn TBn RBn
      have c0 := (TB.out.2 0 _ rfl).1
      have c1 := (TB.out.2 1 _ rfl).1
      have c2 := (TB.out.2 2 _ rfl).1
      have c3 := (TB.out.2 3 _ rfl).1
      have c4 := (TB.out.2 4 _ rfl).1
      have d0 := (RB.out.2 0 _ rfl).1
      have d1 := (RB.out.2 1 _ rfl).1
      have d2 := (RB.out.2 2 _ rfl).1
      go_wp2_with fail
      refine Calls.mono (l1In_c _ _ _ _) ?_
      intro e wn hh
      obtain ⟨he, hb⟩ := (by first | exact hh | exact Ro.mk hh | exact St.mk hh | exact LawOk.mk' hh : Mk _ _ e wn)
      subst he
      have Tn : Hid (Below w.heap.size w wn) := below_next T.out hb
      have Xn : Hid _ := Rid.below X.out hb
      have TBn : Hid _ := BoxV.below TB.out hb
      have RBn : Hid _ := BoxV.below RB.out hb
      clear hb hh c0 c1 c2 c3 c4 d0 d1 d2
      clear T X TB RB
      have T := Tn
      have X := Xn
      have TB := TBn
      have RB := RBn
      clear Tn Xn TBn RBn
      have c0 := (TB.out.2 0 _ rfl).1
      have c1 := (TB.out.2 1 _ rfl).1
      have c2 := (TB.out.2 2 _ rfl).1
      have c3 := (TB.out.2 3 _ rfl).1
      have c4 := (TB.out.2 4 _ rfl).1
      have d0 := (RB.out.2 0 _ rfl).1
      have d1 := (RB.out.2 1 _ rfl).1
      have d2 := (RB.out.2 2 _ rfl).1
      go_wp2_with fail
      refine Calls.mono (l1In_c _ _ _ _) ?_
      intro e wn hh
      obtain ⟨he, hb⟩ := (by first | exact hh | exact Ro.mk hh | exact St.mk hh | exact LawOk.mk' hh : Mk _ _ e wn)
      subst he
      have Tn : Hid (Below w.heap.size w wn) := below_next T.out hb
      have Xn : Hid _ := Rid.below X.out hb
      have TBn : Hid _ := BoxV.below TB.out hb
      have RBn : Hid _ := BoxV.below RB.out hb
      clear hb hh c0 c1 c2 c3 c4 d0 d1 d2
      clear T X TB RB
      have T := Tn
      have X := Xn
      have TB := TBn
      have RB := RBn
      clear Tn Xn TBn RBn
      have c0 := (TB.out.2 0 _ rfl).1
      have c1 := (TB.out.2 1 _ rfl).1
      have c2 := (TB.out.2 2 _ rfl).1
      have c3 := (TB.out.2 3 _ rfl).1
      have c4 := (TB.out.2 4 _ rfl).1
      have d0 := (RB.out.2 0 _ rfl).1
      have d1 := (RB.out.2 1 _ rfl).1
      have d2 := (RB.out.2 2 _ rfl).1
      go_wp2_with fail
      refine Calls.mono (HD.out _) ?_
      intro e wn hh
      obtain ⟨he, hb⟩ := (by first | exact hh | exact Ro.mk hh | exact St.mk hh | exact LawOk.mk' hh : Mk _ _ e wn)
      subst he
      have Tn : Hid (Below w.heap.size w wn) := below_next T.out hb
      have Xn : Hid _ := Rid.below X.out hb
      have TBn : Hid _ := BoxV.below TB.out hb
      have RBn : Hid _ := BoxV.below RB.out hb
      clear hb hh c0 c1 c2 c3 c4 d0 d1 d2
      clear T X TB RB
      have T := Tn
      have X := Xn
      have TB := TBn
      have RB := RBn
      clear Tn Xn TBn RBn
      have c0 := (TB.out.2 0 _ rfl).1
      have c1 := (TB.out.2 1 _ rfl).1
      have c2 := (TB.out.2 2 _ rfl).1
      have c3 := (TB.out.2 3 _ rfl).1
      have c4 := (TB.out.2 4 _ rfl).1
      have d0 := (RB.out.2 0 _ rfl).1
      have d1 := (RB.out.2 1 _ rfl).1
      have d2 := (RB.out.2 2 _ rfl).1
      go_wp2_with fail
      go_ret
      exact Mk.b E.out T.out
    by_cases hq2 : 0 < (-1) * (y - f)
    case neg =>
      have E := Lib.hid (HF.out (fun g => hq2 (g.2.2.2.2 h1).2.2))
      have v7 : ¬ (-1) * (f - x) < 0 := by omega
      have v8 : (-1) * (y - f) ≤ 0 := by omega
      clear h h1 he hq1 hq2
      have c0 := (TB.out.2 0 _ rfl).1
      have c1 := (TB.out.2 1 _ rfl).1
      have c2 := (TB.out.2 2 _ rfl).1
      have c3 := (TB.out.2 3 _ rfl).1
      have c4 := (TB.out.2 4 _ rfl).1
      have d0 := (RB.out.2 0 _ rfl).1
      have d1 := (RB.out.2 1 _ rfl).1
      have d2 := (RB.out.2 2 _ rfl).1
      go_wp2_with fail
      refine Calls.mono (l1In_c _ _ _ _) ?_
      intro e wn hh
      obtain ⟨he, hb⟩ := (by first | exact hh | exact Ro.mk hh | exact St.mk hh | exact LawOk.mk' hh : Mk _ _ e wn)
      subst he
      have Tn : Hid (Below w.heap.size w wn) := below_next T.out hb
      have Xn : Hid _ := Rid.below X.out hb
      have TBn : Hid _ := BoxV.below TB.out hb
      have RBn : Hid _ := BoxV.below RB.out hb
      clear hb hh c0 c1 c2 c3 c4 d0 d1 d2
      clear T X TB RB
      have T := Tn
      have X := Xn
      have TB := TBn
      have RB := RBn
      clear Tn Xn TBn RBn
      have c0 := (TB.out.2 0 _ rfl).1
      have c1 := (TB.out.2 1 _ rfl).1
      have c2 := (TB.out.2 2 _ rfl).1
      have c3 := (TB.out.2 3 _ rfl).1
      have c4 := (TB.out.2 4 _ rfl).1
      have d0 := (RB.out.2 0 _ rfl).1
      have d1 := (RB.out.2 1 _ rfl).1
      have d2 := (RB.out.2 2 _ rfl).1
      go_wp2_with fail
      refine Calls.mono (l1In_c _ _ _ _) ?_
      intro e wn hh
      obtain ⟨he, hb⟩ := (by first | exact hh | exact Ro.mk hh | exact St.mk hh | exact LawOk.mk' hh : Mk _ _ e wn)
      subst he
      have Tn : Hid (Below w.heap.size w wn) := below_next T.out hb
      have Xn : Hid _ := Rid.below X.out hb
      have TBn : Hid _ := BoxV.below TB.out hb
      have RBn : Hid _ := BoxV.below RB.out hb
      clear hb hh c0 c1 c2 c3 c4 d0 d1 d2
      clear T X TB RB
      have T := Tn
      have X := Xn
      have TB := TBn
      have RB := RBn
      clear Tn Xn TBn RBn
      have c0 := (TB.out.2 0 _ rfl).1
      have c1 := (TB.out.2 1 _ rfl).1
      have c2 := (TB.out.2 2 _ rfl).1
      have c3 := (TB.out.2 3 _ rfl).1
      have c4 := (TB.out.2 4 _ rfl).1
      have d0 := (RB.out.2 0 _ rfl).1
      have d1 := (RB.out.2 1 _ rfl).1
      have d2 := (RB.out.2 2 _ rfl).1
      go_wp2_with fail
      refine Calls.mono (l1In_c _ _ _ _) ?_
      intro e wn hh
      obtain ⟨he, hb⟩ := (by first | exact hh | exact Ro.mk hh | exact St.mk hh | exact LawOk.mk' hh : Mk _ _ e wn)
      subst he
      have Tn : Hid (Below w.heap.size w wn) := below_next T.out hb
      have Xn : Hid _ := Rid.below X.out hb
      have TBn : Hid _ := BoxV.below TB.out hb
      have RBn : Hid _ := BoxV.below RB.out hb
      clear hb hh c0 c1 c2 c3 c4 d0 d1 d2
      clear T X TB RB
      have T := Tn
      have X := Xn
      have TB := TBn
      have RB := RBn
      clear Tn Xn TBn RBn
      have c0 := (TB.out.2 0 _ rfl).1
      have c1 := (TB.out.2 1 _ rfl).1
      have c2 := (TB.out.2 2 _ rfl).1
      have c3 := (TB.out.2 3 _ rfl).1
      have c4 := (TB.out.2 4 _ rfl).1
      have d0 := (RB.out.2 0 _ rfl).1
      have d1 := (RB.out.2 1 _ rfl).1
      have d2 := (RB.out.2 2 _ rfl).1
      go_wp2_with fail
      refine Calls.mono (HD.out _) ?_
      intro e wn hh
      obtain ⟨he, hb⟩ := (by first | exact hh | exact Ro.mk hh | exact St.mk hh | exact LawOk.mk' hh : Mk _ _ e wn)
      subst he
      have Tn : Hid (Below w.heap.size w wn) := below_next T.out hb
      have Xn : Hid _ := Rid.below X.out hb
      have TBn : Hid _ := BoxV.below TB.out hb
      have RBn : Hid _ := BoxV.below RB.out hb
      clear hb hh c0 c1 c2 c3 c4 d0 d1 d2
      clear T X TB RB
      have T := Tn
      have X := Xn
      have TB := TBn
      have RB := RBn
      clear Tn Xn TBn RBn
      have c0 := (TB.out.2 0 _ rfl).1
      have c1 := (TB.out.2 1 _ rfl).1
      have c2 := (TB.out.2 2 _ rfl).1
      have c3 := (TB.out.2 3 _ rfl).1
      have c4 := (TB.out.2 4 _ rfl).1
      have d0 := (RB.out.2 0 _ rfl).1
      have d1 := (RB.out.2 1 _ rfl).1
      have d2 := (RB.out.2 2 _ rfl).1
      go_wp2_with fail
      go_ret
      exact Mk.b E.out T.out
    have E := Lib.hid (HN.out ⟨⟨v1a, by show x < n; omega⟩, ⟨v2a, by show y < n; omega⟩, HXY.out, h, fun _ => ⟨by rw [HE.out]; exact he, hq1, hq2⟩⟩)
    have v7 : ¬ (-1) * (f - x) < 0 := by omega
    have v8 : ¬ (-1) * (y - f) ≤ 0 := by omega
    clear h h1 he hq1 hq2
    have c0 := (TB.out.2 0 _ rfl).1
    have c1 := (TB.out.2 1 _ rfl).1
    have c2 := (TB.out.2 2 _ rfl).1
    have c3 := (TB.out.2 3 _ rfl).1
    have c4 := (TB.out.2 4 _ rfl).1
    have d0 := (RB.out.2 0 _ rfl).1
    have d1 := (RB.out.2 1 _ rfl).1
    have d2 := (RB.out.2 2 _ rfl).1
    go_wp2_with fail
    refine Calls.mono (l1In_c _ _ _ _) ?_
    intro e wn hh
    obtain ⟨he, hb⟩ := (by first | exact hh | exact Ro.mk hh | exact St.mk hh | exact LawOk.mk' hh : Mk _ _ e wn)
    subst he
    have Tn : Hid (Below w.heap.size w wn) := below_next T.out hb
    have Xn : Hid _ := Rid.below X.out hb
    have TBn : Hid _ := BoxV.below TB.out hb
    have RBn : Hid _ := BoxV.below RB.out hb
    clear hb hh c0 c1 c2 c3 c4 d0 d1 d2
    clear T X TB RB
    have T := Tn
    have X := Xn
    have TB := TBn
    have RB := RBn
    clear Tn Xn TBn RBn
    have c0 := (TB.out.2 0 _ rfl).1
    have c1 := (TB.out.2 1 _ rfl).1
    have c2 := (TB.out.2 2 _ rfl).1
    have c3 := (TB.out.2 3 _ rfl).1
    have c4 := (TB.out.2 4 _ rfl).1
    have d0 := (RB.out.2 0 _ rfl).1
    have d1 := (RB.out.2 1 _ rfl).1
    have d2 := (RB.out.2 2 _ rfl).1
    go_wp2_with fail
    refine Calls.mono (l1In_c _ _ _ _) ?_
    intro e wn hh
    obtain ⟨he, hb⟩ := (by first | exact hh | exact Ro.mk hh | exact St.mk hh | exact LawOk.mk' hh : Mk _ _ e wn)
    subst he
    have Tn : Hid (Below w.heap.size w wn) := below_next T.out hb
    have Xn : Hid _ := Rid.below X.out hb
    have TBn : Hid _ := BoxV.below TB.out hb
    have RBn : Hid _ := BoxV.below RB.out hb
    clear hb hh c0 c1 c2 c3 c4 d0 d1 d2
    clear T X TB RB
    have T := Tn
    have X := Xn
    have TB := TBn
    have RB := RBn
    clear Tn Xn TBn RBn
    have c0 := (TB.out.2 0 _ rfl).1
    have c1 := (TB.out.2 1 _ rfl).1
    have c2 := (TB.out.2 2 _ rfl).1
    have c3 := (TB.out.2 3 _ rfl).1
    have c4 := (TB.out.2 4 _ rfl).1
    have d0 := (RB.out.2 0 _ rfl).1
    have d1 := (RB.out.2 1 _ rfl).1
    have d2 := (RB.out.2 2 _ rfl).1
    go_wp2_with fail
    refine Calls.mono (l1In_c _ _ _ _) ?_
    intro e wn hh
    obtain ⟨he, hb⟩ := (by first | exact hh | exact Ro.mk hh | exact St.mk hh | exact LawOk.mk' hh : Mk _ _ e wn)
    subst he
    have Tn : Hid (Below w.heap.size w wn) := below_next T.out hb
    have Xn : Hid _ := Rid.below X.out hb
    have TBn : Hid _ := BoxV.below TB.out hb
    have RBn : Hid _ := BoxV.below RB.out hb
    clear hb hh c0 c1 c2 c3 c4 d0 d1 d2
    clear T X TB RB
    have T := Tn
    have X := Xn
    have TB := TBn
    have RB := RBn
    clear Tn Xn TBn RBn
    have c0 := (TB.out.2 0 _ rfl).1
    have c1 := (TB.out.2 1 _ rfl).1
    have c2 := (TB.out.2 2 _ rfl).1
    have c3 := (TB.out.2 3 _ rfl).1
    have c4 := (TB.out.2 4 _ rfl).1
    have d0 := (RB.out.2 0 _ rfl).1
    have d1 := (RB.out.2 1 _ rfl).1
    have d2 := (RB.out.2 2 _ rfl).1
    go_wp2_with fail
    refine Calls.mono (HD.out _) ?_
    intro e wn hh
    obtain ⟨he, hb⟩ := (by first | exact hh | exact Ro.mk hh | exact St.mk hh | exact LawOk.mk' hh : Mk _ _ e wn)
    subst he
    have Tn : Hid (Below w.heap.size w wn) := below_next T.out hb
    have Xn : Hid _ := Rid.below X.out hb
    have TBn : Hid _ := BoxV.below TB.out hb
    have RBn : Hid _ := BoxV.below RB.out hb
    clear hb hh c0 c1 c2 c3 c4 d0 d1 d2
    clear T X TB RB
    have T := Tn
    have X := Xn
    have TB := TBn
    have RB := RBn
    clear Tn Xn TBn RBn
    have c0 := (TB.out.2 0 _ rfl).1
    have c1 := (TB.out.2 1 _ rfl).1
    have c2 := (TB.out.2 2 _ rfl).1
    have c3 := (TB.out.2 3 _ rfl).1
    have c4 := (TB.out.2 4 _ rfl).1
    have d0 := (RB.out.2 0 _ rfl).1
    have d1 := (RB.out.2 1 _ rfl).1
    have d2 := (RB.out.2 2 _ rfl).1
    clear RB
    go_wp2_with fail
    go_roundw
    case rel => exact ⟨i + 1, by omega, by go_num, E.out, T.out, X.out, TB.out⟩
    case measure => first | (simp [intOf]; done) | (simp [intOf]; omega) | omega
set_option maxHeartbeats 4000000 in
theorem sTripValid_c (n m f d : Int) (a : Option Addr) (k c : Nat) (l : List Ri) (w : World) (hX : Rid w a k l) (hk : k ≤ 1048577) :
    Calls Try.prog 15 #[.agg #[.int .i64 n, .int .i64 m, .int .i64 f, .int .i64 d, .slice a k c]] w (Mk w (.bool (tokB ⟨n, m, f, d, l⟩))) := by
  have HL := Lib.hid hX.2
  by_cases hall : (1 ≤ n ∧ n ≤ 8) ∧ (1 ≤ m ∧ m ≤ 8) ∧ (0 ≤ f ∧ f ≤ n - 1) ∧ (d = 1 ∨ d = -1) ∧ k ≤ 8
  case pos =>
    obtain ⟨h0, h1, h2, h3, h4⟩ := hall
    rcases h3 with rfl | rfl
    · exact sTripValid_p n m f a k c l w hX h0 h1 h2 h4
    · exact sTripValid_q n m f a k c l w hX h0 h1 h2 h4
  have HALL := Lib.hid hall
  clear hall
  refine at_base fun wn hwn => ?_
  have T := Lib.hid (show Below w.heap.size w wn from by rw [hwn]; exact Below.refl _ _)
  rw [← hwn] at hX
  have X := Lib.hid (show Rid wn a k l from hX)
  clear hX
  clear hwn
  by_cases h0 : 1 ≤ n ∧ n ≤ 8
  case neg =>
    have E := Lib.hid (tokB_f (t := ⟨n, m, f, d, l⟩) (fun g => h0 g.1))
    have t1 := inB_f h0
    clear h0
    obtain ⟨g, hg⟩ : ∃ g, Array.size (World.heap wn) = g := ⟨_, rfl⟩
    have HGg := Lib.hid hg
    have hTg : w.heap.size ≤ g := by rw [← hg]; exact T.out.size
    have Tn := Lib.hid (show Below w.heap.size w (wn.alloc (.cells #[.int .i64 n, .int .i64 m, .int .i64 f, .int .i64 d, .slice a k c] 27)) from (Below.al T.out (.cells #[.int .i64 n, .int .i64 m, .int .i64 f, .int .i64 d, .slice a k c] 27)))
    have Xn := Lib.hid (Rid.below X.out (show Below wn.heap.size wn (wn.alloc (.cells #[.int .i64 n, .int .i64 m, .int .i64 f, .int .i64 d, .slice a k c] 27)) from (Below.al (Below.refl _ _) (.cells #[.int .i64 n, .int .i64 m, .int .i64 f, .int .i64 d, .slice a k c] 27))))
    have TB := Lib.hid (show BoxV (wn.alloc (.cells #[.int .i64 n, .int .i64 m, .int .i64 f, .int .i64 d, .slice a k c] 27)) g [.int .i64 n, .int .i64 m, .int .i64 f, .int .i64 d, .slice a k c] from by have h9 := (BoxV.new wn [.int .i64 n, .int .i64 m, .int .i64 f, .int .i64 d, .slice a k c] 27 (by simp) rfl); simp only [World.size_alloc, hg, Nat.add_assoc, Nat.reduceAdd] at h9; exact h9)
    have HZg := Lib.hid (show ((wn.alloc (.cells #[.int .i64 n, .int .i64 m, .int .i64 f, .int .i64 d, .slice a k c] 27))).heap.size = g + 1 from by simp only [World.size_alloc, hg, Nat.add_assoc, Nat.reduceAdd])
    clear hg
    clear T X
    have T := Tn
    have X := Xn
    clear Tn Xn
    go_enter Try.func15, Try.ntmps15
    have c0 := (TB.out.2 0 _ rfl).1
    have c1 := (TB.out.2 1 _ rfl).1
    have c2 := (TB.out.2 2 _ rfl).1
    have c3 := (TB.out.2 3 _ rfl).1
    have c4 := (TB.out.2 4 _ rfl).1
    go_wp2_with fail
    rw [HGg.out]
    refine Calls.mono (l1In_c _ _ _ _) ?_
    intro e wn hh
    obtain ⟨he, hb⟩ := (by first | exact hh | exact Ro.mk hh | exact St.mk hh | exact LawOk.mk' hh : Mk _ _ e wn)
    subst he
    have Tn : Hid (Below w.heap.size w wn) := below_next T.out hb
    have Xn : Hid _ := Rid.below X.out hb
    have TBn : Hid _ := BoxV.below TB.out hb
    clear hb hh c0 c1 c2 c3 c4
    clear T X TB
    have T := Tn
    have X := Xn
    have TB := TBn
    clear Tn Xn TBn
    have c0 := (TB.out.2 0 _ rfl).1
    have c1 := (TB.out.2 1 _ rfl).1
    have c2 := (TB.out.2 2 _ rfl).1
    have c3 := (TB.out.2 3 _ rfl).1
    have c4 := (TB.out.2 4 _ rfl).1
    go_wp2_with fail
    go_ret
    exact Mk.b E.out T.out
  have t1 := inB_t h0
  by_cases h1 : 1 ≤ m ∧ m ≤ 8
  case neg =>
    have E := Lib.hid (tokB_f (t := ⟨n, m, f, d, l⟩) (fun g => h1 g.2.1))
    have t2 := inB_f h1
    clear h1
    obtain ⟨g, hg⟩ : ∃ g, Array.size (World.heap wn) = g := ⟨_, rfl⟩
    have HGg := Lib.hid hg
    have hTg : w.heap.size ≤ g := by rw [← hg]; exact T.out.size
    have Tn := Lib.hid (show Below w.heap.size w (wn.alloc (.cells #[.int .i64 n, .int .i64 m, .int .i64 f, .int .i64 d, .slice a k c] 27)) from (Below.al T.out (.cells #[.int .i64 n, .int .i64 m, .int .i64 f, .int .i64 d, .slice a k c] 27)))
    have Xn := Lib.hid (Rid.below X.out (show Below wn.heap.size wn (wn.alloc (.cells #[.int .i64 n, .int .i64 m, .int .i64 f, .int .i64 d, .slice a k c] 27)) from (Below.al (Below.refl _ _) (.cells #[.int .i64 n, .int .i64 m, .int .i64 f, .int .i64 d, .slice a k c] 27))))
    have TB := Lib.hid (show BoxV (wn.alloc (.cells #[.int .i64 n, .int .i64 m, .int .i64 f, .int .i64 d, .slice a k c] 27)) g [.int .i64 n, .int .i64 m, .int .i64 f, .int .i64 d, .slice a k c] from by have h9 := (BoxV.new wn [.int .i64 n, .int .i64 m, .int .i64 f, .int .i64 d, .slice a k c] 27 (by simp) rfl); simp only [World.size_alloc, hg, Nat.add_assoc, Nat.reduceAdd] at h9; exact h9)
    have HZg := Lib.hid (show ((wn.alloc (.cells #[.int .i64 n, .int .i64 m, .int .i64 f, .int .i64 d, .slice a k c] 27))).heap.size = g + 1 from by simp only [World.size_alloc, hg, Nat.add_assoc, Nat.reduceAdd])
    clear hg
    clear T X
    have T := Tn
    have X := Xn
    clear Tn Xn
    go_enter Try.func15, Try.ntmps15
    have c0 := (TB.out.2 0 _ rfl).1
    have c1 := (TB.out.2 1 _ rfl).1
    have c2 := (TB.out.2 2 _ rfl).1
    have c3 := (TB.out.2 3 _ rfl).1
    have c4 := (TB.out.2 4 _ rfl).1
    go_wp2_with fail
    rw [HGg.out]
    refine Calls.mono (l1In_c _ _ _ _) ?_
    intro e wn hh
    obtain ⟨he, hb⟩ := (by first | exact hh | exact Ro.mk hh | exact St.mk hh | exact LawOk.mk' hh : Mk _ _ e wn)
    subst he
    have Tn : Hid (Below w.heap.size w wn) := below_next T.out hb
    have Xn : Hid _ := Rid.below X.out hb
    have TBn : Hid _ := BoxV.below TB.out hb
    clear hb hh c0 c1 c2 c3 c4
    clear T X TB
    have T := Tn
    have X := Xn
    have TB := TBn
    clear Tn Xn TBn
    have c0 := (TB.out.2 0 _ rfl).1
    have c1 := (TB.out.2 1 _ rfl).1
    have c2 := (TB.out.2 2 _ rfl).1
    have c3 := (TB.out.2 3 _ rfl).1
    have c4 := (TB.out.2 4 _ rfl).1
    go_wp2_with fail
    refine Calls.mono (l1In_c _ _ _ _) ?_
    intro e wn hh
    obtain ⟨he, hb⟩ := (by first | exact hh | exact Ro.mk hh | exact St.mk hh | exact LawOk.mk' hh : Mk _ _ e wn)
    subst he
    have Tn : Hid (Below w.heap.size w wn) := below_next T.out hb
    have Xn : Hid _ := Rid.below X.out hb
    have TBn : Hid _ := BoxV.below TB.out hb
    clear hb hh c0 c1 c2 c3 c4
    clear T X TB
    have T := Tn
    have X := Xn
    have TB := TBn
    clear Tn Xn TBn
    have c0 := (TB.out.2 0 _ rfl).1
    have c1 := (TB.out.2 1 _ rfl).1
    have c2 := (TB.out.2 2 _ rfl).1
    have c3 := (TB.out.2 3 _ rfl).1
    have c4 := (TB.out.2 4 _ rfl).1
    go_wp2_with fail
    go_ret
    exact Mk.b E.out T.out
  have t2 := inB_t h1
  by_cases h2 : 0 ≤ f ∧ f ≤ n - 1
  case neg =>
    have E := Lib.hid (tokB_f (t := ⟨n, m, f, d, l⟩) (fun g => h2 ⟨g.2.2.1.1, by have : f < n := g.2.2.1.2; omega⟩))
    have t3 := inB_f h2
    clear h2
    obtain ⟨g, hg⟩ : ∃ g, Array.size (World.heap wn) = g := ⟨_, rfl⟩
    have HGg := Lib.hid hg
    have hTg : w.heap.size ≤ g := by rw [← hg]; exact T.out.size
    have Tn := Lib.hid (show Below w.heap.size w (wn.alloc (.cells #[.int .i64 n, .int .i64 m, .int .i64 f, .int .i64 d, .slice a k c] 27)) from (Below.al T.out (.cells #[.int .i64 n, .int .i64 m, .int .i64 f, .int .i64 d, .slice a k c] 27)))
    have Xn := Lib.hid (Rid.below X.out (show Below wn.heap.size wn (wn.alloc (.cells #[.int .i64 n, .int .i64 m, .int .i64 f, .int .i64 d, .slice a k c] 27)) from (Below.al (Below.refl _ _) (.cells #[.int .i64 n, .int .i64 m, .int .i64 f, .int .i64 d, .slice a k c] 27))))
    have TB := Lib.hid (show BoxV (wn.alloc (.cells #[.int .i64 n, .int .i64 m, .int .i64 f, .int .i64 d, .slice a k c] 27)) g [.int .i64 n, .int .i64 m, .int .i64 f, .int .i64 d, .slice a k c] from by have h9 := (BoxV.new wn [.int .i64 n, .int .i64 m, .int .i64 f, .int .i64 d, .slice a k c] 27 (by simp) rfl); simp only [World.size_alloc, hg, Nat.add_assoc, Nat.reduceAdd] at h9; exact h9)
    have HZg := Lib.hid (show ((wn.alloc (.cells #[.int .i64 n, .int .i64 m, .int .i64 f, .int .i64 d, .slice a k c] 27))).heap.size = g + 1 from by simp only [World.size_alloc, hg, Nat.add_assoc, Nat.reduceAdd])
    clear hg
    clear T X
    have T := Tn
    have X := Xn
    clear Tn Xn
    go_enter Try.func15, Try.ntmps15
    have c0 := (TB.out.2 0 _ rfl).1
    have c1 := (TB.out.2 1 _ rfl).1
    have c2 := (TB.out.2 2 _ rfl).1
    have c3 := (TB.out.2 3 _ rfl).1
    have c4 := (TB.out.2 4 _ rfl).1
    go_wp2_with fail
    rw [HGg.out]
    refine Calls.mono (l1In_c _ _ _ _) ?_
    intro e wn hh
    obtain ⟨he, hb⟩ := (by first | exact hh | exact Ro.mk hh | exact St.mk hh | exact LawOk.mk' hh : Mk _ _ e wn)
    subst he
    have Tn : Hid (Below w.heap.size w wn) := below_next T.out hb
    have Xn : Hid _ := Rid.below X.out hb
    have TBn : Hid _ := BoxV.below TB.out hb
    clear hb hh c0 c1 c2 c3 c4
    clear T X TB
    have T := Tn
    have X := Xn
    have TB := TBn
    clear Tn Xn TBn
    have c0 := (TB.out.2 0 _ rfl).1
    have c1 := (TB.out.2 1 _ rfl).1
    have c2 := (TB.out.2 2 _ rfl).1
    have c3 := (TB.out.2 3 _ rfl).1
    have c4 := (TB.out.2 4 _ rfl).1
    go_wp2_with fail
    refine Calls.mono (l1In_c _ _ _ _) ?_
    intro e wn hh
    obtain ⟨he, hb⟩ := (by first | exact hh | exact Ro.mk hh | exact St.mk hh | exact LawOk.mk' hh : Mk _ _ e wn)
    subst he
    have Tn : Hid (Below w.heap.size w wn) := below_next T.out hb
    have Xn : Hid _ := Rid.below X.out hb
    have TBn : Hid _ := BoxV.below TB.out hb
    clear hb hh c0 c1 c2 c3 c4
    clear T X TB
    have T := Tn
    have X := Xn
    have TB := TBn
    clear Tn Xn TBn
    have c0 := (TB.out.2 0 _ rfl).1
    have c1 := (TB.out.2 1 _ rfl).1
    have c2 := (TB.out.2 2 _ rfl).1
    have c3 := (TB.out.2 3 _ rfl).1
    have c4 := (TB.out.2 4 _ rfl).1
    go_wp2_with fail
    refine Calls.mono (l1In_c _ _ _ _) ?_
    intro e wn hh
    obtain ⟨he, hb⟩ := (by first | exact hh | exact Ro.mk hh | exact St.mk hh | exact LawOk.mk' hh : Mk _ _ e wn)
    subst he
    have Tn : Hid (Below w.heap.size w wn) := below_next T.out hb
    have Xn : Hid _ := Rid.below X.out hb
    have TBn : Hid _ := BoxV.below TB.out hb
    clear hb hh c0 c1 c2 c3 c4
    clear T X TB
    have T := Tn
    have X := Xn
    have TB := TBn
    clear Tn Xn TBn
    have c0 := (TB.out.2 0 _ rfl).1
    have c1 := (TB.out.2 1 _ rfl).1
    have c2 := (TB.out.2 2 _ rfl).1
    have c3 := (TB.out.2 3 _ rfl).1
    have c4 := (TB.out.2 4 _ rfl).1
    go_wp2_with fail
    go_ret
    exact Mk.b E.out T.out
  have t3 := inB_t h2
  by_cases h3 : d = 1 ∨ d = -1
  case neg =>
    have E := Lib.hid (tokB_f (t := ⟨n, m, f, d, l⟩) (fun g => h3 g.2.2.2.1))
    have u1 : (d != 1) = true := by rw [bne_iff_ne]; omega
    have u2 : (d != -1) = true := by rw [bne_iff_ne]; omega
    clear h3
    obtain ⟨g, hg⟩ : ∃ g, Array.size (World.heap wn) = g := ⟨_, rfl⟩
    have HGg := Lib.hid hg
    have hTg : w.heap.size ≤ g := by rw [← hg]; exact T.out.size
    have Tn := Lib.hid (show Below w.heap.size w (wn.alloc (.cells #[.int .i64 n, .int .i64 m, .int .i64 f, .int .i64 d, .slice a k c] 27)) from (Below.al T.out (.cells #[.int .i64 n, .int .i64 m, .int .i64 f, .int .i64 d, .slice a k c] 27)))
    have Xn := Lib.hid (Rid.below X.out (show Below wn.heap.size wn (wn.alloc (.cells #[.int .i64 n, .int .i64 m, .int .i64 f, .int .i64 d, .slice a k c] 27)) from (Below.al (Below.refl _ _) (.cells #[.int .i64 n, .int .i64 m, .int .i64 f, .int .i64 d, .slice a k c] 27))))
    have TB := Lib.hid (show BoxV (wn.alloc (.cells #[.int .i64 n, .int .i64 m, .int .i64 f, .int .i64 d, .slice a k c] 27)) g [.int .i64 n, .int .i64 m, .int .i64 f, .int .i64 d, .slice a k c] from by have h9 := (BoxV.new wn [.int .i64 n, .int .i64 m, .int .i64 f, .int .i64 d, .slice a k c] 27 (by simp) rfl); simp only [World.size_alloc, hg, Nat.add_assoc, Nat.reduceAdd] at h9; exact h9)
    have HZg := Lib.hid (show ((wn.alloc (.cells #[.int .i64 n, .int .i64 m, .int .i64 f, .int .i64 d, .slice a k c] 27))).heap.size = g + 1 from by simp only [World.size_alloc, hg, Nat.add_assoc, Nat.reduceAdd])
    clear hg
    clear T X
    have T := Tn
    have X := Xn
    clear Tn Xn
    go_enter Try.func15, Try.ntmps15
    have c0 := (TB.out.2 0 _ rfl).1
    have c1 := (TB.out.2 1 _ rfl).1
    have c2 := (TB.out.2 2 _ rfl).1
    have c3 := (TB.out.2 3 _ rfl).1
    have c4 := (TB.out.2 4 _ rfl).1
    go_wp2_with fail
    rw [HGg.out]
    refine Calls.mono (l1In_c _ _ _ _) ?_
    intro e wn hh
    obtain ⟨he, hb⟩ := (by first | exact hh | exact Ro.mk hh | exact St.mk hh | exact LawOk.mk' hh : Mk _ _ e wn)
    subst he
    have Tn : Hid (Below w.heap.size w wn) := below_next T.out hb
    have Xn : Hid _ := Rid.below X.out hb
    have TBn : Hid _ := BoxV.below TB.out hb
    clear hb hh c0 c1 c2 c3 c4
    clear T X TB
    have T := Tn
    have X := Xn
    have TB := TBn
    clear Tn Xn TBn
    have c0 := (TB.out.2 0 _ rfl).1
    have c1 := (TB.out.2 1 _ rfl).1
    have c2 := (TB.out.2 2 _ rfl).1
    have c3 := (TB.out.2 3 _ rfl).1
    have c4 := (TB.out.2 4 _ rfl).1
    go_wp2_with fail
    refine Calls.mono (l1In_c _ _ _ _) ?_
    intro e wn hh
    obtain ⟨he, hb⟩ := (by first | exact hh | exact Ro.mk hh | exact St.mk hh | exact LawOk.mk' hh : Mk _ _ e wn)
    subst he
    have Tn : Hid (Below w.heap.size w wn) := below_next T.out hb
    have Xn : Hid _ := Rid.below X.out hb
    have TBn : Hid _ := BoxV.below TB.out hb
    clear hb hh c0 c1 c2 c3 c4
    clear T X TB
    have T := Tn
    have X := Xn
    have TB := TBn
    clear Tn Xn TBn
    have c0 := (TB.out.2 0 _ rfl).1
    have c1 := (TB.out.2 1 _ rfl).1
    have c2 := (TB.out.2 2 _ rfl).1
    have c3 := (TB.out.2 3 _ rfl).1
    have c4 := (TB.out.2 4 _ rfl).1
    go_wp2_with fail
    refine Calls.mono (l1In_c _ _ _ _) ?_
    intro e wn hh
    obtain ⟨he, hb⟩ := (by first | exact hh | exact Ro.mk hh | exact St.mk hh | exact LawOk.mk' hh : Mk _ _ e wn)
    subst he
    have Tn : Hid (Below w.heap.size w wn) := below_next T.out hb
    have Xn : Hid _ := Rid.below X.out hb
    have TBn : Hid _ := BoxV.below TB.out hb
    clear hb hh c0 c1 c2 c3 c4
    clear T X TB
    have T := Tn
    have X := Xn
    have TB := TBn
    clear Tn Xn TBn
    have c0 := (TB.out.2 0 _ rfl).1
    have c1 := (TB.out.2 1 _ rfl).1
    have c2 := (TB.out.2 2 _ rfl).1
    have c3 := (TB.out.2 3 _ rfl).1
    have c4 := (TB.out.2 4 _ rfl).1
    go_wp2_with fail
    go_ret
    exact Mk.b E.out T.out
  by_cases h4 : k ≤ 8
  case neg =>
    have E := Lib.hid (tokB_f (t := ⟨n, m, f, d, l⟩) (fun g => h4 (by have h9 : l.length ≤ 8 := g.2.2.2.2.1; have := HL.out; omega)))
    have u3 : (k : Int) > 8 := by omega
    rcases h3 with rfl | rfl
    · skip
      obtain ⟨g, hg⟩ : ∃ g, Array.size (World.heap wn) = g := ⟨_, rfl⟩
      have HGg := Lib.hid hg
      have hTg : w.heap.size ≤ g := by rw [← hg]; exact T.out.size
      have Tn := Lib.hid (show Below w.heap.size w (wn.alloc (.cells #[.int .i64 n, .int .i64 m, .int .i64 f, .int .i64 (1), .slice a k c] 27)) from (Below.al T.out (.cells #[.int .i64 n, .int .i64 m, .int .i64 f, .int .i64 (1), .slice a k c] 27)))
      have Xn := Lib.hid (Rid.below X.out (show Below wn.heap.size wn (wn.alloc (.cells #[.int .i64 n, .int .i64 m, .int .i64 f, .int .i64 (1), .slice a k c] 27)) from (Below.al (Below.refl _ _) (.cells #[.int .i64 n, .int .i64 m, .int .i64 f, .int .i64 (1), .slice a k c] 27))))
      have TB := Lib.hid (show BoxV (wn.alloc (.cells #[.int .i64 n, .int .i64 m, .int .i64 f, .int .i64 (1), .slice a k c] 27)) g [.int .i64 n, .int .i64 m, .int .i64 f, .int .i64 (1), .slice a k c] from by have h9 := (BoxV.new wn [.int .i64 n, .int .i64 m, .int .i64 f, .int .i64 (1), .slice a k c] 27 (by simp) rfl); simp only [World.size_alloc, hg, Nat.add_assoc, Nat.reduceAdd] at h9; exact h9)
      have HZg := Lib.hid (show ((wn.alloc (.cells #[.int .i64 n, .int .i64 m, .int .i64 f, .int .i64 (1), .slice a k c] 27))).heap.size = g + 1 from by simp only [World.size_alloc, hg, Nat.add_assoc, Nat.reduceAdd])
      clear hg
      clear T X
      have T := Tn
      have X := Xn
      clear Tn Xn
      go_enter Try.func15, Try.ntmps15
      have c0 := (TB.out.2 0 _ rfl).1
      have c1 := (TB.out.2 1 _ rfl).1
      have c2 := (TB.out.2 2 _ rfl).1
      have c3 := (TB.out.2 3 _ rfl).1
      have c4 := (TB.out.2 4 _ rfl).1
      go_wp2_with fail
      rw [HGg.out]
      refine Calls.mono (l1In_c _ _ _ _) ?_
      intro e wn hh
      obtain ⟨he, hb⟩ := (by first | exact hh | exact Ro.mk hh | exact St.mk hh | exact LawOk.mk' hh : Mk _ _ e wn)
      subst he
      have Tn : Hid (Below w.heap.size w wn) := below_next T.out hb
      have Xn : Hid _ := Rid.below X.out hb
      have TBn : Hid _ := BoxV.below TB.out hb
      clear hb hh c0 c1 c2 c3 c4
      clear T X TB
      have T := Tn
      have X := Xn
      have TB := TBn
      clear Tn Xn TBn
      have c0 := (TB.out.2 0 _ rfl).1
      have c1 := (TB.out.2 1 _ rfl).1
      have c2 := (TB.out.2 2 _ rfl).1
      have c3 := (TB.out.2 3 _ rfl).1
      have c4 := (TB.out.2 4 _ rfl).1
      go_wp2_with fail
      refine Calls.mono (l1In_c _ _ _ _) ?_
      intro e wn hh
      obtain ⟨he, hb⟩ := (by first | exact hh | exact Ro.mk hh | exact St.mk hh | exact LawOk.mk' hh : Mk _ _ e wn)
      subst he
      have Tn : Hid (Below w.heap.size w wn) := below_next T.out hb
      have Xn : Hid _ := Rid.below X.out hb
      have TBn : Hid _ := BoxV.below TB.out hb
      clear hb hh c0 c1 c2 c3 c4
      clear T X TB
      have T := Tn
      have X := Xn
      have TB := TBn
      clear Tn Xn TBn
      have c0 := (TB.out.2 0 _ rfl).1
      have c1 := (TB.out.2 1 _ rfl).1
      have c2 := (TB.out.2 2 _ rfl).1
      have c3 := (TB.out.2 3 _ rfl).1
      have c4 := (TB.out.2 4 _ rfl).1
      go_wp2_with fail
      refine Calls.mono (l1In_c _ _ _ _) ?_
      intro e wn hh
      obtain ⟨he, hb⟩ := (by first | exact hh | exact Ro.mk hh | exact St.mk hh | exact LawOk.mk' hh : Mk _ _ e wn)
      subst he
      have Tn : Hid (Below w.heap.size w wn) := below_next T.out hb
      have Xn : Hid _ := Rid.below X.out hb
      have TBn : Hid _ := BoxV.below TB.out hb
      clear hb hh c0 c1 c2 c3 c4
      clear T X TB
      have T := Tn
      have X := Xn
      have TB := TBn
      clear Tn Xn TBn
      have c0 := (TB.out.2 0 _ rfl).1
      have c1 := (TB.out.2 1 _ rfl).1
      have c2 := (TB.out.2 2 _ rfl).1
      have c3 := (TB.out.2 3 _ rfl).1
      have c4 := (TB.out.2 4 _ rfl).1
      go_wp2_with fail
      go_ret
      exact Mk.b E.out T.out
    · skip
      obtain ⟨g, hg⟩ : ∃ g, Array.size (World.heap wn) = g := ⟨_, rfl⟩
      have HGg := Lib.hid hg
      have hTg : w.heap.size ≤ g := by rw [← hg]; exact T.out.size
      have Tn := Lib.hid (show Below w.heap.size w (wn.alloc (.cells #[.int .i64 n, .int .i64 m, .int .i64 f, .int .i64 (-1), .slice a k c] 27)) from (Below.al T.out (.cells #[.int .i64 n, .int .i64 m, .int .i64 f, .int .i64 (-1), .slice a k c] 27)))
      have Xn := Lib.hid (Rid.below X.out (show Below wn.heap.size wn (wn.alloc (.cells #[.int .i64 n, .int .i64 m, .int .i64 f, .int .i64 (-1), .slice a k c] 27)) from (Below.al (Below.refl _ _) (.cells #[.int .i64 n, .int .i64 m, .int .i64 f, .int .i64 (-1), .slice a k c] 27))))
      have TB := Lib.hid (show BoxV (wn.alloc (.cells #[.int .i64 n, .int .i64 m, .int .i64 f, .int .i64 (-1), .slice a k c] 27)) g [.int .i64 n, .int .i64 m, .int .i64 f, .int .i64 (-1), .slice a k c] from by have h9 := (BoxV.new wn [.int .i64 n, .int .i64 m, .int .i64 f, .int .i64 (-1), .slice a k c] 27 (by simp) rfl); simp only [World.size_alloc, hg, Nat.add_assoc, Nat.reduceAdd] at h9; exact h9)
      have HZg := Lib.hid (show ((wn.alloc (.cells #[.int .i64 n, .int .i64 m, .int .i64 f, .int .i64 (-1), .slice a k c] 27))).heap.size = g + 1 from by simp only [World.size_alloc, hg, Nat.add_assoc, Nat.reduceAdd])
      clear hg
      clear T X
      have T := Tn
      have X := Xn
      clear Tn Xn
      go_enter Try.func15, Try.ntmps15
      have c0 := (TB.out.2 0 _ rfl).1
      have c1 := (TB.out.2 1 _ rfl).1
      have c2 := (TB.out.2 2 _ rfl).1
      have c3 := (TB.out.2 3 _ rfl).1
      have c4 := (TB.out.2 4 _ rfl).1
      go_wp2_with fail
      rw [HGg.out]
      refine Calls.mono (l1In_c _ _ _ _) ?_
      intro e wn hh
      obtain ⟨he, hb⟩ := (by first | exact hh | exact Ro.mk hh | exact St.mk hh | exact LawOk.mk' hh : Mk _ _ e wn)
      subst he
      have Tn : Hid (Below w.heap.size w wn) := below_next T.out hb
      have Xn : Hid _ := Rid.below X.out hb
      have TBn : Hid _ := BoxV.below TB.out hb
      clear hb hh c0 c1 c2 c3 c4
      clear T X TB
      have T := Tn
      have X := Xn
      have TB := TBn
      clear Tn Xn TBn
      have c0 := (TB.out.2 0 _ rfl).1
      have c1 := (TB.out.2 1 _ rfl).1
      have c2 := (TB.out.2 2 _ rfl).1
      have c3 := (TB.out.2 3 _ rfl).1
      have c4 := (TB.out.2 4 _ rfl).1
      go_wp2_with fail
      refine Calls.mono (l1In_c _ _ _ _) ?_
      intro e wn hh
      obtain ⟨he, hb⟩ := (by first | exact hh | exact Ro.mk hh | exact St.mk hh | exact LawOk.mk' hh : Mk _ _ e wn)
      subst he
      have Tn : Hid (Below w.heap.size w wn) := below_next T.out hb
      have Xn : Hid _ := Rid.below X.out hb
      have TBn : Hid _ := BoxV.below TB.out hb
      clear hb hh c0 c1 c2 c3 c4
      clear T X TB
      have T := Tn
      have X := Xn
      have TB := TBn
      clear Tn Xn TBn
      have c0 := (TB.out.2 0 _ rfl).1
      have c1 := (TB.out.2 1 _ rfl).1
      have c2 := (TB.out.2 2 _ rfl).1
      have c3 := (TB.out.2 3 _ rfl).1
      have c4 := (TB.out.2 4 _ rfl).1
      go_wp2_with fail
      refine Calls.mono (l1In_c _ _ _ _) ?_
      intro e wn hh
      obtain ⟨he, hb⟩ := (by first | exact hh | exact Ro.mk hh | exact St.mk hh | exact LawOk.mk' hh : Mk _ _ e wn)
      subst he
      have Tn : Hid (Below w.heap.size w wn) := below_next T.out hb
      have Xn : Hid _ := Rid.below X.out hb
      have TBn : Hid _ := BoxV.below TB.out hb
      clear hb hh c0 c1 c2 c3 c4
      clear T X TB
      have T := Tn
      have X := Xn
      have TB := TBn
      clear Tn Xn TBn
      have c0 := (TB.out.2 0 _ rfl).1
      have c1 := (TB.out.2 1 _ rfl).1
      have c2 := (TB.out.2 2 _ rfl).1
      have c3 := (TB.out.2 3 _ rfl).1
      have c4 := (TB.out.2 4 _ rfl).1
      go_wp2_with fail
      go_ret
      exact Mk.b E.out T.out
  exact absurd ⟨h0, h1, h2, h3, h4⟩ HALL.out
end Go.Proofs.Ytfhhgddajmihjaa

namespace Go.Proofs.Ytfhhgddajmihjaa
open Go.RowKit
set_option linter.unusedVariables false
set_option linter.unusedSimpArgs false
set_option maxRecDepth 100000

theorem tclT_t {t : Tp} (h : TOk t) : tclT t = tcl t := by unfold tclT; rw [if_pos h]
theorem tclT_f {t : Tp} (h : ¬ TOk t) : tclT t = cz := by unfold tclT; rw [if_neg h]
theorem fold_take {full : Bool} {z : Cs} {l : List Ri} {i : Nat} (h : i < l.length) : (l.take (i + 1)).foldl (rcall full) z = rcall full ((l.take i).foldl (rcall full) z) (rat l i) := by
  rw [rat_take h, List.foldl_append]; rfl
set_option maxHeartbeats 2000000 in
theorem sTripCalls_f (n m f d : Int) (a : Option Addr) (k c : Nat) (l : List Ri) (w : World) (hX : Rid w a k l) (hk : k ≤ 1048577) (h : ¬ TOk ⟨n, m, f, d, l⟩) :
    Calls Try.prog 20 #[.agg #[.int .i64 n, .int .i64 m, .int .i64 f, .int .i64 d, .slice a k c]] w (NewC w cz id) := by
  have X0 := Lib.hid hX
  have KV := fun w' (g : Rid w' a k l) => sTripValid_c n m f d a k c l w' g hk
  rw [tokB_f h] at KV
  have HV := Lib.hid KV
  clear hX h KV
  refine at_base fun wn hwn => ?_
  have T := Lib.hid (show Below w.heap.size w wn from by rw [hwn]; exact Below.refl _ _)
  clear hwn
  obtain ⟨g, hg⟩ : ∃ g, Array.size (World.heap wn) = g := ⟨_, rfl⟩
  have HGg := Lib.hid hg
  have hTg : w.heap.size ≤ g := by rw [← hg]; exact T.out.size
  have Tn := Lib.hid (show Below w.heap.size w ((wn.alloc (.cells #[.int .i64 n, .int .i64 m, .int .i64 f, .int .i64 d, .slice a k c] 27)).alloc (.cells #[.slice none 0 0, .slice none 0 0, .slice none 0 0] 36)) from (Below.al (Below.al T.out (.cells #[.int .i64 n, .int .i64 m, .int .i64 f, .int .i64 d, .slice a k c] 27)) (.cells #[.slice none 0 0, .slice none 0 0, .slice none 0 0] 36)))
  have TB := Lib.hid (show BoxV ((wn.alloc (.cells #[.int .i64 n, .int .i64 m, .int .i64 f, .int .i64 d, .slice a k c] 27)).alloc (.cells #[.slice none 0 0, .slice none 0 0, .slice none 0 0] 36)) g [.int .i64 n, .int .i64 m, .int .i64 f, .int .i64 d, .slice a k c] from by have h9 := (BoxV.al (BoxV.new wn [.int .i64 n, .int .i64 m, .int .i64 f, .int .i64 d, .slice a k c] 27 (by simp) rfl) (.cells #[.slice none 0 0, .slice none 0 0, .slice none 0 0] 36)); simp only [World.size_alloc, hg, Nat.add_assoc, Nat.reduceAdd] at h9; exact h9)
  have RR := Lib.hid (show Bx ((wn.alloc (.cells #[.int .i64 n, .int .i64 m, .int .i64 f, .int .i64 d, .slice a k c] 27)).alloc (.cells #[.slice none 0 0, .slice none 0 0, .slice none 0 0] 36)) (g + 1) (.slice none 0 0) (.slice none 0 0) (.slice none 0 0) from by have h9 := (Bx.new (wn.alloc (.cells #[.int .i64 n, .int .i64 m, .int .i64 f, .int .i64 d, .slice a k c] 27)) (.slice none 0 0) (.slice none 0 0) (.slice none 0 0) 36); simp only [World.size_alloc, hg, Nat.add_assoc, Nat.reduceAdd] at h9; exact h9)
  have HZg := Lib.hid (show (((wn.alloc (.cells #[.int .i64 n, .int .i64 m, .int .i64 f, .int .i64 d, .slice a k c] 27)).alloc (.cells #[.slice none 0 0, .slice none 0 0, .slice none 0 0] 36))).heap.size = g + 2 from by simp only [World.size_alloc, hg, Nat.add_assoc, Nat.reduceAdd])
  clear hg
  clear T
  have T := Tn
  clear Tn
  go_enter Try.func20, Try.ntmps20
  have c0 := (TB.out.2 0 _ rfl).1
  have c1 := (TB.out.2 1 _ rfl).1
  have c2 := (TB.out.2 2 _ rfl).1
  have c3 := (TB.out.2 3 _ rfl).1
  have c4 := (TB.out.2 4 _ rfl).1
  go_wp2_with fail
  rw [HGg.out]
  refine Calls.mono (HV.out _ (Rid.below X0.out T.out)) ?_
  intro e wn hh
  obtain ⟨he, hb⟩ := (by first | exact hh | exact Ro.mk hh | exact St.mk hh | exact LawOk.mk' hh : Mk _ _ e wn)
  subst he
  have Tn : Hid (Below w.heap.size w wn) := below_next T.out hb
  have TBn : Hid _ := BoxV.below TB.out hb
  have RRn : Hid _ := Bx.below RR.out hb
  clear hb hh c0 c1 c2 c3 c4
  clear T TB RR
  have T := Tn
  have TB := TBn
  have RR := RRn
  clear Tn TBn RRn
  obtain ⟨⟨c0, c1, c2⟩, hf⟩ := RR.out
  have f0 := hf 0
  have f1 := hf 1
  have f2 := hf 2
  clear hf
  go_wp2_with fail
  have N := newC_zero (r := g + 1) T.out (by omega) id
  exact bodyPost_ret (v := .agg #[.slice none 0 0, .slice none 0 0, .slice none 0 0]) (by simp [results, Try.results20, go_sem, c0, c1, c2]) rfl N
set_option maxRecDepth 100000 in
set_option maxHeartbeats 4000000 in
theorem sTripCalls_t (n : Nat) (m f d : Int) (a : Option Addr) (k c : Nat) (l : List Ri) (w : World) (hX : Rid w a k l) (hk : k ≤ 1048577) (h : TOk ⟨n, m, f, d, l⟩) :
    Calls Try.prog 20 #[.agg #[.int .i64 n, .int .i64 m, .int .i64 f, .int .i64 d, .slice a k c]] w (NewC w (tcl ⟨n, m, f, d, l⟩) id) := by
  have HL := Lib.hid hX.2
  have X0 := Lib.hid hX
  have h1 : 1 ≤ n := by have := h.1.1; simp at this; omega
  have h8 : n ≤ 8 := by have := h.1.2; simp at this; omega
  have KV := fun w' (g : Rid w' a k l) => sTripValid_c n m f d a k c l w' g hk
  rw [tokB_t h] at KV
  have HV := Lib.hid KV
  have KI := fun w' (g : Rid w' a k l) => l11Inside_c n m f d a k c l w' g hk
  obtain ⟨fl, hfl⟩ : ∃ fl, fullB ⟨n, m, f, d, l⟩ = fl := ⟨_, rfl⟩
  have hfl2 : fl = decide (m ≤ (ins l : Int)) := hfl.symm
  obtain ⟨z, hz⟩ : ∃ z : Nat, ins l = z := ⟨_, rfl⟩
  rw [hz] at KI hfl2
  have HI := Lib.hid KI
  have HFL := Lib.hid hfl2
  have KN := fun w' => sCallsNone_c (n : Int) w'
  rw [cno_ok h1 h8] at KN
  have E := Lib.hid (show (l.take k).foldl (rcall fl) (cn n) = tcl ⟨n, m, f, d, l⟩ from by
    unfold tcl; rw [hfl, List.take_of_length_le (by rw [HL.out]; exact Nat.le_refl _)]; rfl)
  have HLY := Lib.hid (show ∀ i, ((l.take i).foldl (rcall fl) (cn n)).u.length = n ∧ ((l.take i).foldl (rcall fl) (cn n)).d.length = n ∧ ((l.take i).foldl (rcall fl) (cn n)).c.length = n from fun i => by
    have := fold_len fl (l.take i) (cn n); simpa [cn] using this)
  have HZL := Lib.hid (show (cn n).u.length = n ∧ (cn n).d.length = n ∧ (cn n).c.length = n from by simp [cn])
  have HRR := Lib.hid (show ∀ i, i < k → ROk n f d (rat l i) from fun i hi => h.2.2.2.2.2.1 _ (rat_mem (by rw [HL.out]; exact hi)))
  obtain ⟨z0, hz0⟩ : ∃ z0, cn n = z0 := ⟨_, rfl⟩
  rw [hz0] at KN E HLY HZL
  have HN := Lib.hid KN
  clear hX h KV KI hfl hfl2 hz KN hz0
  refine at_base fun wn hwn => ?_
  have T := Lib.hid (show Below w.heap.size w wn from by rw [hwn]; exact Below.refl _ _)
  clear hwn
  obtain ⟨g, hg⟩ : ∃ g, Array.size (World.heap wn) = g := ⟨_, rfl⟩
  have HGg := Lib.hid hg
  have hTg : w.heap.size ≤ g := by rw [← hg]; exact T.out.size
  have Tn := Lib.hid (show Below w.heap.size w ((wn.alloc (.cells #[.int .i64 n, .int .i64 m, .int .i64 f, .int .i64 d, .slice a k c] 27)).alloc (.cells #[.slice none 0 0, .slice none 0 0, .slice none 0 0] 36)) from (Below.al (Below.al T.out (.cells #[.int .i64 n, .int .i64 m, .int .i64 f, .int .i64 d, .slice a k c] 27)) (.cells #[.slice none 0 0, .slice none 0 0, .slice none 0 0] 36)))
  have TB := Lib.hid (show BoxV ((wn.alloc (.cells #[.int .i64 n, .int .i64 m, .int .i64 f, .int .i64 d, .slice a k c] 27)).alloc (.cells #[.slice none 0 0, .slice none 0 0, .slice none 0 0] 36)) g [.int .i64 n, .int .i64 m, .int .i64 f, .int .i64 d, .slice a k c] from by have h9 := (BoxV.al (BoxV.new wn [.int .i64 n, .int .i64 m, .int .i64 f, .int .i64 d, .slice a k c] 27 (by simp) rfl) (.cells #[.slice none 0 0, .slice none 0 0, .slice none 0 0] 36)); simp only [World.size_alloc, hg, Nat.add_assoc, Nat.reduceAdd] at h9; exact h9)
  have RR := Lib.hid (show Bx ((wn.alloc (.cells #[.int .i64 n, .int .i64 m, .int .i64 f, .int .i64 d, .slice a k c] 27)).alloc (.cells #[.slice none 0 0, .slice none 0 0, .slice none 0 0] 36)) (g + 1) (.slice none 0 0) (.slice none 0 0) (.slice none 0 0) from by have h9 := (Bx.new (wn.alloc (.cells #[.int .i64 n, .int .i64 m, .int .i64 f, .int .i64 d, .slice a k c] 27)) (.slice none 0 0) (.slice none 0 0) (.slice none 0 0) 36); simp only [World.size_alloc, hg, Nat.add_assoc, Nat.reduceAdd] at h9; exact h9)
  have HZg := Lib.hid (show (((wn.alloc (.cells #[.int .i64 n, .int .i64 m, .int .i64 f, .int .i64 d, .slice a k c] 27)).alloc (.cells #[.slice none 0 0, .slice none 0 0, .slice none 0 0] 36))).heap.size = g + 2 from by simp only [World.size_alloc, hg, Nat.add_assoc, Nat.reduceAdd])
  clear hg
  clear T
  have T := Tn
  clear Tn
  go_enter Try.func20, Try.ntmps20
  have c0 := (TB.out.2 0 _ rfl).1
  have c1 := (TB.out.2 1 _ rfl).1
  have c2 := (TB.out.2 2 _ rfl).1
  have c3 := (TB.out.2 3 _ rfl).1
  have c4 := (TB.out.2 4 _ rfl).1
  go_wp2_with fail
  rw [HGg.out]
  refine Calls.mono (HV.out _ (Rid.below X0.out T.out)) ?_
  intro e wn hh
  obtain ⟨he, hb⟩ := (by first | exact hh | exact Ro.mk hh | exact St.mk hh | exact LawOk.mk' hh : Mk _ _ e wn)
  subst he
  have Tn : Hid (Below w.heap.size w wn) := below_next T.out hb
  have TBn : Hid _ := BoxV.below TB.out hb
  have RRn : Hid _ := Bx.below RR.out hb
  clear hb hh c0 c1 c2 c3 c4
  clear T TB RR
  have T := Tn
  have TB := TBn
  have RR := RRn
  clear Tn TBn RRn
  have c0 := (TB.out.2 0 _ rfl).1
  have c1 := (TB.out.2 1 _ rfl).1
  have c2 := (TB.out.2 2 _ rfl).1
  have c3 := (TB.out.2 3 _ rfl).1
  have c4 := (TB.out.2 4 _ rfl).1
  go_wp2_with fail
  refine Calls.mono (HN.out _) ?_
  intro e wn hh
  obtain ⟨v1, v2, v3, loP, hiP, rfl, hO, hb, hlo, hhi⟩ := NewC.get hh
  have hTP : w.heap.size ≤ loP := by rw [← hlo]; exact T.out.size
  have hltTBP := BoxV.lt TB.out
  rw [hlo] at hltTBP
  have hltRRP := Bx.lt RR.out
  rw [hlo] at hltRRP
  have hlhP : loP ≤ hiP := by rw [← hlo, ← hhi]; exact hb.size
  obtain ⟨Pa, Pi, Pb, Pj, Pc, Pk, rfl, rfl, rfl, -⟩ := OwnC.open hO
  have Tn := Lib.hid (below_next T.out hb)
  have TBn := Lib.hid (BoxV.below TB.out hb)
  have RRn := Lib.hid (Bx.below RR.out hb)
  have P := Lib.hid hO
  have HLOP := Lib.hid hlo
  clear hb hO hh hlo hhi c0 c1 c2 c3 c4
  clear T TB RR
  have T := Tn
  have TB := TBn
  have RR := RRn
  clear Tn TBn RRn
  obtain ⟨p1, p2, p3, ⟨e1, e2, e3⟩, -, ⟨q1, q2, q3, q4, q5, q6⟩, -⟩ := OwnC.somes P.out (by rw [HZL.out.1]; omega) (by rw [HZL.out.2.1]; omega) (by rw [HZL.out.2.2]; omega)
  subst e1 e2 e3
  rw [HZL.out.1, HZL.out.2.1, HZL.out.2.2] at P
  rw [HZL.out.1, HZL.out.2.1, HZL.out.2.2]
  have hltTBHP := BoxV.lt TB.out
  have hltRRHP := Bx.lt RR.out
  have hltPHP := P.out.2.2.1
  have hWHP := T.out.size
  obtain ⟨HP, hHP⟩ : ∃ HP, Array.size (World.heap wn) = HP := ⟨_, rfl⟩
  have HHP : Hid _ := hHP
  rw [hHP] at hWHP hltTBHP hltRRHP hltPHP
  have PB : Hid (Bx (wn.alloc (.cells #[.slice (some ⟨p1, 0, none⟩) n Pi, .slice (some ⟨p2, 0, none⟩) n Pj, .slice (some ⟨p3, 0, none⟩) n Pk] 36)) HP (.slice (some ⟨p1, 0, none⟩) n Pi) (.slice (some ⟨p2, 0, none⟩) n Pj) (.slice (some ⟨p3, 0, none⟩) n Pk)) := by rw [← hHP]; exact Bx.new _ _ _ _ _
  clear hHP
  have Tn : Hid (Below w.heap.size w _) := Below.al T.out (.cells #[.slice (some ⟨p1, 0, none⟩) n Pi, .slice (some ⟨p2, 0, none⟩) n Pj, .slice (some ⟨p3, 0, none⟩) n Pk] 36)
  have TBn : Hid _ := BoxV.below TB.out ((Below.refl _ _).alloc (Nat.le_refl _) (.cells #[.slice (some ⟨p1, 0, none⟩) n Pi, .slice (some ⟨p2, 0, none⟩) n Pj, .slice (some ⟨p3, 0, none⟩) n Pk] 36))
  have RRn : Hid _ := Bx.below RR.out ((Below.refl _ _).alloc (Nat.le_refl _) (.cells #[.slice (some ⟨p1, 0, none⟩) n Pi, .slice (some ⟨p2, 0, none⟩) n Pj, .slice (some ⟨p3, 0, none⟩) n Pk] 36))
  have Pn : Hid _ := OwnC.below P.out ((Below.refl _ _).alloc (Nat.le_refl _) (.cells #[.slice (some ⟨p1, 0, none⟩) n Pi, .slice (some ⟨p2, 0, none⟩) n Pj, .slice (some ⟨p3, 0, none⟩) n Pk] 36))
  clear T TB RR P
  have T := Tn
  have TB := TBn
  have RR := RRn
  have P := Pn
  clear Tn TBn RRn Pn
  go_upto_region 4 with fail
  rw [HHP.out]
  generalize wn.alloc _ = w0 at *
  obtain ⟨wn, hwq⟩ : ∃ w9 : World, w9 = w0 := ⟨_, rfl⟩
  subst hwq
  clear HHP
  go_wp2_with fail
  go_loopw [4] (fun v wr => ∃ i : Nat, i ≤ k ∧ v = .int .i64 i ∧ Below w.heap.size w wr ∧ BoxV wr g [.int .i64 n, .int .i64 m, .int .i64 f, .int .i64 d, .slice a k c] ∧ Bx wr (g + 1) (.slice none 0 0) (.slice none 0 0) (.slice none 0 0) ∧ OwnC wr loP hiP (.slice (some ⟨p1, 0, none⟩) n Pi) (.slice (some ⟨p2, 0, none⟩) n Pj) (.slice (some ⟨p3, 0, none⟩) n Pk) ((l.take i).foldl (rcall fl) z0) ∧ Bx wr HP (.slice (some ⟨p1, 0, none⟩) n Pi) (.slice (some ⟨p2, 0, none⟩) n Pj) (.slice (some ⟨p3, 0, none⟩) n Pk)) (fun v _ => k - (intOf v).toNat)
  case atStart => exact ⟨0, by omega, rfl, T.out, TB.out, RR.out, P.out, PB.out⟩
  case' round =>
    clear T TB RR P PB
    obtain ⟨i, hi, rfl, h9T, h9TB, h9RR, h9P, h9PB⟩ := hrel
    obtain ⟨wn, hwq⟩ : ∃ w0 : World, w0 = wr := ⟨_, rfl⟩
    rw [← hwq] at h9T h9TB h9RR h9P h9PB ⊢
    clear hwq
    have T := Lib.hid h9T
    have TB := Lib.hid h9TB
    have RR := Lib.hid h9RR
    have P := Lib.hid h9P
    have PB := Lib.hid h9PB
    clear h9T h9TB h9RR h9P h9PB
    by_cases hlt : i < k
    case neg =>
      obtain rfl : i = k := by omega
      rw [E.out] at P
      have N := Lib.hid (show NewC w (tcl ⟨n, m, f, d, l⟩) id (.returned (.agg #[.slice (some ⟨p1, 0, none⟩) n Pi, .slice (some ⟨p2, 0, none⟩) n Pj, .slice (some ⟨p3, 0, none⟩) n Pk])) _ from newC_end (w0 := w) (r := g + 1) P.out T.out (by omega) (by omega) id)
      have tc4 := (TB.out.2 4 _ rfl).1
      obtain ⟨⟨m0, m1, m2⟩, -⟩ := PB.out
      obtain ⟨⟨b0, b1, b2⟩, bf⟩ := RR.out
      have bf0 := bf 0
      have bf1 := bf 1
      have bf2 := bf 2
      clear P PB RR T TB bf X0 HL E HLY
      go_wp2_with fail
      clear m0 m1 m2 tc4
      have c0 := b0
      have c1 := b1
      have c2 := b2
      exact bodyPost_ret (v := .agg #[.slice (some ⟨p1, 0, none⟩) n Pi, .slice (some ⟨p2, 0, none⟩) n Pj, .slice (some ⟨p3, 0, none⟩) n Pk]) (by simp [results, Try.results20, go_sem, c0, c1, c2]) rfl N.out
    obtain ⟨bq, off, rfl⟩ := Rid.some X0.out (by omega)
    obtain ⟨y0, y1, y2⟩ := Rid.three (Rid.below X0.out T.out) hlt
    have hii : (i : Int) < k := by omega
    have hro := HRR.out i hlt
    have hfo := fold_take (full := fl) (z := z0) (l := l) (i := i) (by rw [HL.out]; exact hlt)
    obtain ⟨⟨x, y, s⟩, hr⟩ : ∃ r, rat l i = r := ⟨_, rfl⟩
    rw [hr] at y0 y1 y2 hro hfo
    obtain ⟨⟨hx0, hx1⟩, ⟨hy0, hy1⟩, -, ⟨hs0, hs1⟩, -⟩ := hro
    simp only at hx0 hx1 hy0 hy1 hs0 hs1
    obtain ⟨x, rfl⟩ : ∃ x' : Nat, x = x' := ⟨x.toNat, by omega⟩
    obtain ⟨y, rfl⟩ : ∃ y' : Nat, y = y' := ⟨y.toNat, by omega⟩
    have hly := HLY.out i
    obtain ⟨u, hu⟩ : ∃ u, (l.take i).foldl (rcall fl) z0 = u := ⟨_, rfl⟩
    rw [hu] at hfo hly P
    have HFO := Lib.hid hfo
    have HLU := Lib.hid hly
    clear hr hfo hly hu
    obtain ⟨p1', p2', p3', ⟨g1, g2, g3⟩, -, ⟨q1, q2, q3, q4, q5, q6⟩, z1, z2, z3⟩ := OwnC.somes P.out (by rw [HLU.out.1]; omega) (by rw [HLU.out.2.1]; omega) (by rw [HLU.out.2.2]; omega)
    simp only [Option.some.injEq, Addr.mk.injEq, and_true] at g1 g2 g3
    subst g1 g2 g3
    clear z1 z2 z3
    have cc4 := (TB.out.2 4 _ rfl).1
    have hltTBHR := BoxV.lt TB.out
    have hltRRHR := Bx.lt RR.out
    have hltPHR := P.out.2.2.1
    have hltPBHR := Bx.lt PB.out
    have hWHR := T.out.size
    obtain ⟨HR, hHR⟩ : ∃ HR, Array.size (World.heap wn) = HR := ⟨_, rfl⟩
    have HHR : Hid _ := hHR
    rw [hHR] at hWHR hltTBHR hltRRHR hltPHR hltPBHR
    have RB : Hid (BoxV (wn.alloc (.cells #[.int .i64 x, .int .i64 y, .int .i64 s] 32)) HR [.int .i64 x, .int .i64 y, .int .i64 s]) := by rw [← hHR]; exact BoxV.new _ _ _ (by simp) rfl
    clear hHR
    have Tn : Hid (Below w.heap.size w _) := Below.al T.out (.cells #[.int .i64 x, .int .i64 y, .int .i64 s] 32)
    have TBn : Hid _ := BoxV.below TB.out ((Below.refl _ _).alloc (Nat.le_refl _) (.cells #[.int .i64 x, .int .i64 y, .int .i64 s] 32))
    have RRn : Hid _ := Bx.below RR.out ((Below.refl _ _).alloc (Nat.le_refl _) (.cells #[.int .i64 x, .int .i64 y, .int .i64 s] 32))
    have Pn : Hid _ := OwnC.below P.out ((Below.refl _ _).alloc (Nat.le_refl _) (.cells #[.int .i64 x, .int .i64 y, .int .i64 s] 32))
    have PBn : Hid _ := Bx.below PB.out ((Below.refl _ _).alloc (Nat.le_refl _) (.cells #[.int .i64 x, .int .i64 y, .int .i64 s] 32))
    clear T TB RR P PB
    have T := Tn
    have TB := TBn
    have RR := RRn
    have P := Pn
    have PB := PBn
    clear Tn TBn RRn Pn PBn
    go_upto_region 8 with fail
    rw [HHR.out]
    clear y0 y1 y2 cc4
    generalize wn.alloc (.cells #[.int .i64 x, .int .i64 y, .int .i64 s] 32) = w0 at *
    obtain ⟨wn, hwq⟩ : ∃ w9 : World, w9 = w0 := ⟨_, rfl⟩
    subst hwq
    clear HHR
    obtain ⟨p1', p2', p3', ⟨g1, g2, g3⟩, -, -, z1, z2, z3⟩ := OwnC.somes P.out (by rw [HLU.out.1]; omega) (by rw [HLU.out.2.1]; omega) (by rw [HLU.out.2.2]; omega); simp only [Option.some.injEq, Addr.mk.injEq, and_true] at g1 g2 g3; subst g1 g2 g3
    by_cases h1 : s = 1
    case pos =>
      subst h1
      have hyn : (y : Int) < (n : Int) := by omega
      have e9 : rcall fl u ⟨x, y, 1⟩ = ⟨u.u, u.d, u.c.set y true⟩ := by simp [rcall, cput]
      have S1 := Out.set (w := wn) (q := p3) (i := y) (lo := loP) (hi := hiP) (.bool true) q5 q6
      have P1 := Lib.hid (show OwnC (wn.setCell ⟨p3, y, none⟩ (.bool true)) loP hiP (.slice (some ⟨p1, 0, none⟩) n Pi) (.slice (some ⟨p2, 0, none⟩) n Pj) (.slice (some ⟨p3, 0, none⟩) n Pk) ((l.take (i + 1)).foldl (rcall fl) z0) from by
        have e1 := P.out
        rw [show Value.slice (some ⟨p3, 0, none⟩) n Pk = .slice (some ⟨p3, 0, none⟩) u.c.length Pk from by rw [HLU.out.2.2]] at e1
        have e2 := OwnC.set3 (i := y) true e1
        rw [HLU.out.2.2] at e2
        rw [HFO.out, e9]
        exact e2)
      have T1 := Lib.hid (Out.below T.out S1 (by omega))
      have TB1 := Lib.hid (BoxV.out TB.out S1 (.inl (by omega)))
      have RR1 := Lib.hid (Bx.out RR.out S1 (.inl (by omega)))
      have PB1 := Lib.hid (Bx.out PB.out S1 (.inr (by omega)))
      have zz := z3 y
      have r3 := BS.cell (i := y) (OwnC.cal P.out).2.2 (by omega)
      simp only [Nat.zero_add] at r3
      obtain ⟨⟨c0, c1, c2⟩, -⟩ := PB.out
      have d0 := (RB.out.2 0 _ rfl).1
      have d1 := (RB.out.2 1 _ rfl).1
      have d2 := (RB.out.2 2 _ rfl).1
      clear S1 T TB RR PB P RB z1 z2 z3
      go_wp2_with fail
      exact ⟨⟨i + 1, by omega, by go_num, T1.out, TB1.out, RR1.out, P1.out, PB1.out⟩, by first | (simp [intOf]; done) | (simp [intOf]; omega) | omega⟩
    have v1 : (s == 1) = false := beq_false_of_ne h1
    have HS1 := Lib.hid h1
    clear h1 z1 z2 z3
    by_cases h0 : s = 0
    case neg =>
      have v2 : (s == 0) = false := beq_false_of_ne h0
      have E9 := Lib.hid (show rcall fl u ⟨x, y, s⟩ = u from by have := HS1.out; simp [rcall, this, h0])
      clear h0
      have d0 := (RB.out.2 0 _ rfl).1
      have d1 := (RB.out.2 1 _ rfl).1
      have d2 := (RB.out.2 2 _ rfl).1
      go_wp2_with fail
      refine wp_region_quiet (C := fun w' => Below (World.heap (wn)).size (wn) w') (by kernel_rfl) (by kernel_rfl) (by first | exact ⟨rfl, rfl, rfl, Nat.le_refl _, fun _ _ => rfl⟩ | exact Below.dw (by repeat (first | exact Below.refl _ _ | refine Below.al ?_ _ | refine Below.dr ?_ _ | refine Below.dw ?_ | refine Below.st ?_ (by first | exact Nat.le_refl _ | exact Nat.le_add_right _ _ | (simp; omega)) _ | (refine below_next ?_ (by assumption))))) ?_
      simp only []
      repeat (go_big_quiet_step (first | (intro _; with_reducible exact rfl) | (intro hC; go_at_call 50; have TB9 := BoxV.below TB.out hC; have c0 := (TB9.2 0 _ rfl).1; have c1 := (TB9.2 1 _ rfl).1; have c2 := (TB9.2 2 _ rfl).1; have c3 := (TB9.2 3 _ rfl).1; have c4 := (TB9.2 4 _ rfl).1; clear TB9; have RB9 := BoxV.below RB.out hC; have d0 := (RB9.2 0 _ rfl).1; have d1 := (RB9.2 1 _ rfl).1; have d2 := (RB9.2 2 _ rfl).1; clear RB9; (refine Calls.mono (HI.out _ (Rid.below X0.out (below_next T.out hC))) ?_); (first | (rintro e wx ⟨rfl, hb⟩; exact ⟨rfl, below_next hC hb⟩) | (rintro e wx ⟨rfl, n, rfl⟩; exact ⟨rfl, Below.dr hC n⟩) | (rintro e wx ⟨rfl, rfl⟩; exact ⟨rfl, hC⟩))) | (intro hC; have TB9 := BoxV.below TB.out hC; have c0 := (TB9.2 0 _ rfl).1; have c1 := (TB9.2 1 _ rfl).1; have c2 := (TB9.2 2 _ rfl).1; have c3 := (TB9.2 3 _ rfl).1; have c4 := (TB9.2 4 _ rfl).1; clear TB9; have RB9 := BoxV.below RB.out hC; have d0 := (RB9.2 0 _ rfl).1; have d1 := (RB9.2 1 _ rfl).1; have d2 := (RB9.2 2 _ rfl).1; clear RB9; go_simp; rfl)))
      refine wpQuiet_nil ?_
      intro wq hq
      have Tn := Lib.hid (below_next T.out hq)
      have TBn := Lib.hid (BoxV.below TB.out hq)
      have RRn := Lib.hid (Bx.below RR.out hq)
      have Pn := Lib.hid (OwnC.below P.out hq)
      have PBn := Lib.hid (Bx.below PB.out hq)
      have RBn := Lib.hid (BoxV.below RB.out hq)
      clear hq
      clear T TB RR P PB RB
      have T := Tn
      have TB := TBn
      have RR := RRn
      have P := Pn
      have PB := PBn
      have RB := RBn
      clear Tn TBn RRn Pn PBn RBn
      obtain ⟨wn, hwq⟩ : ∃ w0, w0 = wq := ⟨_, rfl⟩
      subst hwq
      go_wp2_with fail
      refine wp_region_quiet (C := fun w' => Below (World.heap (wn)).size (wn) w') (by kernel_rfl) (by kernel_rfl) (by first | exact ⟨rfl, rfl, rfl, Nat.le_refl _, fun _ _ => rfl⟩ | exact Below.dw (by repeat (first | exact Below.refl _ _ | refine Below.al ?_ _ | refine Below.dr ?_ _ | refine Below.dw ?_ | refine Below.st ?_ (by first | exact Nat.le_refl _ | exact Nat.le_add_right _ _ | (simp; omega)) _ | (refine below_next ?_ (by assumption))))) ?_
      simp only []
      repeat (go_big_quiet_step (first | (intro _; with_reducible exact rfl) | (intro hC; go_at_call 50; have TB9 := BoxV.below TB.out hC; have c0 := (TB9.2 0 _ rfl).1; have c1 := (TB9.2 1 _ rfl).1; have c2 := (TB9.2 2 _ rfl).1; have c3 := (TB9.2 3 _ rfl).1; have c4 := (TB9.2 4 _ rfl).1; clear TB9; have RB9 := BoxV.below RB.out hC; have d0 := (RB9.2 0 _ rfl).1; have d1 := (RB9.2 1 _ rfl).1; have d2 := (RB9.2 2 _ rfl).1; clear RB9; (refine Calls.mono (HI.out _ (Rid.below X0.out (below_next T.out hC))) ?_); (first | (rintro e wx ⟨rfl, hb⟩; exact ⟨rfl, below_next hC hb⟩) | (rintro e wx ⟨rfl, n, rfl⟩; exact ⟨rfl, Below.dr hC n⟩) | (rintro e wx ⟨rfl, rfl⟩; exact ⟨rfl, hC⟩))) | (intro hC; have TB9 := BoxV.below TB.out hC; have c0 := (TB9.2 0 _ rfl).1; have c1 := (TB9.2 1 _ rfl).1; have c2 := (TB9.2 2 _ rfl).1; have c3 := (TB9.2 3 _ rfl).1; have c4 := (TB9.2 4 _ rfl).1; clear TB9; have RB9 := BoxV.below RB.out hC; have d0 := (RB9.2 0 _ rfl).1; have d1 := (RB9.2 1 _ rfl).1; have d2 := (RB9.2 2 _ rfl).1; clear RB9; go_simp; rfl)))
      refine wpQuiet_nil ?_
      intro wq hq
      have Tn := Lib.hid (below_next T.out hq)
      have TBn := Lib.hid (BoxV.below TB.out hq)
      have RRn := Lib.hid (Bx.below RR.out hq)
      have Pn := Lib.hid (OwnC.below P.out hq)
      have PBn := Lib.hid (Bx.below PB.out hq)
      have RBn := Lib.hid (BoxV.below RB.out hq)
      clear hq
      clear T TB RR P PB RB
      have T := Tn
      have TB := TBn
      have RR := RRn
      have P := Pn
      have PB := PBn
      have RB := RBn
      clear Tn TBn RRn Pn PBn RBn
      obtain ⟨wn, hwq⟩ : ∃ w0, w0 = wq := ⟨_, rfl⟩
      subst hwq
      have P1 := Lib.hid (show OwnC wn loP hiP (.slice (some ⟨p1, 0, none⟩) n Pi) (.slice (some ⟨p2, 0, none⟩) n Pj) (.slice (some ⟨p3, 0, none⟩) n Pk) ((l.take (i + 1)).foldl (rcall fl) z0) from by rw [HFO.out, E9.out]; exact P.out)
      have PX := P1
      clear P RB
      have P := PX
      clear PX P1
      go_wp2_with fail
      go_roundw
      case rel => exact ⟨i + 1, by omega, by go_num, T.out, TB.out, RR.out, P.out, PB.out⟩
      case measure => first | (simp [intOf]; done) | (simp [intOf]; omega) | omega
    have v2 : (s == 0) = true := by simp [h0]
    by_cases hfu : (z : Int) < m
    case neg =>
      have E9 := Lib.hid (show rcall fl u ⟨x, y, s⟩ = u from by have h7 := HS1.out; have h6 := HFL.out; rw [decide_eq_true (by omega)] at h6; subst h6; simp [rcall, h7])
      have v3 : decide ((z : Int) < m) = false := decide_eq_false hfu
      clear h0 hfu
      have d0 := (RB.out.2 0 _ rfl).1
      have d1 := (RB.out.2 1 _ rfl).1
      have d2 := (RB.out.2 2 _ rfl).1
      go_wp2_with fail
      refine wp_region_quiet (C := fun w' => Below (World.heap (wn)).size (wn) w') (by kernel_rfl) (by kernel_rfl) (by first | exact ⟨rfl, rfl, rfl, Nat.le_refl _, fun _ _ => rfl⟩ | exact Below.dw (by repeat (first | exact Below.refl _ _ | refine Below.al ?_ _ | refine Below.dr ?_ _ | refine Below.dw ?_ | refine Below.st ?_ (by first | exact Nat.le_refl _ | exact Nat.le_add_right _ _ | (simp; omega)) _ | (refine below_next ?_ (by assumption))))) ?_
      simp only []
      repeat (go_big_quiet_step (first | (intro _; with_reducible exact rfl) | (intro hC; go_at_call 50; have TB9 := BoxV.below TB.out hC; have c0 := (TB9.2 0 _ rfl).1; have c1 := (TB9.2 1 _ rfl).1; have c2 := (TB9.2 2 _ rfl).1; have c3 := (TB9.2 3 _ rfl).1; have c4 := (TB9.2 4 _ rfl).1; clear TB9; have RB9 := BoxV.below RB.out hC; have d0 := (RB9.2 0 _ rfl).1; have d1 := (RB9.2 1 _ rfl).1; have d2 := (RB9.2 2 _ rfl).1; clear RB9; (refine Calls.mono (HI.out _ (Rid.below X0.out (below_next T.out hC))) ?_); (first | (rintro e wx ⟨rfl, hb⟩; exact ⟨rfl, below_next hC hb⟩) | (rintro e wx ⟨rfl, n, rfl⟩; exact ⟨rfl, Below.dr hC n⟩) | (rintro e wx ⟨rfl, rfl⟩; exact ⟨rfl, hC⟩))) | (intro hC; have TB9 := BoxV.below TB.out hC; have c0 := (TB9.2 0 _ rfl).1; have c1 := (TB9.2 1 _ rfl).1; have c2 := (TB9.2 2 _ rfl).1; have c3 := (TB9.2 3 _ rfl).1; have c4 := (TB9.2 4 _ rfl).1; clear TB9; have RB9 := BoxV.below RB.out hC; have d0 := (RB9.2 0 _ rfl).1; have d1 := (RB9.2 1 _ rfl).1; have d2 := (RB9.2 2 _ rfl).1; clear RB9; go_simp; rfl)))
      refine wpQuiet_nil ?_
      intro wq hq
      have Tn := Lib.hid (below_next T.out hq)
      have TBn := Lib.hid (BoxV.below TB.out hq)
      have RRn := Lib.hid (Bx.below RR.out hq)
      have Pn := Lib.hid (OwnC.below P.out hq)
      have PBn := Lib.hid (Bx.below PB.out hq)
      have RBn := Lib.hid (BoxV.below RB.out hq)
      clear hq
      clear T TB RR P PB RB
      have T := Tn
      have TB := TBn
      have RR := RRn
      have P := Pn
      have PB := PBn
      have RB := RBn
      clear Tn TBn RRn Pn PBn RBn
      obtain ⟨wn, hwq⟩ : ∃ w0, w0 = wq := ⟨_, rfl⟩
      subst hwq
      go_wp2_with fail
      refine wp_region_quiet (C := fun w' => Below (World.heap (wn)).size (wn) w') (by kernel_rfl) (by kernel_rfl) (by first | exact ⟨rfl, rfl, rfl, Nat.le_refl _, fun _ _ => rfl⟩ | exact Below.dw (by repeat (first | exact Below.refl _ _ | refine Below.al ?_ _ | refine Below.dr ?_ _ | refine Below.dw ?_ | refine Below.st ?_ (by first | exact Nat.le_refl _ | exact Nat.le_add_right _ _ | (simp; omega)) _ | (refine below_next ?_ (by assumption))))) ?_
      simp only []
      repeat (go_big_quiet_step (first | (intro _; with_reducible exact rfl) | (intro hC; go_at_call 50; have TB9 := BoxV.below TB.out hC; have c0 := (TB9.2 0 _ rfl).1; have c1 := (TB9.2 1 _ rfl).1; have c2 := (TB9.2 2 _ rfl).1; have c3 := (TB9.2 3 _ rfl).1; have c4 := (TB9.2 4 _ rfl).1; clear TB9; have RB9 := BoxV.below RB.out hC; have d0 := (RB9.2 0 _ rfl).1; have d1 := (RB9.2 1 _ rfl).1; have d2 := (RB9.2 2 _ rfl).1; clear RB9; (refine Calls.mono (HI.out _ (Rid.below X0.out (below_next T.out hC))) ?_); (first | (rintro e wx ⟨rfl, hb⟩; exact ⟨rfl, below_next hC hb⟩) | (rintro e wx ⟨rfl, n, rfl⟩; exact ⟨rfl, Below.dr hC n⟩) | (rintro e wx ⟨rfl, rfl⟩; exact ⟨rfl, hC⟩))) | (intro hC; have TB9 := BoxV.below TB.out hC; have c0 := (TB9.2 0 _ rfl).1; have c1 := (TB9.2 1 _ rfl).1; have c2 := (TB9.2 2 _ rfl).1; have c3 := (TB9.2 3 _ rfl).1; have c4 := (TB9.2 4 _ rfl).1; clear TB9; have RB9 := BoxV.below RB.out hC; have d0 := (RB9.2 0 _ rfl).1; have d1 := (RB9.2 1 _ rfl).1; have d2 := (RB9.2 2 _ rfl).1; clear RB9; go_simp; rfl)))
      refine wpQuiet_nil ?_
      intro wq hq
      have Tn := Lib.hid (below_next T.out hq)
      have TBn := Lib.hid (BoxV.below TB.out hq)
      have RRn := Lib.hid (Bx.below RR.out hq)
      have Pn := Lib.hid (OwnC.below P.out hq)
      have PBn := Lib.hid (Bx.below PB.out hq)
      have RBn := Lib.hid (BoxV.below RB.out hq)
      clear hq
      clear T TB RR P PB RB
      have T := Tn
      have TB := TBn
      have RR := RRn
      have P := Pn
      have PB := PBn
      have RB := RBn
      clear Tn TBn RRn Pn PBn RBn
      obtain ⟨wn, hwq⟩ : ∃ w0, w0 = wq := ⟨_, rfl⟩
      subst hwq
      have P1 := Lib.hid (show OwnC wn loP hiP (.slice (some ⟨p1, 0, none⟩) n Pi) (.slice (some ⟨p2, 0, none⟩) n Pj) (.slice (some ⟨p3, 0, none⟩) n Pk) ((l.take (i + 1)).foldl (rcall fl) z0) from by rw [HFO.out, E9.out]; exact P.out)
      have PX := P1
      clear P RB
      have P := PX
      clear PX P1
      go_wp2_with fail
      go_roundw
      case rel => exact ⟨i + 1, by omega, by go_num, T.out, TB.out, RR.out, P.out, PB.out⟩
      case measure => first | (simp [intOf]; done) | (simp [intOf]; omega) | omega
    have hxn : (x : Int) < (n : Int) := by omega
    by_cases hup : (y : Int) > x
    case pos =>
      have e9 : rcall fl u ⟨x, y, s⟩ = ⟨u.u.set x true, u.d, u.c⟩ := by
        have h7 := HS1.out
        have h6 := HFL.out
        rw [decide_eq_false (by omega)] at h6
        subst h6
        subst h0
        have h5 : x < y := by omega
        simp [rcall, cput, h5]
      have HE9 := Lib.hid e9
      clear e9 h0
      have d0 := (RB.out.2 0 _ rfl).1
      have d1 := (RB.out.2 1 _ rfl).1
      have d2 := (RB.out.2 2 _ rfl).1
      go_wp2_with fail
      refine wp_region_quiet (C := fun w' => Below (World.heap (wn)).size (wn) w') (by kernel_rfl) (by kernel_rfl) (by first | exact ⟨rfl, rfl, rfl, Nat.le_refl _, fun _ _ => rfl⟩ | exact Below.dw (by repeat (first | exact Below.refl _ _ | refine Below.al ?_ _ | refine Below.dr ?_ _ | refine Below.dw ?_ | refine Below.st ?_ (by first | exact Nat.le_refl _ | exact Nat.le_add_right _ _ | (simp; omega)) _ | (refine below_next ?_ (by assumption))))) ?_
      simp only []
      repeat (go_big_quiet_step (first | (intro _; with_reducible exact rfl) | (intro hC; go_at_call 50; have TB9 := BoxV.below TB.out hC; have c0 := (TB9.2 0 _ rfl).1; have c1 := (TB9.2 1 _ rfl).1; have c2 := (TB9.2 2 _ rfl).1; have c3 := (TB9.2 3 _ rfl).1; have c4 := (TB9.2 4 _ rfl).1; clear TB9; have RB9 := BoxV.below RB.out hC; have d0 := (RB9.2 0 _ rfl).1; have d1 := (RB9.2 1 _ rfl).1; have d2 := (RB9.2 2 _ rfl).1; clear RB9; (refine Calls.mono (HI.out _ (Rid.below X0.out (below_next T.out hC))) ?_); (first | (rintro e wx ⟨rfl, hb⟩; exact ⟨rfl, below_next hC hb⟩) | (rintro e wx ⟨rfl, n, rfl⟩; exact ⟨rfl, Below.dr hC n⟩) | (rintro e wx ⟨rfl, rfl⟩; exact ⟨rfl, hC⟩))) | (intro hC; have TB9 := BoxV.below TB.out hC; have c0 := (TB9.2 0 _ rfl).1; have c1 := (TB9.2 1 _ rfl).1; have c2 := (TB9.2 2 _ rfl).1; have c3 := (TB9.2 3 _ rfl).1; have c4 := (TB9.2 4 _ rfl).1; clear TB9; have RB9 := BoxV.below RB.out hC; have d0 := (RB9.2 0 _ rfl).1; have d1 := (RB9.2 1 _ rfl).1; have d2 := (RB9.2 2 _ rfl).1; clear RB9; go_simp; rfl)))
      refine wpQuiet_nil ?_
      intro wq hq
      have Tn := Lib.hid (below_next T.out hq)
      have TBn := Lib.hid (BoxV.below TB.out hq)
      have RRn := Lib.hid (Bx.below RR.out hq)
      have Pn := Lib.hid (OwnC.below P.out hq)
      have PBn := Lib.hid (Bx.below PB.out hq)
      have RBn := Lib.hid (BoxV.below RB.out hq)
      clear hq
      clear T TB RR P PB RB
      have T := Tn
      have TB := TBn
      have RR := RRn
      have P := Pn
      have PB := PBn
      have RB := RBn
      clear Tn TBn RRn Pn PBn RBn
      obtain ⟨wn, hwq⟩ : ∃ w0, w0 = wq := ⟨_, rfl⟩
      subst hwq
      obtain ⟨p1', p2', p3', ⟨g1, g2, g3⟩, -, -, z1, z2, z3⟩ := OwnC.somes P.out (by rw [HLU.out.1]; omega) (by rw [HLU.out.2.1]; omega) (by rw [HLU.out.2.2]; omega); simp only [Option.some.injEq, Addr.mk.injEq, and_true] at g1 g2 g3; subst g1 g2 g3
      have S1 := Out.set (w := wn) (q := p1) (i := x) (lo := loP) (hi := hiP) (.bool true) q1 q2
      have P1 := Lib.hid (show OwnC (wn.setCell ⟨p1, x, none⟩ (.bool true)) loP hiP (.slice (some ⟨p1, 0, none⟩) n Pi) (.slice (some ⟨p2, 0, none⟩) n Pj) (.slice (some ⟨p3, 0, none⟩) n Pk) ((l.take (i + 1)).foldl (rcall fl) z0) from by
        have e1 := P.out
        rw [show Value.slice (some ⟨p1, 0, none⟩) n Pi = .slice (some ⟨p1, 0, none⟩) u.u.length Pi from by rw [HLU.out.1]] at e1
        have e2 := OwnC.set1 (i := x) true e1
        rw [HLU.out.1] at e2
        rw [HFO.out, HE9.out]
        exact e2)
      have T1 := Lib.hid (Out.below T.out S1 (by omega))
      have TB1 := Lib.hid (BoxV.out TB.out S1 (.inl (by omega)))
      have RR1 := Lib.hid (Bx.out RR.out S1 (.inl (by omega)))
      have PB1 := Lib.hid (Bx.out PB.out S1 (.inr (by omega)))
      have zz := z1 x
      have r3 := BS.cell (i := x) (OwnC.cal P.out).1 (by omega)
      simp only [Nat.zero_add] at r3
      obtain ⟨⟨c0, c1, c2⟩, -⟩ := PB.out
      have d0 := (RB.out.2 0 _ rfl).1
      have d1 := (RB.out.2 1 _ rfl).1
      have d2 := (RB.out.2 2 _ rfl).1
      clear S1 T TB RR PB P RB z1 z2 z3
      go_wp2_with fail
      exact ⟨⟨i + 1, by omega, by go_num, T1.out, TB1.out, RR1.out, P1.out, PB1.out⟩, by first | (simp [intOf]; done) | (simp [intOf]; omega) | omega⟩
    have e9 : rcall fl u ⟨x, y, s⟩ = ⟨u.u, u.d.set x true, u.c⟩ := by
      have h7 := HS1.out
      have h6 := HFL.out
      rw [decide_eq_false (by omega)] at h6
      subst h6
      subst h0
      have h5 : ¬ x < y := by omega
      simp [rcall, cput, h5]
    have HE9 := Lib.hid e9
    clear e9 h0
    have d0 := (RB.out.2 0 _ rfl).1
    have d1 := (RB.out.2 1 _ rfl).1
    have d2 := (RB.out.2 2 _ rfl).1
    go_wp2_with fail
    refine wp_region_quiet (C := fun w' => Below (World.heap (wn)).size (wn) w') (by kernel_rfl) (by kernel_rfl) (by first | exact ⟨rfl, rfl, rfl, Nat.le_refl _, fun _ _ => rfl⟩ | exact Below.dw (by repeat (first | exact Below.refl _ _ | refine Below.al ?_ _ | refine Below.dr ?_ _ | refine Below.dw ?_ | refine Below.st ?_ (by first | exact Nat.le_refl _ | exact Nat.le_add_right _ _ | (simp; omega)) _ | (refine below_next ?_ (by assumption))))) ?_
    simp only []
    repeat (go_big_quiet_step (first | (intro _; with_reducible exact rfl) | (intro hC; go_at_call 50; have TB9 := BoxV.below TB.out hC; have c0 := (TB9.2 0 _ rfl).1; have c1 := (TB9.2 1 _ rfl).1; have c2 := (TB9.2 2 _ rfl).1; have c3 := (TB9.2 3 _ rfl).1; have c4 := (TB9.2 4 _ rfl).1; clear TB9; have RB9 := BoxV.below RB.out hC; have d0 := (RB9.2 0 _ rfl).1; have d1 := (RB9.2 1 _ rfl).1; have d2 := (RB9.2 2 _ rfl).1; clear RB9; (refine Calls.mono (HI.out _ (Rid.below X0.out (below_next T.out hC))) ?_); (first | (rintro e wx ⟨rfl, hb⟩; exact ⟨rfl, below_next hC hb⟩) | (rintro e wx ⟨rfl, n, rfl⟩; exact ⟨rfl, Below.dr hC n⟩) | (rintro e wx ⟨rfl, rfl⟩; exact ⟨rfl, hC⟩))) | (intro hC; have TB9 := BoxV.below TB.out hC; have c0 := (TB9.2 0 _ rfl).1; have c1 := (TB9.2 1 _ rfl).1; have c2 := (TB9.2 2 _ rfl).1; have c3 := (TB9.2 3 _ rfl).1; have c4 := (TB9.2 4 _ rfl).1; clear TB9; have RB9 := BoxV.below RB.out hC; have d0 := (RB9.2 0 _ rfl).1; have d1 := (RB9.2 1 _ rfl).1; have d2 := (RB9.2 2 _ rfl).1; clear RB9; go_simp; rfl)))
    refine wpQuiet_nil ?_
    intro wq hq
    have Tn := Lib.hid (below_next T.out hq)
    have TBn := Lib.hid (BoxV.below TB.out hq)
    have RRn := Lib.hid (Bx.below RR.out hq)
    have Pn := Lib.hid (OwnC.below P.out hq)
    have PBn := Lib.hid (Bx.below PB.out hq)
    have RBn := Lib.hid (BoxV.below RB.out hq)
    clear hq
    clear T TB RR P PB RB
    have T := Tn
    have TB := TBn
    have RR := RRn
    have P := Pn
    have PB := PBn
    have RB := RBn
    clear Tn TBn RRn Pn PBn RBn
    obtain ⟨wn, hwq⟩ : ∃ w0, w0 = wq := ⟨_, rfl⟩
    subst hwq
    go_wp2_with fail
    refine wp_region_quiet (C := fun w' => Below (World.heap (wn)).size (wn) w') (by kernel_rfl) (by kernel_rfl) (by first | exact ⟨rfl, rfl, rfl, Nat.le_refl _, fun _ _ => rfl⟩ | exact Below.dw (by repeat (first | exact Below.refl _ _ | refine Below.al ?_ _ | refine Below.dr ?_ _ | refine Below.dw ?_ | refine Below.st ?_ (by first | exact Nat.le_refl _ | exact Nat.le_add_right _ _ | (simp; omega)) _ | (refine below_next ?_ (by assumption))))) ?_
    simp only []
    repeat (go_big_quiet_step (first | (intro _; with_reducible exact rfl) | (intro hC; go_at_call 50; have TB9 := BoxV.below TB.out hC; have c0 := (TB9.2 0 _ rfl).1; have c1 := (TB9.2 1 _ rfl).1; have c2 := (TB9.2 2 _ rfl).1; have c3 := (TB9.2 3 _ rfl).1; have c4 := (TB9.2 4 _ rfl).1; clear TB9; have RB9 := BoxV.below RB.out hC; have d0 := (RB9.2 0 _ rfl).1; have d1 := (RB9.2 1 _ rfl).1; have d2 := (RB9.2 2 _ rfl).1; clear RB9; (refine Calls.mono (HI.out _ (Rid.below X0.out (below_next T.out hC))) ?_); (first | (rintro e wx ⟨rfl, hb⟩; exact ⟨rfl, below_next hC hb⟩) | (rintro e wx ⟨rfl, n, rfl⟩; exact ⟨rfl, Below.dr hC n⟩) | (rintro e wx ⟨rfl, rfl⟩; exact ⟨rfl, hC⟩))) | (intro hC; have TB9 := BoxV.below TB.out hC; have c0 := (TB9.2 0 _ rfl).1; have c1 := (TB9.2 1 _ rfl).1; have c2 := (TB9.2 2 _ rfl).1; have c3 := (TB9.2 3 _ rfl).1; have c4 := (TB9.2 4 _ rfl).1; clear TB9; have RB9 := BoxV.below RB.out hC; have d0 := (RB9.2 0 _ rfl).1; have d1 := (RB9.2 1 _ rfl).1; have d2 := (RB9.2 2 _ rfl).1; clear RB9; go_simp; rfl)))
    refine wpQuiet_nil ?_
    intro wq hq
    have Tn := Lib.hid (below_next T.out hq)
    have TBn := Lib.hid (BoxV.below TB.out hq)
    have RRn := Lib.hid (Bx.below RR.out hq)
    have Pn := Lib.hid (OwnC.below P.out hq)
    have PBn := Lib.hid (Bx.below PB.out hq)
    have RBn := Lib.hid (BoxV.below RB.out hq)
    clear hq
    clear T TB RR P PB RB
    have T := Tn
    have TB := TBn
    have RR := RRn
    have P := Pn
    have PB := PBn
    have RB := RBn
    clear Tn TBn RRn Pn PBn RBn
    obtain ⟨wn, hwq⟩ : ∃ w0, w0 = wq := ⟨_, rfl⟩
    subst hwq
    obtain ⟨p1', p2', p3', ⟨g1, g2, g3⟩, -, -, z1, z2, z3⟩ := OwnC.somes P.out (by rw [HLU.out.1]; omega) (by rw [HLU.out.2.1]; omega) (by rw [HLU.out.2.2]; omega); simp only [Option.some.injEq, Addr.mk.injEq, and_true] at g1 g2 g3; subst g1 g2 g3
    have S1 := Out.set (w := wn) (q := p2) (i := x) (lo := loP) (hi := hiP) (.bool true) q3 q4
    have P1 := Lib.hid (show OwnC (wn.setCell ⟨p2, x, none⟩ (.bool true)) loP hiP (.slice (some ⟨p1, 0, none⟩) n Pi) (.slice (some ⟨p2, 0, none⟩) n Pj) (.slice (some ⟨p3, 0, none⟩) n Pk) ((l.take (i + 1)).foldl (rcall fl) z0) from by
      have e1 := P.out
      rw [show Value.slice (some ⟨p2, 0, none⟩) n Pj = .slice (some ⟨p2, 0, none⟩) u.d.length Pj from by rw [HLU.out.2.1]] at e1
      have e2 := OwnC.set2 (i := x) true e1
      rw [HLU.out.2.1] at e2
      rw [HFO.out, HE9.out]
      exact e2)
    have T1 := Lib.hid (Out.below T.out S1 (by omega))
    have TB1 := Lib.hid (BoxV.out TB.out S1 (.inl (by omega)))
    have RR1 := Lib.hid (Bx.out RR.out S1 (.inl (by omega)))
    have PB1 := Lib.hid (Bx.out PB.out S1 (.inr (by omega)))
    have zz := z2 x
    have r3 := BS.cell (i := x) (OwnC.cal P.out).2.1 (by omega)
    simp only [Nat.zero_add] at r3
    obtain ⟨⟨c0, c1, c2⟩, -⟩ := PB.out
    have d0 := (RB.out.2 0 _ rfl).1
    have d1 := (RB.out.2 1 _ rfl).1
    have d2 := (RB.out.2 2 _ rfl).1
    clear S1 T TB RR PB P RB z1 z2 z3
    go_wp2_with fail
    exact ⟨⟨i + 1, by omega, by go_num, T1.out, TB1.out, RR1.out, P1.out, PB1.out⟩, by first | (simp [intOf]; done) | (simp [intOf]; omega) | omega⟩
theorem sTripCalls_c (n m f d : Int) (a : Option Addr) (k c : Nat) (l : List Ri) (w : World) (hX : Rid w a k l) (hk : k ≤ 1048577) :
    Calls Try.prog 20 #[.agg #[.int .i64 n, .int .i64 m, .int .i64 f, .int .i64 d, .slice a k c]] w (NewC w (tclT ⟨n, m, f, d, l⟩) id) := by
  by_cases h : TOk ⟨n, m, f, d, l⟩
  · rw [tclT_t h]
    obtain ⟨n, rfl⟩ : ∃ n' : Nat, n = n' := ⟨n.toNat, by have := h.1.1; simp at this; omega⟩
    exact sTripCalls_t n m f d a k c l w hX hk h
  · rw [tclT_f h]
    exact sTripCalls_f n m f d a k c l w hX hk h
end Go.Proofs.Ytfhhgddajmihjaa
