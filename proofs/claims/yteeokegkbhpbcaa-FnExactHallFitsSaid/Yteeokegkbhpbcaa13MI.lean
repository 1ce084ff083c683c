/- The program's areUpTo, HallOk. -/
import Derived.Test.Yteeokegkbhpbcaa13MA
import Derived.Test.Yteeokegkbhpbcaa13MP
import Derived.Test.YteeokegkbhpbcaaVB
import Derived.Laws.IdiomCopy
import Derived.Test.Yteeokegkbhpbcaa8I
import Derived.Test.YteeokegkbhpbcaaQT
import Derived.Test.Yteeokegkbhpbcaa12H
import Derived.Test.Yteeokegkbhpbcaa10G
namespace Go.Proofs.Yteeokegkbhpbcaa
open Go.RowKit
set_option linter.unusedVariables false
set_option linter.unusedSimpArgs false
set_option maxRecDepth 100000

noncomputable def autB (xs : List Int) (m : Int) : Bool := tr (∀ k, k < xs.length → 0 ≤ nth xs k ∧ nth xs k ≤ m)
set_option maxHeartbeats 2000000 in
theorem areUpTo_c (a1 : Option Addr) (n1 c1 : Nat) (xs : List Int) (m : Int) (w : World) (hs : Sl w a1 xs) (hl : xs.length = n1) (hm : n1 ≤ 1048577) :
    Calls Try.prog 37 #[.int .i64 m, .slice a1 n1 c1] w (Mk w (.bool (autB xs m))) := by
  have HL := Lib.hid hl
  clear hl
  refine at_base fun wn hwn => ?_
  have T := Lib.hid (show Below w.heap.size w wn from by rw [hwn]; exact Below.refl _ _)
  rw [← hwn] at hs
  have X := Lib.hid (show Sl wn a1 xs from hs)
  clear hs
  clear hwn
  go_enter Try.func37, Try.ntmps37
  go_wp2_with fail
  go_loopw [9] (fun v wr => ∃ k : Nat, k ≤ n1 ∧ v = .int .i64 k ∧ (∀ i, i < k → 0 ≤ nth xs i ∧ nth xs i ≤ m) ∧ Below w.heap.size w wr ∧ Sl wr a1 xs) (fun v _ => n1 - (intOf v).toNat)
  case atStart => exact ⟨0, by omega, rfl, (fun i hi => by omega), T.out, X.out⟩
  case' round =>
    clear T X
    obtain ⟨k, hk, rfl, hall, h9T, h9X⟩ := hrel
    obtain ⟨wn, hwq⟩ : ∃ w0 : World, w0 = wr := ⟨_, rfl⟩
    rw [← hwq] at h9T h9X ⊢
    clear hwq
    have T := Lib.hid h9T
    have X := Lib.hid h9X
    clear h9T h9X
    have HA := Lib.hid hall
    clear hall
    by_cases hlt : k < n1
    case neg =>
      obtain rfl : k = n1 := by omega
      have E := Lib.hid (show autB xs m = true from tr_true fun i hi => HA.out i (by rw [← HL.out]; exact hi))
      go_wp2_with fail
      go_ret
      exact Mk.b E.out T.out
    obtain ⟨b1, o1, rfl, hI⟩ := Sl.at X.out (k := k) (by rw [HL.out]; exact hlt)
    have y1 := hI k (by rw [HL.out]; exact hlt)
    have hki : (k : Int) < n1 := by omega
    clear hI
    by_cases h0 : nth xs k < 0
    case pos =>
      have E := Lib.hid (show autB xs m = false from tr_false fun g => by have := g k (by rw [HL.out]; exact hlt); omega)
      go_wp2_with fail
      go_ret
      exact Mk.b E.out T.out
    by_cases h1 : m < nth xs k
    case pos =>
      have E := Lib.hid (show autB xs m = false from tr_false fun g => by have := g k (by rw [HL.out]; exact hlt); omega)
      go_wp2_with fail
      go_ret
      exact Mk.b E.out T.out
    have HN := Lib.hid (show ∀ i, i < k + 1 → 0 ≤ nth xs i ∧ nth xs i ≤ m from fun i hi => by
      by_cases e : i = k
      · subst e; omega
      · exact HA.out i (by omega))
    go_wp2_with fail
    go_roundw
    case rel => exact ⟨k + 1, by omega, by go_num, HN.out, T.out, X.out⟩
    case measure => first | (simp [intOf]; done) | (simp [intOf]; omega) | omega
set_option maxHeartbeats 2000000 in
theorem iHallOk_c (a1 : Option Addr) (n1 c1 : Nat) (gs : List Int) (a2 : Option Addr) (n2 c2 : Nat) (rs : List Int) (w : World) (hs : Sl w a1 gs) (hl : gs.length = n1) (hs2 : Sl w a2 rs) (hl2 : rs.length = n2) (hm : n1 ≤ 1048577) (hm2 : n2 ≤ 1048577) (k1 : n1 ≤ c1 ∧ c1 ≤ 9223372036854775807) (k2 : n2 ≤ c2 ∧ c2 ≤ 9223372036854775807) :
    Calls Try.prog 14 #[.slice a1 n1 c1, .slice a2 n2 c2] w (Mk w (.bool (hokB gs rs))) := by
  obtain ⟨P, hP⟩ : ∃ P, autB gs 7 = P := ⟨_, rfl⟩
  obtain ⟨Q, hQ⟩ : ∃ Q, autB rs 8 = Q := ⟨_, rfl⟩
  have e : hokB gs rs = (decide (n1 ≤ 6) && decide (1 ≤ n2) && decide (n2 ≤ 3) && P && Q) := by
    rw [← hP, ← hQ]
    refine tr_eq ?_
    simp only [Bool.and_eq_true, decide_eq_true_iff, autB]
    rw [tr_t, tr_t, ← hl, ← hl2]
    exact ⟨fun h => ⟨⟨⟨⟨h.2.2.1, h.2.2.2.1⟩, h.2.2.2.2⟩, h.1⟩, h.2.1⟩, fun h => ⟨h.1.2, h.2, h.1.1.1.1, h.1.1.1.2, h.1.1.2⟩⟩
  have K1 := fun w' (h : Sl w' a1 gs) => areUpTo_c a1 n1 c1 gs 7 w' h hl hm
  have K2 := fun w' (h : Sl w' a2 rs) => areUpTo_c a2 n2 c2 rs 8 w' h hl2 hm2
  rw [hP] at K1
  rw [hQ] at K2
  have H1 := Lib.hid K1
  have H2 := Lib.hid K2
  have HE := Lib.hid e
  clear K1 K2 hP hQ e hl hl2 k1 k2
  refine at_base fun wn hwn => ?_
  have T := Lib.hid (show Below w.heap.size w wn from by rw [hwn]; exact Below.refl _ _)
  rw [← hwn] at hs
  have X := Lib.hid (show Sl wn a1 gs from hs)
  clear hs
  rw [← hwn] at hs2
  have Y := Lib.hid (show Sl wn a2 rs from hs2)
  clear hs2
  clear hwn
  by_cases h1 : n1 ≤ 6
  case neg =>
    have h1i : ¬ (n1 : Int) ≤ 6 := by omega
    have E := Lib.hid (show hokB gs rs = false from by rw [HE.out, decide_eq_false h1]; rfl)
    clear h1
    go_enter Try.func14, Try.ntmps14
    go_wp2_with fail
    go_ret
    exact Mk.b E.out T.out
  have h1i : (n1 : Int) ≤ 6 := by omega
  by_cases h2 : 1 ≤ n2
  case neg =>
    obtain rfl : n2 = 0 := by omega
    have E := Lib.hid (show hokB gs rs = false from by rw [HE.out, decide_eq_false h2]; simp)
    clear h1 h2
    go_enter Try.func14, Try.ntmps14
    go_wp2_with fail
    go_ret
    exact Mk.b E.out T.out
  have h2i : (1 : Int) ≤ n2 := by omega
  by_cases h3 : n2 ≤ 3
  case neg =>
    have h3i : ¬ (n2 : Int) ≤ 3 := by omega
    have E := Lib.hid (show hokB gs rs = false from by rw [HE.out, decide_eq_false h3]; simp)
    clear h1 h2 h3
    go_enter Try.func14, Try.ntmps14
    go_wp2_with fail
    go_ret
    exact Mk.b E.out T.out
  have h3i : (n2 : Int) ≤ 3 := by omega
  have HE2 := Lib.hid (show hokB gs rs = (P && Q) from by rw [HE.out, decide_eq_true h1, decide_eq_true h2, decide_eq_true h3]; simp)
  clear h1 h2 h3
  go_enter Try.func14, Try.ntmps14
  go_wp2_with fail
  refine Calls.mono (H1.out _ X.out) ?_
  intro e wn hh
  obtain ⟨he, hb⟩ := (by first | exact hh | exact Ro.mk hh | exact St.mk hh | exact LawOk.mk' hh : Mk _ _ e wn)
  subst he
  have Tn : Hid (Below w.heap.size w wn) := below_next T.out hb
  have Xn : Hid _ := Sl.below X.out hb
  have Yn : Hid _ := Sl.below Y.out hb
  clear hb hh
  clear T X Y
  have T := Tn
  have X := Xn
  have Y := Yn
  clear Tn Xn Yn
  cases P
  case false =>
    have E := Lib.hid (show hokB gs rs = false from by rw [HE2.out]; rfl)
    go_wp2_with fail
    go_ret
    exact Mk.b E.out T.out
  go_wp2_with fail
  refine Calls.mono (H2.out _ Y.out) ?_
  intro e wn hh
  obtain ⟨he, hb⟩ := (by first | exact hh | exact Ro.mk hh | exact St.mk hh | exact LawOk.mk' hh : Mk _ _ e wn)
  subst he
  have Tn : Hid (Below w.heap.size w wn) := below_next T.out hb
  have Xn : Hid _ := Sl.below X.out hb
  have Yn : Hid _ := Sl.below Y.out hb
  clear hb hh
  clear T X Y
  have T := Tn
  have X := Xn
  have Y := Yn
  clear Tn Xn Yn
  have E := Lib.hid (show hokB gs rs = Q from by rw [HE2.out]; rfl)
  go_wp2_with fail
  go_ret
  exact Mk.b E.out T.out
end Go.Proofs.Yteeokegkbhpbcaa

namespace Go.Proofs.Yteeokegkbhpbcaa
open Go.RowKit
set_option linter.unusedVariables false
set_option linter.unusedSimpArgs false
set_option maxRecDepth 100000

theorem cells_set {b : Nat} : ∀ (vs : List Value) (o : Nat) (w : World), (∀ j, j < vs.length → (w.cell? ⟨b, o + j, none⟩).isSome = true) → ∀ j v, vs[j]? = some v → (w.setCells b o vs).cell? ⟨b, o + j, none⟩ = some v
  | [], _, _, _, j, v, h => by simp at h
  | u :: r, o, w, hc, 0, v, h => by
    have e : u = v := by simpa using h
    subst e
    obtain ⟨x, hx⟩ := Option.isSome_iff_exists.1 (hc 0 (by simp))
    show ((w.setCell ⟨b, o, none⟩ u).setCells b (o + 1) r).cell? ⟨b, o + 0, none⟩ = some u
    rw [World.cell?_setCells_out b r (o + 1) _ ⟨b, o + 0, none⟩ (fun _ _ => Or.inl (Nat.lt_succ_self o))]
    exact World.cell?_setCell_same _ _ _ hx
  | u :: r, o, w, hc, j + 1, v, h => by
    have ih := cells_set (b := b) r (o + 1) (w.setCell ⟨b, o, none⟩ u) (fun i hi => by
      rw [World.cell?_setCell_other _ _ _ _ (by simp)]
      have := hc (i + 1) (by simp; omega)
      rwa [show o + (i + 1) = o + 1 + i from by omega] at this) j v (by simpa using h)
    rwa [show o + (j + 1) = o + 1 + j from by omega]
theorem BoxV.all {w : World} {b : Nat} {us vs : List Value} (h : BoxV w b us) (hl : vs.length = us.length) : BoxV (w.setCells b 0 vs) b vs := by
  refine ⟨fun e => h.1 (List.length_eq_zero_iff.1 (by rw [← hl, e]; rfl)), fun i v e => ⟨?_, ?_⟩⟩
  · have := cells_set (b := b) vs 0 w (fun j hj => by rw [Nat.zero_add, (h.2 j _ (List.getElem?_eq_getElem (by omega))).1]; rfl) i v e
    rwa [Nat.zero_add] at this
  · rw [World.frozen?_setCells]
    have hi : i < vs.length := (List.getElem?_eq_some_iff.1 e).1
    exact (h.2 i _ (List.getElem?_eq_getElem (by omega))).2
theorem out_cells (b : Nat) : ∀ (vs : List Value) (o : Nat) (w : World), Out b (b + 1) w (w.setCells b o vs)
  | [], _, w => Out.refl _ _ w
  | v :: r, o, w => Out.trans (Out.set v (Nat.le_refl _) (by omega)) (out_cells b r (o + 1) _)
/-- The cells of cars with riders. -/
def cva (r : Nat → Int) (s : Nat → Bool) (m : Int) : Array Value := (cvl r s m).toArray
/-- Cars with riders in a block of their own. -/
def Cv (w : World) (b : Nat) (r : Nat → Int) (s : Nat → Bool) (m : Int) : Prop := BoxV w b (cvl r s m)
def r0 : Nat → Int := fun _ => 0
def s0 : Nat → Bool := fun _ => false
theorem Cv.lt {w : World} {b : Nat} {r : Nat → Int} {s : Nat → Bool} {m : Int} (h : Cv w b r s m) : b < w.heap.size := BoxV.lt h
theorem Cv.below {w w' : World} {b : Nat} {r : Nat → Int} {s : Nat → Bool} {m : Int} (h : Cv w b r s m) (hb : Below w.heap.size w w') : Cv w' b r s m := BoxV.below h hb
theorem Cv.out {w w' : World} {b lo hi : Nat} {r : Nat → Int} {s : Nat → Bool} {m : Int} (h : Cv w b r s m) (ho : Out lo hi w w') (hd : b < lo ∨ hi ≤ b) : Cv w' b r s m := BoxV.out h ho hd
theorem Cv.block {w w' : World} {b : Nat} {r : Nat → Int} {s : Nat → Bool} {m : Int} (h : Cv w b r s m) (e : w'.heap[b]? = w.heap[b]?) : Cv w' b r s m := BoxV.block h e
theorem Cv.new (w : World) (r : Nat → Int) (s : Nat → Bool) (m : Int) {b : Nat} (hb : w.heap.size = b) : Cv (w.alloc (.cells (cva r s m) 49)) b r s m := BoxV.new w (cvl r s m) 49 (by simp [cvl]) hb
theorem Cv.al {w : World} {b : Nat} {r : Nat → Int} {s : Nat → Bool} {m : Int} (h : Cv w b r s m) (o : Obj) : Cv (w.alloc o) b r s m := BoxV.al h o
theorem Cv.room {w : World} {b c : Nat} {r : Nat → Int} {s : Nat → Bool} {m : Int} (h : Cv w b r s m) (hc : c < 3) : w.cell? ⟨b, c, none⟩ = some (.int .i64 (r c)) ∧ w.frozen? ⟨b, c, none⟩ = false := h.2 c _ (cvl_room r s m hc)
theorem Cv.stop {w : World} {b c g : Nat} {r : Nat → Int} {s : Nat → Bool} {m : Int} (h : Cv w b r s m) (hc : c < 3) (hg : g < 8) : w.cell? ⟨b, 3 + c * 8 + g, none⟩ = some (.bool (s (8 * c + g))) ∧ w.frozen? ⟨b, 3 + c * 8 + g, none⟩ = false := by
  have h1 := h.2 (3 + (8 * c + g)) _ (cvl_stop r s m (by omega))
  rwa [show 3 + (8 * c + g) = 3 + c * 8 + g from by omega] at h1
theorem Cv.many {w : World} {b : Nat} {r : Nat → Int} {s : Nat → Bool} {m : Int} (h : Cv w b r s m) : w.cell? ⟨b, 27, none⟩ = some (.int .i64 m) ∧ w.frozen? ⟨b, 27, none⟩ = false := h.2 27 _ rfl
theorem Cv.setRoom {w : World} {b c : Nat} {r : Nat → Int} {s : Nat → Bool} {m : Int} (h : Cv w b r s m) (x : Int) (hc : c < 3) : Cv (w.setCell ⟨b, c, none⟩ (.int .i64 x)) b (upI r c x) s m := by
  unfold Cv; rw [← cvl_set_room r s m x hc]; exact BoxV.set h c _ (by simp [cvl]; omega)
theorem Cv.setStop {w : World} {b c g : Nat} {r : Nat → Int} {s : Nat → Bool} {m : Int} (h : Cv w b r s m) (x : Bool) (hc : c < 3) (hg : g < 8) : Cv (w.setCell ⟨b, 3 + c * 8 + g, none⟩ (.bool x)) b r (upB s (8 * c + g) x) m := by
  unfold Cv; rw [← cvl_set_stop r s m x (show 8 * c + g < 24 from by omega), show 3 + c * 8 + g = 3 + (8 * c + g) from by omega]; exact BoxV.set h (3 + (8 * c + g)) _ (by simp [cvl]; omega)
theorem Cv.setMany {w : World} {b : Nat} {r : Nat → Int} {s : Nat → Bool} {m : Int} (h : Cv w b r s m) (x : Int) : Cv (w.setCell ⟨b, 27, none⟩ (.int .i64 x)) b r s x := by
  unfold Cv; rw [← cvl_set_many r s m x]; exact BoxV.set h 27 _ (by simp [cvl])
theorem Cv.far {w : World} {b c j : Nat} {u : Value} {r : Nat → Int} {s : Nat → Bool} {m : Int} (h : Cv w b r s m) (hne : b ≠ c) : Cv (w.setCell ⟨c, j, none⟩ u) b r s m := BoxV.far h hne
theorem run_loadVar_cv {w : World} {b : Nat} {r : Nat → Int} {s : Nat → Bool} {m : Int} (h : Cv w b r s m) : (loadVar 49 ⟨b, 0, none⟩).run Try.prog w = .ok (.agg (cva r s m)) w := by
  have hl := run_loadCells_list (P := Try.prog) w ⟨b, 0, none⟩ (cvl r s m) (fun j v e => by
    have := (h.2 j v e).1
    unfold Addr.add
    split
    · rename_i e; subst e; exact this
    · simpa using this)
  rw [show (cvl r s m).length = 28 from rfl] at hl
  simp [loadVar, Try.isAgg49, Try.sizeOf49, hl]
  rfl
theorem run_storeVar_cv {w : World} {b : Nat} {r r2 : Nat → Int} {s s2 : Nat → Bool} {m m2 : Int} (h : Cv w b r2 s2 m2) : ∃ w', (storeVar 49 ⟨b, 0, none⟩ (.agg (cva r s m))).run Try.prog w = .ok () w' ∧ Cv w' b r s m ∧ Out b (b + 1) w w' := by
  have h1 := run_storeCells_cells (P := Try.prog) b 0 (cvl r s m) 0 w (fun j hj => by simp only [Nat.zero_add]; rw [(h.2 j _ (List.getElem?_eq_getElem (show j < (cvl r2 s2 m2).length from hj))).1]; rfl) (fun j hj => by simp only [Nat.zero_add]; exact (h.2 j _ (List.getElem?_eq_getElem (show j < (cvl r2 s2 m2).length from hj))).2) (fun v hv => by simp [cvl] at hv; rcases hv with h | h | h | h | h | h | h | h | h | h | h | h | h | h | h | h | h | h | h | h | h | h | h | h | h | h | h | h <;> (subst h; rfl))
  rw [Nat.zero_add] at h1
  refine ⟨w.setCells b 0 (cvl r s m), ?_, BoxV.all h rfl, out_cells _ _ _ _⟩
  have hsz : (cva r s m).size = 28 := rfl
  have hli : (cva r s m).toList = cvl r s m := rfl
  simp [storeVar, Try.sizeOf49, Value.cells, hsz, hli, h1]
theorem wpList_load_cv {w : World} {ops : Array Oper} {rest : List Oper} {act : Act} {Q : Exit → Act → World → Prop} {d : Tmp} {x : Operand} {ty0 : TypeId} {ps : String} {af : Array Edge} {b : Nat} {r : Nat → Int} {s : Nat → Bool} {m : Int}
    (h : Cv w b r s m) (hs : act.eval x = .pointer (some ⟨b, 0, none⟩)) (hK : wpList Try.prog ops Q rest (act.put (some d) (.agg (cva r s m))) w) :
    wpList Try.prog ops Q ({ dst := some d, op := .load 49 x, type := ty0, pos := ps, after := af, guard := none } :: rest) act w := by
  refine wpList_step fun K hK2 => ?_
  rw [if_pos (by rfl)]
  unfold Oper.wp execOp
  simp only [hs, Instr.loadAt, Instr.sureAddr, Sem.run_bind, Sem.run_pure, Result.andThen_ok, run_loadVar_cv h]
  exact hK2 _ _ hK
theorem wpList_store_cv {w : World} {ops : Array Oper} {rest : List Oper} {act : Act} {Q : Exit → Act → World → Prop} {y x : Operand} {ty0 : TypeId} {ps : String} {af : Array Edge} {b : Nat} {r r2 : Nat → Int} {s s2 : Nat → Bool} {m m2 : Int}
    (h : Cv w b r2 s2 m2) (hs : act.eval y = .pointer (some ⟨b, 0, none⟩)) (hx : act.eval x = .agg (cva r s m)) (hK : ∀ w', Cv w' b r s m → Out b (b + 1) w w' → wpList Try.prog ops Q rest act w') :
    wpList Try.prog ops Q ({ dst := none, op := .store 49 y x, type := ty0, pos := ps, after := af, guard := none } :: rest) act w := by
  refine wpList_step fun K hK2 => ?_
  rw [if_pos (by rfl)]
  obtain ⟨w', hr, h2, h3⟩ := run_storeVar_cv (r := r) (s := s) (m := m) h
  unfold Oper.wp execOp
  simp only [hs, hx, Instr.storeAt, Instr.sureAddr, Sem.run_bind, Sem.run_pure, Result.andThen_ok, hr]
  exact hK2 _ _ (hK w' h2 h3)
theorem results_cvb {fn : Func} {q t : Tmp} (h : fn.results = #[.cell q 49, .tmp t]) {tmps : Array Value} {w : World} {b : Nat} {r : Nat → Int} {s : Nat → Bool} {m : Int} {x : Value} (hp : tmps.getD q undef = .pointer (some ⟨b, 0, none⟩)) (ht : tmps.getD t undef = x) (hr : Cv w b r s m) :
    (results fn tmps).run Try.prog w = .ok (.tuple #[.agg (cva r s m), x]) w := by
  simp only [results, h]
  simp only [Array.getD_eq_getD_getElem?] at hp ht
  simp [hp, ht, asAddr, run_loadVar_cv hr]
end Go.Proofs.Yteeokegkbhpbcaa

namespace Go.Proofs.Yteeokegkbhpbcaa
open Go.RowKit
set_option linter.unusedVariables false
set_option linter.unusedSimpArgs false
set_option maxRecDepth 100000

set_option maxHeartbeats 4000000 in
theorem with_f (r : Nat → Int) (s : Nat → Bool) (m : Int) (c : Int) (g : Int) (w : World) (hc : c < 0 ∨ 3 ≤ c ∨ (0 ≤ c ∧ c < 3 ∧ r c.toNat = 0)) :
    Calls Try.prog 53 #[.agg (cva r s m), .int .i64 c, .int .i64 g] w (Mk w (.tuple #[.agg (cva r s m), .bool false])) := by
  obtain ⟨b9, hg⟩ : ∃ g, w.heap.size = g := ⟨_, rfl⟩
  have HG := Lib.hid hg
  have TT := Lib.hid (Below.al (Below.al (Below.refl w.heap.size w) (.cells (cva r s m) 49)) (.cells (cva r0 s0 0) 49))
  have CC := Lib.hid (Cv.al (Cv.new w r s m hg) (.cells (cva r0 s0 0) 49))
  have RR := Lib.hid (Cv.new (w.alloc (.cells (cva r s m) 49)) r0 s0 0 (show _ = b9 + 1 from by simp [hg]))
  go_enter Try.func53, Try.ntmps53
  go_upto_region 1 with fail
  clear hg
  have e0 : cva r0 s0 0 = #[.int .i64 0, .int .i64 0, .int .i64 0, .bool false, .bool false, .bool false, .bool false, .bool false, .bool false, .bool false, .bool false, .bool false, .bool false, .bool false, .bool false, .bool false, .bool false, .bool false, .bool false, .bool false, .bool false, .bool false, .bool false, .bool false, .bool false, .bool false, .bool false, .int .i64 0] := rfl
  rw [e0] at TT CC RR
  clear e0
  try simp only [World.size_alloc, HG.out]
  generalize (w.alloc _).alloc _ = w0 at *
  by_cases h1 : c < 0
  case pos =>
    clear hc
    go_wp2_with (first | (with_reducible refine wpList_load_cv CC.out rfl ?_) | (with_reducible refine wpList_store_cv RR.out rfl rfl ?_))
    intro wz hz ho
    have RZ := Lib.hid hz
    have TZ := Lib.hid (Out.below TT.out ho (by have := HG.out; omega))
    clear hz ho
    go_wp2_with fail
    exact bodyPost_ret (results_cvb rfl rfl rfl RZ.out) rfl ⟨rfl, TZ.out⟩
  by_cases h2 : 3 ≤ c
  case pos =>
    clear hc
    go_wp2_with (first | (with_reducible refine wpList_load_cv CC.out rfl ?_) | (with_reducible refine wpList_store_cv RR.out rfl rfl ?_))
    intro wz hz ho
    have RZ := Lib.hid hz
    have TZ := Lib.hid (Out.below TT.out ho (by have := HG.out; omega))
    clear hz ho
    go_wp2_with fail
    exact bodyPost_ret (results_cvb rfl rfl rfl RZ.out) rfl ⟨rfl, TZ.out⟩
  have h3 : r c.toNat = 0 := by omega
  obtain ⟨k, rfl⟩ : ∃ k : Nat, c = (k : Int) := ⟨c.toNat, by omega⟩
  rw [Int.toNat_natCast] at h3
  have hk3 : k < 3 := by omega
  have q1 : (r k == 0) = true := by rw [h3]; rfl
  have y1 := (Cv.room CC.out hk3).1
  clear hc h3
  go_wp2_with (first | (with_reducible refine wpList_load_cv CC.out rfl ?_) | (with_reducible refine wpList_store_cv RR.out rfl rfl ?_))
  intro wz hz ho
  have RZ := Lib.hid hz
  have TZ := Lib.hid (Out.below TT.out ho (by have := HG.out; omega))
  clear hz ho
  go_wp2_with fail
  exact bodyPost_ret (results_cvb rfl rfl rfl RZ.out) rfl ⟨rfl, TZ.out⟩
set_option maxHeartbeats 4000000 in
theorem with_t (r : Nat → Int) (s : Nat → Bool) (m : Int) (c g : Nat) (w : World) (hc : c < 3) (hg8 : g < 8) (hr : r c ≠ 0) (hr2 : -1000 ≤ r c ∧ r c ≤ 1000) (hm : -1000 ≤ m ∧ m ≤ 1000) :
    Calls Try.prog 53 #[.agg (cva r s m), .int .i64 c, .int .i64 g] w (Mk w (.tuple #[.agg (cva (upI r c (r c - 1)) (upB s (8 * c + g) true) (if s (8 * c + g) = true then m else m + 1)), .bool true])) := by
  obtain ⟨M, hM⟩ : ∃ M, (if s (8 * c + g) = true then m else m + 1) = M := ⟨_, rfl⟩
  rw [hM]
  have HM := Lib.hid hM
  clear hM
  obtain ⟨s2, hs2⟩ : ∃ s2, upB s (8 * c + g) true = s2 := ⟨_, rfl⟩
  rw [hs2]
  have HS2 := Lib.hid hs2
  clear hs2
  obtain ⟨b9, hg⟩ : ∃ g, w.heap.size = g := ⟨_, rfl⟩
  have HG := Lib.hid hg
  have TT := Lib.hid (Below.al (Below.al (Below.refl w.heap.size w) (.cells (cva r s m) 49)) (.cells (cva r0 s0 0) 49))
  have CC := Lib.hid (Cv.al (Cv.new w r s m hg) (.cells (cva r0 s0 0) 49))
  have RR := Lib.hid (Cv.new (w.alloc (.cells (cva r s m) 49)) r0 s0 0 (show _ = b9 + 1 from by simp [hg]))
  go_enter Try.func53, Try.ntmps53
  go_upto_region 1 with fail
  clear hg
  have e0 : cva r0 s0 0 = #[.int .i64 0, .int .i64 0, .int .i64 0, .bool false, .bool false, .bool false, .bool false, .bool false, .bool false, .bool false, .bool false, .bool false, .bool false, .bool false, .bool false, .bool false, .bool false, .bool false, .bool false, .bool false, .bool false, .bool false, .bool false, .bool false, .bool false, .bool false, .bool false, .int .i64 0] := rfl
  rw [e0] at TT CC RR
  clear e0
  try simp only [World.size_alloc, HG.out]
  generalize (w.alloc _).alloc _ = w0 at *
  have hci : (c : Int) < 3 := by omega
  have hgi : (g : Int) < 8 := by omega
  have q1 : (r c == 0) = false := beq_false_of_ne hr
  obtain ⟨y1, yf⟩ := Cv.room CC.out hc
  have hw : -9223372036854775808 ≤ r c - 1 ∧ r c - 1 ≤ 9223372036854775807 := by omega
  go_upto_region 4 with fail
  have C1 := Lib.hid (Cv.setRoom CC.out (r c - 1) hc)
  have R1 := Lib.hid (Cv.far (c := b9) (j := c) (u := .int .i64 (r c - 1)) RR.out (by omega))
  have T1 := Lib.hid (Below.st (p := ⟨b9, c, none⟩) TT.out (by have := HG.out; show _ ≤ b9; omega) (.int .i64 (r c - 1)))
  clear y1 yf hw q1 CC RR TT
  generalize w0.setCell ⟨b9, c, none⟩ (.int .i64 (r c - 1)) = w1 at *
  generalize upI r c (r c - 1) = r2 at *
  obtain ⟨y2, yf2⟩ := Cv.stop C1.out hc hg8
  cases hS : s (8 * c + g)
  case true =>
    rw [hS] at y2 HM
    obtain rfl : m = M := HM.out
    obtain rfl : s = s2 := (up_same hS).symm.trans HS2.out
    clear hS HS2
    go_upto_region 7 with fail
    clear y2 yf2
    go_wp2_with (first | (with_reducible refine wpList_load_cv C1.out rfl ?_) | (with_reducible refine wpList_store_cv R1.out rfl rfl ?_))
    intro wz hz ho
    have RZ := Lib.hid hz
    have TZ := Lib.hid (Out.below T1.out ho (by have := HG.out; omega))
    clear hz ho
    go_wp2_with fail
    exact bodyPost_ret (results_cvb rfl rfl rfl RZ.out) rfl ⟨rfl, TZ.out⟩
  case false =>
    rw [hS] at y2 HM
    obtain rfl : m + 1 = M := HM.out
    clear hS
    go_upto_region 6 with fail
    have C2 := Lib.hid (Cv.setStop C1.out true hc hg8)
    rw [HS2.out] at C2
    have R2 := Lib.hid (Cv.far (c := b9) (j := 3 + c * 8 + g) (u := .bool true) R1.out (by omega))
    have T2 := Lib.hid (Below.st (p := ⟨b9, 3 + c * 8 + g, none⟩) T1.out (by have := HG.out; show _ ≤ b9; omega) (.bool true))
    clear y2 yf2 C1 R1 T1
    generalize w1.setCell ⟨b9, 3 + c * 8 + g, none⟩ (.bool true) = w2 at *
    obtain ⟨y3, yf3⟩ := Cv.many C2.out
    have hw : -9223372036854775808 ≤ m + 1 ∧ m + 1 ≤ 9223372036854775807 := by omega
    go_upto_region 7 with fail
    have C3 := Lib.hid (Cv.setMany C2.out (m + 1))
    have R3 := Lib.hid (Cv.far (c := b9) (j := 27) (u := .int .i64 (m + 1)) R2.out (by omega))
    have T3 := Lib.hid (Below.st (p := ⟨b9, 27, none⟩) T2.out (by have := HG.out; show _ ≤ b9; omega) (.int .i64 (m + 1)))
    clear y3 yf3 hw C2 R2 T2
    generalize w2.setCell ⟨b9, 27, none⟩ (.int .i64 (m + 1)) = w3 at *
    go_wp2_with (first | (with_reducible refine wpList_load_cv C3.out rfl ?_) | (with_reducible refine wpList_store_cv R3.out rfl rfl ?_))
    intro wz hz ho
    have RZ := Lib.hid hz
    have TZ := Lib.hid (Out.below T3.out ho (by have := HG.out; omega))
    clear hz ho
    go_wp2_with fail
    exact bodyPost_ret (results_cvb rfl rfl rfl RZ.out) rfl ⟨rfl, TZ.out⟩
end Go.Proofs.Yteeokegkbhpbcaa

namespace Go.Proofs.Yteeokegkbhpbcaa
open Go.RowKit
set_option linter.unusedVariables false
set_option linter.unusedSimpArgs false
set_option maxRecDepth 100000

theorem ints_cellsP {w : World} {b off : Nat} {xs : List Int} (h : Ints w b off xs) : ∀ j u, (xs.map (Value.int .i64))[j]? = some u → w.cell? ((⟨b, off, none⟩ : Addr).add j) = some u := fun j u hu => by
  have hj : j < xs.length := by
    have := List.getElem?_eq_some_iff.1 hu
    obtain ⟨h1, _⟩ := this
    simpa using h1
  have := h j hj
  rw [List.getElem?_map, List.getElem?_eq_getElem hj] at hu
  simp at hu
  subst hu
  by_cases e : j = 0
  · subst e; simpa [Addr.add, nth_eq hj] using this
  · simpa [Addr.add, e, nth_eq hj] using this
theorem results_cv {fn : Func} {q : Tmp} (h : fn.results = #[.cell q 49]) {tmps : Array Value} {w : World} {b : Nat} {r : Nat → Int} {s : Nat → Bool} {m : Int} (hp : tmps.getD q undef = .pointer (some ⟨b, 0, none⟩)) (hr : Cv w b r s m) :
    (results fn tmps).run Try.prog w = .ok (.agg (cva r s m)) w := by
  simp only [results, h]
  simp only [Array.getD_eq_getD_getElem?] at hp
  simp [hp, asAddr, run_loadVar_cv hr]
theorem copy_cv {w : World} {b : Nat} {rs : List Int} (h : Cv w b r0 s0 0) (h1 : 1 ≤ rs.length) (h3 : rs.length ≤ 3) : Cv (w.setCells b 0 (rs.map (Value.int .i64))) b (fun c => nth rs c) s0 0 := by
  match rs, h1, h3 with
  | [x], _, _ => exact Cv.setRoom h x (by decide)
  | [x, y], _, _ => exact Cv.setRoom (Cv.setRoom h x (c := 0) (by decide)) y (c := 1) (by decide)
  | [x, y, z], _, _ => exact Cv.setRoom (Cv.setRoom (Cv.setRoom h x (c := 0) (by decide)) y (c := 1) (by decide)) z (c := 2) (by decide)
theorem wpList_copy_cv {w : World} {ops : Array Oper} {rest : List Oper} {p : Oper} {act : Act} {Q : Exit → Act → World → Prop} {b n k : Nat} {a : Option Addr} {rs : List Int} (hgd : Region.wanted p (yielded ops act.tmps) = true) (y x : Operand)
    (hp : p.op = .call { callee := .builtin .copy, args := #[y, x], argTypes := #[23, 23] }) (hy : act.eval y = .slice (some ⟨b, 0, none⟩) 3 3) (hx : act.eval x = .slice a n k)
    (h : Cv w b r0 s0 0) (hs : Sl w a rs) (hl : rs.length = n) (h1 : 1 ≤ n) (h3 : n ≤ 3)
    (hK : ∀ w', Cv w' b (fun c => nth rs c) s0 0 → Out b (b + 1) w w' → wpList Try.prog ops Q rest (act.put p.dst (goInt n)) w') :
    wpList Try.prog ops Q (p :: rest) act w := by
  obtain ⟨i0, hi, hz0, hz1, hz2⟩ := info_parts infoInt
  obtain ⟨b2, o2, rfl, hI⟩ := Sl.at hs (k := 0) (by omega)
  have hcs : (rs.map (Value.int .i64)).length = n := by rw [List.length_map, hl]
  have hrun := run_copy_cells (P := Try.prog) w 23 23 p.type 3 b 0 3 3 ⟨b2, o2, none⟩ n k (rs.map (Value.int .i64)) Try.underlying23 (by rw [hi]; simp [hz1]) (by rw [hcs]; exact (Nat.min_eq_left h3).symm) (ints_cellsP hI) (fun j hj => by
    rw [Nat.zero_add, (h.2 j _ (List.getElem?_eq_getElem (show j < (cvl r0 s0 0).length from by rw [hcs] at hj; simp [cvl]; omega))).1]; rfl) (fun j hj => by
    rw [Nat.zero_add]; exact (h.2 j _ (List.getElem?_eq_getElem (show j < (cvl r0 s0 0).length from by rw [hcs] at hj; simp [cvl]; omega))).2) (by intro u hu; simp at hu; obtain ⟨a, _, rfl⟩ := hu; rfl)
  rw [hcs] at hrun
  refine wpList_step fun K hK2 => ?_
  rw [if_pos hgd]
  unfold Oper.wp execOp
  simp only [hp, resolve, invoke, builtin, Sem.run_bind, Sem.run_pure, Result.andThen_ok, List.map_toArray, List.map_cons, List.map_nil, hy, hx, hrun]
  exact hK2 _ _ (hK _ (copy_cv h (by omega) (by omega)) (out_cells _ _ _ _))
set_option maxHeartbeats 4000000 in
theorem emptyCars_c (a1 : Option Addr) (n1 c1 : Nat) (rs : List Int) (w : World) (hs : Sl w a1 rs) (hl : rs.length = n1) (h1 : 1 ≤ n1) (h3 : n1 ≤ 3) :
    Calls Try.prog 43 #[.slice a1 n1 c1] w (Mk w (.agg (cva (fun c => nth rs c) s0 0))) := by
  obtain ⟨b9, hg⟩ : ∃ g, w.heap.size = g := ⟨_, rfl⟩
  have HG := Lib.hid hg
  have HL := Lib.hid hl
  have TT := Lib.hid (Below.al (Below.al (Below.refl w.heap.size w) (.cells (cva r0 s0 0) 49)) (.cells (cva r0 s0 0) 49))
  have RR := Lib.hid (Cv.al (Cv.new w r0 s0 0 hg) (.cells (cva r0 s0 0) 49))
  have CC := Lib.hid (Cv.new (w.alloc (.cells (cva r0 s0 0) 49)) r0 s0 0 (show _ = b9 + 1 from by simp [hg]))
  have SS := Lib.hid (Sl.below hs (Below.al (Below.al (Below.refl w.heap.size w) (.cells (cva r0 s0 0) 49)) (.cells (cva r0 s0 0) 49)))
  clear hs hl
  go_enter Try.func43, Try.ntmps43
  go_upto_region 2 with fail
  clear hg
  have e0 : cva r0 s0 0 = #[.int .i64 0, .int .i64 0, .int .i64 0, .bool false, .bool false, .bool false, .bool false, .bool false, .bool false, .bool false, .bool false, .bool false, .bool false, .bool false, .bool false, .bool false, .bool false, .bool false, .bool false, .bool false, .bool false, .bool false, .bool false, .bool false, .bool false, .bool false, .bool false, .int .i64 0] := rfl
  rw [e0] at TT CC RR SS
  clear e0
  try simp only [World.size_alloc, HG.out]
  generalize (w.alloc _).alloc _ = w0 at *
  go_wp2_with (refine wpList_copy_cv rfl _ _ rfl rfl rfl CC.out SS.out HL.out h1 h3 ?_)
  intro w1 hz ho
  have C1 := Lib.hid hz
  have R1 := Lib.hid (Cv.out RR.out ho (.inl (by omega)))
  have T1 := Lib.hid (Out.below TT.out ho (by have := HG.out; omega))
  clear hz ho TT CC RR SS
  go_wp2_with (first | (with_reducible refine wpList_load_cv C1.out rfl ?_) | (with_reducible refine wpList_store_cv R1.out rfl rfl ?_))
  intro wz hz ho
  have RZ := Lib.hid hz
  have TZ := Lib.hid (Out.below T1.out ho (by have := HG.out; omega))
  clear hz ho
  go_wp2_with fail
  exact bodyPost_ret (results_cv rfl rfl RZ.out) rfl ⟨rfl, TZ.out⟩
end Go.Proofs.Yteeokegkbhpbcaa

namespace Go.Proofs.Yteeokegkbhpbcaa
open Go.RowKit
set_option linter.unusedVariables false
set_option linter.unusedSimpArgs false
set_option maxRecDepth 100000

theorem wpList_store_cv0 {w : World} {ops : Array Oper} {rest : List Oper} {act : Act} {Q : Exit → Act → World → Prop} {y x : Operand} {ty0 : TypeId} {ps : String} {af : Array Edge} {b : Nat} {r2 : Nat → Int} {s2 : Nat → Bool} {m2 : Int}
    (h : Cv w b r2 s2 m2) (hs : act.eval y = .pointer (some ⟨b, 0, none⟩)) (hx : act.eval x = .agg #[.int .i64 0, .int .i64 0, .int .i64 0, .bool false, .bool false, .bool false, .bool false, .bool false, .bool false, .bool false, .bool false, .bool false, .bool false, .bool false, .bool false, .bool false, .bool false, .bool false, .bool false, .bool false, .bool false, .bool false, .bool false, .bool false, .bool false, .bool false, .bool false, .int .i64 0]) (hK : ∀ w', Cv w' b r0 s0 0 → Out b (b + 1) w w' → wpList Try.prog ops Q rest act w') :
    wpList Try.prog ops Q ({ dst := none, op := .store 49 y x, type := ty0, pos := ps, after := af, guard := none } :: rest) act w :=
  wpList_store_cv (r := r0) (s := s0) (m := 0) h hs hx hK
theorem exec_load_cv {w : World} {vs : Nat → Value} {o : Oper} {b : Nat} {r : Nat → Int} {s : Nat → Bool} {m : Int} (x : Operand) (hop : o.op = .load 49 x) (hs : evOf vs x = .pointer (some ⟨b, 0, none⟩)) (h : Cv w b r s m) :
    (execOp (evOf vs) o).run Try.prog w = .ok (.value (.agg (cva r s m))) w := by
  unfold execOp
  simp only [hop, hs, Instr.loadAt, Instr.sureAddr, Sem.run_bind, Sem.run_pure, Result.andThen_ok, run_loadVar_cv h]
theorem exec_store_cv {w : World} {vs : Nat → Value} {o : Oper} {b : Nat} {r r2 : Nat → Int} {s s2 : Nat → Bool} {m m2 : Int} (y x : Operand) (hop : o.op = .store 49 y x) (hs : evOf vs y = .pointer (some ⟨b, 0, none⟩)) (hx : evOf vs x = .agg (cva r s m)) (h : Cv w b r2 s2 m2) :
    ∃ w', (execOp (evOf vs) o).run Try.prog w = .ok .skip w' ∧ Cv w' b r s m ∧ Out b (b + 1) w w' := by
  obtain ⟨w', hr, h2, h3⟩ := run_storeVar_cv (r := r) (s := s) (m := m) h
  refine ⟨w', ?_, h2, h3⟩
  unfold execOp
  simp only [hop, hs, hx, Instr.storeAt, Instr.sureAddr, Sem.run_bind, Sem.run_pure, Result.andThen_ok, hr]
theorem stepI_store_cv {I : (Nat → Bool) → (Nat → Value) → World → Prop} {ln : Nat → Bool} {w : World} {vs : Nat → Value} {o : Oper} {b : Nat} {r r2 : Nat → Int} {s s2 : Nat → Bool} {m m2 : Int} (y x : Operand) (hop : o.op = .store 49 y x) (hs : evOf vs y = .pointer (some ⟨b, 0, none⟩)) (hx : evOf vs x = .agg (cva r s m)) (h : Cv w b r2 s2 m2)
    (hI : ∀ w', Cv w' b r s m → Out b (b + 1) w w' → I ln (updV vs o.dst undef) w') : StepI Try.prog I ln vs o.dst ((execOp (evOf vs) o).run Try.prog w) := by
  obtain ⟨w', hr, h2, h3⟩ := exec_store_cv y x hop hs hx h
  rw [hr]
  exact hI w' h2 h3
theorem cntU_le1 {rs ps : List Int} {k c : Nat} (h : PFit rs ps k) : rmU rs ps k c ≤ nth rs c := by
  have := (cntU_bd ps c k).1
  unfold rmU; omega
theorem room_le {gs rs : List Int} (h : HOk gs rs) (c : Nat) : 0 ≤ nth rs c ∧ nth rs c ≤ 8 := by
  by_cases g : c < rs.length
  · exact h.2.1 c g
  · rw [nth_far (by omega)]; omega
/-- One more rider: what `with` gives. -/
theorem with_step {gs rs ps : List Int} {k : Nat} {p gl : Int} (hok : HOk gs rs) (hk : k < gs.length) (hp : PFit rs ps k) (hpk : nth ps k = p) (hgl : nth gs k = gl) :
    ∃ (r2 : Nat → Int) (s2 : Nat → Bool) (m2 : Int) (z : Bool), (∀ w', Calls Try.prog 53 #[.agg (cva (rmU rs ps k) (spU gs ps k) (hsU gs ps k)), .int .i64 p, .int .i64 gl] w' (Mk w' (.tuple #[.agg (cva r2 s2 m2), .bool z]))) ∧
      ((z = true ∧ 0 ≤ p ∧ p < 3 ∧ rmU rs ps k p.toNat ≠ 0 ∧ r2 = rmU rs ps (k + 1) ∧ s2 = spU gs ps (k + 1) ∧ m2 = hsU gs ps (k + 1) ∧ PFit rs ps (k + 1)) ∨ (z = false ∧ (p < 0 ∨ 3 ≤ p ∨ rmU rs ps k p.toNat = 0) ∧ ¬ PFit rs ps (k + 1))) := by
  by_cases hc : p < 0 ∨ 3 ≤ p ∨ rmU rs ps k p.toNat = 0
  · exact ⟨_, _, _, false, fun w' => with_f _ _ _ p gl w' (by omega), .inr ⟨rfl, hc, PFit.full hok.2.2.2.2 hpk hc⟩⟩
  · obtain ⟨c, rfl⟩ : ∃ c : Nat, p = (c : Int) := ⟨p.toNat, by omega⟩
    have h8 := hok.1 k hk
    rw [hgl] at h8
    obtain ⟨g, rfl⟩ : ∃ g : Nat, gl = (g : Int) := ⟨gl.toNat, by omega⟩
    rw [Int.toNat_natCast] at hc
    have hg8 : g < 8 := by omega
    have h1 := hp.room (c := c)
    have h2 := cntU_le1 hp (c := c)
    have h3 := room_le hok c
    have h4 := hsU_bd gs ps k
    have h5 := hok.2.2.1
    refine ⟨rmU rs ps (k + 1), spU gs ps (k + 1), hsU gs ps (k + 1), true, fun w' => ?_, .inl ⟨rfl, by omega, by omega, by rw [Int.toNat_natCast]; omega, rfl, rfl, rfl, PFit.next hp hpk (by omega)⟩⟩
    have K := with_t (rmU rs ps k) (spU gs ps k) (hsU gs ps k) c g w' (by omega) hg8 (by omega) (by omega) (by omega)
    rw [← rm_step hpk, ← sp_step hpk hgl hg8, ← hs_step hpk hgl hg8] at K
    exact K
noncomputable def pR (gs rs ps : List Int) : Nat → Int := @ite _ (HFit gs rs ps) (Classical.propDecidable _) (rmU rs ps gs.length) r0
noncomputable def pS (gs rs ps : List Int) : Nat → Bool := @ite _ (HFit gs rs ps) (Classical.propDecidable _) (spU gs ps gs.length) s0
noncomputable def pM (gs rs ps : List Int) : Int := @ite _ (HFit gs rs ps) (Classical.propDecidable _) (hsU gs ps gs.length) 0
theorem p_t {gs rs ps : List Int} (h : HFit gs rs ps) : pR gs rs ps = rmU rs ps gs.length ∧ pS gs rs ps = spU gs ps gs.length ∧ pM gs rs ps = hsU gs ps gs.length ∧ hfB gs rs ps = true := ⟨if_pos h, if_pos h, if_pos h, tr_true h⟩
theorem p_f {gs rs ps : List Int} (h : ¬ HFit gs rs ps) : pR gs rs ps = r0 ∧ pS gs rs ps = s0 ∧ pM gs rs ps = 0 ∧ hfB gs rs ps = false := ⟨if_neg h, if_neg h, if_neg h, tr_false h⟩
theorem rm_zero (rs ps : List Int) : rmU rs ps 0 = fun c => nth rs c := by funext c; simp [rmU, cntU]
theorem sp_zero (gs ps : List Int) : spU gs ps 0 = s0 := by funext c; rfl

/-- The state of putAll's drawn region. -/
def RP (wn : World) (cb : Nat) (sl pt iv gv pi pv : Value) (r r2 : Nat → Int) (s s2 : Nat → Bool) (m m2 : Int) (z : Bool) (ln : Nat → Bool) (vs : Nat → Value) (wx : World) : Prop :=
  Out cb (cb + 1) wn wx ∧ vs 2 = sl ∧ vs 8 = pt ∧ vs 10 = iv ∧ vs 11 = gv ∧ (ln 0 = true → vs 34 = .agg (cva r s m)) ∧ (ln 1 = true → vs 35 = sl) ∧ (ln 2 = true → vs 36 = iv) ∧ (ln 3 = true → vs 37 = pi) ∧ (ln 4 = true → vs 38 = pv) ∧ (ln 5 = true → vs 39 = gv) ∧ (ln 6 = true → vs 40 = .tuple #[.agg (cva r2 s2 m2), .bool z] ∧ ln 0 = true) ∧ (ln 7 = true → vs 33 = .tuple #[.agg (cva r2 s2 m2), .bool z] ∧ ln 0 = true) ∧ (ln 8 = true → vs 41 = .agg (cva r2 s2 m2) ∧ ln 0 = true) ∧ (ln 9 = true → vs 42 = .bool z) ∧ ((ln 10 = true → ln 0 = true ∧ Cv wx cb r2 s2 m2) ∧ (ln 10 = false → Cv wx cb r s m)) ∧ (ln 11 = true → vs 9 = .bool z)
set_option maxRecDepth 100000 in
set_option maxHeartbeats 4000000 in
theorem putAll_c (a1 : Option Addr) (n1 c1 : Nat) (gs : List Int) (a2 : Option Addr) (n2 c2 : Nat) (rs : List Int) (a3 : Option Addr) (n3 c3 : Nat) (ps : List Int) (w : World) (hs : Sl w a1 gs) (hl : gs.length = n1) (hs2 : Sl w a2 rs) (hl2 : rs.length = n2) (hs3 : Sl w a3 ps) (hl3 : ps.length = n3) (hm : n1 ≤ 1048577) (hm2 : n2 ≤ 1048577) (hm3 : n3 ≤ 1048577) (k1 : n1 ≤ c1 ∧ c1 ≤ 9223372036854775807) (k2 : n2 ≤ c2 ∧ c2 ≤ 9223372036854775807) (k3 : n3 ≤ c3 ∧ c3 ≤ 9223372036854775807) :
    Calls Try.prog 41 #[.slice a1 n1 c1, .slice a2 n2 c2, .slice a3 n3 c3] w (Mk w (.tuple #[.agg (cva (pR gs rs ps) (pS gs rs ps) (pM gs rs ps)), .bool (hfB gs rs ps)])) := by
  obtain ⟨R, hR⟩ : ∃ R, pR gs rs ps = R := ⟨_, rfl⟩
  obtain ⟨SS, hS⟩ : ∃ S, pS gs rs ps = S := ⟨_, rfl⟩
  obtain ⟨M, hM⟩ : ∃ M, pM gs rs ps = M := ⟨_, rfl⟩
  obtain ⟨Z, hZ⟩ : ∃ Z, hfB gs rs ps = Z := ⟨_, rfl⟩
  rw [hR, hS, hM, hZ]
  have HT := Lib.hid (show HFit gs rs ps → R = rmU rs ps n1 ∧ SS = spU gs ps n1 ∧ M = hsU gs ps n1 ∧ Z = true from fun h => by
    obtain ⟨e1, e2, e3, e4⟩ := p_t h
    rw [hl] at e1 e2 e3
    exact ⟨hR.symm.trans e1, hS.symm.trans e2, hM.symm.trans e3, hZ.symm.trans e4⟩)
  have HF := Lib.hid (show ¬ HFit gs rs ps → R = r0 ∧ SS = s0 ∧ M = 0 ∧ Z = false from fun h => by
    obtain ⟨e1, e2, e3, e4⟩ := p_f h
    exact ⟨hR.symm.trans e1, hS.symm.trans e2, hM.symm.trans e3, hZ.symm.trans e4⟩)
  obtain ⟨P, hP⟩ : ∃ P, hokB gs rs = P := ⟨_, rfl⟩
  have K0 := fun w' (h : Sl w' a1 gs) (h2 : Sl w' a2 rs) => iHallOk_c a1 n1 c1 gs a2 n2 c2 rs w' h hl h2 hl2 hm hm2 k1 k2
  rw [hP] at K0
  have H0 := Lib.hid K0
  have HP := Lib.hid hP
  have HL := Lib.hid hl
  have HL2 := Lib.hid hl2
  have HL3 := Lib.hid hl3
  have HBX := Lib.hid (Sl.lt hs)
  have HBY := Lib.hid (Sl.lt hs2)
  have HBZ := Lib.hid (Sl.lt hs3)
  clear K0 hP hl hl2 hl3 hR hS hM hZ k1 k2 k3
  obtain ⟨g9, hg⟩ : ∃ g, w.heap.size = g := ⟨_, rfl⟩
  have HG := Lib.hid hg
  have hwg : w.heap.size ≤ g9 := by omega
  have T := Lib.hid (Below.al (Below.refl w.heap.size w) (.cells (cva r0 s0 0) 49))
  have RB := Lib.hid (Cv.new w r0 s0 0 hg)
  have bb := Below.al (Below.refl w.heap.size w) (.cells (cva r0 s0 0) 49)
  have X := Lib.hid (Sl.below hs bb)
  have Y := Lib.hid (Sl.below hs2 bb)
  have Z3 := Lib.hid (Sl.below hs3 bb)
  have HBZ3 := HBZ
  clear bb hs hs2 hs3 HBZ
  go_enter Try.func41, Try.ntmps41
  go_upto_region 1 with fail
  clear hg
  have e0 : cva r0 s0 0 = #[.int .i64 0, .int .i64 0, .int .i64 0, .bool false, .bool false, .bool false, .bool false, .bool false, .bool false, .bool false, .bool false, .bool false, .bool false, .bool false, .bool false, .bool false, .bool false, .bool false, .bool false, .bool false, .bool false, .bool false, .bool false, .bool false, .bool false, .bool false, .bool false, .int .i64 0] := rfl
  rw [e0] at T RB X Y Z3
  clear e0
  try simp only [World.size_alloc, HG.out]
  generalize w.alloc _ = wn at *
  go_wp2_with fail
  refine Calls.mono (H0.out _ X.out Y.out) ?_
  intro e wn hh
  obtain ⟨he, hb⟩ := (by first | exact hh | exact Ro.mk hh | exact St.mk hh | exact LawOk.mk' hh : Mk _ _ e wn)
  subst he
  have Tn : Hid (Below w.heap.size w wn) := below_next T.out hb
  have Xn : Hid _ := Sl.below X.out hb
  have Yn : Hid _ := Sl.below Y.out hb
  have Z3n : Hid _ := Sl.below Z3.out hb
  have RBn : Hid _ := Cv.below RB.out hb
  clear hb hh
  clear T X Y Z3 RB
  have T := Tn
  have X := Xn
  have Y := Yn
  have Z3 := Z3n
  have RB := RBn
  clear Tn Xn Yn Z3n RBn
  cases P
  case false =>
    obtain ⟨rfl, rfl, rfl, rfl⟩ := HF.out (fun h => by have := tr_true h.1; rw [show tr (HOk gs rs) = false from HP.out] at this; cases this)
    clear HT HF
    go_wp2_with (refine wpList_store_cv0 RB.out (by rfl) (by rfl) ?_)
    intro wz hz ho
    have RZ := Lib.hid hz
    have TZ := Lib.hid (Out.below T.out ho (by omega))
    clear hz ho
    go_wp2_with fail
    exact bodyPost_ret (results_cvb rfl rfl rfl RZ.out) rfl ⟨rfl, TZ.out⟩
  by_cases h31 : n3 = n1
  case neg =>
    have q1 : ((n3 : Int) == (n1 : Int)) = false := beq_false_of_ne (by omega)
    have q2 : ((n3 : Int) != (n1 : Int)) = true := by rw [bne, q1]; rfl
    obtain ⟨rfl, rfl, rfl, rfl⟩ := HF.out (fun h => h31 (by have := (hfit_iff.1 h).2.1; rw [HL.out, HL3.out] at this; exact this))
    clear h31 HT HF
    go_wp2_with (refine wpList_store_cv0 RB.out (by rfl) (by rfl) ?_)
    intro wz hz ho
    have RZ := Lib.hid hz
    have TZ := Lib.hid (Out.below T.out ho (by omega))
    clear hz ho
    go_wp2_with fail
    exact bodyPost_ret (results_cvb rfl rfl rfl RZ.out) rfl ⟨rfl, TZ.out⟩
  subst h31
  have hok : HOk gs rs := tr_t.1 HP.out
  have HOK := Lib.hid hok
  have hn2 : 1 ≤ n2 ∧ n2 ≤ 3 := by rw [← HL2.out]; exact hok.2.2.2
  have hn3 : n3 ≤ 6 := by rw [← HL.out]; exact hok.2.2.1
  clear hok
  go_wp2_with fail
  refine Calls.mono (emptyCars_c a2 n2 c2 rs _ Y.out HL2.out hn2.1 hn2.2) ?_
  intro e wn hh
  obtain ⟨he, hb⟩ := (by first | exact hh | exact Ro.mk hh | exact St.mk hh | exact LawOk.mk' hh : Mk _ _ e wn)
  subst he
  have Tn : Hid (Below w.heap.size w wn) := below_next T.out hb
  have Xn : Hid _ := Sl.below X.out hb
  have Yn : Hid _ := Sl.below Y.out hb
  have Z3n : Hid _ := Sl.below Z3.out hb
  have RBn : Hid _ := Cv.below RB.out hb
  clear hb hh
  clear T X Y Z3 RB
  have T := Tn
  have X := Xn
  have Y := Yn
  have Z3 := Z3n
  have RB := RBn
  clear Tn Xn Yn Z3n RBn
  obtain ⟨cb, hcb⟩ : ∃ cb, wn.heap.size = cb := ⟨_, rfl⟩
  have hgc : g9 < cb := by rw [← hcb]; exact Cv.lt RB.out
  have hwc : w.heap.size ≤ cb := by omega
  have CN := Lib.hid (Cv.new wn r0 s0 0 hcb)
  rw [show cva r0 s0 0 = #[.int .i64 0, .int .i64 0, .int .i64 0, .bool false, .bool false, .bool false, .bool false, .bool false, .bool false, .bool false, .bool false, .bool false, .bool false, .bool false, .bool false, .bool false, .bool false, .bool false, .bool false, .bool false, .bool false, .bool false, .bool false, .bool false, .bool false, .bool false, .bool false, .int .i64 0] from rfl] at CN
  go_wp2_with (with_reducible refine wpList_store_cv CN.out rfl rfl ?_)
  intro w1 hz ho
  have CB := Lib.hid (show Cv w1 cb (rmU rs ps 0) (spU gs ps 0) (hsU gs ps 0) from by rw [rm_zero, sp_zero]; exact hz)
  have hq : Below wn.heap.size wn w1 := Out.below (Below.al (Below.refl _ _) _) ho (by omega)
  clear CN hz ho hcb
  have Tn := Lib.hid (below_next T.out hq)
  have Xn := Lib.hid (Sl.below X.out hq)
  have Yn := Lib.hid (Sl.below Y.out hq)
  have Z3n := Lib.hid (Sl.below Z3.out hq)
  have RBn := Lib.hid (Cv.below RB.out hq)
  clear hq
  clear T X Y Z3 RB
  have T := Tn
  have X := Xn
  have Y := Yn
  have Z3 := Z3n
  have RB := RBn
  clear Tn Xn Yn Z3n RBn
  obtain ⟨wn, hwq⟩ : ∃ w0, w0 = w1 := ⟨_, rfl⟩
  subst hwq
  go_wp2_with fail
  go_loopw [28] (fun v wr => ∃ (k : Nat), k ≤ n3 ∧ v = .int .i64 k ∧ PFit rs ps k ∧ Below w.heap.size w wr ∧ Sl wr a1 gs ∧ Sl wr a2 rs ∧ Sl wr a3 ps ∧ Cv wr g9 r0 s0 0 ∧ Cv wr cb (rmU rs ps k) (spU gs ps k) (hsU gs ps k)) (fun v _ => n3 - (intOf v).toNat)
  case atStart => exact ⟨0, by omega, rfl, ⟨fun i hi => by omega, fun c hc => by have := (room_le HOK.out c).1; simpa [cntU] using this⟩, T.out, X.out, Y.out, Z3.out, RB.out, CB.out⟩
  case' round =>
    clear T X Y Z3 RB CB
    obtain ⟨k, hk, rfl, hpf, h9T, h9X, h9Y, h9Z3, h9RB, h9CB⟩ := hrel
    obtain ⟨wn, hwq⟩ : ∃ w0 : World, w0 = wr := ⟨_, rfl⟩
    rw [← hwq] at h9T h9X h9Y h9Z3 h9RB h9CB ⊢
    clear hwq
    have T := Lib.hid h9T
    have X := Lib.hid h9X
    have Y := Lib.hid h9Y
    have Z3 := Lib.hid h9Z3
    have RB := Lib.hid h9RB
    have CB := Lib.hid h9CB
    clear h9T h9X h9Y h9Z3 h9RB h9CB
    have HPF := Lib.hid hpf
    clear hpf
    by_cases hlt : k < n3
    case neg =>
      obtain rfl : k = n3 := by omega
      have hfit : HFit gs rs ps := hfit_iff.2 ⟨HOK.out, by rw [HL.out, HL3.out], by rw [HL.out]; exact HPF.out⟩
      obtain ⟨rfl, rfl, rfl, rfl⟩ := HT.out hfit
      clear HT HF hfit
      go_wp2_with (first | (with_reducible refine wpList_load_cv CB.out rfl ?_) | (with_reducible refine wpList_store_cv RB.out rfl rfl ?_))
      intro wz hz ho
      have RZ := Lib.hid hz
      have TZ := Lib.hid (Out.below T.out ho (by omega))
      clear hz ho
      go_wp2_with fail
      exact bodyPost_ret (results_cvb rfl rfl rfl RZ.out) rfl ⟨rfl, TZ.out⟩
    have hki : (k : Int) < n3 := by omega
    obtain ⟨b1, o1, rfl, hI1⟩ := Sl.at X.out (k := k) (by rw [HL.out]; exact hlt)
    have y1 := hI1 k (by rw [HL.out]; exact hlt)
    obtain ⟨b3, o3, rfl, hI3⟩ := Sl.at Z3.out (k := k) (by rw [HL3.out]; exact hlt)
    have hb3 : b3 < cb := by have := HBZ3.out b3 o3 rfl (by rw [HL3.out]; omega); omega
    obtain ⟨p, hp⟩ : ∃ p, nth ps k = p := ⟨_, rfl⟩
    obtain ⟨gl, hgl⟩ : ∃ gl, nth gs k = gl := ⟨_, rfl⟩
    rw [hgl] at y1
    obtain ⟨r2, s2, m2, z, hK, hz⟩ := with_step (p := p) (gl := gl) HOK.out (by rw [HL.out]; exact hlt) HPF.out hp hgl
    have HD := Lib.hid hK
    have HZ := Lib.hid hz
    have KC := Lib.hid (show ∀ wx, Out cb (cb + 1) wn wx → wx.cell? ⟨b3, o3 + k, none⟩ = some (.int .i64 p) from fun wx ho => by rw [← hp]; exact (Ints.out hI3 ho fun _ => .inl hb3) k (by rw [HL3.out]; exact hlt))
    clear hK hz hI1 hI3 hp hgl
    go_upto_region 7 with fail
    clear y1
    refine wp_region_inv (fun ln vs wx => RP wn cb (.slice (some ⟨b3, o3, none⟩) n3 c3) (.pointer (some ⟨cb, 0, none⟩)) (.int .i64 k) (.int .i64 gl) (.pointer (some ⟨b3, o3 + k, none⟩)) (.int .i64 p) (rmU rs ps k) r2 (spU gs ps k) s2 (hsU gs ps k) m2 z ln vs wx) [34, 35, 36, 37, 38, 39, 40, 33, 41, 42, 9]
      (by kernel_rfl) (by kernel_rfl) (by kernel_rfl) (by kernel_rfl) ⟨Out.mk' (Below.dw (Below.refl _ _)), rfl, rfl, rfl, rfl, fun h => (by cases h), fun h => (by cases h), fun h => (by cases h), fun h => (by cases h), fun h => (by cases h), fun h => (by cases h), fun h => (by cases h), fun h => (by cases h), fun h => (by cases h), fun h => (by cases h), ⟨fun h => (by cases h), fun _ => CB.out⟩, fun h => (by cases h)⟩ ?hobs ?_
    case hobs =>
      refine ⟨?_, ?_, ?_, ?_, ?_, ?_, ?_, ?_, ?_, ?_, ?_, ?_, trivial⟩
      · intro ln vs wx hn ha ⟨hI, u2, u8, u10, u11, i0, i1, i2, i3, i4, i5, i6, i7, i8, i9, i10, i11⟩
        have n10 : ln 10 = false := by
          cases e : ln 10
          · rfl
          · have := (i10.1 e).1; rw [hn] at this; cases this
        clear ha
        rw [exec_load_cv (.tmp 8) rfl u8 (i10.2 n10)]
        exact ⟨hI, u2, u8, u10, u11, fun _ => rfl, i1, i2, i3, i4, i5, fun h => ⟨(i6 h).1, rfl⟩, fun h => ⟨(i7 h).1, rfl⟩, fun h => ⟨(i8 h).1, rfl⟩, i9, ⟨fun h => ⟨rfl, (i10.1 h).2⟩, i10.2⟩, i11⟩
      · intro ln vs wx hn ha ⟨hI, u2, u8, u10, u11, i0, i1, i2, i3, i4, i5, i6, i7, i8, i9, i10, i11⟩
        have HI := Lib.hid (And.intro i0 (And.intro i1 (And.intro i2 (And.intro i3 (And.intro i4 (And.intro i5 (And.intro i6 (And.intro i7 (And.intro i8 (And.intro i9 (And.intro i10 i11)))))))))))
        clear i0 i1 i2 i3 i4 i5 i6 i7 i8 i9 i10 i11 ha
        go_simp
        simp only [evOf_tmp, u2]
        obtain ⟨i0, i1, i2, i3, i4, i5, i6, i7, i8, i9, i10, i11⟩ := HI.out
        exact ⟨hI, u2, u8, u10, u11, i0, fun _ => rfl, i2, i3, i4, i5, i6, i7, i8, i9, i10, i11⟩
      · intro ln vs wx hn ha ⟨hI, u2, u8, u10, u11, i0, i1, i2, i3, i4, i5, i6, i7, i8, i9, i10, i11⟩
        have HI := Lib.hid (And.intro i0 (And.intro i1 (And.intro i2 (And.intro i3 (And.intro i4 (And.intro i5 (And.intro i6 (And.intro i7 (And.intro i8 (And.intro i9 (And.intro i10 i11)))))))))))
        clear i0 i1 i2 i3 i4 i5 i6 i7 i8 i9 i10 i11 ha
        go_simp
        simp only [evOf_tmp, u10]
        obtain ⟨i0, i1, i2, i3, i4, i5, i6, i7, i8, i9, i10, i11⟩ := HI.out
        exact ⟨hI, u2, u8, u10, u11, i0, i1, fun _ => rfl, i3, i4, i5, i6, i7, i8, i9, i10, i11⟩
      · intro ln vs wx hn ha ⟨hI, u2, u8, u10, u11, i0, i1, i2, i3, i4, i5, i6, i7, i8, i9, i10, i11⟩
        have q1 : ln 1 = true := ha ⟨1, Ground.data⟩ (by simp) rfl
        have q2 : ln 2 = true := ha ⟨2, Ground.data⟩ (by simp) rfl
        have w35 := i1 q1
        have w36 := i2 q2
        have HI := Lib.hid (And.intro i0 (And.intro i1 (And.intro i2 (And.intro i3 (And.intro i4 (And.intro i5 (And.intro i6 (And.intro i7 (And.intro i8 (And.intro i9 (And.intro i10 i11)))))))))))
        clear i0 i1 i2 i3 i4 i5 i6 i7 i8 i9 i10 i11 ha
        go_simp
        simp only [evOf_tmp, w35, w36]
        go_simp
        obtain ⟨i0, i1, i2, i3, i4, i5, i6, i7, i8, i9, i10, i11⟩ := HI.out
        exact ⟨hI, u2, u8, u10, u11, i0, i1, i2, fun _ => rfl, i4, i5, i6, i7, i8, i9, i10, i11⟩
      · intro ln vs wx hn ha ⟨hI, u2, u8, u10, u11, i0, i1, i2, i3, i4, i5, i6, i7, i8, i9, i10, i11⟩
        have q3 : ln 3 = true := ha ⟨3, Ground.data⟩ (by simp) rfl
        have w37 := i3 q3
        have d0 := KC.out _ hI
        have HI := Lib.hid (And.intro i0 (And.intro i1 (And.intro i2 (And.intro i3 (And.intro i4 (And.intro i5 (And.intro i6 (And.intro i7 (And.intro i8 (And.intro i9 (And.intro i10 i11)))))))))))
        clear i0 i1 i2 i3 i4 i5 i6 i7 i8 i9 i10 i11 ha
        go_simp
        simp only [evOf_tmp, w37]
        go_simp
        obtain ⟨i0, i1, i2, i3, i4, i5, i6, i7, i8, i9, i10, i11⟩ := HI.out
        exact ⟨hI, u2, u8, u10, u11, i0, i1, i2, i3, fun _ => rfl, i5, i6, i7, i8, i9, i10, i11⟩
      · intro ln vs wx hn ha ⟨hI, u2, u8, u10, u11, i0, i1, i2, i3, i4, i5, i6, i7, i8, i9, i10, i11⟩
        have HI := Lib.hid (And.intro i0 (And.intro i1 (And.intro i2 (And.intro i3 (And.intro i4 (And.intro i5 (And.intro i6 (And.intro i7 (And.intro i8 (And.intro i9 (And.intro i10 i11)))))))))))
        clear i0 i1 i2 i3 i4 i5 i6 i7 i8 i9 i10 i11 ha
        go_simp
        simp only [evOf_tmp, u11]
        obtain ⟨i0, i1, i2, i3, i4, i5, i6, i7, i8, i9, i10, i11⟩ := HI.out
        exact ⟨hI, u2, u8, u10, u11, i0, i1, i2, i3, i4, fun _ => rfl, i6, i7, i8, i9, i10, i11⟩
      · intro ln vs wx hn ha ⟨hI, u2, u8, u10, u11, i0, i1, i2, i3, i4, i5, i6, i7, i8, i9, i10, i11⟩
        have q0 : ln 0 = true := ha ⟨0, Ground.data⟩ (by simp) rfl
        have q4 : ln 4 = true := ha ⟨4, Ground.data⟩ (by simp) rfl
        have q5 : ln 5 = true := ha ⟨5, Ground.data⟩ (by simp) rfl
        have w34 := i0 q0
        have w38 := i4 q4
        have w39 := i5 q5
        have HI := Lib.hid (And.intro i0 (And.intro i1 (And.intro i2 (And.intro i3 (And.intro i4 (And.intro i5 (And.intro i6 (And.intro i7 (And.intro i8 (And.intro i9 (And.intro i10 i11)))))))))))
        clear i0 i1 i2 i3 i4 i5 i6 i7 i8 i9 i10 i11 ha
        go_simp
        simp only [evOf_tmp, w34, w38, w39]
        obtain ⟨i0, i1, i2, i3, i4, i5, i6, i7, i8, i9, i10, i11⟩ := HI.out
        refine (HD.out wx).mono ?_
        rintro e w' ⟨rfl, hb⟩
        exact ⟨_, rfl, hI.trans (Out.mk' hb), u2, u8, u10, u11, i0, i1, i2, i3, i4, i5, fun _ => ⟨rfl, q0⟩, i7, i8, i9, ⟨fun h => ⟨(i10.1 h).1, Cv.below (i10.1 h).2 hb⟩, fun h => Cv.below (i10.2 h) hb⟩, i11⟩
      · intro ln vs wx hn ha ⟨hI, u2, u8, u10, u11, i0, i1, i2, i3, i4, i5, i6, i7, i8, i9, i10, i11⟩
        have q6 : ln 6 = true := ha ⟨6, Ground.data⟩ (by simp) rfl
        have w40 := (i6 q6).1
        have HI := Lib.hid (And.intro i0 (And.intro i1 (And.intro i2 (And.intro i3 (And.intro i4 (And.intro i5 (And.intro i6 (And.intro i7 (And.intro i8 (And.intro i9 (And.intro i10 i11)))))))))))
        clear i0 i1 i2 i3 i4 i5 i6 i7 i8 i9 i10 i11 ha
        go_simp
        simp only [evOf_tmp, w40]
        obtain ⟨i0, i1, i2, i3, i4, i5, i6, i7, i8, i9, i10, i11⟩ := HI.out
        exact ⟨hI, u2, u8, u10, u11, i0, i1, i2, i3, i4, i5, i6, fun _ => ⟨rfl, (i6 q6).2⟩, i8, i9, i10, i11⟩
      · intro ln vs wx hn ha ⟨hI, u2, u8, u10, u11, i0, i1, i2, i3, i4, i5, i6, i7, i8, i9, i10, i11⟩
        have q7 : ln 7 = true := ha ⟨7, Ground.data⟩ (by simp) rfl
        have w33 := (i7 q7).1
        have HI := Lib.hid (And.intro i0 (And.intro i1 (And.intro i2 (And.intro i3 (And.intro i4 (And.intro i5 (And.intro i6 (And.intro i7 (And.intro i8 (And.intro i9 (And.intro i10 i11)))))))))))
        clear i0 i1 i2 i3 i4 i5 i6 i7 i8 i9 i10 i11 ha
        go_simp
        simp only [evOf_tmp, w33]
        go_simp
        obtain ⟨i0, i1, i2, i3, i4, i5, i6, i7, i8, i9, i10, i11⟩ := HI.out
        exact ⟨hI, u2, u8, u10, u11, i0, i1, i2, i3, i4, i5, i6, i7, fun _ => ⟨rfl, (i7 q7).2⟩, i9, i10, i11⟩
      · intro ln vs wx hn ha ⟨hI, u2, u8, u10, u11, i0, i1, i2, i3, i4, i5, i6, i7, i8, i9, i10, i11⟩
        have q7 : ln 7 = true := ha ⟨7, Ground.data⟩ (by simp) rfl
        have w33 := (i7 q7).1
        have HI := Lib.hid (And.intro i0 (And.intro i1 (And.intro i2 (And.intro i3 (And.intro i4 (And.intro i5 (And.intro i6 (And.intro i7 (And.intro i8 (And.intro i9 (And.intro i10 i11)))))))))))
        clear i0 i1 i2 i3 i4 i5 i6 i7 i8 i9 i10 i11 ha
        go_simp
        simp only [evOf_tmp, w33]
        go_simp
        obtain ⟨i0, i1, i2, i3, i4, i5, i6, i7, i8, i9, i10, i11⟩ := HI.out
        exact ⟨hI, u2, u8, u10, u11, i0, i1, i2, i3, i4, i5, i6, i7, i8, fun _ => rfl, i10, i11⟩
      · intro ln vs wx hn ha ⟨hI, u2, u8, u10, u11, i0, i1, i2, i3, i4, i5, i6, i7, i8, i9, i10, i11⟩
        have q8 : ln 8 = true := ha ⟨8, Ground.data⟩ (by simp) rfl
        clear ha
        refine stepI_store_cv (.tmp 8) (.tmp 41) rfl u8 (i8 q8).1 (i10.2 hn) fun w' h2 h3 => ?_
        exact ⟨hI.trans h3, u2, u8, u10, u11, i0, i1, i2, i3, i4, i5, i6, i7, i8, i9, ⟨fun _ => ⟨(i8 q8).2, h2⟩, fun h => (by cases h)⟩, i11⟩
      · intro ln vs wx hn ha ⟨hI, u2, u8, u10, u11, i0, i1, i2, i3, i4, i5, i6, i7, i8, i9, i10, i11⟩
        have q9 : ln 9 = true := ha ⟨9, Ground.data⟩ (by simp) rfl
        have w42 := i9 q9
        have HI := Lib.hid (And.intro i0 (And.intro i1 (And.intro i2 (And.intro i3 (And.intro i4 (And.intro i5 (And.intro i6 (And.intro i7 (And.intro i8 (And.intro i9 (And.intro i10 i11)))))))))))
        clear i0 i1 i2 i3 i4 i5 i6 i7 i8 i9 i10 i11 ha
        go_simp
        simp only [evOf_tmp, w42]
        obtain ⟨i0, i1, i2, i3, i4, i5, i6, i7, i8, i9, i10, i11⟩ := HI.out
        exact ⟨hI, u2, u8, u10, u11, i0, i1, i2, i3, i4, i5, i6, i7, i8, i9, i10, fun _ => rfl⟩
    rintro vs wq ⟨ho, -, -, -, -, -, -, -, -, -, -, -, -, -, -, j10, j11⟩
    have t9 : vs 9 = .bool z := j11 rfl
    have NB := Lib.hid (show Cv wq cb r2 s2 m2 from (j10.1 rfl).2)
    simp (decide := true) only [over, Nat.reduceAdd, if_true, if_false]
    rw [t9]
    clear j10 j11 t9 HD KC
    have HBX3 := HBX
    have Tn := Lib.hid (Out.below T.out ho (by omega))
    have Xn := Lib.hid (Sl.out X.out ho (fun b q e h => .inl (by have := HBX.out b q e h; omega)))
    have Yn := Lib.hid (Sl.out Y.out ho (fun b q e h => .inl (by have := HBY.out b q e h; omega)))
    have Z3n := Lib.hid (Sl.out Z3.out ho (fun b q e h => .inl (by have := HBZ3.out b q e h; omega)))
    have RBn := Lib.hid (Cv.out RB.out ho (by omega))
    clear CB
    clear ho
    clear T X Y Z3 RB
    have T := Tn
    have X := Xn
    have Y := Yn
    have Z3 := Z3n
    have RB := RBn
    clear Tn Xn Yn Z3n RBn
    obtain ⟨wn, hwq⟩ : ∃ w9 : World, w9 = wq := ⟨_, rfl⟩
    subst hwq
    obtain ⟨rfl, -, -, -, e1, e2, e3, hpf2⟩ | ⟨rfl, -, hnf⟩ := HZ.out
    case inr =>
      obtain ⟨rfl, rfl, rfl, rfl⟩ := HF.out (fun h => hnf ((hfit_iff.1 h).2.2.down (by rw [HL.out]; omega)))
      clear HT HF HZ hnf
      go_wp2_with (refine wpList_store_cv0 RB.out (by rfl) (by rfl) ?_)
      intro wz hz ho
      have RZ := Lib.hid hz
      have TZ := Lib.hid (Out.below T.out ho (by omega))
      clear hz ho
      go_wp2_with fail
      exact bodyPost_ret (results_cvb rfl rfl rfl RZ.out) rfl ⟨rfl, TZ.out⟩
    subst e1 e2 e3
    have HPF2 := Lib.hid hpf2
    have CB := NB
    clear hpf2 HZ NB
    go_wp2_with fail
    go_roundw
    case rel => exact ⟨k + 1, by omega, by go_num, HPF2.out, T.out, X.out, Y.out, Z3.out, RB.out, CB.out⟩
    case measure => first | (simp [intOf]; done) | (simp [intOf]; omega) | omega

end Go.Proofs.Yteeokegkbhpbcaa

namespace Go.Proofs.Yteeokegkbhpbcaa
open Go.RowKit
set_option linter.unusedVariables false
set_option linter.unusedSimpArgs false
set_option maxRecDepth 100000

set_option maxHeartbeats 4000000 in
theorem iHallFits_c (a1 : Option Addr) (n1 c1 : Nat) (gs : List Int) (a2 : Option Addr) (n2 c2 : Nat) (rs : List Int) (a3 : Option Addr) (n3 c3 : Nat) (ps : List Int) (w : World) (hs : Sl w a1 gs) (hl : gs.length = n1) (hs2 : Sl w a2 rs) (hl2 : rs.length = n2) (hs3 : Sl w a3 ps) (hl3 : ps.length = n3) (hm : n1 ≤ 1048577) (hm2 : n2 ≤ 1048577) (hm3 : n3 ≤ 1048577) (k1 : n1 ≤ c1 ∧ c1 ≤ 9223372036854775807) (k2 : n2 ≤ c2 ∧ c2 ≤ 9223372036854775807) (k3 : n3 ≤ c3 ∧ c3 ≤ 9223372036854775807) :
    Calls Try.prog 18 #[.slice a1 n1 c1, .slice a2 n2 c2, .slice a3 n3 c3] w (Mk w (.bool (hfB gs rs ps))) := by
  obtain ⟨R, hR⟩ : ∃ R, pR gs rs ps = R := ⟨_, rfl⟩
  obtain ⟨SS, hS⟩ : ∃ S, pS gs rs ps = S := ⟨_, rfl⟩
  obtain ⟨M, hM⟩ : ∃ M, pM gs rs ps = M := ⟨_, rfl⟩
  obtain ⟨Z, hZ⟩ : ∃ Z, hfB gs rs ps = Z := ⟨_, rfl⟩
  have K0 := putAll_c a1 n1 c1 gs a2 n2 c2 rs a3 n3 c3 ps w hs hl hs2 hl2 hs3 hl3 hm hm2 hm3 k1 k2 k3
  rw [hR, hS, hM, hZ] at K0
  have H0 := Lib.hid K0
  have HM := Lib.hid hM
  have HZ := Lib.hid hZ
  clear K0 hR hS hM hZ hs hs2 hs3 k1 k2 k3
  go_enter Try.func18, Try.ntmps18
  go_wp2_with fail
  refine Calls.mono H0.out ?_
  rintro e wn ⟨rfl, hb⟩
  have T := Lib.hid hb
  clear hb H0
  obtain ⟨cb, hcb⟩ : ∃ cb, wn.heap.size = cb := ⟨_, rfl⟩
  have hwc : w.heap.size ≤ cb := by rw [← hcb]; exact T.out.size
  have CN := Lib.hid (Cv.new wn r0 s0 0 hcb)
  rw [show cva r0 s0 0 = #[.int .i64 0, .int .i64 0, .int .i64 0, .bool false, .bool false, .bool false, .bool false, .bool false, .bool false, .bool false, .bool false, .bool false, .bool false, .bool false, .bool false, .bool false, .bool false, .bool false, .bool false, .bool false, .bool false, .bool false, .bool false, .bool false, .bool false, .bool false, .bool false, .int .i64 0] from rfl] at CN
  go_wp2_with (with_reducible refine wpList_store_cv CN.out rfl rfl ?_)
  intro w1 hz ho
  have CB := Lib.hid hz
  have T1 := Lib.hid (Out.below (Below.al T.out _) ho (by omega))
  clear CN hz ho hcb T
  go_wp2_with fail
  go_ret
  exact Mk.b HZ.out T1.out
set_option maxHeartbeats 4000000 in
theorem iHallStops_c (a1 : Option Addr) (n1 c1 : Nat) (gs : List Int) (a2 : Option Addr) (n2 c2 : Nat) (rs : List Int) (a3 : Option Addr) (n3 c3 : Nat) (ps : List Int) (w : World) (hs : Sl w a1 gs) (hl : gs.length = n1) (hs2 : Sl w a2 rs) (hl2 : rs.length = n2) (hs3 : Sl w a3 ps) (hl3 : ps.length = n3) (hm : n1 ≤ 1048577) (hm2 : n2 ≤ 1048577) (hm3 : n3 ≤ 1048577) (k1 : n1 ≤ c1 ∧ c1 ≤ 9223372036854775807) (k2 : n2 ≤ c2 ∧ c2 ≤ 9223372036854775807) (k3 : n3 ≤ c3 ∧ c3 ≤ 9223372036854775807) :
    Calls Try.prog 22 #[.slice a1 n1 c1, .slice a2 n2 c2, .slice a3 n3 c3] w (Mk w (.int .i64 (hsv gs rs ps))) := by
  obtain ⟨R, hR⟩ : ∃ R, pR gs rs ps = R := ⟨_, rfl⟩
  obtain ⟨SS, hS⟩ : ∃ S, pS gs rs ps = S := ⟨_, rfl⟩
  obtain ⟨M, hM⟩ : ∃ M, pM gs rs ps = M := ⟨_, rfl⟩
  obtain ⟨Z, hZ⟩ : ∃ Z, hfB gs rs ps = Z := ⟨_, rfl⟩
  have K0 := putAll_c a1 n1 c1 gs a2 n2 c2 rs a3 n3 c3 ps w hs hl hs2 hl2 hs3 hl3 hm hm2 hm3 k1 k2 k3
  rw [hR, hS, hM, hZ] at K0
  have H0 := Lib.hid K0
  have HM := Lib.hid hM
  have HZ := Lib.hid hZ
  clear K0 hR hS hM hZ hs hs2 hs3 k1 k2 k3
  go_enter Try.func22, Try.ntmps22
  go_wp2_with fail
  refine Calls.mono H0.out ?_
  rintro e wn ⟨rfl, hb⟩
  have T := Lib.hid hb
  clear hb H0
  obtain ⟨cb, hcb⟩ : ∃ cb, wn.heap.size = cb := ⟨_, rfl⟩
  have hwc : w.heap.size ≤ cb := by rw [← hcb]; exact T.out.size
  have CN := Lib.hid (Cv.new wn r0 s0 0 hcb)
  rw [show cva r0 s0 0 = #[.int .i64 0, .int .i64 0, .int .i64 0, .bool false, .bool false, .bool false, .bool false, .bool false, .bool false, .bool false, .bool false, .bool false, .bool false, .bool false, .bool false, .bool false, .bool false, .bool false, .bool false, .bool false, .bool false, .bool false, .bool false, .bool false, .bool false, .bool false, .bool false, .int .i64 0] from rfl] at CN
  go_wp2_with (with_reducible refine wpList_store_cv CN.out rfl rfl ?_)
  intro w1 hz ho
  have CB := Lib.hid hz
  have T1 := Lib.hid (Out.below (Below.al T.out _) ho (by omega))
  clear CN hz ho hcb T
  cases Z
  case false =>
    have E := Lib.hid (show hsv gs rs ps = -1 from hsv_f fun h => by have := tr_true h; rw [show tr (HFit gs rs ps) = false from HZ.out] at this; cases this)
    go_wp2_with fail
    go_ret
    exact Mk.i E.out T1.out
  have hfit : HFit gs rs ps := tr_t.1 HZ.out
  have E := Lib.hid (show hsv gs rs ps = M from by rw [hsv_t hfit, ← HM.out, (p_t hfit).2.2.1])
  have y1 := (Cv.many CB.out).1
  clear hfit
  go_wp2_with fail
  go_ret
  exact Mk.i E.out T1.out
end Go.Proofs.Yteeokegkbhpbcaa

namespace Go.Proofs.Yteeokegkbhpbcaa
open Go.RowKit
set_option linter.unusedVariables false
set_option linter.unusedSimpArgs false
set_option maxRecDepth 100000

/-- A world that differs from an older one in some blocks alone, and in what is new. -/
def Ot (w wn : World) (lo hi : Nat) : Prop := Out lo hi w wn
theorem Ot.below {w wn w' : World} {lo hi : Nat} (h : Ot w wn lo hi) (hb : Below wn.heap.size wn w') : Ot w w' lo hi := Out.trans h (Out.mk' hb)
theorem Ot.out {w wn w' : World} {lo hi lo' hi' : Nat} (h : Ot w wn lo hi) (ho : Out lo' hi' wn w') (hd : lo ≤ lo' ∧ hi' ≤ hi) : Ot w w' lo hi := Out.trans h (Out.wide ho hd.1 hd.2)
theorem Own.out {w w' : World} {B lo hi : Nat} {v : Value} {xs : List Int} (h : Own w B v xs) (ho : Out lo hi w w') (hd : hi ≤ B) : Own w' B v xs :=
  own_block h fun q hq => ho.block q (own_lt2 h q hq).2 (.inr (by have := (own_lt2 h q hq).1; omega))
theorem owni_set {w : World} {m n k : Nat} {q : List Int} (d : Int) (h : OwnI w m (m + 1) (.slice (some ⟨m, 0, none⟩) n n) q) (hk : k < q.length) : OwnI (w.setCell ⟨m, k, none⟩ (.int .i64 d)) m (m + 1) (.slice (some ⟨m, 0, none⟩) n n) (q.set k d) := by
  have e1 : q = q.take k ++ nth q k :: q.drop (k + 1) := by
    rw [nth_eq hk]
    conv => lhs; rw [← List.take_append_drop k q, List.drop_eq_getElem_cons hk]
  have e2 : q.set k d = q.take k ++ d :: q.drop (k + 1) := List.set_eq_take_append_cons_drop .. |>.trans (by rw [if_pos hk])
  have hu : (q.take k).length = k := by rw [List.length_take]; omega
  have h2 : OwnI w m (m + 1) (.slice (some ⟨m, 0, none⟩) n n) (q.take k ++ nth q k :: q.drop (k + 1)) := by rw [← e1]; exact h
  have h3 := OwnI.put d h2
  rw [hu] at h3
  rw [e2]
  exact h3
/-- What putFrom leaves behind. -/
def PFro (gs rs : List Int) (a1 : Option Addr) (n1 c1 P : Nat) (k : Nat) (q : List Int) (bl : Option (List Int)) (f : Int) (w : World) (e : Ending) (w' : World) : Prop :=
  e = .returned (.tuple #[]) ∧ Out P (P + 2) w w' ∧ ∃ (q' : List Int) (bv' : Value) (bl' : Option (List Int)) (f' : Int), BoxV w' (P + 1) [.slice a1 n1 c1, .slice (some ⟨P, 0, none⟩) n1 n1, bv', .int .i64 f'] ∧ OwnI w' P (P + 1) (.slice (some ⟨P, 0, none⟩) n1 n1) q' ∧ (∀ i, i < k → nth q' i = nth q i) ∧ q'.length = n1 ∧ Own w' (P + 2) bv' (bl'.getD []) ∧ Sr gs rs (Beg q k) bl f bl' f'

/-- The state of the region that keeps a way. -/
def RK (wn : World) (P g : Nat) (a1 : Option Addr) (n1 c1 : Nat) (bv : Value) (f M : Int) (q : List Int) (ln : Nat → Bool) (vs : Nat → Value) (wx : World) : Prop :=
  Out (P + 1) (P + 2) wn wx ∧ vs 0 = .pointer (some ⟨P + 1, 0, none⟩) ∧ vs 5 = .pointer (some ⟨g, 0, none⟩) ∧ (ln 0 = true → vs 23 = .pointer (some ⟨P + 1, 0, none⟩)) ∧ (ln 1 = true → vs 24 = .pointer (some ⟨P + 1, 0, none⟩)) ∧ (ln 2 = true → vs 25 = .pointer (some ⟨P + 1, 0, none⟩)) ∧ (ln 3 = true → vs 26 = .pointer (some ⟨P + 1, 0, none⟩)) ∧ (ln 4 = true → vs 27 = .pointer (some ⟨P + 1, 1, none⟩)) ∧ (ln 5 = true → vs 28 = .slice (some ⟨P, 0, none⟩) n1 n1) ∧ (ln 6 = true → Own wx (P + 2) (vs 29) q ∧ vs 29 ≠ .slice none 0 0) ∧ (ln 7 = true → vs 30 = .pointer (some ⟨g, 27, none⟩)) ∧ (ln 8 = true → vs 31 = .int .i64 M) ∧ (ln 9 = true → vs 32 = .pointer (some ⟨P + 1, 0, none⟩)) ∧ (ln 10 = true → vs 33 = .pointer (some ⟨P + 1, 2, none⟩)) ∧ (∃ v3 v4, BoxV wx (P + 1) [.slice a1 n1 c1, .slice (some ⟨P, 0, none⟩) n1 n1, v3, v4] ∧ (ln 11 = true → v3 = vs 29 ∧ ln 6 = true) ∧ (ln 11 = false → v3 = bv) ∧ (ln 14 = true → v4 = .int .i64 M) ∧ (ln 14 = false → v4 = .int .i64 f)) ∧ (ln 12 = true → vs 34 = .pointer (some ⟨P + 1, 0, none⟩)) ∧ (ln 13 = true → vs 35 = .pointer (some ⟨P + 1, 3, none⟩)) ∧ (ln 14 = true → True)
/-- A box of cars that a region makes (a) and writes (b). -/
def PC (B : Nat) (r2 : Nat → Int) (s2 : Nat → Bool) (m2 : Int) (w : World) (x y : Bool) (v : Value) : Prop := x = true → ∃ G, v = .pointer (some ⟨G, 0, none⟩) ∧ B ≤ G ∧ (y = true → Cv w G r2 s2 m2) ∧ (y = false → Cv w G r0 s0 0)
theorem PC.below {B : Nat} {r2 : Nat → Int} {s2 : Nat → Bool} {m2 : Int} {w w' : World} {x y : Bool} {v : Value} (h : PC B r2 s2 m2 w x y v) (hb : Below w.heap.size w w') : PC B r2 s2 m2 w' x y v := fun e => by
  obtain ⟨G, h1, h2, h3, h4⟩ := h e
  exact ⟨G, h1, h2, fun e => (h3 e).below hb, fun e => (h4 e).below hb⟩
theorem PC.new {B : Nat} {r2 : Nat → Int} {s2 : Nat → Bool} {m2 : Int} {w : World} {x y : Bool} (hB : B ≤ w.heap.size) (hy : y = false) : PC B r2 s2 m2 (w.alloc (.cells #[.int .i64 0, .int .i64 0, .int .i64 0, .bool false, .bool false, .bool false, .bool false, .bool false, .bool false, .bool false, .bool false, .bool false, .bool false, .bool false, .bool false, .bool false, .bool false, .bool false, .bool false, .bool false, .bool false, .bool false, .bool false, .bool false, .bool false, .bool false, .bool false, .int .i64 0] 49)) x y (.pointer (some ⟨w.heap.size, 0, none⟩)) := fun _ => by
  subst hy
  exact ⟨_, rfl, hB, fun e => (by cases e), fun _ => Cv.new w r0 s0 0 rfl⟩
/-- The state of the region that tries a car. -/
def RT (wn : World) (P g B : Nat) (k c : Nat) (a1 : Option Addr) (n1 c1 : Nat) (pg : Value) (gl : Int) (r r2 : Nat → Int) (s s2 : Nat → Bool) (m m2 : Int) (z : Bool) (ln : Nat → Bool) (vs : Nat → Value) (wx : World) : Prop :=
  Below wn.heap.size wn wx ∧ vs 0 = .pointer (some ⟨P + 1, 0, none⟩) ∧ vs 1 = .int .i64 k ∧ vs 5 = .pointer (some ⟨g, 0, none⟩) ∧ vs 6 = .int .i64 c ∧ (ln 0 = true → vs 40 = .agg (cva r s m)) ∧ (ln 1 = true → vs 41 = .int .i64 c) ∧ (ln 2 = true → vs 42 = .pointer (some ⟨P + 1, 0, none⟩)) ∧ (ln 3 = true → vs 43 = .pointer (some ⟨P + 1, 0, none⟩)) ∧ (ln 4 = true → vs 44 = .pointer (some ⟨P + 1, 0, none⟩)) ∧ (ln 5 = true → vs 45 = .slice a1 n1 c1) ∧ (ln 6 = true → vs 46 = .int .i64 k) ∧ (ln 7 = true → vs 47 = pg) ∧ (ln 8 = true → vs 48 = .int .i64 gl) ∧ (ln 9 = true → vs 49 = .tuple #[.agg (cva r2 s2 m2), .bool z]) ∧ (ln 10 = true → vs 39 = .tuple #[.agg (cva r2 s2 m2), .bool z]) ∧ (ln 11 = true → vs 50 = .agg (cva r2 s2 m2)) ∧ (ln 12 = true → vs 51 = .bool z) ∧ PC B r2 s2 m2 wx (ln 13) (ln 14) (vs 7) ∧ (ln 14 = true → ln 13 = true) ∧ (ln 15 = true → vs 8 = .bool z)

set_option maxRecDepth 100000 in
set_option maxHeartbeats 4000000 in
theorem putFrom_c (gs rs : List Int) (hok : HOk gs rs) (a1 : Option Addr) (n1 c1 : Nat) (hl : gs.length = n1) (w0 : World) :
    ∀ (j k : Nat), k + j = n1 → ∀ (q : List Int) (bl : Option (List Int)) (bv : Value) (f : Int) (P : Nat) (w : World), Below w0.heap.size w0 w → w0.heap.size ≤ P → Sl w a1 gs → (∀ b o, a1 = some ⟨b, o, none⟩ → 0 < gs.length → b < P) →
      BoxV w (P + 1) [.slice a1 n1 c1, .slice (some ⟨P, 0, none⟩) n1 n1, bv, .int .i64 f] → OwnI w P (P + 1) (.slice (some ⟨P, 0, none⟩) n1 n1) q → q.length = n1 → Own w (P + 2) bv (bl.getD []) → PFit rs q k →
      Calls Try.prog 42 #[.pointer (some ⟨P + 1, 0, none⟩), .int .i64 k, .agg (cva (rmU rs q k) (spU gs q k) (hsU gs q k))] w (PFro gs rs a1 n1 c1 P k q bl f w) := by
  have HL := Lib.hid hl
  have HOK := Lib.hid hok
  have hn6 : n1 ≤ 6 := by rw [← hl]; exact hok.2.2.1
  clear hl hok
  intro j
  induction j with
  | zero =>
    intro k hj q bl bv f P w hT hP hX hXP hS hO hql hB hpf
    obtain ⟨r, hr⟩ : ∃ r, rmU rs q k = r := ⟨_, rfl⟩
    obtain ⟨s, hs⟩ : ∃ s, spU gs q k = s := ⟨_, rfl⟩
    obtain ⟨M, hM⟩ : ∃ M, hsU gs q k = M := ⟨_, rfl⟩
    rw [hr, hs, hM]
    have HR := Lib.hid hr
    have HS := Lib.hid hs
    have HM := Lib.hid hM
    have HQL := Lib.hid hql
    have HPF := Lib.hid hpf
    have HXP := Lib.hid hXP
    clear hr hs hM hql hpf hXP
    obtain ⟨g, hg⟩ : ∃ g, w.heap.size = g := ⟨_, rfl⟩
    have HG := Lib.hid hg
    have hPg : P + 1 < g := by rw [← hg]; exact BoxV.lt hS
    have bb := Below.al (Below.refl w.heap.size w) (.cells (cva r s M) 49)
    have T := Lib.hid (Below.al hT (.cells (cva r s M) 49))
    have U := Lib.hid (show Ot w (w.alloc (.cells (cva r s M) 49)) P (P + 2) from Out.mk' bb)
    have X := Lib.hid (Sl.below hX bb)
    have SB := Lib.hid (BoxV.below hS bb)
    have PB := Lib.hid (OwnI.below hO bb)
    have BV := Lib.hid (Own.below hB bb)
    have CB := Lib.hid (Cv.new w r s M hg)
    have HBX := HXP
    clear bb hT hX hS hO hB HXP
    go_enter Try.func42, Try.ntmps42
    go_upto_region 1 with fail
    clear hg
    try simp only [HG.out]
    generalize w.alloc _ = wn at *
    by_cases hge : f ≤ M
    case pos =>
      refine wp_region_quiet (C := fun w' => Below (World.heap (wn)).size (wn) w') (by kernel_rfl) (by kernel_rfl) (by first | exact ⟨rfl, rfl, rfl, Nat.le_refl _, fun _ _ => rfl⟩ | exact Below.dw (by repeat (first | exact Below.refl _ _ | refine Below.al ?_ _ | refine Below.dr ?_ _ | refine Below.dw ?_ | refine Below.st ?_ (by first | exact Nat.le_refl _ | exact Nat.le_add_right _ _ | (simp; omega)) _ | (refine below_next ?_ (by assumption))))) ?_
      simp only []
      repeat (go_big_quiet_step (first | (intro _; with_reducible exact rfl) | (intro hC; have y1 := (Cv.many (Cv.below CB.out hC)).1; have y2 := ((BoxV.below SB.out hC).2 3 _ rfl).1; go_simp; rfl)))
      refine wpQuiet_nil ?_
      intro wq hq
      have Tn := Lib.hid (below_next T.out hq)
      have Un := Lib.hid (Ot.below U.out hq)
      have Xn := Lib.hid (Sl.below X.out hq)
      have SBn := Lib.hid (BoxV.below SB.out hq)
      have PBn := Lib.hid (OwnI.below PB.out hq)
      have BVn := Lib.hid (Own.below BV.out hq)
      have CBn := Lib.hid (Cv.below CB.out hq)
      clear hq
      clear T U X SB PB BV CB
      have T := Tn
      have U := Un
      have X := Xn
      have SB := SBn
      have PB := PBn
      have BV := BVn
      have CB := CBn
      clear Tn Un Xn SBn PBn BVn CBn
      obtain ⟨wn, hwq⟩ : ∃ w0, w0 = wq := ⟨_, rfl⟩
      subst hwq
      go_wp2_with fail
      go_end0
      exact ⟨rfl, U.out, q, bv, bl, f, SB.out, PB.out, fun _ _ => rfl, HQL.out, BV.out, Sr.stay fun t ht hb => by
        have h1 := hs_mono' gs t (show k ≤ gs.length from by rw [HL.out]; omega)
        have h2 : hsU gs t k = hsU gs q k := hs_congr hb
        have h3 := HM.out
        omega⟩
    have hlt : M < f := by omega
    refine wp_region_quiet (C := fun w' => Below (World.heap (wn)).size (wn) w') (by kernel_rfl) (by kernel_rfl) (by first | exact ⟨rfl, rfl, rfl, Nat.le_refl _, fun _ _ => rfl⟩ | exact Below.dw (by repeat (first | exact Below.refl _ _ | refine Below.al ?_ _ | refine Below.dr ?_ _ | refine Below.dw ?_ | refine Below.st ?_ (by first | exact Nat.le_refl _ | exact Nat.le_add_right _ _ | (simp; omega)) _ | (refine below_next ?_ (by assumption))))) ?_
    simp only []
    repeat (go_big_quiet_step (first | (intro _; with_reducible exact rfl) | (intro hC; have y1 := (Cv.many (Cv.below CB.out hC)).1; have y2 := ((BoxV.below SB.out hC).2 3 _ rfl).1; go_simp; rfl)))
    refine wpQuiet_nil ?_
    intro wq hq
    have Tn := Lib.hid (below_next T.out hq)
    have Un := Lib.hid (Ot.below U.out hq)
    have Xn := Lib.hid (Sl.below X.out hq)
    have SBn := Lib.hid (BoxV.below SB.out hq)
    have PBn := Lib.hid (OwnI.below PB.out hq)
    have BVn := Lib.hid (Own.below BV.out hq)
    have CBn := Lib.hid (Cv.below CB.out hq)
    clear hq
    clear T U X SB PB BV CB
    have T := Tn
    have U := Un
    have X := Xn
    have SB := SBn
    have PB := PBn
    have BV := BVn
    have CB := CBn
    clear Tn Un Xn SBn PBn BVn CBn
    obtain ⟨wn, hwq⟩ : ∃ w0, w0 = wq := ⟨_, rfl⟩
    subst hwq
    have y0 := (SB.out.2 0 _ rfl).1
    obtain rfl : k = n1 := by omega
    have q1 : ((k : Int) == (k : Int)) = true := beq_self_eq_true _
    clear hge
    go_upto_region 3 with fail
    clear y0 q1
    have HCL := Lib.hid (show ∀ wx, Out (P + 1) (P + 2) wn wx → Calls Try.prog 54 #[.slice (some ⟨P, 0, none⟩) k k] wx fun e w' => ∃ v, e = .returned v ∧ Own w' wx.heap.size v q ∧ v ≠ .slice none 0 0 ∧ Below wx.heap.size wx w' from fun wx ho => clone_c P 0 k k q wx (OwnI.ints (OwnI.out PB.out ho (.inl (Nat.le_refl _)))) HQL.out (by omega))
    have hgw : P + 2 ≤ wn.heap.size := by have := BoxV.lt SB.out; omega
    have HCM := Lib.hid (show ∀ wx, Out (P + 1) (P + 2) wn wx → wx.cell? ⟨g, 27, none⟩ = some (.int .i64 M) from fun wx ho => (Cv.many (Cv.out CB.out ho (.inr (by omega)))).1)
    refine wp_region_inv (fun ln vs wx => RK wn P g a1 k c1 bv f M q ln vs wx) [23, 24, 25, 26, 27, 28, 29, 30, 31, 32, 33, 34, 35]
      (by kernel_rfl) (by kernel_rfl) (by kernel_rfl) (by kernel_rfl) ⟨Out.mk' (Below.dw (Below.refl _ _)), rfl, rfl, fun h => (by cases h), fun h => (by cases h), fun h => (by cases h), fun h => (by cases h), fun h => (by cases h), fun h => (by cases h), fun h => (by cases h), fun h => (by cases h), fun h => (by cases h), fun h => (by cases h), fun h => (by cases h), ⟨_, _, SB.out, fun h => (by cases h), fun _ => rfl, fun h => (by cases h), fun _ => rfl⟩, fun h => (by cases h), fun h => (by cases h), fun h => (by cases h)⟩ ?hobs ?_
    case hobs =>
      refine ⟨?_, ?_, ?_, ?_, ?_, ?_, ?_, ?_, ?_, ?_, ?_, ?_, ?_, ?_, ?_, trivial⟩
      · intro ln vs wx hn ha ⟨hI, u0, u5, i0, i1, i2, i3, i4, i5, i6, i7, i8, i9, i10, i11, i12, i13, i14⟩
        have HI := Lib.hid (And.intro i0 (And.intro i1 (And.intro i2 (And.intro i3 (And.intro i4 (And.intro i5 (And.intro i6 (And.intro i7 (And.intro i8 (And.intro i9 (And.intro i10 (And.intro i11 (And.intro i12 (And.intro i13 i14))))))))))))))
        clear i0 i1 i2 i3 i4 i5 i6 i7 i8 i9 i10 i11 i12 i13 i14 ha
        go_simp
        simp only [evOf_tmp, u0]
        obtain ⟨i0, i1, i2, i3, i4, i5, i6, i7, i8, i9, i10, i11, i12, i13, i14⟩ := HI.out
        exact ⟨hI, u0, u5, fun _ => rfl, i1, i2, i3, i4, i5, i6, i7, i8, i9, i10, i11, i12, i13, i14⟩
      · intro ln vs wx hn ha ⟨hI, u0, u5, i0, i1, i2, i3, i4, i5, i6, i7, i8, i9, i10, i11, i12, i13, i14⟩
        have HI := Lib.hid (And.intro i0 (And.intro i1 (And.intro i2 (And.intro i3 (And.intro i4 (And.intro i5 (And.intro i6 (And.intro i7 (And.intro i8 (And.intro i9 (And.intro i10 (And.intro i11 (And.intro i12 (And.intro i13 i14))))))))))))))
        clear i0 i1 i2 i3 i4 i5 i6 i7 i8 i9 i10 i11 i12 i13 i14 ha
        go_simp
        simp only [evOf_tmp, u0]
        obtain ⟨i0, i1, i2, i3, i4, i5, i6, i7, i8, i9, i10, i11, i12, i13, i14⟩ := HI.out
        exact ⟨hI, u0, u5, i0, fun _ => rfl, i2, i3, i4, i5, i6, i7, i8, i9, i10, i11, i12, i13, i14⟩
      · intro ln vs wx hn ha ⟨hI, u0, u5, i0, i1, i2, i3, i4, i5, i6, i7, i8, i9, i10, i11, i12, i13, i14⟩
        have HI := Lib.hid (And.intro i0 (And.intro i1 (And.intro i2 (And.intro i3 (And.intro i4 (And.intro i5 (And.intro i6 (And.intro i7 (And.intro i8 (And.intro i9 (And.intro i10 (And.intro i11 (And.intro i12 (And.intro i13 i14))))))))))))))
        clear i0 i1 i2 i3 i4 i5 i6 i7 i8 i9 i10 i11 i12 i13 i14 ha
        go_simp
        simp only [evOf_tmp, u0]
        obtain ⟨i0, i1, i2, i3, i4, i5, i6, i7, i8, i9, i10, i11, i12, i13, i14⟩ := HI.out
        exact ⟨hI, u0, u5, i0, i1, fun _ => rfl, i3, i4, i5, i6, i7, i8, i9, i10, i11, i12, i13, i14⟩
      · intro ln vs wx hn ha ⟨hI, u0, u5, i0, i1, i2, i3, i4, i5, i6, i7, i8, i9, i10, i11, i12, i13, i14⟩
        have q2 : ln 2 = true := ha ⟨2, Ground.data⟩ (by simp) rfl
        have w25 := i2 q2
        have HI := Lib.hid (And.intro i0 (And.intro i1 (And.intro i2 (And.intro i3 (And.intro i4 (And.intro i5 (And.intro i6 (And.intro i7 (And.intro i8 (And.intro i9 (And.intro i10 (And.intro i11 (And.intro i12 (And.intro i13 i14))))))))))))))
        clear i0 i1 i2 i3 i4 i5 i6 i7 i8 i9 i10 i11 i12 i13 i14 ha
        go_simp
        simp only [evOf_tmp, w25]
        go_simp
        obtain ⟨i0, i1, i2, i3, i4, i5, i6, i7, i8, i9, i10, i11, i12, i13, i14⟩ := HI.out
        exact ⟨hI, u0, u5, i0, i1, i2, fun _ => rfl, i4, i5, i6, i7, i8, i9, i10, i11, i12, i13, i14⟩
      · intro ln vs wx hn ha ⟨hI, u0, u5, i0, i1, i2, i3, i4, i5, i6, i7, i8, i9, i10, i11, i12, i13, i14⟩
        have q3 : ln 3 = true := ha ⟨3, Ground.data⟩ (by simp) rfl
        have w26 := i3 q3
        have HI := Lib.hid (And.intro i0 (And.intro i1 (And.intro i2 (And.intro i3 (And.intro i4 (And.intro i5 (And.intro i6 (And.intro i7 (And.intro i8 (And.intro i9 (And.intro i10 (And.intro i11 (And.intro i12 (And.intro i13 i14))))))))))))))
        clear i0 i1 i2 i3 i4 i5 i6 i7 i8 i9 i10 i11 i12 i13 i14 ha
        go_simp
        simp only [evOf_tmp, w26]
        go_simp
        obtain ⟨i0, i1, i2, i3, i4, i5, i6, i7, i8, i9, i10, i11, i12, i13, i14⟩ := HI.out
        exact ⟨hI, u0, u5, i0, i1, i2, i3, fun _ => rfl, i5, i6, i7, i8, i9, i10, i11, i12, i13, i14⟩
      · intro ln vs wx hn ha ⟨hI, u0, u5, i0, i1, i2, i3, i4, i5, i6, i7, i8, i9, i10, i11, i12, i13, i14⟩
        have q4 : ln 4 = true := ha ⟨4, Ground.data⟩ (by simp) rfl
        have w27 := i4 q4
        have d1 : wx.cell? ⟨P + 1, 1, none⟩ = some (.slice (some ⟨P, 0, none⟩) k k) := (by obtain ⟨v3, v4, h, -⟩ := i11; exact (h.2 1 _ rfl).1)
        have HI := Lib.hid (And.intro i0 (And.intro i1 (And.intro i2 (And.intro i3 (And.intro i4 (And.intro i5 (And.intro i6 (And.intro i7 (And.intro i8 (And.intro i9 (And.intro i10 (And.intro i11 (And.intro i12 (And.intro i13 i14))))))))))))))
        clear i0 i1 i2 i3 i4 i5 i6 i7 i8 i9 i10 i11 i12 i13 i14 ha
        go_simp
        simp only [evOf_tmp, w27]
        go_simp
        obtain ⟨i0, i1, i2, i3, i4, i5, i6, i7, i8, i9, i10, i11, i12, i13, i14⟩ := HI.out
        exact ⟨hI, u0, u5, i0, i1, i2, i3, i4, fun _ => rfl, i6, i7, i8, i9, i10, i11, i12, i13, i14⟩
      · intro ln vs wx hn ha ⟨hI, u0, u5, i0, i1, i2, i3, i4, i5, i6, i7, i8, i9, i10, i11, i12, i13, i14⟩
        have q5 : ln 5 = true := ha ⟨5, Ground.data⟩ (by simp) rfl
        have w28 := i5 q5
        have HI := Lib.hid (And.intro i0 (And.intro i1 (And.intro i2 (And.intro i3 (And.intro i4 (And.intro i5 (And.intro i6 (And.intro i7 (And.intro i8 (And.intro i9 (And.intro i10 (And.intro i11 (And.intro i12 (And.intro i13 i14))))))))))))))
        clear i0 i1 i2 i3 i4 i5 i6 i7 i8 i9 i10 i11 i12 i13 i14 ha
        go_simp
        simp only [evOf_tmp, w28]
        obtain ⟨i0, i1, i2, i3, i4, i5, i6, i7, i8, i9, i10, i11, i12, i13, i14⟩ := HI.out
        refine Calls.mono (HCL.out wx hI) ?_
        rintro e w' ⟨v, rfl, hO, hne, hb⟩
        obtain ⟨v3, v4, i11, i11a, i11b, i11c, i11d⟩ := i11
        exact ⟨_, rfl, hI.trans (Out.mk' hb), u0, u5, i0, i1, i2, i3, i4, i5, fun _ => ⟨own_mono hO (Nat.le_trans hgw hI.size), hne⟩, i7, i8, i9, i10, ⟨v3, v4, BoxV.below i11 hb, fun h => absurd ((i11a h).2.symm.trans hn) (by simp), i11b, i11c, i11d⟩, i12, i13, i14⟩
      · intro ln vs wx hn ha ⟨hI, u0, u5, i0, i1, i2, i3, i4, i5, i6, i7, i8, i9, i10, i11, i12, i13, i14⟩
        have HI := Lib.hid (And.intro i0 (And.intro i1 (And.intro i2 (And.intro i3 (And.intro i4 (And.intro i5 (And.intro i6 (And.intro i7 (And.intro i8 (And.intro i9 (And.intro i10 (And.intro i11 (And.intro i12 (And.intro i13 i14))))))))))))))
        clear i0 i1 i2 i3 i4 i5 i6 i7 i8 i9 i10 i11 i12 i13 i14 ha
        go_simp
        simp only [evOf_tmp, u5]
        go_simp
        obtain ⟨i0, i1, i2, i3, i4, i5, i6, i7, i8, i9, i10, i11, i12, i13, i14⟩ := HI.out
        exact ⟨hI, u0, u5, i0, i1, i2, i3, i4, i5, i6, fun _ => rfl, i8, i9, i10, i11, i12, i13, i14⟩
      · intro ln vs wx hn ha ⟨hI, u0, u5, i0, i1, i2, i3, i4, i5, i6, i7, i8, i9, i10, i11, i12, i13, i14⟩
        have q7 : ln 7 = true := ha ⟨7, Ground.data⟩ (by simp) rfl
        have w30 := i7 q7
        have d0 := HCM.out _ hI
        have HI := Lib.hid (And.intro i0 (And.intro i1 (And.intro i2 (And.intro i3 (And.intro i4 (And.intro i5 (And.intro i6 (And.intro i7 (And.intro i8 (And.intro i9 (And.intro i10 (And.intro i11 (And.intro i12 (And.intro i13 i14))))))))))))))
        clear i0 i1 i2 i3 i4 i5 i6 i7 i8 i9 i10 i11 i12 i13 i14 ha
        go_simp
        simp only [evOf_tmp, w30]
        go_simp
        obtain ⟨i0, i1, i2, i3, i4, i5, i6, i7, i8, i9, i10, i11, i12, i13, i14⟩ := HI.out
        exact ⟨hI, u0, u5, i0, i1, i2, i3, i4, i5, i6, i7, fun _ => rfl, i9, i10, i11, i12, i13, i14⟩
      · intro ln vs wx hn ha ⟨hI, u0, u5, i0, i1, i2, i3, i4, i5, i6, i7, i8, i9, i10, i11, i12, i13, i14⟩
        have q0 : ln 0 = true := ha ⟨0, Ground.data⟩ (by simp) rfl
        have w23 := i0 q0
        have HI := Lib.hid (And.intro i0 (And.intro i1 (And.intro i2 (And.intro i3 (And.intro i4 (And.intro i5 (And.intro i6 (And.intro i7 (And.intro i8 (And.intro i9 (And.intro i10 (And.intro i11 (And.intro i12 (And.intro i13 i14))))))))))))))
        clear i0 i1 i2 i3 i4 i5 i6 i7 i8 i9 i10 i11 i12 i13 i14 ha
        go_simp
        simp only [evOf_tmp, w23]
        go_simp
        obtain ⟨i0, i1, i2, i3, i4, i5, i6, i7, i8, i9, i10, i11, i12, i13, i14⟩ := HI.out
        exact ⟨hI, u0, u5, i0, i1, i2, i3, i4, i5, i6, i7, i8, fun _ => rfl, i10, i11, i12, i13, i14⟩
      · intro ln vs wx hn ha ⟨hI, u0, u5, i0, i1, i2, i3, i4, i5, i6, i7, i8, i9, i10, i11, i12, i13, i14⟩
        have q9 : ln 9 = true := ha ⟨9, Ground.data⟩ (by simp) rfl
        have w32 := i9 q9
        have HI := Lib.hid (And.intro i0 (And.intro i1 (And.intro i2 (And.intro i3 (And.intro i4 (And.intro i5 (And.intro i6 (And.intro i7 (And.intro i8 (And.intro i9 (And.intro i10 (And.intro i11 (And.intro i12 (And.intro i13 i14))))))))))))))
        clear i0 i1 i2 i3 i4 i5 i6 i7 i8 i9 i10 i11 i12 i13 i14 ha
        go_simp
        simp only [evOf_tmp, w32]
        go_simp
        obtain ⟨i0, i1, i2, i3, i4, i5, i6, i7, i8, i9, i10, i11, i12, i13, i14⟩ := HI.out
        exact ⟨hI, u0, u5, i0, i1, i2, i3, i4, i5, i6, i7, i8, i9, fun _ => rfl, i11, i12, i13, i14⟩
      · intro ln vs wx hn ha ⟨hI, u0, u5, i0, i1, i2, i3, i4, i5, i6, i7, i8, i9, i10, i11, i12, i13, i14⟩
        have q6 : ln 6 = true := ha ⟨6, Ground.data⟩ (by simp) rfl
        have q10 : ln 10 = true := ha ⟨10, Ground.data⟩ (by simp) rfl
        have w33 := i10 q10
        obtain ⟨bq, cq, w29, -⟩ := Own.some (i6 q6).1 (i6 q6).2
        have W29 := Lib.hid w29
        obtain ⟨v3, v4, i11, i11a, i11b, i11c, i11d⟩ := i11
        have x2 := (i11.2 2 _ rfl).1
        have xf2 := (i11.2 2 _ rfl).2
        have HO := Lib.hid (show Out (P + 1) (P + 2) wx (wx.setCell ⟨P + 1, 2, none⟩ (.slice (some ⟨bq, 0, none⟩) q.length cq)) from Out.set _ (Nat.le_refl _) (by omega))
        have BN := Lib.hid (BoxV.set i11 2 (.slice (some ⟨bq, 0, none⟩) q.length cq) (by simp))
        have HJ := Lib.hid (And.intro i11a (And.intro i11b (And.intro i11c i11d)))
        have HK := Lib.hid i11
        clear i11a i11b i11c i11d i11
        have i11 : True := trivial
        have HI := Lib.hid (And.intro i0 (And.intro i1 (And.intro i2 (And.intro i3 (And.intro i4 (And.intro i5 (And.intro i6 (And.intro i7 (And.intro i8 (And.intro i9 (And.intro i10 (And.intro i11 (And.intro i12 (And.intro i13 i14))))))))))))))
        clear i0 i1 i2 i3 i4 i5 i6 i7 i8 i9 i10 i11 i12 i13 i14 ha
        go_simp
        simp only [evOf_tmp, w33, w29]
        go_simp
        obtain ⟨i0, i1, i2, i3, i4, i5, i6, i7, i8, i9, i10, i11, i12, i13, i14⟩ := HI.out
        obtain ⟨i11a, i11b, i11c, i11d⟩ := HJ.out
        exact ⟨hI.trans HO.out, u0, u5, i0, i1, i2, i3, i4, i5, fun h => ⟨Own.out (i6 h).1 HO.out (Nat.le_refl _), (i6 h).2⟩, i7, i8, i9, i10, ⟨_, v4, BN.out, fun _ => ⟨W29.out.symm, q6⟩, fun h => (by cases h), i11c, i11d⟩, i12, i13, i14⟩
      · intro ln vs wx hn ha ⟨hI, u0, u5, i0, i1, i2, i3, i4, i5, i6, i7, i8, i9, i10, i11, i12, i13, i14⟩
        have q1 : ln 1 = true := ha ⟨1, Ground.data⟩ (by simp) rfl
        have w24 := i1 q1
        have HI := Lib.hid (And.intro i0 (And.intro i1 (And.intro i2 (And.intro i3 (And.intro i4 (And.intro i5 (And.intro i6 (And.intro i7 (And.intro i8 (And.intro i9 (And.intro i10 (And.intro i11 (And.intro i12 (And.intro i13 i14))))))))))))))
        clear i0 i1 i2 i3 i4 i5 i6 i7 i8 i9 i10 i11 i12 i13 i14 ha
        go_simp
        simp only [evOf_tmp, w24]
        go_simp
        obtain ⟨i0, i1, i2, i3, i4, i5, i6, i7, i8, i9, i10, i11, i12, i13, i14⟩ := HI.out
        exact ⟨hI, u0, u5, i0, i1, i2, i3, i4, i5, i6, i7, i8, i9, i10, i11, fun _ => rfl, i13, i14⟩
      · intro ln vs wx hn ha ⟨hI, u0, u5, i0, i1, i2, i3, i4, i5, i6, i7, i8, i9, i10, i11, i12, i13, i14⟩
        have q12 : ln 12 = true := ha ⟨12, Ground.data⟩ (by simp) rfl
        have w34 := i12 q12
        have HI := Lib.hid (And.intro i0 (And.intro i1 (And.intro i2 (And.intro i3 (And.intro i4 (And.intro i5 (And.intro i6 (And.intro i7 (And.intro i8 (And.intro i9 (And.intro i10 (And.intro i11 (And.intro i12 (And.intro i13 i14))))))))))))))
        clear i0 i1 i2 i3 i4 i5 i6 i7 i8 i9 i10 i11 i12 i13 i14 ha
        go_simp
        simp only [evOf_tmp, w34]
        go_simp
        obtain ⟨i0, i1, i2, i3, i4, i5, i6, i7, i8, i9, i10, i11, i12, i13, i14⟩ := HI.out
        exact ⟨hI, u0, u5, i0, i1, i2, i3, i4, i5, i6, i7, i8, i9, i10, i11, i12, fun _ => rfl, i14⟩
      · intro ln vs wx hn ha ⟨hI, u0, u5, i0, i1, i2, i3, i4, i5, i6, i7, i8, i9, i10, i11, i12, i13, i14⟩
        have q8 : ln 8 = true := ha ⟨8, Ground.data⟩ (by simp) rfl
        have q13 : ln 13 = true := ha ⟨13, Ground.data⟩ (by simp) rfl
        have w31 := i8 q8
        have w35 := i13 q13
        obtain ⟨v3, v4, i11, i11a, i11b, i11c, i11d⟩ := i11
        have x3 := (i11.2 3 _ rfl).1
        have xf3 := (i11.2 3 _ rfl).2
        have HO := Lib.hid (show Out (P + 1) (P + 2) wx (wx.setCell ⟨P + 1, 3, none⟩ (.int .i64 M)) from Out.set _ (Nat.le_refl _) (by omega))
        have BN := Lib.hid (BoxV.set i11 3 (.int .i64 M) (by simp))
        have HJ := Lib.hid (And.intro i11a (And.intro i11b (And.intro i11c i11d)))
        clear i11a i11b i11c i11d i11
        have i11 : True := trivial
        have HI := Lib.hid (And.intro i0 (And.intro i1 (And.intro i2 (And.intro i3 (And.intro i4 (And.intro i5 (And.intro i6 (And.intro i7 (And.intro i8 (And.intro i9 (And.intro i10 (And.intro i11 (And.intro i12 (And.intro i13 i14))))))))))))))
        clear i0 i1 i2 i3 i4 i5 i6 i7 i8 i9 i10 i11 i12 i13 i14 ha
        go_simp
        simp only [evOf_tmp, w31, w35]
        go_simp
        obtain ⟨i0, i1, i2, i3, i4, i5, i6, i7, i8, i9, i10, i11, i12, i13, i14⟩ := HI.out
        obtain ⟨i11a, i11b, i11c, i11d⟩ := HJ.out
        exact ⟨hI.trans HO.out, u0, u5, i0, i1, i2, i3, i4, i5, fun h => ⟨Own.out (i6 h).1 HO.out (Nat.le_refl _), (i6 h).2⟩, i7, i8, i9, i10, ⟨v3, _, BN.out, i11a, i11b, fun _ => rfl, fun h => (by cases h)⟩, i12, i13, fun _ => trivial⟩
    rintro vs wq ⟨ho, -, -, -, -, -, -, -, -, i6, -, -, -, -, ⟨v3, v4, i11, i11a, -, i14a, -⟩, -, -, -⟩
    have hO := (i6 rfl).1
    obtain ⟨e3, -⟩ := i11a rfl
    have e4 := i14a rfl
    subst e3 e4
    have SBN := Lib.hid i11
    have BVN := Lib.hid (show Own wq (P + 2) (vs 29) ((some q).getD []) from hO)
    simp (decide := true) only [over, Nat.reduceAdd, if_true, if_false]
    clear i6 i11 i11a i14a hO HCL HCM
    have Tn := Lib.hid (Out.below T.out ho (by omega))
    have Un := Lib.hid (Ot.out U.out ho (by omega))
    have Xn := Lib.hid (Sl.out X.out ho (fun b q e h => .inl (by have := HBX.out b q e h; omega)))
    have PBn := Lib.hid (OwnI.out PB.out ho (by omega))
    have CBn := Lib.hid (Cv.out CB.out ho (by omega))
    clear SB BV
    clear ho
    clear T U X PB CB
    have T := Tn
    have U := Un
    have X := Xn
    have PB := PBn
    have CB := CBn
    clear Tn Un Xn PBn CBn
    obtain ⟨wn, hwq⟩ : ∃ w9 : World, w9 = wq := ⟨_, rfl⟩
    subst hwq
    go_wp2_with fail
    go_end0
    have hfit : HFit gs rs q := hfit_iff.2 ⟨HOK.out, by rw [HL.out]; exact HQL.out, by rw [HL.out]; exact HPF.out⟩
    have hs0 : hsU gs q gs.length = M := by rw [HL.out]; exact HM.out
    have hsr : Sr gs rs (Beg q k) bl f (some q) (hsU gs q gs.length) := Sr.leaf hfit (fun _ _ => rfl) (fun u hu hb => nth_ext (by rw [hu.2.1.2, HL.out, HQL.out]) fun i hi => hb i (by rw [hu.2.1.2, HL.out] at hi; exact hi)) (by rw [hs0]; exact hlt)
    rw [hs0] at hsr
    exact ⟨rfl, U.out, q, _, some q, M, SBN.out, PB.out, fun _ _ => rfl, HQL.out, BVN.out, hsr⟩
  | succ j ih =>
    intro k hj q bl bv f P w hT hP hX hXP hS hO hql hB hpf
    obtain ⟨r, hr⟩ : ∃ r, rmU rs q k = r := ⟨_, rfl⟩
    obtain ⟨s, hs⟩ : ∃ s, spU gs q k = s := ⟨_, rfl⟩
    obtain ⟨M, hM⟩ : ∃ M, hsU gs q k = M := ⟨_, rfl⟩
    rw [hr, hs, hM]
    have HR := Lib.hid hr
    have HS := Lib.hid hs
    have HM := Lib.hid hM
    have HQL := Lib.hid hql
    have HPF := Lib.hid hpf
    have HXP := Lib.hid hXP
    clear hr hs hM hql hpf hXP
    obtain ⟨g, hg⟩ : ∃ g, w.heap.size = g := ⟨_, rfl⟩
    have HG := Lib.hid hg
    have hPg : P + 1 < g := by rw [← hg]; exact BoxV.lt hS
    have bb := Below.al (Below.refl w.heap.size w) (.cells (cva r s M) 49)
    have T := Lib.hid (Below.al hT (.cells (cva r s M) 49))
    have U := Lib.hid (show Ot w (w.alloc (.cells (cva r s M) 49)) P (P + 2) from Out.mk' bb)
    have X := Lib.hid (Sl.below hX bb)
    have SB := Lib.hid (BoxV.below hS bb)
    have PB := Lib.hid (OwnI.below hO bb)
    have BV := Lib.hid (Own.below hB bb)
    have CB := Lib.hid (Cv.new w r s M hg)
    have HBX := HXP
    clear bb hT hX hS hO hB HXP
    go_enter Try.func42, Try.ntmps42
    go_upto_region 1 with fail
    clear hg
    try simp only [HG.out]
    generalize w.alloc _ = wn at *
    by_cases hge : f ≤ M
    case pos =>
      refine wp_region_quiet (C := fun w' => Below (World.heap (wn)).size (wn) w') (by kernel_rfl) (by kernel_rfl) (by first | exact ⟨rfl, rfl, rfl, Nat.le_refl _, fun _ _ => rfl⟩ | exact Below.dw (by repeat (first | exact Below.refl _ _ | refine Below.al ?_ _ | refine Below.dr ?_ _ | refine Below.dw ?_ | refine Below.st ?_ (by first | exact Nat.le_refl _ | exact Nat.le_add_right _ _ | (simp; omega)) _ | (refine below_next ?_ (by assumption))))) ?_
      simp only []
      repeat (go_big_quiet_step (first | (intro _; with_reducible exact rfl) | (intro hC; have y1 := (Cv.many (Cv.below CB.out hC)).1; have y2 := ((BoxV.below SB.out hC).2 3 _ rfl).1; go_simp; rfl)))
      refine wpQuiet_nil ?_
      intro wq hq
      have Tn := Lib.hid (below_next T.out hq)
      have Un := Lib.hid (Ot.below U.out hq)
      have Xn := Lib.hid (Sl.below X.out hq)
      have SBn := Lib.hid (BoxV.below SB.out hq)
      have PBn := Lib.hid (OwnI.below PB.out hq)
      have BVn := Lib.hid (Own.below BV.out hq)
      have CBn := Lib.hid (Cv.below CB.out hq)
      clear hq
      clear T U X SB PB BV CB
      have T := Tn
      have U := Un
      have X := Xn
      have SB := SBn
      have PB := PBn
      have BV := BVn
      have CB := CBn
      clear Tn Un Xn SBn PBn BVn CBn
      obtain ⟨wn, hwq⟩ : ∃ w0, w0 = wq := ⟨_, rfl⟩
      subst hwq
      go_wp2_with fail
      go_end0
      exact ⟨rfl, U.out, q, bv, bl, f, SB.out, PB.out, fun _ _ => rfl, HQL.out, BV.out, Sr.stay fun t ht hb => by
        have h1 := hs_mono' gs t (show k ≤ gs.length from by rw [HL.out]; omega)
        have h2 : hsU gs t k = hsU gs q k := hs_congr hb
        have h3 := HM.out
        omega⟩
    have hlt : M < f := by omega
    refine wp_region_quiet (C := fun w' => Below (World.heap (wn)).size (wn) w') (by kernel_rfl) (by kernel_rfl) (by first | exact ⟨rfl, rfl, rfl, Nat.le_refl _, fun _ _ => rfl⟩ | exact Below.dw (by repeat (first | exact Below.refl _ _ | refine Below.al ?_ _ | refine Below.dr ?_ _ | refine Below.dw ?_ | refine Below.st ?_ (by first | exact Nat.le_refl _ | exact Nat.le_add_right _ _ | (simp; omega)) _ | (refine below_next ?_ (by assumption))))) ?_
    simp only []
    repeat (go_big_quiet_step (first | (intro _; with_reducible exact rfl) | (intro hC; have y1 := (Cv.many (Cv.below CB.out hC)).1; have y2 := ((BoxV.below SB.out hC).2 3 _ rfl).1; go_simp; rfl)))
    refine wpQuiet_nil ?_
    intro wq hq
    have Tn := Lib.hid (below_next T.out hq)
    have Un := Lib.hid (Ot.below U.out hq)
    have Xn := Lib.hid (Sl.below X.out hq)
    have SBn := Lib.hid (BoxV.below SB.out hq)
    have PBn := Lib.hid (OwnI.below PB.out hq)
    have BVn := Lib.hid (Own.below BV.out hq)
    have CBn := Lib.hid (Cv.below CB.out hq)
    clear hq
    clear T U X SB PB BV CB
    have T := Tn
    have U := Un
    have X := Xn
    have SB := SBn
    have PB := PBn
    have BV := BVn
    have CB := CBn
    clear Tn Un Xn SBn PBn BVn CBn
    obtain ⟨wn, hwq⟩ : ∃ w0, w0 = wq := ⟨_, rfl⟩
    subst hwq
    have y0 := (SB.out.2 0 _ rfl).1
    have hkn : k < n1 := by omega
    have q1 : ((k : Int) == (n1 : Int)) = false := beq_false_of_ne (by omega)
    have IH := Lib.hid ih
    clear hge ih
    go_upto_region 4 with fail
    clear y0 q1
    have hgk : k < gs.length := by rw [HL.out]; exact hkn
    have HGK := Lib.hid hgk
    clear hgk
    go_wp2_with fail
    go_loopw [36] (fun v wr => ∃ (c : Nat) (q2 : List Int) (bl2 : Option (List Int)) (bv2 : Value) (f2 : Int), c ≤ 3 ∧ v = .int .i64 c ∧ (∀ i, i < k → nth q2 i = nth q i) ∧ q2.length = n1 ∧ Sr gs rs (BegU q k c) bl f bl2 f2 ∧ Below w0.heap.size w0 wr ∧ Ot w wr P (P + 2) ∧ Sl wr a1 gs ∧ BoxV wr (P + 1) [.slice a1 n1 c1, .slice (some ⟨P, 0, none⟩) n1 n1, bv2, .int .i64 f2] ∧ OwnI wr P (P + 1) (.slice (some ⟨P, 0, none⟩) n1 n1) q2 ∧ Own wr (P + 2) bv2 (bl2.getD []) ∧ Cv wr g r s M) (fun v _ => 3 - (intOf v).toNat)
    case atStart => exact ⟨0, q, bl, bv, f, by omega, rfl, fun _ _ => rfl, HQL.out, begU_zero HGK.out, T.out, U.out, X.out, SB.out, PB.out, BV.out, CB.out⟩
    case' round =>
      clear T U X SB PB BV CB
      obtain ⟨c, q2, bl2, bv2, f2, hc, rfl, hag, hql2, hsr, h9T, h9U, h9X, h9SB, h9PB, h9BV, h9CB⟩ := hrel
      obtain ⟨wn, hwq⟩ : ∃ w0 : World, w0 = wr := ⟨_, rfl⟩
      rw [← hwq] at h9T h9U h9X h9SB h9PB h9BV h9CB ⊢
      clear hwq
      have T := Lib.hid h9T
      have U := Lib.hid h9U
      have X := Lib.hid h9X
      have SB := Lib.hid h9SB
      have PB := Lib.hid h9PB
      have BV := Lib.hid h9BV
      have CB := Lib.hid h9CB
      clear h9T h9U h9X h9SB h9PB h9BV h9CB
      have HAG := Lib.hid hag
      have HQ2 := Lib.hid hql2
      have HSR := Lib.hid hsr
      clear hag hql2 hsr
      by_cases hlt3 : c < 3
      case neg =>
        obtain rfl : c = 3 := by omega
        go_wp2_with fail
        go_end0
        exact ⟨rfl, U.out, q2, bv2, bl2, f2, SB.out, PB.out, HAG.out, HQ2.out, BV.out, begU_all HGK.out HSR.out⟩
      have hci : (c : Int) < 3 := by omega
      obtain ⟨b1, o1, rfl, hI1⟩ := Sl.at X.out (k := k) HGK.out
      obtain ⟨gl, hgl⟩ : ∃ gl, nth gs k = gl := ⟨_, rfl⟩
      have hset : ∀ i, i < k → nth (q2.set k (c : Int)) i = nth q i := fun i hi => by rw [nth_set_other (by omega)]; exact HAG.out i hi
      have hsk : nth (q2.set k (c : Int)) k = (c : Int) := nth_set_same (by rw [HQ2.out]; exact hkn)
      obtain ⟨r2, s2, m2, z, hK, hz⟩ := with_step (ps := q2.set k (c : Int)) (p := (c : Int)) (gl := gl) HOK.out HGK.out (pf_congr (fun i hi => (hset i hi).symm) HPF.out) hsk hgl
      rw [rm_congr hset, sp_congr hset, hs_congr hset, HR.out, HS.out, HM.out] at hK
      rw [rm_congr hset, HR.out] at hz
      have HD := Lib.hid hK
      have HZ := Lib.hid hz
      have HSET := Lib.hid hset
      have HSK := Lib.hid hsk
      have HXC := Lib.hid (show ∀ wx, Below wn.heap.size wn wx → wx.cell? ⟨b1, o1 + k, none⟩ = some (.int .i64 gl) from fun wx hb => by rw [← hgl]; exact (Ints.below hI1 hb) k HGK.out)
      have HSC := Lib.hid (show ∀ wx, Below wn.heap.size wn wx → wx.cell? ⟨P + 1, 0, none⟩ = some (.slice (some ⟨b1, o1, none⟩) n1 c1) from fun wx hb => ((BoxV.below SB.out hb).2 0 _ rfl).1)
      have hki : (k : Int) < n1 := by omega
      clear hK hz hset hsk hI1 hgl
      go_upto_region 7 with fail
      obtain ⟨B0, hB0⟩ : ∃ B0, wn.heap.size = B0 := ⟨_, rfl⟩
      have HB0 := Lib.hid hB0
      have hgB : g < B0 := by rw [← hB0]; exact Cv.lt CB.out
      clear hB0
      refine wp_region_inv (fun ln vs wx => RT wn P g B0 k c (some ⟨b1, o1, none⟩) n1 c1 (.pointer (some ⟨b1, o1 + k, none⟩)) gl r r2 s s2 M m2 z ln vs wx) [40, 41, 42, 43, 44, 45, 46, 47, 48, 49, 39, 50, 51, 7, 8]
        (by kernel_rfl) (by kernel_rfl) (by kernel_rfl) (by kernel_rfl) ⟨Below.dw (Below.refl _ _), rfl, rfl, rfl, rfl, fun h => (by cases h), fun h => (by cases h), fun h => (by cases h), fun h => (by cases h), fun h => (by cases h), fun h => (by cases h), fun h => (by cases h), fun h => (by cases h), fun h => (by cases h), fun h => (by cases h), fun h => (by cases h), fun h => (by cases h), fun h => (by cases h), fun h => (by cases h), fun h => (by cases h), fun h => (by cases h)⟩ ?hobs7 ?_
      case hobs7 =>
        refine ⟨?_, ?_, ?_, ?_, ?_, ?_, ?_, ?_, ?_, ?_, ?_, ?_, ?_, ?_, ?_, ?_, trivial⟩
        · intro ln vs wx hn ha ⟨hI, u0, u1, u5, u6, i0, i1, i2, i3, i4, i5, i6, i7, i8, i9, i10, i11, i12, i13, i14, i15⟩
          clear ha
          rw [exec_load_cv (.tmp 5) rfl u5 (Cv.below CB.out hI)]
          exact ⟨hI, u0, u1, u5, u6, fun _ => rfl, i1, i2, i3, i4, i5, i6, i7, i8, i9, i10, i11, i12, i13, i14, i15⟩
        · intro ln vs wx hn ha ⟨hI, u0, u1, u5, u6, i0, i1, i2, i3, i4, i5, i6, i7, i8, i9, i10, i11, i12, i13, i14, i15⟩
          have HI := Lib.hid (And.intro i0 (And.intro i1 (And.intro i2 (And.intro i3 (And.intro i4 (And.intro i5 (And.intro i6 (And.intro i7 (And.intro i8 (And.intro i9 (And.intro i10 (And.intro i11 (And.intro i12 (And.intro i13 (And.intro i14 i15)))))))))))))))
          clear i0 i1 i2 i3 i4 i5 i6 i7 i8 i9 i10 i11 i12 i13 i14 i15 ha
          go_simp
          simp only [evOf_tmp, u6]
          obtain ⟨i0, i1, i2, i3, i4, i5, i6, i7, i8, i9, i10, i11, i12, i13, i14, i15⟩ := HI.out
          exact ⟨hI, u0, u1, u5, u6, i0, fun _ => rfl, i2, i3, i4, i5, i6, i7, i8, i9, i10, i11, i12, i13, i14, i15⟩
        · intro ln vs wx hn ha ⟨hI, u0, u1, u5, u6, i0, i1, i2, i3, i4, i5, i6, i7, i8, i9, i10, i11, i12, i13, i14, i15⟩
          have HI := Lib.hid (And.intro i0 (And.intro i1 (And.intro i2 (And.intro i3 (And.intro i4 (And.intro i5 (And.intro i6 (And.intro i7 (And.intro i8 (And.intro i9 (And.intro i10 (And.intro i11 (And.intro i12 (And.intro i13 (And.intro i14 i15)))))))))))))))
          clear i0 i1 i2 i3 i4 i5 i6 i7 i8 i9 i10 i11 i12 i13 i14 i15 ha
          go_simp
          simp only [evOf_tmp, u0]
          obtain ⟨i0, i1, i2, i3, i4, i5, i6, i7, i8, i9, i10, i11, i12, i13, i14, i15⟩ := HI.out
          exact ⟨hI, u0, u1, u5, u6, i0, i1, fun _ => rfl, i3, i4, i5, i6, i7, i8, i9, i10, i11, i12, i13, i14, i15⟩
        · intro ln vs wx hn ha ⟨hI, u0, u1, u5, u6, i0, i1, i2, i3, i4, i5, i6, i7, i8, i9, i10, i11, i12, i13, i14, i15⟩
          have q2 : ln 2 = true := ha ⟨2, Ground.data⟩ (by simp) rfl
          have w42 := i2 q2
          have HI := Lib.hid (And.intro i0 (And.intro i1 (And.intro i2 (And.intro i3 (And.intro i4 (And.intro i5 (And.intro i6 (And.intro i7 (And.intro i8 (And.intro i9 (And.intro i10 (And.intro i11 (And.intro i12 (And.intro i13 (And.intro i14 i15)))))))))))))))
          clear i0 i1 i2 i3 i4 i5 i6 i7 i8 i9 i10 i11 i12 i13 i14 i15 ha
          go_simp
          simp only [evOf_tmp, w42]
          go_simp
          obtain ⟨i0, i1, i2, i3, i4, i5, i6, i7, i8, i9, i10, i11, i12, i13, i14, i15⟩ := HI.out
          exact ⟨hI, u0, u1, u5, u6, i0, i1, i2, fun _ => rfl, i4, i5, i6, i7, i8, i9, i10, i11, i12, i13, i14, i15⟩
        · intro ln vs wx hn ha ⟨hI, u0, u1, u5, u6, i0, i1, i2, i3, i4, i5, i6, i7, i8, i9, i10, i11, i12, i13, i14, i15⟩
          have q3 : ln 3 = true := ha ⟨3, Ground.data⟩ (by simp) rfl
          have w43 := i3 q3
          have HI := Lib.hid (And.intro i0 (And.intro i1 (And.intro i2 (And.intro i3 (And.intro i4 (And.intro i5 (And.intro i6 (And.intro i7 (And.intro i8 (And.intro i9 (And.intro i10 (And.intro i11 (And.intro i12 (And.intro i13 (And.intro i14 i15)))))))))))))))
          clear i0 i1 i2 i3 i4 i5 i6 i7 i8 i9 i10 i11 i12 i13 i14 i15 ha
          go_simp
          simp only [evOf_tmp, w43]
          go_simp
          obtain ⟨i0, i1, i2, i3, i4, i5, i6, i7, i8, i9, i10, i11, i12, i13, i14, i15⟩ := HI.out
          exact ⟨hI, u0, u1, u5, u6, i0, i1, i2, i3, fun _ => rfl, i5, i6, i7, i8, i9, i10, i11, i12, i13, i14, i15⟩
        · intro ln vs wx hn ha ⟨hI, u0, u1, u5, u6, i0, i1, i2, i3, i4, i5, i6, i7, i8, i9, i10, i11, i12, i13, i14, i15⟩
          have q4 : ln 4 = true := ha ⟨4, Ground.data⟩ (by simp) rfl
          have w44 := i4 q4
          have d0 := HSC.out _ hI
          have HI := Lib.hid (And.intro i0 (And.intro i1 (And.intro i2 (And.intro i3 (And.intro i4 (And.intro i5 (And.intro i6 (And.intro i7 (And.intro i8 (And.intro i9 (And.intro i10 (And.intro i11 (And.intro i12 (And.intro i13 (And.intro i14 i15)))))))))))))))
          clear i0 i1 i2 i3 i4 i5 i6 i7 i8 i9 i10 i11 i12 i13 i14 i15 ha
          go_simp
          simp only [evOf_tmp, w44]
          go_simp
          obtain ⟨i0, i1, i2, i3, i4, i5, i6, i7, i8, i9, i10, i11, i12, i13, i14, i15⟩ := HI.out
          exact ⟨hI, u0, u1, u5, u6, i0, i1, i2, i3, i4, fun _ => rfl, i6, i7, i8, i9, i10, i11, i12, i13, i14, i15⟩
        · intro ln vs wx hn ha ⟨hI, u0, u1, u5, u6, i0, i1, i2, i3, i4, i5, i6, i7, i8, i9, i10, i11, i12, i13, i14, i15⟩
          have HI := Lib.hid (And.intro i0 (And.intro i1 (And.intro i2 (And.intro i3 (And.intro i4 (And.intro i5 (And.intro i6 (And.intro i7 (And.intro i8 (And.intro i9 (And.intro i10 (And.intro i11 (And.intro i12 (And.intro i13 (And.intro i14 i15)))))))))))))))
          clear i0 i1 i2 i3 i4 i5 i6 i7 i8 i9 i10 i11 i12 i13 i14 i15 ha
          go_simp
          simp only [evOf_tmp, u1]
          obtain ⟨i0, i1, i2, i3, i4, i5, i6, i7, i8, i9, i10, i11, i12, i13, i14, i15⟩ := HI.out
          exact ⟨hI, u0, u1, u5, u6, i0, i1, i2, i3, i4, i5, fun _ => rfl, i7, i8, i9, i10, i11, i12, i13, i14, i15⟩
        · intro ln vs wx hn ha ⟨hI, u0, u1, u5, u6, i0, i1, i2, i3, i4, i5, i6, i7, i8, i9, i10, i11, i12, i13, i14, i15⟩
          have q5 : ln 5 = true := ha ⟨5, Ground.data⟩ (by simp) rfl
          have q6 : ln 6 = true := ha ⟨6, Ground.data⟩ (by simp) rfl
          have w45 := i5 q5
          have w46 := i6 q6
          have HI := Lib.hid (And.intro i0 (And.intro i1 (And.intro i2 (And.intro i3 (And.intro i4 (And.intro i5 (And.intro i6 (And.intro i7 (And.intro i8 (And.intro i9 (And.intro i10 (And.intro i11 (And.intro i12 (And.intro i13 (And.intro i14 i15)))))))))))))))
          clear i0 i1 i2 i3 i4 i5 i6 i7 i8 i9 i10 i11 i12 i13 i14 i15 ha
          go_simp
          simp only [evOf_tmp, w45, w46]
          go_simp
          obtain ⟨i0, i1, i2, i3, i4, i5, i6, i7, i8, i9, i10, i11, i12, i13, i14, i15⟩ := HI.out
          exact ⟨hI, u0, u1, u5, u6, i0, i1, i2, i3, i4, i5, i6, fun _ => rfl, i8, i9, i10, i11, i12, i13, i14, i15⟩
        · intro ln vs wx hn ha ⟨hI, u0, u1, u5, u6, i0, i1, i2, i3, i4, i5, i6, i7, i8, i9, i10, i11, i12, i13, i14, i15⟩
          have q7 : ln 7 = true := ha ⟨7, Ground.data⟩ (by simp) rfl
          have w47 := i7 q7
          have d0 := HXC.out _ hI
          have HI := Lib.hid (And.intro i0 (And.intro i1 (And.intro i2 (And.intro i3 (And.intro i4 (And.intro i5 (And.intro i6 (And.intro i7 (And.intro i8 (And.intro i9 (And.intro i10 (And.intro i11 (And.intro i12 (And.intro i13 (And.intro i14 i15)))))))))))))))
          clear i0 i1 i2 i3 i4 i5 i6 i7 i8 i9 i10 i11 i12 i13 i14 i15 ha
          go_simp
          simp only [evOf_tmp, w47]
          go_simp
          obtain ⟨i0, i1, i2, i3, i4, i5, i6, i7, i8, i9, i10, i11, i12, i13, i14, i15⟩ := HI.out
          exact ⟨hI, u0, u1, u5, u6, i0, i1, i2, i3, i4, i5, i6, i7, fun _ => rfl, i9, i10, i11, i12, i13, i14, i15⟩
        · intro ln vs wx hn ha ⟨hI, u0, u1, u5, u6, i0, i1, i2, i3, i4, i5, i6, i7, i8, i9, i10, i11, i12, i13, i14, i15⟩
          have q0 : ln 0 = true := ha ⟨0, Ground.data⟩ (by simp) rfl
          have q1 : ln 1 = true := ha ⟨1, Ground.data⟩ (by simp) rfl
          have q8 : ln 8 = true := ha ⟨8, Ground.data⟩ (by simp) rfl
          have w40 := i0 q0
          have w41 := i1 q1
          have w48 := i8 q8
          have HI := Lib.hid (And.intro i0 (And.intro i1 (And.intro i2 (And.intro i3 (And.intro i4 (And.intro i5 (And.intro i6 (And.intro i7 (And.intro i8 (And.intro i9 (And.intro i10 (And.intro i11 (And.intro i12 (And.intro i13 (And.intro i14 i15)))))))))))))))
          clear i0 i1 i2 i3 i4 i5 i6 i7 i8 i9 i10 i11 i12 i13 i14 i15 ha
          go_simp
          simp only [evOf_tmp, w40, w41, w48]
          obtain ⟨i0, i1, i2, i3, i4, i5, i6, i7, i8, i9, i10, i11, i12, i13, i14, i15⟩ := HI.out
          refine (HD.out wx).mono ?_
          rintro e w' ⟨rfl, hb⟩
          exact ⟨_, rfl, below_next hI hb, u0, u1, u5, u6, i0, i1, i2, i3, i4, i5, i6, i7, i8, fun _ => rfl, i10, i11, i12, i13.below hb, i14, i15⟩
        · intro ln vs wx hn ha ⟨hI, u0, u1, u5, u6, i0, i1, i2, i3, i4, i5, i6, i7, i8, i9, i10, i11, i12, i13, i14, i15⟩
          have q9 : ln 9 = true := ha ⟨9, Ground.data⟩ (by simp) rfl
          have w49 := i9 q9
          have HI := Lib.hid (And.intro i0 (And.intro i1 (And.intro i2 (And.intro i3 (And.intro i4 (And.intro i5 (And.intro i6 (And.intro i7 (And.intro i8 (And.intro i9 (And.intro i10 (And.intro i11 (And.intro i12 (And.intro i13 (And.intro i14 i15)))))))))))))))
          clear i0 i1 i2 i3 i4 i5 i6 i7 i8 i9 i10 i11 i12 i13 i14 i15 ha
          go_simp
          simp only [evOf_tmp, w49]
          obtain ⟨i0, i1, i2, i3, i4, i5, i6, i7, i8, i9, i10, i11, i12, i13, i14, i15⟩ := HI.out
          exact ⟨hI, u0, u1, u5, u6, i0, i1, i2, i3, i4, i5, i6, i7, i8, i9, fun _ => rfl, i11, i12, i13, i14, i15⟩
        · intro ln vs wx hn ha ⟨hI, u0, u1, u5, u6, i0, i1, i2, i3, i4, i5, i6, i7, i8, i9, i10, i11, i12, i13, i14, i15⟩
          have q10 : ln 10 = true := ha ⟨10, Ground.data⟩ (by simp) rfl
          have w39 := i10 q10
          have HI := Lib.hid (And.intro i0 (And.intro i1 (And.intro i2 (And.intro i3 (And.intro i4 (And.intro i5 (And.intro i6 (And.intro i7 (And.intro i8 (And.intro i9 (And.intro i10 (And.intro i11 (And.intro i12 (And.intro i13 (And.intro i14 i15)))))))))))))))
          clear i0 i1 i2 i3 i4 i5 i6 i7 i8 i9 i10 i11 i12 i13 i14 i15 ha
          go_simp
          simp only [evOf_tmp, w39]
          go_simp
          obtain ⟨i0, i1, i2, i3, i4, i5, i6, i7, i8, i9, i10, i11, i12, i13, i14, i15⟩ := HI.out
          exact ⟨hI, u0, u1, u5, u6, i0, i1, i2, i3, i4, i5, i6, i7, i8, i9, i10, fun _ => rfl, i12, i13, i14, i15⟩
        · intro ln vs wx hn ha ⟨hI, u0, u1, u5, u6, i0, i1, i2, i3, i4, i5, i6, i7, i8, i9, i10, i11, i12, i13, i14, i15⟩
          have q10 : ln 10 = true := ha ⟨10, Ground.data⟩ (by simp) rfl
          have w39 := i10 q10
          have HI := Lib.hid (And.intro i0 (And.intro i1 (And.intro i2 (And.intro i3 (And.intro i4 (And.intro i5 (And.intro i6 (And.intro i7 (And.intro i8 (And.intro i9 (And.intro i10 (And.intro i11 (And.intro i12 (And.intro i13 (And.intro i14 i15)))))))))))))))
          clear i0 i1 i2 i3 i4 i5 i6 i7 i8 i9 i10 i11 i12 i13 i14 i15 ha
          go_simp
          simp only [evOf_tmp, w39]
          go_simp
          obtain ⟨i0, i1, i2, i3, i4, i5, i6, i7, i8, i9, i10, i11, i12, i13, i14, i15⟩ := HI.out
          exact ⟨hI, u0, u1, u5, u6, i0, i1, i2, i3, i4, i5, i6, i7, i8, i9, i10, i11, fun _ => rfl, i13, i14, i15⟩
        · intro ln vs wx hn ha ⟨hI, u0, u1, u5, u6, i0, i1, i2, i3, i4, i5, i6, i7, i8, i9, i10, i11, i12, i13, i14, i15⟩
          have n14 : ln 14 = false := by
            cases e : ln 14
            · rfl
            · have := i14 e; rw [hn] at this; cases this
          have HI := Lib.hid (And.intro i0 (And.intro i1 (And.intro i2 (And.intro i3 (And.intro i4 (And.intro i5 (And.intro i6 (And.intro i7 (And.intro i8 (And.intro i9 (And.intro i10 (And.intro i11 (And.intro i12 (And.intro i13 (And.intro i14 i15)))))))))))))))
          clear i0 i1 i2 i3 i4 i5 i6 i7 i8 i9 i10 i11 i12 i13 i14 i15 ha
          go_simp
          obtain ⟨i0, i1, i2, i3, i4, i5, i6, i7, i8, i9, i10, i11, i12, i13, i14, i15⟩ := HI.out
          exact ⟨Below.al hI _, u0, u1, u5, u6, i0, i1, i2, i3, i4, i5, i6, i7, i8, i9, i10, i11, i12, PC.new (by rw [← HB0.out]; exact hI.size) n14, fun _ => rfl, i15⟩
        · intro ln vs wx hn ha ⟨hI, u0, u1, u5, u6, i0, i1, i2, i3, i4, i5, i6, i7, i8, i9, i10, i11, i12, i13, i14, i15⟩
          have q11 : ln 11 = true := ha ⟨11, Ground.data⟩ (by simp) rfl
          have q13 : ln 13 = true := ha ⟨13, Ground.data⟩ (by simp) rfl
          obtain ⟨G, w7, hG, -, hG0⟩ := i13 q13
          clear ha
          refine stepI_store_cv (.tmp 7) (.tmp 50) rfl w7 (i11 q11) (hG0 hn) fun w' h2 h3 => ?_
          exact ⟨Out.below hI h3 (by rw [HB0.out]; exact hG), u0, u1, u5, u6, i0, i1, i2, i3, i4, i5, i6, i7, i8, i9, i10, i11, i12, fun _ => ⟨G, w7, hG, fun _ => h2, fun e => (by cases e)⟩, fun _ => q13, i15⟩
        · intro ln vs wx hn ha ⟨hI, u0, u1, u5, u6, i0, i1, i2, i3, i4, i5, i6, i7, i8, i9, i10, i11, i12, i13, i14, i15⟩
          have q12 : ln 12 = true := ha ⟨12, Ground.data⟩ (by simp) rfl
          have w51 := i12 q12
          have HI := Lib.hid (And.intro i0 (And.intro i1 (And.intro i2 (And.intro i3 (And.intro i4 (And.intro i5 (And.intro i6 (And.intro i7 (And.intro i8 (And.intro i9 (And.intro i10 (And.intro i11 (And.intro i12 (And.intro i13 (And.intro i14 i15)))))))))))))))
          clear i0 i1 i2 i3 i4 i5 i6 i7 i8 i9 i10 i11 i12 i13 i14 i15 ha
          go_simp
          simp only [evOf_tmp, w51]
          obtain ⟨i0, i1, i2, i3, i4, i5, i6, i7, i8, i9, i10, i11, i12, i13, i14, i15⟩ := HI.out
          exact ⟨hI, u0, u1, u5, u6, i0, i1, i2, i3, i4, i5, i6, i7, i8, i9, i10, i11, i12, i13, i14, fun _ => rfl⟩
      rintro vs wq ⟨hq, -, -, -, -, -, -, -, -, -, -, -, -, -, -, -, -, -, i13, -, i15⟩
      obtain ⟨G, t7, hGB, hGc, -⟩ := i13 rfl
      have t8 : vs 8 = .bool z := i15 rfl
      have NB := Lib.hid (hGc rfl)
      simp (decide := true) only [over, Nat.reduceAdd, if_true, if_false]
      rw [t7, t8]
      clear i13 i15 t7 t8 hGc HD HXC HSC HB0
      have Tn := Lib.hid (below_next T.out hq)
      have Un := Lib.hid (Ot.below U.out hq)
      have Xn := Lib.hid (Sl.below X.out hq)
      have SBn := Lib.hid (BoxV.below SB.out hq)
      have PBn := Lib.hid (OwnI.below PB.out hq)
      have BVn := Lib.hid (Own.below BV.out hq)
      have CBn := Lib.hid (Cv.below CB.out hq)
      clear hq
      clear T U X SB PB BV CB
      have T := Tn
      have U := Un
      have X := Xn
      have SB := SBn
      have PB := PBn
      have BV := BVn
      have CB := CBn
      clear Tn Un Xn SBn PBn BVn CBn
      obtain ⟨wn, hwq⟩ : ∃ w0, w0 = wq := ⟨_, rfl⟩
      subst hwq
      obtain ⟨rfl, -, -, -, e1, e2, e3, hpf2⟩ | ⟨rfl, hno, -⟩ := HZ.out
      case inr =>
        have hr0 : rmU rs q k c = 0 := by
          rw [HR.out]
          rcases hno with h | h | h
          · omega
          · omega
          · rw [Int.toNat_natCast] at h; exact h
        have HS2 := Lib.hid (begU_skip HGK.out hr0 hlt3 HSR.out)
        clear hno hr0 HZ NB
        go_wp2_with fail
        go_roundw
        case rel => exact ⟨c + 1, q2, bl2, bv2, f2, by omega, by go_num, HAG.out, HQ2.out, HS2.out, T.out, U.out, X.out, SB.out, PB.out, BV.out, CB.out⟩
        case measure => first | (simp [intOf]; done) | (simp [intOf]; omega) | omega
      subst e1 e2 e3
      have HPF2 := Lib.hid hpf2
      clear hpf2 HZ
      have y1 := (SB.out.2 1 _ rfl).1
      have y2 := OwnI.ints PB.out k (by rw [HQ2.out]; exact hkn)
      rw [Nat.zero_add] at y2
      have yf2 := OwnI.frz PB.out k
      go_upto_region 10 with fail
      have ho := Out.set (w := wn) (q := P) (i := k) (lo := P) (hi := P + 1) (.int .i64 (c : Int)) (Nat.le_refl _) (by omega)
      have PB2 := Lib.hid (owni_set (c : Int) PB.out (show k < q2.length from by rw [HQ2.out]; exact hkn))
      clear y1 y2 yf2
      generalize wn.setCell ⟨P, k, none⟩ (.int .i64 (c : Int)) = wq at *
      have Tn := Lib.hid (Out.below T.out ho (by omega))
      have Un := Lib.hid (Ot.out U.out ho (by omega))
      have Xn := Lib.hid (Sl.out X.out ho (fun b q e h => .inl (by have := HBX.out b q e h; omega)))
      have SBn := Lib.hid (BoxV.out SB.out ho (by omega))
      have BVn := Lib.hid (Own.out BV.out ho (by omega))
      have CBn := Lib.hid (Cv.out CB.out ho (by omega))
      have NBn := Lib.hid (Cv.out NB.out ho (by omega))
      clear PB
      clear ho
      clear T U X SB BV CB NB
      have T := Tn
      have U := Un
      have X := Xn
      have SB := SBn
      have BV := BVn
      have CB := CBn
      have NB := NBn
      clear Tn Un Xn SBn BVn CBn NBn
      obtain ⟨wn, hwq⟩ : ∃ w9 : World, w9 = wq := ⟨_, rfl⟩
      subst hwq
      have PB := PB2
      clear PB2
      have K := IH.out (k + 1) (by omega) (q2.set k (c : Int)) bl2 bv2 f2 P wn T.out hP X.out HBX.out SB.out PB.out (by rw [List.length_set]; exact HQ2.out) BV.out HPF2.out
      rw [show ((k + 1 : Nat) : Int) = (k : Int) + 1 from by omega] at K
      have HK := Lib.hid K
      have hkw : -9223372036854775808 ≤ (k : Int) + 1 ∧ (k : Int) + 1 ≤ 9223372036854775807 := by omega
      clear K PB
      go_wp2_with (with_reducible refine wpList_load_cv NB.out rfl ?_)
      refine Calls.mono HK.out ?_
      rintro e wq ⟨rfl, ho, q3, bv3, bl3, f3, hS3, hO3, hag3, hql3, hB3, hsr3⟩
      have SBN := Lib.hid hS3
      have PBN := Lib.hid hO3
      have BVN := Lib.hid hB3
      have HAG3 := Lib.hid (show ∀ i, i < k → nth q3 i = nth q i from fun i hi => by rw [hag3 i (by omega)]; exact HSET.out i hi)
      have HQ3 := Lib.hid hql3
      have HSR3 := Lib.hid (begU_try HGK.out HSET.out HSK.out HSR.out hsr3)
      clear hS3 hO3 hag3 hql3 hB3 hsr3 HK HAG HQ2 HSR HPF2
      have Tn := Lib.hid (Out.below T.out ho (by omega))
      have Un := Lib.hid (Ot.out U.out ho (by omega))
      have Xn := Lib.hid (Sl.out X.out ho (fun b q e h => .inl (by have := HBX.out b q e h; omega)))
      have CBn := Lib.hid (Cv.out CB.out ho (by omega))
      clear SB BV NB
      clear ho
      clear T U X CB
      have T := Tn
      have U := Un
      have X := Xn
      have CB := CBn
      clear Tn Un Xn CBn
      obtain ⟨wn, hwq⟩ : ∃ w9 : World, w9 = wq := ⟨_, rfl⟩
      subst hwq
      have SB := SBN
      have PB := PBN
      have BV := BVN
      clear SBN PBN BVN
      go_wp2_with fail
      go_roundw
      case rel => exact ⟨c + 1, q3, bl3, bv3, f3, by omega, by go_num, HAG3.out, HQ3.out, HSR3.out, T.out, U.out, X.out, SB.out, PB.out, BV.out, CB.out⟩
      case measure => first | (simp [intOf]; done) | (simp [intOf]; omega) | omega

end Go.Proofs.Yteeokegkbhpbcaa

namespace Go.Proofs.Yteeokegkbhpbcaa
open Go.RowKit
set_option linter.unusedVariables false
set_option linter.unusedSimpArgs false
set_option maxRecDepth 100000

set_option maxHeartbeats 4000000 in
theorem iHallBest_c (a1 : Option Addr) (n1 c1 : Nat) (gs : List Int) (a2 : Option Addr) (n2 c2 : Nat) (rs : List Int) (w : World) (hs : Sl w a1 gs) (hl : gs.length = n1) (hs2 : Sl w a2 rs) (hl2 : rs.length = n2) (hm : n1 ≤ 1048577) (hm2 : n2 ≤ 1048577) (k1 : n1 ≤ c1 ∧ c1 ≤ 9223372036854775807) (k2 : n2 ≤ c2 ∧ c2 ≤ 9223372036854775807) :
    Calls Try.prog 24 #[.slice a1 n1 c1, .slice a2 n2 c2] w (NewP w ((hbest gs rs).getD []) (hbest gs rs).isSome) := by
  obtain ⟨P0, hP⟩ : ∃ P, hokB gs rs = P := ⟨_, rfl⟩
  have K0 := fun w' (h : Sl w' a1 gs) (h2 : Sl w' a2 rs) => iHallOk_c a1 n1 c1 gs a2 n2 c2 rs w' h hl h2 hl2 hm hm2 k1 k2
  rw [hP] at K0
  have H0 := Lib.hid K0
  have HP := Lib.hid hP
  have HL := Lib.hid hl
  have HL2 := Lib.hid hl2
  have HBX0 := Lib.hid (Sl.lt hs)
  clear K0 hP hl hl2
  refine at_base fun wn hwn => ?_
  have T := Lib.hid (show Below w.heap.size w wn from by rw [hwn]; exact Below.refl _ _)
  rw [← hwn] at hs
  have X := Lib.hid (show Sl wn a1 gs from hs)
  clear hs
  rw [← hwn] at hs2
  have Y := Lib.hid (show Sl wn a2 rs from hs2)
  clear hs2
  clear hwn
  go_enter Try.func24, Try.ntmps24
  go_wp2_with fail
  refine Calls.mono (H0.out _ X.out Y.out) ?_
  intro e wn hh
  obtain ⟨he, hb⟩ := (by first | exact hh | exact Ro.mk hh | exact St.mk hh | exact LawOk.mk' hh : Mk _ _ e wn)
  subst he
  have Tn : Hid (Below w.heap.size w wn) := below_next T.out hb
  have Xn : Hid _ := Sl.below X.out hb
  have Yn : Hid _ := Sl.below Y.out hb
  clear hb hh
  clear T X Y
  have T := Tn
  have X := Xn
  have Y := Yn
  clear Tn Xn Yn
  clear H0
  cases P0
  case false =>
    have E := Lib.hid (show hbest gs rs = none from by
      have hn : ¬ HOk gs rs := fun h => by have := tr_true h; rw [show tr (HOk gs rs) = false from HP.out] at this; cases this
      unfold hbest; rw [if_neg hn])
    go_wp2_with fail
    exact bodyPost_ret (v := .tuple #[.slice none 0 0, .bool false]) (by simp [results, Try.results24, go_sem]) rfl ⟨.slice none 0 0, by rw [E.out]; rfl, by rw [E.out]; exact own_nil _ _, T.out⟩
  have hok : HOk gs rs := tr_t.1 HP.out
  have HOK := Lib.hid hok
  have hn2 : 1 ≤ n2 ∧ n2 ≤ 3 := by rw [← HL2.out]; exact hok.2.2.2
  have hn6 : n1 ≤ 6 := by rw [← HL.out]; exact hok.2.2.1
  clear hok
  obtain ⟨P, hp⟩ : ∃ P, wn.heap.size = P := ⟨_, rfl⟩
  have HPW := Lib.hid hp
  have hwP : w.heap.size ≤ P := by rw [← hp]; exact T.out.size
  have hmk := run_make_row' (P := Try.prog) 23 3 (.int .i64 0) 8 Try.underlying23 infoInt rfl .i64 .i64 n1 (by omega) (by omega)
  have O1 := Lib.hid (show OwnI (wn.alloc (.cells (madeCells #[.int .i64 0] n1) 3)) P (P + 1) (.slice (some ⟨P, 0, none⟩) n1 n1) (List.replicate n1 0) from by
    rw [← hp]
    exact ⟨own_made wn n1 (by omega), fun q hq => by simp [Value.ownBlock] at hq; omega, by omega, by simp⟩)
  have hb1 : Below wn.heap.size wn (wn.alloc (.cells (madeCells #[.int .i64 0] n1) 3)) := Below.al (Below.refl _ _) _
  have hs1 : (wn.alloc (.cells (madeCells #[.int .i64 0] n1) 3)).heap.size = P + 1 := by simp [hp]
  have HS1 := Lib.hid hs1
  have HB1 := Lib.hid hb1
  have HMK := Lib.hid hmk
  clear hp hs1 hb1 hmk
  have hmk := HMK.out
  go_upto_region 4 with fail
  clear hmk
  rw [HPW.out]
  have SB0 := Lib.hid (show BoxV ((wn.alloc (.cells (madeCells #[.int .i64 0] n1) 3)).alloc (.cells #[.slice a1 n1 c1, .slice (some ⟨P, 0, none⟩) n1 n1, .slice none 0 0, .int .i64 7] 53)) (P + 1) [.slice a1 n1 c1, .slice (some ⟨P, 0, none⟩) n1 n1, .slice none 0 0, .int .i64 7] from BoxV.new _ [.slice a1 n1 c1, .slice (some ⟨P, 0, none⟩) n1 n1, .slice none 0 0, .int .i64 7] 53 (by simp) HS1.out)
  have PB0 := Lib.hid (OwnI.al O1.out (.cells #[.slice a1 n1 c1, .slice (some ⟨P, 0, none⟩) n1 n1, .slice none 0 0, .int .i64 7] 53))
  have hq : Below wn.heap.size wn ((wn.alloc (.cells (madeCells #[.int .i64 0] n1) 3)).alloc (.cells #[.slice a1 n1 c1, .slice (some ⟨P, 0, none⟩) n1 n1, .slice none 0 0, .int .i64 7] 53)) := Below.al HB1.out _
  have hXP : ∀ b o, a1 = some ⟨b, o, none⟩ → 0 < gs.length → b < P := fun b o e h => by have := HBX0.out b o e h; omega
  have HXP := Lib.hid hXP
  try rw [HS1.out]
  clear O1 HB1 HMK hXP HS1 HPW HBX0
  generalize (wn.alloc _).alloc _ = wq at *
  have Tn := Lib.hid (below_next T.out hq)
  have Xn := Lib.hid (Sl.below X.out hq)
  have Yn := Lib.hid (Sl.below Y.out hq)
  clear hq
  clear T X Y
  have T := Tn
  have X := Xn
  have Y := Yn
  clear Tn Xn Yn
  obtain ⟨wn, hwq⟩ : ∃ w0, w0 = wq := ⟨_, rfl⟩
  subst hwq
  have SB := SB0
  have PB := PB0
  clear SB0 PB0
  go_wp2_with fail
  refine Calls.mono (emptyCars_c a2 n2 c2 rs _ Y.out HL2.out hn2.1 hn2.2) ?_
  intro e wn hh
  obtain ⟨he, hb⟩ := (by first | exact hh | exact Ro.mk hh | exact St.mk hh | exact LawOk.mk' hh : Mk _ _ e wn)
  subst he
  have Tn : Hid (Below w.heap.size w wn) := below_next T.out hb
  have Xn : Hid _ := Sl.below X.out hb
  have Yn : Hid _ := Sl.below Y.out hb
  have SBn : Hid _ := BoxV.below SB.out hb
  have PBn : Hid _ := OwnI.below PB.out hb
  clear hb hh
  clear T X Y SB PB
  have T := Tn
  have X := Xn
  have Y := Yn
  have SB := SBn
  have PB := PBn
  clear Tn Xn Yn SBn PBn
  have hpf : PFit rs (List.replicate n1 0) 0 := ⟨fun i hi => by omega, fun c hc => by have := (room_le HOK.out c).1; simpa [cntU] using this⟩
  have K := putFrom_c gs rs HOK.out a1 n1 c1 HL.out w n1 0 (by omega) (List.replicate n1 0) none (.slice none 0 0) 7 P wn T.out hwP X.out HXP.out SB.out PB.out (by simp) (own_nil _ _) hpf
  rw [rm_zero, sp_zero, show hsU gs (List.replicate n1 0) 0 = 0 from rfl] at K
  have HK := Lib.hid K
  clear K hpf
  go_wp2_with fail
  refine Calls.mono HK.out ?_
  rintro e wq ⟨rfl, ho, q3, bv3, bl3, f3, hS3, -, -, -, hB3, hsr3⟩
  obtain ⟨e1, e2⟩ := search_done HOK.out hsr3
  have T3 := Lib.hid (Out.below T.out ho hwP)
  have SB3 := Lib.hid hS3
  have OB3 := Lib.hid (show Own wq w.heap.size bv3 ((hbest gs rs).getD []) from by rw [← e1]; exact own_mono hB3 (by omega))
  have E2 := Lib.hid e2
  clear ho hS3 hB3 hsr3 e1 e2 HK T X Y SB PB HP
  go_upto_region 5 with fail
  refine wp_region_quiet (C := fun w' => Below (World.heap (wq)).size (wq) w') (by kernel_rfl) (by kernel_rfl) (by first | exact ⟨rfl, rfl, rfl, Nat.le_refl _, fun _ _ => rfl⟩ | exact Below.dw (by repeat (first | exact Below.refl _ _ | refine Below.al ?_ _ | refine Below.dr ?_ _ | refine Below.dw ?_ | refine Below.st ?_ (by first | exact Nat.le_refl _ | exact Nat.le_add_right _ _ | (simp; omega)) _ | (refine below_next ?_ (by assumption))))) ?_
  simp only []
  repeat (go_big_quiet_step (first | (intro _; with_reducible exact rfl) | (intro hC; have y1 := ((BoxV.below SB3.out hC).2 2 _ rfl).1; have y2 := ((BoxV.below SB3.out hC).2 3 _ rfl).1; go_simp; rfl)))
  refine wpQuiet_nil ?_
  intro wq hq
  have OB4 := Lib.hid (Own.below OB3.out hq)
  have T4 := Lib.hid (below_next T3.out hq)
  clear OB3 T3 SB3 hq
  go_wp2_with fail
  exact bodyPost_ret (v := .tuple #[bv3, .bool (decide (f3 < 7))]) (by simp [results, Try.results24, go_sem]) rfl ⟨_, by rw [E2.out], OB4.out, T4.out⟩
end Go.Proofs.Yteeokegkbhpbcaa
