/- The contracts of the lists' search, and of DoorStep, impl and spec. -/
import Derived.Test.Ytiplfnghikgcjaa3A
import Derived.Test.YtiplfnghikgcjaaB
namespace Go.Proofs.Ytiplfnghikgcjaa
open Go.RowKit
set_option linter.unusedVariables false

theorem has_ix {xs : List Int} {v : Int} : (0 ≤ ix xs v ∧ hasB xs v = true) ∨ (¬ 0 ≤ ix xs v ∧ hasB xs v = false) := by
  rcases ix_cases xs v with ⟨k, hk, e, hn, hu⟩ | ⟨e, hn⟩
  · left; exact ⟨by omega, hasB_t k hk hn⟩
  · right; exact ⟨by omega, hasB_f hn⟩
theorem ix_nil (v : Int) : ix [] v = -1 := ix_eq (.inr ⟨rfl, by simp⟩)
theorem index_sl (a : Option Addr) (cap : Nat) (xs : List Int) (v : Int) (w : World) (hs : Sl w a xs) (hm : xs.length ≤ maxLen) :
    Calls Try.prog 40 #[.slice a xs.length cap, .int .i64 v] w (Ro w (.int .i64 (ix xs v))) := by
  rcases hs with rfl | ⟨b, off, rfl, hI⟩
  · have e : Hid _ := ix_nil v
    clear hm
    go_enter Try.func40, Try.ntmps40
    go_wp2_with fail
    go_loop [8] (fun vk => vk = .int .i64 0) (fun _ => 0)
    case atStart => rfl
    case round =>
      obtain rfl := hrel
      go_wp2_with fail
      go_ret
      exact Ro.i e.out ⟨0, rfl⟩
  · exact index_c b off cap xs v w hI hm
theorem contains_c (a : Option Addr) (cap : Nat) (xs : List Int) (v : Int) (w : World) (hs : Sl w a xs) (hm : xs.length ≤ maxLen) :
    Calls Try.prog 36 #[.slice a xs.length cap, .int .i64 v] w (Ro w (.bool (hasB xs v))) := by
  have HS : Hid _ := hs
  clear hs
  rcases has_ix (xs := xs) (v := v) with ⟨i, e⟩ | ⟨i, e⟩
  all_goals
    have E : Hid _ := e
    clear e
    go_enter Try.func36, Try.ntmps36
    go_wp2_with fail
    refine (index_sl a cap xs v _ HS.out hm).mono ?_
    rintro e' w1 ⟨rfl, n1, rfl⟩
    go_wp2_with fail
    go_ret
    exact Ro.b (by rw [E.out]; first | done | exact (decide_eq_true i).symm | exact (decide_eq_false (by omega)).symm) (by first | exact ⟨0, rfl⟩ | (simp only [World.drewN_drewN]; exact ⟨_, rfl⟩) | exact ⟨_, rfl⟩)
theorem St.b {w : World} {b b' : Bool} (h : b = b') : St w (.bool b) (.returned (.bool b')) w := ⟨by rw [h], rfl⟩
theorem l1Has_s (a : Option Addr) (cap : Nat) (xs : List Int) (v : Int) (w : World) (hs : Sl w a xs) (hm : xs.length ≤ maxLen) :
    Calls Try.prog 37 #[.slice a xs.length cap, .int .i64 v] w (St w (.bool (hasB xs v))) := by
  unfold maxLen at hm
  rcases hs with rfl | ⟨b, off, rfl, hI⟩
  · have e : Hid _ := hasB_nil v
    clear hm
    go_enter Try.func37, Try.ntmps37
    go_wp2_with fail
    go_loop [5] (fun vk => vk = .int .i64 0) (fun _ => 0)
    case atStart => rfl
    case round =>
      obtain rfl := hrel
      go_wp2_with fail
      go_ret
      exact St.b e.out
  · have HI : Hid _ := hI
    clear hI
    go_enter Try.func37, Try.ntmps37
    go_wp2_with fail
    go_loop [5] (fun vk => ∃ k : Nat, k ≤ xs.length ∧ vk = .int .i64 k ∧ ∀ j, j < k → nth xs j ≠ v) (fun vk => xs.length - (intOf vk).toNat)
    case atStart => exact ⟨0, by omega, rfl, by omega⟩
    case round =>
      obtain ⟨k, hk, rfl, hu⟩ := hrel
      have U : Hid _ := hu
      clear hu
      by_cases hlt : k < xs.length
      · have c0 : w.cell? ⟨b, off + k, none⟩ = some (.int .i64 (nth xs k)) := HI.out k hlt
        by_cases e : nth xs k = v
        · have t : (nth xs k == v) = true := by simp [e]
          have E : Hid _ := e
          clear e
          go_wp2_with fail
          go_ret
          exact St.b (hasB_t k hlt E.out)
        · have t : (nth xs k == v) = false := by simp [e]
          have E : Hid _ := e
          clear e
          go_wp2_with fail
          go_round
          case rel => exact ⟨k + 1, by omega, by go_num, fun j hj => by
            by_cases e : j = k
            · subst e; exact E.out
            · exact U.out j (by omega)⟩
          case measure => simp [intOf]; omega
      · obtain rfl : k = xs.length := by omega
        go_wp2_with fail
        go_ret
        exact St.b (hasB_f U.out)
theorem l1Has_c (a : Option Addr) (cap : Nat) (xs : List Int) (v : Int) (w : World) (hs : Sl w a xs) (hm : xs.length ≤ maxLen) :
    Calls Try.prog 37 #[.slice a xs.length cap, .int .i64 v] w (Ro w (.bool (hasB xs v))) := St.ro (l1Has_s a cap xs v w hs hm)

theorem iDoorStep_c (g o : Int) (a b : Bool) (w : World) : Calls Try.prog 16 #[(Value.agg #[.int .i64 (g), .int .i64 (o)]), .bool a, .bool b] w (Mk w (Value.agg #[.int .i64 ((dst g o a b).1), .int .i64 ((dst g o a b).2)])) := by
  have Q : Hid _ := box2 w g o 0 0 24 24
  cases hv : dvB g o
  · have e : Hid _ := dst_bad (a := a) (b := b) hv
    go_enter Try.func16, Try.ntmps16
    go_wp2_with fail
    refine (iDoorValid_c g o _).mono ?_
    rintro e' w1 ⟨rfl, hb⟩
    obtain ⟨⟨c0, c1⟩, f0, f1⟩ := Box.below Q.out.2 hb
    go_wp2_with fail
    exact bodyPost_ret (v := .agg #[.int .i64 0, .int .i64 0]) (by simp [results, Try.results16, go_sem, c0, c1]) rfl (Mk.g (by rw [e.out]) (by rw [e.out]) (by repeat (first | exact Below.refl _ _ | refine Below.al ?_ _ | refine Below.dr ?_ _ | refine Below.dw ?_ | refine Below.st ?_ (by first | exact Nat.le_refl _ | exact Nat.le_add_right _ _ | (simp; omega)) _ | (refine below_next ?_ (by assumption)))))
  · have e : Hid _ := dst_ok (a := a) (b := b) hv
    have V : Hid _ := dvB_iff.1 hv
    go_enter Try.func16, Try.ntmps16
    go_wp2_with fail
    refine (iDoorValid_c g o _).mono ?_
    rintro e' w1 ⟨rfl, hb⟩
    have B1 : Hid _ := Box.below Q.out.1 hb
    have B2 : Hid _ := Box.below Q.out.2 hb
    have T1 : Hid (Below w.heap.size w w1) := (by repeat (first | exact Below.refl _ _ | refine Below.al ?_ _ | refine Below.dr ?_ _ | refine Below.dw ?_ | refine Below.st ?_ (by first | exact Nat.le_refl _ | exact Nat.le_add_right _ _ | (simp; omega)) _ | (refine below_next ?_ (by assumption))))
    clear hb
    go_wp2_with fail
    refine (step_c w.heap.size g o a b _ B1.out V.out).mono ?_
    rintro e' w2 ⟨rfl, B, F⟩
    have T2 : Hid (Below w.heap.size w w2) := Fr.below T1.out F (Nat.le_refl _)
    have B3 : Hid _ := Box.fr B2.out F (by omega)
    have B4 : Hid _ := B
    clear B F
    obtain ⟨⟨c2, c3⟩, f2, f3⟩ := B4.out
    obtain ⟨⟨d0, d1⟩, e0, e1⟩ := B3.out
    have B5 := Box.set (ds g o a b).1 (ds g o a b).2 B3.out
    go_wp2_with fail
    obtain ⟨⟨c0, c1⟩, f0, f1⟩ := B5
    exact bodyPost_ret (v := (Value.agg #[.int .i64 ((ds g o a b).1), .int .i64 ((ds g o a b).2)])) (by simp [results, Try.results16, go_sem, c0, c1]) rfl (Mk.g (by rw [e.out]) (by rw [e.out]) (by have HZ := T2.out; exact (by repeat (first | exact Below.refl _ _ | refine Below.al ?_ _ | refine Below.dr ?_ _ | refine Below.dw ?_ | refine Below.st ?_ (by first | exact Nat.le_refl _ | exact Nat.le_add_right _ _ | (simp; omega)) _ | (refine below_next ?_ (by assumption))))))
theorem ab_cases (a b : Bool) (g : Int) : (a = true ∧ (a = true ∨ (b = true ∧ 0 < g))) ∨ ((a = false ∧ b = true ∧ 0 < g) ∧ (a = true ∨ (b = true ∧ 0 < g))) ∨ ((a = false ∧ b = false) ∧ ¬ (a = true ∨ (b = true ∧ 0 < g))) ∨ ((a = false ∧ b = true ∧ ¬ 0 < g) ∧ ¬ (a = true ∨ (b = true ∧ 0 < g))) := by
  cases a
  · cases b
    · right; right; left; simp
    · by_cases k : 0 < g
      · right; left; simp [k]
      · right; right; right; simp [k]
  · left; simp
set_option maxHeartbeats 1000000 in
theorem sDoorStep_c (g o : Int) (a b : Bool) (w : World) : Calls Try.prog 17 #[(Value.agg #[.int .i64 (g), .int .i64 (o)]), .bool a, .bool b] w (Mk w (Value.agg #[.int .i64 ((dst g o a b).1), .int .i64 ((dst g o a b).2)])) := by
  have Q : Hid _ := box2 w g o 0 0 24 24
  cases hv : dvB g o
  · have e : Hid _ := dst_bad (a := a) (b := b) hv
    go_enter Try.func17, Try.ntmps17
    go_wp2_with fail
    refine (sDoorValid_c g o _).mono ?_
    rintro e' w1 ⟨rfl, hb⟩
    obtain ⟨⟨c0, c1⟩, f0, f1⟩ := Box.below Q.out.2 hb
    go_wp2_with fail
    exact bodyPost_ret (v := .agg #[.int .i64 0, .int .i64 0]) (by simp [results, Try.results17, go_sem, c0, c1]) rfl (Mk.g (by rw [e.out]) (by rw [e.out]) (by repeat (first | exact Below.refl _ _ | refine Below.al ?_ _ | refine Below.dr ?_ _ | refine Below.dw ?_ | refine Below.st ?_ (by first | exact Nat.le_refl _ | exact Nat.le_add_right _ _ | (simp; omega)) _ | (refine below_next ?_ (by assumption)))))
  · have e : Hid _ := dst_ok (a := a) (b := b) hv
    have V := dvB_iff.1 hv
    obtain ⟨k1, k2, k3, k4, k5⟩ := V
    clear k5
    rcases ab_cases a b g with ⟨rfl, c⟩ | ⟨⟨rfl, rfl, gp⟩, c⟩ | ⟨⟨rfl, rfl⟩, c⟩ | ⟨⟨rfl, rfl, gp⟩, c⟩
    all_goals
      have C : Hid _ := c
      clear c
    · rcases (by omega : g = 3 ∨ g = 4 ∨ g + 1 < 4) with l | l | l
      · subst l
        have E : Hid _ := ds_wide C.out (h := o) (by decide)
        go_enter Try.func17, Try.ntmps17
        go_wp2_with fail
        refine (sDoorValid_c _ o _).mono ?_
        rintro e' w1 ⟨rfl, hb⟩
        have B1 : Hid _ := Box.below Q.out.1 hb
        have B2 : Hid _ := Box.below Q.out.2 hb
        have T1 : Hid (Below w.heap.size w w1) := (by repeat (first | exact Below.refl _ _ | refine Below.al ?_ _ | refine Below.dr ?_ _ | refine Below.dw ?_ | refine Below.st ?_ (by first | exact Nat.le_refl _ | exact Nat.le_add_right _ _ | (simp; omega)) _ | (refine below_next ?_ (by assumption))))
        clear hb
        obtain ⟨⟨d0, d1⟩, e0, e1⟩ := B1.out
        obtain ⟨⟨c2, c3⟩, f2, f3⟩ := B2.out
        have B5 : Hid _ := Box.set (4) (3) B2.out
        go_wp2_with fail
        obtain ⟨⟨c0, c1⟩, f0, f1⟩ := B5.out
        exact bodyPost_ret (v := (Value.agg #[.int .i64 (4), .int .i64 (3)])) (by simp [results, Try.results17, go_sem, c0, c1]) rfl (Mk.g (by rw [e.out, E.out]) (by rw [e.out, E.out]) (by have HZ := T1.out; exact (by repeat (first | exact Below.refl _ _ | refine Below.al ?_ _ | refine Below.dr ?_ _ | refine Below.dw ?_ | refine Below.st ?_ (by first | exact Nat.le_refl _ | exact Nat.le_add_right _ _ | (simp; omega)) _ | (refine below_next ?_ (by assumption))))))
      · subst l
        have E : Hid _ := ds_wide C.out (h := o) (by decide)
        go_enter Try.func17, Try.ntmps17
        go_wp2_with fail
        refine (sDoorValid_c _ o _).mono ?_
        rintro e' w1 ⟨rfl, hb⟩
        have B1 : Hid _ := Box.below Q.out.1 hb
        have B2 : Hid _ := Box.below Q.out.2 hb
        have T1 : Hid (Below w.heap.size w w1) := (by repeat (first | exact Below.refl _ _ | refine Below.al ?_ _ | refine Below.dr ?_ _ | refine Below.dw ?_ | refine Below.st ?_ (by first | exact Nat.le_refl _ | exact Nat.le_add_right _ _ | (simp; omega)) _ | (refine below_next ?_ (by assumption))))
        clear hb
        obtain ⟨⟨d0, d1⟩, e0, e1⟩ := B1.out
        obtain ⟨⟨c2, c3⟩, f2, f3⟩ := B2.out
        have B5 : Hid _ := Box.set (4) (3) B2.out
        go_wp2_with fail
        obtain ⟨⟨c0, c1⟩, f0, f1⟩ := B5.out
        exact bodyPost_ret (v := (Value.agg #[.int .i64 (4), .int .i64 (3)])) (by simp [results, Try.results17, go_sem, c0, c1]) rfl (Mk.g (by rw [e.out, E.out]) (by rw [e.out, E.out]) (by have HZ := T1.out; exact (by repeat (first | exact Below.refl _ _ | refine Below.al ?_ _ | refine Below.dr ?_ _ | refine Below.dw ?_ | refine Below.st ?_ (by first | exact Nat.le_refl _ | exact Nat.le_add_right _ _ | (simp; omega)) _ | (refine below_next ?_ (by assumption))))))
      · have E : Hid _ := ds_up C.out (h := o) l
        have t4 : (g + 1 == 4) = false := by simp; omega
        go_enter Try.func17, Try.ntmps17
        go_wp2_with fail
        refine (sDoorValid_c _ o _).mono ?_
        rintro e' w1 ⟨rfl, hb⟩
        have B1 : Hid _ := Box.below Q.out.1 hb
        have B2 : Hid _ := Box.below Q.out.2 hb
        have T1 : Hid (Below w.heap.size w w1) := (by repeat (first | exact Below.refl _ _ | refine Below.al ?_ _ | refine Below.dr ?_ _ | refine Below.dw ?_ | refine Below.st ?_ (by first | exact Nat.le_refl _ | exact Nat.le_add_right _ _ | (simp; omega)) _ | (refine below_next ?_ (by assumption))))
        clear hb
        obtain ⟨⟨d0, d1⟩, e0, e1⟩ := B1.out
        obtain ⟨⟨c2, c3⟩, f2, f3⟩ := B2.out
        have B5 : Hid _ := Box.set (g + 1) (0) B2.out
        go_wp2_with fail
        obtain ⟨⟨c0, c1⟩, f0, f1⟩ := B5.out
        exact bodyPost_ret (v := (Value.agg #[.int .i64 (g + 1), .int .i64 (0)])) (by simp [results, Try.results17, go_sem, c0, c1]) rfl (Mk.g (by rw [e.out, E.out]) (by rw [e.out, E.out]) (by have HZ := T1.out; exact (by repeat (first | exact Below.refl _ _ | refine Below.al ?_ _ | refine Below.dr ?_ _ | refine Below.dw ?_ | refine Below.st ?_ (by first | exact Nat.le_refl _ | exact Nat.le_add_right _ _ | (simp; omega)) _ | (refine below_next ?_ (by assumption))))))
    · rcases (by omega : g = 3 ∨ g = 4 ∨ g + 1 < 4) with l | l | l
      · subst l
        have E : Hid _ := ds_wide C.out (h := o) (by decide)
        go_enter Try.func17, Try.ntmps17
        go_wp2_with fail
        refine (sDoorValid_c _ o _).mono ?_
        rintro e' w1 ⟨rfl, hb⟩
        have B1 : Hid _ := Box.below Q.out.1 hb
        have B2 : Hid _ := Box.below Q.out.2 hb
        have T1 : Hid (Below w.heap.size w w1) := (by repeat (first | exact Below.refl _ _ | refine Below.al ?_ _ | refine Below.dr ?_ _ | refine Below.dw ?_ | refine Below.st ?_ (by first | exact Nat.le_refl _ | exact Nat.le_add_right _ _ | (simp; omega)) _ | (refine below_next ?_ (by assumption))))
        clear hb
        obtain ⟨⟨d0, d1⟩, e0, e1⟩ := B1.out
        obtain ⟨⟨c2, c3⟩, f2, f3⟩ := B2.out
        have B5 : Hid _ := Box.set (4) (3) B2.out
        go_wp2_with fail
        obtain ⟨⟨c0, c1⟩, f0, f1⟩ := B5.out
        exact bodyPost_ret (v := (Value.agg #[.int .i64 (4), .int .i64 (3)])) (by simp [results, Try.results17, go_sem, c0, c1]) rfl (Mk.g (by rw [e.out, E.out]) (by rw [e.out, E.out]) (by have HZ := T1.out; exact (by repeat (first | exact Below.refl _ _ | refine Below.al ?_ _ | refine Below.dr ?_ _ | refine Below.dw ?_ | refine Below.st ?_ (by first | exact Nat.le_refl _ | exact Nat.le_add_right _ _ | (simp; omega)) _ | (refine below_next ?_ (by assumption))))))
      · subst l
        have E : Hid _ := ds_wide C.out (h := o) (by decide)
        go_enter Try.func17, Try.ntmps17
        go_wp2_with fail
        refine (sDoorValid_c _ o _).mono ?_
        rintro e' w1 ⟨rfl, hb⟩
        have B1 : Hid _ := Box.below Q.out.1 hb
        have B2 : Hid _ := Box.below Q.out.2 hb
        have T1 : Hid (Below w.heap.size w w1) := (by repeat (first | exact Below.refl _ _ | refine Below.al ?_ _ | refine Below.dr ?_ _ | refine Below.dw ?_ | refine Below.st ?_ (by first | exact Nat.le_refl _ | exact Nat.le_add_right _ _ | (simp; omega)) _ | (refine below_next ?_ (by assumption))))
        clear hb
        obtain ⟨⟨d0, d1⟩, e0, e1⟩ := B1.out
        obtain ⟨⟨c2, c3⟩, f2, f3⟩ := B2.out
        have B5 : Hid _ := Box.set (4) (3) B2.out
        go_wp2_with fail
        obtain ⟨⟨c0, c1⟩, f0, f1⟩ := B5.out
        exact bodyPost_ret (v := (Value.agg #[.int .i64 (4), .int .i64 (3)])) (by simp [results, Try.results17, go_sem, c0, c1]) rfl (Mk.g (by rw [e.out, E.out]) (by rw [e.out, E.out]) (by have HZ := T1.out; exact (by repeat (first | exact Below.refl _ _ | refine Below.al ?_ _ | refine Below.dr ?_ _ | refine Below.dw ?_ | refine Below.st ?_ (by first | exact Nat.le_refl _ | exact Nat.le_add_right _ _ | (simp; omega)) _ | (refine below_next ?_ (by assumption))))))
      · have E : Hid _ := ds_up C.out (h := o) l
        have t4 : (g + 1 == 4) = false := by simp; omega
        go_enter Try.func17, Try.ntmps17
        go_wp2_with fail
        refine (sDoorValid_c _ o _).mono ?_
        rintro e' w1 ⟨rfl, hb⟩
        have B1 : Hid _ := Box.below Q.out.1 hb
        have B2 : Hid _ := Box.below Q.out.2 hb
        have T1 : Hid (Below w.heap.size w w1) := (by repeat (first | exact Below.refl _ _ | refine Below.al ?_ _ | refine Below.dr ?_ _ | refine Below.dw ?_ | refine Below.st ?_ (by first | exact Nat.le_refl _ | exact Nat.le_add_right _ _ | (simp; omega)) _ | (refine below_next ?_ (by assumption))))
        clear hb
        obtain ⟨⟨d0, d1⟩, e0, e1⟩ := B1.out
        obtain ⟨⟨c2, c3⟩, f2, f3⟩ := B2.out
        have B5 : Hid _ := Box.set (g + 1) (0) B2.out
        go_wp2_with fail
        obtain ⟨⟨c0, c1⟩, f0, f1⟩ := B5.out
        exact bodyPost_ret (v := (Value.agg #[.int .i64 (g + 1), .int .i64 (0)])) (by simp [results, Try.results17, go_sem, c0, c1]) rfl (Mk.g (by rw [e.out, E.out]) (by rw [e.out, E.out]) (by have HZ := T1.out; exact (by repeat (first | exact Below.refl _ _ | refine Below.al ?_ _ | refine Below.dr ?_ _ | refine Below.dw ?_ | refine Below.st ?_ (by first | exact Nat.le_refl _ | exact Nat.le_add_right _ _ | (simp; omega)) _ | (refine below_next ?_ (by assumption))))))
    · by_cases l : 0 < o
      · have E : Hid _ := ds_held C.out (h := o) l
        go_enter Try.func17, Try.ntmps17
        go_wp2_with fail
        refine (sDoorValid_c _ o _).mono ?_
        rintro e' w1 ⟨rfl, hb⟩
        have B1 : Hid _ := Box.below Q.out.1 hb
        have B2 : Hid _ := Box.below Q.out.2 hb
        have T1 : Hid (Below w.heap.size w w1) := (by repeat (first | exact Below.refl _ _ | refine Below.al ?_ _ | refine Below.dr ?_ _ | refine Below.dw ?_ | refine Below.st ?_ (by first | exact Nat.le_refl _ | exact Nat.le_add_right _ _ | (simp; omega)) _ | (refine below_next ?_ (by assumption))))
        clear hb
        obtain ⟨⟨d0, d1⟩, e0, e1⟩ := B1.out
        obtain ⟨⟨c2, c3⟩, f2, f3⟩ := B2.out
        have B5 : Hid _ := Box.set (g) (o - 1) B2.out
        go_wp2_with fail
        obtain ⟨⟨c0, c1⟩, f0, f1⟩ := B5.out
        exact bodyPost_ret (v := (Value.agg #[.int .i64 (g), .int .i64 (o - 1)])) (by simp [results, Try.results17, go_sem, c0, c1]) rfl (Mk.g (by rw [e.out, E.out]) (by rw [e.out, E.out]) (by have HZ := T1.out; exact (by repeat (first | exact Below.refl _ _ | refine Below.al ?_ _ | refine Below.dr ?_ _ | refine Below.dw ?_ | refine Below.st ?_ (by first | exact Nat.le_refl _ | exact Nat.le_add_right _ _ | (simp; omega)) _ | (refine below_next ?_ (by assumption))))))
      · have E : Hid _ := ds_down C.out (h := o) l
        go_enter Try.func17, Try.ntmps17
        go_wp2_with fail
        refine (sDoorValid_c _ o _).mono ?_
        rintro e' w1 ⟨rfl, hb⟩
        have B1 : Hid _ := Box.below Q.out.1 hb
        have B2 : Hid _ := Box.below Q.out.2 hb
        have T1 : Hid (Below w.heap.size w w1) := (by repeat (first | exact Below.refl _ _ | refine Below.al ?_ _ | refine Below.dr ?_ _ | refine Below.dw ?_ | refine Below.st ?_ (by first | exact Nat.le_refl _ | exact Nat.le_add_right _ _ | (simp; omega)) _ | (refine below_next ?_ (by assumption))))
        clear hb
        obtain ⟨⟨d0, d1⟩, e0, e1⟩ := B1.out
        obtain ⟨⟨c2, c3⟩, f2, f3⟩ := B2.out
        go_wp2_with fail
        all_goals
          first
          | (have E2 : max (g - 1) 0 = 0 := by omega
             obtain ⟨⟨c0, c1⟩, f0, f1⟩ := Box.set 0 0 B2.out
             exact bodyPost_ret (v := (Value.agg #[.int .i64 (0), .int .i64 (0)])) (by simp [results, Try.results17, go_sem, c0, c1]) rfl (Mk.g (by rw [e.out, E.out]; exact E2) (by rw [e.out, E.out]) (by have HZ := T1.out; exact (by repeat (first | exact Below.refl _ _ | refine Below.al ?_ _ | refine Below.dr ?_ _ | refine Below.dw ?_ | refine Below.st ?_ (by first | exact Nat.le_refl _ | exact Nat.le_add_right _ _ | (simp; omega)) _ | (refine below_next ?_ (by assumption)))))))
          | (have E2 : max (g - 1) 0 = g - 1 := by omega
             obtain ⟨⟨c0, c1⟩, f0, f1⟩ := Box.set (g - 1) 0 B2.out
             exact bodyPost_ret (v := (Value.agg #[.int .i64 (g - 1), .int .i64 (0)])) (by simp [results, Try.results17, go_sem, c0, c1]) rfl (Mk.g (by rw [e.out, E.out]; exact E2) (by rw [e.out, E.out]) (by have HZ := T1.out; exact (by repeat (first | exact Below.refl _ _ | refine Below.al ?_ _ | refine Below.dr ?_ _ | refine Below.dw ?_ | refine Below.st ?_ (by first | exact Nat.le_refl _ | exact Nat.le_add_right _ _ | (simp; omega)) _ | (refine below_next ?_ (by assumption)))))))
    · by_cases l : 0 < o
      · have E : Hid _ := ds_held C.out (h := o) l
        go_enter Try.func17, Try.ntmps17
        go_wp2_with fail
        refine (sDoorValid_c _ o _).mono ?_
        rintro e' w1 ⟨rfl, hb⟩
        have B1 : Hid _ := Box.below Q.out.1 hb
        have B2 : Hid _ := Box.below Q.out.2 hb
        have T1 : Hid (Below w.heap.size w w1) := (by repeat (first | exact Below.refl _ _ | refine Below.al ?_ _ | refine Below.dr ?_ _ | refine Below.dw ?_ | refine Below.st ?_ (by first | exact Nat.le_refl _ | exact Nat.le_add_right _ _ | (simp; omega)) _ | (refine below_next ?_ (by assumption))))
        clear hb
        obtain ⟨⟨d0, d1⟩, e0, e1⟩ := B1.out
        obtain ⟨⟨c2, c3⟩, f2, f3⟩ := B2.out
        have B5 : Hid _ := Box.set (g) (o - 1) B2.out
        go_wp2_with fail
        obtain ⟨⟨c0, c1⟩, f0, f1⟩ := B5.out
        exact bodyPost_ret (v := (Value.agg #[.int .i64 (g), .int .i64 (o - 1)])) (by simp [results, Try.results17, go_sem, c0, c1]) rfl (Mk.g (by rw [e.out, E.out]) (by rw [e.out, E.out]) (by have HZ := T1.out; exact (by repeat (first | exact Below.refl _ _ | refine Below.al ?_ _ | refine Below.dr ?_ _ | refine Below.dw ?_ | refine Below.st ?_ (by first | exact Nat.le_refl _ | exact Nat.le_add_right _ _ | (simp; omega)) _ | (refine below_next ?_ (by assumption))))))
      · have E : Hid _ := ds_down C.out (h := o) l
        go_enter Try.func17, Try.ntmps17
        go_wp2_with fail
        refine (sDoorValid_c _ o _).mono ?_
        rintro e' w1 ⟨rfl, hb⟩
        have B1 : Hid _ := Box.below Q.out.1 hb
        have B2 : Hid _ := Box.below Q.out.2 hb
        have T1 : Hid (Below w.heap.size w w1) := (by repeat (first | exact Below.refl _ _ | refine Below.al ?_ _ | refine Below.dr ?_ _ | refine Below.dw ?_ | refine Below.st ?_ (by first | exact Nat.le_refl _ | exact Nat.le_add_right _ _ | (simp; omega)) _ | (refine below_next ?_ (by assumption))))
        clear hb
        obtain ⟨⟨d0, d1⟩, e0, e1⟩ := B1.out
        obtain ⟨⟨c2, c3⟩, f2, f3⟩ := B2.out
        go_wp2_with fail
        all_goals
          first
          | (have E2 : max (g - 1) 0 = 0 := by omega
             obtain ⟨⟨c0, c1⟩, f0, f1⟩ := Box.set 0 0 B2.out
             exact bodyPost_ret (v := (Value.agg #[.int .i64 (0), .int .i64 (0)])) (by simp [results, Try.results17, go_sem, c0, c1]) rfl (Mk.g (by rw [e.out, E.out]; exact E2) (by rw [e.out, E.out]) (by have HZ := T1.out; exact (by repeat (first | exact Below.refl _ _ | refine Below.al ?_ _ | refine Below.dr ?_ _ | refine Below.dw ?_ | refine Below.st ?_ (by first | exact Nat.le_refl _ | exact Nat.le_add_right _ _ | (simp; omega)) _ | (refine below_next ?_ (by assumption)))))))
          | (have E2 : max (g - 1) 0 = g - 1 := by omega
             obtain ⟨⟨c0, c1⟩, f0, f1⟩ := Box.set (g - 1) 0 B2.out
             exact bodyPost_ret (v := (Value.agg #[.int .i64 (g - 1), .int .i64 (0)])) (by simp [results, Try.results17, go_sem, c0, c1]) rfl (Mk.g (by rw [e.out, E.out]; exact E2) (by rw [e.out, E.out]) (by have HZ := T1.out; exact (by repeat (first | exact Below.refl _ _ | refine Below.al ?_ _ | refine Below.dr ?_ _ | refine Below.dw ?_ | refine Below.st ?_ (by first | exact Nat.le_refl _ | exact Nat.le_add_right _ _ | (simp; omega)) _ | (refine below_next ?_ (by assumption)))))))
end Go.Proofs.Ytiplfnghikgcjaa
