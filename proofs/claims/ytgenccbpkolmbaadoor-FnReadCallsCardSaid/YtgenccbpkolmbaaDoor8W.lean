/- The texts of calls, by the program: rowText, CallsText. -/
import Derived.Test.YtgenccbpkolmbaaDoor8JB
import Derived.Test.YtgenccbpkolmbaaDoorSh
import Derived.Laws.IdiomStrings
namespace Go.Proofs.YtgenccbpkolmbaaDoor
open Go.RowKit
set_option linter.unusedVariables false

/-- Bytes at the head of a block. -/
def RT (w : World) (g n : Nat) (f : Nat → UInt8) : Prop := (∀ j, j < n → w.cell? ⟨g, j, none⟩ = some (.int .u8 ((f j).toNat : Int))) ∧ ∀ j, j < n → w.frozen? ⟨g, j, none⟩ = false
theorem RT.congr {w : World} {g n : Nat} {f f' : Nat → UInt8} (h : RT w g n f) (e : ∀ j, j < n → f j = f' j) : RT w g n f' := ⟨fun j hj => by rw [← e j hj]; exact h.1 j hj, h.2⟩
theorem RT.set {w : World} {g n i : Nat} {f : Nat → UInt8} (h : RT w g n f) (hi : i < n) (x : UInt8) (v : Int) (hv : v = (x.toNat : Int)) : RT (w.setCell ⟨g, i, none⟩ (.int .u8 v)) g n (fun j => if j = i then x else f j) := by
  subst hv
  refine ⟨fun j hj => ?_, fun j hj => ?_⟩
  · by_cases e : j = i
    · subst e
      simp only [if_true]
      exact World.cell?_setCell_same _ _ _ (h.1 j hj)
    · rw [World.cell?_setCell_other _ _ _ _ (by simp [e])]
      simp only [if_neg e]
      exact h.1 j hj
  · rw [World.frozen?_setCell]
    exact h.2 j hj
theorem rep48 (n : Nat) : (⟨(Lib.repeatL (ByteArray.mk #[48]).data.toList n).toArray⟩ : ByteArray) = ⟨(List.replicate n 48).toArray⟩ := by
  have := Lib.repeatL_replicate 48 1 n
  have e : (ByteArray.mk #[48]).data.toList = List.replicate 1 48 := rfl
  rw [e, this]
  simp
theorem RT.new (w : World) (n cp : Nat) : RT (w.drew.alloc (.cells (bytesRow ⟨(List.replicate n 48).toArray⟩ cp) 5 ((bytesRow ⟨(List.replicate n 48).toArray⟩ cp).size, (bytesRow ⟨(List.replicate n 48).toArray⟩ cp).size + 1))) w.heap.size n (fun _ => 48) := by
  have hsz : n ≤ (bytesRow ⟨(List.replicate n 48).toArray⟩ cp).size := by simp [bytesRow]
  refine ⟨fun j hj => ?_, fun j hj => ?_⟩
  · have h := World.cell?_alloc_mark w.drew (bytesRow ⟨(List.replicate n 48).toArray⟩ cp) 5 ((bytesRow ⟨(List.replicate n 48).toArray⟩ cp).size, (bytesRow ⟨(List.replicate n 48).toArray⟩ cp).size + 1) j
    refine h.trans ?_
    rw [bytesRow_at ⟨(List.replicate n 48).toArray⟩ cp j (by simpa using hj)]
    simp
  · have h := World.frozen?_alloc_mark w.drew (bytesRow ⟨(List.replicate n 48).toArray⟩ cp) 5 (bytesRow ⟨(List.replicate n 48).toArray⟩ cp).size ((bytesRow ⟨(List.replicate n 48).toArray⟩ cp).size + 1) j
    refine h.trans ?_
    have : ∀ m : Nat, j < m → (decide (m ≤ j) && decide (j < m + 1)) = false := fun m hm => by simp; omega
    exact this _ (by omega)
set_option maxHeartbeats 1000000 in
theorem rowText_c (a : Option Addr) (n cap : Nat) (xs : List Bool) (w : World) (hs : BS w a n xs) (h1 : 1 ≤ n) (hn : n ≤ 1000) :
    Calls Tryd.prog 21 #[.slice a n cap] w (Mk w (.string (tbs xs n))) := by
  have X0 := Lib.hid hs
  obtain ⟨hl, hs⟩ := hs
  rcases hs with h0 | ⟨b, off, rfl, hc⟩
  · omega
  have KR := Tryd.strings_Repeat ⟨#[48]⟩ n w (by omega) (by show 1 * n ≤ _; omega)
  rw [rep48] at KR
  have HR := Lib.hid KR
  clear KR hc hl
  go_enter Tryd.func21, Tryd.ntmps21
  go_wp2_with fail
  refine Calls.mono HR.out ?_
  rintro e w1 ⟨rfl, hb⟩
  have KC := run_bytes_of_string (P := Tryd.prog) w1 9 22 5 ⟨(List.replicate n 48).toArray⟩ Tryd.underlying9 Tryd.underlying22 Tryd.underlying5
  have T1 := Lib.hid hb
  have R1 := RT.new w1 n (grownCap w1 (ByteArray.mk (List.replicate n 48).toArray).size 0 5)
  have T2 := below_next hb (Below.al (Below.dw (Below.refl w1.heap.size w1)) (.cells (bytesRow ⟨(List.replicate n 48).toArray⟩ (grownCap w1 (ByteArray.mk (List.replicate n 48).toArray).size 0 5)) 5 ((bytesRow ⟨(List.replicate n 48).toArray⟩ (grownCap w1 (ByteArray.mk (List.replicate n 48).toArray).size 0 5)).size, (bytesRow ⟨(List.replicate n 48).toArray⟩ (grownCap w1 (ByteArray.mk (List.replicate n 48).toArray).size 0 5)).size + 1)))
  have hsz : (ByteArray.mk (List.replicate n (48 : UInt8)).toArray).size = n := by simp [ByteArray.size]
  have hgw : w.heap.size ≤ w1.heap.size := hb.size
  clear hb HR
  rw [hsz] at KC R1 T2
  obtain ⟨cp, hcp⟩ : ∃ cp, grownCap w1 n 0 5 = cp := ⟨_, rfl⟩
  rw [hcp] at KC R1 T2
  obtain ⟨wz, hwz⟩ : ∃ wz, w1.drew.alloc (.cells (bytesRow ⟨(List.replicate n 48).toArray⟩ cp) 5 ((bytesRow ⟨(List.replicate n 48).toArray⟩ cp).size, (bytesRow ⟨(List.replicate n 48).toArray⟩ cp).size + 1)) = wz := ⟨_, rfl⟩
  rw [hwz] at KC R1 T2
  obtain ⟨s, hsv⟩ : ∃ s : ByteArray, ⟨(List.replicate n 48).toArray⟩ = s := ⟨_, rfl⟩
  rw [hsv] at KC
  try rw [hsv]
  obtain ⟨g, hg⟩ : ∃ g, w1.heap.size = g := ⟨_, rfl⟩
  rw [hg] at KC R1 hgw
  have RR := Lib.hid R1
  have TT := Lib.hid T2
  clear R1 T2 hwz hsv hg hcp hsz T1
  go_wp2_with fail
  clear KC
  go_loopw [12] (fun v wr => ∃ i : Nat, i ≤ n ∧ v = .int .i64 i ∧ RT wr g n (fun j => if j < i then by1 (bn xs j) else 48) ∧ Below w.heap.size w wr) (fun v _ => n - (intOf v).toNat)
  case atStart => exact ⟨0, by omega, rfl, RT.congr RR.out (fun j _ => by rw [if_neg (by omega)]), TT.out⟩
  case round =>
    clear RR TT
    obtain ⟨i, hi, rfl, r1, t1⟩ := hrel
    have RR := Lib.hid r1
    have TT := Lib.hid t1
    clear r1 t1
    by_cases hlt : i < n
    · have hlti : (i : Int) < (n : Int) := by omega
      obtain ⟨_, hx⟩ := BS.below X0.out TT.out
      have hc0 : wr.cell? ⟨b, off + i, none⟩ = some (.bool (bn xs i)) := by
        rcases hx with h | ⟨b', o', e, h⟩
        · omega
        · simp only [Option.some.injEq, Addr.mk.injEq] at e
          obtain ⟨rfl, rfl, -⟩ := e
          exact h i hlt
      have d0 : wr.cell? ⟨g, i, none⟩ = some (.int .u8 48) := by have := RR.out.1 i hlt; dsimp only at this; rw [if_neg (by omega)] at this; exact this
      have f0 := RR.out.2 i hlt
      clear hx
      cases hxi : bn xs i
      · rw [hxi] at hc0
        have RN := Lib.hid (RT.congr (f' := fun j => if j < i + 1 then by1 (bn xs j) else 48) RR.out (fun j _ => by
          by_cases e : j = i
          · subst e; rw [if_neg (by omega), if_pos (by omega), hxi]; rfl
          · by_cases e2 : j < i
            · rw [if_pos e2, if_pos (by omega)]
            · rw [if_neg e2, if_neg (by omega)]))
        clear hxi
        go_wp2_with fail
        go_roundw
        case rel => exact ⟨i + 1, by omega, by go_num, RN.out, TT.out⟩
        case measure => first | (simp [intOf]; done) | (simp [intOf]; omega)
      · rw [hxi] at hc0
        have RN := Lib.hid (RT.congr (f' := fun j => if j < i + 1 then by1 (bn xs j) else 48) (RT.set RR.out hlt 49 49 (by decide)) (fun j _ => by
          by_cases e : j = i
          · subst e; rw [if_pos rfl, if_pos (by omega), hxi]; rfl
          · rw [if_neg e]
            by_cases e2 : j < i
            · rw [if_pos e2, if_pos (by omega)]
            · rw [if_neg e2, if_neg (by omega)]))
        have TN := Lib.hid (Below.st (p := ⟨g, i, none⟩) TT.out (by show _ ≤ g; omega) (.int .u8 49))
        clear hxi
        go_wp2_with fail
        go_roundw
        case rel => exact ⟨i + 1, by omega, by go_num, RN.out, TN.out⟩
        case measure => first | (simp [intOf]; done) | (simp [intOf]; omega)
    · obtain rfl : i = n := by omega
      have KB := run_convert_bytes_back (P := Tryd.prog) wr 22 9 5 ⟨g, 0, none⟩ cp ((List.range i).map fun j => by1 (bn xs j)) Tryd.underlying22 Tryd.underlying5 Tryd.underlying9 (fun j hj => by
        have hj2 : j < i := by simpa using hj
        have := RR.out.1 j hj2
        dsimp only at this
        rw [if_pos hj2] at this
        have e : (⟨g, 0, none⟩ : Addr).add j = ⟨g, j, none⟩ := by by_cases e : j = 0 <;> simp [Addr.add, e]
        rw [e, this]
        simp)
      rw [List.length_map, List.length_range] at KB
      have KB2 : (convert 22 9 (.slice (some ⟨g, 0, none⟩) i cp)).run Tryd.prog wr = .ok (.string (tbs xs i)) wr := KB
      clear KB
      go_wp2_with fail
      go_ret
      exact ⟨rfl, TT.out⟩
set_option maxHeartbeats 400000 in
theorem iCallsText_c (a1 : Option Addr) (n1 k1 : Nat) (a2 : Option Addr) (n2 k2 : Nat) (a3 : Option Addr) (n3 k3 : Nat) (x : Cs) (w : World) (hX : Cal w a1 n1 a2 n2 a3 n3 x) : Calls Tryd.prog 7 #[(.agg #[.slice a1 n1 k1, .slice a2 n2 k2, .slice a3 n3 k3])] w (Mk w (.string (ctx x))) := by
  have X0 := Lib.hid hX
  have l1 := hX.1.1
  have l2 := hX.2.1.1
  have l3 := hX.2.2.1
  clear hX
  obtain ⟨wn, hwn⟩ : ∃ wn, w.alloc (.cells #[.slice a1 n1 k1, .slice a2 n2 k2, .slice a3 n3 k3] 25) = wn := ⟨_, rfl⟩
  obtain ⟨g, hg⟩ : ∃ g, w.heap.size = g := ⟨_, rfl⟩
  have B0 := Lib.hid (show Bx wn g (.slice a1 n1 k1) (.slice a2 n2 k2) (.slice a3 n3 k3) from by rw [← hwn, ← hg]; exact Bx.new _ _ _ _ _)
  have T0 := Lib.hid (show Below w.heap.size w wn from by rw [← hwn]; exact Below.al (Below.refl _ _) _)
  have V := fun w' (h : Cal w' a1 n1 a2 n2 a3 n3 x) => iCallsValid_c a1 n1 k1 a2 n2 k2 a3 n3 k3 x w' h
  by_cases hv : CV x
  case neg =>
    rw [cvB_f hv] at V
    rw [ctx_f hv]
    have HV := Lib.hid V
    clear V l1 l2 l3
    have HG := Lib.hid hg
    have HWA := Lib.hid hwn
    clear hwn hg
    go_enter Tryd.func7, Tryd.ntmps7
    go_wp2_with fail
    rw [HWA.out, HG.out]
    refine (HV.out _ (Cal.below X0.out T0.out)).mono ?_
    rintro e w1 ⟨rfl, hb⟩
    have T1 := Lib.hid (below_next T0.out hb)
    clear hb
    go_wp2_with fail
    go_ret
    exact ⟨rfl, T1.out⟩
  rw [cvB_t hv] at V
  rw [ctx_t hv]
  obtain ⟨g1, g2, g3, g4, -⟩ := hv
  have HV := Lib.hid V
  clear V
  have K1 := fun w' (h : BS w' a1 n1 x.u) => rowText_c a1 n1 k1 x.u w' h (by omega) (by omega)
  have K2 := fun w' (h : BS w' a2 n2 x.d) => rowText_c a2 n2 k2 x.d w' h (by omega) (by omega)
  have K3 := fun w' (h : BS w' a3 n3 x.c) => rowText_c a3 n3 k3 x.c w' h (by omega) (by omega)
  rw [← l1] at K1
  rw [← l2] at K2
  rw [← l3] at K3
  have s1 := tbs_size x.u x.u.length
  have s2 := tbs_size x.d x.d.length
  have s3 := tbs_size x.c x.c.length
  obtain ⟨t1, e1⟩ : ∃ t, tbs x.u x.u.length = t := ⟨_, rfl⟩
  obtain ⟨t2, e2⟩ : ∃ t, tbs x.d x.d.length = t := ⟨_, rfl⟩
  obtain ⟨t3, e3⟩ : ∃ t, tbs x.c x.c.length = t := ⟨_, rfl⟩
  rw [e1] at K1 s1 ⊢
  rw [e2] at K2 s2 ⊢
  rw [e3] at K3 s3 ⊢
  rw [l1] at K1
  rw [l2] at K2
  rw [l3] at K3
  have HK1 := Lib.hid K1
  have HK2 := Lib.hid K2
  have HK3 := Lib.hid K3
  have r1 : ¬ (9223372036854775807 < t1.size + 1) := by omega
  have r2 : ¬ (9223372036854775807 < t1.size + 1 + t2.size) := by omega
  have r3 : ¬ (9223372036854775807 < t1.size + 1 + t2.size + 1) := by omega
  have r4 : ¬ (9223372036854775807 < t1.size + 1 + t2.size + 1 + t3.size) := by omega
  clear K1 K2 K3 e1 e2 e3 l1 l2 l3 s1 s2 s3 g1 g2 g3 g4
  have HG := Lib.hid hg
  have HWA := Lib.hid hwn
  clear hwn hg
  go_enter Tryd.func7, Tryd.ntmps7
  go_wp2_with fail
  rw [HWA.out, HG.out]
  refine (HV.out _ (Cal.below X0.out T0.out)).mono ?_
  rintro e w1 ⟨rfl, hb⟩
  have X1 := Lib.hid (Cal.below X0.out (below_next T0.out hb))
  have T1 := Lib.hid (below_next T0.out hb)
  have B1 := Lib.hid (Bx.below B0.out hb)
  clear hb X0 T0 B0 HV
  go_wp2_with fail
  refine wp_region_quiet (C := fun w' => Below (World.heap (w1)).size (w1) w') (by kernel_rfl) (by kernel_rfl) (by first | exact ⟨rfl, rfl, rfl, Nat.le_refl _, fun _ _ => rfl⟩ | exact Below.dw (by repeat (first | exact Below.refl _ _ | refine Below.al ?_ _ | refine Below.dr ?_ _ | refine Below.dw ?_ | refine Below.st ?_ (by first | exact Nat.le_refl _ | exact Nat.le_add_right _ _ | (simp; omega)) _ | (refine below_next ?_ (by assumption))))) ?_
  simp only []
  repeat (go_big_quiet_step (first | (intro _; with_reducible exact rfl) | (intro hC; go_at_call 21; obtain ⟨⟨c0, c1, c2⟩, -⟩ := Bx.below B1.out hC; have Y1 := Lib.hid (BS.below X1.out.1 hC); have Y2 := Lib.hid (BS.below X1.out.2.1 hC); have Y3 := Lib.hid (BS.below X1.out.2.2 hC); (with_reducible refine Calls.mono (HK1.out _ Y1.out) ?_); (first | (rintro e wx ⟨rfl, hb⟩; exact ⟨rfl, below_next hC hb⟩) | (rintro e wx ⟨rfl, n, rfl⟩; exact ⟨rfl, Below.dr hC n⟩) | (rintro e wx ⟨rfl, rfl⟩; exact ⟨rfl, hC⟩))) | (intro hC; go_at_call 21; obtain ⟨⟨c0, c1, c2⟩, -⟩ := Bx.below B1.out hC; have Y1 := Lib.hid (BS.below X1.out.1 hC); have Y2 := Lib.hid (BS.below X1.out.2.1 hC); have Y3 := Lib.hid (BS.below X1.out.2.2 hC); (with_reducible refine Calls.mono (HK2.out _ Y2.out) ?_); (first | (rintro e wx ⟨rfl, hb⟩; exact ⟨rfl, below_next hC hb⟩) | (rintro e wx ⟨rfl, n, rfl⟩; exact ⟨rfl, Below.dr hC n⟩) | (rintro e wx ⟨rfl, rfl⟩; exact ⟨rfl, hC⟩))) | (intro hC; go_at_call 21; obtain ⟨⟨c0, c1, c2⟩, -⟩ := Bx.below B1.out hC; have Y1 := Lib.hid (BS.below X1.out.1 hC); have Y2 := Lib.hid (BS.below X1.out.2.1 hC); have Y3 := Lib.hid (BS.below X1.out.2.2 hC); (with_reducible refine Calls.mono (HK3.out _ Y3.out) ?_); (first | (rintro e wx ⟨rfl, hb⟩; exact ⟨rfl, below_next hC hb⟩) | (rintro e wx ⟨rfl, n, rfl⟩; exact ⟨rfl, Below.dr hC n⟩) | (rintro e wx ⟨rfl, rfl⟩; exact ⟨rfl, hC⟩))) | (intro hC; obtain ⟨⟨c0, c1, c2⟩, -⟩ := Bx.below B1.out hC; have Y1 := Lib.hid (BS.below X1.out.1 hC); have Y2 := Lib.hid (BS.below X1.out.2.1 hC); have Y3 := Lib.hid (BS.below X1.out.2.2 hC); go_simp; rfl)))
  refine wpQuiet_nil ?_
  intro wq hq
  have T2 := Lib.hid (below_next T1.out hq)
  clear hq
  go_wp2_with fail
  go_ret
  exact ⟨rfl, T2.out⟩
end Go.Proofs.YtgenccbpkolmbaaDoor
