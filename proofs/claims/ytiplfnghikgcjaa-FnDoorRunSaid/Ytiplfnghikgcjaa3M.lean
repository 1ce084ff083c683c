/- The law of DoorRun: the walk. -/
import Derived.Test.Ytiplfnghikgcjaa3U
import Derived.Test.Ytiplfnghikgcjaa3X
import Derived.Test.YtiplfnghikgcjaaL
import Derived.Deep.RegionWith
import Derived.Deep.CutRange
import Derived.Deep.CutBlock
namespace Go.Proofs.Ytiplfnghikgcjaa
open Go.RowKit
set_option linter.unusedVariables false

theorem Below.own {w w1 w2 : World} {row : Option Nat} (h : Below w.heap.size w w1) (k : w1.grownBy w2 row) (hr : ∀ i, row = some i → w.heap.size ≤ i) : Below w.heap.size w w2 :=
  ⟨k.os.trans h.os, k.tape.trans h.tape, k.output.trans h.output, Nat.le_trans h.size k.size, fun i hi => (k.block i (Nat.lt_of_lt_of_le hi h.size) (fun e => by have := hr i e.symm; omega)).trans (h.block i hi)⟩
/-- A list, and what is subtracted from each of its numbers, so far. -/
def Less (zs xs : List Int) (m k : Nat) : Prop := zs.length = k ∧ ∀ i, i < k → nth zs i = nth xs i - m
theorem Less.snoc {zs xs : List Int} {m k : Nat} (h : Less zs xs m k) {v : Int} (e : v = nth xs k - m) : Less (zs ++ [v]) xs m (k + 1) := by
  obtain ⟨hl, hz⟩ := h
  refine ⟨by simp [hl], fun i hi => ?_⟩
  by_cases c : i = k
  · subst c; subst hl; simp [nth, List.getD, e]
  · have e2 : nth (zs ++ [v]) i = nth zs i := by simp [nth, List.getD, List.getElem?_append, show i < zs.length by omega]
    rw [e2]; exact hz i (by omega)
set_option maxHeartbeats 8000000 in
theorem DoorRun_w (a : Option Addr) (n cap : Nat) (w : World) (hb : Byt w a n) (hn : n ≤ cap) (hcap : cap ≤ maxLen) :
    Calls Try.prog 5 #[.slice a n cap] w (LawOk w) := by
  have hcap' := hcap
  unfold maxLen at hcap'
  by_cases hbig : 1048576 < n
  · go_enter Try.func5, Try.ntmps5
    go_wp2
    go_ret
    exact LawOk.mk (Below.refl _ _)
  obtain ⟨i0, hi, hz0, hz1, hz2⟩ := info_parts infoInt
  have HI : Hid _ := And.intro hi (And.intro hz0 (And.intro hz1 hz2))
  clear hi hz0 hz1 hz2
  go_enter Try.func5, Try.ntmps5
  go_wp2_with fail
  refine (DrawDoorRun_c a n cap _ hb hn hcap).mono ?_
  rintro e w1 ⟨x, s, t, p, cp, xs, q, cq, ys, rfl, x0, x1, s0, s1, t0, t1, hx, hy, hxb, hyb, hsx, hsy, hB⟩
  have mx : xs.length ≤ maxLen := by unfold maxLen; omega
  have my : ys.length ≤ maxLen := by unfold maxLen; omega
  have HXB : Hid _ := hxb
  have HYB : Hid _ := hyb
  have X1 : Hid (Sl (w1.alloc (.cells #[.int .i64 x, .int .i64 s] 24)) p xs) := Sl.below hsx ((Below.refl _ _).alloc (Nat.le_refl _) _)
  have Y1 : Hid (Sl (w1.alloc (.cells #[.int .i64 x, .int .i64 s] 24)) q ys) := Sl.below hsy ((Below.refl _ _).alloc (Nat.le_refl _) _)
  obtain ⟨A, hA⟩ : ∃ A, w1.heap.size = A := ⟨_, rfl⟩
  have HA : Hid _ := hA
  have M1 : Hid (Box (w1.alloc (.cells #[.int .i64 x, .int .i64 s] 24)) A x s) := box_pair w1 x s _ hA
  have T1 : Hid (Below w.heap.size w (w1.alloc (.cells #[.int .i64 x, .int .i64 s] 24))) := Below.al hB _
  clear hB hxb hyb hsx hsy hA
  go_wp2_with fail
  rw [HA.out]
  refine (iDoorRun_c x s t p cp xs q cq ys _ X1.out mx Y1.out my (by omega)).mono ?_
  rintro e w2 ⟨rfl, hb2⟩
  obtain ⟨y, hy'⟩ : ∃ y, (drun x s t xs ys).1 = y := ⟨_, rfl⟩
  obtain ⟨z, hz'⟩ : ∃ z, (drun x s t xs ys).2 = z := ⟨_, rfl⟩
  rw [hy', hz']
  have HY : Hid _ := hy'
  have HZ : Hid _ := hz'
  obtain ⟨C, hC⟩ : ∃ C, w2.heap.size = C := ⟨_, rfl⟩
  have HC : Hid _ := hC
  have M3 : Hid _ := Box.dw (Box.al (Box.below M1.out hb2) (.cells #[.int .i64 y, .int .i64 z] 24))
  have N3 : Hid (Box (World.drew (w2.alloc (.cells #[.int .i64 y, .int .i64 z] 24))) C y z) := Box.dw (box_pair w2 y z _ hC)
  have al : Below w2.heap.size w2 (World.drew (w2.alloc (.cells #[.int .i64 y, .int .i64 z] 24))) := Below.dw (Below.al (Below.refl _ _) _)
  have X3 : Hid (Sl (World.drew (w2.alloc (.cells #[.int .i64 y, .int .i64 z] 24))) p xs) := Sl.below (Sl.below X1.out hb2) al
  have Y3 : Hid (Sl (World.drew (w2.alloc (.cells #[.int .i64 y, .int .i64 z] 24))) q ys) := Sl.below (Sl.below Y1.out hb2) al
  have T2 : Hid (Below w.heap.size w (World.drew (w2.alloc (.cells #[.int .i64 y, .int .i64 z] 24)))) := below_next (below_next T1.out hb2) al
  clear hb2 hy' hz' al hC X1 Y1 M1 T1
  go_upto_region 5 with fail
  rw [HC.out]
  obtain ⟨⟨c0, c1⟩, f0, f1⟩ := M3.out
  obtain ⟨⟨d0, d1⟩, e0, e1⟩ := N3.out
  go_cut [35] from 29 to 35 (fun c wx => c = .bool false ∧ Box wx A x s ∧ Box wx C y z ∧ Sl wx p xs ∧ Sl wx q ys ∧ Below w.heap.size w wx)
  case first =>
    go_region_with (go_at_call 20; refine (sDoorRun_c x s t p cp xs q cq ys _ X3.out mx Y3.out my (by omega)).mono ?_; rintro e w3 ⟨rfl, hb2⟩; rw [HY.out, HZ.out]; have M4 : Hid _ := Box.below M3.out hb2; have N4 : Hid _ := Box.below N3.out hb2; have X4 : Hid _ := Sl.below X3.out hb2; have Y4 : Hid _ := Sl.below Y3.out hb2; have T3 : Hid (Below w.heap.size w w3) := below_next T2.out hb2; clear hb2; obtain ⟨⟨c0', c1'⟩, f0', f1'⟩ := M4.out; obtain ⟨⟨d0', d1'⟩, e0', e1'⟩ := N4.out)
    all_goals
      go_wp2_with fail
      go_meet
      case rel => exact ⟨rfl, M4.out, N4.out, X4.out, Y4.out, T3.out⟩
  case rest =>
    clear c0 c1 f0 f1 d0 d1 e0 e1 M3 N3 X3 Y3 T2
    obtain ⟨rfl, q1, q2, q3, q4, q5⟩ := hcut
    have M4 : Hid _ := q1
    have N4 : Hid _ := q2
    have X4 : Hid _ := q3
    have Y4 : Hid _ := q4
    have T4 : Hid _ := q5
    clear q1 q2 q3 q4 q5
    cases hv : dvB x s
    · have hbad := drun_bad (g := x) (h := s) (t := t) (xs := xs) (ys := ys) (by rw [hv]; simp)
      have y0 : y = 0 := by rw [← HY.out, hbad]
      have z0 : z = 0 := by rw [← HZ.out, hbad]
      clear hbad
      subst y0 z0
      obtain ⟨⟨c0, c1⟩, f0, f1⟩ := M4.out
      go_wp2_with fail
      refine (sDoorValid_c x s _).mono ?_
      rintro e w4 ⟨rfl, hb2⟩
      have N5 : Hid _ := Box.below N4.out hb2
      have T5 : Hid (Below w.heap.size w w4) := below_next T4.out hb2
      clear hb2 c0 c1 f0 f1
      obtain ⟨⟨d0, d1⟩, e0, e1⟩ := N5.out
      go_wp2_with fail
      refine (alive_c _).mono ?_
      rintro e' w9 ⟨rfl, hB9⟩
      have T9 : Hid (Below w.heap.size w w9) := below_next T5.out hB9
      clear hB9
      go_wp2_with fail
      go_ret
      exact LawOk.mk T9.out
    by_cases ht : 0 ≤ t ∧ t ≤ 99
    case neg =>
      have hbad := drun_bad (g := x) (h := s) (t := t) (xs := xs) (ys := ys) (by rw [inB_f ht]; simp)
      have y0 : y = 0 := by rw [← HY.out, hbad]
      have z0 : z = 0 := by rw [← HZ.out, hbad]
      clear hbad
      subst y0 z0
      obtain ⟨⟨c0, c1⟩, f0, f1⟩ := M4.out
      rcases (by omega : t < 0 ∨ (¬ t < 0 ∧ 99 < t)) with g | ⟨g, g2⟩
      all_goals
        go_wp2_with fail
        refine (sDoorValid_c x s _).mono ?_
        rintro e w4 ⟨rfl, hb2⟩
        have N5 : Hid _ := Box.below N4.out hb2
        have T5 : Hid (Below w.heap.size w w4) := below_next T4.out hb2
        clear hb2 c0 c1 f0 f1
        obtain ⟨⟨d0, d1⟩, e0, e1⟩ := N5.out
        go_wp2_with fail
        refine (alive_c _).mono ?_
        rintro e' w9 ⟨rfl, hB9⟩
        have T9 : Hid (Below w.heap.size w w9) := below_next T5.out hB9
        clear hB9
        go_wp2_with fail
        go_ret
        exact LawOk.mk T9.out
    obtain ⟨ht0, ht1⟩ := ht
    obtain ⟨N, rfl⟩ := Int.eq_ofNat_of_zero_le ht0
    have hN : N ≤ 99 := by omega
    have g1 : ¬ (N : Int) < 0 := by omega
    have g2 : ¬ 99 < (N : Int) := by omega
    have DVH : Hid _ := dvB_iff.1 hv
    have HV : Hid _ := hv
    obtain ⟨⟨c0, c1⟩, f0, f1⟩ := M4.out
    clear hv ht0 ht1 t0 t1
    go_wp2_with fail
    refine (sDoorValid_c x s _).mono ?_
    rintro e w4 ⟨rfl, hb2⟩
    have M5 : Hid _ := Box.below M4.out hb2
    have N5 : Hid _ := Box.below N4.out hb2
    have X5 : Hid _ := Sl.below X4.out hb2
    have Y5 : Hid _ := Sl.below Y4.out hb2
    have T5 : Hid (Below w.heap.size w w4) := below_next T4.out hb2
    clear hb2 c0 c1 f0 f1 M4 N4 X4 Y4 T4
    rw [HV.out]
    obtain ⟨B, hBB⟩ : ∃ B, w4.heap.size = B := ⟨_, rfl⟩
    have HB : Hid _ := hBB
    have O5 : Hid (Own (w4.alloc (.cells #[] 3)) B (.slice (some ⟨B, 0, none⟩) 0 0) []) := by have := Own.none (w := w4); rw [hBB] at this; exact this
    have A5 : Hid (Below w4.heap.size w4 (w4.alloc (.cells #[] 3))) := (Below.refl _ _).alloc (Nat.le_refl _) _
    clear hBB
    obtain ⟨M, hM⟩ : ∃ M : Nat, (N : Int) / 2 = (M : Int) := ⟨N / 2, by omega⟩
    have hMN : M ≤ N := by omega
    go_upto_block 0 with fail
    rw [HB.out]
    go_cut [9, 10] from 56 to 70 (fun vo vk wx => ∃ zs : List Int, vk = .int .i64 xs.length ∧ Less zs xs M xs.length ∧ Own wx B vo zs ∧ Below w4.heap.size w4 wx)
    case first =>
      go_wp2_with fail
      go_loopw [9, 10] (fun vo vk wr => ∃ (zs : List Int) (k : Nat), vk = .int .i64 k ∧ k ≤ xs.length ∧ Less zs xs M k ∧ Own wr B vo zs ∧ Below w4.heap.size w4 wr) (fun _ vk _ => xs.length - (intOf vk).toNat)
      case atStart => exact ⟨[], 0, rfl, by omega, ⟨rfl, by omega⟩, O5.out, A5.out⟩
      case round =>
        clear O5 A5
        obtain ⟨zs1, k1, rfl, hk1, hless, ho, hb⟩ := hrel
        have L1 : Hid _ := hless
        have Q1 : Hid _ := ho
        have V1 : Hid _ := hb
        have hl1 := hless.1
        clear hless ho hb
        by_cases hlt1 : k1 < xs.length
        · rcases X5.out with he | ⟨pb, po, rfl, hI⟩
          · rw [he] at hlt1; simp at hlt1
          · have c0 : wr.cell? ⟨pb, po + k1, none⟩ = some (.int .i64 (nth xs k1)) := cell_below (hI k1 hlt1) V1.out
            obtain ⟨hb0, hb1⟩ := HXB.out k1 hlt1
            have hltI : (k1 : Int) < (xs.length : Int) := by omega
            obtain ⟨hi, hz0, hz1, hz2⟩ := HI.out
            clear hI
            go_wp2_with ((at_builtin; refine wpList_append_own _ rfl _ _ 32 rfl B 3 i0 (.int .i64 0) 1 8 Try.underlying32 hi hz0 hz1 hz2 rfl (by decide) _ _ _ rfl (Own.alloc Q1.out _) ⟨wr.heap.size, 0, none⟩ 1 1 [.int .i64 (nth xs k1 - M)] rfl rfl ?c1 ?c2 ?c3 ?c4 ?c5 ?_))
            case c1 => exact cell_one_new _ _ _
            case c2 => intro u hu; simp at hu; subst hu; rfl
            case c3 => unfold maxLen; omega
            case c4 => omega
            case c5 => rw [← HB.out]; simp; have := V1.out.size; omega
            intro v' w3 hown hgrow _
            have O2 : Hid (Own w3 B v' (zs1 ++ [nth xs k1 - M])) := Own.snoc (by rw [hl1]; exact hown)
            have lt5 : ∀ i, u9.ownBlock = some i → B ≤ i := Own.lt Q1.out
            have V2 : Hid (Below w4.heap.size w4 w3) := Below.own (Below.al V1.out _) hgrow (fun i e => by rw [HB.out]; exact lt5 i e)
            clear hown hgrow lt5
            go_wp2_with fail
            go_roundw
            case rel => exact ⟨zs1 ++ [nth xs k1 - M], k1 + 1, by go_num, by omega, Less.snoc L1.out rfl, O2.out, V2.out⟩
            case measure => simp [intOf]; omega
        · obtain rfl : k1 = xs.length := by omega
          clear hlt1 hk1
          go_wp2_with fail
          go_meet
          case rel => exact ⟨zs1, rfl, L1.out, Q1.out, V1.out⟩
    case rest =>
      clear O5 A5
      obtain ⟨wq, hwq⟩ : ∃ wq, wq = wc := ⟨_, rfl⟩
      subst hwq
      obtain ⟨zs1, rfl, hless, ho, hb⟩ := hcut
      have L1 : Hid _ := hless
      have Q1 : Hid _ := ho
      have V1 : Hid _ := hb
      have hl1 := hless.1
      clear hless ho hb
      have M6 : Hid _ := Box.below M5.out V1.out
      have N6 : Hid _ := Box.below N5.out V1.out
      have X6 : Hid _ := Sl.below X5.out V1.out
      have Y6 : Hid _ := Sl.below Y5.out V1.out
      have T6 : Hid (Below w.heap.size w wq) := below_next T5.out V1.out
      obtain ⟨a1, k1, rfl, S1⟩ := Own.sl Q1.out
      rw [hl1]
      clear hl1
      have S6 : Hid _ := S1
      clear S1 Q1
      obtain ⟨D, hDD⟩ : ∃ D, wq.heap.size = D := ⟨_, rfl⟩
      have HD : Hid _ := hDD
      have O6 : Hid (Own (wq.alloc (.cells #[] 3)) D (.slice (some ⟨D, 0, none⟩) 0 0) []) := by have := Own.none (w := wq); rw [hDD] at this; exact this
      have A6 : Hid (Below wq.heap.size wq (wq.alloc (.cells #[] 3))) := (Below.refl _ _).alloc (Nat.le_refl _) _
      clear hDD
      go_upto_block 2 with fail
      rw [HD.out]
      go_cut [11, 12] from 72 to 86 (fun vo vk wx => ∃ zs : List Int, vk = .int .i64 ys.length ∧ Less zs ys M ys.length ∧ Own wx D vo zs ∧ Below wq.heap.size wq wx)
      case first =>
        go_wp2_with fail
        go_loopw [11, 12] (fun vo vk wr => ∃ (zs : List Int) (k : Nat), vk = .int .i64 k ∧ k ≤ ys.length ∧ Less zs ys M k ∧ Own wr D vo zs ∧ Below wq.heap.size wq wr) (fun _ vk _ => ys.length - (intOf vk).toNat)
        case atStart => exact ⟨[], 0, rfl, by omega, ⟨rfl, by omega⟩, O6.out, A6.out⟩
        case round =>
          clear O6 A6
          obtain ⟨zs2, k2, rfl, hk2, hless, ho, hb⟩ := hrel
          have L2 : Hid _ := hless
          have Q2 : Hid _ := ho
          have V2 : Hid _ := hb
          have hl2 := hless.1
          clear hless ho hb
          by_cases hlt2 : k2 < ys.length
          · rcases Y6.out with he | ⟨pb, po, rfl, hI⟩
            · rw [he] at hlt2; simp at hlt2
            · have c0 : wr.cell? ⟨pb, po + k2, none⟩ = some (.int .i64 (nth ys k2)) := cell_below (hI k2 hlt2) V2.out
              obtain ⟨hb0, hb1⟩ := HYB.out k2 hlt2
              have hltI : (k2 : Int) < (ys.length : Int) := by omega
              obtain ⟨hi, hz0, hz1, hz2⟩ := HI.out
              clear hI
              go_wp2_with ((at_builtin; refine wpList_append_own _ rfl _ _ 32 rfl D 3 i0 (.int .i64 0) 1 8 Try.underlying32 hi hz0 hz1 hz2 rfl (by decide) _ _ _ rfl (Own.alloc Q2.out _) ⟨wr.heap.size, 0, none⟩ 1 1 [.int .i64 (nth ys k2 - M)] rfl rfl ?c1 ?c2 ?c3 ?c4 ?c5 ?_))
              case c1 => exact cell_one_new _ _ _
              case c2 => intro u hu; simp at hu; subst hu; rfl
              case c3 => unfold maxLen; omega
              case c4 => omega
              case c5 => rw [← HD.out]; simp; have := V2.out.size; omega
              intro v' w3 hown hgrow _
              have O2 : Hid (Own w3 D v' (zs2 ++ [nth ys k2 - M])) := Own.snoc (by rw [hl2]; exact hown)
              have lt5 : ∀ i, u11.ownBlock = some i → D ≤ i := Own.lt Q2.out
              have V2 : Hid (Below wq.heap.size wq w3) := Below.own (Below.al V2.out _) hgrow (fun i e => by rw [HD.out]; exact lt5 i e)
              clear hown hgrow lt5
              go_wp2_with fail
              go_roundw
              case rel => exact ⟨zs2 ++ [nth ys k2 - M], k2 + 1, by go_num, by omega, Less.snoc L2.out rfl, O2.out, V2.out⟩
              case measure => simp [intOf]; omega
          · obtain rfl : k2 = ys.length := by omega
            clear hlt2 hk2
            go_wp2_with fail
            go_meet
            case rel => exact ⟨zs2, rfl, L2.out, Q2.out, V2.out⟩
      case rest =>
        clear O6 A6
        obtain ⟨zs2, rfl, hless, ho, hb⟩ := hcut
        have L2 : Hid _ := hless
        have Q2 : Hid _ := ho
        have V2 : Hid _ := hb
        have hl2 := hless.1
        clear hless ho hb
        have M7 : Hid _ := Box.below M6.out V2.out
        have N7 : Hid _ := Box.below N6.out V2.out
        have X7 : Hid _ := Sl.below X6.out V2.out
        have Y7 : Hid _ := Sl.below Y6.out V2.out
        have Z7 : Hid _ := Sl.below S6.out V2.out
        have T7 : Hid (Below w.heap.size w wc) := below_next T6.out V2.out
        obtain ⟨a2, k2, rfl, S2⟩ := Own.sl Q2.out
        rw [hl2]
        clear hl2
        have S7 : Hid _ := S2
        clear S2 Q2
        have m1 : zs1.length ≤ maxLen := by have := L1.out.1; unfold maxLen; omega
        have m2 : zs2.length ≤ maxLen := by have := L2.out.1; unfold maxLen; omega
        obtain ⟨r1, r2, hr⟩ : ∃ r1 r2, drun x s (M : Int) xs ys = (r1, r2) := ⟨_, _, rfl⟩
        have E1 : drn x s M xs ys = (r1, r2) := by rw [← hr, drun_ok HV.out (inB_t (by omega))]; rfl
        have VR : DV r1 r2 := by have := dit_valid (A := fun k => hasB xs k) (B := fun k => hasB ys k) (p := (x, s)) DVH.out M; unfold drn at E1; rw [E1] at this; exact this
        have E2 : drun r1 r2 ((N : Int) - M) zs1 zs2 = (y, z) := by
          rw [drun_ok (dvB_t VR) (inB_t (by omega)), show ((N : Int) - M).toNat = N - M by omega, drn_two E1 (hasB_sub L1.out.1 L1.out.2) (hasB_sub L2.out.1 L2.out.2), show M + (N - M) = N by omega]
          have := drun_ok (xs := xs) (ys := ys) HV.out (inB_t (lo := 0) (n := (N : Int)) (hi := 99) (by omega))
          exact Prod.ext (by rw [← HY.out, this]; rfl) (by rw [← HZ.out, this]; rfl)
        have E3 : drun 0 0 (N : Int) [] ys = (0, 0) := by rw [drun_ok (by decide) (inB_t (by omega))]; exact drn_shut _ _
        have K3 : ∀ w, Sl w q ys → Calls Try.prog 19 #[(Value.agg #[.int .i64 (0), .int .i64 (0)]), .int .i64 N, .slice none 0 0, .slice q ys.length cq] w (Mk w (Value.agg #[.int .i64 (0), .int .i64 (0)])) := fun w hs => by
          have := iDoorRun_c 0 0 N none 0 [] q cq ys w (.inl rfl) (by simp) hs my (by omega)
          rw [E3] at this; exact this
        have K2 : ∀ w, Sl w a1 zs1 → Sl w a2 zs2 → Calls Try.prog 19 #[(Value.agg #[.int .i64 (r1), .int .i64 (r2)]), .int .i64 ((N : Int) - M), .slice a1 xs.length k1, .slice a2 ys.length k2] w (Mk w (Value.agg #[.int .i64 (y), .int .i64 (z)])) := fun w h1 h2 => by
          have := iDoorRun_c r1 r2 ((N : Int) - M) a1 k1 zs1 a2 k2 zs2 w h1 m1 h2 m2 (by omega)
          rw [E2, L1.out.1, L2.out.1] at this; exact this
        have HK2 : Hid _ := K2
        have HK3 : Hid _ := K3
        have HR : Hid _ := hr
        clear E1 E2 E3 K2 K3 VR hr m1 m2
        obtain ⟨⟨c0, c1⟩, f0, f1⟩ := M7.out
        go_wp2_with fail
        refine (iDoorRun_c x s M p cp xs q cq ys _ X7.out mx Y7.out my (by omega)).mono ?_
        rintro e w8 ⟨rfl, hb2⟩
        rw [HR.out]
        have N8 : Hid _ := Box.below N7.out hb2
        have Y8 : Hid _ := Sl.below Y7.out hb2
        have Z8 : Hid _ := Sl.below Z7.out hb2
        have S8 : Hid _ := Sl.below S7.out hb2
        have T8 : Hid (Below w.heap.size w w8) := below_next T7.out hb2
        clear hb2 c0 c1 f0 f1
        go_wp2_with fail
        refine (HK2.out _ Z8.out S8.out).mono ?_
        rintro e w9 ⟨rfl, hb2⟩
        obtain ⟨G, hG⟩ : ∃ G, w9.heap.size = G := ⟨_, rfl⟩
        have HG : Hid _ := hG
        have G9 : Hid (Box (w9.alloc (.cells #[.int .i64 y, .int .i64 z] 24)) G y z) := box_pair w9 y z _ hG
        have N9 : Hid _ := Box.al (Box.below N8.out hb2) (.cells #[.int .i64 y, .int .i64 z] 24)
        have Y9 : Hid (Sl (w9.alloc (.cells #[.int .i64 y, .int .i64 z] 24)) q ys) := Sl.below (Sl.below Y8.out hb2) ((Below.refl _ _).alloc (Nat.le_refl _) _)
        have T9 : Hid (Below w.heap.size w (w9.alloc (.cells #[.int .i64 y, .int .i64 z] 24))) := Below.al (below_next T8.out hb2) _
        clear hb2 hG
        obtain ⟨⟨c0, c1⟩, f0, f1⟩ := N9.out
        obtain ⟨⟨d0, d1⟩, e0, e1⟩ := G9.out
        go_wp2_with fail
        rw [HG.out]
        go_wp2_with fail
        refine (HK3.out _ Y9.out).mono ?_
        rintro e wA ⟨rfl, hb2⟩
        have TA : Hid (Below w.heap.size w wA) := below_next T9.out hb2
        clear hb2 c0 c1 f0 f1 d0 d1 e0 e1
        go_wp2_with fail
        go_ret
        exact LawOk.mk TA.out
end Go.Proofs.Ytiplfnghikgcjaa
