/- The law of MotionTicks: the walk. -/
import Derived.Test.Ytolojhbnmfpjaaa2U
import Derived.Test.Ytolojhbnmfpjaaa2X
import Derived.Test.Ytolojhbnmfpjaaa2N
import Derived.Test.YtolojhbnmfpjaaaL
namespace Go.Proofs.Ytolojhbnmfpjaaa
open Go.RowKit
set_option linter.unusedVariables false

set_option maxHeartbeats 2000000 in
theorem MotionTicks_w (a : Option Addr) (n cap : Nat) (w : World) (hb : Byt w a n) (hn : n ≤ cap) (hcap : cap ≤ maxLen) :
    Calls Try.prog 7 #[.slice a n cap] w (LawOk w) := by
  have hcap' := hcap
  unfold maxLen at hcap'
  by_cases hbig : 1048576 < n
  · go_enter Try.func7, Try.ntmps7
    go_wp2
    go_ret
    exact LawOk.mk (Below.refl _ _)
  go_enter Try.func7, Try.ntmps7
  go_wp2_with fail
  refine (DrawMotionTicks_c a n cap _ hb hn hcap).mono ?_
  rintro e w1 ⟨x, s, t, rfl, x0, x1, s0, s1, t0, t1, hB⟩
  have M2 : Hid _ := Box.new w1 x s 24
  have T1 : Hid (Below w.heap.size w (w1.alloc (.cells #[.int .i64 x, .int .i64 s] 24))) := Below.al hB _
  clear hB
  go_wp2_with fail
  refine (iMotionTicks_c x s t _).mono ?_
  rintro e w2 ⟨rfl, hb2⟩
  have M3 : Hid _ := Box.below M2.out hb2
  have T2 : Hid (Below w.heap.size w w2) := below_next T1.out hb2
  clear hb2
  obtain ⟨⟨c0, c1⟩, f0, f1⟩ := M3.out
  go_wp2_with fail
  refine (sMotionTicks_c x s t _).mono ?_
  rintro e w3 ⟨rfl, hb2⟩
  have M4 : Hid _ := Box.below M3.out hb2
  have T3 : Hid (Below w.heap.size w w3) := below_next T2.out hb2
  clear hb2 c0 c1 f0 f1
  by_cases hv : mvB x s = true ∧ inB 0 t 60 = true
  case neg =>
    have hbad := mtk_bad hv
    clear hv
    rw [hbad]
    clear hbad
    go_wp2_with fail
    refine (alive_c _).mono ?_
    rintro e' w9 ⟨rfl, hB9⟩
    have T9 : Hid (Below w.heap.size w w9) := below_next T3.out hB9
    clear hB9
    go_wp2_with fail
    go_ret
    exact LawOk.mk T9.out
  obtain ⟨N, hN, hN5, hit, hbef⟩ := mt_ok hv.1 hv.2
  have HV : Hid _ := hv
  have HI : Hid _ := hit
  have HF : Hid _ := hbef
  rw [hN]
  clear hv hit hbef hN
  obtain ⟨A, hA⟩ : ∃ A, w1.heap.size = A := ⟨_, rfl⟩
  rw [hA]
  have M4' : Hid (Box w3 A x s) := by rw [← hA]; exact M4.out
  clear hA M2 M3 M4
  obtain ⟨⟨c0, c1⟩, f0, f1⟩ := M4'.out
  have nn : ¬ (N : Int) < 0 := by omega
  go_wp2_with fail
  have X1 : Hid _ := Box.new w3 x s 24
  have hAlt : A < w3.heap.size := Box.lt M4'.out
  obtain ⟨B, hBB⟩ : ∃ B, w3.heap.size = B := ⟨_, rfl⟩
  rw [hBB]
  rw [hBB] at hAlt
  have X2 : Hid (Box (w3.alloc (.cells #[.int .i64 x, .int .i64 s] 24)) B x s) := by rw [← hBB]; exact X1.out
  have M5 : Hid (Box (w3.alloc (.cells #[.int .i64 x, .int .i64 s] 24)) A x s) := Box.al M4'.out _
  have T4 : Hid (Below w.heap.size w (w3.alloc (.cells #[.int .i64 x, .int .i64 s] 24))) := Below.al T3.out _
  have hAB : A ≠ B := by omega
  have hBw : Hid (w.heap.size ≤ B) := by rw [← hBB]; exact T3.out.size
  clear hBB X1 hAlt M4' c0 c1 f0 f1
  go_loopw [7] (fun v wr => ∃ (k : Nat) (y z : Int), k ≤ N ∧ v = .int .i64 k ∧ it t k (x, s) = (y, z) ∧ Box wr A x s ∧ Box wr B y z ∧ Below w.heap.size w wr) (fun v _ => (N - intOf v).toNat)
  case atStart => exact ⟨0, x, s, by omega, rfl, rfl, M5.out, X2.out, T4.out⟩
  case round =>
    clear M5 X2 T1 T2 T3 T4
    obtain ⟨k, y, z, hk, rfl, q1, q2, q3, q4⟩ := hrel
    have Q1 : Hid _ := q1
    have Q2 : Hid _ := q2
    have Q3 : Hid _ := q3
    have Q4 : Hid _ := q4
    clear q1 q2 q3 q4
    obtain ⟨⟨c0, c1⟩, f0, f1⟩ := Q3.out
    by_cases hlt : k < N
    · have PV : Hid (mvB y z = true) := by have := it_valid HV.out.1 HV.out.2 k; rw [Q1.out] at this; exact this
      have hne : (y == t) = false ∨ ((y == t) = true ∧ (z == 0) = false) := by
        by_cases e : y = t
        · right; exact ⟨by simp [e], by simp; intro h; exact HF.out k hlt (by rw [Q1.out, e, h])⟩
        · left; simp [e]
      rcases hne with t1 | ⟨t1, t2⟩
      all_goals
        go_wp2_with fail
        refine (iMotionStep_c y z t _).mono ?_
        rintro e w5 ⟨rfl, hb2⟩
        have Q5 : Hid _ := Box.below Q2.out hb2
        have Q6 : Hid _ := Box.below Q3.out hb2
        have Q7 : Hid (Below w.heap.size w w5) := below_next Q4.out hb2
        have em : Hid _ := mst_ok PV.out HV.out.2
        clear hb2 c0 c1 f0 f1
        obtain ⟨⟨c0, c1⟩, f0, f1⟩ := Q6.out
        go_wp2_with fail
        go_roundw
        case rel => exact ⟨k + 1, (ms y z t).1, (ms y z t).2, by omega, by go_num, it_step Q1.out, Box.far (Box.far Q5.out hAB) hAB, by rw [em.out]; exact Box.set _ _ Q6.out, Below.st (Below.st Q7.out hBw.out _) hBw.out _⟩
        case measure => simp [intOf]; omega
    · obtain rfl : k = N := by omega
      have e1 : y = t := by have := HI.out; rw [Q1.out] at this; exact congrArg Prod.fst this
      have e2 : z = 0 := by have := HI.out; rw [Q1.out] at this; exact congrArg Prod.snd this
      have HF' : Hid _ := HF.out
      have HI' : Hid _ := HI.out
      clear Q1
      subst e1 e2
      obtain ⟨⟨d0, d1⟩, e0, e1⟩ := Q2.out
      have hsv := mvB_iff.1 HV.out.1
      have htv := inB_iff.1 HV.out.2
      obtain ⟨v1, v2, v3, v4⟩ := hsv
      obtain ⟨v5, v6⟩ := htv
      by_cases hs : s = 0
      · subst hs
        have ST : Hid _ := stand_law HV.out.1 HV.out.2 HI.out HF.out
        clear HV HI HF HI' HF'
        go_wp2_with fail
        go_loop [8, 9, 10] (fun vm vs vk => ∃ (k' : Nat) (u : Int), 1 ≤ k' ∧ (k' ≤ k ∨ k' = 1) ∧ vk = .int .i64 k' ∧ vs = .int .i64 u ∧ vm = .int .i64 (sm k k' : Nat)) (fun _ _ vk => (k - intOf vk).toNat)
        case atStart => exact ⟨1, 0, by omega, by omega, rfl, rfl, rfl⟩
        case round =>
          obtain ⟨k', u, p1, p2, rfl, rfl, rfl⟩ := hrel
          have bd := sm_bd k k'
          have hk1 : k' ≤ 1005 := by omega
          by_cases hlt2 : k' < k
          · have sk : Hid (sm k (k' + 1) = sm k k' + min k' (min (k - 1 - k') 5)) := by
              show sm k k' + (if k' = 0 then 0 else _) = _; rw [if_neg (by omega)]
            go_wp2_with fail
            all_goals
              go_round
              case rel => exact ⟨k' + 1, _, by omega, by omega, by go_num, rfl, by rw [sk.out]; congr 1; omega⟩
              case measure => simp [intOf]; omega
          · have st := ST.out
            have kk : k' = k ∨ k = 0 := by omega
            clear hlt2
            rcases (by omega : k = 0 ∨ (1 ≤ k ∧ k' = k)) with g | ⟨g, g2⟩
            · subst g
              have t9 : ¬ ((k' : Int) < ((0 : Nat) : Int)) := by omega
              go_wp2_with fail
              all_goals
                go_ret
                exact LawOk.mk Q4.out
            · subst g2
              have st2 : (sm k' k' : Int) < max (y - x) (x - y) := by omega
              have kb : ((k' : Int) == 0) = false := by simp; omega
              clear st kk
              rcases (by omega : (x ≤ y ∧ (sm k' k' : Int) < y - x) ∨ (y < x ∧ (sm k' k' : Int) < x - y)) with ⟨o1, o2⟩ | ⟨o1, o2⟩
              all_goals
                go_wp2_with fail
                all_goals
                  first | omega | (go_ret; exact LawOk.mk Q4.out)
      · have sb : (s == 0) = false := by simp [hs]
        have sb2 : (s != 0) = true := by simp [hs]
        clear HV HI HF HI' HF'
        go_wp2_with fail
        go_loop [8, 9, 10] (fun vm vs vk => vk = .int .i64 1 ∧ vs = .int .i64 0 ∧ vm = .int .i64 0) (fun _ _ vk => 0)
        case atStart => exact ⟨rfl, rfl, rfl⟩
        case round =>
          obtain ⟨rfl, rfl, rfl⟩ := hrel
          rcases (by omega : 1 < k ∨ ¬ 1 < k) with g | g
          · have g2 : (1 : Int) < (k : Int) := by omega
            go_wp2_with fail
            all_goals
              go_ret
              exact LawOk.mk Q4.out
          · have g2 : ¬ (1 : Int) < (k : Int) := by omega
            go_wp2_with fail
            all_goals
              go_ret
              exact LawOk.mk Q4.out
end Go.Proofs.Ytolojhbnmfpjaaa
