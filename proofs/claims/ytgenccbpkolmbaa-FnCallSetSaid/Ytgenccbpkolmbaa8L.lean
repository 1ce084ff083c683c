/- The laws of CallsNone and CallsValid: the walks. -/
import Derived.Test.Ytgenccbpkolmbaa8U
namespace Go.Proofs.Ytgenccbpkolmbaa
open Go.RowKit
set_option linter.unusedVariables false

theorem sameCalls_t (a1 : Option Addr) (n1 k1 : Nat) (a2 : Option Addr) (n2 k2 : Nat) (a3 : Option Addr) (n3 k3 : Nat) (a4 : Option Addr) (n4 k4 : Nat) (a5 : Option Addr) (n5 k5 : Nat) (a6 : Option Addr) (n6 k6 : Nat) (x : Cs) (w : World) (hX : Cal w a1 n1 a2 n2 a3 n3 x) (hY : Cal w a4 n4 a5 n5 a6 n6 x) (m1 : n1 ≤ 1048577) (m2 : n2 ≤ 1048577) (m3 : n3 ≤ 1048577) :
    Calls Try.prog 18 #[(.agg #[.slice a1 n1 k1, .slice a2 n2 k2, .slice a3 n3 k3]), .agg #[.slice a4 n4 k4, .slice a5 n5 k5, .slice a6 n6 k6]] w (Mk w (.bool true)) := by
  have K := sameCalls_c a1 n1 k1 a2 n2 k2 a3 n3 k3 x a4 n4 k4 a5 n5 k5 a6 n6 k6 x w hX hY m1 m2 m3
  rw [tr_true rfl] at K
  exact K
set_option maxHeartbeats 8000000 in
theorem CallsNone_w (a : Option Addr) (n cap : Nat) (w : World) (hb : Byt w a n) (hn : n ≤ cap) (hcap : cap ≤ maxLen) :
    Calls Try.prog 4 #[.slice a n cap] w (LawOk w) := by
  have hcap' := hcap
  unfold maxLen at hcap'
  by_cases bign : 1048576 < n
  · go_enter Try.func4, Try.ntmps4
    go_wp2_with fail
    go_ret
    exact LawOk.mk (Below.refl _ _)
  go_enter Try.func4, Try.ntmps4
  go_wp2_with fail
  refine (DrawCallsNone_c a n cap _ hb hn hcap).mono ?_
  rintro e wn ⟨p, rfl, ⟨p0, p9⟩, hB⟩
  have T := Lib.hid hB
  clear hB hb
  obtain ⟨m1, m2, m3⟩ := cno_len p
  have KS := fun w' => sCallsNone_c p w'
  have KI := fun w' => iCallsNone_c p w'
  have KC := Lib.hid (show (1 ≤ p ∧ p ≤ 8 ∧ (cno p).c.length = p.toNat ∧ cm (cno p) = 0) ∨ (¬ (1 ≤ p ∧ p ≤ 8) ∧ (cno p).c.length = 0) from by
    by_cases h : 1 ≤ p ∧ p ≤ 8
    · obtain ⟨q, rfl⟩ : ∃ q : Nat, p = q := ⟨p.toNat, by omega⟩
      refine .inl ⟨h.1, h.2, ?_, ?_⟩
      · rw [cno_ok (by omega) (by omega)]; simp [cn]
      · rw [cno_ok (by omega) (by omega)]; exact cm_none (by omega) (by omega)
    · exact .inr ⟨h, by rw [cno_bad h]; rfl⟩)
  obtain ⟨y, hy⟩ : ∃ y, cno p = y := ⟨_, rfl⟩
  rw [hy] at KS KI m1 m2 m3 KC
  have HKS := Lib.hid KS
  have HKI := Lib.hid KI
  clear KS KI hy
  go_wp2_with fail
  refine Calls.mono (HKI.out _) ?_
  intro e wn hh
  obtain ⟨v1, v2, v3, loG, hiG, rfl, hO, hb, hlo, hhi⟩ := NewC.get hh
  have hTG : w.heap.size ≤ loG := by rw [← hlo]; exact T.out.size
  have hlhG : loG ≤ hiG := by rw [← hlo, ← hhi]; exact hb.size
  obtain ⟨Ga, Gi, Gb, Gj, Gc, Gk, rfl, rfl, rfl, -⟩ := OwnC.open hO
  have Tn := Lib.hid (below_next T.out hb)
  have G := Lib.hid hO
  clear hb hO hh hlo hhi
  clear T
  have T := Tn
  clear Tn
  have hltGHG := G.out.2.2.1
  have hWHG := T.out.size
  obtain ⟨HG, hHG⟩ : ∃ HG, Array.size (World.heap wn) = HG := ⟨_, rfl⟩
  have HHG : Hid _ := hHG
  rw [hHG] at hWHG hltGHG
  have GB : Hid (Bx (wn.alloc (.cells #[.slice Ga y.u.length Gi, .slice Gb y.d.length Gj, .slice Gc y.c.length Gk] 25)) HG (.slice Ga y.u.length Gi) (.slice Gb y.d.length Gj) (.slice Gc y.c.length Gk)) := by rw [← hHG]; exact Bx.new _ _ _ _ _
  clear hHG
  have Tn : Hid (Below w.heap.size w _) := Below.al T.out (.cells #[.slice Ga y.u.length Gi, .slice Gb y.d.length Gj, .slice Gc y.c.length Gk] 25)
  have Gn : Hid _ := OwnC.below G.out ((Below.refl _ _).alloc (Nat.le_refl _) (.cells #[.slice Ga y.u.length Gi, .slice Gb y.d.length Gj, .slice Gc y.c.length Gk] 25))
  clear T G
  have T := Tn
  have G := Gn
  clear Tn Gn
  go_wp2_with fail
  rw [HHG.out]
  generalize wn.alloc (.cells #[.slice Ga y.u.length Gi, .slice Gb y.d.length Gj, .slice Gc y.c.length Gk] 25) = wz at *
  refine wp_region_inv (fun ln vs wx => Below (World.heap wz).size wz wx ∧ vs 4 = .pointer (some ⟨HG, 0, none⟩) ∧ vs 3 = .int .i64 p ∧ (ln 0 = true → vs 12 = (.agg #[.slice Ga y.u.length Gi, .slice Gb y.d.length Gj, .slice Gc y.c.length Gk])) ∧ (ln 1 = true → vs 13 = .int .i64 p) ∧
      (ln 2 = true → Fre (vs 14) y wx) ∧ (ln 3 = true → vs 15 = .bool true) ∧ (ln 4 = true → vs 16 = .bool false)) [12, 13, 14, 15, 16]
    (by kernel_rfl) (by kernel_rfl) (by kernel_rfl) (by kernel_rfl) ⟨Below.dw (Below.refl _ _), rfl, rfl, fun h => (by cases h), fun h => (by cases h), fun h => (by cases h), fun h => (by cases h), fun h => (by cases h)⟩ ?hobs ?_
  case hobs =>
    refine ⟨?_, ?_, ?_, ?_, ?_, trivial⟩
    · intro ln vs wx hn ha ⟨hb, uX, uA, i0, i1, i2, i3, i4⟩
      obtain ⟨⟨c0, c1, c2⟩, _⟩ := (Bx.below GB.out hb)
      have HI := Lib.hid (And.intro i0 (And.intro i1 (And.intro i2 (And.intro i3 i4))))
      clear i0 i1 i2 i3 i4 ha
      go_simp
      simp only [evOf_tmp, uX]
      go_simp
      obtain ⟨i0, i1, i2, i3, i4⟩ := HI.out
      exact ⟨hb, uX, uA, fun _ => rfl, i1, i2, i3, i4⟩
    · intro ln vs wx hn ha ⟨hb, uX, uA, i0, i1, i2, i3, i4⟩
      have HI := Lib.hid (And.intro i0 (And.intro i1 (And.intro i2 (And.intro i3 i4))))
      clear i0 i1 i2 i3 i4 ha
      go_simp
      obtain ⟨i0, i1, i2, i3, i4⟩ := HI.out
      exact ⟨hb, uX, uA, i0, fun _ => uA, i2, i3, i4⟩
    · intro ln vs wx hn ha ⟨hb, uX, uA, i0, i1, i2, i3, i4⟩
      have q1 : ln 1 = true := ha ⟨1, Ground.data⟩ (by simp) rfl
      have u1 := i1 q1
      have HI := Lib.hid (And.intro i0 (And.intro i1 (And.intro i2 (And.intro i3 i4))))
      clear i0 i1 i2 i3 i4 ha
      go_simp
      simp only [evOf_tmp, u1]
      obtain ⟨i0, i1, i2, i3, i4⟩ := HI.out
      exact (HKS.out wx).mono fun e w' hh => (by
        obtain ⟨v1, v2, v3, lo, hi, rfl, hO, hb2, -, -⟩ := NewC.get hh
        obtain ⟨q1, j1, q2, j2, q3, j3, rfl, rfl, rfl, hC⟩ := OwnC.open hO
        exact ⟨_, rfl, below_next hb hb2, uX, uA, i0, i1, fun _ => ⟨q1, j1, q2, j2, q3, j3, rfl, hC⟩, i3, i4⟩)
    · intro ln vs wx hn ha ⟨hb, uX, uA, i0, i1, i2, i3, i4⟩
      have q0 : ln 0 = true := ha ⟨0, Ground.data⟩ (by simp) rfl
      have q2 : ln 2 = true := ha ⟨2, Ground.data⟩ (by simp) rfl
      have u0 := i0 q0
      obtain ⟨p1, j1, p2, j2, p3, j3, u2, hC⟩ := i2 q2
      have HI := Lib.hid (And.intro i0 (And.intro i1 (And.intro i2 (And.intro i3 i4))))
      clear i0 i1 i2 i3 i4 ha
      have HCC := Lib.hid hC
      clear hC
      go_simp
      simp only [evOf_tmp, u0, u2]
      obtain ⟨i0, i1, i2, i3, i4⟩ := HI.out
      have K := sameCalls_t Ga y.u.length Gi Gb y.d.length Gj Gc y.c.length Gk p1 y.u.length j1 p2 y.d.length j2 p3 y.c.length j3 y wx (Cal.below (OwnC.cal G.out) hb) HCC.out (by omega) (by omega) (by omega)
      exact K.mono fun e w' ⟨he, hb2⟩ => ⟨_, he, below_next hb hb2, uX, uA, i0, i1, fun h => (let ⟨a1', a2', a3', a4', a5', a6', a7', a8'⟩ := i2 h; ⟨a1', a2', a3', a4', a5', a6', a7', Cal.below a8' hb2⟩), fun _ => rfl, i4⟩
    · intro ln vs wx hn ha ⟨hb, uX, uA, i0, i1, i2, i3, i4⟩
      have q3 : ln 3 = true := ha ⟨3, Ground.data⟩ (by simp) rfl
      have u3 := i3 q3
      have HI := Lib.hid (And.intro i0 (And.intro i1 (And.intro i2 (And.intro i3 i4))))
      clear i0 i1 i2 i3 i4 ha
      go_simp
      simp only [evOf_tmp, u3]
      go_simp
      obtain ⟨i0, i1, i2, i3, i4⟩ := HI.out
      exact ⟨hb, uX, uA, i0, i1, i2, i3, fun _ => rfl⟩
  intro vs wq hI
  obtain ⟨hb, -, -, -, -, -, -, i4⟩ := hI
  have u4 : vs 16 = .bool false := i4 rfl
  simp (decide := true) only [over, Nat.reduceAdd, if_true, if_false]
  rw [u4]
  have Tn := Lib.hid (below_next T.out hb)
  have GBn := Lib.hid (Bx.below GB.out hb)
  have Gn := Lib.hid (OwnC.below G.out hb)
  clear hb i4 u4 T GB G
  obtain ⟨T, GB, G⟩ := (⟨Tn, GBn, Gn⟩ : _ ∧ _ ∧ _)
  obtain ⟨wn, hwq⟩ : ∃ w0, w0 = wq := ⟨_, rfl⟩
  subst hwq
  clear Tn GBn Gn
  rcases KC.out with ⟨h1, h8, hl, hm⟩ | ⟨hno, hl⟩
  · obtain ⟨q, rfl⟩ : ∃ q : Nat, p = q := ⟨p.toNat, by omega⟩
    have t0 : ((y.c.length : Int) == 0) = false := beq_false_of_ne (by omega)
    have t1 : ((y.c.length : Int) == (q : Int)) = true := by rw [beq_iff_eq]; omega
    have HM := Lib.hid (iCallsMany_c Ga y.u.length Gi Gb y.d.length Gj Gc y.c.length Gk y wn (OwnC.cal G.out))
    rw [hm] at HM
    clear hl hm h1 h8 KC
    obtain ⟨⟨c0, c1, c2⟩, -⟩ := GB.out
    go_wp2_with fail
    refine Calls.mono (HM.out) ?_
    intro e wn hh
    obtain ⟨he, hb⟩ := (by first | exact hh | exact Ro.mk hh | exact St.mk hh | exact LawOk.mk' hh : Mk _ _ e wn)
    subst he
    have Tn : Hid (Below w.heap.size w wn) := below_next T.out hb
    have Gn : Hid _ := OwnC.below G.out hb
    have GBn : Hid _ := Bx.below GB.out hb
    clear hb hh c0 c1 c2
    clear T G GB
    have T := Tn
    have G := Gn
    have GB := GBn
    clear Tn Gn GBn
    go_wp2_with fail
    go_ret
    first | exact LawOk.mk T.out | exact LawOk.mk (Below.dr T.out _)
  · have t0 : ((y.c.length : Int) == 0) = true := by rw [beq_iff_eq]; omega
    have t1 : p < 1 ∨ (¬ p < 1 ∧ p > 8) := by omega
    clear hl hno KC
    rcases t1 with t1 | ⟨t1, t2⟩
    all_goals
      obtain ⟨⟨c0, c1, c2⟩, -⟩ := GB.out
      go_wp2_with fail
      refine Calls.mono (alive_c _) ?_
      intro e w' hh
      obtain ⟨he, hb⟩ := hh
      subst he
      have T2 := Lib.hid (below_next T.out hb)
      clear hb
      go_wp2_with fail
      go_ret
      exact LawOk.mk T2.out
end Go.Proofs.Ytgenccbpkolmbaa
