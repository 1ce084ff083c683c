/- The laws of FloorBelow, FloorNear and FloorWay: the walks. -/
import Derived.Test.YtfdfnpggnaaffaaL
namespace Go.Proofs.Ytfdfnpggnaaffaa
open Go.RowKit
set_option linter.unusedVariables false

set_option maxHeartbeats 400000 in
theorem FloorBelow_w (a : Option Addr) (n cap : Nat) (w : World) (hb : Byt w a n) (hn : n ≤ cap) (hcap : cap ≤ maxLen) :
    Calls Try.prog 5 #[.slice a n cap] w (LawOk w) := by
  have hcap' := hcap
  unfold maxLen at hcap'
  by_cases hbig : 1048576 < n
  · go_enter Try.func5, Try.ntmps5
    go_wp2
    go_ret
    exact LawOk.mk (Below.refl _ _)
  go_enter Try.func5, Try.ntmps5
  go_wp2_with fail
  refine (DrawFloorBelow_c a n cap _ hb hn hcap).mono ?_
  rintro e w1 ⟨b, off, c1, xs, x, rfl, hl, hcl, hcm, hx, x0, x1, hI, hB⟩
  have hm : xs.length ≤ maxLen := by unfold maxLen; omega
  go_wp2_with fail
  refine (iFloorBelow_c _ _ _ _ _ _ hI hm).mono ?_
  rintro e w2 ⟨rfl, n2, rfl⟩
  go_wp2_with fail
  refine (sFloorBelow_c _ _ _ _ _ _ (hI.drewN _) hm).mono ?_
  rintro e w2 ⟨rfl, n3, rfl⟩
  by_cases hv : FV xs ∧ 0 ≤ x ∧ x ≤ 60
  case neg =>
    have e : fb xs x = -1 := fb_bad hv
    clear hv
    go_wp2_with fail
    refine (alive_c _).mono ?_
    rintro e w3 ⟨rfl, hB3⟩
    go_wp2_with fail
    go_ret
    exact LawOk.mk (below_next (below_next hB (below_drewN' _)) hB3)
  obtain ⟨hv, h0, h6⟩ := hv
  obtain ⟨k, hk, hfb, hle, hup⟩ := fb_ok hv h0 h6
  have hge : fa xs x = -1 ∨ fa xs x = k := by
    rcases ix_cases xs x with ⟨j, hj, e, hn, hu⟩ | ⟨e, hn⟩
    · right
      rw [fa_ix hv, e]
      rcases Nat.lt_trichotomy j k with g | g | g
      · have := hv.asc k j g hk; omega
      · rw [g]
      · have := hup j g hj; omega
    · left; rw [fa_ix hv, e]
  have ck : w1.cell? ⟨b, off + k, none⟩ = some (.int .i64 (nth xs k)) := hI k hk
  have hkI : (k : Int) < (xs.length : Int) := by omega
  have HI : Hid _ := hI
  rw [hfb]
  go_wp2_with fail
  refine (iFloorAt_c _ _ _ _ _ _ (Ints.drewN HI.out _) hm).mono ?_
  rintro e w4 ⟨rfl, n4, rfl⟩
  clear hfb
  have G : Hid _ := hge
  clear hge
  by_cases hlast : k + 1 = xs.length
  · have t1 : ((k : Int) == (xs.length : Int) - 1) = true := by simp; omega
    clear hlast hup
    rcases G.out with g | g
    · rw [g]
      go_wp2_with fail
      go_ret
      exact LawOk.mk (below_next hB (below_drewN' _))
    · rw [g]
      have t2 : ¬ ((k : Int) < 0) := by omega
      go_wp2_with fail
      go_ret
      exact LawOk.mk (below_next hB (below_drewN' _))
  · have t1 : ((k : Int) == (xs.length : Int) - 1) = false := by simp; omega
    have hk1 : k + 1 < xs.length := by omega
    have ck1 : w1.cell? ⟨b, off + (k + 1), none⟩ = some (.int .i64 (nth xs (k + 1))) := hI (k + 1) hk1
    have hkI1 : (k : Int) + 1 < (xs.length : Int) := by omega
    have hu1 := hup (k + 1) (by omega) hk1
    clear hlast hup
    rcases G.out with g | g
    · rw [g]
      go_wp2_with fail
      go_ret
      exact LawOk.mk (below_next hB (below_drewN' _))
    · rw [g]
      have t2 : ¬ ((k : Int) < 0) := by omega
      go_wp2_with fail
      go_ret
      exact LawOk.mk (below_next hB (below_drewN' _))

theorem far_lo {a b : Int} (h : a ≤ b) : far a b = b - a := by unfold far; omega
theorem far_hi {a b : Int} (h : b ≤ a) : far a b = a - b := by unfold far; omega
set_option maxHeartbeats 1000000 in
theorem FloorNear_w (a : Option Addr) (n cap : Nat) (w : World) (hb : Byt w a n) (hn : n ≤ cap) (hcap : cap ≤ maxLen) :
    Calls Try.prog 6 #[.slice a n cap] w (LawOk w) := by
  have hcap' := hcap
  unfold maxLen at hcap'
  by_cases hbig : 1048576 < n
  · go_enter Try.func6, Try.ntmps6
    go_wp2
    go_ret
    exact LawOk.mk (Below.refl _ _)
  go_enter Try.func6, Try.ntmps6
  go_wp2_with fail
  refine (DrawFloorNear_c a n cap _ hb hn hcap).mono ?_
  rintro e w1 ⟨b, off, c1, xs, x, rfl, hl, hcl, hcm, hx, x0, x1, hI, hB⟩
  have hm : xs.length ≤ maxLen := by unfold maxLen; omega
  go_wp2_with fail
  refine (iFloorNear_c _ _ _ _ _ _ hI hm).mono ?_
  rintro e w2 ⟨rfl, n2, rfl⟩
  go_wp2_with fail
  refine (sFloorNear_c _ _ _ _ _ _ (hI.drewN _) hm).mono ?_
  rintro e w2 ⟨rfl, n3, rfl⟩
  by_cases hv : FV xs ∧ 0 ≤ x ∧ x ≤ 60
  case neg =>
    have e : fn xs x = -1 := fn_bad hv
    clear hv
    go_wp2_with fail
    refine (alive_c _).mono ?_
    rintro e w3 ⟨rfl, hB3⟩
    go_wp2_with fail
    go_ret
    exact LawOk.mk (below_next (below_next hB (below_drewN' _)) hB3)
  obtain ⟨hv, h0, h6⟩ := hv
  obtain ⟨k, hk, hfn, hall, hfirst, hbel⟩ := fn_ok hv h0 h6
  have ck : w1.cell? ⟨b, off + k, none⟩ = some (.int .i64 (nth xs k)) := hI k hk
  have hkI : (k : Int) < (xs.length : Int) := by omega
  have HI : Hid _ := hI
  have HAll : Hid _ := hall
  have HFst : Hid _ := hfirst
  have HBel : Hid _ := hbel
  have bk1 := hv.ge k hk
  have bk2 := hv.le k hk
  clear hall hfirst hbel hI
  rw [hfn]
  clear hfn
  rcases (by omega : nth xs k ≤ x ∨ x < nth xs k) with ok | ok
  all_goals
    first | rw [far_lo ok] at HAll HFst | rw [far_hi (Int.le_of_lt ok)] at HAll HFst
    go_wp2_with fail
    go_quiet (fail)
    go_wp2_with fail
    all_goals
      obtain ⟨wo, hwo⟩ : ∃ wo : World, wo = w1 := ⟨_, rfl⟩
      go_loopw [7] (fun v wr => ∃ j n : Nat, j ≤ xs.length ∧ v = .int .i64 j ∧ wr = wo.drewN n) (fun v _ => xs.length - (intOf v).toNat)
      case atStart => exact ⟨0, _, by omega, rfl, by rw [hwo]⟩
      case round =>
        obtain ⟨j, n, hj, rfl, hw⟩ := hrel
        subst hwo
        have HBw : Hid (Below w.heap.size w wr) := by rw [hw]; exact below_next hB (below_drewN' _)
        replace HI : Hid (Ints wr b off xs) := by rw [hw]; exact Ints.drewN HI.out _
        have HW : Hid _ := hw
        clear hw
        by_cases hlt : j < xs.length
        · have cj : wr.cell? ⟨b, off + j, none⟩ = some (.int .i64 (nth xs j)) := HI.out j hlt
          have hjI : (j : Int) < (xs.length : Int) := by omega
          have bj1 := hv.ge j hlt
          have bj2 := hv.le j hlt
          rcases (by omega : nth xs j ≤ x ∨ x < nth xs j) with oj | oj
          all_goals
            have A1 := HAll.out j hlt
            have A2 := HFst.out j
            first | rw [far_lo oj] at A1 A2 | rw [far_hi (Int.le_of_lt oj)] at A1 A2
            go_wp2_with fail
            go_quiet (fail)
            by_cases hjk : j < k
            · have A3 := A2 hjk
              have A4 : (j : Int) < (k : Int) := by omega
              clear A2 A1
              try have A5 : (x - nth xs j == nth xs k - x) = false := by simp; omega
              try have A6 : (x - nth xs j == x - nth xs k) = false := by simp; omega
              try have A7 : (nth xs j - x == nth xs k - x) = false := by simp; omega
              try have A8 : (nth xs j - x == x - nth xs k) = false := by simp; omega
              go_wp2_with fail
              all_goals
                go_roundw
                case rel => exact ⟨j + 1, _, by omega, by go_num, (by rw [HW.out]; first | exact World.drewN_drewN .. | (simp only [World.drewN_drewN]; rfl) | (simp only [World.drewN_drewN]))⟩
                case measure => simp [intOf]; omega
            · have A4 : ¬ (j : Int) < (k : Int) := by omega
              clear A2
              go_wp2_with fail
              all_goals
                go_roundw
                case rel => exact ⟨j + 1, _, by omega, by go_num, (by rw [HW.out]; first | exact World.drewN_drewN .. | (simp only [World.drewN_drewN]; rfl) | (simp only [World.drewN_drewN]))⟩
                case measure => simp [intOf]; omega
        · obtain rfl : j = xs.length := by omega
          rcases HBel.out with hb1 | hb1
          · go_wp2_with fail
            refine (iFloorBelow_c _ _ _ _ _ _ HI.out hm).mono ?_
            rw [hb1]
            rintro e w2 ⟨rfl, n5, rfl⟩
            have t1 : ((k : Int) == (k : Int)) = true := by simp
            go_wp2_with fail
            go_ret
            exact LawOk.mk (below_next HBw.out (below_drewN' _))
          · obtain ⟨q, hq⟩ : ∃ q, fb xs x = q := ⟨_, rfl⟩
            have hq2 : (k : Int) = q + 1 := by rw [← hq]; exact hb1
            have hq3 : q ≤ 100 := by omega
            have hq4 : -1 ≤ q := by omega
            have t1 : ((k : Int) == q) = false := by simp; omega
            have t2 : ((k : Int) == q + 1) = true := by simp [hq2]
            clear hb1 hq2
            go_wp2_with fail
            refine (iFloorBelow_c _ _ _ _ _ _ HI.out hm).mono ?_
            rw [hq]
            clear hq
            rintro e w2 ⟨rfl, n5, rfl⟩
            go_wp2_with fail
            go_ret
            exact LawOk.mk (below_next HBw.out (below_drewN' _))

theorem far_comm (a b : Int) : far a b = far b a := by unfold far; omega
theorem fw_comm (xs : List Int) (a b : Int) : fw xs a b = fw xs b a := by
  by_cases h : FV xs ∧ okF xs a ∧ okF xs b
  · rw [fw_ok h.1 h.2.1 h.2.2, fw_ok h.1 h.2.2 h.2.1, far_comm]
  · rw [fw_bad h, fw_bad (fun g => h ⟨g.1, g.2.2, g.2.1⟩)]
/-- Heights ascend with floors. -/
theorem FV.mono {xs : List Int} (h : FV xs) {p q : Int} (hp : okF xs p) (hq : okF xs q) (hpq : p ≤ q) : nth xs p.toNat ≤ nth xs q.toNat ∧ (p < q → nth xs p.toNat < nth xs q.toNat) := by
  by_cases e : p = q
  · subst e; exact ⟨Int.le_refl _, fun g => by omega⟩
  · have := h.asc q.toNat p.toNat (by have := hp.1; omega) (by have := hq.2; have := hq.1; omega)
    exact ⟨by omega, fun _ => this⟩
theorem fw_nonneg {xs : List Int} {a b : Int} (h : FV xs) (ha : okF xs a) (hb : okF xs b) : 0 ≤ fw xs a b ∧ fw xs a b ≤ 60 ∧ (fw xs a b = 0 ↔ a = b) := by
  rw [fw_ok h ha hb]
  have ga := h.ge a.toNat (by have := ha.1; have := ha.2; omega)
  have gb := h.ge b.toNat (by have := hb.1; have := hb.2; omega)
  have la := h.le a.toNat (by have := ha.1; have := ha.2; omega)
  have lb := h.le b.toNat (by have := hb.1; have := hb.2; omega)
  unfold far
  refine ⟨by omega, by omega, ?_⟩
  constructor
  · intro e
    rcases Int.lt_trichotomy a b with g | g | g
    · have := (h.mono ha hb (by omega)).2 g; omega
    · exact g
    · have := (h.mono hb ha (by omega)).2 g; omega
  · intro e; subst e; omega
theorem fw_add {xs : List Int} {a b k : Int} (h : FV xs) (ha : okF xs a) (hb : okF xs b) (h1 : min a b ≤ k) (h2 : k ≤ max a b) : okF xs k ∧ fw xs a k + fw xs k b = fw xs a b := by
  have hk : okF xs k := by unfold okF at *; omega
  refine ⟨hk, ?_⟩
  rw [fw_ok h ha hb, fw_ok h ha hk, fw_ok h hk hb]
  unfold far
  by_cases g : a ≤ b
  · have := (h.mono ha hk (by omega)).1
    have := (h.mono hk hb (by omega)).1
    omega
  · have := (h.mono hb hk (by omega)).1
    have := (h.mono hk ha (by omega)).1
    omega

set_option maxHeartbeats 600000 in
theorem FloorWay_w (a : Option Addr) (n cap : Nat) (w : World) (hb : Byt w a n) (hn : n ≤ cap) (hcap : cap ≤ maxLen) :
    Calls Try.prog 7 #[.slice a n cap] w (LawOk w) := by
  have hcap' := hcap
  unfold maxLen at hcap'
  by_cases hbig : 1048576 < n
  · go_enter Try.func7, Try.ntmps7
    go_wp2
    go_ret
    exact LawOk.mk (Below.refl _ _)
  go_enter Try.func7, Try.ntmps7
  go_wp2_with fail
  refine (DrawFloorWay_c a n cap _ hb hn hcap).mono ?_
  rintro e w1 ⟨b, off, c1, xs, x, y, rfl, hl, hcl, hcm, hx, x0, x1, y0, y1, hI, hB⟩
  have hm : xs.length ≤ maxLen := by unfold maxLen; omega
  go_wp2_with fail
  refine (iFloorWay_c _ _ _ _ _ _ _ hI hm).mono ?_
  rintro e w2 ⟨rfl, n2, rfl⟩
  go_wp2_with fail
  refine (sFloorWay_c _ _ _ _ _ _ _ (hI.drewN _) hm).mono ?_
  rintro e w2 ⟨rfl, n3, rfl⟩
  by_cases hv : FV xs ∧ okF xs x ∧ okF xs y
  case neg =>
    have e : fw xs x y = -1 := fw_bad hv
    clear hv
    go_wp2_with fail
    refine (alive_c _).mono ?_
    rintro e w3 ⟨rfl, hB3⟩
    go_wp2_with fail
    go_ret
    exact LawOk.mk (below_next (below_next hB (below_drewN' _)) hB3)
  have H : Hid _ := hv
  have hxl := hv.2.1.2
  have hyl := hv.2.2.2
  have hxl0 := hv.2.1.1
  have hyl0 := hv.2.2.1
  clear hv
  have hpos := (fw_nonneg H.out.1 H.out.2.1 H.out.2.2).1
  have hle := (fw_nonneg H.out.1 H.out.2.1 H.out.2.2).2.1
  have HI : Hid _ := hI
  clear hI
  by_cases o : x ≤ y
  all_goals
    go_wp2_with fail
    all_goals
      obtain ⟨wo, hwo⟩ : ∃ wo : World, wo = w1 := ⟨_, rfl⟩
      go_loopw [7] (fun v wr => ∃ (k : Int) (n : Nat), min x y ≤ k ∧ k ≤ max x y + 1 ∧ v = .int .i64 k ∧ wr = wo.drewN n) (fun v _ => (max x y + 1 - intOf v).toNat)
      case atStart => exact ⟨min x y, _, by omega, by omega, by first | rfl | (congr 1; omega), by rw [hwo]⟩
      case round =>
        obtain ⟨k, n, hk1, hk2, rfl, hw⟩ := hrel
        subst hwo
        have HBw : Hid (Below w.heap.size w wr) := by rw [hw]; exact below_next hB (below_drewN' _)
        replace HI : Hid (Ints wr b off xs) := by rw [hw]; exact Ints.drewN HI.out _
        have HW : Hid _ := hw
        clear hw
        by_cases hlt : k ≤ max x y
        · obtain ⟨hok, hsum⟩ := fw_add H.out.1 H.out.2.1 H.out.2.2 hk1 hlt
          have n1 := (fw_nonneg H.out.1 H.out.2.1 hok).1
          have n2 := (fw_nonneg H.out.1 H.out.2.1 hok).2.1
          have n3 := (fw_nonneg H.out.1 hok H.out.2.2).1
          have n4 := (fw_nonneg H.out.1 hok H.out.2.2).2.1
          have t1 : (fw xs x k + fw xs k y != fw xs x y) = false := by simp [hsum]
          clear hsum hok
          go_wp2_with fail
          all_goals
            refine (iFloorWay_c _ _ _ _ _ _ _ HI.out hm).mono ?_
            rintro e w2 ⟨rfl, n5, rfl⟩
            go_wp2_with fail
            refine (iFloorWay_c _ _ _ _ _ _ _ (Ints.drewN HI.out _) hm).mono ?_
            rintro e w2 ⟨rfl, n6, rfl⟩
            go_wp2_with fail
            go_roundw
            case rel => exact ⟨k + 1, _, by omega, by omega, by go_num, (by rw [HW.out]; first | exact World.drewN_drewN .. | (simp only [World.drewN_drewN]; rfl) | (simp only [World.drewN_drewN]))⟩
            case measure => simp [intOf]; omega
        · have hz := (fw_nonneg H.out.1 H.out.2.1 H.out.2.2).2.2
          have t1 : (fw xs y x == fw xs x y) = true := by rw [fw_comm]; simp
          by_cases hxy : x = y
          · have t2 : (fw xs x y == 0) = true := by simp [hz.2 hxy]
            have t3 : (x == y) = true := by simp [hxy]
            clear hz hxy
            go_wp2_with fail
            all_goals
              refine (iFloorWay_c _ _ _ _ _ _ _ HI.out hm).mono ?_
              rintro e w2 ⟨rfl, n5, rfl⟩
              go_wp2_with fail
              go_ret
              exact LawOk.mk (below_next HBw.out (below_drewN' _))
          · have t2 : (fw xs x y == 0) = false := by simp; intro h; exact hxy (hz.1 h)
            have t3 : (x == y) = false := by simp [hxy]
            clear hz hxy
            go_wp2_with fail
            all_goals
              refine (iFloorWay_c _ _ _ _ _ _ _ HI.out hm).mono ?_
              rintro e w2 ⟨rfl, n5, rfl⟩
              go_wp2_with fail
              go_ret
              exact LawOk.mk (below_next HBw.out (below_drewN' _))
end Go.Proofs.Ytfdfnpggnaaffaa
