/- Marks of the exact laws. -/
import Derived.Test.Ytfhhgddajmihjaa8K
namespace Go.Proofs.Ytfhhgddajmihjaa
open Go.RowKit
set_option linter.unusedVariables false
set_option linter.unusedSimpArgs false
set_option maxRecDepth 100000

def lst (n : Nat) (h : Nat → Bool) : List Bool := (List.range n).map h
theorem lst_len (n : Nat) (h : Nat → Bool) : (lst n h).length = n := by simp [lst]
theorem bn_lst {n i : Nat} (h : Nat → Bool) (hi : i < n) : bn (lst n h) i = h i := by rw [bn_eq (by simpa [lst] using hi)]; simp [lst]
theorem lst_set {n i : Nat} (h : Nat → Bool) (b : Bool) (hi : i < n) : (lst n h).set i b = lst n (fun j => if j = i then b else h j) := by
  refine bn_ext (by simp [lst]) fun j hj => ?_
  have hj2 : j < n := by simpa [lst] using hj
  rw [bn_set _ _ (by simpa [lst] using hi), bn_lst _ hj2, bn_lst _ hj2]
theorem lst_eq {xs : List Bool} {n : Nat} (h : xs.length = n) : lst n (bn xs) = xs := bn_ext (by rw [lst_len, h]) fun i hi => bn_lst _ (by rwa [lst_len] at hi)
theorem lst_congr {n : Nat} {f g : Nat → Bool} (h : ∀ i, i < n → f i = g i) : lst n f = lst n g := List.map_congr_left fun i hi => h i (List.mem_range.1 hi)
/-- The mark of number j. -/
def mb (j : Nat) : Bool := (j : Int) % 3 == 0
def mk (k n : Nat) : List Bool := lst n (fun i => mb (k + i))
theorem mk_len (k n : Nat) : (mk k n).length = n := lst_len _ _
set_option maxHeartbeats 1000000 in
theorem markBoolS_c (a : Option Addr) (n cap k : Nat) (xs : List Bool) (B lo hi : Nat) (w : World) (hO : OwnB w B (.slice a n cap) xs) (hl : xs.length = n) (hk : k ≤ 2000000) (hn : n ≤ 1048576)
    (hin : ∀ q, (Value.slice a n cap).ownBlock = some q → lo ≤ q ∧ q < hi) : Calls Try.prog 73 #[.slice a n cap, .int .i64 k] w fun e w' => e = .returned (.int .i64 ((k + n : Nat) : Int)) ∧ OwnB w' B (.slice a n cap) (mk k n) ∧ Out lo hi w w' := by
  have O0 := Lib.hid (show OwnB w B (.slice a n cap) (lst n (fun j => if j < 0 then mb (k + j) else bn xs j)) from by
    rw [lst_congr (g := bn xs) (fun i hi => by rw [if_neg (by omega)]), lst_eq hl]; exact hO)
  have HIN := Lib.hid hin
  clear hO hin
  go_enter Try.func73, Try.ntmps73
  go_wp2_with fail
  obtain ⟨wo, hwo⟩ : ∃ wo : World, wo = w := ⟨_, rfl⟩
  go_loopw [1, 5] (fun u v wr => ∃ i : Nat, i ≤ n ∧ v = .int .i64 i ∧ u = .int .i64 ((k + i : Nat) : Int) ∧ OwnB wr B (.slice a n cap) (lst n (fun j => if j < i then mb (k + j) else bn xs j)) ∧ Out lo hi wo wr) (fun _ v _ => n - (intOf v).toNat)
  case atStart => exact ⟨0, by omega, rfl, rfl, O0.out, by rw [hwo]; exact Out.refl _ _ _⟩
  case round =>
    obtain ⟨i, hii, rfl, rfl, hO, hout⟩ := hrel
    have HO := Lib.hid hO
    have HT := Lib.hid hout
    have HW := Lib.hid hwo
    clear hO hout hwo O0
    obtain ⟨j, hj⟩ : ∃ j, k + i = j := ⟨_, rfl⟩
    have HJ := Lib.hid hj
    have hjb : j ≤ 3048576 := by omega
    have hj0 : (0 : Int) ≤ j := by omega
    rw [hj]
    clear hj
    by_cases hlt : i < n
    · obtain ⟨q, cp, e, hq1, hq2, hc, hz⟩ := OwnB.some HO.out (by rw [lst_len]; omega)
      simp only [Value.slice.injEq] at e
      obtain ⟨rfl, -, rfl⟩ := e
      have c1 := hc i (by rw [lst_len]; exact hlt)
      have f1 := hz i
      rw [bn_lst _ hlt, if_neg (by omega)] at c1
      have hO2 := HO.out
      have hS := Lib.hid (show OwnB (wr.setCell ⟨q, i, none⟩ (.bool (mb j))) B (.slice (some ⟨q, 0, none⟩) n cap) (lst n (fun m => if m < i + 1 then mb (k + m) else bn xs m)) from by
        have h9 := OwnB.stored (b := q) (cap := cap) (xs := lst n (fun m => if m < i then mb (k + m) else bn xs m)) (by rw [lst_len]; exact hO2) i (mb j)
        rw [lst_len, lst_set _ _ hlt] at h9
        rw [lst_congr (g := fun m => if m = i then mb j else if m < i then mb (k + m) else bn xs m) (fun m hm => by
          by_cases g : m = i
          · rw [if_pos g, if_pos (by omega), g, HJ.out]
          · rw [if_neg g]
            by_cases g2 : m < i
            · rw [if_pos g2, if_pos (by omega)]
            · rw [if_neg g2, if_neg (by omega)])]
        exact h9.1)
      have hin := HIN.out q rfl
      have hT := Lib.hid (Out.trans HT.out (Out.set (w := wr) (q := q) (i := i) (lo := lo) (hi := hi) (.bool (mb j)) hin.1 hin.2))
      clear HO HT hc hz hO2 hin
      unfold mb at hS hT
      go_wp2_with fail
      go_roundw
      case rel => exact ⟨i + 1, by omega, by go_num, by rw [← HJ.out]; go_num, hS.out, hT.out⟩
      case measure => simp [intOf]; omega
    · obtain rfl : i = n := by omega
      go_wp2_with fail
      go_ret
      exact ⟨by rw [HJ.out]; rfl, by have h9 := HO.out; rwa [lst_congr (g := fun m => mb (k + m)) (fun m hm => by rw [if_pos hm])] at h9, by rw [← HW.out]; exact HT.out⟩
set_option maxHeartbeats 1000000 in
theorem heldBoolS_c (a : Option Addr) (n cap k : Nat) (w : World) (hb : BS w a n (mk k n)) (hk : k ≤ 2000000) (hn : n ≤ 1048576) : Calls Try.prog 74 #[.slice a n cap, .int .i64 k] w (St w (.int .i64 ((k + n : Nat) : Int))) := by
  have HBB := Lib.hid hb.2
  clear hb
  go_enter Try.func74, Try.ntmps74
  go_wp2_with fail
  obtain ⟨wo, hwo⟩ : ∃ wo : World, wo = w := ⟨_, rfl⟩
  go_loopw [1, 5] (fun u v wr => ∃ i : Nat, i ≤ n ∧ v = .int .i64 i ∧ u = .int .i64 ((k + i : Nat) : Int) ∧ wr = wo) (fun _ v _ => n - (intOf v).toNat)
  case atStart => exact ⟨0, by omega, rfl, rfl, by rw [hwo]⟩
  case round =>
    obtain ⟨i, hi, rfl, rfl, hw⟩ := hrel
    rw [hwo] at hw
    subst hw
    have HW := Lib.hid hwo
    clear hwo
    obtain ⟨j, hj⟩ : ∃ j, k + i = j := ⟨_, rfl⟩
    have HJ := Lib.hid hj
    have hjb : j ≤ 3048576 := by omega
    have hj0 : (0 : Int) ≤ j := by omega
    rw [hj]
    clear hj
    by_cases hlt : i < n
    · rcases HBB.out with h0 | ⟨b, off, rfl, hc⟩
      · omega
      have c1 := hc i hlt
      rw [show bn (mk k n) i = mb j from by rw [← HJ.out]; exact bn_lst _ hlt] at c1
      clear hc
      unfold mb at c1
      go_wp2_with fail
      go_roundw
      case rel => exact ⟨i + 1, by omega, by go_num, by rw [← HJ.out]; go_num, HW.out.symm⟩
      case measure => simp [intOf]; omega
    · obtain rfl : i = n := by omega
      go_wp2_with fail
      go_ret
      exact ⟨by rw [HJ.out]; rfl, rfl⟩
def mkC (k n1 n2 n3 : Nat) : Cs := ⟨mk k n1, mk (k + n1) n2, mk (k + n1 + n2) n3⟩
theorem OwnB.cal {w : World} {B : Nat} {a : Option Addr} {n k : Nat} {xs : List Bool} (h : OwnB w B (.slice a n k) xs) : BS w a n xs := by
  obtain ⟨a', c', e, hb, _⟩ := OwnB.open h
  simp only [Value.slice.injEq] at e
  obtain ⟨rfl, e2, rfl⟩ := e
  rw [← e2] at hb
  exact hb
theorem OwnC.cal {w : World} {lo hi : Nat} {a1 : Option Addr} {n1 k1 : Nat} {a2 : Option Addr} {n2 k2 : Nat} {a3 : Option Addr} {n3 k3 : Nat} {x : Cs} (h : OwnC w lo hi (.slice a1 n1 k1) (.slice a2 n2 k2) (.slice a3 n3 k3) x) : Cal w a1 n1 a2 n2 a3 n3 x :=
  ⟨OwnB.cal h.1.1, OwnB.cal h.1.2.1, OwnB.cal h.1.2.2⟩
/-- A value that reads as calls. -/
def Fre (v : Value) (x : Cs) (w : World) : Prop := ∃ q1 j1 q2 j2 q3 j3, v = .agg #[.slice q1 x.u.length j1, .slice q2 x.d.length j2, .slice q3 x.c.length j3] ∧ Cal w q1 x.u.length q2 x.d.length q3 x.c.length x
theorem NewC.get {w w' : World} {x : Cs} {f : Value → Value} {e : Ending} (h : NewC w x f e w') : ∃ v1 v2 v3 lo hi, e = .returned (f (.agg #[v1, v2, v3])) ∧ OwnC w' lo hi v1 v2 v3 x ∧ Below w.heap.size w w' ∧ w.heap.size = lo ∧ w'.heap.size = hi := by
  obtain ⟨v1, v2, v3, h1, h2, h3⟩ := h
  exact ⟨v1, v2, v3, _, _, h1, h2, h3, rfl, rfl⟩
theorem range_of {v : Value} {lo hi : Nat} (h : ∀ q, v.ownBlock = Option.some q → lo ≤ q ∧ q < hi) (hlh : lo ≤ hi) :
    ∃ l m, lo ≤ l ∧ m ≤ hi ∧ (∀ q, v.ownBlock = Option.some q → l ≤ q ∧ q < m) ∧ ∀ u, Apart v u → ∀ q, u.ownBlock = Option.some q → q < l ∨ m ≤ q := by
  cases e : v.ownBlock with
  | none => exact ⟨lo, lo, Nat.le_refl _, hlh, (fun q hq => by cases hq), fun u _ q _ => by omega⟩
  | some b =>
    have := h b e
    exact ⟨b, b + 1, this.1, by omega, (fun q hq => by cases hq; omega), fun u ha q hq => by have := ha b q e hq; omega⟩
theorem OwnB.outs {w w' : World} {B l m : Nat} {v : Value} {xs : List Bool} (h : OwnB w B v xs) (ho : Out l m w w') (hq : ∀ q, v.ownBlock = Option.some q → q < l ∨ m ≤ q) : OwnB w' B v xs :=
  h.block fun k hk => ho.block k (h.lt k hk).2 (hq k hk)
set_option maxHeartbeats 2000000 in
theorem markCalls_c (a1 : Option Addr) (n1 k1 : Nat) (a2 : Option Addr) (n2 k2 : Nat) (a3 : Option Addr) (n3 k3 : Nat) (k : Nat) (x : Cs) (lo hi : Nat) (w : World) (hO : OwnC w lo hi (.slice a1 n1 k1) (.slice a2 n2 k2) (.slice a3 n3 k3) x) (hk : k ≤ 10) (m1 : n1 + n2 + n3 ≤ 1048576) :
    Calls Try.prog 39 #[(.agg #[.slice a1 n1 k1, .slice a2 n2 k2, .slice a3 n3 k3]), .int .i64 k] w fun e w' => e = .returned (.int .i64 ((k + n1 + n2 + n3 : Nat) : Int)) ∧ OwnC w' lo hi (.slice a1 n1 k1) (.slice a2 n2 k2) (.slice a3 n3 k3) (mkC k n1 n2 n3) ∧ Out lo hi w w' := by
  obtain ⟨l1, l2, l3⟩ := (⟨(OwnC.cal hO).1.1, (OwnC.cal hO).2.1.1, (OwnC.cal hO).2.2.1⟩ : x.u.length = n1 ∧ x.d.length = n2 ∧ x.c.length = n3)
  obtain ⟨g, hg⟩ : ∃ g, w.heap.size = g := ⟨_, rfl⟩
  have HG := Lib.hid hg
  have B0 := Lib.hid (show Bx (w.alloc (.cells #[.slice a1 n1 k1, .slice a2 n2 k2, .slice a3 n3 k3] 36)) g (.slice a1 n1 k1) (.slice a2 n2 k2) (.slice a3 n3 k3) from by rw [← hg]; exact Bx.new _ _ _ _ _)
  have hO0 := OwnC.below hO ((Below.refl _ _).alloc (Nat.le_refl _) (.cells #[.slice a1 n1 k1, .slice a2 n2 k2, .slice a3 n3 k3] 36))
  have hgh : hi ≤ g := by rw [← hg]; exact hO.2.2.1
  have S0 := Lib.hid (Out.mk' (lo := lo) (hi := hi) ((Below.refl w.heap.size w).alloc (Nat.le_refl _) (.cells #[.slice a1 n1 k1, .slice a2 n2 k2, .slice a3 n3 k3] 36)))
  obtain ⟨⟨o1, o2, o3⟩, ⟨a12, a13, a23⟩, hsz, hlh, hup⟩ := hO0
  have in1 : ∀ q, (Value.slice a1 n1 k1).ownBlock = Option.some q → lo ≤ q ∧ q < hi := fun q hq => ⟨(o1.lt q hq).1, hup q (.inl hq)⟩
  have in2 : ∀ q, (Value.slice a2 n2 k2).ownBlock = Option.some q → lo ≤ q ∧ q < hi := fun q hq => ⟨(o2.lt q hq).1, hup q (.inr (.inl hq))⟩
  have in3 : ∀ q, (Value.slice a3 n3 k3).ownBlock = Option.some q → lo ≤ q ∧ q < hi := fun q hq => ⟨(o3.lt q hq).1, hup q (.inr (.inr hq))⟩
  obtain ⟨r1, s1, x1, y1, z1, t1⟩ := range_of in1 hlh
  obtain ⟨r2, s2, x2, y2, z2, t2⟩ := range_of in2 hlh
  obtain ⟨r3, s3, x3, y3, z3, t3⟩ := range_of in3 hlh
  have O1 := Lib.hid o1
  have O2 := Lib.hid o2
  have O3 := Lib.hid o3
  have HAP := Lib.hid (And.intro a12 (And.intro a13 a23))
  have HUP := Lib.hid hup
  have Z1 := Lib.hid z1
  have Z2 := Lib.hid z2
  have Z3 := Lib.hid z3
  have U1 := Lib.hid t1
  have U2 := Lib.hid t2
  have U3 := Lib.hid t3
  have HS := Lib.hid hsz
  have L1 := Lib.hid l1
  have L2 := Lib.hid l2
  have L3 := Lib.hid l3
  clear hO o1 o2 o3 a12 a13 a23 hup in1 in2 in3 z1 z2 z3 t1 t2 t3 hsz l1 l2 l3
  go_enter Try.func39, Try.ntmps39
  obtain ⟨⟨c0, c1, c2⟩, -⟩ := B0.out
  go_wp2_with fail
  clear c0 c1 c2 hg
  generalize w.alloc (.cells #[.slice a1 n1 k1, .slice a2 n2 k2, .slice a3 n3 k3] 36) = W at *
  refine (markBoolS_c a1 n1 k1 k x.u lo r1 s1 W O1.out L1.out (by omega) (by omega) Z1.out).mono ?_
  rintro e w1 ⟨rfl, p1, ho⟩
  have P1 := Lib.hid p1
  have P2 := Lib.hid (OwnB.outs O2.out ho (U1.out _ HAP.out.1))
  have P3 := Lib.hid (OwnB.outs O3.out ho (U1.out _ HAP.out.2.1))
  have B1 := Lib.hid (Bx.out B0.out ho (.inr (by omega)))
  have S1 := Lib.hid (Out.trans S0.out (Out.wide ho x1 y1))
  clear p1 ho O1 O2 O3 B0 S0
  obtain ⟨j1, hj1⟩ : ∃ j, k + n1 = j := ⟨_, rfl⟩
  have J1 := Lib.hid hj1
  have jb1 : j1 ≤ 2000000 := by omega
  rw [hj1]
  clear hj1
  obtain ⟨⟨c0, c1, c2⟩, -⟩ := B1.out
  go_wp2_with fail
  clear c0 c1 c2
  refine (markBoolS_c a2 n2 k2 j1 x.d lo r2 s2 w1 P2.out L2.out jb1 (by omega) Z2.out).mono ?_
  rintro e w2 ⟨rfl, p2, ho⟩
  have Q1 := Lib.hid (OwnB.outs P1.out ho (U2.out _ (Apart.symm HAP.out.1)))
  have Q2 := Lib.hid p2
  have Q3 := Lib.hid (OwnB.outs P3.out ho (U2.out _ HAP.out.2.2))
  have B2 := Lib.hid (Bx.out B1.out ho (.inr (by omega)))
  have S2 := Lib.hid (Out.trans S1.out (Out.wide ho x2 y2))
  clear p2 ho P1 P2 P3 B1 S1
  obtain ⟨j2, hj2⟩ : ∃ j, j1 + n2 = j := ⟨_, rfl⟩
  have J2 := Lib.hid hj2
  have jb2 : j2 ≤ 2000000 := by have := J1.out; omega
  rw [hj2]
  clear hj2
  obtain ⟨⟨c0, c1, c2⟩, -⟩ := B2.out
  go_wp2_with fail
  clear c0 c1 c2
  refine (markBoolS_c a3 n3 k3 j2 x.c lo r3 s3 w2 Q3.out L3.out jb2 (by omega) Z3.out).mono ?_
  rintro e w3 ⟨rfl, p3, ho⟩
  have N1 := Lib.hid (OwnB.outs Q1.out ho (U3.out _ (Apart.symm HAP.out.2.1)))
  have N2 := Lib.hid (OwnB.outs Q2.out ho (U3.out _ (Apart.symm HAP.out.2.2)))
  have N3 := Lib.hid p3
  have S3 := Lib.hid (Out.trans S2.out (Out.wide ho x3 y3))
  have HZ := Lib.hid (show hi ≤ w3.heap.size from by have := S3.out.size; have := HG.out; omega)
  clear p3 ho Q1 Q2 Q3 B2 S2
  go_wp2_with fail
  go_ret
  refine ⟨by rw [← J2.out, ← J1.out]; rfl, ⟨⟨N1.out, ?_, ?_⟩, HAP.out, HZ.out, hlh, HUP.out⟩, S3.out⟩
  · show OwnB w3 lo _ (mk (k + n1) n2)
    rw [J1.out]; exact N2.out
  · show OwnB w3 lo _ (mk (k + n1 + n2) n3)
    rw [J1.out, J2.out]; exact N3.out
set_option maxHeartbeats 1000000 in
theorem heldCalls_c (a1 : Option Addr) (n1 k1 : Nat) (a2 : Option Addr) (n2 k2 : Nat) (a3 : Option Addr) (n3 k3 : Nat) (k : Nat) (w : World) (hX : Cal w a1 n1 a2 n2 a3 n3 (mkC k n1 n2 n3)) (hk : k ≤ 10) (m1 : n1 + n2 + n3 ≤ 1048576) : Calls Try.prog 40 #[(.agg #[.slice a1 n1 k1, .slice a2 n2 k2, .slice a3 n3 k3]), .int .i64 k] w (Mk w (.int .i64 ((k + n1 + n2 + n3 : Nat) : Int))) := by
  have X := Lib.hid (Cal.al hX (.cells #[.slice a1 n1 k1, .slice a2 n2 k2, .slice a3 n3 k3] 36))
  obtain ⟨⟨c0, c1, c2⟩, -⟩ := Bx.new w (.slice a1 n1 k1) (.slice a2 n2 k2) (.slice a3 n3 k3) 36
  have HB := Lib.hid (Below.al (Below.refl w.heap.size w) (.cells #[.slice a1 n1 k1, .slice a2 n2 k2, .slice a3 n3 k3] 36))
  clear hX
  obtain ⟨j1, hj1⟩ : ∃ j, k + n1 = j := ⟨_, rfl⟩
  obtain ⟨j2, hj2⟩ : ∃ j, j1 + n2 = j := ⟨_, rfl⟩
  obtain ⟨j3, hj3⟩ : ∃ j, j2 + n3 = j := ⟨_, rfl⟩
  have K1 := heldBoolS_c a1 n1 k1 k (w.alloc (.cells #[.slice a1 n1 k1, .slice a2 n2 k2, .slice a3 n3 k3] 36)) X.out.1 (by omega) (by omega)
  have K2 := heldBoolS_c a2 n2 k2 j1 (w.alloc (.cells #[.slice a1 n1 k1, .slice a2 n2 k2, .slice a3 n3 k3] 36)) (by rw [← hj1]; exact X.out.2.1) (by omega) (by omega)
  have K3 := heldBoolS_c a3 n3 k3 j2 (w.alloc (.cells #[.slice a1 n1 k1, .slice a2 n2 k2, .slice a3 n3 k3] 36)) (by rw [← hj2, ← hj1]; exact X.out.2.2) (by omega) (by omega)
  rw [hj1] at K1
  rw [hj2] at K2
  rw [hj3] at K3
  have H1 := Lib.hid K1
  have H2 := Lib.hid K2
  have H3 := Lib.hid K3
  have E := Lib.hid (show k + n1 + n2 + n3 = j3 from by omega)
  have g1 : ¬ (j1 : Int) < 0 := by omega
  have g2 : ¬ (j2 : Int) < 0 := by omega
  have g3 : ¬ (j3 : Int) < 0 := by omega
  clear K1 K2 K3 hj1 hj2 hj3
  go_enter Try.func40, Try.ntmps40
  go_wp2_with fail
  refine H1.out.mono ?_
  rintro e w1 ⟨rfl, rfl⟩
  go_wp2_with fail
  refine H2.out.mono ?_
  rintro e w1 ⟨rfl, rfl⟩
  go_wp2_with fail
  refine H3.out.mono ?_
  rintro e w1 ⟨rfl, rfl⟩
  go_wp2_with fail
  go_ret
  exact Mk.i (by rw [E.out]) HB.out
end Go.Proofs.Ytfhhgddajmihjaa
