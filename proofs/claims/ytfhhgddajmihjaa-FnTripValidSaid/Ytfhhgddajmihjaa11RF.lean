/- The law of TripValid: the walk. -/
import Derived.Test.Ytfhhgddajmihjaa11MC
import Derived.Test.Ytfhhgddajmihjaa11MB
import Derived.Test.Ytfhhgddajmihjaa11MA
import Derived.Test.YtfhhgddajmihjaaQT
namespace Go.Proofs.Ytfhhgddajmihjaa
open Go.RowKit
set_option linter.unusedVariables false
set_option linter.unusedSimpArgs false
set_option maxRecDepth 100000


theorem obsG_of {P : Program} {ops : Array Oper} {I : (Nat → Bool) → (Nat → Value) → World → Prop} : ∀ (l : List Oper) (i : Nat), (l.all fun o => o.guard.isNone) = true → ObsV P I i l → ObsG P ops I i l
  | [], _, _, _ => trivial
  | o :: l, i, hg, h => by
    rw [List.all_cons, Bool.and_eq_true] at hg
    refine ⟨fun ln vs w hn ha hI => ⟨fun _ => h.1 ln vs w hn ha hI, fun hw => ?_⟩, obsG_of l (i + 1) hg.2 h.2⟩
    have e : o.guard = none := by simpa using hg.1
    rw [e] at hw
    cases hw
/-- As wp_region_inv, where a variable is looked at and assigned to as well. -/
theorem wp_region_inve {P : Program} {id : Nat} {Q : Exit → Act → World → Prop} {zs : List Value} {df : List Deferred} {w : World} {l : List Oper} (I : (Nat → Bool) → (Nat → Value) → World → Prop) (ds : List Nat)
    (hds : l.filterMap (·.dst) = ds) (hm : P.follows .mixedOrders = true) (hB : edgesB l.toArray = true) (hG : guardsB l.toArray = true) (hgn : (l.all fun o => o.guard.isNone) = true) (hd : l.all (dstOk zs.length) = true)
    (h0 : I (fun _ => false) (slots { tmps := zs.toArray, defers := df }) { w with drawn := w.drawn + 1 })
    (ho : ObsV P I 0 l)
    (hQ : ∀ (vs : Nat → Value) (w' : World), I (fun i => decide (i < l.length)) vs w' → Q .normal { tmps := (over ds vs 0 zs).toArray, defers := df } w') : (Code.region id l.toArray true).wp P Q { tmps := zs.toArray, defers := df } w :=
  wp_region_invg I ds hds hm hB hG hd h0 (obsG_of l 0 hgn ho) hQ
theorem Rid.gr {w w' : World} {row : Option Nat} {a : Option Addr} {n : Nat} {l : List Ri} (h : Rid w a n l) (k : w.grownBy w' row) (hr : ∀ i, row = Option.some i → ∀ b o sp, a = Option.some ⟨b, o, sp⟩ → b < i) : Rid w' a n l := by
  obtain ⟨⟨h1, h2⟩, h3⟩ := h
  refine ⟨⟨h1, ?_⟩, h3⟩
  rcases h2 with h2 | ⟨b, off, e, h2⟩
  · exact .inl h2
  · exact .inr ⟨b, off, e, Ints.gr h2 k (fun i hi _ => hr i hi b off _ e)⟩
theorem Rid.lt {w : World} {b o n : Nat} {l : List Ri} (h : Rid w (Option.some ⟨b, o, Option.none⟩) n l) (hn : 0 < n) : b < w.heap.size := World.block_lt_of_cell? w _ (Rid.three h hn).1
/-- append of one rider onto riders of the call's own. -/
theorem run_append_rider9 {w : World} {ty0 : TypeId} {B H : Nat} {n : Nat} {l : List Ri} {x y s : Int} {v : Value} (hown : OwnR 32 3 w B v n (rfl3 l)) (hc : Ints w H 0 [x, y, s]) (hn : n ≤ 100) (hB : B ≤ w.heap.size) :
    ∃ v' w', (Builtin.append_ #[25, 25] ty0 #[v, .slice (some ⟨H, 0, none⟩) 1 1]).run Try.prog w = .ok v' w' ∧ OwnR 32 3 w' B v' (n + 1) (rfl3 (l ++ [⟨x, y, s⟩])) ∧ w.grownBy w' v.ownBlock := by
  obtain ⟨i0, hi, hz0, hz1, hz2⟩ := info_rider
  obtain ⟨v', w', hrun, r1, r2, r3, _⟩ := run_append_own_at (P := Try.prog) w B 25 ty0 32 i0 (.agg #[.int .i64 0, .int .i64 0, .int .i64 0]) 3 24 Try.underlying25 hi hz0 hz1 hz2 rfl (by decide) v n ((rfl3 l).map (Value.int .i64)) hown ⟨H, 0, none⟩ 1 1 ([x, y, s].map (Value.int .i64)) rfl (fun j u hu => Ints.cells hc j u hu) (fun u hu => by simp at hu; rcases hu with rfl | rfl | rfl <;> rfl) (by unfold maxLen; omega) (by omega) hB
  refine ⟨v', w', hrun, ?_, r2⟩
  unfold OwnR
  rw [rfl3_app]
  simpa [rfl3] using r1
/-- All riders done. -/
def dn2 (r : Ri) : Ri := ⟨r.a, r.b, 2⟩
theorem tok_done {t : Tp} (h : TOk t) : TOk ⟨t.n, t.m, t.f, t.d, t.rs.map dn2⟩ ∧ TOk ⟨t.n, t.m, t.f, t.d, []⟩ ∧ ¬ TOk ⟨t.n, t.m, t.f, t.d, t.rs ++ [⟨0, 0, 0⟩]⟩ := by
  have hm := h.2.1
  refine ⟨⟨h.1, hm, h.2.2.1, h.2.2.2.1, by show (t.rs.map dn2).length ≤ 8; rw [List.length_map]; exact h.2.2.2.2.1, fun q hq => ?_, ?_⟩, ⟨h.1, hm, h.2.2.1, h.2.2.2.1, by show (0 : Nat) ≤ 8; omega, fun q hq => (by cases hq), by show (ins [] : Int) ≤ t.m; have := hm.1; simp [ins]; omega⟩, fun g => ?_⟩
  · obtain ⟨r, hr, rfl⟩ := List.mem_map.1 (show q ∈ t.rs.map dn2 from hq)
    obtain ⟨h1, h2, h3, h4, h5⟩ := h.2.2.2.2.2.1 r hr
    exact ⟨h1, h2, h3, ⟨by show (0 : Int) ≤ 2; omega, by show (2 : Int) ≤ 2; omega⟩, fun e => by have : (2 : Int) = 1 := e; omega⟩
  · have e : ∀ l : List Ri, ins (l.map dn2) = 0 := by
      intro l
      induction l with
      | nil => rfl
      | cons r l ih => simp only [List.map_cons, ins, ih]; rfl
    show (ins (t.rs.map dn2) : Int) ≤ t.m
    rw [e]
    have := hm.1
    simp
    omega
  · have := (g.2.2.2.2.2.1 ⟨0, 0, 0⟩ (by show (⟨0, 0, 0⟩ : Ri) ∈ t.rs ++ [⟨0, 0, 0⟩]; simp)).2.2.1
    exact this rfl
def dnl (l : List Ri) (i : Nat) : List Ri := (l.take i).map dn2
theorem dnl_next {l : List Ri} {i : Nat} (h : i < l.length) : dnl l (i + 1) = dnl l i ++ [⟨(rat l i).a, (rat l i).b, 2⟩] := by
  unfold dnl; rw [rat_take h, List.map_append]; rfl
def EO (S i : Nat) (L : List Ri) (v : Value) (w : World) : Prop := OwnR 32 3 w S v (i + 1) (rfl3 L)
def E9 (v : Value) (x z : Int) (w : World) : Prop := ∃ H : Nat, v = .slice (some ⟨H, 0, none⟩) 1 1 ∧ Ints w H 0 [x, z, 2]
/-- The region that appends a rider who is done. -/
structure RTV (W : World) (S h i k cv bq off : Nat) (N m f d x z : Int) (v0 : Value) (l L : List Ri) (ln : Nat → Bool) (vs : Nat → Value) (w : World) : Prop where
  bel : Below W.heap.size W w
  sz : S ≤ w.heap.size
  xr : Rid w (some ⟨bq, off, none⟩) k l
  tb : BoxV w h [.int .i64 N, .int .i64 m, .int .i64 f, .int .i64 d, .slice (some ⟨bq, off, none⟩) k cv]
  s3 : vs 3 = .pointer (some ⟨h, 0, none⟩)
  s6 : vs 6 = .int .i64 i
  s5 : ln 16 = false → vs 5 = v0
  e0 : ln 0 = true → vs 35 = v0
  e1 : ln 1 = true → vs 36 = .pointer (some ⟨h, 4, none⟩)
  e2 : ln 2 = true → vs 37 = .slice (some ⟨bq, off, none⟩) k cv
  e3 : ln 3 = true → vs 38 = .int .i64 i
  e4 : ln 4 = true → vs 39 = .pointer (some ⟨bq, off + i * 3, none⟩)
  e5 : ln 5 = true → vs 40 = .pointer (some ⟨bq, off + i * 3, none⟩)
  e6 : ln 6 = true → vs 41 = .int .i64 x
  e7 : ln 7 = true → vs 42 = .pointer (some ⟨h, 4, none⟩)
  e8 : ln 8 = true → vs 43 = .slice (some ⟨bq, off, none⟩) k cv
  e9 : ln 9 = true → vs 44 = .int .i64 i
  e10 : ln 10 = true → vs 45 = .pointer (some ⟨bq, off + i * 3, none⟩)
  e11 : ln 11 = true → vs 46 = .pointer (some ⟨bq, off + i * 3 + 1, none⟩)
  e12 : ln 12 = true → vs 47 = .int .i64 z
  e13 : ln 13 = true → vs 48 = .agg #[.int .i64 x, .int .i64 z, .int .i64 2]
  e14 : ln 14 = true → ln 15 = false → E9 (vs 49) x z w
  e15 : ln 15 = true → EO S i (L ++ [⟨x, z, 2⟩]) (vs 50) w
  o0 : ln 15 = false → OwnR 32 3 w S v0 i (rfl3 L)
  e16 : ln 16 = true → EO S i (L ++ [⟨x, z, 2⟩]) (vs 5) w
  c16 : ln 16 = true → ln 0 = true ∧ ln 15 = true
set_option maxRecDepth 100000 in
set_option maxHeartbeats 16000000 in
theorem TripValid_w (a : Option Addr) (n cap : Nat) (w : World) (hb : Byt w a n) (hn : n ≤ cap) (hcap : cap ≤ maxLen) :
    Calls Try.prog 3 #[.slice a n cap] w (LawOk w) := by
  have hcap' := hcap
  unfold maxLen at hcap'
  by_cases bign : 1048576 < n
  · go_enter Try.func3, Try.ntmps3
    go_wp2_with fail
    go_ret
    exact LawOk.mk (Below.refl _ _)
  go_enter Try.func3, Try.ntmps3
  go_wp2_with fail
  refine Calls.mono (DrawTripValid_c a n cap _ hb hn hcap) ?_
  rintro e wn ⟨N, m, f, d, av, k, cv, l, rfl, hX, hk, hB⟩
  have T := Lib.hid hB
  have X := Lib.hid hX
  have HL := Lib.hid hX.2
  clear hB hX hb
  obtain ⟨h, hg⟩ : ∃ g, Array.size (World.heap wn) = g := ⟨_, rfl⟩
  have HGh := Lib.hid hg
  have hTh : w.heap.size ≤ h := by rw [← hg]; exact T.out.size
  have Tn := Lib.hid (show Below w.heap.size w (wn.alloc (.cells #[.int .i64 N, .int .i64 m, .int .i64 f, .int .i64 d, .slice av k cv] 27)) from (Below.al T.out (.cells #[.int .i64 N, .int .i64 m, .int .i64 f, .int .i64 d, .slice av k cv] 27)))
  have Xn := Lib.hid (Rid.below X.out (show Below wn.heap.size wn (wn.alloc (.cells #[.int .i64 N, .int .i64 m, .int .i64 f, .int .i64 d, .slice av k cv] 27)) from (Below.al (Below.refl _ _) (.cells #[.int .i64 N, .int .i64 m, .int .i64 f, .int .i64 d, .slice av k cv] 27))))
  have TB := Lib.hid (show BoxV (wn.alloc (.cells #[.int .i64 N, .int .i64 m, .int .i64 f, .int .i64 d, .slice av k cv] 27)) h [.int .i64 N, .int .i64 m, .int .i64 f, .int .i64 d, .slice av k cv] from by have h9 := (BoxV.new wn [.int .i64 N, .int .i64 m, .int .i64 f, .int .i64 d, .slice av k cv] 27 (by simp) rfl); simp only [World.size_alloc, hg, Nat.add_assoc, Nat.reduceAdd] at h9; exact h9)
  have HZh := Lib.hid (show ((wn.alloc (.cells #[.int .i64 N, .int .i64 m, .int .i64 f, .int .i64 d, .slice av k cv] 27))).heap.size = h + 1 from by simp only [World.size_alloc, hg, Nat.add_assoc, Nat.reduceAdd])
  clear hg
  clear T X
  have T := Tn
  have X := Xn
  clear Tn Xn
  have KI := fun w' (h : Rid w' av k l) => iTripValid_c N m f d av k cv l w' h (by omega)
  have KS := fun w' (h : Rid w' av k l) => sTripValid_c N m f d av k cv l w' h (by omega)
  by_cases ht : TOk ⟨N, m, f, d, l⟩
  case neg =>
    have KZ := fun (w' : World) => iTripValid_c 0 0 0 0 none 0 0 [] w' ⟨⟨rfl, .inl rfl⟩, rfl⟩ (by omega)
    rw [tokB_f (fun g => by have := g.1.1; simp only at this; omega)] at KZ
    rw [tokB_f ht] at KI KS
    have HKI := Lib.hid KI
    have HKS := Lib.hid KS
    have HKZ := Lib.hid KZ
    clear KI KS KZ ht
    have c0 := (TB.out.2 0 _ rfl).1
    have c1 := (TB.out.2 1 _ rfl).1
    have c2 := (TB.out.2 2 _ rfl).1
    have c3 := (TB.out.2 3 _ rfl).1
    have c4 := (TB.out.2 4 _ rfl).1
    go_wp2_with fail
    rw [HGh.out]
    refine Calls.mono (HKI.out _ X.out) ?_
    intro e wn hh
    obtain ⟨he, hb⟩ := (by first | exact hh | exact Ro.mk hh | exact St.mk hh | exact LawOk.mk' hh : Mk _ _ e wn)
    subst he
    have Tn : Hid (Below w.heap.size w wn) := below_next T.out hb
    have Xn : Hid _ := Rid.below X.out hb
    have TBn : Hid _ := BoxV.below TB.out hb
    clear hb hh c0 c1 c2 c3 c4
    clear T X TB
    have T := Tn
    have X := Xn
    have TB := TBn
    clear Tn Xn TBn
    have c0 := (TB.out.2 0 _ rfl).1
    have c1 := (TB.out.2 1 _ rfl).1
    have c2 := (TB.out.2 2 _ rfl).1
    have c3 := (TB.out.2 3 _ rfl).1
    have c4 := (TB.out.2 4 _ rfl).1
    go_wp2_with fail
    refine Calls.mono (HKS.out _ X.out) ?_
    intro e wn hh
    obtain ⟨he, hb⟩ := (by first | exact hh | exact Ro.mk hh | exact St.mk hh | exact LawOk.mk' hh : Mk _ _ e wn)
    subst he
    have Tn : Hid (Below w.heap.size w wn) := below_next T.out hb
    have Xn : Hid _ := Rid.below X.out hb
    have TBn : Hid _ := BoxV.below TB.out hb
    clear hb hh c0 c1 c2 c3 c4
    clear T X TB
    have T := Tn
    have X := Xn
    have TB := TBn
    clear Tn Xn TBn
    go_wp2_with fail
    refine Calls.mono (HKZ.out _) ?_
    intro e wn hh
    obtain ⟨he, hb⟩ := (by first | exact hh | exact Ro.mk hh | exact St.mk hh | exact LawOk.mk' hh : Mk _ _ e wn)
    subst he
    have Tn : Hid (Below w.heap.size w wn) := below_next T.out hb
    have Xn : Hid _ := Rid.below X.out hb
    have TBn : Hid _ := BoxV.below TB.out hb
    clear hb hh
    clear T X TB
    have T := Tn
    have X := Xn
    have TB := TBn
    clear Tn Xn TBn
    go_wp2_with fail
    refine Calls.mono (alive_c _) ?_
    intro e wn hh
    obtain ⟨he, hb⟩ := (by first | exact hh | exact Ro.mk hh | exact St.mk hh | exact LawOk.mk' hh : Mk _ _ e wn)
    subst he
    have Tn : Hid (Below w.heap.size w wn) := below_next T.out hb
    have Xn : Hid _ := Rid.below X.out hb
    have TBn : Hid _ := BoxV.below TB.out hb
    clear hb hh
    clear T X TB
    have T := Tn
    have X := Xn
    have TB := TBn
    clear Tn Xn TBn
    go_wp2_with fail
    go_ret
    first | exact LawOk.mk T.out | exact LawOk.mk (Below.dr T.out _)
  obtain ⟨g1, g2, g3⟩ := tok_done ht
  have hlk : l.length = k := HL.out
  have K1 := fun (w' : World) (a' : Option Addr) (c' : Nat) (h : Rid w' a' k (l.map dn2)) => iTripValid_c N m f d a' k c' (l.map dn2) w' h (by omega)
  have K2 := fun (w' : World) => iTripValid_c N m f d none 0 0 [] w' ⟨⟨rfl, .inl rfl⟩, rfl⟩ (by omega)
  have K3 := fun (w' : World) (a' : Option Addr) (c' : Nat) (h : Rid w' a' (k + 1) (l ++ [⟨0, 0, 0⟩])) => iTripValid_c N m f d a' (k + 1) c' (l ++ [⟨0, 0, 0⟩]) w' h (by omega)
  rw [tokB_t g1] at K1
  rw [tokB_t g2] at K2
  rw [tokB_f g3] at K3
  rw [tokB_t ht] at KI KS
  have HKI := Lib.hid KI
  have HKS := Lib.hid KS
  have HK1 := Lib.hid K1
  have HK2 := Lib.hid K2
  have HK3 := Lib.hid K3
  clear KI KS K1 K2 K3 ht g1 g2 g3 hlk
  have c0 := (TB.out.2 0 _ rfl).1
  have c1 := (TB.out.2 1 _ rfl).1
  have c2 := (TB.out.2 2 _ rfl).1
  have c3 := (TB.out.2 3 _ rfl).1
  have c4 := (TB.out.2 4 _ rfl).1
  go_wp2_with fail
  rw [HGh.out]
  refine Calls.mono (HKI.out _ X.out) ?_
  intro e wn hh
  obtain ⟨he, hb⟩ := (by first | exact hh | exact Ro.mk hh | exact St.mk hh | exact LawOk.mk' hh : Mk _ _ e wn)
  subst he
  have Tn : Hid (Below w.heap.size w wn) := below_next T.out hb
  have Xn : Hid _ := Rid.below X.out hb
  have TBn : Hid _ := BoxV.below TB.out hb
  clear hb hh c0 c1 c2 c3 c4
  clear T X TB
  have T := Tn
  have X := Xn
  have TB := TBn
  clear Tn Xn TBn
  have c0 := (TB.out.2 0 _ rfl).1
  have c1 := (TB.out.2 1 _ rfl).1
  have c2 := (TB.out.2 2 _ rfl).1
  have c3 := (TB.out.2 3 _ rfl).1
  have c4 := (TB.out.2 4 _ rfl).1
  go_wp2_with fail
  refine Calls.mono (HKS.out _ X.out) ?_
  intro e wn hh
  obtain ⟨he, hb⟩ := (by first | exact hh | exact Ro.mk hh | exact St.mk hh | exact LawOk.mk' hh : Mk _ _ e wn)
  subst he
  have Tn : Hid (Below w.heap.size w wn) := below_next T.out hb
  have Xn : Hid _ := Rid.below X.out hb
  have TBn : Hid _ := BoxV.below TB.out hb
  clear hb hh c0 c1 c2 c3 c4
  clear T X TB
  have T := Tn
  have X := Xn
  have TB := TBn
  clear Tn Xn TBn
  clear HKI HKS
  go_upto_region 9 with fail
  obtain ⟨S, hS⟩ : ∃ S, wn.heap.size = S := ⟨_, rfl⟩
  have hhS : h < S := by rw [← hS]; exact BoxV.lt TB.out
  have hwS : w.heap.size ≤ S := by rw [← hS]; exact T.out.size
  have HXS := Lib.hid (show ∀ b o, 0 < k → av = some ⟨b, o, none⟩ → b < S from fun b o h0 e => by subst e; rw [← hS]; exact Rid.lt X.out h0)
  have D1 := Lib.hid (show OwnR 32 3 (wn.alloc (.cells #[] 32)) S (.slice (some ⟨S, 0, none⟩) 0 0) 0 (rfl3 []) from by
    have h9 := OwnR.none0 (E := 32) (k := 3) (w := wn); rw [hS] at h9; exact h9)
  have T1 := Lib.hid (Below.al T.out (.cells #[] 32))
  have X1 := Lib.hid (Rid.below X.out ((Below.refl _ _).alloc (Nat.le_refl _) (.cells #[] 32)))
  have TB1 := Lib.hid (BoxV.al TB.out (.cells #[] 32))
  have hs1 : S ≤ (wn.alloc (.cells #[] 32)).heap.size := by rw [World.size_alloc, hS]; omega
  have HS1 := Lib.hid hs1
  go_upto_region 10 with fail
  clear T X TB hS hs1
  generalize wn.alloc (.cells #[] 32) = w0 at *
  obtain ⟨wn, hwq⟩ : ∃ w9 : World, w9 = w0 := ⟨_, rfl⟩
  subst hwq
  have T := T1
  have X := X1
  have TB := TB1
  have D := Lib.hid (show OwnR 32 3 wn S (.slice (some ⟨S, 0, none⟩) 0 0) 0 (rfl3 (dnl l 0)) from D1.out)
  have hszS := HS1.out
  have HZS := Lib.hid hszS
  clear T1 X1 TB1 D1 HS1 hszS
  go_wp2_with fail
  go_loopw [5, 6] (fun u v wr => ∃ (i : Nat) (aD : Option Addr) (cD : Nat), i ≤ k ∧ u = .slice aD i cD ∧ v = .int .i64 i ∧ OwnR 32 3 wr S (.slice aD i cD) i (rfl3 (dnl l i)) ∧ S ≤ wr.heap.size ∧ Below w.heap.size w wr ∧ Rid wr av k l ∧ BoxV wr h [.int .i64 N, .int .i64 m, .int .i64 f, .int .i64 d, .slice av k cv]) (fun u v _ => k - (intOf v).toNat)
  case atStart => exact ⟨0, some ⟨S, 0, none⟩, 0, by omega, rfl, rfl, D.out, HZS.out, T.out, X.out, TB.out⟩
  case round =>
    clear T X TB D HZS
    obtain ⟨i, aD, cD, hi, rfl, rfl, hD, hszS, hT, hX, hTB⟩ := hrel
    obtain ⟨wn, hwq⟩ : ∃ w0 : World, w0 = wr := ⟨_, rfl⟩
    rw [← hwq] at hD hT hX hTB hszS ⊢
    clear hwq
    have D := Lib.hid hD
    have T := Lib.hid hT
    have X := Lib.hid hX
    have TB := Lib.hid hTB
    clear hD hT hX hTB
    by_cases hlt : i < k
    case pos =>
      obtain ⟨bq, off, rfl⟩ := Rid.some X.out (by omega)
      have hbS : bq < S := HXS.out bq off (by omega) rfl
      have hii : (i : Int) < k := by omega
      have hnx := dnl_next (l := l) (i := i) (by have h9 : l.length = k := HL.out; omega)
      obtain ⟨⟨x, z, s⟩, hr⟩ : ∃ r, rat l i = r := ⟨_, rfl⟩
      rw [hr] at hnx
      have hrr := Lib.hid hr
      obtain ⟨LL, hLL⟩ : ∃ LL, dnl l i = LL := ⟨_, rfl⟩
      rw [hLL] at hnx D
      have HNX := Lib.hid hnx
      clear hr hnx hLL
      have c0 := (TB.out.2 0 _ rfl).1
      have c1 := (TB.out.2 1 _ rfl).1
      have c2 := (TB.out.2 2 _ rfl).1
      have c3 := (TB.out.2 3 _ rfl).1
      have c4 := (TB.out.2 4 _ rfl).1
      go_wp2_with fail
      clear c0 c1 c2 c3 c4

      refine wp_region_inve (fun ln vs wx => RTV w S h i k cv bq off N m f d x z (.slice aD i cD) l LL ln vs wx) [35, 36, 37, 38, 39, 40, 41, 42, 43, 44, 45, 46, 47, 48, 49, 50, 5]
        (by kernel_rfl) (by kernel_rfl) (by kernel_rfl) (by kernel_rfl) (by kernel_rfl) (by kernel_rfl) ?h013 ?hobs13 ?_
      case h013 => exact { bel := Below.dw T.out, sz := hszS, xr := X.out, tb := BoxV.dw TB.out, s3 := rfl, s6 := rfl, s5 := fun _ => rfl, e0 := fun hh => (by cases hh), e1 := fun hh => (by cases hh), e2 := fun hh => (by cases hh), e3 := fun hh => (by cases hh), e4 := fun hh => (by cases hh), e5 := fun hh => (by cases hh), e6 := fun hh => (by cases hh), e7 := fun hh => (by cases hh), e8 := fun hh => (by cases hh), e9 := fun hh => (by cases hh), e10 := fun hh => (by cases hh), e11 := fun hh => (by cases hh), e12 := fun hh => (by cases hh), e13 := fun hh => (by cases hh), e14 := fun hh => (by cases hh), e15 := fun hh => (by cases hh), o0 := fun _ => D.out, e16 := fun hh => (by cases hh), c16 := fun hh => (by cases hh) }
      case hobs13 =>
        refine ⟨?_, ?_, ?_, ?_, ?_, ?_, ?_, ?_, ?_, ?_, ?_, ?_, ?_, ?_, ?_, ?_, ?_, trivial⟩
        · intro ln vs wx hn ha g
          have n16 : ln 16 = false := by
            cases e : ln 16
            · rfl
            · have := (g.c16 e).1; rw [hn] at this; cases this
          have w5 := g.s5 n16
          have HH := Lib.hid g
          clear g ha
          go_simp
          simp only [evOf_tmp, evOf_const, w5]
          go_simp
          have g := HH.out
          exact { bel := g.bel, sz := g.sz, xr := g.xr, tb := g.tb, s3 := g.s3, s6 := g.s6, s5 := g.s5, e0 := fun _ => rfl, e1 := g.e1, e2 := g.e2, e3 := g.e3, e4 := g.e4, e5 := g.e5, e6 := g.e6, e7 := g.e7, e8 := g.e8, e9 := g.e9, e10 := g.e10, e11 := g.e11, e12 := g.e12, e13 := g.e13, e14 := g.e14, e15 := g.e15, o0 := g.o0, e16 := g.e16, c16 := fun h9 => ⟨rfl, (g.c16 h9).2⟩ }
        · intro ln vs wx hn ha g
          have w3 := g.s3
          have HH := Lib.hid g
          clear g ha
          go_simp
          simp only [evOf_tmp, evOf_const, w3]
          go_simp
          have g := HH.out
          exact { bel := g.bel, sz := g.sz, xr := g.xr, tb := g.tb, s3 := g.s3, s6 := g.s6, s5 := g.s5, e0 := g.e0, e1 := fun _ => rfl, e2 := g.e2, e3 := g.e3, e4 := g.e4, e5 := g.e5, e6 := g.e6, e7 := g.e7, e8 := g.e8, e9 := g.e9, e10 := g.e10, e11 := g.e11, e12 := g.e12, e13 := g.e13, e14 := g.e14, e15 := g.e15, o0 := g.o0, e16 := g.e16, c16 := g.c16 }
        · intro ln vs wx hn ha g
          have y1 : ln 1 = true := ha ⟨1, Ground.data⟩ (by simp) rfl
          have w1 := g.e1 y1
          have c4 := (g.tb.2 4 _ rfl).1
          have HH := Lib.hid g
          clear g ha
          go_simp
          simp only [evOf_tmp, evOf_const, w1]
          go_simp
          have g := HH.out
          exact { bel := g.bel, sz := g.sz, xr := g.xr, tb := g.tb, s3 := g.s3, s6 := g.s6, s5 := g.s5, e0 := g.e0, e1 := g.e1, e2 := fun _ => rfl, e3 := g.e3, e4 := g.e4, e5 := g.e5, e6 := g.e6, e7 := g.e7, e8 := g.e8, e9 := g.e9, e10 := g.e10, e11 := g.e11, e12 := g.e12, e13 := g.e13, e14 := g.e14, e15 := g.e15, o0 := g.o0, e16 := g.e16, c16 := g.c16 }
        · intro ln vs wx hn ha g
          have HH := Lib.hid g
          clear g ha
          go_simp
          simp only [evOf_tmp, evOf_const]
          go_simp
          have g := HH.out
          exact { bel := g.bel, sz := g.sz, xr := g.xr, tb := g.tb, s3 := g.s3, s6 := g.s6, s5 := g.s5, e0 := g.e0, e1 := g.e1, e2 := g.e2, e3 := fun _ => HH.out.s6, e4 := g.e4, e5 := g.e5, e6 := g.e6, e7 := g.e7, e8 := g.e8, e9 := g.e9, e10 := g.e10, e11 := g.e11, e12 := g.e12, e13 := g.e13, e14 := g.e14, e15 := g.e15, o0 := g.o0, e16 := g.e16, c16 := g.c16 }
        · intro ln vs wx hn ha g
          have y2 : ln 2 = true := ha ⟨2, Ground.data⟩ (by simp) rfl
          have y3 : ln 3 = true := ha ⟨3, Ground.data⟩ (by simp) rfl
          have w2 := g.e2 y2
          have w3 := g.e3 y3
          have HH := Lib.hid g
          clear g ha
          go_simp
          simp only [evOf_tmp, evOf_const, w2, w3]
          go_simp
          have g := HH.out
          exact { bel := g.bel, sz := g.sz, xr := g.xr, tb := g.tb, s3 := g.s3, s6 := g.s6, s5 := g.s5, e0 := g.e0, e1 := g.e1, e2 := g.e2, e3 := g.e3, e4 := fun _ => rfl, e5 := g.e5, e6 := g.e6, e7 := g.e7, e8 := g.e8, e9 := g.e9, e10 := g.e10, e11 := g.e11, e12 := g.e12, e13 := g.e13, e14 := g.e14, e15 := g.e15, o0 := g.o0, e16 := g.e16, c16 := g.c16 }
        · intro ln vs wx hn ha g
          have y4 : ln 4 = true := ha ⟨4, Ground.data⟩ (by simp) rfl
          have w4 := g.e4 y4
          have HH := Lib.hid g
          clear g ha
          go_simp
          simp only [evOf_tmp, evOf_const, w4]
          go_simp
          have g := HH.out
          exact { bel := g.bel, sz := g.sz, xr := g.xr, tb := g.tb, s3 := g.s3, s6 := g.s6, s5 := g.s5, e0 := g.e0, e1 := g.e1, e2 := g.e2, e3 := g.e3, e4 := g.e4, e5 := fun _ => rfl, e6 := g.e6, e7 := g.e7, e8 := g.e8, e9 := g.e9, e10 := g.e10, e11 := g.e11, e12 := g.e12, e13 := g.e13, e14 := g.e14, e15 := g.e15, o0 := g.o0, e16 := g.e16, c16 := g.c16 }
        · intro ln vs wx hn ha g
          have y5 : ln 5 = true := ha ⟨5, Ground.data⟩ (by simp) rfl
          have w5 := g.e5 y5
          obtain ⟨t0, t1, t2⟩ := Rid.three g.xr hlt
          rw [hrr.out] at t0 t1 t2
          have HH := Lib.hid g
          clear g ha
          go_simp
          simp only [evOf_tmp, evOf_const, w5]
          go_simp
          have g := HH.out
          exact { bel := g.bel, sz := g.sz, xr := g.xr, tb := g.tb, s3 := g.s3, s6 := g.s6, s5 := g.s5, e0 := g.e0, e1 := g.e1, e2 := g.e2, e3 := g.e3, e4 := g.e4, e5 := g.e5, e6 := fun _ => rfl, e7 := g.e7, e8 := g.e8, e9 := g.e9, e10 := g.e10, e11 := g.e11, e12 := g.e12, e13 := g.e13, e14 := g.e14, e15 := g.e15, o0 := g.o0, e16 := g.e16, c16 := g.c16 }
        · intro ln vs wx hn ha g
          have w3 := g.s3
          have HH := Lib.hid g
          clear g ha
          go_simp
          simp only [evOf_tmp, evOf_const, w3]
          go_simp
          have g := HH.out
          exact { bel := g.bel, sz := g.sz, xr := g.xr, tb := g.tb, s3 := g.s3, s6 := g.s6, s5 := g.s5, e0 := g.e0, e1 := g.e1, e2 := g.e2, e3 := g.e3, e4 := g.e4, e5 := g.e5, e6 := g.e6, e7 := fun _ => rfl, e8 := g.e8, e9 := g.e9, e10 := g.e10, e11 := g.e11, e12 := g.e12, e13 := g.e13, e14 := g.e14, e15 := g.e15, o0 := g.o0, e16 := g.e16, c16 := g.c16 }
        · intro ln vs wx hn ha g
          have y7 : ln 7 = true := ha ⟨7, Ground.data⟩ (by simp) rfl
          have w7 := g.e7 y7
          have c4 := (g.tb.2 4 _ rfl).1
          have HH := Lib.hid g
          clear g ha
          go_simp
          simp only [evOf_tmp, evOf_const, w7]
          go_simp
          have g := HH.out
          exact { bel := g.bel, sz := g.sz, xr := g.xr, tb := g.tb, s3 := g.s3, s6 := g.s6, s5 := g.s5, e0 := g.e0, e1 := g.e1, e2 := g.e2, e3 := g.e3, e4 := g.e4, e5 := g.e5, e6 := g.e6, e7 := g.e7, e8 := fun _ => rfl, e9 := g.e9, e10 := g.e10, e11 := g.e11, e12 := g.e12, e13 := g.e13, e14 := g.e14, e15 := g.e15, o0 := g.o0, e16 := g.e16, c16 := g.c16 }
        · intro ln vs wx hn ha g
          have HH := Lib.hid g
          clear g ha
          go_simp
          simp only [evOf_tmp, evOf_const]
          go_simp
          have g := HH.out
          exact { bel := g.bel, sz := g.sz, xr := g.xr, tb := g.tb, s3 := g.s3, s6 := g.s6, s5 := g.s5, e0 := g.e0, e1 := g.e1, e2 := g.e2, e3 := g.e3, e4 := g.e4, e5 := g.e5, e6 := g.e6, e7 := g.e7, e8 := g.e8, e9 := fun _ => HH.out.s6, e10 := g.e10, e11 := g.e11, e12 := g.e12, e13 := g.e13, e14 := g.e14, e15 := g.e15, o0 := g.o0, e16 := g.e16, c16 := g.c16 }
        · intro ln vs wx hn ha g
          have y8 : ln 8 = true := ha ⟨8, Ground.data⟩ (by simp) rfl
          have y9 : ln 9 = true := ha ⟨9, Ground.data⟩ (by simp) rfl
          have w8 := g.e8 y8
          have w9 := g.e9 y9
          have HH := Lib.hid g
          clear g ha
          go_simp
          simp only [evOf_tmp, evOf_const, w8, w9]
          go_simp
          have g := HH.out
          exact { bel := g.bel, sz := g.sz, xr := g.xr, tb := g.tb, s3 := g.s3, s6 := g.s6, s5 := g.s5, e0 := g.e0, e1 := g.e1, e2 := g.e2, e3 := g.e3, e4 := g.e4, e5 := g.e5, e6 := g.e6, e7 := g.e7, e8 := g.e8, e9 := g.e9, e10 := fun _ => rfl, e11 := g.e11, e12 := g.e12, e13 := g.e13, e14 := g.e14, e15 := g.e15, o0 := g.o0, e16 := g.e16, c16 := g.c16 }
        · intro ln vs wx hn ha g
          have y10 : ln 10 = true := ha ⟨10, Ground.data⟩ (by simp) rfl
          have w10 := g.e10 y10
          have HH := Lib.hid g
          clear g ha
          go_simp
          simp only [evOf_tmp, evOf_const, w10]
          go_simp
          have g := HH.out
          exact { bel := g.bel, sz := g.sz, xr := g.xr, tb := g.tb, s3 := g.s3, s6 := g.s6, s5 := g.s5, e0 := g.e0, e1 := g.e1, e2 := g.e2, e3 := g.e3, e4 := g.e4, e5 := g.e5, e6 := g.e6, e7 := g.e7, e8 := g.e8, e9 := g.e9, e10 := g.e10, e11 := fun _ => rfl, e12 := g.e12, e13 := g.e13, e14 := g.e14, e15 := g.e15, o0 := g.o0, e16 := g.e16, c16 := g.c16 }
        · intro ln vs wx hn ha g
          have y11 : ln 11 = true := ha ⟨11, Ground.data⟩ (by simp) rfl
          have w11 := g.e11 y11
          obtain ⟨t0, t1, t2⟩ := Rid.three g.xr hlt
          rw [hrr.out] at t0 t1 t2
          have HH := Lib.hid g
          clear g ha
          go_simp
          simp only [evOf_tmp, evOf_const, w11]
          go_simp
          have g := HH.out
          exact { bel := g.bel, sz := g.sz, xr := g.xr, tb := g.tb, s3 := g.s3, s6 := g.s6, s5 := g.s5, e0 := g.e0, e1 := g.e1, e2 := g.e2, e3 := g.e3, e4 := g.e4, e5 := g.e5, e6 := g.e6, e7 := g.e7, e8 := g.e8, e9 := g.e9, e10 := g.e10, e11 := g.e11, e12 := fun _ => rfl, e13 := g.e13, e14 := g.e14, e15 := g.e15, o0 := g.o0, e16 := g.e16, c16 := g.c16 }
        · intro ln vs wx hn ha g
          have y6 : ln 6 = true := ha ⟨6, Ground.data⟩ (by simp) rfl
          have y12 : ln 12 = true := ha ⟨12, Ground.data⟩ (by simp) rfl
          have w6 := g.e6 y6
          have w12 := g.e12 y12
          have HH := Lib.hid g
          clear g ha
          go_simp
          simp only [evOf_tmp, evOf_const, w6, w12]
          go_simp
          have g := HH.out
          exact { bel := g.bel, sz := g.sz, xr := g.xr, tb := g.tb, s3 := g.s3, s6 := g.s6, s5 := g.s5, e0 := g.e0, e1 := g.e1, e2 := g.e2, e3 := g.e3, e4 := g.e4, e5 := g.e5, e6 := g.e6, e7 := g.e7, e8 := g.e8, e9 := g.e9, e10 := g.e10, e11 := g.e11, e12 := g.e12, e13 := fun _ => rfl, e14 := g.e14, e15 := g.e15, o0 := g.o0, e16 := g.e16, c16 := g.c16 }
        · intro ln vs wx hn ha g
          have y13 : ln 13 = true := ha ⟨13, Ground.data⟩ (by simp) rfl
          have w13 := g.e13 y13
          have HH := Lib.hid g
          clear g ha
          go_simp
          simp only [evOf_tmp, evOf_const, w13]
          go_simp
          have g := HH.out
          have hb : Below wx.heap.size wx (wx.alloc (.cells #[.int .i64 x, .int .i64 z, .int .i64 2] 32)) := (Below.refl _ _).alloc (Nat.le_refl _) _
          exact { bel := below_next g.bel hb, sz := Nat.le_trans g.sz hb.size, xr := g.xr.below hb, tb := g.tb.below hb, s3 := g.s3, s6 := g.s6, s5 := g.s5, e0 := g.e0, e1 := g.e1, e2 := g.e2, e3 := g.e3, e4 := g.e4, e5 := g.e5, e6 := g.e6, e7 := g.e7, e8 := g.e8, e9 := g.e9, e10 := g.e10, e11 := g.e11, e12 := g.e12, e13 := g.e13, e14 := fun _ _ => ⟨_, rfl, ints_new [x, z, 2] wx 32⟩, e15 := fun h1 => OwnR.below (g.e15 h1) hb, o0 := fun h1 => (g.o0 h1).below hb, e16 := fun h1 => OwnR.below (g.e16 h1) hb, c16 := g.c16 }
        · intro ln vs wx hn ha g
          have y0 : ln 0 = true := ha ⟨0, Ground.data⟩ (by simp) rfl
          have y14 : ln 14 = true := ha ⟨14, Ground.data⟩ (by simp) rfl
          have w0 := g.e0 y0
          obtain ⟨H, w14, hI⟩ := g.e14 y14 hn
          have hO := g.o0 hn
          obtain ⟨v', w2, hrun, hO2, hgr⟩ := run_append_rider9 (ty0 := 25) hO hI (by omega) g.sz
          have hge : ∀ j, (Value.slice aD i cD).ownBlock = some j → S ≤ j := fun j e => (hO.lt j e).1
          have HH := Lib.hid g
          have HR := Lib.hid hrun
          have HO2 := Lib.hid hO2
          have HGR := Lib.hid hgr
          have HGE := Lib.hid hge
          clear g ha hI hO hrun hO2 hgr hge
          unfold execOp
          simp only [resolve, invoke, builtin, Sem.run_bind, Sem.run_pure, Result.andThen_ok, List.map_toArray, List.map_cons, List.map_nil, evOf_tmp, w0, w14, HR.out]
          have g := HH.out
          exact { bel := Below.own g.bel HGR.out (fun j e => by have := HGE.out j e; omega), sz := Nat.le_trans g.sz HGR.out.size, xr := Rid.gr g.xr HGR.out (fun j e b9 o9 sp9 e9 => by cases e9; have := HGE.out j e; omega), tb := BoxV.gr g.tb HGR.out (fun j e => by have := HGE.out j e; omega), s3 := g.s3, s6 := g.s6, s5 := g.s5, e0 := g.e0, e1 := g.e1, e2 := g.e2, e3 := g.e3, e4 := g.e4, e5 := g.e5, e6 := g.e6, e7 := g.e7, e8 := g.e8, e9 := g.e9, e10 := g.e10, e11 := g.e11, e12 := g.e12, e13 := g.e13, e14 := fun _ h9 => (by cases h9), e15 := fun _ => HO2.out, o0 := fun h9 => (by cases h9), e16 := fun h1 => (by have h2 : ln 16 = true := h1; have h3 := (g.c16 h2).2; rw [hn] at h3; cases h3), c16 := fun h9 => ⟨(g.c16 h9).1, rfl⟩ }
        · intro ln vs wx hn ha g
          have y15 : ln 15 = true := ha ⟨15, Ground.data⟩ (by simp) rfl
          have y0 : ln 0 = true := ha ⟨0, Ground.phase⟩ (by simp) rfl
          have HH := Lib.hid g
          clear g ha
          go_simp
          have g := HH.out
          exact { bel := g.bel, sz := g.sz, xr := g.xr, tb := g.tb, s3 := g.s3, s6 := g.s6, s5 := fun h9 => (by cases h9), e0 := g.e0, e1 := g.e1, e2 := g.e2, e3 := g.e3, e4 := g.e4, e5 := g.e5, e6 := g.e6, e7 := g.e7, e8 := g.e8, e9 := g.e9, e10 := g.e10, e11 := g.e11, e12 := g.e12, e13 := g.e13, e14 := g.e14, e15 := g.e15, o0 := g.o0, e16 := fun _ => g.e15 y15, c16 := fun _ => ⟨y0, y15⟩ }
      intro vs wq hI
      have hb9 := Lib.hid hI.bel
      have hz9 := hI.sz
      have hx9 := Lib.hid hI.xr
      have ht9 := Lib.hid hI.tb
      have hO9 : OwnR 32 3 wq S (vs 5) (i + 1) (rfl3 (LL ++ [⟨x, z, 2⟩])) := hI.e16 rfl
      rw [show LL ++ [⟨x, z, 2⟩] = dnl l (i + 1) from HNX.out.symm] at hO9
      obtain ⟨a2, c2', hv2, -, -⟩ := OwnR.open hO9
      rw [hv2] at hO9
      have O9 := Lib.hid hO9
      clear hI hO9 T X TB D
      simp (decide := true) only [over, Nat.reduceAdd, if_true, if_false]
      rw [hv2]
      clear hv2
      go_wp2_with fail
      exact ⟨⟨i + 1, a2, c2', by omega, rfl, by go_num, O9.out, hz9, hb9.out, hx9.out, ht9.out⟩, by first | (simp [intOf]; done) | (simp [intOf]; omega) | omega⟩
    obtain rfl : i = k := by omega
    have hD2 := D.out
    rw [show dnl l i = l.map dn2 from by unfold dnl; rw [List.take_of_length_le (by have h9 : l.length = i := HL.out; omega)]] at hD2
    have DR := Lib.hid (OwnR.rid hD2)
    clear hD2 D
    have c0 := (TB.out.2 0 _ rfl).1
    have c1 := (TB.out.2 1 _ rfl).1
    have c2 := (TB.out.2 2 _ rfl).1
    have c3 := (TB.out.2 3 _ rfl).1
    have c4 := (TB.out.2 4 _ rfl).1
    go_upto_region 14 with fail
    clear c0 c1 c2 c3 c4
    obtain ⟨S2, hS2⟩ : ∃ S2, wn.heap.size = S2 := ⟨_, rfl⟩
    have hhS2 : h < S2 := by rw [← hS2]; exact BoxV.lt TB.out
    have hwS2 : w.heap.size ≤ S2 := by rw [← hS2]; exact T.out.size
    have OA := Lib.hid (show OwnR 32 3 (wn.alloc (.cells #[] 32)) S2 (.slice (some ⟨S2, 0, none⟩) 0 0) 0 (rfl3 []) from by
      have h9 := OwnR.none0 (E := 32) (k := 3) (w := wn); rw [hS2] at h9; exact h9)
    have IN := Lib.hid (Rid.below X.out ((Below.refl _ _).alloc (Nat.le_refl _) (.cells #[] 32)))
    have hB1 : S2 ≤ (wn.alloc (.cells #[] 32)).heap.size := by rw [World.size_alloc, hS2]; omega
    have c4 := (TB.out.2 4 _ rfl).1
    go_wp2_with (with_reducible refine wpList_append_riders OA.out rfl rfl IN.out (by omega) hB1 ?_)
    intro v2 w2 hO2 hgr hat
    rw [Nat.zero_add, List.nil_append] at hO2
    have hgb : ∀ q, (Value.slice (some ⟨S2, 0, none⟩) 0 0).ownBlock = some q → q = S2 := fun q e => by cases e; rfl
    have hbw : Below wn.heap.size wn w2 := Below.own (Below.al (Below.refl _ _) (.cells #[] 32)) hgr (fun j e => by have := hgb j e; omega)
    have T2 := Lib.hid (below_next T.out hbw)
    have TB2 := Lib.hid (BoxV.below TB.out hbw)
    have DR2 := Lib.hid (Rid.below DR.out hbw)
    have hs2 : S2 < w2.heap.size := by have := hgr.size; rw [World.size_alloc, hS2] at this; omega
    have hDS : ∀ b o sp, aD = some ⟨b, o, sp⟩ → 0 < i → b < S2 := fun b o sp e h0 => by
      subst e
      obtain ⟨b', o', e'⟩ := Rid.some DR.out h0
      cases e'
      rw [← hS2]
      exact Rid.lt DR.out h0
    have HDS := Lib.hid hDS
    have O2 := Lib.hid hO2
    clear OA IN hB1 hO2 hgr hat hgb hbw T X TB DR hS2 c4 hDS
    obtain ⟨S3, hS3⟩ : ∃ S3, w2.heap.size = S3 := ⟨_, rfl⟩
    have OA := Lib.hid (OwnR.al O2.out (.cells #[.int .i64 0, .int .i64 0, .int .i64 0] 32))
    have IN := Lib.hid (show Rid (w2.alloc (.cells #[.int .i64 0, .int .i64 0, .int .i64 0] 32)) (some ⟨S3, 0, none⟩) 1 [⟨0, 0, 0⟩] from ⟨⟨rfl, .inr ⟨S3, 0, rfl, by rw [← hS3]; exact ints_new [0, 0, 0] w2 32⟩⟩, rfl⟩)
    have hB1 : S2 ≤ (w2.alloc (.cells #[.int .i64 0, .int .i64 0, .int .i64 0] 32)).heap.size := by rw [World.size_alloc]; omega
    go_wp2_with (with_reducible refine wpList_append_riders OA.out rfl rfl IN.out (by omega) hB1 ?_)
    intro v3 w3 hO3 hgr hat
    have hge : ∀ q, v2.ownBlock = some q → S2 ≤ q := fun q e => (OwnR.lt OA.out q e).1
    have T3 := Lib.hid (Below.own (Below.al T2.out (.cells #[.int .i64 0, .int .i64 0, .int .i64 0] 32)) hgr (fun j e => by have := hge j e; omega))
    have TB3 := Lib.hid (BoxV.gr (BoxV.al TB2.out (.cells #[.int .i64 0, .int .i64 0, .int .i64 0] 32)) hgr (fun j e => by have := hge j e; omega))
    have DR3 := Lib.hid (show Rid w3 aD i (l.map dn2) from by
      by_cases h0 : 0 < i
      · exact Rid.gr (Rid.below DR2.out ((Below.refl _ _).alloc (Nat.le_refl _) _)) hgr (fun j e b o sp e9 => by have := hge j e; have := HDS.out b o sp e9 h0; omega)
      · obtain rfl : i = 0 := by omega
        exact ⟨⟨DR2.out.1.1, .inl rfl⟩, DR2.out.2⟩)
    obtain ⟨av3, cv3, hv, -, -⟩ := OwnR.open hO3
    subst hv
    have NW := Lib.hid (OwnR.rid hO3)
    clear OA IN hB1 hO3 hgr hat hge T2 TB2 DR2 O2 hS3 HDS hs2
    obtain ⟨wn, hwq⟩ : ∃ w9 : World, w9 = w3 := ⟨_, rfl⟩
    subst hwq
    have T := T3
    have TB := TB3
    have DR := DR3
    clear T3 TB3 DR3
    have c0 := (TB.out.2 0 _ rfl).1
    have c1 := (TB.out.2 1 _ rfl).1
    have c2 := (TB.out.2 2 _ rfl).1
    have c3 := (TB.out.2 3 _ rfl).1
    have c4 := (TB.out.2 4 _ rfl).1
    go_wp2_with fail
    refine Calls.mono (HK1.out _ aD cD DR.out) ?_
    intro e wn hh
    obtain ⟨he, hb⟩ := (by first | exact hh | exact Ro.mk hh | exact St.mk hh | exact LawOk.mk' hh : Mk _ _ e wn)
    subst he
    have Tn : Hid (Below w.heap.size w wn) := below_next T.out hb
    have TBn : Hid _ := BoxV.below TB.out hb
    have DRn : Hid _ := Rid.below DR.out hb
    have NWn : Hid _ := Rid.below NW.out hb
    clear hb hh c0 c1 c2 c3 c4
    clear T TB DR NW
    have T := Tn
    have TB := TBn
    have DR := DRn
    have NW := NWn
    clear Tn TBn DRn NWn
    have c0 := (TB.out.2 0 _ rfl).1
    have c1 := (TB.out.2 1 _ rfl).1
    have c2 := (TB.out.2 2 _ rfl).1
    have c3 := (TB.out.2 3 _ rfl).1
    have c4 := (TB.out.2 4 _ rfl).1
    go_wp2_with fail
    refine Calls.mono (HK2.out _) ?_
    intro e wn hh
    obtain ⟨he, hb⟩ := (by first | exact hh | exact Ro.mk hh | exact St.mk hh | exact LawOk.mk' hh : Mk _ _ e wn)
    subst he
    have Tn : Hid (Below w.heap.size w wn) := below_next T.out hb
    have TBn : Hid _ := BoxV.below TB.out hb
    have DRn : Hid _ := Rid.below DR.out hb
    have NWn : Hid _ := Rid.below NW.out hb
    clear hb hh c0 c1 c2 c3 c4
    clear T TB DR NW
    have T := Tn
    have TB := TBn
    have DR := DRn
    have NW := NWn
    clear Tn TBn DRn NWn
    have c0 := (TB.out.2 0 _ rfl).1
    have c1 := (TB.out.2 1 _ rfl).1
    have c2 := (TB.out.2 2 _ rfl).1
    have c3 := (TB.out.2 3 _ rfl).1
    have c4 := (TB.out.2 4 _ rfl).1
    go_wp2_with fail
    refine Calls.mono (HK3.out _ av3 cv3 NW.out) ?_
    intro e wn hh
    obtain ⟨he, hb⟩ := (by first | exact hh | exact Ro.mk hh | exact St.mk hh | exact LawOk.mk' hh : Mk _ _ e wn)
    subst he
    have Tn : Hid (Below w.heap.size w wn) := below_next T.out hb
    have TBn : Hid _ := BoxV.below TB.out hb
    have DRn : Hid _ := Rid.below DR.out hb
    have NWn : Hid _ := Rid.below NW.out hb
    clear hb hh c0 c1 c2 c3 c4
    clear T TB DR NW
    have T := Tn
    have TB := TBn
    have DR := DRn
    have NW := NWn
    clear Tn TBn DRn NWn
    go_wp2_with fail
    go_ret
    first | exact LawOk.mk T.out | exact LawOk.mk (Below.dr T.out _)
end Go.Proofs.Ytfhhgddajmihjaa
