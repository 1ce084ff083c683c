/- Texts of calls read, by the program: ReadCalls, the walk. -/
import Derived.Test.YtgenccbpkolmbaaDoor8RH
namespace Go.Proofs.YtgenccbpkolmbaaDoor
open Go.RowKit
set_option linter.unusedVariables false

set_option maxHeartbeats 4000000 in
theorem iReadCalls_c (s : ByteArray) (w : World) (m : Int) (hs : s.size ≤ 1048576) (hm : w.cell? ⟨0, 0, none⟩ = some (.int .i64 m)) : Calls Tryd.prog 11 #[.string s] w (NewC w (rd s) (fun v => .tuple #[v, .bool (rdB s)])) := by
  obtain ⟨g, hg⟩ : ∃ g, w.heap.size = g := ⟨_, rfl⟩
  have HG := Lib.hid hg
  have B0 := Lib.hid (show Bx (w.alloc (.cells #[.slice none 0 0, .slice none 0 0, .slice none 0 0] 25)) g (.slice none 0 0) (.slice none 0 0) (.slice none 0 0) from by rw [← hg]; exact Bx.new _ _ _ _ _)
  have HB0 := Lib.hid (Below.al (Below.refl w.heap.size w) (.cells #[.slice none 0 0, .slice none 0 0, .slice none 0 0] 25))
  have M0 := Lib.hid (cell_below hm ((Below.refl _ _).alloc (Nat.le_refl _) (.cells #[.slice none 0 0, .slice none 0 0, .slice none 0 0] 25)))
  have KS := Lib.hid (Tryd.strings_Split s ⟨#[47]⟩ m _ (by omega) M0.out (by decide))
  have hcut := splitB_cut s
  have hlen0 := Lib.splitB_all ⟨#[47]⟩ (by decide) 0 _ s rfl
  obtain ⟨N, hN⟩ : ∃ N, Lib.countB s ⟨#[47]⟩ + 1 = N := ⟨_, rfl⟩
  rw [hN] at hlen0 KS
  obtain ⟨ps, hps⟩ : ∃ ps, Lib.splitB ⟨#[47]⟩ 0 (Lib.countB s ⟨#[47]⟩) s = ps := ⟨_, rfl⟩
  rw [hps] at hlen0 hcut KS
  have HCU := Lib.hid (show pcs ps = cut1 s.data.toList from hcut)
  have HLE := Lib.hid hlen0
  clear hg hN hps hm hcut hlen0 M0
  go_enter Tryd.func11, Tryd.ntmps11
  go_wp2_with fail
  try rw [HG.out]
  refine Calls.mono KS.out ?_
  rintro e w1 ⟨rfl, hw1⟩
  have hb : Below (w.alloc (.cells #[.slice none 0 0, .slice none 0 0, .slice none 0 0] 25)).heap.size (w.alloc (.cells #[.slice none 0 0, .slice none 0 0, .slice none 0 0] 25)) w1 := by rw [hw1]; exact Below.al (Below.refl _ _) _
  have B1 := Lib.hid (Bx.below B0.out hb)
  have HB1 := Lib.hid (below_next HB0.out hb)
  obtain ⟨b, hbb⟩ : ∃ b, (w.alloc (.cells #[.slice none 0 0, .slice none 0 0, .slice none 0 0] 25)).heap.size = b := ⟨_, rfl⟩
  have hcell : ∀ i (hi : i < ps.length), w1.cell? ⟨b, i, none⟩ = some (.string ps[i]) := fun i hi => by
    rw [hw1, World.cell?_alloc_at _ _ _ _ hbb.symm]
    simp [hi]
  have hgw1 : g < w1.heap.size := B1.out.lt
  try rw [hbb]
  have HW1 := Lib.hid hw1
  have HBB := Lib.hid hbb
  clear hb B0 HB0 KS hw1 hbb
  by_cases hlen : N = 3
  case neg =>
    have t0 : ((N : Int) != 3) = true := by rw [bne_iff_ne]; omega
    have hno : ¬ RdV s := fun ⟨p, q, r, h, _⟩ => hlen (by
      have := congrArg List.length HCU.out
      rw [h] at this
      have h2 := HLE.out
      simp [pcs] at this
      omega)
    have E := Lib.hid (rd_f hno)
    obtain ⟨⟨c0, c1, c2⟩, hf⟩ := B1.out
    have f0 := hf 0
    have f1 := hf 1
    have f2 := hf 2
    have N0 := Lib.hid (newC_zero (r := g) HB1.out (by have := HG.out; omega) (fun v => .tuple #[v, .bool false]))
    clear hf hcell hlen hno HB1
    go_wp2_with fail
    exact bodyPost_ret (v := .tuple #[.agg #[.slice none 0 0, .slice none 0 0, .slice none 0 0], .bool false]) (by simp [results, Tryd.results11, go_sem, c0, c1, c2]) rfl (by rw [E.out.1, E.out.2]; exact N0.out)
  subst hlen
  obtain ⟨p, q, r, rfl⟩ : ∃ p q r, ps = [p, q, r] := by
    match ps, HLE.out with
    | [p, q, r], _ => exact ⟨p, q, r, rfl⟩
  have d0 := hcell 0 (by simp)
  have d1 := hcell 1 (by simp)
  have d2 := hcell 2 (by simp)
  simp only [List.getElem_cons_zero, List.getElem_cons_succ] at d0 d1 d2
  obtain ⟨sp, sq, sr⟩ := cut3_size HCU.out
  have sp' : p.size ≤ 1048576 := by omega
  have sq' : q.size ≤ 1048576 := by omega
  have sr' : r.size ≤ 1048576 := by omega
  have HCUT := Lib.hid (show cut1 s.data.toList = [p.data.toList, q.data.toList, r.data.toList] from HCU.out.symm)
  have KD := Lib.hid (show ∀ w', Below w1.heap.size w1 w' → w'.cell? ⟨b, 0, none⟩ = some (.string p) ∧ w'.cell? ⟨b, 1, none⟩ = some (.string q) ∧ w'.cell? ⟨b, 2, none⟩ = some (.string r) from fun w' h => ⟨cell_below d0 h, cell_below d1 h, cell_below d2 h⟩)
  clear d0 d1 d2 hcell HLE HCU sp sq sr
  go_wp2_with fail
  refine wp_region_inv (fun ln vs wx => RI w1 b p q r ln vs wx) [12, 13, 14, 15, 16, 17, 18, 19, 20, 21, 22, 23, 24, 5]
    (by kernel_rfl) (by kernel_rfl) (by kernel_rfl) (by kernel_rfl) ?h0 ?hobs ?_
  case h0 => exact { bel := Below.dw (Below.refl _ _), u4 := rfl, v12 := fun h => (by cases h), v13 := fun h => (by cases h), v14 := fun h => (by cases h), r1 := fun h => (by cases h), v16 := fun h => (by cases h), v17 := fun h => (by cases h), v18 := fun h => (by cases h), r2 := fun h => (by cases h), v20 := fun h => (by cases h), v21 := fun h => (by cases h), v22 := fun h => (by cases h), r3 := fun h => (by cases h), a12 := fun h => (by cases h), a13 := fun h => (by cases h), a23 := fun h => (by cases h), v24 := fun h => (by cases h), d12 := fun h => (by cases h), p5 := fun h => (by cases h), d14 := fun h => (by cases h) }
  case hobs =>
    refine ⟨?_, ?_, ?_, ?_, ?_, ?_, ?_, ?_, ?_, ?_, ?_, ?_, ?_, ?_, ?_, trivial⟩
    · intro ln vs wx hn ha h
      have HH := Lib.hid h
      clear h ha
      go_simp
      have h := HH.out
      exact { bel := h.bel, u4 := h.u4, v12 := fun _ => h.u4, v13 := h.v13, v14 := h.v14, r1 := h.r1, v16 := h.v16, v17 := h.v17, v18 := h.v18, r2 := h.r2, v20 := h.v20, v21 := h.v21, v22 := h.v22, r3 := h.r3, a12 := h.a12, a13 := h.a13, a23 := h.a23, v24 := h.v24, d12 := h.d12, p5 := h.p5, d14 := h.d14 }
    · intro ln vs wx hn ha h
      have q0 : ln 0 = true := ha ⟨0, Ground.data⟩ (by simp) rfl
      have w := h.v12 q0
      have HH := Lib.hid h
      clear h ha
      go_simp
      simp only [evOf_tmp, w]
      go_simp
      have h := HH.out
      exact { bel := h.bel, u4 := h.u4, v12 := h.v12, v13 := fun _ => rfl, v14 := h.v14, r1 := h.r1, v16 := h.v16, v17 := h.v17, v18 := h.v18, r2 := h.r2, v20 := h.v20, v21 := h.v21, v22 := h.v22, r3 := h.r3, a12 := h.a12, a13 := h.a13, a23 := h.a23, v24 := h.v24, d12 := h.d12, p5 := h.p5, d14 := h.d14 }
    · intro ln vs wx hn ha h
      have q1 : ln 1 = true := ha ⟨1, Ground.data⟩ (by simp) rfl
      have w := h.v13 q1
      obtain ⟨c0, c1, c2⟩ := KD.out wx h.bel
      have HH := Lib.hid h
      clear h ha
      go_simp
      simp only [evOf_tmp, w]
      go_simp
      have h := HH.out
      exact { bel := h.bel, u4 := h.u4, v12 := h.v12, v13 := h.v13, v14 := fun _ => rfl, r1 := h.r1, v16 := h.v16, v17 := h.v17, v18 := h.v18, r2 := h.r2, v20 := h.v20, v21 := h.v21, v22 := h.v22, r3 := h.r3, a12 := h.a12, a13 := h.a13, a23 := h.a23, v24 := h.v24, d12 := h.d12, p5 := h.p5, d14 := h.d14 }
    · intro ln vs wx hn ha h
      have q2 : ln 2 = true := ha ⟨2, Ground.data⟩ (by simp) rfl
      have wv14 := h.v14 q2
      have HH := Lib.hid h
      clear h ha
      go_simp
      simp only [evOf_tmp, wv14]
      have h := HH.out
      exact (readRow_c p wx sp').mono fun e w' ⟨G, he, hO, hb⟩ => ⟨_, he, { bel := below_next h.bel hb, u4 := h.u4, v12 := h.v12, v13 := h.v13, v14 := h.v14, r1 := fun _ => ⟨G, rfl, OwnB.mono hO h.bel.size⟩, v16 := h.v16, v17 := h.v17, v18 := h.v18, r2 := fun hh => (h.r2 hh).below hb, v20 := h.v20, v21 := h.v21, v22 := h.v22, r3 := fun hh => (h.r3 hh).below hb, a12 := fun _ hh => (new_apart hO (h.r2 hh)).1, a13 := fun _ hh => (new_apart hO (h.r3 hh)).1, a23 := h.a23, v24 := fun hh => absurd (h.d12 hh).1 (by rw [hn]; decide), d12 := fun hh => absurd (h.d12 hh).1 (by rw [hn]; decide), p5 := fun hh => (let ⟨G', e, g1, g2, gz, gf, n3, n7, n11⟩ := h.p5 hh; ⟨G', e, g1, Nat.lt_of_lt_of_le g2 hb.size, fun hh => (gz hh).below hb, fun hh => absurd (h.d12 (h.d14 hh).1).1 (by rw [hn]; decide), (fun _ k hk => by have := (hO.lt k hk).1; omega), n7, n11⟩), d14 := h.d14 }⟩
    · intro ln vs wx hn ha h
      have HH := Lib.hid h
      clear h ha
      go_simp
      have h := HH.out
      exact { bel := h.bel, u4 := h.u4, v12 := h.v12, v13 := h.v13, v14 := h.v14, r1 := h.r1, v16 := fun _ => h.u4, v17 := h.v17, v18 := h.v18, r2 := h.r2, v20 := h.v20, v21 := h.v21, v22 := h.v22, r3 := h.r3, a12 := h.a12, a13 := h.a13, a23 := h.a23, v24 := h.v24, d12 := h.d12, p5 := h.p5, d14 := h.d14 }
    · intro ln vs wx hn ha h
      have q4 : ln 4 = true := ha ⟨4, Ground.data⟩ (by simp) rfl
      have w := h.v16 q4
      have HH := Lib.hid h
      clear h ha
      go_simp
      simp only [evOf_tmp, w]
      go_simp
      have h := HH.out
      exact { bel := h.bel, u4 := h.u4, v12 := h.v12, v13 := h.v13, v14 := h.v14, r1 := h.r1, v16 := h.v16, v17 := fun _ => rfl, v18 := h.v18, r2 := h.r2, v20 := h.v20, v21 := h.v21, v22 := h.v22, r3 := h.r3, a12 := h.a12, a13 := h.a13, a23 := h.a23, v24 := h.v24, d12 := h.d12, p5 := h.p5, d14 := h.d14 }
    · intro ln vs wx hn ha h
      have q5 : ln 5 = true := ha ⟨5, Ground.data⟩ (by simp) rfl
      have w := h.v17 q5
      obtain ⟨c0, c1, c2⟩ := KD.out wx h.bel
      have HH := Lib.hid h
      clear h ha
      go_simp
      simp only [evOf_tmp, w]
      go_simp
      have h := HH.out
      exact { bel := h.bel, u4 := h.u4, v12 := h.v12, v13 := h.v13, v14 := h.v14, r1 := h.r1, v16 := h.v16, v17 := h.v17, v18 := fun _ => rfl, r2 := h.r2, v20 := h.v20, v21 := h.v21, v22 := h.v22, r3 := h.r3, a12 := h.a12, a13 := h.a13, a23 := h.a23, v24 := h.v24, d12 := h.d12, p5 := h.p5, d14 := h.d14 }
    · intro ln vs wx hn ha h
      have q6 : ln 6 = true := ha ⟨6, Ground.data⟩ (by simp) rfl
      have wv18 := h.v18 q6
      have HH := Lib.hid h
      clear h ha
      go_simp
      simp only [evOf_tmp, wv18]
      have h := HH.out
      exact (readRow_c q wx sq').mono fun e w' ⟨G, he, hO, hb⟩ => ⟨_, he, { bel := below_next h.bel hb, u4 := h.u4, v12 := h.v12, v13 := h.v13, v14 := h.v14, r1 := fun hh => (h.r1 hh).below hb, v16 := h.v16, v17 := h.v17, v18 := h.v18, r2 := fun _ => ⟨G, rfl, OwnB.mono hO h.bel.size⟩, v20 := h.v20, v21 := h.v21, v22 := h.v22, r3 := fun hh => (h.r3 hh).below hb, a12 := fun hh _ => (new_apart hO (h.r1 hh)).2, a13 := h.a13, a23 := fun _ hh => (new_apart hO (h.r3 hh)).1, v24 := fun hh => absurd (h.d12 hh).2.1 (by rw [hn]; decide), d12 := fun hh => absurd (h.d12 hh).2.1 (by rw [hn]; decide), p5 := fun hh => (let ⟨G', e, g1, g2, gz, gf, n3, n7, n11⟩ := h.p5 hh; ⟨G', e, g1, Nat.lt_of_lt_of_le g2 hb.size, fun hh => (gz hh).below hb, fun hh => absurd (h.d12 (h.d14 hh).1).2.1 (by rw [hn]; decide), n3, (fun _ k hk => by have := (hO.lt k hk).1; omega), n11⟩), d14 := h.d14 }⟩
    · intro ln vs wx hn ha h
      have HH := Lib.hid h
      clear h ha
      go_simp
      have h := HH.out
      exact { bel := h.bel, u4 := h.u4, v12 := h.v12, v13 := h.v13, v14 := h.v14, r1 := h.r1, v16 := h.v16, v17 := h.v17, v18 := h.v18, r2 := h.r2, v20 := fun _ => h.u4, v21 := h.v21, v22 := h.v22, r3 := h.r3, a12 := h.a12, a13 := h.a13, a23 := h.a23, v24 := h.v24, d12 := h.d12, p5 := h.p5, d14 := h.d14 }
    · intro ln vs wx hn ha h
      have q8 : ln 8 = true := ha ⟨8, Ground.data⟩ (by simp) rfl
      have w := h.v20 q8
      have HH := Lib.hid h
      clear h ha
      go_simp
      simp only [evOf_tmp, w]
      go_simp
      have h := HH.out
      exact { bel := h.bel, u4 := h.u4, v12 := h.v12, v13 := h.v13, v14 := h.v14, r1 := h.r1, v16 := h.v16, v17 := h.v17, v18 := h.v18, r2 := h.r2, v20 := h.v20, v21 := fun _ => rfl, v22 := h.v22, r3 := h.r3, a12 := h.a12, a13 := h.a13, a23 := h.a23, v24 := h.v24, d12 := h.d12, p5 := h.p5, d14 := h.d14 }
    · intro ln vs wx hn ha h
      have q9 : ln 9 = true := ha ⟨9, Ground.data⟩ (by simp) rfl
      have w := h.v21 q9
      obtain ⟨c0, c1, c2⟩ := KD.out wx h.bel
      have HH := Lib.hid h
      clear h ha
      go_simp
      simp only [evOf_tmp, w]
      go_simp
      have h := HH.out
      exact { bel := h.bel, u4 := h.u4, v12 := h.v12, v13 := h.v13, v14 := h.v14, r1 := h.r1, v16 := h.v16, v17 := h.v17, v18 := h.v18, r2 := h.r2, v20 := h.v20, v21 := h.v21, v22 := fun _ => rfl, r3 := h.r3, a12 := h.a12, a13 := h.a13, a23 := h.a23, v24 := h.v24, d12 := h.d12, p5 := h.p5, d14 := h.d14 }
    · intro ln vs wx hn ha h
      have q10 : ln 10 = true := ha ⟨10, Ground.data⟩ (by simp) rfl
      have wv22 := h.v22 q10
      have HH := Lib.hid h
      clear h ha
      go_simp
      simp only [evOf_tmp, wv22]
      have h := HH.out
      exact (readRow_c r wx sr').mono fun e w' ⟨G, he, hO, hb⟩ => ⟨_, he, { bel := below_next h.bel hb, u4 := h.u4, v12 := h.v12, v13 := h.v13, v14 := h.v14, r1 := fun hh => (h.r1 hh).below hb, v16 := h.v16, v17 := h.v17, v18 := h.v18, r2 := fun hh => (h.r2 hh).below hb, v20 := h.v20, v21 := h.v21, v22 := h.v22, r3 := fun _ => ⟨G, rfl, OwnB.mono hO h.bel.size⟩, a12 := h.a12, a13 := fun hh _ => (new_apart hO (h.r1 hh)).2, a23 := fun hh _ => (new_apart hO (h.r2 hh)).2, v24 := fun hh => absurd (h.d12 hh).2.2 (by rw [hn]; decide), d12 := fun hh => absurd (h.d12 hh).2.2 (by rw [hn]; decide), p5 := fun hh => (let ⟨G', e, g1, g2, gz, gf, n3, n7, n11⟩ := h.p5 hh; ⟨G', e, g1, Nat.lt_of_lt_of_le g2 hb.size, fun hh => (gz hh).below hb, fun hh => absurd (h.d12 (h.d14 hh).1).2.2 (by rw [hn]; decide), n3, n7, (fun _ k hk => by have := (hO.lt k hk).1; omega)⟩), d14 := h.d14 }⟩
    · intro ln vs wx hn ha h
      have q3 : ln 3 = true := ha ⟨3, Ground.data⟩ (by simp) rfl
      have q7 : ln 7 = true := ha ⟨7, Ground.data⟩ (by simp) rfl
      have q11 : ln 11 = true := ha ⟨11, Ground.data⟩ (by simp) rfl
      obtain ⟨G1, e1, -⟩ := h.r1 q3
      obtain ⟨G2, e2, -⟩ := h.r2 q7
      obtain ⟨G3, e3, -⟩ := h.r3 q11
      have HH := Lib.hid h
      clear h ha
      go_simp
      simp only [evOf_tmp, e1, e2, e3]
      go_simp
      have h := HH.out
      exact { bel := h.bel, u4 := h.u4, v12 := h.v12, v13 := h.v13, v14 := h.v14, r1 := h.r1, v16 := h.v16, v17 := h.v17, v18 := h.v18, r2 := h.r2, v20 := h.v20, v21 := h.v21, v22 := h.v22, r3 := h.r3, a12 := h.a12, a13 := h.a13, a23 := h.a23, v24 := fun _ => (show Value.agg #[.slice (some ⟨G1, 0, none⟩) p.size p.size, .slice (some ⟨G2, 0, none⟩) q.size q.size, .slice (some ⟨G3, 0, none⟩) r.size r.size] = Value.agg #[vs 15, vs 19, vs 23] from by rw [e1, e2, e3]), d12 := fun _ => ⟨q3, q7, q11⟩, p5 := h.p5, d14 := fun hh => ⟨rfl, (h.d14 hh).2⟩ }
    · intro ln vs wx hn ha h
      have HH := Lib.hid h
      clear h ha
      go_simp
      have h := HH.out
      exact { bel := Below.al h.bel _, u4 := h.u4, v12 := h.v12, v13 := h.v13, v14 := h.v14, r1 := fun hh => (h.r1 hh).below ((Below.refl _ _).alloc (Nat.le_refl _) _), v16 := h.v16, v17 := h.v17, v18 := h.v18, r2 := fun hh => (h.r2 hh).below ((Below.refl _ _).alloc (Nat.le_refl _) _), v20 := h.v20, v21 := h.v21, v22 := h.v22, r3 := fun hh => (h.r3 hh).below ((Below.refl _ _).alloc (Nat.le_refl _) _), a12 := h.a12, a13 := h.a13, a23 := h.a23, v24 := h.v24, d12 := h.d12, p5 := fun _ => ⟨wx.heap.size, rfl, h.bel.size, by simp, fun _ => Bx.new _ _ _ _ _, fun hh => absurd (h.d14 hh).2 (by rw [hn]; decide), fun hh k hk => (by have := ((h.r1 hh).lt k hk).2; omega), fun hh k hk => (by have := ((h.r2 hh).lt k hk).2; omega), fun hh k hk => (by have := ((h.r3 hh).lt k hk).2; omega)⟩, d14 := fun hh => ⟨(h.d14 hh).1, rfl⟩ }
    · intro ln vs wx hn ha h
      have q12 : ln 12 = true := ha ⟨12, Ground.data⟩ (by simp) rfl
      have q13 : ln 13 = true := ha ⟨13, Ground.data⟩ (by simp) rfl
      obtain ⟨q3, q7, q11⟩ := h.d12 q12
      obtain ⟨G, e5, g1, g2, gz, -, n3, n7, n11⟩ := h.p5 q13
      have hbx := gz hn
      obtain ⟨G1, e1, -⟩ := h.r1 q3
      obtain ⟨G2, e2, -⟩ := h.r2 q7
      obtain ⟨G3, e3, -⟩ := h.r3 q11
      have w24 := h.v24 q12
      rw [e1, e2, e3] at w24
      have hs3 := Bx.set3 hbx (.slice (some ⟨G1, 0, none⟩) p.size p.size) (.slice (some ⟨G2, 0, none⟩) q.size q.size) (.slice (some ⟨G3, 0, none⟩) r.size r.size)
      refine stepI_eq (run_store_calls (.tmp 5) (.tmp 24) rfl e5 w24 hbx) ?_
      exact { bel := Out.below h.bel hs3.2 g1, u4 := h.u4, v12 := h.v12, v13 := h.v13, v14 := h.v14, r1 := fun hh => (h.r1 hh).outs hs3.2 (n3 q3), v16 := h.v16, v17 := h.v17, v18 := h.v18, r2 := fun hh => (h.r2 hh).outs hs3.2 (n7 q7), v20 := h.v20, v21 := h.v21, v22 := h.v22, r3 := fun hh => (h.r3 hh).outs hs3.2 (n11 q11), a12 := h.a12, a13 := h.a13, a23 := h.a23, v24 := h.v24, d12 := h.d12, p5 := fun _ => ⟨G, e5, g1, Nat.lt_of_lt_of_le g2 hs3.2.size, fun hh => (by cases hh), fun _ => (show Bx _ G (vs 15) (vs 19) (vs 23) from by rw [e1, e2, e3]; exact hs3.1), n3, n7, n11⟩, d14 := fun _ => ⟨q12, q13⟩ }
  intro vs wq hI
  obtain ⟨G, e5, g1, g2, -, gf, -, -, -⟩ := hI.p5 rfl
  obtain ⟨G1, e1, o1⟩ := hI.r1 rfl
  obtain ⟨G2, e2, o2⟩ := hI.r2 rfl
  obtain ⟨G3, e3, o3⟩ := hI.r3 rfl
  have hbx := gf rfl
  have a12 := hI.a12 rfl rfl
  have a13 := hI.a13 rfl rfl
  have a23 := hI.a23 rfl rfl
  rw [e1, e2, e3] at hbx
  rw [e1] at o1 a12 a13
  rw [e2] at o2 a12 a23
  rw [e3] at o3 a13 a23
  have OC := Lib.hid (show OwnC wq w1.heap.size wq.heap.size (.slice (some ⟨G1, 0, none⟩) p.size p.size) (.slice (some ⟨G2, 0, none⟩) q.size q.size) (.slice (some ⟨G3, 0, none⟩) r.size r.size) ⟨bits p.data.toList, bits q.data.toList, bits r.data.toList⟩ from
    ⟨⟨o1, o2, o3⟩, ⟨a12, a13, a23⟩, Nat.le_refl _, hI.bel.size, fun k hk => by
      rcases hk with hk | hk | hk
      · exact (o1.lt k hk).2
      · exact (o2.lt k hk).2
      · exact (o3.lt k hk).2⟩)
  have GB := Lib.hid (show Bx wq G (.slice (some ⟨G1, 0, none⟩) p.size p.size) (.slice (some ⟨G2, 0, none⟩) q.size q.size) (.slice (some ⟨G3, 0, none⟩) r.size r.size) from hbx)
  have B2 := Lib.hid (Bx.below B1.out hI.bel)
  have HB2 := Lib.hid (below_next HB1.out hI.bel)
  obtain ⟨lo, hlo⟩ : ∃ lo, w1.heap.size = lo := ⟨_, rfl⟩
  rw [hlo] at OC hgw1
  simp (decide := true) only [over, Nat.reduceAdd, if_true, if_false]
  rw [e5]
  clear hI gf o1 o2 o3 a12 a13 a23 hbx e1 e2 e3 e5 g1 g2 B1 HB1 KD hlo
  have KT := iCallsText_c (some ⟨G1, 0, none⟩) p.size p.size (some ⟨G2, 0, none⟩) q.size q.size (some ⟨G3, 0, none⟩) r.size r.size ⟨bits p.data.toList, bits q.data.toList, bits r.data.toList⟩ wq (OwnC.cal OC.out)
  by_cases he : ctx ⟨bits p.data.toList, bits q.data.toList, bits r.data.toList⟩ = s
  case neg =>
    have E := Lib.hid (rd_f (fun h => he ((rd_iff HCUT.out).2 h)))
    obtain ⟨y, hy⟩ : ∃ y, ctx ⟨bits p.data.toList, bits q.data.toList, bits r.data.toList⟩ = y := ⟨_, rfl⟩
    rw [hy] at KT he
    have t0 : (y.toList == s.toList) = false := beq_false_of_ne fun e => he (by
      rw [Lib.toList_data, Lib.toList_data] at e
      exact ByteArray.ext (Array.toList_inj.1 e))
    have HT := Lib.hid KT
    clear KT hy he
    obtain ⟨⟨i0, i1, i2⟩, -⟩ := GB.out
    go_wp2_with fail
    refine Calls.mono HT.out ?_
    rintro e w5 ⟨rfl, hb5⟩
    have B5 := Lib.hid (Bx.below B2.out hb5)
    have HB5 := Lib.hid (below_next HB2.out hb5)
    clear hb5 i0 i1 i2 B2 HB2 GB OC HT
    obtain ⟨⟨c0, c1, c2⟩, hf⟩ := B5.out
    have f0 := hf 0
    have f1 := hf 1
    have f2 := hf 2
    have N := Lib.hid (newC_zero (r := g) HB5.out (by have := HG.out; omega) (fun v => .tuple #[v, .bool false]))
    clear hf
    go_wp2_with fail
    exact bodyPost_ret (v := .tuple #[.agg #[.slice none 0 0, .slice none 0 0, .slice none 0 0], .bool false]) (by simp [results, Tryd.results11, go_sem, c0, c1, c2]) rfl (by rw [E.out.1, E.out.2]; exact N.out)
  have E := Lib.hid (show rd s = ⟨bits p.data.toList, bits q.data.toList, bits r.data.toList⟩ ∧ rdB s = true from by
    obtain ⟨p', q', r', h', hc, hv⟩ := (rd_iff HCUT.out).1 he
    rw [HCUT.out] at h'
    simp only [List.cons.injEq, and_true] at h'
    obtain ⟨rfl, rfl, rfl⟩ := h'
    exact rd_t HCUT.out hc hv)
  rw [he] at KT
  have HT := Lib.hid KT
  clear KT he
  obtain ⟨⟨i0, i1, i2⟩, -⟩ := GB.out
  go_wp2_with fail
  refine Calls.mono HT.out ?_
  rintro e w5 ⟨rfl, hb5⟩
  have B5 := Lib.hid (Bx.below B2.out hb5)
  have HB5 := Lib.hid (below_next HB2.out hb5)
  have O5 := Lib.hid (OwnC.below OC.out hb5)
  have I5 := Lib.hid (Bx.below GB.out hb5)
  clear hb5 i0 i1 i2 B2 HB2 GB OC HT
  obtain ⟨⟨c0, c1, c2⟩, hf⟩ := B5.out
  obtain ⟨⟨i0, i1, i2⟩, -⟩ := I5.out
  have f0 := hf 0
  have f1 := hf 1
  have f2 := hf 2
  have N := Lib.hid (newC_end (w0 := w) (r := g) (w := w5) O5.out HB5.out (by have := HG.out; omega) (by omega) (fun v => .tuple #[v, .bool true]))
  clear hf
  go_wp2_with fail
  exact bodyPost_ret (v := .tuple #[.agg #[.slice (some ⟨G1, 0, none⟩) p.size p.size, .slice (some ⟨G2, 0, none⟩) q.size q.size, .slice (some ⟨G3, 0, none⟩) r.size r.size], .bool true]) (by simp [results, Tryd.results11, go_sem, c0, c1, c2]) rfl (by rw [E.out.1, E.out.2]; exact N.out)
end Go.Proofs.YtgenccbpkolmbaaDoor
