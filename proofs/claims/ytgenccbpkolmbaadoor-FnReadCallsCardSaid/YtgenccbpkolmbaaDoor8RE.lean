/- Texts of calls read, by the model: ReadCalls, the walk. -/
import Derived.Test.YtgenccbpkolmbaaDoor8RD
namespace Go.Proofs.YtgenccbpkolmbaaDoor
open Go.RowKit
set_option linter.unusedVariables false

set_option maxHeartbeats 4000000 in
theorem sReadCalls_c (s : ByteArray) (w : World) (hs : s.size ≤ 1048576) : Calls Tryd.prog 14 #[.string s] w (NewC w (rd s) (fun v => .tuple #[v, .bool (rdB s)])) := by
  obtain ⟨g, hg⟩ : ∃ g, w.heap.size = g := ⟨_, rfl⟩
  have HG := Lib.hid hg
  have B0 := Lib.hid (show Bx (w.alloc (.cells #[.slice none 0 0, .slice none 0 0, .slice none 0 0] 25)) g (.slice none 0 0) (.slice none 0 0) (.slice none 0 0) from by rw [← hg]; exact Bx.new _ _ _ _ _)
  have HB0 := Lib.hid (Below.al (Below.refl w.heap.size w) (.cells #[.slice none 0 0, .slice none 0 0, .slice none 0 0] 25))
  clear hg
  go_enter Tryd.func14, Tryd.ntmps14
  go_wp2_with fail
  try rw [HG.out]
  refine (l1Cut_c s _ hs).mono ?_
  rintro e w1 ⟨v, ps, rfl, ho, hcut, hb⟩
  have B1 := Lib.hid (Bx.below B0.out hb)
  have HB1 := Lib.hid (below_next HB0.out hb)
  have hgw1 : g < w1.heap.size := B1.out.lt
  obtain ⟨a, cap, rfl, hcells⟩ := OwnS.open ho
  clear hb B0 HB0 ho
  by_cases hlen : ps.length = 3
  case neg =>
    have t0 : ((ps.length : Int) != 3) = true := by rw [bne_iff_ne]; omega
    have hno : ¬ RdV s := fun ⟨p, q, r, h, _⟩ => hlen (by
      have := congrArg List.length hcut
      rw [h] at this
      simpa [pcs] using this)
    have E := Lib.hid (rd_f hno)
    obtain ⟨⟨c0, c1, c2⟩, hf⟩ := B1.out
    have f0 := hf 0
    have f1 := hf 1
    have f2 := hf 2
    have N := Lib.hid (newC_zero (r := g) HB1.out (by have := HG.out; omega) (fun v => .tuple #[v, .bool false]))
    clear hf hcells hlen hno hcut HB1
    go_wp2_with fail
    exact bodyPost_ret (v := .tuple #[.agg #[.slice none 0 0, .slice none 0 0, .slice none 0 0], .bool false]) (by simp [results, Tryd.results14, go_sem, c0, c1, c2]) rfl (by rw [E.out.1, E.out.2]; exact N.out)
  obtain ⟨p, q, r, rfl⟩ : ∃ p q r, ps = [p, q, r] := by
    match ps, hlen with
    | [p, q, r], _ => exact ⟨p, q, r, rfl⟩
  obtain ⟨b, rfl, hc⟩ := hcells (by simp)
  have d0 := hc 0 (by simp)
  have d1 := hc 1 (by simp)
  have d2 := hc 2 (by simp)
  simp only [List.getElem_cons_zero, List.getElem_cons_succ] at d0 d1 d2
  obtain ⟨sp, sq, sr⟩ := cut3_size hcut
  have HCUT := Lib.hid (show cut1 s.data.toList = [p.data.toList, q.data.toList, r.data.toList] from hcut.symm)
  clear hc hcells hlen hcut
  have hl3 : ([p, q, r] : List ByteArray).length = 3 := rfl
  try rw [hl3]
  clear hl3
  have KD := Lib.hid (show ∀ w', Below w1.heap.size w1 w' → w'.cell? ⟨b, 0, none⟩ = some (.string p) ∧ w'.cell? ⟨b, 1, none⟩ = some (.string q) ∧ w'.cell? ⟨b, 2, none⟩ = some (.string r) from fun w' h => ⟨cell_below d0 h, cell_below d1 h, cell_below d2 h⟩)
  clear d1 d2
  go_wp2_with fail
  refine (l8Read_c p _ (by omega)).mono ?_
  rintro e w2 ⟨v1, x1, b1, rfl, o1, hb1, R1⟩
  have TW2 := Lib.hid hb1
  obtain ⟨-, d1, -⟩ := KD.out _ hb1
  have O1 := Lib.hid o1
  have HR1 := Lib.hid R1
  clear d0 o1 R1 hb1
  go_wp2_with fail
  refine (l8Read_c q _ (by omega)).mono ?_
  rintro e w3 ⟨v2, x2, b2, rfl, o2, hb2, R2⟩
  have TW3 := Lib.hid (below_next TW2.out hb2)
  obtain ⟨-, -, d2⟩ := KD.out _ TW3.out
  have O12 := Lib.hid (OwnB.below O1.out hb2)
  have O2 := Lib.hid o2
  have HR2 := Lib.hid R2
  have L1 := Lib.hid (fun k hk => (O1.out.lt k hk).2)
  have hs23 : w2.heap.size ≤ w3.heap.size := hb2.size
  have hs12 : w1.heap.size ≤ w2.heap.size := TW2.out.size
  clear d1 o2 R2 hb2 O1 TW2
  go_wp2_with fail
  refine (l8Read_c r _ (by omega)).mono ?_
  rintro e w4 ⟨v3, x3, b3, rfl, o3, hb3, R3⟩
  have TW4 := Lib.hid (below_next TW3.out hb3)
  have L2 := Lib.hid (fun k hk => (O2.out.lt k hk).2)
  have OC := Lib.hid (OwnC.of3 (x := ⟨x1, x2, x3⟩) (OwnB.below O12.out hb3) (OwnB.below O2.out hb3) o3 hs12 hs23 L1.out L2.out hb3.size)
  have HR3 := Lib.hid R3
  have B4 := Lib.hid (Bx.below B1.out TW4.out)
  have HB4 := Lib.hid (below_next HB1.out TW4.out)
  have hs14 : w1.heap.size ≤ w4.heap.size := TW4.out.size
  clear d2 o3 R3 hb3 O12 O2 TW3 TW4 L1 L2 KD hs12 hs23 B1 HB1
  obtain ⟨u1, j1, u2, j2, u3, j3, rfl, rfl, rfl, -⟩ := OwnC.open OC.out
  obtain ⟨lo, hlo⟩ : ∃ lo, w1.heap.size = lo := ⟨_, rfl⟩
  rw [hlo] at OC hgw1 hs14
  obtain ⟨hi, hhi⟩ : ∃ hi, w4.heap.size = hi := ⟨_, rfl⟩
  have HHI := Lib.hid hhi
  rw [hhi] at OC hs14
  have OA := Lib.hid (OwnC.below OC.out ((Below.refl _ _).alloc (Nat.le_refl _) (.cells #[.slice u1 x1.length j1, .slice u2 x2.length j2, .slice u3 x3.length j3] 25)))
  have BA := Lib.hid (Bx.al B4.out (.cells #[.slice u1 x1.length j1, .slice u2 x2.length j2, .slice u3 x3.length j3] 25))
  have HBA := Lib.hid (Below.al HB4.out (.cells #[.slice u1 x1.length j1, .slice u2 x2.length j2, .slice u3 x3.length j3] 25))
  have IA := Lib.hid (show Bx (w4.alloc (.cells #[.slice u1 x1.length j1, .slice u2 x2.length j2, .slice u3 x3.length j3] 25)) hi (.slice u1 x1.length j1) (.slice u2 x2.length j2) (.slice u3 x3.length j3) from by rw [← hhi]; exact Bx.new _ _ _ _ _)
  clear hlo hhi OC B4 HB4
  rcases HR1.out with ⟨rfl, k1, e1⟩ | ⟨rfl, n1⟩
  case inr =>
    have E := Lib.hid (rd_f (show ¬ RdV s from fun ⟨p', q', r', h, hcl, _⟩ => by
      rw [HCUT.out] at h
      simp only [List.cons.injEq, and_true] at h
      obtain ⟨rfl, rfl, rfl⟩ := h
      exact n1 hcl.1))
    obtain ⟨⟨c0, c1, c2⟩, hf⟩ := BA.out
    have f0 := hf 0
    have f1 := hf 1
    have f2 := hf 2
    have N := Lib.hid (newC_zero (r := g) HBA.out (by have := HG.out; omega) (fun v => .tuple #[v, .bool false]))
    clear hf HR1 HR2 HR3 n1 OA IA BA HBA
    go_wp2_with fail
    exact bodyPost_ret (v := .tuple #[.agg #[.slice none 0 0, .slice none 0 0, .slice none 0 0], .bool false]) (by simp [results, Tryd.results14, go_sem, c0, c1, c2]) rfl (by rw [E.out.1, E.out.2]; exact N.out)
  rcases HR2.out with ⟨rfl, k2, e2⟩ | ⟨rfl, n2⟩
  case inr =>
    have E := Lib.hid (rd_f (show ¬ RdV s from fun ⟨p', q', r', h, hcl, _⟩ => by
      rw [HCUT.out] at h
      simp only [List.cons.injEq, and_true] at h
      obtain ⟨rfl, rfl, rfl⟩ := h
      exact n2 hcl.2.1))
    obtain ⟨⟨c0, c1, c2⟩, hf⟩ := BA.out
    have f0 := hf 0
    have f1 := hf 1
    have f2 := hf 2
    have N := Lib.hid (newC_zero (r := g) HBA.out (by have := HG.out; omega) (fun v => .tuple #[v, .bool false]))
    clear hf HR1 HR2 HR3 n2 k1 e1 OA IA BA HBA
    go_wp2_with fail
    exact bodyPost_ret (v := .tuple #[.agg #[.slice none 0 0, .slice none 0 0, .slice none 0 0], .bool false]) (by simp [results, Tryd.results14, go_sem, c0, c1, c2]) rfl (by rw [E.out.1, E.out.2]; exact N.out)
  rcases HR3.out with ⟨rfl, k3, e3⟩ | ⟨rfl, n3⟩
  case inr =>
    have E := Lib.hid (rd_f (show ¬ RdV s from fun ⟨p', q', r', h, hcl, _⟩ => by
      rw [HCUT.out] at h
      simp only [List.cons.injEq, and_true] at h
      obtain ⟨rfl, rfl, rfl⟩ := h
      exact n3 hcl.2.2))
    obtain ⟨⟨c0, c1, c2⟩, hf⟩ := BA.out
    have f0 := hf 0
    have f1 := hf 1
    have f2 := hf 2
    have N := Lib.hid (newC_zero (r := g) HBA.out (by have := HG.out; omega) (fun v => .tuple #[v, .bool false]))
    clear hf HR1 HR2 HR3 n3 k1 e1 k2 e2 OA IA BA HBA
    go_wp2_with fail
    exact bodyPost_ret (v := .tuple #[.agg #[.slice none 0 0, .slice none 0 0, .slice none 0 0], .bool false]) (by simp [results, Tryd.results14, go_sem, c0, c1, c2]) rfl (by rw [E.out.1, E.out.2]; exact N.out)
  have CL := Lib.hid (And.intro k1 (And.intro k2 k3))
  subst e1 e2 e3
  clear HR1 HR2 HR3 k1 k2 k3
  have V := sCallsValid_c u1 _ j1 u2 _ j2 u3 _ j3 ⟨bits p.data.toList, bits q.data.toList, bits r.data.toList⟩ _ (OwnC.cal OA.out)
  by_cases hv : CV ⟨bits p.data.toList, bits q.data.toList, bits r.data.toList⟩
  case neg =>
    rw [cvB_f hv] at V
    have HV := Lib.hid V
    have hno : ¬ RdV s := fun ⟨p', q', r', h, hcl, hv'⟩ => by
      rw [HCUT.out] at h
      simp only [List.cons.injEq, and_true] at h
      obtain ⟨rfl, rfl, rfl⟩ := h
      exact hv hv'
    have E := Lib.hid (rd_f hno)
    clear V hv hno
    obtain ⟨⟨i0, i1, i2⟩, -⟩ := IA.out
    go_wp2_with fail
    try rw [HHI.out]
    refine Calls.mono HV.out ?_
    rintro e w5 ⟨rfl, hb5⟩
    have B5 := Lib.hid (Bx.below BA.out hb5)
    have HB5 := Lib.hid (below_next HBA.out hb5)
    clear hb5 i0 i1 i2 BA HBA IA OA HV
    obtain ⟨⟨c0, c1, c2⟩, hf⟩ := B5.out
    have f0 := hf 0
    have f1 := hf 1
    have f2 := hf 2
    have N := Lib.hid (newC_zero (r := g) HB5.out (by have := HG.out; omega) (fun v => .tuple #[v, .bool false]))
    clear hf
    go_wp2_with fail
    exact bodyPost_ret (v := .tuple #[.agg #[.slice none 0 0, .slice none 0 0, .slice none 0 0], .bool false]) (by simp [results, Tryd.results14, go_sem, c0, c1, c2]) rfl (by rw [E.out.1, E.out.2]; exact N.out)
  rw [cvB_t hv] at V
  have HV := Lib.hid V
  have E := Lib.hid (rd_t HCUT.out CL.out hv)
  clear V hv
  obtain ⟨⟨i0, i1, i2⟩, -⟩ := IA.out
  go_wp2_with fail
  try rw [HHI.out]
  refine Calls.mono HV.out ?_
  rintro e w5 ⟨rfl, hb5⟩
  have B5 := Lib.hid (Bx.below BA.out hb5)
  have HB5 := Lib.hid (below_next HBA.out hb5)
  have O5 := Lib.hid (OwnC.below OA.out hb5)
  have I5 := Lib.hid (Bx.below IA.out hb5)
  clear hb5 i0 i1 i2 BA HBA IA OA HV
  obtain ⟨⟨c0, c1, c2⟩, hf⟩ := B5.out
  obtain ⟨⟨i0, i1, i2⟩, -⟩ := I5.out
  have f0 := hf 0
  have f1 := hf 1
  have f2 := hf 2
  have N := Lib.hid (newC_end (w0 := w) (r := g) (w := w5) O5.out HB5.out (by have := HG.out; omega) (by omega) (fun v => .tuple #[v, .bool true]))
  clear hf
  go_wp2_with fail
  exact bodyPost_ret (v := .tuple #[.agg #[.slice u1 (bits p.data.toList).length j1, .slice u2 (bits q.data.toList).length j2, .slice u3 (bits r.data.toList).length j3], .bool true]) (by simp [results, Tryd.results14, go_sem, c0, c1, c2]) rfl (by rw [E.out.1, E.out.2]; exact N.out)
end Go.Proofs.YtgenccbpkolmbaaDoor
