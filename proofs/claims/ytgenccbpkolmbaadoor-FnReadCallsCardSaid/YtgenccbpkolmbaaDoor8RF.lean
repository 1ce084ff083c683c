/- A text is that of the calls read from it exactly if it is a text of valid calls. -/
import Derived.Test.YtgenccbpkolmbaaDoor8RE
import Derived.Test.YtgenccbpkolmbaaDoor8W
namespace Go.Proofs.YtgenccbpkolmbaaDoor
open Go.RowKit
set_option linter.unusedVariables false

def tbl (xs : List Bool) : List UInt8 := xs.map by1
theorem tbs_tbl (xs : List Bool) : (tbs xs xs.length).data.toList = tbl xs := by
  unfold tbs tbl
  simp only []
  refine List.ext_getElem (by simp) fun i h1 h2 => ?_
  have hi : i < xs.length := by simpa using h2
  simp [bn_eq hi]
theorem tbl_clean (xs : List Bool) : clean (tbl xs) := by
  intro b hb
  obtain ⟨x, _, rfl⟩ := List.mem_map.1 hb
  cases x
  · exact .inl rfl
  · exact .inr rfl
theorem clean_no {l : List UInt8} (h : clean l) : ∀ b ∈ l, b ≠ 47 := fun b hb e => by
  subst e
  rcases h _ hb with h | h <;> exact absurd h (by decide)
theorem tbl_bits {l : List UInt8} (h : clean l) : tbl (bits l) = l := by
  unfold tbl bits
  rw [List.map_map]
  refine (List.map_congr_left fun b hb => ?_).trans (List.map_id l)
  rcases h b hb with rfl | rfl <;> rfl
theorem ctx_data {x : Cs} (h : CV x) : (ctx x).data.toList = tbl x.u ++ 47 :: (tbl x.d ++ 47 :: tbl x.c) := by
  rw [ctx_t h]
  simp only [ByteArray.data_append, Array.toList_append, tbs_tbl]
  simp
theorem rd_iff {s : ByteArray} {p q r : List UInt8} (h : cut1 s.data.toList = [p, q, r]) : ctx ⟨bits p, bits q, bits r⟩ = s ↔ RdV s := by
  constructor
  · intro e
    by_cases hv : CV ⟨bits p, bits q, bits r⟩
    · have hd := ctx_data hv
      rw [e] at hd
      have hc : cut1 s.data.toList = [tbl (bits p), tbl (bits q), tbl (bits r)] := by
        rw [hd]
        simp only []
        rw [cut1_at _ _ (clean_no (tbl_clean _)), cut1_at _ _ (clean_no (tbl_clean _)), cut1_no _ (clean_no (tbl_clean _))]
      rw [h] at hc
      simp only [List.cons.injEq, and_true] at hc
      obtain ⟨h1, h2, h3⟩ := hc
      exact ⟨p, q, r, h, ⟨by rw [h1]; exact tbl_clean _, by rw [h2]; exact tbl_clean _, by rw [h3]; exact tbl_clean _⟩, hv⟩
    · rw [ctx_f hv] at e
      have := cut3 h
      rw [← e] at this
      simp at this
  · rintro ⟨p', q', r', h', ⟨c1, c2, c3⟩, hv⟩
    rw [h] at h'
    simp only [List.cons.injEq, and_true] at h'
    obtain ⟨rfl, rfl, rfl⟩ := h'
    have hd := ctx_data hv
    simp only [] at hd
    rw [tbl_bits c1, tbl_bits c2, tbl_bits c3] at hd
    have := cut3 h
    rw [← this] at hd
    exact ByteArray.ext (Array.toList_inj.1 hd)
end Go.Proofs.YtgenccbpkolmbaaDoor
