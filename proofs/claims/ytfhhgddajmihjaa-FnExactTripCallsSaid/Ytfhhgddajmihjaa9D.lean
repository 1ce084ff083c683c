/- The contract of SweepStops of the model. -/
import Derived.Test.Ytfhhgddajmihjaa9C
import Derived.Test.YtfhhgddajmihjaaRC
import Derived.Test.Ytfhhgddajmihjaa8N
namespace Go.Proofs.Ytfhhgddajmihjaa
open Go.RowKit
set_option linter.unusedVariables false
set_option linter.unusedSimpArgs false
set_option maxRecDepth 100000

def slen : Value → Nat
  | .slice _ n _ => n
  | _ => 0
/-- A list of stops, flat. -/
def sfl : List (Nat × Bool) → List Int
  | [] => []
  | r :: l => (r.1 : Int) :: dI r.2 :: sfl l
theorem sfl_app (l m : List (Nat × Bool)) : sfl (l ++ m) = sfl l ++ sfl m := by
  induction l with
  | nil => rfl
  | cons r l ih => simp [sfl, ih]
theorem sfl_len (l : List (Nat × Bool)) : (sfl l).length = l.length * 2 := by
  induction l with
  | nil => rfl
  | cons r l ih => simp [sfl, ih]; omega
/-- All stops. -/
noncomputable def swT (x : Cs) (f d : Int) : List (Nat × Bool) := @ite _ (SK x f d) (Classical.propDecidable _) (swl x f.toNat (decide (d = 1)) 30) []
theorem swT_t {x : Cs} {f : Nat} {up : Bool} (h : SK x f (dI up)) : swT x f (dI up) = swl x f up 30 := by
  unfold swT; rw [if_pos h]; cases up <;> rfl
theorem swT_f {x : Cs} {f d : Int} (h : ¬ SK x f d) : swT x f d = [] := by unfold swT; rw [if_neg h]
/-- How far the stops are. -/
def SWI (L acc : List (Nat × Bool)) (y : Cs) (r : Option (Nat × Bool)) : Prop := (acc.length : Int) ≤ 24 ∧ ((r = none ∧ acc = L) ∨
  ∃ k u m, r = some (k, u) ∧ CV y ∧ k < y.c.length ∧ pc y u k = true ∧ cm y < (m : Nat) + 1 ∧ (acc.length : Int) + cm y ≤ 24 ∧ L = acc ++ (k, u) :: swl (srv y k u) k u m)
theorem swi_of {L acc : List (Nat × Bool)} {y : Cs} {f : Nat} {up : Bool} {m : Nat} (hv : CV y) (hf : f < y.c.length) (hm : cm y < m) (hl : (acc.length : Int) + cm y ≤ 24) (e : L = acc ++ swl y f up m) : SWI L acc y (nx y f up) := by
  have h0 := (cm_top hv).1
  obtain ⟨m, rfl⟩ : ∃ j, m = j + 1 := ⟨m - 1, by omega⟩
  refine ⟨by omega, ?_⟩
  unfold swl at e
  rcases nx_spec y f up hf with ⟨h, -, -, hn⟩ | ⟨k, u, h, hk, hp⟩
  · rw [h] at e ⊢
    exact .inl ⟨rfl, by simpa using e.symm⟩
  · rw [h] at e ⊢
    exact .inr ⟨k, u, m, rfl, hv, hk, hp, by omega, hl, e⟩
theorem swi_next {L acc : List (Nat × Bool)} {y : Cs} {k : Nat} {u : Bool} (h : SWI L acc y (some (k, u))) : SK y k (dI u) ∧ SK (srv y k u) k (dI u) ∧ SWI L (acc ++ [(k, u)]) (srv y k u) (nx (srv y k u) k u) ∧ acc.length ≤ 23 := by
  obtain ⟨-, ⟨h, -⟩ | ⟨k', u', m, e, hv, hk, hp, hm, hl, hL⟩⟩ := h
  · cases h
  · simp only [Option.some.injEq, Prod.mk.injEq] at e
    obtain ⟨rfl, rfl⟩ := e
    have hd := srv_cm hv hk hp
    have hv2 := srv_ok u hv hk
    have h0 := (cm_top hv2).1
    have hc := (srv_len y k u).2.2
    have hd1 : dI u = 1 ∨ dI u = -1 := by cases u <;> simp [dI]
    exact ⟨⟨hv, ⟨by omega, by omega⟩, hd1⟩, ⟨hv2, ⟨by omega, by rw [hc]; omega⟩, hd1⟩, swi_of (m := m) hv2 (by rw [hc]; exact hk) (by omega) (by simp; omega) (by rw [hL]; simp), by omega⟩
theorem info_stop : ∃ i, Try.prog.info? 24 = some i ∧ i.zero = some (Value.agg #[.int .i64 (0), .int .i64 (0)]) ∧ i.size = 2 ∧ i.bytes = 16 := by
  have h : (Try.prog.info? 24).map (fun i => (i.zero, i.size, i.bytes)) = some (some (Value.agg #[.int .i64 (0), .int .i64 (0)]), 2, 16) := by kernel_rfl
  cases e : Try.prog.info? 24 with
  | none => rw [e] at h; cases h
  | some i =>
    rw [e] at h
    simp at h
    exact ⟨i, rfl, h.1, h.2.1, h.2.2⟩
theorem BS.keep {w w' : World} {a : Option Addr} {n k : Nat} {xs : List Bool} (h : BS w a n xs) (hb : ∀ q, (Value.slice a n k).ownBlock = Option.some q → w'.heap[q]? = w.heap[q]?) : BS w' a n xs := by
  obtain ⟨hl, h | ⟨b, off, rfl, h⟩⟩ := h
  · exact ⟨hl, .inl h⟩
  · exact ⟨hl, .inr ⟨b, off, rfl, fun i hi => by rw [World.cell?_of_block (w := w) (hb b rfl)]; exact h i hi⟩⟩
/-- The rows lie in none of some blocks. -/
def Away (g H N : Nat) (vo v1 v2 v3 : Value) : Prop := ∀ q, (v1.ownBlock = some q ∨ v2.ownBlock = some q ∨ v3.ownBlock = some q) → q ≠ g ∧ q ≠ H ∧ q < N ∧ vo.ownBlock ≠ some q
theorem Cal.keep {w w' : World} {a1 : Option Addr} {n1 : Nat} {a2 : Option Addr} {n2 : Nat} {a3 : Option Addr} {n3 k1 k2 k3 : Nat} {x : Cs} (h : Cal w a1 n1 a2 n2 a3 n3 x) (hb : ∀ q, ((Value.slice a1 n1 k1).ownBlock = some q ∨ (Value.slice a2 n2 k2).ownBlock = some q ∨ (Value.slice a3 n3 k3).ownBlock = some q) → w'.heap[q]? = w.heap[q]?) : Cal w' a1 n1 a2 n2 a3 n3 x :=
  ⟨BS.keep (k := k1) h.1 fun q hq => hb q (.inl hq), BS.keep (k := k2) h.2.1 fun q hq => hb q (.inr (.inl hq)), BS.keep (k := k3) h.2.2 fun q hq => hb q (.inr (.inr hq))⟩
/-- What SweepStops gives. -/
def DrawnS (w : World) (L : List (Nat × Bool)) (e : Ending) (w' : World) : Prop := ∃ v, e = .returned v ∧ OwnR 24 2 w' w.heap.size v L.length (sfl L) ∧ Below w.heap.size w w'
end Go.Proofs.Ytfhhgddajmihjaa
