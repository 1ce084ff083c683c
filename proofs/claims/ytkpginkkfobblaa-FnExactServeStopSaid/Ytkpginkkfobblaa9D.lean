/- The contract of SweepStops of the model. -/
import Derived.Test.Ytkpginkkfobblaa9C
import Derived.Test.YtkpginkkfobblaaRC
import Derived.Test.Ytkpginkkfobblaa8N
namespace Go.Proofs.Ytkpginkkfobblaa
open Go.RowKit
set_option linter.unusedVariables false

def slen : Value → Nat
  | .slice _ n _ => n
  | _ => 0
/-- A list of stops, flat. -/
def sfl : List (Nat × Bool) → List Int
  | [] => []
  | r :: l => (r.1 : Int) :: dI r.2 :: sfl l
theorem sfl_app (l m : List (Nat × Bool)) : sfl (l ++ m) = sfl l ++ sfl m := by
  induction l with
  | nil => rfl
  | cons r l ih => simp [sfl, ih]
theorem sfl_len (l : List (Nat × Bool)) : (sfl l).length = l.length * 2 := by
  induction l with
  | nil => rfl
  | cons r l ih => simp [sfl, ih]; omega
/-- All stops. -/
noncomputable def swT (x : Cs) (f d : Int) : List (Nat × Bool) := @ite _ (SK x f d) (Classical.propDecidable _) (swl x f.toNat (decide (d = 1)) 30) []
theorem swT_t {x : Cs} {f : Nat} {up : Bool} (h : SK x f (dI up)) : swT x f (dI up) = swl x f up 30 := by
  unfold swT; rw [if_pos h]; cases up <;> rfl
theorem swT_f {x : Cs} {f d : Int} (h : ¬ SK x f d) : swT x f d = [] := by unfold swT; rw [if_neg h]
/-- How far the stops are. -/
def SWI (L acc : List (Nat × Bool)) (y : Cs) (r : Option (Nat × Bool)) : Prop := (acc.length : Int) ≤ 24 ∧ ((r = none ∧ acc = L) ∨
  ∃ k u m, r = some (k, u) ∧ CV y ∧ k < y.c.length ∧ pc y u k = true ∧ cm y < (m : Nat) + 1 ∧ (acc.length : Int) + cm y ≤ 24 ∧ L = acc ++ (k, u) :: swl (srv y k u) k u m)
theorem swi_of {L acc : List (Nat × Bool)} {y : Cs} {f : Nat} {up : Bool} {m : Nat} (hv : CV y) (hf : f < y.c.length) (hm : cm y < m) (hl : (acc.length : Int) + cm y ≤ 24) (e : L = acc ++ swl y f up m) : SWI L acc y (nx y f up) := by
  have h0 := (cm_top hv).1
  obtain ⟨m, rfl⟩ : ∃ j, m = j + 1 := ⟨m - 1, by omega⟩
  refine ⟨by omega, ?_⟩
  unfold swl at e
  rcases nx_spec y f up hf with ⟨h, -, -, hn⟩ | ⟨k, u, h, hk, hp⟩
  · rw [h] at e ⊢
    exact .inl ⟨rfl, by simpa using e.symm⟩
  · rw [h] at e ⊢
    exact .inr ⟨k, u, m, rfl, hv, hk, hp, by omega, hl, e⟩
theorem swi_next {L acc : List (Nat × Bool)} {y : Cs} {k : Nat} {u : Bool} (h : SWI L acc y (some (k, u))) : SK y k (dI u) ∧ SK (srv y k u) k (dI u) ∧ SWI L (acc ++ [(k, u)]) (srv y k u) (nx (srv y k u) k u) ∧ acc.length ≤ 23 := by
  obtain ⟨-, ⟨h, -⟩ | ⟨k', u', m, e, hv, hk, hp, hm, hl, hL⟩⟩ := h
  · cases h
  · simp only [Option.some.injEq, Prod.mk.injEq] at e
    obtain ⟨rfl, rfl⟩ := e
    have hd := srv_cm hv hk hp
    have hv2 := srv_ok u hv hk
    have h0 := (cm_top hv2).1
    have hc := (srv_len y k u).2.2
    have hd1 : dI u = 1 ∨ dI u = -1 := by cases u <;> simp [dI]
    exact ⟨⟨hv, ⟨by omega, by omega⟩, hd1⟩, ⟨hv2, ⟨by omega, by rw [hc]; omega⟩, hd1⟩, swi_of (m := m) hv2 (by rw [hc]; exact hk) (by omega) (by simp; omega) (by rw [hL]; simp), by omega⟩
theorem info_stop : ∃ i, Try.prog.info? 27 = some i ∧ i.zero = some (Value.agg #[.int .i64 (0), .int .i64 (0)]) ∧ i.size = 2 ∧ i.bytes = 16 := by
  have h : (Try.prog.info? 27).map (fun i => (i.zero, i.size, i.bytes)) = some (some (Value.agg #[.int .i64 (0), .int .i64 (0)]), 2, 16) := by kernel_rfl
  cases e : Try.prog.info? 27 with
  | none => rw [e] at h; cases h
  | some i =>
    rw [e] at h
    simp at h
    exact ⟨i, rfl, h.1, h.2.1, h.2.2⟩
theorem wpList_append_stop {w : World} {ops : Array Oper} {rest : List Oper} {act : Act} {Q : Exit → Act → World → Prop} {d : Option Tmp} {s x : Operand} {ty0 : TypeId} {ps : String} {af : Array Edge} {B G : Nat} {n : Nat} {xs : List Int} {v : Value} {a b : Int}
    (hown : OwnR 27 2 w B v n xs) (hs : act.eval s = v) (hx : act.eval x = .slice (some ⟨G, 0, none⟩) 1 1) (hc : Ints w G 0 [a, b]) (hn : n ≤ 1048577) (hB : B ≤ w.heap.size)
    (hK : ∀ v' w', OwnR 27 2 w' B v' (n + 1) (xs ++ [a, b]) → w.grownBy w' v.ownBlock → (v'.ownBlock = v.ownBlock ∨ v'.ownBlock = some w.heap.size) → wpList Try.prog ops Q rest (act.put d v') w') :
    wpList Try.prog ops Q ({ dst := d, op := .call { callee := .builtin .append, args := #[s, x], argTypes := #[38, 38] }, type := ty0, pos := ps, after := af, guard := none } :: rest) act w :=
  wpList_append_R 27 38 2 16 (Value.agg #[.int .i64 (0), .int .i64 (0)]) [a, b] Try.underlying38 info_stop rfl (by decide) (by decide) hown hs hx rfl hc hn hB hK
theorem BS.keep {w w' : World} {a : Option Addr} {n k : Nat} {xs : List Bool} (h : BS w a n xs) (hb : ∀ q, (Value.slice a n k).ownBlock = Option.some q → w'.heap[q]? = w.heap[q]?) : BS w' a n xs := by
  obtain ⟨hl, h | ⟨b, off, rfl, h⟩⟩ := h
  · exact ⟨hl, .inl h⟩
  · exact ⟨hl, .inr ⟨b, off, rfl, fun i hi => by rw [World.cell?_of_block (w := w) (hb b rfl)]; exact h i hi⟩⟩
/-- The rows lie in none of some blocks. -/
def Away (g H N : Nat) (vo v1 v2 v3 : Value) : Prop := ∀ q, (v1.ownBlock = some q ∨ v2.ownBlock = some q ∨ v3.ownBlock = some q) → q ≠ g ∧ q ≠ H ∧ q < N ∧ vo.ownBlock ≠ some q
theorem Cal.keep {w w' : World} {a1 : Option Addr} {n1 : Nat} {a2 : Option Addr} {n2 : Nat} {a3 : Option Addr} {n3 k1 k2 k3 : Nat} {x : Cs} (h : Cal w a1 n1 a2 n2 a3 n3 x) (hb : ∀ q, ((Value.slice a1 n1 k1).ownBlock = some q ∨ (Value.slice a2 n2 k2).ownBlock = some q ∨ (Value.slice a3 n3 k3).ownBlock = some q) → w'.heap[q]? = w.heap[q]?) : Cal w' a1 n1 a2 n2 a3 n3 x :=
  ⟨BS.keep (k := k1) h.1 fun q hq => hb q (.inl hq), BS.keep (k := k2) h.2.1 fun q hq => hb q (.inr (.inl hq)), BS.keep (k := k3) h.2.2 fun q hq => hb q (.inr (.inr hq))⟩
/-- What SweepStops gives. -/
def DrawnS (w : World) (L : List (Nat × Bool)) (e : Ending) (w' : World) : Prop := ∃ v, e = .returned v ∧ OwnR 27 2 w' w.heap.size v L.length (sfl L) ∧ Below w.heap.size w w'
set_option maxHeartbeats 2000000 in
theorem sSweepStops_f (a1 : Option Addr) (n1 k1 : Nat) (a2 : Option Addr) (n2 k2 : Nat) (a3 : Option Addr) (n3 k3 : Nat) (x : Cs) (f d : Int) (w : World) (hX : Cal w a1 n1 a2 n2 a3 n3 x) (h : ¬ SK x f d) : Calls Try.prog 23 #[(.agg #[.slice a1 n1 k1, .slice a2 n2 k2, .slice a3 n3 k3]), (Value.agg #[.int .i64 (f), .int .i64 (d)])] w (DrawnS w []) := by
  have X0 := Lib.hid hX
  have K := fun w' (h : Cal w' a1 n1 a2 n2 a3 n3 x) => sNextStop_c a1 n1 k1 a2 n2 k2 a3 n3 k3 x f d w' h
  rw [nsv_f h] at K
  have HK := Lib.hid (show ∀ w' (h : Cal w' a1 n1 a2 n2 a3 n3 x), Calls Try.prog 11 #[(.agg #[.slice a1 n1 k1, .slice a2 n2 k2, .slice a3 n3 k3]), (Value.agg #[.int .i64 (f), .int .i64 (d)])] w' (Mk w' (Value.agg #[.int .i64 (-1), .int .i64 (0)])) from K)
  clear hX h K
  refine at_base fun wn hwn => ?_
  have T := Lib.hid (show Below w.heap.size w wn from by rw [hwn]; exact Below.refl _ _)
  clear hwn
  obtain ⟨g, hg⟩ : ∃ g, Array.size (World.heap wn) = g := ⟨_, rfl⟩
  have HGg := Lib.hid hg
  have hTg : w.heap.size ≤ g := by rw [← hg]; exact T.out.size
  have Tn := Lib.hid (show Below w.heap.size w (((wn.alloc (.cells #[.slice a1 n1 k1, .slice a2 n2 k2, .slice a3 n3 k3] 25)).alloc (.cells #[.int .i64 (f), .int .i64 (d)] 27)).alloc (.cells #[] 27)) from (Below.al (Below.al (Below.al T.out (.cells #[.slice a1 n1 k1, .slice a2 n2 k2, .slice a3 n3 k3] 25)) (.cells #[.int .i64 (f), .int .i64 (d)] 27)) (.cells #[] 27)))
  have CB := Lib.hid (show Bx (((wn.alloc (.cells #[.slice a1 n1 k1, .slice a2 n2 k2, .slice a3 n3 k3] 25)).alloc (.cells #[.int .i64 (f), .int .i64 (d)] 27)).alloc (.cells #[] 27)) g (.slice a1 n1 k1) (.slice a2 n2 k2) (.slice a3 n3 k3) from by have h9 := (Bx.al (Bx.al (Bx.new wn (.slice a1 n1 k1) (.slice a2 n2 k2) (.slice a3 n3 k3) 25) (.cells #[.int .i64 (f), .int .i64 (d)] 27)) (.cells #[] 27)); simp only [World.size_alloc, hg, Nat.add_assoc, Nat.reduceAdd] at h9; exact h9)
  have SB := Lib.hid (show Box (((wn.alloc (.cells #[.slice a1 n1 k1, .slice a2 n2 k2, .slice a3 n3 k3] 25)).alloc (.cells #[.int .i64 (f), .int .i64 (d)] 27)).alloc (.cells #[] 27)) (g + 1) (f) (d) from by have h9 := (Box.al (Box.new (wn.alloc (.cells #[.slice a1 n1 k1, .slice a2 n2 k2, .slice a3 n3 k3] 25)) (f) (d) 27) (.cells #[] 27)); simp only [World.size_alloc, hg, Nat.add_assoc, Nat.reduceAdd] at h9; exact h9)
  have O := Lib.hid (show OwnR 27 2 (((wn.alloc (.cells #[.slice a1 n1 k1, .slice a2 n2 k2, .slice a3 n3 k3] 25)).alloc (.cells #[.int .i64 (f), .int .i64 (d)] 27)).alloc (.cells #[] 27)) (g + 2) (.slice (some ⟨(g + 2), 0, none⟩) 0 0) 0 [] from by have h9 := (OwnR.none0 (E := 27) (k := 2) (w := ((wn.alloc (.cells #[.slice a1 n1 k1, .slice a2 n2 k2, .slice a3 n3 k3] 25)).alloc (.cells #[.int .i64 (f), .int .i64 (d)] 27)))); simp only [World.size_alloc, hg, Nat.add_assoc, Nat.reduceAdd] at h9; exact h9)
  have HZg := Lib.hid (show ((((wn.alloc (.cells #[.slice a1 n1 k1, .slice a2 n2 k2, .slice a3 n3 k3] 25)).alloc (.cells #[.int .i64 (f), .int .i64 (d)] 27)).alloc (.cells #[] 27))).heap.size = g + 3 from by simp only [World.size_alloc, hg, Nat.add_assoc, Nat.reduceAdd])
  clear hg
  clear T
  have T := Tn
  clear Tn
  go_enter Try.func23, Try.ntmps23
  go_wp2_with fail
  rw [HGg.out]
  refine Calls.mono (HK.out _ (Cal.below X0.out T.out)) ?_
  intro e wn hh
  obtain ⟨he, hb⟩ := (by first | exact hh | exact Ro.mk hh | exact St.mk hh | exact LawOk.mk' hh : Mk _ _ e wn)
  subst he
  have Tn : Hid (Below w.heap.size w wn) := below_next T.out hb
  have CBn : Hid _ := Bx.below CB.out hb
  have SBn : Hid _ := Box.below SB.out hb
  have On : Hid _ := OwnR.below O.out hb
  clear hb hh
  clear T CB SB O
  have T := Tn
  have CB := CBn
  have SB := SBn
  have O := On
  clear Tn CBn SBn On
  have hltCBHN := Bx.lt CB.out
  have hltSBHN := Box.lt SB.out
  have hWHN := T.out.size
  obtain ⟨HN, hHN⟩ : ∃ HN, Array.size (World.heap wn) = HN := ⟨_, rfl⟩
  have HHN : Hid _ := hHN
  rw [hHN] at hWHN hltCBHN hltSBHN
  have NB : Hid (Box (wn.alloc (.cells #[.int .i64 (-1), .int .i64 0] 27)) HN (-1) 0) := by rw [← hHN]; exact Box.new _ _ _ _
  clear hHN
  have Tn : Hid (Below w.heap.size w _) := Below.al T.out (.cells #[.int .i64 (-1), .int .i64 0] 27)
  have CBn : Hid _ := Bx.below CB.out ((Below.refl _ _).alloc (Nat.le_refl _) (.cells #[.int .i64 (-1), .int .i64 0] 27))
  have SBn : Hid _ := Box.below SB.out ((Below.refl _ _).alloc (Nat.le_refl _) (.cells #[.int .i64 (-1), .int .i64 0] 27))
  have On : Hid _ := OwnR.below O.out ((Below.refl _ _).alloc (Nat.le_refl _) (.cells #[.int .i64 (-1), .int .i64 0] 27))
  clear T CB SB O
  have T := Tn
  have CB := CBn
  have SB := SBn
  have O := On
  clear Tn CBn SBn On
  go_wp2_with fail
  rw [HHN.out]
  go_loopw [5] (fun v wr => ∃ (_ : Nat), v = .slice (some ⟨g + 2, 0, none⟩) 0 0 ∧ Below w.heap.size w wr ∧ Bx wr g (.slice a1 n1 k1) (.slice a2 n2 k2) (.slice a3 n3 k3) ∧ Box wr (g + 1) (f) (d) ∧ OwnR 27 2 wr (g + 2) (.slice (some ⟨(g + 2), 0, none⟩) 0 0) 0 [] ∧ Box wr HN (-1) 0) (fun v _ => 0)
  case atStart => exact ⟨0, rfl, T.out, CB.out, SB.out, O.out, NB.out⟩
  case' round =>
    clear T CB SB O NB
    obtain ⟨z0, rfl, h9T, h9CB, h9SB, h9O, h9NB⟩ := hrel
    obtain ⟨wn, hwq⟩ : ∃ w0 : World, w0 = wr := ⟨_, rfl⟩
    rw [← hwq] at h9T h9CB h9SB h9O h9NB ⊢
    clear hwq
    have T := Lib.hid h9T
    have CB := Lib.hid h9CB
    have SB := Lib.hid h9SB
    have O := Lib.hid h9O
    have NB := Lib.hid h9NB
    clear h9T h9CB h9SB h9O h9NB
    obtain ⟨⟨c0, c1⟩, cf0, cf1⟩ := NB.out
    go_wp2_with fail
    go_ret
    exact ⟨_, rfl, OwnR.mono O.out (by omega), T.out⟩
set_option maxHeartbeats 4000000 in
theorem sSweepStops_t (a1 : Option Addr) (n1 k1 : Nat) (a2 : Option Addr) (n2 k2 : Nat) (a3 : Option Addr) (n3 k3 : Nat) (x : Cs) (f : Nat) (up : Bool) (w : World) (hX : Cal w a1 n1 a2 n2 a3 n3 x) (h : SK x f (dI up)) : Calls Try.prog 23 #[(.agg #[.slice a1 n1 k1, .slice a2 n2 k2, .slice a3 n3 k3]), (Value.agg #[.int .i64 (f), .int .i64 (dI up)])] w (DrawnS w (swl x f up 30)) := by
  have X0 := Lib.hid hX
  have hv := h.1
  obtain ⟨rfl, rfl, h3, h8, b1, o1, b2, o2, b3, o3, rfl, rfl, rfl⟩ := CV.rows hv hX
  have hf : f < x.c.length := by have := h.2.1.2; omega
  have n1 : 1 ≤ n2 := by rw [h3]; exact hv.1
  have K := fun w' (h : Cal w' (some ⟨b1, o1, none⟩) n2 (some ⟨b2, o2, none⟩) n2 (some ⟨b3, o3, none⟩) n2 x) => sNextStop_c (some ⟨b1, o1, none⟩) n2 k1 (some ⟨b2, o2, none⟩) n2 k2 (some ⟨b3, o3, none⟩) n2 k3 x f (dI up) w' h
  rw [nsv_t h] at K
  have hI : SWI (swl x f up 30) [] x (nx x f up) := swi_of (m := 30) hv hf (by have := cm_bd x; omega) (by have := cm_bd x; simp; omega) rfl
  have l1 : b1 < w.heap.size := World.block_lt_of_cell? w _ (BS.cell hX.1 (i := 0) (by omega))
  have l2 : b2 < w.heap.size := World.block_lt_of_cell? w _ (BS.cell hX.2.1 (i := 0) (by omega))
  have l3 : b3 < w.heap.size := World.block_lt_of_cell? w _ (BS.cell hX.2.2 (i := 0) (by omega))
  obtain ⟨L, hL⟩ : ∃ L, swl x f up 30 = L := ⟨_, rfl⟩
  obtain ⟨r, hr⟩ : ∃ r, nx x f up = r := ⟨_, rfl⟩
  rw [hL, hr] at hI
  rw [hr] at K
  rw [hL]
  have HK := Lib.hid K
  have HI := Lib.hid hI
  clear hX h K hI hL hr hv hf h3 n1
  refine at_base fun wn hwn => ?_
  have T := Lib.hid (show Below w.heap.size w wn from by rw [hwn]; exact Below.refl _ _)
  clear hwn
  obtain ⟨g, hg⟩ : ∃ g, Array.size (World.heap wn) = g := ⟨_, rfl⟩
  have HGg := Lib.hid hg
  have hTg : w.heap.size ≤ g := by rw [← hg]; exact T.out.size
  have Tn := Lib.hid (show Below w.heap.size w (((wn.alloc (.cells #[.slice (some ⟨b1, o1, none⟩) n2 k1, .slice (some ⟨b2, o2, none⟩) n2 k2, .slice (some ⟨b3, o3, none⟩) n2 k3] 25)).alloc (.cells #[.int .i64 (f), .int .i64 (dI up)] 27)).alloc (.cells #[] 27)) from (Below.al (Below.al (Below.al T.out (.cells #[.slice (some ⟨b1, o1, none⟩) n2 k1, .slice (some ⟨b2, o2, none⟩) n2 k2, .slice (some ⟨b3, o3, none⟩) n2 k3] 25)) (.cells #[.int .i64 (f), .int .i64 (dI up)] 27)) (.cells #[] 27)))
  have CB := Lib.hid (show Bx (((wn.alloc (.cells #[.slice (some ⟨b1, o1, none⟩) n2 k1, .slice (some ⟨b2, o2, none⟩) n2 k2, .slice (some ⟨b3, o3, none⟩) n2 k3] 25)).alloc (.cells #[.int .i64 (f), .int .i64 (dI up)] 27)).alloc (.cells #[] 27)) g (.slice (some ⟨b1, o1, none⟩) n2 k1) (.slice (some ⟨b2, o2, none⟩) n2 k2) (.slice (some ⟨b3, o3, none⟩) n2 k3) from by have h9 := (Bx.al (Bx.al (Bx.new wn (.slice (some ⟨b1, o1, none⟩) n2 k1) (.slice (some ⟨b2, o2, none⟩) n2 k2) (.slice (some ⟨b3, o3, none⟩) n2 k3) 25) (.cells #[.int .i64 (f), .int .i64 (dI up)] 27)) (.cells #[] 27)); simp only [World.size_alloc, hg, Nat.add_assoc, Nat.reduceAdd] at h9; exact h9)
  have SB := Lib.hid (show Box (((wn.alloc (.cells #[.slice (some ⟨b1, o1, none⟩) n2 k1, .slice (some ⟨b2, o2, none⟩) n2 k2, .slice (some ⟨b3, o3, none⟩) n2 k3] 25)).alloc (.cells #[.int .i64 (f), .int .i64 (dI up)] 27)).alloc (.cells #[] 27)) (g + 1) (f) (dI up) from by have h9 := (Box.al (Box.new (wn.alloc (.cells #[.slice (some ⟨b1, o1, none⟩) n2 k1, .slice (some ⟨b2, o2, none⟩) n2 k2, .slice (some ⟨b3, o3, none⟩) n2 k3] 25)) (f) (dI up) 27) (.cells #[] 27)); simp only [World.size_alloc, hg, Nat.add_assoc, Nat.reduceAdd] at h9; exact h9)
  have O := Lib.hid (show OwnR 27 2 (((wn.alloc (.cells #[.slice (some ⟨b1, o1, none⟩) n2 k1, .slice (some ⟨b2, o2, none⟩) n2 k2, .slice (some ⟨b3, o3, none⟩) n2 k3] 25)).alloc (.cells #[.int .i64 (f), .int .i64 (dI up)] 27)).alloc (.cells #[] 27)) (g + 2) (.slice (some ⟨(g + 2), 0, none⟩) 0 0) 0 [] from by have h9 := (OwnR.none0 (E := 27) (k := 2) (w := ((wn.alloc (.cells #[.slice (some ⟨b1, o1, none⟩) n2 k1, .slice (some ⟨b2, o2, none⟩) n2 k2, .slice (some ⟨b3, o3, none⟩) n2 k3] 25)).alloc (.cells #[.int .i64 (f), .int .i64 (dI up)] 27)))); simp only [World.size_alloc, hg, Nat.add_assoc, Nat.reduceAdd] at h9; exact h9)
  have HZg := Lib.hid (show ((((wn.alloc (.cells #[.slice (some ⟨b1, o1, none⟩) n2 k1, .slice (some ⟨b2, o2, none⟩) n2 k2, .slice (some ⟨b3, o3, none⟩) n2 k3] 25)).alloc (.cells #[.int .i64 (f), .int .i64 (dI up)] 27)).alloc (.cells #[] 27))).heap.size = g + 3 from by simp only [World.size_alloc, hg, Nat.add_assoc, Nat.reduceAdd])
  clear hg
  clear T
  have T := Tn
  clear Tn
  go_enter Try.func23, Try.ntmps23
  clear SB
  go_wp2_with fail
  rw [HGg.out]
  refine Calls.mono (HK.out _ (Cal.below X0.out T.out)) ?_
  intro e wn hh
  obtain ⟨he, hb⟩ := (by first | exact hh | exact Ro.mk hh | exact St.mk hh | exact LawOk.mk' hh : Mk _ _ e wn)
  subst he
  have Tn : Hid (Below w.heap.size w wn) := below_next T.out hb
  have CBn : Hid _ := Bx.below CB.out hb
  have On : Hid _ := OwnR.below O.out hb
  clear hb hh
  clear T CB O
  have T := Tn
  have CB := CBn
  have O := On
  clear Tn CBn On
  have hgO := (OwnR.lt O.out (g + 2) rfl).2
  have hltCBHN := Bx.lt CB.out
  have hWHN := T.out.size
  obtain ⟨HN, hHN⟩ : ∃ HN, Array.size (World.heap wn) = HN := ⟨_, rfl⟩
  have HHN : Hid _ := hHN
  rw [hHN] at hWHN hltCBHN
  have NB : Hid (Box (wn.alloc (.cells #[.int .i64 (oF r), .int .i64 (oD r)] 27)) HN (oF r) (oD r)) := by rw [← hHN]; exact Box.new _ _ _ _
  clear hHN
  have Tn : Hid (Below w.heap.size w _) := Below.al T.out (.cells #[.int .i64 (oF r), .int .i64 (oD r)] 27)
  have CBn : Hid _ := Bx.below CB.out ((Below.refl _ _).alloc (Nat.le_refl _) (.cells #[.int .i64 (oF r), .int .i64 (oD r)] 27))
  have On : Hid _ := OwnR.below O.out ((Below.refl _ _).alloc (Nat.le_refl _) (.cells #[.int .i64 (oF r), .int .i64 (oD r)] 27))
  clear T CB O
  have T := Tn
  have CB := CBn
  have O := On
  clear Tn CBn On
  rw [HHN.out] at hgO
  have X1 := Lib.hid (Cal.below X0.out T.out)
  have A0 := Lib.hid (show Away g HN HN (.slice (some ⟨g + 2, 0, none⟩) 0 0) (.slice (some ⟨b1, o1, none⟩) n2 k1) (.slice (some ⟨b2, o2, none⟩) n2 k2) (.slice (some ⟨b3, o3, none⟩) n2 k3) from by
    intro q hq
    have : q = b1 ∨ q = b2 ∨ q = b3 := by
      simp only [Value.ownBlock, Option.some.injEq] at hq
      omega
    refine ⟨by omega, by omega, by omega, ?_⟩
    intro e
    have e2 : g + 2 = q := by simpa [Value.ownBlock] using e
    omega)
  go_wp2_with fail
  rw [HHN.out]
  go_loopw [5] (fun v wr => ∃ (acc : List (Nat × Bool)) (y : Cs) (r : Option (Nat × Bool)) (a1 a2 a3 : Option Addr) (j1 j2 j3 : Nat), SWI L acc y r ∧ OwnR 27 2 wr (g + 2) v acc.length (sfl acc) ∧ (∀ q, v.ownBlock = some q → q ≠ HN) ∧ Away g HN wr.heap.size v (.slice a1 n2 j1) (.slice a2 n2 j2) (.slice a3 n2 j3) ∧
    Cal wr a1 n2 a2 n2 a3 n2 y ∧ Bx wr g (.slice a1 n2 j1) (.slice a2 n2 j2) (.slice a3 n2 j3) ∧ Box wr HN (oF r) (oD r) ∧ Below w.heap.size w wr) (fun v _ => 30 - slen v)
  case atStart => exact ⟨[], x, r, some ⟨b1, o1, none⟩, some ⟨b2, o2, none⟩, some ⟨b3, o3, none⟩, k1, k2, k3, HI.out, O.out, (fun q e => by have e2 : g + 2 = q := by simpa [Value.ownBlock] using e
                                                                                                                                            omega), (by rw [World.size_alloc, HHN.out]; exact fun q hq => let ⟨h1, h2, h3, h4⟩ := A0.out q hq; ⟨h1, h2, by omega, h4⟩), X1.out, CB.out, NB.out, T.out⟩
  case round =>
    clear NB CB T O HI A0 X1 HK X0
    obtain ⟨acc, y, r, a1, a2, a3, j1, j2, j3, hI, hO, hNe, hA, hX, hCB, hNB, hT⟩ := hrel
    obtain ⟨wn, hwq⟩ : ∃ w0 : World, w0 = wr := ⟨_, rfl⟩
    rw [← hwq] at hO hA hX hCB hNB hT ⊢
    clear hwq
    obtain ⟨av, cv, hv, -, -⟩ := OwnR.open hO
    subst hv
    have HI := Lib.hid hI
    have O := Lib.hid hO
    have HNE := Lib.hid hNe
    have HA := Lib.hid hA
    have X := Lib.hid hX
    have CB := Lib.hid hCB
    have T := Lib.hid hT
    clear hI hO hNe hA hX hCB hT
    cases r with
    | none =>
      have E := Lib.hid (show acc = L from by
        rcases HI.out.2 with ⟨-, e⟩ | ⟨k, u, m, e, -⟩
        · exact e
        · cases e)
      have NB := Lib.hid (show Box wn HN (-1) 0 from hNB)
      clear hNB
      obtain ⟨⟨c0, c1⟩, cf0, cf1⟩ := NB.out
      go_wp2_with fail
      go_ret
      have e := E.out
      subst e
      exact ⟨_, rfl, OwnR.mono (A := w.heap.size) (B := g + 2) O.out (by omega), T.out⟩
    | some r =>
      obtain ⟨k, u⟩ := r
      obtain ⟨sk1, sk2, hI2, hacc⟩ := swi_next HI.out
      have NB := Lib.hid (show Box wn HN (k : Int) (dI u) from hNB)
      obtain ⟨d1, d2, -⟩ := dI_bd u
      have hk8 : (k : Int) < 8 := by
        have := sk1.2.1
        have := sk1.1.2.1
        omega
      have hl1 := (srv_len y k u)
      have hy1 := X.out.1.1
      have hy2 := X.out.2.1.1
      have hy3 := X.out.2.2.1
      have KN := fun (w' : World) (p1 p2 p3 : Option Addr) (m1 m2 m3 i1 i2 i3 : Nat) (h : Cal w' p1 m1 p2 m2 p3 m3 (srv y k u)) => sNextStop_c p1 m1 i1 p2 m2 i2 p3 m3 i3 (srv y k u) k (dI u) w' h
      rw [nsv_t sk2] at KN
      have KS := fun (w' : World) (h : Cal w' a1 n2 a2 n2 a3 n2 y) => sServeStop_c a1 n2 j1 a2 n2 j2 a3 n2 j3 y k u w' h sk1
      obtain ⟨r2, hr2⟩ : ∃ r2, nx (srv y k u) k u = r2 := ⟨_, rfl⟩
      obtain ⟨y2, hy⟩ : ∃ y2, srv y k u = y2 := ⟨_, rfl⟩
      rw [hr2] at KN
      rw [hy] at hr2
      rw [hy] at KN KS hI2 hl1
      rw [hr2] at hI2
      have HL := Lib.hid (show y2.u.length = n2 ∧ y2.d.length = n2 ∧ y2.c.length = n2 from ⟨by omega, by omega, by omega⟩)
      obtain ⟨D, hD⟩ : ∃ D, dI u = D := ⟨_, rfl⟩
      have HF := Lib.hid (show sfl (acc ++ [(k, u)]) = sfl acc ++ [(k : Int), D] from by rw [sfl_app, ← hD]; rfl)
      rw [hD] at KN KS NB d1 d2
      have HKN := Lib.hid KN
      have HKS := Lib.hid KS
      have HI2 := Lib.hid hI2
      clear KN KS hI2 hl1 hy1 hy2 hy3 hr2 hy hD hNB sk1 sk2 HI
      obtain ⟨S, hS⟩ : ∃ S, wn.heap.size = S := ⟨_, rfl⟩
      have HS := Lib.hid hS
      have hOlt := OwnR.lt O.out
      have hgS : g < S := by rw [← hS]; exact Bx.lt CB.out
      have hNS : HN < S := by rw [← hS]; exact Box.lt NB.out
      have hwS : w.heap.size ≤ S := by rw [← hS]; exact T.out.size
      have OA := Lib.hid (OwnR.al O.out (.cells #[.int .i64 (k : Int), .int .i64 D] 27))
      have IN := Lib.hid (show Ints (wn.alloc (.cells #[.int .i64 (k : Int), .int .i64 D] 27)) S 0 [(k : Int), D] from by
        intro i hi
        have : i = 0 ∨ i = 1 := by simp at hi; omega
        rcases this with rfl | rfl <;> (rw [World.cell?_alloc_at _ _ _ _ hS.symm]; rfl))
      obtain ⟨⟨c0, c1⟩, cf0, cf1⟩ := NB.out
      have hn1 : acc.length ≤ 1048577 := by omega
      have hB1 : g + 2 ≤ (wn.alloc (.cells #[.int .i64 (k : Int), .int .i64 D] 27)).heap.size := by rw [World.size_alloc, hS]; omega
      go_wp2_with (with_reducible refine wpList_append_stop OA.out rfl rfl IN.out hn1 hB1 ?_)
      intro v2 w2 hO2 hgr hat
      rw [World.size_alloc, hS] at hat
      have hbl : ∀ q, q < S → (Value.slice av acc.length cv).ownBlock ≠ some q → w2.heap[q]? = wn.heap[q]? := fun q hq hne => (hgr.block q (by rw [World.size_alloc, hS]; omega) hne.symm).trans (Below.heap_alloc wn _ q (by omega))
      have hlt2 := OwnR.lt hO2
      have O2 := Lib.hid hO2
      have CB2 := Lib.hid (Bx.block CB.out (hbl g hgS (fun e => by have := (hOlt g e).1; omega)))
      have NB2 := Lib.hid (Box.block NB.out (hbl HN hNS (fun e => HNE.out HN e rfl)))
      have X2 := Lib.hid (Cal.keep (w' := w2) (k1 := j1) (k2 := j2) (k3 := j3) X.out (fun q hq => by
        have h9 := HA.out q hq
        rw [hS] at h9
        exact hbl q h9.2.2.1 h9.2.2.2))
      have T2 := Lib.hid (show Below w.heap.size w w2 from Below.own (Below.al T.out (.cells #[.int .i64 (k : Int), .int .i64 D] 27)) hgr (fun i e => by have := (hOlt i e).1; omega))
      have hsz2 : S + 1 ≤ w2.heap.size := by have := hgr.size; rw [World.size_alloc, hS] at this; exact this
      have hv2 : ∀ q, v2.ownBlock = some q → g + 2 ≤ q ∧ q ≠ HN := fun q hq => ⟨(hlt2 q hq).1, by
        rcases hat with h | h
        · rw [h] at hq; exact HNE.out q hq
        · rw [h] at hq; cases hq; omega⟩
      obtain ⟨S2, hS2⟩ : ∃ S2, w2.heap.size = S2 := ⟨_, rfl⟩
      have hv3 : ∀ q, v2.ownBlock = some q → q < S2 := fun q hq => by have := (hlt2 q hq).2; omega
      have HS2 := Lib.hid hS2
      have HV2 := Lib.hid hv2
      have HV3 := Lib.hid hv3
      rw [hS2] at hsz2
      clear O CB NB X T OA IN hO2 hgr hat hbl hlt2 hS hS2 hv2 hv3 hB1 hOlt HNE HA c0 c1 cf0 cf1
      have O := O2
      have CB := CB2
      have NB := NB2
      have X := X2
      have T := T2
      clear O2 CB2 NB2 X2 T2
      obtain ⟨wn, hwq⟩ : ∃ w0 : World, w0 = w2 := ⟨_, rfl⟩
      subst hwq
      obtain ⟨⟨c0, c1, c2⟩, -⟩ := CB.out
      obtain ⟨⟨d0, d1⟩, df0, df1⟩ := NB.out
      go_wp2_with fail
      refine Calls.mono (HKS.out _ X.out) ?_
      intro e wn hh
      obtain ⟨v1, v2, v3, loP, hiP, rfl, hO, hb, hlo, hhi⟩ := NewC.get hh
      have hTP : w.heap.size ≤ loP := by rw [← hlo]; exact T.out.size
      have hltCBP := Bx.lt CB.out
      rw [hlo] at hltCBP
      have hltNBP := Box.lt NB.out
      rw [hlo] at hltNBP
      have hlhP : loP ≤ hiP := by rw [← hlo, ← hhi]; exact hb.size
      obtain ⟨Pa, Pi, Pb, Pj, Pc, Pk, rfl, rfl, rfl, -⟩ := OwnC.open hO
      have Tn := Lib.hid (below_next T.out hb)
      have Xn := Lib.hid (Cal.below X.out hb)
      have CBn := Lib.hid (Bx.below CB.out hb)
      have NBn := Lib.hid (Box.below NB.out hb)
      have On := Lib.hid (OwnR.below O.out hb)
      have P := Lib.hid hO
      have HLOP := Lib.hid hlo
      clear hb hO hh hlo hhi c0 c1 c2 d0 d1 df0 df1
      clear T X CB NB O
      have T := Tn
      have X := Xn
      have CB := CBn
      have NB := NBn
      have O := On
      clear Tn Xn CBn NBn On
      have hSP : S2 = loP := HS2.out.symm.trans HLOP.out
      rw [HL.out.1, HL.out.2.1, HL.out.2.2] at P
      rw [HL.out.1, HL.out.2.1, HL.out.2.2]
      have hs3 := Bx.set3 CB.out (.slice Pa n2 Pi) (.slice Pb n2 Pj) (.slice Pc n2 Pk)
      have CB3 := Lib.hid hs3.1
      have NB3 := Lib.hid (Box.out NB.out hs3.2 (.inr (by omega)))
      have P3 := Lib.hid (OwnC.out P.out hs3.2 (.inr (by omega)))
      have T3 := Lib.hid (Out.below T.out hs3.2 (by omega))
      have O3 := Lib.hid (OwnR.block (w' := (((wn.setCell ⟨g, 0, none⟩ (.slice Pa n2 Pi)).setCell ⟨g, 1, none⟩ (.slice Pb n2 Pj)).setCell ⟨g, 2, none⟩ (.slice Pc n2 Pk))) O.out (fun q hq => hs3.2.block q (OwnR.lt O.out q hq).2 (.inr (by have := (OwnR.lt O.out q hq).1; omega))))
      obtain ⟨⟨e0, e1, e2⟩, ef⟩ := CB.out
      have ef0 := ef 0
      have ef1 := ef 1
      have ef2 := ef 2
      obtain ⟨⟨c0, c1, c2⟩, -⟩ := CB3.out
      obtain ⟨⟨d0, d1'⟩, df0, df1⟩ := NB3.out
      clear ef hs3
      go_wp2_with fail
      clear c0 c1 c2 d0 d1' df0 df1 e0 e1 e2 ef0 ef1 ef2 CB NB P T O X
      generalize (((wn.setCell ⟨g, 0, none⟩ (.slice Pa n2 Pi)).setCell ⟨g, 1, none⟩ (.slice Pb n2 Pj)).setCell ⟨g, 2, none⟩ (.slice Pc n2 Pk)) = w3 at *
      have CB := CB3
      have NB := NB3
      have P := P3
      have T := T3
      have O := O3
      clear CB3 NB3 P3 T3 O3
      obtain ⟨wn, hwq⟩ : ∃ w0 : World, w0 = w3 := ⟨_, rfl⟩
      subst hwq
      refine Calls.mono (HKN.out _ _ _ _ _ _ _ _ _ _ (OwnC.cal P.out)) ?_
      intro e wq hh
      obtain ⟨he, hb⟩ := hh
      subst he
      have Tn := Lib.hid (below_next T.out hb)
      have CBn := Lib.hid (Bx.below CB.out hb)
      have NBn := Lib.hid (Box.below NB.out hb)
      have Pn := Lib.hid (OwnC.below P.out hb)
      have On := Lib.hid (OwnR.below O.out hb)
      clear hb
      clear T CB NB P O
      have T := Tn
      have CB := CBn
      have NB := NBn
      have P := Pn
      have O := On
      clear Tn CBn NBn Pn On
      obtain ⟨wn, hwq⟩ : ∃ w0, w0 = wq := ⟨_, rfl⟩
      subst hwq
      have ho := Out.trans (Out.set (w := wn) (q := HN) (i := 0) (lo := HN) (hi := HN + 1) (.int .i64 (oF r2)) (Nat.le_refl _) (by omega)) (Out.set (w := wn.setCell ⟨HN, 0, none⟩ (.int .i64 (oF r2))) (q := HN) (i := 1) (lo := HN) (hi := HN + 1) (.int .i64 (oD r2)) (Nat.le_refl _) (by omega))
      have CB6 := Lib.hid (Bx.out CB.out ho (.inl (by omega)))
      have NB6 := Lib.hid (Box.pset1 (oD r2) (Box.pset0 (oF r2) NB.out))
      have P6 := Lib.hid (OwnC.out P.out ho (.inr (by omega)))
      have O6 := Lib.hid (OwnR.block (w' := (wn.setCell ⟨HN, 0, none⟩ (.int .i64 (oF r2))).setCell ⟨HN, 1, none⟩ (.int .i64 (oD r2))) O.out (fun q hq => ho.block q (OwnR.lt O.out q hq).2 (by have := (HV2.out q hq).2; omega)))
      have T6 := Lib.hid (Out.below T.out ho (by omega))
      have hsz6 := Lib.hid (show hiP ≤ ((wn.setCell ⟨HN, 0, none⟩ (.int .i64 (oF r2))).setCell ⟨HN, 1, none⟩ (.int .i64 (oD r2))).heap.size from P6.out.2.2.1)
      obtain ⟨⟨c0, c1⟩, cf0, cf1⟩ := NB.out
      clear ho
      go_wp2_with fail
      obtain ⟨av2, cv2, hv, -, -⟩ := OwnR.open O6.out
      subst hv
      go_roundw
      case rel =>
        refine ⟨acc ++ [(k, u)], y2, r2, Pa, Pb, Pc, Pi, Pj, Pk, HI2.out, ?_, fun q hq => (HV2.out q hq).2, ?_, OwnC.cal P6.out, CB6.out, NB6.out, T6.out⟩
        · rw [HF.out, List.length_append]; exact O6.out
        · intro q hq
          have h1 : loP ≤ q := by
            rcases hq with hq | hq | hq
            · exact (P6.out.1.1.lt q hq).1
            · exact (P6.out.1.2.1.lt q hq).1
            · exact (P6.out.1.2.2.lt q hq).1
          have h2 := P6.out.2.2.2.2 q hq
          have := hsz6.out
          exact ⟨by omega, by omega, by omega, fun e => by have := HV3.out q e; omega⟩
      case measure => simp [slen]; omega

end Go.Proofs.Ytkpginkkfobblaa
