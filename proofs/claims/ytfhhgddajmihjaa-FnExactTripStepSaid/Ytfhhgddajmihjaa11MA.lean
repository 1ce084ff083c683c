/- Riders of one's own: copies, changes of state, who gets out and in, one by one. -/
import Derived.Test.Ytfhhgddajmihjaa11ME
import Derived.Deep.Upon
namespace Go.Proofs.Ytfhhgddajmihjaa
open Go.RowKit
set_option linter.unusedVariables false
set_option linter.unusedSimpArgs false
set_option maxRecDepth 100000

theorem info_rider : ∃ i, Try.prog.info? 32 = some i ∧ i.zero = some (.agg #[.int .i64 0, .int .i64 0, .int .i64 0]) ∧ i.size = 3 ∧ i.bytes = 24 := by
  have h : (Try.prog.info? 32).map (fun i => (i.zero, i.size, i.bytes)) = some (some (.agg #[.int .i64 0, .int .i64 0, .int .i64 0]), 3, 24) := by kernel_rfl
  cases e : Try.prog.info? 32 with
  | none => rw [e] at h; cases h
  | some i =>
    rw [e] at h
    simp at h
    exact ⟨i, rfl, h.1, h.2.1, h.2.2⟩
/-- append of riders, whatever they lie in. -/
theorem wpList_append_riders {w : World} {ops : Array Oper} {rest : List Oper} {act : Act} {Q : Exit → Act → World → Prop} {d : Option Tmp} {s x : Operand} {ty0 : TypeId} {ps : String} {af : Array Edge} {B : Nat} {n m c : Nat} {xs ys : List Ri} {v : Value} {a : Option Addr}
    (hown : OwnR 32 3 w B v n (rfl3 xs)) (hs : act.eval s = v) (hx : act.eval x = .slice a m c) (hc : Rid w a m ys) (hn : n + m ≤ 1048577) (hB : B ≤ w.heap.size)
    (hK : ∀ v' w', OwnR 32 3 w' B v' (n + m) (rfl3 (xs ++ ys)) → w.grownBy w' v.ownBlock → (v'.ownBlock = v.ownBlock ∨ v'.ownBlock = some w.heap.size) → wpList Try.prog ops Q rest (act.put d v') w') :
    wpList Try.prog ops Q ({ dst := d, op := .call { callee := .builtin .append, args := #[s, x], argTypes := #[25, 25] }, type := ty0, pos := ps, after := af, guard := none } :: rest) act w := by
  obtain ⟨i0, hi, hz0, hz1, hz2⟩ := info_rider
  obtain ⟨⟨hl, hr⟩, hm⟩ := hc
  cases a with
  | none =>
    have h0 : m = 0 := by
      rcases hr with h | ⟨b, off, e, _⟩
      · exact h
      · cases e
    subst h0
    obtain rfl : ys = [] := List.eq_nil_of_length_eq_zero hm
    obtain ⟨a0, cap, rfl, hrs, hcap⟩ := OwnR.open hown
    have hle : n ≤ cap := by
      rcases hown.2 with ⟨e, h⟩ | ⟨g, cap', cur, e, _, _, h, _⟩
      · omega
      · cases e; exact h
    refine wpList_step fun K hK2 => ?_
    rw [if_pos (show Region.wanted _ _ = true from rfl)]
    have hrun := run_append_nothing (P := Try.prog) w 25 25 ty0 32 i0 Try.underlying25 hi a0 n cap hle (.slice none 0 c) (Src.ofNil w Try.underlying25 c)
    unfold Oper.wp execOp
    simp only [resolve, invoke, builtin, Sem.run_bind, Sem.run_pure, Result.andThen_ok, List.map_toArray, List.map_cons, List.map_nil, hs, hx, hrun]
    refine hK2 _ _ (hK _ _ (by simpa using hown) ⟨rfl, rfl, rfl, Nat.le_refl _, fun _ _ _ => rfl⟩ (.inl rfl))
  | some ad =>
    refine wpList_append_wanted rfl s x 25 rfl B 32 i0 (.agg #[.int .i64 0, .int .i64 0, .int .i64 0]) 3 24 Try.underlying25 hi hz0 hz1 hz2 rfl (by decide) v n ((rfl3 xs).map (Value.int .i64)) hs hown ad m c ((rfl3 ys).map (Value.int .i64)) hx (by simpa using hl) (fun j u hu => ?_) (fun u hu => ?_) (by unfold maxLen; omega) (by omega) hB (fun v' w' h1 h2 h3 h4 => ?_)
    · rcases hr with h | ⟨b, off, e, h⟩
      · subst h
        rw [List.eq_nil_of_length_eq_zero (l := rfl3 ys) (by simpa using hl)] at hu
        simp at hu
      · cases e
        rw [List.getElem?_map] at hu
        by_cases hj : j < (rfl3 ys).length
        · rw [List.getElem?_eq_getElem hj] at hu
          have h9 := h j hj
          simp [nth, List.getD, hj] at h9
          simp at hu
          subst hu
          show w.cell? (Addr.add ⟨b, off, none⟩ j) = _
          rw [Addr.add_lit]
          exact h9
        · rw [List.getElem?_eq_none (by omega)] at hu
          simp at hu
    · simp at hu
      obtain ⟨a, _, rfl⟩ := hu
      rfl
    · refine hK v' w' ?_ h2 h4
      unfold OwnR
      rw [rfl3_app]
      simpa using h1
theorem rfl3_set : ∀ (l : List Ri) (i : Nat) (x : Int) (h : i < l.length), (rfl3 l).set (i * 3 + 2) x = rfl3 (l.set i ⟨(rat l i).a, (rat l i).b, x⟩)
  | [], i, x, h => by simp at h
  | r :: l, 0, x, h => rfl
  | r :: l, i + 1, x, h => by
    have := rfl3_set l i x (by simpa using h)
    rw [show (i + 1) * 3 + 2 = (i * 3 + 2) + 1 + 1 + 1 by omega]
    simp only [rfl3, List.set_cons_succ]
    rw [this]
    rfl
/-- Riders of one's own read as riders. -/
theorem OwnR.rid {w : World} {B : Nat} {a : Option Addr} {n c : Nat} {l : List Ri} (h : OwnR 32 3 w B (.slice a n c) n (rfl3 l)) : Rid w a n l := by
  obtain ⟨a', c', e, hr, _⟩ := OwnR.open h
  cases e
  exact ⟨hr, by have := hr.1; rw [rfl3_len] at this; omega⟩
/-- A rider of one's own gets another state. -/
theorem OwnR.state {w : World} {B b n cap i : Nat} {l : List Ri} (h : OwnR 32 3 w B (.slice (some ⟨b, 0, none⟩) n cap) n (rfl3 l)) (hi : i < l.length) (x : Int) :
    OwnR 32 3 (w.setCell ⟨b, i * 3 + 2, none⟩ (.int .i64 x)) B (.slice (some ⟨b, 0, none⟩) n cap) n (rfl3 (l.set i ⟨(rat l i).a, (rat l i).b, x⟩)) := by
  rw [← rfl3_set l i x hi]
  exact (OwnR.stored h _ x).1
/-- The first i have had their turn to get out. -/
def outL (k : Int) (l : List Ri) (i : Nat) : List Ri := (l.take i).map (gout k) ++ l.drop i
theorem outL_0 (k : Int) (l : List Ri) : outL k l 0 = l := by simp [outL]
theorem outL_all (k : Int) (l : List Ri) : outL k l l.length = l.map (gout k) := by simp [outL]
theorem outL_len (k : Int) (l : List Ri) (i : Nat) : (outL k l i).length = l.length := by simp [outL]; omega
theorem mid_at {A D : List Ri} {r : Ri} {i : Nat} (h : A.length = i) : rat (A ++ r :: D) i = r := by subst h; simp [rat, List.getD]
theorem mid_set {A D : List Ri} {r q : Ri} {i : Nat} (h : A.length = i) : (A ++ r :: D).set i q = A ++ q :: D := by subst h; simp
theorem drop_at {l : List Ri} {i : Nat} (h : i < l.length) : l.drop i = rat l i :: l.drop (i + 1) := by rw [List.drop_eq_getElem_cons h, rat_eq h]
theorem outL_at {k : Int} {l : List Ri} {i : Nat} (h : i < l.length) : rat (outL k l i) i = rat l i := by
  unfold outL; rw [drop_at h]; exact mid_at (by simp; omega)
theorem outL_next {k : Int} {l : List Ri} {i : Nat} (h : i < l.length) : outL k l (i + 1) = (outL k l i).set i (gout k (rat l i)) := by
  unfold outL
  rw [drop_at h, mid_set (by simp; omega), rat_take h]
  simp
theorem set_same {l : List Ri} {i : Nat} (h : i < l.length) : l.set i (rat l i) = l := by rw [rat_eq h]; simp
/-- The first i have had their turn to get in. -/
def inL (m k D : Int) (l : List Ri) (i : Nat) : List Ri := gin m k D (ins l) (l.take i) ++ l.drop i
def gcnt (m k D : Int) : Nat → List Ri → Nat
  | c, [] => c
  | c, r :: l => if r.s = 0 ∧ r.a = k ∧ rdir r = D ∧ (c : Int) < m then gcnt m k D (c + 1) l else gcnt m k D c l
theorem gin_app (m k D : Int) : ∀ (l q : List Ri) (c : Nat), gin m k D c (l ++ q) = gin m k D c l ++ gin m k D (gcnt m k D c l) q
  | [], q, c => rfl
  | r :: l, q, c => by
    simp only [List.cons_append, gin, gcnt]
    split
    · rw [gin_app]; rfl
    · rw [gin_app]; rfl
theorem gin_cnt (m k D : Int) : ∀ (l : List Ri) (c : Nat), ins (gin m k D c l) + c = ins l + gcnt m k D c l
  | [], c => rfl
  | r :: l, c => by
    unfold gin gcnt
    split
    · rename_i g
      have := gin_cnt m k D l (c + 1)
      simp only [ins]
      rw [if_pos trivial, if_neg (by omega)]
      omega
    · have := gin_cnt m k D l c
      simp only [ins]
      omega
theorem inL_ins (m k D : Int) (l : List Ri) (i : Nat) : ins (inL m k D l i) = gcnt m k D (ins l) (l.take i) := by
  unfold inL
  have h1 := gin_cnt m k D (l.take i) (ins l)
  have h2 := ins_app (l.take i) (l.drop i)
  rw [List.take_append_drop] at h2
  rw [ins_app]
  omega
theorem inL_0 (m k D : Int) (l : List Ri) : inL m k D l 0 = l := by simp [inL, gin]
theorem inL_all (m k D : Int) (l : List Ri) : inL m k D l l.length = gin m k D (ins l) l := by simp [inL]
theorem inL_len (m k D : Int) (l : List Ri) (i : Nat) : (inL m k D l i).length = l.length := by simp [inL, gin_len]; omega
theorem inL_at {m k D : Int} {l : List Ri} {i : Nat} (h : i < l.length) : rat (inL m k D l i) i = rat l i := by
  unfold inL; rw [drop_at h]; exact mid_at (by rw [gin_len]; simp; omega)
theorem inL_next {m k D : Int} {l : List Ri} {i : Nat} (h : i < l.length) :
    inL m k D l (i + 1) = if (rat l i).s = 0 ∧ (rat l i).a = k ∧ rdir (rat l i) = D ∧ (ins (inL m k D l i) : Int) < m then (inL m k D l i).set i ⟨(rat l i).a, (rat l i).b, 1⟩ else inL m k D l i := by
  rw [inL_ins]
  unfold inL
  rw [drop_at h, mid_set (by rw [gin_len]; simp; omega), rat_take h, gin_app]
  simp only [gin]
  split
  · simp
  · simp
end Go.Proofs.Ytfhhgddajmihjaa

namespace Go.Proofs.Ytfhhgddajmihjaa
open Go.RowKit
set_option linter.unusedVariables false
set_option linter.unusedSimpArgs false
set_option maxRecDepth 100000

theorem Grow.ofB {w w' : World} (h : Below w.heap.size w w') : Grow w w' := ⟨h.os, h.tape, h.output, h.size, fun k hk _ => h.block k hk⟩
theorem oa_call {W w : World} {P : Program} {M : Value → World → Prop} {f : FuncId} {args : Array Value} (hC : Below W.heap.size W w) (h : Calls P f args w fun e w2 => ∃ v, e = .returned v ∧ M v w2 ∧ Below w.heap.size w w2) : Comply P (fun _ w => Below W.heap.size W w) Grow 0 w M (.ok (.enter f args) w) :=
  h.mono fun e w2 ⟨v, he, hm, hb⟩ => ⟨v, he, hm, below_next hC hb, Grow.ofB hb⟩
/-- Fresh calls, by types. -/
def tF (x : Cs) (v : Value) (w : World) : Prop := Fre v x w
theorem StGrow.F (x : Cs) : StGrow (tF x) := fun v w w' hr h => by
  obtain ⟨q1, j1, q2, j2, q3, j3, e, hC⟩ := h
  exact ⟨q1, j1, q2, j2, q3, j3, e, hC.below ⟨hr.os, hr.tape, hr.output, hr.size, fun k hk => hr.block k hk (fun e => by cases e)⟩⟩
def tN2 (B : Nat) (v : Value) (w : World) : Prop := ∃ G, v = .pointer (some ⟨G, 0, none⟩) ∧ B ≤ G ∧ Box w G 0 0
theorem StGrow.N2 (B : Nat) : StGrow (tN2 B) := fun v w w' hr h => by
  obtain ⟨G, e, h1, h2⟩ := h
  exact ⟨G, e, h1, h2.block (hr.block G h2.lt (fun e => by cases e))⟩
/-- A trip in memory of the call's own making, and whether it went on. -/
def NewT (w : World) (t : Tp) (g : Value → Value) (e : Ending) (w' : World) : Prop := ∃ v, e = .returned (g (.agg #[.int .i64 t.n, .int .i64 t.m, .int .i64 t.f, .int .i64 t.d, v])) ∧ OwnR 32 3 w' w.heap.size v t.rs.length (rfl3 t.rs) ∧ Below w.heap.size w w'
/-- A trip's cells are written one by one. -/
def set5 (w : World) (r : Nat) (n m f d : Int) (v : Value) : World := ((((w.setCell ⟨r, 0, none⟩ (.int .i64 n)).setCell ⟨r, 1, none⟩ (.int .i64 m)).setCell ⟨r, 2, none⟩ (.int .i64 f)).setCell ⟨r, 3, none⟩ (.int .i64 d)).setCell ⟨r, 4, none⟩ v
theorem newT_end {w0 w : World} {r B : Nat} {n m f d : Int} {v : Value} {l : List Ri} (hO : OwnR 32 3 w B v l.length (rfl3 l)) (hB : w0.heap.size ≤ B) (hW : Below w0.heap.size w0 w) (hr : w0.heap.size ≤ r) (hv : ∀ q, v.ownBlock = some q → q ≠ r) (g : Value → Value) :
    NewT w0 ⟨n, m, f, d, l⟩ g (.returned (g (.agg #[.int .i64 n, .int .i64 m, .int .i64 f, .int .i64 d, v]))) (set5 w r n m f d v) := by
  refine ⟨v, rfl, OwnR.mono (B := B) ?_ hB, ?_⟩
  · unfold set5
    exact OwnR.pfar (OwnR.pfar (OwnR.pfar (OwnR.pfar (OwnR.pfar hO hv) hv) hv) hv) hv
  · unfold set5
    exact Below.st (Below.st (Below.st (Below.st (Below.st hW hr _) hr _) hr _) hr _) hr _
theorem nsv_tnx {t : Tp} (h : TOk t) : nsv (tcl t) t.f t.d = tnx t := by
  unfold nsv tnx
  rw [if_pos]
  have := (tcl_len t).2.2
  have h1 := h.2.2.1
  exact ⟨tcl_ok h, ⟨h1.1, by omega⟩, h.2.2.2.1⟩
set_option maxHeartbeats 2000000 in
theorem sTripStep_f (n m f d : Int) (a : Option Addr) (k c : Nat) (l : List Ri) (w : World) (hX : Rid w a k l) (hk : k ≤ 1048577) (h : ¬ TOk ⟨n, m, f, d, l⟩) :
    Calls Try.prog 26 #[.agg #[.int .i64 n, .int .i64 m, .int .i64 f, .int .i64 d, .slice a k c]] w (NewT w ⟨0, 0, 0, 0, []⟩ (fun v => .tuple #[v, .bool false])) := by
  have X0 := Lib.hid hX
  have KV := fun w' (g : Rid w' a k l) => sTripValid_c n m f d a k c l w' g hk
  rw [tokB_f h] at KV
  have HV := Lib.hid KV
  clear hX h KV
  refine at_base fun wn hwn => ?_
  have T := Lib.hid (show Below w.heap.size w wn from by rw [hwn]; exact Below.refl _ _)
  clear hwn
  obtain ⟨g, hg⟩ : ∃ g, Array.size (World.heap wn) = g := ⟨_, rfl⟩
  have HGg := Lib.hid hg
  have hTg : w.heap.size ≤ g := by rw [← hg]; exact T.out.size
  have Tn := Lib.hid (show Below w.heap.size w ((wn.alloc (.cells #[.int .i64 n, .int .i64 m, .int .i64 f, .int .i64 d, .slice a k c] 27)).alloc (.cells #[.int .i64 0, .int .i64 0, .int .i64 0, .int .i64 0, .slice none 0 0] 27)) from (Below.al (Below.al T.out (.cells #[.int .i64 n, .int .i64 m, .int .i64 f, .int .i64 d, .slice a k c] 27)) (.cells #[.int .i64 0, .int .i64 0, .int .i64 0, .int .i64 0, .slice none 0 0] 27)))
  have TB := Lib.hid (show BoxV ((wn.alloc (.cells #[.int .i64 n, .int .i64 m, .int .i64 f, .int .i64 d, .slice a k c] 27)).alloc (.cells #[.int .i64 0, .int .i64 0, .int .i64 0, .int .i64 0, .slice none 0 0] 27)) g [.int .i64 n, .int .i64 m, .int .i64 f, .int .i64 d, .slice a k c] from by have h9 := (BoxV.al (BoxV.new wn [.int .i64 n, .int .i64 m, .int .i64 f, .int .i64 d, .slice a k c] 27 (by simp) rfl) (.cells #[.int .i64 0, .int .i64 0, .int .i64 0, .int .i64 0, .slice none 0 0] 27)); simp only [World.size_alloc, hg, Nat.add_assoc, Nat.reduceAdd] at h9; exact h9)
  have RR := Lib.hid (show BoxV ((wn.alloc (.cells #[.int .i64 n, .int .i64 m, .int .i64 f, .int .i64 d, .slice a k c] 27)).alloc (.cells #[.int .i64 0, .int .i64 0, .int .i64 0, .int .i64 0, .slice none 0 0] 27)) (g + 1) [.int .i64 0, .int .i64 0, .int .i64 0, .int .i64 0, .slice none 0 0] from by have h9 := (BoxV.new (wn.alloc (.cells #[.int .i64 n, .int .i64 m, .int .i64 f, .int .i64 d, .slice a k c] 27)) [.int .i64 0, .int .i64 0, .int .i64 0, .int .i64 0, .slice none 0 0] 27 (by simp) rfl); simp only [World.size_alloc, hg, Nat.add_assoc, Nat.reduceAdd] at h9; exact h9)
  have HZg := Lib.hid (show (((wn.alloc (.cells #[.int .i64 n, .int .i64 m, .int .i64 f, .int .i64 d, .slice a k c] 27)).alloc (.cells #[.int .i64 0, .int .i64 0, .int .i64 0, .int .i64 0, .slice none 0 0] 27))).heap.size = g + 2 from by simp only [World.size_alloc, hg, Nat.add_assoc, Nat.reduceAdd])
  clear hg
  clear T
  have T := Tn
  clear Tn
  go_enter Try.func26, Try.ntmps26
  have c0 := (TB.out.2 0 _ rfl).1
  have c1 := (TB.out.2 1 _ rfl).1
  have c2 := (TB.out.2 2 _ rfl).1
  have c3 := (TB.out.2 3 _ rfl).1
  have c4 := (TB.out.2 4 _ rfl).1
  go_wp2_with fail
  rw [HGg.out]
  refine Calls.mono (HV.out _ (Rid.below X0.out T.out)) ?_
  intro e wn hh
  obtain ⟨he, hb⟩ := (by first | exact hh | exact Ro.mk hh | exact St.mk hh | exact LawOk.mk' hh : Mk _ _ e wn)
  subst he
  have Tn : Hid (Below w.heap.size w wn) := below_next T.out hb
  have TBn : Hid _ := BoxV.below TB.out hb
  have RRn : Hid _ := BoxV.below RR.out hb
  clear hb hh c0 c1 c2 c3 c4
  clear T TB RR
  have T := Tn
  have TB := TBn
  have RR := RRn
  clear Tn TBn RRn
  have c0 := (RR.out.2 0 _ rfl).1
  have cf0 := (RR.out.2 0 _ rfl).2
  have c1 := (RR.out.2 1 _ rfl).1
  have cf1 := (RR.out.2 1 _ rfl).2
  have c2 := (RR.out.2 2 _ rfl).1
  have cf2 := (RR.out.2 2 _ rfl).2
  have c3 := (RR.out.2 3 _ rfl).1
  have cf3 := (RR.out.2 3 _ rfl).2
  have c4 := (RR.out.2 4 _ rfl).1
  have cf4 := (RR.out.2 4 _ rfl).2
  go_wp2_with fail
  have N := newT_end (n := 0) (m := 0) (f := 0) (d := 0) (l := []) (r := g + 1) (w := wn) (v := .slice none 0 0) (OwnR.nil wn w.heap.size) (Nat.le_refl _) T.out (by omega) (fun q e => by cases e) (fun v => .tuple #[v, .bool false])
  unfold set5 at N
  exact bodyPost_ret (v := .tuple #[.agg #[.int .i64 0, .int .i64 0, .int .i64 0, .int .i64 0, .slice none 0 0], .bool false]) (by simp [results, Try.results26, go_sem, c0, c1, c2, c3, c4]) rfl N
set_option maxRecDepth 100000 in
set_option maxHeartbeats 8000000 in
theorem sTripStep_n (n m f d : Int) (a : Option Addr) (k c : Nat) (l : List Ri) (w : World) (hX : Rid w a k l) (hk : k ≤ 1048577) (h : TOk ⟨n, m, f, d, l⟩) (hr : tnx ⟨n, m, f, d, l⟩ = none) :
    Calls Try.prog 26 #[.agg #[.int .i64 n, .int .i64 m, .int .i64 f, .int .i64 d, .slice a k c]] w (NewT w ⟨n, m, f, d, l⟩ (fun v => .tuple #[v, .bool false])) := by
  have HL := Lib.hid hX.2
  have X0 := Lib.hid hX
  have KV := fun w' (g : Rid w' a k l) => sTripValid_c n m f d a k c l w' g hk
  rw [tokB_t h] at KV
  have HV := Lib.hid KV
  have KC := fun w' (g : Rid w' a k l) => sTripCalls_c n m f d a k c l w' g hk
  rw [tclT_t h] at KC
  have KN := fun (w' : World) (p1 p2 p3 : Option Addr) (m1 m2 m3 i1 i2 i3 : Nat) (g : Cal w' p1 m1 p2 m2 p3 m3 (tcl ⟨n, m, f, d, l⟩)) => sNextStop_c p1 m1 i1 p2 m2 i2 p3 m3 i3 (tcl ⟨n, m, f, d, l⟩) f d w' g
  have hns := nsv_tnx h
  simp only at hns
  rw [hns, hr] at KN
  obtain ⟨x0, hx0⟩ : ∃ x0, tcl ⟨n, m, f, d, l⟩ = x0 := ⟨_, rfl⟩
  rw [hx0] at KC KN
  have HKC := Lib.hid KC
  have HKN := Lib.hid (show ∀ (w' : World) (p1 p2 p3 : Option Addr) (m1 m2 m3 i1 i2 i3 : Nat) (g : Cal w' p1 m1 p2 m2 p3 m3 x0), Calls Try.prog 64 #[.agg #[.slice p1 m1 i1, .slice p2 m2 i2, .slice p3 m3 i3], .agg #[.int .i64 f, .int .i64 d]] w' (Mk w' (.agg #[.int .i64 (-1), .int .i64 (0)])) from KN)
  clear hX h KV KC KN hns hx0 hr
  refine at_base fun wn hwn => ?_
  have T := Lib.hid (show Below w.heap.size w wn from by rw [hwn]; exact Below.refl _ _)
  clear hwn
  obtain ⟨g, hg⟩ : ∃ g, Array.size (World.heap wn) = g := ⟨_, rfl⟩
  have HGg := Lib.hid hg
  have hTg : w.heap.size ≤ g := by rw [← hg]; exact T.out.size
  have Tn := Lib.hid (show Below w.heap.size w ((wn.alloc (.cells #[.int .i64 n, .int .i64 m, .int .i64 f, .int .i64 d, .slice a k c] 27)).alloc (.cells #[.int .i64 0, .int .i64 0, .int .i64 0, .int .i64 0, .slice none 0 0] 27)) from (Below.al (Below.al T.out (.cells #[.int .i64 n, .int .i64 m, .int .i64 f, .int .i64 d, .slice a k c] 27)) (.cells #[.int .i64 0, .int .i64 0, .int .i64 0, .int .i64 0, .slice none 0 0] 27)))
  have TB := Lib.hid (show BoxV ((wn.alloc (.cells #[.int .i64 n, .int .i64 m, .int .i64 f, .int .i64 d, .slice a k c] 27)).alloc (.cells #[.int .i64 0, .int .i64 0, .int .i64 0, .int .i64 0, .slice none 0 0] 27)) g [.int .i64 n, .int .i64 m, .int .i64 f, .int .i64 d, .slice a k c] from by have h9 := (BoxV.al (BoxV.new wn [.int .i64 n, .int .i64 m, .int .i64 f, .int .i64 d, .slice a k c] 27 (by simp) rfl) (.cells #[.int .i64 0, .int .i64 0, .int .i64 0, .int .i64 0, .slice none 0 0] 27)); simp only [World.size_alloc, hg, Nat.add_assoc, Nat.reduceAdd] at h9; exact h9)
  have RR := Lib.hid (show BoxV ((wn.alloc (.cells #[.int .i64 n, .int .i64 m, .int .i64 f, .int .i64 d, .slice a k c] 27)).alloc (.cells #[.int .i64 0, .int .i64 0, .int .i64 0, .int .i64 0, .slice none 0 0] 27)) (g + 1) [.int .i64 0, .int .i64 0, .int .i64 0, .int .i64 0, .slice none 0 0] from by have h9 := (BoxV.new (wn.alloc (.cells #[.int .i64 n, .int .i64 m, .int .i64 f, .int .i64 d, .slice a k c] 27)) [.int .i64 0, .int .i64 0, .int .i64 0, .int .i64 0, .slice none 0 0] 27 (by simp) rfl); simp only [World.size_alloc, hg, Nat.add_assoc, Nat.reduceAdd] at h9; exact h9)
  have HZg := Lib.hid (show (((wn.alloc (.cells #[.int .i64 n, .int .i64 m, .int .i64 f, .int .i64 d, .slice a k c] 27)).alloc (.cells #[.int .i64 0, .int .i64 0, .int .i64 0, .int .i64 0, .slice none 0 0] 27))).heap.size = g + 2 from by simp only [World.size_alloc, hg, Nat.add_assoc, Nat.reduceAdd])
  clear hg
  clear T
  have T := Tn
  clear Tn
  go_enter Try.func26, Try.ntmps26
  have c0 := (TB.out.2 0 _ rfl).1
  have c1 := (TB.out.2 1 _ rfl).1
  have c2 := (TB.out.2 2 _ rfl).1
  have c3 := (TB.out.2 3 _ rfl).1
  have c4 := (TB.out.2 4 _ rfl).1
  go_wp2_with fail
  rw [HGg.out]
  refine Calls.mono (HV.out _ (Rid.below X0.out T.out)) ?_
  intro e wn hh
  obtain ⟨he, hb⟩ := (by first | exact hh | exact Ro.mk hh | exact St.mk hh | exact LawOk.mk' hh : Mk _ _ e wn)
  subst he
  have Tn : Hid (Below w.heap.size w wn) := below_next T.out hb
  have TBn : Hid _ := BoxV.below TB.out hb
  have RRn : Hid _ := BoxV.below RR.out hb
  clear hb hh c0 c1 c2 c3 c4
  clear T TB RR
  have T := Tn
  have TB := TBn
  have RR := RRn
  clear Tn TBn RRn
  clear HV
  have c0 := (TB.out.2 0 _ rfl).1
  have c1 := (TB.out.2 1 _ rfl).1
  have c2 := (TB.out.2 2 _ rfl).1
  have c3 := (TB.out.2 3 _ rfl).1
  have c4 := (TB.out.2 4 _ rfl).1
  have hltTBHO := BoxV.lt TB.out
  have hltRRHO := BoxV.lt RR.out
  have hWHO := T.out.size
  obtain ⟨HO, hHO⟩ : ∃ HO, Array.size (World.heap wn) = HO := ⟨_, rfl⟩
  have HHO : Hid _ := hHO
  rw [hHO] at hWHO hltTBHO hltRRHO
  have OB : Hid (BoxV (wn.alloc (.cells #[.int .i64 n, .int .i64 m, .int .i64 f, .int .i64 d, .slice a k c] 27)) HO [.int .i64 n, .int .i64 m, .int .i64 f, .int .i64 d, .slice a k c]) := by rw [← hHO]; exact BoxV.new _ _ _ (by simp) rfl
  clear hHO
  have Tn : Hid (Below w.heap.size w _) := Below.al T.out (.cells #[.int .i64 n, .int .i64 m, .int .i64 f, .int .i64 d, .slice a k c] 27)
  have TBn : Hid _ := BoxV.below TB.out ((Below.refl _ _).alloc (Nat.le_refl _) (.cells #[.int .i64 n, .int .i64 m, .int .i64 f, .int .i64 d, .slice a k c] 27))
  have RRn : Hid _ := BoxV.below RR.out ((Below.refl _ _).alloc (Nat.le_refl _) (.cells #[.int .i64 n, .int .i64 m, .int .i64 f, .int .i64 d, .slice a k c] 27))
  clear T TB RR
  have T := Tn
  have TB := TBn
  have RR := RRn
  clear Tn TBn RRn
  go_upto_region 4 with fail
  rw [HHO.out]
  generalize wn.alloc _ = w0 at *
  obtain ⟨wn, hwq⟩ : ∃ w9 : World, w9 = w0 := ⟨_, rfl⟩
  subst hwq
  clear HHO
  obtain ⟨S, hS⟩ : ∃ S, wn.heap.size = S := ⟨_, rfl⟩
  have hOS : HO < S := by rw [← hS]; exact BoxV.lt OB.out
  have hRS : g + 1 < S := by rw [← hS]; exact BoxV.lt RR.out
  have hTS : g < S := by omega
  have hwS : w.heap.size ≤ S := by rw [← hS]; exact T.out.size
  have OA := Lib.hid (show OwnR 32 3 (wn.alloc (.cells #[] 32)) S (.slice (some ⟨S, 0, none⟩) 0 0) 0 (rfl3 []) from by
    have h9 := OwnR.none0 (E := 32) (k := 3) (w := wn); rw [hS] at h9; exact h9)
  have IN := Lib.hid (Rid.below X0.out (Below.al T.out (.cells #[] 32)))
  have hB1 : S ≤ (wn.alloc (.cells #[] 32)).heap.size := by rw [World.size_alloc, hS]; omega
  have c0 := (TB.out.2 0 _ rfl).1
  have c1 := (TB.out.2 1 _ rfl).1
  have c2 := (TB.out.2 2 _ rfl).1
  have c3 := (TB.out.2 3 _ rfl).1
  have c4 := (TB.out.2 4 _ rfl).1
  go_wp2_with (with_reducible refine wpList_append_riders OA.out rfl rfl IN.out (by omega) hB1 ?_)
  intro v2 w2 hO2 hgr hat
  rw [Nat.zero_add, List.nil_append] at hO2
  have hgb : ∀ q, (Value.slice (some ⟨S, 0, none⟩) 0 0).ownBlock = some q → q = S := fun q e => by cases e; rfl
  have T2 := Lib.hid (show Below w.heap.size w w2 from Below.own (Below.al T.out (.cells #[] 32)) hgr (fun i e => by have := hgb i e; omega))
  have OB2 := Lib.hid (BoxV.gr (BoxV.al OB.out (.cells #[] 32)) hgr (fun i e => by have := hgb i e; omega))
  have TB2 := Lib.hid (BoxV.gr (BoxV.al TB.out (.cells #[] 32)) hgr (fun i e => by have := hgb i e; omega))
  have RR2 := Lib.hid (BoxV.gr (BoxV.al RR.out (.cells #[] 32)) hgr (fun i e => by have := hgb i e; omega))
  obtain ⟨av, cv, hv, -, -⟩ := OwnR.open hO2
  subst hv
  have O2 := Lib.hid hO2
  clear OA IN hB1 hO2 hgr hat hgb OB TB RR T c0 c1 c2 c3 c4 hS
  have ho := Out.set (w := w2) (q := HO) (i := 4) (lo := HO) (hi := HO + 1) (.slice av k cv) (Nat.le_refl _) (by omega)
  have T := Lib.hid (Out.below T2.out ho (by omega))
  have OB := Lib.hid (show BoxV _ HO [.int .i64 n, .int .i64 m, .int .i64 f, .int .i64 d, .slice av k cv] from BoxV.set OB2.out 4 (.slice av k cv) (by simp))
  have TB := Lib.hid (BoxV.far (j := 4) (u := .slice av k cv) TB2.out (show g ≠ HO by omega))
  have RR := Lib.hid (BoxV.far (j := 4) (u := .slice av k cv) RR2.out (show g + 1 ≠ HO by omega))
  have O := Lib.hid (OwnR.pfar (c := HO) (j := 4) (u := .slice av k cv) O2.out (fun q hq => by have := (OwnR.lt O2.out q hq).1; omega))
  have b4 := OB2.out.2 4 _ rfl
  obtain ⟨b40, b41⟩ := b4
  go_upto_region 5 with fail
  clear b40 b41 T2 OB2 TB2 RR2 O2 ho
  generalize w2.setCell _ _ = w0 at *
  obtain ⟨wn, hwq⟩ : ∃ w9 : World, w9 = w0 := ⟨_, rfl⟩
  subst hwq
  obtain ⟨B0, hB0⟩ : ∃ B0, wn.heap.size = B0 := ⟨_, rfl⟩
  have HB0 := Lib.hid hB0
  have hTB : w.heap.size ≤ B0 := by rw [← hB0]; exact T.out.size
  have hOB0 : HO < B0 := by rw [← hB0]; exact BoxV.lt OB.out
  have HSB := Lib.hid (show ∀ q, (Value.slice av k cv).ownBlock = some q → q < B0 from fun q hq => by rw [← hB0]; exact (OwnR.lt O.out q hq).2)
  clear hB0
  refine wp_region_late 6 [19, 20, 21, 22, 23, 5] [(1, tV (.pointer (some ⟨g, 0, none⟩)))]
    [(19, tV (.agg #[.int .i64 n, .int .i64 m, .int .i64 f, .int .i64 d, .slice a k c])), (20, tF x0), (21, tV (.pointer (some ⟨g, 2, none⟩))), (22, tV (.agg #[.int .i64 f, .int .i64 d])), (23, tV (.agg #[.int .i64 (-1), .int .i64 (0)])), (5, tN2 B0)]
    _ (by kernel_rfl) (by kernel_rfl) (by kernel_rfl) (by kernel_rfl) (by kernel_rfl) (by rfl) (by kernel_rfl) (by kernel_rfl) (by kernel_rfl) (by kernel_rfl) ⟨StW.g (StW.V _), StW.g (StW.V _), StGrow.F _, StW.g (StW.V _), StW.g (StW.V _), StW.g (StW.V _), StGrow.N2 _, trivial⟩ ⟨rfl, trivial⟩ ?hob ?_
  case hob =>
    refine ⟨?_, ?_, ?_, ?_, ?_, ?_, trivial⟩
    · intro w1 vs hC hL
      have u1 := hL 1 (List.mem_of_elem_eq_true (by kernel_rfl))
      replace u1 : vs 1 = .pointer (some ⟨g, 0, none⟩) := u1
      have TB9 := BoxV.below TB.out hC
      have c0 := (TB9.2 0 _ rfl).1
      have c1 := (TB9.2 1 _ rfl).1
      have c2 := (TB9.2 2 _ rfl).1
      have c3 := (TB9.2 3 _ rfl).1
      have c4 := (TB9.2 4 _ rfl).1
      clear TB9
      go_simp
      simp only [evOf_tmp, u1]
      go_simp
      exact oa_pure hC (show tV _ _ w1 from rfl)
    · intro w1 vs hC hL
      have u19 := hL 19 (List.mem_of_elem_eq_true (by kernel_rfl))
      replace u19 : vs 19 = .agg #[.int .i64 n, .int .i64 m, .int .i64 f, .int .i64 d, .slice a k c] := u19
      go_simp
      simp only [evOf_tmp, u19]
      exact oa_call hC (Calls.mono (HKC.out _ (Rid.below X0.out (below_next T.out hC))) (fun e w2 hh => (by obtain ⟨v1, v2, v3, lo, hi, rfl, hO, hb2, -, -⟩ := NewC.get hh; obtain ⟨q1, j1, q2, j2, q3, j3, rfl, rfl, rfl, hCC⟩ := OwnC.open hO; exact ⟨_, rfl, (show Fre _ _ w2 from ⟨q1, j1, q2, j2, q3, j3, rfl, hCC⟩), hb2⟩)))
    · intro w1 vs hC hL
      have u1 := hL 1 (List.mem_of_elem_eq_true (by kernel_rfl))
      replace u1 : vs 1 = .pointer (some ⟨g, 0, none⟩) := u1
      go_simp
      simp only [evOf_tmp, u1]
      go_simp
      exact oa_pure hC (show tV _ _ w1 from rfl)
    · intro w1 vs hC hL
      have u21 := hL 21 (List.mem_of_elem_eq_true (by kernel_rfl))
      replace u21 : vs 21 = .pointer (some ⟨g, 2, none⟩) := u21
      have TB9 := BoxV.below TB.out hC
      have c0 := (TB9.2 0 _ rfl).1
      have c1 := (TB9.2 1 _ rfl).1
      have c2 := (TB9.2 2 _ rfl).1
      have c3 := (TB9.2 3 _ rfl).1
      have c4 := (TB9.2 4 _ rfl).1
      clear TB9
      go_simp
      simp only [evOf_tmp, u21]
      go_simp
      exact oa_pure hC (show tV _ _ w1 from rfl)
    · intro w1 vs hC hL
      have u20 := hL 20 (List.mem_of_elem_eq_true (by kernel_rfl))
      replace u20 : Fre (vs 20) x0 w1 := u20
      obtain ⟨p201, i201, p202, i202, p203, i203, u20, hF20⟩ := u20
      have u22 := hL 22 (List.mem_of_elem_eq_true (by kernel_rfl))
      replace u22 : vs 22 = .agg #[.int .i64 f, .int .i64 d] := u22
      go_simp
      simp only [evOf_tmp, u20, u22]
      exact oa_call hC (Calls.mono (HKN.out _ _ _ _ _ _ _ _ _ _ hF20) (fun e w2 hh => (by obtain ⟨he, hb⟩ := (by first | exact hh | exact Ro.mk hh | exact St.mk hh : Mk _ _ e w2); exact ⟨_, he, (show tV _ _ w2 from rfl), hb⟩)))
    · intro w1 vs hC hL
      go_simp
      exact oa_alloc hC (show tN2 _ _ (World.alloc w1 (.cells #[.int .i64 0, .int .i64 0] 24)) from ⟨w1.heap.size, rfl, by rw [← HB0.out]; exact hC.size, Box.new _ _ _ _⟩)
  intro vs wq hq hT
  have t1 : vs 23 = .agg #[.int .i64 (-1), .int .i64 (0)] := hT 23 rfl
  have t2 : tN2 B0 (vs 5) wq := hT 5 rfl
  obtain ⟨HN, t3, hHB, hbox⟩ := t2
  simp (decide := true) only [over, Nat.reduceAdd, if_true, if_false]
  rw [t1, t3]
  have NB := Lib.hid hbox
  clear hT t1 t3 hbox
  have Tn := Lib.hid (below_next T.out hq)
  have TBn := Lib.hid (BoxV.below TB.out hq)
  have RRn := Lib.hid (BoxV.below RR.out hq)
  have OBn := Lib.hid (BoxV.below OB.out hq)
  have On := Lib.hid (OwnR.below O.out hq)
  clear hq
  clear T TB RR OB O
  have T := Tn
  have TB := TBn
  have RR := RRn
  have OB := OBn
  have O := On
  clear Tn TBn RRn OBn On
  obtain ⟨wn, hwq⟩ : ∃ w0, w0 = wq := ⟨_, rfl⟩
  subst hwq
  have ho := Out.trans (Out.set (w := wn) (q := HN) (i := 0) (lo := HN) (hi := HN + 1) (.int .i64 (-1)) (Nat.le_refl _) (by omega)) (Out.set (w := wn.setCell ⟨HN, 0, none⟩ (.int .i64 (-1))) (q := HN) (i := 1) (lo := HN) (hi := HN + 1) (.int .i64 (0)) (Nat.le_refl _) (by omega))
  have T2 := Lib.hid (Out.below T.out ho (by omega))
  have RR2 := Lib.hid (BoxV.out RR.out ho (.inl (by omega)))
  have OB2 := Lib.hid (BoxV.out OB.out ho (.inl (by omega)))
  have O2 := Lib.hid (OwnR.block O.out (fun q hq => ho.block q (OwnR.lt O.out q hq).2 (.inl (by have := HSB.out q hq; omega))))
  have NB2 := Lib.hid (Box.pset1 (0) (Box.pset0 (-1) NB.out))
  obtain ⟨⟨x0', x1'⟩, xf0, xf1⟩ := NB.out
  go_upto_region 6 with fail
  clear ho x0' x1' xf0 xf1 T RR OB O NB TB
  have T := T2
  have RR := RR2
  have OB := OB2
  have O := O2
  have NB := NB2
  clear T2 RR2 OB2 O2 NB2 HKC HKN HB0
  generalize (wn.setCell ⟨HN, 0, none⟩ (.int .i64 (-1))).setCell ⟨HN, 1, none⟩ (.int .i64 (0)) = w0 at *
  obtain ⟨wn, hwq⟩ : ∃ w9 : World, w9 = w0 := ⟨_, rfl⟩
  subst hwq
  obtain ⟨⟨c0, c1⟩, cf0, cf1⟩ := NB.out
  have d0 := (OB.out.2 0 _ rfl).1
  have d1 := (OB.out.2 1 _ rfl).1
  have d2 := (OB.out.2 2 _ rfl).1
  have d3 := (OB.out.2 3 _ rfl).1
  have d4 := (OB.out.2 4 _ rfl).1
  have e0 := (RR.out.2 0 _ rfl).1
  have ef0 := (RR.out.2 0 _ rfl).2
  have e1 := (RR.out.2 1 _ rfl).1
  have ef1 := (RR.out.2 1 _ rfl).2
  have e2 := (RR.out.2 2 _ rfl).1
  have ef2 := (RR.out.2 2 _ rfl).2
  have e3 := (RR.out.2 3 _ rfl).1
  have ef3 := (RR.out.2 3 _ rfl).2
  have e4 := (RR.out.2 4 _ rfl).1
  have ef4 := (RR.out.2 4 _ rfl).2
  have N := newT_end (n := n) (m := m) (f := f) (d := d) (l := l) (r := g + 1) (w := wn) (v := .slice av k cv) (B := S) (by rw [show List.length (l) = k from HL.out]; exact O.out) (by omega) T.out (by omega) (fun q hq => by have := (OwnR.lt O.out q hq).1; omega) (fun v => .tuple #[v, .bool false])
  unfold set5 at N
  have ef0 := (RR.out.2 0 _ rfl).2
  have ef1 := (RR.out.2 1 _ rfl).2
  have ef2 := (RR.out.2 2 _ rfl).2
  have ef3 := (RR.out.2 3 _ rfl).2
  have ef4 := (RR.out.2 4 _ rfl).2
  have N2 := Lib.hid N
  clear N RR OB NB O T
  go_wp2_with fail
  clear c0 c1 d0 d1 d2 d3 d4
  have c0 := e0
  have c1 := e1
  have c2 := e2
  have c3 := e3
  have c4 := e4
  exact bodyPost_ret (v := .tuple #[.agg #[.int .i64 n, .int .i64 m, .int .i64 (f), .int .i64 (d), .slice av k cv], .bool false]) (by simp [results, Try.results26, go_sem, c0, c1, c2, c3, c4]) rfl N2.out
set_option maxRecDepth 100000 in
set_option maxHeartbeats 8000000 in
theorem sTripStep_t (n m f d : Int) (a : Option Addr) (k c : Nat) (l : List Ri) (kk : Nat) (u : Bool) (w : World) (hX : Rid w a k l) (hk : k ≤ 1048577) (h : TOk ⟨n, m, f, d, l⟩) (hr : tnx ⟨n, m, f, d, l⟩ = some (kk, u)) :
    Calls Try.prog 26 #[.agg #[.int .i64 n, .int .i64 m, .int .i64 f, .int .i64 d, .slice a k c]] w (NewT w (stp ⟨n, m, f, d, l⟩ (kk, u)) (fun v => .tuple #[v, .bool true])) := by
  have HL := Lib.hid hX.2
  have X0 := Lib.hid hX
  have KV := fun w' (g : Rid w' a k l) => sTripValid_c n m f d a k c l w' g hk
  rw [tokB_t h] at KV
  have HV := Lib.hid KV
  have KC := fun w' (g : Rid w' a k l) => sTripCalls_c n m f d a k c l w' g hk
  rw [tclT_t h] at KC
  have KN := fun (w' : World) (p1 p2 p3 : Option Addr) (m1 m2 m3 i1 i2 i3 : Nat) (g : Cal w' p1 m1 p2 m2 p3 m3 (tcl ⟨n, m, f, d, l⟩)) => sNextStop_c p1 m1 i1 p2 m2 i2 p3 m3 i3 (tcl ⟨n, m, f, d, l⟩) f d w' g
  have hns := nsv_tnx h
  simp only at hns
  rw [hns, hr] at KN
  obtain ⟨x0, hx0⟩ : ∃ x0, tcl ⟨n, m, f, d, l⟩ = x0 := ⟨_, rfl⟩
  rw [hx0] at KC KN
  have HKC := Lib.hid KC
  obtain ⟨F, hF⟩ : ∃ F : Int, (kk : Int) = F := ⟨_, rfl⟩
  obtain ⟨D, hD⟩ : ∃ D, dI u = D := ⟨_, rfl⟩
  have hF0 : ¬ F < 0 := by omega
  have HE := Lib.hid (show stp ⟨n, m, f, d, l⟩ (kk, u) = ⟨n, m, F, D, goR m F D l⟩ from by rw [← hF, ← hD]; rfl)
  have HKN := Lib.hid (show ∀ (w' : World) (p1 p2 p3 : Option Addr) (m1 m2 m3 i1 i2 i3 : Nat) (g : Cal w' p1 m1 p2 m2 p3 m3 x0), Calls Try.prog 64 #[.agg #[.slice p1 m1 i1, .slice p2 m2 i2, .slice p3 m3 i3], .agg #[.int .i64 f, .int .i64 d]] w' (Mk w' (.agg #[.int .i64 (F), .int .i64 (D)])) from by rw [← hF, ← hD]; exact KN)
  clear hF hD
  rw [HE.out]
  clear hX h KV KC KN hns hx0 hr
  refine at_base fun wn hwn => ?_
  have T := Lib.hid (show Below w.heap.size w wn from by rw [hwn]; exact Below.refl _ _)
  clear hwn
  obtain ⟨g, hg⟩ : ∃ g, Array.size (World.heap wn) = g := ⟨_, rfl⟩
  have HGg := Lib.hid hg
  have hTg : w.heap.size ≤ g := by rw [← hg]; exact T.out.size
  have Tn := Lib.hid (show Below w.heap.size w ((wn.alloc (.cells #[.int .i64 n, .int .i64 m, .int .i64 f, .int .i64 d, .slice a k c] 27)).alloc (.cells #[.int .i64 0, .int .i64 0, .int .i64 0, .int .i64 0, .slice none 0 0] 27)) from (Below.al (Below.al T.out (.cells #[.int .i64 n, .int .i64 m, .int .i64 f, .int .i64 d, .slice a k c] 27)) (.cells #[.int .i64 0, .int .i64 0, .int .i64 0, .int .i64 0, .slice none 0 0] 27)))
  have TB := Lib.hid (show BoxV ((wn.alloc (.cells #[.int .i64 n, .int .i64 m, .int .i64 f, .int .i64 d, .slice a k c] 27)).alloc (.cells #[.int .i64 0, .int .i64 0, .int .i64 0, .int .i64 0, .slice none 0 0] 27)) g [.int .i64 n, .int .i64 m, .int .i64 f, .int .i64 d, .slice a k c] from by have h9 := (BoxV.al (BoxV.new wn [.int .i64 n, .int .i64 m, .int .i64 f, .int .i64 d, .slice a k c] 27 (by simp) rfl) (.cells #[.int .i64 0, .int .i64 0, .int .i64 0, .int .i64 0, .slice none 0 0] 27)); simp only [World.size_alloc, hg, Nat.add_assoc, Nat.reduceAdd] at h9; exact h9)
  have RR := Lib.hid (show BoxV ((wn.alloc (.cells #[.int .i64 n, .int .i64 m, .int .i64 f, .int .i64 d, .slice a k c] 27)).alloc (.cells #[.int .i64 0, .int .i64 0, .int .i64 0, .int .i64 0, .slice none 0 0] 27)) (g + 1) [.int .i64 0, .int .i64 0, .int .i64 0, .int .i64 0, .slice none 0 0] from by have h9 := (BoxV.new (wn.alloc (.cells #[.int .i64 n, .int .i64 m, .int .i64 f, .int .i64 d, .slice a k c] 27)) [.int .i64 0, .int .i64 0, .int .i64 0, .int .i64 0, .slice none 0 0] 27 (by simp) rfl); simp only [World.size_alloc, hg, Nat.add_assoc, Nat.reduceAdd] at h9; exact h9)
  have HZg := Lib.hid (show (((wn.alloc (.cells #[.int .i64 n, .int .i64 m, .int .i64 f, .int .i64 d, .slice a k c] 27)).alloc (.cells #[.int .i64 0, .int .i64 0, .int .i64 0, .int .i64 0, .slice none 0 0] 27))).heap.size = g + 2 from by simp only [World.size_alloc, hg, Nat.add_assoc, Nat.reduceAdd])
  clear hg
  clear T
  have T := Tn
  clear Tn
  go_enter Try.func26, Try.ntmps26
  have c0 := (TB.out.2 0 _ rfl).1
  have c1 := (TB.out.2 1 _ rfl).1
  have c2 := (TB.out.2 2 _ rfl).1
  have c3 := (TB.out.2 3 _ rfl).1
  have c4 := (TB.out.2 4 _ rfl).1
  go_wp2_with fail
  rw [HGg.out]
  refine Calls.mono (HV.out _ (Rid.below X0.out T.out)) ?_
  intro e wn hh
  obtain ⟨he, hb⟩ := (by first | exact hh | exact Ro.mk hh | exact St.mk hh | exact LawOk.mk' hh : Mk _ _ e wn)
  subst he
  have Tn : Hid (Below w.heap.size w wn) := below_next T.out hb
  have TBn : Hid _ := BoxV.below TB.out hb
  have RRn : Hid _ := BoxV.below RR.out hb
  clear hb hh c0 c1 c2 c3 c4
  clear T TB RR
  have T := Tn
  have TB := TBn
  have RR := RRn
  clear Tn TBn RRn
  clear HV
  have c0 := (TB.out.2 0 _ rfl).1
  have c1 := (TB.out.2 1 _ rfl).1
  have c2 := (TB.out.2 2 _ rfl).1
  have c3 := (TB.out.2 3 _ rfl).1
  have c4 := (TB.out.2 4 _ rfl).1
  have hltTBHO := BoxV.lt TB.out
  have hltRRHO := BoxV.lt RR.out
  have hWHO := T.out.size
  obtain ⟨HO, hHO⟩ : ∃ HO, Array.size (World.heap wn) = HO := ⟨_, rfl⟩
  have HHO : Hid _ := hHO
  rw [hHO] at hWHO hltTBHO hltRRHO
  have OB : Hid (BoxV (wn.alloc (.cells #[.int .i64 n, .int .i64 m, .int .i64 f, .int .i64 d, .slice a k c] 27)) HO [.int .i64 n, .int .i64 m, .int .i64 f, .int .i64 d, .slice a k c]) := by rw [← hHO]; exact BoxV.new _ _ _ (by simp) rfl
  clear hHO
  have Tn : Hid (Below w.heap.size w _) := Below.al T.out (.cells #[.int .i64 n, .int .i64 m, .int .i64 f, .int .i64 d, .slice a k c] 27)
  have TBn : Hid _ := BoxV.below TB.out ((Below.refl _ _).alloc (Nat.le_refl _) (.cells #[.int .i64 n, .int .i64 m, .int .i64 f, .int .i64 d, .slice a k c] 27))
  have RRn : Hid _ := BoxV.below RR.out ((Below.refl _ _).alloc (Nat.le_refl _) (.cells #[.int .i64 n, .int .i64 m, .int .i64 f, .int .i64 d, .slice a k c] 27))
  clear T TB RR
  have T := Tn
  have TB := TBn
  have RR := RRn
  clear Tn TBn RRn
  go_upto_region 4 with fail
  rw [HHO.out]
  generalize wn.alloc _ = w0 at *
  obtain ⟨wn, hwq⟩ : ∃ w9 : World, w9 = w0 := ⟨_, rfl⟩
  subst hwq
  clear HHO
  obtain ⟨S, hS⟩ : ∃ S, wn.heap.size = S := ⟨_, rfl⟩
  have hOS : HO < S := by rw [← hS]; exact BoxV.lt OB.out
  have hRS : g + 1 < S := by rw [← hS]; exact BoxV.lt RR.out
  have hTS : g < S := by omega
  have hwS : w.heap.size ≤ S := by rw [← hS]; exact T.out.size
  have OA := Lib.hid (show OwnR 32 3 (wn.alloc (.cells #[] 32)) S (.slice (some ⟨S, 0, none⟩) 0 0) 0 (rfl3 []) from by
    have h9 := OwnR.none0 (E := 32) (k := 3) (w := wn); rw [hS] at h9; exact h9)
  have IN := Lib.hid (Rid.below X0.out (Below.al T.out (.cells #[] 32)))
  have hB1 : S ≤ (wn.alloc (.cells #[] 32)).heap.size := by rw [World.size_alloc, hS]; omega
  have c0 := (TB.out.2 0 _ rfl).1
  have c1 := (TB.out.2 1 _ rfl).1
  have c2 := (TB.out.2 2 _ rfl).1
  have c3 := (TB.out.2 3 _ rfl).1
  have c4 := (TB.out.2 4 _ rfl).1
  go_wp2_with (with_reducible refine wpList_append_riders OA.out rfl rfl IN.out (by omega) hB1 ?_)
  intro v2 w2 hO2 hgr hat
  rw [Nat.zero_add, List.nil_append] at hO2
  have hgb : ∀ q, (Value.slice (some ⟨S, 0, none⟩) 0 0).ownBlock = some q → q = S := fun q e => by cases e; rfl
  have T2 := Lib.hid (show Below w.heap.size w w2 from Below.own (Below.al T.out (.cells #[] 32)) hgr (fun i e => by have := hgb i e; omega))
  have OB2 := Lib.hid (BoxV.gr (BoxV.al OB.out (.cells #[] 32)) hgr (fun i e => by have := hgb i e; omega))
  have TB2 := Lib.hid (BoxV.gr (BoxV.al TB.out (.cells #[] 32)) hgr (fun i e => by have := hgb i e; omega))
  have RR2 := Lib.hid (BoxV.gr (BoxV.al RR.out (.cells #[] 32)) hgr (fun i e => by have := hgb i e; omega))
  obtain ⟨av, cv, hv, -, -⟩ := OwnR.open hO2
  subst hv
  have O2 := Lib.hid hO2
  clear OA IN hB1 hO2 hgr hat hgb OB TB RR T c0 c1 c2 c3 c4 hS
  have ho := Out.set (w := w2) (q := HO) (i := 4) (lo := HO) (hi := HO + 1) (.slice av k cv) (Nat.le_refl _) (by omega)
  have T := Lib.hid (Out.below T2.out ho (by omega))
  have OB := Lib.hid (show BoxV _ HO [.int .i64 n, .int .i64 m, .int .i64 f, .int .i64 d, .slice av k cv] from BoxV.set OB2.out 4 (.slice av k cv) (by simp))
  have TB := Lib.hid (BoxV.far (j := 4) (u := .slice av k cv) TB2.out (show g ≠ HO by omega))
  have RR := Lib.hid (BoxV.far (j := 4) (u := .slice av k cv) RR2.out (show g + 1 ≠ HO by omega))
  have O := Lib.hid (OwnR.pfar (c := HO) (j := 4) (u := .slice av k cv) O2.out (fun q hq => by have := (OwnR.lt O2.out q hq).1; omega))
  have b4 := OB2.out.2 4 _ rfl
  obtain ⟨b40, b41⟩ := b4
  go_upto_region 5 with fail
  clear b40 b41 T2 OB2 TB2 RR2 O2 ho
  generalize w2.setCell _ _ = w0 at *
  obtain ⟨wn, hwq⟩ : ∃ w9 : World, w9 = w0 := ⟨_, rfl⟩
  subst hwq
  obtain ⟨B0, hB0⟩ : ∃ B0, wn.heap.size = B0 := ⟨_, rfl⟩
  have HB0 := Lib.hid hB0
  have hTB : w.heap.size ≤ B0 := by rw [← hB0]; exact T.out.size
  have hOB0 : HO < B0 := by rw [← hB0]; exact BoxV.lt OB.out
  have HSB := Lib.hid (show ∀ q, (Value.slice av k cv).ownBlock = some q → q < B0 from fun q hq => by rw [← hB0]; exact (OwnR.lt O.out q hq).2)
  clear hB0
  refine wp_region_late 6 [19, 20, 21, 22, 23, 5] [(1, tV (.pointer (some ⟨g, 0, none⟩)))]
    [(19, tV (.agg #[.int .i64 n, .int .i64 m, .int .i64 f, .int .i64 d, .slice a k c])), (20, tF x0), (21, tV (.pointer (some ⟨g, 2, none⟩))), (22, tV (.agg #[.int .i64 f, .int .i64 d])), (23, tV (.agg #[.int .i64 (F), .int .i64 (D)])), (5, tN2 B0)]
    _ (by kernel_rfl) (by kernel_rfl) (by kernel_rfl) (by kernel_rfl) (by kernel_rfl) (by rfl) (by kernel_rfl) (by kernel_rfl) (by kernel_rfl) (by kernel_rfl) ⟨StW.g (StW.V _), StW.g (StW.V _), StGrow.F _, StW.g (StW.V _), StW.g (StW.V _), StW.g (StW.V _), StGrow.N2 _, trivial⟩ ⟨rfl, trivial⟩ ?hob ?_
  case hob =>
    refine ⟨?_, ?_, ?_, ?_, ?_, ?_, trivial⟩
    · intro w1 vs hC hL
      have u1 := hL 1 (List.mem_of_elem_eq_true (by kernel_rfl))
      replace u1 : vs 1 = .pointer (some ⟨g, 0, none⟩) := u1
      have TB9 := BoxV.below TB.out hC
      have c0 := (TB9.2 0 _ rfl).1
      have c1 := (TB9.2 1 _ rfl).1
      have c2 := (TB9.2 2 _ rfl).1
      have c3 := (TB9.2 3 _ rfl).1
      have c4 := (TB9.2 4 _ rfl).1
      clear TB9
      go_simp
      simp only [evOf_tmp, u1]
      go_simp
      exact oa_pure hC (show tV _ _ w1 from rfl)
    · intro w1 vs hC hL
      have u19 := hL 19 (List.mem_of_elem_eq_true (by kernel_rfl))
      replace u19 : vs 19 = .agg #[.int .i64 n, .int .i64 m, .int .i64 f, .int .i64 d, .slice a k c] := u19
      go_simp
      simp only [evOf_tmp, u19]
      exact oa_call hC (Calls.mono (HKC.out _ (Rid.below X0.out (below_next T.out hC))) (fun e w2 hh => (by obtain ⟨v1, v2, v3, lo, hi, rfl, hO, hb2, -, -⟩ := NewC.get hh; obtain ⟨q1, j1, q2, j2, q3, j3, rfl, rfl, rfl, hCC⟩ := OwnC.open hO; exact ⟨_, rfl, (show Fre _ _ w2 from ⟨q1, j1, q2, j2, q3, j3, rfl, hCC⟩), hb2⟩)))
    · intro w1 vs hC hL
      have u1 := hL 1 (List.mem_of_elem_eq_true (by kernel_rfl))
      replace u1 : vs 1 = .pointer (some ⟨g, 0, none⟩) := u1
      go_simp
      simp only [evOf_tmp, u1]
      go_simp
      exact oa_pure hC (show tV _ _ w1 from rfl)
    · intro w1 vs hC hL
      have u21 := hL 21 (List.mem_of_elem_eq_true (by kernel_rfl))
      replace u21 : vs 21 = .pointer (some ⟨g, 2, none⟩) := u21
      have TB9 := BoxV.below TB.out hC
      have c0 := (TB9.2 0 _ rfl).1
      have c1 := (TB9.2 1 _ rfl).1
      have c2 := (TB9.2 2 _ rfl).1
      have c3 := (TB9.2 3 _ rfl).1
      have c4 := (TB9.2 4 _ rfl).1
      clear TB9
      go_simp
      simp only [evOf_tmp, u21]
      go_simp
      exact oa_pure hC (show tV _ _ w1 from rfl)
    · intro w1 vs hC hL
      have u20 := hL 20 (List.mem_of_elem_eq_true (by kernel_rfl))
      replace u20 : Fre (vs 20) x0 w1 := u20
      obtain ⟨p201, i201, p202, i202, p203, i203, u20, hF20⟩ := u20
      have u22 := hL 22 (List.mem_of_elem_eq_true (by kernel_rfl))
      replace u22 : vs 22 = .agg #[.int .i64 f, .int .i64 d] := u22
      go_simp
      simp only [evOf_tmp, u20, u22]
      exact oa_call hC (Calls.mono (HKN.out _ _ _ _ _ _ _ _ _ _ hF20) (fun e w2 hh => (by obtain ⟨he, hb⟩ := (by first | exact hh | exact Ro.mk hh | exact St.mk hh : Mk _ _ e w2); exact ⟨_, he, (show tV _ _ w2 from rfl), hb⟩)))
    · intro w1 vs hC hL
      go_simp
      exact oa_alloc hC (show tN2 _ _ (World.alloc w1 (.cells #[.int .i64 0, .int .i64 0] 24)) from ⟨w1.heap.size, rfl, by rw [← HB0.out]; exact hC.size, Box.new _ _ _ _⟩)
  intro vs wq hq hT
  have t1 : vs 23 = .agg #[.int .i64 (F), .int .i64 (D)] := hT 23 rfl
  have t2 : tN2 B0 (vs 5) wq := hT 5 rfl
  obtain ⟨HN, t3, hHB, hbox⟩ := t2
  simp (decide := true) only [over, Nat.reduceAdd, if_true, if_false]
  rw [t1, t3]
  have NB := Lib.hid hbox
  clear hT t1 t3 hbox
  have Tn := Lib.hid (below_next T.out hq)
  have TBn := Lib.hid (BoxV.below TB.out hq)
  have RRn := Lib.hid (BoxV.below RR.out hq)
  have OBn := Lib.hid (BoxV.below OB.out hq)
  have On := Lib.hid (OwnR.below O.out hq)
  clear hq
  clear T TB RR OB O
  have T := Tn
  have TB := TBn
  have RR := RRn
  have OB := OBn
  have O := On
  clear Tn TBn RRn OBn On
  obtain ⟨wn, hwq⟩ : ∃ w0, w0 = wq := ⟨_, rfl⟩
  subst hwq
  have ho := Out.trans (Out.set (w := wn) (q := HN) (i := 0) (lo := HN) (hi := HN + 1) (.int .i64 (F)) (Nat.le_refl _) (by omega)) (Out.set (w := wn.setCell ⟨HN, 0, none⟩ (.int .i64 (F))) (q := HN) (i := 1) (lo := HN) (hi := HN + 1) (.int .i64 (D)) (Nat.le_refl _) (by omega))
  have T2 := Lib.hid (Out.below T.out ho (by omega))
  have RR2 := Lib.hid (BoxV.out RR.out ho (.inl (by omega)))
  have OB2 := Lib.hid (BoxV.out OB.out ho (.inl (by omega)))
  have O2 := Lib.hid (OwnR.block O.out (fun q hq => ho.block q (OwnR.lt O.out q hq).2 (.inl (by have := HSB.out q hq; omega))))
  have NB2 := Lib.hid (Box.pset1 (D) (Box.pset0 (F) NB.out))
  obtain ⟨⟨x0', x1'⟩, xf0, xf1⟩ := NB.out
  go_upto_region 6 with fail
  clear ho x0' x1' xf0 xf1 T RR OB O NB TB
  have T := T2
  have RR := RR2
  have OB := OB2
  have O := O2
  have NB := NB2
  clear T2 RR2 OB2 O2 NB2 HKC HKN HB0
  generalize (wn.setCell ⟨HN, 0, none⟩ (.int .i64 (F))).setCell ⟨HN, 1, none⟩ (.int .i64 (D)) = w0 at *
  obtain ⟨wn, hwq⟩ : ∃ w9 : World, w9 = w0 := ⟨_, rfl⟩
  subst hwq
  obtain ⟨⟨c0, c1⟩, cf0, cf1⟩ := NB.out
  have hSq : ∀ q, (Value.slice av k cv).ownBlock = some q → S ≤ q := fun q hq => (OwnR.lt O.out q hq).1
  have HSQ := Lib.hid hSq
  clear hSq
  have ho := Out.trans (Out.set (w := wn) (q := HO) (i := 2) (lo := HO) (hi := HO + 1) (.int .i64 F) (Nat.le_refl _) (by omega)) (Out.set (w := wn.setCell ⟨HO, 2, none⟩ (.int .i64 F)) (q := HO) (i := 3) (lo := HO) (hi := HO + 1) (.int .i64 D) (Nat.le_refl _) (by omega))
  have T2 := Lib.hid (Out.below T.out ho (by omega))
  have RR2 := Lib.hid (BoxV.out RR.out ho (.inl (by omega)))
  have OB2 := Lib.hid (show BoxV _ HO [.int .i64 n, .int .i64 m, .int .i64 F, .int .i64 D, .slice av k cv] from BoxV.set (BoxV.set OB.out 2 (.int .i64 F) (by simp)) 3 (.int .i64 D) (by simp))
  have O2 := Lib.hid (OwnR.block O.out (fun q hq => ho.block q (OwnR.lt O.out q hq).2 (.inr (by have := HSQ.out q hq; omega))))
  have NB2 := Lib.hid (Box.out NB.out ho (.inr (by omega)))
  obtain ⟨m2', m2⟩ := OB.out.2 2 _ rfl
  obtain ⟨m3', m3⟩ := OB.out.2 3 _ rfl
  go_upto_region 9 with fail
  clear ho m2 m3 m2' m3' c0 c1 T RR OB O NB
  have T := T2
  have RR := RR2
  have OB := OB2
  have O := O2
  have NB := NB2
  clear T2 RR2 OB2 O2 NB2
  generalize (wn.setCell ⟨HO, 2, none⟩ (.int .i64 F)).setCell ⟨HO, 3, none⟩ (.int .i64 D) = w0 at *
  obtain ⟨wn, hwq⟩ : ∃ w9 : World, w9 = w0 := ⟨_, rfl⟩
  subst hwq
  go_wp2_with fail
  go_loopw [6] (fun v wr => ∃ i : Nat, i ≤ k ∧ v = .int .i64 i ∧ Below w.heap.size w wr ∧ BoxV wr (g + 1) [.int .i64 0, .int .i64 0, .int .i64 0, .int .i64 0, .slice none 0 0] ∧ BoxV wr HO [.int .i64 n, .int .i64 m, .int .i64 F, .int .i64 D, .slice av k cv] ∧ OwnR 32 3 wr S (.slice av k cv) k (rfl3 (outL F l i)) ∧ Box wr HN F D) (fun v _ => k - (intOf v).toNat)
  case atStart => exact ⟨0, by omega, rfl, T.out, RR.out, OB.out, O.out, NB.out⟩
  case' round =>
    clear T RR OB O NB
    obtain ⟨i, hi, rfl, h9T, h9RR, h9OB, h9O, h9NB⟩ := hrel
    obtain ⟨wn, hwq⟩ : ∃ w0 : World, w0 = wr := ⟨_, rfl⟩
    rw [← hwq] at h9T h9RR h9OB h9O h9NB ⊢
    clear hwq
    have T := Lib.hid h9T
    have RR := Lib.hid h9RR
    have OB := Lib.hid h9OB
    have O := Lib.hid h9O
    have NB := Lib.hid h9NB
    clear h9T h9RR h9OB h9O h9NB
    by_cases hlt : i < k
    case neg =>
      obtain rfl : i = k := by omega
      have e1 : outL F l i = l.map (gout F) := by have := outL_all F l; rw [HL.out] at this; exact this
      rw [e1] at O
      have hgo : goR m F D l = gin m F D (ins (l.map (gout F))) (l.map (gout F)) := rfl
      have hl1 : (l.map (gout F)).length = i := by rw [List.length_map]; exact HL.out
      obtain ⟨l1, hl1e⟩ : ∃ l1, l.map (gout F) = l1 := ⟨_, rfl⟩
      rw [hl1e] at O hgo hl1
      have HGO := Lib.hid hgo
      have HL1 := Lib.hid hl1
      clear hgo hl1 hl1e e1 hlt
      have d0 := (OB.out.2 0 _ rfl).1
      have d1 := (OB.out.2 1 _ rfl).1
      have d2 := (OB.out.2 2 _ rfl).1
      have d3 := (OB.out.2 3 _ rfl).1
      have d4 := (OB.out.2 4 _ rfl).1
      go_wp2_with fail
      go_loopw [7] (fun v wr => ∃ j : Nat, j ≤ i ∧ v = .int .i64 j ∧ Below w.heap.size w wr ∧ BoxV wr (g + 1) [.int .i64 0, .int .i64 0, .int .i64 0, .int .i64 0, .slice none 0 0] ∧ BoxV wr HO [.int .i64 n, .int .i64 m, .int .i64 F, .int .i64 D, .slice av i cv] ∧ OwnR 32 3 wr S (.slice av i cv) i (rfl3 (inL m F D l1 j)) ∧ Box wr HN F D) (fun v _ => i - (intOf v).toNat)
      case atStart => exact ⟨0, by omega, rfl, T.out, RR.out, OB.out, O.out, NB.out⟩
      case' round =>
        clear T RR OB O NB d0 d1 d2 d3 d4
        obtain ⟨j, hj, rfl, h9T, h9RR, h9OB, h9O, h9NB⟩ := hrel
        obtain ⟨wn, hwq⟩ : ∃ w0 : World, w0 = wr := ⟨_, rfl⟩
        rw [← hwq] at h9T h9RR h9OB h9O h9NB ⊢
        clear hwq
        have T := Lib.hid h9T
        have RR := Lib.hid h9RR
        have OB := Lib.hid h9OB
        have O := Lib.hid h9O
        have NB := Lib.hid h9NB
        clear h9T h9RR h9OB h9O h9NB
        by_cases hlt : j < i
        case neg =>
          obtain rfl : j = i := by omega
          have e1 : inL m F D l1 j = goR m F D l := by have := inL_all m F D l1; rw [HL1.out] at this; rw [this, HGO.out]
          rw [e1] at O
          clear e1 hlt
          obtain ⟨⟨c0, c1⟩, cf0, cf1⟩ := NB.out
          have d0 := (OB.out.2 0 _ rfl).1
          have d1 := (OB.out.2 1 _ rfl).1
          have d2 := (OB.out.2 2 _ rfl).1
          have d3 := (OB.out.2 3 _ rfl).1
          have d4 := (OB.out.2 4 _ rfl).1
          have e0 := (RR.out.2 0 _ rfl).1
          have ef0 := (RR.out.2 0 _ rfl).2
          have e1 := (RR.out.2 1 _ rfl).1
          have ef1 := (RR.out.2 1 _ rfl).2
          have e2 := (RR.out.2 2 _ rfl).1
          have ef2 := (RR.out.2 2 _ rfl).2
          have e3 := (RR.out.2 3 _ rfl).1
          have ef3 := (RR.out.2 3 _ rfl).2
          have e4 := (RR.out.2 4 _ rfl).1
          have ef4 := (RR.out.2 4 _ rfl).2
          have N := newT_end (n := n) (m := m) (f := F) (d := D) (l := goR m F D l) (r := g + 1) (w := wn) (v := .slice av j cv) (B := S) (by rw [show List.length (goR m F D l) = j from (by rw [goR_len]; exact HL.out)]; exact O.out) (by omega) T.out (by omega) (fun q hq => by have := (OwnR.lt O.out q hq).1; omega) (fun v => .tuple #[v, .bool true])
          unfold set5 at N
          have ef0 := (RR.out.2 0 _ rfl).2
          have ef1 := (RR.out.2 1 _ rfl).2
          have ef2 := (RR.out.2 2 _ rfl).2
          have ef3 := (RR.out.2 3 _ rfl).2
          have ef4 := (RR.out.2 4 _ rfl).2
          have N2 := Lib.hid N
          clear N RR OB NB O T
          go_wp2_with fail
          clear c0 c1 d0 d1 d2 d3 d4
          have c0 := e0
          have c1 := e1
          have c2 := e2
          have c3 := e3
          have c4 := e4
          exact bodyPost_ret (v := .tuple #[.agg #[.int .i64 n, .int .i64 m, .int .i64 (F), .int .i64 (D), .slice av j cv], .bool true]) (by simp [results, Try.results26, go_sem, c0, c1, c2, c3, c4]) rfl N2.out
        obtain ⟨bO, oO, rfl⟩ := Rid.some (OwnR.rid O.out) (by omega)
        obtain ⟨a', c', e', -, hop⟩ := OwnR.open O.out
        simp only [Value.slice.injEq, true_and] at e'
        obtain ⟨rfl, rfl⟩ := e'
        obtain ⟨rfl, -, fz, -, -⟩ := hop bO oO none rfl
        clear hop fz
        obtain ⟨y0, y1, y2⟩ := Rid.three (OwnR.rid O.out) hlt
        simp only [Nat.zero_add] at y0 y1 y2
        have hii : (j : Int) < i := by omega
        have hla : j < (inL m F D l1 j).length := by rw [inL_len, HL1.out]; exact hlt
        have hra := inL_at (m := m) (k := F) (D := D) (l := l1) (i := j) (by rw [HL1.out]; exact hlt)
        obtain ⟨⟨x, y, s⟩, hr⟩ : ∃ r, rat l1 j = r := ⟨_, rfl⟩
        rw [hra, hr] at y0 y1 y2
        rw [hr] at hra
        have hSb : S ≤ bO := HSQ.out bO rfl
        have hbB : bO < B0 := HSB.out bO rfl
        have hnx := inL_next (m := m) (k := F) (D := D) (l := l1) (i := j) (by rw [HL1.out]; exact hlt)
        rw [hr] at hnx
        have KI := fun w' (h : Rid w' (some ⟨bO, 0, none⟩) i (inL m F D l1 j)) => l11Inside_c n m F D (some ⟨bO, 0, none⟩) i cv (inL m F D l1 j) w' h hk
        have KD := fun w' => l11Dir_c ⟨x, y, s⟩ w'
        obtain ⟨z, hz⟩ : ∃ z : Nat, ins (inL m F D l1 j) = z := ⟨_, rfl⟩
        obtain ⟨e, he⟩ : ∃ e, rdir ⟨x, y, s⟩ = e := ⟨_, rfl⟩
        rw [hz] at KI hnx
        rw [he] at KD hnx
        have HI := Lib.hid KI
        have HD := Lib.hid (show ∀ w', Calls Try.prog 49 #[.agg #[.int .i64 x, .int .i64 y, .int .i64 s]] w' (Mk w' (.int .i64 e)) from KD)
        have HRA := Lib.hid hra
        have HLA := Lib.hid hla
        have HNX := Lib.hid hnx
        clear KI KD hz he hra hla hnx hr
        have d4 := (OB.out.2 4 _ rfl).1
        have hltRRHR := BoxV.lt RR.out
        have hltOBHR := BoxV.lt OB.out
        have hltNBHR := Box.lt NB.out
        have hWHR := T.out.size
        obtain ⟨HR, hHR⟩ : ∃ HR, Array.size (World.heap wn) = HR := ⟨_, rfl⟩
        have HHR : Hid _ := hHR
        rw [hHR] at hWHR hltRRHR hltOBHR hltNBHR
        have RB : Hid (BoxV (wn.alloc (.cells #[.int .i64 x, .int .i64 y, .int .i64 s] 32)) HR [.int .i64 x, .int .i64 y, .int .i64 s]) := by rw [← hHR]; exact BoxV.new _ _ _ (by simp) rfl
        clear hHR
        have Tn : Hid (Below w.heap.size w _) := Below.al T.out (.cells #[.int .i64 x, .int .i64 y, .int .i64 s] 32)
        have RRn : Hid _ := BoxV.below RR.out ((Below.refl _ _).alloc (Nat.le_refl _) (.cells #[.int .i64 x, .int .i64 y, .int .i64 s] 32))
        have OBn : Hid _ := BoxV.below OB.out ((Below.refl _ _).alloc (Nat.le_refl _) (.cells #[.int .i64 x, .int .i64 y, .int .i64 s] 32))
        have On : Hid _ := OwnR.below O.out ((Below.refl _ _).alloc (Nat.le_refl _) (.cells #[.int .i64 x, .int .i64 y, .int .i64 s] 32))
        have NBn : Hid _ := Box.below NB.out ((Below.refl _ _).alloc (Nat.le_refl _) (.cells #[.int .i64 x, .int .i64 y, .int .i64 s] 32))
        clear T RR OB O NB
        have T := Tn
        have RR := RRn
        have OB := OBn
        have O := On
        have NB := NBn
        clear Tn RRn OBn On NBn
        go_upto_region 18 with fail
        rw [HHR.out]
        clear y0 y1 y2 d4
        generalize wn.alloc (.cells #[.int .i64 x, .int .i64 y, .int .i64 s] 32) = w0 at *
        obtain ⟨wn, hwq⟩ : ∃ w9 : World, w9 = w0 := ⟨_, rfl⟩
        subst hwq
        clear HHR
        by_cases h0 : s = 0
        case neg =>
          have v0 : (s == 0) = false := by exact beq_false_of_ne h0
          have E9 := Lib.hid (show inL m F D l1 (j + 1) = inL m F D l1 j from by rw [HNX.out, if_neg (fun h9 => h0 h9.1)])
          clear h0
          refine wp_region_quiet (C := fun w' => Below (World.heap (wn)).size (wn) w') (by kernel_rfl) (by kernel_rfl) (by first | exact ⟨rfl, rfl, rfl, Nat.le_refl _, fun _ _ => rfl⟩ | exact Below.dw (by repeat (first | exact Below.refl _ _ | refine Below.al ?_ _ | refine Below.dr ?_ _ | refine Below.dw ?_ | refine Below.st ?_ (by first | exact Nat.le_refl _ | exact Nat.le_add_right _ _ | (simp; omega)) _ | (refine below_next ?_ (by assumption))))) ?_
          simp only []
          repeat (go_big_quiet_step (first | (intro _; with_reducible exact rfl) | (intro hC; go_at_call 49; have OB9 := BoxV.below OB.out hC; have d0 := (OB9.2 0 _ rfl).1; have d1 := (OB9.2 1 _ rfl).1; have d2 := (OB9.2 2 _ rfl).1; have d3 := (OB9.2 3 _ rfl).1; have d4 := (OB9.2 4 _ rfl).1; clear OB9; obtain ⟨⟨c0, c1⟩, -⟩ := Box.below NB.out hC; have RB9 := BoxV.below RB.out hC; have e0 := (RB9.2 0 _ rfl).1; have e1 := (RB9.2 1 _ rfl).1; have e2 := (RB9.2 2 _ rfl).1; clear RB9; (refine Calls.mono (HD.out _) ?_); (first | (rintro e wx ⟨rfl, hb⟩; exact ⟨rfl, below_next hC hb⟩) | (rintro e wx ⟨rfl, n, rfl⟩; exact ⟨rfl, Below.dr hC n⟩) | (rintro e wx ⟨rfl, rfl⟩; exact ⟨rfl, hC⟩))) | (intro hC; go_at_call 50; have OB9 := BoxV.below OB.out hC; have d0 := (OB9.2 0 _ rfl).1; have d1 := (OB9.2 1 _ rfl).1; have d2 := (OB9.2 2 _ rfl).1; have d3 := (OB9.2 3 _ rfl).1; have d4 := (OB9.2 4 _ rfl).1; clear OB9; obtain ⟨⟨c0, c1⟩, -⟩ := Box.below NB.out hC; have RB9 := BoxV.below RB.out hC; have e0 := (RB9.2 0 _ rfl).1; have e1 := (RB9.2 1 _ rfl).1; have e2 := (RB9.2 2 _ rfl).1; clear RB9; (refine Calls.mono (HI.out _ (OwnR.rid (OwnR.below O.out hC))) ?_); (first | (rintro e wx ⟨rfl, hb⟩; exact ⟨rfl, below_next hC hb⟩) | (rintro e wx ⟨rfl, n, rfl⟩; exact ⟨rfl, Below.dr hC n⟩) | (rintro e wx ⟨rfl, rfl⟩; exact ⟨rfl, hC⟩))) | (intro hC; have OB9 := BoxV.below OB.out hC; have d0 := (OB9.2 0 _ rfl).1; have d1 := (OB9.2 1 _ rfl).1; have d2 := (OB9.2 2 _ rfl).1; have d3 := (OB9.2 3 _ rfl).1; have d4 := (OB9.2 4 _ rfl).1; clear OB9; obtain ⟨⟨c0, c1⟩, -⟩ := Box.below NB.out hC; have RB9 := BoxV.below RB.out hC; have e0 := (RB9.2 0 _ rfl).1; have e1 := (RB9.2 1 _ rfl).1; have e2 := (RB9.2 2 _ rfl).1; clear RB9; go_simp; rfl)))
          refine wpQuiet_nil ?_
          intro wq hq
          have Tn := Lib.hid (below_next T.out hq)
          have RRn := Lib.hid (BoxV.below RR.out hq)
          have OBn := Lib.hid (BoxV.below OB.out hq)
          have On := Lib.hid (OwnR.below O.out hq)
          have NBn := Lib.hid (Box.below NB.out hq)
          have RBn := Lib.hid (BoxV.below RB.out hq)
          clear hq
          clear T RR OB O NB RB
          have T := Tn
          have RR := RRn
          have OB := OBn
          have O := On
          have NB := NBn
          have RB := RBn
          clear Tn RRn OBn On NBn RBn
          obtain ⟨wn, hwq⟩ : ∃ w0, w0 = wq := ⟨_, rfl⟩
          subst hwq
          have PX := Lib.hid (show OwnR 32 3 wn S (.slice (some ⟨bO, 0, none⟩) i cv) i (rfl3 (inL m F D l1 (j + 1))) from by rw [E9.out]; exact O.out)
          clear O RB
          have O := PX
          clear PX
          go_wp2_with fail
          go_roundw
          case rel => exact ⟨j + 1, by omega, by go_num, T.out, RR.out, OB.out, O.out, NB.out⟩
          case measure => first | (simp [intOf]; done) | (simp [intOf]; omega) | omega
        have v0 : (s == 0) = true := by simp [h0]
        have HH0 := Lib.hid h0
        clear h0
        by_cases h1 : x = F
        case neg =>
          have v1 : (x == F) = false := by exact beq_false_of_ne h1
          have E9 := Lib.hid (show inL m F D l1 (j + 1) = inL m F D l1 j from by rw [HNX.out, if_neg (fun h9 => h1 h9.2.1)])
          clear h1
          refine wp_region_quiet (C := fun w' => Below (World.heap (wn)).size (wn) w') (by kernel_rfl) (by kernel_rfl) (by first | exact ⟨rfl, rfl, rfl, Nat.le_refl _, fun _ _ => rfl⟩ | exact Below.dw (by repeat (first | exact Below.refl _ _ | refine Below.al ?_ _ | refine Below.dr ?_ _ | refine Below.dw ?_ | refine Below.st ?_ (by first | exact Nat.le_refl _ | exact Nat.le_add_right _ _ | (simp; omega)) _ | (refine below_next ?_ (by assumption))))) ?_
          simp only []
          repeat (go_big_quiet_step (first | (intro _; with_reducible exact rfl) | (intro hC; go_at_call 49; have OB9 := BoxV.below OB.out hC; have d0 := (OB9.2 0 _ rfl).1; have d1 := (OB9.2 1 _ rfl).1; have d2 := (OB9.2 2 _ rfl).1; have d3 := (OB9.2 3 _ rfl).1; have d4 := (OB9.2 4 _ rfl).1; clear OB9; obtain ⟨⟨c0, c1⟩, -⟩ := Box.below NB.out hC; have RB9 := BoxV.below RB.out hC; have e0 := (RB9.2 0 _ rfl).1; have e1 := (RB9.2 1 _ rfl).1; have e2 := (RB9.2 2 _ rfl).1; clear RB9; (refine Calls.mono (HD.out _) ?_); (first | (rintro e wx ⟨rfl, hb⟩; exact ⟨rfl, below_next hC hb⟩) | (rintro e wx ⟨rfl, n, rfl⟩; exact ⟨rfl, Below.dr hC n⟩) | (rintro e wx ⟨rfl, rfl⟩; exact ⟨rfl, hC⟩))) | (intro hC; go_at_call 50; have OB9 := BoxV.below OB.out hC; have d0 := (OB9.2 0 _ rfl).1; have d1 := (OB9.2 1 _ rfl).1; have d2 := (OB9.2 2 _ rfl).1; have d3 := (OB9.2 3 _ rfl).1; have d4 := (OB9.2 4 _ rfl).1; clear OB9; obtain ⟨⟨c0, c1⟩, -⟩ := Box.below NB.out hC; have RB9 := BoxV.below RB.out hC; have e0 := (RB9.2 0 _ rfl).1; have e1 := (RB9.2 1 _ rfl).1; have e2 := (RB9.2 2 _ rfl).1; clear RB9; (refine Calls.mono (HI.out _ (OwnR.rid (OwnR.below O.out hC))) ?_); (first | (rintro e wx ⟨rfl, hb⟩; exact ⟨rfl, below_next hC hb⟩) | (rintro e wx ⟨rfl, n, rfl⟩; exact ⟨rfl, Below.dr hC n⟩) | (rintro e wx ⟨rfl, rfl⟩; exact ⟨rfl, hC⟩))) | (intro hC; have OB9 := BoxV.below OB.out hC; have d0 := (OB9.2 0 _ rfl).1; have d1 := (OB9.2 1 _ rfl).1; have d2 := (OB9.2 2 _ rfl).1; have d3 := (OB9.2 3 _ rfl).1; have d4 := (OB9.2 4 _ rfl).1; clear OB9; obtain ⟨⟨c0, c1⟩, -⟩ := Box.below NB.out hC; have RB9 := BoxV.below RB.out hC; have e0 := (RB9.2 0 _ rfl).1; have e1 := (RB9.2 1 _ rfl).1; have e2 := (RB9.2 2 _ rfl).1; clear RB9; go_simp; rfl)))
          refine wpQuiet_nil ?_
          intro wq hq
          have Tn := Lib.hid (below_next T.out hq)
          have RRn := Lib.hid (BoxV.below RR.out hq)
          have OBn := Lib.hid (BoxV.below OB.out hq)
          have On := Lib.hid (OwnR.below O.out hq)
          have NBn := Lib.hid (Box.below NB.out hq)
          have RBn := Lib.hid (BoxV.below RB.out hq)
          clear hq
          clear T RR OB O NB RB
          have T := Tn
          have RR := RRn
          have OB := OBn
          have O := On
          have NB := NBn
          have RB := RBn
          clear Tn RRn OBn On NBn RBn
          obtain ⟨wn, hwq⟩ : ∃ w0, w0 = wq := ⟨_, rfl⟩
          subst hwq
          have PX := Lib.hid (show OwnR 32 3 wn S (.slice (some ⟨bO, 0, none⟩) i cv) i (rfl3 (inL m F D l1 (j + 1))) from by rw [E9.out]; exact O.out)
          clear O RB
          have O := PX
          clear PX
          go_wp2_with fail
          go_roundw
          case rel => exact ⟨j + 1, by omega, by go_num, T.out, RR.out, OB.out, O.out, NB.out⟩
          case measure => first | (simp [intOf]; done) | (simp [intOf]; omega) | omega
        have v1 : (x == F) = true := by simp [h1]
        have HH1 := Lib.hid h1
        clear h1
        by_cases h2 : e = D
        case neg =>
          have v2 : (e == D) = false := by exact beq_false_of_ne h2
          have E9 := Lib.hid (show inL m F D l1 (j + 1) = inL m F D l1 j from by rw [HNX.out, if_neg (fun h9 => h2 h9.2.2.1)])
          clear h2
          refine wp_region_quiet (C := fun w' => Below (World.heap (wn)).size (wn) w') (by kernel_rfl) (by kernel_rfl) (by first | exact ⟨rfl, rfl, rfl, Nat.le_refl _, fun _ _ => rfl⟩ | exact Below.dw (by repeat (first | exact Below.refl _ _ | refine Below.al ?_ _ | refine Below.dr ?_ _ | refine Below.dw ?_ | refine Below.st ?_ (by first | exact Nat.le_refl _ | exact Nat.le_add_right _ _ | (simp; omega)) _ | (refine below_next ?_ (by assumption))))) ?_
          simp only []
          repeat (go_big_quiet_step (first | (intro _; with_reducible exact rfl) | (intro hC; go_at_call 49; have OB9 := BoxV.below OB.out hC; have d0 := (OB9.2 0 _ rfl).1; have d1 := (OB9.2 1 _ rfl).1; have d2 := (OB9.2 2 _ rfl).1; have d3 := (OB9.2 3 _ rfl).1; have d4 := (OB9.2 4 _ rfl).1; clear OB9; obtain ⟨⟨c0, c1⟩, -⟩ := Box.below NB.out hC; have RB9 := BoxV.below RB.out hC; have e0 := (RB9.2 0 _ rfl).1; have e1 := (RB9.2 1 _ rfl).1; have e2 := (RB9.2 2 _ rfl).1; clear RB9; (refine Calls.mono (HD.out _) ?_); (first | (rintro e wx ⟨rfl, hb⟩; exact ⟨rfl, below_next hC hb⟩) | (rintro e wx ⟨rfl, n, rfl⟩; exact ⟨rfl, Below.dr hC n⟩) | (rintro e wx ⟨rfl, rfl⟩; exact ⟨rfl, hC⟩))) | (intro hC; go_at_call 50; have OB9 := BoxV.below OB.out hC; have d0 := (OB9.2 0 _ rfl).1; have d1 := (OB9.2 1 _ rfl).1; have d2 := (OB9.2 2 _ rfl).1; have d3 := (OB9.2 3 _ rfl).1; have d4 := (OB9.2 4 _ rfl).1; clear OB9; obtain ⟨⟨c0, c1⟩, -⟩ := Box.below NB.out hC; have RB9 := BoxV.below RB.out hC; have e0 := (RB9.2 0 _ rfl).1; have e1 := (RB9.2 1 _ rfl).1; have e2 := (RB9.2 2 _ rfl).1; clear RB9; (refine Calls.mono (HI.out _ (OwnR.rid (OwnR.below O.out hC))) ?_); (first | (rintro e wx ⟨rfl, hb⟩; exact ⟨rfl, below_next hC hb⟩) | (rintro e wx ⟨rfl, n, rfl⟩; exact ⟨rfl, Below.dr hC n⟩) | (rintro e wx ⟨rfl, rfl⟩; exact ⟨rfl, hC⟩))) | (intro hC; have OB9 := BoxV.below OB.out hC; have d0 := (OB9.2 0 _ rfl).1; have d1 := (OB9.2 1 _ rfl).1; have d2 := (OB9.2 2 _ rfl).1; have d3 := (OB9.2 3 _ rfl).1; have d4 := (OB9.2 4 _ rfl).1; clear OB9; obtain ⟨⟨c0, c1⟩, -⟩ := Box.below NB.out hC; have RB9 := BoxV.below RB.out hC; have e0 := (RB9.2 0 _ rfl).1; have e1 := (RB9.2 1 _ rfl).1; have e2 := (RB9.2 2 _ rfl).1; clear RB9; go_simp; rfl)))
          refine wpQuiet_nil ?_
          intro wq hq
          have Tn := Lib.hid (below_next T.out hq)
          have RRn := Lib.hid (BoxV.below RR.out hq)
          have OBn := Lib.hid (BoxV.below OB.out hq)
          have On := Lib.hid (OwnR.below O.out hq)
          have NBn := Lib.hid (Box.below NB.out hq)
          have RBn := Lib.hid (BoxV.below RB.out hq)
          clear hq
          clear T RR OB O NB RB
          have T := Tn
          have RR := RRn
          have OB := OBn
          have O := On
          have NB := NBn
          have RB := RBn
          clear Tn RRn OBn On NBn RBn
          obtain ⟨wn, hwq⟩ : ∃ w0, w0 = wq := ⟨_, rfl⟩
          subst hwq
          have PX := Lib.hid (show OwnR 32 3 wn S (.slice (some ⟨bO, 0, none⟩) i cv) i (rfl3 (inL m F D l1 (j + 1))) from by rw [E9.out]; exact O.out)
          clear O RB
          have O := PX
          clear PX
          go_wp2_with fail
          go_roundw
          case rel => exact ⟨j + 1, by omega, by go_num, T.out, RR.out, OB.out, O.out, NB.out⟩
          case measure => first | (simp [intOf]; done) | (simp [intOf]; omega) | omega
        have v2 : (e == D) = true := by simp [h2]
        have HH2 := Lib.hid h2
        clear h2
        by_cases h3 : (z : Int) < m
        case neg =>
          have v3 : decide ((z : Int) < m) = false := by exact decide_eq_false h3
          have E9 := Lib.hid (show inL m F D l1 (j + 1) = inL m F D l1 j from by rw [HNX.out, if_neg (fun h9 => h3 h9.2.2.2)])
          clear h3
          refine wp_region_quiet (C := fun w' => Below (World.heap (wn)).size (wn) w') (by kernel_rfl) (by kernel_rfl) (by first | exact ⟨rfl, rfl, rfl, Nat.le_refl _, fun _ _ => rfl⟩ | exact Below.dw (by repeat (first | exact Below.refl _ _ | refine Below.al ?_ _ | refine Below.dr ?_ _ | refine Below.dw ?_ | refine Below.st ?_ (by first | exact Nat.le_refl _ | exact Nat.le_add_right _ _ | (simp; omega)) _ | (refine below_next ?_ (by assumption))))) ?_
          simp only []
          repeat (go_big_quiet_step (first | (intro _; with_reducible exact rfl) | (intro hC; go_at_call 49; have OB9 := BoxV.below OB.out hC; have d0 := (OB9.2 0 _ rfl).1; have d1 := (OB9.2 1 _ rfl).1; have d2 := (OB9.2 2 _ rfl).1; have d3 := (OB9.2 3 _ rfl).1; have d4 := (OB9.2 4 _ rfl).1; clear OB9; obtain ⟨⟨c0, c1⟩, -⟩ := Box.below NB.out hC; have RB9 := BoxV.below RB.out hC; have e0 := (RB9.2 0 _ rfl).1; have e1 := (RB9.2 1 _ rfl).1; have e2 := (RB9.2 2 _ rfl).1; clear RB9; (refine Calls.mono (HD.out _) ?_); (first | (rintro e wx ⟨rfl, hb⟩; exact ⟨rfl, below_next hC hb⟩) | (rintro e wx ⟨rfl, n, rfl⟩; exact ⟨rfl, Below.dr hC n⟩) | (rintro e wx ⟨rfl, rfl⟩; exact ⟨rfl, hC⟩))) | (intro hC; go_at_call 50; have OB9 := BoxV.below OB.out hC; have d0 := (OB9.2 0 _ rfl).1; have d1 := (OB9.2 1 _ rfl).1; have d2 := (OB9.2 2 _ rfl).1; have d3 := (OB9.2 3 _ rfl).1; have d4 := (OB9.2 4 _ rfl).1; clear OB9; obtain ⟨⟨c0, c1⟩, -⟩ := Box.below NB.out hC; have RB9 := BoxV.below RB.out hC; have e0 := (RB9.2 0 _ rfl).1; have e1 := (RB9.2 1 _ rfl).1; have e2 := (RB9.2 2 _ rfl).1; clear RB9; (refine Calls.mono (HI.out _ (OwnR.rid (OwnR.below O.out hC))) ?_); (first | (rintro e wx ⟨rfl, hb⟩; exact ⟨rfl, below_next hC hb⟩) | (rintro e wx ⟨rfl, n, rfl⟩; exact ⟨rfl, Below.dr hC n⟩) | (rintro e wx ⟨rfl, rfl⟩; exact ⟨rfl, hC⟩))) | (intro hC; have OB9 := BoxV.below OB.out hC; have d0 := (OB9.2 0 _ rfl).1; have d1 := (OB9.2 1 _ rfl).1; have d2 := (OB9.2 2 _ rfl).1; have d3 := (OB9.2 3 _ rfl).1; have d4 := (OB9.2 4 _ rfl).1; clear OB9; obtain ⟨⟨c0, c1⟩, -⟩ := Box.below NB.out hC; have RB9 := BoxV.below RB.out hC; have e0 := (RB9.2 0 _ rfl).1; have e1 := (RB9.2 1 _ rfl).1; have e2 := (RB9.2 2 _ rfl).1; clear RB9; go_simp; rfl)))
          refine wpQuiet_nil ?_
          intro wq hq
          have Tn := Lib.hid (below_next T.out hq)
          have RRn := Lib.hid (BoxV.below RR.out hq)
          have OBn := Lib.hid (BoxV.below OB.out hq)
          have On := Lib.hid (OwnR.below O.out hq)
          have NBn := Lib.hid (Box.below NB.out hq)
          have RBn := Lib.hid (BoxV.below RB.out hq)
          clear hq
          clear T RR OB O NB RB
          have T := Tn
          have RR := RRn
          have OB := OBn
          have O := On
          have NB := NBn
          have RB := RBn
          clear Tn RRn OBn On NBn RBn
          obtain ⟨wn, hwq⟩ : ∃ w0, w0 = wq := ⟨_, rfl⟩
          subst hwq
          have PX := Lib.hid (show OwnR 32 3 wn S (.slice (some ⟨bO, 0, none⟩) i cv) i (rfl3 (inL m F D l1 (j + 1))) from by rw [E9.out]; exact O.out)
          clear O RB
          have O := PX
          clear PX
          go_wp2_with fail
          go_roundw
          case rel => exact ⟨j + 1, by omega, by go_num, T.out, RR.out, OB.out, O.out, NB.out⟩
          case measure => first | (simp [intOf]; done) | (simp [intOf]; omega) | omega
        have v3 : decide ((z : Int) < m) = true := by exact decide_eq_true h3
        have HH3 := Lib.hid h3
        clear h3
        have E9 := Lib.hid (show inL m F D l1 (j + 1) = (inL m F D l1 j).set j ⟨x, y, 1⟩ from by rw [HNX.out, if_pos ⟨HH0.out, HH1.out, HH2.out, HH3.out⟩])
        refine wp_region_quiet (C := fun w' => Below (World.heap (wn)).size (wn) w') (by kernel_rfl) (by kernel_rfl) (by first | exact ⟨rfl, rfl, rfl, Nat.le_refl _, fun _ _ => rfl⟩ | exact Below.dw (by repeat (first | exact Below.refl _ _ | refine Below.al ?_ _ | refine Below.dr ?_ _ | refine Below.dw ?_ | refine Below.st ?_ (by first | exact Nat.le_refl _ | exact Nat.le_add_right _ _ | (simp; omega)) _ | (refine below_next ?_ (by assumption))))) ?_
        simp only []
        repeat (go_big_quiet_step (first | (intro _; with_reducible exact rfl) | (intro hC; go_at_call 49; have OB9 := BoxV.below OB.out hC; have d0 := (OB9.2 0 _ rfl).1; have d1 := (OB9.2 1 _ rfl).1; have d2 := (OB9.2 2 _ rfl).1; have d3 := (OB9.2 3 _ rfl).1; have d4 := (OB9.2 4 _ rfl).1; clear OB9; obtain ⟨⟨c0, c1⟩, -⟩ := Box.below NB.out hC; have RB9 := BoxV.below RB.out hC; have e0 := (RB9.2 0 _ rfl).1; have e1 := (RB9.2 1 _ rfl).1; have e2 := (RB9.2 2 _ rfl).1; clear RB9; (refine Calls.mono (HD.out _) ?_); (first | (rintro e wx ⟨rfl, hb⟩; exact ⟨rfl, below_next hC hb⟩) | (rintro e wx ⟨rfl, n, rfl⟩; exact ⟨rfl, Below.dr hC n⟩) | (rintro e wx ⟨rfl, rfl⟩; exact ⟨rfl, hC⟩))) | (intro hC; go_at_call 50; have OB9 := BoxV.below OB.out hC; have d0 := (OB9.2 0 _ rfl).1; have d1 := (OB9.2 1 _ rfl).1; have d2 := (OB9.2 2 _ rfl).1; have d3 := (OB9.2 3 _ rfl).1; have d4 := (OB9.2 4 _ rfl).1; clear OB9; obtain ⟨⟨c0, c1⟩, -⟩ := Box.below NB.out hC; have RB9 := BoxV.below RB.out hC; have e0 := (RB9.2 0 _ rfl).1; have e1 := (RB9.2 1 _ rfl).1; have e2 := (RB9.2 2 _ rfl).1; clear RB9; (refine Calls.mono (HI.out _ (OwnR.rid (OwnR.below O.out hC))) ?_); (first | (rintro e wx ⟨rfl, hb⟩; exact ⟨rfl, below_next hC hb⟩) | (rintro e wx ⟨rfl, n, rfl⟩; exact ⟨rfl, Below.dr hC n⟩) | (rintro e wx ⟨rfl, rfl⟩; exact ⟨rfl, hC⟩))) | (intro hC; have OB9 := BoxV.below OB.out hC; have d0 := (OB9.2 0 _ rfl).1; have d1 := (OB9.2 1 _ rfl).1; have d2 := (OB9.2 2 _ rfl).1; have d3 := (OB9.2 3 _ rfl).1; have d4 := (OB9.2 4 _ rfl).1; clear OB9; obtain ⟨⟨c0, c1⟩, -⟩ := Box.below NB.out hC; have RB9 := BoxV.below RB.out hC; have e0 := (RB9.2 0 _ rfl).1; have e1 := (RB9.2 1 _ rfl).1; have e2 := (RB9.2 2 _ rfl).1; clear RB9; go_simp; rfl)))
        refine wpQuiet_nil ?_
        intro wq hq
        have Tn := Lib.hid (below_next T.out hq)
        have RRn := Lib.hid (BoxV.below RR.out hq)
        have OBn := Lib.hid (BoxV.below OB.out hq)
        have On := Lib.hid (OwnR.below O.out hq)
        have NBn := Lib.hid (Box.below NB.out hq)
        have RBn := Lib.hid (BoxV.below RB.out hq)
        clear hq
        clear T RR OB O NB RB
        have T := Tn
        have RR := RRn
        have OB := OBn
        have O := On
        have NB := NBn
        have RB := RBn
        clear Tn RRn OBn On NBn RBn
        obtain ⟨wn, hwq⟩ : ∃ w0, w0 = wq := ⟨_, rfl⟩
        subst hwq
        obtain ⟨y0, y1, y2⟩ := Rid.three (OwnR.rid O.out) hlt
        simp only [Nat.zero_add] at y0 y1 y2
        obtain ⟨a', c', e', -, hop⟩ := OwnR.open O.out
        simp only [Value.slice.injEq, true_and] at e'
        obtain ⟨rfl, rfl⟩ := e'
        have fz := (hop bO 0 none rfl).2.2.1 (j * 3 + 2)
        clear hop
        have ho := Out.set (w := wn) (q := bO) (i := j * 3 + 2) (lo := bO) (hi := bO + 1) (.int .i64 1) (Nat.le_refl _) (by omega)
        have T1 := Lib.hid (Out.below T.out ho (by omega))
        have RR1 := Lib.hid (BoxV.out RR.out ho (.inl (by omega)))
        have OB1 := Lib.hid (BoxV.out OB.out ho (.inl (by omega)))
        have NB1 := Lib.hid (Box.out NB.out ho (.inr (by omega)))
        have O1 := Lib.hid (show OwnR 32 3 (wn.setCell ⟨bO, j * 3 + 2, none⟩ (.int .i64 1)) S (.slice (some ⟨bO, 0, none⟩) i cv) i (rfl3 (inL m F D l1 (j + 1))) from by
          have e := OwnR.state (i := j) O.out HLA.out 1
          rw [HRA.out] at e
          rw [E9.out]
          exact e)
        have d4 := (OB.out.2 4 _ rfl).1
        clear T RR OB O NB ho y0 y1 RB
        go_wp2_with fail
        exact ⟨⟨j + 1, by omega, by go_num, T1.out, RR1.out, OB1.out, O1.out, NB1.out⟩, by first | (simp [intOf]; done) | (simp [intOf]; omega) | omega⟩
    obtain ⟨bO, oO, rfl⟩ := Rid.some (OwnR.rid O.out) (by omega)
    obtain ⟨a', c', e', -, hop⟩ := OwnR.open O.out
    simp only [Value.slice.injEq, true_and] at e'
    obtain ⟨rfl, rfl⟩ := e'
    obtain ⟨rfl, -, fz, -, -⟩ := hop bO oO none rfl
    clear hop fz
    obtain ⟨y0, y1, y2⟩ := Rid.three (OwnR.rid O.out) hlt
    simp only [Nat.zero_add] at y0 y1 y2
    have hii : (i : Int) < k := by omega
    have hla : i < (outL F l i).length := by rw [outL_len, HL.out]; exact hlt
    have hra := outL_at (k := F) (l := l) (i := i) (by rw [HL.out]; exact hlt)
    obtain ⟨⟨x, y, s⟩, hr⟩ : ∃ r, rat l i = r := ⟨_, rfl⟩
    rw [hra, hr] at y0 y1 y2
    rw [hr] at hra
    have hSb : S ≤ bO := HSQ.out bO rfl
    have hbB : bO < B0 := HSB.out bO rfl
    have hnx := outL_next (k := F) (l := l) (i := i) (by rw [HL.out]; exact hlt)
    rw [hr] at hnx
    have hsame := set_same hla
    rw [hra] at hsame
    have Y1 := Lib.hid y1
    have Y2 := Lib.hid y2
    have HRA := Lib.hid hra
    have HLA := Lib.hid hla
    have HNX := Lib.hid hnx
    have HSM := Lib.hid hsame
    clear y0 y1 y2 hra hla hnx hr hsame
    have d0 := (OB.out.2 0 _ rfl).1
    have d1 := (OB.out.2 1 _ rfl).1
    have d2 := (OB.out.2 2 _ rfl).1
    have d3 := (OB.out.2 3 _ rfl).1
    have d4 := (OB.out.2 4 _ rfl).1
    go_wp2_with fail
    clear d0 d1 d2 d3 d4
    by_cases h0 : s = 1
    case neg =>
      have v0 : (s == 1) = false := by exact beq_false_of_ne h0
      have E9 := Lib.hid (show outL F l (i + 1) = outL F l i from by rw [HNX.out]; unfold gout; rw [if_neg (fun h9 => h0 h9.1)]; exact HSM.out)
      clear h0
      refine wp_region_quiet (C := fun w' => Below (World.heap (wn)).size (wn) w') (by kernel_rfl) (by kernel_rfl) (by first | exact ⟨rfl, rfl, rfl, Nat.le_refl _, fun _ _ => rfl⟩ | exact Below.dw (by repeat (first | exact Below.refl _ _ | refine Below.al ?_ _ | refine Below.dr ?_ _ | refine Below.dw ?_ | refine Below.st ?_ (by first | exact Nat.le_refl _ | exact Nat.le_add_right _ _ | (simp; omega)) _ | (refine below_next ?_ (by assumption))))) ?_
      simp only []
      repeat (go_big_quiet_step (first | (intro _; with_reducible exact rfl) | (intro hC; have OB9 := BoxV.below OB.out hC; have d0 := (OB9.2 0 _ rfl).1; have d1 := (OB9.2 1 _ rfl).1; have d2 := (OB9.2 2 _ rfl).1; have d3 := (OB9.2 3 _ rfl).1; have d4 := (OB9.2 4 _ rfl).1; clear OB9; obtain ⟨⟨c0, c1⟩, -⟩ := Box.below NB.out hC; have y1 := cell_below Y1.out hC; have y2 := cell_below Y2.out hC; go_simp; rfl)))
      refine wpQuiet_nil ?_
      intro wq hq
      have Tn := Lib.hid (below_next T.out hq)
      have RRn := Lib.hid (BoxV.below RR.out hq)
      have OBn := Lib.hid (BoxV.below OB.out hq)
      have On := Lib.hid (OwnR.below O.out hq)
      have NBn := Lib.hid (Box.below NB.out hq)
      clear hq
      clear T RR OB O NB
      have T := Tn
      have RR := RRn
      have OB := OBn
      have O := On
      have NB := NBn
      clear Tn RRn OBn On NBn
      obtain ⟨wn, hwq⟩ : ∃ w0, w0 = wq := ⟨_, rfl⟩
      subst hwq
      have PX := Lib.hid (show OwnR 32 3 wn S (.slice (some ⟨bO, 0, none⟩) k cv) k (rfl3 (outL F l (i + 1))) from by rw [E9.out]; exact O.out)
      clear O
      have O := PX
      clear PX
      clear Y1 Y2
      go_wp2_with fail
      go_roundw
      case rel => exact ⟨i + 1, by omega, by go_num, T.out, RR.out, OB.out, O.out, NB.out⟩
      case measure => first | (simp [intOf]; done) | (simp [intOf]; omega) | omega
    have v0 : (s == 1) = true := by simp [h0]
    have HH0 := Lib.hid h0
    clear h0
    by_cases h1 : y = F
    case neg =>
      have v1 : (y == F) = false := by exact beq_false_of_ne h1
      have E9 := Lib.hid (show outL F l (i + 1) = outL F l i from by rw [HNX.out]; unfold gout; rw [if_neg (fun h9 => h1 h9.2)]; exact HSM.out)
      clear h1
      refine wp_region_quiet (C := fun w' => Below (World.heap (wn)).size (wn) w') (by kernel_rfl) (by kernel_rfl) (by first | exact ⟨rfl, rfl, rfl, Nat.le_refl _, fun _ _ => rfl⟩ | exact Below.dw (by repeat (first | exact Below.refl _ _ | refine Below.al ?_ _ | refine Below.dr ?_ _ | refine Below.dw ?_ | refine Below.st ?_ (by first | exact Nat.le_refl _ | exact Nat.le_add_right _ _ | (simp; omega)) _ | (refine below_next ?_ (by assumption))))) ?_
      simp only []
      repeat (go_big_quiet_step (first | (intro _; with_reducible exact rfl) | (intro hC; have OB9 := BoxV.below OB.out hC; have d0 := (OB9.2 0 _ rfl).1; have d1 := (OB9.2 1 _ rfl).1; have d2 := (OB9.2 2 _ rfl).1; have d3 := (OB9.2 3 _ rfl).1; have d4 := (OB9.2 4 _ rfl).1; clear OB9; obtain ⟨⟨c0, c1⟩, -⟩ := Box.below NB.out hC; have y1 := cell_below Y1.out hC; have y2 := cell_below Y2.out hC; go_simp; rfl)))
      refine wpQuiet_nil ?_
      intro wq hq
      have Tn := Lib.hid (below_next T.out hq)
      have RRn := Lib.hid (BoxV.below RR.out hq)
      have OBn := Lib.hid (BoxV.below OB.out hq)
      have On := Lib.hid (OwnR.below O.out hq)
      have NBn := Lib.hid (Box.below NB.out hq)
      clear hq
      clear T RR OB O NB
      have T := Tn
      have RR := RRn
      have OB := OBn
      have O := On
      have NB := NBn
      clear Tn RRn OBn On NBn
      obtain ⟨wn, hwq⟩ : ∃ w0, w0 = wq := ⟨_, rfl⟩
      subst hwq
      have PX := Lib.hid (show OwnR 32 3 wn S (.slice (some ⟨bO, 0, none⟩) k cv) k (rfl3 (outL F l (i + 1))) from by rw [E9.out]; exact O.out)
      clear O
      have O := PX
      clear PX
      clear Y1 Y2
      go_wp2_with fail
      go_roundw
      case rel => exact ⟨i + 1, by omega, by go_num, T.out, RR.out, OB.out, O.out, NB.out⟩
      case measure => first | (simp [intOf]; done) | (simp [intOf]; omega) | omega
    have v1 : (y == F) = true := by simp [h1]
    have HH1 := Lib.hid h1
    clear h1
    have E9 := Lib.hid (show outL F l (i + 1) = (outL F l i).set i ⟨x, y, 2⟩ from by rw [HNX.out]; unfold gout; rw [if_pos ⟨HH0.out, HH1.out⟩])
    refine wp_region_quiet (C := fun w' => Below (World.heap (wn)).size (wn) w') (by kernel_rfl) (by kernel_rfl) (by first | exact ⟨rfl, rfl, rfl, Nat.le_refl _, fun _ _ => rfl⟩ | exact Below.dw (by repeat (first | exact Below.refl _ _ | refine Below.al ?_ _ | refine Below.dr ?_ _ | refine Below.dw ?_ | refine Below.st ?_ (by first | exact Nat.le_refl _ | exact Nat.le_add_right _ _ | (simp; omega)) _ | (refine below_next ?_ (by assumption))))) ?_
    simp only []
    repeat (go_big_quiet_step (first | (intro _; with_reducible exact rfl) | (intro hC; have OB9 := BoxV.below OB.out hC; have d0 := (OB9.2 0 _ rfl).1; have d1 := (OB9.2 1 _ rfl).1; have d2 := (OB9.2 2 _ rfl).1; have d3 := (OB9.2 3 _ rfl).1; have d4 := (OB9.2 4 _ rfl).1; clear OB9; obtain ⟨⟨c0, c1⟩, -⟩ := Box.below NB.out hC; have y1 := cell_below Y1.out hC; have y2 := cell_below Y2.out hC; go_simp; rfl)))
    refine wpQuiet_nil ?_
    intro wq hq
    have Tn := Lib.hid (below_next T.out hq)
    have RRn := Lib.hid (BoxV.below RR.out hq)
    have OBn := Lib.hid (BoxV.below OB.out hq)
    have On := Lib.hid (OwnR.below O.out hq)
    have NBn := Lib.hid (Box.below NB.out hq)
    clear hq
    clear T RR OB O NB
    have T := Tn
    have RR := RRn
    have OB := OBn
    have O := On
    have NB := NBn
    clear Tn RRn OBn On NBn
    obtain ⟨wn, hwq⟩ : ∃ w0, w0 = wq := ⟨_, rfl⟩
    subst hwq
    clear Y1 Y2
    obtain ⟨y0, y1, y2⟩ := Rid.three (OwnR.rid O.out) hlt
    simp only [Nat.zero_add] at y0 y1 y2
    obtain ⟨a', c', e', -, hop⟩ := OwnR.open O.out
    simp only [Value.slice.injEq, true_and] at e'
    obtain ⟨rfl, rfl⟩ := e'
    have fz := (hop bO 0 none rfl).2.2.1 (i * 3 + 2)
    clear hop
    have ho := Out.set (w := wn) (q := bO) (i := i * 3 + 2) (lo := bO) (hi := bO + 1) (.int .i64 2) (Nat.le_refl _) (by omega)
    have T1 := Lib.hid (Out.below T.out ho (by omega))
    have RR1 := Lib.hid (BoxV.out RR.out ho (.inl (by omega)))
    have OB1 := Lib.hid (BoxV.out OB.out ho (.inl (by omega)))
    have NB1 := Lib.hid (Box.out NB.out ho (.inr (by omega)))
    have O1 := Lib.hid (show OwnR 32 3 (wn.setCell ⟨bO, i * 3 + 2, none⟩ (.int .i64 2)) S (.slice (some ⟨bO, 0, none⟩) k cv) k (rfl3 (outL F l (i + 1))) from by
      have e := OwnR.state (i := i) O.out HLA.out 2
      rw [HRA.out] at e
      rw [E9.out]
      exact e)
    have d4 := (OB.out.2 4 _ rfl).1
    clear T RR OB O NB ho y0 y1 
    go_wp2_with fail
    exact ⟨⟨i + 1, by omega, by go_num, T1.out, RR1.out, OB1.out, O1.out, NB1.out⟩, by first | (simp [intOf]; done) | (simp [intOf]; omega) | omega⟩
end Go.Proofs.Ytfhhgddajmihjaa

namespace Go.Proofs.Ytfhhgddajmihjaa
open Go.RowKit
set_option linter.unusedVariables false
set_option linter.unusedSimpArgs false
set_option maxRecDepth 100000

noncomputable def stT (t : Tp) : Tp := @ite _ (TOk t) (Classical.propDecidable _) (match tnx t with | none => t | some r => stp t r) ⟨0, 0, 0, 0, []⟩
noncomputable def stB (t : Tp) : Bool := @ite _ (TOk t) (Classical.propDecidable _) (tnx t).isSome false
theorem stT_f {t : Tp} (h : ¬ TOk t) : stT t = ⟨0, 0, 0, 0, []⟩ ∧ stB t = false := by unfold stT stB; rw [if_neg h, if_neg h]; exact ⟨rfl, rfl⟩
theorem stT_n {t : Tp} (h : TOk t) (e : tnx t = none) : stT t = t ∧ stB t = false := by unfold stT stB; rw [if_pos h, if_pos h, e]; exact ⟨rfl, rfl⟩
theorem stT_t {t : Tp} {r : Nat × Bool} (h : TOk t) (e : tnx t = some r) : stT t = stp t r ∧ stB t = true := by unfold stT stB; rw [if_pos h, if_pos h, e]; exact ⟨rfl, rfl⟩
theorem sTripStep_c (n m f d : Int) (a : Option Addr) (k c : Nat) (l : List Ri) (w : World) (hX : Rid w a k l) (hk : k ≤ 1048577) :
    Calls Try.prog 26 #[.agg #[.int .i64 n, .int .i64 m, .int .i64 f, .int .i64 d, .slice a k c]] w (NewT w (stT ⟨n, m, f, d, l⟩) (fun v => .tuple #[v, .bool (stB ⟨n, m, f, d, l⟩)])) := by
  by_cases h : TOk ⟨n, m, f, d, l⟩
  · cases e : tnx ⟨n, m, f, d, l⟩ with
    | none => rw [(stT_n h e).1, (stT_n h e).2]; exact sTripStep_n n m f d a k c l w hX hk h e
    | some r => rw [(stT_t h e).1, (stT_t h e).2]; exact sTripStep_t n m f d a k c l r.1 r.2 w hX hk h e
  · rw [(stT_f h).1, (stT_f h).2]; exact sTripStep_f n m f d a k c l w hX hk h
theorem stT_ok {t : Tp} (h : TOk t) : TOk (stT t) := by
  cases e : tnx t with
  | none => rw [(stT_n h e).1]; exact h
  | some r => rw [(stT_t h e).1]; exact (stp_ok' h e).2.1
theorem box5 {w : World} {b : Nat} {v0 v1 v2 v3 v4 : Value} (u0 u1 u2 u3 u4 : Value) (h : BoxV w b [v0, v1, v2, v3, v4]) :
    BoxV (((((w.setCell ⟨b, 0, none⟩ u0).setCell ⟨b, 1, none⟩ u1).setCell ⟨b, 2, none⟩ u2).setCell ⟨b, 3, none⟩ u3).setCell ⟨b, 4, none⟩ u4) b [u0, u1, u2, u3, u4] :=
  BoxV.set (BoxV.set (BoxV.set (BoxV.set (BoxV.set h 0 u0 (by simp)) 1 u1 (by simp)) 2 u2 (by simp)) 3 u3 (by simp)) 4 u4 (by simp)
theorem out5 {w : World} {b : Nat} (u0 u1 u2 u3 u4 : Value) :
    Out b (b + 1) w (((((w.setCell ⟨b, 0, none⟩ u0).setCell ⟨b, 1, none⟩ u1).setCell ⟨b, 2, none⟩ u2).setCell ⟨b, 3, none⟩ u3).setCell ⟨b, 4, none⟩ u4) :=
  Out.trans (Out.trans (Out.trans (Out.trans (Out.set u0 (Nat.le_refl _) (by omega)) (Out.set u1 (Nat.le_refl _) (by omega))) (Out.set u2 (Nat.le_refl _) (by omega))) (Out.set u3 (Nat.le_refl _) (by omega))) (Out.set u4 (Nat.le_refl _) (by omega))
/-- Where the count of the stops stands. -/
def TSI (N j : Nat) (b : Bool) (x : Tp) : Prop := TOk x ∧ ((b = false ∧ j = N) ∨ (b = true ∧ ∃ mm, N = j + 1 + tsn mm x ∧ phi x.rs ≤ mm))
theorem tsn_none {t : Tp} (m : Nat) (e : tnx t = none) : tsn m t = 0 := by
  cases m with
  | zero => rfl
  | succ m => unfold tsn; rw [e]
theorem tsn_some {t : Tp} {r : Nat × Bool} (m : Nat) (e : tnx t = some r) : tsn (m + 1) t = 1 + tsn m (stp t r) := by rw [tsn]; rw [e]
theorem tsi_0 {t : Tp} (h : TOk t) (M : Nat) (hp : phi t.rs ≤ M) : TSI (tsn M t) 0 (stB t) (stT t) := by
  cases e : tnx t with
  | none => rw [(stT_n h e).1, (stT_n h e).2]; exact ⟨h, .inl ⟨rfl, (tsn_none _ e).symm⟩⟩
  | some r =>
    obtain ⟨-, h2, h3⟩ := stp_ok' h e
    have h4 := phi_ge _ h2.2.2.2.2.2.1
    obtain ⟨M, rfl⟩ : ∃ q, M = q + 1 := ⟨M - 1, by omega⟩
    rw [(stT_t h e).1, (stT_t h e).2]
    exact ⟨h2, .inr ⟨rfl, M, by have := tsn_some M e; omega, by omega⟩⟩
theorem tsi_next {N j : Nat} {x : Tp} (h : TSI N j true x) : TSI N (j + 1) (stB x) (stT x) ∧ j + 1 ≤ N := by
  obtain ⟨hx, ⟨e, -⟩ | ⟨-, mm, e, hp⟩⟩ := h
  · cases e
  · refine ⟨?_, by omega⟩
    have h0 := tsi_0 hx mm hp
    obtain ⟨h1, ⟨e1, e2⟩ | ⟨e1, m2, e2, e3⟩⟩ := h0
    · exact ⟨h1, .inl ⟨e1, by omega⟩⟩
    · exact ⟨h1, .inr ⟨e1, m2, by omega, e3⟩⟩
noncomputable def tsT (t : Tp) : Int := @ite _ (TOk t) (Classical.propDecidable _) ((tsn 16 t : Nat) : Int) (-1)
theorem tsT_t {t : Tp} (h : TOk t) : tsT t = (tsn 16 t : Nat) := by unfold tsT; rw [if_pos h]
theorem tsT_f {t : Tp} (h : ¬ TOk t) : tsT t = -1 := by unfold tsT; rw [if_neg h]
theorem phi_16 {t : Tp} (h : TOk t) : phi t.rs ≤ (16 : Nat) := by
  have := phi_top t.rs h.2.2.2.2.2.1
  have := h.2.2.2.2.1
  omega
set_option maxHeartbeats 2000000 in
theorem sTripStops_f (n m f d : Int) (a : Option Addr) (k c : Nat) (l : List Ri) (w : World) (hX : Rid w a k l) (hk : k ≤ 1048577) (h : ¬ TOk ⟨n, m, f, d, l⟩) :
    Calls Try.prog 30 #[.agg #[.int .i64 n, .int .i64 m, .int .i64 f, .int .i64 d, .slice a k c]] w (Mk w (.int .i64 (-1))) := by
  have X0 := Lib.hid hX
  have KV := fun w' (g : Rid w' a k l) => sTripValid_c n m f d a k c l w' g hk
  rw [tokB_f h] at KV
  have HV := Lib.hid KV
  clear hX h KV
  refine at_base fun wn hwn => ?_
  have T := Lib.hid (show Below w.heap.size w wn from by rw [hwn]; exact Below.refl _ _)
  clear hwn
  obtain ⟨g, hg⟩ : ∃ g, Array.size (World.heap wn) = g := ⟨_, rfl⟩
  have HGg := Lib.hid hg
  have hTg : w.heap.size ≤ g := by rw [← hg]; exact T.out.size
  have Tn := Lib.hid (show Below w.heap.size w (wn.alloc (.cells #[.int .i64 n, .int .i64 m, .int .i64 f, .int .i64 d, .slice a k c] 27)) from (Below.al T.out (.cells #[.int .i64 n, .int .i64 m, .int .i64 f, .int .i64 d, .slice a k c] 27)))
  have TB := Lib.hid (show BoxV (wn.alloc (.cells #[.int .i64 n, .int .i64 m, .int .i64 f, .int .i64 d, .slice a k c] 27)) g [.int .i64 n, .int .i64 m, .int .i64 f, .int .i64 d, .slice a k c] from by have h9 := (BoxV.new wn [.int .i64 n, .int .i64 m, .int .i64 f, .int .i64 d, .slice a k c] 27 (by simp) rfl); simp only [World.size_alloc, hg, Nat.add_assoc, Nat.reduceAdd] at h9; exact h9)
  have HZg := Lib.hid (show ((wn.alloc (.cells #[.int .i64 n, .int .i64 m, .int .i64 f, .int .i64 d, .slice a k c] 27))).heap.size = g + 1 from by simp only [World.size_alloc, hg, Nat.add_assoc, Nat.reduceAdd])
  clear hg
  clear T
  have T := Tn
  clear Tn
  go_enter Try.func30, Try.ntmps30
  have c0 := (TB.out.2 0 _ rfl).1
  have c1 := (TB.out.2 1 _ rfl).1
  have c2 := (TB.out.2 2 _ rfl).1
  have c3 := (TB.out.2 3 _ rfl).1
  have c4 := (TB.out.2 4 _ rfl).1
  go_wp2_with fail
  rw [HGg.out]
  refine Calls.mono (HV.out _ (Rid.below X0.out T.out)) ?_
  intro e wn hh
  obtain ⟨he, hb⟩ := (by first | exact hh | exact Ro.mk hh | exact St.mk hh | exact LawOk.mk' hh : Mk _ _ e wn)
  subst he
  have Tn : Hid (Below w.heap.size w wn) := below_next T.out hb
  have TBn : Hid _ := BoxV.below TB.out hb
  clear hb hh c0 c1 c2 c3 c4
  clear T TB
  have T := Tn
  have TB := TBn
  clear Tn TBn
  go_wp2_with fail
  go_ret
  exact Mk.i rfl T.out
set_option maxHeartbeats 4000000 in
theorem sTripStops_t (n m f d : Int) (a : Option Addr) (k c : Nat) (l : List Ri) (w : World) (hX : Rid w a k l) (hk : k ≤ 1048577) (h : TOk ⟨n, m, f, d, l⟩) :
    Calls Try.prog 30 #[.agg #[.int .i64 n, .int .i64 m, .int .i64 f, .int .i64 d, .slice a k c]] w (Mk w (.int .i64 (tsn 16 ⟨n, m, f, d, l⟩ : Nat))) := by
  have X0 := Lib.hid hX
  have KV := fun w' (g : Rid w' a k l) => sTripValid_c n m f d a k c l w' g hk
  rw [tokB_t h] at KV
  have HV := Lib.hid KV
  have KS := fun w' (g : Rid w' a k l) => sTripStep_c n m f d a k c l w' g hk
  have hI := tsi_0 h 16 (phi_16 h)
  have hN : tsn 16 ⟨n, m, f, d, l⟩ ≤ 16 := by have := tsn_le 16 _ h; have := phi_16 h; omega
  obtain ⟨x, hx⟩ : ∃ x, stT ⟨n, m, f, d, l⟩ = x := ⟨_, rfl⟩
  obtain ⟨b, hb⟩ : ∃ b, stB ⟨n, m, f, d, l⟩ = b := ⟨_, rfl⟩
  obtain ⟨N, hNe⟩ : ∃ N, tsn 16 ⟨n, m, f, d, l⟩ = N := ⟨_, rfl⟩
  rw [hx, hb] at KS
  rw [hx, hb, hNe] at hI
  rw [hNe] at hN
  rw [hNe]
  have HK := Lib.hid KS
  have HI := Lib.hid hI
  clear hX h KV KS hI hx hb hNe
  refine at_base fun wn hwn => ?_
  have T := Lib.hid (show Below w.heap.size w wn from by rw [hwn]; exact Below.refl _ _)
  clear hwn
  obtain ⟨g, hg⟩ : ∃ g, Array.size (World.heap wn) = g := ⟨_, rfl⟩
  have HGg := Lib.hid hg
  have hTg : w.heap.size ≤ g := by rw [← hg]; exact T.out.size
  have Tn := Lib.hid (show Below w.heap.size w (wn.alloc (.cells #[.int .i64 n, .int .i64 m, .int .i64 f, .int .i64 d, .slice a k c] 27)) from (Below.al T.out (.cells #[.int .i64 n, .int .i64 m, .int .i64 f, .int .i64 d, .slice a k c] 27)))
  have TB := Lib.hid (show BoxV (wn.alloc (.cells #[.int .i64 n, .int .i64 m, .int .i64 f, .int .i64 d, .slice a k c] 27)) g [.int .i64 n, .int .i64 m, .int .i64 f, .int .i64 d, .slice a k c] from by have h9 := (BoxV.new wn [.int .i64 n, .int .i64 m, .int .i64 f, .int .i64 d, .slice a k c] 27 (by simp) rfl); simp only [World.size_alloc, hg, Nat.add_assoc, Nat.reduceAdd] at h9; exact h9)
  have HZg := Lib.hid (show ((wn.alloc (.cells #[.int .i64 n, .int .i64 m, .int .i64 f, .int .i64 d, .slice a k c] 27))).heap.size = g + 1 from by simp only [World.size_alloc, hg, Nat.add_assoc, Nat.reduceAdd])
  clear hg
  clear T
  have T := Tn
  clear Tn
  go_enter Try.func30, Try.ntmps30
  have c0 := (TB.out.2 0 _ rfl).1
  have c1 := (TB.out.2 1 _ rfl).1
  have c2 := (TB.out.2 2 _ rfl).1
  have c3 := (TB.out.2 3 _ rfl).1
  have c4 := (TB.out.2 4 _ rfl).1
  go_wp2_with fail
  rw [HGg.out]
  refine Calls.mono (HV.out _ (Rid.below X0.out T.out)) ?_
  intro e wn hh
  obtain ⟨he, hb⟩ := (by first | exact hh | exact Ro.mk hh | exact St.mk hh | exact LawOk.mk' hh : Mk _ _ e wn)
  subst he
  have Tn : Hid (Below w.heap.size w wn) := below_next T.out hb
  have TBn : Hid _ := BoxV.below TB.out hb
  clear hb hh c0 c1 c2 c3 c4
  clear T TB
  have T := Tn
  have TB := TBn
  clear Tn TBn
  clear HV
  have c0 := (TB.out.2 0 _ rfl).1
  have c1 := (TB.out.2 1 _ rfl).1
  have c2 := (TB.out.2 2 _ rfl).1
  have c3 := (TB.out.2 3 _ rfl).1
  have c4 := (TB.out.2 4 _ rfl).1
  go_wp2_with fail
  refine Calls.mono (HK.out _ (Rid.below X0.out T.out)) ?_
  intro e wq hh
  obtain ⟨v2, he, hO2, hb2⟩ := hh
  subst he
  obtain ⟨av, cv, hv, -, -⟩ := OwnR.open hO2
  subst hv
  have hO3 := OwnR.mono hO2 T.out.size
  have O := Lib.hid hO3
  clear hO2 hO3 HK c0 c1 c2 c3 c4
  have Tn := Lib.hid (below_next T.out hb2)
  have TBn := Lib.hid (BoxV.below TB.out hb2)
  clear hb2
  clear T TB
  have T := Tn
  have TB := TBn
  clear Tn TBn
  obtain ⟨wn, hwq⟩ : ∃ w0, w0 = wq := ⟨_, rfl⟩
  subst hwq
  have hOl := OwnR.lt O.out
  obtain ⟨H, hH⟩ : ∃ H, wn.heap.size = H := ⟨_, rfl⟩
  have HNE := Lib.hid (show ∀ q, (Value.slice av x.rs.length cv).ownBlock = some q → w.heap.size ≤ q ∧ q ≠ H from fun q hq => by have := hOl q hq; omega)
  have hHw : w.heap.size ≤ H := by rw [← hH]; exact T.out.size
  clear hOl
  have XB := Lib.hid (BoxV.new wn [.int .i64 x.n, .int .i64 x.m, .int .i64 x.f, .int .i64 x.d, .slice av x.rs.length cv] 27 (by simp) hH)
  have T2 := Lib.hid (Below.al T.out (.cells [.int .i64 x.n, .int .i64 x.m, .int .i64 x.f, .int .i64 x.d, .slice av x.rs.length cv].toArray 27))
  have O2 := Lib.hid (OwnR.al O.out (.cells [.int .i64 x.n, .int .i64 x.m, .int .i64 x.f, .int .i64 x.d, .slice av x.rs.length cv].toArray 27))
  clear T O TB
  have T := T2
  have O := O2
  clear T2 O2
  go_upto_region 5 with fail
  try rw [hH]
  clear hH
  generalize wn.alloc _ = w0 at *
  obtain ⟨wn, hwq⟩ : ∃ w9 : World, w9 = w0 := ⟨_, rfl⟩
  subst hwq
  go_wp2_with fail
  go_loopw [3, 5] (fun v u wr => ∃ (j : Nat) (b : Bool) (x : Tp) (av : Option Addr) (cv : Nat), v = .int .i64 j ∧ u = .bool b ∧ TSI N j b x ∧ (∀ q, (Value.slice av x.rs.length cv).ownBlock = some q → w.heap.size ≤ q ∧ q ≠ H) ∧ OwnR 32 3 wr w.heap.size (.slice av x.rs.length cv) x.rs.length (rfl3 x.rs) ∧
    BoxV wr H [.int .i64 x.n, .int .i64 x.m, .int .i64 x.f, .int .i64 x.d, .slice av x.rs.length cv] ∧ Below w.heap.size w wr) (fun v u _ => N - (intOf v).toNat)
  case atStart => exact ⟨0, b, x, av, cv, rfl, rfl, HI.out, HNE.out, O.out, XB.out, T.out⟩
  case round =>
    clear T O XB HNE HI
    obtain ⟨j, b, x, av, cv, rfl, rfl, hI, hNe, hO, hXB, hT⟩ := hrel
    obtain ⟨wn, hwq⟩ : ∃ w0 : World, w0 = wr := ⟨_, rfl⟩
    rw [← hwq] at hO hXB hT ⊢
    clear hwq
    have HNE := Lib.hid hNe
    have O := Lib.hid hO
    have XB := Lib.hid hXB
    have T := Lib.hid hT
    have hTO := hI.1
    cases b with
    | false =>
      have E := Lib.hid (show (j : Int) = (N : Int) from by
        obtain ⟨-, ⟨-, e⟩ | ⟨e, -⟩⟩ := hI
        · omega
        · cases e)
      clear hI hNe hO hXB hT hTO
      go_wp2_with fail
      go_ret
      exact Mk.i E.out.symm T.out
    | true =>
      obtain ⟨hI2, hj⟩ := tsi_next hI
      have hlen : x.rs.length ≤ 1048577 := by have := hTO.2.2.2.2.1; omega
      have KS := fun w' (g : Rid w' av x.rs.length x.rs) => sTripStep_c x.n x.m x.f x.d av x.rs.length cv x.rs w' g hlen
      obtain ⟨y, hy⟩ : ∃ y, stT x = y := ⟨_, rfl⟩
      obtain ⟨b2, hb2⟩ : ∃ b2, stB x = b2 := ⟨_, rfl⟩
      rw [hy, hb2] at hI2
      rw [show (⟨x.n, x.m, x.f, x.d, x.rs⟩ : Tp) = x from rfl, hy, hb2] at KS
      have HK := Lib.hid KS
      have HI2 := Lib.hid hI2
      clear hI hNe hO hXB hT hTO hI2 KS hy hb2
      have d0 := (XB.out.2 0 _ rfl).1
      have d1 := (XB.out.2 1 _ rfl).1
      have d2 := (XB.out.2 2 _ rfl).1
      have d3 := (XB.out.2 3 _ rfl).1
      have d4 := (XB.out.2 4 _ rfl).1
      go_wp2_with fail
      refine Calls.mono (HK.out _ (OwnR.rid O.out)) ?_
      intro e wq hh
      obtain ⟨v2, he, hO2, hb3⟩ := hh
      subst he
      obtain ⟨av2, cv2, hv, -, -⟩ := OwnR.open hO2
      subst hv
      have hlt2 := OwnR.lt hO2
      have hXl := BoxV.lt XB.out
      have HN2 := Lib.hid (show ∀ q, (Value.slice av2 y.rs.length cv2).ownBlock = some q → w.heap.size ≤ q ∧ q ≠ H from fun q hq => by have := hlt2 q hq; have := T.out.size; omega)
      have hO3 := OwnR.mono hO2 T.out.size
      clear O HNE
      have O := Lib.hid hO3
      clear hO2 hO3 HK hlt2 hXl d0 d1 d2 d3 d4
      have Tn := Lib.hid (below_next T.out hb3)
      have XBn := Lib.hid (BoxV.below XB.out hb3)
      clear hb3
      clear T XB
      have T := Tn
      have XB := XBn
      clear Tn XBn
      obtain ⟨wn, hwq⟩ : ∃ w0, w0 = wq := ⟨_, rfl⟩
      subst hwq
      have hltXBHY := BoxV.lt XB.out
      have hWHY := T.out.size
      obtain ⟨HY, hHY⟩ : ∃ HY, Array.size (World.heap wn) = HY := ⟨_, rfl⟩
      have HHY : Hid _ := hHY
      rw [hHY] at hWHY hltXBHY
      have YB : Hid (BoxV (wn.alloc (.cells #[.int .i64 y.n, .int .i64 y.m, .int .i64 y.f, .int .i64 y.d, .slice av2 y.rs.length cv2] 27)) HY [.int .i64 y.n, .int .i64 y.m, .int .i64 y.f, .int .i64 y.d, .slice av2 y.rs.length cv2]) := by rw [← hHY]; exact BoxV.new _ _ _ (by simp) rfl
      clear hHY
      have Tn : Hid (Below w.heap.size w _) := Below.al T.out (.cells #[.int .i64 y.n, .int .i64 y.m, .int .i64 y.f, .int .i64 y.d, .slice av2 y.rs.length cv2] 27)
      have XBn : Hid _ := BoxV.below XB.out ((Below.refl _ _).alloc (Nat.le_refl _) (.cells #[.int .i64 y.n, .int .i64 y.m, .int .i64 y.f, .int .i64 y.d, .slice av2 y.rs.length cv2] 27))
      have On : Hid _ := OwnR.below O.out ((Below.refl _ _).alloc (Nat.le_refl _) (.cells #[.int .i64 y.n, .int .i64 y.m, .int .i64 y.f, .int .i64 y.d, .slice av2 y.rs.length cv2] 27))
      clear T XB O
      have T := Tn
      have XB := XBn
      have O := On
      clear Tn XBn On
      go_upto_region 8 with fail
      rw [HHY.out]
      generalize wn.alloc _ = w0 at *
      obtain ⟨wn, hwq⟩ : ∃ w9 : World, w9 = w0 := ⟨_, rfl⟩
      subst hwq
      clear HHY
      have ho := out5 (w := wn) (b := H) (.int .i64 y.n) (.int .i64 y.m) (.int .i64 y.f) (.int .i64 y.d) (.slice av2 y.rs.length cv2)
      have T3 := Lib.hid (Out.below T.out ho (by omega))
      have X3 := Lib.hid (box5 (.int .i64 y.n) (.int .i64 y.m) (.int .i64 y.f) (.int .i64 y.d) (.slice av2 y.rs.length cv2) XB.out)
      have O3 := Lib.hid (OwnR.block O.out (fun q hq => ho.block q (OwnR.lt O.out q hq).2 (by have := (HN2.out q hq).2; omega)))
      have d0 := (YB.out.2 0 _ rfl).1
      have d1 := (YB.out.2 1 _ rfl).1
      have d2 := (YB.out.2 2 _ rfl).1
      have d3 := (YB.out.2 3 _ rfl).1
      have d4 := (YB.out.2 4 _ rfl).1
      have e0 := (XB.out.2 0 _ rfl).1
      have ef0 := (XB.out.2 0 _ rfl).2
      have e1 := (XB.out.2 1 _ rfl).1
      have ef1 := (XB.out.2 1 _ rfl).2
      have e2 := (XB.out.2 2 _ rfl).1
      have ef2 := (XB.out.2 2 _ rfl).2
      have e3 := (XB.out.2 3 _ rfl).1
      have ef3 := (XB.out.2 3 _ rfl).2
      have e4 := (XB.out.2 4 _ rfl).1
      have ef4 := (XB.out.2 4 _ rfl).2
      clear ho O XB YB T
      go_wp2_with fail
      exact ⟨⟨j + 1, b2, y, av2, cv2, by go_num, rfl, HI2.out, HN2.out, O3.out, X3.out, T3.out⟩, by first | (simp [intOf]; done) | (simp [intOf]; omega) | omega⟩
theorem sTripStops_c (n m f d : Int) (a : Option Addr) (k c : Nat) (l : List Ri) (w : World) (hX : Rid w a k l) (hk : k ≤ 1048577) :
    Calls Try.prog 30 #[.agg #[.int .i64 n, .int .i64 m, .int .i64 f, .int .i64 d, .slice a k c]] w (Mk w (.int .i64 (tsT ⟨n, m, f, d, l⟩))) := by
  by_cases h : TOk ⟨n, m, f, d, l⟩
  · rw [tsT_t h]; exact sTripStops_t n m f d a k c l w hX hk h
  · rw [tsT_f h]; exact sTripStops_f n m f d a k c l w hX hk h
end Go.Proofs.Ytfhhgddajmihjaa

namespace Go.Proofs.Ytfhhgddajmihjaa
open Go.RowKit
set_option linter.unusedVariables false
set_option linter.unusedSimpArgs false
set_option maxRecDepth 100000

noncomputable def teT (t : Tp) : Tp := @ite _ (TOk t) (Classical.propDecidable _) (ten 16 t) ⟨0, 0, 0, 0, []⟩
theorem teT_t {t : Tp} (h : TOk t) : teT t = ten 16 t := by unfold teT; rw [if_pos h]
theorem teT_f {t : Tp} (h : ¬ TOk t) : teT t = ⟨0, 0, 0, 0, []⟩ := by unfold teT; rw [if_neg h]
/-- Where the way to the end stands. -/
def TEI (E : Tp) (N j : Nat) (x : Tp) : Prop := TOk x ∧ ∃ mm, ten mm x = E ∧ N = j + tsn mm x
theorem tei_0 {t : Tp} (h : TOk t) : TEI (ten 16 t) (tsn 16 t) 0 t := ⟨h, 16, rfl, by omega⟩
theorem tei_next {E x : Tp} {N j : Nat} (h : TEI E N j x) (hj : j < N) : TEI E N (j + 1) (stT x) := by
  obtain ⟨hx, mm, e1, e2⟩ := h
  cases mm with
  | zero => have : tsn 0 x = 0 := rfl; omega
  | succ mm =>
    cases e : tnx x with
    | none => have := tsn_none (mm + 1) e; omega
    | some r =>
      have h1 := tsn_some mm e
      rw [(stT_t hx e).1]
      refine ⟨(stp_ok' hx e).2.1, mm, ?_, by omega⟩
      rw [← e1, ten, e]
theorem tei_end {E x : Tp} {N : Nat} (h : TEI E N N x) : x = E := by
  obtain ⟨hx, mm, e1, e2⟩ := h
  cases mm with
  | zero => exact e1
  | succ mm =>
    cases e : tnx x with
    | none => rw [← e1, ten, e]
    | some r => have h1 := tsn_some mm e; omega
set_option maxHeartbeats 2000000 in
theorem sTripEnd_f (n m f d : Int) (a : Option Addr) (k c : Nat) (l : List Ri) (w : World) (hX : Rid w a k l) (hk : k ≤ 1048577) (h : ¬ TOk ⟨n, m, f, d, l⟩) :
    Calls Try.prog 33 #[.agg #[.int .i64 n, .int .i64 m, .int .i64 f, .int .i64 d, .slice a k c]] w (NewT w ⟨0, 0, 0, 0, []⟩ id) := by
  have X0 := Lib.hid hX
  have KV := fun w' (g : Rid w' a k l) => sTripStops_c n m f d a k c l w' g hk
  rw [tsT_f h] at KV
  have HV := Lib.hid KV
  clear hX h KV
  refine at_base fun wn hwn => ?_
  have T := Lib.hid (show Below w.heap.size w wn from by rw [hwn]; exact Below.refl _ _)
  clear hwn
  obtain ⟨g, hg⟩ : ∃ g, Array.size (World.heap wn) = g := ⟨_, rfl⟩
  have HGg := Lib.hid hg
  have hTg : w.heap.size ≤ g := by rw [← hg]; exact T.out.size
  have Tn := Lib.hid (show Below w.heap.size w ((wn.alloc (.cells #[.int .i64 n, .int .i64 m, .int .i64 f, .int .i64 d, .slice a k c] 27)).alloc (.cells #[.int .i64 0, .int .i64 0, .int .i64 0, .int .i64 0, .slice none 0 0] 27)) from (Below.al (Below.al T.out (.cells #[.int .i64 n, .int .i64 m, .int .i64 f, .int .i64 d, .slice a k c] 27)) (.cells #[.int .i64 0, .int .i64 0, .int .i64 0, .int .i64 0, .slice none 0 0] 27)))
  have TB := Lib.hid (show BoxV ((wn.alloc (.cells #[.int .i64 n, .int .i64 m, .int .i64 f, .int .i64 d, .slice a k c] 27)).alloc (.cells #[.int .i64 0, .int .i64 0, .int .i64 0, .int .i64 0, .slice none 0 0] 27)) g [.int .i64 n, .int .i64 m, .int .i64 f, .int .i64 d, .slice a k c] from by have h9 := (BoxV.al (BoxV.new wn [.int .i64 n, .int .i64 m, .int .i64 f, .int .i64 d, .slice a k c] 27 (by simp) rfl) (.cells #[.int .i64 0, .int .i64 0, .int .i64 0, .int .i64 0, .slice none 0 0] 27)); simp only [World.size_alloc, hg, Nat.add_assoc, Nat.reduceAdd] at h9; exact h9)
  have RR := Lib.hid (show BoxV ((wn.alloc (.cells #[.int .i64 n, .int .i64 m, .int .i64 f, .int .i64 d, .slice a k c] 27)).alloc (.cells #[.int .i64 0, .int .i64 0, .int .i64 0, .int .i64 0, .slice none 0 0] 27)) (g + 1) [.int .i64 0, .int .i64 0, .int .i64 0, .int .i64 0, .slice none 0 0] from by have h9 := (BoxV.new (wn.alloc (.cells #[.int .i64 n, .int .i64 m, .int .i64 f, .int .i64 d, .slice a k c] 27)) [.int .i64 0, .int .i64 0, .int .i64 0, .int .i64 0, .slice none 0 0] 27 (by simp) rfl); simp only [World.size_alloc, hg, Nat.add_assoc, Nat.reduceAdd] at h9; exact h9)
  have HZg := Lib.hid (show (((wn.alloc (.cells #[.int .i64 n, .int .i64 m, .int .i64 f, .int .i64 d, .slice a k c] 27)).alloc (.cells #[.int .i64 0, .int .i64 0, .int .i64 0, .int .i64 0, .slice none 0 0] 27))).heap.size = g + 2 from by simp only [World.size_alloc, hg, Nat.add_assoc, Nat.reduceAdd])
  clear hg
  clear T
  have T := Tn
  clear Tn
  go_enter Try.func33, Try.ntmps33
  have c0 := (TB.out.2 0 _ rfl).1
  have c1 := (TB.out.2 1 _ rfl).1
  have c2 := (TB.out.2 2 _ rfl).1
  have c3 := (TB.out.2 3 _ rfl).1
  have c4 := (TB.out.2 4 _ rfl).1
  go_wp2_with fail
  rw [HGg.out]
  refine Calls.mono (HV.out _ (Rid.below X0.out T.out)) ?_
  intro e wn hh
  obtain ⟨he, hb⟩ := (by first | exact hh | exact Ro.mk hh | exact St.mk hh | exact LawOk.mk' hh : Mk _ _ e wn)
  subst he
  have Tn : Hid (Below w.heap.size w wn) := below_next T.out hb
  have TBn : Hid _ := BoxV.below TB.out hb
  have RRn : Hid _ := BoxV.below RR.out hb
  clear hb hh c0 c1 c2 c3 c4
  clear T TB RR
  have T := Tn
  have TB := TBn
  have RR := RRn
  clear Tn TBn RRn
  have c0 := (RR.out.2 0 _ rfl).1
  have cf0 := (RR.out.2 0 _ rfl).2
  have c1 := (RR.out.2 1 _ rfl).1
  have cf1 := (RR.out.2 1 _ rfl).2
  have c2 := (RR.out.2 2 _ rfl).1
  have cf2 := (RR.out.2 2 _ rfl).2
  have c3 := (RR.out.2 3 _ rfl).1
  have cf3 := (RR.out.2 3 _ rfl).2
  have c4 := (RR.out.2 4 _ rfl).1
  have cf4 := (RR.out.2 4 _ rfl).2
  go_wp2_with fail
  have N := newT_end (n := 0) (m := 0) (f := 0) (d := 0) (l := []) (r := g + 1) (w := wn) (v := .slice none 0 0) (OwnR.nil wn w.heap.size) (Nat.le_refl _) T.out (by omega) (fun q e => by cases e) id
  unfold set5 at N
  exact bodyPost_ret (v := .agg #[.int .i64 0, .int .i64 0, .int .i64 0, .int .i64 0, .slice none 0 0]) (by simp [results, Try.results33, go_sem, c0, c1, c2, c3, c4]) rfl N
set_option maxHeartbeats 8000000 in
theorem sTripEnd_t (n m f d : Int) (a : Option Addr) (k c : Nat) (l : List Ri) (w : World) (hX : Rid w a k l) (hk : k ≤ 1048577) (h : TOk ⟨n, m, f, d, l⟩) :
    Calls Try.prog 33 #[.agg #[.int .i64 n, .int .i64 m, .int .i64 f, .int .i64 d, .slice a k c]] w (NewT w (ten 16 ⟨n, m, f, d, l⟩) id) := by
  obtain rfl := hX.2
  have X0 := Lib.hid hX
  have KV := fun w' (g : Rid w' a l.length l) => sTripStops_c n m f d a l.length c l w' g hk
  rw [tsT_t h] at KV
  have hI := tei_0 h
  have hN : tsn 16 ⟨n, m, f, d, l⟩ ≤ 16 := by have := tsn_le 16 _ h; have := phi_16 h; omega
  obtain ⟨N, hNe⟩ : ∃ N, tsn 16 ⟨n, m, f, d, l⟩ = N := ⟨_, rfl⟩
  obtain ⟨E, hE⟩ : ∃ E, ten 16 ⟨n, m, f, d, l⟩ = E := ⟨_, rfl⟩
  rw [hNe] at KV hI hN
  rw [hE] at hI
  rw [hE]
  have hN0 : ¬ (N : Int) < 0 := by omega
  have HV := Lib.hid KV
  have HI := Lib.hid hI
  clear hX h KV hI hNe hE
  refine at_base fun wn hwn => ?_
  have T := Lib.hid (show Below w.heap.size w wn from by rw [hwn]; exact Below.refl _ _)
  clear hwn
  obtain ⟨g, hg⟩ : ∃ g, Array.size (World.heap wn) = g := ⟨_, rfl⟩
  have HGg := Lib.hid hg
  have hTg : w.heap.size ≤ g := by rw [← hg]; exact T.out.size
  have Tn := Lib.hid (show Below w.heap.size w ((wn.alloc (.cells #[.int .i64 n, .int .i64 m, .int .i64 f, .int .i64 d, .slice a l.length c] 27)).alloc (.cells #[.int .i64 0, .int .i64 0, .int .i64 0, .int .i64 0, .slice none 0 0] 27)) from (Below.al (Below.al T.out (.cells #[.int .i64 n, .int .i64 m, .int .i64 f, .int .i64 d, .slice a l.length c] 27)) (.cells #[.int .i64 0, .int .i64 0, .int .i64 0, .int .i64 0, .slice none 0 0] 27)))
  have TB := Lib.hid (show BoxV ((wn.alloc (.cells #[.int .i64 n, .int .i64 m, .int .i64 f, .int .i64 d, .slice a l.length c] 27)).alloc (.cells #[.int .i64 0, .int .i64 0, .int .i64 0, .int .i64 0, .slice none 0 0] 27)) g [.int .i64 n, .int .i64 m, .int .i64 f, .int .i64 d, .slice a l.length c] from by have h9 := (BoxV.al (BoxV.new wn [.int .i64 n, .int .i64 m, .int .i64 f, .int .i64 d, .slice a l.length c] 27 (by simp) rfl) (.cells #[.int .i64 0, .int .i64 0, .int .i64 0, .int .i64 0, .slice none 0 0] 27)); simp only [World.size_alloc, hg, Nat.add_assoc, Nat.reduceAdd] at h9; exact h9)
  have RR := Lib.hid (show BoxV ((wn.alloc (.cells #[.int .i64 n, .int .i64 m, .int .i64 f, .int .i64 d, .slice a l.length c] 27)).alloc (.cells #[.int .i64 0, .int .i64 0, .int .i64 0, .int .i64 0, .slice none 0 0] 27)) (g + 1) [.int .i64 0, .int .i64 0, .int .i64 0, .int .i64 0, .slice none 0 0] from by have h9 := (BoxV.new (wn.alloc (.cells #[.int .i64 n, .int .i64 m, .int .i64 f, .int .i64 d, .slice a l.length c] 27)) [.int .i64 0, .int .i64 0, .int .i64 0, .int .i64 0, .slice none 0 0] 27 (by simp) rfl); simp only [World.size_alloc, hg, Nat.add_assoc, Nat.reduceAdd] at h9; exact h9)
  have HZg := Lib.hid (show (((wn.alloc (.cells #[.int .i64 n, .int .i64 m, .int .i64 f, .int .i64 d, .slice a l.length c] 27)).alloc (.cells #[.int .i64 0, .int .i64 0, .int .i64 0, .int .i64 0, .slice none 0 0] 27))).heap.size = g + 2 from by simp only [World.size_alloc, hg, Nat.add_assoc, Nat.reduceAdd])
  clear hg
  clear T
  have T := Tn
  clear Tn
  go_enter Try.func33, Try.ntmps33
  have c0 := (TB.out.2 0 _ rfl).1
  have c1 := (TB.out.2 1 _ rfl).1
  have c2 := (TB.out.2 2 _ rfl).1
  have c3 := (TB.out.2 3 _ rfl).1
  have c4 := (TB.out.2 4 _ rfl).1
  go_wp2_with fail
  rw [HGg.out]
  refine Calls.mono (HV.out _ (Rid.below X0.out T.out)) ?_
  intro e wn hh
  obtain ⟨he, hb⟩ := (by first | exact hh | exact Ro.mk hh | exact St.mk hh | exact LawOk.mk' hh : Mk _ _ e wn)
  subst he
  have Tn : Hid (Below w.heap.size w wn) := below_next T.out hb
  have TBn : Hid _ := BoxV.below TB.out hb
  have RRn : Hid _ := BoxV.below RR.out hb
  clear hb hh c0 c1 c2 c3 c4
  clear T TB RR
  have T := Tn
  have TB := TBn
  have RR := RRn
  clear Tn TBn RRn
  clear HV
  have c0 := (TB.out.2 0 _ rfl).1
  have c1 := (TB.out.2 1 _ rfl).1
  have c2 := (TB.out.2 2 _ rfl).1
  have c3 := (TB.out.2 3 _ rfl).1
  have c4 := (TB.out.2 4 _ rfl).1
  have hltTBHO := BoxV.lt TB.out
  have hltRRHO := BoxV.lt RR.out
  have hWHO := T.out.size
  obtain ⟨HO, hHO⟩ : ∃ HO, Array.size (World.heap wn) = HO := ⟨_, rfl⟩
  have HHO : Hid _ := hHO
  rw [hHO] at hWHO hltTBHO hltRRHO
  have OB : Hid (BoxV (wn.alloc (.cells #[.int .i64 n, .int .i64 m, .int .i64 f, .int .i64 d, .slice a l.length c] 27)) HO [.int .i64 n, .int .i64 m, .int .i64 f, .int .i64 d, .slice a l.length c]) := by rw [← hHO]; exact BoxV.new _ _ _ (by simp) rfl
  clear hHO
  have Tn : Hid (Below w.heap.size w _) := Below.al T.out (.cells #[.int .i64 n, .int .i64 m, .int .i64 f, .int .i64 d, .slice a l.length c] 27)
  have TBn : Hid _ := BoxV.below TB.out ((Below.refl _ _).alloc (Nat.le_refl _) (.cells #[.int .i64 n, .int .i64 m, .int .i64 f, .int .i64 d, .slice a l.length c] 27))
  have RRn : Hid _ := BoxV.below RR.out ((Below.refl _ _).alloc (Nat.le_refl _) (.cells #[.int .i64 n, .int .i64 m, .int .i64 f, .int .i64 d, .slice a l.length c] 27))
  clear T TB RR
  have T := Tn
  have TB := TBn
  have RR := RRn
  clear Tn TBn RRn
  go_upto_region 5 with fail
  rw [HHO.out]
  generalize wn.alloc _ = w0 at *
  obtain ⟨wn, hwq⟩ : ∃ w9 : World, w9 = w0 := ⟨_, rfl⟩
  subst hwq
  clear HHO
  obtain ⟨S, hS⟩ : ∃ S, wn.heap.size = S := ⟨_, rfl⟩
  have hOS : HO < S := by rw [← hS]; exact BoxV.lt OB.out
  have hRS : g + 1 < S := by rw [← hS]; exact BoxV.lt RR.out
  have hTS : g < S := by omega
  have hwS : w.heap.size ≤ S := by rw [← hS]; exact T.out.size
  have OA := Lib.hid (show OwnR 32 3 (wn.alloc (.cells #[] 32)) S (.slice (some ⟨S, 0, none⟩) 0 0) 0 (rfl3 []) from by
    have h9 := OwnR.none0 (E := 32) (k := 3) (w := wn); rw [hS] at h9; exact h9)
  have IN := Lib.hid (Rid.below X0.out (Below.al T.out (.cells #[] 32)))
  have hB1 : S ≤ (wn.alloc (.cells #[] 32)).heap.size := by rw [World.size_alloc, hS]; omega
  have c0 := (TB.out.2 0 _ rfl).1
  have c1 := (TB.out.2 1 _ rfl).1
  have c2 := (TB.out.2 2 _ rfl).1
  have c3 := (TB.out.2 3 _ rfl).1
  have c4 := (TB.out.2 4 _ rfl).1
  go_wp2_with (with_reducible refine wpList_append_riders OA.out rfl rfl IN.out (by omega) hB1 ?_)
  intro v2 w2 hO2 hgr hat
  rw [Nat.zero_add, List.nil_append] at hO2
  have hgb : ∀ q, (Value.slice (some ⟨S, 0, none⟩) 0 0).ownBlock = some q → q = S := fun q e => by cases e; rfl
  have T2 := Lib.hid (show Below w.heap.size w w2 from Below.own (Below.al T.out (.cells #[] 32)) hgr (fun i e => by have := hgb i e; omega))
  have OB2 := Lib.hid (BoxV.gr (BoxV.al OB.out (.cells #[] 32)) hgr (fun i e => by have := hgb i e; omega))
  have RR2 := Lib.hid (BoxV.gr (BoxV.al RR.out (.cells #[] 32)) hgr (fun i e => by have := hgb i e; omega))
  obtain ⟨av, cv, hv, -, -⟩ := OwnR.open hO2
  subst hv
  have HNE := Lib.hid (show ∀ q, (Value.slice av l.length cv).ownBlock = some q → w.heap.size ≤ q ∧ q ≠ HO ∧ q ≠ g + 1 from fun q hq => by have := (OwnR.lt hO2 q hq).1; omega)
  have O2 := Lib.hid hO2
  clear OA IN hB1 hO2 hgr hat hgb OB TB RR T c0 c1 c2 c3 c4 hS
  have ho := Out.set (w := w2) (q := HO) (i := 4) (lo := HO) (hi := HO + 1) (.slice av l.length cv) (Nat.le_refl _) (by omega)
  have T := Lib.hid (Out.below T2.out ho (by omega))
  have OB := Lib.hid (show BoxV _ HO [.int .i64 n, .int .i64 m, .int .i64 f, .int .i64 d, .slice av l.length cv] from BoxV.set OB2.out 4 (.slice av l.length cv) (by simp))
  have RR := Lib.hid (BoxV.far (j := 4) (u := .slice av l.length cv) RR2.out (show g + 1 ≠ HO by omega))
  have O := Lib.hid (OwnR.mono (A := w.heap.size) (OwnR.pfar (c := HO) (j := 4) (u := .slice av l.length cv) O2.out (fun q hq => by have := (OwnR.lt O2.out q hq).1; omega)) hwS)
  have b4 := OB2.out.2 4 _ rfl
  obtain ⟨b40, b41⟩ := b4
  go_upto_region 6 with fail
  clear b40 b41 T2 OB2 RR2 O2 ho
  generalize w2.setCell _ _ = w0 at *
  obtain ⟨wn, hwq⟩ : ∃ w9 : World, w9 = w0 := ⟨_, rfl⟩
  subst hwq
  go_wp2_with fail
  go_loopw [5] (fun v wr => ∃ (j : Nat) (x : Tp) (av : Option Addr) (cv : Nat), j ≤ N ∧ v = .int .i64 j ∧ TEI E N j x ∧ (∀ q, (Value.slice av x.rs.length cv).ownBlock = some q → w.heap.size ≤ q ∧ q ≠ HO ∧ q ≠ g + 1) ∧ OwnR 32 3 wr w.heap.size (.slice av x.rs.length cv) x.rs.length (rfl3 x.rs) ∧
    BoxV wr HO [.int .i64 x.n, .int .i64 x.m, .int .i64 x.f, .int .i64 x.d, .slice av x.rs.length cv] ∧ BoxV wr (g + 1) [.int .i64 0, .int .i64 0, .int .i64 0, .int .i64 0, .slice none 0 0] ∧ Below w.heap.size w wr) (fun v _ => N - (intOf v).toNat)
  case atStart => exact ⟨0, ⟨n, m, f, d, l⟩, av, cv, by omega, rfl, HI.out, HNE.out, O.out, OB.out, RR.out, T.out⟩
  case round =>
    clear T O OB RR HNE HI
    obtain ⟨j, x, av, cv, hjN, rfl, hI, hNe, hO, hXB, hRR, hT⟩ := hrel
    obtain ⟨wn, hwq⟩ : ∃ w0 : World, w0 = wr := ⟨_, rfl⟩
    rw [← hwq] at hO hXB hRR hT ⊢
    clear hwq
    have HNE := Lib.hid hNe
    have O := Lib.hid hO
    have XB := Lib.hid hXB
    have RR := Lib.hid hRR
    have T := Lib.hid hT
    have hTO := hI.1
    by_cases hlt : j < N
    case neg =>
      obtain rfl : j = N := by omega
      have hEx := tei_end hI
      have Nw := newT_end (n := x.n) (m := x.m) (f := x.f) (d := x.d) (l := x.rs) (r := g + 1) (w := wn) (v := .slice av x.rs.length cv) (B := w.heap.size) O.out (Nat.le_refl _) T.out (by omega) (fun q hq => (HNE.out q hq).2.2) id
      rw [show (⟨x.n, x.m, x.f, x.d, x.rs⟩ : Tp) = E from hEx] at Nw
      unfold set5 at Nw
      have N2 := Lib.hid Nw
      clear hI hNe hO hXB hRR hT hTO Nw hEx
      have d0 := (XB.out.2 0 _ rfl).1
      have d1 := (XB.out.2 1 _ rfl).1
      have d2 := (XB.out.2 2 _ rfl).1
      have d3 := (XB.out.2 3 _ rfl).1
      have d4 := (XB.out.2 4 _ rfl).1
      have e0 := (RR.out.2 0 _ rfl).1
      have ef0 := (RR.out.2 0 _ rfl).2
      have e1 := (RR.out.2 1 _ rfl).1
      have ef1 := (RR.out.2 1 _ rfl).2
      have e2 := (RR.out.2 2 _ rfl).1
      have ef2 := (RR.out.2 2 _ rfl).2
      have e3 := (RR.out.2 3 _ rfl).1
      have ef3 := (RR.out.2 3 _ rfl).2
      have e4 := (RR.out.2 4 _ rfl).1
      have ef4 := (RR.out.2 4 _ rfl).2
      clear XB RR O HNE T
      go_wp2_with fail
      clear d0 d1 d2 d3 d4
      have c0 := e0
      have c1 := e1
      have c2 := e2
      have c3 := e3
      have c4 := e4
      exact bodyPost_ret (v := .agg #[.int .i64 x.n, .int .i64 x.m, .int .i64 x.f, .int .i64 x.d, .slice av x.rs.length cv]) (by simp [results, Try.results33, go_sem, c0, c1, c2, c3, c4]) rfl N2.out
    have hI2 := tei_next hI hlt
    have hjn : (j : Int) < N := by omega
    have hlen : x.rs.length ≤ 1048577 := by have := hTO.2.2.2.2.1; omega
    have KS := fun w' (g : Rid w' av x.rs.length x.rs) => sTripStep_c x.n x.m x.f x.d av x.rs.length cv x.rs w' g hlen
    obtain ⟨y, hy⟩ : ∃ y, stT x = y := ⟨_, rfl⟩
    obtain ⟨b2, hb2⟩ : ∃ b2, stB x = b2 := ⟨_, rfl⟩
    rw [hy] at hI2
    rw [show (⟨x.n, x.m, x.f, x.d, x.rs⟩ : Tp) = x from rfl, hy, hb2] at KS
    have HK := Lib.hid KS
    have HI2 := Lib.hid hI2
    clear hI hNe hO hXB hRR hT hTO hI2 KS hy hb2
    have d0 := (XB.out.2 0 _ rfl).1
    have d1 := (XB.out.2 1 _ rfl).1
    have d2 := (XB.out.2 2 _ rfl).1
    have d3 := (XB.out.2 3 _ rfl).1
    have d4 := (XB.out.2 4 _ rfl).1
    go_wp2_with fail
    refine Calls.mono (HK.out _ (OwnR.rid O.out)) ?_
    intro e wq hh
    obtain ⟨v2, he, hO2, hb3⟩ := hh
    subst he
    obtain ⟨av2, cv2, hv, -, -⟩ := OwnR.open hO2
    subst hv
    have hlt2 := OwnR.lt hO2
    have hXl := BoxV.lt XB.out
    have hRl := BoxV.lt RR.out
    have HN2 := Lib.hid (show ∀ q, (Value.slice av2 y.rs.length cv2).ownBlock = some q → w.heap.size ≤ q ∧ q ≠ HO ∧ q ≠ g + 1 from fun q hq => by have := hlt2 q hq; have := T.out.size; omega)
    have hO3 := OwnR.mono hO2 T.out.size
    clear O HNE
    have O := Lib.hid hO3
    clear hO2 hO3 HK hlt2 hXl hRl d0 d1 d2 d3 d4
    have Tn := Lib.hid (below_next T.out hb3)
    have XBn := Lib.hid (BoxV.below XB.out hb3)
    have RRn := Lib.hid (BoxV.below RR.out hb3)
    clear hb3
    clear T XB RR
    have T := Tn
    have XB := XBn
    have RR := RRn
    clear Tn XBn RRn
    obtain ⟨wn, hwq⟩ : ∃ w0, w0 = wq := ⟨_, rfl⟩
    subst hwq
    have hltXBHY := BoxV.lt XB.out
    have hltRRHY := BoxV.lt RR.out
    have hWHY := T.out.size
    obtain ⟨HY, hHY⟩ : ∃ HY, Array.size (World.heap wn) = HY := ⟨_, rfl⟩
    have HHY : Hid _ := hHY
    rw [hHY] at hWHY hltXBHY hltRRHY
    have YB : Hid (BoxV (wn.alloc (.cells #[.int .i64 y.n, .int .i64 y.m, .int .i64 y.f, .int .i64 y.d, .slice av2 y.rs.length cv2] 27)) HY [.int .i64 y.n, .int .i64 y.m, .int .i64 y.f, .int .i64 y.d, .slice av2 y.rs.length cv2]) := by rw [← hHY]; exact BoxV.new _ _ _ (by simp) rfl
    clear hHY
    have Tn : Hid (Below w.heap.size w _) := Below.al T.out (.cells #[.int .i64 y.n, .int .i64 y.m, .int .i64 y.f, .int .i64 y.d, .slice av2 y.rs.length cv2] 27)
    have XBn : Hid _ := BoxV.below XB.out ((Below.refl _ _).alloc (Nat.le_refl _) (.cells #[.int .i64 y.n, .int .i64 y.m, .int .i64 y.f, .int .i64 y.d, .slice av2 y.rs.length cv2] 27))
    have RRn : Hid _ := BoxV.below RR.out ((Below.refl _ _).alloc (Nat.le_refl _) (.cells #[.int .i64 y.n, .int .i64 y.m, .int .i64 y.f, .int .i64 y.d, .slice av2 y.rs.length cv2] 27))
    have On : Hid _ := OwnR.below O.out ((Below.refl _ _).alloc (Nat.le_refl _) (.cells #[.int .i64 y.n, .int .i64 y.m, .int .i64 y.f, .int .i64 y.d, .slice av2 y.rs.length cv2] 27))
    clear T XB RR O
    have T := Tn
    have XB := XBn
    have RR := RRn
    have O := On
    clear Tn XBn RRn On
    go_upto_region 10 with fail
    rw [HHY.out]
    generalize wn.alloc _ = w0 at *
    obtain ⟨wn, hwq⟩ : ∃ w9 : World, w9 = w0 := ⟨_, rfl⟩
    subst hwq
    clear HHY
    have ho := out5 (w := wn) (b := HO) (.int .i64 y.n) (.int .i64 y.m) (.int .i64 y.f) (.int .i64 y.d) (.slice av2 y.rs.length cv2)
    have T3 := Lib.hid (Out.below T.out ho (by omega))
    have X3 := Lib.hid (box5 (.int .i64 y.n) (.int .i64 y.m) (.int .i64 y.f) (.int .i64 y.d) (.slice av2 y.rs.length cv2) XB.out)
    have R3 := Lib.hid (BoxV.out RR.out ho (.inl (by omega)))
    have O3 := Lib.hid (OwnR.block O.out (fun q hq => ho.block q (OwnR.lt O.out q hq).2 (by have := (HN2.out q hq).2; omega)))
    have d0 := (YB.out.2 0 _ rfl).1
    have d1 := (YB.out.2 1 _ rfl).1
    have d2 := (YB.out.2 2 _ rfl).1
    have d3 := (YB.out.2 3 _ rfl).1
    have d4 := (YB.out.2 4 _ rfl).1
    have e0 := (XB.out.2 0 _ rfl).1
    have ef0 := (XB.out.2 0 _ rfl).2
    have e1 := (XB.out.2 1 _ rfl).1
    have ef1 := (XB.out.2 1 _ rfl).2
    have e2 := (XB.out.2 2 _ rfl).1
    have ef2 := (XB.out.2 2 _ rfl).2
    have e3 := (XB.out.2 3 _ rfl).1
    have ef3 := (XB.out.2 3 _ rfl).2
    have e4 := (XB.out.2 4 _ rfl).1
    have ef4 := (XB.out.2 4 _ rfl).2
    clear ho O XB YB T RR
    go_wp2_with fail
    exact ⟨⟨j + 1, y, av2, cv2, by omega, by go_num, HI2.out, HN2.out, O3.out, X3.out, R3.out, T3.out⟩, by first | (simp [intOf]; done) | (simp [intOf]; omega) | omega⟩
theorem sTripEnd_c (n m f d : Int) (a : Option Addr) (k c : Nat) (l : List Ri) (w : World) (hX : Rid w a k l) (hk : k ≤ 1048577) :
    Calls Try.prog 33 #[.agg #[.int .i64 n, .int .i64 m, .int .i64 f, .int .i64 d, .slice a k c]] w (NewT w (teT ⟨n, m, f, d, l⟩) id) := by
  by_cases h : TOk ⟨n, m, f, d, l⟩
  · rw [teT_t h]; exact sTripEnd_t n m f d a k c l w hX hk h
  · rw [teT_f h]; exact sTripEnd_f n m f d a k c l w hX hk h
end Go.Proofs.Ytfhhgddajmihjaa

namespace Go.Proofs.Ytfhhgddajmihjaa
open Go.RowKit
set_option linter.unusedVariables false
set_option linter.unusedSimpArgs false
set_option maxRecDepth 100000

/-- How many riders are in a state. -/
def cns (s : Int) : List Ri → Nat
  | [] => 0
  | r :: l => (if r.s = s then 1 else 0) + cns s l
theorem cns_app (s : Int) (l m : List Ri) : cns s (l ++ m) = cns s l + cns s m := by
  induction l with
  | nil => simp [cns]
  | cons r l ih => simp only [List.cons_append, cns, ih]; omega
theorem cns_le (s : Int) (l : List Ri) : cns s l ≤ l.length := by
  induction l with
  | nil => simp [cns]
  | cons r l ih => simp only [cns, List.length_cons]; split <;> omega
theorem cns_ins (l : List Ri) : cns 1 l = ins l := by
  induction l with
  | nil => rfl
  | cons r l ih => simp only [cns, ins, ih]
theorem cns_take {s : Int} {l : List Ri} {i : Nat} (h : i < l.length) : cns s (l.take (i + 1)) = cns s (l.take i) + (if (rat l i).s = s then 1 else 0) := by rw [rat_take h, cns_app]; simp [cns]
set_option maxHeartbeats 2000000 in
theorem inState_c (n m f d q : Int) (a : Option Addr) (k c : Nat) (l : List Ri) (w : World) (hX : Rid w a k l) (hk : k ≤ 1048577) :
    Calls Try.prog 21 #[.agg #[.int .i64 n, .int .i64 m, .int .i64 f, .int .i64 d, .slice a k c], .int .i64 q] w (Mk w (.int .i64 (cns q l : Nat))) := by
  have HL := Lib.hid hX.2
  refine at_base fun wn hwn => ?_
  have T := Lib.hid (show Below w.heap.size w wn from by rw [hwn]; exact Below.refl _ _)
  rw [← hwn] at hX
  have X := Lib.hid (show Rid wn a k l from hX)
  clear hX
  clear hwn
  obtain ⟨g, hg⟩ : ∃ g, Array.size (World.heap wn) = g := ⟨_, rfl⟩
  have HGg := Lib.hid hg
  have hTg : w.heap.size ≤ g := by rw [← hg]; exact T.out.size
  have Tn := Lib.hid (show Below w.heap.size w (wn.alloc (.cells #[.int .i64 n, .int .i64 m, .int .i64 f, .int .i64 d, .slice a k c] 27)) from (Below.al T.out (.cells #[.int .i64 n, .int .i64 m, .int .i64 f, .int .i64 d, .slice a k c] 27)))
  have Xn := Lib.hid (Rid.below X.out (show Below wn.heap.size wn (wn.alloc (.cells #[.int .i64 n, .int .i64 m, .int .i64 f, .int .i64 d, .slice a k c] 27)) from (Below.al (Below.refl _ _) (.cells #[.int .i64 n, .int .i64 m, .int .i64 f, .int .i64 d, .slice a k c] 27))))
  have TB := Lib.hid (show BoxV (wn.alloc (.cells #[.int .i64 n, .int .i64 m, .int .i64 f, .int .i64 d, .slice a k c] 27)) g [.int .i64 n, .int .i64 m, .int .i64 f, .int .i64 d, .slice a k c] from by have h9 := (BoxV.new wn [.int .i64 n, .int .i64 m, .int .i64 f, .int .i64 d, .slice a k c] 27 (by simp) rfl); simp only [World.size_alloc, hg, Nat.add_assoc, Nat.reduceAdd] at h9; exact h9)
  have HZg := Lib.hid (show ((wn.alloc (.cells #[.int .i64 n, .int .i64 m, .int .i64 f, .int .i64 d, .slice a k c] 27))).heap.size = g + 1 from by simp only [World.size_alloc, hg, Nat.add_assoc, Nat.reduceAdd])
  clear hg
  clear T X
  have T := Tn
  have X := Xn
  clear Tn Xn
  go_enter Try.func21, Try.ntmps21
  go_wp2_with fail
  rw [HGg.out]
  go_loopw [5, 6] (fun u v wr => ∃ i j : Nat, i ≤ k ∧ u = .int .i64 j ∧ v = .int .i64 i ∧ j = cns q (l.take i) ∧ j ≤ i ∧ Below w.heap.size w wr ∧ Rid wr a k l ∧ BoxV wr g [.int .i64 n, .int .i64 m, .int .i64 f, .int .i64 d, .slice a k c]) (fun u v _ => k - (intOf v).toNat)
  case atStart => exact ⟨0, 0, by omega, rfl, rfl, rfl, by omega, T.out, X.out, TB.out⟩
  case' round =>
    clear T X TB
    obtain ⟨i, j, hi, rfl, rfl, hj, hji, h9T, h9X, h9TB⟩ := hrel
    obtain ⟨wn, hwq⟩ : ∃ w0 : World, w0 = wr := ⟨_, rfl⟩
    rw [← hwq] at h9T h9X h9TB ⊢
    clear hwq
    have T := Lib.hid h9T
    have X := Lib.hid h9X
    have TB := Lib.hid h9TB
    clear h9T h9X h9TB
    have HJ := Lib.hid hj
    clear hj
    by_cases hlt : i < k
    case neg =>
      obtain rfl : i = k := by omega
      have E := Lib.hid (show ((cns q l : Nat) : Int) = (j : Int) from by rw [HJ.out, List.take_of_length_le (by rw [HL.out]; exact Nat.le_refl _)])
      have c0 := (TB.out.2 0 _ rfl).1
      have c1 := (TB.out.2 1 _ rfl).1
      have c2 := (TB.out.2 2 _ rfl).1
      have c3 := (TB.out.2 3 _ rfl).1
      have c4 := (TB.out.2 4 _ rfl).1
      go_wp2_with fail
      go_ret
      exact Mk.i E.out T.out
    obtain ⟨b, off, rfl⟩ := Rid.some X.out (by omega)
    obtain ⟨y0, y1, y2⟩ := Rid.three X.out hlt
    have hin := cns_take (s := q) (l := l) (i := i) (by rw [HL.out]; exact hlt)
    obtain ⟨s, hs⟩ : ∃ s, (rat l i).s = s := ⟨_, rfl⟩
    rw [hs] at y2 hin
    have hii : (i : Int) < k := by omega
    clear y0 y1 hs
    have c0 := (TB.out.2 0 _ rfl).1
    have c1 := (TB.out.2 1 _ rfl).1
    have c2 := (TB.out.2 2 _ rfl).1
    have c3 := (TB.out.2 3 _ rfl).1
    have c4 := (TB.out.2 4 _ rfl).1
    by_cases e : s = q
    case pos =>
      have E := Lib.hid (show j + 1 = cns q (l.take (i + 1)) from by rw [hin, if_pos e, HJ.out])
      have t : (s == q) = true := by simp [e]
      clear e hin
      go_wp2_with fail
      go_roundw
      case rel => exact ⟨i + 1, j + 1, by omega, by go_num, by go_num, E.out, by omega, T.out, X.out, TB.out⟩
      case measure => first | (simp [intOf]; done) | (simp [intOf]; omega) | omega
    have E := Lib.hid (show j = cns q (l.take (i + 1)) from by rw [hin, if_neg e, HJ.out]; rfl)
    have t : (s == q) = false := by simp [e]
    clear e hin
    go_wp2_with fail
    go_roundw
    case rel => exact ⟨i + 1, j, by omega, rfl, by go_num, E.out, by omega, T.out, X.out, TB.out⟩
    case measure => first | (simp [intOf]; done) | (simp [intOf]; omega) | omega
end Go.Proofs.Ytfhhgddajmihjaa

namespace Go.Proofs.Ytfhhgddajmihjaa
open Go.RowKit
set_option linter.unusedVariables false
set_option linter.unusedSimpArgs false
set_option maxRecDepth 100000

theorem rid_ext {l l' : List Ri} (h : l.length = l'.length) (he : ∀ i, i < l.length → rat l i = rat l' i) : l = l' := by
  apply List.ext_getElem h
  intro i h1 h2
  have := he i h1
  rwa [rat_eq h1, rat_eq h2] at this
set_option maxRecDepth 100000 in
set_option maxHeartbeats 4000000 in
theorem sameTrip_c (n m f d : Int) (a : Option Addr) (k c : Nat) (l : List Ri) (n' m' f' d' : Int) (a' : Option Addr) (k' c' : Nat) (l' : List Ri) (w : World) (hX : Rid w a k l) (hY : Rid w a' k' l') (hk : k ≤ 1048577) :
    Calls Try.prog 27 #[.agg #[.int .i64 n, .int .i64 m, .int .i64 f, .int .i64 d, .slice a k c], .agg #[.int .i64 n', .int .i64 m', .int .i64 f', .int .i64 d', .slice a' k' c']] w (Mk w (.bool (tr ((⟨n, m, f, d, l⟩ : Tp) = ⟨n', m', f', d', l'⟩)))) := by
  have X0 := Lib.hid hX
  have Y0 := Lib.hid hY
  have HL := Lib.hid hX.2
  have HM := Lib.hid hY.2
  clear hX hY
  refine at_base fun wn hwn => ?_
  have T := Lib.hid (show Below w.heap.size w wn from by rw [hwn]; exact Below.refl _ _)
  clear hwn
  by_cases h0 : n = n'
  case neg =>
    have E := Lib.hid (tr_false (fun h : (⟨n, m, f, d, l⟩ : Tp) = ⟨n', m', f', d', l'⟩ => h0 (by simp only [Tp.mk.injEq] at h; exact h.1)))
    have g2 : (n == n') = false := beq_false_of_ne h0
    have g3 : ¬ n = n' := h0
    clear h0
    obtain ⟨g, hg⟩ : ∃ g, Array.size (World.heap wn) = g := ⟨_, rfl⟩
    have HGg := Lib.hid hg
    have hTg : w.heap.size ≤ g := by rw [← hg]; exact T.out.size
    have Tn := Lib.hid (show Below w.heap.size w ((wn.alloc (.cells #[.int .i64 n, .int .i64 m, .int .i64 f, .int .i64 d, .slice a k c] 27)).alloc (.cells #[.int .i64 n', .int .i64 m', .int .i64 f', .int .i64 d', .slice a' k' c'] 27)) from (Below.al (Below.al T.out (.cells #[.int .i64 n, .int .i64 m, .int .i64 f, .int .i64 d, .slice a k c] 27)) (.cells #[.int .i64 n', .int .i64 m', .int .i64 f', .int .i64 d', .slice a' k' c'] 27)))
    have TA := Lib.hid (show BoxV ((wn.alloc (.cells #[.int .i64 n, .int .i64 m, .int .i64 f, .int .i64 d, .slice a k c] 27)).alloc (.cells #[.int .i64 n', .int .i64 m', .int .i64 f', .int .i64 d', .slice a' k' c'] 27)) g [.int .i64 n, .int .i64 m, .int .i64 f, .int .i64 d, .slice a k c] from by have h9 := (BoxV.al (BoxV.new wn [.int .i64 n, .int .i64 m, .int .i64 f, .int .i64 d, .slice a k c] 27 (by simp) rfl) (.cells #[.int .i64 n', .int .i64 m', .int .i64 f', .int .i64 d', .slice a' k' c'] 27)); simp only [World.size_alloc, hg, Nat.add_assoc, Nat.reduceAdd] at h9; exact h9)
    have TB := Lib.hid (show BoxV ((wn.alloc (.cells #[.int .i64 n, .int .i64 m, .int .i64 f, .int .i64 d, .slice a k c] 27)).alloc (.cells #[.int .i64 n', .int .i64 m', .int .i64 f', .int .i64 d', .slice a' k' c'] 27)) (g + 1) [.int .i64 n', .int .i64 m', .int .i64 f', .int .i64 d', .slice a' k' c'] from by have h9 := (BoxV.new (wn.alloc (.cells #[.int .i64 n, .int .i64 m, .int .i64 f, .int .i64 d, .slice a k c] 27)) [.int .i64 n', .int .i64 m', .int .i64 f', .int .i64 d', .slice a' k' c'] 27 (by simp) rfl); simp only [World.size_alloc, hg, Nat.add_assoc, Nat.reduceAdd] at h9; exact h9)
    have HZg := Lib.hid (show (((wn.alloc (.cells #[.int .i64 n, .int .i64 m, .int .i64 f, .int .i64 d, .slice a k c] 27)).alloc (.cells #[.int .i64 n', .int .i64 m', .int .i64 f', .int .i64 d', .slice a' k' c'] 27))).heap.size = g + 2 from by simp only [World.size_alloc, hg, Nat.add_assoc, Nat.reduceAdd])
    clear hg
    clear T
    have T := Tn
    clear Tn
    go_enter Try.func27, Try.ntmps27
    have c0 := (TA.out.2 0 _ rfl).1
    have c1 := (TA.out.2 1 _ rfl).1
    have c2 := (TA.out.2 2 _ rfl).1
    have c3 := (TA.out.2 3 _ rfl).1
    have c4 := (TA.out.2 4 _ rfl).1
    have d0 := (TB.out.2 0 _ rfl).1
    have d1 := (TB.out.2 1 _ rfl).1
    have d2 := (TB.out.2 2 _ rfl).1
    have d3 := (TB.out.2 3 _ rfl).1
    have d4 := (TB.out.2 4 _ rfl).1
    go_wp2_with fail
    go_ret
    exact Mk.b E.out T.out
  subst h0
  by_cases h1 : m = m'
  case neg =>
    have E := Lib.hid (tr_false (fun h : (⟨n, m, f, d, l⟩ : Tp) = ⟨n, m', f', d', l'⟩ => h1 (by simp only [Tp.mk.injEq] at h; exact h.2.1)))
    have g2 : (m == m') = false := beq_false_of_ne h1
    have g3 : ¬ m = m' := h1
    clear h1
    obtain ⟨g, hg⟩ : ∃ g, Array.size (World.heap wn) = g := ⟨_, rfl⟩
    have HGg := Lib.hid hg
    have hTg : w.heap.size ≤ g := by rw [← hg]; exact T.out.size
    have Tn := Lib.hid (show Below w.heap.size w ((wn.alloc (.cells #[.int .i64 n, .int .i64 m, .int .i64 f, .int .i64 d, .slice a k c] 27)).alloc (.cells #[.int .i64 n, .int .i64 m', .int .i64 f', .int .i64 d', .slice a' k' c'] 27)) from (Below.al (Below.al T.out (.cells #[.int .i64 n, .int .i64 m, .int .i64 f, .int .i64 d, .slice a k c] 27)) (.cells #[.int .i64 n, .int .i64 m', .int .i64 f', .int .i64 d', .slice a' k' c'] 27)))
    have TA := Lib.hid (show BoxV ((wn.alloc (.cells #[.int .i64 n, .int .i64 m, .int .i64 f, .int .i64 d, .slice a k c] 27)).alloc (.cells #[.int .i64 n, .int .i64 m', .int .i64 f', .int .i64 d', .slice a' k' c'] 27)) g [.int .i64 n, .int .i64 m, .int .i64 f, .int .i64 d, .slice a k c] from by have h9 := (BoxV.al (BoxV.new wn [.int .i64 n, .int .i64 m, .int .i64 f, .int .i64 d, .slice a k c] 27 (by simp) rfl) (.cells #[.int .i64 n, .int .i64 m', .int .i64 f', .int .i64 d', .slice a' k' c'] 27)); simp only [World.size_alloc, hg, Nat.add_assoc, Nat.reduceAdd] at h9; exact h9)
    have TB := Lib.hid (show BoxV ((wn.alloc (.cells #[.int .i64 n, .int .i64 m, .int .i64 f, .int .i64 d, .slice a k c] 27)).alloc (.cells #[.int .i64 n, .int .i64 m', .int .i64 f', .int .i64 d', .slice a' k' c'] 27)) (g + 1) [.int .i64 n, .int .i64 m', .int .i64 f', .int .i64 d', .slice a' k' c'] from by have h9 := (BoxV.new (wn.alloc (.cells #[.int .i64 n, .int .i64 m, .int .i64 f, .int .i64 d, .slice a k c] 27)) [.int .i64 n, .int .i64 m', .int .i64 f', .int .i64 d', .slice a' k' c'] 27 (by simp) rfl); simp only [World.size_alloc, hg, Nat.add_assoc, Nat.reduceAdd] at h9; exact h9)
    have HZg := Lib.hid (show (((wn.alloc (.cells #[.int .i64 n, .int .i64 m, .int .i64 f, .int .i64 d, .slice a k c] 27)).alloc (.cells #[.int .i64 n, .int .i64 m', .int .i64 f', .int .i64 d', .slice a' k' c'] 27))).heap.size = g + 2 from by simp only [World.size_alloc, hg, Nat.add_assoc, Nat.reduceAdd])
    clear hg
    clear T
    have T := Tn
    clear Tn
    go_enter Try.func27, Try.ntmps27
    have c0 := (TA.out.2 0 _ rfl).1
    have c1 := (TA.out.2 1 _ rfl).1
    have c2 := (TA.out.2 2 _ rfl).1
    have c3 := (TA.out.2 3 _ rfl).1
    have c4 := (TA.out.2 4 _ rfl).1
    have d0 := (TB.out.2 0 _ rfl).1
    have d1 := (TB.out.2 1 _ rfl).1
    have d2 := (TB.out.2 2 _ rfl).1
    have d3 := (TB.out.2 3 _ rfl).1
    have d4 := (TB.out.2 4 _ rfl).1
    go_wp2_with fail
    go_ret
    exact Mk.b E.out T.out
  subst h1
  by_cases h2 : f = f'
  case neg =>
    have E := Lib.hid (tr_false (fun h : (⟨n, m, f, d, l⟩ : Tp) = ⟨n, m, f', d', l'⟩ => h2 (by simp only [Tp.mk.injEq] at h; exact h.2.2.1)))
    have g2 : (f == f') = false := beq_false_of_ne h2
    have g3 : ¬ f = f' := h2
    clear h2
    obtain ⟨g, hg⟩ : ∃ g, Array.size (World.heap wn) = g := ⟨_, rfl⟩
    have HGg := Lib.hid hg
    have hTg : w.heap.size ≤ g := by rw [← hg]; exact T.out.size
    have Tn := Lib.hid (show Below w.heap.size w ((wn.alloc (.cells #[.int .i64 n, .int .i64 m, .int .i64 f, .int .i64 d, .slice a k c] 27)).alloc (.cells #[.int .i64 n, .int .i64 m, .int .i64 f', .int .i64 d', .slice a' k' c'] 27)) from (Below.al (Below.al T.out (.cells #[.int .i64 n, .int .i64 m, .int .i64 f, .int .i64 d, .slice a k c] 27)) (.cells #[.int .i64 n, .int .i64 m, .int .i64 f', .int .i64 d', .slice a' k' c'] 27)))
    have TA := Lib.hid (show BoxV ((wn.alloc (.cells #[.int .i64 n, .int .i64 m, .int .i64 f, .int .i64 d, .slice a k c] 27)).alloc (.cells #[.int .i64 n, .int .i64 m, .int .i64 f', .int .i64 d', .slice a' k' c'] 27)) g [.int .i64 n, .int .i64 m, .int .i64 f, .int .i64 d, .slice a k c] from by have h9 := (BoxV.al (BoxV.new wn [.int .i64 n, .int .i64 m, .int .i64 f, .int .i64 d, .slice a k c] 27 (by simp) rfl) (.cells #[.int .i64 n, .int .i64 m, .int .i64 f', .int .i64 d', .slice a' k' c'] 27)); simp only [World.size_alloc, hg, Nat.add_assoc, Nat.reduceAdd] at h9; exact h9)
    have TB := Lib.hid (show BoxV ((wn.alloc (.cells #[.int .i64 n, .int .i64 m, .int .i64 f, .int .i64 d, .slice a k c] 27)).alloc (.cells #[.int .i64 n, .int .i64 m, .int .i64 f', .int .i64 d', .slice a' k' c'] 27)) (g + 1) [.int .i64 n, .int .i64 m, .int .i64 f', .int .i64 d', .slice a' k' c'] from by have h9 := (BoxV.new (wn.alloc (.cells #[.int .i64 n, .int .i64 m, .int .i64 f, .int .i64 d, .slice a k c] 27)) [.int .i64 n, .int .i64 m, .int .i64 f', .int .i64 d', .slice a' k' c'] 27 (by simp) rfl); simp only [World.size_alloc, hg, Nat.add_assoc, Nat.reduceAdd] at h9; exact h9)
    have HZg := Lib.hid (show (((wn.alloc (.cells #[.int .i64 n, .int .i64 m, .int .i64 f, .int .i64 d, .slice a k c] 27)).alloc (.cells #[.int .i64 n, .int .i64 m, .int .i64 f', .int .i64 d', .slice a' k' c'] 27))).heap.size = g + 2 from by simp only [World.size_alloc, hg, Nat.add_assoc, Nat.reduceAdd])
    clear hg
    clear T
    have T := Tn
    clear Tn
    go_enter Try.func27, Try.ntmps27
    have c0 := (TA.out.2 0 _ rfl).1
    have c1 := (TA.out.2 1 _ rfl).1
    have c2 := (TA.out.2 2 _ rfl).1
    have c3 := (TA.out.2 3 _ rfl).1
    have c4 := (TA.out.2 4 _ rfl).1
    have d0 := (TB.out.2 0 _ rfl).1
    have d1 := (TB.out.2 1 _ rfl).1
    have d2 := (TB.out.2 2 _ rfl).1
    have d3 := (TB.out.2 3 _ rfl).1
    have d4 := (TB.out.2 4 _ rfl).1
    go_wp2_with fail
    go_ret
    exact Mk.b E.out T.out
  subst h2
  by_cases h3 : d = d'
  case neg =>
    have E := Lib.hid (tr_false (fun h : (⟨n, m, f, d, l⟩ : Tp) = ⟨n, m, f, d', l'⟩ => h3 (by simp only [Tp.mk.injEq] at h; exact h.2.2.2.1)))
    have g2 : (d == d') = false := beq_false_of_ne h3
    have g3 : ¬ d = d' := h3
    clear h3
    obtain ⟨g, hg⟩ : ∃ g, Array.size (World.heap wn) = g := ⟨_, rfl⟩
    have HGg := Lib.hid hg
    have hTg : w.heap.size ≤ g := by rw [← hg]; exact T.out.size
    have Tn := Lib.hid (show Below w.heap.size w ((wn.alloc (.cells #[.int .i64 n, .int .i64 m, .int .i64 f, .int .i64 d, .slice a k c] 27)).alloc (.cells #[.int .i64 n, .int .i64 m, .int .i64 f, .int .i64 d', .slice a' k' c'] 27)) from (Below.al (Below.al T.out (.cells #[.int .i64 n, .int .i64 m, .int .i64 f, .int .i64 d, .slice a k c] 27)) (.cells #[.int .i64 n, .int .i64 m, .int .i64 f, .int .i64 d', .slice a' k' c'] 27)))
    have TA := Lib.hid (show BoxV ((wn.alloc (.cells #[.int .i64 n, .int .i64 m, .int .i64 f, .int .i64 d, .slice a k c] 27)).alloc (.cells #[.int .i64 n, .int .i64 m, .int .i64 f, .int .i64 d', .slice a' k' c'] 27)) g [.int .i64 n, .int .i64 m, .int .i64 f, .int .i64 d, .slice a k c] from by have h9 := (BoxV.al (BoxV.new wn [.int .i64 n, .int .i64 m, .int .i64 f, .int .i64 d, .slice a k c] 27 (by simp) rfl) (.cells #[.int .i64 n, .int .i64 m, .int .i64 f, .int .i64 d', .slice a' k' c'] 27)); simp only [World.size_alloc, hg, Nat.add_assoc, Nat.reduceAdd] at h9; exact h9)
    have TB := Lib.hid (show BoxV ((wn.alloc (.cells #[.int .i64 n, .int .i64 m, .int .i64 f, .int .i64 d, .slice a k c] 27)).alloc (.cells #[.int .i64 n, .int .i64 m, .int .i64 f, .int .i64 d', .slice a' k' c'] 27)) (g + 1) [.int .i64 n, .int .i64 m, .int .i64 f, .int .i64 d', .slice a' k' c'] from by have h9 := (BoxV.new (wn.alloc (.cells #[.int .i64 n, .int .i64 m, .int .i64 f, .int .i64 d, .slice a k c] 27)) [.int .i64 n, .int .i64 m, .int .i64 f, .int .i64 d', .slice a' k' c'] 27 (by simp) rfl); simp only [World.size_alloc, hg, Nat.add_assoc, Nat.reduceAdd] at h9; exact h9)
    have HZg := Lib.hid (show (((wn.alloc (.cells #[.int .i64 n, .int .i64 m, .int .i64 f, .int .i64 d, .slice a k c] 27)).alloc (.cells #[.int .i64 n, .int .i64 m, .int .i64 f, .int .i64 d', .slice a' k' c'] 27))).heap.size = g + 2 from by simp only [World.size_alloc, hg, Nat.add_assoc, Nat.reduceAdd])
    clear hg
    clear T
    have T := Tn
    clear Tn
    go_enter Try.func27, Try.ntmps27
    have c0 := (TA.out.2 0 _ rfl).1
    have c1 := (TA.out.2 1 _ rfl).1
    have c2 := (TA.out.2 2 _ rfl).1
    have c3 := (TA.out.2 3 _ rfl).1
    have c4 := (TA.out.2 4 _ rfl).1
    have d0 := (TB.out.2 0 _ rfl).1
    have d1 := (TB.out.2 1 _ rfl).1
    have d2 := (TB.out.2 2 _ rfl).1
    have d3 := (TB.out.2 3 _ rfl).1
    have d4 := (TB.out.2 4 _ rfl).1
    go_wp2_with fail
    go_ret
    exact Mk.b E.out T.out
  subst h3
  by_cases h4 : k = k'
  case neg =>
    have E := Lib.hid (tr_false (fun h : (⟨n, m, f, d, l⟩ : Tp) = ⟨n, m, f, d, l'⟩ => h4 (by simp only [Tp.mk.injEq] at h; rw [← HL.out, ← HM.out, h.2.2.2.2])))
    have g2 : ((k : Int) == (k' : Int)) = false := beq_false_of_ne (by omega)
    have g3 : ¬ (k : Int) = (k' : Int) := by omega
    clear h4
    obtain ⟨g, hg⟩ : ∃ g, Array.size (World.heap wn) = g := ⟨_, rfl⟩
    have HGg := Lib.hid hg
    have hTg : w.heap.size ≤ g := by rw [← hg]; exact T.out.size
    have Tn := Lib.hid (show Below w.heap.size w ((wn.alloc (.cells #[.int .i64 n, .int .i64 m, .int .i64 f, .int .i64 d, .slice a k c] 27)).alloc (.cells #[.int .i64 n, .int .i64 m, .int .i64 f, .int .i64 d, .slice a' k' c'] 27)) from (Below.al (Below.al T.out (.cells #[.int .i64 n, .int .i64 m, .int .i64 f, .int .i64 d, .slice a k c] 27)) (.cells #[.int .i64 n, .int .i64 m, .int .i64 f, .int .i64 d, .slice a' k' c'] 27)))
    have TA := Lib.hid (show BoxV ((wn.alloc (.cells #[.int .i64 n, .int .i64 m, .int .i64 f, .int .i64 d, .slice a k c] 27)).alloc (.cells #[.int .i64 n, .int .i64 m, .int .i64 f, .int .i64 d, .slice a' k' c'] 27)) g [.int .i64 n, .int .i64 m, .int .i64 f, .int .i64 d, .slice a k c] from by have h9 := (BoxV.al (BoxV.new wn [.int .i64 n, .int .i64 m, .int .i64 f, .int .i64 d, .slice a k c] 27 (by simp) rfl) (.cells #[.int .i64 n, .int .i64 m, .int .i64 f, .int .i64 d, .slice a' k' c'] 27)); simp only [World.size_alloc, hg, Nat.add_assoc, Nat.reduceAdd] at h9; exact h9)
    have TB := Lib.hid (show BoxV ((wn.alloc (.cells #[.int .i64 n, .int .i64 m, .int .i64 f, .int .i64 d, .slice a k c] 27)).alloc (.cells #[.int .i64 n, .int .i64 m, .int .i64 f, .int .i64 d, .slice a' k' c'] 27)) (g + 1) [.int .i64 n, .int .i64 m, .int .i64 f, .int .i64 d, .slice a' k' c'] from by have h9 := (BoxV.new (wn.alloc (.cells #[.int .i64 n, .int .i64 m, .int .i64 f, .int .i64 d, .slice a k c] 27)) [.int .i64 n, .int .i64 m, .int .i64 f, .int .i64 d, .slice a' k' c'] 27 (by simp) rfl); simp only [World.size_alloc, hg, Nat.add_assoc, Nat.reduceAdd] at h9; exact h9)
    have HZg := Lib.hid (show (((wn.alloc (.cells #[.int .i64 n, .int .i64 m, .int .i64 f, .int .i64 d, .slice a k c] 27)).alloc (.cells #[.int .i64 n, .int .i64 m, .int .i64 f, .int .i64 d, .slice a' k' c'] 27))).heap.size = g + 2 from by simp only [World.size_alloc, hg, Nat.add_assoc, Nat.reduceAdd])
    clear hg
    clear T
    have T := Tn
    clear Tn
    go_enter Try.func27, Try.ntmps27
    have c0 := (TA.out.2 0 _ rfl).1
    have c1 := (TA.out.2 1 _ rfl).1
    have c2 := (TA.out.2 2 _ rfl).1
    have c3 := (TA.out.2 3 _ rfl).1
    have c4 := (TA.out.2 4 _ rfl).1
    have d0 := (TB.out.2 0 _ rfl).1
    have d1 := (TB.out.2 1 _ rfl).1
    have d2 := (TB.out.2 2 _ rfl).1
    have d3 := (TB.out.2 3 _ rfl).1
    have d4 := (TB.out.2 4 _ rfl).1
    go_wp2_with fail
    go_ret
    exact Mk.b E.out T.out
  subst h4
  obtain ⟨g, hg⟩ : ∃ g, Array.size (World.heap wn) = g := ⟨_, rfl⟩
  have HGg := Lib.hid hg
  have hTg : w.heap.size ≤ g := by rw [← hg]; exact T.out.size
  have Tn := Lib.hid (show Below w.heap.size w ((wn.alloc (.cells #[.int .i64 n, .int .i64 m, .int .i64 f, .int .i64 d, .slice a k c] 27)).alloc (.cells #[.int .i64 n, .int .i64 m, .int .i64 f, .int .i64 d, .slice a' k c'] 27)) from (Below.al (Below.al T.out (.cells #[.int .i64 n, .int .i64 m, .int .i64 f, .int .i64 d, .slice a k c] 27)) (.cells #[.int .i64 n, .int .i64 m, .int .i64 f, .int .i64 d, .slice a' k c'] 27)))
  have TA := Lib.hid (show BoxV ((wn.alloc (.cells #[.int .i64 n, .int .i64 m, .int .i64 f, .int .i64 d, .slice a k c] 27)).alloc (.cells #[.int .i64 n, .int .i64 m, .int .i64 f, .int .i64 d, .slice a' k c'] 27)) g [.int .i64 n, .int .i64 m, .int .i64 f, .int .i64 d, .slice a k c] from by have h9 := (BoxV.al (BoxV.new wn [.int .i64 n, .int .i64 m, .int .i64 f, .int .i64 d, .slice a k c] 27 (by simp) rfl) (.cells #[.int .i64 n, .int .i64 m, .int .i64 f, .int .i64 d, .slice a' k c'] 27)); simp only [World.size_alloc, hg, Nat.add_assoc, Nat.reduceAdd] at h9; exact h9)
  have TB := Lib.hid (show BoxV ((wn.alloc (.cells #[.int .i64 n, .int .i64 m, .int .i64 f, .int .i64 d, .slice a k c] 27)).alloc (.cells #[.int .i64 n, .int .i64 m, .int .i64 f, .int .i64 d, .slice a' k c'] 27)) (g + 1) [.int .i64 n, .int .i64 m, .int .i64 f, .int .i64 d, .slice a' k c'] from by have h9 := (BoxV.new (wn.alloc (.cells #[.int .i64 n, .int .i64 m, .int .i64 f, .int .i64 d, .slice a k c] 27)) [.int .i64 n, .int .i64 m, .int .i64 f, .int .i64 d, .slice a' k c'] 27 (by simp) rfl); simp only [World.size_alloc, hg, Nat.add_assoc, Nat.reduceAdd] at h9; exact h9)
  have HZg := Lib.hid (show (((wn.alloc (.cells #[.int .i64 n, .int .i64 m, .int .i64 f, .int .i64 d, .slice a k c] 27)).alloc (.cells #[.int .i64 n, .int .i64 m, .int .i64 f, .int .i64 d, .slice a' k c'] 27))).heap.size = g + 2 from by simp only [World.size_alloc, hg, Nat.add_assoc, Nat.reduceAdd])
  clear hg
  clear T
  have T := Tn
  clear Tn
  go_enter Try.func27, Try.ntmps27
  have c0 := (TA.out.2 0 _ rfl).1
  have c1 := (TA.out.2 1 _ rfl).1
  have c2 := (TA.out.2 2 _ rfl).1
  have c3 := (TA.out.2 3 _ rfl).1
  have c4 := (TA.out.2 4 _ rfl).1
  have d0 := (TB.out.2 0 _ rfl).1
  have d1 := (TB.out.2 1 _ rfl).1
  have d2 := (TB.out.2 2 _ rfl).1
  have d3 := (TB.out.2 3 _ rfl).1
  have d4 := (TB.out.2 4 _ rfl).1
  go_wp2_with fail
  rw [HGg.out]
  go_loopw [5] (fun v wr => ∃ i : Nat, i ≤ k ∧ v = .int .i64 i ∧ (∀ j, j < i → rat l j = rat l' j) ∧ Below w.heap.size w wr ∧ BoxV wr g [.int .i64 n, .int .i64 m, .int .i64 f, .int .i64 d, .slice a k c] ∧ BoxV wr (g + 1) [.int .i64 n, .int .i64 m, .int .i64 f, .int .i64 d, .slice a' k c']) (fun v _ => k - (intOf v).toNat)
  case atStart => exact ⟨0, by omega, rfl, (fun j hj => by omega), T.out, TA.out, TB.out⟩
  case' round =>
    clear T TA TB c0 c1 c2 c3 c4 d0 d1 d2 d3 d4
    obtain ⟨i, hi, rfl, hall, h9T, h9TA, h9TB⟩ := hrel
    obtain ⟨wn, hwq⟩ : ∃ w0 : World, w0 = wr := ⟨_, rfl⟩
    rw [← hwq] at h9T h9TA h9TB ⊢
    clear hwq
    have T := Lib.hid h9T
    have TA := Lib.hid h9TA
    have TB := Lib.hid h9TB
    clear h9T h9TA h9TB
    have HA := Lib.hid hall
    clear hall
    by_cases hlt : i < k
    case neg =>
      obtain rfl : i = k := by omega
      have E := Lib.hid (tr_true (show (⟨n, m, f, d, l⟩ : Tp) = ⟨n, m, f, d, l'⟩ from by rw [rid_ext (l := l) (l' := l') (by rw [HL.out, HM.out]) (fun j hj => HA.out j (by rw [← HL.out]; exact hj))]))
      have c0 := (TA.out.2 0 _ rfl).1
      have c1 := (TA.out.2 1 _ rfl).1
      have c2 := (TA.out.2 2 _ rfl).1
      have c3 := (TA.out.2 3 _ rfl).1
      have c4 := (TA.out.2 4 _ rfl).1
      have d0 := (TB.out.2 0 _ rfl).1
      have d1 := (TB.out.2 1 _ rfl).1
      have d2 := (TB.out.2 2 _ rfl).1
      have d3 := (TB.out.2 3 _ rfl).1
      have d4 := (TB.out.2 4 _ rfl).1
      go_wp2_with fail
      go_ret
      exact Mk.b E.out T.out
    obtain ⟨b, off, rfl⟩ := Rid.some X0.out (by omega)
    obtain ⟨b', off', rfl⟩ := Rid.some Y0.out (by omega)
    obtain ⟨y0, y1, y2⟩ := Rid.three (Rid.below X0.out T.out) hlt
    obtain ⟨z0, z1, z2⟩ := Rid.three (Rid.below Y0.out T.out) hlt
    have hii : (i : Int) < k := by omega
    have HN := Lib.hid (show rat l i = rat l' i → ∀ j, j < i + 1 → rat l j = rat l' j from fun h j hj => by
      by_cases e : j = i
      · subst e; exact h
      · exact HA.out j (by omega))
    have HF := Lib.hid (show rat l i ≠ rat l' i → tr ((⟨n, m, f, d, l⟩ : Tp) = ⟨n, m, f, d, l'⟩) = false from fun h => tr_false (fun g => h (by simp only [Tp.mk.injEq] at g; rw [g.2.2.2.2])))
    obtain ⟨⟨x, y, s⟩, hr⟩ : ∃ r, rat l i = r := ⟨_, rfl⟩
    obtain ⟨⟨x', y', s'⟩, hr'⟩ : ∃ r, rat l' i = r := ⟨_, rfl⟩
    rw [hr] at y0 y1 y2
    rw [hr'] at z0 z1 z2
    rw [hr, hr'] at HN HF
    clear hr hr' HA
    have Y1 := Lib.hid y0
    have Y2 := Lib.hid y1
    have Y3 := Lib.hid y2
    have Z1 := Lib.hid z0
    have Z2 := Lib.hid z1
    have Z3 := Lib.hid z2
    clear y0 y1 y2 z0 z1 z2
    have c0 := (TA.out.2 0 _ rfl).1
    have c1 := (TA.out.2 1 _ rfl).1
    have c2 := (TA.out.2 2 _ rfl).1
    have c3 := (TA.out.2 3 _ rfl).1
    have c4 := (TA.out.2 4 _ rfl).1
    have d0 := (TB.out.2 0 _ rfl).1
    have d1 := (TB.out.2 1 _ rfl).1
    have d2 := (TB.out.2 2 _ rfl).1
    have d3 := (TB.out.2 3 _ rfl).1
    have d4 := (TB.out.2 4 _ rfl).1
    go_wp2_with fail
    clear c0 c1 c2 c3 c4 d0 d1 d2 d3 d4
    by_cases h0 : x = x'
    case neg =>
      have E := Lib.hid (HF.out (fun h => h0 (by simp only [Ri.mk.injEq] at h; exact h.1)))
      have g2 : (x == x') = false := beq_false_of_ne h0
      have g3 : ¬ x = x' := h0
      clear h0
      refine wp_region_quiet (C := fun w' => Below (World.heap (wn)).size (wn) w') (by kernel_rfl) (by kernel_rfl) (by first | exact ⟨rfl, rfl, rfl, Nat.le_refl _, fun _ _ => rfl⟩ | exact Below.dw (by repeat (first | exact Below.refl _ _ | refine Below.al ?_ _ | refine Below.dr ?_ _ | refine Below.dw ?_ | refine Below.st ?_ (by first | exact Nat.le_refl _ | exact Nat.le_add_right _ _ | (simp; omega)) _ | (refine below_next ?_ (by assumption))))) ?_
      simp only []
      repeat (go_big_quiet_step (first | (intro _; with_reducible exact rfl) | (intro hC; have TA9 := BoxV.below TA.out hC; have c0 := (TA9.2 0 _ rfl).1; have c1 := (TA9.2 1 _ rfl).1; have c2 := (TA9.2 2 _ rfl).1; have c3 := (TA9.2 3 _ rfl).1; have c4 := (TA9.2 4 _ rfl).1; clear TA9; have TB9 := BoxV.below TB.out hC; have d0 := (TB9.2 0 _ rfl).1; have d1 := (TB9.2 1 _ rfl).1; have d2 := (TB9.2 2 _ rfl).1; have d3 := (TB9.2 3 _ rfl).1; have d4 := (TB9.2 4 _ rfl).1; clear TB9; have y0 := cell_below Y1.out hC; have y1 := cell_below Y2.out hC; have y2 := cell_below Y3.out hC; have z0 := cell_below Z1.out hC; have z1 := cell_below Z2.out hC; have z2 := cell_below Z3.out hC; go_simp; rfl)))
      refine wpQuiet_nil ?_
      intro wq hq
      have Tn := Lib.hid (below_next T.out hq)
      have TAn := Lib.hid (BoxV.below TA.out hq)
      have TBn := Lib.hid (BoxV.below TB.out hq)
      clear hq
      clear T TA TB
      have T := Tn
      have TA := TAn
      have TB := TBn
      clear Tn TAn TBn
      obtain ⟨wn, hwq⟩ : ∃ w0, w0 = wq := ⟨_, rfl⟩
      subst hwq
      have c0 := (TA.out.2 0 _ rfl).1
      have c1 := (TA.out.2 1 _ rfl).1
      have c2 := (TA.out.2 2 _ rfl).1
      have c3 := (TA.out.2 3 _ rfl).1
      have c4 := (TA.out.2 4 _ rfl).1
      have d0 := (TB.out.2 0 _ rfl).1
      have d1 := (TB.out.2 1 _ rfl).1
      have d2 := (TB.out.2 2 _ rfl).1
      have d3 := (TB.out.2 3 _ rfl).1
      have d4 := (TB.out.2 4 _ rfl).1
      go_wp2_with fail
      go_ret
      exact Mk.b E.out T.out
    subst h0
    by_cases h1 : y = y'
    case neg =>
      have E := Lib.hid (HF.out (fun h => h1 (by simp only [Ri.mk.injEq] at h; exact h.2.1)))
      have g2 : (y == y') = false := beq_false_of_ne h1
      have g3 : ¬ y = y' := h1
      clear h1
      refine wp_region_quiet (C := fun w' => Below (World.heap (wn)).size (wn) w') (by kernel_rfl) (by kernel_rfl) (by first | exact ⟨rfl, rfl, rfl, Nat.le_refl _, fun _ _ => rfl⟩ | exact Below.dw (by repeat (first | exact Below.refl _ _ | refine Below.al ?_ _ | refine Below.dr ?_ _ | refine Below.dw ?_ | refine Below.st ?_ (by first | exact Nat.le_refl _ | exact Nat.le_add_right _ _ | (simp; omega)) _ | (refine below_next ?_ (by assumption))))) ?_
      simp only []
      repeat (go_big_quiet_step (first | (intro _; with_reducible exact rfl) | (intro hC; have TA9 := BoxV.below TA.out hC; have c0 := (TA9.2 0 _ rfl).1; have c1 := (TA9.2 1 _ rfl).1; have c2 := (TA9.2 2 _ rfl).1; have c3 := (TA9.2 3 _ rfl).1; have c4 := (TA9.2 4 _ rfl).1; clear TA9; have TB9 := BoxV.below TB.out hC; have d0 := (TB9.2 0 _ rfl).1; have d1 := (TB9.2 1 _ rfl).1; have d2 := (TB9.2 2 _ rfl).1; have d3 := (TB9.2 3 _ rfl).1; have d4 := (TB9.2 4 _ rfl).1; clear TB9; have y0 := cell_below Y1.out hC; have y1 := cell_below Y2.out hC; have y2 := cell_below Y3.out hC; have z0 := cell_below Z1.out hC; have z1 := cell_below Z2.out hC; have z2 := cell_below Z3.out hC; go_simp; rfl)))
      refine wpQuiet_nil ?_
      intro wq hq
      have Tn := Lib.hid (below_next T.out hq)
      have TAn := Lib.hid (BoxV.below TA.out hq)
      have TBn := Lib.hid (BoxV.below TB.out hq)
      clear hq
      clear T TA TB
      have T := Tn
      have TA := TAn
      have TB := TBn
      clear Tn TAn TBn
      obtain ⟨wn, hwq⟩ : ∃ w0, w0 = wq := ⟨_, rfl⟩
      subst hwq
      have c0 := (TA.out.2 0 _ rfl).1
      have c1 := (TA.out.2 1 _ rfl).1
      have c2 := (TA.out.2 2 _ rfl).1
      have c3 := (TA.out.2 3 _ rfl).1
      have c4 := (TA.out.2 4 _ rfl).1
      have d0 := (TB.out.2 0 _ rfl).1
      have d1 := (TB.out.2 1 _ rfl).1
      have d2 := (TB.out.2 2 _ rfl).1
      have d3 := (TB.out.2 3 _ rfl).1
      have d4 := (TB.out.2 4 _ rfl).1
      go_wp2_with fail
      go_ret
      exact Mk.b E.out T.out
    subst h1
    by_cases h2 : s = s'
    case neg =>
      have E := Lib.hid (HF.out (fun h => h2 (by simp only [Ri.mk.injEq] at h; exact h.2.2)))
      have g2 : (s == s') = false := beq_false_of_ne h2
      have g3 : ¬ s = s' := h2
      clear h2
      refine wp_region_quiet (C := fun w' => Below (World.heap (wn)).size (wn) w') (by kernel_rfl) (by kernel_rfl) (by first | exact ⟨rfl, rfl, rfl, Nat.le_refl _, fun _ _ => rfl⟩ | exact Below.dw (by repeat (first | exact Below.refl _ _ | refine Below.al ?_ _ | refine Below.dr ?_ _ | refine Below.dw ?_ | refine Below.st ?_ (by first | exact Nat.le_refl _ | exact Nat.le_add_right _ _ | (simp; omega)) _ | (refine below_next ?_ (by assumption))))) ?_
      simp only []
      repeat (go_big_quiet_step (first | (intro _; with_reducible exact rfl) | (intro hC; have TA9 := BoxV.below TA.out hC; have c0 := (TA9.2 0 _ rfl).1; have c1 := (TA9.2 1 _ rfl).1; have c2 := (TA9.2 2 _ rfl).1; have c3 := (TA9.2 3 _ rfl).1; have c4 := (TA9.2 4 _ rfl).1; clear TA9; have TB9 := BoxV.below TB.out hC; have d0 := (TB9.2 0 _ rfl).1; have d1 := (TB9.2 1 _ rfl).1; have d2 := (TB9.2 2 _ rfl).1; have d3 := (TB9.2 3 _ rfl).1; have d4 := (TB9.2 4 _ rfl).1; clear TB9; have y0 := cell_below Y1.out hC; have y1 := cell_below Y2.out hC; have y2 := cell_below Y3.out hC; have z0 := cell_below Z1.out hC; have z1 := cell_below Z2.out hC; have z2 := cell_below Z3.out hC; go_simp; rfl)))
      refine wpQuiet_nil ?_
      intro wq hq
      have Tn := Lib.hid (below_next T.out hq)
      have TAn := Lib.hid (BoxV.below TA.out hq)
      have TBn := Lib.hid (BoxV.below TB.out hq)
      clear hq
      clear T TA TB
      have T := Tn
      have TA := TAn
      have TB := TBn
      clear Tn TAn TBn
      obtain ⟨wn, hwq⟩ : ∃ w0, w0 = wq := ⟨_, rfl⟩
      subst hwq
      have c0 := (TA.out.2 0 _ rfl).1
      have c1 := (TA.out.2 1 _ rfl).1
      have c2 := (TA.out.2 2 _ rfl).1
      have c3 := (TA.out.2 3 _ rfl).1
      have c4 := (TA.out.2 4 _ rfl).1
      have d0 := (TB.out.2 0 _ rfl).1
      have d1 := (TB.out.2 1 _ rfl).1
      have d2 := (TB.out.2 2 _ rfl).1
      have d3 := (TB.out.2 3 _ rfl).1
      have d4 := (TB.out.2 4 _ rfl).1
      go_wp2_with fail
      go_ret
      exact Mk.b E.out T.out
    subst h2
    refine wp_region_quiet (C := fun w' => Below (World.heap (wn)).size (wn) w') (by kernel_rfl) (by kernel_rfl) (by first | exact ⟨rfl, rfl, rfl, Nat.le_refl _, fun _ _ => rfl⟩ | exact Below.dw (by repeat (first | exact Below.refl _ _ | refine Below.al ?_ _ | refine Below.dr ?_ _ | refine Below.dw ?_ | refine Below.st ?_ (by first | exact Nat.le_refl _ | exact Nat.le_add_right _ _ | (simp; omega)) _ | (refine below_next ?_ (by assumption))))) ?_
    simp only []
    repeat (go_big_quiet_step (first | (intro _; with_reducible exact rfl) | (intro hC; have TA9 := BoxV.below TA.out hC; have c0 := (TA9.2 0 _ rfl).1; have c1 := (TA9.2 1 _ rfl).1; have c2 := (TA9.2 2 _ rfl).1; have c3 := (TA9.2 3 _ rfl).1; have c4 := (TA9.2 4 _ rfl).1; clear TA9; have TB9 := BoxV.below TB.out hC; have d0 := (TB9.2 0 _ rfl).1; have d1 := (TB9.2 1 _ rfl).1; have d2 := (TB9.2 2 _ rfl).1; have d3 := (TB9.2 3 _ rfl).1; have d4 := (TB9.2 4 _ rfl).1; clear TB9; have y0 := cell_below Y1.out hC; have y1 := cell_below Y2.out hC; have y2 := cell_below Y3.out hC; have z0 := cell_below Z1.out hC; have z1 := cell_below Z2.out hC; have z2 := cell_below Z3.out hC; go_simp; rfl)))
    refine wpQuiet_nil ?_
    intro wq hq
    have Tn := Lib.hid (below_next T.out hq)
    have TAn := Lib.hid (BoxV.below TA.out hq)
    have TBn := Lib.hid (BoxV.below TB.out hq)
    clear hq
    clear T TA TB
    have T := Tn
    have TA := TAn
    have TB := TBn
    clear Tn TAn TBn
    obtain ⟨wn, hwq⟩ : ∃ w0, w0 = wq := ⟨_, rfl⟩
    subst hwq
    have E := Lib.hid (HN.out rfl)
    clear Y1 Y2 Y3 Z1 Z2 Z3
    go_wp2_with fail
    go_roundw
    case rel => exact ⟨i + 1, by omega, by go_num, E.out, T.out, TA.out, TB.out⟩
    case measure => first | (simp [intOf]; done) | (simp [intOf]; omega) | omega
end Go.Proofs.Ytfhhgddajmihjaa
