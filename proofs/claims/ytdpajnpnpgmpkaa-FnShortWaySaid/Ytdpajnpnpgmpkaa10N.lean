/- The law of ShortWay: the walk. -/
import Derived.Test.Ytdpajnpnpgmpkaa10L
namespace Go.Proofs.Ytdpajnpnpgmpkaa
open Go.RowKit
set_option linter.unusedVariables false

theorem byt_below {w w' : World} {a : Option Addr} {n : Nat} (h : Byt w a n) (hb : Below w.heap.size w w') : Byt w' a n := by
  rcases h with h | ⟨b, off, e, y, hy, hc⟩
  · exact .inl h
  · exact .inr ⟨b, off, e, y, hy, fun i hi => cell_below (hc i hi) hb⟩
/-- Another order, with the floors that it lacks behind it. -/
noncomputable def ext (zs ys : List Int) : List Int := zs ++ ys.filter (fun v => !hmB zs v)
theorem ext_in {zs ys : List Int} {y : Int} (h : y ∈ ys) : y ∈ ext zs ys := by
  unfold ext
  rw [List.mem_append]
  by_cases g : y ∈ zs
  · exact .inl g
  · exact .inr (List.mem_filter.2 ⟨h, by rw [hmB_f g]; rfl⟩)
theorem ext_t {zs l : List Int} {v : Int} (h : hmB zs v = true) : ext zs (l ++ [v]) = ext zs l := by simp [ext, h]
theorem ext_f {zs l : List Int} {v : Int} (h : hmB zs v = false) : ext zs (l ++ [v]) = ext zs l ++ [v] := by simp [ext, h]
theorem ext_len (zs l : List Int) : (ext zs l).length ≤ zs.length + l.length := by unfold ext; rw [List.length_append]; have := List.length_filter_le (fun v => !hmB zs v) l; omega
theorem swv_tail {xs ys : List Int} {x : Int} (h : VO xs ys) (hx : okF xs x) : -1 ≤ swv xs x (ys.drop 1) ∧ swv xs x (ys.drop 1) ≤ swv xs x ys := by
  have h1 := vo_tail h
  refine ⟨?_, ?_⟩
  · rw [(swv_ok h1 hx).2]; have := wsum_ge xs (stv xs x (ys.drop 1)) x; omega
  · rw [(swv_ok h1 hx).1, (swv_ok h hx).2]
    refine sw_least h1 hx fun y hy => ?_
    by_cases hne : ys = []
    · rw [hne] at hy; cases hy
    · rw [stv_t ⟨h, hx, hne⟩]; exact tor_mem.2 (List.mem_of_mem_drop hy)
theorem swv_cases (xs ys : List Int) (x : Int) : (swv xs x ys = -1) ∨ (0 ≤ swv xs x ys ∧ VO xs ys ∧ okF xs x) := by
  by_cases h : VO xs ys ∧ okF xs x
  · exact .inr ⟨by rw [(swv_ok h.1 h.2).2]; exact wsum_ge _ _ _, h⟩
  · exact .inl (swv_bad h)
set_option maxHeartbeats 4000000 in
theorem ShortWay_w (a : Option Addr) (n cap : Nat) (a' : Option Addr) (n' cap' : Nat) (w : World) (hb : Byt w a n) (hn : n ≤ cap) (hcap : cap ≤ maxLen) (hb' : Byt w a' n') (hn' : n' ≤ cap') (hcap' : cap' ≤ maxLen) :
    Calls Try.prog 6 #[.slice a n cap, .slice a' n' cap'] w (LawOk w) := by
  obtain ⟨i0, hi, hz0, hz1, hz2⟩ := info_parts infoInt
  have hcp := hcap
  have hcp' := hcap'
  unfold maxLen at hcp hcp'
  by_cases bign : 1048576 < n
  · go_enter Try.func6, Try.ntmps6
    go_wp2_with fail
    go_ret
    exact LawOk.mk (Below.refl _ _)
  by_cases bign' : 1048576 < n'
  · go_enter Try.func6, Try.ntmps6
    go_wp2_with fail
    go_ret
    exact LawOk.mk (Below.refl _ _)
  go_enter Try.func6, Try.ntmps6
  go_wp2_with fail
  refine (DrawShortWay_c a n cap _ hb hn hcap).mono ?_
  rintro e wn ⟨b, off, cp, xs, x, b2, c2, ys, rfl, hx, ⟨hx0, hx1⟩, hy, hyc, hym, hI, hI2, hB⟩
  have T : Hid _ := hB
  have X : Hid _ := hI
  have Y : Hid _ := hI2
  clear hB hb hI hI2
  have hym' := hym
  unfold maxLen at hym'
  obtain ⟨N, hN⟩ : ∃ N, ys.length = N := ⟨_, rfl⟩
  rw [hN] at hy hyc
  rw [hN]
  have HN := Lib.hid hN
  clear hN
  have hB' := Lib.hid hb'
  clear hb'
  have hcs := swv_cases xs ys x
  have hst : VO xs ys → okF xs x → -1 ≤ swv xs x (ys.drop 1) ∧ swv xs x (ys.drop 1) ≤ swv xs x ys := fun h1 h2 => swv_tail h1 h2
  have hle : VO xs ys → okF xs x → ∀ l, (∀ y, y ∈ ys → y ∈ l) → swv xs x ys ≤ wsum xs x l := fun h1 h2 l hl => by
    rw [(swv_ok h1 h2).1]; exact sw_least h1 h2 hl
  obtain ⟨W, hW⟩ : ∃ W, swv xs x ys = W := ⟨_, rfl⟩
  have KI := fun w' (h1 : Ints w' b off xs) (h2 : Sl w' (some ⟨b2, 0, none⟩) ys) => iShortWay_c b off cp xs x (some ⟨b2, 0, none⟩) N c2 ys w' h1 h2 HN.out (by omega) (by omega) (by omega) (by omega)
  have KS := fun w' (h1 : Ints w' b off xs) (h2 : Sl w' (some ⟨b2, 0, none⟩) ys) => sShortWay_c b off cp xs x (some ⟨b2, 0, none⟩) N c2 ys w' h1 h2 HN.out (by omega) (by omega)
  rw [hW] at KI KS hcs hst hle
  have HKI := Lib.hid KI
  have HKS := Lib.hid KS
  have HLE := Lib.hid hle
  clear KI KS hW hle
  have hne : (W != W) = false := by simp
  go_wp2_with fail
  refine Calls.mono (HKI.out _ X.out (.inr ⟨b2, 0, rfl, Y.out⟩)) ?_
  intro e wn hh
  obtain ⟨he, hb⟩ := (by first | exact hh | exact Ro.mk hh | exact St.mk hh | exact LawOk.mk' hh : Mk _ _ e wn)
  subst he
  have Tn : Hid (Below w.heap.size w wn) := below_next T.out hb
  have Xn : Hid _ := Ints.below X.out hb
  have Yn : Hid _ := Ints.below Y.out hb
  clear hb hh
  clear T X Y
  have T := Tn
  have X := Xn
  have Y := Yn
  clear Tn Xn Yn
  go_wp2_with fail
  refine Calls.mono (HKS.out _ X.out (.inr ⟨b2, 0, rfl, Y.out⟩)) ?_
  intro e wn hh
  obtain ⟨he, hb⟩ := (by first | exact hh | exact Ro.mk hh | exact St.mk hh | exact LawOk.mk' hh : Mk _ _ e wn)
  subst he
  have Tn : Hid (Below w.heap.size w wn) := below_next T.out hb
  have Xn : Hid _ := Ints.below X.out hb
  have Yn : Hid _ := Ints.below Y.out hb
  clear hb hh
  clear T X Y
  have T := Tn
  have X := Xn
  have Y := Yn
  clear Tn Xn Yn
  clear HKI HKS hne
  rcases hcs with rfl | ⟨h0, hv, hx⟩
  · clear hst
    go_wp2_with fail
    refine Calls.mono (alive_c _) ?_
    intro e wn hh
    obtain ⟨he, hb⟩ := (by first | exact hh | exact Ro.mk hh | exact St.mk hh | exact LawOk.mk' hh : Mk _ _ e wn)
    subst he
    have Tn : Hid (Below w.heap.size w wn) := below_next T.out hb
    have Xn : Hid _ := Ints.below X.out hb
    have Yn : Hid _ := Ints.below Y.out hb
    clear hb hh
    clear T X Y
    have T := Tn
    have X := Xn
    have Y := Yn
    clear Tn Xn Yn
    go_wp2_with fail
    go_ret
    first | exact LawOk.mk T.out | exact LawOk.mk (Below.dr T.out _)
  have hge : ¬ W < 0 := by omega
  obtain ⟨hs1, hs2⟩ := hst hv hx
  have HV := Lib.hid hv
  have HXO := Lib.hid hx
  clear hst hv hx
  go_wp2_with fail
  refine (DrawTourWay_c a' n' cap' _ (byt_below hB'.out T.out) hn' hcap').mono ?_
  rintro e wq ⟨b4, off4, cp4, xs4, x4, b3, c3, zs, rfl, -, -, hz, hzc, hzm, -, hI3, hb3⟩
  have Z := Lib.hid hI3
  have hzm' := hzm
  unfold maxLen at hzm'
  clear hI3
  have Tn := Lib.hid (below_next T.out hb3)
  have Xn := Lib.hid (Ints.below X.out hb3)
  have Yn := Lib.hid (Ints.below Y.out hb3)
  clear hb3
  clear T X Y
  have T := Tn
  have X := Xn
  have Y := Yn
  clear Tn Xn Yn
  obtain ⟨wn, hwq⟩ : ∃ w0, w0 = wq := ⟨_, rfl⟩
  subst hwq
  have O0 : Hid _ := Own.none (w := wn)
  have X0 : Hid (Ints (wn.alloc (.cells #[] 3)) b3 0 zs) := Ints.al Z.out _
  have hWB := T.out.size
  have hltX := Ints.lt X.out
  have hltY := Ints.lt Y.out
  have hltZ := Ints.lt Z.out
  go_wp2_with ((at_builtin; refine wpList_append_wanted rfl _ _ 23 rfl (World.heap wn).size 3 i0 (.int .i64 0) 1 8 Try.underlying23 hi hz0 hz1 hz2 rfl (by decide) _ _ _ rfl O0.out ⟨b3, 0, none⟩ zs.length c3 (zs.map (Value.int .i64)) rfl (by simp) ?c1 ?c2 ?c3 ?c4 ?c5 ?_))
  case c1 => exact Ints.cells X0.out
  case c2 => intro u hu; simp at hu; obtain ⟨a, _, rfl⟩ := hu; rfl
  case c3 => first | (unfold maxLen; simp; omega) | (simp; omega)
  case c4 => simp; omega
  case c5 => simp
  intro v1 wp hown hgrow hnil hat
  obtain ⟨B, hB⟩ : ∃ B, (World.heap wn).size = B := ⟨_, rfl⟩
  have lt5 : ∀ i, (Value.slice (some ⟨(World.heap wn).size, 0, none⟩) 0 0).ownBlock = some i → B ≤ i := fun i e => by rw [← hB]; exact Own.lt O0.out i e
  rw [hB] at hown hWB hltX hltY hltZ
  have HB : Hid _ := hB
  have O : Hid (Own wp B v1 zs) := (by first | exact hown | exact Own.app0 hown)
  have NO : Hid (v1 ≠ .slice none 0 0) := (by first | exact hnil | exact fun e => absurd (hnil.1 e).2 (by simp) | exact fun e => absurd (hnil.1 e).1 (by simp))
  have Tn : Hid (Below w.heap.size w wp) := Below.own (Below.al T.out _) hgrow (fun i e => by have := lt5 i e; omega)
  have Xn : Hid _ := Ints.gr (Ints.al X.out _) hgrow (fun i e h0 => by have := lt5 i e; omega)
  have Yn : Hid _ := Ints.gr (Ints.al Y.out _) hgrow (fun i e h0 => by have := lt5 i e; omega)
  have Zn : Hid _ := Ints.gr (Ints.al Z.out _) hgrow (fun i e h0 => by have := lt5 i e; omega)
  clear hown hgrow lt5 hnil hat hB O0 X0
  clear T X Y Z
  have T := Tn
  have X := Xn
  have Y := Yn
  have Z := Zn
  clear Tn Xn Yn Zn
  obtain ⟨wn, hwq⟩ : ∃ w0, w0 = wp := ⟨_, rfl⟩
  subst hwq
  go_wp2_with fail
  go_loopw [12, 13] (fun vv vk wr => ∃ (k : Nat) (pv : Value) (AL : List Int), vv = pv ∧ k ≤ N ∧ vk = .int .i64 k ∧ AL = ext zs (ys.take k) ∧ pv ≠ .slice none 0 0 ∧ Below w.heap.size w wr ∧ Ints wr b off xs ∧ Ints wr b2 0 ys ∧ Ints wr b3 0 zs ∧ Own wr B pv AL) (fun vv vk _ => N - (intOf vk).toNat)
  case atStart => exact ⟨0, _, zs, rfl, by omega, rfl, (by simp [ext]), NO.out, T.out, X.out, Y.out, Z.out, O.out⟩
  case' round =>
    clear T X Y Z O
    obtain ⟨k, pv, AL, rfl, hk, rfl, hE, hno, h9T, h9X, h9Y, h9Z, h9O⟩ := hrel
    obtain ⟨wn, hwq⟩ : ∃ w0 : World, w0 = wr := ⟨_, rfl⟩
    rw [← hwq] at h9T h9X h9Y h9Z h9O ⊢
    clear hwq
    have T := Lib.hid h9T
    have X := Lib.hid h9X
    have Y := Lib.hid h9Y
    have Z := Lib.hid h9Z
    have O := Lib.hid h9O
    clear h9T h9X h9Y h9Z h9O
    have HE := Lib.hid hE
    have hal : AL.length ≤ 13 + k := by rw [hE]; have := ext_len zs (ys.take k); rw [List.length_take] at this; omega
    clear NO hE
    have NO := Lib.hid hno
    clear hno
    by_cases hlt : k < N
    case pos =>
      have hlen : k < ys.length := by rw [HN.out]; exact hlt
      obtain ⟨v, hv⟩ : ∃ v, nth ys k = v := ⟨_, rfl⟩
      have htk : ys.take (k + 1) = ys.take k ++ [v] := by rw [List.take_add_one, List.getElem?_eq_getElem hlen, ← hv, nth_eq hlen]; rfl
      have y1 := Y.out k hlen
      rw [hv, Nat.zero_add] at y1
      have hki : (k : Int) < N := by omega
      have HVK := Lib.hid hv
      have HTK := Lib.hid htk
      obtain ⟨q, hq⟩ : ∃ q, hmB zs v = q := ⟨_, rfl⟩
      have K1 := fun w' (h : Ints w' b3 0 zs) => hasInt_m (some ⟨b3, 0, none⟩) zs.length c3 zs v w' (.inr ⟨b3, 0, rfl, h⟩) rfl (by omega)
      rw [hq] at K1
      have HK1 := Lib.hid K1
      have HQ := Lib.hid hq
      clear hv htk hlen hq K1
      go_wp2_with fail
      refine Calls.mono (HK1.out _ Z.out) ?_
      intro e wn hh
      obtain ⟨he, hb⟩ := (by first | exact hh | exact Ro.mk hh | exact St.mk hh | exact LawOk.mk' hh : Mk _ _ e wn)
      subst he
      have Tn : Hid (Below w.heap.size w wn) := below_next T.out hb
      have Xn : Hid _ := Ints.below X.out hb
      have Yn : Hid _ := Ints.below Y.out hb
      have Zn : Hid _ := Ints.below Z.out hb
      have On : Hid _ := Own.below O.out hb
      clear hb hh
      clear T X Y Z O
      have T := Tn
      have X := Xn
      have Y := Yn
      have Z := Zn
      have O := On
      clear Tn Xn Yn Zn On
      cases q
      case true =>
        have E2 := Lib.hid (show AL = ext zs (ys.take (k + 1)) from by rw [HTK.out, ext_t HQ.out]; exact HE.out)
        go_wp2_with fail
        go_roundw
        case rel => exact ⟨k + 1, _, AL, rfl, by omega, by go_num, E2.out, NO.out, T.out, X.out, Y.out, Z.out, O.out⟩
        case measure => first | (simp [intOf]; done) | (simp [intOf]; omega) | omega
      case false =>
        have E2 := Lib.hid (show AL ++ [v] = ext zs (ys.take (k + 1)) from by rw [HTK.out, ext_f HQ.out, HE.out])
        clear y1
        have y1 : wn.cell? ⟨b2, k, none⟩ = some (.int .i64 v) := by have h9 := Y.out k (by rw [HN.out]; exact hlt); rw [HVK.out, Nat.zero_add] at h9; exact h9
        go_wp2_with ((at_builtin; refine wpList_append_wanted rfl _ _ 23 rfl B 3 i0 (.int .i64 0) 1 8 Try.underlying23 hi hz0 hz1 hz2 rfl (by decide) _ _ _ rfl (Own.alloc O.out _) _ 1 1 [.int .i64 (v)] rfl rfl (cell_one_new _ _ _) (by intro u hu; simp at hu; subst hu; rfl) (by unfold maxLen; omega) (by omega) (Own.base (Own.alloc O.out _) NO.out) ?_))
        intro v2 wn hown hgrow hnil hat
        have lt5 := Own.lt O.out
        have On : Hid (Own wn B v2 (AL ++ [v])) := Own.snoc hown
        have NOn : Hid (v2 ≠ .slice none 0 0) := (by first | exact hnil | exact fun e => absurd (hnil.1 e).2 (by simp) | exact fun e => absurd (hnil.1 e).1 (by simp))
        have Tn : Hid (Below w.heap.size w _) := Below.own (Below.al T.out _) hgrow (fun i e => by have := lt5 i e; omega)
        have Xn : Hid _ := Ints.gr (Ints.al X.out _) hgrow (fun i e h0 => by have := lt5 i e; omega)
        have Yn : Hid _ := Ints.gr (Ints.al Y.out _) hgrow (fun i e h0 => by have := lt5 i e; omega)
        have Zn : Hid _ := Ints.gr (Ints.al Z.out _) hgrow (fun i e h0 => by have := lt5 i e; omega)
        clear hown hgrow lt5 hnil hat
        clear O NO T X Y Z
        have O := On
        have NO := NOn
        have T := Tn
        have X := Xn
        have Y := Yn
        have Z := Zn
        clear On NOn Tn Xn Yn Zn
        go_wp2_with fail
        go_roundw
        case rel => exact ⟨k + 1, v2, AL ++ [v], rfl, by omega, by go_num, E2.out, NO.out, T.out, X.out, Y.out, Z.out, O.out⟩
        case measure => first | (simp [intOf]; done) | (simp [intOf]; omega) | omega
    obtain rfl : k = N := by omega
    have hAL : AL = ext zs ys := by rw [HE.out, List.take_of_length_le (by rw [HN.out]; exact Nat.le_refl _)]
    obtain ⟨bO, cO, rfl, -, -, hIO, -, -⟩ := Own.some O.out NO.out
    have IO := Lib.hid hIO
    clear hIO
    have hway : tw xs x AL < 0 ∨ (¬ tw xs x AL < 0 ∧ tw xs x AL ≥ W) := by
      rcases tw_cases xs x AL with ⟨e, -⟩ | ⟨e1, e2, -⟩
      · left; omega
      · right
        refine ⟨by omega, ?_⟩
        rw [e2]
        exact HLE.out HV.out HXO.out AL (fun y hy => by rw [hAL]; exact ext_in hy)
    obtain ⟨D, hD⟩ : ∃ D, tw xs x AL = D := ⟨_, rfl⟩
    have K1 := fun w' (h1 : Ints w' b off xs) (h2 : Ints w' bO 0 AL) => iTourWay_c b off cp xs x (some ⟨bO, 0, none⟩) AL.length cO AL w' h1 (.inr ⟨bO, 0, rfl, h2⟩) rfl (by omega) (by omega)
    rw [hD] at hway K1
    have HK1 := Lib.hid K1
    clear K1 hD hAL HE
    clear O
    go_wp2_with fail
    refine Calls.mono (HK1.out _ X.out IO.out) ?_
    intro e wn hh
    obtain ⟨he, hb⟩ := (by first | exact hh | exact Ro.mk hh | exact St.mk hh | exact LawOk.mk' hh : Mk _ _ e wn)
    subst he
    have Tn : Hid (Below w.heap.size w wn) := below_next T.out hb
    have Xn : Hid _ := Ints.below X.out hb
    have Yn : Hid _ := Ints.below Y.out hb
    have Zn : Hid _ := Ints.below Z.out hb
    have IOn : Hid _ := Ints.below IO.out hb
    clear hb hh
    clear T X Y Z IO
    have T := Tn
    have X := Xn
    have Y := Yn
    have Z := Zn
    have IO := IOn
    clear Tn Xn Yn Zn IOn
    clear IO Z
    have hD3 : (D < 0 ∨ ¬ D < 0) := by omega
    by_cases hN0 : k = 0
    case pos =>
      subst hN0
      rcases hway with h1 | ⟨h1, h2⟩
      · skip
        go_wp2_with fail
        go_ret
        first | exact LawOk.mk T.out | exact LawOk.mk (Below.dr T.out _)
      · skip
        go_wp2_with fail
        go_ret
        first | exact LawOk.mk T.out | exact LawOk.mk (Below.dr T.out _)
    have hq3 : ((k : Int) == 0) = false := beq_false_of_ne (by omega)
    have h1i : (1 : Int) ≤ k := by omega
    have hkk : 1 ≤ k := by omega
    have hy1 : 1 ≤ c2 := by omega
    obtain ⟨V, hV⟩ : ∃ V, swv xs x (ys.drop 1) = V := ⟨_, rfl⟩
    obtain ⟨A, hA, hIA⟩ := Ints.cut Y.out (h := 1) (by rw [HN.out]; exact hyc) (by rw [HN.out]; exact hkk)
    have K2 := fun w' (h1 : Ints w' b off xs) (A c9 : Nat) (h2 : Ints w' b2 A (ys.drop 1)) (h9 : k - 1 ≤ c9) (h8 : c9 ≤ 9223372036854775807) => iShortWay_c b off cp xs x (some ⟨b2, A, none⟩) (k - 1) c9 (ys.drop 1) w' h1 (.inr ⟨b2, A, rfl, h2⟩) (by rw [List.length_drop, HN.out]) (by omega) (by omega) h9 h8
    rw [hV] at K2 hs1 hs2
    have HK2 := Lib.hid K2
    have IA := Lib.hid hIA
    clear K2 hV hIA
    rcases hA with ⟨e1, rfl⟩ | ⟨e1, rfl⟩
    · subst e1
      obtain rfl : k = 1 := by omega
      rcases hway with h1 | ⟨h1, h2⟩
      · skip
        go_wp2_with fail
        refine Calls.mono (HK2.out _ X.out _ _ IA.out (by omega) (by omega)) ?_
        intro e wn hh
        obtain ⟨he, hb⟩ := (by first | exact hh | exact Ro.mk hh | exact St.mk hh | exact LawOk.mk' hh : Mk _ _ e wn)
        subst he
        have Tn : Hid (Below w.heap.size w wn) := below_next T.out hb
        have Xn : Hid _ := Ints.below X.out hb
        have Yn : Hid _ := Ints.below Y.out hb
        clear hb hh
        clear T X Y
        have T := Tn
        have X := Xn
        have Y := Yn
        clear Tn Xn Yn
        go_wp2_with fail
        go_ret
        first | exact LawOk.mk T.out | exact LawOk.mk (Below.dr T.out _)
      · skip
        go_wp2_with fail
        refine Calls.mono (HK2.out _ X.out _ _ IA.out (by omega) (by omega)) ?_
        intro e wn hh
        obtain ⟨he, hb⟩ := (by first | exact hh | exact Ro.mk hh | exact St.mk hh | exact LawOk.mk' hh : Mk _ _ e wn)
        subst he
        have Tn : Hid (Below w.heap.size w wn) := below_next T.out hb
        have Xn : Hid _ := Ints.below X.out hb
        have Yn : Hid _ := Ints.below Y.out hb
        clear hb hh
        clear T X Y
        have T := Tn
        have X := Xn
        have Y := Yn
        clear Tn Xn Yn
        go_wp2_with fail
        go_ret
        first | exact LawOk.mk T.out | exact LawOk.mk (Below.dr T.out _)
    · have e2 : ¬ c2 = 1 := e1
      rcases hway with h1 | ⟨h1, h2⟩
      · skip
        go_wp2_with fail
        refine Calls.mono (HK2.out _ X.out _ _ IA.out (by omega) (by omega)) ?_
        intro e wn hh
        obtain ⟨he, hb⟩ := (by first | exact hh | exact Ro.mk hh | exact St.mk hh | exact LawOk.mk' hh : Mk _ _ e wn)
        subst he
        have Tn : Hid (Below w.heap.size w wn) := below_next T.out hb
        have Xn : Hid _ := Ints.below X.out hb
        have Yn : Hid _ := Ints.below Y.out hb
        clear hb hh
        clear T X Y
        have T := Tn
        have X := Xn
        have Y := Yn
        clear Tn Xn Yn
        go_wp2_with fail
        go_ret
        first | exact LawOk.mk T.out | exact LawOk.mk (Below.dr T.out _)
      · skip
        go_wp2_with fail
        refine Calls.mono (HK2.out _ X.out _ _ IA.out (by omega) (by omega)) ?_
        intro e wn hh
        obtain ⟨he, hb⟩ := (by first | exact hh | exact Ro.mk hh | exact St.mk hh | exact LawOk.mk' hh : Mk _ _ e wn)
        subst he
        have Tn : Hid (Below w.heap.size w wn) := below_next T.out hb
        have Xn : Hid _ := Ints.below X.out hb
        have Yn : Hid _ := Ints.below Y.out hb
        clear hb hh
        clear T X Y
        have T := Tn
        have X := Xn
        have Y := Yn
        clear Tn Xn Yn
        go_wp2_with fail
        go_ret
        first | exact LawOk.mk T.out | exact LawOk.mk (Below.dr T.out _)
end Go.Proofs.Ytdpajnpnpgmpkaa
