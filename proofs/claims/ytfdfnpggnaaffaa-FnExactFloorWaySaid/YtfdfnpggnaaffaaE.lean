/- The exact laws of chapter 1: the walks. -/
import Derived.Test.YtfdfnpggnaaffaaD
import Derived.Test.YtfdfnpggnaaffaaH
namespace Go.Proofs.Ytfdfnpggnaaffaa
open Go.RowKit
set_option linter.unusedVariables false

set_option maxHeartbeats 400000 in
theorem xFloorsValid_w (a : Option Addr) (capa : Nat) (xsa : List Int) (w : World) (hsa : Sl w a xsa) (hma : xsa.length ≤ maxLen) :
    Calls Try.prog 8 #[.slice a xsa.length capa] w (LawOk w) := by
  unfold maxLen at hma
  by_cases hbiga : 1048576 < xsa.length
  · go_enter Try.func8, Try.ntmps8
    go_wp2
    go_ret
    exact LawOk.mk (Below.refl _ _)
  have haa : xsa.length ≤ 1048576 := by omega
  have hba : xsa.length ≤ maxLen := by unfold maxLen; omega
  go_enter Try.func8, Try.ntmps8
  have T0 : Below w.heap.size w w := Below.refl _ _
  go_wp2_with fail
  refine (toIntS_c a capa xsa _ hsa haa).mono ?_
  rintro e1 w1 ⟨g1, hg1, rfl, i1, b1⟩
  have q1a := hsa.below b1
  have T1 := T0.trans (b1.mono T0.size)
  go_wp2_with fail
  refine (sFloorsValid_c g1 0 _ xsa _ i1 hba).mono ?_
  rintro e2 w2 ⟨rfl, n2, rfl⟩
  have q2a := q1a.below (below_drewN' n2)
  have j2Sa := i1.below (below_drewN' n2)
  have T2 := T1.trans ((below_drewN' n2).mono T1.size)
  go_wp2_with fail
  refine (toIntS_c a capa xsa _ q2a haa).mono ?_
  rintro e3 w3 ⟨g3, hg3, rfl, i3, b3⟩
  have q3a := q2a.below b3
  have j3Sa := j2Sa.below b3
  have T3 := T2.trans (b3.mono T2.size)
  go_wp2_with fail
  refine (iFloorsValid_c g3 0 _ xsa _ i3 hba).mono ?_
  rintro e4 w4 ⟨rfl, n4, rfl⟩
  have q4a := q3a.below (below_drewN' n4)
  have j4Sa := j3Sa.below (below_drewN' n4)
  have j4Ia := i3.below (below_drewN' n4)
  have T4 := T3.trans ((below_drewN' n4).mono T3.size)
  go_wp2_with fail
  refine (toIntS_c a capa xsa _ q4a haa).mono ?_
  rintro e5 w5 ⟨g5, hg5, rfl, i5, b5⟩
  have q5a := q4a.below b5
  have j5Sa := j4Sa.below b5
  have j5Ia := j4Ia.below b5
  have T5 := T4.trans (b5.mono T4.size)
  go_wp2_with fail
  refine (eqIntS_c g3 0 _ g5 0 _ xsa _ j5Ia i5 haa).mono ?_
  rintro e6 w6 ⟨rfl, n6, rfl⟩
  have q6a := q5a.below (below_drewN' n6)
  have j6Sa := j5Sa.below (below_drewN' n6)
  have j6Ia := j5Ia.below (below_drewN' n6)
  have j6Ca := i5.below (below_drewN' n6)
  have T6 := T5.trans ((below_drewN' n6).mono T5.size)
  go_wp2_with fail
  go_ret
  exact LawOk.mk T6

set_option maxHeartbeats 400000 in
theorem xFloorAt_w (a : Option Addr) (capa : Nat) (xsa : List Int) (x : Int) (w : World) (hsa : Sl w a xsa) (hma : xsa.length ≤ maxLen) (hix : -9223372036854775808 ≤ x ∧ x ≤ 9223372036854775807) :
    Calls Try.prog 9 #[.slice a xsa.length capa, .int .i64 x] w (LawOk w) := by
  unfold maxLen at hma
  by_cases hbiga : 1048576 < xsa.length
  · go_enter Try.func9, Try.ntmps9
    go_wp2
    go_ret
    exact LawOk.mk (Below.refl _ _)
  have haa : xsa.length ≤ 1048576 := by omega
  have hba : xsa.length ≤ maxLen := by unfold maxLen; omega
  go_enter Try.func9, Try.ntmps9
  have T0 : Below w.heap.size w w := Below.refl _ _
  go_wp2_with fail
  refine (toIntS_c a capa xsa _ hsa haa).mono ?_
  rintro e1 w1 ⟨g1, hg1, rfl, i1, b1⟩
  have q1a := hsa.below b1
  have T1 := T0.trans (b1.mono T0.size)
  go_wp2_with fail
  refine (sFloorAt_c g1 0 _ xsa x _ i1 hba).mono ?_
  rintro e2 w2 ⟨rfl, n2, rfl⟩
  have q2a := q1a.below (below_drewN' n2)
  have j2Sa := i1.below (below_drewN' n2)
  have T2 := T1.trans ((below_drewN' n2).mono T1.size)
  go_wp2_with fail
  refine (toIntS_c a capa xsa _ q2a haa).mono ?_
  rintro e3 w3 ⟨g3, hg3, rfl, i3, b3⟩
  have q3a := q2a.below b3
  have j3Sa := j2Sa.below b3
  have T3 := T2.trans (b3.mono T2.size)
  go_wp2_with fail
  refine (iFloorAt_c g3 0 _ xsa x _ i3 hba).mono ?_
  rintro e4 w4 ⟨rfl, n4, rfl⟩
  have q4a := q3a.below (below_drewN' n4)
  have j4Sa := j3Sa.below (below_drewN' n4)
  have j4Ia := i3.below (below_drewN' n4)
  have T4 := T3.trans ((below_drewN' n4).mono T3.size)
  go_wp2_with fail
  refine (toIntS_c a capa xsa _ q4a haa).mono ?_
  rintro e5 w5 ⟨g5, hg5, rfl, i5, b5⟩
  have q5a := q4a.below b5
  have j5Sa := j4Sa.below b5
  have j5Ia := j4Ia.below b5
  have T5 := T4.trans (b5.mono T4.size)
  go_wp2_with fail
  refine (eqIntS_c g3 0 _ g5 0 _ xsa _ j5Ia i5 haa).mono ?_
  rintro e6 w6 ⟨rfl, n6, rfl⟩
  have q6a := q5a.below (below_drewN' n6)
  have j6Sa := j5Sa.below (below_drewN' n6)
  have j6Ia := j5Ia.below (below_drewN' n6)
  have j6Ca := i5.below (below_drewN' n6)
  have T6 := T5.trans ((below_drewN' n6).mono T5.size)
  go_wp2_with fail
  go_ret
  exact LawOk.mk T6

set_option maxHeartbeats 400000 in
theorem xFloorBelow_w (a : Option Addr) (capa : Nat) (xsa : List Int) (x : Int) (w : World) (hsa : Sl w a xsa) (hma : xsa.length ≤ maxLen) (hix : -9223372036854775808 ≤ x ∧ x ≤ 9223372036854775807) :
    Calls Try.prog 10 #[.slice a xsa.length capa, .int .i64 x] w (LawOk w) := by
  unfold maxLen at hma
  by_cases hbiga : 1048576 < xsa.length
  · go_enter Try.func10, Try.ntmps10
    go_wp2
    go_ret
    exact LawOk.mk (Below.refl _ _)
  have haa : xsa.length ≤ 1048576 := by omega
  have hba : xsa.length ≤ maxLen := by unfold maxLen; omega
  go_enter Try.func10, Try.ntmps10
  have T0 : Below w.heap.size w w := Below.refl _ _
  go_wp2_with fail
  refine (toIntS_c a capa xsa _ hsa haa).mono ?_
  rintro e1 w1 ⟨g1, hg1, rfl, i1, b1⟩
  have q1a := hsa.below b1
  have T1 := T0.trans (b1.mono T0.size)
  go_wp2_with fail
  refine (sFloorBelow_c g1 0 _ xsa x _ i1 hba).mono ?_
  rintro e2 w2 ⟨rfl, n2, rfl⟩
  have q2a := q1a.below (below_drewN' n2)
  have j2Sa := i1.below (below_drewN' n2)
  have T2 := T1.trans ((below_drewN' n2).mono T1.size)
  go_wp2_with fail
  refine (toIntS_c a capa xsa _ q2a haa).mono ?_
  rintro e3 w3 ⟨g3, hg3, rfl, i3, b3⟩
  have q3a := q2a.below b3
  have j3Sa := j2Sa.below b3
  have T3 := T2.trans (b3.mono T2.size)
  go_wp2_with fail
  refine (iFloorBelow_c g3 0 _ xsa x _ i3 hba).mono ?_
  rintro e4 w4 ⟨rfl, n4, rfl⟩
  have q4a := q3a.below (below_drewN' n4)
  have j4Sa := j3Sa.below (below_drewN' n4)
  have j4Ia := i3.below (below_drewN' n4)
  have T4 := T3.trans ((below_drewN' n4).mono T3.size)
  go_wp2_with fail
  refine (toIntS_c a capa xsa _ q4a haa).mono ?_
  rintro e5 w5 ⟨g5, hg5, rfl, i5, b5⟩
  have q5a := q4a.below b5
  have j5Sa := j4Sa.below b5
  have j5Ia := j4Ia.below b5
  have T5 := T4.trans (b5.mono T4.size)
  go_wp2_with fail
  refine (eqIntS_c g3 0 _ g5 0 _ xsa _ j5Ia i5 haa).mono ?_
  rintro e6 w6 ⟨rfl, n6, rfl⟩
  have q6a := q5a.below (below_drewN' n6)
  have j6Sa := j5Sa.below (below_drewN' n6)
  have j6Ia := j5Ia.below (below_drewN' n6)
  have j6Ca := i5.below (below_drewN' n6)
  have T6 := T5.trans ((below_drewN' n6).mono T5.size)
  go_wp2_with fail
  go_ret
  exact LawOk.mk T6

set_option maxHeartbeats 400000 in
theorem xFloorNear_w (a : Option Addr) (capa : Nat) (xsa : List Int) (x : Int) (w : World) (hsa : Sl w a xsa) (hma : xsa.length ≤ maxLen) (hix : -9223372036854775808 ≤ x ∧ x ≤ 9223372036854775807) :
    Calls Try.prog 11 #[.slice a xsa.length capa, .int .i64 x] w (LawOk w) := by
  unfold maxLen at hma
  by_cases hbiga : 1048576 < xsa.length
  · go_enter Try.func11, Try.ntmps11
    go_wp2
    go_ret
    exact LawOk.mk (Below.refl _ _)
  have haa : xsa.length ≤ 1048576 := by omega
  have hba : xsa.length ≤ maxLen := by unfold maxLen; omega
  go_enter Try.func11, Try.ntmps11
  have T0 : Below w.heap.size w w := Below.refl _ _
  go_wp2_with fail
  refine (toIntS_c a capa xsa _ hsa haa).mono ?_
  rintro e1 w1 ⟨g1, hg1, rfl, i1, b1⟩
  have q1a := hsa.below b1
  have T1 := T0.trans (b1.mono T0.size)
  go_wp2_with fail
  refine (sFloorNear_c g1 0 _ xsa x _ i1 hba).mono ?_
  rintro e2 w2 ⟨rfl, n2, rfl⟩
  have q2a := q1a.below (below_drewN' n2)
  have j2Sa := i1.below (below_drewN' n2)
  have T2 := T1.trans ((below_drewN' n2).mono T1.size)
  go_wp2_with fail
  refine (toIntS_c a capa xsa _ q2a haa).mono ?_
  rintro e3 w3 ⟨g3, hg3, rfl, i3, b3⟩
  have q3a := q2a.below b3
  have j3Sa := j2Sa.below b3
  have T3 := T2.trans (b3.mono T2.size)
  go_wp2_with fail
  refine (iFloorNear_c g3 0 _ xsa x _ i3 hba).mono ?_
  rintro e4 w4 ⟨rfl, n4, rfl⟩
  have q4a := q3a.below (below_drewN' n4)
  have j4Sa := j3Sa.below (below_drewN' n4)
  have j4Ia := i3.below (below_drewN' n4)
  have T4 := T3.trans ((below_drewN' n4).mono T3.size)
  go_wp2_with fail
  refine (toIntS_c a capa xsa _ q4a haa).mono ?_
  rintro e5 w5 ⟨g5, hg5, rfl, i5, b5⟩
  have q5a := q4a.below b5
  have j5Sa := j4Sa.below b5
  have j5Ia := j4Ia.below b5
  have T5 := T4.trans (b5.mono T4.size)
  go_wp2_with fail
  refine (eqIntS_c g3 0 _ g5 0 _ xsa _ j5Ia i5 haa).mono ?_
  rintro e6 w6 ⟨rfl, n6, rfl⟩
  have q6a := q5a.below (below_drewN' n6)
  have j6Sa := j5Sa.below (below_drewN' n6)
  have j6Ia := j5Ia.below (below_drewN' n6)
  have j6Ca := i5.below (below_drewN' n6)
  have T6 := T5.trans ((below_drewN' n6).mono T5.size)
  go_wp2_with fail
  go_ret
  exact LawOk.mk T6

set_option maxHeartbeats 400000 in
theorem xFloorWay_w (a : Option Addr) (capa : Nat) (xsa : List Int) (x : Int) (y : Int) (w : World) (hsa : Sl w a xsa) (hma : xsa.length ≤ maxLen) (hix : -9223372036854775808 ≤ x ∧ x ≤ 9223372036854775807) (hiy : -9223372036854775808 ≤ y ∧ y ≤ 9223372036854775807) :
    Calls Try.prog 12 #[.slice a xsa.length capa, .int .i64 x, .int .i64 y] w (LawOk w) := by
  unfold maxLen at hma
  by_cases hbiga : 1048576 < xsa.length
  · go_enter Try.func12, Try.ntmps12
    go_wp2
    go_ret
    exact LawOk.mk (Below.refl _ _)
  have haa : xsa.length ≤ 1048576 := by omega
  have hba : xsa.length ≤ maxLen := by unfold maxLen; omega
  go_enter Try.func12, Try.ntmps12
  have T0 : Below w.heap.size w w := Below.refl _ _
  go_wp2_with fail
  refine (toIntS_c a capa xsa _ hsa haa).mono ?_
  rintro e1 w1 ⟨g1, hg1, rfl, i1, b1⟩
  have q1a := hsa.below b1
  have T1 := T0.trans (b1.mono T0.size)
  go_wp2_with fail
  refine (sFloorWay_c g1 0 _ xsa x y _ i1 hba).mono ?_
  rintro e2 w2 ⟨rfl, n2, rfl⟩
  have q2a := q1a.below (below_drewN' n2)
  have j2Sa := i1.below (below_drewN' n2)
  have T2 := T1.trans ((below_drewN' n2).mono T1.size)
  go_wp2_with fail
  refine (toIntS_c a capa xsa _ q2a haa).mono ?_
  rintro e3 w3 ⟨g3, hg3, rfl, i3, b3⟩
  have q3a := q2a.below b3
  have j3Sa := j2Sa.below b3
  have T3 := T2.trans (b3.mono T2.size)
  go_wp2_with fail
  refine (iFloorWay_c g3 0 _ xsa x y _ i3 hba).mono ?_
  rintro e4 w4 ⟨rfl, n4, rfl⟩
  have q4a := q3a.below (below_drewN' n4)
  have j4Sa := j3Sa.below (below_drewN' n4)
  have j4Ia := i3.below (below_drewN' n4)
  have T4 := T3.trans ((below_drewN' n4).mono T3.size)
  go_wp2_with fail
  refine (toIntS_c a capa xsa _ q4a haa).mono ?_
  rintro e5 w5 ⟨g5, hg5, rfl, i5, b5⟩
  have q5a := q4a.below b5
  have j5Sa := j4Sa.below b5
  have j5Ia := j4Ia.below b5
  have T5 := T4.trans (b5.mono T4.size)
  go_wp2_with fail
  refine (eqIntS_c g3 0 _ g5 0 _ xsa _ j5Ia i5 haa).mono ?_
  rintro e6 w6 ⟨rfl, n6, rfl⟩
  have q6a := q5a.below (below_drewN' n6)
  have j6Sa := j5Sa.below (below_drewN' n6)
  have j6Ia := j5Ia.below (below_drewN' n6)
  have j6Ca := i5.below (below_drewN' n6)
  have T6 := T5.trans ((below_drewN' n6).mono T5.size)
  go_wp2_with fail
  go_ret
  exact LawOk.mk T6

end Go.Proofs.Ytfdfnpggnaaffaa
