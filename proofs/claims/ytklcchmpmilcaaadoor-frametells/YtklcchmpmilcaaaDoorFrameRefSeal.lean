/- What the document's own Seal answers, for all messages. -/
import Derived.Test.YtklcchmpmilcaaaDoorFrameMath
import Derived.Test.YtklcchmpmilcaaaDoorMsgRefPut
namespace Go.Proofs.YtklcchmpmilcaaaDoor
open Go.ChangeShapes Go.WideShapes Go.ChangeAt Go.RowKit R Q Fr
set_option linter.unusedVariables false
set_option linter.unusedSimpArgs false

theorem rsum_at (w : World) {a : Option Addr} {c n : Nat} {l : List Int} (R : Reads .u8 w a c l) (hn : l.length = n) (hl : l.length ≤ 100000) :
    Calls Tryd.prog 21 #[.slice a n c] w fun e w' => e = .returned (.int .i64 (O.sumN l)) ∧ w' = w := by
  subst hn
  exact rsum_any w R hl
theorem rput_two (w : World) {s : Int} (h : O.okP s 2 = true) :
    Calls Tryd.prog 20 #[.int .i64 s, .int .i64 2] w fun e w' => ∃ a c, e = .returned (.tuple #[.slice a 2 c, .int .i64 0]) ∧ Reads .u8 w' a c (O.putL s 2) ∧ Below w.heap.size w w' := by
  have c := rput_any s 2 w
  rw [O.putL_len h, O.putE_yes h] at c
  exact c
theorem own_two (w : World) (x z : Int) : (w.alloc (.cells #[.int .u8 x, .int .u8 z] 5)).ownsRow w.heap.size 5 1 (.slice (some ⟨w.heap.size, 0, none⟩) 2 2) 2 (([x, z] : List Int).map (Value.int .u8)) :=
  ⟨by simp, .inr ⟨w.heap.size, 2, _, rfl, Nat.le_refl _, heap_alloc_new w _, Nat.le_refl _, by unfold maxLen; omega, by simp, by simp⟩⟩
theorem rSeal_bad {y z v g a n i p k t : Int} (hk : okM y z v g a n i p k t = false) (w : World) :
    Calls Tryd.prog 11 #[.agg #[.int .i64 y, .int .i64 z, .int .i64 v, .int .i64 g, .int .i64 a, .int .i64 n, .int .i64 i, .int .i64 p, .int .i64 k, .int .i64 t]] w fun e w' => e = .returned (.tuple #[.slice none 0 0, .int .i64 1]) ∧ Below w.heap.size w w' := by
  have hW := below_new w (.cells #[.int .i64 y, .int .i64 z, .int .i64 v, .int .i64 g, .int .i64 a, .int .i64 n, .int .i64 i, .int .i64 p, .int .i64 k, .int .i64 t] 29)
  go_enter Tryd.func11, Tryd.ntmps11
  go_wp2_with fail
  refine (rmPut_bad hk _).mono ?_
  rintro e w1 ⟨rfl, hb⟩
  go_wp2_with fail
  go_ret2
  exact ⟨rfl, below_step hW hb⟩
set_option maxHeartbeats 2000000 in
theorem rSeal_9 {y z v g a n i p k t : Int} {B : List Int} (hB : B.length = 9) (hO : O.Oct B) (w : World) (HT : Hid (([197, 9] ++ B) ++ [0] = topL B)) (HP : Hid (O.okP (O.sumN (topL B)) 2 = true)) (HTO : Hid (O.Oct (topL B))) (HSO : Hid (O.Oct (sealL B))) (HTL : Hid ((topL B).length = 12)) (HSL : Hid ((topL B ++ O.putL (O.sumN (topL B)) 2).length = 14)) (HPL : Hid ((O.putL (O.sumN (topL B)) 2).length = 2))
    (cP : ∀ w, Calls Tryd.prog 19 #[.agg #[.int .i64 y, .int .i64 z, .int .i64 v, .int .i64 g, .int .i64 a, .int .i64 n, .int .i64 i, .int .i64 p, .int .i64 k, .int .i64 t]] w fun e w' => ∃ x c, e = .returned (.tuple #[.slice x 9 c, .int .i64 0]) ∧ Reads .u8 w' x c B ∧ Below w.heap.size w w') :
    Calls Tryd.prog 11 #[.agg #[.int .i64 y, .int .i64 z, .int .i64 v, .int .i64 g, .int .i64 a, .int .i64 n, .int .i64 i, .int .i64 p, .int .i64 k, .int .i64 t]] w fun e w' => ∃ x c, e = .returned (.tuple #[.slice x 14 c, .int .i64 0]) ∧ Reads .u8 w' x c (sealL B) ∧ Below w.heap.size w w' := by
  have hW := below_new w (.cells #[.int .i64 y, .int .i64 z, .int .i64 v, .int .i64 g, .int .i64 a, .int .i64 n, .int .i64 i, .int .i64 p, .int .i64 k, .int .i64 t] 29)
  go_enter Tryd.func11, Tryd.ntmps11
  go_wp2_with fail
  refine (cP _).mono ?_
  rintro e w1 ⟨a1, k1, rfl, R1, hb⟩
  replace hW := below_step hW hb
  clear hb
  have own1 := own_two w1 197 9
  have hb2 := below_new w1 (.cells #[.int .u8 197, .int .u8 9] 5)
  replace R1 := R1.later hb2
  have own2 := own_mono own1 hW.size
  have hW2 := below_step hW hb2
  have hs2 := hW2.size
  go_wp2_with (first | (at_builtin; refine wpList_join rfl (.tmp 21) (.tmp 22) 30 rfl w.heap.size 5 1 Tryd.underlying30 info8 rfl own2 rfl R1 hB (by omega) (by omega) hs2 ?_; intro v6 w6 own6 hg6; have hB6 := below_grow hW2 own2 hg6 hs2) | (at_builtin; refine wpList_one _ 0 5 rfl rfl (.tmp 28) (.tmp 29) 30 rfl w.heap.size 1 Tryd.underlying30 info8 rfl own6 rfl (by omega) (by omega) hB6.size ?_; intro v8 w8 own8 hg8; have hB8 := below_grow (below_step hB6 (below_new w6 (.cells #[.int .u8 0] 5))) (own6.alloc _) hg8 (Nat.le_trans hB6.size (below_new w6 (.cells #[.int .u8 0] 5)).size); (rw [HT.out] at own8); obtain ⟨a8, k8, e8, R8, -⟩ := reads_of_owns own8 (u8_wf HTO.out); (rw [HTL.out] at e8); subst e8))
  refine (rsum_at _ R8 HTL.out (by rw [HTL.out]; omega)).mono ?_
  rintro e w9 ⟨rfl, rfl⟩
  go_wp2_with fail
  refine (rput_two _ HP.out).mono ?_
  rintro e w3 ⟨a3, k3, rfl, R3, hb⟩
  have own3 := own_later own8 hb
  have hW3 := below_step hB8 hb
  have hs3 := hW3.size
  clear hb
  go_wp2_with (at_builtin; refine wpList_join rfl (.tmp 37) (.tmp 38) 30 rfl w.heap.size 5 1 Tryd.underlying30 info8 rfl own3 rfl R3 HPL.out (by omega) (by omega) hs3 ?_; intro v4 w4 own4 hg4)
  have hB4 := below_grow hW3 own3 hg4 hs3
  obtain ⟨a4, k4, e4, R4, -⟩ := reads_of_owns own4 (u8_wf HSO.out)
  rw [HSL.out] at e4
  subst e4
  go_ret2
  exact ⟨a4, k4, rfl, R4, hB4⟩
set_option maxHeartbeats 2000000 in
theorem rSeal_18 {y z v g a n i p k t : Int} {B : List Int} (hB : B.length = 18) (hO : O.Oct B) (w : World) (HT : Hid ([197, 18] ++ B = topL B)) (HP : Hid (O.okP (O.sumN (topL B)) 2 = true)) (HTO : Hid (O.Oct (topL B))) (HSO : Hid (O.Oct (sealL B))) (HTL : Hid ((topL B).length = 20)) (HSL : Hid ((topL B ++ O.putL (O.sumN (topL B)) 2).length = 22)) (HPL : Hid ((O.putL (O.sumN (topL B)) 2).length = 2))
    (cP : ∀ w, Calls Tryd.prog 19 #[.agg #[.int .i64 y, .int .i64 z, .int .i64 v, .int .i64 g, .int .i64 a, .int .i64 n, .int .i64 i, .int .i64 p, .int .i64 k, .int .i64 t]] w fun e w' => ∃ x c, e = .returned (.tuple #[.slice x 18 c, .int .i64 0]) ∧ Reads .u8 w' x c B ∧ Below w.heap.size w w') :
    Calls Tryd.prog 11 #[.agg #[.int .i64 y, .int .i64 z, .int .i64 v, .int .i64 g, .int .i64 a, .int .i64 n, .int .i64 i, .int .i64 p, .int .i64 k, .int .i64 t]] w fun e w' => ∃ x c, e = .returned (.tuple #[.slice x 22 c, .int .i64 0]) ∧ Reads .u8 w' x c (sealL B) ∧ Below w.heap.size w w' := by
  have hW := below_new w (.cells #[.int .i64 y, .int .i64 z, .int .i64 v, .int .i64 g, .int .i64 a, .int .i64 n, .int .i64 i, .int .i64 p, .int .i64 k, .int .i64 t] 29)
  go_enter Tryd.func11, Tryd.ntmps11
  go_wp2_with fail
  refine (cP _).mono ?_
  rintro e w1 ⟨a1, k1, rfl, R1, hb⟩
  replace hW := below_step hW hb
  clear hb
  have own1 := own_two w1 197 18
  have hb2 := below_new w1 (.cells #[.int .u8 197, .int .u8 18] 5)
  replace R1 := R1.later hb2
  have own2 := own_mono own1 hW.size
  have hW2 := below_step hW hb2
  have hs2 := hW2.size
  go_wp2_with (at_builtin; refine wpList_join rfl (.tmp 21) (.tmp 22) 30 rfl w.heap.size 5 1 Tryd.underlying30 info8 rfl own2 rfl R1 hB (by omega) (by omega) hs2 ?_; intro v6 w6 own6 hg6; have hB6 := below_grow hW2 own2 hg6 hs2; (rw [HT.out] at own6); obtain ⟨a8, k8, e8, R8, -⟩ := reads_of_owns own6 (u8_wf HTO.out); (rw [HTL.out] at e8); subst e8)
  have own8 := own6
  have hB8 := hB6
  refine (rsum_at _ R8 HTL.out (by rw [HTL.out]; omega)).mono ?_
  rintro e w9 ⟨rfl, rfl⟩
  go_wp2_with fail
  refine (rput_two _ HP.out).mono ?_
  rintro e w3 ⟨a3, k3, rfl, R3, hb⟩
  have own3 := own_later own8 hb
  have hW3 := below_step hB8 hb
  have hs3 := hW3.size
  clear hb
  go_wp2_with (at_builtin; refine wpList_join rfl (.tmp 37) (.tmp 38) 30 rfl w.heap.size 5 1 Tryd.underlying30 info8 rfl own3 rfl R3 HPL.out (by omega) (by omega) hs3 ?_; intro v4 w4 own4 hg4)
  have hB4 := below_grow hW3 own3 hg4 hs3
  obtain ⟨a4, k4, e4, R4, -⟩ := reads_of_owns own4 (u8_wf HSO.out)
  rw [HSL.out] at e4
  subst e4
  go_ret2
  exact ⟨a4, k4, rfl, R4, hB4⟩
theorem rSeal_ok {y z v g a n i p k t : Int} (hk : okM y z v g a n i p k t = true) (w : World) :
    Calls Tryd.prog 11 #[.agg #[.int .i64 y, .int .i64 z, .int .i64 v, .int .i64 g, .int .i64 a, .int .i64 n, .int .i64 i, .int .i64 p, .int .i64 k, .int .i64 t]] w fun e w' => ∃ x c, e = .returned (.tuple #[.slice x (lenFr y) c, .int .i64 0]) ∧ Reads .u8 w' x c (frameM y z v g a n i p k t) ∧ Below w.heap.size w w' := by
  have hL := bodyM_len hk
  have hO := bodyM_oct y z v g a n i p k t
  have hTO := top_oct hO (body_le hk)
  have hSO := seal_oct hO (body_le hk)
  have hTL := top_len (bodyM y z v g a n i p k t)
  have hSL := seal_len hO (body_le hk)
  have hok := O.ok_sum hTO
  have cP := fun w => rmPut_ok hk w
  by_cases hy : y = 2
  · subst hy
    rw [lenM_two rfl] at cP hL
    rw [hL] at hTL hSL
    refine rSeal_18 hL hO w ?_ hok hTO hSO hTL hSL (O.putL_len hok) cP
    show _ = topL (bodyM 2 z v g a n i p k t)
    unfold topL padL
    rw [hL]
    simp
  · rw [lenM_not hy] at cP hL
    rw [hL] at hTL hSL
    have e : lenFr y = 14 := by unfold lenFr; rw [if_neg hy]
    rw [e]
    refine rSeal_9 hL hO w ?_ hok hTO hSO hTL hSL (O.putL_len hok) cP
    show _ = topL (bodyM y z v g a n i p k t)
    unfold topL padL
    rw [hL]
    simp

end Go.Proofs.YtklcchmpmilcaaaDoor
