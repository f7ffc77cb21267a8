/- What Seal of package frame answers, for all messages, and that the chapter's example holds, which each statement asks first. -/
import Derived.Test.YtklcchmpmilcaaaDoorFrameWalks
import Derived.Test.YtklcchmpmilcaaaDoorMsgPut
namespace Go.Proofs.YtklcchmpmilcaaaDoor
open Go.ChangeShapes Go.WideShapes Go.ChangeAt Go.RowKit R Q Fr
set_option linter.unusedVariables false
set_option linter.unusedSimpArgs false

theorem head_put {n : Nat} (hn : n ≤ 255) : O.pallE [197, (n : Int)] [1, 1] = 0 ∧ O.pallL [197, (n : Int)] [1, 1] = [197, (n : Int)] := by
  have h1 : O.okP 197 1 = true := by decide +kernel
  have h2 : O.okP (n : Int) 1 = true := by rw [O.okP1 (by omega)]; exact decide_eq_true (by omega)
  have e : O.pallE [197, (n : Int)] [1, 1] = 0 := by unfold O.pallE; simp [O.paE, O.putE_yes h1, O.putE_yes h2]
  refine ⟨e, ?_⟩
  unfold O.pallL
  rw [if_pos e]
  show O.putL 197 1 ++ (O.putL (n : Int) 1 ++ []) = _
  rw [O.putL_yes h1, O.putL_yes h2]
  show O.digs 197 1 ++ (O.digs (n : Int) 1 ++ []) = _
  rw [O.digs1, O.digs1]
  have : (n : Int) / 1 % 256 = n := by omega
  rw [this]
  rfl
theorem putAll_top {n : Nat} (hn : n ≤ 255) (w : World) {a1 a2 : Option Addr} {c1 c2 : Nat} (R1 : Reads .i64 w a1 c1 [197, (n : Int)]) (R2 : Reads .i64 w a2 c2 [1, 1]) :
    Calls Tryd.prog 26 #[.slice a1 2 c1, .slice a2 2 c2] w fun e w' => ∃ x c, e = .returned (.tuple #[.slice x 2 c, .int .i64 0]) ∧ w'.ownsRow w.heap.size 5 1 (.slice x 2 c) 2 (([197, (n : Int)] : List Int).map (Value.int .u8)) ∧ Below w.heap.size w w' := by
  have h := putAll_own w R1 R2 (by simp)
  rw [(head_put hn).1, (head_put hn).2] at h
  exact h.mono fun _ _ ⟨x, c, h1, _, h2, h3⟩ => ⟨x, c, h1, h2, h3⟩
theorem top_odd {b : List Int} {n : Nat} (hn : b.length = n) (h : n % 2 = 1) : ([197, (n : Int)] ++ b) ++ [0] = topL b := by
  unfold topL padL
  rw [hn, if_pos h]
  simp
theorem top_none {b : List Int} {n : Nat} (hn : b.length = n) (h : n % 2 = 0) : [197, (n : Int)] ++ b = topL b := by
  unfold topL padL
  rw [hn, if_neg (by omega)]
  simp
set_option maxHeartbeats 1000000 in
theorem fBegin_odd (w : World) {a : Option Addr} {c n m : Nat} {b : List Int} (R : Reads .u8 w a c b) (hn : b.length = n) (hl : n ≤ 255) (ho : n % 2 = 1) (hm : 2 + n + 1 = m) :
    Calls Tryd.prog 16 #[.slice a n c] w fun e w' => ∃ x k, e = .returned (.tuple #[.slice x m k, .int .i64 0]) ∧ Reads .u8 w' x k (topL b) ∧ w'.ownsRow w.heap.size 5 1 (.slice x m k) m ((topL b).map (Value.int .u8)) ∧ Below w.heap.size w w' := by
  have h1 := reads_new64 w [197, (n : Int)] (by intro z hz; simp only [List.mem_cons, List.not_mem_nil, or_false] at hz; rcases hz with rfl | rfl <;> exact wf_i64_mk (by omega) (by omega)) (by simp) rfl rfl
  have hn1 := below_new w (.cells #[.int .i64 197, .int .i64 (n : Int)] 3)
  have h2 := reads_new64 (w.alloc (.cells #[.int .i64 197, .int .i64 (n : Int)] 3)) [1, 1] (by decide) (by simp) (B := w.heap.size + 1) (n := 2) (by simp) rfl
  have hn2 := below_new (w.alloc (.cells #[.int .i64 197, .int .i64 (n : Int)] 3)) (.cells #[.int .i64 1, .int .i64 1] 3)
  have hB := below_step hn1 hn2
  have hO := top_oct R.oct (by omega : b.length ≤ 255)
  have et := top_odd hn ho
  have hmm : (topL b).length = m := by rw [top_len, hn]; omega
  go_enter Tryd.func16, Tryd.ntmps16
  go_wp2_with fail
  refine (putAll_top hl _ (h1.later hn2) h2).mono ?_
  rintro e w1 ⟨a1, k1, rfl, own1, hb⟩
  replace R := (R.later hB).later hb
  have own := own_mono own1 hB.size
  replace hB := below_step hB hb
  clear hb h1 h2 hn1 hn2 own1
  have hs := hB.size
  go_wp2_with (at_builtin; refine wpList_join rfl (.tmp 17) (.tmp 18) 30 rfl w.heap.size 5 1 Tryd.underlying30 info8 rfl own rfl R hn (by omega) (by omega) hs ?_; intro v6 w6 own6 hg6)
  have hB6 := below_grow hB own hg6 hs
  refine (fOdd_yes ho _).mono ?_
  rintro e w6 ⟨rfl, rfl⟩
  go_wp2_with (at_builtin; refine wpList_one _ 0 5 rfl rfl (.tmp 23) (.tmp 24) 30 rfl w.heap.size 1 Tryd.underlying30 info8 rfl own6 rfl (by omega) (by omega) hB6.size ?_; intro v8 w8 own8 hg8)
  have hB8 := below_grow (below_step hB6 (below_new w6 (.cells #[.int .u8 0] 5))) (own6.alloc _) hg8 (Nat.le_trans hB6.size (below_new w6 (.cells #[.int .u8 0] 5)).size)
  rw [et, hm] at own8
  obtain ⟨a8, k8, e8, R8, -⟩ := reads_of_owns own8 (u8_wf hO)
  rw [hmm] at e8
  subst e8
  go_ret2
  exact ⟨a8, k8, rfl, R8, own8, hB8⟩
set_option maxHeartbeats 1000000 in
theorem fBegin_even (w : World) {a : Option Addr} {c n m : Nat} {b : List Int} (R : Reads .u8 w a c b) (hn : b.length = n) (hl : n ≤ 255) (ho : n % 2 = 0) (hm : 2 + n = m) :
    Calls Tryd.prog 16 #[.slice a n c] w fun e w' => ∃ x k, e = .returned (.tuple #[.slice x m k, .int .i64 0]) ∧ Reads .u8 w' x k (topL b) ∧ w'.ownsRow w.heap.size 5 1 (.slice x m k) m ((topL b).map (Value.int .u8)) ∧ Below w.heap.size w w' := by
  have h1 := reads_new64 w [197, (n : Int)] (by intro z hz; simp only [List.mem_cons, List.not_mem_nil, or_false] at hz; rcases hz with rfl | rfl <;> exact wf_i64_mk (by omega) (by omega)) (by simp) rfl rfl
  have hn1 := below_new w (.cells #[.int .i64 197, .int .i64 (n : Int)] 3)
  have h2 := reads_new64 (w.alloc (.cells #[.int .i64 197, .int .i64 (n : Int)] 3)) [1, 1] (by decide) (by simp) (B := w.heap.size + 1) (n := 2) (by simp) rfl
  have hn2 := below_new (w.alloc (.cells #[.int .i64 197, .int .i64 (n : Int)] 3)) (.cells #[.int .i64 1, .int .i64 1] 3)
  have hB := below_step hn1 hn2
  have hO := top_oct R.oct (by omega : b.length ≤ 255)
  have et := top_none hn ho
  have hmm : (topL b).length = m := by rw [top_len, hn]; omega
  go_enter Tryd.func16, Tryd.ntmps16
  go_wp2_with fail
  refine (putAll_top hl _ (h1.later hn2) h2).mono ?_
  rintro e w1 ⟨a1, k1, rfl, own1, hb⟩
  replace R := (R.later hB).later hb
  have own := own_mono own1 hB.size
  replace hB := below_step hB hb
  clear hb h1 h2 hn1 hn2 own1
  have hs := hB.size
  go_wp2_with (at_builtin; refine wpList_join rfl (.tmp 17) (.tmp 18) 30 rfl w.heap.size 5 1 Tryd.underlying30 info8 rfl own rfl R hn (by omega) (by omega) hs ?_; intro v6 w6 own6 hg6)
  have hB6 := below_grow hB own hg6 hs
  refine (fOdd_no ho _).mono ?_
  rintro e w6 ⟨rfl, rfl⟩
  rw [et, hm] at own6
  obtain ⟨a8, k8, e8, R8, -⟩ := reads_of_owns own6 (u8_wf hO)
  rw [hmm] at e8
  subst e8
  go_wp2_with fail
  go_ret2
  exact ⟨a8, k8, rfl, R8, own6, hB6⟩
theorem fBegin_any (w : World) {a : Option Addr} {c n m : Nat} {b : List Int} (R : Reads .u8 w a c b) (hn : b.length = n) (hl : n ≤ 255) (hm : (topL b).length = m) :
    Calls Tryd.prog 16 #[.slice a n c] w fun e w' => ∃ x k, e = .returned (.tuple #[.slice x m k, .int .i64 0]) ∧ Reads .u8 w' x k (topL b) ∧ w'.ownsRow w.heap.size 5 1 (.slice x m k) m ((topL b).map (Value.int .u8)) ∧ Below w.heap.size w w' := by
  rw [top_len, hn] at hm
  by_cases ho : n % 2 = 1
  · exact fBegin_odd w R hn hl ho (by omega)
  · exact fBegin_even w R hn hl (by omega) (by omega)
theorem put_two (w : World) {s : Int} (h : O.okP s 2 = true) :
    Calls Tryd.prog 17 #[.int .i64 s, .int .i64 2] w fun e w' => ∃ a c, e = .returned (.tuple #[.slice a 2 c, .int .i64 0]) ∧ Reads .u8 w' a c (O.putL s 2) ∧ Below w.heap.size w w' := by
  have c := put_any s 2 w
  rw [O.putL_len h, O.putE_yes h] at c
  exact c
set_option maxHeartbeats 2000000 in
/-- Seal, of a message that may be -/
theorem seal_core {y z v g a n i p k t : Int} {B : List Int} {N : Nat} (hB : B.length = N) (hN : N ≤ 255) (hO : O.Oct B) (w : World) (T : Tab w)
    (cP : ∀ w, Tab w → Calls Tryd.prog 14 #[.agg #[.int .i64 y, .int .i64 z, .int .i64 v, .int .i64 g, .int .i64 a, .int .i64 n, .int .i64 i, .int .i64 p, .int .i64 k, .int .i64 t]] w fun e w' => ∃ x c, e = .returned (.tuple #[.slice x N c, .int .i64 0]) ∧ Reads .u8 w' x c B ∧ Below w.heap.size w w') {m L : Nat} (hm : (topL B).length = m) (hL : m + 2 = L) :
    Calls Tryd.prog 10 #[.agg #[.int .i64 y, .int .i64 z, .int .i64 v, .int .i64 g, .int .i64 a, .int .i64 n, .int .i64 i, .int .i64 p, .int .i64 k, .int .i64 t]] w fun e w' => ∃ x c, e = .returned (.tuple #[.slice x L c, .int .i64 0]) ∧ Reads .u8 w' x c (sealL B) ∧ Below w.heap.size w w' := by
  have hW := below_new w (.cells #[.int .i64 y, .int .i64 z, .int .i64 v, .int .i64 g, .int .i64 a, .int .i64 n, .int .i64 i, .int .i64 p, .int .i64 k, .int .i64 t] 29)
  have hTO := top_oct hO (by omega : B.length ≤ 255)
  have hSO := seal_oct hO (by omega : B.length ≤ 255)
  have hml : m ≤ 300 := by rw [top_len] at hm; omega
  have hok := O.ok_sum hTO
  have hp := O.putL_len hok
  have hLL : (topL B ++ O.putL (O.sumN (topL B)) 2).length = L := by
    show (sealL B).length = L
    rw [seal_len hO (by omega), ← hL, ← hm, top_len]; omega
  go_enter Tryd.func10, Tryd.ntmps10
  go_wp2_with fail
  refine (cP _ (T.later hW)).mono ?_
  rintro e w1 ⟨a1, k1, rfl, R1, hb⟩
  replace hW := below_step hW hb
  clear hb
  go_wp2_with fail
  refine (fBegin_any _ R1 hB hN hm).mono ?_
  rintro e w2 ⟨a2, k2, rfl, R2, own1, hb⟩
  have own := own_mono own1 hW.size
  replace hW := below_step hW hb
  clear hb R1 own1
  go_wp2_with fail
  refine (sum_at _ R2 hm (by omega)).mono ?_
  rintro e w' ⟨rfl, rfl⟩
  go_wp2_with fail
  refine (put_two _ hok).mono ?_
  rintro e w3 ⟨a3, k3, rfl, R3, hb⟩
  have own3 := own_later own hb
  replace hW := below_step hW hb
  clear hb R2 own
  have hs := hW.size
  go_wp2_with (at_builtin; refine wpList_join rfl (.tmp 33) (.tmp 34) 30 rfl w.heap.size 5 1 Tryd.underlying30 info8 rfl own3 rfl R3 hp (by omega) (by omega) hs ?_; intro v6 w6 own6 hg6)
  have hB6 := below_grow hW own3 hg6 hs
  rw [hL] at own6
  obtain ⟨a8, k8, e8, R8, -⟩ := reads_of_owns own6 (u8_wf hSO)
  rw [hLL] at e8
  subst e8
  go_ret2
  exact ⟨a8, k8, rfl, R8, hB6⟩
theorem fSeal_ok {y z v g a n i p k t : Int} (hk : okM y z v g a n i p k t = true) (w : World) (T : Tab w) :
    Calls Tryd.prog 10 #[.agg #[.int .i64 y, .int .i64 z, .int .i64 v, .int .i64 g, .int .i64 a, .int .i64 n, .int .i64 i, .int .i64 p, .int .i64 k, .int .i64 t]] w fun e w' => ∃ x c, e = .returned (.tuple #[.slice x (lenFr y) c, .int .i64 0]) ∧ Reads .u8 w' x c (frameM y z v g a n i p k t) ∧ Below w.heap.size w w' := by
  have h := bodyM_len hk
  refine seal_core h (by have := lenM_or y; omega) (bodyM_oct _ _ _ _ _ _ _ _ _ _) w T (fun w T => mPut_ok hk w T) rfl ?_
  rw [top_len, h, lenFr_is]
  omega
/-- Seal, of a message that may not be -/
theorem fSeal_bad {y z v g a n i p k t : Int} (hk : okM y z v g a n i p k t = false) (w : World) (T : Tab w) :
    Calls Tryd.prog 10 #[.agg #[.int .i64 y, .int .i64 z, .int .i64 v, .int .i64 g, .int .i64 a, .int .i64 n, .int .i64 i, .int .i64 p, .int .i64 k, .int .i64 t]] w fun e w' => e = .returned (.tuple #[.slice none 0 0, .int .i64 1]) ∧ Below w.heap.size w w' := by
  have hW := below_new w (.cells #[.int .i64 y, .int .i64 z, .int .i64 v, .int .i64 g, .int .i64 a, .int .i64 n, .int .i64 i, .int .i64 p, .int .i64 k, .int .i64 t] 29)
  go_enter Tryd.func10, Tryd.ntmps10
  go_wp2_with fail
  refine (mPut_bad hk _ (T.later hW)).mono ?_
  rintro e w1 ⟨rfl, hb⟩
  go_wp2_with fail
  go_ret2
  exact ⟨rfl, below_step hW hb⟩
theorem ex_ok : okM 0 3 0 0 0 0 0 0 0 0 = true := by decide +kernel
theorem ex_frame : frameM 0 3 0 0 0 0 0 0 0 0 = [197, 9, 0, 0, 0, 3, 0, 0, 0, 0, 0, 0, 58, 243] := by decide +kernel
theorem awake_any (w : World) (T : Tab w) :
    Calls Tryd.prog 9 #[] w fun e w' => e = .returned (.bool true) ∧ Below w.heap.size w w' := by
  have c := fSeal_ok ex_ok
  rw [ex_frame] at c
  go_enter Tryd.func9, Tryd.ntmps9
  go_wp2_with fail
  refine (c _ T).mono ?_
  rintro e w1 ⟨a1, k1, rfl, R1, hb1⟩
  have r1 := str_at R1 (n := 14) rfl
  have s1 : ((strOfNums [197, 9, 0, 0, 0, 3, 0, 0, 0, 0, 0, 0, 58, 243]).toList == [197, 9, 0, 0, 0, 3, 0, 0, 0, 0, 0, 0, 58, 243]) = true := by decide +kernel
  have l1 : lenFr 0 = 14 := rfl
  rw [l1]
  go_wp2_with fail
  go_ret
  exact ⟨rfl, hb1⟩
end Go.Proofs.YtklcchmpmilcaaaDoor
