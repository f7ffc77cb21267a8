/- What the document's own functions on lists of prefixes answer: the contracts that the claims on package trie rest on. -/
import Derived.Test.YtlgldoggnlcbkaaTrieRef
import Derived.Test.YtlgldoggnlcbkaaRds
import Derived.Test.YtlgldoggnlcbkaaBitsRefs
import Derived.Deep.RegionHeld3
namespace Go.Proofs.Ytlgldoggnlcbkaa
open Go.ChangeShapes Go.WideShapes Go.ChangeAt Go.RowKit Tt
set_option linter.unusedVariables false
set_option linter.unusedSimpArgs false

def fP (p : P2) : List Int := [p.1, p.2]
def fE (e : T3) : List Int := [e.1.1, e.1.2, e.2]
theorem fP_len (p : P2) : (fP p).length = 2 := rfl
theorem fE_len (e : T3) : (fE e).length = 3 := rfl
theorem infoP : (Try.prog.info? 29).map (fun i => (i.zero, i.size, i.bytes)) = some (some (.agg #[.int .i64 0, .int .i64 0]), 2, 16) := by kernel_rfl
theorem infoE : (Try.prog.info? 36).map (fun i => (i.zero, i.size, i.bytes)) = some (some (.agg #[.int .i64 0, .int .i64 0, .int .i64 0]), 3, 24) := by kernel_rfl
theorem rless_any (p0 p1 q0 q1 : Int) (w : World) :
    Calls Try.prog 43 #[.agg #[.int .i64 p0, .int .i64 p1], .agg #[.int .i64 q0, .int .i64 q1]] w fun e w' => e = .returned (.bool (less (p0, p1) (q0, q1))) ∧ Below w.heap.size w w' := by
  have hb := below_step (below_new w (.cells #[.int .i64 p0, .int .i64 p1] 29)) (below_new (w.alloc (.cells #[.int .i64 p0, .int .i64 p1] 29)) (.cells #[.int .i64 q0, .int .i64 q1] 29))
  by_cases h : p0 = q0
  · subst h
    go_enter Try.func43, Try.ntmps43
    go_wp2
    go_ret
    exact ⟨ret_bool (by simp [less, lessI]), hb⟩
  · have h1 : (p0 != q0) = true := by simpa using h
    have h2 : less (p0, p1) (q0, q1) = decide (p0 < q0) := by simp [less, lessI, h]
    rw [h2]
    clear h h2
    go_enter Try.func43, Try.ntmps43
    go_wp2
    go_ret
    exact ⟨rfl, hb⟩
theorem below_lay2 {B b : Nat} {w0 w : World} (x0 x1 : Value) (hb : Below B w0 w) (hg : B ≤ b) : Below B w0 ((w.setCell ⟨b, 0, none⟩ x0).setCell ⟨b, 1, none⟩ x1) := (hb.setCell (p := ⟨b, 0, none⟩) hg _).setCell (p := ⟨b, 1, none⟩) hg _
theorem rcommon7_at (p0 p1 q0 q1 : Int) (w : World) (c : Nat) (hc : (c : Int) = if q1 < (if p1 < (M.cmN p0 q0 : Int) then p1 else (M.cmN p0 q0 : Int)) then q1 else (if p1 < (M.cmN p0 q0 : Int) then p1 else (M.cmN p0 q0 : Int))) (h32 : c ≤ 32) :
    Calls Try.prog 35 #[.agg #[.int .i64 p0, .int .i64 p1], .agg #[.int .i64 q0, .int .i64 q1]] w fun e w' => e = .returned (.agg #[.int .i64 (M.ct p0 c), .int .i64 (c : Int)]) ∧ Below w.heap.size w w' := by
  have hcl : M.cl (c : Int) = c := M.cl_id (by omega) (by omega)
  have hB : w.heap.size ≤ w.heap.size + 1 + 1 := by omega
  have cc := fun w => rcut_any p0 (c : Int) w
  rw [hcl] at cc
  by_cases h1 : p1 < (M.cmN p0 q0 : Int)
  · rw [if_pos h1] at hc
    by_cases h2 : q1 < p1
    · rw [if_pos h2] at hc
      subst hc
      have hb0 := below_step (below_step (below_new w (.cells #[.int .i64 p0, .int .i64 p1] 29)) (below_new (w.alloc (.cells #[.int .i64 p0, .int .i64 p1] 29)) (.cells #[.int .i64 q0, .int .i64 (c : Int)] 29))) (below_new ((w.alloc (.cells #[.int .i64 p0, .int .i64 p1] 29)).alloc (.cells #[.int .i64 q0, .int .i64 (c : Int)] 29)) (.cells #[.int .i64 0, .int .i64 0] 29))
      have X := Lies.new ((w.alloc (.cells #[.int .i64 p0, .int .i64 p1] 29)).alloc (.cells #[.int .i64 q0, .int .i64 (c : Int)] 29)) [0, 0] 29 (B := w.heap.size + 1 + 1) (by simp)
      go_enter Try.func35, Try.ntmps35
      go_wp2_with fail
      refine (rcommon_any p0 q0 _).mono ?_
      rintro e w' ⟨rfl, rfl⟩
      go_wp2_with fail
      refine (cc _).mono ?_
      rintro e w1 ⟨rfl, hb⟩
      replace X := X.later hb
      replace hb0 := below_step hb0 hb
      obtain ⟨x0, x1⟩ := X.two
      have xl := X.lt
      have xf := X.fz
      go_wp2_with fail
      refine bodyPost_ret (v := .agg #[.int .i64 (M.ct p0 c), .int .i64 (c : Int)]) (by simp [results, Try.results35, go_sem, x0, x1]) rfl ?_
      exact ⟨rfl, below_lay2 _ _ hb0 hB⟩
    · rw [if_neg h2] at hc
      subst hc
      have hb0 := below_step (below_step (below_new w (.cells #[.int .i64 p0, .int .i64 (c : Int)] 29)) (below_new (w.alloc (.cells #[.int .i64 p0, .int .i64 (c : Int)] 29)) (.cells #[.int .i64 q0, .int .i64 q1] 29))) (below_new ((w.alloc (.cells #[.int .i64 p0, .int .i64 (c : Int)] 29)).alloc (.cells #[.int .i64 q0, .int .i64 q1] 29)) (.cells #[.int .i64 0, .int .i64 0] 29))
      have X := Lies.new ((w.alloc (.cells #[.int .i64 p0, .int .i64 (c : Int)] 29)).alloc (.cells #[.int .i64 q0, .int .i64 q1] 29)) [0, 0] 29 (B := w.heap.size + 1 + 1) (by simp)
      go_enter Try.func35, Try.ntmps35
      go_wp2_with fail
      refine (rcommon_any p0 q0 _).mono ?_
      rintro e w' ⟨rfl, rfl⟩
      go_wp2_with fail
      refine (cc _).mono ?_
      rintro e w1 ⟨rfl, hb⟩
      replace X := X.later hb
      replace hb0 := below_step hb0 hb
      obtain ⟨x0, x1⟩ := X.two
      have xl := X.lt
      have xf := X.fz
      go_wp2_with fail
      refine bodyPost_ret (v := .agg #[.int .i64 (M.ct p0 c), .int .i64 (c : Int)]) (by simp [results, Try.results35, go_sem, x0, x1]) rfl ?_
      exact ⟨rfl, below_lay2 _ _ hb0 hB⟩
  · rw [if_neg h1] at hc
    by_cases h2 : q1 < (M.cmN p0 q0 : Int)
    · rw [if_pos h2] at hc
      subst hc
      have hb0 := below_step (below_step (below_new w (.cells #[.int .i64 p0, .int .i64 p1] 29)) (below_new (w.alloc (.cells #[.int .i64 p0, .int .i64 p1] 29)) (.cells #[.int .i64 q0, .int .i64 (c : Int)] 29))) (below_new ((w.alloc (.cells #[.int .i64 p0, .int .i64 p1] 29)).alloc (.cells #[.int .i64 q0, .int .i64 (c : Int)] 29)) (.cells #[.int .i64 0, .int .i64 0] 29))
      have X := Lies.new ((w.alloc (.cells #[.int .i64 p0, .int .i64 p1] 29)).alloc (.cells #[.int .i64 q0, .int .i64 (c : Int)] 29)) [0, 0] 29 (B := w.heap.size + 1 + 1) (by simp)
      go_enter Try.func35, Try.ntmps35
      go_wp2_with fail
      refine (rcommon_any p0 q0 _).mono ?_
      rintro e w' ⟨rfl, rfl⟩
      go_wp2_with fail
      refine (cc _).mono ?_
      rintro e w1 ⟨rfl, hb⟩
      replace X := X.later hb
      replace hb0 := below_step hb0 hb
      obtain ⟨x0, x1⟩ := X.two
      have xl := X.lt
      have xf := X.fz
      go_wp2_with fail
      refine bodyPost_ret (v := .agg #[.int .i64 (M.ct p0 c), .int .i64 (c : Int)]) (by simp [results, Try.results35, go_sem, x0, x1]) rfl ?_
      exact ⟨rfl, below_lay2 _ _ hb0 hB⟩
    · rw [if_neg h2] at hc
      obtain rfl : c = M.cmN p0 q0 := by omega
      have hb0 := below_step (below_step (below_new w (.cells #[.int .i64 p0, .int .i64 p1] 29)) (below_new (w.alloc (.cells #[.int .i64 p0, .int .i64 p1] 29)) (.cells #[.int .i64 q0, .int .i64 q1] 29))) (below_new ((w.alloc (.cells #[.int .i64 p0, .int .i64 p1] 29)).alloc (.cells #[.int .i64 q0, .int .i64 q1] 29)) (.cells #[.int .i64 0, .int .i64 0] 29))
      have X := Lies.new ((w.alloc (.cells #[.int .i64 p0, .int .i64 p1] 29)).alloc (.cells #[.int .i64 q0, .int .i64 q1] 29)) [0, 0] 29 (B := w.heap.size + 1 + 1) (by simp)
      go_enter Try.func35, Try.ntmps35
      go_wp2_with fail
      refine (rcommon_any p0 q0 _).mono ?_
      rintro e w' ⟨rfl, rfl⟩
      go_wp2_with fail
      refine (cc _).mono ?_
      rintro e w1 ⟨rfl, hb⟩
      replace X := X.later hb
      replace hb0 := below_step hb0 hb
      obtain ⟨x0, x1⟩ := X.two
      have xl := X.lt
      have xf := X.fz
      go_wp2_with fail
      refine bodyPost_ret (v := .agg #[.int .i64 (M.ct p0 (M.cmN p0 q0)), .int .i64 (M.cmN p0 q0 : Int)]) (by simp [results, Try.results35, go_sem, x0, x1]) rfl ?_
      exact ⟨rfl, below_lay2 _ _ hb0 hB⟩
/-- what two prefixes that may be begin with -/
theorem rcommon7_any {p q : P2} (hp : may p = true) (hq : may q = true) (w : World) :
    Calls Try.prog 35 #[.agg #[.int .i64 p.1, .int .i64 p.2], .agg #[.int .i64 q.1, .int .i64 q.2]] w fun e w' => e = .returned (.agg #[.int .i64 (comP p q).1, .int .i64 (comP p q).2]) ∧ Below w.heap.size w w' := by
  have b1 := may_bd hp
  have b2 := may_bd hq
  have := (M.cm_is p.1 q.1).1
  refine rcommon7_at p.1 p.2 q.1 q.2 w (comN p.1 p.2 q.1 q.2) ?_ (comN_le _ _ _ _).1
  unfold comN
  split <;> split <;> omega
end Go.Proofs.Ytlgldoggnlcbkaa
