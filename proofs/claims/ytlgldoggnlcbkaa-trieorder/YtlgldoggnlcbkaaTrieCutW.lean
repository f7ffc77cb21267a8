/- What the code's Cut does to a trie's memory; and what its Nodes answers. -/
import Derived.Test.YtlgldoggnlcbkaaTrieSettle
namespace Go.Proofs.Ytlgldoggnlcbkaa
open Go.ChangeShapes Go.WideShapes Go.ChangeAt Go.RowKit Tt
set_option linter.unusedVariables false
set_option linter.unusedSimpArgs false

section
set_option maxRecDepth 100000
set_option maxHeartbeats 1000000
theorem nodes_any {w : World} {B : Nat} {m : Mm} (h : Has w B (cellOf m)) :
    Calls Try.prog 20 #[.pointer (some ⟨B, 0, none⟩)] w fun e w' => e = .returned (.int .i64 (m.used : Nat)) ∧ Below w.heap.size w w' := by
  obtain ⟨r0, r1, r2, r3⟩ := h.head
  go_enter Try.func20, Try.ntmps20
  go_wp2_with fail
  go_ret
  exact ⟨rfl, Below.refl _ _⟩
theorem nodes_nil (w : World) : Calls Try.prog 20 #[.pointer none] w fun e w' => e = .returned (.int .i64 0) ∧ Below w.heap.size w w' := by
  go_enter Try.func20, Try.ntmps20
  go_wp2_with fail
  go_ret
  exact ⟨rfl, Below.refl _ _⟩
theorem tell_get (m : Mm) (i : Nat) (t : Bool) (x : Int) (P : Pl) : (m.setTell i t x).get P = m.get P := by cases P <;> rfl
theorem tell_ok {m : Mm} (h : okM m) (i : Nat) (t : Bool) (x : Int) : okM (m.setTell i t x) := fun P hP => by rw [tell_get]; exact h P hP
theorem cut_bad (w : World) (x : Option Addr) (p0 p1 : Int) (hp : M.mayB p0 p1 = false) :
    Calls Try.prog 14 #[.pointer x, .agg #[.int .i64 p0, .int .i64 p1]] w fun e w' => e = .returned (.int .i64 1) ∧ Below w.heap.size w w' := by
  have hn := below_new w (.cells #[.int .i64 p0, .int .i64 p1] 29)
  have cm := fun w => may_any p0 p1 w
  rw [hp] at cm
  go_enter Try.func14, Try.ntmps14
  go_wp2_with fail
  refine (cm _).mono ?_
  rintro e w1 ⟨rfl, hb⟩
  go_wp2_with fail
  go_ret
  exact ⟨rfl, below_step hn hb⟩
theorem cut_nil (w : World) (p0 p1 : Int) (hp : M.mayB p0 p1 = true) :
    Calls Try.prog 14 #[.pointer none, .agg #[.int .i64 p0, .int .i64 p1]] w fun e w' => e = .returned (.int .i64 5) ∧ Below w.heap.size w w' := by
  have hn := below_new w (.cells #[.int .i64 p0, .int .i64 p1] 29)
  have cm := fun w => may_any p0 p1 w
  rw [hp] at cm
  go_enter Try.func14, Try.ntmps14
  go_wp2_with fail
  refine (cm _).mono ?_
  rintro e w1 ⟨rfl, hb⟩
  go_wp2_with fail
  go_ret
  exact ⟨rfl, below_step hn hb⟩
/-- is a place's node one that is told of as p? -/
def hits (m : Mm) (p : P2) (P : Pl) : Prop := m.get P ≠ 0 ∧ m.pre (m.get P) = p ∧ m.told (m.get P) = true
theorem ne_prefix (a b c d : Int) (w : World) : (binOp .neq 29 (.agg #[.int .i64 a, .int .i64 b]) (.agg #[.int .i64 c, .int .i64 d])).run Try.prog w = .ok (.bool !(a == c && b == d)) w := by
  cases h1 : (a == c) <;> cases h2 : (b == d) <;> go_simp
variable {w : World} {B : Nat} {m : Mm} (p0 p1 : Int) (hp : M.mayB p0 p1 = true) (h : Has w B (cellOf m)) (hm : okM m) {f : Nat} {A P : Pl} (hs : seekM m (p0, p1) f .top .top = some (A, P)) (hP : P.ok) (hA : A.ok)
include hp h hm hs hP
theorem cut_none (hh : ¬ hits m (p0, p1) P) :
    Calls Try.prog 14 #[.pointer (some ⟨B, 0, none⟩), .agg #[.int .i64 p0, .int .i64 p1]] w fun e w' => e = .returned (.int .i64 5) ∧ Below w.heap.size w w' := by
  have hn := below_new w (.cells #[.int .i64 p0, .int .i64 p1] 29)
  have X : Lies (w.alloc (.cells #[.int .i64 p0, .int .i64 p1] 29)) w.heap.size [p0, p1] := Lies.new w [p0, p1] 29 rfl
  have cm := fun w => may_any p0 p1 w
  rw [hp] at cm
  have sk := fun w h => seek_any (w := w) (B := B) (m := m) p0 p1 h hm hs
  have hi := hm P hP
  obtain ⟨i, hgi⟩ : ∃ i, m.get P = i := ⟨_, rfl⟩
  have hq := fun w => ne_prefix (m.a i) (m.n i) p0 p1 w
  have hne : ((m.a i == p0) && (m.n i == p1)) = decide (m.pre i = (p0, p1)) := by
    rw [Bool.eq_iff_iff]; simp [Mm.pre, Prod.ext_iff]
  rw [hne] at hq
  unfold hits at hh
  rw [hgi] at hi hh
  have hi0 : (0 : Int) ≤ (i : Int) := by omega
  have hi1 : (i : Int) < 1001 := by omega
  have e0 : ((i : Int) == 0) = decide (i = 0) := by rw [Bool.eq_iff_iff]; simp
  clear hs hne
  by_cases z0 : i = 0
  · subst z0
    clear hh hq e0
    go_enter Try.func14, Try.ntmps14
    go_wp2_with fail
    refine (cm _).mono ?_
    rintro e w1 ⟨rfl, hb⟩
    obtain ⟨x0, x1⟩ := (X.later hb).two
    have hbw := below_step hn hb
    go_wp2_with fail
    refine (sk _ (h.later hbw)).mono ?_
    rintro e w2 ⟨rfl, hb2⟩
    obtain ⟨cp, fp⟩ := ((h.later hbw).later hb2).place hP
    rw [hgi] at cp
    obtain ⟨y0, y1⟩ := ((X.later hb).later hb2).two
    obtain ⟨c0, c1, c2, c3, c4, c5⟩ := ((h.later hbw).later hb2).node hi
    clear x0 x1
    go_wp2_with fail
    go_quiet (fail)
    go_wp2_with fail
    go_quiet (fail)
    go_wp2_with fail
    go_ret
    exact ⟨rfl, below_step hbw ((hb2.trans (below_draws _ _ _)).trans (below_draws _ _ _))⟩
  · rw [decide_eq_false z0] at e0
    by_cases he : m.pre i = (p0, p1)
    · have ht : m.told i = false := by
        cases h : m.told i
        · rfl
        · exact absurd ⟨z0, he, h⟩ hh
      rw [decide_eq_true he] at hq
      clear hh z0 he
      go_enter Try.func14, Try.ntmps14
      go_wp2_with fail
      refine (cm _).mono ?_
      rintro e w1 ⟨rfl, hb⟩
      obtain ⟨x0, x1⟩ := (X.later hb).two
      have hbw := below_step hn hb
      go_wp2_with fail
      refine (sk _ (h.later hbw)).mono ?_
      rintro e w2 ⟨rfl, hb2⟩
      obtain ⟨cp, fp⟩ := ((h.later hbw).later hb2).place hP
      rw [hgi] at cp
      obtain ⟨y0, y1⟩ := ((X.later hb).later hb2).two
      obtain ⟨c0, c1, c2, c3, c4, c5⟩ := ((h.later hbw).later hb2).node hi
      rw [ht] at c3
      clear x0 x1
      go_wp2_with fail
      go_quiet (fail)
      go_wp2_with fail
      go_quiet (fail)
      go_wp2_with fail
      go_ret
      exact ⟨rfl, below_step hbw ((hb2.trans (below_draws _ _ _)).trans (below_draws _ _ _))⟩
    · rw [decide_eq_false he] at hq
      clear hh z0 he
      go_enter Try.func14, Try.ntmps14
      go_wp2_with fail
      refine (cm _).mono ?_
      rintro e w1 ⟨rfl, hb⟩
      obtain ⟨x0, x1⟩ := (X.later hb).two
      have hbw := below_step hn hb
      go_wp2_with fail
      refine (sk _ (h.later hbw)).mono ?_
      rintro e w2 ⟨rfl, hb2⟩
      obtain ⟨cp, fp⟩ := ((h.later hbw).later hb2).place hP
      rw [hgi] at cp
      obtain ⟨y0, y1⟩ := ((X.later hb).later hb2).two
      obtain ⟨c0, c1, c2, c3, c4, c5⟩ := ((h.later hbw).later hb2).node hi
      clear x0 x1
      go_wp2_with fail
      go_quiet (fail)
      go_wp2_with fail
      go_quiet (fail)
      go_wp2_with fail
      go_ret
      exact ⟨rfl, below_step hbw ((hb2.trans (below_draws _ _ _)).trans (below_draws _ _ _))⟩
include hA
theorem cut_run (hh : hits m (p0, p1) P) (hu : m.used ≤ 1000) (h1 : stays (m.setTell (m.get P) false 0) ((m.setTell (m.get P) false 0).get P) = false → 0 < (m.setTell (m.get P) false 0).used)
    (hm2 : okM (settleM (m.setTell (m.get P) false 0) P)) (hu2 : (settleM (m.setTell (m.get P) false 0) P).used ≤ 1000)
    (h2 : stays (settleM (m.setTell (m.get P) false 0) P) ((settleM (m.setTell (m.get P) false 0) P).get A) = false → 0 < (settleM (m.setTell (m.get P) false 0) P).used) :
    Calls Try.prog 14 #[.pointer (some ⟨B, 0, none⟩), .agg #[.int .i64 p0, .int .i64 p1]] w fun e w' => e = .returned (.int .i64 0) ∧ Has w' B (cellOf (settleM (settleM (m.setTell (m.get P) false 0) P) A)) ∧ Keeps (only B) w w' := by
  have hn := below_new w (.cells #[.int .i64 p0, .int .i64 p1] 29)
  have X : Lies (w.alloc (.cells #[.int .i64 p0, .int .i64 p1] 29)) w.heap.size [p0, p1] := Lies.new w [p0, p1] 29 rfl
  have cm := fun w => may_any p0 p1 w
  rw [hp] at cm
  have sk := fun w h => seek_any (w := w) (B := B) (m := m) p0 p1 h hm hs
  have c1 := fun w h => settle_any (w := w) (B := B) (m := m.setTell (m.get P) false 0) h (tell_ok hm _ _ _) hP hu h1
  have c2 := fun w h => settle_any (w := w) (B := B) (m := settleM (m.setTell (m.get P) false 0) P) h hm2 hA hu2 h2
  have hi := hm P hP
  obtain ⟨i, hgi⟩ : ∃ i, m.get P = i := ⟨_, rfl⟩
  have hq := fun w => ne_prefix (m.a i) (m.n i) p0 p1 w
  have hne : ((m.a i == p0) && (m.n i == p1)) = decide (m.pre i = (p0, p1)) := by
    rw [Bool.eq_iff_iff]; simp [Mm.pre, Prod.ext_iff]
  rw [hne] at hq
  clear h1 h2 hm2 hu2
  unfold hits at hh
  rw [hgi] at hi hh c1 c2
  have HG : Hid (m.get P = i) := hgi
  obtain ⟨z0, he, ht⟩ := hh
  rw [decide_eq_true he] at hq
  have hi0 : (0 : Int) ≤ (i : Int) := by omega
  have hi1 : (i : Int) < 1001 := by omega
  have e0 : ((i : Int) == 0) = false := by simpa using z0
  clear hs hne z0 he
  go_enter Try.func14, Try.ntmps14
  go_wp2_with fail
  refine (cm _).mono ?_
  rintro e w1 ⟨rfl, hb⟩
  obtain ⟨x0, x1⟩ := (X.later hb).two
  have hbw := below_step hn hb
  go_wp2_with fail
  refine (sk _ (h.later hbw)).mono ?_
  rintro e w2 ⟨rfl, hb2⟩
  have hr := (h.later hbw).later hb2
  have X2 := (X.later hb).later hb2
  have hb3 := below_step hbw hb2
  obtain ⟨cp, fp⟩ := hr.place hP
  rw [hgi] at cp
  clear x0 x1
  go_wp2_with fail
  go_quiet (fail)
  have hbq := below_draws w2.heap.size w2 nq
  replace hr := hr.later hbq
  replace X2 := X2.later hbq
  replace hb3 := below_step hb3 hbq
  clear hbq hb2 cp fp
  generalize w2.drewN nq = w3 at hr X2 hb3
  obtain ⟨cp, fp⟩ := hr.place hP
  rw [hgi] at cp
  obtain ⟨y0, y1⟩ := X2.two
  obtain ⟨c0, c1', c2', c3, c4, c5⟩ := hr.node hi
  rw [ht] at c3
  go_wp2_with fail
  go_quiet (fail)
  have hbq := below_draws w3.heap.size w3 nq
  replace hr := hr.later hbq
  replace hb3 := below_step hb3 hbq
  clear hbq X2 cp fp y0 y1 c0 c1' c2' c3 c4 c5
  generalize w3.drewN nq = w4 at hr hb3
  obtain ⟨c0, c1', c2', c3, c4, c5⟩ := hr.node hi
  obtain ⟨f0, f1, f2, f3, f4, f5⟩ := hr.nodeF hi
  have h4 := hr.setTell hi false 0
  have c7 := (World.cell?_setCell_other w4 ⟨B, i * 6 + 3, none⟩ ⟨B, i * 6 + 2, none⟩ (.bool false) (by intro e; injection e with _ e2; omega)).trans c2'
  have k4 := ((Keeps.of_below (S := only B) hb3).put (i * 6 + 3) (.bool false)).put (i * 6 + 2) (.int .i64 0)
  clear hgi
  go_wp2_with fail
  refine (c1 _ h4).mono ?_
  rintro e w5 ⟨rfl, h5, k5⟩
  go_wp2_with fail
  refine (c2 _ h5).mono ?_
  rintro e w6 ⟨rfl, h6, k6⟩
  go_wp2_with fail
  go_ret
  exact ⟨rfl, by rw [HG.out]; exact h6, (k4.then k5).then k6⟩
end
end Go.Proofs.Ytlgldoggnlcbkaa
