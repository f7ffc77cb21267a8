/- What the code's lack answers: the nodes that a prefix is missing. -/
import Derived.Test.YtlgldoggnlcbkaaTrieRaise
namespace Go.Proofs.Ytlgldoggnlcbkaa
open Go.ChangeShapes Go.WideShapes Go.ChangeAt Go.RowKit Tt
set_option linter.unusedVariables false
set_option linter.unusedSimpArgs false

theorem rds_news {α : Type} {f : α → List Int} {sz : Nat} (hf : ∀ x, (f x).length = sz) (W : World) (l : List α) (e : TypeId) (hw : ∀ x ∈ l, ∀ z ∈ f x, (Lit.int .i64 z).wf = true) (hl : l.length ≤ 100) {B n : Nat} (hB : W.heap.size = B) (hn : l.length = n) {cs : Array Value} (hc : cs = (flatV f l).toArray) :
    Rds f sz (W.alloc (.cells cs e)) (some ⟨B, 0, none⟩) n l := by
  subst hB hn hc
  refine ⟨Nat.le_refl _, by unfold maxLen; omega, hw, fun h => (nomatch h), fun _ => ⟨_, _, rfl, by simp, fun i x hx j u hu => ?_⟩⟩
  have := World.news_of_block (heap_alloc_new W (.cells (flatV f l).toArray e)) (i * sz + j) (.int .i64 u) (by simpa using flatV_get hf hx hu)
  rw [Addr.add_lit] at this
  simpa using this
def lackM (m : Mm) (p : P2) (P : Pl) : List P2 :=
  if m.get P = 0 then [p] else if m.pre (m.get P) = p then [] else if M.inB p.1 p.2 (m.a (m.get P)) (m.n (m.get P)) = true then [p] else
    [(M.ct p.1 (M.cmN p.1 (m.a (m.get P)) : Nat), M.cl (M.cmN p.1 (m.a (m.get P)) : Nat)), p]
theorem ct_wf (a n : Int) : (Lit.int .i64 (M.ct a n)).wf = true := by have := M.ct_bd a n; exact wf_i64_mk (by omega) (by omega)
theorem cl_wf (n : Int) : (Lit.int .i64 (M.cl n)).wf = true := by have := M.cl_lo n; have := M.cl_hi n; exact wf_i64_mk (by omega) (by omega)
theorem keptL {w w1 w' : World} {b c : Nat} {p0 p1 q0 : Int} (h : Below w.heap.size w w1 ∧ (b < w1.heap.size ∧ c < w1.heap.size) ∧ w1.cell? ⟨b, 0, none⟩ = some (.int .i64 p0) ∧ w1.cell? ⟨b, 1, none⟩ = some (.int .i64 p1) ∧ w1.cell? ⟨c, 0, none⟩ = some (.int .i64 q0)) (hb : Below w1.heap.size w1 w') :
    Below w.heap.size w w' ∧ (b < w'.heap.size ∧ c < w'.heap.size) ∧ w'.cell? ⟨b, 0, none⟩ = some (.int .i64 p0) ∧ w'.cell? ⟨b, 1, none⟩ = some (.int .i64 p1) ∧ w'.cell? ⟨c, 0, none⟩ = some (.int .i64 q0) :=
  ⟨below_step h.1 hb, ⟨Nat.lt_of_lt_of_le h.2.1.1 hb.size, Nat.lt_of_lt_of_le h.2.1.2 hb.size⟩, (hb.cell (p := ⟨b, 0, none⟩) h.2.1.1).trans h.2.2.1, (hb.cell (p := ⟨b, 1, none⟩) h.2.1.1).trans h.2.2.2.1, (hb.cell (p := ⟨c, 0, none⟩) h.2.1.2).trans h.2.2.2.2⟩
section
set_option maxRecDepth 100000
set_option maxHeartbeats 1000000
variable {w : World} {B : Nat} {m : Mm} (p0 p1 : Int) (w0 : (Lit.int .i64 p0).wf = true) (w1 : (Lit.int .i64 p1).wf = true) (h : Has w B (cellOf m)) (hm : okM m) {f : Nat} {A P : Pl} (hs : seekM m (p0, p1) f .top .top = some (A, P)) (hP : P.ok)
include w0 w1 h hm hs hP
theorem lack_any :
    Calls Try.prog 24 #[.pointer (some ⟨B, 0, none⟩), .agg #[.int .i64 p0, .int .i64 p1]] w fun e w' => ∃ x c, e = .returned (.slice x (lackM m (p0, p1) P).length c) ∧ (Rds fP 2 w' x c (lackM m (p0, p1) P) ∧ ∀ y, x = some y → w.heap.size ≤ y.block) ∧ Below w.heap.size w w' := by
  have hn := below_new w (.cells #[.int .i64 p0, .int .i64 p1] 29)
  have X : Lies (w.alloc (.cells #[.int .i64 p0, .int .i64 p1] 29)) w.heap.size [p0, p1] := Lies.new w [p0, p1] 29 rfl
  have h1 := h.later hn
  have hlt := h.lt
  have heq := eq_prefix
  have hi := hm P hP
  have RM : Hid (lackM m (p0, p1) P = if m.get P = 0 then [(p0, p1)] else if m.pre (m.get P) = (p0, p1) then [] else if M.inB p0 p1 (m.a (m.get P)) (m.n (m.get P)) = true then [(p0, p1)] else
    [(M.ct p0 (M.cmN p0 (m.a (m.get P)) : Nat), M.cl (M.cmN p0 (m.a (m.get P)) : Nat)), (p0, p1)]) := rfl
  have hw2 : ∀ x ∈ [(p0, p1)], ∀ z ∈ fP x, (Lit.int .i64 z).wf = true := by
    intro x hx z hz
    rw [List.mem_singleton.1 hx] at hz
    simp only [fP, List.mem_cons, List.not_mem_nil, or_false] at hz
    rcases hz with rfl | rfl <;> assumption
  obtain ⟨i, hgi⟩ : ∃ i, m.get P = i := ⟨_, rfl⟩
  have HG : Hid (m.get P = i) := hgi
  rw [hgi] at hi
  have RG : Hid (lackM m (p0, p1) P = if i = 0 then [(p0, p1)] else if m.pre i = (p0, p1) then [] else if M.inB p0 p1 (m.a i) (m.n i) = true then [(p0, p1)] else
    [(M.ct p0 (M.cmN p0 (m.a i) : Nat), M.cl (M.cmN p0 (m.a i) : Nat)), (p0, p1)]) := by have := RM.out; rw [hgi] at this; exact this
  clear RM
  have hi0 : (0 : Int) ≤ (i : Int) := by omega
  have hi1 : (i : Int) < 1001 := by omega
  have hne : ((m.a i == p0) && (m.n i == p1)) = decide (m.pre i = (p0, p1)) := by
    rw [Bool.eq_iff_iff]; simp [Mm.pre, Prod.ext_iff]
  have hq := fun w => heq (m.a i) (m.n i) p0 p1 w
  rw [hne] at hq
  clear heq hne
  have sk := fun w h => seek_any (w := w) (B := B) (m := m) p0 p1 h hm hs
  clear hs
  go_enter Try.func24, Try.ntmps24
  go_wp2_with fail
  refine (sk _ h1).mono ?_
  rintro e w2 ⟨rfl, hb2⟩
  have hbw := below_step hn hb2
  have hl2 := Nat.lt_of_lt_of_le hlt hbw.size
  obtain ⟨cp, fp⟩ := (h1.later hb2).place hP
  rw [hgi] at cp
  obtain ⟨c0, c1, c2, c3, c4, c5⟩ := (h1.later hb2).node hi
  have X2 := X.later hb2
  obtain ⟨x0, x1⟩ := X2.two
  have hl3 : w.heap.size < w2.heap.size := X2.lt
  have hb3 := (below_new w2 (.cells #[.int .i64 (m.a i), .int .i64 (m.n i)] 29)).drew
  have W3 : Hid ((w2.alloc (.cells #[.int .i64 (m.a i), .int .i64 (m.n i)] 29)).drew.heap.size = w2.heap.size + 1) := by show _ = _; simp
  by_cases hz : i = 0
  · subst hz
    rw [if_pos rfl] at RG
    go_wp2_with fail
    go_region
    go_wp2_with fail
    go_ret
    rw [RG.out]
    exact ⟨_, _, rfl, ⟨(rds_news fP_len (w2.alloc (.cells #[.int .i64 (m.a 0), .int .i64 (m.n 0)] 29)) [(p0, p1)] 29 hw2 (by simp) (by simp) rfl rfl).later (Below.refl _ _).drew, fun y hy => by cases hy; show w.heap.size ≤ w2.heap.size + 1; omega⟩, below_step hbw (below_step (below_new _ _) (below_new _ _)).drew⟩
  · rw [if_neg hz] at RG
    have hz2 : ((i : Int) == 0) = false := by simpa using hz
    clear hz
    by_cases he : m.pre i = (p0, p1)
    · rw [if_pos he] at RG
      rw [decide_eq_true he] at hq
      clear he
      go_wp2_with fail
      go_region
      go_wp2_with fail
      go_ret
      rw [RG.out]
      exact ⟨_, _, rfl, ⟨Rds.none _ _ _, fun y hy => by cases hy⟩, below_step hbw hb3⟩
    · rw [if_neg he] at RG
      rw [decide_eq_false he] at hq
      clear he
      have cw := fun w => within_any p0 p1 (m.a i) (m.n i) w
      cases hin : M.inB p0 p1 (m.a i) (m.n i)
      · rw [if_neg (by rw [hin]; decide)] at RG
        rw [hin] at cw
        clear hin
        go_wp2_with fail
        go_region
        go_wp2_with fail
        refine (cw _).mono ?_
        rintro e w5 ⟨rfl, hb5⟩
        have Q : Lies (w2.alloc (.cells #[.int .i64 (m.a i), .int .i64 (m.n i)] 29)).drew w2.heap.size [m.a i, m.n i] := (Lies.new w2 [m.a i, m.n i] 29 rfl).later (Below.refl _ _).drew
        obtain ⟨q0, q1⟩ := (Q.later hb5).two
        have X5 := (X2.later hb3).later hb5
        obtain ⟨y0, y1⟩ := X5.two
        have hb6 := below_step hbw (below_step hb3 hb5)
        have hl5 := X5.lt
        have hl6 := (Q.later hb5).lt
        clear x0 x1 cp fp c0 c1 c2 c3 c4 c5
        have S00 : Below w5.heap.size w5 w5 ∧ (w.heap.size < w5.heap.size ∧ w2.heap.size < w5.heap.size) ∧ w5.cell? ⟨w.heap.size, 0, none⟩ = some (.int .i64 p0) ∧ w5.cell? ⟨w.heap.size, 1, none⟩ = some (.int .i64 p1) ∧ w5.cell? ⟨w2.heap.size, 0, none⟩ = some (.int .i64 (m.a i)) := ⟨Below.refl _ _, ⟨hl5, hl6⟩, y0, y1, q0⟩
        have S0 := keptL S00 (Below.refl _ _).drew
        have cc := fun w => common_any p0 (m.a i) w
        have ck := fun w => cut_any p0 ((M.cmN p0 (m.a i) : Nat) : Int) w
        generalize M.cmN p0 (m.a i) = g at cc ck RG
        go_wp2_with fail
        go_region_held3 (fun w' => Below w5.heap.size w5 w' ∧ (w.heap.size < w'.heap.size ∧ w2.heap.size < w'.heap.size) ∧ w'.cell? ⟨w.heap.size, 0, none⟩ = some (.int .i64 p0) ∧ w'.cell? ⟨w.heap.size, 1, none⟩ = some (.int .i64 p1) ∧ w'.cell? ⟨w2.heap.size, 0, none⟩ = some (.int .i64 (m.a i)))
          (first | assumption | exact keptL (by assumption) (by assumption) | exact keptL (by assumption) (below_new _ _))
          (first | (go_at_call 39; refine (cc _).mono ?_; rintro e w6 ⟨rfl, rfl⟩) | (go_at_call 38; refine (ck _).mono ?_; rintro e w7 ⟨rfl, hb7⟩))
        all_goals go_wp2_with fail
        have hb8 : Below w5.heap.size w5 w7 := below_step (Below.refl _ _).drew hb7
        have hw4 : ∀ x ∈ [(M.ct p0 (g : Int), M.cl (g : Int)), (p0, p1)], ∀ z ∈ fP x, (Lit.int .i64 z).wf = true := by
          intro x hx z hz
          rcases List.mem_cons.1 hx with rfl | hx
          · simp only [fP, List.mem_cons, List.not_mem_nil, or_false] at hz
            rcases hz with rfl | rfl
            · exact ct_wf _ _
            · exact cl_wf _
          · exact hw2 x hx z hz
        go_ret
        rw [RG.out]
        exact ⟨_, _, rfl, ⟨rds_news fP_len w7 [(M.ct p0 (g : Int), M.cl (g : Int)), (p0, p1)] 29 hw4 (by simp) rfl rfl rfl, fun y hy => by cases hy; exact Nat.le_trans hb6.size hb8.size⟩, below_step hb6 (below_step hb8 (below_new _ _))⟩
      · rw [if_pos hin] at RG
        rw [hin] at cw
        clear hin
        go_wp2_with fail
        go_region
        go_wp2_with fail
        refine (cw _).mono ?_
        rintro e w5 ⟨rfl, hb5⟩
        have X5 := (X2.later hb3).later hb5
        obtain ⟨y0, y1⟩ := X5.two
        have hl5 := X5.lt
        clear x0 x1 cp fp c0 c1 c2 c3 c4 c5
        go_wp2_with fail
        go_ret
        rw [RG.out]
        exact ⟨_, _, rfl, ⟨rds_news fP_len _ [(p0, p1)] 29 hw2 (by simp) rfl rfl rfl, fun y hy => by cases hy; exact Nat.le_trans (Nat.le_trans hbw.size hb3.size) hb5.size⟩, below_step hbw (below_step hb3 (below_step hb5 (below_new _ _)))⟩
end
end Go.Proofs.Ytlgldoggnlcbkaa
