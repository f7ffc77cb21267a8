/- What the code's seek answers: the place of a prefix, and the one above it. -/
import Derived.Test.YtlgldoggnlcbkaaTrieWalk1
import Derived.Deep.LoopGhost
namespace Go.Proofs.Ytlgldoggnlcbkaa
open Go.ChangeShapes Go.WideShapes Go.ChangeAt Go.RowKit Tt
set_option linter.unusedVariables false
set_option linter.unusedSimpArgs false

/-- where a node's number stands -/
inductive Pl where
  | top : Pl
  | kid (i : Nat) (b : Bool) : Pl
  deriving DecidableEq
def Pl.off : Pl → Nat
  | .top => 6006
  | .kid i b => i * 6 + 4 + b.toNat
def Pl.ok : Pl → Prop
  | .top => True
  | .kid i _ => i ≤ 1000
def Mm.get (m : Mm) : Pl → Nat
  | .top => m.root
  | .kid i b => m.kid i b
def Mm.pre (m : Mm) (i : Nat) : P2 := (m.a i, m.n i)
def side (p : P2) (n : Int) : Bool := decide (M.bt p.1 n = 1)
theorem side_nat (p : P2) (n : Int) : M.bt p.1 n = ((side p n).toNat : Nat) := by
  unfold side
  rcases bt_or p.1 n with h | h <;> rw [h] <;> decide
def seekM (m : Mm) (p : P2) : Nat → Pl → Pl → Option (Pl × Pl)
  | 0, _, _ => none
  | f + 1, ab, pl => if m.get pl = 0 then some (ab, pl) else if (m.pre (m.get pl) = p ∨ M.inB (m.a (m.get pl)) (m.n (m.get pl)) p.1 p.2 = false) then some (ab, pl) else seekM m p f pl (.kid (m.get pl) (side p (m.n (m.get pl))))
theorem Has.place {w : World} {B : Nat} {m : Mm} (h : Has w B (cellOf m)) {pl : Pl} (hp : pl.ok) : w.cell? ⟨B, pl.off, none⟩ = some (.int .i64 (m.get pl : Nat)) ∧ w.frozen? ⟨B, pl.off, none⟩ = false := by
  cases pl with
  | top => exact ⟨h.head.1, h.headF.1⟩
  | kid i b => cases b with
    | false => exact ⟨(h.node hp).2.2.2.2.1, (h.nodeF hp).2.2.2.2.1⟩
    | true => exact ⟨(h.node hp).2.2.2.2.2, (h.nodeF hp).2.2.2.2.2⟩
def okM (m : Mm) : Prop := ∀ pl : Pl, pl.ok → m.get pl ≤ 1000
set_option maxRecDepth 100000 in
set_option maxHeartbeats 1000000 in
theorem seek_any {w : World} {B : Nat} {m : Mm} (p0 p1 : Int) (h : Has w B (cellOf m)) (hm : okM m) {f : Nat} {A P : Pl} (hs : seekM m (p0, p1) f .top .top = some (A, P)) :
    Calls Try.prog 26 #[.pointer (some ⟨B, 0, none⟩), .agg #[.int .i64 p0, .int .i64 p1]] w fun e w' => e = .returned (.tuple #[.pointer (some ⟨B, A.off, none⟩), .pointer (some ⟨B, P.off, none⟩)]) ∧ Below w.heap.size w w' := by
  have hn := below_new w (.cells #[.int .i64 p0, .int .i64 p1] 29)
  have X : Lies (w.alloc (.cells #[.int .i64 p0, .int .i64 p1] 29)) w.heap.size [p0, p1] := Lies.new w [p0, p1] 29 rfl
  have h1 := h.later hn
  have hlt := h.lt
  go_enter Try.func26, Try.ntmps26
  have heq := eq_prefix
  go_wp2_with fail
  go_step3
  go_wp2_with fail
  go_region
  all_goals go_wp2_with fail
  all_goals go_step3
  all_goals go_wp2_with fail
  replace h1 := h1.drew
  replace X := X.later ((Below.refl _ _).drew)
  replace hn := hn.drew
  generalize (w.alloc (.cells #[.int .i64 p0, .int .i64 p1] 29)).drew = w1 at h1 X hn
  have hlt1 := X.lt
  have hle := hn.size
  go_loopg [4, 5] f (fun g ab pl wr => ∃ A' P' : Pl, ab = .pointer (some ⟨B, A'.off, none⟩) ∧ pl = .pointer (some ⟨B, P'.off, none⟩) ∧ P'.ok ∧ seekM m (p0, p1) g A' P' = some (A, P) ∧ Below w1.heap.size w1 wr)
  case atStart => exact ⟨.top, .top, rfl, rfl, trivial, hs, Below.refl _ _⟩
  case round =>
    obtain ⟨A', P', rfl, rfl, hok, hs', hbr⟩ := hrel
    obtain ⟨g, rfl⟩ : ∃ g, gk = g + 1 := by
      cases gk with
      | zero => cases hs'
      | succ g => exact ⟨g, rfl⟩
    have hr := h1.later hbr
    obtain ⟨cp, fp⟩ := hr.place hok
    have hi := hm P' hok
    unfold seekM at hs'
    have hgt : ∃ i, m.get P' = i := ⟨_, rfl⟩
    obtain ⟨i, hgi⟩ := hgt
    rw [hgi] at hs' hi cp
    have hsr := hbr.size
    have hltr : w.heap.size < wr.heap.size := Nat.lt_of_lt_of_le hlt1 hsr
    have hBr := hr.lt
    obtain ⟨x0, x1⟩ := (X.later hbr).two
    by_cases hz : i = 0
    · subst hz
      rw [if_pos rfl] at hs'
      obtain ⟨rfl, rfl⟩ : A' = A ∧ P' = P := by simpa using hs'
      clear hs' hgi hs hi
      go_wp2_with fail
      rw [Exit.noGoto_ret]
      go_ret2
      exact ⟨rfl, below_step hn hbr⟩
    · rw [if_neg hz] at hs'
      have hi0 : (0 : Int) ≤ (i : Int) := by omega
      have hi1 : (i : Int) < 1001 := by omega
      have hz2 : ((i : Int) != 0) = true := by simpa using hz
      have hne : ((m.a i == p0) && (m.n i == p1)) = decide (m.pre i = (p0, p1)) := by
        rw [Bool.eq_iff_iff]; simp [Mm.pre, Prod.ext_iff]
      by_cases he : m.pre i = (p0, p1)
      · rw [if_pos (.inl he)] at hs'
        obtain ⟨rfl, rfl⟩ : A' = A ∧ P' = P := by simpa using hs'
        have hq := fun w => heq (m.a i) (m.n i) p0 p1 w
        rw [hne, decide_eq_true he] at hq
        clear hs' hgi hs heq hne he
        go_wp2_with fail
        go_quiet (fail)
        have hb2 : Below w1.heap.size w1 (wr.drewN nq) := hbr.trans (below_draws _ _ _)
        generalize wr.drewN nq = w2 at hb2
        clear cp fp x0 x1 hr hbr hsr hltr hBr
        have hr := h1.later hb2
        obtain ⟨c0, c1, c2, c3, c4, c5⟩ := hr.node hi
        have hltr : w.heap.size < w2.heap.size := Nat.lt_of_lt_of_le hlt1 hb2.size
        have hBr := hr.lt
        obtain ⟨x0, x1⟩ := (X.later hb2).two
        go_wp2_with fail
        rw [Exit.noGoto_ret]
        go_ret2
        exact ⟨rfl, below_step hn (hb2.alloc hb2.size _)⟩
      · have hq := fun w => heq (m.a i) (m.n i) p0 p1 w
        rw [hne, decide_eq_false he] at hq
        have cw := fun w => within_any (m.a i) (m.n i) p0 p1 w
        cases hin : M.inB (m.a i) (m.n i) p0 p1
        · rw [if_pos (.inr hin)] at hs'
          obtain ⟨rfl, rfl⟩ : A' = A ∧ P' = P := by simpa using hs'
          rw [hin] at cw
          clear hs' hgi hs heq hne he hin
          go_wp2_with fail
          go_quiet (fail)
          have hb2 : Below w1.heap.size w1 (wr.drewN nq) := hbr.trans (below_draws _ _ _)
          generalize wr.drewN nq = w2 at hb2
          clear cp fp x0 x1 hr hbr hsr hltr hBr
          have hr := h1.later hb2
          obtain ⟨c0, c1, c2, c3, c4, c5⟩ := hr.node hi
          have hltr : w.heap.size < w2.heap.size := Nat.lt_of_lt_of_le hlt1 hb2.size
          have hBr := hr.lt
          obtain ⟨x0, x1⟩ := (X.later hb2).two
          go_wp2_with fail
          refine (cw _).mono ?_
          rintro e w5 ⟨rfl, hb5⟩
          go_wp2_with fail
          rw [Exit.noGoto_ret]
          go_ret2
          exact ⟨rfl, below_step hn (below_step (hb2.alloc hb2.size _) hb5)⟩
        · rw [if_neg (by rintro (h | h); exact he h; exact absurd (hin.symm.trans h) (by decide))] at hs'
          have SK : Hid (seekM m (p0, p1) g P' (.kid i (side (p0, p1) (m.n i))) = some (A, P)) := hs'
          have cb := fun w => bit_any p0 (m.n i) w
          rw [side_nat (p0, p1)] at cb
          rw [hin] at cw
          clear hs' hgi hs heq hne he hin
          have hsd : (side (p0, p1) (m.n i)).toNat < 2 := by cases side (p0, p1) (m.n i) <;> decide
          have hoff : Hid ((Pl.kid i (side (p0, p1) (m.n i))).off = i * 6 + 4 + (side (p0, p1) (m.n i)).toNat) := rfl
          obtain ⟨d, hd⟩ : ∃ d, d = (side (p0, p1) (m.n i)).toNat := ⟨_, rfl⟩
          have HD : Hid (d = (side (p0, p1) (m.n i)).toNat) := hd
          rw [← hd] at cb hsd hoff
          clear hd
          have hd0 : (0 : Int) ≤ (d : Int) := by omega
          have hd1 : (d : Int) < 2 := by omega
          have HO : Hid (∃ oa op, A'.off = oa ∧ P'.off = op) := ⟨_, _, rfl, rfl⟩
          go_wp2_with fail
          go_quiet (fail)
          have hb2 : Below w1.heap.size w1 (wr.drewN nq) := hbr.trans (below_draws _ _ _)
          generalize wr.drewN nq = w2 at hb2
          clear cp fp x0 x1 hr hbr hsr hltr hBr
          have hr := h1.later hb2
          obtain ⟨c0, c1, c2, c3, c4, c5⟩ := hr.node hi
          have hltr : w.heap.size < w2.heap.size := Nat.lt_of_lt_of_le hlt1 hb2.size
          have hBr := hr.lt
          obtain ⟨x0, x1⟩ := (X.later hb2).two
          go_wp2_with fail
          refine (cw _).mono ?_
          rintro e w5 ⟨rfl, hb5⟩
          have Q : Lies (w2.alloc (.cells #[.int .i64 (m.a i), .int .i64 (m.n i)] 29)) w2.heap.size [m.a i, m.n i] := Lies.new w2 [m.a i, m.n i] 29 rfl
          obtain ⟨q0, q1⟩ := (Q.later hb5).two
          have hb6 := hb2.trans ((below_step (below_new w2 (.cells #[.int .i64 (m.a i), .int .i64 (m.n i)] 29)) hb5).mono hb2.size)
          obtain ⟨z0, z1⟩ := (X.later hb6).two
          clear x0 x1 c0 c1 c2 c3 c4 c5
          go_wp2_with fail
          go_quiet ((go_at_call 41; exact Calls.quiet_of_same (cb _)))
          go_wp2_with fail
          go_roundg g
          case measure => omega
          case rel => exact ⟨P', .kid i (side (p0, p1) (m.n i)), rfl, by rw [hoff.out], hi, SK.out, hb6.trans (below_draws _ _ _)⟩
end Go.Proofs.Ytlgldoggnlcbkaa
