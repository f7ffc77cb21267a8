/- What the code's raise does to a trie's memory. -/
import Derived.Test.YtlgldoggnlcbkabTrieSeek
namespace Go.Proofs.Ytlgldoggnlcbkab
open Go.ChangeShapes Go.WideShapes Go.ChangeAt Go.RowKit Tt
set_option linter.unusedVariables false
set_option linter.unusedSimpArgs false

def Mm.put (m : Mm) : Pl → Nat → Mm
  | .top, x => { m with root := x }
  | .kid i b, x => m.setKid i b x
theorem get_put (m : Mm) (P : Pl) (x : Nat) : (m.put P x).get P = x := by cases P <;> simp [Mm.put, Mm.get, Mm.setKid]
theorem Has.put {w : World} {B : Nat} {m : Mm} (h : Has w B (cellOf m)) {P : Pl} (hP : P.ok) (x : Nat) : Has (w.setCell ⟨B, P.off, none⟩ (.int .i64 x)) B (cellOf (m.put P x)) := by
  cases P with
  | top => exact h.setRoot x
  | kid i b => exact h.setKid hP b x
def raise1 (m : Mm) (p : P2) (P : Pl) : Mm := { (m.take p).put P m.free with used := m.used + 1 }
def raiseM (m : Mm) (p : P2) (P : Pl) : Mm := if m.get P = 0 then raise1 m p P else (raise1 m p P).setKid m.free (side ((raise1 m p P).pre (m.get P)) p.2) (m.get P)
theorem raise1_used (m : Mm) (p : P2) (P : Pl) : ((m.take p).put P m.free).used = m.used := by cases P <;> rfl
theorem raise1_get (m : Mm) (p : P2) (P : Pl) : (raise1 m p P).get P = m.free := by
  cases P with
  | top => rfl
  | kid i b => exact get_put (m.take p) (.kid i b) m.free
theorem Keeps.lt {S : Nat → Prop} {w w' : World} (h : Keeps S w w') {k : Nat} (hk : k < w.heap.size) : k < w'.heap.size := Nat.lt_of_lt_of_le hk h.size
theorem Lies.kept {S : Nat → Prop} {w w' : World} {B : Nat} {l : List Int} (X : Lies w B l) (hk : Keeps S w w') (hn : ¬ S B) : Lies w' B l :=
  ⟨hk.lt X.lt, fun j x hx => (hk.cell (p := ⟨B, j, none⟩) X.lt hn).trans (X.cells j x hx), fun j => (hk.frozen (p := ⟨B, j, none⟩) X.lt hn).trans (X.fz j)⟩
theorem wrap64_nat {n : Nat} (h : n ≤ 1001) : wrap64 ((n : Int) + 1) = ((n + 1 : Nat) : Int) := by unfold wrap64; omega
set_option maxRecDepth 100000 in
set_option maxHeartbeats 1000000 in
theorem raise_any {w : World} {B : Nat} {m : Mm} (p0 p1 : Int) (h : Has w B (cellOf m)) (hm : okM m) {f : Nat} {A P : Pl} (hs : seekM m (p0, p1) f .top .top = some (A, P)) (hP : P.ok) (hf : m.free ≤ 1000) (hu : m.used ≤ 1000) :
    Calls Try.prog 15 #[.pointer (some ⟨B, 0, none⟩), .agg #[.int .i64 p0, .int .i64 p1]] w fun e w' => e = .returned (.tuple #[]) ∧ Has w' B (cellOf (raiseM m (p0, p1) P)) ∧ Keeps (only B) w w' := by
  have hn := below_new w (.cells #[.int .i64 p0, .int .i64 p1] 24)
  have X : Lies (w.alloc (.cells #[.int .i64 p0, .int .i64 p1] 24)) w.heap.size [p0, p1] := Lies.new w [p0, p1] 24 rfl
  have h1 := h.later hn
  have hlt := h.lt
  have hnB : ¬ only B w.heap.size := fun e => by unfold only at e; omega
  have RM : Hid (raiseM m (p0, p1) P = if m.get P = 0 then raise1 m (p0, p1) P else (raise1 m (p0, p1) P).setKid m.free (side ((raise1 m (p0, p1) P).pre (m.get P)) p1) (m.get P)) := rfl
  have G1 : Hid ((raise1 m (p0, p1) P).get P = m.free) := raise1_get m (p0, p1) P
  have U1 : Hid (((m.take (p0, p1)).put P m.free).used = m.used) := raise1_used m (p0, p1) P
  have hi := hm P hP
  obtain ⟨i, hgi⟩ : ∃ i, m.get P = i := ⟨_, rfl⟩
  have HG : Hid (m.get P = i) := hgi
  rw [hgi] at hi
  have sk := fun w h => seek_any (w := w) (B := B) (m := m) p0 p1 h hm hs
  clear hs
  go_enter Try.func15, Try.ntmps15
  go_wp2_with fail
  refine (sk _ h1).mono ?_
  rintro e w2 ⟨rfl, hb2⟩
  have h2 := h1.later hb2
  have k2 : Keeps (only B) w w2 := Keeps.of_below (below_step hn hb2)
  obtain ⟨x0, x1⟩ := (X.later hb2).two
  obtain ⟨cp, fp⟩ := h2.place hP
  rw [hgi] at cp
  go_wp2_with fail
  refine (take_any p0 p1 h2 hf).mono ?_
  rintro e w3 ⟨rfl, h3, k3⟩
  obtain ⟨cp3, fp3⟩ := h3.place hP
  have h4 := h3.put hP m.free
  obtain ⟨r0, r1, r2, r3⟩ := h4.head
  obtain ⟨g0, g1, g2, g3⟩ := h4.headF
  rw [U1.out] at r3
  have h5 : Has ((w3.setCell ⟨B, P.off, none⟩ (.int .i64 (m.free : Nat))).setCell ⟨B, 6009, none⟩ (.int .i64 ((m.used : Int) + 1))) B (cellOf (raise1 m (p0, p1) P)) := h4.setUsed (m.used + 1)
  have k5 : Keeps (only B) w ((w3.setCell ⟨B, P.off, none⟩ (.int .i64 (m.free : Nat))).setCell ⟨B, 6009, none⟩ (.int .i64 ((m.used : Int) + 1))) := ((k2.then k3).put _ _).put _ _
  have X5 := (X.later hb2).kept ((k3.put P.off (.int .i64 (m.free : Nat))).put 6009 (.int .i64 ((m.used : Int) + 1))) hnB
  have hw : wrap64 ((m.used : Int) + 1) = (m.used : Int) + 1 := wrap64_nat (by omega)
  by_cases hz : i = 0
  · subst hz
    go_wp2_with fail
    go_end0
    exact ⟨rfl, by rw [RM.out, if_pos HG.out]; exact h5, k5⟩
  · have hz2 : ((i : Int) != 0) = true := by simpa using hz
    have HZ : Hid (¬ m.get P = 0) := fun e => hz (HG.out.symm.trans e)
    clear hz
    go_wp2_with fail
    clear cp3 fp3 h4 r0 r1 r2 r3 g0 g1 g2 g3 x0 x1 cp fp hw
    generalize (w3.setCell ⟨B, P.off, none⟩ (.int .i64 (m.free : Nat))).setCell ⟨B, 6009, none⟩ (.int .i64 ((m.used : Int) + 1)) = w5 at h5 k5 X5
    obtain ⟨c0, c1, c2, c3, c4, c5⟩ := h5.node hi
    obtain ⟨x0, x1⟩ := X5.two
    obtain ⟨cp, fp⟩ := h5.place hP
    rw [G1.out] at cp
    have hi0 : (0 : Int) ≤ (i : Int) := by omega
    have hi1 : (i : Int) < 1001 := by omega
    have hf0 : (0 : Int) ≤ (m.free : Int) := by omega
    have hf1 : (m.free : Int) < 1001 := by omega
    have cb := fun w => bit_any ((raise1 m (p0, p1) P).a i) p1 w
    rw [show M.bt ((raise1 m (p0, p1) P).a i) p1 = ((side ((raise1 m (p0, p1) P).pre i) p1).toNat : Nat) from side_nat ((raise1 m (p0, p1) P).pre i) p1] at cb
    have h6 := fun n => (h5.later (below_draws _ _ n)).setKid hf (side ((raise1 m (p0, p1) P).pre i) p1) i
    have k6 := fun n => (k5.after (below_draws _ _ n)).put (m.free * 6 + 4 + (side ((raise1 m (p0, p1) P).pre i) p1).toNat) (.int .i64 (i : Nat))
    have hsd : (side ((raise1 m (p0, p1) P).pre i) p1).toNat < 2 := by cases side ((raise1 m (p0, p1) P).pre i) p1 <;> decide
    obtain ⟨e0, e1⟩ := h5.place (pl := .kid m.free (side ((raise1 m (p0, p1) P).pre i) p1)) hf
    have hof : (Pl.kid m.free (side ((raise1 m (p0, p1) P).pre i) p1)).off = m.free * 6 + 4 + (side ((raise1 m (p0, p1) P).pre i) p1).toNat := rfl
    rw [hof] at e0 e1
    clear hof
    have R6 : Hid (raiseM m (p0, p1) P = (raise1 m (p0, p1) P).setKid m.free (side ((raise1 m (p0, p1) P).pre i) p1) i) := by
      show raiseM m (p0, p1) P = _
      rw [RM.out, if_neg HZ.out, HG.out]
    generalize (side ((raise1 m (p0, p1) P).pre i) p1).toNat = d at cb h6 k6 hsd e0 e1
    have hd0 : (0 : Int) ≤ (d : Int) := by omega
    have hd1 : (d : Int) < 2 := by omega
    go_quiet ((go_at_call 23; exact Calls.quiet_of_same (cb _)))
    go_wp2_with fail
    go_region
    all_goals go_wp2_with fail
    go_end0
    exact ⟨rfl, by rw [R6.out]; exact h6 _, k6 _⟩
end Go.Proofs.Ytlgldoggnlcbkab
