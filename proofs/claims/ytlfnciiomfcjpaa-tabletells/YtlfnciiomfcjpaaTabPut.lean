/- What the document's Put answers where it may not, and rules written into a row. -/
import Derived.Test.YtlfnciiomfcjpaaTabWith
import Derived.Test.YtlfnciiomfcjpaaRuleRefMay
namespace Go.Proofs.Ytlfnciiomfcjpaa
open Go.ChangeShapes Go.WideShapes Go.ChangeAt Go.RowKit Pk Tb R
set_option linter.unusedVariables false
set_option linter.unusedSimpArgs false

theorem fR_set (rs : List Rl) (k : Nat) (r : Rl) (hk : k < rs.length) : ((((((flatV fR rs).set (k * 6 + 0) (.int .i64 r.a)).set (k * 6 + 1) (.int .i64 r.n)).set (k * 6 + 2) (.int .i64 r.i)).set (k * 6 + 3) (.int .i64 r.p)).set (k * 6 + 4) (.int .i64 r.k)).set (k * 6 + 5) (.int .i64 r.t) = flatV fR (rs.set k r) := by
  induction rs generalizing k with
  | nil => exact absurd hk (Nat.not_lt_zero _)
  | cons s rs ih =>
    have e : flatV fR (s :: rs) = .int .i64 s.a :: .int .i64 s.n :: .int .i64 s.i :: .int .i64 s.p :: .int .i64 s.k :: .int .i64 s.t :: flatV fR rs := rfl
    cases k with
    | zero => rfl
    | succ k =>
      have h := ih k (Nat.lt_of_succ_lt_succ hk)
      have e1 : ∀ j, (k + 1) * 6 + j = k * 6 + j + 1 + 1 + 1 + 1 + 1 + 1 := fun j => by omega
      rw [e, e1 0, e1 1, e1 2, e1 3, e1 4, e1 5]
      exact congrArg (fun z => Value.int .i64 s.a :: Value.int .i64 s.n :: Value.int .i64 s.i :: Value.int .i64 s.p :: Value.int .i64 s.k :: Value.int .i64 s.t :: z) h
theorem grown_trans {w w' w2 : World} {row : Option Nat} (h : w.grownBy w' row) (h2 : w'.grownBy w2 row) : w.grownBy w2 row :=
  ⟨h2.os.trans h.os, h2.tape.trans h.tape, h2.output.trans h.output, Nat.le_trans h.size h2.size, fun k hk hn => (h2.block k (Nat.lt_of_lt_of_le hk h.size) hn).trans (h.block k hk hn)⟩
/-- a rule written into a row of rules -/
theorem own_put6 {w : World} {B g cap n k : Nat} {e : TypeId} {rs : List Rl} (own : w.ownsRow B e 6 (.slice (some ⟨g, 0, none⟩) n cap) n (flatV fR rs)) (hk : k < rs.length) (r : Rl) :
    ((((((w.setCell ⟨g, k * 6 + 0, none⟩ (.int .i64 r.a)).setCell ⟨g, k * 6 + 1, none⟩ (.int .i64 r.n)).setCell ⟨g, k * 6 + 2, none⟩ (.int .i64 r.i)).setCell ⟨g, k * 6 + 3, none⟩ (.int .i64 r.p)).setCell ⟨g, k * 6 + 4, none⟩ (.int .i64 r.k)).setCell ⟨g, k * 6 + 5, none⟩ (.int .i64 r.t)).ownsRow B e 6 (.slice (some ⟨g, 0, none⟩) n cap) n (flatV fR (rs.set k r)) ∧
    w.grownBy ((((((w.setCell ⟨g, k * 6 + 0, none⟩ (.int .i64 r.a)).setCell ⟨g, k * 6 + 1, none⟩ (.int .i64 r.n)).setCell ⟨g, k * 6 + 2, none⟩ (.int .i64 r.i)).setCell ⟨g, k * 6 + 3, none⟩ (.int .i64 r.p)).setCell ⟨g, k * 6 + 4, none⟩ (.int .i64 r.k)).setCell ⟨g, k * 6 + 5, none⟩ (.int .i64 r.t)) (some g) := by
  rw [← fR_set rs k r hk]
  obtain ⟨o0, g0⟩ := own.stored (k * 6 + 0) (.int .i64 r.a)
  obtain ⟨o1, g1⟩ := o0.stored (k * 6 + 1) (.int .i64 r.n)
  obtain ⟨o2, g2⟩ := o1.stored (k * 6 + 2) (.int .i64 r.i)
  obtain ⟨o3, g3⟩ := o2.stored (k * 6 + 3) (.int .i64 r.p)
  obtain ⟨o4, g4⟩ := o3.stored (k * 6 + 4) (.int .i64 r.k)
  obtain ⟨o5, g5⟩ := o4.stored (k * 6 + 5) (.int .i64 r.t)
  exact ⟨o5, grown_trans (grown_trans (grown_trans (grown_trans (grown_trans g0 g1) g2) g3) g4) g5⟩
section
variable {B : Nat} {a : Option Addr} {c : Nat} {l : List Vr}
set_option maxHeartbeats 2000000 in
theorem rput_arg (w : World) (V : Vers B w a c l) (t m ra rn ri rp rk rt : Int) (h : mayR ⟨ra, rn, ri, rp, rk, rt⟩ = false ∨ t < 1 ∨ 4095 < t) :
    Calls Try.prog 13 #[.slice a l.length c, .int .i64 t, .agg #[.int .i64 ra, .int .i64 rn, .int .i64 ri, .int .i64 rp, .int .i64 rk, .int .i64 rt], .int .i64 m] w fun e w' => e = .returned (.tuple #[.slice a l.length c, .int .i64 1]) ∧ Below w.heap.size w w' := by
  have hb0 := below_new w (.cells #[.int .i64 ra, .int .i64 rn, .int .i64 ri, .int .i64 rp, .int .i64 rk, .int .i64 rt] 28)
  have X := Lies.new w [ra, rn, ri, rp, rk, rt] 28 rfl
  obtain ⟨x0, x1, x2, x3, x4, x5⟩ := X.six
  have cM := rrMay_any ra rn ri rp rk rt (w.alloc (.cells #[.int .i64 ra, .int .i64 rn, .int .i64 ri, .int .i64 rp, .int .i64 rk, .int .i64 rt] 28))
  by_cases hm : okR ra rn ri rp rk rt = false
  · rw [hm] at cM
    clear h
    go_enter Try.func13, Try.ntmps13
    go_wp2_with fail
    refine cM.mono ?_
    clear cM
    rintro e w1 ⟨rfl, hb1⟩
    go_wp2_with fail
    go_ret2
    exact ⟨rfl, below_step hb0 hb1⟩
  · have hm2 : okR ra rn ri rp rk rt = true := by simpa using hm
    rw [hm2] at cM
    by_cases ht : t < 1
    · have htb : decide (t < 1) = true := decide_eq_true ht
      clear h
      go_enter Try.func13, Try.ntmps13
      go_wp2_with fail
      refine cM.mono ?_
      clear cM
      rintro e w1 ⟨rfl, hb1⟩
      go_wp2_with fail
      go_ret2
      exact ⟨rfl, below_step hb0 hb1⟩
    · have htb : decide (t < 1) = false := decide_eq_false ht
      have ht2 : decide (4095 < t) = true := by
        rcases h with h | h | h
        · exact absurd h hm
        · exact absurd h ht
        · exact decide_eq_true h
      clear h hm hm2 ht
      go_enter Try.func13, Try.ntmps13
      go_wp2_with fail
      refine cM.mono ?_
      clear cM
      rintro e w1 ⟨rfl, hb1⟩
      go_wp2_with fail
      go_ret2
      exact ⟨rfl, below_step hb0 hb1⟩
end
end Go.Proofs.Ytlfnciiomfcjpaa
