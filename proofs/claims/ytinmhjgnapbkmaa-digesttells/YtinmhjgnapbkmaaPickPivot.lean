/- What the library's choice of a pivot answers: a place of the part, and a hint; the row stays as it was. -/
import Derived.Test.YtinmhjgnapbkmaaPickMed
namespace Go.Proofs.Ytinmhjgnapbkmaa
open Go.ChangeShapes Go.WideShapes Go.ChangeAt Go.RowKit Go.Sort Go.Shelf
set_option linter.unusedVariables false
set_option linter.unusedSimpArgs false

theorem pivot_facts (a b N : Nat) (hab : a + 8 ≤ b) (hb : b ≤ N) (hN : N ≤ 1000) : ∃ L Q I Q2 J Q3 K : Nat, (8 : Int) ≤ (L : Int) ∧ (a + 1 ≤ I ∧ 1 ≤ I ∧ I + 1 < b ∧ I + 1 < N) ∧ (a + 1 ≤ J ∧ 1 ≤ J ∧ J + 1 < b ∧ J + 1 < N) ∧ (a + 1 ≤ K ∧ 1 ≤ K ∧ K + 1 < b ∧ K + 1 < N) ∧ wrap64 ((b : Int) - (a : Int)) = (L : Int) ∧ IntKind.i64.wrap ((b : Int) - (a : Int)) = (L : Int) ∧ (L : Int) / 4 = (Q : Int) ∧ wrap64 (Q : Int) = (Q : Int) ∧ wrap64 ((a : Int) + (Q : Int)) = (I : Int) ∧ IntKind.i64.wrap ((a : Int) + (Q : Int)) = (I : Int) ∧ wrap64 ((Q : Int) * 2) = (Q2 : Int) ∧ IntKind.i64.wrap ((Q : Int) * 2) = (Q2 : Int) ∧ wrap64 ((a : Int) + (Q2 : Int)) = (J : Int) ∧ IntKind.i64.wrap ((a : Int) + (Q2 : Int)) = (J : Int) ∧ wrap64 ((Q : Int) * 3) = (Q3 : Int) ∧ IntKind.i64.wrap ((Q : Int) * 3) = (Q3 : Int) ∧ wrap64 ((a : Int) + (Q3 : Int)) = (K : Int) ∧ IntKind.i64.wrap ((a : Int) + (Q3 : Int)) = (K : Int) := by
  refine ⟨b - a, (b - a) / 4, a + (b - a) / 4, (b - a) / 4 * 2, a + (b - a) / 4 * 2, (b - a) / 4 * 3, a + (b - a) / 4 * 3, by omega, by omega, by omega, by omega, ?_, ?_, ?_, ?_, ?_, ?_, ?_, ?_, ?_, ?_, ?_, ?_, ?_, ?_⟩
  · rw [wrap_6 _ (by omega) (by omega)]; omega
  · rw [wrap_i _ (by omega) (by omega)]; omega
  · omega
  · rw [wrap_6 _ (by omega) (by omega)]
  · rw [wrap_6 _ (by omega) (by omega)]; omega
  · rw [wrap_i _ (by omega) (by omega)]; omega
  · rw [wrap_6 _ (by omega) (by omega)]; omega
  · rw [wrap_i _ (by omega) (by omega)]; omega
  · rw [wrap_6 _ (by omega) (by omega)]; omega
  · rw [wrap_i _ (by omega) (by omega)]; omega
  · rw [wrap_6 _ (by omega) (by omega)]; omega
  · rw [wrap_i _ (by omega) (by omega)]; omega
  · rw [wrap_6 _ (by omega) (by omega)]; omega
  · rw [wrap_i _ (by omega) (by omega)]; omega
section
set_option maxRecDepth 100000
set_option maxHeartbeats 4000000
variable {n : Nat} {w0 : World} {B : Nat} {rv : Value} {cf : Fin (n + 1) → Fin (n + 1) → Int} (hc : Cmp w0 B rv cf)
include hc
theorem pivot_any {w : World} {d : Array (Fin (n + 1))} (R : Row w0 B d w) {a b c : Nat} (hab : a + 8 ≤ b) (hb : b ≤ d.size) (hsz : d.size ≤ 1000) :
    Calls Try.prog 62 #[.slice (some ⟨B, 0, none⟩) d.size c, .int .i64 (a : Nat), .int .i64 (b : Nat), mv rv] w fun e w' => ∃ (p : Nat) (h : Int), e = .returned (.tuple #[.int .i64 (p : Int), .int .i64 h]) ∧ a ≤ p ∧ p < b ∧ Row w0 B d w' := by
  obtain ⟨L, Q, I, Q2, J, Q3, K, h8, bI, bJ, bK, m0, m1, m2, m3, m4, m5, m6, m7, m8, m9, m10, m11, m12, m13⟩ := pivot_facts a b d.size hab hb hsz
  have C0 := Cnt.start R 3
  have HB : Hid ((a + 1 ≤ I ∧ 1 ≤ I ∧ I + 1 < b ∧ I + 1 < d.size) ∧ (a + 1 ≤ J ∧ 1 ≤ J ∧ J + 1 < b ∧ J + 1 < d.size) ∧ (a + 1 ≤ K ∧ 1 ≤ K ∧ K + 1 < b ∧ K + 1 < d.size)) := ⟨bI, bJ, bK⟩
  clear bI bJ bK
  by_cases h50z : (50 : Int) ≤ (L : Int)
  · skip
    go_enter Try.func62, Try.ntmps62
    go_wp2_with fail
    clear m0 m1 m2 m3 m4 m5 m6 m7 m8 m9 m10 m11 m12 m13 h8
    obtain ⟨bI, bJ, bK⟩ := HB.out
    refine (meda_any hc C0 (a := I) (c := c) bI.2.1 bI.2.2.2 hsz (by omega)).mono ?_
    rintro r w1 ⟨x1, t1, rfl, h1, g1, K1⟩
    go_wp2_with fail
    refine (meda_any hc K1 (a := J) (c := c) bJ.2.1 bJ.2.2.2 hsz (by omega)).mono ?_
    rintro r w2 ⟨x2, t2, rfl, h2, g2, K2⟩
    go_wp2_with fail
    refine (meda_any hc K2 (a := K) (c := c) bK.2.1 bK.2.2.2 hsz (by omega)).mono ?_
    rintro r w3 ⟨x3, t3, rfl, h3, g3, K3⟩
    clear K1 K2 C0 R
    go_wp2_with fail
    refine (med_any hc K3 (a := x1) (b := x2) (e := x3) (c := c) (by omega) (by omega) (by omega) hsz (by omega)).mono ?_
    rintro r w4 ⟨x, t, rfl, h4, g4, K4⟩
    clear K3
    have hx1 : a ≤ x := by omega
    have hx2 : x < b := by omega
    have c1 := K4.cell
    have R5 := K4.row
    clear K4 h1 h2 h3 h4
    by_cases e0 : t = 0
    · subst e0
      go_wp2_with fail
      go_ret2
      exact ⟨x, _, rfl, hx1, hx2, R5⟩
    · by_cases e12 : t = 12
      · subst e12
        go_wp2_with fail
        go_ret2
        exact ⟨x, _, rfl, hx1, hx2, R5⟩
      · have q0 : ((t : Int) == 0) = false := by rw [beq_eq_false_iff_ne]; omega
        have q12 : ((t : Int) == 12) = false := by rw [beq_eq_false_iff_ne]; omega
        have e0z : ¬ (t : Int) = 0 := by omega
        have e12z : ¬ (t : Int) = 12 := by omega
        go_wp2_with fail
        go_ret2
        exact ⟨x, _, rfl, hx1, hx2, R5⟩
  · skip
    go_enter Try.func62, Try.ntmps62
    go_wp2_with fail
    clear m0 m1 m2 m3 m4 m5 m6 m7 m8 m9 m10 m11 m12 m13 h8
    obtain ⟨bI, bJ, bK⟩ := HB.out
    refine (med_any hc C0 (a := I) (b := J) (e := K) (c := c) (by omega) (by omega) (by omega) hsz (by omega)).mono ?_
    rintro r w4 ⟨x, t, rfl, h4, g4, K4⟩
    clear C0 R
    have hx1 : a ≤ x := by omega
    have hx2 : x < b := by omega
    have c1 := K4.cell
    have R5 := K4.row
    clear K4 h4
    by_cases e0 : t = 0
    · subst e0
      go_wp2_with fail
      go_ret2
      exact ⟨x, _, rfl, hx1, hx2, R5⟩
    · have q0 : ((t : Int) == 0) = false := by rw [beq_eq_false_iff_ne]; omega
      have q12 : ((t : Int) == 12) = false := by rw [beq_eq_false_iff_ne]; omega
      have e0z : ¬ (t : Int) = 0 := by omega
      have e12z : ¬ (t : Int) = 12 := by omega
      go_wp2_with fail
      go_ret2
      exact ⟨x, _, rfl, hx1, hx2, R5⟩
end
end Go.Proofs.Ytinmhjgnapbkmaa
