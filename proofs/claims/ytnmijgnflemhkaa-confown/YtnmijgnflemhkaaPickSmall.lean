/- What the library's sort does to a row of at most twelve numbers. -/
import Derived.Test.YtnmijgnflemhkaaPickLen
namespace Go.Proofs.Ytnmijgnflemhkaa
open Go.ChangeShapes Go.WideShapes Go.ChangeAt Go.RowKit Go.Sort Go.Shelf
set_option linter.unusedVariables false
set_option linter.unusedSimpArgs false

theorem ret0 {P : Program} {fn : Func} {R : Ending → World → Prop} {a : Act} {w : World} (h : fn.results = #[]) (hd : a.defers = []) (hR : R (.returned (.tuple #[])) w) : bodyPost P fn R .ret a w := bodyPost_ret (results_none h _ _ _) hd hR
section
set_option maxRecDepth 100000
set_option maxHeartbeats 4000000
variable {n : Nat} {w0 : World} {B : Nat} {rv : Value} {cf : Fin (n + 1) → Fin (n + 1) → Int} (hc : Cmp w0 B rv cf)
include hc
theorem pdq_small {w : World} {d : Array (Fin (n + 1))} (R : Row w0 B d w) {a b c limit : Nat} (hab : a ≤ b) (hb : b ≤ d.size) (hsz : d.size ≤ 1000) (h12 : b - a ≤ 12) :
    Calls Try.prog 50 #[.slice (some ⟨B, 0, none⟩) d.size c, .int .i64 (a : Nat), .int .i64 (b : Nat), .int .i64 (limit : Nat), mv rv] w fun e w' => e = .returned (.tuple #[]) ∧ Row w0 B (insertionSort (ltc cf) d a b) w' := by
  obtain ⟨L, hL⟩ : ∃ L : Nat, b - a = L := ⟨_, rfl⟩
  have w1 : wrap64 ((b : Int) - (a : Int)) = (L : Int) := by rw [wrap_6 _ (by omega) (by omega)]; omega
  have h3 : (L : Int) ≤ 12 := by omega
  have ci := fun w R => ins_any hc (w := w) (d := d) R (c := c) hab hb hsz
  generalize insertionSort (ltc cf) d a b = res at ci ⊢
  go_enter Try.func50, Try.ntmps50
  go_wp2_with fail
  refine wp_loop_rounds 1 ?_
  rw [rounds_succ]
  go_wp2_with fail
  refine (ci _ R).mono ?_
  rintro e w2 ⟨rfl, R2⟩
  go_wp2_with fail
  refine ret0 rfl rfl ?_
  exact ⟨rfl, R2⟩
theorem sort_small {w : World} {d : Array (Fin (n + 1))} (R : Row w0 B d w) {c : Nat} (h12 : d.size ≤ 12) :
    Calls Try.prog 44 #[.slice (some ⟨B, 0, none⟩) d.size c, mv rv] w fun e w' => e = .returned (.tuple #[]) ∧ Row w0 B (insertionSort (ltc cf) d 0 d.size) w' := by
  have cl := fun w => len_any d.size (by omega) w
  have cp := fun w R => pdq_small hc (w := w) (d := d) R (a := 0) (b := d.size) (c := c) (limit := Lib.bitLen d.size) (by omega) (by omega) (by omega) (by omega)
  have wu : IntKind.u64.wrap (d.size : Int) = (d.size : Int) := by simp [IntKind.wrap, IntKind.bits, IntKind.signed]; omega
  generalize Lib.bitLen d.size = lim at cl cp
  generalize insertionSort (ltc cf) d 0 d.size = res at cp ⊢
  go_enter Try.func44, Try.ntmps44
  go_wp2_with fail
  refine (cl _).mono ?_
  rintro e w2 ⟨rfl, rfl⟩
  go_wp2_with fail
  refine (cp _ R).mono ?_
  rintro e w2 ⟨rfl, R2⟩
  go_wp2_with fail
  go_end0
  exact ⟨rfl, R2⟩
end
end Go.Proofs.Ytnmijgnflemhkaa
