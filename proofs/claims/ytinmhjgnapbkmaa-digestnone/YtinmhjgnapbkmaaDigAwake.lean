/- That the chapter's example holds, which each statement asks first; and what a digest is told by without rules. -/
import Derived.Test.YtinmhjgnapbkmaaDigOf
namespace Go.Proofs.Ytinmhjgnapbkmaa
open Go.ChangeShapes Go.WideShapes Go.ChangeAt Go.RowKit O Dg Pk Tb R
set_option linter.unusedVariables false
set_option linter.unusedSimpArgs false

theorem sort_nil : sortL [] = [] := (sort_perm []).eq_nil
theorem ofN_nil (t : Int) (h0 : 1 ≤ t) (h1 : t ≤ 4095) : ofN t [] = 65535 - t := by
  unfold ofN ofL
  rw [sort_nil, rusB_nil, List.append_nil, word_is]
  have e : tot [t % 65536 / 256, t % 256] 2 = t := by
    simp [tot]
    omega
  unfold sumN
  rw [show ([t % 65536 / 256, t % 256] : List Int).length = 2 from rfl, e, fo_small (by omega) (by omega)]
theorem allN_nil : allN [] = 65535 := by decide +kernel
theorem of_none (t : Int) (h0 : 1 ≤ t) (h1 : t ≤ 4095) (w : World) :
    Calls Try.prog 11 #[.int .i64 t, .slice none 0 0] w fun e w' => e = .returned (.int .i64 (65535 - t)) ∧ Below w.heap.size w w' := by
  have h := of_any t w (Rds.none fR 6 w) (by decide)
  rw [ofN_nil t h0 h1] at h
  exact h
theorem all_none (w : World) :
    Calls Try.prog 13 #[.slice none 0 0] w fun e w' => e = .returned (.int .i64 65535) ∧ Below w.heap.size w w' := by
  have h := all_of_any w (Vers.empty 0 w) (by decide) (fun v hv => nomatch hv)
  rw [allN_nil] at h
  exact h
theorem dawake_any (w : World) : Calls Try.prog 9 #[] w fun e w' => e = .returned (.bool true) ∧ Below w.heap.size w w' := by
  have c1 : ∀ w, Calls Try.prog 11 #[.int .i64 1, .slice none 0 0] w fun e w' => e = .returned (.int .i64 65534) ∧ Below w.heap.size w w' := fun w => of_none 1 (by decide) (by decide) w
  have c2 := all_none
  go_enter Try.func9, Try.ntmps9
  go_wp2_with fail
  refine (c1 _).mono ?_
  rintro e w1 ⟨rfl, hb1⟩
  go_wp2_with fail
  refine (c2 _).mono ?_
  rintro e w2 ⟨rfl, hb2⟩
  go_wp2_with fail
  go_ret
  exact ⟨rfl, below_step hb1 hb2⟩
end Go.Proofs.Ytinmhjgnapbkmaa
