/- The word of a number, and the functions to range over that are made of rules and of versions. -/
import Derived.Test.YtinmhjgnapbkmaaDigFeed
import Derived.Test.YtinmhjgnapbkmaaTabMem
namespace Go.Proofs.Ytinmhjgnapbkmaa
open Go.ChangeShapes Go.WideShapes Go.ChangeAt Go.RowKit O Dg Pk Tb
set_option linter.unusedVariables false
set_option linter.unusedSimpArgs false

theorem u16_mod (n : Int) : IntKind.u16.wrap n = n % 65536 := by
  simp [IntKind.wrap, IntKind.bits, IntKind.signed]
theorem put2_any (n : Int) (w : World) :
    Calls Try.prog 40 #[.int .i64 (n % 65536), .int .i64 2] w fun e w' => ∃ ad c, e = .returned (.tuple #[.slice (some ad) 2 c, .int .i64 0]) ∧ Reads .u8 w' (some ad) c (wordL n) ∧ Below w.heap.size w w' := by
  refine (put_any (n % 65536) 2 w).mono ?_
  rintro e w' ⟨a, c, rfl, R, hb⟩
  have hl : (putL (n % 65536) 2).length = 2 := word_len n
  obtain ⟨b, o, rfl, -, -⟩ := R.cells (by intro h; rw [h] at hl; cases hl)
  rw [hl, putE_yes (ok_word n)]
  exact ⟨_, c, rfl, R, hb⟩
theorem word_any (n : Int) (w : World) :
    Calls Try.prog 29 #[.int .i64 n] w fun e w' => ∃ ad c, e = .returned (.slice (some ad) 2 c) ∧ Reads .u8 w' (some ad) c (wordL n) ∧ Below w.heap.size w w' := by
  have hw : IntKind.u16.wrap n = n % 65536 := u16_mod n
  have hw2 : wrap64 (n % 65536) = n % 65536 := by unfold wrap64; omega
  go_enter Try.func29, Try.ntmps29
  go_wp2_with fail
  refine (put2_any n _).mono ?_
  rintro e w1 ⟨ad, c, rfl, R, hb⟩
  go_wp2_with fail
  go_ret
  exact ⟨ad, c, rfl, R, hb⟩
theorem ofRules_any (t : Int) (a : Option Addr) (k c : Nat) (w : World) :
    Calls Try.prog 18 #[.int .i64 t, .slice a k c] w fun e w' => e = .returned (.func (.func 28) #[] #[.pointer (some ⟨w.heap.size, 0, none⟩), .pointer (some ⟨w.heap.size + 1, 0, none⟩)]) ∧
      w' = (w.alloc (.cells #[.int .i64 t] 3)).alloc (.cells #[.slice a k c] 22) := by
  go_enter Try.func18, Try.ntmps18
  go_wp2_with fail
  go_ret
  exact ⟨rfl, rfl⟩
theorem ofVersions_any (a : Option Addr) (k c : Nat) (w : World) :
    Calls Try.prog 23 #[.slice a k c] w fun e w' => e = .returned (.func (.func 36) #[] #[.pointer (some ⟨w.heap.size, 0, none⟩)]) ∧
      w' = w.alloc (.cells #[.slice a k c] 23) := by
  go_enter Try.func23, Try.ntmps23
  go_wp2_with fail
  go_ret
  exact ⟨rfl, rfl⟩
end Go.Proofs.Ytinmhjgnapbkmaa
