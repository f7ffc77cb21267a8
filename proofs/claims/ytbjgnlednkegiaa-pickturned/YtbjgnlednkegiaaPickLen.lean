/- How many bits a length has, as the library tells it. -/
import Derived.Test.YtbjgnlednkegiaaPickIns
import Derived.Shelf.Small.Bits
namespace Go.Proofs.Ytbjgnlednkegiaa
open Go.ChangeShapes Go.WideShapes Go.ChangeAt Go.RowKit Go.Shelf
set_option linter.unusedVariables false
set_option linter.unusedSimpArgs false

/-- this program's numbers of the library's functions and types -/
def rho : Ren := ⟨fun k => if k = 125 then 31 else if k = 128 then 44 else 45, fun k => if k = 46 then 50 else if k = 51 then 63 else if k = 53 then 65 else if k = 9 then 9 else if k = 5 then 5 else if k = 4 then 4 else 3, fun k => k⟩
theorem laysLen : Lays.n125 Try.prog rho where
  mixed := by kernel_rfl
  f125 := by kernel_rfl
  f128 := by kernel_rfl
  f129 := by kernel_rfl
  t3 := Try.underlying3
  a3 := Try.isAgg3
  z3 := Try.sizeOf3
  v3 := Try.zeroValue3
  t4 := Try.underlying4
  a4 := Try.isAgg4
  z4 := Try.sizeOf4
  v4 := Try.zeroValue4
  t5 := Try.underlying5
  a5 := Try.isAgg5
  z5 := Try.sizeOf5
  v5 := Try.zeroValue5
  t9 := Try.underlying9
  a9 := Try.isAgg9
  z9 := Try.sizeOf9
  v9 := Try.zeroValue9
  t46 := Try.underlying50
  a46 := Try.isAgg50
  z46 := Try.sizeOf50
  v46 := Try.zeroValue50
  t51 := Try.underlying63
  a51 := Try.isAgg63
  z51 := Try.sizeOf63
  v51 := Try.zeroValue63
  t53 := Try.underlying65
  a53 := Try.isAgg65
  z53 := Try.sizeOf65
  v53 := Try.zeroValue65
theorem len_any (x : Nat) (hx : x ≤ 1000) (w : World) : Calls Try.prog 31 #[.int .u64 (x : Nat)] w fun e w' => e = .returned (.int .i64 (Lib.bitLen x : Nat)) ∧ w' = w := by
  have h := Any.bits_Len laysLen (x : Int) w (by omega) (by omega)
  rw [Int.toNat_natCast] at h
  exact h
end Go.Proofs.Ytbjgnlednkegiaa
