/- The code of package table does what the statements ask of its functions. -/
import Derived.Test.YtlfnciiomfcjpaaTabCPut3
namespace Go.Proofs.Ytlfnciiomfcjpaa
open Go.ChangeShapes Go.WideShapes Go.ChangeAt Go.RowKit Pk Tb R
set_option linter.unusedVariables false

theorem put_any (w : World) {B : Nat} {a : Option Addr} {c : Nat} {l : List Vr} (V : Vers B w a c l) (hs : Sm l) (t m ra rn ri rp rk rt : Int) (hw : ∀ z ∈ fR ⟨ra, rn, ri, rp, rk, rt⟩, (Lit.int .i64 z).wf = true) : Calls Try.prog 12 #[.slice a l.length c, .int .i64 t, .agg #[.int .i64 ra, .int .i64 rn, .int .i64 ri, .int .i64 rp, .int .i64 rk, .int .i64 rt], .int .i64 m] w fun e w' => ∃ (x : Option Addr) (k : Nat), e = .returned (.tuple #[.slice x (putT l t ⟨ra, rn, ri, rp, rk, rt⟩ m).1.length k, .int .i64 (putT l t ⟨ra, rn, ri, rp, rk, rt⟩ m).2]) ∧ Vers w.heap.size w' x k (putT l t ⟨ra, rn, ri, rp, rk, rt⟩ m).1 ∧ Loose w' x (putT l t ⟨ra, rn, ri, rp, rk, rt⟩ m).1 ∧ Below w.heap.size w w' := by
  by_cases h : mayR ⟨ra, rn, ri, rp, rk, rt⟩ = false ∨ t < 1 ∨ 4095 < t
  · rw [putT_arg h]
    exact put_arg w V hs t m ra rn ri rp rk rt hw h
  · cases hwh : whereT l t with
    | none => exact put_none w V hs t m ra rn ri rp rk rt hw h hwh
    | some i => exact put_some w V hs t m ra rn ri rp rk rt hw h hwh
theorem code : TCode where
  size w V hs := size_any w V hs
  of w V hs t := of_any w V hs t
  putL w V hs t m ra rn ri rp rk rt hw := put_any w V hs t m ra rn ri rp rk rt hw
  dropL w V hs t := drop_any w V hs t
  look w V hs t x d := look_any w V hs t x d
end Go.Proofs.Ytlfnciiomfcjpaa
