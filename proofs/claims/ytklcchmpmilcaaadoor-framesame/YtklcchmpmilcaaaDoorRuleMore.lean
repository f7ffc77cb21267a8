/- The contracts of package rule in the forms that the statements call them in. -/
import Derived.Test.YtklcchmpmilcaaaDoorRuleGet
namespace Go.Proofs.YtklcchmpmilcaaaDoor
open Go.ChangeShapes Go.WideShapes Go.ChangeAt Go.RowKit R
set_option linter.unusedVariables false
set_option linter.unusedSimpArgs false

theorem oct_join {l m : List Int} (h1 : O.Oct l) (h2 : O.Oct m) : O.Oct (l ++ m) := fun z hz => (List.mem_append.1 hz).elim (h1 z) (h2 z)
theorem ruGet_at (w : World) {x : Option Addr} {c N : Nat} {b : List Int} (R : Reads .u8 w x c b) (hn : b.length = N) (hl : N ≤ 100000) :
    Calls Tryd.prog 51 #[.slice x N c] w fun e w' => e = .returned (.tuple #[.agg #[.int .i64 (rgF b (n0 b)), .int .i64 (rgF b (n1 b)), .int .i64 (rgF b (n2 b - 1)), .int .i64 (rgF b (n3 b)), .int .i64 (rgF b (n4 b)), .int .i64 (rgF b (n5 b))], .int .i64 (rgE b)]) ∧ Below w.heap.size w w' := by
  subst hn
  exact ruGet_any w R hl
/-- what is put is got, whatever stands behind it -/
theorem ruGet_put {a n i p k t : Int} (hk : okR a n i p k t = true) (w : World) {x : Option Addr} {c N : Nat} {r : List Int} (R : Reads .u8 w x c (bodyR a n i p k t ++ r)) (hn : (bodyR a n i p k t ++ r).length = N) (hl : N ≤ 100000) :
    Calls Tryd.prog 51 #[.slice x N c] w fun e w' => e = .returned (.tuple #[.agg #[.int .i64 a, .int .i64 n, .int .i64 i, .int .i64 p, .int .i64 k, .int .i64 t], .int .i64 0]) ∧ Below w.heap.size w w' := by
  obtain ⟨h0, h1, h2, h3, h4, h5, h6⟩ := put_got hk r
  have h := ruGet_at w R hn hl
  rw [rgF_ok h0, rgF_ok h0, rgF_ok h0, rgF_ok h0, rgF_ok h0, rgF_ok h0, h1, h2, h3, h4, h5, h6, h0, show i + 1 - 1 = i by omega] at h
  exact h
theorem ruGet_none (w : World) {x : Option Addr} {c N : Nat} {b : List Int} {z : Int} (R : Reads .u8 w x c b) (hn : b.length = N) (hl : N ≤ 100000) (hk : rgE b = z) (h0 : z ≠ 0) :
    Calls Tryd.prog 51 #[.slice x N c] w fun e w' => e = .returned (.tuple #[.agg #[.int .i64 0, .int .i64 0, .int .i64 0, .int .i64 0, .int .i64 0, .int .i64 0], .int .i64 z]) ∧ Below w.heap.size w w' :=
  (ruGet_at w R hn hl).mono fun _ _ ⟨h1, h2⟩ => ⟨h1.trans (ret_none hk h0).symm, by exact h2⟩
theorem ruGet_some (w : World) {x : Option Addr} {c N : Nat} {b : List Int} {m0 m1 m2 m3 m4 m5 : Int} (R : Reads .u8 w x c b) (hn : b.length = N) (hl : N ≤ 100000) (h0 : rgE b = 0)
    (hs : m0 = n0 b ∧ m1 = n1 b ∧ m2 = n2 b - 1 ∧ m3 = n3 b ∧ m4 = n4 b ∧ m5 = n5 b) :
    Calls Tryd.prog 51 #[.slice x N c] w fun e w' => e = .returned (.tuple #[.agg #[.int .i64 m0, .int .i64 m1, .int .i64 m2, .int .i64 m3, .int .i64 m4, .int .i64 m5], .int .i64 0]) ∧ Below w.heap.size w w' := by
  obtain ⟨rfl, rfl, rfl, rfl, rfl, rfl⟩ := hs
  have h := ruGet_at w R hn hl
  rw [rgF_ok h0, rgF_ok h0, rgF_ok h0, rgF_ok h0, rgF_ok h0, rgF_ok h0, h0] at h
  exact h
end Go.Proofs.YtklcchmpmilcaaaDoor
