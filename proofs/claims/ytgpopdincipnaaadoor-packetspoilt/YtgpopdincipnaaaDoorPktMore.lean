/- The contracts of package packet in the forms that the statements call them in. -/
import Derived.Test.YtgpopdincipnaaaDoorPktAwake
import Derived.Test.YtgpopdincipnaaaDoorPktGet
namespace Go.Proofs.YtgpopdincipnaaaDoor
open Go.ChangeShapes Go.WideShapes Go.ChangeAt Go.RowKit O
set_option linter.unusedVariables false
set_option linter.unusedSimpArgs false

theorem pput_good {i s d t g : Int} (hk : okPk i s d t g = true) (hw : W5 i s d t g) (w : World) (T : Tab w) :
    Calls Tryd.prog 10 #[.agg #[.int .i64 i, .int .i64 s, .int .i64 d, .int .i64 t, .int .i64 g]] w fun e w' => ∃ a c, e = .returned (.tuple #[.slice a 18 c, .int .i64 0]) ∧ Reads .u8 w' a c (pputL i s d t g) ∧ Below w.heap.size w w' := by
  have h := pput_any i s d t g hw w T
  rw [pput_len hk, (pput_yes hk).2] at h
  exact h
theorem pput_bad {i s d t g : Int} (hk : okPk i s d t g = false) (hw : W5 i s d t g) (w : World) (T : Tab w) :
    Calls Tryd.prog 10 #[.agg #[.int .i64 i, .int .i64 s, .int .i64 d, .int .i64 t, .int .i64 g]] w fun e w' => ∃ a c, e = .returned (.tuple #[.slice a 0 c, .int .i64 1]) ∧ Below w.heap.size w w' := by
  have h := pput_any i s d t g hw w T
  rw [(pput_no hk).1, (pput_no hk).2] at h
  exact h.mono fun _ _ ⟨a, c, h1, _, h2⟩ => ⟨a, c, h1, h2⟩
theorem pget_at (w : World) {a : Option Addr} {c n : Nat} {b : List Int} (R : Reads .u8 w a c b) (hn : b.length = n) (hl : n ≤ 100000) (T : Tab w) :
    Calls Tryd.prog 12 #[.slice a n c] w fun e w' => e = .returned (.tuple #[.agg #[.int .i64 (pgF b 0 4), .int .i64 (pgF b 4 4), .int .i64 (pgF b 8 4), .int .i64 (pgF b 12 2), .int .i64 (pgF b 14 2)], .int .i64 (pgE b)]) ∧ Below w.heap.size w w' := by
  subst hn
  exact pget_any w R hl T
/-- what is put is got -/
theorem pget_put {i s d t g : Int} (hk : okPk i s d t g = true) (w : World) {a : Option Addr} {c : Nat} (R : Reads .u8 w a c (pputL i s d t g)) (T : Tab w) :
    Calls Tryd.prog 12 #[.slice a 18 c] w fun e w' => e = .returned (.tuple #[.agg #[.int .i64 i, .int .i64 s, .int .i64 d, .int .i64 t, .int .i64 g], .int .i64 0]) ∧ Below w.heap.size w w' := by
  obtain ⟨h0, h1, h2, h3, h4, h5⟩ := put_got hk
  have h := pget_at w R (pput_len hk) (by decide) T
  rw [pgF_ok h0, pgF_ok h0, pgF_ok h0, pgF_ok h0, pgF_ok h0, List.drop_zero, h1, h2, h3, h4, h5, h0] at h
  exact h
theorem pget_none (w : World) {a : Option Addr} {c n : Nat} {b : List Int} {k : Int} (R : Reads .u8 w a c b) (hn : b.length = n) (hl : n ≤ 100000) (T : Tab w) (hk : pgE b = k) (h0 : k ≠ 0) :
    Calls Tryd.prog 12 #[.slice a n c] w fun e w' => e = .returned (.tuple #[.agg #[.int .i64 0, .int .i64 0, .int .i64 0, .int .i64 0, .int .i64 0], .int .i64 k]) ∧ Below w.heap.size w w' :=
  (pget_at w R hn hl T).mono fun _ _ ⟨h1, h2⟩ => ⟨h1.trans (ret_none hk h0).symm, by exact h2⟩
theorem pget_some (w : World) {a : Option Addr} {c n : Nat} {b : List Int} {n0 n1 n2 n3 n4 : Int} (R : Reads .u8 w a c b) (hn : b.length = n) (hl : n ≤ 100000) (T : Tab w) (h0 : pgE b = 0)
    (hs : n0 = getN b 4 ∧ n1 = getN (b.drop 4) 4 ∧ n2 = getN (b.drop 8) 4 ∧ n3 = getN (b.drop 12) 2 ∧ n4 = getN (b.drop 14) 2) :
    Calls Tryd.prog 12 #[.slice a n c] w fun e w' => e = .returned (.tuple #[.agg #[.int .i64 n0, .int .i64 n1, .int .i64 n2, .int .i64 n3, .int .i64 n4], .int .i64 0]) ∧ Below w.heap.size w w' := by
  obtain ⟨rfl, rfl, rfl, rfl, rfl⟩ := hs
  have h := pget_at w R hn hl T
  rw [pgF_ok h0, pgF_ok h0, pgF_ok h0, pgF_ok h0, pgF_ok h0, h0] at h
  exact h
/-- 'string(b)' in a drawn region, its length said otherwise -/
theorem run_strs_at {w : World} {a : Option Addr} {c m : Nat} {l : List Int} (h : Reads .u8 w a c l) (hm : l.length = m) (n : Nat) : (convert 24 9 (.slice a m c)).run Tryd.prog (w.drewN n) = .ok (.string (strOfNums l)) (w.drewN n) := by
  subst hm
  exact run_strs h n
theorem str_same (s : ByteArray) : (s.toList == s.toList) = true := by simp
theorem str_differ {l m : List Int} (hl : Oct l) (hm : Oct m) (h : l ≠ m) : ((strOfNums l).toList == (strOfNums m).toList) = false := by
  rw [beq_eq_false_iff_ne]
  intro e
  apply h
  apply strOfNums_inj hl hm
  rw [toList_nums, toList_nums] at e
  have e2 : (strOfNums l).data.toList = (strOfNums m).data.toList := by
    rw [strOfNums_data, strOfNums_data]; exact e
  exact ByteArray.ext (Array.toList_inj.1 e2)
end Go.Proofs.YtgpopdincipnaaaDoor
