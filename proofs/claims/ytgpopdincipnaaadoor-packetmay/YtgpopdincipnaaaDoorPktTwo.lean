/- Two packets, and what their bytes have in common: facts for the statements that hold two packets against each other. -/
import Derived.Test.YtgpopdincipnaaaDoorPktAwake
namespace Go.Proofs.YtgpopdincipnaaaDoor
open Go.ChangeShapes Go.WideShapes Go.ChangeAt Go.RowKit O
set_option linter.unusedVariables false
set_option linter.unusedSimpArgs false

theorem box_at (w : World) (i s d t g : Int) {B : Nat} (hB : w.heap.size = B) : Box (w.alloc (.cells #[.int .i64 i, .int .i64 s, .int .i64 d, .int .i64 t, .int .i64 g] 23)) B i s d t g := by
  subst hB
  exact Box.new w i s d t g
set_option maxHeartbeats 1000000 in
theorem eq_packet (i s d t g i2 s2 d2 t2 g2 : Int) (w : World) : (binOp .eql 23 (.agg #[.int .i64 i, .int .i64 s, .int .i64 d, .int .i64 t, .int .i64 g]) (.agg #[.int .i64 i2, .int .i64 s2, .int .i64 d2, .int .i64 t2, .int .i64 g2])).run Tryd.prog w = .ok (.bool (i == i2 && s == s2 && d == d2 && t == t2 && g == g2)) w := by
  cases h1 : (i == i2) <;> cases h2 : (s == s2) <;> cases h3 : (d == d2) <;> cases h4 : (t == t2) <;> cases h5 : (g == g2) <;> go_simp
theorem pput_good2 {i s d t g : Int} (hk : okPk i s d t g = true) (hw : W5 i s d t g) (w : World) (T : Tab w) :
    Calls Tryd.prog 10 #[.agg #[.int .i64 i, .int .i64 s, .int .i64 d, .int .i64 t, .int .i64 g]] w fun e w' => ∃ a c, e = .returned (.tuple #[.slice a 18 c, .int .i64 0]) ∧ Reads .u8 w' a c (pputL i s d t g) ∧ Below w.heap.size w w' := by
  have h := pput_any i s d t g hw w T
  rw [pput_len hk, (pput_yes hk).2] at h
  exact h
theorem pput_bad2 {i s d t g : Int} (hk : okPk i s d t g = false) (hw : W5 i s d t g) (w : World) (T : Tab w) :
    Calls Tryd.prog 10 #[.agg #[.int .i64 i, .int .i64 s, .int .i64 d, .int .i64 t, .int .i64 g]] w fun e w' => ∃ a c, e = .returned (.tuple #[.slice a 0 c, .int .i64 1]) ∧ Below w.heap.size w w' := by
  have h := pput_any i s d t g hw w T
  rw [(pput_no hk).1, (pput_no hk).2] at h
  exact h.mono fun _ _ ⟨a, c, h1, _, h2⟩ => ⟨a, c, h1, h2⟩
theorem strs_at {w : World} {a : Option Addr} {c m : Nat} {l : List Int} (h : Reads .u8 w a c l) (hm : l.length = m) (n : Nat) : (convert 24 9 (.slice a m c)).run Tryd.prog (w.drewN n) = .ok (.string (strOfNums l)) (w.drewN n) := by
  subst hm
  exact run_strs h n
theorem differ {l m : List Int} (hl : Oct l) (hm : Oct m) (h : l ≠ m) : ((strOfNums l).toList == (strOfNums m).toList) = false := by
  rw [beq_eq_false_iff_ne]
  intro e
  apply h
  apply strOfNums_inj hl hm
  rw [toList_nums, toList_nums] at e
  have e2 : (strOfNums l).data.toList = (strOfNums m).data.toList := by
    rw [strOfNums_data, strOfNums_data]; exact e
  exact ByteArray.ext (Array.toList_inj.1 e2)
theorem body_same {i s d t g i2 s2 d2 t2 g2 : Int} (h : okPk i s d t g = true) (h' : okPk i2 s2 d2 t2 g2 = true) : ((strOfNums (bodyL i s d t g)).toList == (strOfNums (bodyL i2 s2 d2 t2 g2)).toList) = (i == i2 && s == s2 && d == d2 && t == t2 && g == g2) := by
  by_cases e : bodyL i s d t g = bodyL i2 s2 d2 t2 g2
  · obtain ⟨rfl, rfl, rfl, rfl, rfl⟩ := body_inj h h' e
    simp
  · rw [differ (body_oct _ _ _ _ _) (body_oct _ _ _ _ _) e]
    symm
    rw [Bool.eq_false_iff]
    intro hc
    simp only [Bool.and_eq_true, beq_iff_eq] at hc
    obtain ⟨⟨⟨⟨rfl, rfl⟩, rfl⟩, rfl⟩, rfl⟩ := hc
    exact e rfl
theorem tag_same {i s d t g g2 : Int} (h : okPk i s d t g = true) (h' : okPk i s d t g2 = true) : ((strOfNums (putL (sumN (bodyL i s d t g)) 2)).toList == (strOfNums (putL (sumN (bodyL i s d t g2)) 2)).toList) = (g2 == g) := by
  rw [put_same (ok_sum (body_oct _ _ _ _ _)) (ok_sum (body_oct _ _ _ _ _)), Bool.eq_iff_iff]
  simp only [beq_iff_eq]
  constructor
  · intro e; exact (sum_tag h h' e).symm
  · rintro rfl; rfl
/-- 'b[j:j+n]' -/
theorem reads_cut {k : IntKind} {w : World} {b o c : Nat} {l : List Int} (R : Reads k w (some ⟨b, o, none⟩) c l) (j n : Nat) (hj : j < l.length) : Reads k w (some ⟨b, o + j, none⟩) (c - j) ((l.drop j).take n) := by
  have h := (R.drop j (by omega)).take n
  have hc : ¬ c = j := by have := R.le; omega
  rw [if_neg hc] at h
  simpa [Addr.add_lit] using h
theorem reads_from {k : IntKind} {w : World} {b o c : Nat} {l : List Int} (R : Reads k w (some ⟨b, o, none⟩) c l) (j : Nat) (hj : j < l.length) : Reads k w (some ⟨b, o + j, none⟩) (c - j) (l.drop j) := by
  have h := R.drop j (by omega)
  have hc : ¬ c = j := by have := R.le; omega
  rw [if_neg hc] at h
  simpa [Addr.add_lit] using h
end Go.Proofs.YtgpopdincipnaaaDoor
