/- What the document's own Open answers, for all bytes. -/
import Derived.Test.YtklcchmpmilcaaaDoorFrameMath
import Derived.Test.YtklcchmpmilcaaaDoorMsgRefGet
import Derived.Test.YtklcchmpmilcaaaDoorFrameRefSeal
namespace Go.Proofs.YtklcchmpmilcaaaDoor
open Go.ChangeShapes Go.WideShapes Go.ChangeAt Go.RowKit R Q Fr
set_option linter.unusedVariables false
set_option linter.unusedSimpArgs false

set_option maxHeartbeats 2000000 in
theorem ropen_short (w : World) {a : Option Addr} {c : Nat} {b : List Int} (R : Reads .u8 w a c b) (h4 : b.length < 4) :
    Calls Tryd.prog 13 #[.slice a b.length c] w fun e w' => e = .returned (.tuple #[.agg #[.int .i64 0, .int .i64 0, .int .i64 0, .int .i64 0, .int .i64 0, .int .i64 0, .int .i64 0, .int .i64 0, .int .i64 0, .int .i64 0], .int .i64 3]) ∧ Below w.heap.size w w' := by
  have hmx := R.max
  unfold maxLen at hmx
  have hle := R.le
  have hB := below_step (below_new w (.cells #[.int .i64 0, .int .i64 0, .int .i64 0, .int .i64 0, .int .i64 0, .int .i64 0, .int .i64 0, .int .i64 0, .int .i64 0, .int .i64 0] 29)) (below_new (w.alloc (.cells #[.int .i64 0, .int .i64 0, .int .i64 0, .int .i64 0, .int .i64 0, .int .i64 0, .int .i64 0, .int .i64 0, .int .i64 0, .int .i64 0] 29)) (.cells #[.int .i64 0, .int .i64 0, .int .i64 0, .int .i64 0, .int .i64 0, .int .i64 0, .int .i64 0, .int .i64 0, .int .i64 0, .int .i64 0] 29))
  have X := (Lies.new w [0, 0, 0, 0, 0, 0, 0, 0, 0, 0] 29 rfl).later (below_new (w.alloc (.cells #[.int .i64 0, .int .i64 0, .int .i64 0, .int .i64 0, .int .i64 0, .int .i64 0, .int .i64 0, .int .i64 0, .int .i64 0, .int .i64 0] 29)) (.cells #[.int .i64 0, .int .i64 0, .int .i64 0, .int .i64 0, .int .i64 0, .int .i64 0, .int .i64 0, .int .i64 0, .int .i64 0, .int .i64 0] 29))
  have Y := Lies.new (w.alloc (.cells #[.int .i64 0, .int .i64 0, .int .i64 0, .int .i64 0, .int .i64 0, .int .i64 0, .int .i64 0, .int .i64 0, .int .i64 0, .int .i64 0] 29)) [0, 0, 0, 0, 0, 0, 0, 0, 0, 0] 29 (B := w.heap.size + 1) (by simp)
  obtain ⟨x0, x1, x2, x3, x4, x5, x6, x7, x8, x9⟩ := X.ten
  obtain ⟨y0, y1, y2, y3, y4, y5, y6, y7, y8, y9⟩ := Y.ten
  have xl := X.lt
  have xf := X.fz
  have RB := R.later hB
  go_enter Tryd.func13, Tryd.ntmps13
  go_wp2_with fail
  refine bodyPost_ret (v := .tuple #[.agg #[.int .i64 0, .int .i64 0, .int .i64 0, .int .i64 0, .int .i64 0, .int .i64 0, .int .i64 0, .int .i64 0, .int .i64 0, .int .i64 0], .int .i64 3]) (by simp [results, Tryd.results13, go_sem, x0, x1, x2, x3, x4, x5, x6, x7, x8, x9]) rfl ?_
  exact ⟨rfl, hB⟩
set_option maxHeartbeats 2000000 in
theorem ropen_mark (w : World) {bb oo c : Nat} {b : List Int} (R : Reads .u8 w (some ⟨bb, oo, none⟩) c b) (lt : bb < w.heap.size) {x0' : Int} (c0 : w.cell? ⟨bb, oo, none⟩ = some (.int .u8 x0')) (h4 : 4 ≤ b.length) (hx : (x0' != 197) = true) :
    Calls Tryd.prog 13 #[.slice (some ⟨bb, oo, none⟩) b.length c] w fun e w' => e = .returned (.tuple #[.agg #[.int .i64 0, .int .i64 0, .int .i64 0, .int .i64 0, .int .i64 0, .int .i64 0, .int .i64 0, .int .i64 0, .int .i64 0, .int .i64 0], .int .i64 2]) ∧ Below w.heap.size w w' := by
  have hmx := R.max
  unfold maxLen at hmx
  have hle := R.le
  have hB := below_step (below_new w (.cells #[.int .i64 0, .int .i64 0, .int .i64 0, .int .i64 0, .int .i64 0, .int .i64 0, .int .i64 0, .int .i64 0, .int .i64 0, .int .i64 0] 29)) (below_new (w.alloc (.cells #[.int .i64 0, .int .i64 0, .int .i64 0, .int .i64 0, .int .i64 0, .int .i64 0, .int .i64 0, .int .i64 0, .int .i64 0, .int .i64 0] 29)) (.cells #[.int .i64 0, .int .i64 0, .int .i64 0, .int .i64 0, .int .i64 0, .int .i64 0, .int .i64 0, .int .i64 0, .int .i64 0, .int .i64 0] 29))
  have X := (Lies.new w [0, 0, 0, 0, 0, 0, 0, 0, 0, 0] 29 rfl).later (below_new (w.alloc (.cells #[.int .i64 0, .int .i64 0, .int .i64 0, .int .i64 0, .int .i64 0, .int .i64 0, .int .i64 0, .int .i64 0, .int .i64 0, .int .i64 0] 29)) (.cells #[.int .i64 0, .int .i64 0, .int .i64 0, .int .i64 0, .int .i64 0, .int .i64 0, .int .i64 0, .int .i64 0, .int .i64 0, .int .i64 0] 29))
  have Y := Lies.new (w.alloc (.cells #[.int .i64 0, .int .i64 0, .int .i64 0, .int .i64 0, .int .i64 0, .int .i64 0, .int .i64 0, .int .i64 0, .int .i64 0, .int .i64 0] 29)) [0, 0, 0, 0, 0, 0, 0, 0, 0, 0] 29 (B := w.heap.size + 1) (by simp)
  obtain ⟨x0, x1, x2, x3, x4, x5, x6, x7, x8, x9⟩ := X.ten
  obtain ⟨y0, y1, y2, y3, y4, y5, y6, y7, y8, y9⟩ := Y.ten
  have xl := X.lt
  have xf := X.fz
  have RB := R.later hB
  have d0 := (hB.cell (p := ⟨bb, oo, none⟩) lt).trans c0
  have h0 : (0 : Int) < (b.length : Int) := by omega
  go_enter Tryd.func13, Tryd.ntmps13
  go_wp2_with fail
  refine bodyPost_ret (v := .tuple #[.agg #[.int .i64 0, .int .i64 0, .int .i64 0, .int .i64 0, .int .i64 0, .int .i64 0, .int .i64 0, .int .i64 0, .int .i64 0, .int .i64 0], .int .i64 2]) (by simp [results, Tryd.results13, go_sem, x0, x1, x2, x3, x4, x5, x6, x7, x8, x9]) rfl ?_
  exact ⟨rfl, hB⟩
set_option maxHeartbeats 2000000 in
theorem ropen_more (w : World) {bb oo c : Nat} {b : List Int} (R : Reads .u8 w (some ⟨bb, oo, none⟩) c b) (lt : bb < w.heap.size) (c0 : w.cell? ⟨bb, oo, none⟩ = some (.int .u8 197)) {N p : Nat} (c1 : w.cell? ⟨bb, oo + 1, none⟩ = some (.int .u8 (N : Int))) (hN : N ≤ 255) (h4 : 4 ≤ b.length) (ht : (N : Int).tmod 2 = (p : Int)) (hp : p ≤ 1) (h5 : b.length < N + p + 4) :
    Calls Tryd.prog 13 #[.slice (some ⟨bb, oo, none⟩) b.length c] w fun e w' => e = .returned (.tuple #[.agg #[.int .i64 0, .int .i64 0, .int .i64 0, .int .i64 0, .int .i64 0, .int .i64 0, .int .i64 0, .int .i64 0, .int .i64 0, .int .i64 0], .int .i64 3]) ∧ Below w.heap.size w w' := by
  have hmx := R.max
  unfold maxLen at hmx
  have hle := R.le
  have hB := below_step (below_new w (.cells #[.int .i64 0, .int .i64 0, .int .i64 0, .int .i64 0, .int .i64 0, .int .i64 0, .int .i64 0, .int .i64 0, .int .i64 0, .int .i64 0] 29)) (below_new (w.alloc (.cells #[.int .i64 0, .int .i64 0, .int .i64 0, .int .i64 0, .int .i64 0, .int .i64 0, .int .i64 0, .int .i64 0, .int .i64 0, .int .i64 0] 29)) (.cells #[.int .i64 0, .int .i64 0, .int .i64 0, .int .i64 0, .int .i64 0, .int .i64 0, .int .i64 0, .int .i64 0, .int .i64 0, .int .i64 0] 29))
  have X := (Lies.new w [0, 0, 0, 0, 0, 0, 0, 0, 0, 0] 29 rfl).later (below_new (w.alloc (.cells #[.int .i64 0, .int .i64 0, .int .i64 0, .int .i64 0, .int .i64 0, .int .i64 0, .int .i64 0, .int .i64 0, .int .i64 0, .int .i64 0] 29)) (.cells #[.int .i64 0, .int .i64 0, .int .i64 0, .int .i64 0, .int .i64 0, .int .i64 0, .int .i64 0, .int .i64 0, .int .i64 0, .int .i64 0] 29))
  have Y := Lies.new (w.alloc (.cells #[.int .i64 0, .int .i64 0, .int .i64 0, .int .i64 0, .int .i64 0, .int .i64 0, .int .i64 0, .int .i64 0, .int .i64 0, .int .i64 0] 29)) [0, 0, 0, 0, 0, 0, 0, 0, 0, 0] 29 (B := w.heap.size + 1) (by simp)
  obtain ⟨x0, x1, x2, x3, x4, x5, x6, x7, x8, x9⟩ := X.ten
  obtain ⟨y0, y1, y2, y3, y4, y5, y6, y7, y8, y9⟩ := Y.ten
  have xl := X.lt
  have xf := X.fz
  have RB := R.later hB
  have d0 := (hB.cell (p := ⟨bb, oo, none⟩) lt).trans c0
  have d1 := (hB.cell (p := ⟨bb, oo + 1, none⟩) lt).trans c1
  have h1 : (1 : Int) < (b.length : Int) := by omega
  have h0 : (0 : Int) < (b.length : Int) := by omega
  go_enter Tryd.func13, Tryd.ntmps13
  go_wp2_with fail
  refine bodyPost_ret (v := .tuple #[.agg #[.int .i64 0, .int .i64 0, .int .i64 0, .int .i64 0, .int .i64 0, .int .i64 0, .int .i64 0, .int .i64 0, .int .i64 0, .int .i64 0], .int .i64 3]) (by simp [results, Tryd.results13, go_sem, x0, x1, x2, x3, x4, x5, x6, x7, x8, x9]) rfl ?_
  exact ⟨rfl, hB⟩
set_option maxHeartbeats 2000000 in
theorem ropen_long (w : World) {bb oo c : Nat} {b : List Int} (R : Reads .u8 w (some ⟨bb, oo, none⟩) c b) (lt : bb < w.heap.size) (c0 : w.cell? ⟨bb, oo, none⟩ = some (.int .u8 197)) {N p : Nat} (c1 : w.cell? ⟨bb, oo + 1, none⟩ = some (.int .u8 (N : Int))) (hN : N ≤ 255) (h4 : 4 ≤ b.length) (ht : (N : Int).tmod 2 = (p : Int)) (hp : p ≤ 1) (h5 : N + p + 4 < b.length) :
    Calls Tryd.prog 13 #[.slice (some ⟨bb, oo, none⟩) b.length c] w fun e w' => e = .returned (.tuple #[.agg #[.int .i64 0, .int .i64 0, .int .i64 0, .int .i64 0, .int .i64 0, .int .i64 0, .int .i64 0, .int .i64 0, .int .i64 0, .int .i64 0], .int .i64 2]) ∧ Below w.heap.size w w' := by
  have hmx := R.max
  unfold maxLen at hmx
  have hle := R.le
  have hB := below_step (below_new w (.cells #[.int .i64 0, .int .i64 0, .int .i64 0, .int .i64 0, .int .i64 0, .int .i64 0, .int .i64 0, .int .i64 0, .int .i64 0, .int .i64 0] 29)) (below_new (w.alloc (.cells #[.int .i64 0, .int .i64 0, .int .i64 0, .int .i64 0, .int .i64 0, .int .i64 0, .int .i64 0, .int .i64 0, .int .i64 0, .int .i64 0] 29)) (.cells #[.int .i64 0, .int .i64 0, .int .i64 0, .int .i64 0, .int .i64 0, .int .i64 0, .int .i64 0, .int .i64 0, .int .i64 0, .int .i64 0] 29))
  have X := (Lies.new w [0, 0, 0, 0, 0, 0, 0, 0, 0, 0] 29 rfl).later (below_new (w.alloc (.cells #[.int .i64 0, .int .i64 0, .int .i64 0, .int .i64 0, .int .i64 0, .int .i64 0, .int .i64 0, .int .i64 0, .int .i64 0, .int .i64 0] 29)) (.cells #[.int .i64 0, .int .i64 0, .int .i64 0, .int .i64 0, .int .i64 0, .int .i64 0, .int .i64 0, .int .i64 0, .int .i64 0, .int .i64 0] 29))
  have Y := Lies.new (w.alloc (.cells #[.int .i64 0, .int .i64 0, .int .i64 0, .int .i64 0, .int .i64 0, .int .i64 0, .int .i64 0, .int .i64 0, .int .i64 0, .int .i64 0] 29)) [0, 0, 0, 0, 0, 0, 0, 0, 0, 0] 29 (B := w.heap.size + 1) (by simp)
  obtain ⟨x0, x1, x2, x3, x4, x5, x6, x7, x8, x9⟩ := X.ten
  obtain ⟨y0, y1, y2, y3, y4, y5, y6, y7, y8, y9⟩ := Y.ten
  have xl := X.lt
  have xf := X.fz
  have RB := R.later hB
  have d0 := (hB.cell (p := ⟨bb, oo, none⟩) lt).trans c0
  have d1 := (hB.cell (p := ⟨bb, oo + 1, none⟩) lt).trans c1
  have h1 : (1 : Int) < (b.length : Int) := by omega
  have h0 : (0 : Int) < (b.length : Int) := by omega
  go_enter Tryd.func13, Tryd.ntmps13
  go_wp2_with fail
  refine bodyPost_ret (v := .tuple #[.agg #[.int .i64 0, .int .i64 0, .int .i64 0, .int .i64 0, .int .i64 0, .int .i64 0, .int .i64 0, .int .i64 0, .int .i64 0, .int .i64 0], .int .i64 2]) (by simp [results, Tryd.results13, go_sem, x0, x1, x2, x3, x4, x5, x6, x7, x8, x9]) rfl ?_
  exact ⟨rfl, hB⟩
set_option maxHeartbeats 2000000 in
theorem ropen_sum (w : World) {bb oo c : Nat} {b : List Int} (R : Reads .u8 w (some ⟨bb, oo, none⟩) c b) (lt : bb < w.heap.size) (c0 : w.cell? ⟨bb, oo, none⟩ = some (.int .u8 197)) {N p : Nat} (c1 : w.cell? ⟨bb, oo + 1, none⟩ = some (.int .u8 (N : Int))) (hN : N ≤ 255) (h4 : 4 ≤ b.length) (ht : (N : Int).tmod 2 = (p : Int)) (hp : p ≤ 1) (h5 : b.length ≤ N + p + 4) (h5b : N + p + 4 ≤ b.length) (hm : b.length ≤ 100000) (h6 : (O.sumN b != 0) = true) :
    Calls Tryd.prog 13 #[.slice (some ⟨bb, oo, none⟩) b.length c] w fun e w' => e = .returned (.tuple #[.agg #[.int .i64 0, .int .i64 0, .int .i64 0, .int .i64 0, .int .i64 0, .int .i64 0, .int .i64 0, .int .i64 0, .int .i64 0, .int .i64 0], .int .i64 4]) ∧ Below w.heap.size w w' := by
  have hmx := R.max
  unfold maxLen at hmx
  have hle := R.le
  have hB := below_step (below_new w (.cells #[.int .i64 0, .int .i64 0, .int .i64 0, .int .i64 0, .int .i64 0, .int .i64 0, .int .i64 0, .int .i64 0, .int .i64 0, .int .i64 0] 29)) (below_new (w.alloc (.cells #[.int .i64 0, .int .i64 0, .int .i64 0, .int .i64 0, .int .i64 0, .int .i64 0, .int .i64 0, .int .i64 0, .int .i64 0, .int .i64 0] 29)) (.cells #[.int .i64 0, .int .i64 0, .int .i64 0, .int .i64 0, .int .i64 0, .int .i64 0, .int .i64 0, .int .i64 0, .int .i64 0, .int .i64 0] 29))
  have X := (Lies.new w [0, 0, 0, 0, 0, 0, 0, 0, 0, 0] 29 rfl).later (below_new (w.alloc (.cells #[.int .i64 0, .int .i64 0, .int .i64 0, .int .i64 0, .int .i64 0, .int .i64 0, .int .i64 0, .int .i64 0, .int .i64 0, .int .i64 0] 29)) (.cells #[.int .i64 0, .int .i64 0, .int .i64 0, .int .i64 0, .int .i64 0, .int .i64 0, .int .i64 0, .int .i64 0, .int .i64 0, .int .i64 0] 29))
  have Y := Lies.new (w.alloc (.cells #[.int .i64 0, .int .i64 0, .int .i64 0, .int .i64 0, .int .i64 0, .int .i64 0, .int .i64 0, .int .i64 0, .int .i64 0, .int .i64 0] 29)) [0, 0, 0, 0, 0, 0, 0, 0, 0, 0] 29 (B := w.heap.size + 1) (by simp)
  obtain ⟨x0, x1, x2, x3, x4, x5, x6, x7, x8, x9⟩ := X.ten
  obtain ⟨y0, y1, y2, y3, y4, y5, y6, y7, y8, y9⟩ := Y.ten
  have xl := X.lt
  have xf := X.fz
  have RB := R.later hB
  have d0 := (hB.cell (p := ⟨bb, oo, none⟩) lt).trans c0
  have d1 := (hB.cell (p := ⟨bb, oo + 1, none⟩) lt).trans c1
  have h1 : (1 : Int) < (b.length : Int) := by omega
  have h0 : (0 : Int) < (b.length : Int) := by omega
  go_enter Tryd.func13, Tryd.ntmps13
  go_wp2_with fail
  refine (rsum_at _ RB rfl hm).mono ?_
  rintro e w' ⟨rfl, rfl⟩
  go_wp2_with fail
  refine bodyPost_ret (v := .tuple #[.agg #[.int .i64 0, .int .i64 0, .int .i64 0, .int .i64 0, .int .i64 0, .int .i64 0, .int .i64 0, .int .i64 0, .int .i64 0, .int .i64 0], .int .i64 4]) (by simp [results, Tryd.results13, go_sem, x0, x1, x2, x3, x4, x5, x6, x7, x8, x9]) rfl ?_
  exact ⟨rfl, hB⟩
set_option maxHeartbeats 2000000 in
theorem ropen_pad (w : World) {bb oo c : Nat} {b : List Int} (R : Reads .u8 w (some ⟨bb, oo, none⟩) c b) (lt : bb < w.heap.size) (c0 : w.cell? ⟨bb, oo, none⟩ = some (.int .u8 197)) {N : Nat} (c1 : w.cell? ⟨bb, oo + 1, none⟩ = some (.int .u8 (N : Int))) (hN : N ≤ 255) (h4 : 4 ≤ b.length) (ht : (N : Int).tmod 2 = 1) (h5 : b.length ≤ N + 1 + 4) (h5b : N + 1 + 4 ≤ b.length) (hm : b.length ≤ 100000) (h6 : (O.sumN b != 0) = false) {xp : Int} (c2 : w.cell? ⟨bb, oo + (2 + N), none⟩ = some (.int .u8 xp)) (hx : (xp != 0) = true) :
    Calls Tryd.prog 13 #[.slice (some ⟨bb, oo, none⟩) b.length c] w fun e w' => e = .returned (.tuple #[.agg #[.int .i64 0, .int .i64 0, .int .i64 0, .int .i64 0, .int .i64 0, .int .i64 0, .int .i64 0, .int .i64 0, .int .i64 0, .int .i64 0], .int .i64 2]) ∧ Below w.heap.size w w' := by
  have hmx := R.max
  unfold maxLen at hmx
  have hle := R.le
  have hB := below_step (below_new w (.cells #[.int .i64 0, .int .i64 0, .int .i64 0, .int .i64 0, .int .i64 0, .int .i64 0, .int .i64 0, .int .i64 0, .int .i64 0, .int .i64 0] 29)) (below_new (w.alloc (.cells #[.int .i64 0, .int .i64 0, .int .i64 0, .int .i64 0, .int .i64 0, .int .i64 0, .int .i64 0, .int .i64 0, .int .i64 0, .int .i64 0] 29)) (.cells #[.int .i64 0, .int .i64 0, .int .i64 0, .int .i64 0, .int .i64 0, .int .i64 0, .int .i64 0, .int .i64 0, .int .i64 0, .int .i64 0] 29))
  have X := (Lies.new w [0, 0, 0, 0, 0, 0, 0, 0, 0, 0] 29 rfl).later (below_new (w.alloc (.cells #[.int .i64 0, .int .i64 0, .int .i64 0, .int .i64 0, .int .i64 0, .int .i64 0, .int .i64 0, .int .i64 0, .int .i64 0, .int .i64 0] 29)) (.cells #[.int .i64 0, .int .i64 0, .int .i64 0, .int .i64 0, .int .i64 0, .int .i64 0, .int .i64 0, .int .i64 0, .int .i64 0, .int .i64 0] 29))
  have Y := Lies.new (w.alloc (.cells #[.int .i64 0, .int .i64 0, .int .i64 0, .int .i64 0, .int .i64 0, .int .i64 0, .int .i64 0, .int .i64 0, .int .i64 0, .int .i64 0] 29)) [0, 0, 0, 0, 0, 0, 0, 0, 0, 0] 29 (B := w.heap.size + 1) (by simp)
  obtain ⟨x0, x1, x2, x3, x4, x5, x6, x7, x8, x9⟩ := X.ten
  obtain ⟨y0, y1, y2, y3, y4, y5, y6, y7, y8, y9⟩ := Y.ten
  have xl := X.lt
  have xf := X.fz
  have RB := R.later hB
  have d0 := (hB.cell (p := ⟨bb, oo, none⟩) lt).trans c0
  have d1 := (hB.cell (p := ⟨bb, oo + 1, none⟩) lt).trans c1
  have h1 : (1 : Int) < (b.length : Int) := by omega
  have h0 : (0 : Int) < (b.length : Int) := by omega
  have d2 := (hB.cell (p := ⟨bb, oo + (2 + N), none⟩) lt).trans c2
  have h7 : (2 : Int) + (N : Int) < (b.length : Int) := by omega
  have h8 : (0 : Int) ≤ (2 : Int) + (N : Int) := by omega
  have h9 : ((2 : Int) + (N : Int)).toNat = 2 + N := by omega
  go_enter Tryd.func13, Tryd.ntmps13
  go_wp2_with fail
  refine (rsum_at _ RB rfl hm).mono ?_
  rintro e w' ⟨rfl, rfl⟩
  go_wp2_with fail
  refine bodyPost_ret (v := .tuple #[.agg #[.int .i64 0, .int .i64 0, .int .i64 0, .int .i64 0, .int .i64 0, .int .i64 0, .int .i64 0, .int .i64 0, .int .i64 0, .int .i64 0], .int .i64 2]) (by simp [results, Tryd.results13, go_sem, x0, x1, x2, x3, x4, x5, x6, x7, x8, x9]) rfl ?_
  exact ⟨rfl, hB⟩
set_option maxHeartbeats 2000000 in
theorem ropen_in0 (w : World) {bb oo c : Nat} {b : List Int} (R : Reads .u8 w (some ⟨bb, oo, none⟩) c b) (lt : bb < w.heap.size) (c0 : w.cell? ⟨bb, oo, none⟩ = some (.int .u8 197)) {N : Nat} (c1 : w.cell? ⟨bb, oo + 1, none⟩ = some (.int .u8 (N : Int))) (hN : N ≤ 255) (h4 : 4 ≤ b.length) (ht : (N : Int).tmod 2 = 0) (h5 : b.length ≤ N + 0 + 4) (h5b : N + 0 + 4 ≤ b.length) (hm : b.length ≤ 100000) (h6 : (O.sumN b != 0) = false) {y' z v g a' n' i p' k t zz : Int} (G : ∀ w1, Below w.heap.size w w1 → Calls Tryd.prog 25 #[.slice (some ⟨bb, oo + 2, none⟩) N (c - 2)] w1 fun e w' => e = .returned (.tuple #[.agg #[.int .i64 y', .int .i64 z, .int .i64 v, .int .i64 g, .int .i64 a', .int .i64 n', .int .i64 i, .int .i64 p', .int .i64 k, .int .i64 t], .int .i64 zz]) ∧ Below w1.heap.size w1 w') :
    Calls Tryd.prog 13 #[.slice (some ⟨bb, oo, none⟩) b.length c] w fun e w' => e = .returned (.tuple #[.agg #[.int .i64 y', .int .i64 z, .int .i64 v, .int .i64 g, .int .i64 a', .int .i64 n', .int .i64 i, .int .i64 p', .int .i64 k, .int .i64 t], .int .i64 zz]) ∧ Below w.heap.size w w' := by
  have hmx := R.max
  unfold maxLen at hmx
  have hle := R.le
  have hB := below_step (below_new w (.cells #[.int .i64 0, .int .i64 0, .int .i64 0, .int .i64 0, .int .i64 0, .int .i64 0, .int .i64 0, .int .i64 0, .int .i64 0, .int .i64 0] 29)) (below_new (w.alloc (.cells #[.int .i64 0, .int .i64 0, .int .i64 0, .int .i64 0, .int .i64 0, .int .i64 0, .int .i64 0, .int .i64 0, .int .i64 0, .int .i64 0] 29)) (.cells #[.int .i64 0, .int .i64 0, .int .i64 0, .int .i64 0, .int .i64 0, .int .i64 0, .int .i64 0, .int .i64 0, .int .i64 0, .int .i64 0] 29))
  have X := (Lies.new w [0, 0, 0, 0, 0, 0, 0, 0, 0, 0] 29 rfl).later (below_new (w.alloc (.cells #[.int .i64 0, .int .i64 0, .int .i64 0, .int .i64 0, .int .i64 0, .int .i64 0, .int .i64 0, .int .i64 0, .int .i64 0, .int .i64 0] 29)) (.cells #[.int .i64 0, .int .i64 0, .int .i64 0, .int .i64 0, .int .i64 0, .int .i64 0, .int .i64 0, .int .i64 0, .int .i64 0, .int .i64 0] 29))
  have Y := Lies.new (w.alloc (.cells #[.int .i64 0, .int .i64 0, .int .i64 0, .int .i64 0, .int .i64 0, .int .i64 0, .int .i64 0, .int .i64 0, .int .i64 0, .int .i64 0] 29)) [0, 0, 0, 0, 0, 0, 0, 0, 0, 0] 29 (B := w.heap.size + 1) (by simp)
  obtain ⟨x0, x1, x2, x3, x4, x5, x6, x7, x8, x9⟩ := X.ten
  obtain ⟨y0, y1, y2, y3, y4, y5, y6, y7, y8, y9⟩ := Y.ten
  have xl := X.lt
  have xf := X.fz
  have RB := R.later hB
  have d0 := (hB.cell (p := ⟨bb, oo, none⟩) lt).trans c0
  have d1 := (hB.cell (p := ⟨bb, oo + 1, none⟩) lt).trans c1
  have h1 : (1 : Int) < (b.length : Int) := by omega
  have h0 : (0 : Int) < (b.length : Int) := by omega
  have h8 : (0 : Int) ≤ (2 : Int) + (N : Int) := by omega
  have s2 : (2 : Int) + (N : Int) ≤ (c : Int) := by omega
  have s4 : (2 : Int) ≤ (2 : Int) + (N : Int) := by omega
  have s5 : ((2 : Int) + (N : Int)).toNat = 2 + N := by omega
  have s6 : 2 + N - 2 = N := by omega
  have s7 : ¬ c = 2 := by omega
  go_enter Tryd.func13, Tryd.ntmps13
  go_wp2_with fail
  refine (rsum_at _ RB rfl hm).mono ?_
  rintro e w' ⟨rfl, rfl⟩
  go_wp2_with fail
  refine (G _ hB).mono ?_
  rintro e w3 ⟨rfl, hb⟩
  have hz := below_new w3 (.cells #[.int .i64 y', .int .i64 z, .int .i64 v, .int .i64 g, .int .i64 a', .int .i64 n', .int .i64 i, .int .i64 p', .int .i64 k, .int .i64 t] 29)
  have V := Lies.new w3 [y', z, v, g, a', n', i, p', k, t] 29 rfl
  replace X := (X.later hb).later hz
  replace hB := below_step (below_step hB hb) hz
  clear x0 x1 x2 x3 x4 x5 x6 x7 x8 x9 y0 y1 y2 y3 y4 y5 y6 y7 y8 y9 xl xf hb hz
  obtain ⟨x0, x1, x2, x3, x4, x5, x6, x7, x8, x9⟩ := X.ten
  obtain ⟨u0, u1, u2, u3, u4, u5, u6, u7, u8, u9⟩ := V.ten
  have xl := X.lt
  have xf := X.fz
  go_wp2_with fail
  refine bodyPost_ret (v := .tuple #[.agg #[.int .i64 y', .int .i64 z, .int .i64 v, .int .i64 g, .int .i64 a', .int .i64 n', .int .i64 i, .int .i64 p', .int .i64 k, .int .i64 t], .int .i64 zz]) (by simp [results, Tryd.results13, go_sem, x0, x1, x2, x3, x4, x5, x6, x7, x8, x9]) rfl ?_
  exact ⟨rfl, below_lay10 _ _ _ _ _ _ _ _ _ _ hB (Nat.le_refl _)⟩
set_option maxHeartbeats 2000000 in
theorem ropen_in1 (w : World) {bb oo c : Nat} {b : List Int} (R : Reads .u8 w (some ⟨bb, oo, none⟩) c b) (lt : bb < w.heap.size) (c0 : w.cell? ⟨bb, oo, none⟩ = some (.int .u8 197)) {N : Nat} (c1 : w.cell? ⟨bb, oo + 1, none⟩ = some (.int .u8 (N : Int))) (hN : N ≤ 255) (h4 : 4 ≤ b.length) (ht : (N : Int).tmod 2 = 1) (h5 : b.length ≤ N + 1 + 4) (h5b : N + 1 + 4 ≤ b.length) (hm : b.length ≤ 100000) (h6 : (O.sumN b != 0) = false) (c2 : w.cell? ⟨bb, oo + (2 + N), none⟩ = some (.int .u8 0)) {y' z v g a' n' i p' k t zz : Int} (G : ∀ w1, Below w.heap.size w w1 → Calls Tryd.prog 25 #[.slice (some ⟨bb, oo + 2, none⟩) N (c - 2)] w1 fun e w' => e = .returned (.tuple #[.agg #[.int .i64 y', .int .i64 z, .int .i64 v, .int .i64 g, .int .i64 a', .int .i64 n', .int .i64 i, .int .i64 p', .int .i64 k, .int .i64 t], .int .i64 zz]) ∧ Below w1.heap.size w1 w') :
    Calls Tryd.prog 13 #[.slice (some ⟨bb, oo, none⟩) b.length c] w fun e w' => e = .returned (.tuple #[.agg #[.int .i64 y', .int .i64 z, .int .i64 v, .int .i64 g, .int .i64 a', .int .i64 n', .int .i64 i, .int .i64 p', .int .i64 k, .int .i64 t], .int .i64 zz]) ∧ Below w.heap.size w w' := by
  have hmx := R.max
  unfold maxLen at hmx
  have hle := R.le
  have hB := below_step (below_new w (.cells #[.int .i64 0, .int .i64 0, .int .i64 0, .int .i64 0, .int .i64 0, .int .i64 0, .int .i64 0, .int .i64 0, .int .i64 0, .int .i64 0] 29)) (below_new (w.alloc (.cells #[.int .i64 0, .int .i64 0, .int .i64 0, .int .i64 0, .int .i64 0, .int .i64 0, .int .i64 0, .int .i64 0, .int .i64 0, .int .i64 0] 29)) (.cells #[.int .i64 0, .int .i64 0, .int .i64 0, .int .i64 0, .int .i64 0, .int .i64 0, .int .i64 0, .int .i64 0, .int .i64 0, .int .i64 0] 29))
  have X := (Lies.new w [0, 0, 0, 0, 0, 0, 0, 0, 0, 0] 29 rfl).later (below_new (w.alloc (.cells #[.int .i64 0, .int .i64 0, .int .i64 0, .int .i64 0, .int .i64 0, .int .i64 0, .int .i64 0, .int .i64 0, .int .i64 0, .int .i64 0] 29)) (.cells #[.int .i64 0, .int .i64 0, .int .i64 0, .int .i64 0, .int .i64 0, .int .i64 0, .int .i64 0, .int .i64 0, .int .i64 0, .int .i64 0] 29))
  have Y := Lies.new (w.alloc (.cells #[.int .i64 0, .int .i64 0, .int .i64 0, .int .i64 0, .int .i64 0, .int .i64 0, .int .i64 0, .int .i64 0, .int .i64 0, .int .i64 0] 29)) [0, 0, 0, 0, 0, 0, 0, 0, 0, 0] 29 (B := w.heap.size + 1) (by simp)
  obtain ⟨x0, x1, x2, x3, x4, x5, x6, x7, x8, x9⟩ := X.ten
  obtain ⟨y0, y1, y2, y3, y4, y5, y6, y7, y8, y9⟩ := Y.ten
  have xl := X.lt
  have xf := X.fz
  have RB := R.later hB
  have d0 := (hB.cell (p := ⟨bb, oo, none⟩) lt).trans c0
  have d1 := (hB.cell (p := ⟨bb, oo + 1, none⟩) lt).trans c1
  have h1 : (1 : Int) < (b.length : Int) := by omega
  have h0 : (0 : Int) < (b.length : Int) := by omega
  have d2 := (hB.cell (p := ⟨bb, oo + (2 + N), none⟩) lt).trans c2
  have h7 : (2 : Int) + (N : Int) < (b.length : Int) := by omega
  have h8 : (0 : Int) ≤ (2 : Int) + (N : Int) := by omega
  have h9 : ((2 : Int) + (N : Int)).toNat = 2 + N := by omega
  have s2 : (2 : Int) + (N : Int) ≤ (c : Int) := by omega
  have s4 : (2 : Int) ≤ (2 : Int) + (N : Int) := by omega
  have s6 : 2 + N - 2 = N := by omega
  have s7 : ¬ c = 2 := by omega
  go_enter Tryd.func13, Tryd.ntmps13
  go_wp2_with fail
  refine (rsum_at _ RB rfl hm).mono ?_
  rintro e w' ⟨rfl, rfl⟩
  go_wp2_with fail
  refine (G _ hB).mono ?_
  rintro e w3 ⟨rfl, hb⟩
  have hz := below_new w3 (.cells #[.int .i64 y', .int .i64 z, .int .i64 v, .int .i64 g, .int .i64 a', .int .i64 n', .int .i64 i, .int .i64 p', .int .i64 k, .int .i64 t] 29)
  have V := Lies.new w3 [y', z, v, g, a', n', i, p', k, t] 29 rfl
  replace X := (X.later hb).later hz
  replace hB := below_step (below_step hB hb) hz
  clear x0 x1 x2 x3 x4 x5 x6 x7 x8 x9 y0 y1 y2 y3 y4 y5 y6 y7 y8 y9 xl xf hb hz
  obtain ⟨x0, x1, x2, x3, x4, x5, x6, x7, x8, x9⟩ := X.ten
  obtain ⟨u0, u1, u2, u3, u4, u5, u6, u7, u8, u9⟩ := V.ten
  have xl := X.lt
  have xf := X.fz
  go_wp2_with fail
  refine bodyPost_ret (v := .tuple #[.agg #[.int .i64 y', .int .i64 z, .int .i64 v, .int .i64 g, .int .i64 a', .int .i64 n', .int .i64 i, .int .i64 p', .int .i64 k, .int .i64 t], .int .i64 zz]) (by simp [results, Tryd.results13, go_sem, x0, x1, x2, x3, x4, x5, x6, x7, x8, x9]) rfl ?_
  exact ⟨rfl, below_lay10 _ _ _ _ _ _ _ _ _ _ hB (Nat.le_refl _)⟩
theorem rmGet_at_none (w : World) {a : Option Addr} {c N : Nat} {b : List Int} {zz : Int} (R : Reads .u8 w a c b) (hN : b.length = N) (hl : N ≤ 100000) (h : mgE b = zz) (h0 : zz ≠ 0) :
    Calls Tryd.prog 25 #[.slice a N c] w fun e w' => e = .returned (.tuple #[.agg #[.int .i64 0, .int .i64 0, .int .i64 0, .int .i64 0, .int .i64 0, .int .i64 0, .int .i64 0, .int .i64 0, .int .i64 0, .int .i64 0], .int .i64 zz]) ∧ Below w.heap.size w w' := by
  subst hN
  exact rmGet_none w R hl h h0
theorem rmGet_at_some (w : World) {a : Option Addr} {c N : Nat} {b : List Int} {y z v g a' n i p k t : Int} (R : Reads .u8 w a c b) (hN : b.length = N) (hl : N ≤ 100000) (h : mgE b = 0) (hm : isMsg b y z v g a' n i p k t) :
    Calls Tryd.prog 25 #[.slice a N c] w fun e w' => e = .returned (.tuple #[.agg #[.int .i64 y, .int .i64 z, .int .i64 v, .int .i64 g, .int .i64 a', .int .i64 n, .int .i64 i, .int .i64 p, .int .i64 k, .int .i64 t], .int .i64 0]) ∧ Below w.heap.size w w' := by
  subst hN
  exact rmGet_some w R hl h hm
theorem rem_2 (n : Nat) : (n : Int).tmod 2 = ((n % 2 : Nat) : Int) := rfl
/-- the frame itself is well -/
theorem ropen_in (w : World) {bb oo c : Nat} {b : List Int} (R : Reads .u8 w (some ⟨bb, oo, none⟩) c b) (lt : bb < w.heap.size) (hc : ∀ i, i < b.length → w.cell? ⟨bb, oo + i, none⟩ = some (.int .u8 (b.getD i 0))) (hl : b.length ≤ 100000)
    (h4 : 4 ≤ b.length) (hm : b.getD 0 0 = 197) (h7 : b.length = sizeF b) (h8 : O.sumN b = 0) (h9 : badPad b = false) {y z v g a' n i p k t zz : Int}
    (G : ∀ w1, Below w.heap.size w w1 → Calls Tryd.prog 25 #[.slice (some ⟨bb, oo + 2, none⟩) (nF b) (c - 2)] w1 fun e w' => e = .returned (.tuple #[.agg #[.int .i64 y, .int .i64 z, .int .i64 v, .int .i64 g, .int .i64 a', .int .i64 n, .int .i64 i, .int .i64 p, .int .i64 k, .int .i64 t], .int .i64 zz]) ∧ Below w1.heap.size w1 w') :
    Calls Tryd.prog 13 #[.slice (some ⟨bb, oo, none⟩) b.length c] w fun e w' => e = .returned (.tuple #[.agg #[.int .i64 y, .int .i64 z, .int .i64 v, .int .i64 g, .int .i64 a', .int .i64 n, .int .i64 i, .int .i64 p, .int .i64 k, .int .i64 t], .int .i64 zz]) ∧ Below w.heap.size w w' := by
  have c0 := hc 0 (by omega)
  have c1 := hc 1 (by omega)
  have hn := nF_le R.oct
  have e1 : b.getD 1 0 = (nF b : Int) := by have := R.oct.at 1; unfold nF; omega
  rw [Nat.add_zero, hm] at c0
  rw [e1] at c1
  have hs : (O.sumN b != 0) = false := by simpa using h8
  unfold sizeF at h7
  by_cases ho : nF b % 2 = 1
  · have c2 := hc (2 + nF b) (by omega)
    have hz : b.getD (2 + nF b) 0 = 0 := by
      by_cases hz : b.getD (2 + nF b) 0 = 0
      · exact hz
      · exact absurd ⟨ho, hz⟩ (of_decide_eq_false h9)
    rw [hz] at c2
    exact ropen_in1 w R lt c0 c1 hn h4 (by rw [rem_2, ho]; rfl) (by omega) (by omega) hl hs c2 G
  · have h0 : nF b % 2 = 0 := by omega
    exact ropen_in0 w R lt c0 c1 hn h4 (by rw [rem_2, h0]; rfl) (by omega) (by omega) hl hs G
/-- Open, of bytes of no message -/
theorem rOpen_none (w : World) {a : Option Addr} {c : Nat} {b : List Int} {zz : Int} (R : Reads .u8 w a c b) (hl : b.length ≤ 100000) (h : foE b = zz) (h0 : zz ≠ 0) :
    Calls Tryd.prog 13 #[.slice a b.length c] w fun e w' => e = .returned (.tuple #[.agg #[.int .i64 0, .int .i64 0, .int .i64 0, .int .i64 0, .int .i64 0, .int .i64 0, .int .i64 0, .int .i64 0, .int .i64 0, .int .i64 0], .int .i64 zz]) ∧ Below w.heap.size w w' := by
  by_cases h4 : b.length < 4
  · rw [foE_short h4] at h
    subst h
    exact ropen_short w R h4
  have h4' : 4 ≤ b.length := by omega
  obtain ⟨bb, oo, rfl, lt, hc⟩ := R.cells (by intro e; rw [e] at h4'; cases h4')
  have c0 := hc 0 (by omega)
  have c1 := hc 1 (by omega)
  have hn := nF_le R.oct
  have e1 : b.getD 1 0 = (nF b : Int) := by have := R.oct.at 1; unfold nF; omega
  rw [Nat.add_zero] at c0
  rw [e1] at c1
  by_cases hm : b.getD 0 0 = 197
  case neg =>
    rw [foE_mark h4' hm] at h
    subst h
    exact ropen_mark w R lt c0 h4' (by simpa using hm)
  rw [hm] at c0
  by_cases h5 : b.length < sizeF b
  · rw [foE_more h4' hm h5] at h
    subst h
    exact ropen_more w R lt c0 c1 hn h4' (rem_2 _) (by omega) (by unfold sizeF at h5; omega)
  by_cases h6 : sizeF b < b.length
  · rw [foE_long h4' hm h6] at h
    subst h
    exact ropen_long w R lt c0 c1 hn h4' (rem_2 _) (by omega) (by unfold sizeF at h6; omega)
  have h7 : b.length = sizeF b := by omega
  by_cases h8 : O.sumN b = 0
  case neg =>
    rw [foE_sum h4' hm h7 h8] at h
    subst h
    exact ropen_sum w R lt c0 c1 hn h4' (rem_2 _) (by omega) (by unfold sizeF at h7; omega) (by unfold sizeF at h7; omega) hl (by simpa using h8)
  cases h9 : badPad b
  · rw [foE_in h4' hm h7 h8 h9] at h
    exact ropen_in w R lt hc hl h4' hm h7 h8 h9 (fun w1 hb => rmGet_at_none w1 (reads_cut (R.later hb) 2 (nF b) (by omega)) (inF_len h7) (by omega) h h0)
  · rw [foE_pad h4' hm h7 h8 h9] at h
    subst h
    obtain ⟨ho, hz⟩ := of_decide_eq_true h9
    unfold sizeF at h7
    exact ropen_pad w R lt c0 c1 hn h4' (by rw [rem_2, ho]; rfl) (by omega) (by omega) hl (by simpa using h8) (hc (2 + nF b) (by omega)) (by simpa using hz)
/-- Open, of a frame -/
theorem rOpen_some (w : World) {a : Option Addr} {c : Nat} {b : List Int} {y z v g a' n i p k t : Int} (R : Reads .u8 w a c b) (hl : b.length ≤ 100000) (h : foE b = 0) (hm : isMsg (inF b) y z v g a' n i p k t) :
    Calls Tryd.prog 13 #[.slice a b.length c] w fun e w' => e = .returned (.tuple #[.agg #[.int .i64 y, .int .i64 z, .int .i64 v, .int .i64 g, .int .i64 a', .int .i64 n, .int .i64 i, .int .i64 p, .int .i64 k, .int .i64 t], .int .i64 0]) ∧ Below w.heap.size w w' := by
  obtain ⟨h4, h1, h7, h8, h9, hg⟩ := foE_zero h
  obtain ⟨bb, oo, rfl, lt, hc⟩ := R.cells (by intro e; rw [e] at h4; cases h4)
  have hn := nF_le R.oct
  exact ropen_in w R lt hc hl h4 h1 h7 h8 h9 (fun w1 hb => rmGet_at_some w1 (reads_cut (R.later hb) 2 (nF b) (by omega)) (inF_len h7) (by omega) hg hm)
end Go.Proofs.YtklcchmpmilcaaaDoor
