/- What the calls of package bits answer, for all arguments: the contracts that the claims on its statements rest on. -/
import Derived.Test.YtihgpllbgliplaaRows
import Derived.Test.YtihgpllbgliplaaMaths
import Derived.WalkKit
import Derived.ProofKit
import Derived.OpenShut
import Derived.WalkLawsBesides
import Derived.Outline
import Derived.Deep.RegionWith
import Derived.Deep.DrawnRows
namespace Go.Proofs.Ytihgpllbgliplaa
open Go.ChangeShapes Go.WideShapes Go.ChangeAt Go.RowKit M

theorem ret_int {k : IntKind} {a b : Int} (h : a = b) : Ending.returned (.int k a) = .returned (.int k b) := by rw [h]
theorem ret_bool {a b : Bool} (h : a = b) : Ending.returned (.bool a) = .returned (.bool b) := by rw [h]
theorem below_step {w W w1 : World} (h : Below w.heap.size w W) (hb : Below W.heap.size W w1) : Below w.heap.size w w1 := h.trans (hb.mono h.size)
theorem bcell {W w1 : World} (hb : Below W.heap.size W w1) : (∀ b o, b < W.heap.size → w1.cell? ⟨b, o, none⟩ = W.cell? ⟨b, o, none⟩) ∧ (∀ b o, b < W.heap.size → w1.frozen? ⟨b, o, none⟩ = W.frozen? ⟨b, o, none⟩) :=
  ⟨fun b o h => hb.cell (p := ⟨b, o, none⟩) h, fun b o h => hb.frozen (p := ⟨b, o, none⟩) h⟩

/-! ### bits.bound, bits.head, bits.Mask -/
theorem bound_any (n : Int) (w : World) :
    Calls Try.prog 76 #[.int .i64 n] w fun e w' => e = .returned (.int .i64 (cl n)) ∧ w' = w := by
  by_cases h1 : n < 0
  · go_enter Try.func76, Try.ntmps76
    go_wp2
    go_ret
    exact ⟨ret_int (by unfold cl; rw [if_pos h1]), rfl⟩
  · by_cases h2 : 32 < n
    · go_enter Try.func76, Try.ntmps76
      go_wp2
      go_ret
      exact ⟨ret_int (by unfold cl; rw [if_neg (by omega), if_pos (by omega)]), rfl⟩
    · go_enter Try.func76, Try.ntmps76
      go_wp2
      go_ret
      exact ⟨ret_int (by unfold cl; rw [if_neg (by omega), if_neg (by omega)]), rfl⟩

theorem head_any (n : Int) (w : World) :
    Calls Try.prog 75 #[.int .i64 n] w fun e w' => e = .returned (.int .u32 (hd n)) ∧ w' = w := by
  have h1 := cl_lo n; have h2 := cl_hi n
  go_enter Try.func75, Try.ntmps75
  go_wp2_with (go_at_call 76; refine (bound_any _ _).mono ?_; rintro e w' ⟨rfl, rfl⟩)
  go_ret
  exact ⟨ret_int (shl_head n), rfl⟩

/-! ### (word).bit, bits.Bit -/
theorem same_step {x y : Int} {k : Nat} (ha : Hid (∀ j : Nat, j < k → bt x j = bt y j)) (he : Hid (bt x k = bt y k)) : ∀ j : Nat, j < k + 1 → bt x j = bt y j := by
  intro j hj
  by_cases ej : j = k
  · rw [ej]; exact he.out
  · exact ha.out j (by omega)
/-! ### bits.Cut, bits.Has, bits.May, bits.Within -/
theorem cut_any (a n : Int) (w : World) :
    Calls Try.prog 61 #[.int .i64 a, .int .i64 n] w fun e w' => e = .returned (.agg #[.int .i64 (ct a n), .int .i64 (cl n)]) ∧ Below w.heap.size w w' := by
  have hb := hd_bd n
  obtain ⟨h1, h2⟩ := hb
  have key : wrap64 (bits .and .u32 (a % 4294967296) (hd n)) = ct a n := by
    rw [and_head]; have := ct_bd a n; unfold wrap64; omega
  go_enter Try.func61, Try.ntmps61
  go_wp2_with (first | (go_at_call 76; refine (bound_any _ _).mono ?_; rintro e w' ⟨rfl, rfl⟩) | (go_at_call 75; refine (head_any _ _).mono ?_; rintro e w' ⟨rfl, rfl⟩))
  exact bodyPost_ret (v := .agg #[.int .i64 (ct a n), .int .i64 (cl n)]) (by simp [results, Try.results61, go_sem]) rfl ⟨rfl, (Below.refl _ _).alloc (Nat.le_refl _) _⟩

/-- two prefixes compared -/
theorem eq_prefix (a b c d : Int) (w : World) : (binOp .eql 58 (.agg #[.int .i64 a, .int .i64 b]) (.agg #[.int .i64 c, .int .i64 d])).run Try.prog w = .ok (.bool (a == c && b == d)) w := by
  cases h1 : (a == c) <;> cases h2 : (b == d) <;> go_simp
theorem has_is (a n x : Int) : (ct x n == a && cl n == n) = hasB a n x := by
  unfold hasB; rw [Bool.eq_iff_iff]; simp; exact And.comm

theorem has_any (p0 p1 x : Int) (w : World) :
    Calls Try.prog 51 #[.agg #[.int .i64 p0, .int .i64 p1], .int .i64 x] w fun e w' => e = .returned (.bool (hasB p0 p1 x)) ∧ Below w.heap.size w w' := by
  have heq := eq_prefix
  go_enter Try.func51, Try.ntmps51
  go_wp2
  go_region_with (go_at_call 61; refine (cut_any _ _ _).mono ?_; rintro e w1 ⟨rfl, hb⟩; obtain ⟨hc, hf⟩ := bcell hb)
  all_goals go_wp2
  all_goals go_ret
  all_goals exact ⟨ret_bool (has_is _ _ _), below_step (((Below.refl _ _).alloc (Nat.le_refl _) _).drew) hb⟩

theorem may_any (p0 p1 : Int) (w : World) :
    Calls Try.prog 55 #[.agg #[.int .i64 p0, .int .i64 p1]] w fun e w' => e = .returned (.bool (mayB p0 p1)) ∧ Below w.heap.size w w' := by
  go_enter Try.func55, Try.ntmps55
  go_wp2_with (go_at_call 51; refine (has_any _ _ _ _).mono ?_; rintro e w1 ⟨rfl, hb⟩)
  go_ret
  exact ⟨ret_bool (mayB_hasB _ _).symm, below_step ((Below.refl _ _).alloc (Nat.le_refl _) _) hb⟩

/-- what the walk keeps: the two prefixes lie in the call's own first two blocks, and nothing that was there before has turned -/
structure St (w W : World) (p0 p1 q0 q1 : Int) : Prop where
  below : Below w.heap.size w W
  room : w.heap.size + 1 < W.heap.size
  c0 : W.cell? ⟨w.heap.size, 0, none⟩ = some (.int .i64 p0)
  c1 : W.cell? ⟨w.heap.size, 1, none⟩ = some (.int .i64 p1)
  c2 : W.cell? ⟨w.heap.size + 1, 0, none⟩ = some (.int .i64 q0)
  c3 : W.cell? ⟨w.heap.size + 1, 1, none⟩ = some (.int .i64 q1)
theorem St.step {w W w1 : World} {p0 p1 q0 q1 : Int} (s : St w W p0 p1 q0 q1) (hb : Below W.heap.size W w1) : St w w1 p0 p1 q0 q1 :=
  ⟨below_step s.below hb, Nat.lt_of_lt_of_le s.room hb.size,
   (hb.cell (p := ⟨w.heap.size, 0, none⟩) (Nat.lt_of_succ_lt s.room)).trans s.c0, (hb.cell (p := ⟨w.heap.size, 1, none⟩) (Nat.lt_of_succ_lt s.room)).trans s.c1,
   (hb.cell (p := ⟨w.heap.size + 1, 0, none⟩) s.room).trans s.c2, (hb.cell (p := ⟨w.heap.size + 1, 1, none⟩) s.room).trans s.c3⟩
theorem St.new (w : World) (p0 p1 q0 q1 : Int) : St w ((w.alloc (.cells #[.int .i64 p0, .int .i64 p1] 58)).alloc (.cells #[.int .i64 q0, .int .i64 q1] 58)) p0 p1 q0 q1 :=
  ⟨((Below.refl _ _).alloc (Nat.le_refl _) _).alloc (by simp) _, by simp, by go_simp, by go_simp, by go_simp, by go_simp⟩


/-- what the walk keeps of one prefix in a block of the call's own -/
structure St1 (w W : World) (B : Nat) (p0 p1 : Int) : Prop where
  below : Below w.heap.size w W
  room : B < W.heap.size
  c0 : W.cell? ⟨B, 0, none⟩ = some (.int .i64 p0)
  c1 : W.cell? ⟨B, 1, none⟩ = some (.int .i64 p1)
theorem St1.step {w W w1 : World} {B : Nat} {p0 p1 : Int} (s : St1 w W B p0 p1) (hb : Below W.heap.size W w1) : St1 w w1 B p0 p1 :=
  ⟨below_step s.below hb, Nat.lt_of_lt_of_le s.room hb.size, (hb.cell (p := ⟨B, 0, none⟩) s.room).trans s.c0, (hb.cell (p := ⟨B, 1, none⟩) s.room).trans s.c1⟩
theorem St1.drew {w W : World} {B : Nat} {p0 p1 : Int} (s : St1 w W B p0 p1) : St1 w W.drew B p0 p1 :=
  ⟨s.below.drew, s.room, s.c0, s.c1⟩
theorem St1.new {w w2 : World} (p0 p1 : Int) (hb : Below w.heap.size w w2) : St1 w (w2.alloc (.cells #[.int .i64 p0, .int .i64 p1] 58)) w2.heap.size p0 p1 :=
  ⟨hb.alloc hb.size _, by simp, by go_simp, by go_simp⟩
end Go.Proofs.Ytihgpllbgliplaa
