/- What the calls of package bits answer, for all arguments: the contracts that the claims on its statements rest on. -/
import Derived.Test.YtlgldoggnlcbkabRows
import Derived.Test.YtlgldoggnlcbkabBitsMath
import Derived.WalkKit
import Derived.ProofKit
import Derived.OpenShut
import Derived.WalkLawsBesides
import Derived.Outline
import Derived.Deep.RegionWith
import Derived.Deep.DrawnRows
namespace Go.Proofs.Ytlgldoggnlcbkab
open Go.ChangeShapes Go.WideShapes Go.ChangeAt Go.RowKit M

theorem ret_int {k : IntKind} {a b : Int} (h : a = b) : Ending.returned (.int k a) = .returned (.int k b) := by rw [h]
theorem ret_bool {a b : Bool} (h : a = b) : Ending.returned (.bool a) = .returned (.bool b) := by rw [h]
theorem below_step {w W w1 : World} (h : Below w.heap.size w W) (hb : Below W.heap.size W w1) : Below w.heap.size w w1 := h.trans (hb.mono h.size)
theorem bcell {W w1 : World} (hb : Below W.heap.size W w1) : (∀ b o, b < W.heap.size → w1.cell? ⟨b, o, none⟩ = W.cell? ⟨b, o, none⟩) ∧ (∀ b o, b < W.heap.size → w1.frozen? ⟨b, o, none⟩ = W.frozen? ⟨b, o, none⟩) :=
  ⟨fun b o h => hb.cell (p := ⟨b, o, none⟩) h, fun b o h => hb.frozen (p := ⟨b, o, none⟩) h⟩

/-! ### bits.bound, bits.head, bits.Mask -/
theorem bound_any (n : Int) (w : World) :
    Calls Try.prog 28 #[.int .i64 n] w fun e w' => e = .returned (.int .i64 (cl n)) ∧ w' = w := by
  by_cases h1 : n < 0
  · go_enter Try.func28, Try.ntmps28
    go_wp2
    go_ret
    exact ⟨ret_int (by unfold cl; rw [if_pos h1]), rfl⟩
  · by_cases h2 : 32 < n
    · go_enter Try.func28, Try.ntmps28
      go_wp2
      go_ret
      exact ⟨ret_int (by unfold cl; rw [if_neg (by omega), if_pos (by omega)]), rfl⟩
    · go_enter Try.func28, Try.ntmps28
      go_wp2
      go_ret
      exact ⟨ret_int (by unfold cl; rw [if_neg (by omega), if_neg (by omega)]), rfl⟩

theorem head_any (n : Int) (w : World) :
    Calls Try.prog 27 #[.int .i64 n] w fun e w' => e = .returned (.int .u32 (hd n)) ∧ w' = w := by
  have h1 := cl_lo n; have h2 := cl_hi n
  go_enter Try.func27, Try.ntmps27
  go_wp2_with (go_at_call 28; refine (bound_any _ _).mono ?_; rintro e w' ⟨rfl, rfl⟩)
  go_ret
  exact ⟨ret_int (shl_head n), rfl⟩

/-! ### (word).bit, bits.Bit -/
theorem wbit_any (a i : Int) (h3 : 0 ≤ a) (h4 : a ≤ 4294967295) (w : World) :
    Calls Try.prog 30 #[.int .u32 a, .int .i64 i] w fun e w' => e = .returned (.int .i64 (bt a i)) ∧ w' = w := by
  by_cases h1 : i < 0
  · go_enter Try.func30, Try.ntmps30
    go_wp2
    go_ret
    exact ⟨ret_int (bt_out (.inl h1)).symm, rfl⟩
  · by_cases h2 : 32 ≤ i
    · go_enter Try.func30, Try.ntmps30
      go_wp2
      go_ret
      exact ⟨ret_int (bt_out (.inr h2)).symm, rfl⟩
    · have h0 : 0 ≤ i := by omega
      have h5 : i < 32 := by omega
      have key : wrap64 (bits .and .u32 (a / 2 ^ (31 - i).toNat) 1) = bt a i := by
        rw [and_one a h3 h4, bt_in h0 h5, Int.emod_eq_of_lt h3 (by omega)]
        unfold wrap64; omega
      have K : Hid (wrap64 (bits .and .u32 (a / 2 ^ (31 - i).toNat) 1) = bt a i) := key
      clear key h1 h2
      go_enter Try.func30, Try.ntmps30
      go_wp2
      go_ret
      exact ⟨ret_int K.out, rfl⟩

theorem bit_any (a i : Int) (w : World) :
    Calls Try.prog 23 #[.int .i64 a, .int .i64 i] w fun e w' => e = .returned (.int .i64 (bt a i)) ∧ w' = w := by
  have h1 : 0 ≤ a % 4294967296 := Int.emod_nonneg _ (by decide)
  have h2 : a % 4294967296 ≤ 4294967295 := by omega
  go_enter Try.func23, Try.ntmps23
  go_wp2_with (go_at_call 30; refine (wbit_any _ _ h1 h2 _).mono ?_; rintro e w' ⟨rfl, rfl⟩)
  go_ret
  exact ⟨ret_int (bt_mod a i), rfl⟩

theorem same_step {x y : Int} {k : Nat} (ha : Hid (∀ j : Nat, j < k → bt x j = bt y j)) (he : Hid (bt x k = bt y k)) : ∀ j : Nat, j < k + 1 → bt x j = bt y j := by
  intro j hj
  by_cases ej : j = k
  · rw [ej]; exact he.out
  · exact ha.out j (by omega)
/-! ### bits.same at two method values, bits.Common -/
theorem same_any (x y : Int) (hx0 : 0 ≤ x) (hx1 : x ≤ 4294967295) (hy0 : 0 ≤ y) (hy1 : y ≤ 4294967295) (w : World) :
    Calls Try.prog 29 #[.func (.func 30) #[.int .u32 x] #[], .func (.func 30) #[.int .u32 y] #[]] w fun e w' => e = .returned (.int .i64 (cmN x y)) ∧ w' = w := by
  go_enter Try.func29, Try.ntmps29
  go_wp2
  go_loop [6, 5] (fun i _ => ∃ k : Nat, k ≤ 32 ∧ i = .int .i64 k ∧ ∀ j : Nat, j < k → bt x j = bt y j) (fun i _ => 32 - (intOf i).toNat)
  case atStart => exact ⟨0, by omega, rfl, fun j hj => by omega⟩
  case round =>
    obtain ⟨k, hk, rfl, hall⟩ := hrel
    have HA : Hid (∀ j : Nat, j < k → bt x j = bt y j) := hall
    clear hall
    by_cases hlt : k < 32
    · by_cases he : bt x k = bt y k
      · have hb : (bt x k != bt y k) = false := by simpa using he
        have HE : Hid (bt x k = bt y k) := he
        clear he
        go_wp2_with (go_at_call 30; refine (wbit_any _ _ (by assumption) (by assumption) _).mono ?_; rintro e w' ⟨rfl, rfl⟩)
        go_round
        case rel => exact ⟨k + 1, by omega, by go_num, same_step HA HE⟩
        case measure => simp [intOf]; omega
      · have hb : (bt x k != bt y k) = true := by simpa using he
        have HE : Hid (bt x k ≠ bt y k) := he
        clear he
        go_wp2_with (go_at_call 30; refine (wbit_any _ _ (by assumption) (by assumption) _).mono ?_; rintro e w' ⟨rfl, rfl⟩)
        go_ret
        exact ⟨ret_int (by rw [cm_of x y k HA.out (.inl ⟨hlt, HE.out⟩)]), rfl⟩
    · go_wp2
      go_ret
      exact ⟨ret_int (by rw [cm_of x y k HA.out (.inr (by omega))]; omega), rfl⟩

theorem cm_mod (a b : Int) : cmN (a % 4294967296) (b % 4294967296) = cmN a b := by unfold cmN; simp only [bt_mod]
theorem common_any (a b : Int) (w : World) :
    Calls Try.prog 21 #[.int .i64 a, .int .i64 b] w fun e w' => e = .returned (.int .i64 (cmN a b)) ∧ w' = w := by
  have h1 : 0 ≤ a % 4294967296 := Int.emod_nonneg _ (by decide)
  have h2 : a % 4294967296 ≤ 4294967295 := by omega
  have h3 : 0 ≤ b % 4294967296 := Int.emod_nonneg _ (by decide)
  have h4 : b % 4294967296 ≤ 4294967295 := by omega
  go_enter Try.func21, Try.ntmps21
  go_wp2_with (go_at_call 29; refine (same_any _ _ h1 h2 h3 h4 _).mono ?_; rintro e w' ⟨rfl, rfl⟩)
  go_ret
  exact ⟨ret_int (by rw [cm_mod]), rfl⟩

/-! ### bits.Cut, bits.Has, bits.May, bits.Within -/
theorem cut_any (a n : Int) (w : World) :
    Calls Try.prog 19 #[.int .i64 a, .int .i64 n] w fun e w' => e = .returned (.agg #[.int .i64 (ct a n), .int .i64 (cl n)]) ∧ Below w.heap.size w w' := by
  have hb := hd_bd n
  obtain ⟨h1, h2⟩ := hb
  have key : wrap64 (bits .and .u32 (a % 4294967296) (hd n)) = ct a n := by
    rw [and_head]; have := ct_bd a n; unfold wrap64; omega
  go_enter Try.func19, Try.ntmps19
  go_wp2_with (first | (go_at_call 28; refine (bound_any _ _).mono ?_; rintro e w' ⟨rfl, rfl⟩) | (go_at_call 27; refine (head_any _ _).mono ?_; rintro e w' ⟨rfl, rfl⟩))
  exact bodyPost_ret (v := .agg #[.int .i64 (ct a n), .int .i64 (cl n)]) (by simp [results, Try.results19, go_sem]) rfl ⟨rfl, (Below.refl _ _).alloc (Nat.le_refl _) _⟩

/-- two prefixes compared -/
theorem eq_prefix (a b c d : Int) (w : World) : (binOp .eql 24 (.agg #[.int .i64 a, .int .i64 b]) (.agg #[.int .i64 c, .int .i64 d])).run Try.prog w = .ok (.bool (a == c && b == d)) w := by
  cases h1 : (a == c) <;> cases h2 : (b == d) <;> go_simp
theorem has_is (a n x : Int) : (ct x n == a && cl n == n) = hasB a n x := by
  unfold hasB; rw [Bool.eq_iff_iff]; simp; exact And.comm

theorem has_any (p0 p1 x : Int) (w : World) :
    Calls Try.prog 12 #[.agg #[.int .i64 p0, .int .i64 p1], .int .i64 x] w fun e w' => e = .returned (.bool (hasB p0 p1 x)) ∧ Below w.heap.size w w' := by
  have heq := eq_prefix
  go_enter Try.func12, Try.ntmps12
  go_wp2
  go_region_with (go_at_call 19; refine (cut_any _ _ _).mono ?_; rintro e w1 ⟨rfl, hb⟩; obtain ⟨hc, hf⟩ := bcell hb)
  all_goals go_wp2
  all_goals go_ret
  all_goals exact ⟨ret_bool (has_is _ _ _), below_step (((Below.refl _ _).alloc (Nat.le_refl _) _).drew) hb⟩

theorem may_any (p0 p1 : Int) (w : World) :
    Calls Try.prog 5 #[.agg #[.int .i64 p0, .int .i64 p1]] w fun e w' => e = .returned (.bool (mayB p0 p1)) ∧ Below w.heap.size w w' := by
  go_enter Try.func5, Try.ntmps5
  go_wp2_with (go_at_call 12; refine (has_any _ _ _ _).mono ?_; rintro e w1 ⟨rfl, hb⟩)
  go_ret
  exact ⟨ret_bool (mayB_hasB _ _).symm, below_step ((Below.refl _ _).alloc (Nat.le_refl _) _) hb⟩

theorem within_any (p0 p1 q0 q1 : Int) (w : World) :
    Calls Try.prog 20 #[.agg #[.int .i64 p0, .int .i64 p1], .agg #[.int .i64 q0, .int .i64 q1]] w fun e w' => e = .returned (.bool (inB p0 p1 q0 q1)) ∧ Below w.heap.size w w' := by
  have b0 : Below w.heap.size w ((w.alloc (.cells #[.int .i64 p0, .int .i64 p1] 24)).alloc (.cells #[.int .i64 q0, .int .i64 q1] 24)) :=
    ((Below.refl _ _).alloc (Nat.le_refl _) _).alloc (by simp) _
  cases hp : mayB p0 p1
  · go_enter Try.func20, Try.ntmps20
    go_wp2_with fail
    refine (may_any _ _ _).mono ?_
    rintro e w1 ⟨rfl, hb1⟩
    go_wp2
    go_ret
    exact ⟨ret_bool (by simp [inB, hp]), below_step b0 hb1⟩
  · cases hq : mayB q0 q1
    · go_enter Try.func20, Try.ntmps20
      go_wp2_with fail
      refine (may_any _ _ _).mono ?_
      rintro e w1 ⟨rfl, hb1⟩
      obtain ⟨hc1, hf1⟩ := bcell hb1
      go_wp2_with fail
      refine (may_any _ _ _).mono ?_
      rintro e w2 ⟨rfl, hb2⟩
      go_wp2
      go_ret
      exact ⟨ret_bool (by simp [inB, hp, hq]), below_step (below_step b0 hb1) hb2⟩
    · by_cases hl : p1 ≤ q1
      · go_enter Try.func20, Try.ntmps20
        go_wp2_with fail
        refine (may_any _ _ _).mono ?_
        rintro e w1 ⟨rfl, hb1⟩
        obtain ⟨hc1, hf1⟩ := bcell hb1
        have hz1 := hb1.size
        simp at hz1
        have z0 : w.heap.size < w1.heap.size := by omega
        have z1 : w.heap.size + 1 < w1.heap.size := by omega
        clear hz1
        go_wp2_with fail
        refine (may_any _ _ _).mono ?_
        rintro e w2 ⟨rfl, hb2⟩
        obtain ⟨hc2, hf2⟩ := bcell hb2
        go_wp2_with fail
        refine (has_any _ _ _ _).mono ?_
        rintro e w3 ⟨rfl, hb3⟩
        go_wp2
        go_ret
        exact ⟨ret_bool (by simp [inB, hp, hq, hl]), below_step (below_step (below_step b0 hb1) hb2) hb3⟩
      · go_enter Try.func20, Try.ntmps20
        go_wp2_with fail
        refine (may_any _ _ _).mono ?_
        rintro e w1 ⟨rfl, hb1⟩
        obtain ⟨hc1, hf1⟩ := bcell hb1
        have hz1 := hb1.size
        simp at hz1
        have z0 : w.heap.size < w1.heap.size := by omega
        have z1 : w.heap.size + 1 < w1.heap.size := by omega
        clear hz1
        go_wp2_with fail
        refine (may_any _ _ _).mono ?_
        rintro e w2 ⟨rfl, hb2⟩
        obtain ⟨hc2, hf2⟩ := bcell hb2
        go_wp2
        go_ret
        exact ⟨ret_bool (by simp [inB, hp, hq]; omega), below_step (below_step b0 hb1) hb2⟩

/-- what the walk keeps: the two prefixes lie in the call's own first two blocks, and nothing that was there before has turned -/
structure St (w W : World) (p0 p1 q0 q1 : Int) : Prop where
  below : Below w.heap.size w W
  room : w.heap.size + 1 < W.heap.size
  c0 : W.cell? ⟨w.heap.size, 0, none⟩ = some (.int .i64 p0)
  c1 : W.cell? ⟨w.heap.size, 1, none⟩ = some (.int .i64 p1)
  c2 : W.cell? ⟨w.heap.size + 1, 0, none⟩ = some (.int .i64 q0)
  c3 : W.cell? ⟨w.heap.size + 1, 1, none⟩ = some (.int .i64 q1)
theorem St.step {w W w1 : World} {p0 p1 q0 q1 : Int} (s : St w W p0 p1 q0 q1) (hb : Below W.heap.size W w1) : St w w1 p0 p1 q0 q1 :=
  ⟨below_step s.below hb, Nat.lt_of_lt_of_le s.room hb.size,
   (hb.cell (p := ⟨w.heap.size, 0, none⟩) (Nat.lt_of_succ_lt s.room)).trans s.c0, (hb.cell (p := ⟨w.heap.size, 1, none⟩) (Nat.lt_of_succ_lt s.room)).trans s.c1,
   (hb.cell (p := ⟨w.heap.size + 1, 0, none⟩) s.room).trans s.c2, (hb.cell (p := ⟨w.heap.size + 1, 1, none⟩) s.room).trans s.c3⟩
theorem St.new (w : World) (p0 p1 q0 q1 : Int) : St w ((w.alloc (.cells #[.int .i64 p0, .int .i64 p1] 24)).alloc (.cells #[.int .i64 q0, .int .i64 q1] 24)) p0 p1 q0 q1 :=
  ⟨((Below.refl _ _).alloc (Nat.le_refl _) _).alloc (by simp) _, by simp, by go_simp, by go_simp, by go_simp, by go_simp⟩


/-- what the walk keeps of one prefix in a block of the call's own -/
structure St1 (w W : World) (B : Nat) (p0 p1 : Int) : Prop where
  below : Below w.heap.size w W
  room : B < W.heap.size
  c0 : W.cell? ⟨B, 0, none⟩ = some (.int .i64 p0)
  c1 : W.cell? ⟨B, 1, none⟩ = some (.int .i64 p1)
theorem St1.step {w W w1 : World} {B : Nat} {p0 p1 : Int} (s : St1 w W B p0 p1) (hb : Below W.heap.size W w1) : St1 w w1 B p0 p1 :=
  ⟨below_step s.below hb, Nat.lt_of_lt_of_le s.room hb.size, (hb.cell (p := ⟨B, 0, none⟩) s.room).trans s.c0, (hb.cell (p := ⟨B, 1, none⟩) s.room).trans s.c1⟩
theorem St1.drew {w W : World} {B : Nat} {p0 p1 : Int} (s : St1 w W B p0 p1) : St1 w W.drew B p0 p1 :=
  ⟨s.below.drew, s.room, s.c0, s.c1⟩
theorem St1.new {w w2 : World} (p0 p1 : Int) (hb : Below w.heap.size w w2) : St1 w (w2.alloc (.cells #[.int .i64 p0, .int .i64 p1] 24)) w2.heap.size p0 p1 :=
  ⟨hb.alloc hb.size _, by simp, by go_simp, by go_simp⟩
end Go.Proofs.Ytlgldoggnlcbkab
