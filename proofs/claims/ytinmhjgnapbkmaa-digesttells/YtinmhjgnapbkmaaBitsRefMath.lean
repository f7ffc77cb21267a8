/- Plain arithmetic for the document's answers on package bits: what their loops add up to. -/
import Derived.Test.YtinmhjgnapbkmaaBitsMath
import Derived.Laws.Bits128
namespace Go.Proofs.Ytinmhjgnapbkmaa.M
open Go

theorem i64_low (n : Int) : bits .and .i64 n 4294967295 = n % 4294967296 := by
  have h127 : (BitVec.ofInt 64 4294967295).toNat = 2 ^ 32 - 1 := by decide
  have key : (BitVec.ofInt 64 n &&& BitVec.ofInt 64 4294967295).toNat = (n % ((2 ^ 64 : Nat) : Int)).toNat % 2 ^ 32 := by
    rw [BitVec.toNat_and, BitVec.toNat_ofInt, h127, Nat.and_two_pow_sub_one_eq_mod]
  show IntKind.i64.wrap ((BitVec.ofInt 64 n &&& BitVec.ofInt 64 4294967295).toNat : Nat) = n % 4294967296
  rw [key, IntKind.wrap_i64]
  omega

/-- what the mask's loop holds behind i rounds -/
def mkN (c : Nat) : Nat → Nat
  | 0 => 0
  | i + 1 => mkN c i * 2 + if i < c then 1 else 0
theorem mk_all : ∀ k : Fin 33, ((mkN k.val 32 : Nat) : Int) = 4294967296 - 2 ^ (32 - k.val) := by decide +kernel
theorem mk_hd (n : Int) : ((mkN (cl n).toNat 32 : Nat) : Int) = hd n := by
  have h0 := cl_lo n; have h1 := cl_hi n
  have := mk_all ⟨(cl n).toNat, by omega⟩
  unfold hd
  rw [show (32 - cl n).toNat = 32 - (cl n).toNat by omega]
  exact this
theorem mk_lt (c : Nat) : ∀ i, mkN c i < 2 ^ i
  | 0 => by unfold mkN; decide
  | i + 1 => by
    have := mk_lt c i
    have e : 2 ^ (i + 1) = 2 ^ i * 2 := Nat.pow_succ ..
    unfold mkN; split <;> omega

/-- what the cut's loop holds behind i rounds -/
def cuZ (a : Int) (c : Nat) : Nat → Int
  | 0 => 0
  | i + 1 => cuZ a c i * 2 + if i < c then bt a i else 0
theorem cu_lo (a : Int) (c : Nat) : ∀ i, i ≤ c → c ≤ 32 → cuZ a c i = tp a i
  | 0, _, _ => (tp_zero a).symm
  | i + 1, h, hc => by
    have := cu_lo a c i (by omega) hc
    unfold cuZ
    rw [this, if_pos (by omega), tp_succ a i (by omega)]
theorem cu_hi (a : Int) (c : Nat) (hc : c ≤ 32) : ∀ j, cuZ a c (c + j) = tp a c * 2 ^ j
  | 0 => by rw [Nat.add_zero, cu_lo a c c (Nat.le_refl _) hc]; simp
  | j + 1 => by
    have := cu_hi a c hc j
    show cuZ a c (c + j) * 2 + (if c + j < c then bt a ((c + j : Nat) : Int) else 0) = _
    rw [this, if_neg (by omega), Int.pow_succ]; simp [Int.mul_assoc]
theorem cu_ct (a n : Int) : cuZ a (cl n).toNat 32 = ct a n := by
  have h0 := cl_lo n; have h1 := cl_hi n
  have h := cu_hi a (cl n).toNat (by omega) (32 - cl n).toNat
  rw [show (cl n).toNat + (32 - cl n).toNat = 32 by omega] at h
  rw [h, ct_tp]
theorem cu_bd (a : Int) (c : Nat) : ∀ i, 0 ≤ cuZ a c i ∧ cuZ a c i < 2 ^ i
  | 0 => by unfold cuZ; decide
  | i + 1 => by
    have := cu_bd a c i
    have hb := bt_01 a i
    have e : (2 : Int) ^ (i + 1) = 2 ^ i * 2 := Int.pow_succ ..
    unfold cuZ; split <;> omega

/-- the bits from n on are 0 just where a cut changes nothing -/
theorem tail_zero (a : Int) (ha0 : 0 ≤ a) (ha1 : a ≤ 4294967295) (n : Nat) (hn : n ≤ 32) : (∀ j : Nat, n ≤ j → j < 32 → bt a j = 0) ↔ ct a n = a := by
  have e : a % 4294967296 = a := Int.emod_eq_of_lt ha0 (by omega)
  have key : ∀ d, n + d ≤ 32 → ((∀ j : Nat, n ≤ j → j < n + d → bt a j = 0) ↔ tp a (n + d) = tp a n * 2 ^ d) := by
    intro d
    induction d with
    | zero => intro _; simp; intro j h1 h2; omega
    | succ d ih =>
      intro hd
      have ih' := ih (by omega)
      have hs := tp_succ a (n + d) (by omega)
      have hb := bt_01 a (n + d : Nat)
      have hlow : tp a n * 2 ^ d ≤ tp a (n + d) := by
        unfold tp
        have e2 : 32 - n = (32 - (n + d)) + d := by omega
        rw [e2, Int.pow_add, ← Int.ediv_ediv_of_nonneg (Int.le_of_lt (pw_pos _))]
        exact Int.ediv_mul_le _ (Int.ne_of_gt (pw_pos d))
      have e3 : tp a n * 2 ^ (d + 1) = tp a n * 2 ^ d * 2 := by rw [Int.pow_succ, Int.mul_assoc]
      rw [show n + (d + 1) = n + d + 1 by omega, e3]
      constructor
      · intro h
        have h1 := ih'.1 (fun j h1 h2 => h j h1 (by omega))
        have h2 := h (n + d) (by omega) (by omega)
        omega
      · intro h
        have h1 : tp a (n + d) = tp a n * 2 ^ d := by omega
        have h2 : bt a (n + d : Nat) = 0 := by omega
        intro j hj1 hj2
        by_cases ej : j = n + d
        · rw [ej]; exact h2
        · exact ih'.2 h1 j hj1 (by omega)
  have k := key (32 - n) (by omega)
  rw [show n + (32 - n) = 32 by omega, tp_all, e] at k
  rw [k, ct_tp, cl_id (by omega) (by omega), show (32 - (n : Int)).toNat = 32 - n by omega, Int.toNat_natCast]
  exact eq_comm
theorem may_out (a n : Int) (h : n < 0 ∨ 32 < n ∨ a < 0 ∨ 4294967295 < a) : mayB a n = false := by
  cases hm : mayB a n
  · rfl
  · obtain ⟨h1, h2⟩ := mayB_iff.1 hm
    have := cl_of_eq h1; have hb := ct_bd a n
    rw [h2] at hb; omega

end Go.Proofs.Ytinmhjgnapbkmaa.M
