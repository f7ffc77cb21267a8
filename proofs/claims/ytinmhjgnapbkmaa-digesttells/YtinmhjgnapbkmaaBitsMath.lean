/- The plain arithmetic of 32-bit addresses that the claims on package bits rest on: bits, heads, cuts and common beginnings of integers; no program in sight. -/
import Derived.RowKit
import Derived.Laws.BitsAllLaws
namespace Go.Proofs.Ytinmhjgnapbkmaa.M
open Go

/-- a number of bits, brought between 0 and 32 -/
def cl (n : Int) : Int := if n < 0 then 0 else if 32 < n then 32 else n
theorem cl_lo (n : Int) : 0 ≤ cl n := by unfold cl; split <;> (try split) <;> omega
theorem cl_hi (n : Int) : cl n ≤ 32 := by unfold cl; split <;> (try split) <;> omega
theorem cl_id {n : Int} (h0 : 0 ≤ n) (h1 : n ≤ 32) : cl n = n := by unfold cl; rw [if_neg (by omega), if_neg (by omega)]
theorem cl_cl (n : Int) : cl (cl n) = cl n := cl_id (cl_lo n) (cl_hi n)
theorem cl_of_eq {n : Int} (h : cl n = n) : 0 ≤ n ∧ n ≤ 32 := by have := cl_lo n; have := cl_hi n; omega

/-- the first n of 32 bits, as a number of 32 bits -/
def hd (n : Int) : Int := 4294967296 - 2 ^ (32 - cl n).toNat
/-- bit i of an address, from the highest one on -/
def bt (a i : Int) : Int := if 0 ≤ i ∧ i < 32 then a % 4294967296 / 2 ^ (31 - i).toNat % 2 else 0
/-- what an address begins with: its first n bits, the others 0 -/
def ct (a n : Int) : Int := a % 4294967296 / 2 ^ (32 - cl n).toNat * 2 ^ (32 - cl n).toNat
/-- the first k bits of an address, as a number of k bits -/
def tp (a : Int) (k : Nat) : Int := a % 4294967296 / 2 ^ (32 - k)

theorem pw_pos (k : Nat) : (0 : Int) < 2 ^ k := Int.pow_pos (by decide)

theorem shl_all : ∀ k : Fin 33, ((4294967295 : Int) * 2 ^ k.val) % 4294967296 = 4294967296 - 2 ^ k.val := by decide +kernel
theorem shl_head (n : Int) : 4294967295 * 2 ^ (32 - cl n).toNat % 4294967296 = hd n := by
  have h0 := cl_lo n; have h1 := cl_hi n
  exact shl_all ⟨(32 - cl n).toNat, by omega⟩
theorem hd_all : ∀ k : Fin 33, (0 : Int) ≤ 4294967296 - 2 ^ k.val ∧ ((4294967296 : Int) - 2 ^ k.val) ≤ 4294967295 := by decide +kernel
theorem hd_bd (n : Int) : 0 ≤ hd n ∧ hd n ≤ 4294967295 := by
  have h0 := cl_lo n; have h1 := cl_hi n
  exact hd_all ⟨(32 - cl n).toNat, by omega⟩

theorem and_high (X k : Nat) (hX : X < 4294967296) (hk : k ≤ 32) : X &&& (4294967296 - 2 ^ k) = X / 2 ^ k * 2 ^ k := by
  have e : 4294967296 - 2 ^ k = (2 ^ (32 - k) - 1) <<< k := by
    rw [Nat.shiftLeft_eq, Nat.sub_mul, Nat.one_mul, ← Nat.pow_add, show 32 - k + k = 32 by omega]
  rw [e, ← Nat.shiftLeft_eq, ← Nat.shiftRight_eq_div_pow]
  apply Nat.eq_of_testBit_eq
  intro i
  simp only [Nat.testBit_and, Nat.testBit_shiftLeft, Nat.testBit_two_pow_sub_one, Nat.testBit_shiftRight]
  by_cases h : k ≤ i
  · by_cases h2 : i - k < 32 - k
    · simp [h, h2]
    · have : X.testBit i = false := Nat.testBit_lt_two_pow (Nat.lt_of_lt_of_le hX (show 2 ^ 32 ≤ 2 ^ i from Nat.pow_le_pow_right (by decide) (by omega)))
      have e2 : k + (i - k) = i := by omega
      simp [this, e2]
  · simp [h]

theorem and_head (a n : Int) : bits .and .u32 (a % 4294967296) (hd n) = ct a n := by
  have h0 := cl_lo n; have h1 := cl_hi n; have hb := hd_bd n
  have hm : 0 ≤ a % 4294967296 := Int.emod_nonneg _ (by decide)
  have hm2 : a % 4294967296 < 4294967296 := Int.emod_lt_of_pos _ (by decide)
  rw [u32_and _ _ hm hm2 hb.1 (by omega)]
  have e : (hd n).toNat = 4294967296 - 2 ^ (32 - cl n).toNat := by
    have : (2 : Int) ^ (32 - cl n).toNat = ((2 ^ (32 - cl n).toNat : Nat) : Int) := by simp
    unfold hd at hb ⊢; rw [this] at hb ⊢; omega
  rw [e, and_high _ _ (by omega) (by omega)]
  unfold ct
  rw [Int.natCast_mul, Int.natCast_ediv, Int.toNat_of_nonneg hm]
  simp

theorem bt_01 (a i : Int) : 0 ≤ bt a i ∧ bt a i ≤ 1 := by
  unfold bt; split
  · omega
  · omega

theorem and_one (x : Int) (h0 : 0 ≤ x) (h1 : x ≤ 4294967295) (j : Nat) : bits .and .u32 (x / 2 ^ j) 1 = x / 2 ^ j % 2 := by
  have hd0 : 0 ≤ x / 2 ^ j := Int.ediv_nonneg h0 (Int.le_of_lt (pw_pos j))
  have hd1 : x / 2 ^ j ≤ x := Int.ediv_le_self _ h0
  rw [u32_and _ _ hd0 (by omega) (by decide) (by decide), show (1 : Int).toNat = 1 from rfl, nat_mask1]
  omega

theorem bt_in {a i : Int} (h0 : 0 ≤ i) (h1 : i < 32) : bt a i = a % 4294967296 / 2 ^ (31 - i).toNat % 2 := by unfold bt; rw [if_pos ⟨h0, h1⟩]
theorem bt_out {a i : Int} (h : i < 0 ∨ 32 ≤ i) : bt a i = 0 := by unfold bt; rw [if_neg (by omega)]
theorem bt_mod (a i : Int) : bt (a % 4294967296) i = bt a i := by unfold bt; rw [Int.emod_emod_of_dvd _ (Int.dvd_refl _)]
theorem ct_mod (a n : Int) : ct (a % 4294967296) n = ct a n := by unfold ct; rw [Int.emod_emod_of_dvd _ (Int.dvd_refl _)]
theorem ct_cl (a n : Int) : ct a (cl n) = ct a n := by unfold ct; rw [cl_cl]
theorem hd_cl (n : Int) : hd (cl n) = hd n := by unfold hd; rw [cl_cl]

/-- one bit more -/
theorem tp_succ (a : Int) (k : Nat) (hk : k < 32) : tp a (k + 1) = tp a k * 2 + bt a k := by
  rw [bt_in (by omega) (by omega)]
  unfold tp
  have e : 32 - k = (32 - (k + 1)) + 1 := by omega
  have e2 : (31 - (k : Int)).toNat = 32 - (k + 1) := by omega
  rw [e, e2, Int.pow_succ, ← Int.ediv_ediv_of_nonneg (Int.le_of_lt (pw_pos _))]
  omega
theorem tp_zero (a : Int) : tp a 0 = 0 := by
  unfold tp
  have h1 : 0 ≤ a % 4294967296 := Int.emod_nonneg _ (by decide)
  have h2 : a % 4294967296 < 4294967296 := Int.emod_lt_of_pos _ (by decide)
  exact Int.ediv_eq_zero_of_lt h1 h2
theorem tp_all (a : Int) : tp a 32 = a % 4294967296 := by unfold tp; simp
theorem tp_lo (a : Int) (k : Nat) : 0 ≤ tp a k := Int.ediv_nonneg (Int.emod_nonneg _ (by decide)) (Int.le_of_lt (pw_pos _))
theorem tp_hi (a : Int) (k : Nat) : tp a k ≤ 4294967295 := by
  have h1 : 0 ≤ a % 4294967296 := Int.emod_nonneg _ (by decide)
  have h2 : a % 4294967296 < 4294967296 := Int.emod_lt_of_pos _ (by decide)
  have h3 : tp a k ≤ a % 4294967296 := Int.ediv_le_self _ h1
  omega

theorem ct_tp (a n : Int) : ct a n = tp a (cl n).toNat * 2 ^ (32 - cl n).toNat := by
  have h0 := cl_lo n; have h1 := cl_hi n
  unfold ct tp
  rw [show 32 - (cl n).toNat = (32 - cl n).toNat by omega]
theorem ct_bd (a n : Int) : 0 ≤ ct a n ∧ ct a n ≤ 4294967295 := by
  have h1 : 0 ≤ a % 4294967296 := Int.emod_nonneg _ (by decide)
  have h2 : a % 4294967296 < 4294967296 := Int.emod_lt_of_pos _ (by decide)
  have h3 := Int.ediv_mul_le (a % 4294967296) (Int.ne_of_gt (pw_pos (32 - cl n).toNat))
  have h4 : 0 ≤ a % 4294967296 / 2 ^ (32 - cl n).toNat := Int.ediv_nonneg h1 (Int.le_of_lt (pw_pos _))
  have h5 : 0 ≤ ct a n := Int.mul_nonneg h4 (Int.le_of_lt (pw_pos _))
  unfold ct at h5 ⊢
  omega

/-- the first n bits of two addresses are the same just where the cuts are -/
theorem ct_eq (a b n : Int) : ct a n = ct b n ↔ tp a (cl n).toNat = tp b (cl n).toNat := by
  rw [ct_tp, ct_tp]
  exact ⟨fun h => Int.eq_of_mul_eq_mul_right (Int.ne_of_gt (pw_pos _)) h, fun h => by rw [h]⟩

/-- the first k bits are the same just where the first k bits, taken as one number, are -/
theorem same_tp (a b : Int) (k : Nat) (hk : k ≤ 32) : (∀ j : Nat, j < k → bt a j = bt b j) ↔ tp a k = tp b k := by
  induction k with
  | zero => simp [tp_zero]
  | succ k ih =>
    have ih' := ih (by omega)
    have ea := tp_succ a k (by omega); have eb := tp_succ b k (by omega)
    have ba := bt_01 a k; have bb := bt_01 b k
    constructor
    · intro h
      have := ih'.1 (fun j hj => h j (by omega)); have := h k (by omega); omega
    · intro h
      have h1 : tp a k = tp b k := by omega
      have h2 : bt a k = bt b k := by omega
      intro j hj
      by_cases e : j = k
      · rw [e]; exact h2
      · exact ih'.2 h1 j (by omega)

/-- how many bits two addresses have in common at first -/
def cmN (a b : Int) : Nat := ((List.range 32).find? (fun j : Nat => bt a (j : Int) != bt b (j : Int))).getD 32
theorem cm_of (a b : Int) (k : Nat) (h1 : ∀ j : Nat, j < k → bt a j = bt b j) (h2 : k < 32 ∧ bt a k ≠ bt b k ∨ k = 32) : cmN a b = k := by
  unfold cmN
  rcases h2 with ⟨h2, h3⟩ | rfl
  · have : (List.range 32).find? (fun j : Nat => bt a (j : Int) != bt b (j : Int)) = some k := by
      rw [List.find?_range_eq_some]
      exact ⟨by simpa using h3, by simpa using h2, fun j hj => by simpa using h1 j hj⟩
    rw [this]; rfl
  · have : (List.range 32).find? (fun j : Nat => bt a (j : Int) != bt b (j : Int)) = none := by
      rw [List.find?_eq_none]; intro j hj; simpa using h1 j (by simpa using hj)
    rw [this]; rfl
theorem cm_is (a b : Int) : cmN a b ≤ 32 ∧ (∀ j : Nat, j < cmN a b → bt a j = bt b j) ∧ (cmN a b < 32 → bt a (cmN a b) ≠ bt b (cmN a b)) := by
  have key : ∃ k : Nat, (∀ j : Nat, j < k → bt a j = bt b j) ∧ (k < 32 ∧ bt a k ≠ bt b k ∨ k = 32) := by
    by_cases h : ∀ j : Nat, j < 32 → bt a j = bt b j
    · exact ⟨32, h, .inr rfl⟩
    · have h' : ∃ j : Nat, j < 32 ∧ bt a j ≠ bt b j := by
        apply Classical.byContradiction; intro hn; apply h; intro j hj
        apply Classical.byContradiction; intro hne; exact hn ⟨j, hj, hne⟩
      have least : ∀ n : Nat, ∀ j : Nat, j < n → j < 32 → bt a j ≠ bt b j → ∃ k : Nat, (∀ i : Nat, i < k → bt a i = bt b i) ∧ (k < 32 ∧ bt a k ≠ bt b k ∨ k = 32) := by
        intro n
        induction n with
        | zero => intro j hj; omega
        | succ n ih =>
          intro j hj h32 hne
          by_cases hall : ∀ i : Nat, i < j → bt a i = bt b i
          · exact ⟨j, hall, .inl ⟨h32, hne⟩⟩
          · have : ∃ i : Nat, i < j ∧ bt a i ≠ bt b i := by
              apply Classical.byContradiction; intro hn; apply hall; intro i hi
              apply Classical.byContradiction; intro hne2; exact hn ⟨i, hi, hne2⟩
            obtain ⟨i, hi, hne2⟩ := this
            exact ih i (by omega) (by omega) hne2
      obtain ⟨j, hj, hne⟩ := h'
      exact least (j + 1) j (by omega) hj hne
  obtain ⟨k, h1, h2⟩ := key
  have e := cm_of a b k h1 h2
  rw [e]
  refine ⟨by omega, h1, fun hk => ?_⟩
  rcases h2 with ⟨_, h⟩ | h
  · exact h
  · omega
theorem cm_comm (a b : Int) : cmN a b = cmN b a := by
  obtain ⟨h1, h2, h3⟩ := cm_is b a
  refine cm_of a b _ (fun j hj => (h2 j hj).symm) ?_
  by_cases h : cmN b a < 32
  · exact .inl ⟨h, fun e => h3 h e.symm⟩
  · exact .inr (by omega)
/-- n bits in common: the cuts are the same -/
theorem cm_ge (a b : Int) (k : Nat) (hk : k ≤ 32) : k ≤ cmN a b ↔ tp a k = tp b k := by
  obtain ⟨h1, h2, h3⟩ := cm_is a b
  rw [← same_tp a b k hk]
  constructor
  · intro h j hj; exact h2 j (by omega)
  · intro h
    by_cases hlt : cmN a b < k
    · exact absurd (h _ hlt) (h3 (by omega))
    · omega
theorem cm_32 (a b : Int) : cmN a b = 32 ↔ a % 4294967296 = b % 4294967296 := by
  have h := cm_ge a b 32 (by omega)
  rw [tp_all, tp_all] at h
  have := (cm_is a b).1
  rw [← h]; omega

/-- fewer bits of a cut are a cut -/
theorem ct_ct (a m n : Int) (h : cl n ≤ cl m) : ct (ct a m) n = ct a n := by
  have h0 := cl_lo n; have h1 := cl_hi m
  have hb := ct_bd a m
  have e : (32 - cl n).toNat = (32 - cl m).toNat + (cl m - cl n).toNat := by omega
  have hp := pw_pos (32 - cl m).toNat
  unfold ct at hb ⊢
  rw [Int.emod_eq_of_lt hb.1 (by omega), e, Int.pow_add, ← Int.ediv_ediv_of_nonneg (Int.le_of_lt hp), ← Int.ediv_ediv_of_nonneg (Int.le_of_lt hp), Int.mul_ediv_cancel _ (Int.ne_of_gt hp)]
theorem ct_zero (a : Int) : ct a 0 = 0 := by rw [ct_tp]; show tp a 0 * _ = 0; rw [tp_zero]; simp
theorem ct_all (a : Int) : ct a 32 = a % 4294967296 := by rw [ct_tp]; show tp a 32 * 2 ^ 0 = _; rw [tp_all]; simp

theorem bt_hd_all : ∀ k : Fin 33, ∀ i : Fin 32, ((4294967296 : Int) - 2 ^ (32 - k.val)) % 4294967296 / 2 ^ (31 - i.val) % 2 = if i.val < k.val then 1 else 0 := by decide +kernel
/-- the bits of a mask -/
theorem bt_hd (n i : Int) (h0 : 0 ≤ i) (h1 : i < 32) : bt (hd n) i = if i < n then 1 else 0 := by
  have a0 := cl_lo n; have a1 := cl_hi n
  have h := bt_hd_all ⟨(cl n).toNat, by omega⟩ ⟨i.toNat, by omega⟩
  rw [bt_in h0 h1]
  unfold hd
  rw [show (32 - cl n).toNat = 32 - (cl n).toNat by omega, show (31 - i).toNat = 31 - i.toNat by omega]
  simp only at h
  rw [h]
  have hc : cl n = if n < 0 then 0 else if 32 < n then 32 else n := rfl
  by_cases hn : i < n
  · rw [if_pos hn, if_pos (by split at hc <;> (try split at hc) <;> omega)]
  · rw [if_neg hn, if_neg (by split at hc <;> (try split at hc) <;> omega)]
theorem and_hd_all : ∀ k l : Fin 33, l.val ≤ k.val → bits .and .i64 ((4294967296 : Int) - 2 ^ k.val) ((4294967296 : Int) - 2 ^ l.val) = (4294967296 : Int) - 2 ^ k.val := by decide +kernel
/-- a greater mask has all of a lesser one -/
theorem and_hd (n m : Int) (h : n ≤ m) : bits .and .i64 (hd n) (hd m) = hd n := by
  have a0 := cl_lo n; have a1 := cl_hi n; have b0 := cl_lo m; have b1 := cl_hi m
  have hc : cl n = if n < 0 then 0 else if 32 < n then 32 else n := rfl
  have hd' : cl m = if m < 0 then 0 else if 32 < m then 32 else m := rfl
  have hle : cl n ≤ cl m := by split at hc <;> (try split at hc) <;> split at hd' <;> (try split at hd') <;> omega
  exact and_hd_all ⟨(32 - cl n).toNat, by omega⟩ ⟨(32 - cl m).toNat, by omega⟩ (by simp only; omega)

/-- may a prefix be? -/
def mayB (a n : Int) : Bool := decide (cl n = n ∧ ct a n = a)
/-- has a prefix an address? -/
def hasB (a n x : Int) : Bool := decide (cl n = n ∧ ct x n = a)
/-- is the second prefix within the first one? -/
def inB (a n b m : Int) : Bool := mayB a n && mayB b m && decide (n ≤ m) && hasB a n b
theorem mayB_hasB (a n : Int) : mayB a n = hasB a n a := rfl

theorem mayB_iff {a n : Int} : mayB a n = true ↔ cl n = n ∧ ct a n = a := by unfold mayB; simp
theorem hasB_iff {a n x : Int} : hasB a n x = true ↔ cl n = n ∧ ct x n = a := by unfold hasB; simp
theorem inB_iff {a n b m : Int} : inB a n b m = true ↔ mayB a n = true ∧ mayB b m = true ∧ n ≤ m ∧ hasB a n b = true := by unfold inB; simp [and_assoc]
/-- of two prefixes that may be: one is within the other one, or they have no address in common; two within each other are one; what is of the inner one is of the outer one -/
theorem two_ok (a n b m x : Int) (hp : mayB a n = true) (hq : mayB b m = true) :
    ((inB a n b m || inB b m a n || !(hasB a n x && hasB b m x)) && ((inB a n b m && inB b m a n) == (a == b && n == m)) && (!inB a n b m || !hasB b m x || hasB a n x)) = true := by
  have p2 := mayB_iff.1 hp; have q2 := mayB_iff.1 hq
  obtain ⟨p3, p4⟩ := p2; obtain ⟨q3, q4⟩ := q2
  have down : ∀ {a n b m : Int}, cl n = n → cl m = m → n ≤ m → ct x n = a → ct x m = b → ct b n = a := fun h1 h2 h3 h4 h5 => by
    rw [← h5, ct_ct x _ _ (by rw [h1, h2]; exact h3)]; exact h4
  have up : inB a n b m = true → hasB b m x = true → hasB a n x = true := fun h1 h2 => by
    obtain ⟨_, _, h3, h4⟩ := inB_iff.1 h1
    obtain ⟨_, h5⟩ := hasB_iff.1 h4
    obtain ⟨_, h6⟩ := hasB_iff.1 h2
    exact hasB_iff.2 ⟨p3, by rw [← h5, ← h6, ct_ct x _ _ (by rw [p3, q3]; exact h3)]⟩
  have one : hasB a n x = true → hasB b m x = true → inB a n b m = true ∨ inB b m a n = true := fun h1 h2 => by
    obtain ⟨_, h3⟩ := hasB_iff.1 h1
    obtain ⟨_, h4⟩ := hasB_iff.1 h2
    rcases Int.le_total n m with h | h
    · exact .inl (inB_iff.2 ⟨hp, hq, h, hasB_iff.2 ⟨p3, down p3 q3 h h3 h4⟩⟩)
    · exact .inr (inB_iff.2 ⟨hq, hp, h, hasB_iff.2 ⟨q3, down q3 p3 h h4 h3⟩⟩)
  have eqv : (inB a n b m && inB b m a n) = (a == b && n == m) := by
    rw [Bool.eq_iff_iff]
    simp only [Bool.and_eq_true, beq_iff_eq]
    constructor
    · rintro ⟨h1, h2⟩
      obtain ⟨_, _, h3, h4⟩ := inB_iff.1 h1
      obtain ⟨_, _, h5, h6⟩ := inB_iff.1 h2
      have e : n = m := by omega
      subst e
      exact ⟨by rw [← (hasB_iff.1 h4).2]; exact q4, rfl⟩
    · rintro ⟨rfl, rfl⟩
      have : inB a n a n = true := inB_iff.2 ⟨hp, hp, Int.le_refl _, hasB_iff.2 ⟨p3, p4⟩⟩
      exact ⟨this, this⟩
  rw [eqv]
  cases h1 : inB a n b m <;> cases h2 : inB b m a n <;> cases h3 : hasB a n x <;> cases h4 : hasB b m x <;> simp_all

/-- a cut may be, has its address, and of the others those that have as many bits in common -/
theorem may_cut (a n : Int) (h : cl n = n) : mayB (ct a n) n = true := mayB_iff.2 ⟨h, ct_ct a n n (Int.le_refl _)⟩
theorem has_cut (a n : Int) (h : cl n = n) : hasB (ct a n) n a = true := hasB_iff.2 ⟨h, rfl⟩
theorem has_cut_b (a b n : Int) (h : cl n = n) : hasB (ct a n) n b = decide (n ≤ (cmN a b : Int)) := by
  have hb := cl_of_eq h
  have k := cm_ge a b n.toNat (by omega)
  rw [Bool.eq_iff_iff, hasB_iff, decide_eq_true_eq, ct_eq, h]
  constructor
  · rintro ⟨_, h2⟩; have := k.2 h2.symm; omega
  · intro h2; exact ⟨rfl, (k.1 (by omega)).symm⟩
theorem in_cut (a n m : Int) (h : cl n = n) (h2 : cl m = m) (hm : n ≤ m) : inB (ct a n) n (ct a m) m = true :=
  inB_iff.2 ⟨may_cut a n h, may_cut a m h2, hm, hasB_iff.2 ⟨h, ct_ct a m n (by rw [h, h2]; exact hm)⟩⟩

end Go.Proofs.Ytinmhjgnapbkmaa.M
