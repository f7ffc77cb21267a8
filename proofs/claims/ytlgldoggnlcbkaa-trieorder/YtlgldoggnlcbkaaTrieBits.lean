/- From prefixes as an address and a length to lists of bits: which is within which, what two begin with, which stands first; no program in sight. -/
import Derived.Test.YtlgldoggnlcbkaaTrieMath
namespace Go.Proofs.Ytlgldoggnlcbkaa.Tt
open M
set_option linter.unusedVariables false
set_option linter.unusedSimpArgs false

/-- the first n bits of an address -/
def bl (a : Int) (n : Nat) : K := (List.range n).map (fun j : Nat => decide (bt a (j : Int) = 1))
theorem bl_len (a : Int) (n : Nat) : (bl a n).length = n := by simp [bl]
theorem bl_at (a : Int) (n j : Nat) (h : j < n) : (bl a n)[j]? = some (decide (bt a (j : Int) = 1)) := by simp [bl, h]
theorem bl_bit (a : Int) (n j : Nat) (h : j < n) : bitAt (bl a n) j = decide (bt a (j : Int) = 1) := by unfold bitAt List.getD; rw [bl_at a n j h]; rfl
theorem bl_take (a : Int) (m n : Nat) (h : m ≤ n) : (bl a n).take m = bl a m := by
  unfold bl
  rw [← List.map_take, List.take_range, Nat.min_eq_left h]
theorem bl_succ (a : Int) (n : Nat) : bl a (n + 1) = bl a n ++ [decide (bt a (n : Int) = 1)] := by
  unfold bl
  rw [List.range_succ, List.map_append]
  rfl
theorem bt_or (a i : Int) : bt a i = 0 ∨ bt a i = 1 := by have := bt_01 a i; omega
theorem bt_dec {a b i j : Int} (h : decide (bt a i = 1) = decide (bt b j = 1)) : bt a i = bt b j := by
  rcases bt_or a i with h1 | h1 <;> rcases bt_or b j with h2 | h2 <;> simp_all
theorem bl_eq (a b : Int) (n : Nat) (hn : n ≤ 32) : bl a n = bl b n ↔ tp a n = tp b n := by
  rw [← same_tp a b n hn]
  constructor
  · intro h j hj
    have h1 := bl_at a n j hj
    rw [h, bl_at b n j hj] at h1
    exact (bt_dec (Option.some.inj h1)).symm
  · intro h
    unfold bl
    apply List.map_congr_left
    intro j hj
    rw [h j (List.mem_range.1 hj)]
theorem bl_pre (a b : Int) (n m : Nat) (hm : m ≤ 32) : bl a n <+: bl b m ↔ n ≤ m ∧ tp a n = tp b n := by
  constructor
  · intro h
    have hl := h.length_le
    rw [bl_len, bl_len] at hl
    refine ⟨hl, ?_⟩
    have := List.prefix_iff_eq_take.1 h
    rw [bl_len, bl_take b n m hl] at this
    exact (bl_eq a b n (by omega)).1 this
  · rintro ⟨hl, h⟩
    rw [(bl_eq a b n (by omega)).2 h, ← bl_take b n m hl]
    exact List.take_prefix n _
/-! ### prefixes that may be -/
def kp (a n : Int) : K := bl a n.toNat
theorem may_bd {a n : Int} (h : mayB a n = true) : 0 ≤ n ∧ n ≤ 32 ∧ 0 ≤ a ∧ a ≤ 4294967295 ∧ cl n = n ∧ ct a n = a := by
  obtain ⟨h1, h2⟩ := mayB_iff.1 h
  obtain ⟨h3, h4⟩ := cl_of_eq h1
  have := ct_bd a n
  rw [h2] at this
  exact ⟨h3, h4, this.1, this.2, h1, h2⟩
theorem tp_ct (a n : Int) (h : cl n = n) : tp (ct a n) n.toNat = tp a n.toNat := by
  have := (ct_eq (ct a n) a n).1 (ct_ct a n n (Int.le_refl _))
  rwa [h] at this
theorem bl_ct (a n : Int) (h : cl n = n) : bl (ct a n) n.toNat = bl a n.toNat :=
  (bl_eq _ _ _ (by have := cl_of_eq h; omega)).2 (tp_ct a n h)
theorem tp_less {a b : Int} {n m : Nat} (h : n ≤ m) (hm : m ≤ 32) (e : tp a m = tp b m) : tp a n = tp b n := (same_tp a b n (by omega)).1 fun j hj => (same_tp a b m hm).2 e j (by omega)
theorem has_iff {a n : Int} (x : Int) (h : mayB a n = true) : hasB a n x = true ↔ kp a n <+: bl x 32 := by
  obtain ⟨h0, h1, _, _, hc, ha⟩ := may_bd h
  rw [hasB_iff, kp, bl_pre a x n.toNat 32 (by omega)]
  have e := ct_eq x a n
  rw [ha, hc] at e
  constructor
  · rintro ⟨_, h2⟩; exact ⟨by omega, (e.1 h2).symm⟩
  · rintro ⟨_, h2⟩; exact ⟨hc, e.2 h2.symm⟩
theorem in_iff {a n b m : Int} (h : mayB a n = true) (h2 : mayB b m = true) : inB a n b m = true ↔ kp a n <+: kp b m := by
  obtain ⟨h0, h1, _, _, hc, ha⟩ := may_bd h
  obtain ⟨g0, g1, _, _, gc, ga⟩ := may_bd h2
  rw [inB_iff, has_iff b h, kp, kp, bl_pre _ _ _ _ (by omega), bl_pre _ _ _ _ (by omega)]
  constructor
  · rintro ⟨_, _, h3, h4⟩; exact ⟨by omega, h4.2⟩
  · rintro ⟨h3, h4⟩; exact ⟨h, h2, by omega, by omega, h4⟩
theorem kp_len {a n : Int} (h : mayB a n = true) : ((kp a n).length : Int) = n := by
  have := (may_bd h).1
  rw [kp, bl_len]; omega
theorem kp_inj {a n b m : Int} (h : mayB a n = true) (h2 : mayB b m = true) (e : kp a n = kp b m) : a = b ∧ n = m := by
  have hn : n = m := by rw [← kp_len h, ← kp_len h2, e]
  subst hn
  refine ⟨?_, rfl⟩
  obtain ⟨h0, h1, _, _, hc, ha⟩ := may_bd h
  obtain ⟨_, _, _, _, _, ga⟩ := may_bd h2
  rw [kp, kp, bl_eq a b n.toNat (by omega)] at e
  have := (ct_eq a b n).2 (by rw [hc]; exact e)
  rw [ha, ga] at this
  exact this
/-! ### what two begin with -/
def comN (a n b m : Int) : Nat := min (min n.toNat m.toNat) (cmN a b)
theorem comN_le (a n b m : Int) : comN a n b m ≤ 32 ∧ comN a n b m ≤ n.toNat ∧ comN a n b m ≤ m.toNat := by
  have := (cm_is a b).1
  unfold comN
  omega
theorem com_may (a n b m : Int) : mayB (ct a (comN a n b m)) (comN a n b m) = true := may_cut _ _ (cl_id (by omega) (by have := comN_le a n b m; omega))
theorem com_kp (a n b m : Int) : kp (ct a (comN a n b m)) (comN a n b m) = bl a (comN a n b m) := by
  have := comN_le a n b m
  have h := bl_ct a (comN a n b m) (cl_id (by omega) (by omega))
  simpa [kp] using h
theorem lcp_self_pre {p q : K} (h : p <+: q) : lcp p q = p := by
  obtain ⟨r, rfl⟩ := h
  induction p with
  | nil => cases r <;> rfl
  | cons x p ih => simp [lcp, ih]
theorem lcp_bl (a n b m : Int) (hn : n.toNat ≤ 32) (hm : m.toNat ≤ 32) : lcp (kp a n) (kp b m) = bl a (comN a n b m) := by
  obtain ⟨c0, c1, c2⟩ := cm_is a b
  unfold kp
  by_cases h1 : n.toNat ≤ m.toNat ∧ n.toNat ≤ cmN a b
  · have e : comN a n b m = n.toNat := by unfold comN; omega
    rw [e]
    exact lcp_self_pre ((bl_pre a b _ _ hm).2 ⟨h1.1, (cm_ge a b _ hn).1 h1.2⟩)
  by_cases h2 : m.toNat ≤ n.toNat ∧ m.toNat ≤ cmN a b
  · have e : comN a n b m = m.toNat := by unfold comN; omega
    have he := (cm_ge a b _ hm).1 h2.2
    rw [e, lcp_comm, lcp_self_pre ((bl_pre b a _ _ hn).2 ⟨h2.1, he.symm⟩)]
    exact ((bl_eq a b _ hm).2 he).symm
  have e : comN a n b m = cmN a b := by unfold comN; omega
  have hlt : cmN a b < 32 := by omega
  have hne := c2 hlt
  rw [e]
  have f1 : bl a (cmN a b + 1) <+: bl a n.toNat := (bl_pre a a _ _ hn).2 ⟨by omega, rfl⟩
  have f2 : bl b (cmN a b + 1) <+: bl b m.toNat := (bl_pre b b _ _ hm).2 ⟨by omega, rfl⟩
  have es : bl b (cmN a b) = bl a (cmN a b) := ((bl_eq a b _ (by omega)).2 ((cm_ge a b _ (by omega)).1 (Nat.le_refl _))).symm
  rw [bl_succ] at f1 f2
  rw [es] at f2
  obtain ⟨p, hp⟩ := pre_form f1
  obtain ⟨q, hq⟩ := pre_form f2
  rw [hp, hq]
  apply lcp_of
  intro hd
  exact hne (bt_dec hd)
/-! ### which stands first -/
theorem tp_mono {a b : Int} {k : Nat} (h : tp a k < tp b k) : a % 4294967296 < b % 4294967296 := by
  unfold tp at h
  by_cases h2 : b % 4294967296 ≤ a % 4294967296
  · have := Int.ediv_le_ediv (pw_pos (32 - k)) h2
    omega
  · omega
theorem ct_le (a n : Int) : ct a n ≤ a % 4294967296 := by
  unfold ct
  exact Int.ediv_mul_le _ (Int.ne_of_gt (pw_pos _))
def lessI (a n b m : Int) : Bool := if a ≠ b then decide (a < b) else decide (n < m)
theorem less_of {a n b m : Int} (h : mayB a n = true) (h2 : mayB b m = true) (hl : lt (kp a n) (kp b m) = true) : a < b ∨ (a = b ∧ n < m) := by
  obtain ⟨h0, h1, ha0, ha1, hc, ha⟩ := may_bd h
  obtain ⟨g0, g1, gb0, gb1, gc, gb⟩ := may_bd h2
  have ea : a % 4294967296 = a := by omega
  have eb : b % 4294967296 = b := by omega
  rcases four (kp a n) (kp b m) with e | ⟨x, hx⟩ | ⟨x, hx⟩ | ⟨x, hx, hy⟩
  · rw [e, lt_irrefl] at hl; cases hl
  · rw [lt_asymm (lt_in hx)] at hl; cases hl
  · have hp := pre_of hx
    have hlen := hx.length_le
    simp only [List.length_append, List.length_singleton] at hlen
    have e1 := kp_len h
    have e2 := kp_len h2
    have hnm : n < m := by omega
    rw [kp, kp, bl_pre _ _ _ _ (by omega)] at hp
    have hct := (ct_eq a b n).2 (by rw [hc]; exact hp.2)
    rw [ha] at hct
    have := ct_le b n
    omega
  · cases x
    · left
      have l1 : lcp (kp a n) (kp b m) = bl a (comN a n b m) := lcp_bl a n b m (by omega) (by omega)
      obtain ⟨j0, j1, j2⟩ := comN_le a n b m
      have lj : (bl a (comN a n b m)).length = comN a n b m := bl_len _ _
      generalize comN a n b m = j at *
      rw [l1] at hx hy
      have x1 := hx.length_le
      have y1 := hy.length_le
      simp only [List.length_append, List.length_singleton, bl_len, kp] at x1 y1
      have b1 := bit_is hx
      have b2 := bit_is hy
      rw [lj, kp, bl_bit _ _ _ (by omega)] at b1 b2
      have pre2 := pre_of hy
      rw [kp, bl_pre _ _ _ _ (by omega)] at pre2
      have ha1 : bt a (j : Int) = 0 := by rcases bt_or a j with h | h
                                          · exact h
                                          · rw [h] at b1; cases b1
      have hb1 : bt b (j : Int) = 1 := of_decide_eq_true b2
      have t1 := tp_succ a j (by omega)
      have t2 := tp_succ b j (by omega)
      have : tp a (j + 1) < tp b (j + 1) := by rw [t1, t2, ha1, hb1, pre2.2]; omega
      have := tp_mono this
      omega
    · rw [lt_asymm (lt_two hy hx)] at hl; cases hl
theorem less_is {a n b m : Int} (h : mayB a n = true) (h2 : mayB b m = true) : lessI a n b m = lt (kp a n) (kp b m) := by
  have key : lessI a n b m = true ↔ (a < b ∨ (a = b ∧ n < m)) := by
    unfold lessI
    by_cases e : a = b
    · simp [e]
    · simp [e]
  rcases lt_three (kp a n) (kp b m) with hl | hl | hl
  · rw [hl, key]; exact less_of h h2 hl
  · obtain ⟨rfl, rfl⟩ := kp_inj h h2 hl
    rw [lt_irrefl, Bool.eq_false_iff, ne_eq, key]
    omega
  · rw [lt_asymm hl, Bool.eq_false_iff, ne_eq, key]
    have := less_of h2 h hl
    omega
end Go.Proofs.Ytlgldoggnlcbkaa.Tt
