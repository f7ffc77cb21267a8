/- What the code's New makes. -/
import Derived.Test.YtlgldoggnlcbkabTrieSettle
import Derived.Laws.Tables
namespace Go.Proofs.Ytlgldoggnlcbkab
open Go.ChangeShapes Go.WideShapes Go.ChangeAt Go.RowKit Tt
set_option linter.unusedVariables false
set_option linter.unusedSimpArgs false

def m0 (r : Nat) : Mm := ⟨fun _ => 0, fun _ => 0, fun _ => 0, fun _ => false, fun _ _ => 0, 0, 0, r, 0⟩
def zeros : List Value := [.int .i64 0, .int .i64 0, .int .i64 0, .bool false, .int .i64 0, .int .i64 0]
def bigL (v : Value) : List Value := (List.replicate 1001 zeros).flatten ++ [.int .i64 0, .int .i64 0, v, .int .i64 0]
set_option maxRecDepth 100000 in
theorem info_trie : (Try.prog.info? 45).map (fun i => i.zero) = some (some (.agg (bigL (.int .i64 0)).toArray)) := by kernel_rfl
theorem zero_trie (w : World) : (zeroValue 45).run Try.prog w = .ok (.agg (bigL (.int .i64 0)).toArray) w := by
  have h := info_trie
  cases hi : Try.prog.info? 45 with
  | none => rw [hi] at h; cases h
  | some i =>
    rw [hi] at h
    have h2 : i.zero = some (.agg (bigL (.int .i64 0)).toArray) := by simpa using h
    simp [zeroValue, typeInfo, hi, h2]
theorem big_at {rest : List Value} : ∀ (k : Nat) (i j : Nat), i < k → j < 6 → ((List.replicate k zeros).flatten ++ rest)[i * 6 + j]? = zeros[j]?
  | 0, _, _, h, _ => absurd h (Nat.not_lt_zero _)
  | k + 1, 0, j, _, hj => by
    rw [List.replicate_succ, List.flatten_cons, List.append_assoc, Nat.zero_mul, Nat.zero_add, List.getElem?_append_left (by simpa [zeros] using hj)]
  | k + 1, i + 1, j, h, hj => by
    rw [List.replicate_succ, List.flatten_cons, List.append_assoc, List.getElem?_append_right (by simp [zeros]; omega), show (i + 1) * 6 + j - zeros.length = i * 6 + j by simp [zeros]; omega]
    exact big_at k i j (by omega) hj
theorem big_len (k : Nat) : (List.replicate k zeros).flatten.length = k * 6 := by
  induction k with
  | zero => rfl
  | succ k ih => rw [List.replicate_succ, List.flatten_cons, List.length_append, ih]; simp [zeros]; omega
theorem big_set (v : Value) : (bigL (.int .i64 0)).toArray.setIfInBounds 6008 v = (bigL v).toArray := by
  rw [List.setIfInBounds_toArray]
  unfold bigL
  rw [List.set_append_right _ _ (by rw [big_len]; decide), big_len]
  rfl
theorem big_size : (bigL (.int .i64 0)).toArray.size = 6010 := by
  rw [List.size_toArray]
  unfold bigL
  rw [List.length_append, big_len]
  rfl
theorem big_is (r : Nat) : ∀ o, o < 6010 → (bigL (.int .i64 (r : Nat)))[o]? = some (cellOf (m0 r) o) := by
  intro o ho
  by_cases h : o < 6006
  · have := big_at (rest := [.int .i64 0, .int .i64 0, .int .i64 (r : Nat), .int .i64 0]) 1001 (o / 6) (o % 6) (by omega) (by omega)
    rw [show o / 6 * 6 + o % 6 = o by omega] at this
    unfold bigL
    rw [this]
    unfold cellOf
    rw [if_pos h]
    have h6 : o % 6 < 6 := by omega
    revert h6
    generalize o % 6 = j
    exact fun hj => six (P := fun j => zeros[j]? = some (nodeCell (m0 r) (o / 6) j)) rfl rfl rfl rfl rfl rfl j hj
  · unfold bigL
    rw [List.getElem?_append_right (by rw [big_len]; omega), big_len]
    unfold cellOf
    rw [if_neg h]
    have h4 : o - 6006 < 4 := by omega
    revert h4
    rw [show 1001 * 6 = 6006 from rfl]
    generalize o - 6006 = j
    exact fun hj => four' (P := fun j => ([Value.int .i64 0, .int .i64 0, .int .i64 (r : Nat), .int .i64 0] : List Value)[j]? = some (headCell (m0 r) j)) rfl rfl rfl rfl j hj
theorem has_new (w : World) (r : Nat) {A : Array Value} (hA : A = (bigL (.int .i64 (r : Nat))).toArray) (e : TypeId) : Has (w.alloc (.cells A e)) w.heap.size (cellOf (m0 r)) := by
  subst hA
  refine ⟨by simp, fun o ho => ?_, fun o _ => by unfold World.frozen?; rw [heap_alloc_new]; simp⟩
  have := World.news_of_block (heap_alloc_new w (.cells (bigL (.int .i64 (r : Nat))).toArray e)) o (cellOf (m0 r) o) (by simpa using big_is r o ho)
  rw [Addr.add_lit] at this
  simpa using this
def fillM (r : Nat) : Nat → Mm
  | 0 => m0 r
  | j + 1 => (fillM r j).drop (r - j)
theorem fill_room (r j : Nat) : (fillM r j).room = r := by
  induction j with
  | zero => rfl
  | succ j ih => exact ih
section
set_option maxRecDepth 100000
set_option maxHeartbeats 1000000
theorem new_mid (n : Int) (w : World) (r : Nat) (hr : r ≤ 1000) (hn0 : 0 ≤ n) (hn1 : n ≤ 1000) (e : n = (r : Nat)) :
    Calls Try.prog 6 #[.int .i64 n] w fun e w' => e = .returned (.pointer (some ⟨w.heap.size, 0, none⟩)) ∧ Has w' w.heap.size (cellOf (fillM r r)) ∧ Below w.heap.size w w' := by
  obtain ⟨Z, hZ⟩ : ∃ Z, Z = (bigL (.int .i64 0)).toArray := ⟨_, rfl⟩
  have hbd : ∀ w, (zeroValue 45).run Try.prog w = .ok (.agg Z) w := fun w => by rw [hZ]; exact zero_trie w
  have hzs : ¬ Z.size < 6009 := by rw [hZ, big_size]; decide
  have h0 : Has (w.alloc (.cells (Z.setIfInBounds 6008 (.int .i64 (r : Nat))) 45)) w.heap.size (cellOf (m0 r)) := has_new w r (by rw [hZ]; exact big_set _) 45
  have hn := below_new w (.cells (Z.setIfInBounds 6008 (.int .i64 (r : Nat))) 45)
  clear hZ
  subst e
  have hr1 : (r : Int) ≤ 1000 := by omega
  have hr0 : (0 : Int) ≤ (r : Int) := by omega
  obtain ⟨r0, r1, r2, r3⟩ := h0.head
  have r2' : (w.alloc (.cells (Z.setIfInBounds 6008 (.int .i64 (r : Nat))) 45)).cell? ⟨w.heap.size, 6008, none⟩ = some (.int .i64 (r : Nat)) := r2
  clear r0 r1 r2 r3
  go_enter Try.func6, Try.ntmps6
  go_wp2_with fail
  go_loopg [4] r (fun g iv wr => ∃ j : Nat, j + g = r ∧ iv = .int .i64 (g : Nat) ∧ Has wr w.heap.size (cellOf (fillM r j)) ∧ Below w.heap.size w wr)
  case atStart => exact ⟨0, by omega, rfl, h0, hn⟩
  case round =>
    obtain ⟨j, hj, rfl, hh, hb⟩ := hrel
    obtain ⟨i, rfl⟩ : ∃ i, i = gk := ⟨_, rfl⟩
    by_cases hz : i = 0
    · subst hz
      have hj2 : Hid (j = r) := by show j = r; omega
      clear hj
      go_wp2_with fail
      go_ret
      exact ⟨rfl, by rw [hj2.out] at hh; exact hh, hb⟩
    · have hz2 : ((i : Int) != 0) = true := by simpa using hz
      have HJ : Hid (j + 1 + (i - 1) = r ∧ fillM r (j + 1) = (fillM r j).drop i) := by
        refine ⟨by omega, ?_⟩
        show (fillM r j).drop (r - j) = _
        rw [show r - j = i by omega]
      have cd := fun wx hx => drop_any (w := wx) (B := w.heap.size) (m := fillM r j) (i := i) hx (by omega)
      have hw : Hid (wrap64 ((i : Int) - 1) = (i : Int) - 1) := by show _ = _; unfold wrap64; omega
      have HI : Hid (0 < i) := Nat.pos_of_ne_zero hz
      clear hj hz
      go_wp2_with fail
      refine (cd _ hh).mono ?_
      rintro e w5 ⟨rfl, h5, k5⟩
      go_wp2_with fail
      go_roundg (i - 1)
      case rel => exact ⟨j + 1, HJ.out.1, by have := HI.out; congr 1; first | omega | (rw [hw.out]; omega), by rw [HJ.out.2]; exact h5, hb.trans (k5.below hb.size (fun k hk => by unfold only at hk; omega))⟩
      case measure => have := HI.out; omega
theorem new_low (n : Int) (w : World) (hn0 : n < 0) :
    Calls Try.prog 6 #[.int .i64 n] w fun e w' => e = .returned (.pointer (some ⟨w.heap.size, 0, none⟩)) ∧ Has w' w.heap.size (cellOf (fillM 0 0)) ∧ Below w.heap.size w w' := by
  obtain ⟨Z, hZ⟩ : ∃ Z, Z = (bigL (.int .i64 0)).toArray := ⟨_, rfl⟩
  have hbd : ∀ w, (zeroValue 45).run Try.prog w = .ok (.agg Z) w := fun w => by rw [hZ]; exact zero_trie w
  have hzs : ¬ Z.size < 6009 := by rw [hZ, big_size]; decide
  have h0 : Has (w.alloc (.cells (Z.setIfInBounds 6008 (.int .i64 0)) 45)) w.heap.size (cellOf (m0 0)) := has_new w 0 (by rw [hZ]; exact big_set _) 45
  have hn := below_new w (.cells (Z.setIfInBounds 6008 (.int .i64 0)) 45)
  clear hZ
  obtain ⟨r0, r1, r2, r3⟩ := h0.head
  have r2' : (w.alloc (.cells (Z.setIfInBounds 6008 (.int .i64 0)) 45)).cell? ⟨w.heap.size, 6008, none⟩ = some (.int .i64 0) := r2
  clear r0 r1 r2 r3
  go_enter Try.func6, Try.ntmps6
  go_wp2_with fail
  go_loopg [4] 0 (fun g iv wr => ∃ j : Nat, j + g = 0 ∧ iv = .int .i64 (g : Nat) ∧ Has wr w.heap.size (cellOf (fillM 0 j)) ∧ Below w.heap.size w wr)
  case atStart => exact ⟨0, by omega, rfl, h0, hn⟩
  case round =>
    obtain ⟨j, hj, rfl, hh, hb⟩ := hrel
    obtain ⟨i, rfl⟩ : ∃ i, i = gk := ⟨_, rfl⟩
    by_cases hz : i = 0
    · subst hz
      have hj2 : Hid (j = 0) := by show j = 0; omega
      clear hj
      go_wp2_with fail
      go_ret
      exact ⟨rfl, by rw [hj2.out] at hh; exact hh, hb⟩
    · have hz2 : ((i : Int) != 0) = true := by simpa using hz
      have HJ : Hid (j + 1 + (i - 1) = 0 ∧ fillM 0 (j + 1) = (fillM 0 j).drop i) := by
        refine ⟨by omega, ?_⟩
        show (fillM 0 j).drop (0 - j) = _
        rw [show 0 - j = i by omega]
      have cd := fun wx hx => drop_any (w := wx) (B := w.heap.size) (m := fillM 0 j) (i := i) hx (by omega)
      have hw : Hid (wrap64 ((i : Int) - 1) = (i : Int) - 1) := by show _ = _; unfold wrap64; omega
      have HI : Hid (0 < i) := Nat.pos_of_ne_zero hz
      clear hj hz
      go_wp2_with fail
      refine (cd _ hh).mono ?_
      rintro e w5 ⟨rfl, h5, k5⟩
      go_wp2_with fail
      go_roundg (i - 1)
      case rel => exact ⟨j + 1, HJ.out.1, by have := HI.out; congr 1; first | omega | (rw [hw.out]; omega), by rw [HJ.out.2]; exact h5, hb.trans (k5.below hb.size (fun k hk => by unfold only at hk; omega))⟩
      case measure => have := HI.out; omega
theorem new_top (n : Int) (w : World) (hn0 : 1000 < n) :
    Calls Try.prog 6 #[.int .i64 n] w fun e w' => e = .returned (.pointer (some ⟨w.heap.size, 0, none⟩)) ∧ Has w' w.heap.size (cellOf (fillM 1000 1000)) ∧ Below w.heap.size w w' := by
  obtain ⟨Z, hZ⟩ : ∃ Z, Z = (bigL (.int .i64 0)).toArray := ⟨_, rfl⟩
  have hbd : ∀ w, (zeroValue 45).run Try.prog w = .ok (.agg Z) w := fun w => by rw [hZ]; exact zero_trie w
  have hzs : ¬ Z.size < 6009 := by rw [hZ, big_size]; decide
  have h0 : Has (w.alloc (.cells (Z.setIfInBounds 6008 (.int .i64 1000)) 45)) w.heap.size (cellOf (m0 1000)) := has_new w 1000 (by rw [hZ]; exact big_set _) 45
  have hn := below_new w (.cells (Z.setIfInBounds 6008 (.int .i64 1000)) 45)
  clear hZ
  have hn2 : 0 ≤ n := by omega
  obtain ⟨r0, r1, r2, r3⟩ := h0.head
  have r2' : (w.alloc (.cells (Z.setIfInBounds 6008 (.int .i64 1000)) 45)).cell? ⟨w.heap.size, 6008, none⟩ = some (.int .i64 1000) := r2
  clear r0 r1 r2 r3
  go_enter Try.func6, Try.ntmps6
  go_wp2_with fail
  go_loopg [4] 1000 (fun g iv wr => ∃ j : Nat, j + g = 1000 ∧ iv = .int .i64 (g : Nat) ∧ Has wr w.heap.size (cellOf (fillM 1000 j)) ∧ Below w.heap.size w wr)
  case atStart => exact ⟨0, by omega, rfl, h0, hn⟩
  case round =>
    obtain ⟨j, hj, rfl, hh, hb⟩ := hrel
    obtain ⟨i, rfl⟩ : ∃ i, i = gk := ⟨_, rfl⟩
    by_cases hz : i = 0
    · subst hz
      have hj2 : Hid (j = 1000) := by show j = 1000; omega
      clear hj
      go_wp2_with fail
      go_ret
      exact ⟨rfl, by rw [hj2.out] at hh; exact hh, hb⟩
    · have hz2 : ((i : Int) != 0) = true := by simpa using hz
      have HJ : Hid (j + 1 + (i - 1) = 1000 ∧ fillM 1000 (j + 1) = (fillM 1000 j).drop i) := by
        refine ⟨by omega, ?_⟩
        show (fillM 1000 j).drop (1000 - j) = _
        rw [show 1000 - j = i by omega]
      have cd := fun wx hx => drop_any (w := wx) (B := w.heap.size) (m := fillM 1000 j) (i := i) hx (by omega)
      have hw : Hid (wrap64 ((i : Int) - 1) = (i : Int) - 1) := by show _ = _; unfold wrap64; omega
      have HI : Hid (0 < i) := Nat.pos_of_ne_zero hz
      clear hj hz
      go_wp2_with fail
      refine (cd _ hh).mono ?_
      rintro e w5 ⟨rfl, h5, k5⟩
      go_wp2_with fail
      go_roundg (i - 1)
      case rel => exact ⟨j + 1, HJ.out.1, by have := HI.out; congr 1; first | omega | (rw [hw.out]; omega), by rw [HJ.out.2]; exact h5, hb.trans (k5.below hb.size (fun k hk => by unfold only at hk; omega))⟩
      case measure => have := HI.out; omega
theorem new_any (n : Int) (w : World) : ∃ r : Nat, (r : Int) = roomOf n ∧ r ≤ 1000 ∧
    Calls Try.prog 6 #[.int .i64 n] w fun e w' => e = .returned (.pointer (some ⟨w.heap.size, 0, none⟩)) ∧ Has w' w.heap.size (cellOf (fillM r r)) ∧ Below w.heap.size w w' := by
  unfold roomOf
  by_cases h1 : n < 0
  · exact ⟨0, by rw [if_pos h1]; rfl, by omega, new_low n w h1⟩
  · by_cases h2 : 1000 < n
    · exact ⟨1000, by rw [if_neg h1, if_pos h2]; rfl, by omega, new_top n w h2⟩
    · exact ⟨n.toNat, by rw [if_neg h1, if_neg h2]; omega, by omega, new_mid n w n.toNat (by omega) (by omega) (by omega) (by omega)⟩
end
end Go.Proofs.Ytlgldoggnlcbkab
