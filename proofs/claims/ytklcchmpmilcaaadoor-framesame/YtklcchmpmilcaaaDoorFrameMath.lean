/- Frames, as plain lists of numbers: what Seal and Open of package frame come to; no program in sight. -/
import Derived.Test.YtklcchmpmilcaaaDoorMsgMath
import Derived.Test.YtklcchmpmilcaaaDoorOctSums
namespace Go.Proofs.YtklcchmpmilcaaaDoor.Fr
open Go M O R Q
set_option linter.unusedVariables false
set_option linter.unusedSimpArgs false

/-- the nought behind bytes of an odd number -/
def padL (n : Nat) : List Int := if n % 2 = 1 then [0] else []
theorem padL_len (n : Nat) : (padL n).length = n % 2 := by unfold padL; split <;> simp <;> omega
theorem padL_oct (n : Nat) : Oct (padL n) := by
  unfold padL
  split
  · intro z hz; rw [List.mem_singleton.1 hz]; decide
  · intro z hz; cases hz
/-- all ahead of the checksum -/
def topL (B : List Int) : List Int := 197 :: (B.length : Int) :: (B ++ padL B.length)
/-- a frame -/
def sealL (B : List Int) : List Int := topL B ++ putL (sumN (topL B)) 2
theorem top_len (B : List Int) : (topL B).length = 2 + B.length + B.length % 2 := by unfold topL; simp [padL_len]; omega
theorem top_even (B : List Int) : (topL B).length % 2 = 0 := by rw [top_len]; omega
theorem top_oct {B : List Int} (h : Oct B) (hl : B.length ≤ 255) : Oct (topL B) := by
  unfold topL
  intro z hz
  rcases List.mem_cons.1 hz with rfl | hz
  · decide
  rcases List.mem_cons.1 hz with rfl | hz
  · omega
  exact oct_append h (padL_oct _) z hz
theorem seal_len {B : List Int} (h : Oct B) (hl : B.length ≤ 255) : (sealL B).length = B.length + B.length % 2 + 4 := by
  unfold sealL
  rw [List.length_append, top_len, putL_len (ok_sum (top_oct h hl))]
  show _ + 2 = _
  omega
theorem seal_oct {B : List Int} (h : Oct B) (hl : B.length ≤ 255) : Oct (sealL B) := oct_append (top_oct h hl) (putL_bd _ _)
theorem seal_sum {B : List Int} (h : Oct B) (hl : B.length ≤ 255) : sumN (sealL B) = 0 := sum_append (top_oct h hl) (top_even B)

/-! ### Open -/
/-- how many bytes a frame says that its message has -/
def nF (b : List Int) : Nat := (b.getD 1 0).toNat
/-- these bytes -/
def inF (b : List Int) : List Int := (b.drop 2).take (nF b)
/-- how many there must be -/
def sizeF (b : List Int) : Nat := nF b + nF b % 2 + 4
/-- is there something but a nought where one must be? -/
def badPad (b : List Int) : Bool := decide (nF b % 2 = 1 ∧ b.getD (2 + nF b) 0 ≠ 0)
def foE (b : List Int) : Int := if b.length < 4 then 3 else if b.getD 0 0 ≠ 197 then 2 else if b.length < sizeF b then 3 else if sizeF b < b.length then 2 else if sumN b ≠ 0 then 4 else if badPad b = true then 2 else mgE (inF b)
theorem foE_short {b : List Int} (h : b.length < 4) : foE b = 3 := by unfold foE; rw [if_pos h]
theorem foE_mark {b : List Int} (h : 4 ≤ b.length) (h1 : b.getD 0 0 ≠ 197) : foE b = 2 := by unfold foE; rw [if_neg (by omega), if_pos h1]
theorem foE_more {b : List Int} (h : 4 ≤ b.length) (h1 : b.getD 0 0 = 197) (h2 : b.length < sizeF b) : foE b = 3 := by
  unfold foE; rw [if_neg (by omega), if_neg (not_not_intro h1), if_pos h2]
theorem foE_long {b : List Int} (h : 4 ≤ b.length) (h1 : b.getD 0 0 = 197) (h2 : sizeF b < b.length) : foE b = 2 := by
  unfold foE; rw [if_neg (by omega), if_neg (not_not_intro h1), if_neg (by omega), if_pos h2]
theorem foE_sum {b : List Int} (h : 4 ≤ b.length) (h1 : b.getD 0 0 = 197) (h2 : b.length = sizeF b) (h3 : sumN b ≠ 0) : foE b = 4 := by
  unfold foE; rw [if_neg (by omega), if_neg (not_not_intro h1), if_neg (by omega), if_neg (by omega), if_pos h3]
theorem foE_pad {b : List Int} (h : 4 ≤ b.length) (h1 : b.getD 0 0 = 197) (h2 : b.length = sizeF b) (h3 : sumN b = 0) (h4 : badPad b = true) : foE b = 2 := by
  unfold foE; rw [if_neg (by omega), if_neg (not_not_intro h1), if_neg (by omega), if_neg (by omega), if_neg (by simp [h3]), if_pos h4]
theorem foE_in {b : List Int} (h : 4 ≤ b.length) (h1 : b.getD 0 0 = 197) (h2 : b.length = sizeF b) (h3 : sumN b = 0) (h4 : badPad b = false) : foE b = mgE (inF b) := by
  unfold foE; rw [if_neg (by omega), if_neg (not_not_intro h1), if_neg (by omega), if_neg (by omega), if_neg (by simp [h3]), if_neg (by simp [h4])]
theorem foE_zero {b : List Int} (h : foE b = 0) : 4 ≤ b.length ∧ b.getD 0 0 = 197 ∧ b.length = sizeF b ∧ sumN b = 0 ∧ badPad b = false ∧ mgE (inF b) = 0 := by
  unfold foE at h
  split at h
  · cases h
  · split at h
    · cases h
    · split at h
      · cases h
      · split at h
        · cases h
        · split at h
          · cases h
          · split at h
            · cases h
            · rename_i h1 h2 h3 h4 h5 h6
              exact ⟨by omega, by simpa using h2, by omega, by simpa using h5, by simpa using h6, h⟩
theorem inF_len {b : List Int} (h : b.length = sizeF b) : (inF b).length = nF b := by
  unfold inF
  rw [List.length_take, List.length_drop, h]
  unfold sizeF
  omega
theorem nF_le {b : List Int} (h : Oct b) : nF b ≤ 255 := by have := h.at 1; unfold nF; omega
theorem inF_oct {b : List Int} (h : Oct b) : Oct (inF b) := fun z hz => h z (List.mem_of_mem_drop (List.mem_of_mem_take hz))

/-! ### there and back -/
theorem getD_cons0 (x : Int) (l : List Int) : (x :: l).getD 0 0 = x := rfl
theorem getD_cons1 (x y : Int) (l : List Int) : (x :: y :: l).getD 1 0 = y := rfl
/-- what a frame begins with, and anything behind it -/
theorem seal_head (B r : List Int) : (sealL B ++ r).getD 0 0 = 197 ∧ nF (sealL B ++ r) = B.length := by
  unfold sealL topL nF
  simp only [List.cons_append]
  rw [getD_cons0, getD_cons1]
  exact ⟨rfl, by omega⟩
theorem seal_in (B r : List Int) : inF (sealL B ++ r) = B := by
  unfold inF
  rw [(seal_head B r).2]
  unfold sealL topL
  simp only [List.cons_append, List.drop_succ_cons, List.drop_zero, List.append_assoc]
  exact List.take_left
theorem seal_pad (B r : List Int) : badPad (sealL B ++ r) = false := by
  unfold badPad
  rw [(seal_head B r).2]
  rw [decide_eq_false_iff_not]
  rintro ⟨h, h2⟩
  apply h2
  have hp : padL B.length = [0] := by unfold padL; rw [if_pos h]
  unfold sealL topL
  rw [hp]
  have : (197 :: (B.length : Int) :: (B ++ [0]) ++ putL (sumN (197 :: (B.length : Int) :: (B ++ [0]))) 2 ++ r).getD (2 + B.length) 0 = (B ++ ([0] ++ (putL (sumN (197 :: (B.length : Int) :: (B ++ [0]))) 2 ++ r))).getD B.length 0 := by
    rw [Nat.add_comm 2 B.length]
    simp only [List.cons_append, List.append_assoc, List.getD, List.getElem?_cons_succ]
  rw [this]
  simp [List.getD]
theorem open_seal {B : List Int} (h : Oct B) (hl : B.length ≤ 255) : foE (sealL B) = mgE B ∧ inF (sealL B) = B := by
  have e : sealL B ++ [] = sealL B := List.append_nil _
  have h1 := seal_head B []
  have h2 := seal_in B []
  have h3 := seal_pad B []
  rw [e] at h1 h2 h3
  refine ⟨?_, h2⟩
  rw [foE_in (by rw [seal_len h hl]; omega) h1.1 (by rw [seal_len h hl]; unfold sizeF; rw [h1.2]) (seal_sum h hl) h3, h2]
/-- cut short -/
theorem seal_cut {B : List Int} (h : Oct B) (hl : B.length ≤ 255) {j : Nat} (hj : j < (sealL B).length) : foE ((sealL B).take j) = 3 := by
  have hlt : ((sealL B).take j).length = j := by rw [List.length_take]; omega
  by_cases h4 : j < 4
  · exact foE_short (by omega)
  have e : (sealL B).take j = 197 :: (B.length : Int) :: ((B ++ padL B.length ++ putL (sumN (topL B)) 2).take (j - 2)) := by
    unfold sealL topL
    obtain ⟨k, rfl⟩ : ∃ k, j = k + 2 := ⟨j - 2, by omega⟩
    simp only [List.cons_append, List.take_succ_cons]
    rfl
  refine foE_more (by omega) (by rw [e]; rfl) ?_
  have hn : nF ((sealL B).take j) = B.length := by rw [e]; unfold nF; rw [getD_cons1]; omega
  rw [hlt]
  unfold sizeF
  rw [hn]
  rw [seal_len h hl] at hj
  exact hj
/-- one more -/
theorem seal_more {B : List Int} (h : Oct B) (hl : B.length ≤ 255) (c : Int) : foE (sealL B ++ [c]) = 2 := by
  have hs := seal_len h hl
  obtain ⟨h1, h2⟩ := seal_head B [c]
  refine foE_long (by rw [List.length_append, hs]; omega) h1 ?_
  rw [List.length_append, hs]
  unfold sizeF
  rw [h2]
  simp
/-- one that is another one -/
theorem seal_changed {B : List Int} (h : Oct B) (hl : B.length ≤ 255) {p : Nat} (hp : p < (sealL B).length) {v : Int} (v0 : 0 ≤ v) (v1 : v ≤ 255) (hv : v ≠ (sealL B).getD p 0) : foE ((sealL B).set p v) ≠ 0 := by
  intro h0
  exact sum_changed (seal_oct h hl) (seal_sum h hl) hp v0 v1 hv (foE_zero h0).2.2.2.1
/-- another mark -/
theorem mark_short {b : List Int} {c : Int} (h : b.length < 3) : foE (c :: b) = 3 := foE_short (by simp; omega)
theorem mark_other {b : List Int} {c : Int} (h : 3 ≤ b.length) (hc : c ≠ 197) : foE (c :: b) = 2 := foE_mark (by simp; omega) hc
/-- what is opened, but for its last two bytes -/
theorem open_top {b : List Int} (ho : Oct b) (h : foE b = 0) : topL (inF b) = b.take (b.length - 2) := by
  obtain ⟨h4, hm, hs, _, hp, _⟩ := foE_zero h
  have hn := inF_len hs
  have hN := nF_le ho
  have h1 := ho.at 1
  have e1 : b.getD 1 0 = (nF b : Int) := by unfold nF; omega
  unfold topL
  rw [hn]
  obtain ⟨x, y, c, rfl⟩ : ∃ x y c, b = x :: y :: c := by
    match b, h4 with
    | x :: y :: c, _ => exact ⟨x, y, c, rfl⟩
  rw [getD_cons0] at hm
  rw [getD_cons1] at e1
  subst hm
  rw [← e1]
  have hin : inF (197 :: y :: c) = c.take (nF (197 :: y :: c)) := rfl
  rw [hin]
  obtain ⟨n, en⟩ : ∃ n, nF (197 :: y :: c) = n := ⟨_, rfl⟩
  have hlen : c.length = n + n % 2 + 2 := by
    have := hs
    unfold sizeF at this
    rw [en] at this
    simp at this
    omega
  unfold badPad at hp
  rw [en] at hp ⊢
  have ht : (197 :: y :: c).take ((197 :: y :: c).length - 2) = 197 :: y :: c.take (n + n % 2) := by
    have : (197 :: y :: c).length - 2 = n + n % 2 + 2 := by simp; omega
    rw [this]
    rfl
  rw [ht]
  congr 2
  unfold padL
  by_cases ho2 : n % 2 = 1
  · rw [if_pos ho2, ho2, List.take_add_one]
    congr 1
    rw [decide_eq_false_iff_not] at hp
    have hz : (197 :: y :: c).getD (2 + n) 0 = 0 := by
      by_cases hz : (197 :: y :: c).getD (2 + n) 0 = 0
      · exact hz
      · exact absurd ⟨ho2, hz⟩ hp
    rw [Nat.add_comm 2 n] at hz
    have hz2 : c.getD n 0 = 0 := hz
    have hlt : n < c.length := by omega
    rw [getD_el hlt] at hz2
    rw [List.getElem?_eq_getElem hlt, hz2]
    rfl
  · rw [if_neg ho2, List.append_nil]
    have : n % 2 = 0 := by omega
    rw [this, Nat.add_zero]
/-- the last two bytes of what is opened -/
theorem last_two {b : List Int} (ho : Oct b) (h4 : 2 ≤ b.length) (he : b.length % 2 = 0) (hs : sumN b = 0) : putL (sumN (b.take (b.length - 2))) 2 = b.drop (b.length - 2) ∨ (b.getD (b.length - 2) 0 = 255 ∧ b.getD (b.length - 1) 0 = 255) := by
  obtain ⟨k, hk⟩ : ∃ k, b.length = k + 1 + 1 := ⟨b.length - 2, by omega⟩
  have e2 : b.length - 2 = k := by omega
  have e1 : b.length - 1 = k + 1 := by omega
  have hk2 : k % 2 = 0 := by omega
  rw [e2, e1]
  have h16 : (b.take k).length = k := by simp; omega
  have ho16 : Oct (b.take k) := fun z hz => ho z (List.mem_of_mem_take hz)
  obtain ⟨t0, t1⟩ := (sum_zero ho).1 hs
  rw [hk] at t0 t1
  have et : tot b (k + 1 + 1) = tot (b.take k) k + b.getD k 0 * 256 + b.getD (k + 1) 0 := by
    rw [tot_odd (by omega), tot_even hk2]
    have := tot_append (b.take k) (b.drop k) k (by omega)
    rw [List.take_append_drop] at this
    rw [this]
  have hx := ho.at k
  have hy := ho.at (k + 1)
  have hT := (tot_bd ho16 k).1
  have hS : sumN (b.take k) = 65535 - fo (tot (b.take k) k) := by unfold sumN; rw [h16]
  have hb := sumN_bd ho16
  have ed : b.drop k = [b.getD k 0, b.getD (k + 1) 0] := by
    rw [List.drop_eq_getElem_cons (show k < b.length by omega), List.drop_eq_getElem_cons (show k + 1 < b.length by omega), List.drop_eq_nil_of_le (by omega), getD_el (show k < b.length by omega), getD_el (show k + 1 < b.length by omega)]
  have ep : putL (sumN (b.take k)) 2 = [sumN (b.take k) / 256 % 256, sumN (b.take k) % 256] := by
    rw [putL_yes (ok_sum ho16)]
    show digs (sumN (b.take k)) 2 = _
    rw [digs2, Int.ediv_one]
  rw [ed, ep]
  obtain ⟨S, eS⟩ : ∃ S, sumN (b.take k) = S := ⟨_, rfl⟩
  obtain ⟨x, ex⟩ : ∃ S, b.getD k 0 = S := ⟨_, rfl⟩
  obtain ⟨y, ey⟩ : ∃ S, b.getD (k + 1) 0 = S := ⟨_, rfl⟩
  rw [eS] at hS hb ⊢
  rw [ex] at et hx ⊢
  rw [ey] at et hy ⊢
  rw [et] at t0 t1
  clear et ed ep
  generalize tot (b.take k) k = T at *
  have key : S = x * 256 + y ∨ (x = 255 ∧ y = 255) := by
    unfold fo at hS
    split at hS <;> omega
  rcases key with h | h
  · left
    simp only [List.cons.injEq, and_true]
    omega
  · exact .inr h
theorem size_even {b : List Int} (h : b.length = sizeF b) : b.length % 2 = 0 := by rw [h]; unfold sizeF; omega
/-- what is opened is sealed as the same bytes, but for a checksum of 65535 -/
theorem open_again {b : List Int} (ho : Oct b) (h : foE b = 0) : (sealL (inF b)).length = b.length ∧ (sealL (inF b)).take (b.length - 2) = b.take (b.length - 2) ∧ (sealL (inF b) = b ∨ (b.getD (b.length - 2) 0 = 255 ∧ b.getD (b.length - 1) 0 = 255)) := by
  obtain ⟨h4, hm, hs, hz, hp, _⟩ := foE_zero h
  have hn := inF_len hs
  have hN := nF_le ho
  have ht := open_top ho h
  have hlt : (topL (inF b)).length = b.length - 2 := by rw [ht, List.length_take]; omega
  refine ⟨?_, ?_, ?_⟩
  · rw [seal_len (inF_oct ho) (by omega), hn]; exact hs.symm
  · unfold sealL
    rw [List.take_append_of_le_length (by omega), List.take_of_length_le (by omega), ht]
  · rcases last_two ho (by omega) (size_even hs) hz with h1 | h1
    · left
      unfold sealL
      rw [ht, h1, List.take_append_drop]
    · exact .inr h1
/-- frames that are the same are of the same bytes -/
theorem seal_one {B C : List Int} (h : sealL B = sealL C) : B = C := by
  have h1 := seal_in B []
  have h2 := seal_in C []
  rw [h] at h1
  exact h1.symm.trans h2
/-! ### of messages -/
/-- a message as a frame -/
def frameM (y z v g a n i p k t : Int) : List Int := sealL (bodyM y z v g a n i p k t)
def lenFr (y : Int) : Nat := if y = 2 then 22 else 14
theorem lenFr_or (y : Int) : lenFr y = 22 ∨ lenFr y = 14 := by unfold lenFr; split <;> simp
theorem lenFr_is (y : Int) : lenFr y = lenM y + lenM y % 2 + 4 := by unfold lenFr lenM; split <;> rfl
theorem body_le {y z v g a n i p k t : Int} (h : okM y z v g a n i p k t = true) : (bodyM y z v g a n i p k t).length ≤ 255 := by
  have := lenM_or y
  rw [bodyM_len h]; omega
theorem frame_len {y z v g a n i p k t : Int} (h : okM y z v g a n i p k t = true) : (frameM y z v g a n i p k t).length = lenFr y := by
  unfold frameM
  rw [seal_len (bodyM_oct _ _ _ _ _ _ _ _ _ _) (body_le h), bodyM_len h, lenFr_is]
theorem frame_oct {y z v g a n i p k t : Int} (h : okM y z v g a n i p k t = true) : Oct (frameM y z v g a n i p k t) := seal_oct (bodyM_oct _ _ _ _ _ _ _ _ _ _) (body_le h)
theorem frame_back {y z v g a n i p k t : Int} (h : okM y z v g a n i p k t = true) : foE (frameM y z v g a n i p k t) = 0 ∧ isMsg (inF (frameM y z v g a n i p k t)) y z v g a n i p k t := by
  obtain ⟨h1, h2⟩ := open_seal (bodyM_oct y z v g a n i p k t) (body_le h)
  obtain ⟨h3, h4⟩ := msg_back h
  unfold frameM
  rw [h1, h2]
  exact ⟨h3, h4⟩
theorem frame_one {y z v g a n i p k t y' z' v' g' a' n' i' p' k' t' : Int} (h : okM y z v g a n i p k t = true) (h' : okM y' z' v' g' a' n' i' p' k' t' = true) (e : frameM y z v g a n i p k t = frameM y' z' v' g' a' n' i' p' k' t') :
    y = y' ∧ z = z' ∧ v = v' ∧ g = g' ∧ a = a' ∧ n = n' ∧ i = i' ∧ p = p' ∧ k = k' ∧ t = t' := msg_one h h' (seal_one e)
/-- the message of what is opened, sealed anew -/
theorem frame_again {b : List Int} (ho : Oct b) (h : foE b = 0) : frameM (q0 (inF b)) (q1 (inF b)) (q2 (inF b)) (q3 (inF b)) (r0 (inF b)) (r1 (inF b)) (r2 (inF b)) (r3 (inF b)) (r4 (inF b)) (r5 (inF b)) = sealL (inF b) := by
  unfold frameM
  rw [msg_again (inF_oct ho) (foE_zero h).2.2.2.2.2]
end Go.Proofs.YtklcchmpmilcaaaDoor.Fr
