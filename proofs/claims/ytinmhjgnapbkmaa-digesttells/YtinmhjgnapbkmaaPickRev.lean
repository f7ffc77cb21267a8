/- What the library's reversal does to a row of numbers; the steps of a sift. -/
import Derived.Test.YtinmhjgnapbkmaaPickSmall
namespace Go.Proofs.Ytinmhjgnapbkmaa
open Go.ChangeShapes Go.WideShapes Go.ChangeAt Go.RowKit Go.Sort Go.Shelf
set_option linter.unusedVariables false
set_option linter.unusedSimpArgs false

section
variable {n : Nat} (lt : Fin (n + 1) → Fin (n + 1) → Bool) {hi first r ch ch1 p0 p1 p2 : Nat} {d : Array (Fin (n + 1))}
theorem sift_c1 (h0 : 2 * r + 1 = ch) (h1 : ch < hi) (h2 : first + r = p0 ∧ first + ch = p1) (h : ¬ ch + 1 < hi ∨ lt d[first + ch]! d[first + ch + 1]! = false) (hs : lt d[p0]! d[p1]! = false) : siftDown lt hi first r d = d := by
  obtain ⟨rfl, rfl⟩ := h2
  subst h0
  rw [siftDown, dif_neg (by omega), if_neg (by rcases h with h | h <;> simp [h]), if_pos (by rw [hs]; rfl)]
theorem sift_c2 (h0 : 2 * r + 1 = ch) (h1 : ch < hi) (h2 : first + r = p0 ∧ first + ch = p1) (h : ¬ ch + 1 < hi ∨ lt d[first + ch]! d[first + ch + 1]! = false) (hs : lt d[p0]! d[p1]! = true) : siftDown lt hi first r d = siftDown lt hi first ch (swp d p0 p1) := by
  obtain ⟨rfl, rfl⟩ := h2
  subst h0
  rw [siftDown, dif_neg (by omega), if_neg (by rcases h with h | h <;> simp [h]), if_neg (by rw [hs]; decide)]
theorem sift_b1 (h0 : 2 * r + 1 = ch) (h1 : ch + 1 = ch1) (h2 : ch1 < hi) (h3 : first + r = p0) (h4 : first + ch = p1 ∧ p1 + 1 = p2) (h : lt d[p1]! d[p2]! = true) (hs : lt d[p0]! d[p2]! = false) : siftDown lt hi first r d = d := by
  obtain ⟨rfl, rfl⟩ := h4
  subst h0 h1 h3
  rw [siftDown, dif_neg (by omega), if_pos (by rw [h]; simpa using h2), if_pos (by rw [show first + (2 * r + 2) = first + (2 * r + 1) + 1 by omega, hs]; rfl)]
theorem sift_b2 (h0 : 2 * r + 1 = ch) (h1 : ch + 1 = ch1) (h2 : ch1 < hi) (h3 : first + r = p0) (h4 : first + ch = p1 ∧ p1 + 1 = p2) (h : lt d[p1]! d[p2]! = true) (hs : lt d[p0]! d[p2]! = true) : siftDown lt hi first r d = siftDown lt hi first ch1 (swp d p0 p2) := by
  obtain ⟨rfl, rfl⟩ := h4
  subst h0 h1 h3
  rw [siftDown, dif_neg (by omega), if_pos (by rw [h]; simpa using h2), if_neg (by rw [show first + (2 * r + 2) = first + (2 * r + 1) + 1 by omega, hs]; decide), dif_pos (by omega), show first + (2 * r + 2) = first + (2 * r + 1) + 1 by omega]
theorem sift_facts (r first : Nat) (hr : r ≤ 1000) (hf : first ≤ 1000) : ∃ r2 ch ch1 p0 p1 p2 : Nat, 2 * r = r2 ∧ r2 + 1 = ch ∧ ch + 1 = ch1 ∧ first + r = p0 ∧ first + ch = p1 ∧ p1 + 1 = p2 ∧ IntKind.i64.wrap (2 * (r : Int)) = (r2 : Int) ∧ wrap64 (2 * (r : Int)) = (r2 : Int) ∧ IntKind.i64.wrap ((r2 : Int) + 1) = (ch : Int) ∧ wrap64 ((r2 : Int) + 1) = (ch : Int) ∧ IntKind.i64.wrap ((ch : Int) + 1) = (ch1 : Int) ∧ wrap64 ((ch : Int) + 1) = (ch1 : Int) ∧ IntKind.i64.wrap ((first : Int) + (r : Int)) = (p0 : Int) ∧ wrap64 ((first : Int) + (r : Int)) = (p0 : Int) ∧ IntKind.i64.wrap ((first : Int) + (ch : Int)) = (p1 : Int) ∧ wrap64 ((first : Int) + (ch : Int)) = (p1 : Int) ∧ IntKind.i64.wrap ((p1 : Int) + 1) = (p2 : Int) ∧ wrap64 ((p1 : Int) + 1) = (p2 : Int) ∧ IntKind.i64.wrap ((first : Int) + (ch1 : Int)) = (p2 : Int) ∧ wrap64 ((first : Int) + (ch1 : Int)) = (p2 : Int) := by
  refine ⟨2 * r, 2 * r + 1, 2 * r + 1 + 1, first + r, first + (2 * r + 1), first + (2 * r + 1) + 1, rfl, rfl, rfl, rfl, rfl, rfl, ?_, ?_, ?_, ?_, ?_, ?_, ?_, ?_, ?_, ?_, ?_, ?_, ?_, ?_⟩
  · rw [wrap_i _ (by omega) (by omega)]; omega
  · rw [wrap_6 _ (by omega) (by omega)]; omega
  · rw [wrap_i _ (by omega) (by omega)]; omega
  · rw [wrap_6 _ (by omega) (by omega)]; omega
  · rw [wrap_i _ (by omega) (by omega)]; omega
  · rw [wrap_6 _ (by omega) (by omega)]; omega
  · rw [wrap_i _ (by omega) (by omega)]; omega
  · rw [wrap_6 _ (by omega) (by omega)]; omega
  · rw [wrap_i _ (by omega) (by omega)]; omega
  · rw [wrap_6 _ (by omega) (by omega)]; omega
  · rw [wrap_i _ (by omega) (by omega)]; omega
  · rw [wrap_6 _ (by omega) (by omega)]; omega
  · rw [wrap_i _ (by omega) (by omega)]; omega
  · rw [wrap_6 _ (by omega) (by omega)]; omega
theorem rev_go {i j : Nat} (h : i < j) : reverseLoop i j d = reverseLoop (i + 1) (j - 1) (swp d i j) := by rw [reverseLoop, if_pos h]
theorem rev_stop {i j : Nat} (h : ¬ i < j) : reverseLoop i j d = d := by rw [reverseLoop, if_neg h]
end
section
set_option maxRecDepth 100000
set_option maxHeartbeats 16000000
variable {n : Nat} {w0 : World} {B : Nat} {rv : Value} {cf : Fin (n + 1) → Fin (n + 1) → Int}
theorem rev_any {w : World} {d : Array (Fin (n + 1))} (R : Row w0 B d w) {a b c : Nat} (hab : a ≤ b) (hb1 : 1 ≤ b) (hb : b ≤ d.size) (hsz : d.size ≤ 1000) :
    Calls Try.prog 63 #[.slice (some ⟨B, 0, none⟩) d.size c, .int .i64 (a : Nat), .int .i64 (b : Nat), mv rv] w fun e w' => e = .returned (.tuple #[]) ∧ Row w0 B (reverseRange d a b) w' := by
  have mixed : Try.prog.follows .mixedOrders = true := by kernel_rfl
  obtain ⟨b', hb'⟩ : ∃ b', b - 1 = b' := ⟨_, rfl⟩
  have HD : Hid (reverseRange d a b = reverseLoop a b' d) := by show _ = _; unfold reverseRange; rw [hb']
  generalize reverseRange d a b = res at HD
  have m1a : IntKind.i64.wrap ((b : Int) - 1) = (b' : Int) := by rw [wrap_i _ (by omega) (by omega)]; omega
  have m1b : wrap64 ((b : Int) - 1) = (b' : Int) := by rw [wrap_6 _ (by omega) (by omega)]; omega
  go_enter Try.func63, Try.ntmps63
  go_wp2_with fail
  go_loopw [8, 9] (fun vi vj wr => ∃ (i j : Nat) (dk : Array (Fin (n + 1))), vi = .int .i64 (i : Nat) ∧ vj = .int .i64 (j : Nat) ∧ i ≤ 1001 ∧ j < d.size ∧ dk.size = d.size ∧ Row w0 B dk wr ∧ Hid (res = reverseLoop i j dk)) (fun _ vj _ => (intOf vj).toNat)
  case atStart => exact ⟨a, b', d, rfl, rfl, by omega, by omega, rfl, R, HD⟩
  case round =>
    clear R
    obtain ⟨i, j, dj, rfl, rfl, hi, hj, hsj, R5, H2⟩ := hrel
    by_cases hlt : i < j
    · have hltz : (i : Int) < (j : Int) := by omega
      obtain ⟨j', hj'⟩ : ∃ j', j - 1 = j' := ⟨_, rfl⟩
      have H3 : Hid (res = reverseLoop (i + 1) j' (swp dj i j)) := by show _ = _; rw [H2.out, rev_go hlt, hj']
      clear H2
      have m2a : IntKind.i64.wrap ((j : Int) - 1) = (j' : Int) := by rw [wrap_i _ (by omega) (by omega)]; omega
      have m2b : wrap64 ((j : Int) - 1) = (j' : Int) := by rw [wrap_6 _ (by omega) (by omega)]; omega
      have i0 : (i : Int) < (d.size : Int) := by omega
      have i1 : (j : Int) < (d.size : Int) := by omega
      obtain ⟨u, hu⟩ : ∃ u, dj[i]! = u := ⟨_, rfl⟩
      obtain ⟨v, hv⟩ : ∃ v, dj[j]! = v := ⟨_, rfl⟩
      have c1 := R5.cell i (by omega)
      have c2 := R5.cell j (by omega)
      have f1 := R5.frozen i (by omega)
      have f2 := R5.frozen j (by omega)
      have R6 := (R5.swap (i := i) (j := j) (by omega) (by omega) hu hv).drew
      rw [hu] at c1
      rw [hv] at c2
      have c3 := (World.cell?_setCell_other wr ⟨B, i, none⟩ ⟨B, j, none⟩ (.int .i64 ((v : Nat) : Int)) (by intro e; injection e with _ e2; omega)).trans c2
      clear R5 hu hv
      go_wp2_with fail
      go_big_region_o
      go_wp2_with fail
      go_roundw
      case rel => exact ⟨i + 1, j', swp dj i j, by go_num, rfl, by omega, by omega, by rw [swp_size]; exact hsj, R6, H3⟩
      case measure => simp [intOf]; omega
    · have hltz : ¬ (i : Int) < (j : Int) := by omega
      go_wp2_with fail
      go_end0
      exact ⟨rfl, by rw [H2.out, rev_stop hlt]; exact R5⟩
end
end Go.Proofs.Ytinmhjgnapbkmaa
