/- What is on its way, as plain data: sent, and behind a fate; and what follows. No memory and no program. -/
import Derived.Test.YtoedgnkoahcblaaMaths
namespace Go.Proofs.Ytoedgnkoahcblaa.Wi
open Go
set_option linter.unusedVariables false
set_option linter.unusedSimpArgs false

/-- bytes on their way -/
structure Wr where
  sw : Int
  up : Bool
  b : List Int
  deriving DecidableEq, Inhabited
def noW : Wr := ⟨0, false, []⟩
def sendL (l : List Wr) (x : Wr) : List Wr := if 60 ≤ l.length then l else l ++ [x]
def sendB (l : List Wr) : Bool := decide (l.length < 60)
/-- is there a number at? -/
def inB (l : List Wr) (at_ : Int) : Bool := decide (0 ≤ at_) && decide (at_ < (l.length : Int))
def fateL (l : List Wr) (at_ f : Int) : List Wr := if inB l at_ = true ∧ (f = 0 ∨ f = 1) then l.eraseIdx at_.toNat else l
def fateW (l : List Wr) (at_ f : Int) : Wr := if inB l at_ = true ∧ (f = 0 ∨ f = 2) then l.getD at_.toNat noW else noW
def fateB (l : List Wr) (at_ f : Int) : Bool := inB l at_ && (decide (f = 0) || decide (f = 2))
/-- at most n, of at most k bytes each -/
def Bw (n k : Nat) (l : List Wr) : Prop := l.length ≤ n ∧ ∀ x ∈ l, x.b.length ≤ k
def fewWB (l : List Wr) : Bool := decide (l.length ≤ 100) && l.all fun x => decide (x.b.length ≤ 300)
theorem fewW_iff (l : List Wr) : fewWB l = true ↔ Bw 100 300 l := by
  unfold fewWB Bw
  rw [Bool.and_eq_true, List.all_eq_true, decide_eq_true_eq]
  refine and_congr_right fun _ => ?_
  constructor
  · intro h x hx; simpa using h x hx
  · intro h x hx; simpa using h x hx
section
variable {l : List Wr} {x : Wr} {at_ f : Int} {i : Nat}
theorem send_room (h : l.length < 60) : sendL l x = l ++ [x] ∧ sendB l = true := ⟨by unfold sendL; rw [if_neg (by omega)], by unfold sendB; simpa using h⟩
theorem send_full (h : ¬ l.length < 60) : sendL l x = l ∧ sendB l = false := ⟨by unfold sendL; rw [if_pos (by omega)], by unfold sendB; simpa using h⟩
theorem in_nat (h : i < l.length) : inB l (i : Int) = true := by unfold inB; simp; exact h
theorem in_no (h : at_ < 0 ∨ (l.length : Int) ≤ at_) : inB l at_ = false := by unfold inB; rcases h with h | h <;> simp <;> omega
theorem in_iff : inB l at_ = true ↔ 0 ≤ at_ ∧ at_ < (l.length : Int) := by unfold inB; simp
theorem fate_out (h : inB l at_ = false) : fateL l at_ f = l ∧ fateW l at_ f = noW ∧ fateB l at_ f = false := by
  refine ⟨?_, ?_, ?_⟩
  · unfold fateL; rw [h]; simp
  · unfold fateW; rw [h]; simp
  · unfold fateB; rw [h]; rfl
theorem fate_deliver (h : i < l.length) : fateL l (i : Int) 0 = l.eraseIdx i ∧ fateW l (i : Int) 0 = l.getD i noW ∧ fateB l (i : Int) 0 = true := by
  refine ⟨?_, ?_, ?_⟩
  · unfold fateL; rw [if_pos ⟨in_nat h, .inl rfl⟩]; rfl
  · unfold fateW; rw [if_pos ⟨in_nat h, .inl rfl⟩]; rfl
  · unfold fateB; rw [in_nat h]; rfl
theorem fate_lose (h : i < l.length) : fateL l (i : Int) 1 = l.eraseIdx i ∧ fateW l (i : Int) 1 = noW ∧ fateB l (i : Int) 1 = false := by
  refine ⟨?_, ?_, ?_⟩
  · unfold fateL; rw [if_pos ⟨in_nat h, .inr rfl⟩]; rfl
  · unfold fateW; rw [if_neg (by omega)]
  · unfold fateB; rw [in_nat h]; rfl
theorem fate_twice (h : i < l.length) : fateL l (i : Int) 2 = l ∧ fateW l (i : Int) 2 = l.getD i noW ∧ fateB l (i : Int) 2 = true := by
  refine ⟨?_, ?_, ?_⟩
  · unfold fateL; rw [if_neg (by omega)]
  · unfold fateW; rw [if_pos ⟨in_nat h, .inr rfl⟩]; rfl
  · unfold fateB; rw [in_nat h]; rfl
theorem fate_none (h0 : f ≠ 0) (h1 : f ≠ 1) (h2 : f ≠ 2) : fateL l at_ f = l ∧ fateW l at_ f = noW ∧ fateB l at_ f = false := by
  refine ⟨?_, ?_, ?_⟩
  · unfold fateL; rw [if_neg (by omega)]
  · unfold fateW; rw [if_neg (by omega)]
  · unfold fateB; simp [h0, h2]
theorem getD_of (h : l[i]? = some x) : l.getD i noW = x := by rw [List.getD_eq_getElem?_getD, h]; rfl
theorem mem_getD (h : i < l.length) : l.getD i noW ∈ l := by rw [List.getD_eq_getElem?_getD, List.getElem?_eq_getElem h]; exact List.getElem_mem h
theorem erase_take (h : i < l.length) : l.eraseIdx i = l.take i ++ l.drop (i + 1) := List.eraseIdx_eq_take_drop_succ l i
theorem erase_len (h : i < l.length) : (l.eraseIdx i).length = l.length - 1 := List.length_eraseIdx_of_lt h
/-- what a fate leaves, one by one -/
theorem fate_len : ((fateL l at_ f).length : Int) = if inB l at_ = true ∧ (f = 0 ∨ f = 1) then (l.length : Int) - 1 else (l.length : Int) := by
  unfold fateL
  split
  · rename_i h
    have h1 := in_iff.1 h.1
    rw [erase_len (by omega)]
    omega
  · rfl
theorem fate_at (k : Nat) : (fateL l at_ f)[k]? = if inB l at_ = true ∧ (f = 0 ∨ f = 1) ∧ at_ ≤ (k : Int) then l[k + 1]? else l[k]? := by
  unfold fateL
  by_cases h : inB l at_ = true ∧ (f = 0 ∨ f = 1)
  · rw [if_pos h, List.getElem?_eraseIdx]
    have h1 := in_iff.1 h.1
    by_cases hk : at_ ≤ (k : Int)
    · rw [if_neg (by omega), if_pos ⟨h.1, h.2, hk⟩]
    · rw [if_pos (by omega), if_neg (fun g => hk g.2.2)]
  · rw [if_neg h, if_neg (fun g => h ⟨g.1, g.2.1⟩)]
theorem bw_fate {n k : Nat} (h : Bw n k l) : Bw n k (fateL l at_ f) := by
  unfold fateL
  split
  · exact ⟨Nat.le_trans (List.length_eraseIdx_le l _) h.1, fun x hx => h.2 x (List.mem_of_mem_eraseIdx hx)⟩
  · exact h
theorem bw_fateW {n k : Nat} (h : Bw n k l) : (fateW l at_ f).b.length ≤ k := by
  unfold fateW
  split
  · rename_i g
    have h1 := in_iff.1 g.1
    exact h.2 _ (mem_getD (by omega))
  · simp [noW]
theorem bw_send {n k : Nat} (h : Bw n k l) (hx : x.b.length ≤ k) : Bw (n + 1) k (sendL l x) := by
  unfold sendL
  split
  · exact ⟨Nat.le_succ_of_le h.1, h.2⟩
  · refine ⟨by rw [List.length_append]; simpa using h.1, fun y hy => ?_⟩
    rcases List.mem_append.1 hy with hy | hy
    · exact h.2 y hy
    · have : y = x := by simpa using hy
      rw [this]; exact hx
/-- what is sent last is told last -/
theorem last_erase : (l ++ [x]).eraseIdx l.length = l := by
  rw [List.eraseIdx_append_of_length_le (Nat.le_refl _)]
  simp
theorem last_get : (l ++ [x]).getD l.length noW = x := by
  rw [List.getD_eq_getElem?_getD, List.getElem?_append_right (Nat.le_refl _)]
  simp
end
end Go.Proofs.Ytoedgnkoahcblaa.Wi
