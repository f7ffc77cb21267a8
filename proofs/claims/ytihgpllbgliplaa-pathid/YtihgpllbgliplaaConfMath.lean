/- Configurations as plain data: when one may be, the longest list, a switch's rules, when two say the same; and what follows. No memory and no program. -/
import Derived.Test.YtihgpllbgliplaaMaths
import Derived.Test.YtihgpllbgliplaaTopMath
namespace Go.Proofs.Ytihgpllbgliplaa.Cf
open Go Pk R
set_option linter.unusedVariables false
set_option linter.unusedSimpArgs false

abbrev Cnf := List (List Rl)
/-- a rule may be, and its ports are below n -/
def okRule (n : Int) (r : Rl) : Bool := Pk.mayR r && decide (r.i < n) && (!decide (r.k = 1) || decide (r.t < n))
/-- no two are alike -/
def apart (l : List Rl) : Bool := decide (l.Pairwise fun a b => alike a b = false)
def rulesB (n : Int) (l : List Rl) : Bool := decide (l.length ≤ 40) && l.all (okRule n) && apart l
def mayC (s n : Int) (l : List Tp.Lk) (L : Cnf) : Bool := Tp.mayT s n l && decide ((L.length : Int) = s) && L.all (rulesB n)
def mostC (L : Cnf) : Nat := L.foldl (fun m l => if m < l.length then l.length else m) 0
def atC (L : Cnf) (sw : Int) : List Rl := if 0 ≤ sw then L.getD sw.toNat [] else []
def sameC (A B : Cnf) : Bool := decide (A.map sortL = B.map sortL)
/-- at most n lists of at most k rules -/
def Bd (n k : Nat) (L : Cnf) : Prop := L.length ≤ n ∧ ∀ l ∈ L, l.length ≤ k
def fewB (L : Cnf) : Bool := decide (L.length ≤ 10) && L.all fun l => decide (l.length ≤ 60)
theorem few_iff (L : Cnf) : fewB L = true ↔ Bd 10 60 L := by
  unfold fewB Bd
  rw [Bool.and_eq_true, List.all_eq_true, decide_eq_true_eq]
  refine and_congr_right fun _ => ?_
  constructor
  · intro h l hl; simpa using h l hl
  · intro h l hl; simpa using h l hl
theorem bd_mono {n k n' k' : Nat} {L : Cnf} (h : Bd n k L) (hn : n ≤ n') (hk : k ≤ k') : Bd n' k' L := ⟨Nat.le_trans h.1 hn, fun l hl => Nat.le_trans (h.2 l hl) hk⟩
theorem alike_symm (a b : Rl) : alike a b = alike b a := by
  unfold alike likeB
  rw [Bool.eq_iff_iff]
  simp only [Bool.and_eq_true, decide_eq_true_eq, beq_iff_eq]
  omega
theorem alike_self (a : Rl) : alike a a = true := by simp [alike, likeB]
theorem apart_iff (l : List Rl) : apart l = true ↔ l.Pairwise fun a b => alike a b = false := by unfold apart; simp
theorem rules_iff (n : Int) (l : List Rl) : rulesB n l = true ↔ l.length ≤ 40 ∧ (∀ r ∈ l, okRule n r = true) ∧ l.Pairwise fun a b => alike a b = false := by
  unfold rulesB
  rw [Bool.and_eq_true, Bool.and_eq_true, apart_iff, List.all_eq_true, decide_eq_true_eq, and_assoc]
theorem rules_perm {n : Int} {l m : List Rl} (hp : m.Perm l) (h : rulesB n l = true) : rulesB n m = true := by
  obtain ⟨h0, h1, h2⟩ := (rules_iff n l).1 h
  exact (rules_iff n m).2 ⟨by rw [hp.length_eq]; exact h0, fun r hr => h1 r (hp.mem_iff.1 hr), (hp.pairwise_iff (fun {a b} hab => by rw [alike_symm]; exact hab)).2 h2⟩
theorem rules_sub {n : Int} {l m : List Rl} (hs : m.Sublist l) (h : rulesB n l = true) : rulesB n m = true := by
  obtain ⟨h0, h1, h2⟩ := (rules_iff n l).1 h
  exact (rules_iff n m).2 ⟨Nat.le_trans hs.length_le h0, fun r hr => h1 r (hs.subset hr), h2.sublist hs⟩
theorem rules_twice (n : Int) (l : List Rl) {x : Rl} (hx : x ∈ l) : rulesB n (l ++ [x]) = false := by
  cases g : rulesB n (l ++ [x])
  · rfl
  · obtain ⟨_, _, h⟩ := (rules_iff _ _).1 g
    have := (List.pairwise_append.1 h).2.2 x hx x (by simp)
    rw [alike_self] at this
    cases this
theorem may_iff (s n : Int) (l : List Tp.Lk) (L : Cnf) : mayC s n l L = true ↔ Tp.mayT s n l = true ∧ (L.length : Int) = s ∧ ∀ r ∈ L, rulesB n r = true := by
  unfold mayC
  rw [Bool.and_eq_true, Bool.and_eq_true, List.all_eq_true, decide_eq_true_eq, and_assoc]
theorem may_bd {s n : Int} {l : List Tp.Lk} {L : Cnf} (h : mayC s n l L = true) : Bd 6 40 L ∧ l.length ≤ 12 ∧ 1 ≤ s ∧ s ≤ 6 ∧ 1 ≤ n ∧ n ≤ 8 := by
  obtain ⟨h0, h1, h2⟩ := (may_iff s n l L).1 h
  have h3 := ((Tp.mayT_iff s n l).1 h0).1
  simp only [Tp.okB, Bool.and_eq_true, decide_eq_true_eq] at h3
  exact ⟨⟨by omega, fun r hr => ((rules_iff n r).1 (h2 r hr)).1⟩, by omega, by omega, by omega, by omega, by omega⟩
theorem okRule_mono {n n' : Int} (h : n ≤ n') {r : Rl} (hr : okRule n r = true) : okRule n' r = true := by
  unfold okRule at hr ⊢
  simp only [Bool.and_eq_true, Bool.or_eq_true, Bool.not_eq_true', decide_eq_true_eq, decide_eq_false_iff_not] at hr ⊢
  exact ⟨⟨hr.1.1, by have := hr.1.2; omega⟩, hr.2.imp id (fun g => by omega)⟩
theorem rules_mono {n n' : Int} (h : n ≤ n') {l : List Rl} (hr : rulesB n l = true) : rulesB n' l = true := by
  obtain ⟨h0, h1, h2⟩ := (rules_iff n l).1 hr
  exact (rules_iff n' l).2 ⟨h0, fun r hr => okRule_mono h (h1 r hr), h2⟩
/-- of a topology with more ports -/
theorem may_ports {s n : Int} {l : List Tp.Lk} {L : Cnf} (h : mayC s n l L = true) : mayC s 8 l L = true := by
  obtain ⟨h0, h1, h2⟩ := (may_iff s n l L).1 h
  have hb := may_bd h
  obtain ⟨g0, g1, g2⟩ := (Tp.mayT_iff s n l).1 h0
  refine (may_iff s 8 l L).2 ⟨(Tp.mayT_iff s 8 l).2 ⟨?_, fun e he => ?_, g2⟩, h1, fun r hr => rules_mono hb.2.2.2.2.2 (h2 r hr)⟩
  · simp only [Tp.okB, Bool.and_eq_true, decide_eq_true_eq] at g0 ⊢
    omega
  · have := g1 e he
    simp only [Tp.isP, Bool.and_eq_true, decide_eq_true_eq] at this ⊢
    omega
theorem may_nolinks {s n : Int} {l : List Tp.Lk} {L : Cnf} (h : mayC s n l L = true) : mayC s n [] L = true := by
  obtain ⟨h0, h1, h2⟩ := (may_iff s n l L).1 h
  exact (may_iff s n [] L).2 ⟨Tp.may_none h0, h1, h2⟩
theorem may_more {s n : Int} {l : List Tp.Lk} {L : Cnf} (h : mayC s n l L = true) : mayC (s + 1) n l L = false := by
  obtain ⟨h0, h1, h2⟩ := (may_iff s n l L).1 h
  cases g : mayC (s + 1) n l L
  · rfl
  · have := ((may_iff (s + 1) n l L).1 g).2.1
    omega
theorem same_refl (A : Cnf) : sameC A A = true := by simp [sameC]
theorem same_symm (A B : Cnf) : sameC A B = sameC B A := by
  unfold sameC
  rw [Bool.eq_iff_iff]
  simp only [decide_eq_true_eq]
  exact ⟨Eq.symm, Eq.symm⟩
theorem same_trans {A B C : Cnf} (h : sameC A B = true) (h2 : sameC B C = true) : sameC A C = true := by
  unfold sameC at *
  simp only [decide_eq_true_eq] at *
  exact h.trans h2
theorem same_len {A B : Cnf} (h : sameC A B = true) : A.length = B.length := by
  unfold sameC at h
  simp only [decide_eq_true_eq] at h
  have := congrArg List.length h
  simpa using this
/-- one list in the place of another one -/
theorem same_set {L : Cnf} {i : Nat} {l m : List Rl} (hi : L[i]? = some l) (h : sortL m ≠ sortL l) : sameC L (L.set i m) = false := by
  unfold sameC
  rw [decide_eq_false_iff_not]
  intro e
  have h1 := congrArg (fun x => x[i]?) e
  simp only [List.getElem?_map, hi, Option.map_some] at h1
  have hlt := (List.getElem?_eq_some_iff.1 hi).1
  rw [List.getElem?_set_self hlt] at h1
  simp only [Option.map_some, Option.some.injEq] at h1
  exact h h1.symm
theorem sort_tail_ne (x : Rl) (l : List Rl) : sortL l ≠ sortL (x :: l) := by
  intro e
  have := congrArg List.length e
  rw [(sort_perm l).length_eq, (sort_perm (x :: l)).length_eq] at this
  simp at this
theorem may_set {s n : Int} {l : List Tp.Lk} {L : Cnf} {i : Nat} {m : List Rl} (h : mayC s n l L = true) (hm : rulesB n m = true) : mayC s n l (L.set i m) = true := by
  obtain ⟨h0, h1, h2⟩ := (may_iff s n l L).1 h
  refine (may_iff s n l _).2 ⟨h0, by rw [List.length_set]; exact h1, fun r hr => ?_⟩
  rcases List.mem_or_eq_of_mem_set hr with g | rfl
  · exact h2 r g
  · exact hm
theorem may_set_no {s n : Int} {l : List Tp.Lk} {L : Cnf} {i : Nat} {m : List Rl} (hi : i < L.length) (hm : rulesB n m = false) : mayC s n l (L.set i m) = false := by
  cases g : mayC s n l (L.set i m)
  · rfl
  · have := ((may_iff _ _ _ _).1 g).2.2 m (List.mem_iff_getElem?.2 ⟨i, by rw [List.getElem?_set_self hi]⟩)
    rw [hm] at this
    cases this
theorem at_set {L : Cnf} {i : Nat} {m : List Rl} (hi : i < L.length) : atC (L.set i m) (i : Int) = m := by
  unfold atC
  rw [if_pos (by omega), List.getD_eq_getElem?_getD, Int.toNat_natCast, List.getElem?_set_self hi]
  rfl
theorem at_in {L : Cnf} {i : Nat} {l : List Rl} (hi : L[i]? = some l) : atC L (i : Int) = l := by
  unfold atC
  rw [if_pos (by omega), List.getD_eq_getElem?_getD, Int.toNat_natCast, hi]
  rfl
theorem at_out {L : Cnf} {sw : Int} (h : sw < 0 ∨ (L.length : Int) ≤ sw) : atC L sw = [] := by
  unfold atC
  split
  · rw [List.getD_eq_getElem?_getD, List.getElem?_eq_none (by omega)]; rfl
  · rfl
theorem at_bd {n k : Nat} {L : Cnf} (h : Bd n k L) (sw : Int) : (atC L sw).length ≤ k := by
  unfold atC
  split
  · rw [List.getD_eq_getElem?_getD]
    cases g : L[sw.toNat]? with
    | none => simp
    | some l => exact h.2 l (List.mem_of_getElem? g)
  · simp
/-- a list from its k-th on, then its first k -/
def rot (by' : Nat) (l : List Rl) : List Rl := l.drop (by' % l.length) ++ l.take (by' % l.length)
theorem rot_perm (k : Nat) (l : List Rl) : (rot k l).Perm l := by
  unfold rot
  refine List.perm_append_comm.trans ?_
  rw [List.take_append_drop]
theorem rot_len (k : Nat) (l : List Rl) : (rot k l).length = l.length := (rot_perm k l).length_eq
theorem sort_of_perm {l m : List Rl} (h : m.Perm l) : sortL m = sortL l := sort_is ((sort_perm m).trans h) (sort_ord m)
theorem rot_sort (k : Nat) (l : List Rl) : sortL (rot k l) = sortL l := sort_of_perm (rot_perm k l)
def turnC (k : Nat) (L : Cnf) : Cnf := L.map (rot k)
theorem turn_same (k : Nat) (L : Cnf) : sameC L (turnC k L) = true := by
  unfold sameC turnC
  rw [decide_eq_true_eq, List.map_map]
  refine List.map_congr_left fun l _ => ?_
  exact (rot_sort k l).symm
theorem turn_may {s n : Int} {l : List Tp.Lk} {L : Cnf} (k : Nat) (h : mayC s n l L = true) : mayC s n l (turnC k L) = true := by
  obtain ⟨h0, h1, h2⟩ := (may_iff s n l L).1 h
  refine (may_iff s n l _).2 ⟨h0, by rw [turnC, List.length_map]; exact h1, fun r hr => ?_⟩
  obtain ⟨m, hm, rfl⟩ := List.mem_map.1 hr
  exact rules_perm (rot_perm k m) (h2 m hm)
theorem most_fold (L : Cnf) (k m : Nat) : (turnC k L).foldl (fun m l => if m < l.length then l.length else m) m = L.foldl (fun m l => if m < l.length then l.length else m) m := by
  induction L generalizing m with
  | nil => rfl
  | cons l L ih =>
    show (turnC k L).foldl _ (if m < (rot k l).length then (rot k l).length else m) = _
    rw [rot_len, List.foldl_cons, ih]
theorem turn_most (k : Nat) (L : Cnf) : mostC (turnC k L) = mostC L := most_fold L k 0
theorem turn_bd {n m : Nat} {L : Cnf} (k : Nat) (h : Bd n m L) : Bd n m (turnC k L) := by
  refine ⟨by rw [turnC, List.length_map]; exact h.1, fun r hr => ?_⟩
  obtain ⟨l, hl, rfl⟩ := List.mem_map.1 hr
  rw [rot_len]; exact h.2 l hl
theorem set_bd {n k i : Nat} {L : Cnf} {m : List Rl} (h : Bd n k L) (hm : m.length ≤ k) : Bd n k (L.set i m) := by
  refine ⟨by rw [List.length_set]; exact h.1, fun r hr => ?_⟩
  rcases List.mem_or_eq_of_mem_set hr with g | rfl
  · exact h.2 r g
  · exact hm
end Go.Proofs.Ytihgpllbgliplaa.Cf
