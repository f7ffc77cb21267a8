/- What the code's Order answers: the one list in order, if its numbers are sorted. -/
import Derived.Test.YtnmijgnflemhkaaPickOrder
import Derived.Test.YtnmijgnflemhkaaMaths
namespace Go.Proofs.Ytnmijgnflemhkaa
open Go.ChangeShapes Go.WideShapes Go.ChangeAt Go.RowKit Go.Sort Go.Shelf Pk
set_option linter.unusedVariables false
set_option linter.unusedSimpArgs false

theorem bef_trans {r s t : Rl} (h : bef r s) (h2 : bef s t) : bef r t := by unfold bef at *; omega
theorem swo_cf (l : List Rl) (n : Nat) : SWO (ltc (fun x y : Fin (n + 1) => cfR (l.getD x.val default) (l.getD y.val default) ((x.val : Nat) : Int) ((y.val : Nat) : Int))) where
  irrefl x := by
    unfold ltc
    rw [decide_eq_false_iff_not, cf_neg]
    rintro (h | ⟨_, h⟩)
    · exact bef_irrefl _ h
    · omega
  trans x y z h1 h2 := by
    unfold ltc at *
    rw [decide_eq_true_eq, cf_neg] at *
    rcases h1 with h1 | ⟨e1, h1⟩
    · rcases h2 with h2 | ⟨e2, h2⟩
      · exact .inl (bef_trans h1 h2)
      · rw [e2] at h1; exact .inl h1
    · rw [e1]
      rcases h2 with h2 | ⟨e2, h2⟩
      · exact .inl h2
      · exact .inr ⟨e2, by omega⟩
  ntrans x y z h1 h2 := by
    unfold ltc at *
    rw [decide_eq_false_iff_not, cf_neg] at *
    have a1 : ¬ bef (l.getD x.val default) (l.getD y.val default) := fun h => h1 (.inl h)
    have a2 : ¬ bef (l.getD y.val default) (l.getD z.val default) := fun h => h2 (.inl h)
    rintro (h | ⟨e, h⟩)
    · exact bef_ntrans a1 a2 h
    · have e1 : l.getD x.val default = l.getD y.val default := bef_eq a1 (by rw [e]; exact a2)
      have b1 : ¬ ((x.val : Nat) : Int) < ((y.val : Nat) : Int) := fun h => h1 (.inr ⟨e1, h⟩)
      have b2 : ¬ ((y.val : Nat) : Int) < ((z.val : Nat) : Int) := fun h => h2 (.inr ⟨by rw [← e1, e], h⟩)
      omega
theorem extract_all {α : Type} (d : Array α) {N : Nat} (h : d.size = N) : d.extract 0 N = d := by subst h; simp
theorem byNum_all {n : Nat} {l : List Rl} (hl : l.length = n + 1) : byNum l (upTo n (n + 1)).toList = l := by
  unfold byNum
  apply List.ext_getElem
  · simp [upTo, hl]
  · intro i h1 h2
    rw [List.getElem_map, Array.getElem_toList]
    simp only [upTo, Array.getElem_ofFn]
    rw [if_pos (by show i < n + 1; omega), List.getD_eq_getElem?_getD, List.getElem?_eq_getElem h2]
    rfl
theorem byNum_sorted {n : Nat} {l : List Rl} (hl : l.length = n + 1) {d : Array (Fin (n + 1))} (hp : PermIn 0 (n + 1) (upTo n (n + 1)) d)
    (hs : SortedIn (ltc (fun x y : Fin (n + 1) => cfR (l.getD x.val default) (l.getD y.val default) ((x.val : Nat) : Int) ((y.val : Nat) : Int))) 0 (n + 1) d) : byNum l d.toList = sortL l := by
  have hsz : d.size = n + 1 := hp.1.trans (upTo_size _ _)
  have h2 := hp.2.2
  rw [extract_all d hsz, extract_all _ (upTo_size _ _)] at h2
  refine sort_is ?_ ?_
  · have := h2.map (fun i : Fin (n + 1) => l.getD i.val default)
    have e := byNum_all hl
    unfold byNum at e ⊢
    rw [e] at this
    exact this
  · unfold Pk.Ord byNum
    rw [List.pairwise_map, List.pairwise_iff_getElem]
    intro i j hi hj hij
    have hj' : j < n + 1 := by rw [← hsz]; simpa using hj
    have := hs i j (Nat.zero_le _) hij hj'
    have g : ∀ k (hk : k < d.toList.length), d[k]! = d.toList[k] := fun k hk => by simp [getElem!_def, Array.length_toList ▸ hk]
    rw [g i hi, g j hj] at this
    unfold ltc at this
    rw [decide_eq_false_iff_not, cf_neg] at this
    exact fun h => this (.inl h)
/-- the sort does what it is to do, for at most so many numbers -/
def SortsTo (N : Nat) : Prop := ∀ n, n + 1 ≤ N → Sorts n
theorem sortsTo_12 : SortsTo 12 := fun n h => sorts_small h
section
set_option maxRecDepth 100000
set_option maxHeartbeats 2000000
theorem ins_none (w : World) (x : Option Addr) (c : Nat) (V : Value) : Calls Try.prog 56 #[.slice x 0 c, .int .i64 0, .int .i64 0, V] w fun e w' => e = .returned (.tuple #[]) ∧ w' = w := by
  go_enter Try.func56, Try.ntmps56
  go_wp2_with fail
  refine wp_loop_rounds 1 ?_
  rw [rounds_succ]
  go_wp2_with fail
  go_end0
  exact ⟨rfl, rfl⟩
theorem pdq_none (w : World) (x : Option Addr) (c lim : Nat) (V : Value) : Calls Try.prog 50 #[.slice x 0 c, .int .i64 0, .int .i64 0, .int .i64 (lim : Nat), V] w fun e w' => e = .returned (.tuple #[]) ∧ w' = w := by
  go_enter Try.func50, Try.ntmps50
  go_wp2_with fail
  refine wp_loop_rounds 1 ?_
  rw [rounds_succ]
  go_wp2_with fail
  refine (ins_none _ _ _ _).mono ?_
  rintro e w2 ⟨rfl, rfl⟩
  go_wp2_with fail
  refine ret0 rfl rfl ?_
  exact ⟨rfl, rfl⟩
theorem sort_none (w : World) (x : Option Addr) (c : Nat) (V : Value) : Calls Try.prog 44 #[.slice x 0 c, V] w fun e w' => e = .returned (.tuple #[]) ∧ w' = w := by
  have cl := fun w => len_any 0 (by omega) w
  generalize Lib.bitLen 0 = lim at cl
  go_enter Try.func44, Try.ntmps44
  go_wp2_with fail
  refine (cl _).mono ?_
  rintro e w2 ⟨rfl, rfl⟩
  go_wp2_with fail
  refine (pdq_none _ _ _ _ _).mono ?_
  rintro e w3 ⟨rfl, rfl⟩
  go_wp2_with fail
  go_end0
  exact ⟨rfl, rfl⟩
theorem make0 (w : World) : (Instr.makeSlice 69 (.int .i64 0) (.int .i64 0)).run Try.prog w = .ok (.slice (some ⟨w.heap.size, 0, none⟩) 0 0) (w.alloc (.cells #[] 3)) := by kernel_rfl
theorem make0R (w : World) : (Instr.makeSlice 32 (.int .i64 0) (.int .i64 0)).run Try.prog w = .ok (.slice (some ⟨w.heap.size, 0, none⟩) 0 0) (w.alloc (.cells #[] 42)) := by kernel_rfl
theorem order_none (w : World) (a : Option Addr) (c : Nat) : Calls Try.prog 39 #[.slice a 0 c] w fun e w' => ∃ (x : Option Addr) (k : Nat), e = .returned (.slice x 0 k) ∧ (Rds fR 6 w' x k [] ∧ ∀ y, x = some y → w.heap.size ≤ y.block) ∧ Below w.heap.size w w' := by
  have m1 := make0
  have m2 := make0R
  go_enter Try.func39, Try.ntmps39
  go_wp2_with fail
  refine wp_loop_rounds 1 ?_
  rw [rounds_succ]
  go_wp2_with fail
  refine (sort_none _ _ _ _).mono ?_
  rintro e w2 ⟨rfl, rfl⟩
  go_wp2_with fail
  refine wp_loop_rounds 1 ?_
  rw [rounds_succ]
  go_wp2_with fail
  go_ret
  exact ⟨_, _, rfl, ⟨⟨Nat.le_refl _, by unfold maxLen; omega, by simp, fun h => (nomatch h), fun h => absurd rfl h⟩, fun y hy => by cases hy; simp⟩, below_step (below_new _ _) (below_new _ _)⟩
end
/-- Order, of at most so many rules -/
theorem order_any {N : Nat} (hN : SortsTo N) (hN2 : N ≤ 1000) (w : World) {a : Option Addr} {c : Nat} {l : List Rl} (R : Rds fR 6 w a c l) (hl : l.length ≤ N) :
    Calls Try.prog 39 #[.slice a l.length c] w fun e w' => ∃ (x : Option Addr) (k : Nat), e = .returned (.slice x (sortL l).length k) ∧ (Rds fR 6 w' x k (sortL l) ∧ ∀ y, x = some y → w.heap.size ≤ y.block) ∧ Below w.heap.size w w' := by
  have hlen : (sortL l).length = l.length := (sort_perm l).length_eq
  rw [hlen]
  cases l with
  | nil =>
    have e : sortL [] = [] := List.eq_nil_of_length_eq_zero (by rw [hlen]; rfl)
    rw [e]
    exact order_none w a c
  | cons r l =>
    refine (order_of (n := l.length) (hN _ hl) (by simp only [List.length_cons] at hl; omega) w R rfl (swo_cf _ _)).mono ?_
    rintro e w' ⟨x, k, he, d, hp, hs, hR, hb⟩
    rw [byNum_sorted rfl hp hs] at hR
    exact ⟨x, k, he, hR, hb⟩
end Go.Proofs.Ytnmijgnflemhkaa
