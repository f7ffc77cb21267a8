/- The list of the closures of package frame, and what 'first' makes of it: the error of the first one that says yes. -/
import Derived.Test.YtklcchmpmilcaaaDoorFrameWalks
namespace Go.Proofs.YtklcchmpmilcaaaDoor
open Go.ChangeShapes Go.WideShapes Go.ChangeAt Go.RowKit O
set_option linter.unusedVariables false
set_option linter.unusedSimpArgs false

/-- the closures, each with its error, lie in the block A -/
structure Listed (w : World) (A B T : Nat) : Prop where
  lt : A < w.heap.size
  f0 : w.cell? ⟨A, 0, none⟩ = some (.func (.func 43) #[] #[.pointer (some ⟨B, 0, none⟩)])
  e0 : w.cell? ⟨A, 1, none⟩ = some (.int .i64 3)
  f1 : w.cell? ⟨A, 2, none⟩ = some (.func (.func 45) #[] #[.pointer (some ⟨B, 0, none⟩)])
  e1 : w.cell? ⟨A, 3, none⟩ = some (.int .i64 2)
  f2 : w.cell? ⟨A, 4, none⟩ = some (.func (.func 46) #[] #[.pointer (some ⟨B, 0, none⟩), .pointer (some ⟨T, 0, none⟩)])
  e2 : w.cell? ⟨A, 5, none⟩ = some (.int .i64 3)
  f3 : w.cell? ⟨A, 6, none⟩ = some (.func (.func 47) #[] #[.pointer (some ⟨B, 0, none⟩), .pointer (some ⟨T, 0, none⟩)])
  e3 : w.cell? ⟨A, 7, none⟩ = some (.int .i64 2)
  f4 : w.cell? ⟨A, 8, none⟩ = some (.func (.func 48) #[] #[.pointer (some ⟨B, 0, none⟩)])
  e4 : w.cell? ⟨A, 9, none⟩ = some (.int .i64 4)
  f5 : w.cell? ⟨A, 10, none⟩ = some (.func (.func 49) #[] #[.pointer (some ⟨T, 0, none⟩), .pointer (some ⟨B, 0, none⟩)])
  e5 : w.cell? ⟨A, 11, none⟩ = some (.int .i64 2)
theorem Listed.later {w w' : World} {A B T : Nat} (L : Listed w A B T) (hb : Below w.heap.size w w') : Listed w' A B T :=
  ⟨Nat.lt_of_lt_of_le L.lt hb.size, (hb.cell (p := ⟨A, 0, none⟩) L.lt).trans L.f0, (hb.cell (p := ⟨A, 1, none⟩) L.lt).trans L.e0, (hb.cell (p := ⟨A, 2, none⟩) L.lt).trans L.f1, (hb.cell (p := ⟨A, 3, none⟩) L.lt).trans L.e1, (hb.cell (p := ⟨A, 4, none⟩) L.lt).trans L.f2, (hb.cell (p := ⟨A, 5, none⟩) L.lt).trans L.e2, (hb.cell (p := ⟨A, 6, none⟩) L.lt).trans L.f3, (hb.cell (p := ⟨A, 7, none⟩) L.lt).trans L.e3, (hb.cell (p := ⟨A, 8, none⟩) L.lt).trans L.f4, (hb.cell (p := ⟨A, 9, none⟩) L.lt).trans L.e4, (hb.cell (p := ⟨A, 10, none⟩) L.lt).trans L.f5, (hb.cell (p := ⟨A, 11, none⟩) L.lt).trans L.e5⟩
theorem new_cell (w : World) (l : List Value) (t : TypeId) {B : Nat} (hB : w.heap.size = B) (j : Nat) (v : Value) (h : l[j]? = some v) : (w.alloc (.cells l.toArray t)).cell? ⟨B, j, none⟩ = some v := by
  subst hB
  have := World.news_of_block (heap_alloc_new w (.cells l.toArray t)) j v (by simpa using h)
  rw [Addr.add_lit] at this
  simpa using this
theorem faults_any (w : World) (a : Option Addr) (n c : Nat) :
    Calls Tryd.prog 23 #[.slice a n c] w fun e w' => ∃ A B T, e = .returned (.slice (some ⟨A, 0, none⟩) 6 6) ∧ Listed w' A B T ∧ B < w'.heap.size ∧ T < w'.heap.size ∧ w'.cell? ⟨B, 0, none⟩ = some (.slice a n c) ∧ w'.cell? ⟨T, 0, none⟩ = some (.func (.func 42) #[] #[.pointer (some ⟨B, 0, none⟩)]) ∧ Below w.heap.size w w' := by
  have hmf : ∀ (fn : Fn) (first cap : Array Value) (w : World), (Instr.makeFunc fn first cap).run Tryd.prog w = .ok (.func fn first cap) w := fun _ _ _ _ => rfl
  have hsf := fun (a : Addr) (c : Array Value) (w : World) => run_store Tryd.prog w a (.func (.func 42) #[] c) .plain rfl
  go_enter Tryd.func23, Tryd.ntmps23
  go_wp2
  go_ret
  refine ⟨w.heap.size + 1 + 1, w.heap.size, w.heap.size + 1, rfl, ⟨by simp, ?_, ?_, ?_, ?_, ?_, ?_, ?_, ?_, ?_, ?_, ?_, ?_⟩, by simp; omega, by simp, ?_, ?_, ((below_new w _).alloc (by simp) _).alloc (by simp; omega) _⟩
  all_goals first
    | exact new_cell _ _ _ (by simp) _ _ rfl
    | exact (((below_new _ _).cell (p := ⟨w.heap.size + 1, 0, none⟩) (by simp)).trans (new_cell _ _ _ (by simp) _ _ rfl))
    | exact ((below_new _ _).cell (p := ⟨w.heap.size, 0, none⟩) (by simp; omega)).trans (((below_new _ _).cell (p := ⟨w.heap.size, 0, none⟩) (by simp)).trans (new_cell _ _ _ (by simp) _ _ rfl))
set_option maxHeartbeats 4000000 in
theorem first_0 (w : World) {A B T : Nat} (L : Listed w A B T) (k0 : ∀ w1, Below w.heap.size w w1 → Calls Tryd.prog 43 #[.pointer (some ⟨B, 0, none⟩)] w1 fun e w' => e = .returned (.bool true) ∧ Below w1.heap.size w1 w') :
    Calls Tryd.prog 22 #[.slice (some ⟨A, 0, none⟩) 6 6] w fun e w' => e = .returned (.int .i64 3) ∧ Below w.heap.size w w' := by
  have hB := Below.refl w.heap.size w
  have hsf := fun (f : Nat) (a : Addr) (c : Array Value) (w : World) => run_store Tryd.prog w a (.func (.func f) #[] c) .plain rfl
  go_enter Tryd.func22, Tryd.ntmps22
  go_wp2_with fail
  refine wp_loop_rounds 1 ?_
  have f0 := L.f0
  have e0 := L.e0
  rw [rounds_succ]
  go_wp2_with fail
  refine (k0 _ (below_step hB (below_new w _))).mono ?_
  rintro e w1 ⟨rfl, hb⟩
  have hn := below_new w (.cells ([.func (.func 43) #[] #[.pointer (some ⟨B, 0, none⟩)], .int .i64 3] : List Value).toArray 63)
  have g := (hb.cell (p := ⟨w.heap.size, 1, none⟩) (by simp)).trans (new_cell w [.func (.func 43) #[] #[.pointer (some ⟨B, 0, none⟩)], .int .i64 3] 63 rfl 1 _ rfl)
  replace hB := below_step (below_step hB hn) hb
  replace L := (L.later hn).later hb
  clear hb hn f0 e0
  go_wp2_with fail
  go_ret
  exact ⟨rfl, hB⟩
set_option maxHeartbeats 4000000 in
theorem first_1 (w : World) {A B T : Nat} (L : Listed w A B T) (k0 : ∀ w1, Below w.heap.size w w1 → Calls Tryd.prog 43 #[.pointer (some ⟨B, 0, none⟩)] w1 fun e w' => e = .returned (.bool false) ∧ Below w1.heap.size w1 w') (k1 : ∀ w1, Below w.heap.size w w1 → Calls Tryd.prog 45 #[.pointer (some ⟨B, 0, none⟩)] w1 fun e w' => e = .returned (.bool true) ∧ Below w1.heap.size w1 w') :
    Calls Tryd.prog 22 #[.slice (some ⟨A, 0, none⟩) 6 6] w fun e w' => e = .returned (.int .i64 2) ∧ Below w.heap.size w w' := by
  have hB := Below.refl w.heap.size w
  have hsf := fun (f : Nat) (a : Addr) (c : Array Value) (w : World) => run_store Tryd.prog w a (.func (.func f) #[] c) .plain rfl
  go_enter Tryd.func22, Tryd.ntmps22
  go_wp2_with fail
  refine wp_loop_rounds 2 ?_
  have f0 := L.f0
  have e0 := L.e0
  rw [rounds_succ]
  go_wp2_with fail
  refine (k0 _ (below_step hB (below_new w _))).mono ?_
  rintro e w1 ⟨rfl, hb⟩
  have hn := below_new w (.cells ([.func (.func 43) #[] #[.pointer (some ⟨B, 0, none⟩)], .int .i64 3] : List Value).toArray 63)
  replace hB := below_step (below_step hB hn) hb
  replace L := (L.later hn).later hb
  clear hb hn f0 e0
  go_wp2_with fail
  have f1 := L.f1
  have e1 := L.e1
  rw [rounds_succ]
  go_wp2_with fail
  refine (k1 _ (below_step hB (below_new w1 _))).mono ?_
  rintro e w2 ⟨rfl, hb⟩
  have hn := below_new w1 (.cells ([.func (.func 45) #[] #[.pointer (some ⟨B, 0, none⟩)], .int .i64 2] : List Value).toArray 63)
  have g := (hb.cell (p := ⟨w1.heap.size, 1, none⟩) (by simp)).trans (new_cell w1 [.func (.func 45) #[] #[.pointer (some ⟨B, 0, none⟩)], .int .i64 2] 63 rfl 1 _ rfl)
  replace hB := below_step (below_step hB hn) hb
  replace L := (L.later hn).later hb
  clear hb hn f1 e1
  go_wp2_with fail
  go_ret
  exact ⟨rfl, hB⟩
set_option maxHeartbeats 4000000 in
theorem first_2 (w : World) {A B T : Nat} (L : Listed w A B T) (k0 : ∀ w1, Below w.heap.size w w1 → Calls Tryd.prog 43 #[.pointer (some ⟨B, 0, none⟩)] w1 fun e w' => e = .returned (.bool false) ∧ Below w1.heap.size w1 w') (k1 : ∀ w1, Below w.heap.size w w1 → Calls Tryd.prog 45 #[.pointer (some ⟨B, 0, none⟩)] w1 fun e w' => e = .returned (.bool false) ∧ Below w1.heap.size w1 w') (k2 : ∀ w1, Below w.heap.size w w1 → Calls Tryd.prog 46 #[.pointer (some ⟨B, 0, none⟩), .pointer (some ⟨T, 0, none⟩)] w1 fun e w' => e = .returned (.bool true) ∧ Below w1.heap.size w1 w') :
    Calls Tryd.prog 22 #[.slice (some ⟨A, 0, none⟩) 6 6] w fun e w' => e = .returned (.int .i64 3) ∧ Below w.heap.size w w' := by
  have hB := Below.refl w.heap.size w
  have hsf := fun (f : Nat) (a : Addr) (c : Array Value) (w : World) => run_store Tryd.prog w a (.func (.func f) #[] c) .plain rfl
  go_enter Tryd.func22, Tryd.ntmps22
  go_wp2_with fail
  refine wp_loop_rounds 3 ?_
  have f0 := L.f0
  have e0 := L.e0
  rw [rounds_succ]
  go_wp2_with fail
  refine (k0 _ (below_step hB (below_new w _))).mono ?_
  rintro e w1 ⟨rfl, hb⟩
  have hn := below_new w (.cells ([.func (.func 43) #[] #[.pointer (some ⟨B, 0, none⟩)], .int .i64 3] : List Value).toArray 63)
  replace hB := below_step (below_step hB hn) hb
  replace L := (L.later hn).later hb
  clear hb hn f0 e0
  go_wp2_with fail
  have f1 := L.f1
  have e1 := L.e1
  rw [rounds_succ]
  go_wp2_with fail
  refine (k1 _ (below_step hB (below_new w1 _))).mono ?_
  rintro e w2 ⟨rfl, hb⟩
  have hn := below_new w1 (.cells ([.func (.func 45) #[] #[.pointer (some ⟨B, 0, none⟩)], .int .i64 2] : List Value).toArray 63)
  replace hB := below_step (below_step hB hn) hb
  replace L := (L.later hn).later hb
  clear hb hn f1 e1
  go_wp2_with fail
  have f2 := L.f2
  have e2 := L.e2
  rw [rounds_succ]
  go_wp2_with fail
  refine (k2 _ (below_step hB (below_new w2 _))).mono ?_
  rintro e w3 ⟨rfl, hb⟩
  have hn := below_new w2 (.cells ([.func (.func 46) #[] #[.pointer (some ⟨B, 0, none⟩), .pointer (some ⟨T, 0, none⟩)], .int .i64 3] : List Value).toArray 63)
  have g := (hb.cell (p := ⟨w2.heap.size, 1, none⟩) (by simp)).trans (new_cell w2 [.func (.func 46) #[] #[.pointer (some ⟨B, 0, none⟩), .pointer (some ⟨T, 0, none⟩)], .int .i64 3] 63 rfl 1 _ rfl)
  replace hB := below_step (below_step hB hn) hb
  replace L := (L.later hn).later hb
  clear hb hn f2 e2
  go_wp2_with fail
  go_ret
  exact ⟨rfl, hB⟩
set_option maxHeartbeats 4000000 in
theorem first_3 (w : World) {A B T : Nat} (L : Listed w A B T) (k0 : ∀ w1, Below w.heap.size w w1 → Calls Tryd.prog 43 #[.pointer (some ⟨B, 0, none⟩)] w1 fun e w' => e = .returned (.bool false) ∧ Below w1.heap.size w1 w') (k1 : ∀ w1, Below w.heap.size w w1 → Calls Tryd.prog 45 #[.pointer (some ⟨B, 0, none⟩)] w1 fun e w' => e = .returned (.bool false) ∧ Below w1.heap.size w1 w') (k2 : ∀ w1, Below w.heap.size w w1 → Calls Tryd.prog 46 #[.pointer (some ⟨B, 0, none⟩), .pointer (some ⟨T, 0, none⟩)] w1 fun e w' => e = .returned (.bool false) ∧ Below w1.heap.size w1 w') (k3 : ∀ w1, Below w.heap.size w w1 → Calls Tryd.prog 47 #[.pointer (some ⟨B, 0, none⟩), .pointer (some ⟨T, 0, none⟩)] w1 fun e w' => e = .returned (.bool true) ∧ Below w1.heap.size w1 w') :
    Calls Tryd.prog 22 #[.slice (some ⟨A, 0, none⟩) 6 6] w fun e w' => e = .returned (.int .i64 2) ∧ Below w.heap.size w w' := by
  have hB := Below.refl w.heap.size w
  have hsf := fun (f : Nat) (a : Addr) (c : Array Value) (w : World) => run_store Tryd.prog w a (.func (.func f) #[] c) .plain rfl
  go_enter Tryd.func22, Tryd.ntmps22
  go_wp2_with fail
  refine wp_loop_rounds 4 ?_
  have f0 := L.f0
  have e0 := L.e0
  rw [rounds_succ]
  go_wp2_with fail
  refine (k0 _ (below_step hB (below_new w _))).mono ?_
  rintro e w1 ⟨rfl, hb⟩
  have hn := below_new w (.cells ([.func (.func 43) #[] #[.pointer (some ⟨B, 0, none⟩)], .int .i64 3] : List Value).toArray 63)
  replace hB := below_step (below_step hB hn) hb
  replace L := (L.later hn).later hb
  clear hb hn f0 e0
  go_wp2_with fail
  have f1 := L.f1
  have e1 := L.e1
  rw [rounds_succ]
  go_wp2_with fail
  refine (k1 _ (below_step hB (below_new w1 _))).mono ?_
  rintro e w2 ⟨rfl, hb⟩
  have hn := below_new w1 (.cells ([.func (.func 45) #[] #[.pointer (some ⟨B, 0, none⟩)], .int .i64 2] : List Value).toArray 63)
  replace hB := below_step (below_step hB hn) hb
  replace L := (L.later hn).later hb
  clear hb hn f1 e1
  go_wp2_with fail
  have f2 := L.f2
  have e2 := L.e2
  rw [rounds_succ]
  go_wp2_with fail
  refine (k2 _ (below_step hB (below_new w2 _))).mono ?_
  rintro e w3 ⟨rfl, hb⟩
  have hn := below_new w2 (.cells ([.func (.func 46) #[] #[.pointer (some ⟨B, 0, none⟩), .pointer (some ⟨T, 0, none⟩)], .int .i64 3] : List Value).toArray 63)
  replace hB := below_step (below_step hB hn) hb
  replace L := (L.later hn).later hb
  clear hb hn f2 e2
  go_wp2_with fail
  have f3 := L.f3
  have e3 := L.e3
  rw [rounds_succ]
  go_wp2_with fail
  refine (k3 _ (below_step hB (below_new w3 _))).mono ?_
  rintro e w4 ⟨rfl, hb⟩
  have hn := below_new w3 (.cells ([.func (.func 47) #[] #[.pointer (some ⟨B, 0, none⟩), .pointer (some ⟨T, 0, none⟩)], .int .i64 2] : List Value).toArray 63)
  have g := (hb.cell (p := ⟨w3.heap.size, 1, none⟩) (by simp)).trans (new_cell w3 [.func (.func 47) #[] #[.pointer (some ⟨B, 0, none⟩), .pointer (some ⟨T, 0, none⟩)], .int .i64 2] 63 rfl 1 _ rfl)
  replace hB := below_step (below_step hB hn) hb
  replace L := (L.later hn).later hb
  clear hb hn f3 e3
  go_wp2_with fail
  go_ret
  exact ⟨rfl, hB⟩
set_option maxHeartbeats 4000000 in
theorem first_4 (w : World) {A B T : Nat} (L : Listed w A B T) (k0 : ∀ w1, Below w.heap.size w w1 → Calls Tryd.prog 43 #[.pointer (some ⟨B, 0, none⟩)] w1 fun e w' => e = .returned (.bool false) ∧ Below w1.heap.size w1 w') (k1 : ∀ w1, Below w.heap.size w w1 → Calls Tryd.prog 45 #[.pointer (some ⟨B, 0, none⟩)] w1 fun e w' => e = .returned (.bool false) ∧ Below w1.heap.size w1 w') (k2 : ∀ w1, Below w.heap.size w w1 → Calls Tryd.prog 46 #[.pointer (some ⟨B, 0, none⟩), .pointer (some ⟨T, 0, none⟩)] w1 fun e w' => e = .returned (.bool false) ∧ Below w1.heap.size w1 w') (k3 : ∀ w1, Below w.heap.size w w1 → Calls Tryd.prog 47 #[.pointer (some ⟨B, 0, none⟩), .pointer (some ⟨T, 0, none⟩)] w1 fun e w' => e = .returned (.bool false) ∧ Below w1.heap.size w1 w') (k4 : ∀ w1, Below w.heap.size w w1 → Calls Tryd.prog 48 #[.pointer (some ⟨B, 0, none⟩)] w1 fun e w' => e = .returned (.bool true) ∧ Below w1.heap.size w1 w') :
    Calls Tryd.prog 22 #[.slice (some ⟨A, 0, none⟩) 6 6] w fun e w' => e = .returned (.int .i64 4) ∧ Below w.heap.size w w' := by
  have hB := Below.refl w.heap.size w
  have hsf := fun (f : Nat) (a : Addr) (c : Array Value) (w : World) => run_store Tryd.prog w a (.func (.func f) #[] c) .plain rfl
  go_enter Tryd.func22, Tryd.ntmps22
  go_wp2_with fail
  refine wp_loop_rounds 5 ?_
  have f0 := L.f0
  have e0 := L.e0
  rw [rounds_succ]
  go_wp2_with fail
  refine (k0 _ (below_step hB (below_new w _))).mono ?_
  rintro e w1 ⟨rfl, hb⟩
  have hn := below_new w (.cells ([.func (.func 43) #[] #[.pointer (some ⟨B, 0, none⟩)], .int .i64 3] : List Value).toArray 63)
  replace hB := below_step (below_step hB hn) hb
  replace L := (L.later hn).later hb
  clear hb hn f0 e0
  go_wp2_with fail
  have f1 := L.f1
  have e1 := L.e1
  rw [rounds_succ]
  go_wp2_with fail
  refine (k1 _ (below_step hB (below_new w1 _))).mono ?_
  rintro e w2 ⟨rfl, hb⟩
  have hn := below_new w1 (.cells ([.func (.func 45) #[] #[.pointer (some ⟨B, 0, none⟩)], .int .i64 2] : List Value).toArray 63)
  replace hB := below_step (below_step hB hn) hb
  replace L := (L.later hn).later hb
  clear hb hn f1 e1
  go_wp2_with fail
  have f2 := L.f2
  have e2 := L.e2
  rw [rounds_succ]
  go_wp2_with fail
  refine (k2 _ (below_step hB (below_new w2 _))).mono ?_
  rintro e w3 ⟨rfl, hb⟩
  have hn := below_new w2 (.cells ([.func (.func 46) #[] #[.pointer (some ⟨B, 0, none⟩), .pointer (some ⟨T, 0, none⟩)], .int .i64 3] : List Value).toArray 63)
  replace hB := below_step (below_step hB hn) hb
  replace L := (L.later hn).later hb
  clear hb hn f2 e2
  go_wp2_with fail
  have f3 := L.f3
  have e3 := L.e3
  rw [rounds_succ]
  go_wp2_with fail
  refine (k3 _ (below_step hB (below_new w3 _))).mono ?_
  rintro e w4 ⟨rfl, hb⟩
  have hn := below_new w3 (.cells ([.func (.func 47) #[] #[.pointer (some ⟨B, 0, none⟩), .pointer (some ⟨T, 0, none⟩)], .int .i64 2] : List Value).toArray 63)
  replace hB := below_step (below_step hB hn) hb
  replace L := (L.later hn).later hb
  clear hb hn f3 e3
  go_wp2_with fail
  have f4 := L.f4
  have e4 := L.e4
  rw [rounds_succ]
  go_wp2_with fail
  refine (k4 _ (below_step hB (below_new w4 _))).mono ?_
  rintro e w5 ⟨rfl, hb⟩
  have hn := below_new w4 (.cells ([.func (.func 48) #[] #[.pointer (some ⟨B, 0, none⟩)], .int .i64 4] : List Value).toArray 63)
  have g := (hb.cell (p := ⟨w4.heap.size, 1, none⟩) (by simp)).trans (new_cell w4 [.func (.func 48) #[] #[.pointer (some ⟨B, 0, none⟩)], .int .i64 4] 63 rfl 1 _ rfl)
  replace hB := below_step (below_step hB hn) hb
  replace L := (L.later hn).later hb
  clear hb hn f4 e4
  go_wp2_with fail
  go_ret
  exact ⟨rfl, hB⟩
set_option maxHeartbeats 4000000 in
theorem first_5 (w : World) {A B T : Nat} (L : Listed w A B T) (k0 : ∀ w1, Below w.heap.size w w1 → Calls Tryd.prog 43 #[.pointer (some ⟨B, 0, none⟩)] w1 fun e w' => e = .returned (.bool false) ∧ Below w1.heap.size w1 w') (k1 : ∀ w1, Below w.heap.size w w1 → Calls Tryd.prog 45 #[.pointer (some ⟨B, 0, none⟩)] w1 fun e w' => e = .returned (.bool false) ∧ Below w1.heap.size w1 w') (k2 : ∀ w1, Below w.heap.size w w1 → Calls Tryd.prog 46 #[.pointer (some ⟨B, 0, none⟩), .pointer (some ⟨T, 0, none⟩)] w1 fun e w' => e = .returned (.bool false) ∧ Below w1.heap.size w1 w') (k3 : ∀ w1, Below w.heap.size w w1 → Calls Tryd.prog 47 #[.pointer (some ⟨B, 0, none⟩), .pointer (some ⟨T, 0, none⟩)] w1 fun e w' => e = .returned (.bool false) ∧ Below w1.heap.size w1 w') (k4 : ∀ w1, Below w.heap.size w w1 → Calls Tryd.prog 48 #[.pointer (some ⟨B, 0, none⟩)] w1 fun e w' => e = .returned (.bool false) ∧ Below w1.heap.size w1 w') (k5 : ∀ w1, Below w.heap.size w w1 → Calls Tryd.prog 49 #[.pointer (some ⟨T, 0, none⟩), .pointer (some ⟨B, 0, none⟩)] w1 fun e w' => e = .returned (.bool true) ∧ Below w1.heap.size w1 w') :
    Calls Tryd.prog 22 #[.slice (some ⟨A, 0, none⟩) 6 6] w fun e w' => e = .returned (.int .i64 2) ∧ Below w.heap.size w w' := by
  have hB := Below.refl w.heap.size w
  have hsf := fun (f : Nat) (a : Addr) (c : Array Value) (w : World) => run_store Tryd.prog w a (.func (.func f) #[] c) .plain rfl
  go_enter Tryd.func22, Tryd.ntmps22
  go_wp2_with fail
  refine wp_loop_rounds 6 ?_
  have f0 := L.f0
  have e0 := L.e0
  rw [rounds_succ]
  go_wp2_with fail
  refine (k0 _ (below_step hB (below_new w _))).mono ?_
  rintro e w1 ⟨rfl, hb⟩
  have hn := below_new w (.cells ([.func (.func 43) #[] #[.pointer (some ⟨B, 0, none⟩)], .int .i64 3] : List Value).toArray 63)
  replace hB := below_step (below_step hB hn) hb
  replace L := (L.later hn).later hb
  clear hb hn f0 e0
  go_wp2_with fail
  have f1 := L.f1
  have e1 := L.e1
  rw [rounds_succ]
  go_wp2_with fail
  refine (k1 _ (below_step hB (below_new w1 _))).mono ?_
  rintro e w2 ⟨rfl, hb⟩
  have hn := below_new w1 (.cells ([.func (.func 45) #[] #[.pointer (some ⟨B, 0, none⟩)], .int .i64 2] : List Value).toArray 63)
  replace hB := below_step (below_step hB hn) hb
  replace L := (L.later hn).later hb
  clear hb hn f1 e1
  go_wp2_with fail
  have f2 := L.f2
  have e2 := L.e2
  rw [rounds_succ]
  go_wp2_with fail
  refine (k2 _ (below_step hB (below_new w2 _))).mono ?_
  rintro e w3 ⟨rfl, hb⟩
  have hn := below_new w2 (.cells ([.func (.func 46) #[] #[.pointer (some ⟨B, 0, none⟩), .pointer (some ⟨T, 0, none⟩)], .int .i64 3] : List Value).toArray 63)
  replace hB := below_step (below_step hB hn) hb
  replace L := (L.later hn).later hb
  clear hb hn f2 e2
  go_wp2_with fail
  have f3 := L.f3
  have e3 := L.e3
  rw [rounds_succ]
  go_wp2_with fail
  refine (k3 _ (below_step hB (below_new w3 _))).mono ?_
  rintro e w4 ⟨rfl, hb⟩
  have hn := below_new w3 (.cells ([.func (.func 47) #[] #[.pointer (some ⟨B, 0, none⟩), .pointer (some ⟨T, 0, none⟩)], .int .i64 2] : List Value).toArray 63)
  replace hB := below_step (below_step hB hn) hb
  replace L := (L.later hn).later hb
  clear hb hn f3 e3
  go_wp2_with fail
  have f4 := L.f4
  have e4 := L.e4
  rw [rounds_succ]
  go_wp2_with fail
  refine (k4 _ (below_step hB (below_new w4 _))).mono ?_
  rintro e w5 ⟨rfl, hb⟩
  have hn := below_new w4 (.cells ([.func (.func 48) #[] #[.pointer (some ⟨B, 0, none⟩)], .int .i64 4] : List Value).toArray 63)
  replace hB := below_step (below_step hB hn) hb
  replace L := (L.later hn).later hb
  clear hb hn f4 e4
  go_wp2_with fail
  have f5 := L.f5
  have e5 := L.e5
  rw [rounds_succ]
  go_wp2_with fail
  refine (k5 _ (below_step hB (below_new w5 _))).mono ?_
  rintro e w6 ⟨rfl, hb⟩
  have hn := below_new w5 (.cells ([.func (.func 49) #[] #[.pointer (some ⟨T, 0, none⟩), .pointer (some ⟨B, 0, none⟩)], .int .i64 2] : List Value).toArray 63)
  have g := (hb.cell (p := ⟨w5.heap.size, 1, none⟩) (by simp)).trans (new_cell w5 [.func (.func 49) #[] #[.pointer (some ⟨T, 0, none⟩), .pointer (some ⟨B, 0, none⟩)], .int .i64 2] 63 rfl 1 _ rfl)
  replace hB := below_step (below_step hB hn) hb
  replace L := (L.later hn).later hb
  clear hb hn f5 e5
  go_wp2_with fail
  go_ret
  exact ⟨rfl, hB⟩
set_option maxHeartbeats 4000000 in
theorem first_6 (w : World) {A B T : Nat} (L : Listed w A B T) (k0 : ∀ w1, Below w.heap.size w w1 → Calls Tryd.prog 43 #[.pointer (some ⟨B, 0, none⟩)] w1 fun e w' => e = .returned (.bool false) ∧ Below w1.heap.size w1 w') (k1 : ∀ w1, Below w.heap.size w w1 → Calls Tryd.prog 45 #[.pointer (some ⟨B, 0, none⟩)] w1 fun e w' => e = .returned (.bool false) ∧ Below w1.heap.size w1 w') (k2 : ∀ w1, Below w.heap.size w w1 → Calls Tryd.prog 46 #[.pointer (some ⟨B, 0, none⟩), .pointer (some ⟨T, 0, none⟩)] w1 fun e w' => e = .returned (.bool false) ∧ Below w1.heap.size w1 w') (k3 : ∀ w1, Below w.heap.size w w1 → Calls Tryd.prog 47 #[.pointer (some ⟨B, 0, none⟩), .pointer (some ⟨T, 0, none⟩)] w1 fun e w' => e = .returned (.bool false) ∧ Below w1.heap.size w1 w') (k4 : ∀ w1, Below w.heap.size w w1 → Calls Tryd.prog 48 #[.pointer (some ⟨B, 0, none⟩)] w1 fun e w' => e = .returned (.bool false) ∧ Below w1.heap.size w1 w') (k5 : ∀ w1, Below w.heap.size w w1 → Calls Tryd.prog 49 #[.pointer (some ⟨T, 0, none⟩), .pointer (some ⟨B, 0, none⟩)] w1 fun e w' => e = .returned (.bool false) ∧ Below w1.heap.size w1 w') :
    Calls Tryd.prog 22 #[.slice (some ⟨A, 0, none⟩) 6 6] w fun e w' => e = .returned (.int .i64 0) ∧ Below w.heap.size w w' := by
  have hB := Below.refl w.heap.size w
  have hsf := fun (f : Nat) (a : Addr) (c : Array Value) (w : World) => run_store Tryd.prog w a (.func (.func f) #[] c) .plain rfl
  go_enter Tryd.func22, Tryd.ntmps22
  go_wp2_with fail
  refine wp_loop_rounds 7 ?_
  have f0 := L.f0
  have e0 := L.e0
  rw [rounds_succ]
  go_wp2_with fail
  refine (k0 _ (below_step hB (below_new w _))).mono ?_
  rintro e w1 ⟨rfl, hb⟩
  have hn := below_new w (.cells ([.func (.func 43) #[] #[.pointer (some ⟨B, 0, none⟩)], .int .i64 3] : List Value).toArray 63)
  replace hB := below_step (below_step hB hn) hb
  replace L := (L.later hn).later hb
  clear hb hn f0 e0
  go_wp2_with fail
  have f1 := L.f1
  have e1 := L.e1
  rw [rounds_succ]
  go_wp2_with fail
  refine (k1 _ (below_step hB (below_new w1 _))).mono ?_
  rintro e w2 ⟨rfl, hb⟩
  have hn := below_new w1 (.cells ([.func (.func 45) #[] #[.pointer (some ⟨B, 0, none⟩)], .int .i64 2] : List Value).toArray 63)
  replace hB := below_step (below_step hB hn) hb
  replace L := (L.later hn).later hb
  clear hb hn f1 e1
  go_wp2_with fail
  have f2 := L.f2
  have e2 := L.e2
  rw [rounds_succ]
  go_wp2_with fail
  refine (k2 _ (below_step hB (below_new w2 _))).mono ?_
  rintro e w3 ⟨rfl, hb⟩
  have hn := below_new w2 (.cells ([.func (.func 46) #[] #[.pointer (some ⟨B, 0, none⟩), .pointer (some ⟨T, 0, none⟩)], .int .i64 3] : List Value).toArray 63)
  replace hB := below_step (below_step hB hn) hb
  replace L := (L.later hn).later hb
  clear hb hn f2 e2
  go_wp2_with fail
  have f3 := L.f3
  have e3 := L.e3
  rw [rounds_succ]
  go_wp2_with fail
  refine (k3 _ (below_step hB (below_new w3 _))).mono ?_
  rintro e w4 ⟨rfl, hb⟩
  have hn := below_new w3 (.cells ([.func (.func 47) #[] #[.pointer (some ⟨B, 0, none⟩), .pointer (some ⟨T, 0, none⟩)], .int .i64 2] : List Value).toArray 63)
  replace hB := below_step (below_step hB hn) hb
  replace L := (L.later hn).later hb
  clear hb hn f3 e3
  go_wp2_with fail
  have f4 := L.f4
  have e4 := L.e4
  rw [rounds_succ]
  go_wp2_with fail
  refine (k4 _ (below_step hB (below_new w4 _))).mono ?_
  rintro e w5 ⟨rfl, hb⟩
  have hn := below_new w4 (.cells ([.func (.func 48) #[] #[.pointer (some ⟨B, 0, none⟩)], .int .i64 4] : List Value).toArray 63)
  replace hB := below_step (below_step hB hn) hb
  replace L := (L.later hn).later hb
  clear hb hn f4 e4
  go_wp2_with fail
  have f5 := L.f5
  have e5 := L.e5
  rw [rounds_succ]
  go_wp2_with fail
  refine (k5 _ (below_step hB (below_new w5 _))).mono ?_
  rintro e w6 ⟨rfl, hb⟩
  have hn := below_new w5 (.cells ([.func (.func 49) #[] #[.pointer (some ⟨T, 0, none⟩), .pointer (some ⟨B, 0, none⟩)], .int .i64 2] : List Value).toArray 63)
  replace hB := below_step (below_step hB hn) hb
  replace L := (L.later hn).later hb
  clear hb hn f5 e5
  go_wp2_with fail
  rw [rounds_succ]
  go_wp2_with fail
  go_ret
  exact ⟨rfl, hB⟩
end Go.Proofs.YtklcchmpmilcaaaDoor
