/- What the statements on package conf ask of its functions, as one structure: whatever the code is, it is to be shown of it. And that the chapter's example holds. -/
import Derived.Test.YtnmijgnflemhkaaConfPlain
import Derived.Test.YtnmijgnflemhkaaTopMay
namespace Go.Proofs.Ytnmijgnflemhkaa
open Go.ChangeShapes Go.WideShapes Go.ChangeAt Go.RowKit Pk Cf R
set_option linter.unusedVariables false
set_option linter.unusedSimpArgs false

structure CCode : Prop where
  may : ∀ (s n : Int) {x a : Option Addr} {c k : Nat} {l : List Tp.Lk} {L : Cnf} (w : World), Rds Tp.fK 4 w x c l → Lists w a k L →
    Calls Try.prog 16 #[.agg #[.int .i64 s, .int .i64 n, .slice x l.length c], .slice a L.length k] w fun e w' => e = .returned (.bool (mayC s n l L)) ∧ Below w.heap.size w w'
  most : ∀ {a : Option Addr} {k : Nat} {L : Cnf} (w : World), Lists w a k L → (∀ l ∈ L, l.length ≤ 60) →
    Calls Try.prog 18 #[.slice a L.length k] w fun e w' => e = .returned (.int .i64 (mostC L : Nat)) ∧ Below w.heap.size w w'
  at' : ∀ {a : Option Addr} {k : Nat} {L : Cnf} (w : World), Lists w a k L → (∀ l ∈ L, l.length ≤ 60) → ∀ sw : Int,
    Calls Try.prog 14 #[.slice a L.length k, .int .i64 sw] w fun e w' => ∃ (x : Option Addr) (m : Nat), e = .returned (.slice x (atC L sw).length m) ∧ Rds fR 6 w' x m (atC L sw) ∧ (∀ y, x = some y → atC L sw ≠ [] → w.heap.size ≤ y.block ∧ ∀ j, w'.frozen? ⟨y.block, j, none⟩ = false) ∧ Below w.heap.size w w'
  same : ∀ {a a2 : Option Addr} {k k2 : Nat} {A B : Cnf} (w : World), Lists w a k A → Lists w a2 k2 B → (∀ l ∈ A, l.length ≤ 60) → (∀ l ∈ B, l.length ≤ 60) →
    Calls Try.prog 17 #[.slice a A.length k, .slice a2 B.length k2] w fun e w' => e = .returned (.bool (sameC A B)) ∧ Below w.heap.size w w'
theorem box3f (w : World) (u v x : Value) (t : TypeId) (j : Nat) : (w.alloc (.cells #[u, v, x] t)).frozen? ⟨w.heap.size, j, none⟩ = false := by unfold World.frozen?; rw [heap_alloc_new]; simp
/-- a conf of one list, just laid -/
theorem lists_one (W : World) {x : Option Addr} {n k : Nat} {l : List Rl} (R : Rds fR 6 W x k l) (hn : n = l.length) (t : TypeId) {B : Nat} (hB : W.heap.size = B) : Lists (W.alloc (.cells #[.slice x n k] t)) (some ⟨B, 0, none⟩) 1 [l] :=
  ⟨[⟨x, n, k⟩], rdv_new fS_len W ⟨x, n, k⟩ t hB, .cons ⟨hn, R.later (below_new _ _), fun _ _ _ e => by cases e⟩ .nil⟩
theorem sort_one (x : Rl) : sortL [x] = [x] := List.perm_singleton.1 (sort_perm [x])
def exA : Rl := ⟨0, 0, -1, 0, 1, 1⟩
def exB : Rl := ⟨0, 0, -1, 0, 1, 2⟩
theorem exC_a : mayC 1 2 [] [[exA]] = true := by decide +kernel
theorem exC_b : mayC 1 2 [] [[exB]] = false := by decide +kernel
theorem exC_m : mostC [[exA]] = 1 := by decide +kernel
theorem exC_s : sameC [[exA]] [[exA]] = true := same_refl _
theorem exC_t : sameC [[exA]] [[exB]] = false := by
  unfold sameC
  rw [List.map_cons, List.map_cons, sort_one, sort_one]
  decide +kernel
theorem exA_wf : ∀ z ∈ fR exA, (Lit.int .i64 z).wf = true := by intro z hz; simp only [fR, exA, List.mem_cons, List.not_mem_nil, or_false] at hz; rcases hz with rfl | rfl | rfl | rfl | rfl | rfl <;> decide
theorem exB_wf : ∀ z ∈ fR exB, (Lit.int .i64 z).wf = true := by intro z hz; simp only [fR, exB, List.mem_cons, List.not_mem_nil, or_false] at hz; rcases hz with rfl | rfl | rfl | rfl | rfl | rfl <;> decide
set_option maxRecDepth 100000 in
set_option maxHeartbeats 4000000 in
theorem cawake_any (C : CCode) (w : World) : Calls Try.prog 9 #[] w fun e w' => e = .returned (.bool true) ∧ Below w.heap.size w w' := by
  obtain ⟨t0, t1, t2⟩ := box3 w (.int .i64 1) (.int .i64 2) (.slice none 0 0) 24
  have hB := below_new w (.cells #[.int .i64 1, .int .i64 2, .slice none 0 0] 24)
  have hBT : w.heap.size < (w.alloc (.cells #[.int .i64 1, .int .i64 2, .slice none 0 0] 24)).heap.size := by simp
  have hb1 := below_new (w.alloc (.cells #[.int .i64 1, .int .i64 2, .slice none 0 0] 24)) (.cells #[.int .i64 0, .int .i64 0, .int .i64 (-1), .int .i64 0, .int .i64 1, .int .i64 1] 42)
  have RA : Rds fR 6 ((w.alloc (.cells #[.int .i64 1, .int .i64 2, .slice none 0 0] 24)).alloc (.cells #[.int .i64 0, .int .i64 0, .int .i64 (-1), .int .i64 0, .int .i64 1, .int .i64 1] 42)) (some ⟨w.heap.size + 1, 0, none⟩) 1 [exA] := rds_new fR_len (w.alloc (.cells #[.int .i64 1, .int .i64 2, .slice none 0 0] 24)) exA 42 exA_wf (by simp)
  have hb2 := below_new ((w.alloc (.cells #[.int .i64 1, .int .i64 2, .slice none 0 0] 24)).alloc (.cells #[.int .i64 0, .int .i64 0, .int .i64 (-1), .int .i64 0, .int .i64 1, .int .i64 1] 42)) (.cells #[.slice (some ⟨w.heap.size + 1, 0, none⟩) 1 1] 32)
  have VA : Lists (((w.alloc (.cells #[.int .i64 1, .int .i64 2, .slice none 0 0] 24)).alloc (.cells #[.int .i64 0, .int .i64 0, .int .i64 (-1), .int .i64 0, .int .i64 1, .int .i64 1] 42)).alloc (.cells #[.slice (some ⟨w.heap.size + 1, 0, none⟩) 1 1] 32)) (some ⟨w.heap.size + 1 + 1, 0, none⟩) 1 [[exA]] := lists_one ((w.alloc (.cells #[.int .i64 1, .int .i64 2, .slice none 0 0] 24)).alloc (.cells #[.int .i64 0, .int .i64 0, .int .i64 (-1), .int .i64 0, .int .i64 1, .int .i64 1] 42)) RA rfl 32 (by simp)
  have hb3 := below_new (((w.alloc (.cells #[.int .i64 1, .int .i64 2, .slice none 0 0] 24)).alloc (.cells #[.int .i64 0, .int .i64 0, .int .i64 (-1), .int .i64 0, .int .i64 1, .int .i64 1] 42)).alloc (.cells #[.slice (some ⟨w.heap.size + 1, 0, none⟩) 1 1] 32)) (.cells #[.int .i64 0, .int .i64 0, .int .i64 (-1), .int .i64 0, .int .i64 1, .int .i64 2] 42)
  have RB : Rds fR 6 ((((w.alloc (.cells #[.int .i64 1, .int .i64 2, .slice none 0 0] 24)).alloc (.cells #[.int .i64 0, .int .i64 0, .int .i64 (-1), .int .i64 0, .int .i64 1, .int .i64 1] 42)).alloc (.cells #[.slice (some ⟨w.heap.size + 1, 0, none⟩) 1 1] 32)).alloc (.cells #[.int .i64 0, .int .i64 0, .int .i64 (-1), .int .i64 0, .int .i64 1, .int .i64 2] 42)) (some ⟨w.heap.size + 1 + 1 + 1, 0, none⟩) 1 [exB] := rds_new fR_len (((w.alloc (.cells #[.int .i64 1, .int .i64 2, .slice none 0 0] 24)).alloc (.cells #[.int .i64 0, .int .i64 0, .int .i64 (-1), .int .i64 0, .int .i64 1, .int .i64 1] 42)).alloc (.cells #[.slice (some ⟨w.heap.size + 1, 0, none⟩) 1 1] 32)) exB 42 exB_wf (by simp)
  have hb4 := below_new ((((w.alloc (.cells #[.int .i64 1, .int .i64 2, .slice none 0 0] 24)).alloc (.cells #[.int .i64 0, .int .i64 0, .int .i64 (-1), .int .i64 0, .int .i64 1, .int .i64 1] 42)).alloc (.cells #[.slice (some ⟨w.heap.size + 1, 0, none⟩) 1 1] 32)).alloc (.cells #[.int .i64 0, .int .i64 0, .int .i64 (-1), .int .i64 0, .int .i64 1, .int .i64 2] 42)) (.cells #[.slice (some ⟨w.heap.size + 1 + 1 + 1, 0, none⟩) 1 1] 32)
  have VB : Lists (((((w.alloc (.cells #[.int .i64 1, .int .i64 2, .slice none 0 0] 24)).alloc (.cells #[.int .i64 0, .int .i64 0, .int .i64 (-1), .int .i64 0, .int .i64 1, .int .i64 1] 42)).alloc (.cells #[.slice (some ⟨w.heap.size + 1, 0, none⟩) 1 1] 32)).alloc (.cells #[.int .i64 0, .int .i64 0, .int .i64 (-1), .int .i64 0, .int .i64 1, .int .i64 2] 42)).alloc (.cells #[.slice (some ⟨w.heap.size + 1 + 1 + 1, 0, none⟩) 1 1] 32)) (some ⟨w.heap.size + 1 + 1 + 1 + 1, 0, none⟩) 1 [[exB]] := lists_one ((((w.alloc (.cells #[.int .i64 1, .int .i64 2, .slice none 0 0] 24)).alloc (.cells #[.int .i64 0, .int .i64 0, .int .i64 (-1), .int .i64 0, .int .i64 1, .int .i64 1] 42)).alloc (.cells #[.slice (some ⟨w.heap.size + 1, 0, none⟩) 1 1] 32)).alloc (.cells #[.int .i64 0, .int .i64 0, .int .i64 (-1), .int .i64 0, .int .i64 1, .int .i64 2] 42)) RB rfl 32 (by simp)
  replace VA := (VA.later hb3).later hb4
  have hb : Below (w.alloc (.cells #[.int .i64 1, .int .i64 2, .slice none 0 0] 24)).heap.size (w.alloc (.cells #[.int .i64 1, .int .i64 2, .slice none 0 0] 24)) (((((w.alloc (.cells #[.int .i64 1, .int .i64 2, .slice none 0 0] 24)).alloc (.cells #[.int .i64 0, .int .i64 0, .int .i64 (-1), .int .i64 0, .int .i64 1, .int .i64 1] 42)).alloc (.cells #[.slice (some ⟨w.heap.size + 1, 0, none⟩) 1 1] 32)).alloc (.cells #[.int .i64 0, .int .i64 0, .int .i64 (-1), .int .i64 0, .int .i64 1, .int .i64 2] 42)).alloc (.cells #[.slice (some ⟨w.heap.size + 1 + 1 + 1, 0, none⟩) 1 1] 32)) := below_step (below_step (below_step hb1 hb2) hb3) hb4
  clear RA RB hb1 hb2 hb3 hb4
  replace t0 := (hb.cell (p := ⟨w.heap.size, 0, none⟩) hBT).trans t0
  replace t1 := (hb.cell (p := ⟨w.heap.size, 1, none⟩) hBT).trans t1
  replace t2 := (hb.cell (p := ⟨w.heap.size, 2, none⟩) hBT).trans t2
  replace hBT := Nat.lt_of_lt_of_le hBT hb.size
  replace hB := below_step hB hb
  clear hb
  generalize hA : (some ⟨w.heap.size + 1 + 1, 0, none⟩ : Option Addr) = pa at VA
  generalize hPB : (some ⟨w.heap.size + 1 + 1 + 1 + 1, 0, none⟩ : Option Addr) = pb at VB
  have c1 : ∀ u, Lists u pa 1 [[exA]] → Calls Try.prog 16 #[.agg #[.int .i64 1, .int .i64 2, .slice none 0 0], .slice pa 1 1] u fun e w' => e = .returned (.bool true) ∧ Below u.heap.size u w' := fun u V => by
    have h := C.may 1 2 u (Rds.none Tp.fK 4 u) V
    rw [exC_a] at h
    exact h
  have c2 : ∀ u, Lists u pb 1 [[exB]] → Calls Try.prog 16 #[.agg #[.int .i64 1, .int .i64 2, .slice none 0 0], .slice pb 1 1] u fun e w' => e = .returned (.bool false) ∧ Below u.heap.size u w' := fun u V => by
    have h := C.may 1 2 u (Rds.none Tp.fK 4 u) V
    rw [exC_b] at h
    exact h
  have c3 : ∀ u, Lists u pa 1 [[exA]] → Calls Try.prog 18 #[.slice pa 1 1] u fun e w' => e = .returned (.int .i64 1) ∧ Below u.heap.size u w' := fun u V => by
    have h := C.most u V (by decide)
    rw [exC_m] at h
    exact h
  have c4 : ∀ u, Lists u pa 1 [[exA]] → Calls Try.prog 17 #[.slice pa 1 1, .slice pa 1 1] u fun e w' => e = .returned (.bool true) ∧ Below u.heap.size u w' := fun u V => by
    have h := C.same u V V (by decide) (by decide)
    rw [exC_s] at h
    exact h
  have c5 : ∀ u, Lists u pa 1 [[exA]] → Lists u pb 1 [[exB]] → Calls Try.prog 17 #[.slice pa 1 1, .slice pb 1 1] u fun e w' => e = .returned (.bool false) ∧ Below u.heap.size u w' := fun u V V2 => by
    have h := C.same u V V2 (by decide) (by decide)
    rw [exC_t] at h
    exact h
  subst hA hPB
  go_enter Try.func9, Try.ntmps9
  go_wp2_with fail
  refine (c1 _ VA).mono ?_
  rintro e v1 ⟨rfl, hb⟩
  clear c1
  replace t0 := (hb.cell (p := ⟨w.heap.size, 0, none⟩) hBT).trans t0
  replace t1 := (hb.cell (p := ⟨w.heap.size, 1, none⟩) hBT).trans t1
  replace t2 := (hb.cell (p := ⟨w.heap.size, 2, none⟩) hBT).trans t2
  replace VA := VA.later hb
  replace VB := VB.later hb
  replace hB := below_step hB hb
  clear hb
  go_wp2_with fail
  refine (c2 _ VB).mono ?_
  rintro e v2 ⟨rfl, hb⟩
  replace VA := VA.later hb
  replace VB := VB.later hb
  replace hB := below_step hB hb
  clear hb c2 t0 t1 t2
  go_wp2_with fail
  refine (c3 _ VA).mono ?_
  rintro e v3 ⟨rfl, hb⟩
  replace VA := VA.later hb
  replace VB := VB.later hb
  replace hB := below_step hB hb
  clear hb c3
  go_wp2_with fail
  refine (c4 _ VA).mono ?_
  rintro e v4 ⟨rfl, hb⟩
  replace VA := VA.later hb
  replace VB := VB.later hb
  replace hB := below_step hB hb
  clear hb c4
  go_wp2_with fail
  refine (c5 _ VA VB).mono ?_
  rintro e v5 ⟨rfl, hb⟩
  replace hB := below_step hB hb
  clear hb c5
  go_wp2_with fail
  go_ret
  exact ⟨rfl, hB⟩
end Go.Proofs.Ytnmijgnflemhkaa
