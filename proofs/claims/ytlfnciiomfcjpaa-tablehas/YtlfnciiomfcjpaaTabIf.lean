/- What the statements on package table ask of its functions, as one structure: whatever the code is, it is to be shown of it. -/
import Derived.Test.YtlfnciiomfcjpaaTabLook
import Derived.Test.YtlfnciiomfcjpaaTabPut3
import Derived.Test.YtlfnciiomfcjpaaTabOpen
namespace Go.Proofs.Ytlfnciiomfcjpaa
open Go.ChangeShapes Go.WideShapes Go.ChangeAt Go.RowKit Pk Tb R
set_option linter.unusedVariables false
set_option linter.unusedSimpArgs false

structure TCode : Prop where
  size : ∀ {B : Nat} {a : Option Addr} {c : Nat} {l : List Vr} (w : World), Vers B w a c l → Sm l →
    Calls Try.prog 20 #[.slice a l.length c] w fun e w' => e = .returned (.int .i64 ((sizeT l : Nat) : Int)) ∧ Below w.heap.size w w'
  of : ∀ {B : Nat} {a : Option Addr} {c : Nat} {l : List Vr} (w : World), Vers B w a c l → Sm l → ∀ t : Int,
    Calls Try.prog 17 #[.slice a l.length c, .int .i64 t] w fun e w' => ∃ (x : Option Addr) (k : Nat), e = .returned (.tuple #[.slice x ((ofT l t).getD []).length k, .bool (ofT l t).isSome]) ∧ Rds fR 6 w' x k ((ofT l t).getD []) ∧ Below w.heap.size w w'
  putL : ∀ {B : Nat} {a : Option Addr} {c : Nat} {l : List Vr} (w : World), Vers B w a c l → Sm l → ∀ t m ra rn ri rp rk rt : Int, (∀ z ∈ fR ⟨ra, rn, ri, rp, rk, rt⟩, (Lit.int .i64 z).wf = true) →
    Calls Try.prog 12 #[.slice a l.length c, .int .i64 t, .agg #[.int .i64 ra, .int .i64 rn, .int .i64 ri, .int .i64 rp, .int .i64 rk, .int .i64 rt], .int .i64 m] w fun e w' => ∃ (x : Option Addr) (k : Nat), e = .returned (.tuple #[.slice x (putT l t ⟨ra, rn, ri, rp, rk, rt⟩ m).1.length k, .int .i64 (putT l t ⟨ra, rn, ri, rp, rk, rt⟩ m).2]) ∧ Vers w.heap.size w' x k (putT l t ⟨ra, rn, ri, rp, rk, rt⟩ m).1 ∧ Loose w' x (putT l t ⟨ra, rn, ri, rp, rk, rt⟩ m).1 ∧ Below w.heap.size w w'
  dropL : ∀ {B : Nat} {a : Option Addr} {c : Nat} {l : List Vr} (w : World), Vers B w a c l → Sm l → ∀ t : Int,
    Calls Try.prog 15 #[.slice a l.length c, .int .i64 t] w fun e w' => ∃ (x : Option Addr) (k : Nat), e = .returned (.slice x (dropT l t).length k) ∧ Vers w.heap.size w' x k (dropT l t) ∧ Loose w' x (dropT l t) ∧ Below w.heap.size w w'
  look : ∀ {B : Nat} {a : Option Addr} {c : Nat} {l : List Vr} (w : World), Vers B w a c l → Sm l → ∀ t x d : Int,
    Calls Try.prog 22 #[.slice a l.length c, .int .i64 t, .int .i64 x, .int .i64 d] w fun e w' => e = .returned (.tuple #[.agg #[.int .i64 (lookT l t x d).1.1, .int .i64 (lookT l t x d).1.2], .int .i64 (lookT l t x d).2]) ∧ Below w.heap.size w w'
theorem TCode.put (C : TCode) {B : Nat} {a : Option Addr} {c : Nat} {l : List Vr} (w : World) (V : Vers B w a c l) (hs : Sm l) (t m ra rn ri rp rk rt : Int) (hw : ∀ z ∈ fR ⟨ra, rn, ri, rp, rk, rt⟩, (Lit.int .i64 z).wf = true) :
    Calls Try.prog 12 #[.slice a l.length c, .int .i64 t, .agg #[.int .i64 ra, .int .i64 rn, .int .i64 ri, .int .i64 rp, .int .i64 rk, .int .i64 rt], .int .i64 m] w fun e w' => ∃ (x : Option Addr) (k : Nat), e = .returned (.tuple #[.slice x (putT l t ⟨ra, rn, ri, rp, rk, rt⟩ m).1.length k, .int .i64 (putT l t ⟨ra, rn, ri, rp, rk, rt⟩ m).2]) ∧ Vers w.heap.size w' x k (putT l t ⟨ra, rn, ri, rp, rk, rt⟩ m).1 ∧ Below w.heap.size w w' :=
  (C.putL w V hs t m ra rn ri rp rk rt hw).mono fun _ _ ⟨x, k, e, V, _, hb⟩ => ⟨x, k, e, V, hb⟩
theorem TCode.drop (C : TCode) {B : Nat} {a : Option Addr} {c : Nat} {l : List Vr} (w : World) (V : Vers B w a c l) (hs : Sm l) (t : Int) :
    Calls Try.prog 15 #[.slice a l.length c, .int .i64 t] w fun e w' => ∃ (x : Option Addr) (k : Nat), e = .returned (.slice x (dropT l t).length k) ∧ Vers w.heap.size w' x k (dropT l t) ∧ Below w.heap.size w w' :=
  (C.dropL w V hs t).mono fun _ _ ⟨x, k, e, V, _, hb⟩ => ⟨x, k, e, V, hb⟩
theorem fw_sm {l : List Vr} (h : Fw l) : Sm l := ⟨Nat.le_trans h.1 (by decide), fun v hv => Nat.le_trans (h.2 v hv) (by decide)⟩
theorem wf6 {ra rn ri rp rk rt : Int} (wa : (Lit.int .i64 ra).wf = true) (wn : (Lit.int .i64 rn).wf = true) (wi : (Lit.int .i64 ri).wf = true) (wp : (Lit.int .i64 rp).wf = true) (wk : (Lit.int .i64 rk).wf = true) (wt : (Lit.int .i64 rt).wf = true) : ∀ z ∈ fR ⟨ra, rn, ri, rp, rk, rt⟩, (Lit.int .i64 z).wf = true := by
  intro z hz
  simp only [fR, List.mem_cons, List.not_mem_nil, or_false] at hz
  rcases hz with rfl | rfl | rfl | rfl | rfl | rfl <;> assumption
def tabA : List Vr := [⟨2, [⟨0, 0, -1, 0, 0, 0⟩]⟩]
def tabB : List Vr := [⟨1, [⟨0, 0, 3, 0, 0, 0⟩]⟩, ⟨2, [⟨0, 0, -1, 0, 0, 0⟩]⟩]
theorem ex_p1 : putT [] 2 ⟨0, 0, -1, 0, 0, 0⟩ 9 = (tabA, 0) := by decide +kernel
theorem ex_p2 : putT tabA 1 ⟨0, 0, 3, 0, 0, 0⟩ 9 = (tabB, 0) := by decide +kernel
theorem ex_k1 : lookT tabB 3 0 0 = ((0, 0), 4) := by decide +kernel
theorem ex_k2 : lookT tabB 2 0 0 = ((0, 0), 2) := by decide +kernel
theorem ex_sA : Sm tabA := ⟨by decide, by decide⟩
theorem ex_sB : Sm tabB := ⟨by decide, by decide⟩
set_option maxRecDepth 100000 in
set_option maxHeartbeats 4000000 in
/-- the chapter's example -/
theorem tawake_any (C : TCode) (w : World) : Calls Try.prog 10 #[] w fun e w' => e = .returned (.bool true) ∧ Below w.heap.size w w' := by
  have c1 : Calls Try.prog 12 #[.slice none 0 0, .int .i64 2, .agg #[.int .i64 0, .int .i64 0, .int .i64 (-1), .int .i64 0, .int .i64 0, .int .i64 0], .int .i64 9] w fun e w' => ∃ (x : Option Addr) (k : Nat), e = .returned (.tuple #[.slice x 1 k, .int .i64 0]) ∧ Vers w.heap.size w' x k tabA ∧ Below w.heap.size w w' := by
    have h := C.put w (Vers.empty 0 w) (l := []) ⟨by decide, fun v hv => by cases hv⟩ 2 9 0 0 (-1) 0 0 0 (by decide)
    rw [ex_p1] at h
    exact h
  go_enter Try.func10, Try.ntmps10
  go_wp2_with fail
  refine c1.mono ?_
  clear c1
  rintro e w1 ⟨x1, k1, rfl, V1, hb1⟩
  have c2 : Calls Try.prog 12 #[.slice x1 1 k1, .int .i64 1, .agg #[.int .i64 0, .int .i64 0, .int .i64 3, .int .i64 0, .int .i64 0, .int .i64 0], .int .i64 9] w1 fun e w' => ∃ (x : Option Addr) (k : Nat), e = .returned (.tuple #[.slice x 2 k, .int .i64 0]) ∧ Vers w1.heap.size w' x k tabB ∧ Below w1.heap.size w1 w' := by
    have h := C.put w1 V1 ex_sA 1 9 0 0 3 0 0 0 (by decide)
    rw [ex_p2] at h
    exact h
  go_wp2_with fail
  refine c2.mono ?_
  clear c2 V1
  rintro e w2 ⟨x2, k2, rfl, V2, hb2⟩
  have hbA := below_step hb1 hb2
  clear hb1 hb2
  have c3 : Calls Try.prog 22 #[.slice x2 2 k2, .int .i64 3, .int .i64 0, .int .i64 0] w2 fun e w' => e = .returned (.tuple #[.agg #[.int .i64 0, .int .i64 0], .int .i64 4]) ∧ Below w2.heap.size w2 w' := by
    have h := C.look w2 V2 ex_sB 3 0 0
    rw [ex_k1] at h
    exact h
  go_wp2_with fail
  refine c3.mono ?_
  clear c3
  rintro e w3 ⟨rfl, hb3⟩
  have V3 := V2.later hb3
  have hbB := below_step hbA hb3
  clear hbA hb3 V2
  have hn := below_new w3 (.cells #[.int .i64 0, .int .i64 0] 26)
  have V5 := V3.later hn
  have hbN := below_step hbB hn
  have c4 : ∀ u : World, Vers w1.heap.size u x2 k2 tabB → Calls Try.prog 22 #[.slice x2 2 k2, .int .i64 2, .int .i64 0, .int .i64 0] u fun e w' => e = .returned (.tuple #[.agg #[.int .i64 0, .int .i64 0], .int .i64 2]) ∧ Below u.heap.size u w' := by
    intro u Vu
    have h := C.look u Vu ex_sB 2 0 0
    rw [ex_k2] at h
    exact h
  go_wp2_with fail
  refine (c4 _ V5).mono ?_
  clear c4
  rintro e w4 ⟨rfl, hb4⟩
  replace hn := below_new w4 (.cells #[.int .i64 0, .int .i64 0] 26)
  have V4 := (V5.later hb4).later hn
  have hbC := below_step (below_step hbN hb4) hn
  clear hbB hb4 V3 V5 hbN hn
  have cS : Calls Try.prog 20 #[.slice x2 2 k2] (w4.alloc (.cells #[.int .i64 0, .int .i64 0] 26)) fun e w' => e = .returned (.int .i64 2) ∧ Below (w4.alloc (.cells #[.int .i64 0, .int .i64 0] 26)).heap.size (w4.alloc (.cells #[.int .i64 0, .int .i64 0] 26)) w' := C.size _ V4 ex_sB
  obtain ⟨b, o, y, kk, rfl, hbb, g0, -, -, -⟩ := V4.at (i := 0) (v := ⟨1, [⟨0, 0, 3, 0, 0, 0⟩]⟩) rfl
  obtain ⟨b9, o9, y9, kk9, e9, -, g1, -, -, -⟩ := V4.at (i := 1) (v := ⟨2, [⟨0, 0, -1, 0, 0, 0⟩]⟩) rfl
  cases e9
  simp only [Nat.zero_mul, Nat.one_mul, Nat.add_zero] at g0 g1
  clear V4
  go_wp2_with fail
  refine cS.mono ?_
  clear cS
  rintro e w6 ⟨rfl, hb6⟩
  have hbD := below_step hbC hb6
  go_wp2_with fail
  go_ret
  exact ⟨rfl, hbD⟩
end Go.Proofs.Ytlfnciiomfcjpaa
