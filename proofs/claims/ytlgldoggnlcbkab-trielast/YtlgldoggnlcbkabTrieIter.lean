/- The code's walks as functions to range over: what comes, in which order. -/
import Derived.Test.YtlgldoggnlcbkabTrieTree
import Derived.RangeFuncNested
import Derived.RangeFuncBound
import Derived.RangeFuncCalls
import Derived.RangeFuncLeaves
import Derived.Shelf.Abstract
import Derived.Shelf.RegionOpen
import Derived.WalkKit
import Derived.OwnWalkIn
import Derived.TacticsInMore
import Derived.LoopNIn
import Derived.LoopIn
namespace Go.Proofs.Ytlgldoggnlcbkab
open Go.ChangeShapes Go.WideShapes Go.ChangeAt Go.RowKit Go.Shelf Tt
set_option linter.unusedVariables false
set_option linter.unusedSimpArgs false
attribute [local go_sem] Oper.semAt_some

def nodeCells (m : Mm) (i : Nat) : Array Value := #[.int .i64 (m.a i), .int .i64 (m.n i), .int .i64 (m.v i), .bool (m.told i), .int .i64 (m.kid i false : Nat), .int .i64 (m.kid i true : Nat)]
/-- all boxes of nodes, but for one, stay -/
def NK (X : Option Nat) (W W' : World) : Prop := ∀ k cs, X ≠ some k → W.heap[k]? = some (.cells cs 42 (0, 0)) → W'.heap[k]? = some (.cells cs 42 (0, 0))
def Kp (n₀ : Nat) (X : Option Nat) (W W' : World) : Prop := Below n₀ W W' ∧ NK X W W'
theorem Kp.trans {n₀ : Nat} {X : Option Nat} {A B C : World} (h : Kp n₀ X A B) (h2 : Kp n₀ X B C) : Kp n₀ X A C := ⟨h.1.trans h2.1, fun k cs hk h0 => h2.2 k cs hk (h.2 k cs hk h0)⟩
theorem Kp.of_below {n₀ : Nat} {X : Option Nat} {A B : World} (h : Below A.heap.size A B) (hn : n₀ ≤ A.heap.size) : Kp n₀ X A B := ⟨h.mono hn, fun k cs _ h0 => (h.block k (Array.getElem?_eq_some_iff.1 h0).1).trans h0⟩
theorem Kp_b {n₀ : Nat} {X : Option Nat} {w : World} (hn : n₀ ≤ w.heap.size) (W : World) (l : Nat) (o o' : Obj) (hl : w.heap.size ≤ l) (h : W.heap[l]? = some o) (hc : o.isCells = false) (hw : o.isWalk = false) : Kp n₀ X W (W.putObj l o') :=
  ⟨belowK_b hn W l o o' hl h hc hw, fun k cs _ h0 => by
    refine (World.putObj_heap_other (fun e => ?_)).trans h0
    subst e
    rw [h0] at h
    cases h
    cases hc⟩
theorem grown_of_below {W W' : World} (h : Below W.heap.size W W') : W.grownBy W' none := ⟨h.os, h.tape, h.output, h.size, fun k hk _ => h.block k hk⟩
theorem abides_step {β : Type} {B : Nat} {J : β → World → Prop} (h : AbidesFrom B J) {s : β} {W W' : World} (hs : J s W) (hb : Below W.heap.size W W') : J s W' := h s W W' none hs (grown_of_below hb) (fun r e => by cases e)
theorem box_node {W : World} {k : Nat} {x0 x1 x2 x3 x4 x5 : Value} (h : W.heap[k]? = some (.cells #[x0, x1, x2, x3, x4, x5] 42 (0, 0))) :
    W.cell? ⟨k, 0, none⟩ = some x0 ∧ W.cell? ⟨k, 1, none⟩ = some x1 ∧ W.cell? ⟨k, 2, none⟩ = some x2 ∧ W.cell? ⟨k, 3, none⟩ = some x3 ∧ W.cell? ⟨k, 4, none⟩ = some x4 ∧ W.cell? ⟨k, 5, none⟩ = some x5 := by
  refine ⟨?_, ?_, ?_, ?_, ?_, ?_⟩ <;> simp [World.cell?, h]
theorem room_of_none {F : Fence} (hd : F.depth = none) (k : Nat) : F.room k := fun d h => by rw [hd] at h; cases h
theorem RoundIn.anyDepth {F : Fence} (hd : F.depth = none) {m m' : Nat} {P : Program} {l : Nat} {f : FuncId} {tmps : Array Value} {assign body : Go.Code} {w : World} {R : Ending → World → Prop}
    (h : RoundIn F m P l f tmps assign body w R) : RoundIn F m' P l f tmps assign body w R := ⟨h.1, fun c cs _ => h.2 c cs (room_of_none hd _)⟩
theorem YieldAt.anyDepth {F : Fence} (hd : F.depth = none) {m : Nat} (m' : Nat) {P : Program} {l : Nat} {args : Array Value} {W : World} {R : Ending → World → Prop} (h : YieldAt F m P l args W R) : YieldAt F m' P l args W R := by
  obtain ⟨fn, tmps, assign, body, hy, hR⟩ := h
  exact ⟨fn, tmps, assign, body, hy, RoundIn.anyDepth hd hR⟩
set_option maxRecDepth 100000 in
set_option maxHeartbeats 2000000 in
theorem from_in (F : Fence) (hd : F.depth = none) (hF : F.fn 25) (hro : F.round = none) (l n₀ N B base : Nat) (X : Option Nat) (m : Mm) (hBn : B < n₀) (J Jx : List Nat → World → Prop) (hJ : AbidesFrom base J)
    (hY : ∀ k pre x W, J pre W → pre.length < N → YieldAt F k Try.prog l #[.agg (nodeCells m x)] W fun e W' =>
      (e = .returned (.bool true) ∧ J (pre ++ [x]) W' ∧ Kp n₀ X W W') ∨ (e = .returned (.bool false) ∧ Jx (pre ++ [x]) W')) (t : Tr) :
    ∀ (n i : Nat) (ids pre : List Nat) (W : World), TreeAt m i t ids → Has W B (cellOf m) → n₀ ≤ W.heap.size → (∀ b, X = some b → b < W.heap.size) → J pre W → pre.length + ids.length ≤ N →
      CallsIn F n Try.prog 25 #[.pointer (some ⟨B, 0, none⟩), .int .i64 (i : Nat), .func (.yield l) #[] #[]] W fun e W' =>
        (e = .returned (.bool true) ∧ J (pre ++ ids) W' ∧ Kp n₀ X W W') ∨ (e = .returned (.bool false) ∧ ∃ q, q <+: ids ∧ Jx (pre ++ q) W') := by
  induction t with
  | nil =>
    rintro n i ids pre W ⟨rfl, rfl⟩ h hn hX hj hN
    refine callsIn_of_wp Try.func25 rfl hF ?_ hro
    simp only [Try.ntmps25, List.size_toArray, List.length_cons, List.length_nil, Nat.reduceAdd, Nat.reduceSub, Array.replicate_succ, Array.replicate_zero, List.push_toArray, List.append_toArray, List.nil_append, List.cons_append]
    gi_wp2
    go_ret
    exact .inl ⟨rfl, by simpa using hj, Kp.of_below (Below.refl _ _) hn⟩
  | node k v tl tr ihl ihr =>
    rintro n i ids pre W ⟨h0, h1, -, -, -, -, il, ir, hl, hr, rfl⟩ h hn hX hj hN
    have hdd : ∀ k : Nat, (F.depth.isSome = true → 1 ≤ k) := fun k h => by rw [hd] at h; cases h
    obtain ⟨c0, c1, c2, c3, c4, c5⟩ := h.node h1
    have hi0 : (0 : Int) ≤ (i : Int) := by omega
    have hi1 : (i : Int) < 1001 := by omega
    have e0 : ((i : Int) == 0) = false := by simpa using h0
    simp only [List.length_append, List.length_cons] at hN
    have hb1 := below_new W (.cells (nodeCells m i) 42)
    have N1 : (W.alloc (.cells (nodeCells m i) 42)).heap[W.heap.size]? = some (.cells (nodeCells m i) 42 (0, 0)) := heap_alloc_new W _
    have hXn : X ≠ some W.heap.size := fun e => by have := hX _ e; omega
    have k1 : Kp n₀ X W (W.alloc (.cells (nodeCells m i) 42)) := Kp.of_below hb1 hn
    have hsz : n₀ ≤ (W.alloc (.cells (nodeCells m i) 42)).heap.size := Nat.le_trans hn hb1.size
    have after : ∀ W', Kp n₀ X (W.alloc (.cells (nodeCells m i) 42)) W' → Has W' B (cellOf m) ∧ W'.cell? ⟨W.heap.size, 4, none⟩ = some (.int .i64 (m.kid i false : Nat)) ∧ W'.cell? ⟨W.heap.size, 5, none⟩ = some (.int .i64 (m.kid i true : Nat)) ∧ n₀ ≤ W'.heap.size ∧ (∀ b, X = some b → b < W'.heap.size) ∧ Kp n₀ X W W' := fun W' hk => by
      obtain ⟨_, _, _, _, b4, b5⟩ := box_node (hk.2 _ _ hXn N1)
      have hle : (W.alloc (.cells (nodeCells m i) 42)).heap.size ≤ W'.heap.size := hk.1.size
      exact ⟨⟨Nat.lt_of_lt_of_le hBn (Nat.le_trans hsz hle), fun o ho => ((k1.trans hk).1.cell (p := ⟨B, o, none⟩) hBn).trans (h.cell o ho), fun o ho => ((k1.trans hk).1.frozen (p := ⟨B, o, none⟩) hBn).trans (h.frozen o ho)⟩,
        b4, b5, Nat.le_trans hsz hle, fun b e => Nat.lt_of_lt_of_le (hX b e) (Nat.le_trans hb1.size hle), k1.trans hk⟩
    have hy1 := YieldAt.mono (hY (n - 1) pre i _ (abides_step hJ hj hb1) (by omega)) (R' := fun e W2 =>
        (e = .returned (.bool true) ∧ W2.cell? ⟨W.heap.size, 4, none⟩ = some (.int .i64 (m.kid i false : Nat)) ∧ CallsIn F (n - 1) Try.prog 25 #[.pointer (some ⟨B, 0, none⟩), .int .i64 (m.kid i false : Nat), .func (.yield l) #[] #[]] W2 fun e W3 =>
          (e = .returned (.bool true) ∧ W3.cell? ⟨W.heap.size, 5, none⟩ = some (.int .i64 (m.kid i true : Nat)) ∧ CallsIn F (n - 1) Try.prog 25 #[.pointer (some ⟨B, 0, none⟩), .int .i64 (m.kid i true : Nat), .func (.yield l) #[] #[]] W3 fun e W4 =>
            (e = .returned (.bool true) ∧ J (pre ++ (i :: (il ++ ir))) W4 ∧ Kp n₀ X W W4) ∨ (e = .returned (.bool false) ∧ ∃ q, q <+: i :: (il ++ ir) ∧ Jx (pre ++ q) W4)) ∨
          (e = .returned (.bool false) ∧ ∃ q, q <+: i :: (il ++ ir) ∧ Jx (pre ++ q) W3)) ∨
        (e = .returned (.bool false) ∧ ∃ q, q <+: i :: (il ++ ir) ∧ Jx (pre ++ q) W2)) (fun e W2 hh => by
      rcases hh with ⟨he, hj2, hk2⟩ | ⟨he, hx2⟩
      · obtain ⟨hH, b4, b5, hs2, hX2, hkw⟩ := after W2 hk2
        refine .inl ⟨he, b4, (ihl (n - 1) _ il _ W2 hl hH hs2 hX2 hj2 (by simp; omega)).mono fun e W3 hh => ?_⟩
        rcases hh with ⟨he, hj3, hk3⟩ | ⟨he, q, hq, hx3⟩
        · obtain ⟨hH3, _, c5', hs3, hX3, hkw3⟩ := after W3 (hk2.trans hk3)
          refine .inl ⟨he, c5', (ihr (n - 1) _ ir _ W3 hr hH3 hs3 hX3 hj3 (by simp; omega)).mono fun e W4 hh => ?_⟩
          rcases hh with ⟨he, hj4, hk4⟩ | ⟨he, q, hq, hx4⟩
          · exact .inl ⟨he, by simpa using hj4, hkw3.trans hk4⟩
          · obtain ⟨r, hr'⟩ := hq
            exact .inr ⟨he, i :: (il ++ q), ⟨r, by simp [← hr']⟩, by simpa using hx4⟩
        · obtain ⟨r, hr'⟩ := hq
          exact .inr ⟨he, i :: q, ⟨r ++ ir, by simp [← hr']⟩, by simpa using hx3⟩
      · exact .inr ⟨he, [i], ⟨il ++ ir, rfl⟩, hx2⟩)
    clear ihl ihr after hY k1 N1 hb1 hsz
    obtain ⟨fn, tmps, assign, body, hy, hR⟩ := hy1
    dsimp only [nodeCells] at hy hR
    refine callsIn_of_wp Try.func25 rfl hF ?_ hro
    simp only [Try.ntmps25, List.size_toArray, List.length_cons, List.length_nil, Nat.reduceAdd, Nat.reduceSub, Array.replicate_succ, Array.replicate_zero, List.push_toArray, List.append_toArray, List.nil_append, List.cons_append]
    gi_wp2_with (first
      | ((try refine ⟨hdd _, ?_⟩); refine hR.mono ?_; clear hR; rintro e W2 (⟨rfl, b4, ih1⟩ | ⟨rfl, q, hq, hx2⟩))
      | ((try refine ⟨hdd _, ?_⟩); gi_at_call 25; refine ih1.mono ?_; clear ih1; rintro e W3 (⟨rfl, b5, ih2⟩ | ⟨rfl, q, hq, hx2⟩))
      | ((try refine ⟨hdd _, ?_⟩); gi_at_call 25; refine ih2.mono ?_; clear ih2; rintro e W4 (⟨rfl, hj4, hk4⟩ | ⟨rfl, q, hq, hx2⟩)))
    all_goals go_ret
    all_goals first | exact .inl ⟨rfl, hj4, hk4⟩ | exact .inr ⟨rfl, q, hq, hx2⟩
set_option maxRecDepth 100000 in
set_option maxHeartbeats 1000000 in
theorem all1_in (n l n₀ B Bt base : Nat) (X : Option Nat) (m : Mm) (hBn : B < n₀) (J Jx : List Nat → World → Prop) (hJ : AbidesFrom base J) {t : Tr} {ids : List Nat} (ht : TreeAt m m.root t ids)
    (hY : ∀ pre x W, J pre W → pre.length < ids.length → YieldAt Fence.wide (n - 1) Try.prog l #[.agg (nodeCells m x)] W fun e W' =>
      (e = .returned (.bool true) ∧ J (pre ++ [x]) W' ∧ Kp n₀ X W W') ∨ (e = .returned (.bool false) ∧ Jx (pre ++ [x]) W'))
    (W : World) (h : Has W B (cellOf m)) (hn : n₀ ≤ W.heap.size) (hX : ∀ b, X = some b → b < W.heap.size) (hBt : W.cell? ⟨Bt, 0, none⟩ = some (.pointer (some ⟨B, 0, none⟩))) (h0 : J [] W) :
    CallsIn Fence.wide n Try.prog 24 #[.func (.yield l) #[] #[], .pointer (some ⟨Bt, 0, none⟩)] W fun e W' => (∃ v, e = .returned v) ∧
      ((∃ ys, ys = ids ∧ J ys W') ∨ (∃ pre, pre <+: ids ∧ Jx pre W')) := by
  have hp := fun W h hn hX h0 => callsIn_wide.1 (from_in Fence.wide rfl trivial rfl l n₀ ids.length B base X m hBn J Jx hJ (fun k pre x W hj hl => YieldAt.anyDepth rfl k (hY pre x W hj hl)) t 1 m.root ids [] W ht h hn hX h0 (by simp))
  obtain ⟨r0, r1, r2, r3⟩ := h.head
  have hp1 := (hp W.drew h.drew hn hX (abides_step hJ h0 (Below.refl _ _).drew)).mono (R' := fun e W' => ∃ b, e = .returned (.bool b) ∧ ((∃ ys, ys = ids ∧ J ys W') ∨ (∃ pre, pre <+: ids ∧ Jx pre W'))) (fun e W' hh => by
    rcases hh with ⟨he, hj1, _⟩ | ⟨he, q, hq, hx1⟩
    · exact ⟨true, he, .inl ⟨_, rfl, by simpa using hj1⟩⟩
    · exact ⟨false, he, .inr ⟨q, hq, by simpa using hx1⟩⟩)
  clear hp hY
  refine callsIn_wide.2 ?_
  go_enter Try.func24, Try.ntmps24
  go_wp2_with fail
  go_region_with (go_at_call 25; refine hp1.mono ?_; rintro e W1 ⟨b, rfl, hh⟩)
  all_goals go_wp2_with fail
  all_goals go_end0
  all_goals exact ⟨⟨_, rfl⟩, hh⟩
theorem all_any (B : Nat) (w : World) :
    Calls Try.prog 17 #[.pointer (some ⟨B, 0, none⟩)] w fun e w' => e = .returned (.func (.func 24) #[] #[.pointer (some ⟨w.heap.size, 0, none⟩)]) ∧ w' = w.alloc (.cells #[.pointer (some ⟨B, 0, none⟩)] 29) := by
  go_enter Try.func17, Try.ntmps17
  go_wp2_with fail
  go_ret
  exact ⟨rfl, rfl⟩
theorem all_stops (n n₀ B Bt : Nat) (X : Option Nat) (m : Mm) (hBn : B < n₀) {t : Tr} {ids : List Nat} (ht : TreeAt m m.root t ids) (w : World) (h : Has w B (cellOf m)) (hn : n₀ ≤ w.heap.size) (hX : ∀ b, X = some b → b < w.heap.size) (hB : Bt < w.heap.size)
    (hBt : w.cell? ⟨Bt, 0, none⟩ = some (.pointer (some ⟨B, 0, none⟩))) :
    SeqStopsK Fence.wide n Try.prog 24 #[.pointer (some ⟨Bt, 0, none⟩)] (fun x : Nat => #[.agg (nodeCells m x)]) (Kp n₀ X) (fun ys => ys = ids) (fun pre => pre <+: ids) ids.length w := fun l J Jx W hW hJ _ hY h0 =>
  all1_in n l n₀ B Bt W.heap.size X m hBn J Jx hJ ht hY W (h.later hW) (Nat.le_trans hn hW.size) (fun b e => Nat.lt_of_lt_of_le (hX b e) hW.size) ((hW.cell (p := ⟨Bt, 0, none⟩) hB).trans hBt) h0
end Go.Proofs.Ytlgldoggnlcbkab
