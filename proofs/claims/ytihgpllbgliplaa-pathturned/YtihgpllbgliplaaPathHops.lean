/- The hops of a packet, as the code's function to range over feeds them (f851ab51: boxes of the topology, the configuration and the packet; those of the hop and of where it goes are the closure's own, written anew each round). -/
import Derived.Test.YtihgpllbgliplaaPathFeed
import Derived.Sort.LoopGhostIn
namespace Go.Proofs.Ytihgpllbgliplaa
open Go.ChangeShapes Go.WideShapes Go.ChangeAt Go.RowKit Pk Cf Pa
set_option linter.unusedVariables false
set_option linter.unusedSimpArgs false
attribute [local go_sem] Oper.semAt_some

theorem ret0p {P : Program} {fn : Func} {R : Ending → World → Prop} {a : Act} {w : World} (h : fn.results = #[]) (hd : a.defers = []) (hR : R (.returned (.tuple #[])) w) : bodyPost P fn R .ret a w := bodyPost_ret (results_none h _ _ _) hd hR
theorem lies_kept {S : Nat → Prop} {w w' : World} {B : Nat} {l : List Int} (X : Lies w B l) (hk : Keeps S w w') (h : ¬ S B) : Lies w' B l :=
  ⟨Nat.lt_of_lt_of_le X.lt hk.size, fun i z hz => (hk.cell (p := ⟨B, i, none⟩) X.lt h).trans (X.cells i z hz), fun i => (hk.frozen (p := ⟨B, i, none⟩) X.lt h).trans (X.fz i)⟩
theorem keeps_lay7 {S : Nat → Prop} {w w' : World} {b : Nat} (hk : Keeps S w w') (hb : b < w.heap.size → S b) (y0 y1 y2 y3 y4 y5 y6 : Int) : Keeps S w (lay7 w' b y0 y1 y2 y3 y4 y5 y6) :=
  ((((((hk.setCell (p := ⟨b, 0, none⟩) hb _).setCell (p := ⟨b, 1, none⟩) hb _).setCell (p := ⟨b, 2, none⟩) hb _).setCell (p := ⟨b, 3, none⟩) hb _).setCell (p := ⟨b, 4, none⟩) hb _).setCell (p := ⟨b, 5, none⟩) hb _).setCell (p := ⟨b, 6, none⟩) hb _
/-- what the code's Step answers, of one topology and one configuration that were there when 'we' began -/
def StepOk (s n : Int) (x : Option Addr) (c : Nat) (l : List Tp.Lk) (a : Option Addr) (k : Nat) (C : Cnf) (we : World) : Prop :=
  ∀ u, Below we.heap.size we u → ∀ f : Fl, WfF f → Calls Try.prog 12 #[.agg #[.int .i64 s, .int .i64 n, .slice x l.length c], .slice a C.length k, vF f] u fun e w' => e = .returned (.tuple #[vH (stepP s n l C f).1, vF (stepP s n l C f).2]) ∧ Below u.heap.size u w'
theorem hops_any (s n : Int) (x : Option Addr) (m c : Nat) (a : Option Addr) (p k : Nat) (fi fs fd ft fg fw fp : Int) (w : World) :
    Calls Try.prog 25 #[.agg #[.int .i64 s, .int .i64 n, .slice x m c], .slice a p k, .agg #[.int .i64 fi, .int .i64 fs, .int .i64 fd, .int .i64 ft, .int .i64 fg, .int .i64 fw, .int .i64 fp]] w fun e w' =>
      e = .returned (.func (.func 36) #[] #[.pointer (some ⟨w.heap.size, 0, none⟩), .pointer (some ⟨w.heap.size + 1, 0, none⟩), .pointer (some ⟨w.heap.size + 2, 0, none⟩)]) ∧
      w' = ((w.alloc (.cells #[.int .i64 s, .int .i64 n, .slice x m c] 24)).alloc (.cells #[.slice a p k] 26)).alloc (.cells #[.int .i64 fi, .int .i64 fs, .int .i64 fd, .int .i64 ft, .int .i64 fg, .int .i64 fw, .int .i64 fp] 30) := by
  go_enter Try.func25, Try.ntmps25
  go_wp2_with fail
  go_ret
  exact ⟨rfl, rfl⟩
set_option maxRecDepth 100000 in
set_option maxHeartbeats 4000000 in
theorem hops_feeds (we w0 : World) {s n : Int} {x a : Option Addr} {c k : Nat} {l : List Tp.Lk} {C : Cnf} (hS : StepOk s n x c l a k C we) (hWl : WfL l) (hWC : WfC C) {bt bc bf : Nat} (htf : bt ≠ bf) (hcf : bc ≠ bf) (hN : we.heap.size ≤ bf)
    (h0 : w0.cell? ⟨bt, 0, none⟩ = some (.int .i64 s)) (h1 : w0.cell? ⟨bt, 1, none⟩ = some (.int .i64 n)) (h2 : w0.cell? ⟨bt, 2, none⟩ = some (.slice x l.length c)) (h3 : w0.cell? ⟨bc, 0, none⟩ = some (.slice a C.length k)) (hbt : bt < w0.heap.size) (hbc : bc < w0.heap.size)
    {f0 f1 f2 f3 f4 f5 f6 : Int} (X0 : Lies w0 bf [f0, f1, f2, f3, f4, f5, f6]) (hB0 : Below we.heap.size we w0) (hwf : WfF ⟨f0, f1, f2, f3, f4, f5, f6⟩) (hf3 : f3 < 17) :
    HFeeds 36 #[.pointer (some ⟨bt, 0, none⟩), .pointer (some ⟨bc, 0, none⟩), .pointer (some ⟨bf, 0, none⟩)] (walkF s n l C 17 ⟨f0, f1, f2, f3, f4, f5, f6⟩) (fun j => j = bt ∨ j = bc ∨ j = bf) we.heap.size w0 := by
  intro n0 ly J T W hW hT hJ
  have hro : Fence.wide.round = none := rfl
  have hdd : ∀ k : Nat, (Fence.wide.depth.isSome = true → 1 ≤ k) := fun k h => by cases h
  have cS := fun (u : World) (hu : Below we.heap.size we u) (f : Fl) (hf : WfF f) => (callsIn_wide (n := n0 - 1)).2 (hS u hu f hf)
  have t0 := (hW.cell (p := ⟨bt, 0, none⟩) hbt).trans h0
  have t1 := (hW.cell (p := ⟨bt, 1, none⟩) hbt).trans h1
  have t2 := (hW.cell (p := ⟨bt, 2, none⟩) hbt).trans h2
  have c0 := (hW.cell (p := ⟨bc, 0, none⟩) hbc).trans h3
  have X := X0.later hW
  have hB := below_step hB0 hW
  have hbtW := Nat.lt_of_lt_of_le hbt hW.size
  have hbcW := Nat.lt_of_lt_of_le hbc hW.size
  clear h0 h1 h2 h3 X0 hB0 hS hbt hbc hW
  obtain ⟨L, hL⟩ : ∃ L, walkF s n l C 17 ⟨f0, f1, f2, f3, f4, f5, f6⟩ = L := ⟨_, rfl⟩
  rw [hL]
  have HL2 : Hid ([] ++ ((stepP s n l C ⟨f0, f1, f2, f3, f4, f5, f6⟩).1 :: (if (stepP s n l C ⟨f0, f1, f2, f3, f4, f5, f6⟩).1.what = 0 then walkF s n l C 16 (stepP s n l C ⟨f0, f1, f2, f3, f4, f5, f6⟩).2 else [])) = L) := by
    rw [← hL]; rfl
  have HJ0 : Hid (J [] T W) := hJ
  have HE := cS W hB ⟨f0, f1, f2, f3, f4, f5, f6⟩ hwf
  have hst := step_ways s n l C ⟨f0, f1, f2, f3, f4, f5, f6⟩
  have hwg := (step_wf (s := s) (n := n) hWl hWC hwf).2
  generalize stepP s n l C ⟨f0, f1, f2, f3, f4, f5, f6⟩ = st at HE hst hwg HL2
  obtain ⟨⟨p0, p1, p2, p3, p4, p5, p6⟩, ⟨o0, o1, o2, o3, o4, o5, o6⟩⟩ := st
  simp only at hst
  have HW0 : Hid (WfF ⟨o0, o1, o2, o3, o4, o5, o6⟩) := hwg
  have HQ0 : Hid ((p5 = 0 → 0 ≤ o3 ∧ o3 < 16) ∧ (([] : List Hp)).length + 1 + 16 ≤ 17) := by
    refine ⟨fun h0 => ?_, by simp⟩
    rcases hst with ⟨h, e⟩ | ⟨h, e, z, y, e2⟩
    · exact absurd h0 h
    · injection e2 with g0 g1 g2 g3
      omega
  have HN : Hid (we.heap.size ≤ bf ∧ bt ≠ bf ∧ bc ≠ bf) := ⟨hN, htf, hcf⟩
  clear hL hJ hwf hf3 hN htf hcf hst hwg
  refine callsIn_of_wp Try.func36 rfl trivial ?_ hro
  simp only [Try.ntmps36, List.size_toArray, List.length_cons, List.length_nil, Nat.reduceAdd, Nat.reduceSub, Array.replicate_succ, Array.replicate_zero, List.push_toArray, List.append_toArray, List.nil_append, List.cons_append]
  obtain ⟨r0, r1, r2, r3, r4, r5, r6⟩ := X.seven
  gi_wp2_with fail
  refine ⟨trivial, hdd _, ?_⟩
  gi_at_call 12
  refine HE.mono ?_
  clear HE r0 r1 r2 r3 r4 r5 r6 X
  rintro e w1 ⟨rfl, hb1⟩
  have XH : Lies (w1.alloc (.cells #[.int .i64 p0, .int .i64 p1, .int .i64 p2, .int .i64 p3, .int .i64 p4, .int .i64 p5, .int .i64 p6] 34)) w1.heap.size [p0, p1, p2, p3, p4, p5, p6] := Lies.new w1 [p0, p1, p2, p3, p4, p5, p6] 34 rfl
  have XG : Lies ((w1.alloc (.cells #[.int .i64 p0, .int .i64 p1, .int .i64 p2, .int .i64 p3, .int .i64 p4, .int .i64 p5, .int .i64 p6] 34)).alloc (.cells #[.int .i64 o0, .int .i64 o1, .int .i64 o2, .int .i64 o3, .int .i64 o4, .int .i64 o5, .int .i64 o6] 30)) (w1.heap.size + 1) [o0, o1, o2, o3, o4, o5, o6] := Lies.new (w1.alloc (.cells #[.int .i64 p0, .int .i64 p1, .int .i64 p2, .int .i64 p3, .int .i64 p4, .int .i64 p5, .int .i64 p6] 34)) [o0, o1, o2, o3, o4, o5, o6] 30 (by simp)
  replace XH := XH.later (below_new (w1.alloc (.cells #[.int .i64 p0, .int .i64 p1, .int .i64 p2, .int .i64 p3, .int .i64 p4, .int .i64 p5, .int .i64 p6] 34)) (.cells #[.int .i64 o0, .int .i64 o1, .int .i64 o2, .int .i64 o3, .int .i64 o4, .int .i64 o5, .int .i64 o6] 30))
  have hbU := below_step hb1 (below_step (below_new w1 (.cells #[.int .i64 p0, .int .i64 p1, .int .i64 p2, .int .i64 p3, .int .i64 p4, .int .i64 p5, .int .i64 p6] 34)) (below_new (w1.alloc (.cells #[.int .i64 p0, .int .i64 p1, .int .i64 p2, .int .i64 p3, .int .i64 p4, .int .i64 p5, .int .i64 p6] 34)) (.cells #[.int .i64 o0, .int .i64 o1, .int .i64 o2, .int .i64 o3, .int .i64 o4, .int .i64 o5, .int .i64 o6] 30)))
  have hbase := hT.base _ _ _ HJ0.out
  have hwN : W.heap.size ≤ w1.heap.size := hb1.size
  have HJU : Hid (J [] T ((w1.alloc (.cells #[.int .i64 p0, .int .i64 p1, .int .i64 p2, .int .i64 p3, .int .i64 p4, .int .i64 p5, .int .i64 p6] 34)).alloc (.cells #[.int .i64 o0, .int .i64 o1, .int .i64 o2, .int .i64 o3, .int .i64 o4, .int .i64 o5, .int .i64 o6] 30))) := hT.below HJ0.out hbU
  have HNT0 : Hid (¬ T w1.heap.size ∧ ¬ T (w1.heap.size + 1)) := ⟨fun h => by have := (hbase _ h).2.1; omega, fun h => by have := (hbase _ h).2.1; omega⟩
  replace t0 := (hbU.cell (p := ⟨bt, 0, none⟩) hbtW).trans t0
  replace t1 := (hbU.cell (p := ⟨bt, 1, none⟩) hbtW).trans t1
  replace t2 := (hbU.cell (p := ⟨bt, 2, none⟩) hbtW).trans t2
  replace c0 := (hbU.cell (p := ⟨bc, 0, none⟩) hbcW).trans c0
  have HH : Hid (we.heap.size ≤ w1.heap.size ∧ W.heap.size ≤ w1.heap.size ∧ bt < w1.heap.size ∧ bc < w1.heap.size) := ⟨Nat.le_trans hB.size hwN, hwN, Nat.lt_of_lt_of_le hbtW hwN, Nat.lt_of_lt_of_le hbcW hwN⟩
  have hB2 := below_step hB hbU
  have HS0 : Hid (W.heap.size ≤ ((w1.alloc (.cells #[.int .i64 p0, .int .i64 p1, .int .i64 p2, .int .i64 p3, .int .i64 p4, .int .i64 p5, .int .i64 p6] 34)).alloc (.cells #[.int .i64 o0, .int .i64 o1, .int .i64 o2, .int .i64 o3, .int .i64 o4, .int .i64 o5, .int .i64 o6] 30)).heap.size) := hbU.size
  clear hbU hbase hb1 HJ0 hwN hB
  gi_wp2_with fail
  generalize ((w1.alloc (.cells #[.int .i64 p0, .int .i64 p1, .int .i64 p2, .int .i64 p3, .int .i64 p4, .int .i64 p5, .int .i64 p6] 34)).alloc (.cells #[.int .i64 o0, .int .i64 o1, .int .i64 o2, .int .i64 o3, .int .i64 o4, .int .i64 o5, .int .i64 o6] 30)) = u at XH XG HJU hB2 t0 t1 t2 c0 HS0 ⊢
  generalize w1.heap.size = H at XH XG HNT0 HH ⊢
  gi_loopg [] 16 (fun q wr => ∃ (pre : List Hp) (T : Nat → Prop) (p0 p1 p2 p3 p4 p5 p6 o0 o1 o2 o3 o4 o5 o6 : Int), Hid (pre ++ ((⟨p0, p1, p2, p3, p4, p5, p6⟩ : Hp) :: (if p5 = 0 then walkF s n l C q ⟨o0, o1, o2, o3, o4, o5, o6⟩ else [])) = L) ∧ Hid ((p5 = 0 → 0 ≤ o3 ∧ o3 < (q : Int)) ∧ pre.length + 1 + q ≤ 17) ∧ Hid (J pre T wr) ∧ Lies wr H [p0, p1, p2, p3, p4, p5, p6] ∧ Lies wr (H + 1) [o0, o1, o2, o3, o4, o5, o6] ∧
    wr.cell? ⟨bt, 0, none⟩ = some (.int .i64 s) ∧ wr.cell? ⟨bt, 1, none⟩ = some (.int .i64 n) ∧ wr.cell? ⟨bt, 2, none⟩ = some (.slice x l.length c) ∧ wr.cell? ⟨bc, 0, none⟩ = some (.slice a C.length k) ∧ Below we.heap.size we wr ∧ Hid (W.heap.size ≤ wr.heap.size) ∧ Hid (WfF ⟨o0, o1, o2, o3, o4, o5, o6⟩) ∧ Hid (¬ T H ∧ ¬ T (H + 1)))
  case atStart => exact ⟨[], T, p0, p1, p2, p3, p4, p5, p6, o0, o1, o2, o3, o4, o5, o6, HL2, HQ0, HJU, XH, XG, t0, t1, t2, c0, hB2, HS0, HW0, HNT0⟩
  case round =>
    clear HL2 HQ0 HJU XH XG t0 t1 t2 c0 hB2 HS0 HW0 HNT0
    obtain ⟨pre, T, p0, p1, p2, p3, p4, p5, p6, o0, o1, o2, o3, o4, o5, o6, HL2, HQ, HJ, XH, XG, t0, t1, t2, c0, hB, HS, HW, HNT⟩ := hrel
    have HP : pre.length ≤ 100 := by have h := HQ.out.2; omega
    have hbase := hT.base _ _ _ HJ.out
    obtain ⟨fn, tmps, assign, body, hy, hR⟩ := hT.take pre ⟨p0, p1, p2, p3, p4, p5, p6⟩ (n0 - 1) T wr HJ.out HS.out HP
    dsimp only [vH] at hy
    have hn1 := HNT.out.1
    have hn2 := HNT.out.2
    have hg1 := XH.lt
    have hg2 := XG.lt
    obtain ⟨r0, r1, r2, r3, r4, r5, r6⟩ := XH.seven
    clear HP
    gi_wp2_with fail
    refine ⟨hdd _, ?_⟩
    refine hR.mono ?_
    clear r0 r1 r2 r3 r4 r5 r6 hR hy
    rintro e w2 ⟨rfl, T2, hj2, hk2, hT2⟩
    have hbtu : bt < wr.heap.size := Nat.lt_trans HH.out.2.2.1 hg1
    have hbcu : bc < wr.heap.size := Nat.lt_trans HH.out.2.2.2 hg1
    have hnt : ¬ T bt := fun h => (hbase _ h).2.2 (.inl rfl)
    have hnc : ¬ T bc := fun h => (hbase _ h).2.2 (.inr (.inl rfl))
    replace t0 := (hk2.cell (p := ⟨bt, 0, none⟩) hbtu hnt).trans t0
    replace t1 := (hk2.cell (p := ⟨bt, 1, none⟩) hbtu hnt).trans t1
    replace t2 := (hk2.cell (p := ⟨bt, 2, none⟩) hbtu hnt).trans t2
    replace c0 := (hk2.cell (p := ⟨bc, 0, none⟩) hbcu hnc).trans c0
    replace XH := lies_kept XH hk2 hn1
    replace XG := lies_kept XG hk2 hn2
    have hB2 : Below we.heap.size we w2 := hB.trans (hk2.below hB.size (fun k h => (hbase k h).1))
    have hs2 := hk2.size
    have HNT2 : Hid (¬ T2 H ∧ ¬ T2 (H + 1)) := ⟨fun h => by rcases hT2 _ h with g | g; exact hn1 g; omega, fun h => by rcases hT2 _ h with g | g; exact hn2 g; omega⟩
    have HS2 : Hid (W.heap.size ≤ w2.heap.size) := Nat.le_trans HS.out hs2
    have HB2 : Hid (bt < w2.heap.size ∧ bc < w2.heap.size) := ⟨Nat.lt_of_lt_of_le hbtu hs2, Nat.lt_of_lt_of_le hbcu hs2⟩
    clear HNT HS hbase hT2 hB HJ hn1 hn2 hnt hnc hk2 hg1 hg2 hbtu hbcu hs2
    obtain ⟨r0, r1, r2, r3, r4, r5, r6⟩ := XH.seven
    by_cases hp5 : p5 = 0
    case neg =>
      have HF : Hid (J L T2 w2) := by
        have h := HL2.out
        rw [if_neg hp5] at h
        rw [← h]
        exact hj2
      clear HL2 HQ HW HNT2 HS2 HB2 hj2
      gi_wp2_with fail
      go_end0
      exact ⟨⟨_, rfl⟩, T2, HF.out⟩
    subst hp5
    obtain ⟨q, hq⟩ : ∃ q, gk = q + 1 := ⟨gk - 1, by have := HQ.out.1 rfl; omega⟩
    subst hq
    have HE := cS w2 hB2 ⟨o0, o1, o2, o3, o4, o5, o6⟩ HW.out
    have hst := step_ways s n l C ⟨o0, o1, o2, o3, o4, o5, o6⟩
    have hwg := (step_wf (s := s) (n := n) hWl hWC HW.out).2
    have HL3 : Hid ((pre ++ [⟨p0, p1, p2, p3, p4, 0, p6⟩]) ++ ((stepP s n l C ⟨o0, o1, o2, o3, o4, o5, o6⟩).1 :: (if (stepP s n l C ⟨o0, o1, o2, o3, o4, o5, o6⟩).1.what = 0 then walkF s n l C q (stepP s n l C ⟨o0, o1, o2, o3, o4, o5, o6⟩).2 else [])) = L) := by
      have h := HL2.out
      rw [if_pos rfl, walk_succ] at h
      rw [List.append_assoc]
      exact h
    generalize stepP s n l C ⟨o0, o1, o2, o3, o4, o5, o6⟩ = st at HE hst hwg HL3
    obtain ⟨⟨y0, y1, y2, y3, y4, y5, y6⟩, ⟨z0, z1, z2, z3, z4, z5, z6⟩⟩ := st
    simp only at hst
    have HW3 : Hid (WfF ⟨z0, z1, z2, z3, z4, z5, z6⟩) := hwg
    have HQ3 : Hid ((y5 = 0 → 0 ≤ z3 ∧ z3 < (q : Int)) ∧ (pre ++ [(⟨p0, p1, p2, p3, p4, 0, p6⟩ : Hp)]).length + 1 + q ≤ 17) := by
      have h := HQ.out.1 rfl
      have h17 := HQ.out.2
      refine ⟨fun h0 => ?_, by rw [List.length_append]; simp only [List.length_cons, List.length_nil]; omega⟩
      rcases hst with ⟨h, e⟩ | ⟨h, e, z, y, e2⟩
      · exact absurd h0 h
      · injection e2 with g0 g1 g2 g3
        omega
    clear HL2 HQ HW hst hwg
    obtain ⟨q0, q1, q2, q3, q4, q5, q6⟩ := XG.seven
    gi_wp2_with fail
    refine ⟨trivial, hdd _, ?_⟩
    gi_at_call 12
    refine HE.mono ?_
    clear HE r0 r1 r2 r3 r4 r5 r6 q0 q1 q2 q3 q4 q5 q6
    rintro e w3 ⟨rfl, hb3⟩
    have hj3 := hT.below hj2 hb3
    have hbase := hT.base _ _ _ hj3
    replace t0 := (hb3.cell (p := ⟨bt, 0, none⟩) HB2.out.1).trans t0
    replace t1 := (hb3.cell (p := ⟨bt, 1, none⟩) HB2.out.1).trans t1
    replace t2 := (hb3.cell (p := ⟨bt, 2, none⟩) HB2.out.1).trans t2
    replace c0 := (hb3.cell (p := ⟨bc, 0, none⟩) HB2.out.2).trans c0
    replace XH := XH.later hb3
    replace XG := XG.later hb3
    replace hB2 := below_step hB2 hb3
    have hs3 := hb3.size
    have HB3 : Hid (bt < w3.heap.size ∧ bc < w3.heap.size) := ⟨Nat.lt_of_lt_of_le HB2.out.1 hs3, Nat.lt_of_lt_of_le HB2.out.2 hs3⟩
    have HS3 : Hid (W.heap.size ≤ w3.heap.size) := Nat.le_trans HS2.out hs3
    clear hb3 HB2 HS2 hj2 hs3
    have HJ3 : Hid (J (pre ++ [⟨p0, p1, p2, p3, p4, 0, p6⟩]) T2 w3) := hj3
    have HBase : Hid (∀ k, T2 k → we.heap.size ≤ k ∧ k < w3.heap.size ∧ ¬ (k = bt ∨ k = bc ∨ k = bf)) := hbase
    clear hj3 hbase
    obtain ⟨r0, r1, r2, r3, r4, r5, r6⟩ := XH.seven
    obtain ⟨q0, q1, q2, q3, q4, q5, q6⟩ := XG.seven
    have zh := XH.fz
    have zg := XG.fz
    have lh := XH.lt
    have lg := XG.lt
    gi_wp2_with fail
    have kl : Keeps (fun j => j = H ∨ j = H + 1) w3 (lay7 (lay7 w3 H y0 y1 y2 y3 y4 y5 y6) (H + 1) z0 z1 z2 z3 z4 z5 z6) := keeps_lay7 (S := fun j => j = H ∨ j = H + 1) (keeps_lay7 (S := fun j => j = H ∨ j = H + 1) (Keeps.refl _ w3) (fun _ => .inl rfl) y0 y1 y2 y3 y4 y5 y6) (fun _ => .inr rfl) z0 z1 z2 z3 z4 z5 z6
    have HJ4 : Hid (J (pre ++ [⟨p0, p1, p2, p3, p4, 0, p6⟩]) T2 (lay7 (lay7 w3 H y0 y1 y2 y3 y4 y5 y6) (H + 1) z0 z1 z2 z3 z4 z5 z6)) := hT.step _ _ _ _ HJ3.out (kl.mono (fun j _ e => by
      rcases e with e | e
      · subst e; exact ⟨.inl HH.out.2.1, HNT2.out.1⟩
      · subst e; exact ⟨.inl (Nat.le_trans HH.out.2.1 (Nat.le_succ _)), HNT2.out.2⟩))
    replace XH := (XH.put7 y0 y1 y2 y3 y4 y5 y6).far7 (b := H + 1) (by omega) z0 z1 z2 z3 z4 z5 z6
    replace XG := (XG.far7 (b := H) (by omega) y0 y1 y2 y3 y4 y5 y6).put7 z0 z1 z2 z3 z4 z5 z6
    have hB4 : Below we.heap.size we (lay7 (lay7 w3 H y0 y1 y2 y3 y4 y5 y6) (H + 1) z0 z1 z2 z3 z4 z5 z6) := below_lay7 (below_lay7 hB2 HH.out.1 y0 y1 y2 y3 y4 y5 y6) (Nat.le_trans HH.out.1 (Nat.le_succ _)) z0 z1 z2 z3 z4 z5 z6
    have hnt : ¬ (bt = H ∨ bt = H + 1) := fun e => by have := HH.out.2.2.1; omega
    have hnc : ¬ (bc = H ∨ bc = H + 1) := fun e => by have := HH.out.2.2.2; omega
    replace t0 := (kl.cell (p := ⟨bt, 0, none⟩) HB3.out.1 hnt).trans t0
    replace t1 := (kl.cell (p := ⟨bt, 1, none⟩) HB3.out.1 hnt).trans t1
    replace t2 := (kl.cell (p := ⟨bt, 2, none⟩) HB3.out.1 hnt).trans t2
    replace c0 := (kl.cell (p := ⟨bc, 0, none⟩) HB3.out.2 hnc).trans c0
    have HS4 : Hid (W.heap.size ≤ (lay7 (lay7 w3 H y0 y1 y2 y3 y4 y5 y6) (H + 1) z0 z1 z2 z3 z4 z5 z6).heap.size) := Nat.le_trans HS3.out kl.size
    clear kl r0 r1 r2 r3 r4 r5 r6 q0 q1 q2 q3 q4 q5 q6 zh zg lh lg HJ3 HBase HS3 HB3 hB2 hnt hnc
    generalize hV : lay7 (lay7 w3 H y0 y1 y2 y3 y4 y5 y6) (H + 1) z0 z1 z2 z3 z4 z5 z6 = V at HJ4 XH XG hB4 t0 t1 t2 c0 HS4
    unfold lay7 at hV
    rw [hV]
    clear hV
    gi_roundg q
    case measure => exact Nat.lt_succ_self _
    case rel => exact ⟨_, T2, y0, y1, y2, y3, y4, y5, y6, z0, z1, z2, z3, z4, z5, z6, HL3, HQ3, HJ4, XH, XG, t0, t1, t2, c0, hB4, HS4, HW3, HNT2⟩
end Go.Proofs.Ytihgpllbgliplaa
