/- What the document's Walk answers. -/
import Derived.Test.YtihgpllbgliplaaPathRefs
import Derived.Deep.Onto
namespace Go.Proofs.Ytihgpllbgliplaa
open Go.ChangeShapes Go.WideShapes Go.ChangeAt Go.RowKit Pk Cf Pa
set_option linter.unusedVariables false
set_option linter.unusedSimpArgs false

theorem Lies.grownO {w w' : World} {C : Nat} {g : Option Nat} {l : List Int} (X : Lies w C l) (hg : w.grownBy w' g) (h : ∀ k, g = some k → C ≠ k) : Lies w' C l := by
  have hk := hg.block C X.lt (fun e => h C e.symm rfl)
  exact ⟨Nat.lt_of_lt_of_le X.lt hg.size, fun j x hx => (World.cell?_of_block (a := ⟨C, j, none⟩) hk).trans (X.cells j x hx), fun j => (World.frozen?_of_block (a := ⟨C, j, none⟩) hk).trans (X.fz j)⟩
theorem infoH13 : (Try.prog.info? 34).map (fun i => (i.zero, i.size, i.bytes)) = some (some (.agg #[.int .i64 0, .int .i64 0, .int .i64 0, .int .i64 0, .int .i64 0, .int .i64 0, .int .i64 0]), 7, 56) := by kernel_rfl
/-- what is left of a walk: the hops so far, and those of where it stands -/
structure Left (s n : Int) (l : List Tp.Lk) (C : Cnf) (R : List Hp) (m : Nat) (g : Fl) (ys : List Hp) : Prop where
  is : ys ++ walkF s n l C m g = R
  ttl : g.ttl < (m : Int)
  room : ys.length + m ≤ 17
  wf : WfF g
  pos : 1 ≤ m
theorem left_start (s n : Int) (l : List Tp.Lk) (C : Cnf) {f : Fl} (hf : WfF f) : Left s n l C (walkP s n l C f) 17 (cap f) [] :=
  ⟨rfl, by show min f.ttl 16 < _; omega, by simp, cap_wf hf, by decide⟩
theorem left_end {s n : Int} {l : List Tp.Lk} {C : Cnf} {R : List Hp} {m : Nat} {g : Fl} {ys : List Hp} (h : Left s n l C R m g ys) {p : Hp × Fl} (hp : stepP s n l C g = p) (hw : p.1.what ≠ 0) : ys ++ [p.1] = R := by
  subst hp
  obtain ⟨m, rfl⟩ : ∃ i, m = i + 1 := ⟨m - 1, by have := h.pos; omega⟩
  have := h.is
  rw [walk_succ, if_neg hw] at this
  exact this
theorem left_next {s n : Int} {l : List Tp.Lk} {C : Cnf} {R : List Hp} {m : Nat} {g : Fl} {ys : List Hp} (hl : WfL l) (hC : WfC C) (h : Left s n l C R m g ys) {p : Hp × Fl} (hp : stepP s n l C g = p) (hw : p.1.what = 0) : ∃ k, Left s n l C R k p.2 (ys ++ [p.1]) ∧ p.2.ttl = g.ttl - 1 ∧ 1 ≤ g.ttl := by
  subst hp
  obtain ⟨m, rfl⟩ : ∃ i, m = i + 1 := ⟨m - 1, by have := h.pos; omega⟩
  rcases step_ways s n l C g with ⟨h1, _⟩ | ⟨_, h2, u, v, e⟩
  · exact absurd hw h1
  · have ht := h.ttl
    have hr := h.room
    refine ⟨m, ⟨?_, ?_, ?_, (step_wf hl hC h.wf).2, by omega⟩, by rw [e], h2⟩
    · have := h.is
      rw [walk_succ, if_pos hw] at this
      simpa using this
    · rw [e]; show g.ttl - 1 < _; omega
    · simp only [List.length_append, List.length_cons, List.length_nil]; omega
theorem own_far7 {B e n : Nat} {v : Value} {xs : List Value} {w : World} (h : w.ownsRow B e 7 v n xs) {b : Nat} (hb : b < B) (y0 y1 y2 y3 y4 y5 y6 : Int) : (lay7 w b y0 y1 y2 y3 y4 y5 y6).ownsRow B e 7 v n xs := by
  refine ⟨h.1, ?_⟩
  rcases h.2 with h0 | ⟨g, cap, cur, hv, hbg, hg, rest⟩
  · exact .inl h0
  · have o : ∀ (w : World) (i : Nat) (u : Value), (w.setCell ⟨b, i, none⟩ u).heap[g]? = w.heap[g]? := fun w i u => heap_setCell_other w ⟨b, i, none⟩ g u (by show g ≠ b; omega)
    refine .inr ⟨g, cap, cur, hv, hbg, ?_, rest⟩
    unfold lay7
    rw [o, o, o, o, o, o, o]
    exact hg
theorem cell_far7 (w : World) {b b2 : Nat} (hb : b2 ≠ b) (j : Nat) (y0 y1 y2 y3 y4 y5 y6 : Int) : (lay7 w b y0 y1 y2 y3 y4 y5 y6).cell? ⟨b2, j, none⟩ = w.cell? ⟨b2, j, none⟩ := by
  have o : ∀ (w : World) (i : Nat) (u : Value), (w.setCell ⟨b, i, none⟩ u).cell? ⟨b2, j, none⟩ = w.cell? ⟨b2, j, none⟩ := fun w i u => World.cell?_setCell_other w ⟨b, i, none⟩ ⟨b2, j, none⟩ u (by intro g; injection g with g1; exact hb g1.symm)
  unfold lay7
  rw [o, o, o, o, o, o, o]
theorem ownsRow_low {B B2 e n : Nat} {v : Value} {xs : List Value} {w : World} (h : w.ownsRow B e 7 v n xs) (hb : B2 ≤ B) : w.ownsRow B2 e 7 v n xs := by
  exact h.mono hb
section
variable (s n : Int) (w : World) {x a : Option Addr} {c k : Nat} {l : List Tp.Lk} {C : Cnf}
set_option maxRecDepth 100000 in
set_option maxHeartbeats 8000000 in
theorem rwalk_big (RT : Rds Tp.fK 4 w x c l) (V : Lists w a k C) (hb60 : ∀ r ∈ C, r.length ≤ 60) (fi fs fd ft fg fw fp : Int) (h16 : 16 < ft) (R : List Hp) (HL : Hid (Left s n l C R 17 ⟨fi, fs, fd, 16, fg, fw, fp⟩ [])) (HWL : Hid (WfL l)) (HWC : Hid (WfC C)) :
    Calls Try.prog 16 #[.agg #[.int .i64 s, .int .i64 n, .slice x l.length c], .slice a C.length k, .agg #[.int .i64 fi, .int .i64 fs, .int .i64 fd, .int .i64 ft, .int .i64 fg, .int .i64 fw, .int .i64 fp]] w fun e w' => ∃ u, e = .returned u ∧ w'.ownsRow w.heap.size 34 7 u R.length (flatV fH R) ∧ Below w.heap.size w w' := by
  have h0 := below_new w (.cells #[.int .i64 s, .int .i64 n, .slice x l.length c] 24)
  have h1 := below_new (w.alloc (.cells #[.int .i64 s, .int .i64 n, .slice x l.length c] 24)) (.cells #[.int .i64 fi, .int .i64 fs, .int .i64 fd, .int .i64 16, .int .i64 fg, .int .i64 fw, .int .i64 fp] 30)
  obtain ⟨t0, t1, t2⟩ := box3 w (.int .i64 s) (.int .i64 n) (.slice x l.length c) 24
  have lt : w.heap.size < (w.alloc (.cells #[.int .i64 s, .int .i64 n, .slice x l.length c] 24)).heap.size := by simp
  replace t0 := (h1.cell (p := ⟨w.heap.size, 0, none⟩) lt).trans t0
  replace t1 := (h1.cell (p := ⟨w.heap.size, 1, none⟩) lt).trans t1
  replace t2 := (h1.cell (p := ⟨w.heap.size, 2, none⟩) lt).trans t2
  have X : Lies ((w.alloc (.cells #[.int .i64 s, .int .i64 n, .slice x l.length c] 24)).alloc (.cells #[.int .i64 fi, .int .i64 fs, .int .i64 fd, .int .i64 16, .int .i64 fg, .int .i64 fw, .int .i64 fp] 30)) (w.heap.size + 1) [fi, fs, fd, 16, fg, fw, fp] := Lies.new (w.alloc (.cells #[.int .i64 s, .int .i64 n, .slice x l.length c] 24)) [fi, fs, fd, 16, fg, fw, fp] 30 (by simp)
  have hB := below_step h0 h1
  clear h0 h1 lt
  go_enter Try.func16, Try.ntmps16
  go_wp2_with fail
  generalize ((w.alloc (.cells #[.int .i64 s, .int .i64 n, .slice x l.length c] 24)).alloc (.cells #[.int .i64 fi, .int .i64 fs, .int .i64 fd, .int .i64 16, .int .i64 fg, .int .i64 fw, .int .i64 fp] 30)) = W at t0 t1 t2 X hB ⊢
  go_loopw [7] (fun v wr => ∃ (m : Nat) (g : Fl) (ys : List Hp), wr.ownsRow W.heap.size 34 7 v ys.length (flatV fH ys) ∧ Lies wr (w.heap.size + 1) (fF g) ∧ Left s n l C R m g ys ∧ Below w.heap.size w wr ∧ W.heap.size ≤ wr.heap.size ∧ (wr.cell? ⟨w.heap.size, 0, none⟩ = some (.int .i64 s) ∧ wr.cell? ⟨w.heap.size, 1, none⟩ = some (.int .i64 n) ∧ wr.cell? ⟨w.heap.size, 2, none⟩ = some (.slice x l.length c))) (fun _ wr => match wr.cell? ⟨w.heap.size + 1, 3, none⟩ with | some (.int _ z) => z.toNat | _ => 0)
  case atStart => exact ⟨17, ⟨fi, fs, fd, 16, fg, fw, fp⟩, [], World.ownsRow_nil _ _ _ _, X, HL.out, hB, Nat.le_refl _, t0, t1, t2⟩
  case round =>
    have hNW : w.heap.size + 1 < W.heap.size := X.lt
    clear X t0 t1 t2 hB
    obtain ⟨m, g, ys, own, X, HLe, hbr, hsW, t0, t1, t2⟩ := hrel
    have hN := X.lt
    have cS := rstep_any s n wr (RT.later hbr) (V.later hbr) hb60 g HLe.wf
    obtain ⟨st, hst⟩ : ∃ p, stepP s n l C g = p := ⟨_, rfl⟩
    rw [hst] at cS
    have HEnd : Hid (st.1.what ≠ 0 → ys ++ [st.1] = R) := fun h => left_end HLe hst h
    have HNext : Hid (st.1.what = 0 → ∃ k, Left s n l C R k st.2 (ys ++ [st.1]) ∧ st.2.ttl = g.ttl - 1 ∧ 1 ≤ g.ttl) := fun h => left_next HWL.out HWC.out HLe hst h
    have hroom : ys.length + 1 ≤ 17 := by have h := HLe.room; have h2 := HLe.pos; omega
    clear hst HLe
    obtain ⟨⟨ha, hb, hc, hd, he, hf, hg⟩, ⟨oa, ob, oc, od, oe, og, oh⟩⟩ := st
    obtain ⟨gi, gs, gd, gt, gg, gw, gp⟩ := g
    dsimp only [fF] at X
    dsimp only at cS HEnd HNext
    obtain ⟨r0, r1, r2, r3, r4, r5, r6⟩ := X.seven
    have hmeas := r3
    go_wp2_with fail
    refine cS.mono ?_
    clear cS r0 r1 r2 r3 r4 r5 r6
    rintro e w4 ⟨rfl, hb4⟩
    replace X := X.later hb4
    replace hbr := below_step hbr hb4
    replace t0 := (hb4.cell (p := ⟨w.heap.size, 0, none⟩) (Nat.lt_of_succ_lt hN)).trans t0
    replace t1 := (hb4.cell (p := ⟨w.heap.size, 1, none⟩) (Nat.lt_of_succ_lt hN)).trans t1
    replace t2 := (hb4.cell (p := ⟨w.heap.size, 2, none⟩) (Nat.lt_of_succ_lt hN)).trans t2
    have own4 := own_laterR own hb4
    have hlt := fun k hk => own.lt k hk
    have h4s := hb4.size
    clear own hb4
    have hA := below_new w4 (.cells #[.int .i64 ha, .int .i64 hb, .int .i64 hc, .int .i64 hd, .int .i64 he, .int .i64 hf, .int .i64 hg] 34)
    have hA2 := below_step hA (below_new (w4.alloc (.cells #[.int .i64 ha, .int .i64 hb, .int .i64 hc, .int .i64 hd, .int .i64 he, .int .i64 hf, .int .i64 hg] 34)) (.cells #[.int .i64 oa, .int .i64 ob, .int .i64 oc, .int .i64 od, .int .i64 oe, .int .i64 og, .int .i64 oh] 30))
    have hA3 := below_step hA2 (below_new ((w4.alloc (.cells #[.int .i64 ha, .int .i64 hb, .int .i64 hc, .int .i64 hd, .int .i64 he, .int .i64 hf, .int .i64 hg] 34)).alloc (.cells #[.int .i64 oa, .int .i64 ob, .int .i64 oc, .int .i64 od, .int .i64 oe, .int .i64 og, .int .i64 oh] 30)) (.cells #[.int .i64 ha, .int .i64 hb, .int .i64 hc, .int .i64 hd, .int .i64 he, .int .i64 hf, .int .i64 hg] 34))
    have XH : Lies (w4.alloc (.cells #[.int .i64 ha, .int .i64 hb, .int .i64 hc, .int .i64 hd, .int .i64 he, .int .i64 hf, .int .i64 hg] 34)) w4.heap.size [ha, hb, hc, hd, he, hf, hg] := Lies.new w4 [ha, hb, hc, hd, he, hf, hg] 34 rfl
    replace XH := (XH.later (below_new (w4.alloc (.cells #[.int .i64 ha, .int .i64 hb, .int .i64 hc, .int .i64 hd, .int .i64 he, .int .i64 hf, .int .i64 hg] 34)) (.cells #[.int .i64 oa, .int .i64 ob, .int .i64 oc, .int .i64 od, .int .i64 oe, .int .i64 og, .int .i64 oh] 30))).later (below_new ((w4.alloc (.cells #[.int .i64 ha, .int .i64 hb, .int .i64 hc, .int .i64 hd, .int .i64 he, .int .i64 hf, .int .i64 hg] 34)).alloc (.cells #[.int .i64 oa, .int .i64 ob, .int .i64 oc, .int .i64 od, .int .i64 oe, .int .i64 og, .int .i64 oh] 30)) (.cells #[.int .i64 ha, .int .i64 hb, .int .i64 hc, .int .i64 hd, .int .i64 he, .int .i64 hf, .int .i64 hg] 34))
    have XG : Lies ((w4.alloc (.cells #[.int .i64 ha, .int .i64 hb, .int .i64 hc, .int .i64 hd, .int .i64 he, .int .i64 hf, .int .i64 hg] 34)).alloc (.cells #[.int .i64 oa, .int .i64 ob, .int .i64 oc, .int .i64 od, .int .i64 oe, .int .i64 og, .int .i64 oh] 30)) (w4.heap.size + 1) [oa, ob, oc, od, oe, og, oh] := Lies.new (w4.alloc (.cells #[.int .i64 ha, .int .i64 hb, .int .i64 hc, .int .i64 hd, .int .i64 he, .int .i64 hf, .int .i64 hg] 34)) [oa, ob, oc, od, oe, og, oh] 30 (by simp)
    replace XG := XG.later (below_new ((w4.alloc (.cells #[.int .i64 ha, .int .i64 hb, .int .i64 hc, .int .i64 hd, .int .i64 he, .int .i64 hf, .int .i64 hg] 34)).alloc (.cells #[.int .i64 oa, .int .i64 ob, .int .i64 oc, .int .i64 od, .int .i64 oe, .int .i64 og, .int .i64 oh] 30)) (.cells #[.int .i64 ha, .int .i64 hb, .int .i64 hc, .int .i64 hd, .int .i64 he, .int .i64 hf, .int .i64 hg] 34))
    replace X := X.later hA3
    have own5 := own_laterR own4 hA2
    have hs2 : W.heap.size ≤ ((w4.alloc (.cells #[.int .i64 ha, .int .i64 hb, .int .i64 hc, .int .i64 hd, .int .i64 he, .int .i64 hf, .int .i64 hg] 34)).alloc (.cells #[.int .i64 oa, .int .i64 ob, .int .i64 oc, .int .i64 od, .int .i64 oe, .int .i64 og, .int .i64 oh] 30)).heap.size := Nat.le_trans hsW (Nat.le_trans h4s hA2.size)
    go_wp2_with (at_builtin; refine wpRds_one fH_len (by decide) _ (⟨ha, hb, hc, hd, he, hf, hg⟩ : Hp) 34 rfl rfl (.tmp 23) (.tmp 25) 39 rfl W.heap.size 56 _ Try.underlying39 infoH13 rfl rfl own5 (by show Value.slice (some ⟨w4.heap.size + 1 + 1, 0, none⟩) 1 1 = _; simp) (by omega) (by omega) hs2 ?_; intro v9 w9 own9 hg9; apply Classical.byContradiction; intro hstop)
    replace X := X.grownO hg9 (fun k hk e => by have h := hlt k hk; omega)
    replace XH := XH.grownO hg9 (fun k hk e => by have h := hlt k hk; omega)
    replace XG := XG.grownO hg9 (fun k hk e => by have h := hlt k hk; omega)
    replace t0 := (World.cell?_of_block (a := ⟨w.heap.size, 0, none⟩) (hg9.block w.heap.size (by have h := hA3.size; omega) (fun e => by have h := hlt _ e.symm; omega))).trans ((hA3.cell (p := ⟨w.heap.size, 0, none⟩) (by show w.heap.size < w4.heap.size; omega)).trans t0)
    replace t1 := (World.cell?_of_block (a := ⟨w.heap.size, 1, none⟩) (hg9.block w.heap.size (by have h := hA3.size; omega) (fun e => by have h := hlt _ e.symm; omega))).trans ((hA3.cell (p := ⟨w.heap.size, 1, none⟩) (by show w.heap.size < w4.heap.size; omega)).trans t1)
    replace t2 := (World.cell?_of_block (a := ⟨w.heap.size, 2, none⟩) (hg9.block w.heap.size (by have h := hA3.size; omega) (fun e => by have h := hlt _ e.symm; omega))).trans ((hA3.cell (p := ⟨w.heap.size, 2, none⟩) (by show w.heap.size < w4.heap.size; omega)).trans t2)
    have hB9 := (below_step hbr hA3).grown hg9 (Nat.le_trans hbr.size hA3.size) (fun k hk => by have h := hlt k hk; omega)
    have hs9 : W.heap.size ≤ w9.heap.size := Nat.le_trans hs2 (Nat.le_trans (below_new _ _).size hg9.size)
    clear hA hA2 hA3 hbr own4 own5 hg9 hs2 hlt
    obtain ⟨p0, p1, p2, p3, p4, p5, p6⟩ := XH.seven
    clear XH
    obtain ⟨u0, u1, u2, u3, u4, u5, u6⟩ := XG.seven
    clear XG
    generalize w4.heap.size = N4 at p0 p1 p2 p3 p4 p5 p6 u0 u1 u2 u3 u4 u5 u6 h4s hstop
    apply hstop
    clear hstop
    by_cases hw : hf = 0
    · subst hw
      obtain ⟨m2, HL2, e2, e3⟩ := HNext.out rfl
      have E2 : Hid (od = gt - 1 ∧ 1 ≤ gt) := ⟨e2, e3⟩
      clear e2 e3
      clear HEnd HNext
      obtain ⟨r0, r1, r2, r3, r4, r5, r6⟩ := X.seven
      have z1 := X.fz
      have q1 := X.lt
      go_wp2_with fail
      have hB8 := below_lay7 hB9 (b := w.heap.size + 1) (by omega) oa ob oc od oe og oh
      replace X := X.put7 oa ob oc od oe og oh
      have own8 := own_far7 own9 (b := w.heap.size + 1) (by omega) oa ob oc od oe og oh
      replace t0 := (cell_far7 w9 (b := w.heap.size + 1) (b2 := w.heap.size) (by omega) 0 oa ob oc od oe og oh).trans t0
      replace t1 := (cell_far7 w9 (b := w.heap.size + 1) (b2 := w.heap.size) (by omega) 1 oa ob oc od oe og oh).trans t1
      replace t2 := (cell_far7 w9 (b := w.heap.size + 1) (b2 := w.heap.size) (by omega) 2 oa ob oc od oe og oh).trans t2
      have hs8 : W.heap.size ≤ (lay7 w9 (w.heap.size + 1) oa ob oc od oe og oh).heap.size := by unfold lay7; simp only [World.size_setCell]; exact hs9
      clear r0 r1 r2 r3 r4 r5 r6 z1 q1 own9 hB9
      generalize hV : lay7 w9 (w.heap.size + 1) oa ob oc od oe og oh = w8 at X own8 t0 t1 t2 hs8 hB8
      unfold lay7 at hV
      rw [hV]
      clear hV
      go_roundw
      case rel => exact ⟨m2, ⟨oa, ob, oc, od, oe, og, oh⟩, ys ++ [⟨ha, hb, hc, hd, he, 0, hg⟩], by simpa using own8, X, HL2, hB8, hs8, t0, t1, t2⟩
      case measure => rw [X.cells 3 _ rfl, hmeas]; have h := E2.out; simp only; omega
    · have hwb : (hf != 0) = true := by simpa using hw
      have HR := HEnd.out hw
      clear HEnd HNext X
      go_wp2_with fail
      go_ret
      exact ⟨_, rfl, by rw [← HR]; simpa using ownsRow_low own9 (Nat.le_of_lt (Nat.lt_of_succ_lt hNW)), hB9⟩
set_option maxRecDepth 100000 in
set_option maxHeartbeats 8000000 in
theorem rwalk_small (RT : Rds Tp.fK 4 w x c l) (V : Lists w a k C) (hb60 : ∀ r ∈ C, r.length ≤ 60) (fi fs fd ft fg fw fp : Int) (h16 : ¬ 16 < ft) (R : List Hp) (HL : Hid (Left s n l C R 17 ⟨fi, fs, fd, ft, fg, fw, fp⟩ [])) (HWL : Hid (WfL l)) (HWC : Hid (WfC C)) :
    Calls Try.prog 16 #[.agg #[.int .i64 s, .int .i64 n, .slice x l.length c], .slice a C.length k, .agg #[.int .i64 fi, .int .i64 fs, .int .i64 fd, .int .i64 ft, .int .i64 fg, .int .i64 fw, .int .i64 fp]] w fun e w' => ∃ u, e = .returned u ∧ w'.ownsRow w.heap.size 34 7 u R.length (flatV fH R) ∧ Below w.heap.size w w' := by
  have h0 := below_new w (.cells #[.int .i64 s, .int .i64 n, .slice x l.length c] 24)
  have h1 := below_new (w.alloc (.cells #[.int .i64 s, .int .i64 n, .slice x l.length c] 24)) (.cells #[.int .i64 fi, .int .i64 fs, .int .i64 fd, .int .i64 ft, .int .i64 fg, .int .i64 fw, .int .i64 fp] 30)
  obtain ⟨t0, t1, t2⟩ := box3 w (.int .i64 s) (.int .i64 n) (.slice x l.length c) 24
  have lt : w.heap.size < (w.alloc (.cells #[.int .i64 s, .int .i64 n, .slice x l.length c] 24)).heap.size := by simp
  replace t0 := (h1.cell (p := ⟨w.heap.size, 0, none⟩) lt).trans t0
  replace t1 := (h1.cell (p := ⟨w.heap.size, 1, none⟩) lt).trans t1
  replace t2 := (h1.cell (p := ⟨w.heap.size, 2, none⟩) lt).trans t2
  have X : Lies ((w.alloc (.cells #[.int .i64 s, .int .i64 n, .slice x l.length c] 24)).alloc (.cells #[.int .i64 fi, .int .i64 fs, .int .i64 fd, .int .i64 ft, .int .i64 fg, .int .i64 fw, .int .i64 fp] 30)) (w.heap.size + 1) [fi, fs, fd, ft, fg, fw, fp] := Lies.new (w.alloc (.cells #[.int .i64 s, .int .i64 n, .slice x l.length c] 24)) [fi, fs, fd, ft, fg, fw, fp] 30 (by simp)
  have hB := below_step h0 h1
  clear h0 h1 lt
  go_enter Try.func16, Try.ntmps16
  go_wp2_with fail
  generalize ((w.alloc (.cells #[.int .i64 s, .int .i64 n, .slice x l.length c] 24)).alloc (.cells #[.int .i64 fi, .int .i64 fs, .int .i64 fd, .int .i64 ft, .int .i64 fg, .int .i64 fw, .int .i64 fp] 30)) = W at t0 t1 t2 X hB ⊢
  go_loopw [7] (fun v wr => ∃ (m : Nat) (g : Fl) (ys : List Hp), wr.ownsRow W.heap.size 34 7 v ys.length (flatV fH ys) ∧ Lies wr (w.heap.size + 1) (fF g) ∧ Left s n l C R m g ys ∧ Below w.heap.size w wr ∧ W.heap.size ≤ wr.heap.size ∧ (wr.cell? ⟨w.heap.size, 0, none⟩ = some (.int .i64 s) ∧ wr.cell? ⟨w.heap.size, 1, none⟩ = some (.int .i64 n) ∧ wr.cell? ⟨w.heap.size, 2, none⟩ = some (.slice x l.length c))) (fun _ wr => match wr.cell? ⟨w.heap.size + 1, 3, none⟩ with | some (.int _ z) => z.toNat | _ => 0)
  case atStart => exact ⟨17, ⟨fi, fs, fd, ft, fg, fw, fp⟩, [], World.ownsRow_nil _ _ _ _, X, HL.out, hB, Nat.le_refl _, t0, t1, t2⟩
  case round =>
    have hNW : w.heap.size + 1 < W.heap.size := X.lt
    clear X t0 t1 t2 hB
    obtain ⟨m, g, ys, own, X, HLe, hbr, hsW, t0, t1, t2⟩ := hrel
    have hN := X.lt
    have cS := rstep_any s n wr (RT.later hbr) (V.later hbr) hb60 g HLe.wf
    obtain ⟨st, hst⟩ : ∃ p, stepP s n l C g = p := ⟨_, rfl⟩
    rw [hst] at cS
    have HEnd : Hid (st.1.what ≠ 0 → ys ++ [st.1] = R) := fun h => left_end HLe hst h
    have HNext : Hid (st.1.what = 0 → ∃ k, Left s n l C R k st.2 (ys ++ [st.1]) ∧ st.2.ttl = g.ttl - 1 ∧ 1 ≤ g.ttl) := fun h => left_next HWL.out HWC.out HLe hst h
    have hroom : ys.length + 1 ≤ 17 := by have h := HLe.room; have h2 := HLe.pos; omega
    clear hst HLe
    obtain ⟨⟨ha, hb, hc, hd, he, hf, hg⟩, ⟨oa, ob, oc, od, oe, og, oh⟩⟩ := st
    obtain ⟨gi, gs, gd, gt, gg, gw, gp⟩ := g
    dsimp only [fF] at X
    dsimp only at cS HEnd HNext
    obtain ⟨r0, r1, r2, r3, r4, r5, r6⟩ := X.seven
    have hmeas := r3
    go_wp2_with fail
    refine cS.mono ?_
    clear cS r0 r1 r2 r3 r4 r5 r6
    rintro e w4 ⟨rfl, hb4⟩
    replace X := X.later hb4
    replace hbr := below_step hbr hb4
    replace t0 := (hb4.cell (p := ⟨w.heap.size, 0, none⟩) (Nat.lt_of_succ_lt hN)).trans t0
    replace t1 := (hb4.cell (p := ⟨w.heap.size, 1, none⟩) (Nat.lt_of_succ_lt hN)).trans t1
    replace t2 := (hb4.cell (p := ⟨w.heap.size, 2, none⟩) (Nat.lt_of_succ_lt hN)).trans t2
    have own4 := own_laterR own hb4
    have hlt := fun k hk => own.lt k hk
    have h4s := hb4.size
    clear own hb4
    have hA := below_new w4 (.cells #[.int .i64 ha, .int .i64 hb, .int .i64 hc, .int .i64 hd, .int .i64 he, .int .i64 hf, .int .i64 hg] 34)
    have hA2 := below_step hA (below_new (w4.alloc (.cells #[.int .i64 ha, .int .i64 hb, .int .i64 hc, .int .i64 hd, .int .i64 he, .int .i64 hf, .int .i64 hg] 34)) (.cells #[.int .i64 oa, .int .i64 ob, .int .i64 oc, .int .i64 od, .int .i64 oe, .int .i64 og, .int .i64 oh] 30))
    have hA3 := below_step hA2 (below_new ((w4.alloc (.cells #[.int .i64 ha, .int .i64 hb, .int .i64 hc, .int .i64 hd, .int .i64 he, .int .i64 hf, .int .i64 hg] 34)).alloc (.cells #[.int .i64 oa, .int .i64 ob, .int .i64 oc, .int .i64 od, .int .i64 oe, .int .i64 og, .int .i64 oh] 30)) (.cells #[.int .i64 ha, .int .i64 hb, .int .i64 hc, .int .i64 hd, .int .i64 he, .int .i64 hf, .int .i64 hg] 34))
    have XH : Lies (w4.alloc (.cells #[.int .i64 ha, .int .i64 hb, .int .i64 hc, .int .i64 hd, .int .i64 he, .int .i64 hf, .int .i64 hg] 34)) w4.heap.size [ha, hb, hc, hd, he, hf, hg] := Lies.new w4 [ha, hb, hc, hd, he, hf, hg] 34 rfl
    replace XH := (XH.later (below_new (w4.alloc (.cells #[.int .i64 ha, .int .i64 hb, .int .i64 hc, .int .i64 hd, .int .i64 he, .int .i64 hf, .int .i64 hg] 34)) (.cells #[.int .i64 oa, .int .i64 ob, .int .i64 oc, .int .i64 od, .int .i64 oe, .int .i64 og, .int .i64 oh] 30))).later (below_new ((w4.alloc (.cells #[.int .i64 ha, .int .i64 hb, .int .i64 hc, .int .i64 hd, .int .i64 he, .int .i64 hf, .int .i64 hg] 34)).alloc (.cells #[.int .i64 oa, .int .i64 ob, .int .i64 oc, .int .i64 od, .int .i64 oe, .int .i64 og, .int .i64 oh] 30)) (.cells #[.int .i64 ha, .int .i64 hb, .int .i64 hc, .int .i64 hd, .int .i64 he, .int .i64 hf, .int .i64 hg] 34))
    have XG : Lies ((w4.alloc (.cells #[.int .i64 ha, .int .i64 hb, .int .i64 hc, .int .i64 hd, .int .i64 he, .int .i64 hf, .int .i64 hg] 34)).alloc (.cells #[.int .i64 oa, .int .i64 ob, .int .i64 oc, .int .i64 od, .int .i64 oe, .int .i64 og, .int .i64 oh] 30)) (w4.heap.size + 1) [oa, ob, oc, od, oe, og, oh] := Lies.new (w4.alloc (.cells #[.int .i64 ha, .int .i64 hb, .int .i64 hc, .int .i64 hd, .int .i64 he, .int .i64 hf, .int .i64 hg] 34)) [oa, ob, oc, od, oe, og, oh] 30 (by simp)
    replace XG := XG.later (below_new ((w4.alloc (.cells #[.int .i64 ha, .int .i64 hb, .int .i64 hc, .int .i64 hd, .int .i64 he, .int .i64 hf, .int .i64 hg] 34)).alloc (.cells #[.int .i64 oa, .int .i64 ob, .int .i64 oc, .int .i64 od, .int .i64 oe, .int .i64 og, .int .i64 oh] 30)) (.cells #[.int .i64 ha, .int .i64 hb, .int .i64 hc, .int .i64 hd, .int .i64 he, .int .i64 hf, .int .i64 hg] 34))
    replace X := X.later hA3
    have own5 := own_laterR own4 hA2
    have hs2 : W.heap.size ≤ ((w4.alloc (.cells #[.int .i64 ha, .int .i64 hb, .int .i64 hc, .int .i64 hd, .int .i64 he, .int .i64 hf, .int .i64 hg] 34)).alloc (.cells #[.int .i64 oa, .int .i64 ob, .int .i64 oc, .int .i64 od, .int .i64 oe, .int .i64 og, .int .i64 oh] 30)).heap.size := Nat.le_trans hsW (Nat.le_trans h4s hA2.size)
    go_wp2_with (at_builtin; refine wpRds_one fH_len (by decide) _ (⟨ha, hb, hc, hd, he, hf, hg⟩ : Hp) 34 rfl rfl (.tmp 23) (.tmp 25) 39 rfl W.heap.size 56 _ Try.underlying39 infoH13 rfl rfl own5 (by show Value.slice (some ⟨w4.heap.size + 1 + 1, 0, none⟩) 1 1 = _; simp) (by omega) (by omega) hs2 ?_; intro v9 w9 own9 hg9; apply Classical.byContradiction; intro hstop)
    replace X := X.grownO hg9 (fun k hk e => by have h := hlt k hk; omega)
    replace XH := XH.grownO hg9 (fun k hk e => by have h := hlt k hk; omega)
    replace XG := XG.grownO hg9 (fun k hk e => by have h := hlt k hk; omega)
    replace t0 := (World.cell?_of_block (a := ⟨w.heap.size, 0, none⟩) (hg9.block w.heap.size (by have h := hA3.size; omega) (fun e => by have h := hlt _ e.symm; omega))).trans ((hA3.cell (p := ⟨w.heap.size, 0, none⟩) (by show w.heap.size < w4.heap.size; omega)).trans t0)
    replace t1 := (World.cell?_of_block (a := ⟨w.heap.size, 1, none⟩) (hg9.block w.heap.size (by have h := hA3.size; omega) (fun e => by have h := hlt _ e.symm; omega))).trans ((hA3.cell (p := ⟨w.heap.size, 1, none⟩) (by show w.heap.size < w4.heap.size; omega)).trans t1)
    replace t2 := (World.cell?_of_block (a := ⟨w.heap.size, 2, none⟩) (hg9.block w.heap.size (by have h := hA3.size; omega) (fun e => by have h := hlt _ e.symm; omega))).trans ((hA3.cell (p := ⟨w.heap.size, 2, none⟩) (by show w.heap.size < w4.heap.size; omega)).trans t2)
    have hB9 := (below_step hbr hA3).grown hg9 (Nat.le_trans hbr.size hA3.size) (fun k hk => by have h := hlt k hk; omega)
    have hs9 : W.heap.size ≤ w9.heap.size := Nat.le_trans hs2 (Nat.le_trans (below_new _ _).size hg9.size)
    clear hA hA2 hA3 hbr own4 own5 hg9 hs2 hlt
    obtain ⟨p0, p1, p2, p3, p4, p5, p6⟩ := XH.seven
    clear XH
    obtain ⟨u0, u1, u2, u3, u4, u5, u6⟩ := XG.seven
    clear XG
    generalize w4.heap.size = N4 at p0 p1 p2 p3 p4 p5 p6 u0 u1 u2 u3 u4 u5 u6 h4s hstop
    apply hstop
    clear hstop
    by_cases hw : hf = 0
    · subst hw
      obtain ⟨m2, HL2, e2, e3⟩ := HNext.out rfl
      have E2 : Hid (od = gt - 1 ∧ 1 ≤ gt) := ⟨e2, e3⟩
      clear e2 e3
      clear HEnd HNext
      obtain ⟨r0, r1, r2, r3, r4, r5, r6⟩ := X.seven
      have z1 := X.fz
      have q1 := X.lt
      go_wp2_with fail
      have hB8 := below_lay7 hB9 (b := w.heap.size + 1) (by omega) oa ob oc od oe og oh
      replace X := X.put7 oa ob oc od oe og oh
      have own8 := own_far7 own9 (b := w.heap.size + 1) (by omega) oa ob oc od oe og oh
      replace t0 := (cell_far7 w9 (b := w.heap.size + 1) (b2 := w.heap.size) (by omega) 0 oa ob oc od oe og oh).trans t0
      replace t1 := (cell_far7 w9 (b := w.heap.size + 1) (b2 := w.heap.size) (by omega) 1 oa ob oc od oe og oh).trans t1
      replace t2 := (cell_far7 w9 (b := w.heap.size + 1) (b2 := w.heap.size) (by omega) 2 oa ob oc od oe og oh).trans t2
      have hs8 : W.heap.size ≤ (lay7 w9 (w.heap.size + 1) oa ob oc od oe og oh).heap.size := by unfold lay7; simp only [World.size_setCell]; exact hs9
      clear r0 r1 r2 r3 r4 r5 r6 z1 q1 own9 hB9
      generalize hV : lay7 w9 (w.heap.size + 1) oa ob oc od oe og oh = w8 at X own8 t0 t1 t2 hs8 hB8
      unfold lay7 at hV
      rw [hV]
      clear hV
      go_roundw
      case rel => exact ⟨m2, ⟨oa, ob, oc, od, oe, og, oh⟩, ys ++ [⟨ha, hb, hc, hd, he, 0, hg⟩], by simpa using own8, X, HL2, hB8, hs8, t0, t1, t2⟩
      case measure => rw [X.cells 3 _ rfl, hmeas]; have h := E2.out; simp only; omega
    · have hwb : (hf != 0) = true := by simpa using hw
      have HR := HEnd.out hw
      clear HEnd HNext X
      go_wp2_with fail
      go_ret
      exact ⟨_, rfl, by rw [← HR]; simpa using ownsRow_low own9 (Nat.le_of_lt (Nat.lt_of_succ_lt hNW)), hB9⟩
theorem rwalk_any (RT : Rds Tp.fK 4 w x c l) (V : Lists w a k C) (hb60 : ∀ r ∈ C, r.length ≤ 60) (f : Fl) (hf : WfF f) :
    Calls Try.prog 16 #[.agg #[.int .i64 s, .int .i64 n, .slice x l.length c], .slice a C.length k, vF f] w fun e w' => ∃ u, e = .returned u ∧ w'.ownsRow w.heap.size 34 7 u (walkP s n l C f).length (flatV fH (walkP s n l C f)) ∧ Below w.heap.size w w' := by
  have HL := left_start s n l C hf
  generalize walkP s n l C f = R at HL ⊢
  obtain ⟨fi, fs, fd, ft, fg, fw, fp⟩ := f
  by_cases h16 : 16 < ft
  · rw [show cap (⟨fi, fs, fd, ft, fg, fw, fp⟩ : Fl) = ⟨fi, fs, fd, 16, fg, fw, fp⟩ by simp only [cap, Fl.mk.injEq, true_and, and_true]; omega] at HL
    exact rwalk_big s n w RT V hb60 fi fs fd ft fg fw fp h16 R HL (fun k hk => RT.wf k hk) (lists_wf V)
  · rw [show cap (⟨fi, fs, fd, ft, fg, fw, fp⟩ : Fl) = ⟨fi, fs, fd, ft, fg, fw, fp⟩ by simp only [cap, Fl.mk.injEq, true_and, and_true]; omega] at HL
    exact rwalk_small s n w RT V hb60 fi fs fd ft fg fw fp h16 R HL (fun k hk => RT.wf k hk) (lists_wf V)
end
end Go.Proofs.Ytihgpllbgliplaa
