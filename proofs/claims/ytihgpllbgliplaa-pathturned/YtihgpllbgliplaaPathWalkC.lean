/- What the code's Walk answers (the stand-in's shape: a range over the function that feeds the hops, each joined to a row in a box). -/
import Derived.Test.YtihgpllbgliplaaPathHops
import Derived.Lib.MinMax
namespace Go.Proofs.Ytihgpllbgliplaa
open Go.ChangeShapes Go.WideShapes Go.ChangeAt Go.RowKit Go.Shelf Pk Cf Pa
set_option linter.unusedVariables false
set_option linter.unusedSimpArgs false
attribute [local go_sem] Oper.semAt_some

theorem infoHW : (Try.prog.info? 34).map (fun i => (i.zero, i.size, i.bytes)) = some (some (.agg #[.int .i64 0, .int .i64 0, .int .i64 0, .int .i64 0, .int .i64 0, .int .i64 0, .int .i64 0]), 7, 56) := by kernel_rfl
theorem cells7 (W : World) (a b c d e f g : Value) (t : TypeId) : ∀ (j : Nat) (u : Value), [a, b, c, d, e, f, g][j]? = some u → (W.alloc (.cells #[a, b, c, d, e, f, g] t)).cell? ((⟨W.heap.size, 0, none⟩ : Addr).add j) = some u := fun j u hu =>
  World.news_of_block (heap_alloc_new W (.cells #[a, b, c, d, e, f, g] t)) j u (by simpa using hu)
theorem flatH_one (h : Hp) : flatV fH [h] = [.int .i64 h.tick, .int .i64 h.id, .int .i64 h.sw, .int .i64 h.i, .int .i64 h.tag, .int .i64 h.what, .int .i64 h.out] := rfl
theorem grow_keeps {W w1 : World} {tmp : Obj} {v : Value} {base e size k : Nat} {xs : List Value} (hr : W.ownsRow base e size v k xs) (hg : (W.alloc tmp).grownBy w1 v.ownBlock) : Keeps (fun j => v.ownBlock = some j) W w1 :=
  (Keeps.of_below (below_new W tmp)).trans (keeps_grown hg) (fun _ _ h => h)
theorem own_base {w : World} {base base2 e n sz : Nat} {v : Value} {xs : List Value} (h : w.ownsRow base e sz v n xs) (hb : base2 ≤ base) : w.ownsRow base2 e sz v n xs := by
  refine ⟨h.1, ?_⟩
  rcases h.2 with h0 | ⟨g, cap, cur, hv, hbg, rest⟩
  · exact .inl h0
  · exact .inr ⟨g, cap, cur, hv, Nat.le_trans hb hbg, rest⟩
section
variable (s n : Int) (w : World) {x a : Option Addr} {c k : Nat} {l : List Tp.Lk} {C : Cnf}
theorem wboxes (x : Option Addr) (m c : Nat) (a : Option Addr) (p k : Nat) (f0 f1 f2 f3 f4 f5 f6 : Int) :
    ∃ W, W = (((((w.alloc (.cells #[.int .i64 s, .int .i64 n, .slice x m c] 24)).alloc (.cells #[.int .i64 f0, .int .i64 f1, .int .i64 f2, .int .i64 f3, .int .i64 f4, .int .i64 f5, .int .i64 f6] 30)).alloc (.cells #[.slice none 0 0] 39)).alloc (.cells #[.int .i64 s, .int .i64 n, .slice x m c] 24)).alloc (.cells #[.slice a p k] 26)).alloc (.cells #[.int .i64 f0, .int .i64 f1, .int .i64 f2, .int .i64 f3, .int .i64 f4, .int .i64 f5, .int .i64 f6] 30) ∧
      W.heap.size = w.heap.size + 6 ∧ Below w.heap.size w W ∧ Boxed W (w.heap.size + 2) 39 (.slice none 0 0) ∧
      W.cell? ⟨w.heap.size + 3, 0, none⟩ = some (.int .i64 s) ∧ W.cell? ⟨w.heap.size + 3, 1, none⟩ = some (.int .i64 n) ∧ W.cell? ⟨w.heap.size + 3, 2, none⟩ = some (.slice x m c) ∧ W.cell? ⟨w.heap.size + 4, 0, none⟩ = some (.slice a p k) ∧ Lies W (w.heap.size + 5) [f0, f1, f2, f3, f4, f5, f6] := by
  refine ⟨_, rfl, by simp, ?_⟩
  obtain ⟨A, hA⟩ : ∃ A, (w.alloc (.cells #[.int .i64 s, .int .i64 n, .slice x m c] 24)).alloc (.cells #[.int .i64 f0, .int .i64 f1, .int .i64 f2, .int .i64 f3, .int .i64 f4, .int .i64 f5, .int .i64 f6] 30) = A := ⟨_, rfl⟩
  have hb := below_step (below_new w (.cells #[.int .i64 s, .int .i64 n, .slice x m c] 24)) (below_new _ (.cells #[.int .i64 f0, .int .i64 f1, .int .i64 f2, .int .i64 f3, .int .i64 f4, .int .i64 f5, .int .i64 f6] 30))
  have hs : A.heap.size = w.heap.size + 2 := by rw [← hA]; simp
  rw [hA] at hb ⊢
  clear hA
  have bx := Boxed.new A 39 (.slice none 0 0)
  rw [hs] at bx
  have hb1 := below_new A (.cells #[.slice none 0 0] 39)
  have hs1 : (A.alloc (.cells #[.slice none 0 0] 39)).heap.size = w.heap.size + 3 := by rw [World.size_alloc, hs]
  generalize A.alloc (.cells #[.slice none 0 0] 39) = A1 at bx hb1 hs1 ⊢
  obtain ⟨t0, t1, t2⟩ := box3 A1 (.int .i64 s) (.int .i64 n) (.slice x m c) 24
  have hb2 := below_new A1 (.cells #[.int .i64 s, .int .i64 n, .slice x m c] 24)
  have hs2 : (A1.alloc (.cells #[.int .i64 s, .int .i64 n, .slice x m c] 24)).heap.size = w.heap.size + 4 := by rw [World.size_alloc, hs1]
  rw [hs1] at t0 t1 t2
  replace bx := bx.alloc (.cells #[.int .i64 s, .int .i64 n, .slice x m c] 24)
  generalize A1.alloc (.cells #[.int .i64 s, .int .i64 n, .slice x m c] 24) = A2 at bx hb2 hs2 t0 t1 t2 ⊢
  have c0 := (Boxed.new A2 26 (.slice a p k)).cell
  rw [hs2] at c0
  have hb3 := below_new A2 (.cells #[.slice a p k] 26)
  have hs3 : (A2.alloc (.cells #[.slice a p k] 26)).heap.size = w.heap.size + 5 := by rw [World.size_alloc, hs2]
  replace t0 := (hb3.cell (p := ⟨w.heap.size + 3, 0, none⟩) (by show w.heap.size + 3 < _; omega)).trans t0
  replace t1 := (hb3.cell (p := ⟨w.heap.size + 3, 1, none⟩) (by show w.heap.size + 3 < _; omega)).trans t1
  replace t2 := (hb3.cell (p := ⟨w.heap.size + 3, 2, none⟩) (by show w.heap.size + 3 < _; omega)).trans t2
  replace bx := bx.alloc (.cells #[.slice a p k] 26)
  generalize A2.alloc (.cells #[.slice a p k] 26) = A3 at bx hb3 hs3 t0 t1 t2 c0 ⊢
  have hb4 := below_new A3 (.cells #[.int .i64 f0, .int .i64 f1, .int .i64 f2, .int .i64 f3, .int .i64 f4, .int .i64 f5, .int .i64 f6] 30)
  have X : Lies (A3.alloc (.cells #[.int .i64 f0, .int .i64 f1, .int .i64 f2, .int .i64 f3, .int .i64 f4, .int .i64 f5, .int .i64 f6] 30)) (w.heap.size + 5) [f0, f1, f2, f3, f4, f5, f6] := Lies.new A3 [f0, f1, f2, f3, f4, f5, f6] 30 hs3
  exact ⟨below_step (below_step (below_step (below_step hb hb1) hb2) hb3) hb4, bx.alloc _, (hb4.cell (p := ⟨w.heap.size + 3, 0, none⟩) (by show w.heap.size + 3 < _; omega)).trans t0, (hb4.cell (p := ⟨w.heap.size + 3, 1, none⟩) (by show w.heap.size + 3 < _; omega)).trans t1, (hb4.cell (p := ⟨w.heap.size + 3, 2, none⟩) (by show w.heap.size + 3 < _; omega)).trans t2, (hb4.cell (p := ⟨w.heap.size + 4, 0, none⟩) (by show w.heap.size + 4 < _; omega)).trans c0, X⟩
theorem entersH : ∀ args w, (callFunc 36 args).run Try.prog w = .ok (.enter 36 args) w := enters_of Try.func36 (by kernel_rfl) rfl
set_option maxRecDepth 100000 in
set_option maxHeartbeats 4000000 in
theorem walkC_any (hS : StepOk s n x c l a k C w) (hWl : WfL l) (hWC : WfC C) (f : Fl) (hf : WfF f) :
    Calls Try.prog 15 #[.agg #[.int .i64 s, .int .i64 n, .slice x l.length c], .slice a C.length k, vF f] w fun e w' => ∃ u, e = .returned u ∧ w'.ownsRow w.heap.size 34 7 u (walkP s n l C f).length (flatV fH (walkP s n l C f)) ∧ Below w.heap.size w w' := by
  refine (callsIn_wide (n := 4)).1 ?_
  obtain ⟨i0, hi, hz0, hz1, hz2⟩ := info_parts infoHW
  have hro : Fence.wide.round = none := rfl
  obtain ⟨fi, fs, fd, ft, fg, fw, fp⟩ := f
  have hwc : WfF ⟨fi, fs, fd, min ft 16, fg, fw, fp⟩ := cap_wf hf
  have hlt : min ft 16 < 17 := by omega
  have hL : walkP s n l C ⟨fi, fs, fd, ft, fg, fw, fp⟩ = walkF s n l C 17 ⟨fi, fs, fd, min ft 16, fg, fw, fp⟩ := rfl
  rw [hL]
  have hlen := (walk_len (s := s) (n := n) (l := l) (C := C) 17 ⟨fi, fs, fd, min ft 16, fg, fw, fp⟩).1
  obtain ⟨W, hW, hsz, hB, box, t0, t1, t2, c0, X⟩ := wboxes s n w x l.length c a C.length k fi fs fd (min ft 16) fg fw fp
  have hF := hops_feeds w W hS hWl hWC (bt := w.heap.size + 3) (bc := w.heap.size + 4) (bf := w.heap.size + 5) (by omega) (by omega) (by omega) t0 t1 t2 c0 (by omega) (by omega) X hB hwc hlt
  generalize walkF s n l C 17 ⟨fi, fs, fd, min ft 16, fg, fw, fp⟩ = L at hF hlen ⊢
  have ca := fun u => callsIn_wide (n := 4 - 1) |>.2 (hops_any s n x l.length c a C.length k fi fs fd (min ft 16) fg fw fp u)
  clear hS hWl hWC hf hwc hL t0 t1 t2 c0 X
  dsimp only [vF]
  refine callsIn_of_wp_marks Try.func15 rfl trivial ?_ hro
  simp only [Try.ntmps15, List.size_toArray, List.length_cons, List.length_nil, Nat.reduceAdd, Nat.reduceSub, Array.replicate_succ, Array.replicate_zero, List.push_toArray, List.append_toArray, List.nil_append, List.cons_append]
  gi_wp2_with (refine ⟨trivial, ?_⟩; gi_at_call 25; refine (ca _).mono ?_; rintro e w' ⟨rfl, rfl⟩)
  rw [← hW]
  clear hW ca
  refine wpIn_hops (we := w) (B0 := w.heap.size + 2) (by decide) rfl entersH hF hB (by omega) (fun j hj => by rcases hj with h | h | h <;> omega) (fun h => by rcases h with h | h | h <;> omega) box ?round ?done
  case round =>
    clear hsz
    rintro ly m h pre v V hly hv hr hpre hws
    obtain ⟨h0, h1, h2, h3, h4, h5, h6⟩ := h
    dsimp only [vH]
    have XH : Lies (V.alloc (.cells #[.int .i64 h0, .int .i64 h1, .int .i64 h2, .int .i64 h3, .int .i64 h4, .int .i64 h5, .int .i64 h6] 34)) V.heap.size [h0, h1, h2, h3, h4, h5, h6] := Lies.new V [h0, h1, h2, h3, h4, h5, h6] 34 rfl
    gi_wp2
    refine ⟨below_new _ _, ?_⟩
    rintro W2 hk hv hr hsz2
    replace XH := lies_kept XH hk (by omega)
    generalize V.heap.size = N1 at XH ⊢
    have hc := hv.cell
    obtain ⟨r0, r1, r2, r3, r4, r5, r6⟩ := XH.seven
    gi_wp2_with (gi_at_builtin; refine wpListIn_append_place _ rfl _ _ 39 rfl W.heap.size 34 i0 _ 7 56 Try.underlying39 hi hz0 hz1 hz2 rfl (by decide) _ _ _ rfl (hr.alloc _) ⟨W2.heap.size, 0, none⟩ 1 1 [.int .i64 h0, .int .i64 h1, .int .i64 h2, .int .i64 h3, .int .i64 h4, .int .i64 h5, .int .i64 h6] rfl rfl (cells7 _ _ _ _ _ _ _ _ _) (by simp [Value.oneCell']) (by unfold maxLen; omega) (by omega) (by simp; omega) ?_; intro v' w1 hown' hgrow hplace; apply Classical.byContradiction; intro hstop)
    obtain ⟨a', c', rfl⟩ := own_slice hown'
    have hv1 := box_kept hv (grow_keeps hr hgrow) (hv.not_row (by decide) hr ∘ Eq.symm)
    have hc1 := hv1.cell
    have hf1 := hv1.frozen
    have nb : ∀ k, (Value.slice a' (pre.length + 1) c').ownBlock = some k → k ≠ w.heap.size + 2 := fun k e e2 => by
      obtain ⟨cs, z, hg, _⟩ := own_block hown' e
      rw [e2, show w1.heap[w.heap.size + 2]? = _ from hv1] at hg
      simp at hg
    have ks : Keeps (fun k => k = w.heap.size + 2) w1 (w1.setCell ⟨w.heap.size + 2, 0, none⟩ (.slice a' (pre.length + 1) c')) := (Keeps.refl (fun k => k = w.heap.size + 2) w1).setCell (p := ⟨w.heap.size + 2, 0, none⟩) (fun _ => rfl) _
    have own3 := own_kept hown' ks nb
    have kall := (Keeps.mono (S' := fun k => k = w.heap.size + 2 ∨ v.ownBlock = some k) (grow_keeps hr hgrow) (fun k _ e => .inr e)).trans ks (fun k _ e => .inl e)
    have hv3 := hv1.set (.slice a' (pre.length + 1) c')
    have hp3 : ∀ k, (Value.slice a' (pre.length + 1) c').ownBlock = some k → v.ownBlock = some k ∨ W2.heap.size ≤ k := fun k hk => (hplace k hk).imp id (fun h => Nat.le_trans (by simp) h)
    clear hown' hgrow hplace hr hk nb ks hv r0 r1 r2 r3 r4 r5 r6 XH
    have HV : Hid _ := hv3
    have HK : Hid _ := kall
    have HP : Hid _ := hp3
    have HO : Hid _ := own3
    clear hv3 kall hp3 own3
    apply hstop
    clear hstop
    gi_wp2
    refine ⟨_, HV.out, ?_, HK.out, HP.out⟩
    rw [flatV_append]
    first | exact HO.out | (rw [List.length_append]; exact HO.out)
  case done =>
    rintro D v V hD hd hv hr hb
    have hc := hv.cell
    gi_wp2
    refine ⟨by simp, .inl ⟨_, _, rfl, run_takeDeferred hd, ?_⟩⟩
    exact ⟨_, results_tmp rfl _ _ _, _, rfl, own_base (ownsRow_putObj hr (.deferred none) hd rfl) (by omega), hb.trans (belowK_b (w := w) (Nat.le_refl _) V D _ _ (by omega) hd rfl rfl)⟩
end
end Go.Proofs.Ytihgpllbgliplaa
