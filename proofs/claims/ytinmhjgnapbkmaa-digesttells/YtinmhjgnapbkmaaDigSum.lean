/- What 'sum' of package digest answers, of whatever feeds it. -/
import Derived.Test.YtinmhjgnapbkmaaDigFeed
namespace Go.Proofs.Ytinmhjgnapbkmaa
open Go.ChangeShapes Go.WideShapes Go.ChangeAt Go.RowKit O Dg
set_option linter.unusedVariables false
set_option linter.unusedSimpArgs false
attribute [local go_sem] Oper.semAt_some

set_option maxRecDepth 100000 in
set_option maxHeartbeats 2000000 in
theorem sum_feeds {gf : Nat} {lb : Array Value} {L : List Int} (w : World) (en : ∀ args w, (callFunc gf args).run Try.prog w = .ok (.enter gf args) w) (hF : Feeds gf lb L w) (hlen : L.length ≤ 5000) (ho : Oct L) :
    Calls Try.prog 17 #[.func (.func gf) #[] lb] w fun e w' => e = .returned (.int .i64 (sumN L)) ∧ Below w.heap.size w w' := by
  refine (callsIn_wide (n := 4)).1 ?_
  obtain ⟨i0, hi, hz0, hz1, hz2⟩ := info_parts info8
  have hro : Fence.wide.round = none := rfl
  refine callsIn_of_wp_marks Try.func17 rfl trivial ?_ hro
  simp only [Try.ntmps17, List.size_toArray, List.length_cons, List.length_nil, Nat.reduceAdd, Nat.reduceSub, Array.replicate_succ, Array.replicate_zero, List.push_toArray, List.append_toArray, List.nil_append, List.cons_append]
  gi_wp2
  have box := Boxed.new w 48 (.slice none 0 0)
  refine wpIn_feeds (by decide) rfl en hF ((Below.refl _ w).alloc (Nat.le_refl _) _) (Nat.le_refl _) box ?round ?done
  case round =>
    rintro l m c x pre ad v W hv hr hx hx10 hpre
    gi_wp2
    refine ⟨trivial, ?_⟩
    rintro W2 hv hr hx hsz
    have hc := hv.cell
    have hm := hx.max
    unfold maxLen at hm
    gi_wp2_with (gi_at_builtin; refine wpListIn_append_place _ rfl _ _ 48 rfl w.heap.size 5 i0 _ 1 1 Try.underlying48 hi hz0 hz1 hz2 rfl (by decide) _ _ _ rfl hr ad x.length c (x.map (Value.int .u8)) rfl (by simp) (cells_of_reads hx) (ints_oneCell _ _) (by unfold maxLen; omega) (by omega) hsz ?_; intro v' w1 hown' hgrow hplace; obtain ⟨a', c', rfl⟩ := own_slice hown'; have hv1 := box_kept hv (keeps_grown hgrow) (hv.not_row (by decide) hr ∘ Eq.symm); have hc1 := hv1.cell; have hf1 := hv1.frozen)
    have nb : ∀ k, (Value.slice a' (pre.length + x.length) c').ownBlock = some k → k ≠ w.heap.size := fun k e e2 => by
      obtain ⟨cs, z, hg, _⟩ := own_block hown' e
      rw [e2, show w1.heap[w.heap.size]? = _ from hv1] at hg
      simp at hg
    have ks : Keeps (fun k => k = w.heap.size) w1 (w1.setCell ⟨w.heap.size, 0, none⟩ (.slice a' (pre.length + x.length) c')) := (Keeps.refl (fun k => k = w.heap.size) w1).setCell (p := ⟨w.heap.size, 0, none⟩) (fun _ => rfl) _
    exact ⟨_, hv1.set _, own_kept hown' ks nb, ((keeps_grown hgrow).mono (fun k _ e => .inr e.symm.symm)).trans ks (fun k _ e => .inl e), hplace⟩
  case done =>
    rintro D v W hD hd hv hr hb
    obtain ⟨y, cc, rfl, R, -⟩ := reads_of_owns hr (fun z hz => wf_u8_mk (ho z hz).1 (ho z hz).2)
    have hc := hv.cell
    have cs := callsIn_wide (n := 4 - 1) |>.2 (sum_any W R (by omega))
    gi_wp2_with (refine ⟨trivial, ?_⟩; gi_at_call 27; refine cs.mono ?_; rintro e w' ⟨rfl, rfl⟩)
    refine ⟨by simp, .inl ⟨_, _, rfl, run_takeDeferred hd, ?_⟩⟩
    exact ⟨_, results_tmp rfl _ _ _, rfl, hb.trans (belowK_b (w := w) (Nat.le_refl _) w' D _ _ (by simp at hD; omega) hd rfl rfl)⟩
end Go.Proofs.Ytinmhjgnapbkmaa
