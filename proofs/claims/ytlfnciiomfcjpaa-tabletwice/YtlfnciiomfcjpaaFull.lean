/- 'append' to a slice that is full (its capacity is its length, as of a slice with three indexes): a new row, whosever the slice was. -/
import Derived.Test.YtlfnciiomfcjpaaRdv
namespace Go.Proofs.Ytlfnciiomfcjpaa
open Go.ChangeShapes Go.WideShapes Go.ChangeAt Go.RowKit
set_option linter.unusedVariables false
set_option linter.unusedSimpArgs false

theorem run_append_full {P : Program} {w : World} (t ty e : TypeId) (i : TypeInfo) (z : Value) (size bytes : Nat) (ht : P.underlying t = some (.slice e)) (hi : P.info? e = some i) (hz : i.zero = some z)
    (hsize : i.size = size) (hby : i.bytes = bytes) (hzs : z.cells.size = size) (hsz : 0 < size)
    (b : Addr) (n cap : Nat) (olds : List Value) (hlo : olds.length = n * size) (holds : ∀ j u, olds[j]? = some u → w.cell? (b.add j) = some u)
    (a : Addr) (m c : Nat) (news : List Value) (hl : news.length = m * size) (hnews : ∀ j u, news[j]? = some u → w.cell? (a.add j) = some u) (hfull : cap < n + m)
    (h63 : n + m ≤ maxLen) (hcap : cap ≤ n + m) (hbytes : (n + m) * bytes ≤ 140737488355328) :
    ∃ v' w', (Builtin.append_ #[t, t] ty #[.slice (some b) n cap, .slice (some a) m c]).run P w = .ok v' w' ∧ w'.ownsRow w.heap.size e size v' (n + m) (olds ++ news) ∧ w.grownBy w' none ∧ v'.ownBlock = some w.heap.size := by
  subst hsize
  subst hby
  have hsmall : n + m ≤ 9223372036854775807 := by simp only [maxLen] at h63; omega
  have hr := run_append_grow (P := P) w t ty e i z ht hi hz b n cap olds hlo holds a m c news hl hnews hfull (by omega) (growslice_fits (by omega) hbytes)
  have hge := grownCap_ge w (n + m) cap e
  have hcm : grownCap w (n + m) cap e ≤ maxLen := grownCap_le_maxLen w (n + m) cap e h63
  have hlen : (olds ++ news).length = (n + m) * i.size := by rw [List.length_append, hlo, hl, Nat.add_mul]
  refine ⟨_, _, hr, ⟨hlen, .inr ⟨w.heap.size, _, _, rfl, Nat.le_refl _, heap_alloc_new w.drew _, hge, hcm, ?_, ?_⟩⟩, ⟨rfl, rfl, rfl, by simp, fun k hk _ => Below.heap_alloc w.drew _ k hk⟩, rfl⟩
  · simp only [Array.size_append, List.size_toArray, size_zeroCells, hzs, hlo, hl, ← Nat.add_mul]
    congr 1
    omega
  · simp only [Array.toList_append, List.append_assoc]
    rw [← List.append_assoc, ← hlen]
    exact List.take_left
theorem wp_append_full {P : Program} {w : World} {o : Oper} {a : Act} {K : Act → World → Prop} {Q : Exit → Act → World → Prop} (s x : Operand) (t : TypeId)
    (ho : o.op = .call { callee := .builtin .append, args := #[s, x], argTypes := #[t, t] })
    (e : TypeId) (i : TypeInfo) (z : Value) (size bytes : Nat) (ht : P.underlying t = some (.slice e)) (hi : P.info? e = some i) (hz : i.zero = some z)
    (hsize : i.size = size) (hby : i.bytes = bytes) (hzs : z.cells.size = size) (hsz : 0 < size)
    (b : Addr) (n cap : Nat) (olds : List Value) (hs : a.eval s = .slice (some b) n cap) (hlo : olds.length = n * size) (holds : ∀ j u, olds[j]? = some u → w.cell? (b.add j) = some u)
    (ad : Addr) (m c : Nat) (news : List Value) (hx : a.eval x = .slice (some ad) m c) (hl : news.length = m * size) (hnews : ∀ j u, news[j]? = some u → w.cell? (ad.add j) = some u) (hfull : cap < n + m)
    (h63 : n + m ≤ maxLen) (hbytes : (n + m) * bytes ≤ 140737488355328)
    (h : ∀ v' w', w'.ownsRow w.heap.size e size v' (n + m) (olds ++ news) → w.grownBy w' none → v'.ownBlock = some w.heap.size → K (a.put o.dst v') w') : o.wp P a w K Q := by
  obtain ⟨v', w', hr, h2, h3, h4⟩ := run_append_full (P := P) (w := w) t o.type e i z size bytes ht hi hz hsize hby hzs hsz b n cap olds hlo holds ad m c news hl hnews hfull h63 (Nat.le_of_lt hfull) hbytes
  unfold Oper.wp execOp
  simp only [ho, resolve, invoke, builtin, Sem.run_bind, Sem.run_pure, Result.andThen_ok, List.map_toArray, List.map_cons, List.map_nil, hs, hx, hr]
  exact h v' w' h2 h3 h4
section
variable {w : World} {ops : Array Oper} {rest : List Oper} {o : Oper} {a : Act} {Q : Exit → Act → World → Prop}
/-- 'append(s, y)', s full and whosever: y is laid in a block of its own first (structs of ints) -/
theorem wpRds_full {α : Type} {f : α → List Int} {sz : Nat} (hf : ∀ x, (f x).length = sz) (hpos : 0 < sz) (W : World) (y : α) (e : TypeId) (hW : w = W.alloc (.cells ((f y).map (Value.int .i64)).toArray e)) (hgd : o.guard = none) (s x : Operand) (t : TypeId)
    (ho : o.op = .call { callee := .builtin .append, args := #[s, x], argTypes := #[t, t] })
    (bytes : Nat) (z : Value) (ht : Try.prog.underlying t = some (.slice e)) (hinfo : (Try.prog.info? e).map (fun i => (i.zero, i.size, i.bytes)) = some (some z, sz, bytes)) (hz : z.cells.size = sz)
    {ad : Addr} {n cap : Nat} {l : List α} (hs : a.eval s = .slice (some ad) n cap) {k : Nat} (R : Rds f sz W (some ad) k l) (hn : l.length = n) (hcap : cap ≤ n)
    (hx : a.eval x = .slice (some ⟨W.heap.size, 0, none⟩) 1 1) (hb1 : n + 1 ≤ 1000000) (hb2 : bytes ≤ 1000)
    (h : ∀ v' w', w'.ownsRow w.heap.size e sz v' (n + 1) (flatV f (l ++ [y])) → w.grownBy w' none → v'.ownBlock = some w.heap.size → wpList Try.prog ops Q rest (a.put o.dst v') w') : wpList Try.prog ops Q (o :: rest) a w := by
  subst hW
  obtain ⟨i0, hi, hz0, hz1, hz2⟩ := info_parts hinfo
  have e1 : flatV f [y] = (f y).map (Value.int .i64) := by simp [flatV]
  have R2 := R.later (below_new W (.cells ((f y).map (Value.int .i64)).toArray e))
  refine wpList_plain hgd fun K hK => wp_append_full s x t ho e i0 z sz bytes ht hi hz0 hz1 hz2 hz hpos ad n cap (flatV f l) hs (by rw [flatV_len hf, hn]) (cells_of_rds hf R2) _ 1 1 (flatV f [y]) hx (by rw [flatV_len hf]; simp) ?_ (by omega) (by unfold maxLen; omega) ?_ ?_
  · rw [e1]
    intro j u hu
    exact World.news_of_block (heap_alloc_new W (.cells ((f y).map (Value.int .i64)).toArray e)) j u (by simpa using hu)
  · have : (n + 1) * bytes ≤ 1000000 * 1000 := Nat.mul_le_mul hb1 hb2
    omega
  · intro v' w' h1 h2 h3
    rw [← flatV_append] at h1
    exact hK _ _ (h v' w' h1 h2 h3)
/-- the same of elements that hold slices -/
theorem wpRdv_full {α : Type} {f : α → List Value} {sz : Nat} (hf : ∀ x, (f x).length = sz) (hpos : 0 < sz) (W : World) (y : α) (e : TypeId) (hW : w = W.alloc (.cells (f y).toArray e)) (hgd : o.guard = none) (s x : Operand) (t : TypeId)
    (ho : o.op = .call { callee := .builtin .append, args := #[s, x], argTypes := #[t, t] })
    (bytes : Nat) (z : Value) (ht : Try.prog.underlying t = some (.slice e)) (hinfo : (Try.prog.info? e).map (fun i => (i.zero, i.size, i.bytes)) = some (some z, sz, bytes)) (hz : z.cells.size = sz)
    {ad : Addr} {n cap : Nat} {l : List α} (hs : a.eval s = .slice (some ad) n cap) {k : Nat} (R : Rdv f sz W (some ad) k l) (hn : l.length = n) (hcap : cap ≤ n)
    (hx : a.eval x = .slice (some ⟨W.heap.size, 0, none⟩) 1 1) (hb1 : n + 1 ≤ 1000000) (hb2 : bytes ≤ 1000)
    (h : ∀ v' w', w'.ownsRow w.heap.size e sz v' (n + 1) (flatW f (l ++ [y])) → w.grownBy w' none → v'.ownBlock = some w.heap.size → wpList Try.prog ops Q rest (a.put o.dst v') w') : wpList Try.prog ops Q (o :: rest) a w := by
  subst hW
  obtain ⟨i0, hi, hz0, hz1, hz2⟩ := info_parts hinfo
  have e1 : flatW f [y] = f y := by simp [flatW]
  have R2 := R.later (below_new W (.cells (f y).toArray e))
  refine wpList_plain hgd fun K hK => wp_append_full s x t ho e i0 z sz bytes ht hi hz0 hz1 hz2 hz hpos ad n cap (flatW f l) hs (by rw [flatW_len hf, hn]) (cells_of_rdv hf R2) _ 1 1 (flatW f [y]) hx (by rw [flatW_len hf]; simp) ?_ (by omega) (by unfold maxLen; omega) ?_ ?_
  · rw [e1]
    intro j u hu
    exact World.news_of_block (heap_alloc_new W (.cells (f y).toArray e)) j u (by simpa using hu)
  · have : (n + 1) * bytes ≤ 1000000 * 1000 := Nat.mul_le_mul hb1 hb2
    omega
  · intro v' w' h1 h2 h3
    rw [← flatW_append] at h1
    exact hK _ _ (h v' w' h1 h2 h3)
end
end Go.Proofs.Ytlfnciiomfcjpaa
