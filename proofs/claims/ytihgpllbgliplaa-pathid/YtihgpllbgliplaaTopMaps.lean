/- What it means that a block is a map from ends to ends, and how a look-up, a store, a count and a range go by it. -/
import Derived.Test.YtihgpllbgliplaaTopMath
import Derived.Test.YtihgpllbgliplaaRds
import Derived.Maps.RangeWalk
import Derived.DeepKeys4
namespace Go.Proofs.Ytihgpllbgliplaa
open Go.ChangeShapes Go.WideShapes Go.ChangeAt Go.RowKit Go.Maps Tp
set_option linter.unusedVariables false
set_option linter.unusedSimpArgs false

/-- both numbers of an end are ints -/
def We (e : En) : Prop := (Lit.int .i64 e.1).wf = true ∧ (Lit.int .i64 e.2).wf = true
theorem we_nought : We (0, 0) := ⟨by decide, by decide⟩
abbrev arr (e : En) : Value := .agg #[.int .i64 e.1, .int .i64 e.2]
/-- what an end reads as, as a key -/
def kl (e : En) : Lit := .string (keyBytes [.int .i64 e.1, .int .i64 e.2])
/-- what an end reads as, as an element -/
def pd (e : En) : DataW Unit := .agg [.lit (.int .i64 e.1), .lit (.int .i64 e.2)]
def pairR : Value → Option (DataW Unit × List MemPlace)
  | .agg cs => match cs.toList with
    | [.int .i64 x, .int .i64 y] => some (pd (x, y), [])
    | _ => none
  | _ => none
theorem pairR_mk (e : En) : pairR (arr e) = some (pd e, []) := rfl
theorem pairR_inv {v : Value} {z : DataW Unit × List MemPlace} (h : pairR v = some z) : ∃ e : En, v = arr e ∧ z.1 = pd e := by
  unfold pairR at h
  split at h
  · rename_i cs
    split at h
    · rename_i x y e
      cases h
      refine ⟨(x, y), ?_, rfl⟩
      obtain ⟨l⟩ := cs
      simp only at e
      subst e
      rfl
    · cases h
  · cases h
theorem pd_inj {e o : En} (h : pd e = pd o) : e = o := by
  simp only [pd, DataW.agg.injEq, List.cons.injEq, DataW.lit.injEq, Lit.int.injEq, true_and, and_true] at h
  exact Prod.ext h.1 h.2
theorem laidOutT : laidOutB Try.prog = true := by kernel_rfl
theorem lawP : Keyed Try.prog 78 := Keyed.of_law (deep_law_laid laidOutT (m := 2) (by omega) (of_decide_eq_true (by kernel_rfl)) (by kernel_rfl) (by rw [Try.underlying78]))
theorem cInt11 : Try.prog.cellsOf 3 = 1 := by kernel_rfl
theorem cPair11 : Try.prog.cellsOf 78 = 2 := by kernel_rfl
theorem keyLits_int (d : Nat) (c : Value) : Try.prog.keyLits (d + 1) 3 [c] = match c with
    | .int .i64 n => if (Lit.int .i64 n).wf = true then some [.int .i64 n] else none
    | _ => none := by
  unfold Program.keyLits
  rw [Try.underlying3]
  cases c <;> try rfl
  rename_i q n
  cases q <;> simp
theorem keyLits_pair (d : Nat) (c0 c1 : Value) : Try.prog.keyLits (d + 2) 78 [c0, c1] = (do let a ← Try.prog.keyLits (d + 1) 3 [c0]; let b ← Try.prog.keyLits (d + 1) 3 [c1]; some (a ++ b)) := by
  conv => lhs; unfold Program.keyLits
  rw [Try.underlying78]
  simp only [cInt11, cPair11]
  have hr : List.range 2 = [0, 1] := rfl
  simp only [hr]
  cases h0 : Try.prog.keyLits (d + 1) 3 [c0] <;> cases h1 : Try.prog.keyLits (d + 1) 3 [c1] <;> simp [h0, h1]
theorem keyTypeP : Try.prog.keyType 78 = true := by kernel_rfl
theorem types_size : ∃ d, Try.prog.types.size + 1 = d + 2 := ⟨Try.prog.types.size - 1, by have : (2 : Nat) ≤ Try.prog.types.size := of_decide_eq_true (by kernel_rfl); omega⟩
set_option maxRecDepth 100000 in
theorem key_mk {e : En} (h : We e) : keyOf Try.prog 78 (arr e) = some (kl e) := by
  unfold keyOf
  rw [Try.underlying78]
  have hf : (arr e).formed Try.prog 78 = true := by simp [Value.formed, Try.underlying78, cPair11]
  obtain ⟨d, hd⟩ := types_size
  simp only [keyTypeP, hf, Bool.and_self, if_true]
  rw [hd, show (arr e).cells.toList = [.int .i64 e.1, .int .i64 e.2] from rfl, keyLits_pair, keyLits_int, keyLits_int]
  simp [h.1, h.2, kl]
set_option maxRecDepth 100000 in
theorem key_inv {v : Value} {l : Lit} (h : keyOf Try.prog 78 v = some l) : ∃ e : En, v = arr e ∧ We e ∧ l = kl e := by
  have h0 := h
  unfold keyOf at h
  rw [Try.underlying78] at h
  simp only at h
  split at h
  · rename_i hf
    rw [keyTypeP, Bool.true_and] at hf
    unfold Value.formed at hf
    split at hf
    · rename_i cs
      rw [Try.underlying78] at hf
      simp only [cPair11, beq_iff_eq] at hf
      obtain ⟨cl⟩ := cs
      match cl, hf with
      | [c0, c1], _ =>
        obtain ⟨d, hd⟩ := types_size
        rw [hd, show (Value.agg ⟨[c0, c1]⟩).cells.toList = [c0, c1] from rfl, keyLits_pair, keyLits_int, keyLits_int] at h
        have he : ∃ e : En, (Value.agg ⟨[c0, c1]⟩) = arr e ∧ We e := by
          cases c0 with
          | int q0 x =>
            cases q0 with
            | i64 =>
              cases c1 with
              | int q1 y =>
                cases q1 with
                | i64 =>
                  cases hx : (Lit.int .i64 x).wf <;> cases hy : (Lit.int .i64 y).wf <;> simp [hx, hy] at h
                  exact ⟨(x, y), rfl, hx, hy⟩
                | _ => simp at h
              | _ => simp at h
            | _ => simp at h
          | _ => simp at h
        obtain ⟨e, he, hw⟩ := he
        rw [he] at h0 ⊢
        rw [key_mk hw] at h0
        exact ⟨e, rfl, hw, (Option.some.inj h0).symm⟩
    · cases hf
    · rw [Try.underlying78] at hf; cases hf
  · cases h
theorem kl_inj {e o : En} (he : We e) (ho : We o) (h : kl e = kl o) : e = o := by
  have h1 := key_mk he
  rw [h] at h1
  have h2 := lawP.inj h1 (key_mk ho)
  simp only [arr, Value.agg.injEq, Array.mk.injEq, List.cons.injEq, Value.int.injEq, true_and, and_true] at h2
  exact Prod.ext h2.1 h2.2
theorem kl_key (e : En) : WideAt.IsKeyLit (kl e) := trivial

/-- the datum D tells the ends m, each with its other one -/
structure Rep (D : DataW Unit) (m : List (En × En)) : Prop where
  tidy : Tidy D
  has : ∀ e, We e → Maps.has D (kl e) = (getE m e).isSome
  at' : ∀ e o, We e → getE m e = some o → ∀ z, D.atKey (kl e) z = pd o
  size : Maps.size D = m.length
theorem Rep.empty : Rep (.map []) [] := ⟨tidy_empty, fun _ _ => rfl, fun e o _ h => by simp [getE] at h, rfl⟩
theorem Rep.put {D : DataW Unit} {m : List (En × En)} (h : Rep D m) {k v : En} (hk : We k) (hn : getE m k = none) : Rep (D.put (kl k) (pd v)) (m ++ [(k, v)]) := by
  have hfalse : Maps.has D (kl k) = false := by rw [h.has k hk, hn]; rfl
  refine ⟨h.tidy.put (kl_key k) _, fun e he => ?_, fun e o he hg z => ?_, ?_⟩
  · rw [get_append]
    by_cases e1 : e = k
    · subst e1
      rw [has_put_same h.tidy.isMap (kl_key e), hn]
      simp [getE]
    · rw [has_put_other (fun g => e1 (kl_inj he hk g)), h.has e he]
      have : getE [(k, v)] e = none := by simp [getE, Ne.symm e1]
      rw [this]; simp
  · rw [get_append] at hg
    by_cases e1 : e = k
    · subst e1
      rw [hn] at hg
      have hv : v = o := by simpa [getE] using hg
      subst hv
      exact atKey_put_same h.tidy.isMap (kl_key e) _ z
    · have : getE [(k, v)] e = none := by simp [getE, Ne.symm e1]
      rw [this, Option.or_none] at hg
      rw [atKey_put_other (fun g => e1 (kl_inj he hk g)), h.at' e o he hg]
  · rw [size_put h.tidy, hfalse, if_neg (by decide), h.size]; simp

/-- block b of w is a map that holds the ends m, each with its other one -/
def MapAt (w : World) (b : Nat) (m : List (En × En)) : Prop := ∃ D, w.ownsMap Try.prog 78 pairR b m.length D ∧ Rep D m
section
variable {w w' : World} {b : Nat} {m : List (En × En)}
theorem MapAt.made (w : World) : MapAt (w.alloc (.map #[] 0)) w.heap.size [] := ⟨_, World.ownsMap_made w Try.prog 78 pairR, Rep.empty⟩
theorem MapAt.lt (h : MapAt w b m) : b < w.heap.size := by obtain ⟨D, h, _⟩ := h; exact h.lt
theorem MapAt.later (h : MapAt w b m) (hb : Below w.heap.size w w') : MapAt w' b m := by
  obtain ⟨D, ⟨es, clock, hbk, r⟩, hr⟩ := h
  exact ⟨D, ⟨es, clock, (hb.block b (Array.getElem?_eq_some_iff.1 hbk).1).trans hbk, r⟩, hr⟩
theorem zeroP (w : World) : (zeroValue 78).run Try.prog w = .ok (arr (0, 0)) w := by kernel_rfl
theorem MapAt.look (h : MapAt w b m) {e : En} (he : We e) : (Instr.lookup 76 (.map (some b)) (arr e) true).run Try.prog w = .ok (.tuple #[arr ((getE m e).getD (0, 0)), .bool (getE m e).isSome]) w := by
  obtain ⟨D, ho, hr⟩ := h
  obtain ⟨v, ps, hrun, hv⟩ := ho.look_ok lawP Try.underlying76 (zeroP w) (pairR_mk (0, 0)) (key_mk he)
  rw [hrun, hr.has e he]
  obtain ⟨o, rfl, hpd⟩ := pairR_inv hv
  simp only at hpd
  have : (getE m e).getD (0, 0) = o := by
    cases hg : getE m e with
    | some o' => rw [hr.at' e o' he hg] at hpd; exact pd_inj hpd
    | none =>
      rw [atKey_of_not_has (by rw [hr.has e he, hg]; rfl)] at hpd
      exact pd_inj hpd
  rw [this]
theorem MapAt.store (h : MapAt w b m) {k v : En} (hk : We k) (hn : getE m k = none) (hl : m.length < maxLen) :
    ∃ w', (Instr.mapUpdate 76 (.map (some b)) (arr k) (arr v)).run Try.prog w = .ok () w' ∧ MapAt w' b (m ++ [(k, v)]) ∧ w.grownBy w' (some b) := by
  obtain ⟨D, ho, hr⟩ := h
  obtain ⟨w', hrun, h1, h2⟩ := ho.update lawP Try.underlying76 hl (key_mk hk) (pairR_mk v)
  exact ⟨w', hrun, ⟨_, by rw [List.length_append]; exact h1, hr.put hk hn⟩, h2⟩
theorem MapAt.len (h : MapAt w b m) (ty : TypeId) : (Builtin.len_ #[76] ty #[.map (some b)]).run Try.prog w = .ok (.int .i64 m.length) w := by
  obtain ⟨D, ho, hr⟩ := h
  rw [ho.len Try.underlying76 ty, hr.size]
/-- an iterator over the map: which ends are still to come, and how many -/
def Iter (w : World) (b r : Nat) (m : List (En × En)) (left : En → Bool) (cnt : Nat) : Prop :=
  ∃ D L, w.ranges Try.prog 78 pairR b r m.length D L cnt ∧ Rep D m ∧ (∀ e, We e → L (kl e) = left e) ∧ ∀ e, We e → left e = true → (getE m e).isSome = true
theorem Iter.map {r : Nat} {left : En → Bool} {cnt : Nat} (h : Iter w b r m left cnt) : MapAt w b m := by
  obtain ⟨D, L, h, hr, _⟩ := h
  exact ⟨D, h.owns, hr⟩
theorem Iter.later {r : Nat} {left : En → Bool} {cnt : Nat} (h : Iter w b r m left cnt) (hb : Below w.heap.size w w') : Iter w' b r m left cnt := by
  obtain ⟨D, L, h, hr⟩ := h
  exact ⟨D, L, h.kept (row := none) ⟨hb.os, hb.tape, hb.output, hb.size, fun k hk _ => hb.block k hk⟩ (by simp) (by simp), hr⟩
theorem Iter.left_eq {r : Nat} {left : En → Bool} {cnt : Nat} (h : Iter w b r m left cnt) : w.rangeLeft b r = cnt := by
  obtain ⟨D, L, h, _⟩ := h
  exact h.left_eq
theorem sameKey_kl {e o : En} (he : We e) (ho : We o) : (kl e).sameKey (kl o) = decide (e = o) := by
  by_cases h : e = o
  · subst h; rw [WideAt.sameKey_self (kl_key e)]; simp
  · rw [Maps.sameKey_ne (fun g => h (kl_inj he ho g))]; simp [h]
end
section
variable (w : World) {ops : Array Oper} {rest : List Oper} {o : Oper} {a : Act} {Q : Exit → Act → World → Prop}
theorem wpList_range_map (hg : o.guard = none) (mm : Operand) (hop : o.op = Op.range 76 mm) {b : Nat} {m : List (En × En)} (hm : a.eval mm = .map (some b)) (h : MapAt w b m)
    (hK : ∀ w', Iter w' b w.heap.size m (fun e => (getE m e).isSome) m.length → Below w.heap.size w w' → w'.heap.size = w.heap.size + 1 → wpList Try.prog ops Q rest (a.put o.dst (.pointer (some ⟨w.heap.size, 0, none⟩))) w') :
    wpList Try.prog ops Q (o :: rest) a w := by
  obtain ⟨D, ho, hr⟩ := h
  refine wpList_range_own w hg mm 76 hop 78 78 lawP Try.underlying76 pairR b m.length D hm ho (fun w' h1 h2 h3 => hK w' ⟨D, _, by rw [← hr.size]; rw [← hr.size] at h1; exact h1, hr, fun e he => hr.has e he, fun e he h => h⟩ ⟨h2.os, h2.tape, h2.output, h2.size, fun k hk => h2.block k hk (by simp)⟩ h3)
theorem wpList_next_map (hg : o.guard = none) (it : Operand) (hop : o.op = Op.next it false) {b r : Nat} {m : List (En × En)} {left : En → Bool} {cnt : Nat} (hit : a.eval it = .pointer (some ⟨r, 0, none⟩)) (h : Iter w b r m left cnt)
    (hDone : (∀ e, We e → left e = false) → wpList Try.prog ops Q rest (a.put o.dst (.tuple #[.bool false])) w)
    (hMore : ∀ (x y u v : Int) (w' : World) (cnt' : Nat), We (x, y) → left (x, y) = true → Iter w' b r m (fun z => left z && !decide (z = (x, y))) cnt' → cnt' < cnt → w.grownBy w' (some r) →
      (Instr.entry (.pointer (some ⟨r, 0, none⟩))).run Try.prog w' = .ok (.tuple #[.agg #[.int .i64 x, .int .i64 y], .agg #[.int .i64 u, .int .i64 v]]) w' → wpList Try.prog ops Q rest (a.put o.dst (.tuple #[.bool true, .agg #[.int .i64 x, .int .i64 y], .agg #[.int .i64 u, .int .i64 v]])) w') :
    wpList Try.prog ops Q (o :: rest) a w := by
  obtain ⟨D, L, ho, hr, hL, hs⟩ := h
  refine wpList_next_ranges w hg it hop 78 lawP pairR arr arr (fun key l hkey => by obtain ⟨e, rfl, _⟩ := key_inv hkey; exact ⟨e, rfl⟩) (fun v y hv => by obtain ⟨e, rfl, _⟩ := pairR_inv hv; exact ⟨e, rfl⟩) b r m.length D L cnt hit ho
    (fun _ hl => hDone fun e he => by rw [← hL e he]; exact hl _) (fun k c l y w' cnt' hkey hlk hv hat hrg hlt hgr hsz hen => ?_)
  obtain ⟨e, he, hw, rfl⟩ := key_inv hkey
  have hke : k = e := by
    simp only [arr, Value.agg.injEq, Array.mk.injEq, List.cons.injEq, Value.int.injEq, true_and, and_true] at he
    exact Prod.ext he.1 he.2
  subst hke
  exact hMore k.1 k.2 c.1 c.2 w' cnt' hw (by rw [← hL k hw]; exact hlk) ⟨D, _, hrg, hr, fun z hz => by rw [hL z hz, sameKey_kl hz hw], fun z hz h => hs z hz (by simp only [Bool.and_eq_true] at h; exact h.1)⟩ hlt hgr hen
theorem wpList_store_map (hg : o.guard = none) (mm x v : Operand) (hop : o.op = Op.mapUpdate 76 mm x v) {b : Nat} {m : List (En × En)} (hm : a.eval mm = .map (some b)) (h : MapAt w b m) {k0 k1 v0 v1 : Int} (hx : a.eval x = .agg #[.int .i64 k0, .int .i64 k1]) (hv : a.eval v = .agg #[.int .i64 v0, .int .i64 v1])
    (hk : We (k0, k1)) (hn : getE m (k0, k1) = none) (hl : m.length < maxLen)
    (hK : ∀ w', MapAt w' b (m ++ [((k0, k1), (v0, v1))]) → w.grownBy w' (some b) → wpList Try.prog ops Q rest (a.put o.dst undef) w') :
    wpList Try.prog ops Q (o :: rest) a w := by
  refine wpList_plain hg fun K' hK' => ?_
  obtain ⟨w', hrun, r1, r2⟩ := h.store (k := (k0, k1)) (v := (v0, v1)) hk hn hl
  unfold Oper.wp
  simp [execOp, hop, hm, hx, hv, hrun, Result.andThen]
  exact hK' _ _ (hK w' r1 r2)
theorem wpList_len_map (hg : o.guard = none) (mm : Operand) (hop : o.op = Op.call { callee := Callee.builtin Builtin.len, args := #[mm], argTypes := #[76] }) {b : Nat} {m : List (En × En)} (hm : a.eval mm = .map (some b)) (h : MapAt w b m)
    (hK : wpList Try.prog ops Q rest (a.put o.dst (.int .i64 m.length)) w) :
    wpList Try.prog ops Q (o :: rest) a w := by
  refine wpList_plain hg fun K' hK' => ?_
  unfold Oper.wp
  simp [execOp, hop, resolve, invoke, builtin, hm, h.len o.type, Result.andThen]
  exact hK' _ _ hK
end
end Go.Proofs.Ytihgpllbgliplaa
