/- Numbers in bytes: reads, walks, append, several numbers. -/
import Derived.Test.YtoedgnkoahcblaaRows
import Derived.Test.YtoedgnkoahcblaaMaths
import Derived.WalkKit
import Derived.ProofKit
import Derived.OpenShut
import Derived.ChangeOld
import Derived.Below
import Derived.Laws.BytesArg
import Derived.Laws.AppendOwnNone
import Derived.Deep.AppendLies
import Derived.Deep.QuietTactic
import Derived.BigQuiet
import Derived.WalkLawsBesides
import Derived.Outline
import Derived.WalkMore
import Derived.ScopeJumps
/-! What it means that a slice reads as a list of integers, and how that stays so: the words that the claims on package octets rest on. -/
namespace Go.Proofs.Ytoedgnkoahcblaa
open Go.ChangeShapes Go.WideShapes Go.ChangeAt Go.RowKit O
set_option linter.unusedVariables false
set_option linter.unusedSimpArgs false

theorem ret_int {k : IntKind} {a b : Int} (h : a = b) : Ending.returned (.int k a) = .returned (.int k b) := by rw [h]
theorem ret_bool {a b : Bool} (h : a = b) : Ending.returned (.bool a) = .returned (.bool b) := by rw [h]
theorem below_step {w W w1 : World} (h : Below w.heap.size w W) (hb : Below W.heap.size W w1) : Below w.heap.size w w1 := h.trans (hb.mono h.size)
theorem bcell {W w1 : World} (hb : Below W.heap.size W w1) : (∀ b o, b < W.heap.size → w1.cell? ⟨b, o, none⟩ = W.cell? ⟨b, o, none⟩) ∧ (∀ b o, b < W.heap.size → w1.frozen? ⟨b, o, none⟩ = W.frozen? ⟨b, o, none⟩) :=
  ⟨fun b o h => hb.cell (p := ⟨b, o, none⟩) h, fun b o h => hb.frozen (p := ⟨b, o, none⟩) h⟩

/-- the slice at address a with capacity c, as long as l, reads l, in the world w -/
structure Reads (k : IntKind) (w : World) (a : Option Addr) (c : Nat) (l : List Int) : Prop where
  le : l.length ≤ c
  max : c ≤ maxLen
  wf : ∀ z ∈ l, (Lit.int k z).wf = true
  nil : a = none → c = 0
  cells : l ≠ [] → ∃ b o, a = some ⟨b, o, none⟩ ∧ b < w.heap.size ∧ ∀ i, i < l.length → w.cell? ⟨b, o + i, none⟩ = some (.int k (l.getD i 0))

theorem Reads.later {k : IntKind} {w w' : World} {a : Option Addr} {c : Nat} {l : List Int} (h : Reads k w a c l) (hb : Below w.heap.size w w') : Reads k w' a c l :=
  ⟨h.le, h.max, h.wf, h.nil, fun hl => by
    obtain ⟨b, o, e, hlt, hc⟩ := h.cells hl
    exact ⟨b, o, e, Nat.lt_of_lt_of_le hlt hb.size, fun i hi => (hb.cell (p := ⟨b, o + i, none⟩) hlt).trans (hc i hi)⟩⟩
theorem Reads.none (k : IntKind) (w : World) : Reads k w none 0 [] := ⟨by simp, by simp [maxLen], by simp, fun _ => rfl, fun h => absurd rfl h⟩
theorem wf_u8 {z : Int} (h : (Lit.int .u8 z).wf = true) : 0 ≤ z ∧ z ≤ 255 := by
  simp only [Lit.wf, Bool.and_eq_true, decide_eq_true_eq] at h; exact h
theorem wf_u8_mk {z : Int} (h0 : 0 ≤ z) (h : z ≤ 255) : (Lit.int .u8 z).wf = true := by
  simp only [Lit.wf, Bool.and_eq_true, decide_eq_true_eq]; exact ⟨h0, h⟩
theorem wf_i64 {z : Int} (h : (Lit.int .i64 z).wf = true) : -9223372036854775808 ≤ z ∧ z ≤ 9223372036854775807 := by
  simp only [Lit.wf, Bool.and_eq_true, decide_eq_true_eq] at h; exact h
theorem wf_i64_mk {z : Int} (h0 : -9223372036854775808 ≤ z) (h : z ≤ 9223372036854775807) : (Lit.int .i64 z).wf = true := by
  simp only [Lit.wf, Bool.and_eq_true, decide_eq_true_eq]; exact ⟨h0, h⟩
theorem Reads.oct {w : World} {a : Option Addr} {c : Nat} {l : List Int} (h : Reads .u8 w a c l) : Oct l := fun z hz => wf_u8 (h.wf z hz)

/-- what came in as an argument: a slice of integers reads as a list of them -/
theorem reads_of_ints {k : IntKind} {w : World} {x : Addr} {len cap : Nat} {zs : List Int} (hl : len ≤ cap) (hm : cap ≤ maxLen) (hz : zs.length = cap)
    (hcell : ∀ i, i < zs.length → w.cell? (x.add i) = some (.int k (zs.getD i 0))) (hw : ∀ n ∈ zs, (Lit.int k n).wf = true) : Reads k w (some x) cap (zs.take len) := by
  refine ⟨by simp; omega, hm, fun z hz => hw z (List.mem_of_mem_take hz), fun h => (nomatch h), fun hne => ?_⟩
  have hlen : (zs.take len).length = len := by simp; omega
  have h0 : 0 < len := by
    rcases Nat.eq_zero_or_pos len with h | h
    · subst h; simp at hne
    · exact h
  obtain ⟨b, o, s⟩ := x
  have hc := hcell 0 (by omega)
  have hs : s = none := by simpa [Addr.add] using World.cell?_spot hc
  subst hs
  refine ⟨b, o, rfl, ?_, fun i hi => ?_⟩
  · have := World.block_lt_of_cell? w _ hc; simpa [Addr.add] using this
  · rw [hlen] at hi
    have := hcell i (by omega)
    rw [Addr.add_lit] at this
    rw [this]
    simp [List.getD, hi]

/-- a slice that the call itself made reads what it owns -/
theorem reads_of_owns {k : IntKind} {w : World} {base e n : Nat} {v : Value} {l : List Int} (h : w.ownsRow base e 1 v n (l.map (Value.int k))) (hw : ∀ z ∈ l, (Lit.int k z).wf = true) :
    ∃ a c, v = .slice a l.length c ∧ Reads k w a c l ∧ n = l.length := by
  have hn : l.length = n := by simpa using h.1
  subst hn
  rcases h.2 with ⟨rfl, h0⟩ | ⟨g, cap, cur, rfl, hb, hg, hle, hmx, hsz, htk⟩
  · have : l = [] := List.eq_nil_of_length_eq_zero h0
    subst this
    exact ⟨none, 0, rfl, Reads.none k w, rfl⟩
  · refine ⟨some ⟨g, 0, none⟩, cap, rfl, ⟨hle, hmx, hw, fun h => (nomatch h), fun hne => ⟨g, 0, rfl, (Array.getElem?_eq_some_iff.1 hg).1, fun i hi => ?_⟩⟩, rfl⟩
    have := h.cells (g := g) rfl i (.int k (l.getD i 0)) (by simp [List.getD, hi])
    rwa [Addr.add_lit] at this
theorem cells_of_reads {k : IntKind} {w : World} {x : Addr} {c : Nat} {l : List Int} (h : Reads k w (some x) c l) : ∀ j u, (l.map (Value.int k))[j]? = some u → w.cell? (x.add j) = some u := by
  intro j u hu
  have hj : j < l.length := by have := (List.getElem?_eq_some_iff.1 hu).1; simpa using this
  obtain ⟨b, o, e, _, hc⟩ := h.cells (by intro h0; subst h0; simp at hj)
  obtain rfl := Option.some.inj e
  rw [Addr.add_lit, hc j hj]
  simp [hj] at hu
  subst hu
  simp [List.getD, hj]

/-- cut at its front: what 'b[at:]' reads -/
theorem Reads.drop {k : IntKind} {w : World} {a : Option Addr} {c : Nat} {l : List Int} (h : Reads k w a c l) (j : Nat) (hj : j ≤ l.length) : Reads k w (if c = j then a else a.map (·.add j)) (c - j) (l.drop j) := by
  have hle := h.le
  refine ⟨by simp; omega, by have := h.max; omega, fun z hz => h.wf z (List.mem_of_mem_drop hz), fun hn => ?_, fun hne => ?_⟩
  · split at hn
    · omega
    · rename_i hc
      cases a with
      | none => have := h.nil rfl; omega
      | some x => simp at hn
  · have hlt : j < l.length := by
      rcases Nat.lt_or_ge j l.length with h1 | h1
      · exact h1
      · exact absurd (List.drop_eq_nil_of_le h1) hne
    obtain ⟨b, o, rfl, hb, hc⟩ := h.cells (by intro h0; subst h0; simp at hlt)
    refine ⟨b, o + j, ?_, hb, fun i hi => ?_⟩
    · rw [if_neg (by omega)]; simp [Addr.add_lit]
    · simp at hi
      rw [Nat.add_assoc, hc (j + i) (by omega)]
      simp [List.getD]
/-- cut at its end: what 'b[:n]' reads -/
theorem Reads.take {k : IntKind} {w : World} {a : Option Addr} {c : Nat} {l : List Int} (h : Reads k w a c l) (n : Nat) : Reads k w a c (l.take n) := by
  refine ⟨by have := h.le; simp; omega, h.max, fun z hz => h.wf z (List.mem_of_mem_take hz), h.nil, fun hne => ?_⟩
  obtain ⟨b, o, e, hb, hc⟩ := h.cells (by intro h0; subst h0; simp at hne)
  refine ⟨b, o, e, hb, fun i hi => ?_⟩
  simp at hi
  have h1 : i < n := by omega
  rw [hc i (by omega)]
  simp [List.getD, h1]

theorem strOfNums_inj {l m : List Int} (hl : Oct l) (hm : Oct m) (h : strOfNums l = strOfNums m) : l = m := by
  have e : (strOfNums l).data.toList = (strOfNums m).data.toList := by rw [h]
  rw [strOfNums_data, strOfNums_data] at e
  have key : ∀ l : List Int, Oct l → (l.map fun n => UInt8.ofNat n.toNat).map (fun b => (b.toNat : Int)) = l := by
    intro l hl
    rw [List.map_map]
    conv => rhs; rw [← List.map_id l]
    apply List.map_congr_left
    intro z hz
    have := hl z hz
    simp only [Function.comp, id, UInt8.toNat_ofNat']
    omega
  rw [← key l hl, ← key m hm, e]
/-- 'string(b)', b a slice of bytes that reads l -/
theorem run_str {w : World} {a : Option Addr} {c : Nat} {l : List Int} (h : Reads .u8 w a c l) : (convert 23 9 (.slice a l.length c)).run Try.prog w = .ok (.string (strOfNums l)) w := by
  by_cases hl : l = []
  · subst hl
    cases a with
    | none => exact run_convert_bytes_nil w 23 5 Try.underlying23 Try.underlying5 0 c 9 Try.underlying9
    | some x =>
      rw [run_convert_bytes_string w 23 9 5 _ _ c Try.underlying23 Try.underlying5 Try.underlying9]
      exact run_bytesToString w x 0 c [] (run_loadCells_list (P := Try.prog) w x [] (fun j v hj => by simp at hj))
  · obtain ⟨b, o, rfl, hb, hc⟩ := h.cells hl
    exact run_convert_bytes_arg w 23 5 Try.underlying23 Try.underlying5 b o l.length c l rfl (fun i hi => hc i hi) 9 Try.underlying9
/-- behind any draws -/
theorem below_draws (B : Nat) (w : World) (n : Nat) : Below B w (w.drewN n) := ⟨rfl, rfl, rfl, Nat.le_refl _, fun _ _ => rfl⟩
theorem run_strs {w : World} {a : Option Addr} {c : Nat} {l : List Int} (h : Reads .u8 w a c l) (n : Nat) : (convert 23 9 (.slice a l.length c)).run Try.prog (w.drewN n) = .ok (.string (strOfNums l)) (w.drewN n) :=
  run_str (h.later (below_draws _ w n))
theorem run_empty (w : World) (a : Option Addr) (c n : Nat) : (convert 23 9 (.slice a 0 c)).run Try.prog (w.drewN n) = .ok (.string (strOfNums [])) (w.drewN n) := by
  cases a with
  | none => exact run_convert_bytes_nil _ 23 5 Try.underlying23 Try.underlying5 0 c 9 Try.underlying9
  | some x =>
    rw [run_convert_bytes_string _ 23 9 5 _ _ c Try.underlying23 Try.underlying5 Try.underlying9]
    exact run_bytesToString _ x 0 c [] (run_loadCells_list (P := Try.prog) _ x [] (fun j v hj => by simp at hj))
end Go.Proofs.Ytoedgnkoahcblaa

/-! What the calls of package octets answer, for all arguments: the contracts that the claims on its statements rest on. -/
namespace Go.Proofs.Ytoedgnkoahcblaa
open Go.ChangeShapes Go.WideShapes Go.ChangeAt Go.RowKit O
set_option linter.unusedVariables false
set_option linter.unusedSimpArgs false

/-! ### fold, total, Sum -/

/-! ### Put -/
theorem make1 (w : World) : (Instr.makeSlice 23 (.int .i64 1) (.int .i64 1)).run Try.prog w = .ok (.slice (some ⟨w.heap.size, 0, none⟩) 1 1) (w.alloc (.cells #[.int .u8 0] 5)) := by kernel_rfl
theorem make2 (w : World) : (Instr.makeSlice 23 (.int .i64 2) (.int .i64 2)).run Try.prog w = .ok (.slice (some ⟨w.heap.size, 0, none⟩) 2 2) (w.alloc (.cells #[.int .u8 0, .int .u8 0] 5)) := by kernel_rfl
theorem make3 (w : World) : (Instr.makeSlice 23 (.int .i64 3) (.int .i64 3)).run Try.prog w = .ok (.slice (some ⟨w.heap.size, 0, none⟩) 3 3) (w.alloc (.cells #[.int .u8 0, .int .u8 0, .int .u8 0] 5)) := by kernel_rfl
theorem make4 (w : World) : (Instr.makeSlice 23 (.int .i64 4) (.int .i64 4)).run Try.prog w = .ok (.slice (some ⟨w.heap.size, 0, none⟩) 4 4) (w.alloc (.cells #[.int .u8 0, .int .u8 0, .int .u8 0, .int .u8 0] 5)) := by kernel_rfl
/-- a block just made reads what it holds -/
theorem reads_new (w : World) (l : List Int) (hl : Oct l) (h0 : l.length ≤ 4) : Reads .u8 (w.alloc (.cells (l.map (Value.int .u8)).toArray 5)) (some ⟨w.heap.size, 0, none⟩) l.length l := by
  refine ⟨Nat.le_refl _, by unfold maxLen; omega, fun z hz => wf_u8_mk (hl z hz).1 (hl z hz).2, fun h => (nomatch h), fun _ => ⟨_, _, rfl, by simp, fun i hi => ?_⟩⟩
  have := World.news_of_block (heap_alloc_new w (.cells (l.map (Value.int .u8)).toArray 5)) i (.int .u8 (l.getD i 0)) (by simp [List.getD, hi])
  rw [Addr.add_lit] at this
  exact this
theorem put_fin {n m : Int} (w : World) (l : List Int) (h : okP n m = true) (e : digs n m.toNat = l) (h4 : l.length ≤ 4) :
    ∃ a c, Ending.returned (.tuple #[.slice (some ⟨w.heap.size, 0, none⟩) l.length l.length, .int .i64 0]) = .returned (.tuple #[.slice a (putL n m).length c, .int .i64 (putE n m)]) ∧
      Reads .u8 (w.alloc (.cells (l.map (Value.int .u8)).toArray 5)) a c (putL n m) ∧ Below w.heap.size w (w.alloc (.cells (l.map (Value.int .u8)).toArray 5)) := by
  have hl : putL n m = l := (putL_yes h).trans e
  have hb := putL_bd n m
  rw [hl] at hb
  rw [putE_yes h, hl]
  exact ⟨_, _, rfl, reads_new w l hb h4, (Below.refl _ _).alloc (Nat.le_refl _) _⟩
end Go.Proofs.Ytoedgnkoahcblaa

/-! Appending to a slice that the call itself made, in the words of 'Reads': laws for the walks of the claims on package octets. -/
namespace Go.Proofs.Ytoedgnkoahcblaa
open Go.ChangeShapes Go.WideShapes Go.ChangeAt Go.RowKit O
set_option linter.unusedVariables false
set_option linter.unusedSimpArgs false

theorem info8 : (Try.prog.info? 5).map (fun i => (i.zero, i.size, i.bytes)) = some (some (.int .u8 0), 1, 1) := by kernel_rfl
theorem info64 : (Try.prog.info? 3).map (fun i => (i.zero, i.size, i.bytes)) = some (some (.int .i64 0), 1, 8) := by kernel_rfl

section
variable {w : World} {ops : Array Oper} {rest : List Oper} {o : Oper} {a : Act} {Q : Exit → Act → World → Prop} {k : IntKind}
/-- 'append(s, x...)', s the call's own, x whatever reads l -/
theorem wpList_join (hgd : o.guard = none) (s x : Operand) (t : TypeId)
    (ho : o.op = .call { callee := .builtin .append, args := #[s, x], argTypes := #[t, t] })
    (B : Nat) (e : TypeId) (bytes : Nat) (ht : Try.prog.underlying t = some (.slice e)) (hinfo : (Try.prog.info? e).map (fun i => (i.zero, i.size, i.bytes)) = some (some (.int k 0), 1, bytes))
    {v : Value} {n : Nat} {ys : List Int} (hs : a.eval s = v) (hown : w.ownsRow B e 1 v n (ys.map (Value.int k)))
    {ad : Option Addr} {m c : Nat} {l : List Int} (hx : a.eval x = .slice ad m c) (R : Reads k w ad c l) (hm : l.length = m)
    (hb1 : n + m ≤ 1000000) (hb2 : bytes ≤ 8) (hB : B ≤ w.heap.size)
    (h : ∀ v' w', w'.ownsRow B e 1 v' (n + m) ((ys ++ l).map (Value.int k)) → w.grownBy w' v.ownBlock → wpList Try.prog ops Q rest (a.put o.dst v') w') : wpList Try.prog ops Q (o :: rest) a w := by
  obtain ⟨i0, hi, hz0, hz1, hz2⟩ := info_parts hinfo
  cases ad with
  | none =>
    have hc := R.nil rfl
    have hl : l = [] := List.eq_nil_of_length_eq_zero (by have := R.le; omega)
    subst hl
    simp at hm
    subst hm; subst hc
    refine wpList_append_own_none hgd s x t ho B e i0 1 ht hi v n _ hs hown hx ?_
    exact h v w (by simpa using hown) (World.grownBy.refl _ _)
  | some ad =>
    refine wpList_append_own _ hgd s x t ho B e i0 (.int k 0) 1 bytes ht hi hz0 hz1 hz2 rfl (by decide) v n _ hs hown ad m c (l.map (Value.int k)) hx (by simp [hm]) (cells_of_reads R) (ints_oneCell _ _) (by unfold maxLen; omega) ?_ hB ?_
    · have : (n + m) * bytes ≤ 1000000 * 8 := Nat.mul_le_mul hb1 hb2
      omega
    · intro v' w' h1 h2 _
      rw [← List.map_append] at h1
      exact h v' w' h1 h2
/-- 'append(s, z)', s the call's own: z is laid in a block of its own first -/
theorem wpList_one (W : World) (z : Int) (e : TypeId) (hW : w = W.alloc (.cells #[.int k z] e)) (hgd : o.guard = none) (s x : Operand) (t : TypeId)
    (ho : o.op = .call { callee := .builtin .append, args := #[s, x], argTypes := #[t, t] })
    (B : Nat) (bytes : Nat) (ht : Try.prog.underlying t = some (.slice e)) (hinfo : (Try.prog.info? e).map (fun i => (i.zero, i.size, i.bytes)) = some (some (.int k 0), 1, bytes))
    {v : Value} {n : Nat} {ys : List Int} (hs : a.eval s = v) (hown : W.ownsRow B e 1 v n (ys.map (Value.int k)))
    (hx : a.eval x = .slice (some ⟨W.heap.size, 0, none⟩) 1 1)
    (hb1 : n + 1 ≤ 1000000) (hb2 : bytes ≤ 8) (hB : B ≤ W.heap.size)
    (h : ∀ v' w', w'.ownsRow B e 1 v' (n + 1) ((ys ++ [z]).map (Value.int k)) → w.grownBy w' v.ownBlock → wpList Try.prog ops Q rest (a.put o.dst v') w') : wpList Try.prog ops Q (o :: rest) a w := by
  subst hW
  obtain ⟨i0, hi, hz0, hz1, hz2⟩ := info_parts hinfo
  refine wpList_append_own _ hgd s x t ho B e i0 (.int k 0) 1 bytes ht hi hz0 hz1 hz2 rfl (by decide) v n _ hs (hown.alloc _) _ 1 1 [.int k z] hx rfl (cell_one_new _ _ _) (ints_oneCell k [z]) (by unfold maxLen; omega) ?_ (by simp; omega) ?_
  · have : (n + 1) * bytes ≤ 1000000 * 8 := Nat.mul_le_mul hb1 hb2
    omega
  · intro v' w' h1 h2 _
    exact h v' w' (by rw [List.map_append]; exact h1) h2
end
theorem reads_own {k : IntKind} {w : World} {base e n c : Nat} {a : Option Addr} {l : List Int} (h : w.ownsRow base e 1 (.slice a n c) n (l.map (Value.int k))) (hw : ∀ z ∈ l, (Lit.int k z).wf = true) : Reads k w a c l ∧ l.length = n := by
  obtain ⟨a', c', e1, R, e2⟩ := reads_of_owns h hw
  simp only [Value.slice.injEq] at e1
  obtain ⟨rfl, _, rfl⟩ := e1
  exact ⟨R, e2.symm⟩
theorem own_cell {k : IntKind} {w : World} {base e n g cap p : Nat} {l : List Int} {x : Int} (h : w.ownsRow base e 1 (.slice (some ⟨g, 0, none⟩) n cap) n (l.map (Value.int k))) (hp : p < n) (hx : l[p]? = some x) : w.cell? ⟨g, p, none⟩ = some (.int k x) := by
  rw [h.cellAt p (by omega), List.getElem?_map, hx]; rfl
theorem own_turn {w : World} {base e n g cap i k : Nat} {l L : List Int} {x y u v : Int} (h : w.ownsRow base e 1 (.slice (some ⟨g, 0, none⟩) n cap) n (l.map (Value.int .u8))) (hL : L = (((l.set (2 * i) u).set (2 * i + 1) v).set (2 * k) x).set (2 * k + 1) y) :
    ((((w.setCell ⟨g, 2 * i, none⟩ (.int .u8 u)).setCell ⟨g, 2 * i + 1, none⟩ (.int .u8 v)).setCell ⟨g, 2 * k, none⟩ (.int .u8 x)).setCell ⟨g, 2 * k + 1, none⟩ (.int .u8 y)).ownsRow base e 1 (.slice (some ⟨g, 0, none⟩) n cap) n (L.map (Value.int .u8)) := by
  have := ((((h.stored (2 * i) (.int .u8 u)).1.stored (2 * i + 1) (.int .u8 v)).1.stored (2 * k) (.int .u8 x)).1.stored (2 * k + 1) (.int .u8 y)).1
  rw [← List.map_set, ← List.map_set, ← List.map_set, ← List.map_set, ← hL] at this
  exact this
theorem below_turn {B g : Nat} {w0 w : World} (i k : Nat) (u v x y : Int) (hb : Below B w0 w) (hg : B ≤ g) : Below B w0 ((((w.setCell ⟨g, 2 * i, none⟩ (.int .u8 u)).setCell ⟨g, 2 * i + 1, none⟩ (.int .u8 v)).setCell ⟨g, 2 * k, none⟩ (.int .u8 x)).setCell ⟨g, 2 * k + 1, none⟩ (.int .u8 y)) :=
  (((hb.setCell (p := ⟨g, 2 * i, none⟩) hg _).setCell (p := ⟨g, 2 * i + 1, none⟩) hg _).setCell (p := ⟨g, 2 * k, none⟩) hg _).setCell (p := ⟨g, 2 * k + 1, none⟩) hg _
theorem below_grow {B : Nat} {w0 w w' : World} {e n : Nat} {v : Value} {xs : List Value} (hb : Below B w0 w) (hown : w.ownsRow B e 1 v n xs) (hg : w.grownBy w' v.ownBlock) (hB : B ≤ w.heap.size) : Below B w0 w' :=
  hb.grown hg hB (fun k hk => (hown.lt k hk).1)
theorem below_fresh {B : Nat} {w w' : World} (hg : w.grownBy w' (Value.ownBlock (.slice none 0 0))) (hB : B ≤ w.heap.size) : Below B w w' :=
  (Below.refl B w).grown hg hB (fun k hk => by simp [Value.ownBlock] at hk)
theorem u8_wf {l : List Int} (h : Oct l) : ∀ z ∈ l, (Lit.int .u8 z).wf = true := fun z hz => wf_u8_mk (h z hz).1 (h z hz).2
end Go.Proofs.Ytoedgnkoahcblaa

/-! What PutAll and GetAll of package octets answer. -/
namespace Go.Proofs.Ytoedgnkoahcblaa
open Go.ChangeShapes Go.WideShapes Go.ChangeAt Go.RowKit O
set_option linter.unusedVariables false
set_option linter.unusedSimpArgs false

theorem own_later {w w' : World} {base e n : Nat} {v : Value} {xs : List Value} (h : w.ownsRow base e 1 v n xs) (hb : Below w.heap.size w w') : w'.ownsRow base e 1 v n xs := by
  refine ⟨h.1, ?_⟩
  rcases h.2 with h0 | ⟨g, cap, cur, hv, hbg, hg, rest⟩
  · exact .inl h0
  · exact .inr ⟨g, cap, cur, hv, hbg, (hb.block g (Array.getElem?_eq_some_iff.1 hg).1).trans hg, rest⟩
theorem own_mono {w : World} {base base2 e n : Nat} {v : Value} {xs : List Value} (h : w.ownsRow base e 1 v n xs) (hb : base2 ≤ base) : w.ownsRow base2 e 1 v n xs := by
  refine ⟨h.1, ?_⟩
  rcases h.2 with h0 | ⟨g, cap, cur, hv, hbg, rest⟩
  · exact .inl h0
  · exact .inr ⟨g, cap, cur, hv, Nat.le_trans hb hbg, rest⟩
theorem cell_el {k : IntKind} {w : World} {b o i : Nat} {l : List Int} (hc : ∀ i, i < l.length → w.cell? ⟨b, o + i, none⟩ = some (.int k (l.getD i 0))) (hi : i < l.length) : w.cell? ⟨b, o + i, none⟩ = some (.int k l[i]) := by
  rw [hc i hi, getD_el hi]

end Go.Proofs.Ytoedgnkoahcblaa

/-! What GetAll of package octets answers, for all lists: the contract that the claims on its statements rest on. -/
namespace Go.Proofs.Ytoedgnkoahcblaa
open Go.ChangeShapes Go.WideShapes Go.ChangeAt Go.RowKit O
set_option linter.unusedVariables false
set_option linter.unusedSimpArgs false

theorem ga_wf {b : List Int} (h : Oct b) (ms : List Int) : ∀ z ∈ gaL b ms, (Lit.int .i64 z).wf = true := fun z hz => by
  have := gaL_bd h ms z hz
  exact wf_i64_mk (by omega) (by omega)
theorem ret3 {P : Program} {a b : Option Addr} {n m c d : Nat} {k l e f : Int} (h1 : a = b) (h2 : n = m) (h3 : c = d) (h4 : k = l) (h5 : e = f) : Ending.returned (.tuple #[.slice a n c, .int .i64 k, .int .i64 e]) = .returned (.tuple #[.slice b m d, .int .i64 l, .int .i64 f]) := by rw [h1, h2, h3, h4, h5]

end Go.Proofs.Ytoedgnkoahcblaa
