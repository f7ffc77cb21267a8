/- What it means that a slice reads as a list of integers, and how that stays so: the words that the claims on package octets rest on. -/
import Derived.Test.YtihgpllbgliplaaRows
import Derived.Test.YtihgpllbgliplaaMaths
import Derived.WalkKit
import Derived.ProofKit
import Derived.OpenShut
import Derived.ChangeOld
import Derived.Below
import Derived.Laws.BytesArg
import Derived.Laws.AppendOwnNone
import Derived.Deep.AppendLies
import Derived.Deep.QuietTactic
import Derived.BigQuiet
namespace Go.Proofs.Ytihgpllbgliplaa
open Go.ChangeShapes Go.WideShapes Go.ChangeAt Go.RowKit O
set_option linter.unusedVariables false
set_option linter.unusedSimpArgs false

theorem ret_int {k : IntKind} {a b : Int} (h : a = b) : Ending.returned (.int k a) = .returned (.int k b) := by rw [h]
theorem ret_bool {a b : Bool} (h : a = b) : Ending.returned (.bool a) = .returned (.bool b) := by rw [h]
theorem below_step {w W w1 : World} (h : Below w.heap.size w W) (hb : Below W.heap.size W w1) : Below w.heap.size w w1 := h.trans (hb.mono h.size)
theorem bcell {W w1 : World} (hb : Below W.heap.size W w1) : (∀ b o, b < W.heap.size → w1.cell? ⟨b, o, none⟩ = W.cell? ⟨b, o, none⟩) ∧ (∀ b o, b < W.heap.size → w1.frozen? ⟨b, o, none⟩ = W.frozen? ⟨b, o, none⟩) :=
  ⟨fun b o h => hb.cell (p := ⟨b, o, none⟩) h, fun b o h => hb.frozen (p := ⟨b, o, none⟩) h⟩

/-- the slice at address a with capacity c, as long as l, reads l, in the world w -/
structure Reads (k : IntKind) (w : World) (a : Option Addr) (c : Nat) (l : List Int) : Prop where
  le : l.length ≤ c
  max : c ≤ maxLen
  wf : ∀ z ∈ l, (Lit.int k z).wf = true
  nil : a = none → c = 0
  cells : l ≠ [] → ∃ b o, a = some ⟨b, o, none⟩ ∧ b < w.heap.size ∧ ∀ i, i < l.length → w.cell? ⟨b, o + i, none⟩ = some (.int k (l.getD i 0))

theorem Reads.later {k : IntKind} {w w' : World} {a : Option Addr} {c : Nat} {l : List Int} (h : Reads k w a c l) (hb : Below w.heap.size w w') : Reads k w' a c l :=
  ⟨h.le, h.max, h.wf, h.nil, fun hl => by
    obtain ⟨b, o, e, hlt, hc⟩ := h.cells hl
    exact ⟨b, o, e, Nat.lt_of_lt_of_le hlt hb.size, fun i hi => (hb.cell (p := ⟨b, o + i, none⟩) hlt).trans (hc i hi)⟩⟩
theorem Reads.none (k : IntKind) (w : World) : Reads k w none 0 [] := ⟨by simp, by simp [maxLen], by simp, fun _ => rfl, fun h => absurd rfl h⟩
theorem wf_u8 {z : Int} (h : (Lit.int .u8 z).wf = true) : 0 ≤ z ∧ z ≤ 255 := by
  simp only [Lit.wf, Bool.and_eq_true, decide_eq_true_eq] at h; exact h
theorem wf_u8_mk {z : Int} (h0 : 0 ≤ z) (h : z ≤ 255) : (Lit.int .u8 z).wf = true := by
  simp only [Lit.wf, Bool.and_eq_true, decide_eq_true_eq]; exact ⟨h0, h⟩
theorem wf_i64 {z : Int} (h : (Lit.int .i64 z).wf = true) : -9223372036854775808 ≤ z ∧ z ≤ 9223372036854775807 := by
  simp only [Lit.wf, Bool.and_eq_true, decide_eq_true_eq] at h; exact h
theorem wf_i64_mk {z : Int} (h0 : -9223372036854775808 ≤ z) (h : z ≤ 9223372036854775807) : (Lit.int .i64 z).wf = true := by
  simp only [Lit.wf, Bool.and_eq_true, decide_eq_true_eq]; exact ⟨h0, h⟩
theorem Reads.oct {w : World} {a : Option Addr} {c : Nat} {l : List Int} (h : Reads .u8 w a c l) : Oct l := fun z hz => wf_u8 (h.wf z hz)

/-- what came in as an argument: a slice of integers reads as a list of them -/
theorem reads_of_ints {k : IntKind} {w : World} {x : Addr} {len cap : Nat} {zs : List Int} (hl : len ≤ cap) (hm : cap ≤ maxLen) (hz : zs.length = cap)
    (hcell : ∀ i, i < zs.length → w.cell? (x.add i) = some (.int k (zs.getD i 0))) (hw : ∀ n ∈ zs, (Lit.int k n).wf = true) : Reads k w (some x) cap (zs.take len) := by
  refine ⟨by simp; omega, hm, fun z hz => hw z (List.mem_of_mem_take hz), fun h => (nomatch h), fun hne => ?_⟩
  have hlen : (zs.take len).length = len := by simp; omega
  have h0 : 0 < len := by
    rcases Nat.eq_zero_or_pos len with h | h
    · subst h; simp at hne
    · exact h
  obtain ⟨b, o, s⟩ := x
  have hc := hcell 0 (by omega)
  have hs : s = none := by simpa [Addr.add] using World.cell?_spot hc
  subst hs
  refine ⟨b, o, rfl, ?_, fun i hi => ?_⟩
  · have := World.block_lt_of_cell? w _ hc; simpa [Addr.add] using this
  · rw [hlen] at hi
    have := hcell i (by omega)
    rw [Addr.add_lit] at this
    rw [this]
    simp [List.getD, hi]

/-- a slice that the call itself made reads what it owns -/
theorem reads_of_owns {k : IntKind} {w : World} {base e n : Nat} {v : Value} {l : List Int} (h : w.ownsRow base e 1 v n (l.map (Value.int k))) (hw : ∀ z ∈ l, (Lit.int k z).wf = true) :
    ∃ a c, v = .slice a l.length c ∧ Reads k w a c l ∧ n = l.length := by
  have hn : l.length = n := by simpa using h.1
  subst hn
  rcases h.2 with ⟨rfl, h0⟩ | ⟨g, cap, cur, rfl, hb, hg, hle, hmx, hsz, htk⟩
  · have : l = [] := List.eq_nil_of_length_eq_zero h0
    subst this
    exact ⟨none, 0, rfl, Reads.none k w, rfl⟩
  · refine ⟨some ⟨g, 0, none⟩, cap, rfl, ⟨hle, hmx, hw, fun h => (nomatch h), fun hne => ⟨g, 0, rfl, (Array.getElem?_eq_some_iff.1 hg).1, fun i hi => ?_⟩⟩, rfl⟩
    have := h.cells (g := g) rfl i (.int k (l.getD i 0)) (by simp [List.getD, hi])
    rwa [Addr.add_lit] at this
theorem cells_of_reads {k : IntKind} {w : World} {x : Addr} {c : Nat} {l : List Int} (h : Reads k w (some x) c l) : ∀ j u, (l.map (Value.int k))[j]? = some u → w.cell? (x.add j) = some u := by
  intro j u hu
  have hj : j < l.length := by have := (List.getElem?_eq_some_iff.1 hu).1; simpa using this
  obtain ⟨b, o, e, _, hc⟩ := h.cells (by intro h0; subst h0; simp at hj)
  obtain rfl := Option.some.inj e
  rw [Addr.add_lit, hc j hj]
  simp [hj] at hu
  subst hu
  simp [List.getD, hj]

/-- cut at its front: what 'b[at:]' reads -/
theorem Reads.drop {k : IntKind} {w : World} {a : Option Addr} {c : Nat} {l : List Int} (h : Reads k w a c l) (j : Nat) (hj : j ≤ l.length) : Reads k w (if c = j then a else a.map (·.add j)) (c - j) (l.drop j) := by
  have hle := h.le
  refine ⟨by simp; omega, by have := h.max; omega, fun z hz => h.wf z (List.mem_of_mem_drop hz), fun hn => ?_, fun hne => ?_⟩
  · split at hn
    · omega
    · rename_i hc
      cases a with
      | none => have := h.nil rfl; omega
      | some x => simp at hn
  · have hlt : j < l.length := by
      rcases Nat.lt_or_ge j l.length with h1 | h1
      · exact h1
      · exact absurd (List.drop_eq_nil_of_le h1) hne
    obtain ⟨b, o, rfl, hb, hc⟩ := h.cells (by intro h0; subst h0; simp at hlt)
    refine ⟨b, o + j, ?_, hb, fun i hi => ?_⟩
    · rw [if_neg (by omega)]; simp [Addr.add_lit]
    · simp at hi
      rw [Nat.add_assoc, hc (j + i) (by omega)]
      simp [List.getD]
/-- cut at its end: what 'b[:n]' reads -/
theorem Reads.take {k : IntKind} {w : World} {a : Option Addr} {c : Nat} {l : List Int} (h : Reads k w a c l) (n : Nat) : Reads k w a c (l.take n) := by
  refine ⟨by have := h.le; simp; omega, h.max, fun z hz => h.wf z (List.mem_of_mem_take hz), h.nil, fun hne => ?_⟩
  obtain ⟨b, o, e, hb, hc⟩ := h.cells (by intro h0; subst h0; simp at hne)
  refine ⟨b, o, e, hb, fun i hi => ?_⟩
  simp at hi
  have h1 : i < n := by omega
  rw [hc i (by omega)]
  simp [List.getD, h1]

theorem strOfNums_inj {l m : List Int} (hl : Oct l) (hm : Oct m) (h : strOfNums l = strOfNums m) : l = m := by
  have e : (strOfNums l).data.toList = (strOfNums m).data.toList := by rw [h]
  rw [strOfNums_data, strOfNums_data] at e
  have key : ∀ l : List Int, Oct l → (l.map fun n => UInt8.ofNat n.toNat).map (fun b => (b.toNat : Int)) = l := by
    intro l hl
    rw [List.map_map]
    conv => rhs; rw [← List.map_id l]
    apply List.map_congr_left
    intro z hz
    have := hl z hz
    simp only [Function.comp, id, UInt8.toNat_ofNat']
    omega
  rw [← key l hl, ← key m hm, e]
/-- behind any draws -/
theorem below_draws (B : Nat) (w : World) (n : Nat) : Below B w (w.drewN n) := ⟨rfl, rfl, rfl, Nat.le_refl _, fun _ _ => rfl⟩
end Go.Proofs.Ytihgpllbgliplaa
