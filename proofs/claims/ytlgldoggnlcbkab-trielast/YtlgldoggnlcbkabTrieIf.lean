/- What the statements on package trie ask of its functions, as one structure: whatever the code is, it is to be shown of it; and what follows for the statements. -/
import Derived.Test.YtlgldoggnlcbkabTrieCut
import Derived.Test.YtlgldoggnlcbkabTrieOpen
namespace Go.Proofs.Ytlgldoggnlcbkab
open Go.ChangeShapes Go.WideShapes Go.ChangeAt Go.RowKit Tt
set_option linter.unusedVariables false
set_option linter.unusedSimpArgs false

/-- how many nodes prefixes have -/
def count (l : List T3) : Int := ((nodesR (l.map (·.1))).length : Int)
def putErr (room : Int) (l : List T3) (e : T3) : Int := if may e.1 = true then (if count (withGo e false l) ≤ room then 0 else 7) else 1
def putTo (room : Int) (l : List T3) (e : T3) : List T3 := if putErr room l e = 0 then withGo e false l else l
def cutErr (l : List T3) (p : P2) : Int := if may p = true then (if (cutR l p).length = l.length then 5 else 0) else 1
def cutTo (l : List T3) (p : P2) : List T3 := if may p = true then cutR l p else l
structure Code where
  /-- a trie of that room that tells of l lies at the block B, all of its blocks among F -/
  At : (Nat → Prop) → World → Nat → Int → List T3 → Prop
  kept : ∀ {F S : Nat → Prop} {w w' : World} {B : Nat} {room : Int} {l : List T3}, At F w B room l → Keeps S w w' → (∀ k, F k → ¬ S k) → At F w' B room l
  lt : ∀ {F : Nat → Prop} {w : World} {B : Nat} {room : Int} {l : List T3}, At F w B room l → ∀ k, F k → k < w.heap.size
  rep : ∀ {F : Nat → Prop} {w : World} {B : Nat} {room : Int} {l : List T3}, At F w B room l → (∃ t, Rep t l) ∧ count l ≤ room ∧ 0 ≤ room ∧ room ≤ 1000
  new : ∀ (n : Int) (w : World), Calls Try.prog 6 #[.int .i64 n] w fun e w' => ∃ B F, e = .returned (.pointer (some ⟨B, 0, none⟩)) ∧ At F w' B (roomOf n) [] ∧ (∀ k, F k → w.heap.size ≤ k) ∧ Below w.heap.size w w'
  put : ∀ {F : Nat → Prop} {w : World} {B : Nat} {room : Int} {l : List T3} (p0 p1 v : Int), (∀ z ∈ [p0, p1, v], (Lit.int .i64 z).wf = true) → At F w B room l → l.length ≤ 90 →
    Calls Try.prog 7 #[.pointer (some ⟨B, 0, none⟩), .agg #[.int .i64 p0, .int .i64 p1], .int .i64 v] w fun e w' => e = .returned (.int .i64 (putErr room l ((p0, p1), v))) ∧ (∃ F', At F' w' B room (putTo room l ((p0, p1), v)) ∧ ∀ k, F' k → Grow F w w' k) ∧ Keeps F w w'
  find : ∀ {F : Nat → Prop} {w : World} {B : Nat} {room : Int} {l : List T3} (addr : Int) {g0 g1 g2 : Int}, (Lit.int .i64 addr).wf = true → At F w B room l → l.length ≤ 90 → bestE (findR l addr none) = [g0, g1, g2] →
    Calls Try.prog 11 #[.pointer (some ⟨B, 0, none⟩), .int .i64 addr] w fun e w' => e = .returned (.tuple #[.agg #[.int .i64 g0, .int .i64 g1, .int .i64 g2], .bool (findR l addr none).isSome]) ∧ Below w.heap.size w w'
  walk : ∀ {F : Nat → Prop} {w : World} {B : Nat} {room : Int} {l : List T3}, At F w B room l → l.length ≤ 90 →
    Calls Try.prog 8 #[.pointer (some ⟨B, 0, none⟩)] w fun e w' => ∃ x c, e = .returned (.slice x l.length c) ∧ (Rds fE 3 w' x c l ∧ ∀ y, x = some y → w.heap.size ≤ y.block) ∧ Below w.heap.size w w'
  nodes : ∀ {F : Nat → Prop} {w : World} {B : Nat} {room : Int} {l : List T3}, At F w B room l → l.length ≤ 90 →
    Calls Try.prog 9 #[.pointer (some ⟨B, 0, none⟩)] w fun e w' => e = .returned (.int .i64 (count l)) ∧ Below w.heap.size w w'
  putNil : ∀ w, Calls Try.prog 7 #[.pointer none, .agg #[.int .i64 0, .int .i64 0], .int .i64 1] w fun e w' => e = .returned (.int .i64 7) ∧ Below w.heap.size w w'
  findNil : ∀ w, Calls Try.prog 11 #[.pointer none, .int .i64 0] w fun e w' => e = .returned (.tuple #[.agg #[.int .i64 0, .int .i64 0, .int .i64 0], .bool false]) ∧ Below w.heap.size w w'
  walkNil : ∀ w, Calls Try.prog 8 #[.pointer none] w fun e w' => ∃ x c, e = .returned (.slice x 0 c) ∧ Below w.heap.size w w'
  nodesNil : ∀ w, Calls Try.prog 9 #[.pointer none] w fun e w' => e = .returned (.int .i64 0) ∧ Below w.heap.size w w'
section
variable (C : Code) {F : Nat → Prop} {w w' : World} {B : Nat} {room : Int} {l : List T3}
theorem Code.later (h : C.At F w B room l) (hb : Below w.heap.size w w') : C.At F w' B room l := C.kept h (S := fun _ => False) (Keeps.of_below hb) (fun _ _ h => h)
theorem Code.may (h : C.At F w B room l) : AllMay l := by obtain ⟨⟨t, r⟩, _⟩ := C.rep h; exact r.may
theorem Code.srt (h : C.At F w B room l) : Srt l := by obtain ⟨⟨t, r⟩, _⟩ := C.rep h; exact r.srt
end
theorem put_len (room : Int) (l : List T3) (e : T3) : (putTo room l e).length ≤ l.length + 1 := by
  unfold putTo
  split
  · have := with_len e false l; simpa using this
  · omega
theorem cut_all {l : List T3} {p : P2} (h : (cutR l p).length = l.length) : cutR l p = l := by
  unfold cutR at *
  exact List.filter_eq_self.2 (List.length_filter_eq_length_iff.1 h)
/-! ### the chapter's example -/
def ex1 : T3 := ((167772160, 8), 1)
def ex2 : T3 := ((167837696, 16), 2)
def ex3 : T3 := ((184549376, 8), 3)
theorem ex_1 : putErr 4 [] ex1 = 0 ∧ putTo 4 [] ex1 = [ex1] := by decide +kernel
theorem ex_2 : putErr 4 [ex1] ex2 = 0 ∧ putTo 4 [ex1] ex2 = [ex1, ex2] ∧ count [ex1, ex2] = 2 := by decide +kernel
theorem ex_3 : putErr 4 [ex1, ex2] ex3 = 0 ∧ putTo 4 [ex1, ex2] ex3 = [ex1, ex2, ex3] ∧ count [ex1, ex2, ex3] = 4 := by decide +kernel
theorem ex_4 : bestE (findR [ex1, ex2, ex3] 167838211 none) = [167837696, 16, 2] ∧ (findR [ex1, ex2, ex3] 167838211 none).isSome = true := by decide +kernel
theorem ex_5 : bestE (findR [ex1, ex2, ex3] 167903232 none) = [167772160, 8, 1] ∧ (findR [ex1, ex2, ex3] 167903232 none).isSome = true := by decide +kernel
end Go.Proofs.Ytlgldoggnlcbkab
