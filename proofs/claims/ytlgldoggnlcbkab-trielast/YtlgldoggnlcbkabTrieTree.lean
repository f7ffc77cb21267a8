/- How a tree of prefixes lies in a trie's memory. -/
import Derived.Test.YtlgldoggnlcbkabTrieSeek
namespace Go.Proofs.Ytlgldoggnlcbkab
open Go.ChangeShapes Go.WideShapes Go.ChangeAt Go.RowKit Tt
set_option linter.unusedVariables false
set_option linter.unusedSimpArgs false

/-- the tree t lies at the node i, its nodes are those of ids, in the order of a walk -/
def TreeAt (m : Mm) : Nat → Tr → List Nat → Prop
  | i, .nil, ids => i = 0 ∧ ids = []
  | i, .node k v l r, ids => i ≠ 0 ∧ i ≤ 1000 ∧ Tt.may (m.pre i) = true ∧ kq (m.pre i) = k ∧ m.told i = v.isSome ∧ (∀ x, v = some x → m.v i = x) ∧
      ∃ il ir, TreeAt m (m.kid i false) l il ∧ TreeAt m (m.kid i true) r ir ∧ ids = i :: (il ++ ir)
def FreeAt (m : Mm) : Nat → List Nat → Prop
  | i, [] => i = 0
  | i, j :: fl => i = j ∧ i ≠ 0 ∧ i ≤ 1000 ∧ FreeAt m (m.kid i false) fl
theorem TreeAt.root {m : Mm} {i : Nat} {t : Tr} {ids : List Nat} (h : TreeAt m i t ids) : i ≤ 1000 := by
  cases t with
  | nil => have := h.1; omega
  | node k v l r => exact h.2.1
theorem TreeAt.mem {m : Mm} {t : Tr} : ∀ {i : Nat} {ids : List Nat}, TreeAt m i t ids → ∀ j ∈ ids, j ≠ 0 ∧ j ≤ 1000 := by
  induction t with
  | nil => intro i ids h j hj; rw [h.2] at hj; cases hj
  | node k v l r ihl ihr =>
    rintro i ids ⟨h0, h1, _, _, _, _, il, ir, hl, hr, rfl⟩ j hj
    rcases List.mem_cons.1 hj with rfl | hj
    · exact ⟨h0, h1⟩
    · rcases List.mem_append.1 hj with hj | hj
      · exact ihl hl j hj
      · exact ihr hr j hj
theorem TreeAt.len {m : Mm} {t : Tr} : ∀ {i : Nat} {ids : List Nat}, TreeAt m i t ids → ids.length = (nodes t).length := by
  induction t with
  | nil => intro i ids h; rw [h.2]; rfl
  | node k v l r ihl ihr =>
    rintro i ids ⟨h0, h1, _, _, _, _, il, ir, hl, hr, rfl⟩
    simp [nodes, ihl hl, ihr hr]
/-- the entry of a node -/
def Mm.ent (m : Mm) (i : Nat) : T3 := (m.pre i, m.v i)
def toldOf (m : Mm) (ids : List Nat) : List T3 := (ids.filter (fun i => m.told i)).map m.ent
theorem TreeAt.walk {m : Mm} {t : Tr} : ∀ {i : Nat} {ids : List Nat}, TreeAt m i t ids → (toldOf m ids).map mE = Tt.walk t ∧ AllMay (toldOf m ids) := by
  induction t with
  | nil => intro i ids h; rw [h.2]; exact ⟨rfl, fun e he => by cases he⟩
  | node k v l r ihl ihr =>
    rintro i ids ⟨h0, h1, hm, hk, ht, hv, il, ir, hl, hr, rfl⟩
    obtain ⟨wl, ml⟩ := ihl hl
    obtain ⟨wr, mr⟩ := ihr hr
    have e : toldOf m (i :: (il ++ ir)) = (if m.told i = true then [m.ent i] else []) ++ (toldOf m il ++ toldOf m ir) := by
      unfold toldOf
      rw [List.filter_cons]
      split <;> simp [List.filter_append]
    rw [e]
    refine ⟨?_, ?_⟩
    · rw [List.map_append, List.map_append, wl, wr]
      have : (if m.told i = true then [m.ent i] else []).map mE = own k v := by
        cases v with
        | none => rw [ht]; rfl
        | some x => rw [ht]; simp [own, mE, Mm.ent, hk, hv x rfl]
      rw [this]
      rfl
    · intro e he
      rcases List.mem_append.1 he with he | he
      · split at he
        · rw [List.mem_singleton.1 he]; exact hm
        · cases he
      · rcases List.mem_append.1 he with he | he
        · exact ml e he
        · exact mr e he
end Go.Proofs.Ytlgldoggnlcbkab
