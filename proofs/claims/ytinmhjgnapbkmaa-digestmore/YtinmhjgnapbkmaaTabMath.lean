/- Tables as lists of versions, each a tag and its rules: what is put, dropped, looked up; no program in sight. -/
import Derived.Test.YtinmhjgnapbkmaaPickPlain
namespace Go.Proofs.Ytinmhjgnapbkmaa.Tb
open Go Pk
set_option linter.unusedVariables false
set_option linter.unusedSimpArgs false

/-- a version: a tag, and its rules -/
structure Vr where
  t : Int
  l : List Rl
  deriving DecidableEq, Inhabited
/-- how many rules all versions have -/
def sizeT : List Vr → Nat
  | [] => 0
  | v :: l => v.l.length + sizeT l
/-- the rules of the first version of a tag -/
def ofT : List Vr → Int → Option (List Rl)
  | [], _ => none
  | v :: l, t => if v.t = t then some v.l else ofT l t
/-- where it stands; -1: nowhere -/
def whereT : List Vr → Int → Option Nat
  | [], _ => none
  | v :: l, t => if v.t = t then some 0 else (whereT l t).map (· + 1)
/-- a rule in the place of the first one alike; none: there is none -/
def putR : List Rl → Rl → Option (List Rl)
  | [], _ => none
  | s :: l, r => if alike s r = true then some (r :: l) else (putR l r).map (s :: ·)
/-- other rules for the first version of a tag -/
def setT : List Vr → Int → List Rl → List Vr
  | [], _, _ => []
  | v :: l, t, rs => if v.t = t then ⟨v.t, rs⟩ :: l else v :: setT l t rs
/-- a new version ahead of the first one with a greater tag -/
def insT : List Vr → Int → Rl → List Vr
  | [], t, r => [⟨t, [r]⟩]
  | v :: l, t, r => if t < v.t then ⟨t, [r]⟩ :: v :: l else v :: insT l t r
def dropT : List Vr → Int → List Vr
  | [], _ => []
  | v :: l, t => if v.t = t then l else v :: dropT l t
def putT (l : List Vr) (t : Int) (r : Rl) (room : Int) : List Vr × Int :=
  if mayR r = false ∨ t < 1 ∨ 4095 < t then (l, 1)
  else match ofT l t with
    | some rs => match putR rs r with
      | some q => (setT l t q, 0)
      | none => if room ≤ (sizeT l : Int) then (l, 7) else (setT l t (rs ++ [r]), 0)
    | none => if room ≤ (sizeT l : Int) then (l, 7) else (insT l t r, 0)
/-- what is done: an action's two numbers, and how it ended -/
def lookT (l : List Vr) (t x d : Int) : (Int × Int) × Int :=
  match ofT l t with
  | none => ((0, 0), 4)
  | some rs => if firstL x d rs = -1 then ((0, 0), 3) else
    (((rs.getD (firstL x d rs).toNat default).k, (rs.getD (firstL x d rs).toNat default).t), if (rs.getD (firstL x d rs).toNat default).k = 1 then 0 else 2)
/-- a table of a size that every count of it is exact -/
def Sm (l : List Vr) : Prop := l.length ≤ 100 ∧ ∀ v ∈ l, v.l.length ≤ 100
theorem size_app (l m : List Vr) : sizeT (l ++ m) = sizeT l + sizeT m := by
  induction l with
  | nil => simp [sizeT]
  | cons v l ih => simp [sizeT, ih, Nat.add_assoc]
theorem getD_atV {l : List Vr} {k : Nat} (h : k < l.length) : l[k]? = some (l.getD k default) := by
  rw [List.getD_eq_getElem?_getD, List.getElem?_eq_getElem h]; rfl
theorem takeV {l : List Vr} {k : Nat} (h : k < l.length) : l.take (k + 1) = l.take k ++ [l.getD k default] := by
  rw [List.take_add_one, getD_atV h]; rfl
theorem size_take {l : List Vr} {k : Nat} (h : k < l.length) : sizeT (l.take (k + 1)) = sizeT (l.take k) + (l.getD k default).l.length := by
  rw [takeV h, size_app]; simp [sizeT]
theorem sm_take {l : List Vr} (h : Sm l) (k : Nat) : Sm (l.take k) := ⟨by rw [List.length_take]; have := h.1; omega, fun v hv => h.2 v (List.mem_of_mem_take hv)⟩
theorem size_le : ∀ {l : List Vr} {n : Nat}, (∀ v ∈ l, v.l.length ≤ n) → sizeT l ≤ l.length * n
  | [], n, _ => by simp [sizeT]
  | v :: l, n, h => by
    have h1 := size_le (l := l) (n := n) (fun u hu => h u (List.mem_cons_of_mem _ hu))
    have h2 := h v List.mem_cons_self
    rw [sizeT, List.length_cons, Nat.succ_mul]
    omega
theorem size_sm {l : List Vr} (h : Sm l) : sizeT l ≤ 10000 := Nat.le_trans (size_le h.2) (by have := Nat.mul_le_mul h.1 (Nat.le_refl 100); omega)
/-- the place of a tag, told by a scan: none of the first k has it -/
theorem where_scan : ∀ {l : List Vr} {t : Int} {k : Nat}, k < l.length → (∀ i, i < k → ¬ (l.getD i default).t = t) → (l.getD k default).t = t → whereT l t = some k
  | [], t, k, h, _, _ => absurd h (Nat.not_lt_zero _)
  | v :: l, t, 0, _, _, e => by
    have e' : v.t = t := e
    rw [whereT, if_pos e']
  | v :: l, t, k + 1, h, hn, e => by
    have h0 : ¬ v.t = t := hn 0 (Nat.succ_pos _)
    rw [whereT, if_neg h0, where_scan (l := l) (k := k) (Nat.lt_of_succ_lt_succ h) (fun i hi => hn (i + 1) (Nat.succ_lt_succ hi)) e]
    rfl
theorem where_none : ∀ {l : List Vr} {t : Int}, (∀ i, i < l.length → ¬ (l.getD i default).t = t) → whereT l t = none
  | [], t, _ => rfl
  | v :: l, t, hn => by
    have h0 : ¬ v.t = t := hn 0 (Nat.succ_pos _)
    rw [whereT, if_neg h0, where_none (l := l) (fun i hi => hn (i + 1) (Nat.succ_lt_succ hi))]
    rfl
theorem of_where : ∀ (l : List Vr) (t : Int), ofT l t = (whereT l t).map (fun i => (l.getD i default).l)
  | [], t => rfl
  | v :: l, t => by
    by_cases h : v.t = t
    · rw [ofT, whereT, if_pos h, if_pos h]; rfl
    · rw [ofT, whereT, if_neg h, if_neg h, of_where l t]
      cases whereT l t <;> rfl
theorem where_lt : ∀ {l : List Vr} {t : Int} {i : Nat}, whereT l t = some i → i < l.length ∧ (l.getD i default).t = t ∧ ∀ k, k < i → ¬ (l.getD k default).t = t
  | [], t, i, h => by cases h
  | v :: l, t, i, h => by
    by_cases e : v.t = t
    · rw [whereT, if_pos e] at h
      cases h
      exact ⟨Nat.succ_pos _, e, fun k hk => absurd hk (Nat.not_lt_zero _)⟩
    · rw [whereT, if_neg e] at h
      obtain ⟨j, hj, rfl⟩ := Option.map_eq_some_iff.1 h
      obtain ⟨h1, h2, h3⟩ := where_lt hj
      refine ⟨Nat.succ_lt_succ h1, h2, fun k hk => ?_⟩
      cases k with
      | zero => exact e
      | succ k => exact h3 k (Nat.lt_of_succ_lt_succ hk)
theorem set_where : ∀ {l : List Vr} {t : Int} {i : Nat} (rs : List Rl), whereT l t = some i → setT l t rs = l.set i ⟨t, rs⟩
  | [], t, i, rs, h => by cases h
  | v :: l, t, i, rs, h => by
    by_cases e : v.t = t
    · rw [whereT, if_pos e] at h
      cases h
      rw [setT, if_pos e, e]; rfl
    · rw [whereT, if_neg e] at h
      obtain ⟨j, hj, rfl⟩ := Option.map_eq_some_iff.1 h
      rw [setT, if_neg e, set_where rs hj]; rfl
theorem drop_where : ∀ {l : List Vr} {t : Int} {i : Nat}, whereT l t = some i → dropT l t = l.take i ++ l.drop (i + 1)
  | [], t, i, h => by cases h
  | v :: l, t, i, h => by
    by_cases e : v.t = t
    · rw [whereT, if_pos e] at h
      cases h
      rw [dropT, if_pos e]; rfl
    · rw [whereT, if_neg e] at h
      obtain ⟨j, hj, rfl⟩ := Option.map_eq_some_iff.1 h
      rw [dropT, if_neg e, drop_where hj]; rfl
theorem drop_none : ∀ {l : List Vr} {t : Int}, whereT l t = none → dropT l t = l
  | [], t, _ => rfl
  | v :: l, t, h => by
    by_cases e : v.t = t
    · rw [whereT, if_pos e] at h; cases h
    · rw [whereT, if_neg e] at h
      rw [dropT, if_neg e, drop_none (Option.map_eq_none_iff.1 h)]
/-- where the first version of a tag stands, or behind all -/
def whereN (l : List Vr) (t : Int) : Nat := (whereT l t).getD l.length
theorem drop_erase (l : List Vr) (t : Int) : dropT l t = l.eraseIdx (whereN l t) := by
  unfold whereN
  cases h : whereT l t with
  | none => rw [drop_none h, Option.getD_none, List.eraseIdx_of_length_le (Nat.le_refl _)]
  | some i => rw [drop_where h, Option.getD_some, List.eraseIdx_eq_take_drop_succ]
theorem erase_lt {l : List Vr} {j k : Nat} (hk : k < l.length) (h : k < j) : (l.take (k + 1)).eraseIdx j = (l.take k).eraseIdx j ++ [l.getD k default] := by
  have h1 : (l.take (k + 1)).length ≤ j := by rw [List.length_take]; omega
  have h2 : (l.take k).length ≤ j := by rw [List.length_take]; omega
  rw [List.eraseIdx_of_length_le h1, List.eraseIdx_of_length_le h2, takeV hk]
theorem erase_eq {l : List Vr} {j : Nat} (hk : j < l.length) : (l.take (j + 1)).eraseIdx j = (l.take j).eraseIdx j := by
  have h2 : (l.take j).length ≤ j := by rw [List.length_take]; omega
  have h3 : (l.take j).length = j := by rw [List.length_take]; omega
  rw [takeV hk, List.eraseIdx_append_of_length_le h2, h3, Nat.sub_self, List.eraseIdx_of_length_le h2]
  simp
theorem erase_gt {l : List Vr} {j k : Nat} (hk : k < l.length) (h : j < k) : (l.take (k + 1)).eraseIdx j = (l.take k).eraseIdx j ++ [l.getD k default] := by
  have h2 : j < (l.take k).length := by rw [List.length_take]; omega
  rw [takeV hk, List.eraseIdx_append_of_lt_length h2]
theorem erase_len (l : List Vr) (j k : Nat) : ((l.take k).eraseIdx j).length ≤ k := by
  have h1 := List.length_eraseIdx_le (l.take k) j
  have h2 : (l.take k).length ≤ k := by rw [List.length_take]; omega
  omega
/-- where a new version goes: ahead of the first one with a greater tag -/
theorem ins_at : ∀ {l : List Vr} {t : Int} (r : Rl) {k : Nat}, k < l.length → (∀ i, i < k → ¬ t < (l.getD i default).t) → t < (l.getD k default).t → insT l t r = l.take k ++ (⟨t, [r]⟩ :: l.drop k)
  | [], t, r, k, h, _, _ => absurd h (Nat.not_lt_zero _)
  | v :: l, t, r, 0, _, _, e => by
    have e' : t < v.t := e
    rw [insT, if_pos e']; rfl
  | v :: l, t, r, k + 1, h, hn, e => by
    have h0 : ¬ t < v.t := hn 0 (Nat.succ_pos _)
    rw [insT, if_neg h0, ins_at (l := l) r (k := k) (Nat.lt_of_succ_lt_succ h) (fun i hi => hn (i + 1) (Nat.succ_lt_succ hi)) e]
    rfl
theorem ins_end : ∀ {l : List Vr} {t : Int} (r : Rl), (∀ i, i < l.length → ¬ t < (l.getD i default).t) → insT l t r = l ++ [⟨t, [r]⟩]
  | [], t, r, _ => rfl
  | v :: l, t, r, hn => by
    have h0 : ¬ t < v.t := hn 0 (Nat.succ_pos _)
    rw [insT, if_neg h0, ins_end (l := l) r (fun i hi => hn (i + 1) (Nat.succ_lt_succ hi))]
    rfl
/-- where a rule goes: in the place of the first one alike -/
theorem putR_at : ∀ {l : List Rl} {r : Rl} {k : Nat}, k < l.length → (∀ i, i < k → alike (l.getD i default) r = false) → alike (l.getD k default) r = true → putR l r = some (l.set k r)
  | [], r, k, h, _, _ => absurd h (Nat.not_lt_zero _)
  | s :: l, r, 0, _, _, e => by
    have e' : alike s r = true := e
    rw [putR, if_pos e']; rfl
  | s :: l, r, k + 1, h, hn, e => by
    have h0 : alike s r = false := hn 0 (Nat.succ_pos _)
    rw [putR, if_neg (by rw [h0]; decide), putR_at (l := l) (k := k) (Nat.lt_of_succ_lt_succ h) (fun i hi => hn (i + 1) (Nat.succ_lt_succ hi)) e]
    rfl
theorem putR_none : ∀ {l : List Rl} {r : Rl}, (∀ i, i < l.length → alike (l.getD i default) r = false) → putR l r = none
  | [], r, _ => rfl
  | s :: l, r, hn => by
    have h0 : alike s r = false := hn 0 (Nat.succ_pos _)
    rw [putR, if_neg (by rw [h0]; decide), putR_none (l := l) (fun i hi => hn (i + 1) (Nat.succ_lt_succ hi))]
    rfl
theorem putT_arg {l : List Vr} {t : Int} {r : Rl} {m : Int} (h : mayR r = false ∨ t < 1 ∨ 4095 < t) : putT l t r m = (l, 1) := by unfold putT; rw [if_pos h]
theorem putT_ok {l : List Vr} {t : Int} {r : Rl} {m : Int} (h : ¬ (mayR r = false ∨ t < 1 ∨ 4095 < t)) : putT l t r m = match ofT l t with
    | some rs => match putR rs r with
      | some q => (setT l t q, 0)
      | none => if m ≤ (sizeT l : Int) then (l, 7) else (setT l t (rs ++ [r]), 0)
    | none => if m ≤ (sizeT l : Int) then (l, 7) else (insT l t r, 0) := by unfold putT; rw [if_neg h]
section
variable {l : List Vr} {t : Int} {r : Rl} {m : Int} {i : Nat}
theorem putT_same (h : ¬ (mayR r = false ∨ t < 1 ∨ 4095 < t)) (hw : whereT l t = some i) {k : Nat} (hk : k < (l.getD i default).l.length) (hn : ∀ j, j < k → alike ((l.getD i default).l.getD j default) r = false) (ha : alike ((l.getD i default).l.getD k default) r = true) :
    putT l t r m = (l.set i ⟨(l.getD i default).t, (l.getD i default).l.set k r⟩, 0) := by
  have ho : ofT l t = some (l.getD i default).l := by rw [of_where, hw]; rfl
  rw [putT_ok h, ho]
  dsimp only
  rw [putR_at hk hn ha]
  dsimp only
  rw [set_where _ hw, (where_lt hw).2.1]
theorem putT_full1 (h : ¬ (mayR r = false ∨ t < 1 ∨ 4095 < t)) (hw : whereT l t = some i) (hn : ∀ j, j < (l.getD i default).l.length → alike ((l.getD i default).l.getD j default) r = false) (hm : m ≤ (sizeT l : Int)) : putT l t r m = (l, 7) := by
  have ho : ofT l t = some (l.getD i default).l := by rw [of_where, hw]; rfl
  rw [putT_ok h, ho]
  dsimp only
  rw [putR_none hn]
  dsimp only
  rw [if_pos hm]
theorem putT_more (h : ¬ (mayR r = false ∨ t < 1 ∨ 4095 < t)) (hw : whereT l t = some i) (hn : ∀ j, j < (l.getD i default).l.length → alike ((l.getD i default).l.getD j default) r = false) (hm : ¬ m ≤ (sizeT l : Int)) :
    putT l t r m = (l.set i ⟨(l.getD i default).t, (l.getD i default).l ++ [r]⟩, 0) := by
  have ho : ofT l t = some (l.getD i default).l := by rw [of_where, hw]; rfl
  rw [putT_ok h, ho]
  dsimp only
  rw [putR_none hn]
  dsimp only
  rw [if_neg hm, set_where _ hw, (where_lt hw).2.1]
theorem putT_full0 (h : ¬ (mayR r = false ∨ t < 1 ∨ 4095 < t)) (hw : whereT l t = none) (hm : m ≤ (sizeT l : Int)) : putT l t r m = (l, 7) := by
  have ho : ofT l t = none := by rw [of_where, hw]; rfl
  rw [putT_ok h, ho]
  dsimp only
  rw [if_pos hm]
theorem putT_new (h : ¬ (mayR r = false ∨ t < 1 ∨ 4095 < t)) (hw : whereT l t = none) (hm : ¬ m ≤ (sizeT l : Int)) : putT l t r m = (insT l t r, 0) := by
  have ho : ofT l t = none := by rw [of_where, hw]; rfl
  rw [putT_ok h, ho]
  dsimp only
  rw [if_neg hm]
end
end Go.Proofs.Ytinmhjgnapbkmaa.Tb
