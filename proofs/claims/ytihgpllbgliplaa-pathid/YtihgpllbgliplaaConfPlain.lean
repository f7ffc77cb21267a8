/- What the document's Most and At answer, and the statements' Few. -/
import Derived.Test.YtihgpllbgliplaaConfMem
import Derived.Test.YtihgpllbgliplaaQuiets
namespace Go.Proofs.Ytihgpllbgliplaa
open Go.ChangeShapes Go.WideShapes Go.ChangeAt Go.RowKit Pk Cf
set_option linter.unusedVariables false
set_option linter.unusedSimpArgs false

section
variable (w : World) {a : Option Addr} {c : Nat} {L : Cnf}
set_option maxHeartbeats 2000000 in
theorem few_any (V : Lists w a c L) :
    Calls Try.prog 11 #[.slice a L.length c] w fun e w' => e = .returned (.bool (fewB L)) ∧ w' = w := by
  have hmx := Nat.le_trans V.le V.max
  unfold maxLen at hmx
  by_cases h10 : 10 < L.length
  case pos =>
    have hz : (10 : Int) < (L.length : Int) := by omega
    have hf : fewB L = false := by unfold fewB; rw [decide_eq_false (by omega)]; rfl
    rw [hf]
    clear V
    go_enter Try.func11, Try.ntmps11
    go_wp2
    go_ret
    exact ⟨rfl, rfl⟩
  have hz : ¬ (10 : Int) < (L.length : Int) := by omega
  have HF : Hid ((∀ l ∈ L, l.length ≤ 60) → fewB L = true) := fun h => (few_iff L).2 ⟨by omega, h⟩
  have HG : Hid (∀ l ∈ L, 60 < l.length → fewB L = false) := fun l hl h => by
    cases g : fewB L
    · rfl
    · have := ((few_iff L).1 g).2 l hl; omega
  generalize fewB L = res at HF HG ⊢
  go_enter Try.func11, Try.ntmps11
  go_wp2_with fail
  go_loopw [3] (fun vi wr => ∃ k : Nat, Hid (k ≤ L.length) ∧ vi = .int .i64 (k : Nat) ∧ Hid (∀ l ∈ L.take k, l.length ≤ 60) ∧ wr = w) (fun vi _ => L.length - (intOf vi).toNat)
  case atStart => exact ⟨0, Nat.zero_le _, rfl, (show Hid _ from fun l hl => by simp at hl), rfl⟩
  case round =>
    obtain ⟨k, HK, rfl, HA, rfl⟩ := hrel
    by_cases hlt : k < L.length
    · have hkz : (k : Int) < (L.length : Int) := by omega
      obtain ⟨l, hl⟩ := getC hlt
      obtain ⟨b, o, x, m, rfl, hb, c0, R⟩ := V.at hl
      have HLT : Hid (k + 1 ≤ L.length) := hlt
      have HM : Hid (l ∈ L) := List.mem_of_getElem? hl
      have HT : Hid (l.length ≤ 60 → ∀ r ∈ L.take (k + 1), r.length ≤ 60) := fun h => mem_take_succ hl HA.out h
      clear hlt HK hl HA R
      by_cases hq : 60 < l.length
      · have hqz : (60 : Int) < (l.length : Int) := by omega
        have HR : Hid (res = false) := HG.out l HM.out hq
        clear hq
        go_wp2_with fail
        go_ret
        exact ⟨ret_bool HR.out.symm, rfl⟩
      · have hqz : ¬ (60 : Int) < (l.length : Int) := by omega
        have HN : Hid _ := HT.out (by omega)
        clear hq
        go_wp2_with fail
        go_roundw
        case rel => exact ⟨k + 1, HLT.out, by go_num, HN, trivial⟩
        case measure => have h := HLT.out; simp [intOf]; omega
    · have hke : k = L.length := by have h := HK.out; omega
      have hkz : ¬ (k : Int) < (L.length : Int) := by omega
      have HR : Hid (res = true) := by
        refine HF.out ?_
        have h := HA.out
        rw [hke, List.take_length] at h
        exact h
      clear hke hlt HK HA
      go_wp2_with fail
      go_ret
      exact ⟨ret_bool HR.out.symm, rfl⟩
set_option maxHeartbeats 2000000 in
theorem rat_any (V : Lists w a c L) (hb : ∀ l ∈ L, l.length ≤ 100) (sw : Int) :
    Calls Try.prog 22 #[.slice a L.length c, .int .i64 sw] w fun e w' => ∃ x k, e = .returned (.slice x (atC L sw).length k) ∧ Rds fR 6 w' x k (atC L sw) ∧ Below w.heap.size w w' := by
  have hmx := Nat.le_trans V.le V.max
  unfold maxLen at hmx
  have R0 := Rds.none fR 6 w
  by_cases h0 : sw < 0
  case pos =>
    rw [at_out (.inl h0)]
    clear V
    go_enter Try.func22, Try.ntmps22
    go_wp2
    go_ret
    exact ⟨none, 0, rfl, R0, Below.refl _ _⟩
  by_cases h1 : (L.length : Int) ≤ sw
  case pos =>
    rw [at_out (.inr h1)]
    clear V
    go_enter Try.func22, Try.ntmps22
    go_wp2
    go_ret
    exact ⟨none, 0, rfl, R0, Below.refl _ _⟩
  obtain ⟨k, rfl⟩ : ∃ k : Nat, sw = (k : Int) := ⟨sw.toNat, by omega⟩
  have hk : k < L.length := by omega
  have hkz : (k : Int) < (L.length : Int) := by omega
  obtain ⟨l, hl⟩ := getC hk
  rw [at_in hl]
  have hl100 := hb l (List.mem_of_getElem? hl)
  obtain ⟨b, o, x, m, rfl, hbb, c0, R⟩ := V.at hl
  have hwf := R.wf
  clear V hb hl
  go_enter Try.func22, Try.ntmps22
  go_wp2_with (at_builtin; refine wpRds_join fR_len (by decide) rfl _ _ 48 rfl w.heap.size 60 48 _ Try.underlying48 infoR12 rfl (v := .slice none 0 0) (n := 0) (ys := []) rfl (World.ownsRow_nil _ _ _ _) rfl R rfl (by omega) (by omega) (Nat.le_refl _) ?_; intro v9 w9 own9 hg9)
  simp only [Nat.zero_add, List.nil_append] at own9
  have hb9 := below_fresh (B := w.heap.size) hg9 (Nat.le_refl _)
  obtain ⟨x9, k9, rfl, R9⟩ := rds_of_owns fR_len own9 rfl hwf
  go_wp2_with fail
  go_ret
  exact ⟨x9, k9, rfl, R9, hb9⟩
end
end Go.Proofs.Ytihgpllbgliplaa
