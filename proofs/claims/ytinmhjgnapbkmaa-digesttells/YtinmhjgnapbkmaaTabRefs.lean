/- What the document's answers on tables come to: Size, where, Of, Same; and whether a table is few. -/
import Derived.Test.YtinmhjgnapbkmaaTabMem
import Derived.Test.YtinmhjgnapbkmaaPickRefs
namespace Go.Proofs.Ytinmhjgnapbkmaa
open Go.ChangeShapes Go.WideShapes Go.ChangeAt Go.RowKit Pk Tb R
set_option linter.unusedVariables false
set_option linter.unusedSimpArgs false

/-- the place as a number; -1: nowhere -/
def whereI (l : List Vr) (t : Int) : Int := match whereT l t with
  | some i => (i : Int)
  | none => -1
/-- at most 20 versions of at most 60 rules each -/
def Fw (l : List Vr) : Prop := l.length ≤ 20 ∧ ∀ v ∈ l, v.l.length ≤ 60
instance (l : List Vr) : Decidable (Fw l) := by unfold Fw; infer_instance
theorem mem_getD {l : List Vr} {k : Nat} (h : k < l.length) : l.getD k default ∈ l := by
  rw [List.getD_eq_getElem?_getD, List.getElem?_eq_getElem h]; exact List.getElem_mem h
theorem sizeZ (n m : Nat) (hn : n ≤ 10000) (hm : m ≤ 100) : wrap64 ((n : Int) + (m : Int)) = ((n + m : Nat) : Int) := by unfold wrap64; omega
theorem infoR9 : (Try.prog.info? 35).map (fun i => (i.zero, i.size, i.bytes)) = some (some (.agg #[.int .i64 0, .int .i64 0, .int .i64 0, .int .i64 0, .int .i64 0, .int .i64 0]), 6, 48) := by kernel_rfl
section
variable {B : Nat} {a : Option Addr} {c : Nat} {l : List Vr}
set_option maxHeartbeats 2000000 in
theorem few_any (w : World) (V : Vers B w a c l) :
    Calls Try.prog 10 #[.slice a l.length c] w fun e w' => e = .returned (.bool (decide (Fw l))) ∧ Below w.heap.size w w' := by
  have hmx := Nat.le_trans V.le V.max
  unfold maxLen at hmx
  by_cases hl : 20 < l.length
  · have HF : Hid (decide (Fw l) = false) := decide_eq_false fun h => by have := h.1; omega
    have hlz : decide ((20 : Int) < (l.length : Int)) = true := decide_eq_true (by omega)
    go_enter Try.func10, Try.ntmps10
    go_wp2_with fail
    go_ret
    exact ⟨ret_bool HF.out.symm, Below.refl _ _⟩
  have HL : Hid (l.length ≤ 20) := by show _ ≤ _; omega
  have hl20 : l.length ≤ 20 := HL.out
  have hlz : decide ((20 : Int) < (l.length : Int)) = false := decide_eq_false (by omega)
  clear hmx hl
  go_enter Try.func10, Try.ntmps10
  go_wp2_with fail
  go_loopw [3] (fun vi wr => ∃ k : Nat, vi = .int .i64 (k : Nat) ∧ Hid (k ≤ l.length ∧ ∀ i, i < k → (l.getD i default).l.length ≤ 60) ∧ Below w.heap.size w wr) (fun vi _ => l.length - (intOf vi).toNat)
  case atStart => exact ⟨0, rfl, ⟨Nat.zero_le _, fun i hi => absurd hi (Nat.not_lt_zero _)⟩, Below.refl _ _⟩
  case round =>
    obtain ⟨k, rfl, HK, hbr⟩ := hrel
    by_cases hlt : k < l.length
    · have hkz : (k : Int) < (l.length : Int) := Int.ofNat_lt.2 hlt
      have gk := getD_atV hlt
      have HLT : Hid (k < l.length) := hlt
      have NN : Hid ((l.getD k default).l.length ≤ 60 → ∀ i, i < k + 1 → (l.getD i default).l.length ≤ 60) := fun h i hi => by
        rcases Nat.lt_or_ge i k with h1 | h1
        · exact HK.out.2 i h1
        · rw [show i = k by omega]; exact h
      have NY : Hid (¬ (l.getD k default).l.length ≤ 60 → decide (Fw l) = false) := fun h => decide_eq_false fun hf => h (hf.2 _ (mem_getD hlt))
      generalize l.getD k default = v at gk NN NY
      obtain ⟨b, o, x, kk, rfl, hbb, c0, c1, Rv, -⟩ := (V.later hbr).at gk
      have hvm := Nat.le_trans Rv.le Rv.max
      unfold maxLen at hvm
      clear hlt HK gk Rv c0
      by_cases he : v.l.length ≤ 60
      · have N2 := show Hid _ from NN.out he
        have heb : decide ((60 : Int) < (v.l.length : Int)) = false := decide_eq_false (by omega)
        clear NN NY
        go_wp2_with fail
        go_roundw
        case rel => exact ⟨k + 1, by go_num, ⟨HLT.out, N2.out⟩, hbr⟩
        case measure => have h := HLT.out; simp [intOf]; omega
      · have N2 := show Hid _ from NY.out he
        have heb : decide ((60 : Int) < (v.l.length : Int)) = true := decide_eq_true (by omega)
        clear NN NY
        go_wp2_with fail
        go_ret
        exact ⟨ret_bool N2.out.symm, hbr⟩
    · have hke : k = l.length := by have h := HK.out.1; omega
      have hkz : ¬ (k : Int) < (l.length : Int) := by omega
      have HF : Hid (decide (Fw l) = true) := decide_eq_true ⟨HL.out, fun v hv => by
        obtain ⟨i, hi, rfl⟩ := List.mem_iff_getElem.1 hv
        have := HK.out.2 i (by omega)
        rw [List.getD_eq_getElem?_getD, List.getElem?_eq_getElem hi] at this
        exact this⟩
      clear HK hlt hke
      go_wp2_with fail
      go_ret
      exact ⟨ret_bool HF.out.symm, hbr⟩
theorem sameV_take {l m : List Vr} {k : Nat} (h : l.take k = m.take k) (hl : k < l.length) (hm : k < m.length) (he : l.getD k default = m.getD k default) : l.take (k + 1) = m.take (k + 1) := by
  rw [takeV hl, takeV hm, h, he]
end
end Go.Proofs.Ytinmhjgnapbkmaa
