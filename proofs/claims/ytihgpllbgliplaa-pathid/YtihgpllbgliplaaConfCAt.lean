/- What the code's At of configurations answers. -/
import Derived.Test.YtihgpllbgliplaaConfPlain
import Derived.Lib.Walk
namespace Go.Proofs.Ytihgpllbgliplaa
open Go.ChangeShapes Go.WideShapes Go.ChangeAt Go.RowKit Go.Maps Pk Cf
set_option linter.unusedVariables false
set_option linter.unusedSimpArgs false

section
variable (w : World) {a : Option Addr} {c : Nat} {L : Cnf}
theorem cloneR12_any (w : World) {a : Option Addr} {c : Nat} {l : List Rl} (R : Rds fR 6 w a c l) (hl : l.length ≤ 1000) :
    Calls Try.prog 43 #[.slice a l.length c] w fun e w' => ∃ u, e = .returned u ∧ w'.ownsRow w.heap.size 60 6 u l.length (flatV fR l) ∧ Below w.heap.size w w' := by
  have q22 : ∀ (w : World) (a : Option Addr) (n c n' c' : Nat), (binOp .eql 48 (.slice a n c) (.slice none n' c')).run Try.prog w = .ok (.bool a.isNone) w := fun w a n c n' c' => Lib.run_eql_slice_nil w _ _ a n c n' c' Try.underlying48
  cases a with
  | none =>
    have hc := R.nil rfl
    have h0 : l = [] := List.eq_nil_of_length_eq_zero (by have := R.le; omega)
    subst h0
    go_enter Try.func43, Try.ntmps43
    go_wp2
    go_ret
    exact ⟨_, rfl, World.ownsRow_nil _ _ _ _, Below.refl _ _⟩
  | some x =>
    have hn := below_new w (.cells #[] 60)
    have own := World.ownsRow_made (base := w.heap.size) (e := 60) (size := 6) w #[] 0 (Nat.le_refl _) (Nat.zero_le _) rfl
    have R2 := R.later hn
    go_enter Try.func43, Try.ntmps43
    go_wp2_with (at_builtin; refine wpRds_join fR_len (by decide) rfl (.tmp 5) (.tmp 6) 48 rfl w.heap.size 60 48 _ Try.underlying48 infoR12 rfl (n := 0) (ys := []) rfl own rfl R2 rfl (by omega) (by decide) hn.size ?_; intro v4 w4 own4 hg4)
    simp only [Nat.zero_add, List.nil_append] at own4
    go_ret
    exact ⟨_, rfl, own4, below_growR hn own hg4 hn.size⟩
set_option maxHeartbeats 2000000 in
theorem cat_any (V : Lists w a c L) (hb : ∀ l ∈ L, l.length ≤ 60) (sw : Int) :
    Calls Try.prog 30 #[.slice a L.length c, .int .i64 sw] w fun e w' => ∃ (x : Option Addr) (m : Nat), e = .returned (.slice x (atC L sw).length m) ∧ Rds fR 6 w' x m (atC L sw) ∧ (∀ y, x = some y → atC L sw ≠ [] → w.heap.size ≤ y.block ∧ ∀ j, w'.frozen? ⟨y.block, j, none⟩ = false) ∧ Below w.heap.size w w' := by
  have hmx := Nat.le_trans V.le V.max
  unfold maxLen at hmx
  have R0 := Rds.none fR 6 w
  by_cases h0 : sw < 0
  case pos =>
    rw [at_out (.inl h0)]
    clear V
    go_enter Try.func30, Try.ntmps30
    go_wp2
    go_ret
    first | exact ⟨none, 0, rfl, R0, (fun _ h _ => nomatch h), Below.refl _ _⟩ | exact ⟨none, 0, rfl, R0, Below.refl _ _⟩
  by_cases h1 : (L.length : Int) ≤ sw
  case pos =>
    rw [at_out (.inr h1)]
    clear V
    go_enter Try.func30, Try.ntmps30
    go_wp2
    go_ret
    first | exact ⟨none, 0, rfl, R0, (fun _ h _ => nomatch h), Below.refl _ _⟩ | exact ⟨none, 0, rfl, R0, Below.refl _ _⟩
  obtain ⟨k, rfl⟩ : ∃ k : Nat, sw = (k : Int) := ⟨sw.toNat, by omega⟩
  have hk : k < L.length := by omega
  have hkz : (k : Int) < (L.length : Int) := by omega
  obtain ⟨l, hl⟩ := getC hk
  rw [at_in hl]
  have hl100 := hb l (List.mem_of_getElem? hl)
  obtain ⟨b, o, x, m, rfl, hbb, c0, R⟩ := V.at hl
  have hwf := R.wf
  have cC := cloneR12_any w R (by omega)
  clear V hb hl R
  go_enter Try.func30, Try.ntmps30
  go_wp2_with fail
  refine cC.mono ?_
  clear cC
  rintro e w2 ⟨u, rfl, own, hb2⟩
  obtain ⟨x9, k9, rfl, R9⟩ := rds_of_owns fR_len own rfl hwf
  go_wp2_with fail
  go_ret
  refine ⟨x9, k9, rfl, R9, fun y hy hne => ?_, hb2⟩
  obtain ⟨gb, cap, he, hg0, hglt⟩ := own.form (List.length_pos_iff.2 hne)
  cases he
  cases hy
  exact ⟨hg0, fun j => own.frozenAt j⟩
end
end Go.Proofs.Ytihgpllbgliplaa
