/- The document's list of prefixes as an object in memory, and what its functions answer. -/
import Derived.Test.YtlgldoggnlcbkabTrieNodes
import Derived.Test.YtlgldoggnlcbkabTrieWith
import Derived.Test.YtlgldoggnlcbkabKeeps
namespace Go.Proofs.Ytlgldoggnlcbkab
open Go.ChangeShapes Go.WideShapes Go.ChangeAt Go.RowKit Tt
set_option linter.unusedVariables false
set_option linter.unusedSimpArgs false

/-- the list l with that room lies at the block B; F has all of its blocks -/
structure LAt (F : Nat → Prop) (w : World) (B : Nat) (room : Int) (l : List T3) : Prop where
  lt : B < w.heap.size
  here : F B
  fz : ∀ j, w.frozen? ⟨B, j, none⟩ = false
  room : w.cell? ⟨B, 1, none⟩ = some (.int .i64 room)
  slice : ∃ a c, w.cell? ⟨B, 0, none⟩ = some (.slice a l.length c) ∧ Rds fE 3 w a c l ∧ ∀ x, a = some x → l ≠ [] → x.block ≠ B ∧ F x.block ∧ x.block < w.heap.size
theorem LAt.kept {F S : Nat → Prop} {w w' : World} {B : Nat} {room : Int} {l : List T3} (h : LAt F w B room l) (hk : Keeps S w w') (hS : ∀ k, F k → ¬ S k) : LAt F w' B room l := by
  obtain ⟨a, c, h1, R, hx⟩ := h.slice
  refine ⟨Nat.lt_of_lt_of_le h.lt hk.size, h.here, fun j => (hk.frozen (p := ⟨B, j, none⟩) h.lt (hS B h.here)).trans (h.fz j), (hk.cell (p := ⟨B, 1, none⟩) h.lt (hS B h.here)).trans h.room, a, c, (hk.cell (p := ⟨B, 0, none⟩) h.lt (hS B h.here)).trans h1, R.kept hk (fun x e hl => hS _ (hx x e hl).2.1), fun x e hl => ⟨(hx x e hl).1, (hx x e hl).2.1, Nat.lt_of_lt_of_le (hx x e hl).2.2 hk.size⟩⟩
theorem LAt.later {F : Nat → Prop} {w w' : World} {B : Nat} {room : Int} {l : List T3} (h : LAt F w B room l) (hb : Below w.heap.size w w') : LAt F w' B room l := h.kept (S := fun _ => False) (Keeps.of_below hb) (fun _ _ h => h)
theorem LAt.mono {F F' : Nat → Prop} {w : World} {B : Nat} {room : Int} {l : List T3} (h : LAt F w B room l) (hF : ∀ k, F k → F' k) : LAt F' w B room l := by
  obtain ⟨a, c, h1, R, hx⟩ := h.slice
  exact ⟨h.lt, hF _ h.here, h.fz, h.room, a, c, h1, R, fun x e hl => ⟨(hx x e hl).1, hF _ (hx x e hl).2.1, (hx x e hl).2.2⟩⟩
def roomOf (n : Int) : Int := if n < 0 then 0 else if 1000 < n then 1000 else n
theorem ne_ent (a n v b m u : Int) (w : World) : (binOp .neq 26 (.agg #[.int .i64 a, .int .i64 n, .int .i64 v]) (.agg #[.int .i64 b, .int .i64 m, .int .i64 u])).run Try.prog w = .ok (.bool (!((a == b) && ((n == m) && (v == u))))) w := by
  cases h0 : (a == b)
  · go_simp
  cases h1 : (n == m)
  · go_simp
  cases h2 : (v == u)
  · go_simp
  go_simp
theorem same_take {l m : List T3} {k : Nat} (h : l.take k = m.take k) (hl : k < l.length) (hm : k < m.length) (he : l[k] = m[k]) : l.take (k + 1) = m.take (k + 1) := by
  rw [List.take_succ_eq_append_getElem hl, List.take_succ_eq_append_getElem hm, h, he]
set_option maxHeartbeats 1000000 in
theorem rsame_any (w : World) {a b : Option Addr} {c d : Nat} {l m : List T3} (R : Rds fE 3 w a c l) (Q : Rds fE 3 w b d m) :
    Calls Try.prog 10 #[.slice a l.length c, .slice b m.length d] w fun e w' => e = .returned (.bool (decide (l = m))) ∧ Below w.heap.size w w' := by
  have hmx := Nat.le_trans R.le R.max
  have hmy := Nat.le_trans Q.le Q.max
  unfold maxLen at hmx hmy
  by_cases hlen : l.length = m.length
  case neg =>
    have hne : decide (l = m) = false := decide_eq_false fun e => hlen (by rw [e])
    have hi : ¬ (l.length : Int) = (m.length : Int) := by omega
    have hb : ((l.length : Int) != (m.length : Int)) = true := by simpa using hi
    rw [hne]
    clear hne hlen hi
    go_enter Try.func10, Try.ntmps10
    go_wp2
    go_ret
    exact ⟨rfl, Below.refl _ _⟩
  have HL : Hid (l.length = m.length) := hlen
  have hml : (m.length : Int) ≤ l.length ∧ (l.length : Int) ≤ m.length := by omega
  rw [← hlen]
  have hk2 : (((l.length : Nat) : Int) != ((l.length : Nat) : Int)) = false := by simp
  clear hlen
  go_enter Try.func10, Try.ntmps10
  go_wp2
  go_loopw [5] (fun i wr => ∃ k : Nat, k ≤ l.length ∧ i = .int .i64 k ∧ Below w.heap.size w wr ∧ l.take k = m.take k) (fun i _ => l.length - (intOf i).toNat)
  case atStart => exact ⟨0, by omega, rfl, Below.refl _ _, rfl⟩
  case round =>
    obtain ⟨k, hk, rfl, hbr, hall⟩ := hrel
    have HA : Hid (l.take k = m.take k) := hall
    clear hall
    by_cases hlt : k < l.length
    · have hlm : k < m.length := by omega
      have gl : l[k]? = some l[k] := List.getElem?_eq_getElem hlt
      have gm : m[k]? = some m[k] := List.getElem?_eq_getElem hlm
      obtain ⟨b1, o1, rfl, hbb, hc⟩ := (R.later hbr).at gl
      obtain ⟨b2, o2, rfl, hbb2, hd⟩ := (Q.later hbr).at gm
      have c0 := hc 0 l[k].1.1 rfl
      have c1 := hc 1 l[k].1.2 rfl
      have c2 := hc 2 l[k].2 rfl
      have d0 := hd 0 m[k].1.1 rfl
      have d1 := hd 1 m[k].1.2 rfl
      have d2 := hd 2 m[k].2 rfl
      rw [Nat.add_zero] at c0 d0
      have hi : (k : Int) < (l.length : Int) := by omega
      have hq := fun w => ne_ent l[k].1.1 l[k].1.2 l[k].2 m[k].1.1 m[k].1.2 m[k].2 w
      by_cases he : l[k] = m[k]
      · have HE : Hid (l[k] = m[k]) := he
        have hv : ((l[k].1.1 == m[k].1.1) && ((l[k].1.2 == m[k].1.2) && (l[k].2 == m[k].2))) = true := by simp [he]
        rw [hv] at hq
        clear he hv hc hd
        generalize l[k].1.1 = u0 at c0 hq
        generalize l[k].1.2 = u1 at c1 hq
        generalize l[k].2 = u2 at c2 hq
        generalize m[k].1.1 = v0 at d0 hq
        generalize m[k].1.2 = v1 at d1 hq
        generalize m[k].2 = v2 at d2 hq
        go_wp2_with fail
        go_quiet (fail)
        go_wp2_with fail
        go_roundw
        case rel => exact ⟨k + 1, by omega, by go_num, hbr.trans (below_draws _ _ _), same_take HA.out hlt hlm HE.out⟩
        case measure => simp [intOf]; omega
      · have HE : Hid (l[k] ≠ m[k]) := he
        have hv : ((l[k].1.1 == m[k].1.1) && ((l[k].1.2 == m[k].1.2) && (l[k].2 == m[k].2))) = false := by
          rw [Bool.eq_false_iff]
          intro hh
          simp only [Bool.and_eq_true, beq_iff_eq] at hh
          exact he (Prod.ext (Prod.ext hh.1 hh.2.1) hh.2.2)
        rw [hv] at hq
        have hne : decide (l = m) = false := decide_eq_false fun e => he (by subst e; rfl)
        clear he hv hc hd
        generalize l[k].1.1 = u0 at c0 hq
        generalize l[k].1.2 = u1 at c1 hq
        generalize l[k].2 = u2 at c2 hq
        generalize m[k].1.1 = v0 at d0 hq
        generalize m[k].1.2 = v1 at d1 hq
        generalize m[k].2 = v2 at d2 hq
        go_wp2_with fail
        go_quiet (fail)
        go_wp2_with fail
        go_ret
        exact ⟨ret_bool hne.symm, hbr.trans (below_draws _ _ _)⟩
    · have hkl : k = l.length := by omega
      have heq : l = m := by
        have := HA.out
        rw [hkl, List.take_length] at this
        rw [HL.out, List.take_length] at this
        exact this
      go_wp2_with fail
      go_ret
      exact ⟨ret_bool (decide_eq_true heq).symm, hbr⟩
theorem with_len (e : T3) : ∀ (d : Bool) (l : List T3), (withGo e d l).length ≤ l.length + (if d = true then 0 else 1)
  | d, [] => by
    simp only [withGo]
    cases d <;> simp
  | d, x :: l => by
    have ih := with_len e (d || here e x) l
    simp only [withGo, List.length_append, List.length_cons]
    have h2 : (if x.1 ≠ e.1 then [x] else []).length ≤ 1 := by split <;> simp
    cases d
    · cases hh : here e x
      · rw [hh] at ih
        simp at ih ⊢
        simp at h2
        omega
      · rw [hh] at ih
        simp at ih ⊢
        simp at h2
        omega
    · rw [Bool.true_or] at ih
      simp at ih ⊢
      simp at h2
      omega
theorem kept_put {w w' w2 : World} {a : Option Addr} {c B D : Nat} {l : List T3} {L : List Int} {r : Int} (h : Below w.heap.size w w' ∧ B < w'.heap.size ∧ w'.cell? ⟨B, 0, none⟩ = some (.slice a l.length c) ∧ w'.cell? ⟨B, 1, none⟩ = some (.int .i64 r) ∧ Lies w' D L ∧ Rds fE 3 w' a c l) (hb : Below w'.heap.size w' w2) : Below w.heap.size w w2 ∧ B < w2.heap.size ∧ w2.cell? ⟨B, 0, none⟩ = some (.slice a l.length c) ∧ w2.cell? ⟨B, 1, none⟩ = some (.int .i64 r) ∧ Lies w2 D L ∧ Rds fE 3 w2 a c l :=
  ⟨below_step h.1 hb, Nat.lt_of_lt_of_le h.2.1 hb.size, (hb.cell (p := ⟨B, 0, none⟩) h.2.1).trans h.2.2.1, (hb.cell (p := ⟨B, 1, none⟩) h.2.1).trans h.2.2.2.1, h.2.2.2.2.1.later hb, h.2.2.2.2.2.later hb⟩
theorem kept_put2 {w w' w2 : World} {B : Nat} {r : Int} (h : Below w.heap.size w w' ∧ B < w'.heap.size ∧ w'.cell? ⟨B, 1, none⟩ = some (.int .i64 r)) (hb : Below w'.heap.size w' w2) : Below w.heap.size w w2 ∧ B < w2.heap.size ∧ w2.cell? ⟨B, 1, none⟩ = some (.int .i64 r) :=
  ⟨below_step h.1 hb, Nat.lt_of_lt_of_le h.2.1 hb.size, (hb.cell (p := ⟨B, 1, none⟩) h.2.1).trans h.2.2⟩
end Go.Proofs.Ytlgldoggnlcbkab
