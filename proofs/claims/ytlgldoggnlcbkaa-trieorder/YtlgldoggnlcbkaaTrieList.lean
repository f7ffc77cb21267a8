/- The document's list of prefixes as an object in memory, and what its functions answer. -/
import Derived.Test.YtlgldoggnlcbkaaTrieNodes
import Derived.Test.YtlgldoggnlcbkaaTrieWith
import Derived.Test.YtlgldoggnlcbkaaKeeps
namespace Go.Proofs.Ytlgldoggnlcbkaa
open Go.ChangeShapes Go.WideShapes Go.ChangeAt Go.RowKit Tt
set_option linter.unusedVariables false
set_option linter.unusedSimpArgs false

/-- the list l with that room lies at the block B; F has all of its blocks -/
structure LAt (F : Nat → Prop) (w : World) (B : Nat) (room : Int) (l : List T3) : Prop where
  lt : B < w.heap.size
  here : F B
  fz : ∀ j, w.frozen? ⟨B, j, none⟩ = false
  room : w.cell? ⟨B, 1, none⟩ = some (.int .i64 room)
  slice : ∃ a c, w.cell? ⟨B, 0, none⟩ = some (.slice a l.length c) ∧ Rds fE 3 w a c l ∧ ∀ x, a = some x → l ≠ [] → x.block ≠ B ∧ F x.block ∧ x.block < w.heap.size
theorem LAt.kept {F S : Nat → Prop} {w w' : World} {B : Nat} {room : Int} {l : List T3} (h : LAt F w B room l) (hk : Keeps S w w') (hS : ∀ k, F k → ¬ S k) : LAt F w' B room l := by
  obtain ⟨a, c, h1, R, hx⟩ := h.slice
  refine ⟨Nat.lt_of_lt_of_le h.lt hk.size, h.here, fun j => (hk.frozen (p := ⟨B, j, none⟩) h.lt (hS B h.here)).trans (h.fz j), (hk.cell (p := ⟨B, 1, none⟩) h.lt (hS B h.here)).trans h.room, a, c, (hk.cell (p := ⟨B, 0, none⟩) h.lt (hS B h.here)).trans h1, R.kept hk (fun x e hl => hS _ (hx x e hl).2.1), fun x e hl => ⟨(hx x e hl).1, (hx x e hl).2.1, Nat.lt_of_lt_of_le (hx x e hl).2.2 hk.size⟩⟩
theorem LAt.later {F : Nat → Prop} {w w' : World} {B : Nat} {room : Int} {l : List T3} (h : LAt F w B room l) (hb : Below w.heap.size w w') : LAt F w' B room l := h.kept (S := fun _ => False) (Keeps.of_below hb) (fun _ _ h => h)
theorem LAt.mono {F F' : Nat → Prop} {w : World} {B : Nat} {room : Int} {l : List T3} (h : LAt F w B room l) (hF : ∀ k, F k → F' k) : LAt F' w B room l := by
  obtain ⟨a, c, h1, R, hx⟩ := h.slice
  exact ⟨h.lt, hF _ h.here, h.fz, h.room, a, c, h1, R, fun x e hl => ⟨(hx x e hl).1, hF _ (hx x e hl).2.1, (hx x e hl).2.2⟩⟩
def roomOf (n : Int) : Int := if n < 0 then 0 else if 1000 < n then 1000 else n
theorem rNew_any (n : Int) (w : World) :
    Calls Try.prog 11 #[.int .i64 n] w fun e w' => e = .returned (.pointer (some ⟨w.heap.size, 0, none⟩)) ∧ LAt (fun k => k = w.heap.size) w' w.heap.size (roomOf n) [] ∧ Below w.heap.size w w' := by
  have key : ∀ r : Int, LAt (fun k => k = w.heap.size) (w.alloc (.cells #[.slice none 0 0, .int .i64 r] 43)) w.heap.size r [] := by
    intro r
    exact ⟨by simp, rfl, fun j => by unfold World.frozen?; rw [heap_alloc_new]; simp, by simp, none, 0, by simp, Rds.none _ _ _, fun x e => by cases e⟩
  unfold roomOf
  by_cases h1 : n < 0
  · rw [if_pos h1]
    go_enter Try.func11, Try.ntmps11
    go_wp2
    go_ret
    exact ⟨rfl, key 0, below_new w _⟩
  · rw [if_neg h1]
    by_cases h2 : 1000 < n
    · rw [if_pos h2]
      go_enter Try.func11, Try.ntmps11
      go_wp2
      go_ret
      exact ⟨rfl, key 1000, below_new w _⟩
    · rw [if_neg h2]
      go_enter Try.func11, Try.ntmps11
      go_wp2
      go_ret
      exact ⟨rfl, key n, below_new w _⟩
theorem ne_ent (a n v b m u : Int) (w : World) : (binOp .neq 36 (.agg #[.int .i64 a, .int .i64 n, .int .i64 v]) (.agg #[.int .i64 b, .int .i64 m, .int .i64 u])).run Try.prog w = .ok (.bool (!((a == b) && ((n == m) && (v == u))))) w := by
  cases h0 : (a == b)
  · go_simp
  cases h1 : (n == m)
  · go_simp
  cases h2 : (v == u)
  · go_simp
  go_simp
theorem same_take {l m : List T3} {k : Nat} (h : l.take k = m.take k) (hl : k < l.length) (hm : k < m.length) (he : l[k] = m[k]) : l.take (k + 1) = m.take (k + 1) := by
  rw [List.take_succ_eq_append_getElem hl, List.take_succ_eq_append_getElem hm, h, he]
set_option maxHeartbeats 1000000 in
theorem rsame_any (w : World) {a b : Option Addr} {c d : Nat} {l m : List T3} (R : Rds fE 3 w a c l) (Q : Rds fE 3 w b d m) :
    Calls Try.prog 18 #[.slice a l.length c, .slice b m.length d] w fun e w' => e = .returned (.bool (decide (l = m))) ∧ Below w.heap.size w w' := by
  have hmx := Nat.le_trans R.le R.max
  have hmy := Nat.le_trans Q.le Q.max
  unfold maxLen at hmx hmy
  by_cases hlen : l.length = m.length
  case neg =>
    have hne : decide (l = m) = false := decide_eq_false fun e => hlen (by rw [e])
    have hi : ¬ (l.length : Int) = (m.length : Int) := by omega
    have hb : ((l.length : Int) != (m.length : Int)) = true := by simpa using hi
    rw [hne]
    clear hne hlen hi
    go_enter Try.func18, Try.ntmps18
    go_wp2
    go_ret
    exact ⟨rfl, Below.refl _ _⟩
  have HL : Hid (l.length = m.length) := hlen
  have hml : (m.length : Int) ≤ l.length ∧ (l.length : Int) ≤ m.length := by omega
  rw [← hlen]
  have hk2 : (((l.length : Nat) : Int) != ((l.length : Nat) : Int)) = false := by simp
  clear hlen
  go_enter Try.func18, Try.ntmps18
  go_wp2
  go_loopw [5] (fun i wr => ∃ k : Nat, k ≤ l.length ∧ i = .int .i64 k ∧ Below w.heap.size w wr ∧ l.take k = m.take k) (fun i _ => l.length - (intOf i).toNat)
  case atStart => exact ⟨0, by omega, rfl, Below.refl _ _, rfl⟩
  case round =>
    obtain ⟨k, hk, rfl, hbr, hall⟩ := hrel
    have HA : Hid (l.take k = m.take k) := hall
    clear hall
    by_cases hlt : k < l.length
    · have hlm : k < m.length := by omega
      have gl : l[k]? = some l[k] := List.getElem?_eq_getElem hlt
      have gm : m[k]? = some m[k] := List.getElem?_eq_getElem hlm
      obtain ⟨b1, o1, rfl, hbb, hc⟩ := (R.later hbr).at gl
      obtain ⟨b2, o2, rfl, hbb2, hd⟩ := (Q.later hbr).at gm
      have c0 := hc 0 l[k].1.1 rfl
      have c1 := hc 1 l[k].1.2 rfl
      have c2 := hc 2 l[k].2 rfl
      have d0 := hd 0 m[k].1.1 rfl
      have d1 := hd 1 m[k].1.2 rfl
      have d2 := hd 2 m[k].2 rfl
      rw [Nat.add_zero] at c0 d0
      have hi : (k : Int) < (l.length : Int) := by omega
      have hq := fun w => ne_ent l[k].1.1 l[k].1.2 l[k].2 m[k].1.1 m[k].1.2 m[k].2 w
      by_cases he : l[k] = m[k]
      · have HE : Hid (l[k] = m[k]) := he
        have hv : ((l[k].1.1 == m[k].1.1) && ((l[k].1.2 == m[k].1.2) && (l[k].2 == m[k].2))) = true := by simp [he]
        rw [hv] at hq
        clear he hv hc hd
        generalize l[k].1.1 = u0 at c0 hq
        generalize l[k].1.2 = u1 at c1 hq
        generalize l[k].2 = u2 at c2 hq
        generalize m[k].1.1 = v0 at d0 hq
        generalize m[k].1.2 = v1 at d1 hq
        generalize m[k].2 = v2 at d2 hq
        go_wp2_with fail
        go_quiet (fail)
        go_wp2_with fail
        go_roundw
        case rel => exact ⟨k + 1, by omega, by go_num, hbr.trans (below_draws _ _ _), same_take HA.out hlt hlm HE.out⟩
        case measure => simp [intOf]; omega
      · have HE : Hid (l[k] ≠ m[k]) := he
        have hv : ((l[k].1.1 == m[k].1.1) && ((l[k].1.2 == m[k].1.2) && (l[k].2 == m[k].2))) = false := by
          rw [Bool.eq_false_iff]
          intro hh
          simp only [Bool.and_eq_true, beq_iff_eq] at hh
          exact he (Prod.ext (Prod.ext hh.1 hh.2.1) hh.2.2)
        rw [hv] at hq
        have hne : decide (l = m) = false := decide_eq_false fun e => he (by subst e; rfl)
        clear he hv hc hd
        generalize l[k].1.1 = u0 at c0 hq
        generalize l[k].1.2 = u1 at c1 hq
        generalize l[k].2 = u2 at c2 hq
        generalize m[k].1.1 = v0 at d0 hq
        generalize m[k].1.2 = v1 at d1 hq
        generalize m[k].2 = v2 at d2 hq
        go_wp2_with fail
        go_quiet (fail)
        go_wp2_with fail
        go_ret
        exact ⟨ret_bool hne.symm, hbr.trans (below_draws _ _ _)⟩
    · have hkl : k = l.length := by omega
      have heq : l = m := by
        have := HA.out
        rw [hkl, List.take_length] at this
        rw [HL.out, List.take_length] at this
        exact this
      go_wp2_with fail
      go_ret
      exact ⟨ret_bool (decide_eq_true heq).symm, hbr⟩
theorem with_len (e : T3) : ∀ (d : Bool) (l : List T3), (withGo e d l).length ≤ l.length + (if d = true then 0 else 1)
  | d, [] => by
    simp only [withGo]
    cases d <;> simp
  | d, x :: l => by
    have ih := with_len e (d || here e x) l
    simp only [withGo, List.length_append, List.length_cons]
    have h2 : (if x.1 ≠ e.1 then [x] else []).length ≤ 1 := by split <;> simp
    cases d
    · cases hh : here e x
      · rw [hh] at ih
        simp at ih ⊢
        simp at h2
        omega
      · rw [hh] at ih
        simp at ih ⊢
        simp at h2
        omega
    · rw [Bool.true_or] at ih
      simp at ih ⊢
      simp at h2
      omega
theorem kept_put {w w' w2 : World} {a : Option Addr} {c B D : Nat} {l : List T3} {L : List Int} {r : Int} (h : Below w.heap.size w w' ∧ B < w'.heap.size ∧ w'.cell? ⟨B, 0, none⟩ = some (.slice a l.length c) ∧ w'.cell? ⟨B, 1, none⟩ = some (.int .i64 r) ∧ Lies w' D L ∧ Rds fE 3 w' a c l) (hb : Below w'.heap.size w' w2) : Below w.heap.size w w2 ∧ B < w2.heap.size ∧ w2.cell? ⟨B, 0, none⟩ = some (.slice a l.length c) ∧ w2.cell? ⟨B, 1, none⟩ = some (.int .i64 r) ∧ Lies w2 D L ∧ Rds fE 3 w2 a c l :=
  ⟨below_step h.1 hb, Nat.lt_of_lt_of_le h.2.1 hb.size, (hb.cell (p := ⟨B, 0, none⟩) h.2.1).trans h.2.2.1, (hb.cell (p := ⟨B, 1, none⟩) h.2.1).trans h.2.2.2.1, h.2.2.2.2.1.later hb, h.2.2.2.2.2.later hb⟩
theorem kept_put2 {w w' w2 : World} {B : Nat} {r : Int} (h : Below w.heap.size w w' ∧ B < w'.heap.size ∧ w'.cell? ⟨B, 1, none⟩ = some (.int .i64 r)) (hb : Below w'.heap.size w' w2) : Below w.heap.size w w2 ∧ B < w2.heap.size ∧ w2.cell? ⟨B, 1, none⟩ = some (.int .i64 r) :=
  ⟨below_step h.1 hb, Nat.lt_of_lt_of_le h.2.1 hb.size, (hb.cell (p := ⟨B, 1, none⟩) h.2.1).trans h.2.2⟩
theorem rPut_bad (w : World) (B : Nat) (p0 p1 v : Int) (hp : M.mayB p0 p1 = false) :
    Calls Try.prog 13 #[.pointer (some ⟨B, 0, none⟩), .agg #[.int .i64 p0, .int .i64 p1], .int .i64 v] w fun e w' => e = .returned (.int .i64 1) ∧ Below w.heap.size w w' := by
  have hn := below_new w (.cells #[.int .i64 p0, .int .i64 p1] 29)
  have cm := fun w => rmay_any p0 p1 w
  rw [hp] at cm
  go_enter Try.func13, Try.ntmps13
  go_wp2_with fail
  refine (cm _).mono ?_
  rintro e w1 ⟨rfl, hb⟩
  go_wp2_with fail
  go_ret
  exact ⟨rfl, below_step hn hb⟩
set_option maxHeartbeats 2000000 in
theorem rPut_full {F : Nat → Prop} {w : World} {B : Nat} {room : Int} {l : List T3} (L : LAt F w B room l) (hl : l.length ≤ 99) (hm : AllMay l) (p0 p1 v : Int) (wv : (Lit.int .i64 v).wf = true) (hp : M.mayB p0 p1 = true) (hr : room < ((nodesR ((withGo ((p0, p1), v) false l).map (·.1))).length : Int)) :
    Calls Try.prog 13 #[.pointer (some ⟨B, 0, none⟩), .agg #[.int .i64 p0, .int .i64 p1], .int .i64 v] w fun e w' => e = .returned (.int .i64 7) ∧ Below w.heap.size w w' := by
  obtain ⟨a, c, hs0, R, hx⟩ := L.slice
  have hn := below_new w (.cells #[.int .i64 p0, .int .i64 p1] 29)
  have X := Lies.new w [p0, p1] 29 rfl
  have cm := fun w => rmay_any p0 p1 w
  rw [hp] at cm
  have hwl : (withGo ((p0, p1), v) false l).length ≤ 100 := by have := with_len ((p0, p1), v) false l; simp at this; omega
  have hwm : AllMay (withGo ((p0, p1), v) false l) := with_may (e := ((p0, p1), v)) hp _ _ hm
  have we : ∀ z ∈ fE ((p0, p1), v), (Lit.int .i64 z).wf = true := by
    obtain ⟨g0, g1⟩ := may_wf (p := (p0, p1)) hp
    intro z hz
    simp only [fE, List.mem_cons, List.not_mem_nil, or_false] at hz
    rcases hz with rfl | rfl | rfl
    · exact g0
    · exact g1
    · exact wv
  go_enter Try.func13, Try.ntmps13
  go_wp2_with fail
  refine (cm _).mono ?_
  rintro e w1 ⟨rfl, hb⟩
  have hb1 := below_step hn hb
  have hB1 := Nat.lt_of_lt_of_le L.lt hb1.size
  have S0 : Below w1.heap.size w1 w1.drew ∧ B < w1.drew.heap.size ∧ w1.drew.cell? ⟨B, 0, none⟩ = some (.slice a l.length c) ∧ w1.drew.cell? ⟨B, 1, none⟩ = some (.int .i64 room) ∧ Lies w1.drew w.heap.size [p0, p1] ∧ Rds fE 3 w1.drew a c l := ⟨(Below.refl _ _).drew, hB1, (hb1.cell (p := ⟨B, 0, none⟩) L.lt).trans hs0, (hb1.cell (p := ⟨B, 1, none⟩) L.lt).trans L.room, (X.later hb).later (below_draw1 _), (R.later hb1).later (below_draw1 _)⟩
  clear X hb
  go_wp2_with fail
  refine wp_region_noPanic ?_
  refine wp_region_held_drew (S := fun w' => Below w1.heap.size w1 w' ∧ B < w'.heap.size ∧ w'.cell? ⟨B, 0, none⟩ = some (.slice a l.length c) ∧ w'.cell? ⟨B, 1, none⟩ = some (.int .i64 room) ∧ Lies w' w.heap.size [p0, p1] ∧ Rds fE 3 w' a c l) (by kernel_rfl) S0 (fun hH => ?_)
  clear S0
  refine wpAnyH_take (i := 0) (oi := { dst := some 13, op := _, type := _, pos := _, after := _, guard := _ }) (v := ?_) rfl (by kernel_rfl) (by kernel_rfl) (by kernel_rfl) (fun _ _ _ h => h) (Or.inl ⟨by rfl, ?_⟩) hH ?_
  rotate_left
  · intro wz hSw
    (try dsimp only at hSw)
    first | (go_simp; done) | (go_simp; with_reducible rfl)
  try simp only [Act.put, List.setIfInBounds_toArray, List.set_cons_zero, List.set_cons_succ]
  refine wpAnyH_take (i := 1) (oi := { dst := some 14, op := _, type := _, pos := _, after := _, guard := _ }) (v := ?_) rfl (by kernel_rfl) (by kernel_rfl) (by kernel_rfl) (fun _ _ _ h => h) (Or.inl ⟨by rfl, ?_⟩) hH ?_
  rotate_left
  · intro wz hSw
    (try dsimp only at hSw)
    first | (go_simp; done) | (go_simp; with_reducible rfl)
  try simp only [Act.put, List.setIfInBounds_toArray, List.set_cons_zero, List.set_cons_succ]
  refine wpAnyH_take (i := 2) (oi := { dst := some 15, op := _, type := _, pos := _, after := _, guard := _ }) (v := ?_) rfl (by kernel_rfl) (by kernel_rfl) (by kernel_rfl) (fun _ _ _ h => h) (Or.inl ⟨by rfl, ?_⟩) hH ?_
  rotate_left
  · intro wz hSw
    (try dsimp only at hSw)
    first | (go_simp; done) | (go_simp; with_reducible rfl)
  try simp only [Act.put, List.setIfInBounds_toArray, List.set_cons_zero, List.set_cons_succ]
  refine wpAnyH_take (i := 3) (oi := { dst := some 16, op := _, type := _, pos := _, after := _, guard := _ }) (v := ?_) rfl (by kernel_rfl) (by kernel_rfl) (by kernel_rfl) (fun _ _ _ h => h) (Or.inl ⟨by rfl, ?_⟩) hH ?_
  rotate_left
  · intro wz hSw
    (try dsimp only at hSw)
    first | (go_simp; done) | (go_simp; with_reducible rfl)
  try simp only [Act.put, List.setIfInBounds_toArray, List.set_cons_zero, List.set_cons_succ]
  refine wpAnyH_take (i := 4) (oi := { dst := some 17, op := _, type := _, pos := _, after := _, guard := _ }) (v := ?_) rfl (by kernel_rfl) (by kernel_rfl) (by kernel_rfl) (fun _ _ _ h => h) (Or.inl ⟨by rfl, ?_⟩) hH ?_
  rotate_left
  · intro wz hSw
    (try dsimp only at hSw)
    obtain ⟨q0, q1⟩ := hSw.2.2.2.2.1.two
    first | (go_simp; done) | (go_simp; with_reducible rfl)
  try simp only [Act.put, List.setIfInBounds_toArray, List.set_cons_zero, List.set_cons_succ]
  refine wpAnyH_take (i := 5) (oi := { dst := some 18, op := _, type := _, pos := _, after := _, guard := _ }) (v := ?_) rfl (by kernel_rfl) (by kernel_rfl) (by kernel_rfl) (fun _ _ _ h => h) (Or.inl ⟨by rfl, ?_⟩) hH ?_
  rotate_left
  · intro wz hSw
    (try dsimp only at hSw)
    first | (go_simp; done) | (go_simp; with_reducible rfl)
  try simp only [Act.put, List.setIfInBounds_toArray, List.set_cons_zero, List.set_cons_succ]
  refine wpAnyH_take (i := 6) (oi := { dst := some 19, op := _, type := _, pos := _, after := _, guard := _ }) (v := ?_) rfl (by kernel_rfl) (by kernel_rfl) (by kernel_rfl) (fun _ _ _ h => h) (Or.inl ⟨by rfl, ?_⟩) hH ?_
  rotate_left
  · intro wz hSw
    (try dsimp only at hSw)
    first | (go_simp; done) | (go_simp; with_reducible rfl)
  try simp only [Act.put, List.setIfInBounds_toArray, List.set_cons_zero, List.set_cons_succ]
  refine wpAnyH_ready (rs := [7]) (by kernel_rfl) (by simp) ?_
  refine AllReadyH.cons (o := { dst := some 20, op := _, type := _, pos := _, after := _, guard := _ }) rfl (fun K hK => ?_) AllReadyH.nil
  go_simp
  refine (rwith_any _ hH.2.2.2.2.2 (by omega) p0 p1 v we).mono ?_
  rintro e wq7 ⟨x3, k3, rfl, ⟨R3, hx3⟩, hbq⟩
  go_wp2_with fail
  refine hK.out _ _ (kept_put hH hbq) (fun hH2 => ?_)
  clear hK K hH hbq
  have hH := hH2
  clear hH2
  try simp only [Act.put, List.setIfInBounds_toArray, List.set_cons_zero, List.set_cons_succ]
  refine wpAnyH_take (i := 8) (oi := { dst := some 8, op := _, type := _, pos := _, after := _, guard := _ }) (v := ?_) rfl (by kernel_rfl) (by kernel_rfl) (by kernel_rfl) (fun _ _ _ h => h) (Or.inl ⟨by rfl, ?_⟩) hH ?_
  rotate_left
  · intro wz hSw
    (try dsimp only at hSw)
    first | (go_simp; done) | (go_simp; with_reducible rfl)
  try simp only [Act.put, List.setIfInBounds_toArray, List.set_cons_zero, List.set_cons_succ]
  refine wpAnyH_done (by kernel_rfl) ?_ _
  refine NoPanic.normal ?_
  have hb7 := below_step hb1 hH.1
  have hc0 := hH.2.2.1
  obtain ⟨w7, hw7⟩ : ∃ u, wq7 = u := ⟨_, rfl⟩
  subst hw7
  have S0 : Below wq7.heap.size wq7 wq7.drew ∧ B < wq7.drew.heap.size ∧ wq7.drew.cell? ⟨B, 1, none⟩ = some (.int .i64 room) := ⟨(Below.refl _ _).drew, hH.2.1, hH.2.2.2.1⟩
  have h1w := hH.1.size
  clear hH
  go_wp2_with fail
  refine wp_region_noPanic ?_
  refine wp_region_held_drew (S := fun w' => Below wq7.heap.size wq7 w' ∧ B < w'.heap.size ∧ w'.cell? ⟨B, 1, none⟩ = some (.int .i64 room)) (by kernel_rfl) S0 (fun hH => ?_)
  clear S0
  refine wpAnyH_take (i := 0) (oi := { dst := some 21, op := _, type := _, pos := _, after := _, guard := _ }) (v := ?_) rfl (by kernel_rfl) (by kernel_rfl) (by kernel_rfl) (fun _ _ _ h => h) (Or.inl ⟨by rfl, ?_⟩) hH ?_
  rotate_left
  · intro wz hSw
    (try dsimp only at hSw)
    first | (go_simp; done) | (go_simp; with_reducible rfl)
  try simp only [Act.put, List.setIfInBounds_toArray, List.set_cons_zero, List.set_cons_succ]
  refine wpAnyH_take (i := 2) (oi := { dst := some 23, op := _, type := _, pos := _, after := _, guard := _ }) (v := ?_) rfl (by kernel_rfl) (by kernel_rfl) (by kernel_rfl) (fun _ _ _ h => h) (Or.inl ⟨by rfl, ?_⟩) hH ?_
  rotate_left
  · intro wz hSw
    (try dsimp only at hSw)
    first | (go_simp; done) | (go_simp; with_reducible rfl)
  try simp only [Act.put, List.setIfInBounds_toArray, List.set_cons_zero, List.set_cons_succ]
  refine wpAnyH_take (i := 3) (oi := { dst := some 24, op := _, type := _, pos := _, after := _, guard := _ }) (v := ?_) rfl (by kernel_rfl) (by kernel_rfl) (by kernel_rfl) (fun _ _ _ h => h) (Or.inl ⟨by rfl, ?_⟩) hH ?_
  rotate_left
  · intro wz hSw
    (try dsimp only at hSw)
    first | (go_simp; done) | (go_simp; with_reducible rfl)
  try simp only [Act.put, List.setIfInBounds_toArray, List.set_cons_zero, List.set_cons_succ]
  refine wpAnyH_take (i := 4) (oi := { dst := some 25, op := _, type := _, pos := _, after := _, guard := _ }) (v := ?_) rfl (by kernel_rfl) (by kernel_rfl) (by kernel_rfl) (fun _ _ _ h => h) (Or.inl ⟨by rfl, ?_⟩) hH ?_
  rotate_left
  · intro wz hSw
    (try dsimp only at hSw)
    first | (go_simp; done) | (go_simp; with_reducible rfl)
  try simp only [Act.put, List.setIfInBounds_toArray, List.set_cons_zero, List.set_cons_succ]
  refine wpAnyH_take (i := 5) (oi := { dst := some 26, op := _, type := _, pos := _, after := _, guard := _ }) (v := ?_) rfl (by kernel_rfl) (by kernel_rfl) (by kernel_rfl) (fun _ _ _ h => h) (Or.inl ⟨by rfl, ?_⟩) hH ?_
  rotate_left
  · intro wz hSw
    (try dsimp only at hSw)
    first | (go_simp; done) | (go_simp; with_reducible rfl)
  try simp only [Act.put, List.setIfInBounds_toArray, List.set_cons_zero, List.set_cons_succ]
  refine wpAnyH_ready (rs := [1]) (by kernel_rfl) (by simp) ?_
  refine AllReadyH.cons (o := { dst := some 22, op := _, type := _, pos := _, after := _, guard := _ }) rfl (fun K hK => ?_) AllReadyH.nil
  go_simp
  refine (rnodes_any _ (R3.later hH.1) hwl hwm).mono ?_
  rintro e wq1 ⟨rfl, hbq⟩
  go_wp2_with fail
  refine hK.out _ _ (kept_put2 hH hbq) (fun hH2 => ?_)
  clear hK K hH hbq
  have hH := hH2
  clear hH2
  try simp only [Act.put, List.setIfInBounds_toArray, List.set_cons_zero, List.set_cons_succ]
  refine wpAnyH_take (i := 6) (oi := { dst := some 27, op := _, type := _, pos := _, after := _, guard := _ }) (v := ?_) rfl (by kernel_rfl) (by kernel_rfl) (by kernel_rfl) (fun _ _ _ h => h) (Or.inl ⟨by rfl, ?_⟩) hH ?_
  rotate_left
  · intro wz hSw
    (try dsimp only at hSw)
    first | (go_simp; done) | (go_simp; with_reducible rfl)
  try simp only [Act.put, List.setIfInBounds_toArray, List.set_cons_zero, List.set_cons_succ]
  refine wpAnyH_done (by kernel_rfl) ?_ _
  refine NoPanic.normal ?_
  have hb9 := below_step hb7 hH.1
  have hB9 := hH.2.1
  have hcr := hH.2.2
  have hc9 := (hb9.cell (p := ⟨B, 0, none⟩) L.lt).trans hs0
  have hfz := (hb9.frozen (p := ⟨B, 0, none⟩) L.lt).trans (L.fz 0)
  go_wp2_with fail
  go_ret
  exact ⟨rfl, hb9⟩
set_option maxHeartbeats 2000000 in
theorem rPut_ok {F : Nat → Prop} {w : World} {B : Nat} {room : Int} {l : List T3} (L : LAt F w B room l) (hl : l.length ≤ 99) (hm : AllMay l) (p0 p1 v : Int) (wv : (Lit.int .i64 v).wf = true) (hp : M.mayB p0 p1 = true) (hr : ((nodesR ((withGo ((p0, p1), v) false l).map (·.1))).length : Int) ≤ room) :
    Calls Try.prog 13 #[.pointer (some ⟨B, 0, none⟩), .agg #[.int .i64 p0, .int .i64 p1], .int .i64 v] w fun e w' => e = .returned (.int .i64 0) ∧ LAt (Grow F w w') w' B room (withGo ((p0, p1), v) false l) ∧ Keeps F w w' := by
  obtain ⟨a, c, hs0, R, hx⟩ := L.slice
  have hn := below_new w (.cells #[.int .i64 p0, .int .i64 p1] 29)
  have X := Lies.new w [p0, p1] 29 rfl
  have cm := fun w => rmay_any p0 p1 w
  rw [hp] at cm
  have hwl : (withGo ((p0, p1), v) false l).length ≤ 100 := by have := with_len ((p0, p1), v) false l; simp at this; omega
  have hwm : AllMay (withGo ((p0, p1), v) false l) := with_may (e := ((p0, p1), v)) hp _ _ hm
  have we : ∀ z ∈ fE ((p0, p1), v), (Lit.int .i64 z).wf = true := by
    obtain ⟨g0, g1⟩ := may_wf (p := (p0, p1)) hp
    intro z hz
    simp only [fE, List.mem_cons, List.not_mem_nil, or_false] at hz
    rcases hz with rfl | rfl | rfl
    · exact g0
    · exact g1
    · exact wv
  go_enter Try.func13, Try.ntmps13
  go_wp2_with fail
  refine (cm _).mono ?_
  rintro e w1 ⟨rfl, hb⟩
  have hb1 := below_step hn hb
  have hB1 := Nat.lt_of_lt_of_le L.lt hb1.size
  have S0 : Below w1.heap.size w1 w1.drew ∧ B < w1.drew.heap.size ∧ w1.drew.cell? ⟨B, 0, none⟩ = some (.slice a l.length c) ∧ w1.drew.cell? ⟨B, 1, none⟩ = some (.int .i64 room) ∧ Lies w1.drew w.heap.size [p0, p1] ∧ Rds fE 3 w1.drew a c l := ⟨(Below.refl _ _).drew, hB1, (hb1.cell (p := ⟨B, 0, none⟩) L.lt).trans hs0, (hb1.cell (p := ⟨B, 1, none⟩) L.lt).trans L.room, (X.later hb).later (below_draw1 _), (R.later hb1).later (below_draw1 _)⟩
  clear X hb
  go_wp2_with fail
  refine wp_region_noPanic ?_
  refine wp_region_held_drew (S := fun w' => Below w1.heap.size w1 w' ∧ B < w'.heap.size ∧ w'.cell? ⟨B, 0, none⟩ = some (.slice a l.length c) ∧ w'.cell? ⟨B, 1, none⟩ = some (.int .i64 room) ∧ Lies w' w.heap.size [p0, p1] ∧ Rds fE 3 w' a c l) (by kernel_rfl) S0 (fun hH => ?_)
  clear S0
  refine wpAnyH_take (i := 0) (oi := { dst := some 13, op := _, type := _, pos := _, after := _, guard := _ }) (v := ?_) rfl (by kernel_rfl) (by kernel_rfl) (by kernel_rfl) (fun _ _ _ h => h) (Or.inl ⟨by rfl, ?_⟩) hH ?_
  rotate_left
  · intro wz hSw
    (try dsimp only at hSw)
    first | (go_simp; done) | (go_simp; with_reducible rfl)
  try simp only [Act.put, List.setIfInBounds_toArray, List.set_cons_zero, List.set_cons_succ]
  refine wpAnyH_take (i := 1) (oi := { dst := some 14, op := _, type := _, pos := _, after := _, guard := _ }) (v := ?_) rfl (by kernel_rfl) (by kernel_rfl) (by kernel_rfl) (fun _ _ _ h => h) (Or.inl ⟨by rfl, ?_⟩) hH ?_
  rotate_left
  · intro wz hSw
    (try dsimp only at hSw)
    first | (go_simp; done) | (go_simp; with_reducible rfl)
  try simp only [Act.put, List.setIfInBounds_toArray, List.set_cons_zero, List.set_cons_succ]
  refine wpAnyH_take (i := 2) (oi := { dst := some 15, op := _, type := _, pos := _, after := _, guard := _ }) (v := ?_) rfl (by kernel_rfl) (by kernel_rfl) (by kernel_rfl) (fun _ _ _ h => h) (Or.inl ⟨by rfl, ?_⟩) hH ?_
  rotate_left
  · intro wz hSw
    (try dsimp only at hSw)
    first | (go_simp; done) | (go_simp; with_reducible rfl)
  try simp only [Act.put, List.setIfInBounds_toArray, List.set_cons_zero, List.set_cons_succ]
  refine wpAnyH_take (i := 3) (oi := { dst := some 16, op := _, type := _, pos := _, after := _, guard := _ }) (v := ?_) rfl (by kernel_rfl) (by kernel_rfl) (by kernel_rfl) (fun _ _ _ h => h) (Or.inl ⟨by rfl, ?_⟩) hH ?_
  rotate_left
  · intro wz hSw
    (try dsimp only at hSw)
    first | (go_simp; done) | (go_simp; with_reducible rfl)
  try simp only [Act.put, List.setIfInBounds_toArray, List.set_cons_zero, List.set_cons_succ]
  refine wpAnyH_take (i := 4) (oi := { dst := some 17, op := _, type := _, pos := _, after := _, guard := _ }) (v := ?_) rfl (by kernel_rfl) (by kernel_rfl) (by kernel_rfl) (fun _ _ _ h => h) (Or.inl ⟨by rfl, ?_⟩) hH ?_
  rotate_left
  · intro wz hSw
    (try dsimp only at hSw)
    obtain ⟨q0, q1⟩ := hSw.2.2.2.2.1.two
    first | (go_simp; done) | (go_simp; with_reducible rfl)
  try simp only [Act.put, List.setIfInBounds_toArray, List.set_cons_zero, List.set_cons_succ]
  refine wpAnyH_take (i := 5) (oi := { dst := some 18, op := _, type := _, pos := _, after := _, guard := _ }) (v := ?_) rfl (by kernel_rfl) (by kernel_rfl) (by kernel_rfl) (fun _ _ _ h => h) (Or.inl ⟨by rfl, ?_⟩) hH ?_
  rotate_left
  · intro wz hSw
    (try dsimp only at hSw)
    first | (go_simp; done) | (go_simp; with_reducible rfl)
  try simp only [Act.put, List.setIfInBounds_toArray, List.set_cons_zero, List.set_cons_succ]
  refine wpAnyH_take (i := 6) (oi := { dst := some 19, op := _, type := _, pos := _, after := _, guard := _ }) (v := ?_) rfl (by kernel_rfl) (by kernel_rfl) (by kernel_rfl) (fun _ _ _ h => h) (Or.inl ⟨by rfl, ?_⟩) hH ?_
  rotate_left
  · intro wz hSw
    (try dsimp only at hSw)
    first | (go_simp; done) | (go_simp; with_reducible rfl)
  try simp only [Act.put, List.setIfInBounds_toArray, List.set_cons_zero, List.set_cons_succ]
  refine wpAnyH_ready (rs := [7]) (by kernel_rfl) (by simp) ?_
  refine AllReadyH.cons (o := { dst := some 20, op := _, type := _, pos := _, after := _, guard := _ }) rfl (fun K hK => ?_) AllReadyH.nil
  go_simp
  refine (rwith_any _ hH.2.2.2.2.2 (by omega) p0 p1 v we).mono ?_
  rintro e wq7 ⟨x3, k3, rfl, ⟨R3, hx3⟩, hbq⟩
  go_wp2_with fail
  refine hK.out _ _ (kept_put hH hbq) (fun hH2 => ?_)
  clear hK K hH hbq
  have hH := hH2
  clear hH2
  try simp only [Act.put, List.setIfInBounds_toArray, List.set_cons_zero, List.set_cons_succ]
  refine wpAnyH_take (i := 8) (oi := { dst := some 8, op := _, type := _, pos := _, after := _, guard := _ }) (v := ?_) rfl (by kernel_rfl) (by kernel_rfl) (by kernel_rfl) (fun _ _ _ h => h) (Or.inl ⟨by rfl, ?_⟩) hH ?_
  rotate_left
  · intro wz hSw
    (try dsimp only at hSw)
    first | (go_simp; done) | (go_simp; with_reducible rfl)
  try simp only [Act.put, List.setIfInBounds_toArray, List.set_cons_zero, List.set_cons_succ]
  refine wpAnyH_done (by kernel_rfl) ?_ _
  refine NoPanic.normal ?_
  have hb7 := below_step hb1 hH.1
  have hc0 := hH.2.2.1
  obtain ⟨w7, hw7⟩ : ∃ u, wq7 = u := ⟨_, rfl⟩
  subst hw7
  have S0 : Below wq7.heap.size wq7 wq7.drew ∧ B < wq7.drew.heap.size ∧ wq7.drew.cell? ⟨B, 1, none⟩ = some (.int .i64 room) := ⟨(Below.refl _ _).drew, hH.2.1, hH.2.2.2.1⟩
  have h1w := hH.1.size
  clear hH
  go_wp2_with fail
  refine wp_region_noPanic ?_
  refine wp_region_held_drew (S := fun w' => Below wq7.heap.size wq7 w' ∧ B < w'.heap.size ∧ w'.cell? ⟨B, 1, none⟩ = some (.int .i64 room)) (by kernel_rfl) S0 (fun hH => ?_)
  clear S0
  refine wpAnyH_take (i := 0) (oi := { dst := some 21, op := _, type := _, pos := _, after := _, guard := _ }) (v := ?_) rfl (by kernel_rfl) (by kernel_rfl) (by kernel_rfl) (fun _ _ _ h => h) (Or.inl ⟨by rfl, ?_⟩) hH ?_
  rotate_left
  · intro wz hSw
    (try dsimp only at hSw)
    first | (go_simp; done) | (go_simp; with_reducible rfl)
  try simp only [Act.put, List.setIfInBounds_toArray, List.set_cons_zero, List.set_cons_succ]
  refine wpAnyH_take (i := 2) (oi := { dst := some 23, op := _, type := _, pos := _, after := _, guard := _ }) (v := ?_) rfl (by kernel_rfl) (by kernel_rfl) (by kernel_rfl) (fun _ _ _ h => h) (Or.inl ⟨by rfl, ?_⟩) hH ?_
  rotate_left
  · intro wz hSw
    (try dsimp only at hSw)
    first | (go_simp; done) | (go_simp; with_reducible rfl)
  try simp only [Act.put, List.setIfInBounds_toArray, List.set_cons_zero, List.set_cons_succ]
  refine wpAnyH_take (i := 3) (oi := { dst := some 24, op := _, type := _, pos := _, after := _, guard := _ }) (v := ?_) rfl (by kernel_rfl) (by kernel_rfl) (by kernel_rfl) (fun _ _ _ h => h) (Or.inl ⟨by rfl, ?_⟩) hH ?_
  rotate_left
  · intro wz hSw
    (try dsimp only at hSw)
    first | (go_simp; done) | (go_simp; with_reducible rfl)
  try simp only [Act.put, List.setIfInBounds_toArray, List.set_cons_zero, List.set_cons_succ]
  refine wpAnyH_take (i := 4) (oi := { dst := some 25, op := _, type := _, pos := _, after := _, guard := _ }) (v := ?_) rfl (by kernel_rfl) (by kernel_rfl) (by kernel_rfl) (fun _ _ _ h => h) (Or.inl ⟨by rfl, ?_⟩) hH ?_
  rotate_left
  · intro wz hSw
    (try dsimp only at hSw)
    first | (go_simp; done) | (go_simp; with_reducible rfl)
  try simp only [Act.put, List.setIfInBounds_toArray, List.set_cons_zero, List.set_cons_succ]
  refine wpAnyH_take (i := 5) (oi := { dst := some 26, op := _, type := _, pos := _, after := _, guard := _ }) (v := ?_) rfl (by kernel_rfl) (by kernel_rfl) (by kernel_rfl) (fun _ _ _ h => h) (Or.inl ⟨by rfl, ?_⟩) hH ?_
  rotate_left
  · intro wz hSw
    (try dsimp only at hSw)
    first | (go_simp; done) | (go_simp; with_reducible rfl)
  try simp only [Act.put, List.setIfInBounds_toArray, List.set_cons_zero, List.set_cons_succ]
  refine wpAnyH_ready (rs := [1]) (by kernel_rfl) (by simp) ?_
  refine AllReadyH.cons (o := { dst := some 22, op := _, type := _, pos := _, after := _, guard := _ }) rfl (fun K hK => ?_) AllReadyH.nil
  go_simp
  refine (rnodes_any _ (R3.later hH.1) hwl hwm).mono ?_
  rintro e wq1 ⟨rfl, hbq⟩
  go_wp2_with fail
  refine hK.out _ _ (kept_put2 hH hbq) (fun hH2 => ?_)
  clear hK K hH hbq
  have hH := hH2
  clear hH2
  try simp only [Act.put, List.setIfInBounds_toArray, List.set_cons_zero, List.set_cons_succ]
  refine wpAnyH_take (i := 6) (oi := { dst := some 27, op := _, type := _, pos := _, after := _, guard := _ }) (v := ?_) rfl (by kernel_rfl) (by kernel_rfl) (by kernel_rfl) (fun _ _ _ h => h) (Or.inl ⟨by rfl, ?_⟩) hH ?_
  rotate_left
  · intro wz hSw
    (try dsimp only at hSw)
    first | (go_simp; done) | (go_simp; with_reducible rfl)
  try simp only [Act.put, List.setIfInBounds_toArray, List.set_cons_zero, List.set_cons_succ]
  refine wpAnyH_done (by kernel_rfl) ?_ _
  refine NoPanic.normal ?_
  have hb9 := below_step hb7 hH.1
  have hB9 := hH.2.1
  have hcr := hH.2.2
  have hc9 := (hb9.cell (p := ⟨B, 0, none⟩) L.lt).trans hs0
  have hfz := (hb9.frozen (p := ⟨B, 0, none⟩) L.lt).trans (L.fz 0)
  have R9 := R3.later hH.1
  have hs9 := hH.1.size
  have hwb := hb1.size
  clear hH
  go_wp2_with fail
  go_ret
  have hK : Keeps (fun k => k = B) wq1 (wq1.setCell ⟨B, 0, none⟩ (.slice x3 (withGo ((p0, p1), v) false l).length k3)) := (Keeps.refl (fun k => k = B) wq1).setCell (p := ⟨B, 0, none⟩) (fun _ => rfl) _
  have hne : ∀ y, x3 = some y → w.heap.size ≤ y.block ∧ y.block < wq1.heap.size := fun y e => ⟨Nat.le_trans (Nat.le_trans hwb (hx3 y e).1) (Nat.le_refl _), Nat.lt_of_lt_of_le (hx3 y e).2 hs9⟩
  have hlt := L.lt
  refine ⟨rfl, ⟨by rw [World.size_setCell]; exact hB9, .inl L.here, fun j => ?_, ?_, x3, k3, ?_, R9.kept hK (fun y e _ => ?_), fun y e _ => ⟨?_, .inr ⟨(hne y e).1, by rw [World.size_setCell]; exact (hne y e).2⟩, ?_⟩⟩, ?_⟩
  · rw [World.frozen?_setCell]; exact (hb9.frozen (p := ⟨B, j, none⟩) L.lt).trans (L.fz j)
  · exact (World.cell?_setCell_other _ ⟨B, 0, none⟩ ⟨B, 1, none⟩ _ (by simp)).trans hcr
  · exact World.cell?_setCell_same _ _ _ hc9
  · have := hne y e; simp; omega
  · have := hne y e; omega
  · rw [World.size_setCell]; exact (hne y e).2
  · exact (Keeps.of_below hb9).setCell (fun _ => L.here) _
end Go.Proofs.Ytlgldoggnlcbkaa
