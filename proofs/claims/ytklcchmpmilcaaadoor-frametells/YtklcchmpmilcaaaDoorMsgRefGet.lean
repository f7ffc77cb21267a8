/- What the document's answer for the message of bytes comes to: the contract of Get that the statement on package msg is held against. -/
import Derived.Test.YtklcchmpmilcaaaDoorMsgGet
import Derived.Test.YtklcchmpmilcaaaDoorMsgRefs
namespace Go.Proofs.YtklcchmpmilcaaaDoor
open Go.ChangeShapes Go.WideShapes Go.ChangeAt Go.RowKit R Q
set_option linter.unusedVariables false
set_option linter.unusedSimpArgs false

theorem rgetAll4 (w : World) {a1 a2 : Option Addr} {c1 c2 : Nat} {b : List Int} (R1 : Reads .u8 w a1 c1 b) (R2 : Reads .i64 w a2 c2 [1, 3, 3, 2]) (hb : b.length ≤ 100000) :
    Calls Tryd.prog 52 #[.slice a1 b.length c1, .slice a2 4 c2] w fun e w' => ∃ a c, e = .returned (.tuple #[.slice a (O.gallL b [1, 3, 3, 2]).length c, .int .i64 (O.gallK b [1, 3, 3, 2]), .int .i64 (O.gaE b [1, 3, 3, 2])]) ∧ Reads .i64 w' a c (O.gallL b [1, 3, 3, 2]) ∧ Below w.heap.size w w' :=
  rgetAll_any w R1 R2 (by simp) hb
theorem rrGet_none (w : World) {a : Option Addr} {c N : Nat} {b : List Int} (R : Reads .u8 w a c b) (hN : b.length = N) (hl : N ≤ 100000) {zz : Int} (h : rgE b = zz) (h0 : zz ≠ 0) :
    Calls Tryd.prog 53 #[.slice a N c] w fun e w' => e = .returned (.tuple #[.agg #[.int .i64 0, .int .i64 0, .int .i64 0, .int .i64 0, .int .i64 0, .int .i64 0], .int .i64 zz]) ∧ Below w.heap.size w w' := by
  subst hN
  exact (rrGet_any w R hl).mono fun e w' ⟨h1, h2⟩ => ⟨h1.trans (ret_none h h0).symm, h2⟩
theorem rrGet_some (w : World) {a : Option Addr} {c N : Nat} {b : List Int} (R : Reads .u8 w a c b) (hN : b.length = N) (hl : N ≤ 100000) (h : rgE b = 0) {x0 x1 x2 x3 x4 x5 : Int} (hx : x0 = n0 b ∧ x1 = n1 b ∧ x2 = n2 b - 1 ∧ x3 = n3 b ∧ x4 = n4 b ∧ x5 = n5 b) :
    Calls Tryd.prog 53 #[.slice a N c] w fun e w' => e = .returned (.tuple #[.agg #[.int .i64 x0, .int .i64 x1, .int .i64 x2, .int .i64 x3, .int .i64 x4, .int .i64 x5], .int .i64 0]) ∧ Below w.heap.size w w' := by
  subst hN
  obtain ⟨e0, e1, e2, e3, e4, e5⟩ := hx
  exact (rrGet_any w R hl).mono fun e w' ⟨h1, h2⟩ => ⟨h1.trans (ret_ru ((rgF_ok h _).trans e0.symm) ((rgF_ok h _).trans e1.symm) ((rgF_ok h _).trans e2.symm) ((rgF_ok h _).trans e3.symm) ((rgF_ok h _).trans e4.symm) ((rgF_ok h _).trans e5.symm) h), h2⟩
set_option maxHeartbeats 2000000 in
theorem rmGet_short (w : World) {a : Option Addr} {c : Nat} {b : List Int} (R : Reads .u8 w a c b) (hl : b.length ≤ 100000) (hs : b.length < 9) :
    Calls Tryd.prog 25 #[.slice a b.length c] w fun e w' => e = .returned (.tuple #[.agg #[.int .i64 0, .int .i64 0, .int .i64 0, .int .i64 0, .int .i64 0, .int .i64 0, .int .i64 0, .int .i64 0, .int .i64 0, .int .i64 0], .int .i64 3]) ∧ Below w.heap.size w w' := by
  obtain ⟨hE, hL, hK⟩ := all4_short hs
  have X := Lies.new w [0, 0, 0, 0, 0, 0, 0, 0, 0, 0] 29 rfl
  have hB := below_new w (.cells #[.int .i64 0, .int .i64 0, .int .i64 0, .int .i64 0, .int .i64 0, .int .i64 0, .int .i64 0, .int .i64 0, .int .i64 0, .int .i64 0] 29)
  have hmx := Nat.le_trans R.le R.max
  unfold maxLen at hmx
  replace R := R.later hB
  have hb := below_new (w.alloc (.cells #[.int .i64 0, .int .i64 0, .int .i64 0, .int .i64 0, .int .i64 0, .int .i64 0, .int .i64 0, .int .i64 0, .int .i64 0, .int .i64 0] 29)) (.cells #[.int .i64 0, .int .i64 0, .int .i64 0, .int .i64 0, .int .i64 0, .int .i64 0, .int .i64 0, .int .i64 0, .int .i64 0, .int .i64 0] 29)
  have N := Lies.new (w.alloc (.cells #[.int .i64 0, .int .i64 0, .int .i64 0, .int .i64 0, .int .i64 0, .int .i64 0, .int .i64 0, .int .i64 0, .int .i64 0, .int .i64 0] 29)) [0, 0, 0, 0, 0, 0, 0, 0, 0, 0] 29 (B := w.heap.size + 1) (by simp)
  replace R := R.later hb
  replace X := X.later hb
  replace hB := below_step hB hb
  clear hb
  have hb := below_new ((w.alloc (.cells #[.int .i64 0, .int .i64 0, .int .i64 0, .int .i64 0, .int .i64 0, .int .i64 0, .int .i64 0, .int .i64 0, .int .i64 0, .int .i64 0] 29)).alloc (.cells #[.int .i64 0, .int .i64 0, .int .i64 0, .int .i64 0, .int .i64 0, .int .i64 0, .int .i64 0, .int .i64 0, .int .i64 0, .int .i64 0] 29)) (.cells #[.int .i64 1, .int .i64 3, .int .i64 3, .int .i64 2] 3)
  have R1 := reads_new64 ((w.alloc (.cells #[.int .i64 0, .int .i64 0, .int .i64 0, .int .i64 0, .int .i64 0, .int .i64 0, .int .i64 0, .int .i64 0, .int .i64 0, .int .i64 0] 29)).alloc (.cells #[.int .i64 0, .int .i64 0, .int .i64 0, .int .i64 0, .int .i64 0, .int .i64 0, .int .i64 0, .int .i64 0, .int .i64 0, .int .i64 0] 29)) [1, 3, 3, 2] (by decide) (by simp) (B := w.heap.size + 1 + 1) (by simp) rfl
  replace R := R.later hb
  replace X := X.later hb
  replace N := N.later hb
  replace hB := below_step hB hb
  clear hb
  go_enter Tryd.func25, Tryd.ntmps25
  go_wp2_with fail
  refine (rgetAll4 _ R R1 hl).mono ?_
  rintro e w3 ⟨a3, k3, rfl, R3, hb⟩
  clear R1
  replace R := R.later hb
  replace X := X.later hb
  replace N := N.later hb
  replace hB := below_step hB hb
  clear hb
  rw [hL, hK, hE]
  clear R3 hE hL hK
  obtain ⟨xx0, xx1, xx2, xx3, xx4, xx5, xx6, xx7, xx8, xx9⟩ := X.ten
  obtain ⟨kk0, kk1, kk2, kk3, kk4, kk5, kk6, kk7, kk8, kk9⟩ := N.ten
  have xl := X.lt
  have xf := X.fz
  go_wp2_with fail
  refine bodyPost_ret (v := .tuple #[.agg #[.int .i64 0, .int .i64 0, .int .i64 0, .int .i64 0, .int .i64 0, .int .i64 0, .int .i64 0, .int .i64 0, .int .i64 0, .int .i64 0], .int .i64 3]) (by simp [results, Tryd.results25, go_sem, xx0, xx1, xx2, xx3, xx4, xx5, xx6, xx7, xx8, xx9]) rfl ?_
  exact ⟨rfl, (below_lay10 _ _ _ _ _ _ _ _ _ _ hB (Nat.le_refl _))⟩
set_option maxHeartbeats 2000000 in
theorem rmGet_bare_long (w : World) {a : Option Addr} {c : Nat} {b : List Int} (R : Reads .u8 w a c b) (hl : b.length ≤ 100000) {m0 m1 m2 m3 : Int} (HE : Hid (9 ≤ b.length)) (HL : Hid (O.gallL b [1, 3, 3, 2] = [m0, m1, m2, m3])) (hq : ¬ m0 = 2) (hn : 9 < b.length) :
    Calls Tryd.prog 25 #[.slice a b.length c] w fun e w' => e = .returned (.tuple #[.agg #[.int .i64 0, .int .i64 0, .int .i64 0, .int .i64 0, .int .i64 0, .int .i64 0, .int .i64 0, .int .i64 0, .int .i64 0, .int .i64 0], .int .i64 2]) ∧ Below w.heap.size w w' := by
  have hq2 : (m0 == 2) = false := by simpa using hq
  clear hq
  obtain ⟨hE, _, hK⟩ := all4 HE.out
  have X := Lies.new w [0, 0, 0, 0, 0, 0, 0, 0, 0, 0] 29 rfl
  have hB := below_new w (.cells #[.int .i64 0, .int .i64 0, .int .i64 0, .int .i64 0, .int .i64 0, .int .i64 0, .int .i64 0, .int .i64 0, .int .i64 0, .int .i64 0] 29)
  have hmx := Nat.le_trans R.le R.max
  unfold maxLen at hmx
  replace R := R.later hB
  have hb := below_new (w.alloc (.cells #[.int .i64 0, .int .i64 0, .int .i64 0, .int .i64 0, .int .i64 0, .int .i64 0, .int .i64 0, .int .i64 0, .int .i64 0, .int .i64 0] 29)) (.cells #[.int .i64 0, .int .i64 0, .int .i64 0, .int .i64 0, .int .i64 0, .int .i64 0, .int .i64 0, .int .i64 0, .int .i64 0, .int .i64 0] 29)
  have N := Lies.new (w.alloc (.cells #[.int .i64 0, .int .i64 0, .int .i64 0, .int .i64 0, .int .i64 0, .int .i64 0, .int .i64 0, .int .i64 0, .int .i64 0, .int .i64 0] 29)) [0, 0, 0, 0, 0, 0, 0, 0, 0, 0] 29 (B := w.heap.size + 1) (by simp)
  replace R := R.later hb
  replace X := X.later hb
  replace hB := below_step hB hb
  clear hb
  have hb := below_new ((w.alloc (.cells #[.int .i64 0, .int .i64 0, .int .i64 0, .int .i64 0, .int .i64 0, .int .i64 0, .int .i64 0, .int .i64 0, .int .i64 0, .int .i64 0] 29)).alloc (.cells #[.int .i64 0, .int .i64 0, .int .i64 0, .int .i64 0, .int .i64 0, .int .i64 0, .int .i64 0, .int .i64 0, .int .i64 0, .int .i64 0] 29)) (.cells #[.int .i64 1, .int .i64 3, .int .i64 3, .int .i64 2] 3)
  have R1 := reads_new64 ((w.alloc (.cells #[.int .i64 0, .int .i64 0, .int .i64 0, .int .i64 0, .int .i64 0, .int .i64 0, .int .i64 0, .int .i64 0, .int .i64 0, .int .i64 0] 29)).alloc (.cells #[.int .i64 0, .int .i64 0, .int .i64 0, .int .i64 0, .int .i64 0, .int .i64 0, .int .i64 0, .int .i64 0, .int .i64 0, .int .i64 0] 29)) [1, 3, 3, 2] (by decide) (by simp) (B := w.heap.size + 1 + 1) (by simp) rfl
  replace R := R.later hb
  replace X := X.later hb
  replace N := N.later hb
  replace hB := below_step hB hb
  clear hb
  go_enter Tryd.func25, Tryd.ntmps25
  go_wp2_with fail
  refine (rgetAll4 _ R R1 hl).mono ?_
  rintro e w3 ⟨a3, k3, rfl, R3, hb⟩
  clear R1
  replace R := R.later hb
  replace X := X.later hb
  replace N := N.later hb
  replace hB := below_step hB hb
  clear hb
  rw [HL.out] at R3
  rw [HL.out, hK, hE]
  clear hE hK
  obtain ⟨b3, o3, rfl, lt3, hc⟩ := reads_at R3 (by simp)
  have y0 := hc 0 m0 rfl
  have y1 := hc 1 m1 rfl
  have y2 := hc 2 m2 rfl
  have y3 := hc 3 m3 rfl
  rw [Nat.add_zero] at y0
  have S00 : Below w3.heap.size w3 w3 ∧ b3 < w3.heap.size ∧ w3.cell? ⟨b3, o3, none⟩ = some (.int .i64 m0) ∧ w3.cell? ⟨b3, o3 + 1, none⟩ = some (.int .i64 m1) ∧ w3.cell? ⟨b3, o3 + 2, none⟩ = some (.int .i64 m2) ∧ w3.cell? ⟨b3, o3 + 3, none⟩ = some (.int .i64 m3) := ⟨Below.refl _ _, lt3, y0, y1, y2, y3⟩
  have S0 : Below w3.heap.size w3 w3.drew ∧ b3 < w3.drew.heap.size ∧ w3.drew.cell? ⟨b3, o3, none⟩ = some (.int .i64 m0) ∧ w3.drew.cell? ⟨b3, o3 + 1, none⟩ = some (.int .i64 m1) ∧ w3.drew.cell? ⟨b3, o3 + 2, none⟩ = some (.int .i64 m2) ∧ w3.drew.cell? ⟨b3, o3 + 3, none⟩ = some (.int .i64 m3) := keptM S00 (Below.refl _ _).drew
  clear hc R3 y0 y1 y2 y3
  go_wp2_with fail
  go_region_held3 (fun w' => Below w3.heap.size w3 w' ∧ b3 < w'.heap.size ∧ w'.cell? ⟨b3, o3, none⟩ = some (.int .i64 m0) ∧ w'.cell? ⟨b3, o3 + 1, none⟩ = some (.int .i64 m1) ∧ w'.cell? ⟨b3, o3 + 2, none⟩ = some (.int .i64 m2) ∧ w'.cell? ⟨b3, o3 + 3, none⟩ = some (.int .i64 m3))
    (first | assumption | exact keptM S00 (below_new _ _).drew | exact keptM S00 (below_new _ _))
    (first | fail)
  have hb : Below w3.heap.size w3 (w3.alloc (.cells #[.int .i64 m0, .int .i64 m1, .int .i64 m2, .int .i64 m3, .int .i64 0, .int .i64 0, .int .i64 0, .int .i64 0, .int .i64 0, .int .i64 0] 29)).drew := (below_new w3 _).drew
  have Y : Lies (w3.alloc (.cells #[.int .i64 m0, .int .i64 m1, .int .i64 m2, .int .i64 m3, .int .i64 0, .int .i64 0, .int .i64 0, .int .i64 0, .int .i64 0, .int .i64 0] 29)).drew w3.heap.size [m0, m1, m2, m3, 0, 0, 0, 0, 0, 0] := (Lies.new w3 [m0, m1, m2, m3, 0, 0, 0, 0, 0, 0] 29 rfl).later (Below.refl _ _).drew
  have hne : w3.heap.size ≠ w.heap.size := by have := X.lt; omega
  have hne1 : w3.heap.size ≠ w.heap.size + 1 := by have := N.lt; omega
  have hw3 := hB.size
  have hB0 := below_step hB (below_new w3 (.cells #[.int .i64 m0, .int .i64 m1, .int .i64 m2, .int .i64 m3, .int .i64 0, .int .i64 0, .int .i64 0, .int .i64 0, .int .i64 0, .int .i64 0] 29))
  have X0 := X.later (below_new w3 (.cells #[.int .i64 m0, .int .i64 m1, .int .i64 m2, .int .i64 m3, .int .i64 0, .int .i64 0, .int .i64 0, .int .i64 0, .int .i64 0, .int .i64 0] 29))
  have N0 := N.later (below_new w3 (.cells #[.int .i64 m0, .int .i64 m1, .int .i64 m2, .int .i64 m3, .int .i64 0, .int .i64 0, .int .i64 0, .int .i64 0, .int .i64 0, .int .i64 0] 29))
  replace R := R.later hb
  replace X := X.later hb
  replace N := N.later hb
  replace hB := below_step hB hb
  clear hb S00 S0
  obtain ⟨u0, u1, u2, u3, u4, u5, u6, u7, u8, u9⟩ := Y.ten
  replace X := X0
  replace N := N0
  obtain ⟨xx0, xx1, xx2, xx3, xx4, xx5, xx6, xx7, xx8, xx9⟩ := X.ten
  obtain ⟨kk0, kk1, kk2, kk3, kk4, kk5, kk6, kk7, kk8, kk9⟩ := N.ten
  have xl := X.lt
  have xf := X.fz
  go_wp2_with fail
  refine bodyPost_ret (v := .tuple #[.agg #[.int .i64 0, .int .i64 0, .int .i64 0, .int .i64 0, .int .i64 0, .int .i64 0, .int .i64 0, .int .i64 0, .int .i64 0, .int .i64 0], .int .i64 2]) (by simp [results, Tryd.results25, go_sem, xx0, xx1, xx2, xx3, xx4, xx5, xx6, xx7, xx8, xx9]) rfl ?_
  exact ⟨rfl, (below_lay10 _ _ _ _ _ _ _ _ _ _ hB0 (Nat.le_refl _)).drew⟩
set_option maxHeartbeats 2000000 in
theorem rmGet_add_more (w : World) {a : Option Addr} {c : Nat} {b : List Int} (R : Reads .u8 w a c b) (hl : b.length ≤ 100000) {m0 m1 m2 m3 : Int} (HE : Hid (9 ≤ b.length)) (HL : Hid (O.gallL b [1, 3, 3, 2] = [m0, m1, m2, m3])) (hq : m0 = 2) (hn : b.length < 18) :
    Calls Tryd.prog 25 #[.slice a b.length c] w fun e w' => e = .returned (.tuple #[.agg #[.int .i64 0, .int .i64 0, .int .i64 0, .int .i64 0, .int .i64 0, .int .i64 0, .int .i64 0, .int .i64 0, .int .i64 0, .int .i64 0], .int .i64 3]) ∧ Below w.heap.size w w' := by
  have hq2 : (m0 == 2) = true := by simpa using hq
  clear hq
  obtain ⟨hE, _, hK⟩ := all4 HE.out
  have X := Lies.new w [0, 0, 0, 0, 0, 0, 0, 0, 0, 0] 29 rfl
  have hB := below_new w (.cells #[.int .i64 0, .int .i64 0, .int .i64 0, .int .i64 0, .int .i64 0, .int .i64 0, .int .i64 0, .int .i64 0, .int .i64 0, .int .i64 0] 29)
  have hmx := Nat.le_trans R.le R.max
  unfold maxLen at hmx
  replace R := R.later hB
  have hb := below_new (w.alloc (.cells #[.int .i64 0, .int .i64 0, .int .i64 0, .int .i64 0, .int .i64 0, .int .i64 0, .int .i64 0, .int .i64 0, .int .i64 0, .int .i64 0] 29)) (.cells #[.int .i64 0, .int .i64 0, .int .i64 0, .int .i64 0, .int .i64 0, .int .i64 0, .int .i64 0, .int .i64 0, .int .i64 0, .int .i64 0] 29)
  have N := Lies.new (w.alloc (.cells #[.int .i64 0, .int .i64 0, .int .i64 0, .int .i64 0, .int .i64 0, .int .i64 0, .int .i64 0, .int .i64 0, .int .i64 0, .int .i64 0] 29)) [0, 0, 0, 0, 0, 0, 0, 0, 0, 0] 29 (B := w.heap.size + 1) (by simp)
  replace R := R.later hb
  replace X := X.later hb
  replace hB := below_step hB hb
  clear hb
  have hb := below_new ((w.alloc (.cells #[.int .i64 0, .int .i64 0, .int .i64 0, .int .i64 0, .int .i64 0, .int .i64 0, .int .i64 0, .int .i64 0, .int .i64 0, .int .i64 0] 29)).alloc (.cells #[.int .i64 0, .int .i64 0, .int .i64 0, .int .i64 0, .int .i64 0, .int .i64 0, .int .i64 0, .int .i64 0, .int .i64 0, .int .i64 0] 29)) (.cells #[.int .i64 1, .int .i64 3, .int .i64 3, .int .i64 2] 3)
  have R1 := reads_new64 ((w.alloc (.cells #[.int .i64 0, .int .i64 0, .int .i64 0, .int .i64 0, .int .i64 0, .int .i64 0, .int .i64 0, .int .i64 0, .int .i64 0, .int .i64 0] 29)).alloc (.cells #[.int .i64 0, .int .i64 0, .int .i64 0, .int .i64 0, .int .i64 0, .int .i64 0, .int .i64 0, .int .i64 0, .int .i64 0, .int .i64 0] 29)) [1, 3, 3, 2] (by decide) (by simp) (B := w.heap.size + 1 + 1) (by simp) rfl
  replace R := R.later hb
  replace X := X.later hb
  replace N := N.later hb
  replace hB := below_step hB hb
  clear hb
  go_enter Tryd.func25, Tryd.ntmps25
  go_wp2_with fail
  refine (rgetAll4 _ R R1 hl).mono ?_
  rintro e w3 ⟨a3, k3, rfl, R3, hb⟩
  clear R1
  replace R := R.later hb
  replace X := X.later hb
  replace N := N.later hb
  replace hB := below_step hB hb
  clear hb
  rw [HL.out] at R3
  rw [HL.out, hK, hE]
  clear hE hK
  obtain ⟨b3, o3, rfl, lt3, hc⟩ := reads_at R3 (by simp)
  have y0 := hc 0 m0 rfl
  have y1 := hc 1 m1 rfl
  have y2 := hc 2 m2 rfl
  have y3 := hc 3 m3 rfl
  rw [Nat.add_zero] at y0
  have S00 : Below w3.heap.size w3 w3 ∧ b3 < w3.heap.size ∧ w3.cell? ⟨b3, o3, none⟩ = some (.int .i64 m0) ∧ w3.cell? ⟨b3, o3 + 1, none⟩ = some (.int .i64 m1) ∧ w3.cell? ⟨b3, o3 + 2, none⟩ = some (.int .i64 m2) ∧ w3.cell? ⟨b3, o3 + 3, none⟩ = some (.int .i64 m3) := ⟨Below.refl _ _, lt3, y0, y1, y2, y3⟩
  have S0 : Below w3.heap.size w3 w3.drew ∧ b3 < w3.drew.heap.size ∧ w3.drew.cell? ⟨b3, o3, none⟩ = some (.int .i64 m0) ∧ w3.drew.cell? ⟨b3, o3 + 1, none⟩ = some (.int .i64 m1) ∧ w3.drew.cell? ⟨b3, o3 + 2, none⟩ = some (.int .i64 m2) ∧ w3.drew.cell? ⟨b3, o3 + 3, none⟩ = some (.int .i64 m3) := keptM S00 (Below.refl _ _).drew
  clear hc R3 y0 y1 y2 y3
  go_wp2_with fail
  go_region_held3 (fun w' => Below w3.heap.size w3 w' ∧ b3 < w'.heap.size ∧ w'.cell? ⟨b3, o3, none⟩ = some (.int .i64 m0) ∧ w'.cell? ⟨b3, o3 + 1, none⟩ = some (.int .i64 m1) ∧ w'.cell? ⟨b3, o3 + 2, none⟩ = some (.int .i64 m2) ∧ w'.cell? ⟨b3, o3 + 3, none⟩ = some (.int .i64 m3))
    (first | assumption | exact keptM S00 (below_new _ _).drew | exact keptM S00 (below_new _ _))
    (first | fail)
  have hb : Below w3.heap.size w3 (w3.alloc (.cells #[.int .i64 m0, .int .i64 m1, .int .i64 m2, .int .i64 m3, .int .i64 0, .int .i64 0, .int .i64 0, .int .i64 0, .int .i64 0, .int .i64 0] 29)).drew := (below_new w3 _).drew
  have Y : Lies (w3.alloc (.cells #[.int .i64 m0, .int .i64 m1, .int .i64 m2, .int .i64 m3, .int .i64 0, .int .i64 0, .int .i64 0, .int .i64 0, .int .i64 0, .int .i64 0] 29)).drew w3.heap.size [m0, m1, m2, m3, 0, 0, 0, 0, 0, 0] := (Lies.new w3 [m0, m1, m2, m3, 0, 0, 0, 0, 0, 0] 29 rfl).later (Below.refl _ _).drew
  have hne : w3.heap.size ≠ w.heap.size := by have := X.lt; omega
  have hne1 : w3.heap.size ≠ w.heap.size + 1 := by have := N.lt; omega
  have hw3 := hB.size
  have hB0 := below_step hB (below_new w3 (.cells #[.int .i64 m0, .int .i64 m1, .int .i64 m2, .int .i64 m3, .int .i64 0, .int .i64 0, .int .i64 0, .int .i64 0, .int .i64 0, .int .i64 0] 29))
  have X0 := X.later (below_new w3 (.cells #[.int .i64 m0, .int .i64 m1, .int .i64 m2, .int .i64 m3, .int .i64 0, .int .i64 0, .int .i64 0, .int .i64 0, .int .i64 0, .int .i64 0] 29))
  have N0 := N.later (below_new w3 (.cells #[.int .i64 m0, .int .i64 m1, .int .i64 m2, .int .i64 m3, .int .i64 0, .int .i64 0, .int .i64 0, .int .i64 0, .int .i64 0, .int .i64 0] 29))
  replace R := R.later hb
  replace X := X.later hb
  replace N := N.later hb
  replace hB := below_step hB hb
  clear hb S00 S0
  obtain ⟨u0, u1, u2, u3, u4, u5, u6, u7, u8, u9⟩ := Y.ten
  replace X := X0
  replace N := N0
  obtain ⟨xx0, xx1, xx2, xx3, xx4, xx5, xx6, xx7, xx8, xx9⟩ := X.ten
  obtain ⟨kk0, kk1, kk2, kk3, kk4, kk5, kk6, kk7, kk8, kk9⟩ := N.ten
  have xl := X.lt
  have xf := X.fz
  go_wp2_with fail
  refine bodyPost_ret (v := .tuple #[.agg #[.int .i64 0, .int .i64 0, .int .i64 0, .int .i64 0, .int .i64 0, .int .i64 0, .int .i64 0, .int .i64 0, .int .i64 0, .int .i64 0], .int .i64 3]) (by simp [results, Tryd.results25, go_sem, xx0, xx1, xx2, xx3, xx4, xx5, xx6, xx7, xx8, xx9]) rfl ?_
  exact ⟨rfl, (below_lay10 _ _ _ _ _ _ _ _ _ _ hB0 (Nat.le_refl _)).drew⟩
set_option maxHeartbeats 2000000 in
theorem rmGet_add_long (w : World) {a : Option Addr} {c : Nat} {b : List Int} (R : Reads .u8 w a c b) (hl : b.length ≤ 100000) {m0 m1 m2 m3 : Int} (HE : Hid (9 ≤ b.length)) (HL : Hid (O.gallL b [1, 3, 3, 2] = [m0, m1, m2, m3])) (hq : m0 = 2) (hn : 18 < b.length) :
    Calls Tryd.prog 25 #[.slice a b.length c] w fun e w' => e = .returned (.tuple #[.agg #[.int .i64 0, .int .i64 0, .int .i64 0, .int .i64 0, .int .i64 0, .int .i64 0, .int .i64 0, .int .i64 0, .int .i64 0, .int .i64 0], .int .i64 2]) ∧ Below w.heap.size w w' := by
  have hq2 : (m0 == 2) = true := by simpa using hq
  clear hq
  obtain ⟨hE, _, hK⟩ := all4 HE.out
  have X := Lies.new w [0, 0, 0, 0, 0, 0, 0, 0, 0, 0] 29 rfl
  have hB := below_new w (.cells #[.int .i64 0, .int .i64 0, .int .i64 0, .int .i64 0, .int .i64 0, .int .i64 0, .int .i64 0, .int .i64 0, .int .i64 0, .int .i64 0] 29)
  have hmx := Nat.le_trans R.le R.max
  unfold maxLen at hmx
  replace R := R.later hB
  have hb := below_new (w.alloc (.cells #[.int .i64 0, .int .i64 0, .int .i64 0, .int .i64 0, .int .i64 0, .int .i64 0, .int .i64 0, .int .i64 0, .int .i64 0, .int .i64 0] 29)) (.cells #[.int .i64 0, .int .i64 0, .int .i64 0, .int .i64 0, .int .i64 0, .int .i64 0, .int .i64 0, .int .i64 0, .int .i64 0, .int .i64 0] 29)
  have N := Lies.new (w.alloc (.cells #[.int .i64 0, .int .i64 0, .int .i64 0, .int .i64 0, .int .i64 0, .int .i64 0, .int .i64 0, .int .i64 0, .int .i64 0, .int .i64 0] 29)) [0, 0, 0, 0, 0, 0, 0, 0, 0, 0] 29 (B := w.heap.size + 1) (by simp)
  replace R := R.later hb
  replace X := X.later hb
  replace hB := below_step hB hb
  clear hb
  have hb := below_new ((w.alloc (.cells #[.int .i64 0, .int .i64 0, .int .i64 0, .int .i64 0, .int .i64 0, .int .i64 0, .int .i64 0, .int .i64 0, .int .i64 0, .int .i64 0] 29)).alloc (.cells #[.int .i64 0, .int .i64 0, .int .i64 0, .int .i64 0, .int .i64 0, .int .i64 0, .int .i64 0, .int .i64 0, .int .i64 0, .int .i64 0] 29)) (.cells #[.int .i64 1, .int .i64 3, .int .i64 3, .int .i64 2] 3)
  have R1 := reads_new64 ((w.alloc (.cells #[.int .i64 0, .int .i64 0, .int .i64 0, .int .i64 0, .int .i64 0, .int .i64 0, .int .i64 0, .int .i64 0, .int .i64 0, .int .i64 0] 29)).alloc (.cells #[.int .i64 0, .int .i64 0, .int .i64 0, .int .i64 0, .int .i64 0, .int .i64 0, .int .i64 0, .int .i64 0, .int .i64 0, .int .i64 0] 29)) [1, 3, 3, 2] (by decide) (by simp) (B := w.heap.size + 1 + 1) (by simp) rfl
  replace R := R.later hb
  replace X := X.later hb
  replace N := N.later hb
  replace hB := below_step hB hb
  clear hb
  go_enter Tryd.func25, Tryd.ntmps25
  go_wp2_with fail
  refine (rgetAll4 _ R R1 hl).mono ?_
  rintro e w3 ⟨a3, k3, rfl, R3, hb⟩
  clear R1
  replace R := R.later hb
  replace X := X.later hb
  replace N := N.later hb
  replace hB := below_step hB hb
  clear hb
  rw [HL.out] at R3
  rw [HL.out, hK, hE]
  clear hE hK
  obtain ⟨b3, o3, rfl, lt3, hc⟩ := reads_at R3 (by simp)
  have y0 := hc 0 m0 rfl
  have y1 := hc 1 m1 rfl
  have y2 := hc 2 m2 rfl
  have y3 := hc 3 m3 rfl
  rw [Nat.add_zero] at y0
  have S00 : Below w3.heap.size w3 w3 ∧ b3 < w3.heap.size ∧ w3.cell? ⟨b3, o3, none⟩ = some (.int .i64 m0) ∧ w3.cell? ⟨b3, o3 + 1, none⟩ = some (.int .i64 m1) ∧ w3.cell? ⟨b3, o3 + 2, none⟩ = some (.int .i64 m2) ∧ w3.cell? ⟨b3, o3 + 3, none⟩ = some (.int .i64 m3) := ⟨Below.refl _ _, lt3, y0, y1, y2, y3⟩
  have S0 : Below w3.heap.size w3 w3.drew ∧ b3 < w3.drew.heap.size ∧ w3.drew.cell? ⟨b3, o3, none⟩ = some (.int .i64 m0) ∧ w3.drew.cell? ⟨b3, o3 + 1, none⟩ = some (.int .i64 m1) ∧ w3.drew.cell? ⟨b3, o3 + 2, none⟩ = some (.int .i64 m2) ∧ w3.drew.cell? ⟨b3, o3 + 3, none⟩ = some (.int .i64 m3) := keptM S00 (Below.refl _ _).drew
  clear hc R3 y0 y1 y2 y3
  go_wp2_with fail
  go_region_held3 (fun w' => Below w3.heap.size w3 w' ∧ b3 < w'.heap.size ∧ w'.cell? ⟨b3, o3, none⟩ = some (.int .i64 m0) ∧ w'.cell? ⟨b3, o3 + 1, none⟩ = some (.int .i64 m1) ∧ w'.cell? ⟨b3, o3 + 2, none⟩ = some (.int .i64 m2) ∧ w'.cell? ⟨b3, o3 + 3, none⟩ = some (.int .i64 m3))
    (first | assumption | exact keptM S00 (below_new _ _).drew | exact keptM S00 (below_new _ _))
    (first | fail)
  have hb : Below w3.heap.size w3 (w3.alloc (.cells #[.int .i64 m0, .int .i64 m1, .int .i64 m2, .int .i64 m3, .int .i64 0, .int .i64 0, .int .i64 0, .int .i64 0, .int .i64 0, .int .i64 0] 29)).drew := (below_new w3 _).drew
  have Y : Lies (w3.alloc (.cells #[.int .i64 m0, .int .i64 m1, .int .i64 m2, .int .i64 m3, .int .i64 0, .int .i64 0, .int .i64 0, .int .i64 0, .int .i64 0, .int .i64 0] 29)).drew w3.heap.size [m0, m1, m2, m3, 0, 0, 0, 0, 0, 0] := (Lies.new w3 [m0, m1, m2, m3, 0, 0, 0, 0, 0, 0] 29 rfl).later (Below.refl _ _).drew
  have hne : w3.heap.size ≠ w.heap.size := by have := X.lt; omega
  have hne1 : w3.heap.size ≠ w.heap.size + 1 := by have := N.lt; omega
  have hw3 := hB.size
  have hB0 := below_step hB (below_new w3 (.cells #[.int .i64 m0, .int .i64 m1, .int .i64 m2, .int .i64 m3, .int .i64 0, .int .i64 0, .int .i64 0, .int .i64 0, .int .i64 0, .int .i64 0] 29))
  have X0 := X.later (below_new w3 (.cells #[.int .i64 m0, .int .i64 m1, .int .i64 m2, .int .i64 m3, .int .i64 0, .int .i64 0, .int .i64 0, .int .i64 0, .int .i64 0, .int .i64 0] 29))
  have N0 := N.later (below_new w3 (.cells #[.int .i64 m0, .int .i64 m1, .int .i64 m2, .int .i64 m3, .int .i64 0, .int .i64 0, .int .i64 0, .int .i64 0, .int .i64 0, .int .i64 0] 29))
  replace R := R.later hb
  replace X := X.later hb
  replace N := N.later hb
  replace hB := below_step hB hb
  clear hb S00 S0
  obtain ⟨u0, u1, u2, u3, u4, u5, u6, u7, u8, u9⟩ := Y.ten
  replace X := X0
  replace N := N0
  obtain ⟨xx0, xx1, xx2, xx3, xx4, xx5, xx6, xx7, xx8, xx9⟩ := X.ten
  obtain ⟨kk0, kk1, kk2, kk3, kk4, kk5, kk6, kk7, kk8, kk9⟩ := N.ten
  have xl := X.lt
  have xf := X.fz
  go_wp2_with fail
  refine bodyPost_ret (v := .tuple #[.agg #[.int .i64 0, .int .i64 0, .int .i64 0, .int .i64 0, .int .i64 0, .int .i64 0, .int .i64 0, .int .i64 0, .int .i64 0, .int .i64 0], .int .i64 2]) (by simp [results, Tryd.results25, go_sem, xx0, xx1, xx2, xx3, xx4, xx5, xx6, xx7, xx8, xx9]) rfl ?_
  exact ⟨rfl, (below_lay10 _ _ _ _ _ _ _ _ _ _ hB0 (Nat.le_refl _)).drew⟩
set_option maxHeartbeats 2000000 in
theorem rmGet_bare_no (w : World) {a : Option Addr} {c : Nat} {b : List Int} (R : Reads .u8 w a c b) (hl : b.length ≤ 100000) {m0 m1 m2 m3 : Int} (HE : Hid (9 ≤ b.length)) (HL : Hid (O.gallL b [1, 3, 3, 2] = [m0, m1, m2, m3])) (hq : ¬ m0 = 2) (hn : b.length ≤ 9) (hk : okM m0 m1 m2 m3 0 0 0 0 0 0 = false) :
    Calls Tryd.prog 25 #[.slice a b.length c] w fun e w' => e = .returned (.tuple #[.agg #[.int .i64 0, .int .i64 0, .int .i64 0, .int .i64 0, .int .i64 0, .int .i64 0, .int .i64 0, .int .i64 0, .int .i64 0, .int .i64 0], .int .i64 2]) ∧ Below w.heap.size w w' := by
  have hq2 : (m0 == 2) = false := by simpa using hq
  clear hq
  have cm := fun w => rmMay_any m0 m1 m2 m3 0 0 0 0 0 0 w
  rw [hk] at cm
  have hn9 : (9 : Int) ≤ (b.length : Int) := by have := HE.out; omega
  obtain ⟨hE, _, hK⟩ := all4 HE.out
  have X := Lies.new w [0, 0, 0, 0, 0, 0, 0, 0, 0, 0] 29 rfl
  have hB := below_new w (.cells #[.int .i64 0, .int .i64 0, .int .i64 0, .int .i64 0, .int .i64 0, .int .i64 0, .int .i64 0, .int .i64 0, .int .i64 0, .int .i64 0] 29)
  have hmx := Nat.le_trans R.le R.max
  unfold maxLen at hmx
  replace R := R.later hB
  have hb := below_new (w.alloc (.cells #[.int .i64 0, .int .i64 0, .int .i64 0, .int .i64 0, .int .i64 0, .int .i64 0, .int .i64 0, .int .i64 0, .int .i64 0, .int .i64 0] 29)) (.cells #[.int .i64 0, .int .i64 0, .int .i64 0, .int .i64 0, .int .i64 0, .int .i64 0, .int .i64 0, .int .i64 0, .int .i64 0, .int .i64 0] 29)
  have N := Lies.new (w.alloc (.cells #[.int .i64 0, .int .i64 0, .int .i64 0, .int .i64 0, .int .i64 0, .int .i64 0, .int .i64 0, .int .i64 0, .int .i64 0, .int .i64 0] 29)) [0, 0, 0, 0, 0, 0, 0, 0, 0, 0] 29 (B := w.heap.size + 1) (by simp)
  replace R := R.later hb
  replace X := X.later hb
  replace hB := below_step hB hb
  clear hb
  have hb := below_new ((w.alloc (.cells #[.int .i64 0, .int .i64 0, .int .i64 0, .int .i64 0, .int .i64 0, .int .i64 0, .int .i64 0, .int .i64 0, .int .i64 0, .int .i64 0] 29)).alloc (.cells #[.int .i64 0, .int .i64 0, .int .i64 0, .int .i64 0, .int .i64 0, .int .i64 0, .int .i64 0, .int .i64 0, .int .i64 0, .int .i64 0] 29)) (.cells #[.int .i64 1, .int .i64 3, .int .i64 3, .int .i64 2] 3)
  have R1 := reads_new64 ((w.alloc (.cells #[.int .i64 0, .int .i64 0, .int .i64 0, .int .i64 0, .int .i64 0, .int .i64 0, .int .i64 0, .int .i64 0, .int .i64 0, .int .i64 0] 29)).alloc (.cells #[.int .i64 0, .int .i64 0, .int .i64 0, .int .i64 0, .int .i64 0, .int .i64 0, .int .i64 0, .int .i64 0, .int .i64 0, .int .i64 0] 29)) [1, 3, 3, 2] (by decide) (by simp) (B := w.heap.size + 1 + 1) (by simp) rfl
  replace R := R.later hb
  replace X := X.later hb
  replace N := N.later hb
  replace hB := below_step hB hb
  clear hb
  go_enter Tryd.func25, Tryd.ntmps25
  go_wp2_with fail
  refine (rgetAll4 _ R R1 hl).mono ?_
  rintro e w3 ⟨a3, k3, rfl, R3, hb⟩
  clear R1
  replace R := R.later hb
  replace X := X.later hb
  replace N := N.later hb
  replace hB := below_step hB hb
  clear hb
  rw [HL.out] at R3
  rw [HL.out, hK, hE]
  clear hE hK
  obtain ⟨b3, o3, rfl, lt3, hc⟩ := reads_at R3 (by simp)
  have y0 := hc 0 m0 rfl
  have y1 := hc 1 m1 rfl
  have y2 := hc 2 m2 rfl
  have y3 := hc 3 m3 rfl
  rw [Nat.add_zero] at y0
  have S00 : Below w3.heap.size w3 w3 ∧ b3 < w3.heap.size ∧ w3.cell? ⟨b3, o3, none⟩ = some (.int .i64 m0) ∧ w3.cell? ⟨b3, o3 + 1, none⟩ = some (.int .i64 m1) ∧ w3.cell? ⟨b3, o3 + 2, none⟩ = some (.int .i64 m2) ∧ w3.cell? ⟨b3, o3 + 3, none⟩ = some (.int .i64 m3) := ⟨Below.refl _ _, lt3, y0, y1, y2, y3⟩
  have S0 : Below w3.heap.size w3 w3.drew ∧ b3 < w3.drew.heap.size ∧ w3.drew.cell? ⟨b3, o3, none⟩ = some (.int .i64 m0) ∧ w3.drew.cell? ⟨b3, o3 + 1, none⟩ = some (.int .i64 m1) ∧ w3.drew.cell? ⟨b3, o3 + 2, none⟩ = some (.int .i64 m2) ∧ w3.drew.cell? ⟨b3, o3 + 3, none⟩ = some (.int .i64 m3) := keptM S00 (Below.refl _ _).drew
  clear hc R3 y0 y1 y2 y3
  go_wp2_with fail
  go_region_held3 (fun w' => Below w3.heap.size w3 w' ∧ b3 < w'.heap.size ∧ w'.cell? ⟨b3, o3, none⟩ = some (.int .i64 m0) ∧ w'.cell? ⟨b3, o3 + 1, none⟩ = some (.int .i64 m1) ∧ w'.cell? ⟨b3, o3 + 2, none⟩ = some (.int .i64 m2) ∧ w'.cell? ⟨b3, o3 + 3, none⟩ = some (.int .i64 m3))
    (first | assumption | exact keptM S00 (below_new _ _).drew | exact keptM S00 (below_new _ _))
    (first | fail)
  have hb : Below w3.heap.size w3 (w3.alloc (.cells #[.int .i64 m0, .int .i64 m1, .int .i64 m2, .int .i64 m3, .int .i64 0, .int .i64 0, .int .i64 0, .int .i64 0, .int .i64 0, .int .i64 0] 29)).drew := (below_new w3 _).drew
  have Y : Lies (w3.alloc (.cells #[.int .i64 m0, .int .i64 m1, .int .i64 m2, .int .i64 m3, .int .i64 0, .int .i64 0, .int .i64 0, .int .i64 0, .int .i64 0, .int .i64 0] 29)).drew w3.heap.size [m0, m1, m2, m3, 0, 0, 0, 0, 0, 0] := (Lies.new w3 [m0, m1, m2, m3, 0, 0, 0, 0, 0, 0] 29 rfl).later (Below.refl _ _).drew
  have hne : w3.heap.size ≠ w.heap.size := by have := X.lt; omega
  have hne1 : w3.heap.size ≠ w.heap.size + 1 := by have := N.lt; omega
  have hw3 := hB.size
  have hB0 := below_step hB (below_new w3 (.cells #[.int .i64 m0, .int .i64 m1, .int .i64 m2, .int .i64 m3, .int .i64 0, .int .i64 0, .int .i64 0, .int .i64 0, .int .i64 0, .int .i64 0] 29))
  have X0 := X.later (below_new w3 (.cells #[.int .i64 m0, .int .i64 m1, .int .i64 m2, .int .i64 m3, .int .i64 0, .int .i64 0, .int .i64 0, .int .i64 0, .int .i64 0, .int .i64 0] 29))
  have N0 := N.later (below_new w3 (.cells #[.int .i64 m0, .int .i64 m1, .int .i64 m2, .int .i64 m3, .int .i64 0, .int .i64 0, .int .i64 0, .int .i64 0, .int .i64 0, .int .i64 0] 29))
  replace R := R.later hb
  replace X := X.later hb
  replace N := N.later hb
  replace hB := below_step hB hb
  clear hb S00 S0
  obtain ⟨u0, u1, u2, u3, u4, u5, u6, u7, u8, u9⟩ := Y.ten
  go_wp2_with fail
  refine (cm _).mono ?_
  rintro e w5 ⟨rfl, hb⟩
  clear u0 u1 u2 u3 u4 u5 u6 u7 u8 u9
  replace X := X.later hb
  replace N := N.later hb
  replace Y := Y.later hb
  replace hB := below_step hB hb
  clear hb
  obtain ⟨u0, u1, u2, u3, u4, u5, u6, u7, u8, u9⟩ := Y.ten
  obtain ⟨xx0, xx1, xx2, xx3, xx4, xx5, xx6, xx7, xx8, xx9⟩ := X.ten
  obtain ⟨kk0, kk1, kk2, kk3, kk4, kk5, kk6, kk7, kk8, kk9⟩ := N.ten
  have xl := X.lt
  have xf := X.fz
  go_wp2_with fail
  refine bodyPost_ret (v := .tuple #[.agg #[.int .i64 0, .int .i64 0, .int .i64 0, .int .i64 0, .int .i64 0, .int .i64 0, .int .i64 0, .int .i64 0, .int .i64 0, .int .i64 0], .int .i64 2]) (by simp [results, Tryd.results25, go_sem, xx0, xx1, xx2, xx3, xx4, xx5, xx6, xx7, xx8, xx9]) rfl ?_
  exact ⟨rfl, (below_lay10 _ _ _ _ _ _ _ _ _ _ hB (Nat.le_refl _))⟩
set_option maxHeartbeats 2000000 in
theorem rmGet_bare_yes (w : World) {a : Option Addr} {c : Nat} {b : List Int} (R : Reads .u8 w a c b) (hl : b.length ≤ 100000) {m0 m1 m2 m3 : Int} (HE : Hid (9 ≤ b.length)) (HL : Hid (O.gallL b [1, 3, 3, 2] = [m0, m1, m2, m3])) (hq : ¬ m0 = 2) (hn : b.length ≤ 9) (hk : okM m0 m1 m2 m3 0 0 0 0 0 0 = true) :
    Calls Tryd.prog 25 #[.slice a b.length c] w fun e w' => e = .returned (.tuple #[.agg #[.int .i64 m0, .int .i64 m1, .int .i64 m2, .int .i64 m3, .int .i64 0, .int .i64 0, .int .i64 0, .int .i64 0, .int .i64 0, .int .i64 0], .int .i64 0]) ∧ Below w.heap.size w w' := by
  have hq2 : (m0 == 2) = false := by simpa using hq
  clear hq
  have cm := fun w => rmMay_any m0 m1 m2 m3 0 0 0 0 0 0 w
  rw [hk] at cm
  have hn9 : (9 : Int) ≤ (b.length : Int) := by have := HE.out; omega
  obtain ⟨hE, _, hK⟩ := all4 HE.out
  have X := Lies.new w [0, 0, 0, 0, 0, 0, 0, 0, 0, 0] 29 rfl
  have hB := below_new w (.cells #[.int .i64 0, .int .i64 0, .int .i64 0, .int .i64 0, .int .i64 0, .int .i64 0, .int .i64 0, .int .i64 0, .int .i64 0, .int .i64 0] 29)
  have hmx := Nat.le_trans R.le R.max
  unfold maxLen at hmx
  replace R := R.later hB
  have hb := below_new (w.alloc (.cells #[.int .i64 0, .int .i64 0, .int .i64 0, .int .i64 0, .int .i64 0, .int .i64 0, .int .i64 0, .int .i64 0, .int .i64 0, .int .i64 0] 29)) (.cells #[.int .i64 0, .int .i64 0, .int .i64 0, .int .i64 0, .int .i64 0, .int .i64 0, .int .i64 0, .int .i64 0, .int .i64 0, .int .i64 0] 29)
  have N := Lies.new (w.alloc (.cells #[.int .i64 0, .int .i64 0, .int .i64 0, .int .i64 0, .int .i64 0, .int .i64 0, .int .i64 0, .int .i64 0, .int .i64 0, .int .i64 0] 29)) [0, 0, 0, 0, 0, 0, 0, 0, 0, 0] 29 (B := w.heap.size + 1) (by simp)
  replace R := R.later hb
  replace X := X.later hb
  replace hB := below_step hB hb
  clear hb
  have hb := below_new ((w.alloc (.cells #[.int .i64 0, .int .i64 0, .int .i64 0, .int .i64 0, .int .i64 0, .int .i64 0, .int .i64 0, .int .i64 0, .int .i64 0, .int .i64 0] 29)).alloc (.cells #[.int .i64 0, .int .i64 0, .int .i64 0, .int .i64 0, .int .i64 0, .int .i64 0, .int .i64 0, .int .i64 0, .int .i64 0, .int .i64 0] 29)) (.cells #[.int .i64 1, .int .i64 3, .int .i64 3, .int .i64 2] 3)
  have R1 := reads_new64 ((w.alloc (.cells #[.int .i64 0, .int .i64 0, .int .i64 0, .int .i64 0, .int .i64 0, .int .i64 0, .int .i64 0, .int .i64 0, .int .i64 0, .int .i64 0] 29)).alloc (.cells #[.int .i64 0, .int .i64 0, .int .i64 0, .int .i64 0, .int .i64 0, .int .i64 0, .int .i64 0, .int .i64 0, .int .i64 0, .int .i64 0] 29)) [1, 3, 3, 2] (by decide) (by simp) (B := w.heap.size + 1 + 1) (by simp) rfl
  replace R := R.later hb
  replace X := X.later hb
  replace N := N.later hb
  replace hB := below_step hB hb
  clear hb
  go_enter Tryd.func25, Tryd.ntmps25
  go_wp2_with fail
  refine (rgetAll4 _ R R1 hl).mono ?_
  rintro e w3 ⟨a3, k3, rfl, R3, hb⟩
  clear R1
  replace R := R.later hb
  replace X := X.later hb
  replace N := N.later hb
  replace hB := below_step hB hb
  clear hb
  rw [HL.out] at R3
  rw [HL.out, hK, hE]
  clear hE hK
  obtain ⟨b3, o3, rfl, lt3, hc⟩ := reads_at R3 (by simp)
  have y0 := hc 0 m0 rfl
  have y1 := hc 1 m1 rfl
  have y2 := hc 2 m2 rfl
  have y3 := hc 3 m3 rfl
  rw [Nat.add_zero] at y0
  have S00 : Below w3.heap.size w3 w3 ∧ b3 < w3.heap.size ∧ w3.cell? ⟨b3, o3, none⟩ = some (.int .i64 m0) ∧ w3.cell? ⟨b3, o3 + 1, none⟩ = some (.int .i64 m1) ∧ w3.cell? ⟨b3, o3 + 2, none⟩ = some (.int .i64 m2) ∧ w3.cell? ⟨b3, o3 + 3, none⟩ = some (.int .i64 m3) := ⟨Below.refl _ _, lt3, y0, y1, y2, y3⟩
  have S0 : Below w3.heap.size w3 w3.drew ∧ b3 < w3.drew.heap.size ∧ w3.drew.cell? ⟨b3, o3, none⟩ = some (.int .i64 m0) ∧ w3.drew.cell? ⟨b3, o3 + 1, none⟩ = some (.int .i64 m1) ∧ w3.drew.cell? ⟨b3, o3 + 2, none⟩ = some (.int .i64 m2) ∧ w3.drew.cell? ⟨b3, o3 + 3, none⟩ = some (.int .i64 m3) := keptM S00 (Below.refl _ _).drew
  clear hc R3 y0 y1 y2 y3
  go_wp2_with fail
  go_region_held3 (fun w' => Below w3.heap.size w3 w' ∧ b3 < w'.heap.size ∧ w'.cell? ⟨b3, o3, none⟩ = some (.int .i64 m0) ∧ w'.cell? ⟨b3, o3 + 1, none⟩ = some (.int .i64 m1) ∧ w'.cell? ⟨b3, o3 + 2, none⟩ = some (.int .i64 m2) ∧ w'.cell? ⟨b3, o3 + 3, none⟩ = some (.int .i64 m3))
    (first | assumption | exact keptM S00 (below_new _ _).drew | exact keptM S00 (below_new _ _))
    (first | fail)
  have hb : Below w3.heap.size w3 (w3.alloc (.cells #[.int .i64 m0, .int .i64 m1, .int .i64 m2, .int .i64 m3, .int .i64 0, .int .i64 0, .int .i64 0, .int .i64 0, .int .i64 0, .int .i64 0] 29)).drew := (below_new w3 _).drew
  have Y : Lies (w3.alloc (.cells #[.int .i64 m0, .int .i64 m1, .int .i64 m2, .int .i64 m3, .int .i64 0, .int .i64 0, .int .i64 0, .int .i64 0, .int .i64 0, .int .i64 0] 29)).drew w3.heap.size [m0, m1, m2, m3, 0, 0, 0, 0, 0, 0] := (Lies.new w3 [m0, m1, m2, m3, 0, 0, 0, 0, 0, 0] 29 rfl).later (Below.refl _ _).drew
  have hne : w3.heap.size ≠ w.heap.size := by have := X.lt; omega
  have hne1 : w3.heap.size ≠ w.heap.size + 1 := by have := N.lt; omega
  have hw3 := hB.size
  have hB0 := below_step hB (below_new w3 (.cells #[.int .i64 m0, .int .i64 m1, .int .i64 m2, .int .i64 m3, .int .i64 0, .int .i64 0, .int .i64 0, .int .i64 0, .int .i64 0, .int .i64 0] 29))
  have X0 := X.later (below_new w3 (.cells #[.int .i64 m0, .int .i64 m1, .int .i64 m2, .int .i64 m3, .int .i64 0, .int .i64 0, .int .i64 0, .int .i64 0, .int .i64 0, .int .i64 0] 29))
  have N0 := N.later (below_new w3 (.cells #[.int .i64 m0, .int .i64 m1, .int .i64 m2, .int .i64 m3, .int .i64 0, .int .i64 0, .int .i64 0, .int .i64 0, .int .i64 0, .int .i64 0] 29))
  replace R := R.later hb
  replace X := X.later hb
  replace N := N.later hb
  replace hB := below_step hB hb
  clear hb S00 S0
  obtain ⟨u0, u1, u2, u3, u4, u5, u6, u7, u8, u9⟩ := Y.ten
  go_wp2_with fail
  refine (cm _).mono ?_
  rintro e w5 ⟨rfl, hb⟩
  clear u0 u1 u2 u3 u4 u5 u6 u7 u8 u9
  replace X := X.later hb
  replace N := N.later hb
  replace Y := Y.later hb
  replace hB := below_step hB hb
  clear hb
  obtain ⟨u0, u1, u2, u3, u4, u5, u6, u7, u8, u9⟩ := Y.ten
  obtain ⟨xx0, xx1, xx2, xx3, xx4, xx5, xx6, xx7, xx8, xx9⟩ := X.ten
  obtain ⟨kk0, kk1, kk2, kk3, kk4, kk5, kk6, kk7, kk8, kk9⟩ := N.ten
  have xl := X.lt
  have xf := X.fz
  go_wp2_with fail
  refine bodyPost_ret (v := .tuple #[.agg #[.int .i64 m0, .int .i64 m1, .int .i64 m2, .int .i64 m3, .int .i64 0, .int .i64 0, .int .i64 0, .int .i64 0, .int .i64 0, .int .i64 0], .int .i64 0]) (by simp [results, Tryd.results25, go_sem, xx0, xx1, xx2, xx3, xx4, xx5, xx6, xx7, xx8, xx9]) rfl ?_
  exact ⟨rfl, (below_lay10 _ _ _ _ _ _ _ _ _ _ hB (Nat.le_refl _))⟩
set_option maxHeartbeats 2000000 in
theorem rmGet_add_form (w : World) {a : Option Addr} {c : Nat} {b : List Int} (R : Reads .u8 w a c b) (hl : b.length ≤ 100000) {m0 m1 m2 m3 : Int} (HE : Hid (9 ≤ b.length)) (HL : Hid (O.gallL b [1, 3, 3, 2] = [m0, m1, m2, m3])) (hq : m0 = 2) (hn : b.length ≤ 18) (hn2 : 18 ≤ b.length) {zz : Int} (HK : Hid (rgE (b.drop 9) = zz)) (hz : zz ≠ 0) :
    Calls Tryd.prog 25 #[.slice a b.length c] w fun e w' => e = .returned (.tuple #[.agg #[.int .i64 0, .int .i64 0, .int .i64 0, .int .i64 0, .int .i64 0, .int .i64 0, .int .i64 0, .int .i64 0, .int .i64 0, .int .i64 0], .int .i64 2]) ∧ Below w.heap.size w w' := by
  have hq2 : (m0 == 2) = true := by simpa using hq
  clear hq
  have hz2 : (zz != 0) = true := by simpa using hz
  have hle := R.le
  obtain ⟨hE, _, hK⟩ := all4 HE.out
  have X := Lies.new w [0, 0, 0, 0, 0, 0, 0, 0, 0, 0] 29 rfl
  have hB := below_new w (.cells #[.int .i64 0, .int .i64 0, .int .i64 0, .int .i64 0, .int .i64 0, .int .i64 0, .int .i64 0, .int .i64 0, .int .i64 0, .int .i64 0] 29)
  have hmx := Nat.le_trans R.le R.max
  unfold maxLen at hmx
  replace R := R.later hB
  have hb := below_new (w.alloc (.cells #[.int .i64 0, .int .i64 0, .int .i64 0, .int .i64 0, .int .i64 0, .int .i64 0, .int .i64 0, .int .i64 0, .int .i64 0, .int .i64 0] 29)) (.cells #[.int .i64 0, .int .i64 0, .int .i64 0, .int .i64 0, .int .i64 0, .int .i64 0, .int .i64 0, .int .i64 0, .int .i64 0, .int .i64 0] 29)
  have N := Lies.new (w.alloc (.cells #[.int .i64 0, .int .i64 0, .int .i64 0, .int .i64 0, .int .i64 0, .int .i64 0, .int .i64 0, .int .i64 0, .int .i64 0, .int .i64 0] 29)) [0, 0, 0, 0, 0, 0, 0, 0, 0, 0] 29 (B := w.heap.size + 1) (by simp)
  replace R := R.later hb
  replace X := X.later hb
  replace hB := below_step hB hb
  clear hb
  have hb := below_new ((w.alloc (.cells #[.int .i64 0, .int .i64 0, .int .i64 0, .int .i64 0, .int .i64 0, .int .i64 0, .int .i64 0, .int .i64 0, .int .i64 0, .int .i64 0] 29)).alloc (.cells #[.int .i64 0, .int .i64 0, .int .i64 0, .int .i64 0, .int .i64 0, .int .i64 0, .int .i64 0, .int .i64 0, .int .i64 0, .int .i64 0] 29)) (.cells #[.int .i64 1, .int .i64 3, .int .i64 3, .int .i64 2] 3)
  have R1 := reads_new64 ((w.alloc (.cells #[.int .i64 0, .int .i64 0, .int .i64 0, .int .i64 0, .int .i64 0, .int .i64 0, .int .i64 0, .int .i64 0, .int .i64 0, .int .i64 0] 29)).alloc (.cells #[.int .i64 0, .int .i64 0, .int .i64 0, .int .i64 0, .int .i64 0, .int .i64 0, .int .i64 0, .int .i64 0, .int .i64 0, .int .i64 0] 29)) [1, 3, 3, 2] (by decide) (by simp) (B := w.heap.size + 1 + 1) (by simp) rfl
  replace R := R.later hb
  replace X := X.later hb
  replace N := N.later hb
  replace hB := below_step hB hb
  clear hb
  go_enter Tryd.func25, Tryd.ntmps25
  go_wp2_with fail
  refine (rgetAll4 _ R R1 hl).mono ?_
  rintro e w3 ⟨a3, k3, rfl, R3, hb⟩
  clear R1
  replace R := R.later hb
  replace X := X.later hb
  replace N := N.later hb
  replace hB := below_step hB hb
  clear hb
  rw [HL.out] at R3
  rw [HL.out, hK, hE]
  clear hE hK
  obtain ⟨b3, o3, rfl, lt3, hc⟩ := reads_at R3 (by simp)
  have y0 := hc 0 m0 rfl
  have y1 := hc 1 m1 rfl
  have y2 := hc 2 m2 rfl
  have y3 := hc 3 m3 rfl
  rw [Nat.add_zero] at y0
  have S00 : Below w3.heap.size w3 w3 ∧ b3 < w3.heap.size ∧ w3.cell? ⟨b3, o3, none⟩ = some (.int .i64 m0) ∧ w3.cell? ⟨b3, o3 + 1, none⟩ = some (.int .i64 m1) ∧ w3.cell? ⟨b3, o3 + 2, none⟩ = some (.int .i64 m2) ∧ w3.cell? ⟨b3, o3 + 3, none⟩ = some (.int .i64 m3) := ⟨Below.refl _ _, lt3, y0, y1, y2, y3⟩
  have S0 : Below w3.heap.size w3 w3.drew ∧ b3 < w3.drew.heap.size ∧ w3.drew.cell? ⟨b3, o3, none⟩ = some (.int .i64 m0) ∧ w3.drew.cell? ⟨b3, o3 + 1, none⟩ = some (.int .i64 m1) ∧ w3.drew.cell? ⟨b3, o3 + 2, none⟩ = some (.int .i64 m2) ∧ w3.drew.cell? ⟨b3, o3 + 3, none⟩ = some (.int .i64 m3) := keptM S00 (Below.refl _ _).drew
  clear hc R3 y0 y1 y2 y3
  go_wp2_with fail
  go_region_held3 (fun w' => Below w3.heap.size w3 w' ∧ b3 < w'.heap.size ∧ w'.cell? ⟨b3, o3, none⟩ = some (.int .i64 m0) ∧ w'.cell? ⟨b3, o3 + 1, none⟩ = some (.int .i64 m1) ∧ w'.cell? ⟨b3, o3 + 2, none⟩ = some (.int .i64 m2) ∧ w'.cell? ⟨b3, o3 + 3, none⟩ = some (.int .i64 m3))
    (first | assumption | exact keptM S00 (below_new _ _).drew | exact keptM S00 (below_new _ _))
    (first | fail)
  have hb : Below w3.heap.size w3 (w3.alloc (.cells #[.int .i64 m0, .int .i64 m1, .int .i64 m2, .int .i64 m3, .int .i64 0, .int .i64 0, .int .i64 0, .int .i64 0, .int .i64 0, .int .i64 0] 29)).drew := (below_new w3 _).drew
  have Y : Lies (w3.alloc (.cells #[.int .i64 m0, .int .i64 m1, .int .i64 m2, .int .i64 m3, .int .i64 0, .int .i64 0, .int .i64 0, .int .i64 0, .int .i64 0, .int .i64 0] 29)).drew w3.heap.size [m0, m1, m2, m3, 0, 0, 0, 0, 0, 0] := (Lies.new w3 [m0, m1, m2, m3, 0, 0, 0, 0, 0, 0] 29 rfl).later (Below.refl _ _).drew
  have hne : w3.heap.size ≠ w.heap.size := by have := X.lt; omega
  have hne1 : w3.heap.size ≠ w.heap.size + 1 := by have := N.lt; omega
  have hw3 := hB.size
  have hB0 := below_step hB (below_new w3 (.cells #[.int .i64 m0, .int .i64 m1, .int .i64 m2, .int .i64 m3, .int .i64 0, .int .i64 0, .int .i64 0, .int .i64 0, .int .i64 0, .int .i64 0] 29))
  have X0 := X.later (below_new w3 (.cells #[.int .i64 m0, .int .i64 m1, .int .i64 m2, .int .i64 m3, .int .i64 0, .int .i64 0, .int .i64 0, .int .i64 0, .int .i64 0, .int .i64 0] 29))
  have N0 := N.later (below_new w3 (.cells #[.int .i64 m0, .int .i64 m1, .int .i64 m2, .int .i64 m3, .int .i64 0, .int .i64 0, .int .i64 0, .int .i64 0, .int .i64 0, .int .i64 0] 29))
  replace R := R.later hb
  replace X := X.later hb
  replace N := N.later hb
  replace hB := below_step hB hb
  clear hb S00 S0
  obtain ⟨u0, u1, u2, u3, u4, u5, u6, u7, u8, u9⟩ := Y.ten
  have hc9 : ¬ c = 9 := by omega
  have RD := R.drop 9 HE.out
  rw [if_neg hc9] at RD
  have hj : (9 : Int) ≤ (b.length : Int) := by have := HE.out; omega
  have hj18 : (18 : Int) ≤ (b.length : Int) := by omega
  have hj18' : (b.length : Int) ≤ 18 := by omega
  have hdl : (b.drop 9).length = b.length - 9 := by simp
  have hjc : (9 : Int) ≤ (c : Int) := by omega
  go_wp2_with fail
  refine (rrGet_none _ RD hdl (by omega) HK.out hz).mono ?_
  rintro e w5 ⟨rfl, hb⟩
  clear hdl RD
  clear u0 u1 u2 u3 u4 u5 u6 u7 u8 u9
  replace X := X.later hb
  replace N := N.later hb
  replace Y := Y.later hb
  replace hB := below_step hB hb
  clear hb
  have hv := below_new w5 (.cells #[.int .i64 0, .int .i64 0, .int .i64 0, .int .i64 0, .int .i64 0, .int .i64 0] 27)
  have V := Lies.new w5 [0, 0, 0, 0, 0, 0] 27 (B := w5.heap.size) rfl
  obtain ⟨v0, v1, v2, v3, v4, v5⟩ := V.six
  replace X := X.later hv
  replace N := N.later hv
  replace Y := Y.later hv
  replace hB := below_step hB hv
  clear hv
  obtain ⟨u0, u1, u2, u3, u4, u5, u6, u7, u8, u9⟩ := Y.ten
  obtain ⟨xx0, xx1, xx2, xx3, xx4, xx5, xx6, xx7, xx8, xx9⟩ := X.ten
  obtain ⟨kk0, kk1, kk2, kk3, kk4, kk5, kk6, kk7, kk8, kk9⟩ := N.ten
  have xl := X.lt
  have xf := X.fz
  go_wp2_with fail
  refine bodyPost_ret (v := .tuple #[.agg #[.int .i64 0, .int .i64 0, .int .i64 0, .int .i64 0, .int .i64 0, .int .i64 0, .int .i64 0, .int .i64 0, .int .i64 0, .int .i64 0], .int .i64 2]) (by simp [results, Tryd.results25, go_sem, xx0, xx1, xx2, xx3, xx4, xx5, xx6, xx7, xx8, xx9]) rfl ?_
  exact ⟨rfl, (below_lay10 _ _ _ _ _ _ _ _ _ _ hB (Nat.le_refl _))⟩
set_option maxHeartbeats 2000000 in
theorem rmGet_add_no (w : World) {a : Option Addr} {c : Nat} {b : List Int} (R : Reads .u8 w a c b) (hl : b.length ≤ 100000) {m0 m1 m2 m3 : Int} (HE : Hid (9 ≤ b.length)) (HL : Hid (O.gallL b [1, 3, 3, 2] = [m0, m1, m2, m3])) (hq : m0 = 2) {x0 x1 x2 x3 x4 x5 : Int} (HK : Hid (rgE (b.drop 9) = 0)) (HX : Hid (x0 = n0 (b.drop 9) ∧ x1 = n1 (b.drop 9) ∧ x2 = n2 (b.drop 9) - 1 ∧ x3 = n3 (b.drop 9) ∧ x4 = n4 (b.drop 9) ∧ x5 = n5 (b.drop 9))) (hn : b.length ≤ 18) (hn2 : 18 ≤ b.length) (hk : okM m0 m1 m2 m3 x0 x1 x2 x3 x4 x5 = false) :
    Calls Tryd.prog 25 #[.slice a b.length c] w fun e w' => e = .returned (.tuple #[.agg #[.int .i64 0, .int .i64 0, .int .i64 0, .int .i64 0, .int .i64 0, .int .i64 0, .int .i64 0, .int .i64 0, .int .i64 0, .int .i64 0], .int .i64 2]) ∧ Below w.heap.size w w' := by
  have hq2 : (m0 == 2) = true := by simpa using hq
  clear hq
  have cm := fun w => rmMay_any m0 m1 m2 m3 x0 x1 x2 x3 x4 x5 w
  rw [hk] at cm
  have hle := R.le
  obtain ⟨hE, _, hK⟩ := all4 HE.out
  have X := Lies.new w [0, 0, 0, 0, 0, 0, 0, 0, 0, 0] 29 rfl
  have hB := below_new w (.cells #[.int .i64 0, .int .i64 0, .int .i64 0, .int .i64 0, .int .i64 0, .int .i64 0, .int .i64 0, .int .i64 0, .int .i64 0, .int .i64 0] 29)
  have hmx := Nat.le_trans R.le R.max
  unfold maxLen at hmx
  replace R := R.later hB
  have hb := below_new (w.alloc (.cells #[.int .i64 0, .int .i64 0, .int .i64 0, .int .i64 0, .int .i64 0, .int .i64 0, .int .i64 0, .int .i64 0, .int .i64 0, .int .i64 0] 29)) (.cells #[.int .i64 0, .int .i64 0, .int .i64 0, .int .i64 0, .int .i64 0, .int .i64 0, .int .i64 0, .int .i64 0, .int .i64 0, .int .i64 0] 29)
  have N := Lies.new (w.alloc (.cells #[.int .i64 0, .int .i64 0, .int .i64 0, .int .i64 0, .int .i64 0, .int .i64 0, .int .i64 0, .int .i64 0, .int .i64 0, .int .i64 0] 29)) [0, 0, 0, 0, 0, 0, 0, 0, 0, 0] 29 (B := w.heap.size + 1) (by simp)
  replace R := R.later hb
  replace X := X.later hb
  replace hB := below_step hB hb
  clear hb
  have hb := below_new ((w.alloc (.cells #[.int .i64 0, .int .i64 0, .int .i64 0, .int .i64 0, .int .i64 0, .int .i64 0, .int .i64 0, .int .i64 0, .int .i64 0, .int .i64 0] 29)).alloc (.cells #[.int .i64 0, .int .i64 0, .int .i64 0, .int .i64 0, .int .i64 0, .int .i64 0, .int .i64 0, .int .i64 0, .int .i64 0, .int .i64 0] 29)) (.cells #[.int .i64 1, .int .i64 3, .int .i64 3, .int .i64 2] 3)
  have R1 := reads_new64 ((w.alloc (.cells #[.int .i64 0, .int .i64 0, .int .i64 0, .int .i64 0, .int .i64 0, .int .i64 0, .int .i64 0, .int .i64 0, .int .i64 0, .int .i64 0] 29)).alloc (.cells #[.int .i64 0, .int .i64 0, .int .i64 0, .int .i64 0, .int .i64 0, .int .i64 0, .int .i64 0, .int .i64 0, .int .i64 0, .int .i64 0] 29)) [1, 3, 3, 2] (by decide) (by simp) (B := w.heap.size + 1 + 1) (by simp) rfl
  replace R := R.later hb
  replace X := X.later hb
  replace N := N.later hb
  replace hB := below_step hB hb
  clear hb
  go_enter Tryd.func25, Tryd.ntmps25
  go_wp2_with fail
  refine (rgetAll4 _ R R1 hl).mono ?_
  rintro e w3 ⟨a3, k3, rfl, R3, hb⟩
  clear R1
  replace R := R.later hb
  replace X := X.later hb
  replace N := N.later hb
  replace hB := below_step hB hb
  clear hb
  rw [HL.out] at R3
  rw [HL.out, hK, hE]
  clear hE hK
  obtain ⟨b3, o3, rfl, lt3, hc⟩ := reads_at R3 (by simp)
  have y0 := hc 0 m0 rfl
  have y1 := hc 1 m1 rfl
  have y2 := hc 2 m2 rfl
  have y3 := hc 3 m3 rfl
  rw [Nat.add_zero] at y0
  have S00 : Below w3.heap.size w3 w3 ∧ b3 < w3.heap.size ∧ w3.cell? ⟨b3, o3, none⟩ = some (.int .i64 m0) ∧ w3.cell? ⟨b3, o3 + 1, none⟩ = some (.int .i64 m1) ∧ w3.cell? ⟨b3, o3 + 2, none⟩ = some (.int .i64 m2) ∧ w3.cell? ⟨b3, o3 + 3, none⟩ = some (.int .i64 m3) := ⟨Below.refl _ _, lt3, y0, y1, y2, y3⟩
  have S0 : Below w3.heap.size w3 w3.drew ∧ b3 < w3.drew.heap.size ∧ w3.drew.cell? ⟨b3, o3, none⟩ = some (.int .i64 m0) ∧ w3.drew.cell? ⟨b3, o3 + 1, none⟩ = some (.int .i64 m1) ∧ w3.drew.cell? ⟨b3, o3 + 2, none⟩ = some (.int .i64 m2) ∧ w3.drew.cell? ⟨b3, o3 + 3, none⟩ = some (.int .i64 m3) := keptM S00 (Below.refl _ _).drew
  clear hc R3 y0 y1 y2 y3
  go_wp2_with fail
  go_region_held3 (fun w' => Below w3.heap.size w3 w' ∧ b3 < w'.heap.size ∧ w'.cell? ⟨b3, o3, none⟩ = some (.int .i64 m0) ∧ w'.cell? ⟨b3, o3 + 1, none⟩ = some (.int .i64 m1) ∧ w'.cell? ⟨b3, o3 + 2, none⟩ = some (.int .i64 m2) ∧ w'.cell? ⟨b3, o3 + 3, none⟩ = some (.int .i64 m3))
    (first | assumption | exact keptM S00 (below_new _ _).drew | exact keptM S00 (below_new _ _))
    (first | fail)
  have hb : Below w3.heap.size w3 (w3.alloc (.cells #[.int .i64 m0, .int .i64 m1, .int .i64 m2, .int .i64 m3, .int .i64 0, .int .i64 0, .int .i64 0, .int .i64 0, .int .i64 0, .int .i64 0] 29)).drew := (below_new w3 _).drew
  have Y : Lies (w3.alloc (.cells #[.int .i64 m0, .int .i64 m1, .int .i64 m2, .int .i64 m3, .int .i64 0, .int .i64 0, .int .i64 0, .int .i64 0, .int .i64 0, .int .i64 0] 29)).drew w3.heap.size [m0, m1, m2, m3, 0, 0, 0, 0, 0, 0] := (Lies.new w3 [m0, m1, m2, m3, 0, 0, 0, 0, 0, 0] 29 rfl).later (Below.refl _ _).drew
  have hne : w3.heap.size ≠ w.heap.size := by have := X.lt; omega
  have hne1 : w3.heap.size ≠ w.heap.size + 1 := by have := N.lt; omega
  have hw3 := hB.size
  have hB0 := below_step hB (below_new w3 (.cells #[.int .i64 m0, .int .i64 m1, .int .i64 m2, .int .i64 m3, .int .i64 0, .int .i64 0, .int .i64 0, .int .i64 0, .int .i64 0, .int .i64 0] 29))
  have X0 := X.later (below_new w3 (.cells #[.int .i64 m0, .int .i64 m1, .int .i64 m2, .int .i64 m3, .int .i64 0, .int .i64 0, .int .i64 0, .int .i64 0, .int .i64 0, .int .i64 0] 29))
  have N0 := N.later (below_new w3 (.cells #[.int .i64 m0, .int .i64 m1, .int .i64 m2, .int .i64 m3, .int .i64 0, .int .i64 0, .int .i64 0, .int .i64 0, .int .i64 0, .int .i64 0] 29))
  replace R := R.later hb
  replace X := X.later hb
  replace N := N.later hb
  replace hB := below_step hB hb
  clear hb S00 S0
  obtain ⟨u0, u1, u2, u3, u4, u5, u6, u7, u8, u9⟩ := Y.ten
  have hc9 : ¬ c = 9 := by omega
  have RD := R.drop 9 HE.out
  rw [if_neg hc9] at RD
  have hj : (9 : Int) ≤ (b.length : Int) := by have := HE.out; omega
  have hj18 : (18 : Int) ≤ (b.length : Int) := by omega
  have hj18' : (b.length : Int) ≤ 18 := by omega
  have hdl : (b.drop 9).length = b.length - 9 := by simp
  have hjc : (9 : Int) ≤ (c : Int) := by omega
  go_wp2_with fail
  refine (rrGet_some _ RD hdl (by omega) HK.out HX.out).mono ?_
  rintro e w5 ⟨rfl, hb⟩
  clear hdl RD
  clear u0 u1 u2 u3 u4 u5 u6 u7 u8 u9
  replace X := X.later hb
  replace N := N.later hb
  replace Y := Y.later hb
  replace hB := below_step hB hb
  clear hb
  have hv := below_new w5 (.cells #[.int .i64 x0, .int .i64 x1, .int .i64 x2, .int .i64 x3, .int .i64 x4, .int .i64 x5] 27)
  have V := Lies.new w5 [x0, x1, x2, x3, x4, x5] 27 (B := w5.heap.size) rfl
  obtain ⟨v0, v1, v2, v3, v4, v5⟩ := V.six
  replace X := X.later hv
  replace N := N.later hv
  replace Y := Y.later hv
  replace hB := below_step hB hv
  clear hv
  obtain ⟨u0, u1, u2, u3, u4, u5, u6, u7, u8, u9⟩ := Y.ten
  have yl := Y.lt
  have yf := Y.fz
  have X5 := X.far6 hne (.int .i64 x0) (.int .i64 x1) (.int .i64 x2) (.int .i64 x3) (.int .i64 x4) (.int .i64 x5)
  have N5 := N.far6 hne1 (.int .i64 x0) (.int .i64 x1) (.int .i64 x2) (.int .i64 x3) (.int .i64 x4) (.int .i64 x5)
  have Y5 := Y.put6 x0 x1 x2 x3 x4 x5
  have hB5 := below_put6 (.int .i64 x0) (.int .i64 x1) (.int .i64 x2) (.int .i64 x3) (.int .i64 x4) (.int .i64 x5) hB hw3
  clear X N hB
  have X := X5
  have N := N5
  have hB := hB5
  clear X5 N5 hB5
  go_wp2_with fail
  refine (cm _).mono ?_
  rintro e w6 ⟨rfl, hb⟩
  clear Y
  have Y := Y5
  clear Y5 yl yf
  clear u0 u1 u2 u3 u4 u5 u6 u7 u8 u9
  replace X := X.later hb
  replace N := N.later hb
  replace Y := Y.later hb
  replace hB := below_step hB hb
  clear hb
  obtain ⟨u0, u1, u2, u3, u4, u5, u6, u7, u8, u9⟩ := Y.ten
  obtain ⟨xx0, xx1, xx2, xx3, xx4, xx5, xx6, xx7, xx8, xx9⟩ := X.ten
  obtain ⟨kk0, kk1, kk2, kk3, kk4, kk5, kk6, kk7, kk8, kk9⟩ := N.ten
  have xl := X.lt
  have xf := X.fz
  go_wp2_with fail
  refine bodyPost_ret (v := .tuple #[.agg #[.int .i64 0, .int .i64 0, .int .i64 0, .int .i64 0, .int .i64 0, .int .i64 0, .int .i64 0, .int .i64 0, .int .i64 0, .int .i64 0], .int .i64 2]) (by simp [results, Tryd.results25, go_sem, xx0, xx1, xx2, xx3, xx4, xx5, xx6, xx7, xx8, xx9]) rfl ?_
  exact ⟨rfl, (below_lay10 _ _ _ _ _ _ _ _ _ _ hB (Nat.le_refl _))⟩
set_option maxHeartbeats 2000000 in
theorem rmGet_add_yes (w : World) {a : Option Addr} {c : Nat} {b : List Int} (R : Reads .u8 w a c b) (hl : b.length ≤ 100000) {m0 m1 m2 m3 : Int} (HE : Hid (9 ≤ b.length)) (HL : Hid (O.gallL b [1, 3, 3, 2] = [m0, m1, m2, m3])) (hq : m0 = 2) {x0 x1 x2 x3 x4 x5 : Int} (HK : Hid (rgE (b.drop 9) = 0)) (HX : Hid (x0 = n0 (b.drop 9) ∧ x1 = n1 (b.drop 9) ∧ x2 = n2 (b.drop 9) - 1 ∧ x3 = n3 (b.drop 9) ∧ x4 = n4 (b.drop 9) ∧ x5 = n5 (b.drop 9))) (hn : b.length ≤ 18) (hn2 : 18 ≤ b.length) (hk : okM m0 m1 m2 m3 x0 x1 x2 x3 x4 x5 = true) :
    Calls Tryd.prog 25 #[.slice a b.length c] w fun e w' => e = .returned (.tuple #[.agg #[.int .i64 m0, .int .i64 m1, .int .i64 m2, .int .i64 m3, .int .i64 x0, .int .i64 x1, .int .i64 x2, .int .i64 x3, .int .i64 x4, .int .i64 x5], .int .i64 0]) ∧ Below w.heap.size w w' := by
  have hq2 : (m0 == 2) = true := by simpa using hq
  clear hq
  have cm := fun w => rmMay_any m0 m1 m2 m3 x0 x1 x2 x3 x4 x5 w
  rw [hk] at cm
  have hle := R.le
  obtain ⟨hE, _, hK⟩ := all4 HE.out
  have X := Lies.new w [0, 0, 0, 0, 0, 0, 0, 0, 0, 0] 29 rfl
  have hB := below_new w (.cells #[.int .i64 0, .int .i64 0, .int .i64 0, .int .i64 0, .int .i64 0, .int .i64 0, .int .i64 0, .int .i64 0, .int .i64 0, .int .i64 0] 29)
  have hmx := Nat.le_trans R.le R.max
  unfold maxLen at hmx
  replace R := R.later hB
  have hb := below_new (w.alloc (.cells #[.int .i64 0, .int .i64 0, .int .i64 0, .int .i64 0, .int .i64 0, .int .i64 0, .int .i64 0, .int .i64 0, .int .i64 0, .int .i64 0] 29)) (.cells #[.int .i64 0, .int .i64 0, .int .i64 0, .int .i64 0, .int .i64 0, .int .i64 0, .int .i64 0, .int .i64 0, .int .i64 0, .int .i64 0] 29)
  have N := Lies.new (w.alloc (.cells #[.int .i64 0, .int .i64 0, .int .i64 0, .int .i64 0, .int .i64 0, .int .i64 0, .int .i64 0, .int .i64 0, .int .i64 0, .int .i64 0] 29)) [0, 0, 0, 0, 0, 0, 0, 0, 0, 0] 29 (B := w.heap.size + 1) (by simp)
  replace R := R.later hb
  replace X := X.later hb
  replace hB := below_step hB hb
  clear hb
  have hb := below_new ((w.alloc (.cells #[.int .i64 0, .int .i64 0, .int .i64 0, .int .i64 0, .int .i64 0, .int .i64 0, .int .i64 0, .int .i64 0, .int .i64 0, .int .i64 0] 29)).alloc (.cells #[.int .i64 0, .int .i64 0, .int .i64 0, .int .i64 0, .int .i64 0, .int .i64 0, .int .i64 0, .int .i64 0, .int .i64 0, .int .i64 0] 29)) (.cells #[.int .i64 1, .int .i64 3, .int .i64 3, .int .i64 2] 3)
  have R1 := reads_new64 ((w.alloc (.cells #[.int .i64 0, .int .i64 0, .int .i64 0, .int .i64 0, .int .i64 0, .int .i64 0, .int .i64 0, .int .i64 0, .int .i64 0, .int .i64 0] 29)).alloc (.cells #[.int .i64 0, .int .i64 0, .int .i64 0, .int .i64 0, .int .i64 0, .int .i64 0, .int .i64 0, .int .i64 0, .int .i64 0, .int .i64 0] 29)) [1, 3, 3, 2] (by decide) (by simp) (B := w.heap.size + 1 + 1) (by simp) rfl
  replace R := R.later hb
  replace X := X.later hb
  replace N := N.later hb
  replace hB := below_step hB hb
  clear hb
  go_enter Tryd.func25, Tryd.ntmps25
  go_wp2_with fail
  refine (rgetAll4 _ R R1 hl).mono ?_
  rintro e w3 ⟨a3, k3, rfl, R3, hb⟩
  clear R1
  replace R := R.later hb
  replace X := X.later hb
  replace N := N.later hb
  replace hB := below_step hB hb
  clear hb
  rw [HL.out] at R3
  rw [HL.out, hK, hE]
  clear hE hK
  obtain ⟨b3, o3, rfl, lt3, hc⟩ := reads_at R3 (by simp)
  have y0 := hc 0 m0 rfl
  have y1 := hc 1 m1 rfl
  have y2 := hc 2 m2 rfl
  have y3 := hc 3 m3 rfl
  rw [Nat.add_zero] at y0
  have S00 : Below w3.heap.size w3 w3 ∧ b3 < w3.heap.size ∧ w3.cell? ⟨b3, o3, none⟩ = some (.int .i64 m0) ∧ w3.cell? ⟨b3, o3 + 1, none⟩ = some (.int .i64 m1) ∧ w3.cell? ⟨b3, o3 + 2, none⟩ = some (.int .i64 m2) ∧ w3.cell? ⟨b3, o3 + 3, none⟩ = some (.int .i64 m3) := ⟨Below.refl _ _, lt3, y0, y1, y2, y3⟩
  have S0 : Below w3.heap.size w3 w3.drew ∧ b3 < w3.drew.heap.size ∧ w3.drew.cell? ⟨b3, o3, none⟩ = some (.int .i64 m0) ∧ w3.drew.cell? ⟨b3, o3 + 1, none⟩ = some (.int .i64 m1) ∧ w3.drew.cell? ⟨b3, o3 + 2, none⟩ = some (.int .i64 m2) ∧ w3.drew.cell? ⟨b3, o3 + 3, none⟩ = some (.int .i64 m3) := keptM S00 (Below.refl _ _).drew
  clear hc R3 y0 y1 y2 y3
  go_wp2_with fail
  go_region_held3 (fun w' => Below w3.heap.size w3 w' ∧ b3 < w'.heap.size ∧ w'.cell? ⟨b3, o3, none⟩ = some (.int .i64 m0) ∧ w'.cell? ⟨b3, o3 + 1, none⟩ = some (.int .i64 m1) ∧ w'.cell? ⟨b3, o3 + 2, none⟩ = some (.int .i64 m2) ∧ w'.cell? ⟨b3, o3 + 3, none⟩ = some (.int .i64 m3))
    (first | assumption | exact keptM S00 (below_new _ _).drew | exact keptM S00 (below_new _ _))
    (first | fail)
  have hb : Below w3.heap.size w3 (w3.alloc (.cells #[.int .i64 m0, .int .i64 m1, .int .i64 m2, .int .i64 m3, .int .i64 0, .int .i64 0, .int .i64 0, .int .i64 0, .int .i64 0, .int .i64 0] 29)).drew := (below_new w3 _).drew
  have Y : Lies (w3.alloc (.cells #[.int .i64 m0, .int .i64 m1, .int .i64 m2, .int .i64 m3, .int .i64 0, .int .i64 0, .int .i64 0, .int .i64 0, .int .i64 0, .int .i64 0] 29)).drew w3.heap.size [m0, m1, m2, m3, 0, 0, 0, 0, 0, 0] := (Lies.new w3 [m0, m1, m2, m3, 0, 0, 0, 0, 0, 0] 29 rfl).later (Below.refl _ _).drew
  have hne : w3.heap.size ≠ w.heap.size := by have := X.lt; omega
  have hne1 : w3.heap.size ≠ w.heap.size + 1 := by have := N.lt; omega
  have hw3 := hB.size
  have hB0 := below_step hB (below_new w3 (.cells #[.int .i64 m0, .int .i64 m1, .int .i64 m2, .int .i64 m3, .int .i64 0, .int .i64 0, .int .i64 0, .int .i64 0, .int .i64 0, .int .i64 0] 29))
  have X0 := X.later (below_new w3 (.cells #[.int .i64 m0, .int .i64 m1, .int .i64 m2, .int .i64 m3, .int .i64 0, .int .i64 0, .int .i64 0, .int .i64 0, .int .i64 0, .int .i64 0] 29))
  have N0 := N.later (below_new w3 (.cells #[.int .i64 m0, .int .i64 m1, .int .i64 m2, .int .i64 m3, .int .i64 0, .int .i64 0, .int .i64 0, .int .i64 0, .int .i64 0, .int .i64 0] 29))
  replace R := R.later hb
  replace X := X.later hb
  replace N := N.later hb
  replace hB := below_step hB hb
  clear hb S00 S0
  obtain ⟨u0, u1, u2, u3, u4, u5, u6, u7, u8, u9⟩ := Y.ten
  have hc9 : ¬ c = 9 := by omega
  have RD := R.drop 9 HE.out
  rw [if_neg hc9] at RD
  have hj : (9 : Int) ≤ (b.length : Int) := by have := HE.out; omega
  have hj18 : (18 : Int) ≤ (b.length : Int) := by omega
  have hj18' : (b.length : Int) ≤ 18 := by omega
  have hdl : (b.drop 9).length = b.length - 9 := by simp
  have hjc : (9 : Int) ≤ (c : Int) := by omega
  go_wp2_with fail
  refine (rrGet_some _ RD hdl (by omega) HK.out HX.out).mono ?_
  rintro e w5 ⟨rfl, hb⟩
  clear hdl RD
  clear u0 u1 u2 u3 u4 u5 u6 u7 u8 u9
  replace X := X.later hb
  replace N := N.later hb
  replace Y := Y.later hb
  replace hB := below_step hB hb
  clear hb
  have hv := below_new w5 (.cells #[.int .i64 x0, .int .i64 x1, .int .i64 x2, .int .i64 x3, .int .i64 x4, .int .i64 x5] 27)
  have V := Lies.new w5 [x0, x1, x2, x3, x4, x5] 27 (B := w5.heap.size) rfl
  obtain ⟨v0, v1, v2, v3, v4, v5⟩ := V.six
  replace X := X.later hv
  replace N := N.later hv
  replace Y := Y.later hv
  replace hB := below_step hB hv
  clear hv
  obtain ⟨u0, u1, u2, u3, u4, u5, u6, u7, u8, u9⟩ := Y.ten
  have yl := Y.lt
  have yf := Y.fz
  have X5 := X.far6 hne (.int .i64 x0) (.int .i64 x1) (.int .i64 x2) (.int .i64 x3) (.int .i64 x4) (.int .i64 x5)
  have N5 := N.far6 hne1 (.int .i64 x0) (.int .i64 x1) (.int .i64 x2) (.int .i64 x3) (.int .i64 x4) (.int .i64 x5)
  have Y5 := Y.put6 x0 x1 x2 x3 x4 x5
  have hB5 := below_put6 (.int .i64 x0) (.int .i64 x1) (.int .i64 x2) (.int .i64 x3) (.int .i64 x4) (.int .i64 x5) hB hw3
  clear X N hB
  have X := X5
  have N := N5
  have hB := hB5
  clear X5 N5 hB5
  go_wp2_with fail
  refine (cm _).mono ?_
  rintro e w6 ⟨rfl, hb⟩
  clear Y
  have Y := Y5
  clear Y5 yl yf
  clear u0 u1 u2 u3 u4 u5 u6 u7 u8 u9
  replace X := X.later hb
  replace N := N.later hb
  replace Y := Y.later hb
  replace hB := below_step hB hb
  clear hb
  obtain ⟨u0, u1, u2, u3, u4, u5, u6, u7, u8, u9⟩ := Y.ten
  obtain ⟨xx0, xx1, xx2, xx3, xx4, xx5, xx6, xx7, xx8, xx9⟩ := X.ten
  obtain ⟨kk0, kk1, kk2, kk3, kk4, kk5, kk6, kk7, kk8, kk9⟩ := N.ten
  have xl := X.lt
  have xf := X.fz
  go_wp2_with fail
  refine bodyPost_ret (v := .tuple #[.agg #[.int .i64 m0, .int .i64 m1, .int .i64 m2, .int .i64 m3, .int .i64 x0, .int .i64 x1, .int .i64 x2, .int .i64 x3, .int .i64 x4, .int .i64 x5], .int .i64 0]) (by simp [results, Tryd.results25, go_sem, xx0, xx1, xx2, xx3, xx4, xx5, xx6, xx7, xx8, xx9]) rfl ?_
  exact ⟨rfl, (below_lay10 _ _ _ _ _ _ _ _ _ _ hB (Nat.le_refl _))⟩
/-- Get, of bytes that are no message -/
theorem rmGet_none (w : World) {a : Option Addr} {c : Nat} {b : List Int} {zz : Int} (R : Reads .u8 w a c b) (hl : b.length ≤ 100000) (h : mgE b = zz) (h0 : zz ≠ 0) :
    Calls Tryd.prog 25 #[.slice a b.length c] w fun e w' => e = .returned (.tuple #[.agg #[.int .i64 0, .int .i64 0, .int .i64 0, .int .i64 0, .int .i64 0, .int .i64 0, .int .i64 0, .int .i64 0, .int .i64 0, .int .i64 0], .int .i64 zz]) ∧ Below w.heap.size w w' := by
  by_cases hs : b.length < 9
  · rw [mgE_short hs] at h
    subst h
    exact rmGet_short w R hl hs
  have he : 9 ≤ b.length := by omega
  have hL := (all4 he).2.1
  by_cases hq : q0 b = 2
  · have l18 : lenG b = 18 := lenM_two hq
    by_cases h18 : b.length < 18
    · rw [mgE_more (by omega)] at h
      subst h
      exact rmGet_add_more w R hl he hL hq h18
    by_cases h19 : 18 < b.length
    · rw [mgE_long (by omega)] at h
      subst h
      exact rmGet_add_long w R hl he hL hq h19
    have hd : 9 ≤ (b.drop 9).length := by rw [List.length_drop]; omega
    cases hm : okG b
    · rw [mgE_form (by omega) hm] at h
      subst h
      cases hk : okGot (b.drop 9)
      · exact rmGet_add_form w R hl he hL hq (by omega) (by omega) (rgE_form hd hk) (by decide)
      · refine rmGet_add_no w R hl he hL hq (rgE_ok hd hk) ⟨rfl, rfl, rfl, rfl, rfl, rfl⟩ (by omega) (by omega) ?_
        obtain ⟨e0, e1, e2, e3, e4, e5⟩ := r_two hq
        rw [← e0, ← e1, ← e2, ← e3, ← e4, ← e5]
        exact hm
    · exact absurd (h.symm.trans (mgE_ok (by omega) hm)) h0
  · have l9 : lenG b = 9 := lenM_not hq
    obtain ⟨e0, e1, e2, e3, e4, e5⟩ := r_not hq
    by_cases h10 : 9 < b.length
    · rw [mgE_long (by omega)] at h
      subst h
      exact rmGet_bare_long w R hl he hL hq h10
    · cases hm : okG b
      · rw [mgE_form (by omega) hm] at h
        subst h
        refine rmGet_bare_no w R hl he hL hq (by omega) ?_
        unfold okG at hm
        rw [e0, e1, e2, e3, e4, e5] at hm
        exact hm
      · exact absurd (h.symm.trans (mgE_ok (by omega) hm)) h0
/-- Get, of a message's bytes -/
theorem rmGet_some (w : World) {a : Option Addr} {c : Nat} {b : List Int} {y z v g a' n i p k t : Int} (R : Reads .u8 w a c b) (hl : b.length ≤ 100000) (h : mgE b = 0) (hm : isMsg b y z v g a' n i p k t) :
    Calls Tryd.prog 25 #[.slice a b.length c] w fun e w' => e = .returned (.tuple #[.agg #[.int .i64 y, .int .i64 z, .int .i64 v, .int .i64 g, .int .i64 a', .int .i64 n, .int .i64 i, .int .i64 p, .int .i64 k, .int .i64 t], .int .i64 0]) ∧ Below w.heap.size w w' := by
  obtain ⟨hlen, hk⟩ := mgE_zero h
  obtain ⟨rfl, rfl, rfl, rfl, rfl, rfl, rfl, rfl, rfl, rfl⟩ := hm
  have he : 9 ≤ b.length := by have := lenG_ge b; omega
  have hL := (all4 he).2.1
  by_cases hq : q0 b = 2
  · have l18 : lenG b = 18 := lenM_two hq
    have hd : 9 ≤ (b.drop 9).length := by rw [List.length_drop]; omega
    exact rmGet_add_yes w R hl he hL hq (rgE_ok hd (okG_rule hk hq)) (r_two hq) (by omega) (by omega) hk
  · have l9 : lenG b = 9 := lenM_not hq
    obtain ⟨e0, e1, e2, e3, e4, e5⟩ := r_not hq
    have hk' : okM (q0 b) (q1 b) (q2 b) (q3 b) 0 0 0 0 0 0 = true := by
      unfold okG at hk
      rwa [e0, e1, e2, e3, e4, e5] at hk
    rw [e0, e1, e2, e3, e4, e5]
    exact rmGet_bare_yes w R hl he hL hq (by omega) hk'
end Go.Proofs.YtklcchmpmilcaaaDoor
