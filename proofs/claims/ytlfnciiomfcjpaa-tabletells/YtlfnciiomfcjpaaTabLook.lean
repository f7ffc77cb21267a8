/- What the document's Look answers. -/
import Derived.Test.YtlfnciiomfcjpaaTabWith
namespace Go.Proofs.Ytlfnciiomfcjpaa
open Go.ChangeShapes Go.WideShapes Go.ChangeAt Go.RowKit Pk Tb R
set_option linter.unusedVariables false
set_option linter.unusedSimpArgs false

theorem below_lay2 {B b : Nat} {w0 w : World} (x0 x1 : Value) (hb : Below B w0 w) (hg : B ≤ b) : Below B w0 ((w.setCell ⟨b, 0, none⟩ x0).setCell ⟨b, 1, none⟩ x1) := (hb.setCell (p := ⟨b, 0, none⟩) hg _).setCell (p := ⟨b, 1, none⟩) hg _
theorem lookT_is (l : List Vr) (t x d : Int) : lookT l t x d = match ofT l t with
    | none => ((0, 0), 4)
    | some rs => if firstL x d rs = -1 then ((0, 0), 3) else
      (((rs.getD (firstL x d rs).toNat default).k, (rs.getD (firstL x d rs).toNat default).t), if (rs.getD (firstL x d rs).toNat default).k = 1 then 0 else 2) := rfl
section
variable {B : Nat} {a : Option Addr} {c : Nat} {l : List Vr}
set_option maxHeartbeats 2000000 in
theorem rlook_any (w : World) (V : Vers B w a c l) (hs : Sm l) (t x d : Int) :
    Calls Try.prog 23 #[.slice a l.length c, .int .i64 t, .int .i64 x, .int .i64 d] w fun e w' => e = .returned (.tuple #[.agg #[.int .i64 (lookT l t x d).1.1, .int .i64 (lookT l t x d).1.2], .int .i64 (lookT l t x d).2]) ∧ Below w.heap.size w w' := by
  have cO := fun u (hb : Below w.heap.size w u) => rof_any u (V.later hb) hs t
  have X := Lies.new w [0, 0] 26 rfl
  have hb0 := below_new w (.cells #[.int .i64 0, .int .i64 0] 26)
  have HL0 := lookT_is l t x d
  generalize lookT l t x d = r at HL0 ⊢
  have HL : Hid (r = _) := HL0
  clear HL0
  cases ho : ofT l t with
  | none =>
    rw [ho] at cO
    obtain rfl : r = ((0, 0), 4) := by rw [HL.out, ho]
    clear ho HL
    dsimp only [Option.getD_none, Option.isSome_none] at cO
    go_enter Try.func23, Try.ntmps23
    go_wp2_with fail
    refine (cO _ hb0).mono ?_
    clear cO
    rintro e w1 ⟨x1, k1, rfl, ⟨R1, -⟩, hb1⟩
    have X1 := X.later hb1
    have hbA := below_step hb0 hb1
    clear X hb0 hb1
    clear R1
    have xl := X1.lt
    have xf := X1.fz
    obtain ⟨x0, x1⟩ := X1.two
    go_wp2_with fail
    refine bodyPost_ret (v := .tuple #[.agg #[.int .i64 0, .int .i64 0], .int .i64 4]) (by simp [results, Try.results23, go_sem, x0, x1]) rfl ?_
    exact ⟨rfl, below_lay2 _ _ hbA (Nat.le_refl _)⟩
  | some rs =>
    have hm : rs.length ≤ 100 := by
      have h := of_where l t
      rw [ho] at h
      obtain ⟨i, hi, e⟩ := Option.map_eq_some_iff.1 h.symm
      rw [← e]
      exact hs.2 _ (mem_getD (where_lt hi).1)
    rw [ho] at cO
    dsimp only [Option.getD_some, Option.isSome_some] at cO
    rcases firstL_is x d rs with ⟨f1, -⟩ | ⟨q, hq, f1, -, -⟩
    · obtain rfl : r = ((0, 0), 3) := by rw [HL.out, ho]; dsimp only; rw [if_pos f1]
      clear ho HL
      go_enter Try.func23, Try.ntmps23
      go_wp2_with fail
      refine (cO _ hb0).mono ?_
      clear cO
      rintro e w1 ⟨x1, k1, rfl, ⟨R1, -⟩, hb1⟩
      have X1 := X.later hb1
      have hbA := below_step hb0 hb1
      clear X hb0 hb1
      have cF := rfirst8_any w1 R1 x d
      rw [f1] at cF
      clear f1
      go_wp2_with fail
      refine cF.mono ?_
      clear cF
      rintro e w2 ⟨rfl, hb2⟩
      have X2 := X1.later hb2
      have hbB := below_step hbA hb2
      clear X1 R1 hbA hb2
      have xl := X2.lt
      have xf := X2.fz
      obtain ⟨x0, x1⟩ := X2.two
      go_wp2_with fail
      refine bodyPost_ret (v := .tuple #[.agg #[.int .i64 0, .int .i64 0], .int .i64 3]) (by simp [results, Try.results23, go_sem, x0, x1]) rfl ?_
      exact ⟨rfl, below_lay2 _ _ hbB (Nat.le_refl _)⟩
    · have gq := getD_at hq
      have hqz : (q : Int) < (rs.length : Int) := Int.ofNat_lt.2 hq
      have hq0 : decide ((q : Int) < 0) = false := decide_eq_false (by omega)
      have HR : Hid (r = (((rs.getD q default).k, (rs.getD q default).t), if (rs.getD q default).k = 1 then 0 else 2)) := by
        show _ = _
        rw [HL.out, ho]
        dsimp only
        rw [if_neg (by omega), f1, Int.toNat_natCast]
      clear HL ho hq
      generalize rs.getD q default = s at gq HR
      obtain ⟨sa, sn, si, sp, sk, st⟩ := s
      dsimp only at HR
      by_cases hk : sk = 1
      · subst hk
        obtain rfl : r = ((1, st), 0) := by rw [HR.out]; rfl
        clear HR
        go_enter Try.func23, Try.ntmps23
        go_wp2_with fail
        refine (cO _ hb0).mono ?_
        clear cO
        rintro e w1 ⟨x1, k1, rfl, ⟨R1, -⟩, hb1⟩
        have X1 := X.later hb1
        have hbA := below_step hb0 hb1
        clear X hb0 hb1
        have cF := rfirst8_any w1 R1 x d
        rw [f1] at cF
        clear f1
        go_wp2_with fail
        refine cF.mono ?_
        clear cF
        rintro e w2 ⟨rfl, hb2⟩
        have X2 := X1.later hb2
        have hbB := below_step hbA hb2
        obtain ⟨b, o, rfl, hbb, hc⟩ := (R1.later hb2).at gq
        have y4 := hc 4 _ rfl
        have y5 := hc 5 _ rfl
        clear X1 R1 hbA hb2 hc gq
        have xl := X2.lt
        have xf := X2.fz
        obtain ⟨x0, x1⟩ := X2.two
        go_wp2_with fail
        refine bodyPost_ret (v := .tuple #[.agg #[.int .i64 1, .int .i64 st], .int .i64 0]) (by simp [results, Try.results23, go_sem, x0, x1]) rfl ?_
        exact ⟨rfl, below_lay2 _ _ hbB (Nat.le_refl _)⟩
      · obtain rfl : r = ((sk, st), 2) := by rw [HR.out, if_neg hk]
        have hkb : (sk == 1) = false := by simpa using hk
        clear HR hk
        go_enter Try.func23, Try.ntmps23
        go_wp2_with fail
        refine (cO _ hb0).mono ?_
        clear cO
        rintro e w1 ⟨x1, k1, rfl, ⟨R1, -⟩, hb1⟩
        have X1 := X.later hb1
        have hbA := below_step hb0 hb1
        clear X hb0 hb1
        have cF := rfirst8_any w1 R1 x d
        rw [f1] at cF
        clear f1
        go_wp2_with fail
        refine cF.mono ?_
        clear cF
        rintro e w2 ⟨rfl, hb2⟩
        have X2 := X1.later hb2
        have hbB := below_step hbA hb2
        obtain ⟨b, o, rfl, hbb, hc⟩ := (R1.later hb2).at gq
        have y4 := hc 4 _ rfl
        have y5 := hc 5 _ rfl
        clear X1 R1 hbA hb2 hc gq
        have xl := X2.lt
        have xf := X2.fz
        obtain ⟨x0, x1⟩ := X2.two
        go_wp2_with fail
        refine bodyPost_ret (v := .tuple #[.agg #[.int .i64 sk, .int .i64 st], .int .i64 2]) (by simp [results, Try.results23, go_sem, x0, x1]) rfl ?_
        exact ⟨rfl, below_lay2 _ _ hbB (Nat.le_refl _)⟩
end
end Go.Proofs.Ytlfnciiomfcjpaa
