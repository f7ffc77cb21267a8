/- What the code's Drop and Look answer. -/
import Derived.Test.YtlfnciiomfcjpaaTabDel
import Derived.Test.YtlfnciiomfcjpaaTabIf
namespace Go.Proofs.Ytlfnciiomfcjpaa
open Go.ChangeShapes Go.WideShapes Go.ChangeAt Go.RowKit Pk Tb R
set_option linter.unusedVariables false
set_option linter.unusedSimpArgs false

set_option maxHeartbeats 1000000 in
theorem drop_any (w : World) {B : Nat} {a : Option Addr} {c : Nat} {l : List Vr} (V : Vers B w a c l) (hs : Sm l) (t : Int) :
    Calls Try.prog 15 #[.slice a l.length c, .int .i64 t] w fun e w' => ∃ (x : Option Addr) (k : Nat), e = .returned (.slice x (dropT l t).length k) ∧ Vers w.heap.size w' x k (dropT l t) ∧ Loose w' x (dropT l t) ∧ Below w.heap.size w w' := by
  have cC := copied_any w V hs
  have hl := hs.1
  have HD := drop_erase l t
  have HW : Hid (whereN l t = (whereT l t).getD l.length) := rfl
  cases hw : whereT l t with
  | none =>
    have e1 : whereN l t = l.length := by rw [HW.out, hw]; rfl
    rw [drop_none hw]
    have HE : Hid (whereN l t = l.length) := e1
    clear HD e1 hw HW
    go_enter Try.func15, Try.ntmps15
    go_wp2_with fail
    refine cC.mono ?_
    clear cC
    rintro e w1 ⟨u, rfl, M1, hb1⟩
    obtain ⟨a1, c1, rfl, V1, L1⟩ := M1.vers
    have cW := version_any w1 V1 (by omega) t
    rw [HE.out] at cW
    go_wp2_with fail
    refine cW.mono ?_
    clear cW
    rintro e w2 ⟨rfl, hb2⟩
    have V2 := V1.later hb2
    have L2 := L1.later V1 hb2
    go_wp2_with fail
    go_ret
    exact ⟨a1, c1, rfl, V2, L2, below_step hb1 hb2⟩
  | some i =>
    have e1 : whereN l t = i := by rw [HW.out, hw]; rfl
    obtain ⟨hi, -, -⟩ := where_lt hw
    rw [e1] at HD
    rw [HD]
    have hne : ((i : Int) == (l.length : Int)) = false := by simp; omega
    have hii : (i : Int) < 1000 := by omega
    have HI : Hid (i < l.length) := hi
    have HE : Hid (whereN l t = i) := e1
    clear HD e1 hw HW hi
    go_enter Try.func15, Try.ntmps15
    go_wp2_with fail
    refine cC.mono ?_
    clear cC
    rintro e w1 ⟨u, rfl, M1, hb1⟩
    obtain ⟨a1, c1, rfl, V1, L1⟩ := M1.vers
    have cW := version_any w1 V1 (by omega) t
    rw [HE.out] at cW
    clear V1 L1
    go_wp2_with fail
    refine cW.mono ?_
    clear cW
    rintro e w2 ⟨rfl, hb2⟩
    obtain ⟨ps, own, hall, hout, hpair⟩ := M1.later hb2
    obtain ⟨g, cap, e3⟩ : ∃ g cap, (Value.slice a1 l.length c1) = .slice (some ⟨g, 0, none⟩) l.length cap := by
      rcases own.2 with ⟨e2, h0⟩ | ⟨g, cap, cur, e2, -⟩
      · have := HI.out; omega
      · exact ⟨g, cap, e2⟩
    cases e3
    have hbB := below_step hb1 hb2
    have cD := delete_any w2 own (all2_len hall) HI.out (by omega) (j := i + 1) rfl
    have hn : (l.eraseIdx i).length = l.length - 1 := List.length_eraseIdx_of_lt HI.out
    have HM : Hid (∀ w3, w2.grownBy w3 (some g) → w3.ownsRow w.heap.size 47 2 (.slice (some ⟨g, 0, none⟩) (l.length - 1) c1) (l.length - 1) (flatW fV (ps.eraseIdx i)) → Mine w.heap.size w3 (.slice (some ⟨g, 0, none⟩) (l.length - 1) c1) (l.eraseIdx i)) :=
      fun w3 hg o3 => mine_del hall (fun p hp k hk e => hout p hp k hk (by rw [← e]; rfl)) hpair hg hn o3
    have hgB := (own.lt g rfl).1
    have hbC : ∀ w3, w2.grownBy w3 (some g) → Below w.heap.size w w3 := fun w3 hg => hbB.grown hg hbB.size (fun k hk => by cases hk; exact hgB)
    have HN : Hid ((l.eraseIdx i).length = l.length - 1) := hn
    rw [Int.natCast_add] at cD
    clear own hall hout hpair M1 hb1 hb2 hn
    go_wp2_with fail
    refine cD.mono ?_
    clear cD
    rintro e w3 ⟨rfl, o3, hg3⟩
    have M3 := HM.out w3 hg3 o3
    have hb3 := hbC w3 hg3
    obtain ⟨a3, c3, e3, V3, L3⟩ := M3.vers
    rw [HN.out] at e3
    cases e3
    clear HM hbC M3 hg3 o3
    go_wp2_with fail
    go_ret
    exact ⟨_, _, by rw [HN.out]; rfl, V3, L3, hb3⟩
set_option maxHeartbeats 2000000 in
theorem look_any (w : World) {B : Nat} {a : Option Addr} {c : Nat} {l : List Vr} (V : Vers B w a c l) (hs : Sm l) (t x d : Int) :
    Calls Try.prog 22 #[.slice a l.length c, .int .i64 t, .int .i64 x, .int .i64 d] w fun e w' => e = .returned (.tuple #[.agg #[.int .i64 (lookT l t x d).1.1, .int .i64 (lookT l t x d).1.2], .int .i64 (lookT l t x d).2]) ∧ Below w.heap.size w w' := by
  have X := Lies.new w [0, 0] 26 rfl
  have hb0 := below_new w (.cells #[.int .i64 0, .int .i64 0] 26)
  have cW := version_any (w.alloc (.cells #[.int .i64 0, .int .i64 0] 26)) (V.later hb0) (Nat.le_trans hs.1 (by decide)) t
  have HL0 := lookT_is l t x d
  generalize lookT l t x d = r at HL0 ⊢
  have HL : Hid (r = _) := HL0
  clear HL0
  unfold whereN at cW
  have ho0 := of_where l t
  cases hw : whereT l t with
  | none =>
    rw [hw, Option.getD_none] at cW
    rw [hw, Option.map_none] at ho0
    obtain rfl : r = ((0, 0), 4) := by rw [HL.out, ho0]
    clear ho0 HL hw
    go_enter Try.func22, Try.ntmps22
    go_wp2_with fail
    refine cW.mono ?_
    clear cW
    rintro e w1 ⟨rfl, hb1⟩
    have X1 := X.later hb1
    have hbA := below_step hb0 hb1
    clear X hb0 hb1
    go_wp2_with fail
    refine (rules_none w1 a l.length c).mono ?_
    rintro e w2 ⟨rfl, rfl⟩
    have xl := X1.lt
    have xf := X1.fz
    obtain ⟨x0, x1⟩ := X1.two
    go_wp2_with fail
    refine bodyPost_ret (v := .tuple #[.agg #[.int .i64 0, .int .i64 0], .int .i64 4]) (by simp [results, Try.results22, go_sem, x0, x1]) rfl ?_
    exact ⟨rfl, below_lay2 _ _ hbA (Nat.le_refl _)⟩
  | some i =>
    rw [hw, Option.getD_some] at cW
    rw [hw, Option.map_some] at ho0
    obtain ⟨hi, -, -⟩ := where_lt hw
    have gk := getD_atV hi
    have hv := hs.2 _ (List.mem_of_getElem? gk)
    have hl := hs.1
    generalize l.getD i default = v at gk hv ho0
    obtain ⟨b, o, y, k, rfl, hbb, c0, c1, R, hlo⟩ := V.at gk
    have hbb0 := Nat.lt_of_lt_of_le hbb hb0.size
    have d1 := (hb0.cell (p := ⟨b, o + i * 2 + 1, none⟩) hbb).trans c1
    have R0 := R.later hb0
    have HI : Hid (i < l.length) := hi
    clear hw c0 c1 hlo gk hi V R
    rcases firstL_is x d v.l with ⟨f1, -⟩ | ⟨q, hq, f1, -, -⟩
    · obtain rfl : r = ((0, 0), 3) := by rw [HL.out, ho0]; dsimp only; rw [if_pos f1]
      clear ho0 HL
      go_enter Try.func22, Try.ntmps22
      go_wp2_with fail
      refine cW.mono ?_
      clear cW
      rintro e w1 ⟨rfl, hb1⟩
      have X1 := X.later hb1
      have R1 := R0.later hb1
      have e1 := (hb1.cell (p := ⟨b, o + i * 2 + 1, none⟩) hbb0).trans d1
      have hbA := below_step hb0 hb1
      have cF := first_any w1 R1 x d
      rw [f1] at cF
      clear X hb0 hb1 R0 d1 f1
      go_wp2_with fail
      refine (rules_some w1 b o l.length c i HI.out (by omega) v.t y v.l.length k e1).mono ?_
      rintro e w2 ⟨rfl, rfl⟩
      go_wp2_with fail
      refine cF.mono ?_
      clear cF
      rintro e w3 ⟨rfl, hb3⟩
      have X3 := X1.later hb3
      have hbB := below_step hbA hb3
      clear X1 R1 hbA hb3
      have xl := X3.lt
      have xf := X3.fz
      obtain ⟨x0, x1⟩ := X3.two
      go_wp2_with fail
      refine bodyPost_ret (v := .tuple #[.agg #[.int .i64 0, .int .i64 0], .int .i64 3]) (by simp [results, Try.results22, go_sem, x0, x1]) rfl ?_
      exact ⟨rfl, below_lay2 _ _ hbB (Nat.le_refl _)⟩
    · have gq := getD_at hq
      have hqz : (q : Int) < (v.l.length : Int) := Int.ofNat_lt.2 hq
      have hq0 : decide ((q : Int) < 0) = false := decide_eq_false (by omega)
      have HR : Hid (r = (((v.l.getD q default).k, (v.l.getD q default).t), if (v.l.getD q default).k = 1 then 0 else 2)) := by
        show _ = _
        rw [HL.out, ho0]
        dsimp only
        rw [if_neg (by omega), f1, Int.toNat_natCast]
      clear HL ho0 hq
      generalize v.l.getD q default = s at gq HR
      obtain ⟨sa, sn, si, sp, sk, st⟩ := s
      dsimp only at HR
      have step : ∀ (sk2 z : Int), sk = sk2 → ((sk == 1) = (z == 0)) → r = ((sk, st), z) → (z = 0 ∨ z = 2) → Calls Try.prog 22 #[.slice (some ⟨b, o, none⟩) l.length c, .int .i64 t, .int .i64 x, .int .i64 d] w fun e w' => e = .returned (.tuple #[.agg #[.int .i64 r.1.1, .int .i64 r.1.2], .int .i64 r.2]) ∧ Below w.heap.size w w' := by
        intro sk2 z hsk hz0 hr hz
        have HZ : Hid (z = 0 ∨ z = 2) := hz
        have HZ0 : Hid ((sk == 1) = (z == 0)) := hz0
        subst hr
        clear hz hz0 hsk
        go_enter Try.func22, Try.ntmps22
        go_wp2_with fail
        refine cW.mono ?_
        clear cW
        rintro e w1 ⟨rfl, hb1⟩
        have X1 := X.later hb1
        have R1 := R0.later hb1
        have e1 := (hb1.cell (p := ⟨b, o + i * 2 + 1, none⟩) hbb0).trans d1
        have hbA := below_step hb0 hb1
        have cF := first_any w1 R1 x d
        rw [f1] at cF
        clear X hb0 hb1 R0 d1 f1
        go_wp2_with fail
        refine (rules_some w1 b o l.length c i HI.out (by omega) v.t y v.l.length k e1).mono ?_
        rintro e w2 ⟨rfl, rfl⟩
        go_wp2_with fail
        refine cF.mono ?_
        clear cF
        rintro e w3 ⟨rfl, hb3⟩
        have X3 := X1.later hb3
        have hbB := below_step hbA hb3
        obtain ⟨b2, o2, rfl, hbb2, hc2⟩ := (R1.later hb3).at gq
        have y4 := hc2 4 _ rfl
        have y5 := hc2 5 _ rfl
        have hn3 := below_new w3 (.cells #[.int .i64 sk, .int .i64 st] 26)
        have X4 := X3.later hn3
        clear X1 R1 hbA hb3 hc2 gq e1
        have xl := X4.lt
        have xf := X4.fz
        obtain ⟨x0, x1⟩ := X4.two
        have hbE := below_step hbB hn3
        rcases HZ.out with rfl | rfl
        · have hk : sk = 1 := by simpa using HZ0.out
          subst hk
          go_wp2_with fail
          refine bodyPost_ret (v := .tuple #[.agg #[.int .i64 1, .int .i64 st], .int .i64 0]) (by simp [results, Try.results22, go_sem, x0, x1]) rfl ?_
          exact ⟨rfl, below_lay2 _ _ hbE (Nat.le_refl _)⟩
        · have hk : (sk == 1) = false := by simpa using HZ0.out
          go_wp2_with fail
          refine bodyPost_ret (v := .tuple #[.agg #[.int .i64 sk, .int .i64 st], .int .i64 2]) (by simp [results, Try.results22, go_sem, x0, x1]) rfl ?_
          exact ⟨rfl, below_lay2 _ _ hbE (Nat.le_refl _)⟩
      by_cases hk : sk = 1
      · exact step sk 0 rfl (by simpa using hk) (by rw [HR.out, if_pos hk]) (.inl rfl)
      · exact step sk 2 rfl (by simpa using hk) (by rw [HR.out, if_neg hk]) (.inr rfl)
end Go.Proofs.Ytlfnciiomfcjpaa
