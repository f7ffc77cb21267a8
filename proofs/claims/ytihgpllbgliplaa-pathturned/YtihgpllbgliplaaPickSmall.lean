/- The sort of up to twelve numbers by a method value: insertion, the bits of a length, pdqsort and SortFunc. -/
import Derived.Test.YtihgpllbgliplaaQuiets
import Derived.Shelf.Small.Bits
/-! What the library's insertion sort does to a row of numbers, by a method value that compares. -/
namespace Go.Proofs.Ytihgpllbgliplaa
open Go.ChangeShapes Go.WideShapes Go.ChangeAt Go.RowKit Go.Sort Go.Shelf
set_option linter.unusedVariables false
set_option linter.unusedSimpArgs false

/-- a method value of the receiver rv -/
abbrev mv (rv : Value) : Value := .func (.func 50) #[rv] #[]
/-- what is asked of it: whatever else is in memory, it compares two numbers -/
def Cmp {n : Nat} (w0 : World) (B : Nat) (rv : Value) (cf : Fin (n + 1) → Fin (n + 1) → Int) : Prop :=
  ∀ (w : World), Keeps (only B) w0 w → ∀ x y : Fin (n + 1), Calls Try.prog 50 #[rv, .int .i64 ((x : Nat) : Int), .int .i64 ((y : Nat) : Int)] w fun e w' => e = .returned (.int .i64 (cf x y)) ∧ Below w.heap.size w w'
def ltc {n : Nat} (cf : Fin (n + 1) → Fin (n + 1) → Int) (x y : Fin (n + 1)) : Bool := decide (cf x y < 0)
theorem enters20 : ∀ args w, (callFunc 50 args).run Try.prog w = .ok (.enter 50 args) w := enters_of Try.func50 (by kernel_rfl) rfl
/-- the call, in every world of a region that reads -/
theorem Row.cmp {n : Nat} {w0 w : World} {B : Nat} {d : Array (Fin (n + 1))} (h : Row w0 B d w) {rv : Value} {cf : Fin (n + 1) → Fin (n + 1) → Int} (hc : Cmp w0 B rv cf) (x y : Fin (n + 1)) (p : BW w) :
    Calls Try.prog 50 #[rv, .int .i64 ((x : Nat) : Int), .int .i64 ((y : Nat) : Int)] p.w fun e w'' => e = .returned (.int .i64 (cf x y)) ∧ ∃ q : BW w, w'' = q.w :=
  calls_bw (hc p.w (h.keep.trans (S' := fun _ => False) (Keeps.of_below p.hb) (fun _ _ h => h.elim)) x y)
section
variable {n : Nat} (lt : Fin (n + 1) → Fin (n + 1) → Bool)
theorem ins_go {a j : Nat} {d : Array (Fin (n + 1))} (ha : a < j + 1) (h : lt d[j + 1]! d[j]! = true) : insInner lt a (j + 1) d = insInner lt a j (swp d (j + 1) j) := by
  rw [insInner]; rw [if_pos (by rw [h]; simpa using ha)]
theorem ins_stop {a j : Nat} {d : Array (Fin (n + 1))} (h : lt d[j + 1]! d[j]! = false) : insInner lt a (j + 1) d = d := by
  rw [insInner]; rw [if_neg (by rw [h]; simp)]
theorem ins_low {a j : Nat} {d : Array (Fin (n + 1))} (h : j ≤ a) : insInner lt a j d = d := by
  cases j with
  | zero => rfl
  | succ j => rw [insInner]; rw [if_neg (by simp; intro h2; omega)]
theorem insO_go {a b i : Nat} {d : Array (Fin (n + 1))} (h : i < b) : insOuter lt a b i d = insOuter lt a b (i + 1) (insInner lt a i d) := by
  rw [insOuter]; rw [if_pos h]
theorem insO_stop {a b i : Nat} {d : Array (Fin (n + 1))} (h : ¬ i < b) : insOuter lt a b i d = d := by
  rw [insOuter]; rw [if_neg h]
end
theorem wrap_i (n : Int) (h : -4000000 ≤ n) (h2 : n ≤ 4000000) : IntKind.i64.wrap n = n := by rw [IntKind.wrap_i64]; omega
theorem wrap_6 (n : Int) (h : -4000000 ≤ n) (h2 : n ≤ 4000000) : wrap64 n = n := by unfold wrap64; omega
section
set_option maxRecDepth 100000
set_option maxHeartbeats 16000000
variable {n : Nat} {w0 : World} {B : Nat} {rv : Value} {cf : Fin (n + 1) → Fin (n + 1) → Int} (hc : Cmp w0 B rv cf)
include hc
theorem ins_any {w : World} {d : Array (Fin (n + 1))} (R : Row w0 B d w) {a b c : Nat} (hab : a ≤ b) (hb : b ≤ d.size) (hsz : d.size ≤ 1000) :
    Calls Try.prog 65 #[.slice (some ⟨B, 0, none⟩) d.size c, .int .i64 (a : Nat), .int .i64 (b : Nat), mv rv] w fun e w' => e = .returned (.tuple #[]) ∧ Row w0 B (insertionSort (ltc cf) d a b) w' := by
  have eg := enters20
  have mixed : Try.prog.follows .mixedOrders = true := by kernel_rfl
  have HD : Hid (insertionSort (ltc cf) d a b = insOuter (ltc cf) a b (a + 1) d) := rfl
  generalize insertionSort (ltc cf) d a b = res at HD
  have wa : wrap64 ((a : Int) + 1) = ((a + 1 : Nat) : Int) := by rw [wrap_6 _ (by omega) (by omega)]; omega
  go_enter Try.func65, Try.ntmps65
  go_wp2_with fail
  go_loopw [8] (fun v wr => ∃ (i : Nat) (dk : Array (Fin (n + 1))), v = .int .i64 (i : Nat) ∧ a < i ∧ i ≤ b + 1 ∧ dk.size = d.size ∧ Row w0 B dk wr ∧ Hid (res = insOuter (ltc cf) a b i dk)) (fun v _ => b + 1 - (intOf v).toNat)
  case atStart => exact ⟨a + 1, d, by first | rfl | (congr 1), by omega, by omega, rfl, R, HD⟩
  case round =>
    clear R
    obtain ⟨i, dk, rfl, hai, hib, hsk, R1, H1⟩ := hrel
    by_cases hlt : i < b
    · have hltz : (i : Int) < (b : Int) := by omega
      have hgo : Hid (res = insOuter (ltc cf) a b (i + 1) (insInner (ltc cf) a i dk)) := H1.out.trans (insO_go _ hlt)
      clear H1
      go_wp2_with fail
      go_loopw [9] (fun v wr2 => ∃ (j : Nat) (dj : Array (Fin (n + 1))), v = .int .i64 (j : Nat) ∧ a ≤ j ∧ j ≤ i ∧ dj.size = d.size ∧ Row w0 B dj wr2 ∧ Hid (insInner (ltc cf) a i dk = insInner (ltc cf) a j dj)) (fun v _ => (intOf v).toNat)
      case atStart => exact ⟨i, dk, rfl, by omega, by omega, hsk, R1, rfl⟩
      case round =>
        clear R1
        obtain ⟨j, dj, rfl, haj, hji, hsj, R2, H2⟩ := hrel
        by_cases hja : a < j
        · have hjaz : (a : Int) < (j : Int) := by omega
          obtain ⟨q, hq⟩ : ∃ q, q + 1 = j := ⟨j - 1, by omega⟩
          have w1 : IntKind.i64.wrap ((j : Int) - 1) = (q : Int) := by rw [wrap_i _ (by omega) (by omega)]; omega
          have w2 : wrap64 ((j : Int) - 1) = (q : Int) := by rw [wrap_6 _ (by omega) (by omega)]; omega
          have b1 : (j : Int) < (d.size : Int) := by omega
          have b2 : (q : Int) < (d.size : Int) := by omega
          obtain ⟨x, hx⟩ : ∃ x, dj[j]! = x := ⟨_, rfl⟩
          obtain ⟨y, hy⟩ : ∃ y, dj[q]! = y := ⟨_, rfl⟩
          have l1 := R2.at (i := j) (by omega) hx
          have l2 := R2.at (i := q) (by omega) hy
          have cc := R2.cmp hc x y
          cases hl : ltc cf x y with
          | true =>
            have hv : cf x y < 0 := of_decide_eq_true hl
            have H3 : Hid (insInner (ltc cf) a i dk = insInner (ltc cf) a q (swp dj j q)) := by
              show _ = _
              rw [H2.out, ← hq, ins_go _ (by omega) (by rw [hq, hx, hy]; exact hl)]
            clear H2 hl
            go_wp2_with fail
            refine wp_region_below (by kernel_rfl) (by kernel_rfl) ?_
            repeat (quiet_step ((go_at_call 50; exact cc _)))
            refine wpQuiet_nil ?_
            rintro _ ⟨p, rfl⟩
            have R3 := R2.later p.hb
            clear l1 l2 cc R2
            generalize p.w = w3 at R3 ⊢
            have c1 := R3.cell j (by omega)
            have c2 := R3.cell q (by omega)
            have f1 := R3.frozen j (by omega)
            have f2 := R3.frozen q (by omega)
            have R4 := (R3.swap (i := j) (j := q) (by omega) (by omega) hx hy).drew
            rw [hx] at c1
            rw [hy] at c2
            have c3 := (World.cell?_setCell_other w3 ⟨B, j, none⟩ ⟨B, q, none⟩ (.int .i64 ((y : Nat) : Int)) (by intro e; injection e with _ e2; omega)).trans c2
            clear R3 hx hy
            go_wp2_with fail
            go_big_region_o
            go_wp2_with fail
            go_roundw
            case rel => exact ⟨q, swp dj j q, rfl, by omega, by omega, by rw [swp_size]; exact hsj, R4, H3⟩
            case measure => simp [intOf]; omega
          | false =>
            have hv : ¬ cf x y < 0 := of_decide_eq_false hl
            have H3 : Hid (res = insOuter (ltc cf) a b (i + 1) dj) := by
              show _ = _
              rw [hgo.out, H2.out, ← hq, ins_stop _ (by rw [hq, hx, hy]; exact hl)]
            clear H2 hl hgo
            go_wp2_with fail
            refine wp_region_below (by kernel_rfl) (by kernel_rfl) ?_
            repeat (quiet_step ((go_at_call 50; exact cc _)))
            refine wpQuiet_nil ?_
            rintro _ ⟨p, rfl⟩
            have R3 := R2.later p.hb
            clear l1 l2 cc R2
            generalize p.w = w3 at R3 ⊢
            go_wp2_with fail
            go_roundw
            case rel => exact ⟨i + 1, dj, by go_num, by omega, by omega, hsj, R3, H3⟩
            case measure => simp [intOf]; omega
        · have hjaz : ¬ (a : Int) < (j : Int) := by omega
          have hjd : decide ((j : Int) > (a : Int)) = false := decide_eq_false (by omega)
          have H3 : Hid (res = insOuter (ltc cf) a b (i + 1) dj) := by
            show _ = _
            rw [hgo.out, H2.out, ins_low _ (by omega)]
          clear H2 hgo
          go_wp2_with fail
          go_big_region_o
          have R3 := R2.drew
          clear R2
          generalize wr.drew = w3 at R3 ⊢
          go_wp2_with fail
          go_roundw
          case rel => exact ⟨i + 1, dj, by go_num, by omega, by omega, hsj, R3, H3⟩
          case measure => simp [intOf]; omega
    · have hltz : ¬ (i : Int) < (b : Int) := by omega
      go_wp2_with fail
      go_end0
      exact ⟨rfl, by rw [H1.out, insO_stop _ hlt]; exact R1⟩
end
end Go.Proofs.Ytihgpllbgliplaa

/-! How many bits a length has, as the library tells it. -/
namespace Go.Proofs.Ytihgpllbgliplaa
open Go.ChangeShapes Go.WideShapes Go.ChangeAt Go.RowKit Go.Shelf
set_option linter.unusedVariables false
set_option linter.unusedSimpArgs false

/-- this program's numbers of the library's functions and types -/
def rho : Ren := ⟨fun k => if k = 125 then 59 else if k = 128 then 73 else 74, fun k => if k = 46 then 103 else if k = 51 then 116 else if k = 53 then 118 else if k = 9 then 9 else if k = 5 then 5 else if k = 4 then 4 else 3, fun k => k⟩
theorem laysLen : Lays.n125 Try.prog rho where
  mixed := by kernel_rfl
  f125 := by kernel_rfl
  f128 := by kernel_rfl
  f129 := by kernel_rfl
  t3 := Try.underlying3
  a3 := Try.isAgg3
  z3 := Try.sizeOf3
  v3 := Try.zeroValue3
  t4 := Try.underlying4
  a4 := Try.isAgg4
  z4 := Try.sizeOf4
  v4 := Try.zeroValue4
  t5 := Try.underlying5
  a5 := Try.isAgg5
  z5 := Try.sizeOf5
  v5 := Try.zeroValue5
  t9 := Try.underlying9
  a9 := Try.isAgg9
  z9 := Try.sizeOf9
  v9 := Try.zeroValue9
  t46 := Try.underlying103
  a46 := Try.isAgg103
  z46 := Try.sizeOf103
  v46 := Try.zeroValue103
  t51 := Try.underlying116
  a51 := Try.isAgg116
  z51 := Try.sizeOf116
  v51 := Try.zeroValue116
  t53 := Try.underlying118
  a53 := Try.isAgg118
  z53 := Try.sizeOf118
  v53 := Try.zeroValue118
theorem len_any (x : Nat) (hx : x ≤ 1000) (w : World) : Calls Try.prog 59 #[.int .u64 (x : Nat)] w fun e w' => e = .returned (.int .i64 (Lib.bitLen x : Nat)) ∧ w' = w := by
  have h := Any.bits_Len laysLen (x : Int) w (by omega) (by omega)
  rw [Int.toNat_natCast] at h
  exact h
end Go.Proofs.Ytihgpllbgliplaa

/-! What the library's sort does to a row of at most twelve numbers. -/
namespace Go.Proofs.Ytihgpllbgliplaa
open Go.ChangeShapes Go.WideShapes Go.ChangeAt Go.RowKit Go.Sort Go.Shelf
set_option linter.unusedVariables false
set_option linter.unusedSimpArgs false

theorem ret0 {P : Program} {fn : Func} {R : Ending → World → Prop} {a : Act} {w : World} (h : fn.results = #[]) (hd : a.defers = []) (hR : R (.returned (.tuple #[])) w) : bodyPost P fn R .ret a w := bodyPost_ret (results_none h _ _ _) hd hR
section
set_option maxRecDepth 100000
set_option maxHeartbeats 4000000
variable {n : Nat} {w0 : World} {B : Nat} {rv : Value} {cf : Fin (n + 1) → Fin (n + 1) → Int} (hc : Cmp w0 B rv cf)
include hc
theorem pdq_small {w : World} {d : Array (Fin (n + 1))} (R : Row w0 B d w) {a b c limit : Nat} (hab : a ≤ b) (hb : b ≤ d.size) (hsz : d.size ≤ 1000) (h12 : b - a ≤ 12) :
    Calls Try.prog 58 #[.slice (some ⟨B, 0, none⟩) d.size c, .int .i64 (a : Nat), .int .i64 (b : Nat), .int .i64 (limit : Nat), mv rv] w fun e w' => e = .returned (.tuple #[]) ∧ Row w0 B (insertionSort (ltc cf) d a b) w' := by
  obtain ⟨L, hL⟩ : ∃ L : Nat, b - a = L := ⟨_, rfl⟩
  have w1 : wrap64 ((b : Int) - (a : Int)) = (L : Int) := by rw [wrap_6 _ (by omega) (by omega)]; omega
  have h3 : (L : Int) ≤ 12 := by omega
  have ci := fun w R => ins_any hc (w := w) (d := d) R (c := c) hab hb hsz
  generalize insertionSort (ltc cf) d a b = res at ci ⊢
  go_enter Try.func58, Try.ntmps58
  go_wp2_with fail
  refine wp_loop_rounds 1 ?_
  rw [rounds_succ]
  go_wp2_with fail
  refine (ci _ R).mono ?_
  rintro e w2 ⟨rfl, R2⟩
  go_wp2_with fail
  refine ret0 rfl rfl ?_
  exact ⟨rfl, R2⟩
theorem sort_small {w : World} {d : Array (Fin (n + 1))} (R : Row w0 B d w) {c : Nat} (h12 : d.size ≤ 12) :
    Calls Try.prog 49 #[.slice (some ⟨B, 0, none⟩) d.size c, mv rv] w fun e w' => e = .returned (.tuple #[]) ∧ Row w0 B (insertionSort (ltc cf) d 0 d.size) w' := by
  have cl := fun w => len_any d.size (by omega) w
  have cp := fun w R => pdq_small hc (w := w) (d := d) R (a := 0) (b := d.size) (c := c) (limit := Lib.bitLen d.size) (by omega) (by omega) (by omega) (by omega)
  have wu : IntKind.u64.wrap (d.size : Int) = (d.size : Int) := by simp [IntKind.wrap, IntKind.bits, IntKind.signed]; omega
  generalize Lib.bitLen d.size = lim at cl cp
  generalize insertionSort (ltc cf) d 0 d.size = res at cp ⊢
  go_enter Try.func49, Try.ntmps49
  go_wp2_with fail
  refine (cl _).mono ?_
  rintro e w2 ⟨rfl, rfl⟩
  go_wp2_with fail
  refine (cp _ R).mono ?_
  rintro e w2 ⟨rfl, R2⟩
  go_wp2_with fail
  go_end0
  exact ⟨rfl, R2⟩
end
end Go.Proofs.Ytihgpllbgliplaa
