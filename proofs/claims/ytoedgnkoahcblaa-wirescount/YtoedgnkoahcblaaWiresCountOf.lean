/- The statement WiresCount, over whatever the code is (WCode). -/
import Derived.Test.YtoedgnkoahcblaaWireIf
namespace Go.Proofs.Ytoedgnkoahcblaa
open Go.ChangeShapes Go.WideShapes Go.ChangeAt Go.RowKit O Wi
set_option linter.unusedVariables false
set_option linter.unusedSimpArgs false

set_option maxRecDepth 100000 in
set_option maxHeartbeats 8000000 in
theorem wiresCount_of (C : WCode) (a : Option Addr) (c : Nat) (L : List Wr) (at_ f : Int) (w : World) (V : Wires none w a c L) :
    Calls Try.prog 4 #[.slice a L.length c, .int .i64 at_, .int .i64 f] w fun e w' => e = .returned (.bool true) ∧ Below w.heap.size w w' := by
  have hmx := Nat.le_trans V.le V.max
  unfold maxLen at hmx
  have hB := Below.refl w.heap.size w
  have cFa := fun w (V : Wires none w a c L) => few14_any w V
  cases hA : fewWB L with
  | false =>
    rw [hA] at cFa
    go_enter Try.func4, Try.ntmps4
    go_wp2_with fail
    refine (wawake_any C _).mono ?_
    rintro e w1 ⟨rfl, hb⟩
    replace V := V.later hb
    replace hB := below_step hB hb
    clear hb
    go_wp2_with fail
    refine (cFa _ V).mono ?_
    rintro e w' ⟨rfl, hww⟩
    obtain rfl := hww.symm
    go_wp2_with fail
    go_ret
    exact ⟨rfl, hB⟩
  | true =>
    rw [hA] at cFa
    have bA := (fewW_iff L).1 hA
    clear hA
    have b2 : Bw 200 300 L := ⟨Nat.le_trans bA.1 (by decide), bA.2⟩
    have hl100 := bA.1
    have cF := fun w (V : Wires none w a c L) => C.fate w V b2 at_ f
    clear b2 bA
    by_cases h0 : at_ < 0
    case pos =>
      obtain ⟨e1, e2, e3⟩ := fate_out (f := f) (in_no (l := L) (.inl h0))
      simp only [e1, e2, e3] at cF
      clear e1 e2 e3
      dsimp only [vW] at cF
      go_enter Try.func4, Try.ntmps4
      go_wp2_with fail
      refine (wawake_any C _).mono ?_
      rintro e w1 ⟨rfl, hb⟩
      replace V := V.later hb
      replace hB := below_step hB hb
      clear hb
      go_wp2_with fail
      refine (cFa _ V).mono ?_
      rintro e w' ⟨rfl, hww⟩
      obtain rfl := hww.symm
      clear cFa
      go_wp2_with fail
      refine (cF _ V).mono ?_
      clear cF
      rintro e w2 ⟨y1, k1, ⟨qs, qu, qx, qn, qc⟩, rfl, F1, h1, hb⟩
      replace V := V.later hb
      replace hB := below_step hB hb
      clear hb
      obtain rfl : qn = 0 := h1.n
      have K1 : C3 w2.heap.size (.int .i64 qs) (.bool qu) (.slice qx 0 qc) (w2.alloc (.cells #[.int .i64 qs, .bool qu, .slice qx 0 qc] 25)) := C3.new w2 _ _ _ _ rfl
      have hb := below_new w2 (.cells #[.int .i64 qs, .bool qu, .slice qx 0 qc] 25)
      replace V := V.later hb
      replace F1 := F1.later hb
      replace h1 := h1.later hb
      replace hB := below_step hB hb
      clear hb
      go_wp2_with fail
      generalize w2.alloc (.cells #[.int .i64 qs, .bool qu, .slice qx 0 qc] 25) = u1 at K1 V F1 h1 hB ⊢
      generalize w2.heap.size = N1 at K1 ⊢
      go_loopw [15] (fun vi wr => ∃ i : Nat, Hid (i ≤ L.length) ∧ vi = .int .i64 (i : Nat) ∧ Below u1.heap.size u1 wr) (fun vi _ => L.length - (intOf vi).toNat)
      case atStart => exact ⟨0, Nat.zero_le _, rfl, Below.refl _ _⟩
      case round =>
        obtain ⟨i, HI, rfl, hbr⟩ := hrel
        by_cases hlt : i < L.length
        · have hiz : (i : Int) < (L.length : Int) := by omega
          have HLT : Hid (i + 1 ≤ L.length) := hlt
          obtain ⟨r, hr⟩ := getW hlt
          have hr2 := hr
          have hk2 := (List.getElem?_eq_some_iff.1 hr2).1
          obtain ⟨b, o, x, m, ey, hlb, p0, p1, p2, h3⟩ := (F1.later hbr).at hr
          obtain ⟨b2, o2, y, n, ea, hlb2, q0, q1, q2, h4⟩ := (V.later hbr).at hr2
          subst ey; subst ea
          have p0 := cbw14 hlb p0
          have p1 := cbw14 hlb p1
          have p2 := cbw14 hlb p2
          have q0 := cbw14 hlb2 q0
          have q1 := cbw14 hlb2 q1
          have q2 := cbw14 hlb2 q2
          have cO := fun u : BW wr => calls_bw (p := u) (one14_any u.w (h3.later u.hb) (h4.later u.hb))
          rw [decide_eq_true rfl] at cO
          dsimp only [vW] at cO
          clear hr hr2 hlt HI hlb hlb2 h3 h4
          go_wp2_with fail
          refine wp_region_below (by kernel_rfl) (by kernel_rfl) ?_
          iterate 8 (quiet_step (fail))
          quiet_step ((go_at_call 15; exact cO _))
          repeat (quiet_step (fail))
          refine wpQuiet_nil ?_
          rintro _ ⟨bw, rfl⟩
          have hb6 := below_step hbr bw.hb
          clear cO p0 p1 p2 q0 q1 q2
          generalize bw.w = w6 at hb6 ⊢
          clear bw
          go_wp2_with fail
          go_roundw
          case rel => exact ⟨i + 1, HLT.out, by go_num, hb6⟩
          case measure => have h := HLT.out; simp [intOf]; omega
        · have hiz : ¬ (i : Int) < (L.length : Int) := by omega
          replace hB := below_step hB hbr
          clear hlt HI
          have K2 := K1.later hbr
          have K2z0 := K2.c0
          have K2z1 := K2.c1
          have K2z2 := K2.c2
          clear F1 V h1 K1 hbr
          go_wp2_with fail
          go_ret
          first | exact ⟨rfl, hB⟩ | exact ⟨ret_bool (by simp), hB⟩
    by_cases h1 : (L.length : Int) ≤ at_
    case pos =>
      obtain ⟨e1, e2, e3⟩ := fate_out (f := f) (in_no (l := L) (.inr h1))
      simp only [e1, e2, e3] at cF
      clear e1 e2 e3
      have h1z : ¬ at_ < (L.length : Int) := by omega
      dsimp only [vW] at cF
      go_enter Try.func4, Try.ntmps4
      go_wp2_with fail
      refine (wawake_any C _).mono ?_
      rintro e w1 ⟨rfl, hb⟩
      replace V := V.later hb
      replace hB := below_step hB hb
      clear hb
      go_wp2_with fail
      refine (cFa _ V).mono ?_
      rintro e w' ⟨rfl, hww⟩
      obtain rfl := hww.symm
      clear cFa
      go_wp2_with fail
      refine (cF _ V).mono ?_
      clear cF
      rintro e w2 ⟨y1, k1, ⟨qs, qu, qx, qn, qc⟩, rfl, F1, h1, hb⟩
      replace V := V.later hb
      replace hB := below_step hB hb
      clear hb
      obtain rfl : qn = 0 := h1.n
      have K1 : C3 w2.heap.size (.int .i64 qs) (.bool qu) (.slice qx 0 qc) (w2.alloc (.cells #[.int .i64 qs, .bool qu, .slice qx 0 qc] 25)) := C3.new w2 _ _ _ _ rfl
      have hb := below_new w2 (.cells #[.int .i64 qs, .bool qu, .slice qx 0 qc] 25)
      replace V := V.later hb
      replace F1 := F1.later hb
      replace h1 := h1.later hb
      replace hB := below_step hB hb
      clear hb
      go_wp2_with fail
      generalize w2.alloc (.cells #[.int .i64 qs, .bool qu, .slice qx 0 qc] 25) = u1 at K1 V F1 h1 hB ⊢
      generalize w2.heap.size = N1 at K1 ⊢
      go_loopw [15] (fun vi wr => ∃ i : Nat, Hid (i ≤ L.length) ∧ vi = .int .i64 (i : Nat) ∧ Below u1.heap.size u1 wr) (fun vi _ => L.length - (intOf vi).toNat)
      case atStart => exact ⟨0, Nat.zero_le _, rfl, Below.refl _ _⟩
      case round =>
        obtain ⟨i, HI, rfl, hbr⟩ := hrel
        by_cases hlt : i < L.length
        · have hiz : (i : Int) < (L.length : Int) := by omega
          have HLT : Hid (i + 1 ≤ L.length) := hlt
          obtain ⟨r, hr⟩ := getW hlt
          have hr2 := hr
          have hk2 := (List.getElem?_eq_some_iff.1 hr2).1
          obtain ⟨b, o, x, m, ey, hlb, p0, p1, p2, h3⟩ := (F1.later hbr).at hr
          obtain ⟨b2, o2, y, n, ea, hlb2, q0, q1, q2, h4⟩ := (V.later hbr).at hr2
          subst ey; subst ea
          have p0 := cbw14 hlb p0
          have p1 := cbw14 hlb p1
          have p2 := cbw14 hlb p2
          have q0 := cbw14 hlb2 q0
          have q1 := cbw14 hlb2 q1
          have q2 := cbw14 hlb2 q2
          have cO := fun u : BW wr => calls_bw (p := u) (one14_any u.w (h3.later u.hb) (h4.later u.hb))
          rw [decide_eq_true rfl] at cO
          dsimp only [vW] at cO
          clear hr hr2 hlt HI hlb hlb2 h3 h4
          go_wp2_with fail
          refine wp_region_below (by kernel_rfl) (by kernel_rfl) ?_
          iterate 8 (quiet_step (fail))
          quiet_step ((go_at_call 15; exact cO _))
          repeat (quiet_step (fail))
          refine wpQuiet_nil ?_
          rintro _ ⟨bw, rfl⟩
          have hb6 := below_step hbr bw.hb
          clear cO p0 p1 p2 q0 q1 q2
          generalize bw.w = w6 at hb6 ⊢
          clear bw
          go_wp2_with fail
          go_roundw
          case rel => exact ⟨i + 1, HLT.out, by go_num, hb6⟩
          case measure => have h := HLT.out; simp [intOf]; omega
        · have hiz : ¬ (i : Int) < (L.length : Int) := by omega
          replace hB := below_step hB hbr
          clear hlt HI
          have K2 := K1.later hbr
          have K2z0 := K2.c0
          have K2z1 := K2.c1
          have K2z2 := K2.c2
          clear F1 V h1 K1 hbr
          go_wp2_with fail
          go_ret
          first | exact ⟨rfl, hB⟩ | exact ⟨ret_bool (by simp), hB⟩
    obtain ⟨j, rfl⟩ : ∃ j : Nat, at_ = (j : Int) := ⟨at_.toNat, by omega⟩
    have hj : j < L.length := by omega
    have hjz : (j : Int) < (L.length : Int) := by omega
    clear h0 h1
    by_cases f0 : f = 0
    case pos =>
      subst f0
      obtain ⟨e1, e2, e3⟩ := fate_deliver hj
      simp only [e1, e2, e3] at cF
      clear e1 e2 e3
      have hE := erase_len hj
      have HFL : Hid (∀ i, ¬ j ≤ i → (L.eraseIdx j)[i]? = L[i]?) := fun i h => by rw [List.getElem?_eraseIdx, if_pos (by omega)]
      have HFG : Hid (∀ i, j ≤ i → (L.eraseIdx j)[i]? = L[i + 1]?) := fun i h => by rw [List.getElem?_eraseIdx, if_neg (by omega)]
      generalize L.eraseIdx j = E at cF hE HFL HFG
      have hz : ((E.length : Int) != (L.length : Int) - 1) = false := by rw [bne_eq_false_iff_eq]; omega
      have hEl : E.length ≤ 100 := by omega
      clear hE
      dsimp only [vW] at cF
      go_enter Try.func4, Try.ntmps4
      go_wp2_with fail
      refine (wawake_any C _).mono ?_
      rintro e w1 ⟨rfl, hb⟩
      replace V := V.later hb
      replace hB := below_step hB hb
      clear hb
      go_wp2_with fail
      refine (cFa _ V).mono ?_
      rintro e w' ⟨rfl, hww⟩
      obtain rfl := hww.symm
      clear cFa
      go_wp2_with fail
      refine (cF _ V).mono ?_
      clear cF
      rintro e w2 ⟨y1, k1, ⟨qs, qu, qx, qn, qc⟩, rfl, F1, h1, hb⟩
      replace V := V.later hb
      replace hB := below_step hB hb
      clear hb
      have K1 : C3 w2.heap.size (.int .i64 qs) (.bool qu) (.slice qx qn qc) (w2.alloc (.cells #[.int .i64 qs, .bool qu, .slice qx qn qc] 25)) := C3.new w2 _ _ _ _ rfl
      have hb := below_new w2 (.cells #[.int .i64 qs, .bool qu, .slice qx qn qc] 25)
      replace V := V.later hb
      replace F1 := F1.later hb
      replace h1 := h1.later hb
      replace hB := below_step hB hb
      clear hb
      go_wp2_with fail
      generalize w2.alloc (.cells #[.int .i64 qs, .bool qu, .slice qx qn qc] 25) = u1 at K1 V F1 h1 hB ⊢
      generalize w2.heap.size = N1 at K1 ⊢
      go_loopw [15] (fun vi wr => ∃ i : Nat, Hid (i ≤ E.length) ∧ vi = .int .i64 (i : Nat) ∧ Below u1.heap.size u1 wr) (fun vi _ => E.length - (intOf vi).toNat)
      case atStart => exact ⟨0, Nat.zero_le _, rfl, Below.refl _ _⟩
      case round =>
        obtain ⟨i, HI, rfl, hbr⟩ := hrel
        by_cases hlt : i < E.length
        · have hiz : (i : Int) < (E.length : Int) := by omega
          have HLT : Hid (i + 1 ≤ E.length) := hlt
          obtain ⟨r, hr⟩ := getW hlt
          by_cases hij : j ≤ i
          · have hr2 : L[i + 1]? = some r := (HFG.out i hij).symm.trans hr
            have hjz2 : (j : Int) ≤ (i : Int) := by omega
            have hkz : (i : Int) + 1 < (L.length : Int) := by have := (List.getElem?_eq_some_iff.1 hr2).1; omega
            have hkz3 : 0 ≤ (i : Int) + 1 := by omega
            have hk2 := (List.getElem?_eq_some_iff.1 hr2).1
            obtain ⟨b, o, x, m, ey, hlb, p0, p1, p2, h3⟩ := (F1.later hbr).at hr
            obtain ⟨b2, o2, y, n, ea, hlb2, q0, q1, q2, h4⟩ := (V.later hbr).at hr2
            subst ey; subst ea
            have p0 := cbw14 hlb p0
            have p1 := cbw14 hlb p1
            have p2 := cbw14 hlb p2
            have q0 := cbw14 hlb2 q0
            have q1 := cbw14 hlb2 q1
            have q2 := cbw14 hlb2 q2
            have cO := fun u : BW wr => calls_bw (p := u) (one14_any u.w (h3.later u.hb) (h4.later u.hb))
            rw [decide_eq_true rfl] at cO
            dsimp only [vW] at cO
            clear hr hr2 hlt HI hlb hlb2 h3 h4
            go_wp2_with fail
            refine wp_region_below (by kernel_rfl) (by kernel_rfl) ?_
            iterate 8 (quiet_step (fail))
            quiet_step ((go_at_call 15; exact cO _))
            repeat (quiet_step (fail))
            refine wpQuiet_nil ?_
            rintro _ ⟨bw, rfl⟩
            have hb6 := below_step hbr bw.hb
            clear cO p0 p1 p2 q0 q1 q2
            generalize bw.w = w6 at hb6 ⊢
            clear bw
            go_wp2_with fail
            go_roundw
            case rel => exact ⟨i + 1, HLT.out, by go_num, hb6⟩
            case measure => have h := HLT.out; simp [intOf]; omega
          · have hr2 : L[i]? = some r := (HFL.out i hij).symm.trans hr
            have hjz2 : ¬ (j : Int) ≤ (i : Int) := by omega
            have hkz : (i : Int) < (L.length : Int) := by have := (List.getElem?_eq_some_iff.1 hr2).1; omega
            have hk2 := (List.getElem?_eq_some_iff.1 hr2).1
            obtain ⟨b, o, x, m, ey, hlb, p0, p1, p2, h3⟩ := (F1.later hbr).at hr
            obtain ⟨b2, o2, y, n, ea, hlb2, q0, q1, q2, h4⟩ := (V.later hbr).at hr2
            subst ey; subst ea
            have p0 := cbw14 hlb p0
            have p1 := cbw14 hlb p1
            have p2 := cbw14 hlb p2
            have q0 := cbw14 hlb2 q0
            have q1 := cbw14 hlb2 q1
            have q2 := cbw14 hlb2 q2
            have cO := fun u : BW wr => calls_bw (p := u) (one14_any u.w (h3.later u.hb) (h4.later u.hb))
            rw [decide_eq_true rfl] at cO
            dsimp only [vW] at cO
            clear hr hr2 hlt HI hlb hlb2 h3 h4
            go_wp2_with fail
            refine wp_region_below (by kernel_rfl) (by kernel_rfl) ?_
            iterate 8 (quiet_step (fail))
            quiet_step ((go_at_call 15; exact cO _))
            repeat (quiet_step (fail))
            refine wpQuiet_nil ?_
            rintro _ ⟨bw, rfl⟩
            have hb6 := below_step hbr bw.hb
            clear cO p0 p1 p2 q0 q1 q2
            generalize bw.w = w6 at hb6 ⊢
            clear bw
            go_wp2_with fail
            go_roundw
            case rel => exact ⟨i + 1, HLT.out, by go_num, hb6⟩
            case measure => have h := HLT.out; simp [intOf]; omega
        · have hiz : ¬ (i : Int) < (E.length : Int) := by omega
          replace hB := below_step hB hbr
          clear hlt HI
          obtain ⟨v, hv⟩ := getW hj
          have hgv := getD_of hv
          rw [hgv] at h1
          obtain ⟨b2, o2, y, n, ea, hlb2, q0, q1, q2, h4⟩ := (V.later hbr).at hv
          subst ea
          have K2 := K1.later hbr
          have p0 := cbw14 K2.lt K2.c0
          have p1 := cbw14 K2.lt K2.c1
          have p2 := cbw14 K2.lt K2.c2
          have q0 := cbw14 hlb2 q0
          have q1 := cbw14 hlb2 q1
          have q2 := cbw14 hlb2 q2
          have h3 := h1.later hbr
          have cO := fun u : BW wr => calls_bw (p := u) (one14_any u.w (h3.later u.hb) (h4.later u.hb))
          rw [decide_eq_true rfl] at cO
          dsimp only [vW] at cO
          clear hv hgv F1 V h1 K1 K2 hbr h3 h4 hlb2
          go_wp2_with fail
          refine wp_region_below (by kernel_rfl) (by kernel_rfl) ?_
          iterate 5 (quiet_step (fail))
          quiet_step ((go_at_call 15; exact cO _))
          repeat (quiet_step (fail))
          refine wpQuiet_nil ?_
          rintro _ ⟨bw, rfl⟩
          replace hB := below_step hB bw.hb
          clear cO p0 p1 p2 q0 q1 q2
          generalize bw.w = w6 at hB ⊢
          clear bw
          go_wp2_with fail
          go_ret
          exact ⟨rfl, hB⟩
    by_cases f1 : f = 1
    case pos =>
      subst f1
      obtain ⟨e1, e2, e3⟩ := fate_lose hj
      simp only [e1, e2, e3] at cF
      clear e1 e2 e3
      have hE := erase_len hj
      have HFL : Hid (∀ i, ¬ j ≤ i → (L.eraseIdx j)[i]? = L[i]?) := fun i h => by rw [List.getElem?_eraseIdx, if_pos (by omega)]
      have HFG : Hid (∀ i, j ≤ i → (L.eraseIdx j)[i]? = L[i + 1]?) := fun i h => by rw [List.getElem?_eraseIdx, if_neg (by omega)]
      generalize L.eraseIdx j = E at cF hE HFL HFG
      have hz : ((E.length : Int) != (L.length : Int) - 1) = false := by rw [bne_eq_false_iff_eq]; omega
      have hEl : E.length ≤ 100 := by omega
      clear hE
      dsimp only [vW] at cF
      go_enter Try.func4, Try.ntmps4
      go_wp2_with fail
      refine (wawake_any C _).mono ?_
      rintro e w1 ⟨rfl, hb⟩
      replace V := V.later hb
      replace hB := below_step hB hb
      clear hb
      go_wp2_with fail
      refine (cFa _ V).mono ?_
      rintro e w' ⟨rfl, hww⟩
      obtain rfl := hww.symm
      clear cFa
      go_wp2_with fail
      refine (cF _ V).mono ?_
      clear cF
      rintro e w2 ⟨y1, k1, ⟨qs, qu, qx, qn, qc⟩, rfl, F1, h1, hb⟩
      replace V := V.later hb
      replace hB := below_step hB hb
      clear hb
      obtain rfl : qn = 0 := h1.n
      have K1 : C3 w2.heap.size (.int .i64 qs) (.bool qu) (.slice qx 0 qc) (w2.alloc (.cells #[.int .i64 qs, .bool qu, .slice qx 0 qc] 25)) := C3.new w2 _ _ _ _ rfl
      have hb := below_new w2 (.cells #[.int .i64 qs, .bool qu, .slice qx 0 qc] 25)
      replace V := V.later hb
      replace F1 := F1.later hb
      replace h1 := h1.later hb
      replace hB := below_step hB hb
      clear hb
      go_wp2_with fail
      generalize w2.alloc (.cells #[.int .i64 qs, .bool qu, .slice qx 0 qc] 25) = u1 at K1 V F1 h1 hB ⊢
      generalize w2.heap.size = N1 at K1 ⊢
      go_loopw [15] (fun vi wr => ∃ i : Nat, Hid (i ≤ E.length) ∧ vi = .int .i64 (i : Nat) ∧ Below u1.heap.size u1 wr) (fun vi _ => E.length - (intOf vi).toNat)
      case atStart => exact ⟨0, Nat.zero_le _, rfl, Below.refl _ _⟩
      case round =>
        obtain ⟨i, HI, rfl, hbr⟩ := hrel
        by_cases hlt : i < E.length
        · have hiz : (i : Int) < (E.length : Int) := by omega
          have HLT : Hid (i + 1 ≤ E.length) := hlt
          obtain ⟨r, hr⟩ := getW hlt
          by_cases hij : j ≤ i
          · have hr2 : L[i + 1]? = some r := (HFG.out i hij).symm.trans hr
            have hjz2 : (j : Int) ≤ (i : Int) := by omega
            have hkz : (i : Int) + 1 < (L.length : Int) := by have := (List.getElem?_eq_some_iff.1 hr2).1; omega
            have hkz3 : 0 ≤ (i : Int) + 1 := by omega
            have hk2 := (List.getElem?_eq_some_iff.1 hr2).1
            obtain ⟨b, o, x, m, ey, hlb, p0, p1, p2, h3⟩ := (F1.later hbr).at hr
            obtain ⟨b2, o2, y, n, ea, hlb2, q0, q1, q2, h4⟩ := (V.later hbr).at hr2
            subst ey; subst ea
            have p0 := cbw14 hlb p0
            have p1 := cbw14 hlb p1
            have p2 := cbw14 hlb p2
            have q0 := cbw14 hlb2 q0
            have q1 := cbw14 hlb2 q1
            have q2 := cbw14 hlb2 q2
            have cO := fun u : BW wr => calls_bw (p := u) (one14_any u.w (h3.later u.hb) (h4.later u.hb))
            rw [decide_eq_true rfl] at cO
            dsimp only [vW] at cO
            clear hr hr2 hlt HI hlb hlb2 h3 h4
            go_wp2_with fail
            refine wp_region_below (by kernel_rfl) (by kernel_rfl) ?_
            iterate 8 (quiet_step (fail))
            quiet_step ((go_at_call 15; exact cO _))
            repeat (quiet_step (fail))
            refine wpQuiet_nil ?_
            rintro _ ⟨bw, rfl⟩
            have hb6 := below_step hbr bw.hb
            clear cO p0 p1 p2 q0 q1 q2
            generalize bw.w = w6 at hb6 ⊢
            clear bw
            go_wp2_with fail
            go_roundw
            case rel => exact ⟨i + 1, HLT.out, by go_num, hb6⟩
            case measure => have h := HLT.out; simp [intOf]; omega
          · have hr2 : L[i]? = some r := (HFL.out i hij).symm.trans hr
            have hjz2 : ¬ (j : Int) ≤ (i : Int) := by omega
            have hkz : (i : Int) < (L.length : Int) := by have := (List.getElem?_eq_some_iff.1 hr2).1; omega
            have hk2 := (List.getElem?_eq_some_iff.1 hr2).1
            obtain ⟨b, o, x, m, ey, hlb, p0, p1, p2, h3⟩ := (F1.later hbr).at hr
            obtain ⟨b2, o2, y, n, ea, hlb2, q0, q1, q2, h4⟩ := (V.later hbr).at hr2
            subst ey; subst ea
            have p0 := cbw14 hlb p0
            have p1 := cbw14 hlb p1
            have p2 := cbw14 hlb p2
            have q0 := cbw14 hlb2 q0
            have q1 := cbw14 hlb2 q1
            have q2 := cbw14 hlb2 q2
            have cO := fun u : BW wr => calls_bw (p := u) (one14_any u.w (h3.later u.hb) (h4.later u.hb))
            rw [decide_eq_true rfl] at cO
            dsimp only [vW] at cO
            clear hr hr2 hlt HI hlb hlb2 h3 h4
            go_wp2_with fail
            refine wp_region_below (by kernel_rfl) (by kernel_rfl) ?_
            iterate 8 (quiet_step (fail))
            quiet_step ((go_at_call 15; exact cO _))
            repeat (quiet_step (fail))
            refine wpQuiet_nil ?_
            rintro _ ⟨bw, rfl⟩
            have hb6 := below_step hbr bw.hb
            clear cO p0 p1 p2 q0 q1 q2
            generalize bw.w = w6 at hb6 ⊢
            clear bw
            go_wp2_with fail
            go_roundw
            case rel => exact ⟨i + 1, HLT.out, by go_num, hb6⟩
            case measure => have h := HLT.out; simp [intOf]; omega
        · have hiz : ¬ (i : Int) < (E.length : Int) := by omega
          replace hB := below_step hB hbr
          clear hlt HI
          have K2 := K1.later hbr
          have K2z0 := K2.c0
          have K2z1 := K2.c1
          have K2z2 := K2.c2
          clear F1 V h1 K1 hbr
          go_wp2_with fail
          go_ret
          first | exact ⟨rfl, hB⟩ | exact ⟨ret_bool (by simp), hB⟩
    by_cases f2 : f = 2
    case pos =>
      subst f2
      obtain ⟨e1, e2, e3⟩ := fate_twice hj
      simp only [e1, e2, e3] at cF
      clear e1 e2 e3
      dsimp only [vW] at cF
      go_enter Try.func4, Try.ntmps4
      go_wp2_with fail
      refine (wawake_any C _).mono ?_
      rintro e w1 ⟨rfl, hb⟩
      replace V := V.later hb
      replace hB := below_step hB hb
      clear hb
      go_wp2_with fail
      refine (cFa _ V).mono ?_
      rintro e w' ⟨rfl, hww⟩
      obtain rfl := hww.symm
      clear cFa
      go_wp2_with fail
      refine (cF _ V).mono ?_
      clear cF
      rintro e w2 ⟨y1, k1, ⟨qs, qu, qx, qn, qc⟩, rfl, F1, h1, hb⟩
      replace V := V.later hb
      replace hB := below_step hB hb
      clear hb
      have K1 : C3 w2.heap.size (.int .i64 qs) (.bool qu) (.slice qx qn qc) (w2.alloc (.cells #[.int .i64 qs, .bool qu, .slice qx qn qc] 25)) := C3.new w2 _ _ _ _ rfl
      have hb := below_new w2 (.cells #[.int .i64 qs, .bool qu, .slice qx qn qc] 25)
      replace V := V.later hb
      replace F1 := F1.later hb
      replace h1 := h1.later hb
      replace hB := below_step hB hb
      clear hb
      go_wp2_with fail
      generalize w2.alloc (.cells #[.int .i64 qs, .bool qu, .slice qx qn qc] 25) = u1 at K1 V F1 h1 hB ⊢
      generalize w2.heap.size = N1 at K1 ⊢
      go_loopw [15] (fun vi wr => ∃ i : Nat, Hid (i ≤ L.length) ∧ vi = .int .i64 (i : Nat) ∧ Below u1.heap.size u1 wr) (fun vi _ => L.length - (intOf vi).toNat)
      case atStart => exact ⟨0, Nat.zero_le _, rfl, Below.refl _ _⟩
      case round =>
        obtain ⟨i, HI, rfl, hbr⟩ := hrel
        by_cases hlt : i < L.length
        · have hiz : (i : Int) < (L.length : Int) := by omega
          have HLT : Hid (i + 1 ≤ L.length) := hlt
          obtain ⟨r, hr⟩ := getW hlt
          have hr2 := hr
          have hk2 := (List.getElem?_eq_some_iff.1 hr2).1
          obtain ⟨b, o, x, m, ey, hlb, p0, p1, p2, h3⟩ := (F1.later hbr).at hr
          obtain ⟨b2, o2, y, n, ea, hlb2, q0, q1, q2, h4⟩ := (V.later hbr).at hr2
          subst ey; subst ea
          have p0 := cbw14 hlb p0
          have p1 := cbw14 hlb p1
          have p2 := cbw14 hlb p2
          have q0 := cbw14 hlb2 q0
          have q1 := cbw14 hlb2 q1
          have q2 := cbw14 hlb2 q2
          have cO := fun u : BW wr => calls_bw (p := u) (one14_any u.w (h3.later u.hb) (h4.later u.hb))
          rw [decide_eq_true rfl] at cO
          dsimp only [vW] at cO
          clear hr hr2 hlt HI hlb hlb2 h3 h4
          go_wp2_with fail
          refine wp_region_below (by kernel_rfl) (by kernel_rfl) ?_
          iterate 8 (quiet_step (fail))
          quiet_step ((go_at_call 15; exact cO _))
          repeat (quiet_step (fail))
          refine wpQuiet_nil ?_
          rintro _ ⟨bw, rfl⟩
          have hb6 := below_step hbr bw.hb
          clear cO p0 p1 p2 q0 q1 q2
          generalize bw.w = w6 at hb6 ⊢
          clear bw
          go_wp2_with fail
          go_roundw
          case rel => exact ⟨i + 1, HLT.out, by go_num, hb6⟩
          case measure => have h := HLT.out; simp [intOf]; omega
        · have hiz : ¬ (i : Int) < (L.length : Int) := by omega
          replace hB := below_step hB hbr
          clear hlt HI
          obtain ⟨v, hv⟩ := getW hj
          have hgv := getD_of hv
          rw [hgv] at h1
          obtain ⟨b2, o2, y, n, ea, hlb2, q0, q1, q2, h4⟩ := (V.later hbr).at hv
          subst ea
          have K2 := K1.later hbr
          have p0 := cbw14 K2.lt K2.c0
          have p1 := cbw14 K2.lt K2.c1
          have p2 := cbw14 K2.lt K2.c2
          have q0 := cbw14 hlb2 q0
          have q1 := cbw14 hlb2 q1
          have q2 := cbw14 hlb2 q2
          have h3 := h1.later hbr
          have cO := fun u : BW wr => calls_bw (p := u) (one14_any u.w (h3.later u.hb) (h4.later u.hb))
          rw [decide_eq_true rfl] at cO
          dsimp only [vW] at cO
          clear hv hgv F1 V h1 K1 K2 hbr h3 h4 hlb2
          go_wp2_with fail
          refine wp_region_below (by kernel_rfl) (by kernel_rfl) ?_
          iterate 5 (quiet_step (fail))
          quiet_step ((go_at_call 15; exact cO _))
          repeat (quiet_step (fail))
          refine wpQuiet_nil ?_
          rintro _ ⟨bw, rfl⟩
          replace hB := below_step hB bw.hb
          clear cO p0 p1 p2 q0 q1 q2
          generalize bw.w = w6 at hB ⊢
          clear bw
          go_wp2_with fail
          go_ret
          exact ⟨rfl, hB⟩
    obtain ⟨e1, e2, e3⟩ := fate_none (l := L) (at_ := (j : Int)) f0 f1 f2
    simp only [e1, e2, e3] at cF
    clear e1 e2 e3
    have g0 : (f == 0) = false := by simpa using f0
    have g1 : (f == 1) = false := by simpa using f1
    have g2 : (f == 2) = false := by simpa using f2
    clear f0 f1 f2
    dsimp only [vW] at cF
    go_enter Try.func4, Try.ntmps4
    go_wp2_with fail
    refine (wawake_any C _).mono ?_
    rintro e w1 ⟨rfl, hb⟩
    replace V := V.later hb
    replace hB := below_step hB hb
    clear hb
    go_wp2_with fail
    refine (cFa _ V).mono ?_
    rintro e w' ⟨rfl, hww⟩
    obtain rfl := hww.symm
    clear cFa
    go_wp2_with fail
    refine (cF _ V).mono ?_
    clear cF
    rintro e w2 ⟨y1, k1, ⟨qs, qu, qx, qn, qc⟩, rfl, F1, h1, hb⟩
    replace V := V.later hb
    replace hB := below_step hB hb
    clear hb
    obtain rfl : qn = 0 := h1.n
    have K1 : C3 w2.heap.size (.int .i64 qs) (.bool qu) (.slice qx 0 qc) (w2.alloc (.cells #[.int .i64 qs, .bool qu, .slice qx 0 qc] 25)) := C3.new w2 _ _ _ _ rfl
    have hb := below_new w2 (.cells #[.int .i64 qs, .bool qu, .slice qx 0 qc] 25)
    replace V := V.later hb
    replace F1 := F1.later hb
    replace h1 := h1.later hb
    replace hB := below_step hB hb
    clear hb
    go_wp2_with fail
    generalize w2.alloc (.cells #[.int .i64 qs, .bool qu, .slice qx 0 qc] 25) = u1 at K1 V F1 h1 hB ⊢
    generalize w2.heap.size = N1 at K1 ⊢
    go_loopw [15] (fun vi wr => ∃ i : Nat, Hid (i ≤ L.length) ∧ vi = .int .i64 (i : Nat) ∧ Below u1.heap.size u1 wr) (fun vi _ => L.length - (intOf vi).toNat)
    case atStart => exact ⟨0, Nat.zero_le _, rfl, Below.refl _ _⟩
    case round =>
      obtain ⟨i, HI, rfl, hbr⟩ := hrel
      by_cases hlt : i < L.length
      · have hiz : (i : Int) < (L.length : Int) := by omega
        have HLT : Hid (i + 1 ≤ L.length) := hlt
        obtain ⟨r, hr⟩ := getW hlt
        have hr2 := hr
        have hk2 := (List.getElem?_eq_some_iff.1 hr2).1
        obtain ⟨b, o, x, m, ey, hlb, p0, p1, p2, h3⟩ := (F1.later hbr).at hr
        obtain ⟨b2, o2, y, n, ea, hlb2, q0, q1, q2, h4⟩ := (V.later hbr).at hr2
        subst ey; subst ea
        have p0 := cbw14 hlb p0
        have p1 := cbw14 hlb p1
        have p2 := cbw14 hlb p2
        have q0 := cbw14 hlb2 q0
        have q1 := cbw14 hlb2 q1
        have q2 := cbw14 hlb2 q2
        have cO := fun u : BW wr => calls_bw (p := u) (one14_any u.w (h3.later u.hb) (h4.later u.hb))
        rw [decide_eq_true rfl] at cO
        dsimp only [vW] at cO
        clear hr hr2 hlt HI hlb hlb2 h3 h4
        go_wp2_with fail
        refine wp_region_below (by kernel_rfl) (by kernel_rfl) ?_
        iterate 8 (quiet_step (fail))
        quiet_step ((go_at_call 15; exact cO _))
        repeat (quiet_step (fail))
        refine wpQuiet_nil ?_
        rintro _ ⟨bw, rfl⟩
        have hb6 := below_step hbr bw.hb
        clear cO p0 p1 p2 q0 q1 q2
        generalize bw.w = w6 at hb6 ⊢
        clear bw
        go_wp2_with fail
        go_roundw
        case rel => exact ⟨i + 1, HLT.out, by go_num, hb6⟩
        case measure => have h := HLT.out; simp [intOf]; omega
      · have hiz : ¬ (i : Int) < (L.length : Int) := by omega
        replace hB := below_step hB hbr
        clear hlt HI
        have K2 := K1.later hbr
        have K2z0 := K2.c0
        have K2z1 := K2.c1
        have K2z2 := K2.c2
        clear F1 V h1 K1 hbr
        go_wp2_with fail
        go_ret
        first | exact ⟨rfl, hB⟩ | exact ⟨ret_bool (by simp), hB⟩
end Go.Proofs.Ytoedgnkoahcblaa
