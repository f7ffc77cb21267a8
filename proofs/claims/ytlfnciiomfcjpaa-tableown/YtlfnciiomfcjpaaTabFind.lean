/- The small functions of package table, and find at each of its closures. -/
import Derived.Test.YtlfnciiomfcjpaaTabOwn
import Derived.Test.YtlfnciiomfcjpaaTabFacts
namespace Go.Proofs.Ytlfnciiomfcjpaa
open Go.ChangeShapes Go.WideShapes Go.ChangeAt Go.RowKit Pk Tb R
set_option linter.unusedVariables false
set_option linter.unusedSimpArgs false

theorem findIdx_yes {α : Type} [Inhabited α] {p : α → Bool} {l : List α} {k : Nat} (h1 : k < l.length) (h2 : ∀ j, j < k → p (l.getD j default) = false) (h3 : p (l.getD k default) = true) : l.findIdx p = k := by
  have e : ∀ j, j < l.length → l.getD j default = l[j]! := fun j hj => by rw [List.getD_eq_getElem?_getD, getElem!_pos l j hj, List.getElem?_eq_getElem hj]; rfl
  refine (List.findIdx_eq h1).2 ⟨?_, fun j hj => ?_⟩
  · rw [e k h1, getElem!_pos l k h1] at h3; exact h3
  · have := h2 j hj
    rw [e j (by omega), getElem!_pos l j (by omega)] at this
    exact this
theorem findIdx_no {α : Type} [Inhabited α] {p : α → Bool} {l : List α} (h : ∀ j, j < l.length → p (l.getD j default) = false) : l.findIdx p = l.length := by
  refine List.findIdx_eq_length.2 fun x hx => ?_
  obtain ⟨j, hj, rfl⟩ := List.mem_iff_getElem.1 hx
  have := h j hj
  rw [List.getD_eq_getElem?_getD, List.getElem?_eq_getElem hj] at this
  exact this
theorem vtag_any (w : World) (t s : Int) (x : Option Addr) (n c T : Nat) (hT : T < w.heap.size) (hc : w.cell? ⟨T, 0, none⟩ = some (.int .i64 t)) :
    Calls Try.prog 48 #[.agg #[.int .i64 s, .slice x n c], .pointer (some ⟨T, 0, none⟩)] w fun e w' => e = .returned (.bool (s == t)) ∧ Below w.heap.size w w' := by
  have hb := below_new w (.cells #[.int .i64 s, .slice x n c] 47)
  have c0 := (hb.cell (p := ⟨T, 0, none⟩) hT).trans hc
  go_enter Try.func48, Try.ntmps48
  go_wp2
  go_ret
  exact ⟨rfl, hb⟩
theorem vgt_any (w : World) (t s : Int) (x : Option Addr) (n c T : Nat) (hT : T < w.heap.size) (hc : w.cell? ⟨T, 0, none⟩ = some (.int .i64 t)) :
    Calls Try.prog 34 #[.agg #[.int .i64 s, .slice x n c], .pointer (some ⟨T, 0, none⟩)] w fun e w' => e = .returned (.bool (decide (t < s))) ∧ Below w.heap.size w w' := by
  have hb := below_new w (.cells #[.int .i64 s, .slice x n c] 47)
  have c0 := (hb.cell (p := ⟨T, 0, none⟩) hT).trans hc
  go_enter Try.func34, Try.ntmps34
  go_wp2
  go_ret
  exact ⟨rfl, hb⟩
set_option maxHeartbeats 1000000 in
theorem find1_any (w : World) {B : Nat} {a : Option Addr} {c : Nat} {l : List Vr} (V : Vers B w a c l) (hl : l.length ≤ 1000) (t : Int) {T : Nat} (hT : T < w.heap.size) (hc : w.cell? ⟨T, 0, none⟩ = some (.int .i64 t)) :
    Calls Try.prog 33 #[.slice a l.length c, .func (.func 48) #[] #[.pointer (some ⟨T, 0, none⟩)]] w fun e w' => e = .returned (.int .i64 ((l.findIdx (fun v => v.t == t) : Nat) : Int)) ∧ Below w.heap.size w w' := by
  have HY : Hid (∀ k, k < l.length → (∀ j, j < k → ((l.getD j default).t == t) = false) → ((l.getD k default).t == t) = true → l.findIdx (fun v => v.t == t) = k) := fun k h1 h2 h3 => findIdx_yes h1 h2 h3
  have HN : Hid ((∀ j, j < l.length → ((l.getD j default).t == t) = false) → l.findIdx (fun v => v.t == t) = l.length) := fun h => findIdx_no h
  generalize l.findIdx (fun v => v.t == t) = res at HY HN
  go_enter Try.func33, Try.ntmps33
  go_wp2_with fail
  go_loopw [9] (fun vi wr => ∃ k : Nat, vi = .int .i64 (k : Nat) ∧ Hid (k ≤ l.length ∧ ∀ j, j < k → ((l.getD j default).t == t) = false) ∧ Below w.heap.size w wr) (fun vi _ => l.length - (intOf vi).toNat)
  case atStart => exact ⟨0, rfl, ⟨Nat.zero_le _, fun j hj => absurd hj (Nat.not_lt_zero _)⟩, Below.refl _ _⟩
  case round =>
    obtain ⟨k, rfl, HK, hbr⟩ := hrel
    by_cases hlt : k < l.length
    · have hkz : (k : Int) < (l.length : Int) := Int.ofNat_lt.2 hlt
      have gk := getD_atV hlt
      have HLT : Hid (k < l.length) := hlt
      have NN : Hid (((l.getD k default).t == t) = false → ∀ j, j < k + 1 → ((l.getD j default).t == t) = false) := fun hf j hj => by
        rcases Nat.lt_or_ge j k with h1 | h1
        · exact HK.out.2 j h1
        · rw [show j = k by omega]; exact hf
      have NY : Hid (((l.getD k default).t == t) = true → res = k) := fun hf => HY.out k HLT.out HK.out.2 hf
      generalize l.getD k default = v at gk NN NY
      obtain ⟨b, o, x, kk, rfl, hbb, c0, c1, R, hlo⟩ := V.at gk
      have x0 := (hbr.cell (p := ⟨b, o + k * 2, none⟩) hbb).trans c0
      have x1 := (hbr.cell (p := ⟨b, o + k * 2 + 1, none⟩) hbb).trans c1
      have hn := below_new wr (.cells #[.int .i64 v.t, .slice x v.l.length kk] 47)
      have cC := vtag_any (wr.alloc (.cells #[.int .i64 v.t, .slice x v.l.length kk] 47)) t v.t x v.l.length kk T (Nat.lt_of_lt_of_le hT (below_step hbr hn).size) (((below_step hbr hn).cell (p := ⟨T, 0, none⟩) hT).trans hc)
      generalize (v.t == t) = q at NN NY cC
      clear hlt gk HK c0 c1 R hlo
      go_wp2_with fail
      refine cC.mono ?_
      clear cC
      rintro e w2 ⟨rfl, hb2⟩
      have hbA := below_step (below_step hbr hn) hb2
      clear hn hb2 hbr x0 x1
      cases q with
      | false =>
        have N2 : Hid _ := NN.out rfl
        clear NN NY
        go_wp2_with fail
        go_roundw
        case rel => exact ⟨k + 1, by go_num, ⟨HLT.out, N2.out⟩, hbA⟩
        case measure => have h := HLT.out; simp [intOf]; omega
      | true =>
        obtain rfl := NY.out rfl
        clear NN NY
        go_wp2_with fail
        go_ret
        exact ⟨rfl, hbA⟩
    · have hke : k = l.length := by have h := HK.out.1; omega
      have hkz : ¬ (k : Int) < (l.length : Int) := by omega
      obtain rfl : res = l.length := HN.out (by rw [← hke]; exact HK.out.2)
      clear HK hke hlt HY HN
      go_wp2_with fail
      go_ret
      exact ⟨rfl, hbr⟩
set_option maxHeartbeats 1000000 in
theorem find2_any (w : World) {B : Nat} {a : Option Addr} {c : Nat} {l : List Vr} (V : Vers B w a c l) (hl : l.length ≤ 1000) (t : Int) {T : Nat} (hT : T < w.heap.size) (hc : w.cell? ⟨T, 0, none⟩ = some (.int .i64 t)) :
    Calls Try.prog 33 #[.slice a l.length c, .func (.func 34) #[] #[.pointer (some ⟨T, 0, none⟩)]] w fun e w' => e = .returned (.int .i64 ((l.findIdx (fun v => decide (t < v.t)) : Nat) : Int)) ∧ Below w.heap.size w w' := by
  have HY : Hid (∀ k, k < l.length → (∀ j, j < k → (decide (t < (l.getD j default).t)) = false) → (decide (t < (l.getD k default).t)) = true → l.findIdx (fun v => decide (t < v.t)) = k) := fun k h1 h2 h3 => findIdx_yes h1 h2 h3
  have HN : Hid ((∀ j, j < l.length → (decide (t < (l.getD j default).t)) = false) → l.findIdx (fun v => decide (t < v.t)) = l.length) := fun h => findIdx_no h
  generalize l.findIdx (fun v => decide (t < v.t)) = res at HY HN
  go_enter Try.func33, Try.ntmps33
  go_wp2_with fail
  go_loopw [9] (fun vi wr => ∃ k : Nat, vi = .int .i64 (k : Nat) ∧ Hid (k ≤ l.length ∧ ∀ j, j < k → (decide (t < (l.getD j default).t)) = false) ∧ Below w.heap.size w wr) (fun vi _ => l.length - (intOf vi).toNat)
  case atStart => exact ⟨0, rfl, ⟨Nat.zero_le _, fun j hj => absurd hj (Nat.not_lt_zero _)⟩, Below.refl _ _⟩
  case round =>
    obtain ⟨k, rfl, HK, hbr⟩ := hrel
    by_cases hlt : k < l.length
    · have hkz : (k : Int) < (l.length : Int) := Int.ofNat_lt.2 hlt
      have gk := getD_atV hlt
      have HLT : Hid (k < l.length) := hlt
      have NN : Hid ((decide (t < (l.getD k default).t)) = false → ∀ j, j < k + 1 → (decide (t < (l.getD j default).t)) = false) := fun hf j hj => by
        rcases Nat.lt_or_ge j k with h1 | h1
        · exact HK.out.2 j h1
        · rw [show j = k by omega]; exact hf
      have NY : Hid ((decide (t < (l.getD k default).t)) = true → res = k) := fun hf => HY.out k HLT.out HK.out.2 hf
      generalize l.getD k default = v at gk NN NY
      obtain ⟨b, o, x, kk, rfl, hbb, c0, c1, R, hlo⟩ := V.at gk
      have x0 := (hbr.cell (p := ⟨b, o + k * 2, none⟩) hbb).trans c0
      have x1 := (hbr.cell (p := ⟨b, o + k * 2 + 1, none⟩) hbb).trans c1
      have hn := below_new wr (.cells #[.int .i64 v.t, .slice x v.l.length kk] 47)
      have cC := vgt_any (wr.alloc (.cells #[.int .i64 v.t, .slice x v.l.length kk] 47)) t v.t x v.l.length kk T (Nat.lt_of_lt_of_le hT (below_step hbr hn).size) (((below_step hbr hn).cell (p := ⟨T, 0, none⟩) hT).trans hc)
      generalize (decide (t < v.t)) = q at NN NY cC
      clear hlt gk HK c0 c1 R hlo
      go_wp2_with fail
      refine cC.mono ?_
      clear cC
      rintro e w2 ⟨rfl, hb2⟩
      have hbA := below_step (below_step hbr hn) hb2
      clear hn hb2 hbr x0 x1
      cases q with
      | false =>
        have N2 : Hid _ := NN.out rfl
        clear NN NY
        go_wp2_with fail
        go_roundw
        case rel => exact ⟨k + 1, by go_num, ⟨HLT.out, N2.out⟩, hbA⟩
        case measure => have h := HLT.out; simp [intOf]; omega
      | true =>
        obtain rfl := NY.out rfl
        clear NN NY
        go_wp2_with fail
        go_ret
        exact ⟨rfl, hbA⟩
    · have hke : k = l.length := by have h := HK.out.1; omega
      have hkz : ¬ (k : Int) < (l.length : Int) := by omega
      obtain rfl : res = l.length := HN.out (by rw [← hke]; exact HK.out.2)
      clear HK hke hlt HY HN
      go_wp2_with fail
      go_ret
      exact ⟨rfl, hbr⟩
theorem vlike_any (w : World) (sa sn si sp sk st ra rn ri rp rk rt : Int) {T : Nat} (X : Lies w T [ra, rn, ri, rp, rk, rt]) :
    Calls Try.prog 30 #[.agg #[.int .i64 sa, .int .i64 sn, .int .i64 si, .int .i64 sp, .int .i64 sk, .int .i64 st], .pointer (some ⟨T, 0, none⟩)] w fun e w' => e = .returned (.bool (likeB sa sn si sp ra rn ri rp)) ∧ Below w.heap.size w w' := by
  have hb := below_new w (.cells #[.int .i64 sa, .int .i64 sn, .int .i64 si, .int .i64 sp, .int .i64 sk, .int .i64 st] 28)
  have Y := Lies.new w [sa, sn, si, sp, sk, st] 28 rfl
  have cA := ruAlike_any sa sn si sp sk st ra rn ri rp rk rt (w.alloc (.cells #[.int .i64 sa, .int .i64 sn, .int .i64 si, .int .i64 sp, .int .i64 sk, .int .i64 st] 28))
  obtain ⟨x0, x1, x2, x3, x4, x5⟩ := (X.later hb).six
  obtain ⟨y0, y1, y2, y3, y4, y5⟩ := Y.six
  go_enter Try.func30, Try.ntmps30
  go_wp2_with fail
  refine cA.mono ?_
  clear cA
  rintro e w2 ⟨rfl, hb2⟩
  go_wp2_with fail
  go_ret
  exact ⟨rfl, below_step hb hb2⟩
set_option maxHeartbeats 1000000 in
theorem find3_any (w : World) {a : Option Addr} {c : Nat} {l : List Rl} (V : Rds fR 6 w a c l) (hl : l.length ≤ 1000) (ra rn ri rp rk rt : Int) {T : Nat} (X : Lies w T [ra, rn, ri, rp, rk, rt]) :
    Calls Try.prog 29 #[.slice a l.length c, .func (.func 30) #[] #[.pointer (some ⟨T, 0, none⟩)]] w fun e w' => e = .returned (.int .i64 ((l.findIdx (fun s => alike s ⟨ra, rn, ri, rp, rk, rt⟩) : Nat) : Int)) ∧ Below w.heap.size w w' := by
  have HY : Hid (∀ k, k < l.length → (∀ j, j < k → alike (l.getD j default) ⟨ra, rn, ri, rp, rk, rt⟩ = false) → alike (l.getD k default) ⟨ra, rn, ri, rp, rk, rt⟩ = true → l.findIdx (fun s => alike s ⟨ra, rn, ri, rp, rk, rt⟩) = k) := fun k h1 h2 h3 => findIdx_yes h1 h2 h3
  have HN : Hid ((∀ j, j < l.length → alike (l.getD j default) ⟨ra, rn, ri, rp, rk, rt⟩ = false) → l.findIdx (fun s => alike s ⟨ra, rn, ri, rp, rk, rt⟩) = l.length) := fun h => findIdx_no h
  generalize l.findIdx (fun s => alike s ⟨ra, rn, ri, rp, rk, rt⟩) = res at HY HN
  go_enter Try.func29, Try.ntmps29
  go_wp2_with fail
  go_loopw [9] (fun vi wr => ∃ k : Nat, vi = .int .i64 (k : Nat) ∧ Hid (k ≤ l.length ∧ ∀ j, j < k → alike (l.getD j default) ⟨ra, rn, ri, rp, rk, rt⟩ = false) ∧ Below w.heap.size w wr) (fun vi _ => l.length - (intOf vi).toNat)
  case atStart => exact ⟨0, rfl, ⟨Nat.zero_le _, fun j hj => absurd hj (Nat.not_lt_zero _)⟩, Below.refl _ _⟩
  case round =>
    obtain ⟨k, rfl, HK, hbr⟩ := hrel
    by_cases hlt : k < l.length
    · have hkz : (k : Int) < (l.length : Int) := Int.ofNat_lt.2 hlt
      have gk := getD_at hlt
      have HLT : Hid (k < l.length) := hlt
      have NN : Hid (alike (l.getD k default) ⟨ra, rn, ri, rp, rk, rt⟩ = false → ∀ j, j < k + 1 → alike (l.getD j default) ⟨ra, rn, ri, rp, rk, rt⟩ = false) := fun hf j hj => by
        rcases Nat.lt_or_ge j k with h1 | h1
        · exact HK.out.2 j h1
        · rw [show j = k by omega]; exact hf
      have NY : Hid (alike (l.getD k default) ⟨ra, rn, ri, rp, rk, rt⟩ = true → res = k) := fun hf => HY.out k HLT.out HK.out.2 hf
      generalize l.getD k default = s at gk NN NY
      generalize hal : alike s ⟨ra, rn, ri, rp, rk, rt⟩ = q at NN NY
      obtain ⟨sa, sn, si, sp, sk, st⟩ := s
      obtain ⟨b, o, rfl, hbb, hc⟩ := V.at gk
      have c0 := hc 0 _ rfl
      have c1 := hc 1 _ rfl
      have c2 := hc 2 _ rfl
      have c3 := hc 3 _ rfl
      have c4 := hc 4 _ rfl
      have c5 := hc 5 _ rfl
      rw [Nat.add_zero] at c0
      have x0 := (hbr.cell (p := ⟨b, o + k * 6, none⟩) hbb).trans c0
      have x1 := (hbr.cell (p := ⟨b, o + k * 6 + 1, none⟩) hbb).trans c1
      have x2 := (hbr.cell (p := ⟨b, o + k * 6 + 2, none⟩) hbb).trans c2
      have x3 := (hbr.cell (p := ⟨b, o + k * 6 + 3, none⟩) hbb).trans c3
      have x4 := (hbr.cell (p := ⟨b, o + k * 6 + 4, none⟩) hbb).trans c4
      have x5 := (hbr.cell (p := ⟨b, o + k * 6 + 5, none⟩) hbb).trans c5
      have hn := below_new wr (.cells #[.int .i64 sa, .int .i64 sn, .int .i64 si, .int .i64 sp, .int .i64 sk, .int .i64 st] 28)
      have cC := vlike_any (wr.alloc (.cells #[.int .i64 sa, .int .i64 sn, .int .i64 si, .int .i64 sp, .int .i64 sk, .int .i64 st] 28)) sa sn si sp sk st ra rn ri rp rk rt (X.later (below_step hbr hn))
      rw [show likeB sa sn si sp ra rn ri rp = q from hal] at cC
      clear hlt gk HK hc c0 c1 c2 c3 c4 c5 hal
      go_wp2_with fail
      refine cC.mono ?_
      clear cC
      rintro e w2 ⟨rfl, hb2⟩
      have hbA := below_step (below_step hbr hn) hb2
      clear hn hb2 hbr x0 x1 x2 x3 x4 x5
      cases q with
      | false =>
        have N2 : Hid _ := NN.out rfl
        clear NN NY
        go_wp2_with fail
        go_roundw
        case rel => exact ⟨k + 1, by go_num, ⟨HLT.out, N2.out⟩, hbA⟩
        case measure => have h := HLT.out; simp [intOf]; omega
      | true =>
        obtain rfl := NY.out rfl
        clear NN NY
        go_wp2_with fail
        go_ret
        exact ⟨rfl, hbA⟩
    · have hke : k = l.length := by have h := HK.out.1; omega
      have hkz : ¬ (k : Int) < (l.length : Int) := by omega
      obtain rfl : res = l.length := HN.out (by rw [← hke]; exact HK.out.2)
      clear HK hke hlt HY HN
      go_wp2_with fail
      go_ret
      exact ⟨rfl, hbr⟩
theorem whereN_is : ∀ (l : List Vr) (t : Int), l.findIdx (fun v => v.t == t) = whereN l t
  | [], t => rfl
  | v :: l, t => by
    have ih := whereN_is l t
    unfold whereN at ih ⊢
    rw [List.findIdx_cons]
    by_cases h : v.t = t
    · rw [whereT, if_pos h, show (v.t == t) = true by simpa using h]; rfl
    · rw [whereT, if_neg h, show (v.t == t) = false by simpa using h, cond_false, ih]
      cases whereT l t <;> rfl
theorem version_any (w : World) {B : Nat} {a : Option Addr} {c : Nat} {l : List Vr} (V : Vers B w a c l) (hl : l.length ≤ 1000) (t : Int) :
    Calls Try.prog 27 #[.slice a l.length c, .int .i64 t] w fun e w' => e = .returned (.int .i64 ((whereN l t : Nat) : Int)) ∧ Below w.heap.size w w' := by
  have hmf : ∀ (fn : Fn) (first cap : Array Value) (w : World), (Instr.makeFunc fn first cap).run Try.prog w = .ok (.func fn first cap) w := fun _ _ _ _ => rfl
  have hn := below_new w (.cells #[.int .i64 t] 3)
  have X := Lies.new w [t] 3 rfl
  have cF := find1_any (w.alloc (.cells #[.int .i64 t] 3)) (V.later hn) hl t X.lt (X.cells 0 t rfl)
  rw [whereN_is] at cF
  go_enter Try.func27, Try.ntmps27
  go_wp2_with fail
  refine cF.mono ?_
  clear cF
  rintro e w2 ⟨rfl, hb2⟩
  go_wp2_with fail
  go_ret
  exact ⟨rfl, below_step hn hb2⟩
theorem rules_none (w : World) (a : Option Addr) (n c : Nat) :
    Calls Try.prog 28 #[.slice a n c, .int .i64 ((n : Nat) : Int)] w fun e w' => e = .returned (.tuple #[.slice none 0 0, .bool false]) ∧ w' = w := by
  go_enter Try.func28, Try.ntmps28
  go_wp2
  go_ret2
  exact ⟨rfl, rfl⟩
theorem rules_some (w : World) (b o n c i : Nat) (hi : i < n) (hn : n ≤ 1000) (t : Int) (x : Option Addr) (m k : Nat) (hc : w.cell? ⟨b, o + i * 2 + 1, none⟩ = some (.slice x m k)) :
    Calls Try.prog 28 #[.slice (some ⟨b, o, none⟩) n c, .int .i64 ((i : Nat) : Int)] w fun e w' => e = .returned (.tuple #[.slice x m k, .bool true]) ∧ w' = w := by
  have h0 : ((i : Int) == (n : Int)) = false := by simp; omega
  have h1 : (i : Int) < (n : Int) := by omega
  go_enter Try.func28, Try.ntmps28
  go_wp2
  go_ret2
  exact ⟨rfl, rfl⟩
theorem mayTag_any (w : World) (t : Int) :
    Calls Try.prog 26 #[.int .i64 t] w fun e w' => e = .returned (.bool (decide (1 ≤ t ∧ t ≤ 4095))) ∧ w' = w := by
  by_cases h : 1 ≤ t
  · have h0 : decide (1 ≤ t) = true := decide_eq_true h
    rw [show decide (1 ≤ t ∧ t ≤ 4095) = decide (t ≤ 4095) by simp [h]]
    go_enter Try.func26, Try.ntmps26
    go_wp2
    go_ret
    exact ⟨rfl, rfl⟩
  · have h0 : decide (1 ≤ t) = false := decide_eq_false h
    rw [show decide (1 ≤ t ∧ t ≤ 4095) = false by simp [h]]
    go_enter Try.func26, Try.ntmps26
    go_wp2
    go_ret
    exact ⟨rfl, rfl⟩
set_option maxHeartbeats 1000000 in
theorem size_any (w : World) {B : Nat} {a : Option Addr} {c : Nat} {l : List Vr} (V : Vers B w a c l) (hs : Sm l) :
    Calls Try.prog 20 #[.slice a l.length c] w fun e w' => e = .returned (.int .i64 ((sizeT l : Nat) : Int)) ∧ Below w.heap.size w w' := by
  have hl := hs.1
  have HS : Hid (Sm l) := hs
  clear hs
  go_enter Try.func20, Try.ntmps20
  go_wp2_with fail
  go_loopw [8, 3] (fun vi u wr => ∃ k : Nat, vi = .int .i64 (k : Nat) ∧ u = .int .i64 ((sizeT (l.take k) : Nat) : Int) ∧ Hid (k ≤ l.length) ∧ Below w.heap.size w wr) (fun vi _ _ => l.length - (intOf vi).toNat)
  case atStart => exact ⟨0, rfl, rfl, Nat.zero_le _, Below.refl _ _⟩
  case round =>
    obtain ⟨k, rfl, rfl, HK, hbr⟩ := hrel
    by_cases hlt : k < l.length
    · have hkz : (k : Int) < (l.length : Int) := Int.ofNat_lt.2 hlt
      have gk := getD_atV hlt
      have HLT : Hid (k < l.length) := hlt
      have N2 : Hid (sizeT (l.take (k + 1)) = sizeT (l.take k) + (l.getD k default).l.length) := size_take hlt
      have h1 := size_sm (sm_take HS.out k)
      have h2 := HS.out.2 _ (List.mem_of_getElem? gk)
      generalize sizeT (l.take k) = z at N2 h1
      generalize l.getD k default = v at gk N2 h2
      obtain ⟨b, o, x, kk, rfl, hbb, c0, c1, R, hlo⟩ := V.at gk
      have x0 := (hbr.cell (p := ⟨b, o + k * 2, none⟩) hbb).trans c0
      have x1 := (hbr.cell (p := ⟨b, o + k * 2 + 1, none⟩) hbb).trans c1
      have hn := below_new wr (.cells #[.int .i64 v.t, .slice x v.l.length kk] 47)
      clear hlt gk HK c0 c1 R hlo
      go_wp2_with fail
      go_roundw
      case rel => exact ⟨k + 1, by go_num, by rw [N2.out]; go_num, HLT.out, below_step hbr hn⟩
      case measure => have h := HLT.out; simp [intOf]; omega
    · have hke : k = l.length := by have h := HK.out; omega
      have hkz : ¬ (k : Int) < (l.length : Int) := by omega
      have HE : Hid (sizeT (l.take k) = sizeT l) := by show _ = _; rw [hke, List.take_length]
      rw [HE.out]
      clear HK hke hlt HE
      go_wp2_with fail
      go_ret
      exact ⟨rfl, hbr⟩
end Go.Proofs.Ytlfnciiomfcjpaa
