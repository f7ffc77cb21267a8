/- What the document's answers on tables come to: Size, where, Of, Same; and whether a table is few. -/
import Derived.Test.YtlfnciiomfcjpaaTabMem
import Derived.Test.YtlfnciiomfcjpaaPickRefs
namespace Go.Proofs.Ytlfnciiomfcjpaa
open Go.ChangeShapes Go.WideShapes Go.ChangeAt Go.RowKit Pk Tb R
set_option linter.unusedVariables false
set_option linter.unusedSimpArgs false

/-- the place as a number; -1: nowhere -/
def whereI (l : List Vr) (t : Int) : Int := match whereT l t with
  | some i => (i : Int)
  | none => -1
/-- at most 20 versions of at most 60 rules each -/
def Fw (l : List Vr) : Prop := l.length ≤ 20 ∧ ∀ v ∈ l, v.l.length ≤ 60
instance (l : List Vr) : Decidable (Fw l) := by unfold Fw; infer_instance
theorem mem_getD {l : List Vr} {k : Nat} (h : k < l.length) : l.getD k default ∈ l := by
  rw [List.getD_eq_getElem?_getD, List.getElem?_eq_getElem h]; exact List.getElem_mem h
theorem sizeZ (n m : Nat) (hn : n ≤ 10000) (hm : m ≤ 100) : wrap64 ((n : Int) + (m : Int)) = ((n + m : Nat) : Int) := by unfold wrap64; omega
theorem infoR9 : (Try.prog.info? 28).map (fun i => (i.zero, i.size, i.bytes)) = some (some (.agg #[.int .i64 0, .int .i64 0, .int .i64 0, .int .i64 0, .int .i64 0, .int .i64 0]), 6, 48) := by kernel_rfl
section
variable {B : Nat} {a : Option Addr} {c : Nat} {l : List Vr}
set_option maxHeartbeats 2000000 in
theorem rsize_any (w : World) (V : Vers B w a c l) (hs : Sm l) :
    Calls Try.prog 21 #[.slice a l.length c] w fun e w' => e = .returned (.int .i64 ((sizeT l : Nat) : Int)) ∧ Below w.heap.size w w' := by
  have HS : Hid (Sm l) := hs
  have hl100 : l.length ≤ 100 := hs.1
  clear hs
  go_enter Try.func21, Try.ntmps21
  go_wp2_with fail
  go_loopw [4, 3] (fun vi vn wr => ∃ k n : Nat, vi = .int .i64 (k : Nat) ∧ vn = .int .i64 (n : Nat) ∧ Hid (k ≤ l.length ∧ n = sizeT (l.take k)) ∧ Below w.heap.size w wr) (fun vi _ _ => l.length - (intOf vi).toNat)
  case atStart => exact ⟨0, 0, rfl, rfl, ⟨Nat.zero_le _, rfl⟩, Below.refl _ _⟩
  case round =>
    obtain ⟨k, n, rfl, rfl, HK, hbr⟩ := hrel
    by_cases hlt : k < l.length
    · have hkz : (k : Int) < (l.length : Int) := Int.ofNat_lt.2 hlt
      have gk := getD_atV hlt
      have HLT : Hid (k < l.length) := hlt
      have NX : Hid (n + (l.getD k default).l.length = sizeT (l.take (k + 1))) := by show _ = _; rw [size_take hlt, ← HK.out.2]
      have hm : (l.getD k default).l.length ≤ 100 := HS.out.2 _ (mem_getD hlt)
      have hn : n ≤ 10000 := by rw [HK.out.2]; exact size_sm (sm_take HS.out k)
      generalize l.getD k default = v at gk NX hm
      obtain ⟨b, o, x, kk, rfl, hbb, c0, c1, Rv, -⟩ := (V.later hbr).at gk
      clear hlt HK gk
      go_wp2_with fail
      go_roundw
      case rel => exact ⟨k + 1, n + v.l.length, by go_num, by go_num, ⟨HLT.out, NX.out⟩, hbr⟩
      case measure => have h := HLT.out; simp [intOf]; omega
    · have hke : k = l.length := by have h := HK.out.1; omega
      have hkz : ¬ (k : Int) < (l.length : Int) := by omega
      have HN : Hid (n = sizeT l) := by
        show _ = _
        rw [HK.out.2, hke, List.take_length]
      clear HK hlt hke
      go_wp2_with fail
      go_ret
      exact ⟨by rw [HN.out]; rfl, hbr⟩
set_option maxHeartbeats 2000000 in
theorem rwhere_any (w : World) (V : Vers B w a c l) (hl : l.length ≤ 100) (t : Int) :
    Calls Try.prog 39 #[.slice a l.length c, .int .i64 t] w fun e w' => e = .returned (.int .i64 (whereI l t)) ∧ Below w.heap.size w w' := by
  go_enter Try.func39, Try.ntmps39
  go_wp2_with fail
  go_loopw [5] (fun vi wr => ∃ k : Nat, vi = .int .i64 (k : Nat) ∧ Hid (k ≤ l.length ∧ ∀ i, i < k → ¬ (l.getD i default).t = t) ∧ Below w.heap.size w wr) (fun vi _ => l.length - (intOf vi).toNat)
  case atStart => exact ⟨0, rfl, ⟨Nat.zero_le _, fun i hi => absurd hi (Nat.not_lt_zero _)⟩, Below.refl _ _⟩
  case round =>
    obtain ⟨k, rfl, HK, hbr⟩ := hrel
    by_cases hlt : k < l.length
    · have hkz : (k : Int) < (l.length : Int) := Int.ofNat_lt.2 hlt
      have gk := getD_atV hlt
      have HLT : Hid (k < l.length) := hlt
      have NN : Hid (¬ (l.getD k default).t = t → ∀ i, i < k + 1 → ¬ (l.getD i default).t = t) := fun h i hi => by
        rcases Nat.lt_or_ge i k with h1 | h1
        · exact HK.out.2 i h1
        · rw [show i = k by omega]; exact h
      have NY : Hid ((l.getD k default).t = t → whereI l t = (k : Int)) := fun h => by unfold whereI; rw [where_scan hlt HK.out.2 h]
      generalize l.getD k default = v at gk NN NY
      obtain ⟨b, o, x, kk, rfl, hbb, c0, c1, Rv, -⟩ := (V.later hbr).at gk
      clear hlt HK gk Rv c1
      by_cases he : v.t = t
      · have N2 := show Hid _ from NY.out he
        have heb : (v.t == t) = true := by simpa using he
        clear he NN NY
        go_wp2_with fail
        go_ret
        exact ⟨by rw [N2.out]; rfl, hbr⟩
      · have N2 := show Hid _ from NN.out he
        have heb : (v.t == t) = false := by simpa using he
        clear he NN NY
        go_wp2_with fail
        go_roundw
        case rel => exact ⟨k + 1, by go_num, ⟨HLT.out, N2.out⟩, hbr⟩
        case measure => have h := HLT.out; simp [intOf]; omega
    · have hke : k = l.length := by have h := HK.out.1; omega
      have hkz : ¬ (k : Int) < (l.length : Int) := by omega
      have HN : Hid (whereI l t = -1) := by
        show _ = _
        unfold whereI
        rw [where_none (fun i hi => HK.out.2 i (by omega))]
      clear HK hlt hke
      go_wp2_with fail
      go_ret
      exact ⟨by rw [HN.out]; rfl, hbr⟩
set_option maxHeartbeats 2000000 in
theorem rof_own (w : World) (V : Vers B w a c l) (hs : Sm l) (t : Int) :
    Calls Try.prog 18 #[.slice a l.length c, .int .i64 t] w fun e w' => ∃ v : Value, e = .returned (.tuple #[v, .bool (ofT l t).isSome]) ∧ w'.ownsRow w.heap.size 28 6 v ((ofT l t).getD []).length (flatV fR ((ofT l t).getD [])) ∧ (∀ x ∈ (ofT l t).getD [], ∀ z ∈ fR x, (Lit.int .i64 z).wf = true) ∧ Below w.heap.size w w' := by
  have cW := rwhere_any w V hs.1 t
  have HO := show Hid _ from of_where l t
  generalize ofT l t = O at HO ⊢
  unfold whereI at cW
  cases hw : whereT l t with
  | none =>
    rw [hw] at cW
    obtain rfl : O = none := by rw [HO.out, hw]; rfl
    clear hw HO
    go_enter Try.func18, Try.ntmps18
    go_wp2_with fail
    refine cW.mono ?_
    clear cW
    rintro e w1 ⟨rfl, hb1⟩
    go_wp2_with fail
    go_ret2
    exact ⟨_, rfl, World.ownsRow_nil _ _ _ _, fun x hx => (nomatch hx), hb1⟩
  | some i =>
    rw [hw] at cW
    obtain ⟨hi, -, -⟩ := where_lt hw
    obtain rfl : O = some (l.getD i default).l := by rw [HO.out, hw]; rfl
    have gi := getD_atV hi
    have hm : (l.getD i default).l.length ≤ 100 := hs.2 _ (mem_getD hi)
    have hiz : (i : Int) < (l.length : Int) := Int.ofNat_lt.2 hi
    have hi0 : decide ((i : Int) < 0) = false := decide_eq_false (by omega)
    have hl100 := hs.1
    clear hw HO hs hi
    generalize l.getD i default = v at gi hm
    go_enter Try.func18, Try.ntmps18
    go_wp2_with fail
    refine cW.mono ?_
    clear cW
    rintro e w1 ⟨rfl, hb1⟩
    obtain ⟨b, o, x, kk, rfl, hbb, c0, c1, Rv, -⟩ := (V.later hb1).at gi
    have hs1 := hb1.size
    go_wp2_with (at_builtin; refine wpRds_join fR_len (by decide) rfl (.const (.slice none 0 0)) (.tmp 16) 36 rfl w.heap.size 28 48 _ Try.underlying36 infoR9 rfl (v := .slice none 0 0) (n := 0) (ys := []) rfl (World.ownsRow_nil _ _ _ _) rfl Rv rfl (by omega) (by decide) hs1 ?_; intro v4 w4 own4 hg4)
    simp only [Nat.zero_add, List.nil_append] at own4
    have hb4 := below_growR hb1 (World.ownsRow_nil _ _ 28 6) hg4 hs1
    have hwf := Rv.wf
    clear hg4
    go_ret2
    exact ⟨_, rfl, own4, hwf, hb4⟩
theorem rof_any (w : World) (V : Vers B w a c l) (hs : Sm l) (t : Int) :
    Calls Try.prog 18 #[.slice a l.length c, .int .i64 t] w fun e w' => ∃ (x : Option Addr) (k : Nat), e = .returned (.tuple #[.slice x ((ofT l t).getD []).length k, .bool (ofT l t).isSome]) ∧ (Rds fR 6 w' x k ((ofT l t).getD []) ∧ ∀ y, x = some y → w.heap.size ≤ y.block) ∧ Below w.heap.size w w' := by
  refine (rof_own w V hs t).mono ?_
  rintro e w' ⟨v, rfl, own, hwf, hb⟩
  obtain ⟨x, k, rfl, R, hx⟩ := rds_of_owns2 fR_len own rfl hwf
  exact ⟨x, k, rfl, ⟨R, fun y hy => (hx y hy).1⟩, hb⟩
set_option maxHeartbeats 2000000 in
theorem few_any (w : World) (V : Vers B w a c l) :
    Calls Try.prog 11 #[.slice a l.length c] w fun e w' => e = .returned (.bool (decide (Fw l))) ∧ Below w.heap.size w w' := by
  have hmx := Nat.le_trans V.le V.max
  unfold maxLen at hmx
  by_cases hl : 20 < l.length
  · have HF : Hid (decide (Fw l) = false) := decide_eq_false fun h => by have := h.1; omega
    have hlz : decide ((20 : Int) < (l.length : Int)) = true := decide_eq_true (by omega)
    go_enter Try.func11, Try.ntmps11
    go_wp2_with fail
    go_ret
    exact ⟨ret_bool HF.out.symm, Below.refl _ _⟩
  have HL : Hid (l.length ≤ 20) := by show _ ≤ _; omega
  have hl20 : l.length ≤ 20 := HL.out
  have hlz : decide ((20 : Int) < (l.length : Int)) = false := decide_eq_false (by omega)
  clear hmx hl
  go_enter Try.func11, Try.ntmps11
  go_wp2_with fail
  go_loopw [3] (fun vi wr => ∃ k : Nat, vi = .int .i64 (k : Nat) ∧ Hid (k ≤ l.length ∧ ∀ i, i < k → (l.getD i default).l.length ≤ 60) ∧ Below w.heap.size w wr) (fun vi _ => l.length - (intOf vi).toNat)
  case atStart => exact ⟨0, rfl, ⟨Nat.zero_le _, fun i hi => absurd hi (Nat.not_lt_zero _)⟩, Below.refl _ _⟩
  case round =>
    obtain ⟨k, rfl, HK, hbr⟩ := hrel
    by_cases hlt : k < l.length
    · have hkz : (k : Int) < (l.length : Int) := Int.ofNat_lt.2 hlt
      have gk := getD_atV hlt
      have HLT : Hid (k < l.length) := hlt
      have NN : Hid ((l.getD k default).l.length ≤ 60 → ∀ i, i < k + 1 → (l.getD i default).l.length ≤ 60) := fun h i hi => by
        rcases Nat.lt_or_ge i k with h1 | h1
        · exact HK.out.2 i h1
        · rw [show i = k by omega]; exact h
      have NY : Hid (¬ (l.getD k default).l.length ≤ 60 → decide (Fw l) = false) := fun h => decide_eq_false fun hf => h (hf.2 _ (mem_getD hlt))
      generalize l.getD k default = v at gk NN NY
      obtain ⟨b, o, x, kk, rfl, hbb, c0, c1, Rv, -⟩ := (V.later hbr).at gk
      have hvm := Nat.le_trans Rv.le Rv.max
      unfold maxLen at hvm
      clear hlt HK gk Rv c0
      by_cases he : v.l.length ≤ 60
      · have N2 := show Hid _ from NN.out he
        have heb : decide ((60 : Int) < (v.l.length : Int)) = false := decide_eq_false (by omega)
        clear NN NY
        go_wp2_with fail
        go_roundw
        case rel => exact ⟨k + 1, by go_num, ⟨HLT.out, N2.out⟩, hbr⟩
        case measure => have h := HLT.out; simp [intOf]; omega
      · have N2 := show Hid _ from NY.out he
        have heb : decide ((60 : Int) < (v.l.length : Int)) = true := decide_eq_true (by omega)
        clear NN NY
        go_wp2_with fail
        go_ret
        exact ⟨ret_bool N2.out.symm, hbr⟩
    · have hke : k = l.length := by have h := HK.out.1; omega
      have hkz : ¬ (k : Int) < (l.length : Int) := by omega
      have HF : Hid (decide (Fw l) = true) := decide_eq_true ⟨HL.out, fun v hv => by
        obtain ⟨i, hi, rfl⟩ := List.mem_iff_getElem.1 hv
        have := HK.out.2 i (by omega)
        rw [List.getD_eq_getElem?_getD, List.getElem?_eq_getElem hi] at this
        exact this⟩
      clear HK hlt hke
      go_wp2_with fail
      go_ret
      exact ⟨ret_bool HF.out.symm, hbr⟩
theorem sameV_take {l m : List Vr} {k : Nat} (h : l.take k = m.take k) (hl : k < l.length) (hm : k < m.length) (he : l.getD k default = m.getD k default) : l.take (k + 1) = m.take (k + 1) := by
  rw [takeV hl, takeV hm, h, he]
set_option maxHeartbeats 2000000 in
theorem rsame9_any (w : World) {B2 : Nat} {b : Option Addr} {d : Nat} {m : List Vr} (V : Vers B w a c l) (U : Vers B2 w b d m) :
    Calls Try.prog 14 #[.slice a l.length c, .slice b m.length d] w fun e w' => e = .returned (.bool (decide (l = m))) ∧ Below w.heap.size w w' := by
  have hmx := Nat.le_trans V.le V.max
  have hmy := Nat.le_trans U.le U.max
  unfold maxLen at hmx hmy
  by_cases hlen : l.length = m.length
  case neg =>
    have hne : decide (l = m) = false := decide_eq_false fun e => hlen (by rw [e])
    have hi : ¬ (l.length : Int) = (m.length : Int) := by omega
    have hb : ((l.length : Int) != (m.length : Int)) = true := by simpa using hi
    rw [hne]
    clear hne hlen hi hmx hmy
    go_enter Try.func14, Try.ntmps14
    go_wp2
    go_ret
    exact ⟨rfl, Below.refl _ _⟩
  have HL : Hid (l.length = m.length) := hlen
  rw [← hlen]
  have hk2 : (((l.length : Nat) : Int) != ((l.length : Nat) : Int)) = false := by simp
  clear hlen hmy
  go_enter Try.func14, Try.ntmps14
  go_wp2
  go_loopw [5] (fun i wr => ∃ k : Nat, i = .int .i64 k ∧ Hid (k ≤ l.length ∧ l.take k = m.take k) ∧ Below w.heap.size w wr) (fun i _ => l.length - (intOf i).toNat)
  case atStart => exact ⟨0, rfl, ⟨Nat.zero_le _, rfl⟩, Below.refl _ _⟩
  case round =>
    obtain ⟨k, rfl, HA, hbr⟩ := hrel
    by_cases hlt : k < l.length
    · have hkz : (k : Int) < (l.length : Int) := Int.ofNat_lt.2 hlt
      have hlm : k < m.length := by rw [← HL.out]; exact hlt
      have gl := getD_atV hlt
      have gm := getD_atV hlm
      have HLT : Hid (k < l.length) := hlt
      have NX : Hid (l.getD k default = m.getD k default → l.take (k + 1) = m.take (k + 1)) := fun he => sameV_take HA.out.2 hlt hlm he
      have NE : Hid (l.getD k default ≠ m.getD k default → decide (l = m) = false) := fun he => decide_eq_false fun e => he (by subst e; rfl)
      generalize l.getD k default = r at gl NX NE
      generalize m.getD k default = s at gm NX NE
      obtain ⟨b1, o1, x1, k1, rfl, hbb1, c0, c1, Rv, -⟩ := (V.later hbr).at gl
      obtain ⟨b2, o2, x2, kk2, rfl, hbb2, d0, d1, Ru, -⟩ := (U.later hbr).at gm
      obtain ⟨rt, rl⟩ := r
      obtain ⟨st, sl⟩ := s
      have cS := fun u : BW wr => calls_bw (p := u) (rsame8_any u.w (Rv.later u.hb) (Ru.later u.hb))
      dsimp only at c0 c1 d0 d1 cS
      have z1 := cell_bw hbb1 c1
      have y1 := cell_bw hbb2 d1
      clear hlt hlm HA gl gm c1 d1
      generalize hq : decide (rl = sl) = q at cS
      have HQ : Hid (decide (rl = sl) = q) := hq
      clear hq
      go_wp2_with fail
      refine wp_region_below (by kernel_rfl) (by kernel_rfl) ?_
      iterate 10 (quiet_step (fail))
      quiet_step ((go_at_call 19; exact cS _))
      repeat (quiet_step (fail))
      refine wpQuiet_nil ?_
      rintro _ ⟨bw, rfl⟩
      have hb3 := below_step hbr bw.hb
      have x0 := (bw.hb.cell (p := ⟨b1, o1 + k * 2, none⟩) hbb1).trans c0
      have y0 := (bw.hb.cell (p := ⟨b2, o2 + k * 2, none⟩) hbb2).trans d0
      clear cS z1 y1 c0 d0 hbr Rv Ru
      generalize bw.w = w3 at hb3 x0 y0 ⊢
      clear bw
      cases q with
      | false =>
        have N2 := show Hid _ from NE.out (fun he => by cases he; exact absurd HQ.out (by simp))
        clear NX NE HQ
        go_wp2_with fail
        first | (go_quiet (fail); go_wp2_with fail) | skip
        go_ret
        exact ⟨ret_bool N2.out.symm, by first | exact hb3 | exact hb3.trans (below_draws _ _ _)⟩
      | true =>
        by_cases het : rt = st
        · have N2 := show Hid _ from NX.out (by rw [het, of_decide_eq_true HQ.out])
          have heb : (rt != st) = false := by simpa using het
          clear NX NE HQ het
          go_wp2_with fail
          first | (go_quiet (fail); go_wp2_with fail) | skip
          go_roundw
          case rel => exact ⟨k + 1, by go_num, ⟨HLT.out, N2.out⟩, by first | exact hb3 | exact hb3.trans (below_draws _ _ _)⟩
          case measure => have h := HLT.out; simp [intOf]; omega
        · have N2 := show Hid _ from NE.out (fun he => by cases he; exact het rfl)
          have heb : (rt != st) = true := by simpa using het
          clear NX NE HQ het
          go_wp2_with fail
          first | (go_quiet (fail); go_wp2_with fail) | skip
          go_ret
          exact ⟨ret_bool N2.out.symm, by first | exact hb3 | exact hb3.trans (below_draws _ _ _)⟩
    · have hke : k = l.length := by have h := HA.out.1; omega
      have hkz : ¬ (k : Int) < (l.length : Int) := by omega
      have HF : Hid (decide (l = m) = true) := decide_eq_true (by
        have := HA.out.2
        rw [hke, List.take_length] at this
        rw [HL.out, List.take_length] at this
        exact this)
      clear HA hlt hke
      go_wp2_with fail
      go_ret
      exact ⟨ret_bool HF.out.symm, hbr⟩
end
end Go.Proofs.Ytlfnciiomfcjpaa
