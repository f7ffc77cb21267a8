/- What the document's Of and All answer. -/
import Derived.Test.YtinmhjgnapbkmaaDigFeed
import Derived.Test.YtinmhjgnapbkmaaRuleRefPut
import Derived.Test.YtinmhjgnapbkmaaPickRefOrd
import Derived.Test.YtinmhjgnapbkmaaTabOpen
namespace Go.Proofs.Ytinmhjgnapbkmaa
open Go.ChangeShapes Go.WideShapes Go.ChangeAt Go.RowKit O Dg Pk Tb R
set_option linter.unusedVariables false
set_option linter.unusedSimpArgs false

theorem and_low (n : Int) : bits .and .i64 n 65535 = n % 65536 := by
  show IntKind.i64.wrap ((BitVec.ofInt 64 n &&& BitVec.ofInt 64 65535).toNat : Int) = _
  rw [BitVec.toNat_and, show (BitVec.ofInt 64 65535).toNat = 2 ^ 16 - 1 by decide, Nat.and_two_pow_sub_one_eq_mod, BitVec.toNat_ofInt, IntKind.wrap_i64]
  omega
theorem rput2_own (n : Int) (w : World) :
    Calls Try.prog 19 #[.int .i64 (n % 65536), .int .i64 2] w fun e w' => ∃ a c, e = .returned (.tuple #[.slice a 2 c, .int .i64 0]) ∧ w'.ownsRow w.heap.size 5 1 (.slice a 2 c) 2 ((wordL n).map (Value.int .u8)) ∧ Reads .u8 w' a c (wordL n) ∧ Below w.heap.size w w' := by
  refine (rput_own (n % 65536) 2 w).mono ?_
  rintro e w' ⟨a, c, rfl, R, own, hb⟩
  have hl : (putL (n % 65536) 2).length = 2 := word_len n
  rw [hl] at own ⊢
  rw [putE_yes (ok_word n)]
  exact ⟨a, c, rfl, own, R, hb⟩
theorem put2_of (n : Int) (hn : 0 ≤ n ∧ n ≤ 65535) (w : World) :
    Calls Try.prog 19 #[.int .i64 n, .int .i64 2] w fun e w' => ∃ a c, e = .returned (.tuple #[.slice a 2 c, .int .i64 0]) ∧ Reads .u8 w' a c (wordL n) ∧ Below w.heap.size w w' := by
  have h := rput2_own n w
  rw [show n % 65536 = n by omega] at h
  exact h.mono fun _ _ ⟨a, c, h1, _, h2, h3⟩ => ⟨a, c, h1, h2, h3⟩
section
variable {w : World} {ops : Array Oper} {rest : List Oper} {o : Oper} {a : Act} {Q : Exit → Act → World → Prop}
/-- 'append(s, x...)', s a row of bytes of the call's own, x whatever reads l: with the place of what comes back -/
theorem wpB_join (hgd : o.guard = none) (s x : Operand)
    (ho : o.op = .call { callee := .builtin .append, args := #[s, x], argTypes := #[48, 48] }) (B : Nat)
    {v : Value} {n : Nat} {ys : List Int} (hs : a.eval s = v) (hown : w.ownsRow B 5 1 v n (ys.map (Value.int .u8)))
    {ad : Addr} {m c : Nat} {l : List Int} (hx : a.eval x = .slice (some ad) m c) (R : Reads .u8 w (some ad) c l) (hm : l.length = m)
    (hb1 : n + m ≤ 1000000) (hB : B ≤ w.heap.size)
    (h : ∀ v' w', w'.ownsRow B 5 1 v' (n + m) ((ys ++ l).map (Value.int .u8)) → w.grownBy w' v.ownBlock → (∀ k, v'.ownBlock = some k → v.ownBlock = some k ∨ w.heap.size ≤ k) → wpList Try.prog ops Q rest (a.put o.dst v') w') : wpList Try.prog ops Q (o :: rest) a w := by
  obtain ⟨i0, hi, hz0, hz1, hz2⟩ := info_parts info8
  refine wpList_append_place hgd s x 48 ho B 5 i0 (.int .u8 0) 1 1 Try.underlying48 hi hz0 hz1 hz2 rfl (by decide) v n _ hs hown ad m c (l.map (Value.int .u8)) hx (by simp [hm]) (cells_of_reads R) (ints_oneCell _ _) (by unfold maxLen; omega) (by omega) hB ?_
  intro v' w' h1 h2 h3
  rw [← List.map_append] at h1
  exact h v' w' h1 h2 h3
theorem wpB_one (W : World) (z : Int) (hW : w = W.alloc (.cells #[.int .u8 z] 5)) (hgd : o.guard = none) (s x : Operand)
    (ho : o.op = .call { callee := .builtin .append, args := #[s, x], argTypes := #[48, 48] }) (B : Nat)
    {v : Value} {n : Nat} {ys : List Int} (hs : a.eval s = v) (hown : W.ownsRow B 5 1 v n (ys.map (Value.int .u8)))
    (hx : a.eval x = .slice (some ⟨W.heap.size, 0, none⟩) 1 1)
    (hb1 : n + 1 ≤ 1000000) (hB : B ≤ W.heap.size)
    (h : ∀ v' w', w'.ownsRow B 5 1 v' (n + 1) ((ys ++ [z]).map (Value.int .u8)) → w.grownBy w' v.ownBlock → (∀ k, v'.ownBlock = some k → v.ownBlock = some k ∨ w.heap.size ≤ k) → wpList Try.prog ops Q rest (a.put o.dst v') w') : wpList Try.prog ops Q (o :: rest) a w := by
  subst hW
  obtain ⟨i0, hi, hz0, hz1, hz2⟩ := info_parts info8
  refine wpList_append_place hgd s x 48 ho B 5 i0 (.int .u8 0) 1 1 Try.underlying48 hi hz0 hz1 hz2 rfl (by decide) v n _ hs (hown.alloc _) _ 1 1 [.int .u8 z] hx rfl (cell_one_new _ _ _) (ints_oneCell .u8 [z]) (by unfold maxLen; omega) (by omega) (by simp; omega) ?_
  intro v' w' h1 h2 h3
  exact h v' w' (by rw [List.map_append]; exact h1) h2 h3
end
theorem rsum_at (w : World) {a : Option Addr} {c n : Nat} {l : List Int} (R : Reads .u8 w a c l) (hn : l.length = n) (hl : l.length ≤ 100000) :
    Calls Try.prog 22 #[.slice a n c] w fun e w' => e = .returned (.int .i64 (sumN l)) ∧ w' = w := by
  subst hn
  exact rsum_any w R hl
set_option maxRecDepth 100000 in
set_option maxHeartbeats 4000000 in
theorem rof_any10 (t : Int) (w : World) {a : Option Addr} {c : Nat} {l : List Rl} (R : Rds fR 6 w a c l) (hl : l.length ≤ 100) :
    Calls Try.prog 12 #[.int .i64 t, .slice a l.length c] w fun e w' => e = .returned (.int .i64 (ofN t l)) ∧ Below w.heap.size w w' := by
  have hand := and_low t
  have c1 := rput2_own t w
  have hlen : (sortL l).length = l.length := (sort_perm l).length_eq
  have HO : Hid (ofN t l = sumN (wordL t ++ rusB (sortL l))) := rfl
  generalize ofN t l = res at HO
  go_enter Try.func12, Try.ntmps12
  go_wp2_with fail
  refine c1.mono ?_
  clear c1
  rintro e w1 ⟨a1, k1, rfl, own1, -, hb1⟩
  have c2 := rorder8_any w1 (R.later hb1) hl
  go_wp2_with fail
  refine c2.mono ?_
  clear c2
  rintro e w2 ⟨x, k2, rfl, ⟨R2, hx2⟩, hb2⟩
  have HX : Hid (∀ j y, (Value.slice a1 2 k1).ownBlock = some j → x = some y → j ≠ y.block) := fun j y hj hy e => by
    have h1 := (own1.lt j hj).2
    have h2 := hx2 y hy
    omega
  have own2 := own_laterR own1 hb2
  have hbA := below_step hb1 hb2
  clear hb1 hb2 own1 R
  generalize sortL l = O at R2 hlen HO ⊢
  have hO100 : O.length ≤ 100 := by omega
  clear hlen hl
  go_wp2_with fail
  go_loopw [5, 8] (fun vb vi wr => ∃ k : Nat, vi = .int .i64 (k : Nat) ∧ Hid (k ≤ O.length) ∧ Hid (wr.ownsRow w.heap.size 5 1 vb (wordL t ++ rusB (O.take k)).length ((wordL t ++ rusB (O.take k)).map (Value.int .u8))) ∧ Hid (Below w.heap.size w wr) ∧ Rds fR 6 wr x k2 O ∧ Hid (∀ j y, vb.ownBlock = some j → x = some y → j ≠ y.block)) (fun _ vi _ => O.length - (intOf vi).toNat)
  case atStart => exact ⟨0, rfl, Nat.zero_le _, (show World.ownsRow _ _ _ _ _ _ _ by simpa [rusB_nil, word_len] using own2), hbA, R2, HX⟩
  case round =>
    obtain ⟨k, rfl, HK, HW, HB, RO, HX⟩ := hrel
    by_cases hlt : k < O.length
    · have hkz : (k : Int) < (O.length : Int) := Int.ofNat_lt.2 hlt
      obtain ⟨b, o, rfl, hbr1, hc⟩ := RO.at (getD_at hlt)
      have HTK : Hid (wordL t ++ rusB (O.take (k + 1)) = (wordL t ++ rusB (O.take k)) ++ ruB (O.getD k default)) := by
        show _ = _
        rw [List.take_add_one, getD_at hlt, List.append_assoc]
        exact congrArg _ (rusB_snoc _ _)
      have HPL : Hid ((wordL t ++ rusB (O.take k)).length ≤ 10000) := by
        show _ ≤ _
        have h1 := rusB_len (O.take k)
        rw [List.length_take] at h1
        rw [List.length_append, word_len]
        omega
      have HLT : Hid (k < O.length) := hlt
      clear hlt
      generalize O.getD k default = r at hc HTK
      obtain ⟨ra, rn, ri, rp, rk, rt⟩ := r
      have v0 := hc 0 _ rfl
      have v1 := hc 1 _ rfl
      have v2 := hc 2 _ rfl
      have v3 := hc 3 _ rfl
      have v4 := hc 4 _ rfl
      have v5 := hc 5 _ rfl
      simp only [Nat.add_zero] at v0
      clear hc
      generalize wordL t ++ rusB (O.take k) = P at HW HPL HTK
      have own := HW.out
      obtain ⟨yv, cv, rfl⟩ := own_slice own
      have hw0 := HB.out.size
      have hpl := HPL.out
      cases hm : okR ra rn ri rp rk rt
      · have HR : Hid (ruB ⟨ra, rn, ri, rp, rk, rt⟩ = []) := ruB_no hm
        have cp := fun (w : World) => rrPut_bad hm w
        go_wp2_with fail
        refine (cp _).mono ?_
        clear cp
        rintro e w4 ⟨rfl, hb4⟩
        go_wp2_with fail
        go_roundw
        case rel => exact ⟨k + 1, by go_num, HLT.out, (show World.ownsRow _ _ _ _ _ _ _ by rw [HTK.out, HR.out, List.append_nil]; exact own_laterR own hb4), HB.out.trans (hb4.mono hw0), RO.later hb4, HX⟩
        case measure => have h := HLT.out; simp [intOf]; omega
      · have HR : Hid (ruB ⟨ra, rn, ri, rp, rk, rt⟩ = bodyR ra rn ri rp rk rt ++ [0]) := ruB_yes hm
        have HRL : Hid ((bodyR ra rn ri rp rk rt).length = 9) := body_len hm
        have cp := fun (w : World) => rrPut_ok hm w
        go_wp2_with fail
        refine (cp _).mono ?_
        clear cp
        rintro e w4 ⟨y, k4, rfl, R4, hb4⟩
        have own4 := own_laterR own hb4
        have hs4 := hb4.size
        obtain ⟨by4, oy4, rfl, hby4, -⟩ := R4.cells (by intro h; have := HRL.out; rw [h] at this; cases this)
        go_wp2_with (first
          | (at_builtin; refine wpB_join rfl _ _ rfl w.heap.size rfl own4 rfl R4 HRL.out (by omega) (by omega) ?_; intro v5 w5 own5 hg5 hp5; obtain ⟨y5, c5, rfl⟩ := own_slice own5; have hb5 := below_grow (hb4.mono hw0) own4 hg5 (by omega); have hs5 := hb5.size)
          | (at_builtin; refine wpB_one _ 0 rfl rfl _ _ rfl w.heap.size rfl own5 rfl (by omega) (by omega) ?_; intro v6 w6 own6 hg6 hp6; obtain ⟨y6, c6, rfl⟩ := own_slice own6))
        have k5 := (Keeps.of_below (S := fun j => (Value.slice yv P.length cv).ownBlock = some j) hb4).trans (keeps_grown hg5) (fun j _ e => e)
        have k6 := (k5.trans (Keeps.of_below (S := fun _ => False) (below_new w5 _)) (fun j _ e => e.elim)).trans (keeps_grown hg6) (fun j hj e => by
          rcases hp5 j e with h | h
          · exact h
          · omega)
        have HX6 : Hid (∀ j y, (Value.slice y6 (P.length + 9 + 1) c6).ownBlock = some j → (some (⟨b, o, none⟩ : Addr)) = some y → j ≠ y.block) := fun j y hj hy => by
          cases hy
          intro e
          have e : j = b := e
          have h5s := k5.size
          rcases hp6 j hj with h | h
          · rcases hp5 j h with h | h
            · exact HX.out j _ h rfl e
            · omega
          · rw [World.size_alloc] at h
            omega
        have RO6 := RO.kept k6 (fun y hy _ h => HX.out _ y h hy rfl)
        have hb6 : Below w.heap.size w w6 := HB.out.trans (k6.below hw0 (fun j e => (own.lt j e).1))
        clear hg5 hg6 hp5 hp6 k5 k6 own5 own4 hb5 hb4 own
        go_roundw
        case rel => exact ⟨k + 1, by go_num, HLT.out, (show World.ownsRow _ _ _ _ _ _ _ by rw [HTK.out, HR.out, ← List.append_assoc, List.length_append, List.length_append, HRL.out]; exact own6), hb6, RO6, HX6⟩
        case measure => have h := HLT.out; simp [intOf]; omega
    · have hke : k = O.length := by have h := HK.out; omega
      have hkz : ¬ (k : Int) < (O.length : Int) := by omega
      have own := HW.out
      rw [hke, List.take_length] at own
      have HL : Hid ((wordL t ++ rusB O).length ≤ 10000) := by
        show _ ≤ _
        have h1 := rusB_len O
        rw [List.length_append, word_len]
        omega
      obtain ⟨y, c5, rfl, R5, -⟩ := reads_of_owns own (fun z hz => by
        rcases List.mem_append.1 hz with h | h
        · exact wf_u8_mk (word_oct t z h).1 (word_oct t z h).2
        · exact wf_u8_mk (rusB_oct O z h).1 (rusB_oct O z h).2)
      clear hke hlt HK HW own
      generalize wordL t ++ rusB O = P at HO HL R5
      have cs := rsum_any wr R5 (Nat.le_trans HL.out (by decide))
      go_wp2_with fail
      refine cs.mono ?_
      rintro e w9 ⟨rfl, rfl⟩
      go_wp2_with fail
      go_ret
      exact ⟨ret_int HO.out.symm, HB.out⟩
theorem kept_is {w W w3 : World} {b1 o1 b2 o2 : Nat} {n : Int} {v : Value} (hb : Below W.heap.size W w3) (h : Below w.heap.size w W ∧ W.cell? ⟨b1, o1, none⟩ = some (.int .i64 n) ∧ W.cell? ⟨b2, o2, none⟩ = some v) :
    Below w.heap.size w w3 ∧ w3.cell? ⟨b1, o1, none⟩ = some (.int .i64 n) ∧ w3.cell? ⟨b2, o2, none⟩ = some v :=
  ⟨below_step h.1 hb, (hb.cell (p := ⟨b1, o1, none⟩) (World.block_lt_of_cell? W _ h.2.1)).trans h.2.1, (hb.cell (p := ⟨b2, o2, none⟩) (World.block_lt_of_cell? W _ h.2.2)).trans h.2.2⟩
set_option maxRecDepth 100000 in
set_option maxHeartbeats 4000000 in
theorem rall_any10 (w : World) {a : Option Addr} {c : Nat} {l : List Vr} (V : Vers 0 w a c l) (hl : l.length ≤ 100) (hl2 : ∀ v ∈ l, v.l.length ≤ 100) :
    Calls Try.prog 14 #[.slice a l.length c] w fun e w' => e = .returned (.int .i64 (allN l)) ∧ Below w.heap.size w w' := by
  have HO : Hid (allN l = sumN (allL l)) := rfl
  generalize allN l = res at HO
  go_enter Try.func14, Try.ntmps14
  go_wp2_with fail
  go_loopw [3, 4] (fun vb vi wr => ∃ k : Nat, vi = .int .i64 (k : Nat) ∧ Hid (k ≤ l.length) ∧ Hid (wr.ownsRow w.heap.size 5 1 vb (allL (l.take k)).length ((allL (l.take k)).map (Value.int .u8))) ∧ Hid (Below w.heap.size w wr)) (fun _ vi _ => l.length - (intOf vi).toNat)
  case atStart => exact ⟨0, rfl, Nat.zero_le _, (show World.ownsRow _ _ _ _ _ _ _ from World.ownsRow_nil _ _ _ _), Below.refl _ _⟩
  case round =>
    obtain ⟨k, rfl, HK, HW, HB⟩ := hrel
    by_cases hlt : k < l.length
    · have hkz : (k : Int) < (l.length : Int) := Int.ofNat_lt.2 hlt
      obtain ⟨b, o, x, kk, rfl, hbb, v0, v1, Rv, -⟩ := (V.later HB.out).at (getD_atV hlt)
      have HTK : Hid (allL (l.take (k + 1)) = allL (l.take k) ++ wordL (ofN (l.getD k default).t (l.getD k default).l)) := by
        show _ = _
        rw [List.take_add_one, getD_atV hlt]
        exact allL_snoc _ _
      have HPL : Hid ((allL (l.take k)).length ≤ 10000) := by
        show _ ≤ _
        rw [allL_len, List.length_take]
        omega
      have hvl : (l.getD k default).l.length ≤ 100 := hl2 _ (by rw [List.getD_eq_getElem?_getD, List.getElem?_eq_getElem hlt]; exact List.getElem_mem hlt)
      have HLT : Hid (k < l.length) := hlt
      clear hlt
      generalize l.getD k default = r at v0 v1 Rv HTK hvl
      obtain ⟨rt, rl⟩ := r
      dsimp only at v0 v1 Rv HTK hvl
      have cp := fun w => put2_of (ofN rt rl) (ofN_bd rt rl) w
      generalize allL (l.take k) = P at HW HPL HTK
      have own := HW.out
      have hw0 := HB.out.size
      have hpl := HPL.out
      have co := fun w' (h : Below wr.heap.size wr w' ∧ w'.cell? ⟨b, o + k * 2, none⟩ = some (.int .i64 rt) ∧ w'.cell? ⟨b, o + k * 2 + 1, none⟩ = some (.slice x rl.length kk)) => rof_any10 rt w' (Rv.later h.1) hvl
      have S0 : Below wr.heap.size wr wr.drew ∧ wr.drew.cell? ⟨b, o + k * 2, none⟩ = some (.int .i64 rt) ∧ wr.drew.cell? ⟨b, o + k * 2 + 1, none⟩ = some (.slice x rl.length kk) := ⟨(Below.refl _ _).drew, v0, v1⟩
      go_wp2_with fail
      go_region_held3 (fun w' => Below wr.heap.size wr w' ∧ w'.cell? ⟨b, o + k * 2, none⟩ = some (.int .i64 rt) ∧ w'.cell? ⟨b, o + k * 2 + 1, none⟩ = some (.slice x rl.length kk)) (first | assumption | exact kept_is (by assumption) (by assumption))
          (first | (go_at_call 12; refine (co _ (by assumption)).mono ?_; rintro e w1 ⟨rfl, hbq⟩) | (go_at_call 19; refine (cp _).mono ?_; rintro e w4 ⟨y, k4, rfl, R4, hb4⟩))
      have hb3 : Below wr.heap.size wr w4 := (‹Below wr.heap.size wr w4 ∧ _›).1
      have own4 := own_laterR own hb3
      have hs4 := hb3.size
      have hwl := word_len (ofN rt rl)
      clear co cp
      go_wp2_with (at_builtin; refine wpList_join rfl _ _ 48 rfl w.heap.size 5 1 Try.underlying48 info8 rfl own4 rfl R4 hwl (by omega) (by omega) (by omega) ?_; intro v5 w5 own5 hg5)
      go_roundw
      case rel => exact ⟨k + 1, by go_num, HLT.out, (show World.ownsRow _ _ _ _ _ _ _ by rw [HTK.out, List.length_append, hwl]; exact own5), below_grow (HB.out.trans (hb3.mono hw0)) own4 hg5 (by omega)⟩
      case measure => have h := HLT.out; simp [intOf]; omega
    · have hke : k = l.length := by have h := HK.out; omega
      have hkz : ¬ (k : Int) < (l.length : Int) := by omega
      have own := HW.out
      rw [hke, List.take_length] at own
      have HL : Hid ((allL l).length ≤ 10000) := by
        show _ ≤ _
        rw [allL_len]; omega
      obtain ⟨y, c5, rfl, R5, -⟩ := reads_of_owns own (fun z hz => wf_u8_mk (allL_oct l z hz).1 (allL_oct l z hz).2)
      clear hke hlt HK HW own
      generalize allL l = P at HO HL R5
      have cs := rsum_any wr R5 (Nat.le_trans HL.out (by decide))
      go_wp2_with fail
      refine cs.mono ?_
      rintro e w9 ⟨rfl, rfl⟩
      go_wp2_with fail
      go_ret
      exact ⟨ret_int HO.out.symm, HB.out⟩
end Go.Proofs.Ytinmhjgnapbkmaa
