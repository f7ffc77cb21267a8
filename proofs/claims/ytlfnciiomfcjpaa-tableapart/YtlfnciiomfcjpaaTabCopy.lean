/- Copies: of rules, of versions, of a whole table; what the code's Of answers. -/
import Derived.Test.YtlfnciiomfcjpaaTabFind
import Derived.Test.YtlfnciiomfcjpaaTabPut2
import Derived.Lib.Walk
namespace Go.Proofs.Ytlfnciiomfcjpaa
open Go.ChangeShapes Go.WideShapes Go.ChangeAt Go.RowKit Pk Tb R
set_option linter.unusedVariables false
set_option linter.unusedSimpArgs false

theorem cloneR_any (w : World) {a : Option Addr} {c : Nat} {l : List Rl} (R : Rds fR 6 w a c l) (hl : l.length ≤ 1000) :
    Calls Try.prog 41 #[.slice a l.length c] w fun e w' => ∃ u, e = .returned u ∧ w'.ownsRow w.heap.size 28 6 u l.length (flatV fR l) ∧ Below w.heap.size w w' := by
  have q22 : ∀ (w : World) (a : Option Addr) (n c n' c' : Nat), (binOp .eql 36 (.slice a n c) (.slice none n' c')).run Try.prog w = .ok (.bool a.isNone) w := fun w a n c n' c' => Lib.run_eql_slice_nil w _ _ a n c n' c' Try.underlying36
  cases a with
  | none =>
    have hc := R.nil rfl
    have h0 : l = [] := List.eq_nil_of_length_eq_zero (by have := R.le; omega)
    subst h0
    go_enter Try.func41, Try.ntmps41
    go_wp2
    go_ret
    exact ⟨_, rfl, World.ownsRow_nil _ _ _ _, Below.refl _ _⟩
  | some x =>
    have hn := below_new w (.cells #[] 28)
    have own := World.ownsRow_made (base := w.heap.size) (e := 28) (size := 6) w #[] 0 (Nat.le_refl _) (Nat.zero_le _) rfl
    have R2 := R.later hn
    go_enter Try.func41, Try.ntmps41
    go_wp2_with (at_builtin; refine wpRds_join fR_len (by decide) rfl (.tmp 5) (.tmp 6) 36 rfl w.heap.size 28 48 _ Try.underlying36 infoR9 rfl (n := 0) (ys := []) rfl own rfl R2 rfl (by omega) (by decide) hn.size ?_; intro v4 w4 own4 hg4)
    simp only [Nat.zero_add, List.nil_append] at own4
    go_ret
    exact ⟨_, rfl, own4, below_growR hn own hg4 hn.size⟩
theorem cloneV_any (w : World) {a : Option Addr} {c n : Nat} {ps : List Vc} (R : Rdv fV 2 w a c ps) (hn : ps.length = n) (hl : n ≤ 1000) :
    Calls Try.prog 47 #[.slice a n c] w fun e w' => ∃ u, e = .returned u ∧ w'.ownsRow w.heap.size 47 2 u n (flatW fV ps) ∧ Below w.heap.size w w' := by
  have q22 : ∀ (w : World) (a : Option Addr) (n c n' c' : Nat), (binOp .eql 22 (.slice a n c) (.slice none n' c')).run Try.prog w = .ok (.bool a.isNone) w := fun w a n c n' c' => Lib.run_eql_slice_nil w _ _ a n c n' c' Try.underlying22
  cases a with
  | none =>
    have hc := R.nil rfl
    have h0 : ps = [] := List.eq_nil_of_length_eq_zero (by have := R.le; omega)
    subst h0
    obtain rfl : n = 0 := hn.symm
    go_enter Try.func47, Try.ntmps47
    go_wp2
    go_ret
    exact ⟨_, rfl, World.ownsRow_nil _ _ _ _, Below.refl _ _⟩
  | some x =>
    have hb := below_new w (.cells #[] 47)
    have own := World.ownsRow_made (base := w.heap.size) (e := 47) (size := 2) w #[] 0 (Nat.le_refl _) (Nat.zero_le _) rfl
    have R2 := R.later hb
    have HN : Hid (ps.length = n) := hn
    clear hn
    go_enter Try.func47, Try.ntmps47
    go_wp2_with (at_builtin; refine wpRdv_join fV_len fV_one (by decide) rfl (.tmp 5) (.tmp 6) 22 rfl w.heap.size 47 32 _ Try.underlying22 infoV9 rfl (n := 0) (ys := []) rfl own rfl R2 HN.out (by omega) (by decide) hb.size ?_; intro v4 w4 own4 hg4 hp4)
    simp only [Nat.zero_add, List.nil_append] at own4
    go_ret
    exact ⟨_, rfl, own4, below_growW hb own hg4 hb.size⟩
set_option maxHeartbeats 2000000 in
theorem copied_any (w : World) {B : Nat} {a : Option Addr} {c : Nat} {l : List Vr} (V : Vers B w a c l) (hs : Sm l) :
    Calls Try.prog 25 #[.slice a l.length c] w fun e w' => ∃ u, e = .returned u ∧ Mine w.heap.size w' u l ∧ Below w.heap.size w w' := by
  have hl := hs.1
  have HS : Hid (Sm l) := hs
  clear hs
  obtain ⟨ps, Rp, hlo, hall⟩ := V
  have HPL : Hid (ps.length = l.length) := all2_len hall
  have cV := cloneV_any w Rp HPL.out (by omega)
  clear Rp hlo
  go_enter Try.func25, Try.ntmps25
  go_wp2_with fail
  refine cV.mono ?_
  clear cV
  rintro e w1 ⟨u, rfl, own1, hb1⟩
  have M1 : MineK w.heap.size w1 u l ps 0 := MineK.zero own1
  obtain ⟨a1, c1, rfl, -⟩ := rdv_of_owns fV_len own1 HPL.out
  clear own1
  go_wp2_with fail
  go_loopw [10] (fun vi wr => ∃ k : Nat, vi = .int .i64 (k : Nat) ∧ Hid (k ≤ l.length) ∧ MineK w.heap.size wr (.slice a1 l.length c1) l ps k ∧ Below w.heap.size w wr) (fun vi _ => l.length - (intOf vi).toNat)
  case atStart => exact ⟨0, rfl, Nat.zero_le _, M1, hb1⟩
  case round =>
    obtain ⟨k, rfl, HK, M, hbr⟩ := hrel
    by_cases hlt : k < l.length
    · have hkz : (k : Int) < (l.length : Int) := Int.ofNat_lt.2 hlt
      have gk := getD_atV hlt
      have HLT : Hid (k < l.length) := hlt
      have hv := HS.out.2 _ (List.mem_of_getElem? gk)
      generalize l.getD k default = v at gk hv
      obtain ⟨p, hp, hat⟩ := all2_get hall gk
      obtain ⟨g, cap, e, hbg, hgl, c0, c1, fz, hput⟩ := M.next HPL.out hp gk hat.t hat.wf hat.R.wf
      injection e with e1 e2 e3
      subst e1
      rw [hat.n] at c1
      have hn := below_new wr (.cells #[.int .i64 p.t, .slice p.x v.l.length p.c] 47)
      have cR := cloneR_any (wr.alloc (.cells #[.int .i64 p.t, .slice p.x v.l.length p.c] 47)) (hat.R.later (below_step hbr hn)) (by omega)
      have hwf := hat.R.wf
      have HPUT : Hid _ := hput
      clear hlt gk HK M hp hat hput e3
      go_wp2_with fail
      refine cR.mono ?_
      clear cR
      rintro e w3 ⟨u3, rfl, own3, hb3⟩
      obtain ⟨x3, k3, rfl, -⟩ := rds_of_owns fR_len own3 rfl hwf
      have hb4 := below_step hn hb3
      have d1 := (hb4.cell (p := ⟨g, k * 2 + 1, none⟩) hgl).trans c1
      have f1 := (hb4.frozen (p := ⟨g, k * 2 + 1, none⟩) hgl).trans (fz _)
      have M2 := HPUT.out w3 x3 k3 hb4 (own_base own3 hn.size)
      have hb5 := (below_step hbr hb4).setCell (p := ⟨g, k * 2 + 1, none⟩) hbg (.slice x3 v.l.length k3)
      clear HPUT own3 hb3 hn c0 c1 fz hb4
      go_wp2_with fail
      go_roundw
      case rel => exact ⟨k + 1, by go_num, HLT.out, M2, hb5⟩
      case measure => have h := HLT.out; simp [intOf]; omega
    · have hke : k = l.length := by have h := HK.out; omega
      have hkz : ¬ (k : Int) < (l.length : Int) := by omega
      have M2 := M.done hke HPL.out
      clear HK hke hlt M
      go_wp2_with fail
      go_ret
      exact ⟨_, rfl, M2, hbr⟩
set_option maxHeartbeats 1000000 in
theorem of_any (w : World) {B : Nat} {a : Option Addr} {c : Nat} {l : List Vr} (V : Vers B w a c l) (hs : Sm l) (t : Int) :
    Calls Try.prog 17 #[.slice a l.length c, .int .i64 t] w fun e w' => ∃ (x : Option Addr) (k : Nat), e = .returned (.tuple #[.slice x ((ofT l t).getD []).length k, .bool (ofT l t).isSome]) ∧ Rds fR 6 w' x k ((ofT l t).getD []) ∧ Below w.heap.size w w' := by
  have cW := version_any w V (Nat.le_trans hs.1 (by decide)) t
  rw [of_where]
  unfold whereN at cW
  cases hw : whereT l t with
  | none =>
    rw [hw, Option.getD_none] at cW
    rw [Option.map_none, Option.getD_none, Option.isSome_none]
    clear hw
    go_enter Try.func17, Try.ntmps17
    go_wp2_with fail
    refine cW.mono ?_
    clear cW
    rintro e w1 ⟨rfl, hb1⟩
    go_wp2_with fail
    refine (rules_none w1 a l.length c).mono ?_
    rintro e w2 ⟨rfl, rfl⟩
    have cR := cloneR_any w2 (Rds.none fR 6 w2) (by decide)
    go_wp2_with fail
    refine cR.mono ?_
    clear cR
    rintro e w3 ⟨u, rfl, own, hb3⟩
    obtain ⟨x3, k3, rfl, R3⟩ := rds_of_owns fR_len own rfl (fun y hy => by cases hy)
    go_wp2_with fail
    go_ret2
    exact ⟨x3, k3, rfl, R3, below_step hb1 hb3⟩
  | some i =>
    rw [hw, Option.getD_some] at cW
    obtain ⟨hi, -, -⟩ := where_lt hw
    rw [Option.map_some, Option.getD_some, Option.isSome_some]
    have gk := getD_atV hi
    have hv := hs.2 _ (List.mem_of_getElem? gk)
    generalize l.getD i default = v at gk hv
    obtain ⟨b, o, x, k, rfl, hbb, c0, c1, R, hlo⟩ := V.at gk
    have hl := hs.1
    clear hw c0 hlo gk
    go_enter Try.func17, Try.ntmps17
    go_wp2_with fail
    refine cW.mono ?_
    clear cW
    rintro e w1 ⟨rfl, hb1⟩
    go_wp2_with fail
    refine (rules_some w1 b o l.length c i hi (by omega) v.t x v.l.length k ((hb1.cell (p := ⟨b, o + i * 2 + 1, none⟩) hbb).trans c1)).mono ?_
    rintro e w2 ⟨rfl, rfl⟩
    have cR := cloneR_any w2 (R.later hb1) (by omega)
    clear hi
    go_wp2_with fail
    refine cR.mono ?_
    clear cR
    rintro e w3 ⟨u, rfl, own, hb3⟩
    obtain ⟨x3, k3, rfl, R3⟩ := rds_of_owns fR_len own rfl R.wf
    go_wp2_with fail
    go_ret2
    exact ⟨x3, k3, rfl, R3, below_step hb1 hb3⟩
end Go.Proofs.Ytlfnciiomfcjpaa
