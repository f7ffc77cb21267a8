/- What the document's 'with', Drop and Look answer. -/
import Derived.Test.YtlfnciiomfcjpaaTabRefs
import Derived.Laws.OwnMore
namespace Go.Proofs.Ytlfnciiomfcjpaa
open Go.ChangeShapes Go.WideShapes Go.ChangeAt Go.RowKit Pk Tb R
set_option linter.unusedVariables false
set_option linter.unusedSimpArgs false

theorem infoV9 : (Try.prog.info? 47).map (fun i => (i.zero, i.size, i.bytes)) = some (some (.agg #[.int .i64 0, .slice none 0 0]), 2, 32) := by kernel_rfl
theorem fV_set (ps : List Vc) (i : Nat) (x : Option Addr) (n c : Nat) (hi : i < ps.length) : (flatW fV ps).set (i * 2 + 1) (.slice x n c) = flatW fV (ps.set i ⟨(ps.getD i default).t, x, n, c⟩) := by
  induction ps generalizing i with
  | nil => exact absurd hi (Nat.not_lt_zero _)
  | cons p ps ih =>
    cases i with
    | zero => rfl
    | succ i =>
      have e : flatW fV (p :: ps) = .int .i64 p.t :: .slice p.x p.n p.c :: flatW fV ps := rfl
      rw [e, show (i + 1) * 2 + 1 = (i * 2 + 1) + 1 + 1 by omega, List.set_cons_succ, List.set_cons_succ, ih i (Nat.lt_of_succ_lt_succ hi)]
      rfl
section
variable {B : Nat} {a : Option Addr} {c : Nat} {l : List Vr}
set_option maxHeartbeats 2000000 in
theorem rwith_any (w : World) (V : Vers B w a c l) (hl : l.length ≤ 100) {i : Nat} (hi : i < l.length) {x : Option Addr} {k : Nat} {rs : List Rl} (R : Rds fR 6 w x k rs) :
    Calls Try.prog 38 #[.slice a l.length c, .int .i64 (i : Int), .slice x rs.length k] w fun e w' => ∃ (y : Option Addr) (k' : Nat), e = .returned (.slice y l.length k') ∧ (Vers 0 w' y k' (l.set i ⟨(l.getD i default).t, rs⟩) ∧ ∀ z, y = some z → w.heap.size ≤ z.block) ∧ Below w.heap.size w w' := by
  obtain ⟨ps, Rp, hlo, hall⟩ := V
  have hpl := all2_len hall
  have HI : Hid (i < l.length) := hi
  have hiz : (i : Int) < (l.length : Int) := Int.ofNat_lt.2 hi
  go_enter Try.func38, Try.ntmps38
  go_wp2_with (at_builtin; refine wpRdv_join fV_len fV_one (by decide) rfl (.const (.slice none 0 0)) (.tmp 8) 22 rfl w.heap.size 47 32 _ Try.underlying22 infoV9 rfl (v := .slice none 0 0) (n := 0) (ys := []) rfl (World.ownsRow_nil _ _ _ _) rfl Rp hpl (by omega) (by decide) (Nat.le_refl _) ?_; intro v4 w4 own4 hg4 hp4; apply Classical.byContradiction; intro hstop)
  simp only [Nat.zero_add, List.nil_append] at own4
  have hb4 := below_growW (Below.refl w.heap.size w) (World.ownsRow_nil _ _ 47 2) hg4 (Nat.le_refl _)
  have hsz4 := hb4.size
  have hip : i < ps.length := by rw [hpl]; exact hi
  have gp : ps[i]? = some (ps.getD i default) := by rw [List.getD_eq_getElem?_getD, List.getElem?_eq_getElem hip]; rfl
  have HT : Hid ((ps.getD i default).t = (l.getD i default).t) := by
    obtain ⟨p, hp, hat⟩ := all2_get hall (getD_atV hi)
    rw [gp] at hp
    cases hp
    exact hat.t
  have HW : Hid ((Lit.int .i64 (l.getD i default).t).wf = true) := by
    obtain ⟨p, hp, hat⟩ := all2_get hall (getD_atV hi)
    exact hat.wf
  have hset := fV_set ps i x rs.length k hip
  rcases own4.2 with ⟨rfl, h0⟩ | ⟨g, cap, cur, rfl, hbg, hgg, hnc, hcm, hcs, htk⟩
  · omega
  · have hc := own4.cellAt (i * 2 + 1) (by omega)
    rw [flatW_get fV_len gp (j := 1) rfl] at hc
    have hf := own4.frozenAt (i * 2 + 1)
    obtain ⟨own5, hg5⟩ := own4.stored (i * 2 + 1) (.slice x rs.length k)
    rw [hset] at own5
    have hb5 : Below w.heap.size w (w4.setCell ⟨g, i * 2 + 1, none⟩ (.slice x rs.length k)) := hb4.grown hg5 hsz4 (fun q hq => by cases hq; exact hbg)
    have hwn : ∀ y, x = some y → rs ≠ [] → y.block < (w4.setCell ⟨g, i * 2 + 1, none⟩ (.slice x rs.length k)).heap.size := by
      intro y hy hne
      obtain ⟨b, o, e, hlt, -⟩ := R.cells hne
      rw [hy] at e; cases e
      exact Nat.lt_of_lt_of_le hlt hb5.size
    have R5 := R.later hb5
    clear own4 hg4 hp4 hgg hnc hcm hcs htk hg5 hset cur
    apply hstop
    clear hstop
    go_wp2_with fail
    generalize w4.setCell ⟨g, i * 2 + 1, none⟩ (.slice x rs.length k) = w5 at own5 hb5 hwn R5 ⊢
    obtain ⟨x6, k6, e6, R6, hx6⟩ := rdv_of_owns2 fV_len own5 (by rw [List.length_set]; exact hpl)
    go_ret
    refine ⟨x6, k6, by rw [← e6]; rfl, ⟨⟨_, R6, fun _ _ _ => Nat.zero_le _, ?_⟩, fun z hz => (hx6 z hz).1⟩, hb5⟩
    refine all2_set (all2_imp hall fun _ _ h => (h.later hb5).low (Nat.zero_le _)) ?_ i
    exact ⟨HT.out, HW.out, rfl, R5, fun _ _ _ => Nat.zero_le _, hwn, fun _ _ _ e => by cases e⟩
set_option maxHeartbeats 2000000 in
theorem rdrop_any (w : World) (V : Vers B w a c l) (hl : l.length ≤ 100) (t : Int) :
    Calls Try.prog 16 #[.slice a l.length c, .int .i64 t] w fun e w' => ∃ (y : Option Addr) (k' : Nat), e = .returned (.slice y (dropT l t).length k') ∧ (Vers 0 w' y k' (dropT l t) ∧ ∀ z, y = some z → w.heap.size ≤ z.block) ∧ Below w.heap.size w w' := by
  rw [drop_erase]
  have cW := rwhere_any w V hl t
  obtain ⟨z, hz⟩ : ∃ z, whereI l t = z := ⟨_, rfl⟩
  rw [hz] at cW
  have HZ : Hid (∀ k, k < l.length → ((k : Int) = z ↔ k = whereN l t)) := by
    intro k hk
    rw [← hz]
    unfold whereI whereN
    cases h : whereT l t with
    | none => simp; omega
    | some i => exact Int.ofNat_inj
  clear hz
  generalize whereN l t = j at HZ ⊢
  go_enter Try.func16, Try.ntmps16
  go_wp2_with fail
  refine cW.mono ?_
  clear cW
  rintro e w1 ⟨rfl, hb1⟩
  go_wp2_with fail
  go_loopw [7, 6] (fun vi u wr => ∃ k : Nat, vi = .int .i64 (k : Nat) ∧ Hid (k ≤ l.length) ∧ OwnT w.heap.size wr u ((l.take k).eraseIdx j) ∧ Below w.heap.size w wr) (fun vi _ _ => l.length - (intOf vi).toNat)
  case atStart => exact ⟨0, rfl, Nat.zero_le _, by rw [List.take_zero, List.eraseIdx_nil]; exact OwnT.empty _ _, hb1⟩
  case round =>
    obtain ⟨k, rfl, HK, own, hbr⟩ := hrel
    by_cases hlt : k < l.length
    · have hkz : (k : Int) < (l.length : Int) := Int.ofNat_lt.2 hlt
      have gk := getD_atV hlt
      have HLT : Hid (k < l.length) := hlt
      have hk100 : k ≤ 100 := Nat.le_trans (Nat.le_of_lt hlt) hl
      by_cases hkj : k = j
      · have hbn : ((k : Int) != z) = false := by simpa using (HZ.out k hlt).2 hkj
        have N2 : Hid ((l.take (k + 1)).eraseIdx j = (l.take k).eraseIdx j) := by subst hkj; exact erase_eq hlt
        clear hkj hlt gk
        go_wp2_with fail
        go_roundw
        case rel => exact ⟨k + 1, by go_num, HLT.out, by rw [N2.out]; exact own, hbr⟩
        case measure => have h := HLT.out; simp [intOf]; omega
      · have hbn : ((k : Int) != z) = true := by simpa using fun h => hkj ((HZ.out k hlt).1 h)
        have N2 : Hid ((l.take (k + 1)).eraseIdx j = (l.take k).eraseIdx j ++ [l.getD k default]) := by
          rcases Nat.lt_or_gt_of_ne hkj with h | h
          · exact erase_lt hlt h
          · exact erase_gt hlt h
        have hcl := erase_len l j k
        generalize (l.take k).eraseIdx j = O at own N2 hcl
        generalize l.getD k default = v at gk N2
        obtain ⟨b, o, x, kk, rfl, hbb, c0, c1, hat⟩ := V.at2 gk
        have x0 := (hbr.cell (p := ⟨b, o + k * 2, none⟩) hbb).trans c0
        have x1 := (hbr.cell (p := ⟨b, o + k * 2 + 1, none⟩) hbb).trans c1
        obtain ⟨ps, ow, hps⟩ := own
        have hs1 := hbr.size
        have hlo := fun q hq => (ow.lt q hq).1
        clear hkj hlt gk c0 c1
        go_wp2_with (at_builtin; refine wpRdv_one fV_len fV_one (by decide) _ (⟨v.t, x, v.l.length, kk⟩ : Vc) 47 rfl rfl (.tmp 20) (.tmp 25) 22 rfl w.heap.size 32 _ Try.underlying22 infoV9 rfl rfl ow rfl (by omega) (by decide) hs1 ?_; intro v9 w9 own9 hg9 hp9)
        have hbn := below_new wr (.cells (fV ⟨v.t, x, v.l.length, kk⟩).toArray 47)
        have hb9 := below_growW (hbr.alloc hs1 (.cells (fV ⟨v.t, x, v.l.length, kk⟩).toArray 47)) (ow.alloc _) hg9 (Nat.le_trans hs1 hbn.size)
        have O9 : OwnT w.heap.size w9 v9 (O ++ [v]) := OwnT.one (all2_imp hps fun _ _ h => h.later hbn) own9 hg9 hp9 (hat.far (below_step hbr hbn) hlo)
        rw [← N2.out] at O9
        go_roundw
        case rel => exact ⟨k + 1, by go_num, HLT.out, O9, hb9⟩
        case measure => have h := HLT.out; simp [intOf]; omega
    · have hke : k = l.length := by have h := HK.out; omega
      have hkz : ¬ (k : Int) < (l.length : Int) := by omega
      have HE : Hid ((l.take k).eraseIdx j = l.eraseIdx j) := by show _ = _; rw [hke, List.take_length]
      rw [HE.out] at own
      obtain ⟨x6, k6, rfl, V6, hx6⟩ := own.vers
      clear hke hlt HE
      go_wp2_with fail
      go_ret
      exact ⟨x6, k6, rfl, ⟨V6, hx6⟩, hbr⟩
end
end Go.Proofs.Ytlfnciiomfcjpaa
