/- What pick's Order answers, where SortFunc sorts. -/
import Derived.Test.YtihgpllbgliplaaPickSmall
import Derived.Test.YtihgpllbgliplaaPickCmp
import Derived.Laws.Tables
import Derived.Test.YtihgpllbgliplaaMaths
/-! What the code's Order answers, if its numbers are sorted: all rules, in the order of the numbers. -/
namespace Go.Proofs.Ytihgpllbgliplaa
open Go.ChangeShapes Go.WideShapes Go.ChangeAt Go.RowKit Go.Sort Go.Shelf Pk
set_option linter.unusedVariables false
set_option linter.unusedSimpArgs false

theorem Row.store {n : Nat} {w0 w : World} {B : Nat} {d : Array (Fin (n + 1))} (h : Row w0 B d w) {i : Nat} (hi : i < d.size) (x : Fin (n + 1)) : Row w0 B (d.setIfInBounds i x) (w.setCell ⟨B, i, none⟩ (.int .i64 ((x : Nat) : Int))) := by
  refine ⟨h.keep.setCell (p := ⟨B, i, none⟩) (fun _ => rfl) _, h.lt, fun k hk => ?_, fun k hk => ?_⟩
  · rw [Array.size_setIfInBounds] at hk
    by_cases e : k = i
    · subst e
      rw [World.cell?_setCell_same' _ _ _ (by rw [h.cell k hk]; rfl)]
      simp [getElem!_def, Array.getElem?_setIfInBounds, hk]
    · rw [World.cell?_setCell_other w ⟨B, i, none⟩ ⟨B, k, none⟩ _ (by intro h; injection h with h1 h2; exact e h2.symm), h.cell k hk]
      simp [getElem!_def, Array.getElem?_setIfInBounds, Ne.symm e]
  · rw [Array.size_setIfInBounds] at hk
    rw [World.frozen?_setCell]; exact h.frozen k hk
/-- the numbers from 0 on, of which the first k are laid -/
def upTo (n k : Nat) : Array (Fin (n + 1)) := Array.ofFn (fun i : Fin (n + 1) => if i.val < k then i else 0)
theorem upTo_size (n k : Nat) : (upTo n k).size = n + 1 := by simp [upTo]
theorem upTo_next (n k : Nat) (hk : k < n + 1) : (upTo n k).setIfInBounds k ⟨k, hk⟩ = upTo n (k + 1) := by
  apply Array.ext
  · simp [upTo]
  · intro i h1 h2
    simp only [upTo, Array.size_setIfInBounds, Array.size_ofFn] at h1
    rw [Array.getElem_setIfInBounds (by simpa [upTo] using h1)]
    by_cases e : k = i
    · subst e; simp [upTo]
    · rw [if_neg e]
      simp only [upTo, Array.getElem_ofFn]
      by_cases h3 : i < k
      · rw [if_pos h3, if_pos (by omega)]
      · rw [if_neg h3, if_neg (by omega)]
/-- the sort does what it is to do, for so many numbers -/
def Sorts (n : Nat) : Prop := ∀ (w0 : World) (B : Nat) (rv : Value) (cf : Fin (n + 1) → Fin (n + 1) → Int), Cmp w0 B rv cf → SWO (ltc cf) → ∀ (w : World) (d : Array (Fin (n + 1))) (c N : Nat), Row w0 B d w → d.size = n + 1 → N = n + 1 →
  Calls Try.prog 49 #[.slice (some ⟨B, 0, none⟩) N c, mv rv] w fun e w' => e = .returned (.tuple #[]) ∧ ∃ d' : Array (Fin (n + 1)), Row w0 B d' w' ∧ PermIn 0 (n + 1) d d' ∧ SortedIn (ltc cf) 0 (n + 1) d'
theorem sorts_small {n : Nat} (h : n + 1 ≤ 12) : Sorts n := by
  intro w0 B rv cf hc hO w d c N R hd hN
  subst hN
  have := sort_small hc R (c := c) (by omega)
  rw [hd] at this
  refine this.mono ?_
  rintro e w' ⟨he, R'⟩
  obtain ⟨h1, h2⟩ := insertionSort_holds hO d 0 (n + 1) (by omega) (by omega)
  exact ⟨he, _, R', h1, h2⟩
theorem infoR : (Try.prog.info? 60).map (fun i => (i.zero, i.size, i.bytes)) = some (some (.agg #[.int .i64 0, .int .i64 0, .int .i64 0, .int .i64 0, .int .i64 0, .int .i64 0]), 6, 48) := by kernel_rfl
theorem infoI : (Try.prog.info? 3).map (fun i => (i.zero, i.size, i.bytes)) = some (some (.int .i64 0), 1, 8) := by kernel_rfl
/-- the rules, by their numbers -/
def byNum {n : Nat} (l : List Rl) (d : List (Fin (n + 1))) : List Rl := d.map (fun i => l.getD i.val default)
theorem row_new (w : World) (n : Nat) {Z : Array Value} (hZ : Z = madeCells #[.int .i64 0] (n + 1)) (e : TypeId) : Row (w.alloc (.cells Z e)) w.heap.size (upTo n 0) (w.alloc (.cells Z e)) := by
  subst hZ
  have hb := heap_alloc_new w (.cells (madeCells #[.int .i64 0] (n + 1)) e)
  refine ⟨Keeps.refl _ _, by simp, fun i hi => ?_, fun i hi => ?_⟩
  · rw [upTo_size] at hi
    have := World.news_of_block hb i (.int .i64 0) (by simp [madeCells, hi, Nat.mod_one])
    rw [Addr.add_lit] at this
    rw [Nat.zero_add] at this
    rw [this]
    have : (upTo n 0)[i]! = 0 := by simp [upTo, getElem!_def, hi]
    rw [this]
    rfl
  · unfold World.frozen?; rw [heap_alloc_new]; simp
section
set_option maxRecDepth 100000
set_option maxHeartbeats 4000000
theorem order_of {n : Nat} (hS : Sorts n) (hn : n + 1 ≤ 1000) (w : World) {a : Option Addr} {c : Nat} {l : List Rl} (R : Rds fR 6 w a c l) (hl : l.length = n + 1) (hO : SWO (ltc (fun x y : Fin (n + 1) => cfR (l.getD x.val default) (l.getD y.val default) ((x.val : Nat) : Int) ((y.val : Nat) : Int)))) :
    Calls Try.prog 42 #[.slice a l.length c] w fun e w' => ∃ (x : Option Addr) (k : Nat), e = .returned (.slice x l.length k) ∧ ∃ d : Array (Fin (n + 1)), PermIn 0 (n + 1) (upTo n (n + 1)) d ∧ SortedIn (ltc (fun x y : Fin (n + 1) => cfR (l.getD x.val default) (l.getD y.val default) ((x.val : Nat) : Int) ((y.val : Nat) : Int))) 0 (n + 1) d ∧
      (Rds fR 6 w' x k (byNum l d.toList) ∧ ∀ y, x = some y → w.heap.size ≤ y.block) ∧ Below w.heap.size w w' := by
  obtain ⟨i1, hi1, hz1, hs1, hb1⟩ := info_parts infoI
  obtain ⟨i2, hi2, hz2, hs2, hb2⟩ := info_parts infoR
  obtain ⟨Z1, hZ1⟩ : ∃ Z, Z = madeCells #[.int .i64 0] (n + 1) := ⟨_, rfl⟩
  obtain ⟨Z2, hZ2⟩ : ∃ Z, Z = madeCells #[.int .i64 0, .int .i64 0, .int .i64 0, .int .i64 0, .int .i64 0, .int .i64 0] ((n + 1) * 6) := ⟨_, rfl⟩
  have m1 : ∀ w : World, (Instr.makeSlice 92 (.int .i64 (l.length : Int)) (.int .i64 (l.length : Int))).run Try.prog w = .ok (.slice (some ⟨w.heap.size, 0, none⟩) l.length l.length) (w.alloc (.cells Z1 3)) := fun w => by
    have := run_makeSlice (P := Try.prog) w 92 3 i1 (.int .i64 0) Try.underlying92 hi1 hz1 .i64 .i64 (l.length : Int) (l.length : Int) (by omega) (Int.le_refl _) (by rw [hs1]; simp; omega) (by rw [hb1]; omega) (by omega)
    rw [hs1, Int.toNat_natCast, Nat.mul_one, hl] at this
    rw [hZ1, hl]; exact this
  have m2 : ∀ w : World, (Instr.makeSlice 48 (.int .i64 0) (.int .i64 (l.length : Int))).run Try.prog w = .ok (.slice (some ⟨w.heap.size, 0, none⟩) 0 l.length) (w.alloc (.cells Z2 60)) := fun w => by
    have := run_makeSlice (P := Try.prog) w 48 60 i2 _ Try.underlying48 hi2 hz2 .i64 .i64 0 (l.length : Int) (by omega) (by omega) (by rw [hs2]; simp; omega) (by rw [hb2]; omega) (by omega)
    rw [hs2, Int.toNat_natCast, hl] at this
    rw [hZ2, hl]; exact this
  have hmx := Nat.le_trans R.le R.max
  unfold maxLen at hmx
  have HL : Hid (l.length = n + 1) := hl
  have hl1 : (l.length : Int) ≤ (n : Int) + 1 := by omega
  have hl2 : (n : Int) + 1 ≤ (l.length : Int) := by omega
  have hl3 : l.length ≤ n + 1 := by omega
  have hl4 : n + 1 ≤ l.length := by omega
  clear hl
  have hB0 := below_new w (.cells Z1 3)
  have R1 := row_new w n hZ1 3
  have RR := R.later hB0
  have hlt0 : w.heap.size < (w.alloc (.cells Z1 3)).heap.size := by simp
  have HW : Hid (w.heap.size + 1 ≤ (w.alloc (.cells Z1 3)).heap.size) := by show _ ≤ _; simp
  clear hZ1
  go_enter Try.func42, Try.ntmps42
  go_wp2_with fail
  generalize w.alloc (.cells Z1 3) = W1 at hB0 R1 RR hlt0 HW ⊢
  have ccmp : Cmp W1 w.heap.size (.slice a l.length c) (fun x y : Fin (n + 1) => cfR (l.getD x.val default) (l.getD y.val default) ((x.val : Nat) : Int) ((y.val : Nat) : Int)) := by
    intro u hk x y
    have hx : x.val < l.length := by omega
    have hy : y.val < l.length := by omega
    have := comp_any u (RR.kept hk (fun z hz hne hB => by
      obtain ⟨b, o, e, hb, -⟩ := R.cells hne
      rw [e] at hz; cases hz
      exact absurd (show b = w.heap.size from hB) (by omega))) hx hy
    dsimp only
    rw [List.getD_eq_getElem?_getD, List.getD_eq_getElem?_getD, List.getElem?_eq_getElem hx, List.getElem?_eq_getElem hy]
    exact this
  go_loopw [13] (fun v wr => ∃ k : Nat, k ≤ n + 1 ∧ v = .int .i64 (k : Nat) ∧ Row W1 w.heap.size (upTo n k) wr) (fun v _ => n + 1 - (intOf v).toNat)
  case atStart => exact ⟨0, by omega, rfl, R1⟩
  case round =>
    clear R1
    obtain ⟨k, hk, rfl, R2⟩ := hrel
    by_cases hlt : k < l.length
    · have hkz : (k : Int) < (l.length : Int) := by omega
      have c1 := R2.cell k (by rw [upTo_size]; omega)
      have f1 := R2.frozen k (by rw [upTo_size]; omega)
      have R3 := R2.store (i := k) (by rw [upTo_size]; omega) ⟨k, by omega⟩
      rw [upTo_next n k (by omega)] at R3
      clear R2
      go_wp2_with fail
      go_roundw
      case rel => exact ⟨k + 1, by omega, by go_num, R3⟩
      case measure => simp [intOf]; omega
    · obtain rfl : k = n + 1 := by omega
      have cs := hS W1 w.heap.size (.slice a l.length c) _ ccmp hO wr (upTo n (n + 1)) l.length l.length R2 (upTo_size _ _) HL.out
      have hkz : ¬ (((n + 1 : Nat) : Int)) < (l.length : Int) := by omega
      clear hlt R2
      go_wp2_with fail
      refine cs.mono ?_
      rintro e w2 ⟨rfl, d, R3, hp, hsrt⟩
      have HP : Hid (PermIn 0 (n + 1) (upTo n (n + 1)) d ∧ SortedIn (ltc (fun x y : Fin (n + 1) => cfR (l.getD x.val default) (l.getD y.val default) ((x.val : Nat) : Int) ((y.val : Nat) : Int))) 0 (n + 1) d) := ⟨hp, hsrt⟩
      have hds : Hid (d.size = n + 1) := hp.1.trans (upTo_size _ _)
      have hds1 : d.size ≤ n + 1 := Nat.le_of_eq hds.out
      have hds2 : n + 1 ≤ d.size := Nat.le_of_eq hds.out.symm
      clear hp hsrt cs
      have hB2 : Below w.heap.size w w2 := hB0.trans (R3.keep.below (Nat.le_of_lt R3.lt) (fun k hk => Nat.le_of_eq hk.symm) |>.mono (Nat.le_refl _))
      have RR2 : Rds fR 6 w2 a c l := R.later hB2
      have hs2b := hB2.size
      have hBl := R3.ltw
      have ow0 : (w2.alloc (.cells Z2 60)).ownsRow w2.heap.size 60 6 (.slice (some ⟨w2.heap.size, 0, none⟩) 0 l.length) 0 (flatV fR (byNum l (d.toList.take 0))) := World.ownsRow_made w2 _ l.length (Nat.le_refl _) (by unfold maxLen; omega) (by rw [hZ2, size_madeCells, HL.out])
      have hbn := below_new w2 (.cells Z2 60)
      have hcell := fun i hi => R3.cell i hi
      clear R3 hZ2 hB0 ccmp
      go_wp2_with fail
      generalize w2.alloc (.cells Z2 60) = w3 at ow0 hbn ⊢
      go_loopw [30, 5] (fun v x wr => ∃ k : Nat, k ≤ n + 1 ∧ v = .int .i64 (k : Nat) ∧ wr.ownsRow w2.heap.size 60 6 x k (flatV fR (byNum l (d.toList.take k))) ∧ Below w2.heap.size w2 wr) (fun v _ _ => n + 1 - (intOf v).toNat)
      case atStart => exact ⟨0, by omega, rfl, ow0, hbn⟩
      case round =>
        clear ow0 hbn
        obtain ⟨k, hk, rfl, ow, hbr⟩ := hrel
        by_cases hlt : k < l.length
        · have hkz : (k : Int) < (l.length : Int) := by omega
          have hkd : k < d.toList.length := by rw [Array.length_toList]; omega
          have c1 := (hbr.cell (p := ⟨w.heap.size, k, none⟩) hBl).trans (hcell k (by omega))
          have hx : (d[k]!).val < l.length := by omega
          have gx : l[(d[k]!).val]? = some (l.getD (d[k]!).val default) := by rw [List.getD_eq_getElem?_getD, List.getElem?_eq_getElem hx]; rfl
          obtain ⟨b, o, e9, hbb, hc9⟩ := (RR2.later hbr).at gx
          subst e9
          have NX : Hid (byNum l (d.toList.take (k + 1)) = byNum l (d.toList.take k) ++ [l.getD (d[k]!).val default]) := by
            show _ = _
            rw [List.take_succ_eq_append_getElem hkd]
            unfold byNum
            rw [List.map_append]
            simp [getElem!_def, hkd, Array.length_toList ▸ hkd]
          have hxz : (((d[k]!).val : Nat) : Int) < (l.length : Int) := by omega
          generalize (d[k]!).val = q at c1 gx hc9 NX hxz
          generalize l.getD q default = r at gx hc9 NX
          obtain ⟨ra, rn, ri, rp, rk, rt⟩ := r
          have x0 := hc9 0 _ rfl
          have x1 := hc9 1 _ rfl
          have x2 := hc9 2 _ rfl
          have x3 := hc9 3 _ rfl
          have x4 := hc9 4 _ rfl
          have x5 := hc9 5 _ rfl
          rw [Nat.add_zero] at x0
          have hs3 := hbr.size
          clear hc9 gx hx
          go_wp2_with (at_builtin; refine wpRds_one fR_len (by decide) _ (⟨ra, rn, ri, rp, rk, rt⟩ : Rl) 60 rfl rfl (.tmp 34) (.tmp 39) 48 rfl w2.heap.size 48 _ Try.underlying48 infoR rfl rfl ow rfl (by omega) (by omega) hs3 ?_; intro v9 w9 own9 hg9)
          have hb5 := below_growR (hbr.alloc hs3 (.cells ((fR ⟨ra, rn, ri, rp, rk, rt⟩).map (Value.int .i64)).toArray 60)) (ow.alloc _) hg9 (Nat.le_trans hs3 (below_new _ _).size)
          go_roundw
          case rel => exact ⟨k + 1, by omega, by go_num, by rw [NX.out]; exact own9, hb5⟩
          case measure => simp [intOf]; omega
        · obtain rfl : k = n + 1 := by omega
          have e1 : d.toList.take (n + 1) = d.toList := List.take_of_length_le (by rw [Array.length_toList]; omega)
          rw [e1] at ow
          obtain ⟨res, HR⟩ : ∃ r, Hid (byNum l d.toList = r) := ⟨_, rfl⟩
          rw [show byNum l d.toList = res from HR, ← HL.out] at ow
          have hlen : (byNum l d.toList).length = l.length := by unfold byNum; rw [List.length_map, Array.length_toList, HL.out]; exact hds.out
          have hwf : ∀ x ∈ byNum l d.toList, ∀ z ∈ fR x, (Lit.int .i64 z).wf = true := by
            intro x hx
            unfold byNum at hx
            obtain ⟨q, -, rfl⟩ := List.mem_map.1 hx
            have hq : q.val < l.length := by omega
            rw [List.getD_eq_getElem?_getD, List.getElem?_eq_getElem hq]
            exact R.wf _ (List.getElem_mem hq)
          rw [show byNum l d.toList = res from HR] at hlen hwf
          obtain ⟨x3, k3, rfl, R5, hx3⟩ := rds_of_owns2 fR_len ow hlen hwf
          have hkz : ¬ (((n + 1 : Nat) : Int)) < (l.length : Int) := by omega
          clear hlt e1 hlen hwf
          go_wp2_with fail
          go_ret
          exact ⟨x3, k3, rfl, d, HP.out.1, HP.out.2, ⟨by rw [HR.out]; exact R5, fun y hy => Nat.le_trans hs2b (hx3 y hy).1⟩, hB2.trans (hbr.mono hs2b)⟩
end
end Go.Proofs.Ytihgpllbgliplaa

/-! What the code's Order answers: the one list in order, if its numbers are sorted. -/
namespace Go.Proofs.Ytihgpllbgliplaa
open Go.ChangeShapes Go.WideShapes Go.ChangeAt Go.RowKit Go.Sort Go.Shelf Pk
set_option linter.unusedVariables false
set_option linter.unusedSimpArgs false

theorem bef_trans {r s t : Rl} (h : bef r s) (h2 : bef s t) : bef r t := by unfold bef at *; omega
theorem swo_cf (l : List Rl) (n : Nat) : SWO (ltc (fun x y : Fin (n + 1) => cfR (l.getD x.val default) (l.getD y.val default) ((x.val : Nat) : Int) ((y.val : Nat) : Int))) where
  irrefl x := by
    unfold ltc
    rw [decide_eq_false_iff_not, cf_neg]
    rintro (h | ⟨_, h⟩)
    · exact bef_irrefl _ h
    · omega
  trans x y z h1 h2 := by
    unfold ltc at *
    rw [decide_eq_true_eq, cf_neg] at *
    rcases h1 with h1 | ⟨e1, h1⟩
    · rcases h2 with h2 | ⟨e2, h2⟩
      · exact .inl (bef_trans h1 h2)
      · rw [e2] at h1; exact .inl h1
    · rw [e1]
      rcases h2 with h2 | ⟨e2, h2⟩
      · exact .inl h2
      · exact .inr ⟨e2, by omega⟩
  ntrans x y z h1 h2 := by
    unfold ltc at *
    rw [decide_eq_false_iff_not, cf_neg] at *
    have a1 : ¬ bef (l.getD x.val default) (l.getD y.val default) := fun h => h1 (.inl h)
    have a2 : ¬ bef (l.getD y.val default) (l.getD z.val default) := fun h => h2 (.inl h)
    rintro (h | ⟨e, h⟩)
    · exact bef_ntrans a1 a2 h
    · have e1 : l.getD x.val default = l.getD y.val default := bef_eq a1 (by rw [e]; exact a2)
      have b1 : ¬ ((x.val : Nat) : Int) < ((y.val : Nat) : Int) := fun h => h1 (.inr ⟨e1, h⟩)
      have b2 : ¬ ((y.val : Nat) : Int) < ((z.val : Nat) : Int) := fun h => h2 (.inr ⟨by rw [← e1, e], h⟩)
      omega
theorem extract_all {α : Type} (d : Array α) {N : Nat} (h : d.size = N) : d.extract 0 N = d := by subst h; simp
theorem byNum_all {n : Nat} {l : List Rl} (hl : l.length = n + 1) : byNum l (upTo n (n + 1)).toList = l := by
  unfold byNum
  apply List.ext_getElem
  · simp [upTo, hl]
  · intro i h1 h2
    rw [List.getElem_map, Array.getElem_toList]
    simp only [upTo, Array.getElem_ofFn]
    rw [if_pos (by show i < n + 1; omega), List.getD_eq_getElem?_getD, List.getElem?_eq_getElem h2]
    rfl
theorem byNum_sorted {n : Nat} {l : List Rl} (hl : l.length = n + 1) {d : Array (Fin (n + 1))} (hp : PermIn 0 (n + 1) (upTo n (n + 1)) d)
    (hs : SortedIn (ltc (fun x y : Fin (n + 1) => cfR (l.getD x.val default) (l.getD y.val default) ((x.val : Nat) : Int) ((y.val : Nat) : Int))) 0 (n + 1) d) : byNum l d.toList = sortL l := by
  have hsz : d.size = n + 1 := hp.1.trans (upTo_size _ _)
  have h2 := hp.2.2
  rw [extract_all d hsz, extract_all _ (upTo_size _ _)] at h2
  refine sort_is ?_ ?_
  · have := h2.map (fun i : Fin (n + 1) => l.getD i.val default)
    have e := byNum_all hl
    unfold byNum at e ⊢
    rw [e] at this
    exact this
  · unfold Pk.Ord byNum
    rw [List.pairwise_map, List.pairwise_iff_getElem]
    intro i j hi hj hij
    have hj' : j < n + 1 := by rw [← hsz]; simpa using hj
    have := hs i j (Nat.zero_le _) hij hj'
    have g : ∀ k (hk : k < d.toList.length), d[k]! = d.toList[k] := fun k hk => by simp [getElem!_def, Array.length_toList ▸ hk]
    rw [g i hi, g j hj] at this
    unfold ltc at this
    rw [decide_eq_false_iff_not, cf_neg] at this
    exact fun h => this (.inl h)
/-- the sort does what it is to do, for at most so many numbers -/
def SortsTo (N : Nat) : Prop := ∀ n, n + 1 ≤ N → Sorts n
theorem sortsTo_12 : SortsTo 12 := fun n h => sorts_small h
section
set_option maxRecDepth 100000
set_option maxHeartbeats 2000000
theorem ins_none (w : World) (x : Option Addr) (c : Nat) (V : Value) : Calls Try.prog 65 #[.slice x 0 c, .int .i64 0, .int .i64 0, V] w fun e w' => e = .returned (.tuple #[]) ∧ w' = w := by
  go_enter Try.func65, Try.ntmps65
  go_wp2_with fail
  refine wp_loop_rounds 1 ?_
  rw [rounds_succ]
  go_wp2_with fail
  go_end0
  exact ⟨rfl, rfl⟩
theorem pdq_none (w : World) (x : Option Addr) (c lim : Nat) (V : Value) : Calls Try.prog 58 #[.slice x 0 c, .int .i64 0, .int .i64 0, .int .i64 (lim : Nat), V] w fun e w' => e = .returned (.tuple #[]) ∧ w' = w := by
  go_enter Try.func58, Try.ntmps58
  go_wp2_with fail
  refine wp_loop_rounds 1 ?_
  rw [rounds_succ]
  go_wp2_with fail
  refine (ins_none _ _ _ _).mono ?_
  rintro e w2 ⟨rfl, rfl⟩
  go_wp2_with fail
  refine ret0 rfl rfl ?_
  exact ⟨rfl, rfl⟩
theorem sort_none (w : World) (x : Option Addr) (c : Nat) (V : Value) : Calls Try.prog 49 #[.slice x 0 c, V] w fun e w' => e = .returned (.tuple #[]) ∧ w' = w := by
  have cl := fun w => len_any 0 (by omega) w
  generalize Lib.bitLen 0 = lim at cl
  go_enter Try.func49, Try.ntmps49
  go_wp2_with fail
  refine (cl _).mono ?_
  rintro e w2 ⟨rfl, rfl⟩
  go_wp2_with fail
  refine (pdq_none _ _ _ _ _).mono ?_
  rintro e w3 ⟨rfl, rfl⟩
  go_wp2_with fail
  go_end0
  exact ⟨rfl, rfl⟩
theorem make0 (w : World) : (Instr.makeSlice 92 (.int .i64 0) (.int .i64 0)).run Try.prog w = .ok (.slice (some ⟨w.heap.size, 0, none⟩) 0 0) (w.alloc (.cells #[] 3)) := by kernel_rfl
theorem make0R (w : World) : (Instr.makeSlice 48 (.int .i64 0) (.int .i64 0)).run Try.prog w = .ok (.slice (some ⟨w.heap.size, 0, none⟩) 0 0) (w.alloc (.cells #[] 60)) := by kernel_rfl
theorem order_none (w : World) (a : Option Addr) (c : Nat) : Calls Try.prog 42 #[.slice a 0 c] w fun e w' => ∃ (x : Option Addr) (k : Nat), e = .returned (.slice x 0 k) ∧ (Rds fR 6 w' x k [] ∧ ∀ y, x = some y → w.heap.size ≤ y.block) ∧ Below w.heap.size w w' := by
  have m1 := make0
  have m2 := make0R
  go_enter Try.func42, Try.ntmps42
  go_wp2_with fail
  refine wp_loop_rounds 1 ?_
  rw [rounds_succ]
  go_wp2_with fail
  refine (sort_none _ _ _ _).mono ?_
  rintro e w2 ⟨rfl, rfl⟩
  go_wp2_with fail
  refine wp_loop_rounds 1 ?_
  rw [rounds_succ]
  go_wp2_with fail
  go_ret
  exact ⟨_, _, rfl, ⟨⟨Nat.le_refl _, by unfold maxLen; omega, by simp, fun h => (nomatch h), fun h => absurd rfl h⟩, fun y hy => by cases hy; simp⟩, below_step (below_new _ _) (below_new _ _)⟩
end
/-- Order, of at most so many rules -/
theorem order_any {N : Nat} (hN : SortsTo N) (hN2 : N ≤ 1000) (w : World) {a : Option Addr} {c : Nat} {l : List Rl} (R : Rds fR 6 w a c l) (hl : l.length ≤ N) :
    Calls Try.prog 42 #[.slice a l.length c] w fun e w' => ∃ (x : Option Addr) (k : Nat), e = .returned (.slice x (sortL l).length k) ∧ (Rds fR 6 w' x k (sortL l) ∧ ∀ y, x = some y → w.heap.size ≤ y.block) ∧ Below w.heap.size w w' := by
  have hlen : (sortL l).length = l.length := (sort_perm l).length_eq
  rw [hlen]
  cases l with
  | nil =>
    have e : sortL [] = [] := List.eq_nil_of_length_eq_zero (by rw [hlen]; rfl)
    rw [e]
    exact order_none w a c
  | cons r l =>
    refine (order_of (n := l.length) (hN _ hl) (by simp only [List.length_cons] at hl; omega) w R rfl (swo_cf _ _)).mono ?_
    rintro e w' ⟨x, k, he, d, hp, hs, hR, hb⟩
    rw [byNum_sorted rfl hp hs] at hR
    exact ⟨x, k, he, hR, hb⟩
end Go.Proofs.Ytihgpllbgliplaa
