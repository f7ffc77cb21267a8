/- What the document's Cut and Find answer. -/
import Derived.Test.YtlgldoggnlcbkaaTrieList
namespace Go.Proofs.Ytlgldoggnlcbkaa
open Go.ChangeShapes Go.WideShapes Go.ChangeAt Go.RowKit Tt
set_option linter.unusedVariables false
set_option linter.unusedSimpArgs false

theorem cut_next (p : P2) {l : List T3} {k : Nat} (h : k < l.length) : cutR (l.take (k + 1)) p = cutR (l.take k) p ++ (if l[k].1 ≠ p then [l[k]] else []) := by
  unfold cutR
  rw [List.take_succ_eq_append_getElem h, List.filter_append]
  congr 1
  by_cases hp : l[k].1 = p
  · simp [hp]
  · simp [hp]
theorem rCut_bad (w : World) (B : Nat) (p0 p1 : Int) (hp : M.mayB p0 p1 = false) :
    Calls Try.prog 15 #[.pointer (some ⟨B, 0, none⟩), .agg #[.int .i64 p0, .int .i64 p1]] w fun e w' => e = .returned (.int .i64 1) ∧ Below w.heap.size w w' := by
  have hn := below_new w (.cells #[.int .i64 p0, .int .i64 p1] 29)
  have cm := fun w => rmay_any p0 p1 w
  rw [hp] at cm
  go_enter Try.func15, Try.ntmps15
  go_wp2_with fail
  refine (cm _).mono ?_
  rintro e w1 ⟨rfl, hb⟩
  go_wp2_with fail
  go_ret
  exact ⟨rfl, below_step hn hb⟩
set_option maxHeartbeats 2000000 in
theorem rCut_none {F : Nat → Prop} {w : World} {B : Nat} {room : Int} {l : List T3} (L : LAt F w B room l) (hl : l.length ≤ 1000) (p0 p1 : Int) (hp : M.mayB p0 p1 = true) (hr : (cutR l (p0, p1)).length = l.length) :
    Calls Try.prog 15 #[.pointer (some ⟨B, 0, none⟩), .agg #[.int .i64 p0, .int .i64 p1]] w fun e w' => e = .returned (.int .i64 5) ∧ Below w.heap.size w w' := by
  obtain ⟨a, c, hs0, R, hx⟩ := L.slice
  have hmx := Nat.le_trans R.le R.max
  unfold maxLen at hmx
  have hn := below_new w (.cells #[.int .i64 p0, .int .i64 p1] 29)
  have X := Lies.new w [p0, p1] 29 rfl
  have cm := fun w => rmay_any p0 p1 w
  rw [hp] at cm
  have HR : Hid ((cutR l (p0, p1)).length = l.length) := hr
  clear hr
  go_enter Try.func15, Try.ntmps15
  go_wp2_with fail
  refine (cm _).mono ?_
  rintro e w1 ⟨rfl, hb⟩
  have hb1 := below_step hn hb
  have hB1 := Nat.lt_of_lt_of_le L.lt hb1.size
  have X1 := X.later hb
  have R1 := R.later hb1
  have s1 := (hb1.cell (p := ⟨B, 0, none⟩) L.lt).trans hs0
  clear X hb hs0
  go_wp2_with fail
  go_loopw [6, 7] (fun v i wr => ∃ k : Nat, k ≤ l.length ∧ i = .int .i64 k ∧ OutIs w1.heap.size wr v (cutR (l.take k) (p0, p1)) ∧ Below w1.heap.size w1 wr) (fun _ i _ => l.length - (intOf i).toNat)
  case atStart => exact ⟨0, by omega, rfl, World.ownsRow_nil _ _ _ _, Below.refl _ _⟩
  case round =>
    obtain ⟨k, hk, rfl, own, hbr⟩ := hrel
    unfold OutIs at own
    have sr := (hbr.cell (p := ⟨B, 0, none⟩) hB1).trans s1
    have hcl : (cutR (l.take k) (p0, p1)).length ≤ k := by
      have h1 : (cutR (l.take k) (p0, p1)).length ≤ (l.take k).length := List.length_filter_le _ _
      have h2 : (l.take k).length ≤ k := by simp; omega
      omega
    by_cases hlt : k < l.length
    · have gk : l[k]? = some l[k] := List.getElem?_eq_getElem hlt
      obtain ⟨b, o, rfl, hbb, hc⟩ := (R1.later hbr).at gk
      have c0 := hc 0 _ rfl
      have c1 := hc 1 _ rfl
      have c2 := hc 2 _ rfl
      rw [Nat.add_zero] at c0
      clear hc
      obtain ⟨x0, x1⟩ := (X1.later hbr).two
      have hi : (k : Int) < (l.length : Int) := by omega
      have hq := fun w => ne_pre l[k].1.1 l[k].1.2 p0 p1 w
      have NX : Hid (cutR (l.take (k + 1)) (p0, p1) = cutR (l.take k) (p0, p1) ++ (if l[k].1 ≠ (p0, p1) then [l[k]] else [])) := cut_next _ hlt
      generalize cutR (l.take k) (p0, p1) = O at own NX hcl
      have hs1 := hbr.size
      by_cases he : l[k].1 = (p0, p1)
      · have HP : Hid (l[k].1 = (p0, p1)) := he
        have hv : ((l[k].1.1 == p0) && (l[k].1.2 == p1)) = true := by simp [he]
        rw [hv] at hq
        clear he hv
        go_wp2_with fail
        go_quiet (fail)
        go_wp2_with fail
        go_roundw
        case rel => exact ⟨k + 1, by omega, by go_num, by rw [NX.out, if_neg (by simpa using HP.out), List.append_nil]; exact own_laterR own (below_draws _ _ _), hbr.trans (below_draws _ _ _)⟩
        case measure => simp [intOf]; omega
      · have HP : Hid (¬ l[k].1 = (p0, p1)) := he
        have hv : ((l[k].1.1 == p0) && (l[k].1.2 == p1)) = false := by
          rw [Bool.eq_false_iff]
          intro hh
          simp only [Bool.and_eq_true, beq_iff_eq] at hh
          exact he (Prod.ext hh.1 hh.2)
        rw [hv] at hq
        clear he hv
        go_wp2_with fail
        go_quiet (fail)
        have ow2 := own_laterR own (below_draws _ _ nq)
        have hb2 := hbr.trans (below_draws _ _ nq)
        go_wp2_with (at_builtin; refine wpRds_one fE_len (by decide) _ l[k] 36 rfl rfl (.tmp 31) (.tmp 39) 40 rfl w1.heap.size 24 _ Try.underlying40 infoE rfl rfl ow2 rfl (by omega) (by omega) hs1 ?_; intro v9 w9 own9 hg9)
        have hb5 := below_growR (hb2.alloc hs1 (.cells ((fE l[k]).map (Value.int .i64)).toArray 36)) (ow2.alloc _) hg9 (Nat.le_trans hs1 (below_new _ _).size)
        go_roundw
        case rel => exact ⟨k + 1, by omega, by go_num, by rw [NX.out, if_pos HP.out]; unfold OutIs; simpa using own9, hb5⟩
        case measure => simp [intOf]; omega
    · have hkl : k = l.length := by omega
      have e1 : cutR (l.take k) (p0, p1) = cutR l (p0, p1) := by rw [hkl, List.take_length]
      rw [e1] at own hcl
      have hwO : ∀ x ∈ cutR l (p0, p1), ∀ z ∈ fE x, (Lit.int .i64 z).wf = true := fun x hx => R.wf x (List.mem_filter.1 hx).1
      obtain ⟨x3, k3, rfl, R3, hx3⟩ := rds_of_owns2 fE_len own rfl hwO
      have hcmp : (((cutR l (p0, p1)).length : Int) == (l.length : Int)) = true := by rw [HR.out]; simp
      go_wp2_with fail
      go_ret
      exact ⟨rfl, below_step hb1 hbr⟩
set_option maxHeartbeats 2000000 in
theorem rCut_ok {F : Nat → Prop} {w : World} {B : Nat} {room : Int} {l : List T3} (L : LAt F w B room l) (hl : l.length ≤ 1000) (p0 p1 : Int) (hp : M.mayB p0 p1 = true) (hr : ¬ (cutR l (p0, p1)).length = l.length) :
    Calls Try.prog 15 #[.pointer (some ⟨B, 0, none⟩), .agg #[.int .i64 p0, .int .i64 p1]] w fun e w' => e = .returned (.int .i64 0) ∧ LAt (Grow F w w') w' B room (cutR l (p0, p1)) ∧ Keeps F w w' := by
  obtain ⟨a, c, hs0, R, hx⟩ := L.slice
  have hmx := Nat.le_trans R.le R.max
  unfold maxLen at hmx
  have hn := below_new w (.cells #[.int .i64 p0, .int .i64 p1] 29)
  have X := Lies.new w [p0, p1] 29 rfl
  have cm := fun w => rmay_any p0 p1 w
  rw [hp] at cm
  have HR : Hid (¬ (cutR l (p0, p1)).length = l.length) := hr
  clear hr
  go_enter Try.func15, Try.ntmps15
  go_wp2_with fail
  refine (cm _).mono ?_
  rintro e w1 ⟨rfl, hb⟩
  have hb1 := below_step hn hb
  have hB1 := Nat.lt_of_lt_of_le L.lt hb1.size
  have X1 := X.later hb
  have R1 := R.later hb1
  have s1 := (hb1.cell (p := ⟨B, 0, none⟩) L.lt).trans hs0
  clear X hb hs0
  go_wp2_with fail
  go_loopw [6, 7] (fun v i wr => ∃ k : Nat, k ≤ l.length ∧ i = .int .i64 k ∧ OutIs w1.heap.size wr v (cutR (l.take k) (p0, p1)) ∧ Below w1.heap.size w1 wr) (fun _ i _ => l.length - (intOf i).toNat)
  case atStart => exact ⟨0, by omega, rfl, World.ownsRow_nil _ _ _ _, Below.refl _ _⟩
  case round =>
    obtain ⟨k, hk, rfl, own, hbr⟩ := hrel
    unfold OutIs at own
    have sr := (hbr.cell (p := ⟨B, 0, none⟩) hB1).trans s1
    have hcl : (cutR (l.take k) (p0, p1)).length ≤ k := by
      have h1 : (cutR (l.take k) (p0, p1)).length ≤ (l.take k).length := List.length_filter_le _ _
      have h2 : (l.take k).length ≤ k := by simp; omega
      omega
    by_cases hlt : k < l.length
    · have gk : l[k]? = some l[k] := List.getElem?_eq_getElem hlt
      obtain ⟨b, o, rfl, hbb, hc⟩ := (R1.later hbr).at gk
      have c0 := hc 0 _ rfl
      have c1 := hc 1 _ rfl
      have c2 := hc 2 _ rfl
      rw [Nat.add_zero] at c0
      clear hc
      obtain ⟨x0, x1⟩ := (X1.later hbr).two
      have hi : (k : Int) < (l.length : Int) := by omega
      have hq := fun w => ne_pre l[k].1.1 l[k].1.2 p0 p1 w
      have NX : Hid (cutR (l.take (k + 1)) (p0, p1) = cutR (l.take k) (p0, p1) ++ (if l[k].1 ≠ (p0, p1) then [l[k]] else [])) := cut_next _ hlt
      generalize cutR (l.take k) (p0, p1) = O at own NX hcl
      have hs1 := hbr.size
      by_cases he : l[k].1 = (p0, p1)
      · have HP : Hid (l[k].1 = (p0, p1)) := he
        have hv : ((l[k].1.1 == p0) && (l[k].1.2 == p1)) = true := by simp [he]
        rw [hv] at hq
        clear he hv
        go_wp2_with fail
        go_quiet (fail)
        go_wp2_with fail
        go_roundw
        case rel => exact ⟨k + 1, by omega, by go_num, by rw [NX.out, if_neg (by simpa using HP.out), List.append_nil]; exact own_laterR own (below_draws _ _ _), hbr.trans (below_draws _ _ _)⟩
        case measure => simp [intOf]; omega
      · have HP : Hid (¬ l[k].1 = (p0, p1)) := he
        have hv : ((l[k].1.1 == p0) && (l[k].1.2 == p1)) = false := by
          rw [Bool.eq_false_iff]
          intro hh
          simp only [Bool.and_eq_true, beq_iff_eq] at hh
          exact he (Prod.ext hh.1 hh.2)
        rw [hv] at hq
        clear he hv
        go_wp2_with fail
        go_quiet (fail)
        have ow2 := own_laterR own (below_draws _ _ nq)
        have hb2 := hbr.trans (below_draws _ _ nq)
        go_wp2_with (at_builtin; refine wpRds_one fE_len (by decide) _ l[k] 36 rfl rfl (.tmp 31) (.tmp 39) 40 rfl w1.heap.size 24 _ Try.underlying40 infoE rfl rfl ow2 rfl (by omega) (by omega) hs1 ?_; intro v9 w9 own9 hg9)
        have hb5 := below_growR (hb2.alloc hs1 (.cells ((fE l[k]).map (Value.int .i64)).toArray 36)) (ow2.alloc _) hg9 (Nat.le_trans hs1 (below_new _ _).size)
        go_roundw
        case rel => exact ⟨k + 1, by omega, by go_num, by rw [NX.out, if_pos HP.out]; unfold OutIs; simpa using own9, hb5⟩
        case measure => simp [intOf]; omega
    · have hkl : k = l.length := by omega
      have e1 : cutR (l.take k) (p0, p1) = cutR l (p0, p1) := by rw [hkl, List.take_length]
      rw [e1] at own hcl
      have hwO : ∀ x ∈ cutR l (p0, p1), ∀ z ∈ fE x, (Lit.int .i64 z).wf = true := fun x hx => R.wf x (List.mem_filter.1 hx).1
      obtain ⟨x3, k3, rfl, R3, hx3⟩ := rds_of_owns2 fE_len own rfl hwO
      have hcmp : (((cutR l (p0, p1)).length : Int) == (l.length : Int)) = false := by
        rw [beq_eq_false_iff_ne]
        have := HR.out
        omega
      have hfz := (hbr.frozen (p := ⟨B, 0, none⟩) hB1).trans ((hb1.frozen (p := ⟨B, 0, none⟩) L.lt).trans (L.fz 0))
      have hb9 := below_step hb1 hbr
      have hB9 := Nat.lt_of_lt_of_le hB1 hbr.size
      have hwb := hb1.size
      go_wp2_with fail
      go_ret
      have hK : Keeps (fun k => k = B) wr (wr.setCell ⟨B, 0, none⟩ (.slice x3 (cutR l (p0, p1)).length k3)) := (Keeps.refl (fun k => k = B) wr).setCell (p := ⟨B, 0, none⟩) (fun _ => rfl) _
      have hlt := L.lt
      refine ⟨rfl, ⟨by rw [World.size_setCell]; exact hB9, .inl L.here, fun j => ?_, ?_, x3, k3, ?_, R3.kept hK (fun y e _ => ?_), fun y e _ => ⟨?_, .inr ⟨?_, by rw [World.size_setCell]; exact (hx3 y e).2⟩, ?_⟩⟩, ?_⟩
      · rw [World.frozen?_setCell]; exact (hb9.frozen (p := ⟨B, j, none⟩) L.lt).trans (L.fz j)
      · exact (World.cell?_setCell_other _ ⟨B, 0, none⟩ ⟨B, 1, none⟩ _ (by simp)).trans ((hb9.cell (p := ⟨B, 1, none⟩) L.lt).trans L.room)
      · exact World.cell?_setCell_same _ _ _ sr
      · have := (hx3 y e).1; simp; omega
      · have := (hx3 y e).1; omega
      · have := (hx3 y e).1; omega
      · rw [World.size_setCell]; exact (hx3 y e).2
      · exact (Keeps.of_below hb9).setCell (fun _ => L.here) _
/-! ### Find -/
theorem size_put7 (w : World) (a : Addr) (v : Value) : (w.setCell a v).heap.size = w.heap.size := by simp
theorem Lies.put7 {w : World} {B o : Nat} {l : List Int} (X : Lies w B l) (ho : o < l.length) (x : Int) : Lies (w.setCell ⟨B, o, none⟩ (.int .i64 x)) B (l.set o x) :=
  ⟨by rw [size_put7]; exact X.lt, fun j u hu => by
    by_cases hj : o = j
    · subst hj
      rw [List.getElem?_set_self ho] at hu
      obtain rfl := Option.some.inj hu
      exact World.cell?_setCell_same _ _ _ (X.cells o (l[o]) (by simp [ho]))
    · rw [List.getElem?_set_ne hj] at hu
      exact (World.cell?_setCell_other _ ⟨B, o, none⟩ ⟨B, j, none⟩ _ (fun e => hj (congrArg Addr.off e))).trans (X.cells j u hu), fun j => by rw [World.frozen?_setCell]; exact X.fz j⟩
theorem Lies.far7 {w : World} {B b o : Nat} {l : List Int} (X : Lies w B l) (h : b ≠ B) (v : Value) : Lies (w.setCell ⟨b, o, none⟩ v) B l :=
  ⟨by rw [size_put7]; exact X.lt, fun j x hx => (World.cell?_setCell_other _ ⟨b, o, none⟩ ⟨B, j, none⟩ _ (fun e => h (congrArg Addr.block e))).trans (X.cells j x hx), fun j => by rw [World.frozen?_setCell]; exact X.fz j⟩
theorem Lies.put3 {w : World} {B : Nat} {y0 y1 y2 : Int} (X : Lies w B [y0, y1, y2]) (x0 x1 x2 : Int) : Lies (((w.setCell ⟨B, 0, none⟩ (.int .i64 x0)).setCell ⟨B, 1, none⟩ (.int .i64 x1)).setCell ⟨B, 2, none⟩ (.int .i64 x2)) B [x0, x1, x2] :=
  ((X.put7 (o := 0) (by simp) x0).put7 (o := 1) (by simp) x1).put7 (o := 2) (by simp) x2
theorem Lies.far3 {w : World} {B b : Nat} {l : List Int} (X : Lies w B l) (h : b ≠ B) (x0 x1 x2 : Value) : Lies (((w.setCell ⟨b, 0, none⟩ x0).setCell ⟨b, 1, none⟩ x1).setCell ⟨b, 2, none⟩ x2) B l := ((X.far7 h x0).far7 h x1).far7 h x2
theorem below_lay3 {B b : Nat} {w0 w : World} (x0 x1 x2 : Value) (hb : Below B w0 w) (hg : B ≤ b) : Below B w0 (((w.setCell ⟨b, 0, none⟩ x0).setCell ⟨b, 1, none⟩ x1).setCell ⟨b, 2, none⟩ x2) := ((hb.setCell (p := ⟨b, 0, none⟩) hg _).setCell (p := ⟨b, 1, none⟩) hg _).setCell (p := ⟨b, 2, none⟩) hg _
/-- the best so far, as numbers: noughts, if there is none -/
def bestE : Option T3 → List Int
  | some x => [x.1.1, x.1.2, x.2]
  | none => [0, 0, 0]
theorem find_next (addr : Int) {l : List T3} {k : Nat} (h : k < l.length) : findR (l.take (k + 1)) addr none = betterR addr (findR (l.take k) addr none) l[k] := by
  unfold findR
  rw [List.take_succ_eq_append_getElem h, List.foldl_append]
  rfl
set_option maxHeartbeats 4000000 in
theorem rFind_any {F : Nat → Prop} {w : World} {B : Nat} {room : Int} {l : List T3} (L : LAt F w B room l) (hl : l.length ≤ 1000) (addr : Int) {g0 g1 g2 : Int} (hg : bestE (findR l addr none) = [g0, g1, g2]) :
    Calls Try.prog 17 #[.pointer (some ⟨B, 0, none⟩), .int .i64 addr] w fun e w' => e = .returned (.tuple #[.agg #[.int .i64 g0, .int .i64 g1, .int .i64 g2], .bool (findR l addr none).isSome]) ∧ Below w.heap.size w w' := by
  obtain ⟨a, c, hs0, R, hx⟩ := L.slice
  have hmx := Nat.le_trans R.le R.max
  unfold maxLen at hmx
  have hB := L.lt
  have hn := below_step (below_new w (.cells #[.int .i64 0, .int .i64 0, .int .i64 0] 36)) (below_new (w.alloc (.cells #[.int .i64 0, .int .i64 0, .int .i64 0] 36)) (.cells #[.int .i64 0, .int .i64 0, .int .i64 0] 36))
  have XR0 := (Lies.new w [0, 0, 0] 36 rfl).later (below_new (w.alloc (.cells #[.int .i64 0, .int .i64 0, .int .i64 0] 36)) (.cells #[.int .i64 0, .int .i64 0, .int .i64 0] 36))
  have YB0 := Lies.new (w.alloc (.cells #[.int .i64 0, .int .i64 0, .int .i64 0] 36)) [0, 0, 0] 36 (B := w.heap.size + 1) (by simp)
  go_enter Try.func17, Try.ntmps17
  go_wp2_with fail
  go_loopw [7, 8] (fun d i wr => ∃ k : Nat, k ≤ l.length ∧ i = .int .i64 k ∧ d = .bool (findR (l.take k) addr none).isSome ∧ Lies wr (w.heap.size + 1) (bestE (findR (l.take k) addr none)) ∧ Lies wr w.heap.size [0, 0, 0] ∧ Below w.heap.size w wr) (fun _ i _ => l.length - (intOf i).toNat)
  case atStart => exact ⟨0, by omega, rfl, rfl, YB0, XR0, hn⟩
  case round =>
    obtain ⟨k, hk, rfl, rfl, YB, XR, hbr⟩ := hrel
    have sr := (hbr.cell (p := ⟨B, 0, none⟩) L.lt).trans hs0
    clear XR0 YB0
    by_cases hlt : k < l.length
    · have gk : l[k]? = some l[k] := List.getElem?_eq_getElem hlt
      obtain ⟨b, o, rfl, hbb, hc⟩ := (R.later hbr).at gk
      have c0 := hc 0 _ rfl
      have c1 := hc 1 _ rfl
      rw [Nat.add_zero] at c0
      clear hc
      have hi : (k : Int) < (l.length : Int) := by omega
      have ch := fun w => rhas_any l[k].1.1 l[k].1.2 addr w
      have NX0 := find_next addr hlt
      unfold betterR at NX0
      cases hh : M.hasB l[k].1.1 l[k].1.2 addr
      · rw [hh] at ch NX0
        have NX : Hid (findR (l.take (k + 1)) addr none = findR (l.take k) addr none) := by rw [NX0]; exact if_neg (fun h => by cases h.1)
        clear NX0
        cases hbs : findR (l.take k) addr none with
        | none =>
          rw [hbs] at YB NX
          go_wp2_with fail
          refine (ch _).mono ?_
          rintro e w2 ⟨rfl, hb2⟩
          have hB2 := hbr.trans (hb2.mono hbr.size)
          have sr2 := (hB2.cell (p := ⟨B, 0, none⟩) L.lt).trans hs0
          obtain ⟨b9, o9, e9, -, hc9⟩ := (R.later hB2).at gk
          cases e9
          have c0 := hc9 0 _ rfl
          have c1 := hc9 1 _ rfl
          have c2 := hc9 2 _ rfl
          rw [Nat.add_zero] at c0
          clear hc9
          have Y2 := YB.later hb2
          have X2 := XR.later hb2
          obtain ⟨y0, y1, y2⟩ := Y2.three
          have yl := Y2.lt
          have yf := Y2.fz
          go_wp2_with fail
          go_quiet (fail)
          have hB3 := hB2.trans (below_draws _ _ nq)
          have Y3 := Y2.later (below_draws _ _ nq)
          have X3 := X2.later (below_draws _ _ nq)
          go_wp2_with fail
          go_roundw
          case rel => exact ⟨k + 1, by omega, by go_num, by rw [NX.out]; rfl, by rw [NX.out]; exact Y3, X3, hB3⟩
          case measure => simp [intOf]; omega
        | some bb =>
          rw [hbs] at YB NX
          go_wp2_with fail
          refine (ch _).mono ?_
          rintro e w2 ⟨rfl, hb2⟩
          have hB2 := hbr.trans (hb2.mono hbr.size)
          have sr2 := (hB2.cell (p := ⟨B, 0, none⟩) L.lt).trans hs0
          obtain ⟨b9, o9, e9, -, hc9⟩ := (R.later hB2).at gk
          cases e9
          have c0 := hc9 0 _ rfl
          have c1 := hc9 1 _ rfl
          have c2 := hc9 2 _ rfl
          rw [Nat.add_zero] at c0
          clear hc9
          have Y2 := YB.later hb2
          have X2 := XR.later hb2
          obtain ⟨y0, y1, y2⟩ := Y2.three
          have yl := Y2.lt
          have yf := Y2.fz
          go_wp2_with fail
          go_quiet (fail)
          have hB3 := hB2.trans (below_draws _ _ nq)
          have Y3 := Y2.later (below_draws _ _ nq)
          have X3 := X2.later (below_draws _ _ nq)
          go_wp2_with fail
          go_roundw
          case rel => exact ⟨k + 1, by omega, by go_num, by rw [NX.out]; rfl, by rw [NX.out]; exact Y3, X3, hB3⟩
          case measure => simp [intOf]; omega
      · rw [hh] at ch NX0
        cases hbs : findR (l.take k) addr none with
        | none =>
          rw [hbs] at YB NX0
          have NX : Hid (findR (l.take (k + 1)) addr none = some l[k]) := by rw [NX0]; exact if_pos ⟨rfl, fun _ h => by cases h⟩
          clear NX0
          go_wp2_with fail
          refine (ch _).mono ?_
          rintro e w2 ⟨rfl, hb2⟩
          have hB2 := hbr.trans (hb2.mono hbr.size)
          have sr2 := (hB2.cell (p := ⟨B, 0, none⟩) L.lt).trans hs0
          obtain ⟨b9, o9, e9, -, hc9⟩ := (R.later hB2).at gk
          cases e9
          have c0 := hc9 0 _ rfl
          have c1 := hc9 1 _ rfl
          have c2 := hc9 2 _ rfl
          rw [Nat.add_zero] at c0
          clear hc9
          have Y2 := YB.later hb2
          have X2 := XR.later hb2
          obtain ⟨y0, y1, y2⟩ := Y2.three
          have yl := Y2.lt
          have yf := Y2.fz
          go_wp2_with fail
          go_quiet (fail)
          have hB3 := hB2.trans (below_draws _ _ nq)
          have Y3 := Y2.later (below_draws _ _ nq)
          have X3 := X2.later (below_draws _ _ nq)
          go_wp2_with fail
          go_roundw
          case rel => exact ⟨k + 1, by omega, by go_num, by rw [NX.out]; rfl, by rw [NX.out]; exact Y3.put3 _ _ _, X3.far3 (by omega) _ _ _, below_lay3 _ _ _ hB3 (by omega)⟩
          case measure => simp [intOf]; omega
        | some bb =>
          rw [hbs] at YB NX0
          by_cases hlen : bb.1.2 < l[k].1.2
          · have NX : Hid (findR (l.take (k + 1)) addr none = some l[k]) := by rw [NX0]; exact if_pos ⟨rfl, fun b h => by cases h; exact hlen⟩
            clear NX0
            go_wp2_with fail
            refine (ch _).mono ?_
            rintro e w2 ⟨rfl, hb2⟩
            have hB2 := hbr.trans (hb2.mono hbr.size)
            have sr2 := (hB2.cell (p := ⟨B, 0, none⟩) L.lt).trans hs0
            obtain ⟨b9, o9, e9, -, hc9⟩ := (R.later hB2).at gk
            cases e9
            have c0 := hc9 0 _ rfl
            have c1 := hc9 1 _ rfl
            have c2 := hc9 2 _ rfl
            rw [Nat.add_zero] at c0
            clear hc9
            have Y2 := YB.later hb2
            have X2 := XR.later hb2
            obtain ⟨y0, y1, y2⟩ := Y2.three
            have yl := Y2.lt
            have yf := Y2.fz
            go_wp2_with fail
            go_quiet (fail)
            have hB3 := hB2.trans (below_draws _ _ nq)
            have Y3 := Y2.later (below_draws _ _ nq)
            have X3 := X2.later (below_draws _ _ nq)
            go_wp2_with fail
            go_roundw
            case rel => exact ⟨k + 1, by omega, by go_num, by rw [NX.out]; rfl, by rw [NX.out]; exact Y3.put3 _ _ _, X3.far3 (by omega) _ _ _, below_lay3 _ _ _ hB3 (by omega)⟩
            case measure => simp [intOf]; omega
          · have NX : Hid (findR (l.take (k + 1)) addr none = some bb) := by rw [NX0]; exact if_neg (fun h => hlen (h.2 bb rfl))
            clear NX0
            go_wp2_with fail
            refine (ch _).mono ?_
            rintro e w2 ⟨rfl, hb2⟩
            have hB2 := hbr.trans (hb2.mono hbr.size)
            have sr2 := (hB2.cell (p := ⟨B, 0, none⟩) L.lt).trans hs0
            obtain ⟨b9, o9, e9, -, hc9⟩ := (R.later hB2).at gk
            cases e9
            have c0 := hc9 0 _ rfl
            have c1 := hc9 1 _ rfl
            have c2 := hc9 2 _ rfl
            rw [Nat.add_zero] at c0
            clear hc9
            have Y2 := YB.later hb2
            have X2 := XR.later hb2
            obtain ⟨y0, y1, y2⟩ := Y2.three
            have yl := Y2.lt
            have yf := Y2.fz
            go_wp2_with fail
            go_quiet (fail)
            have hB3 := hB2.trans (below_draws _ _ nq)
            have Y3 := Y2.later (below_draws _ _ nq)
            have X3 := X2.later (below_draws _ _ nq)
            go_wp2_with fail
            go_roundw
            case rel => exact ⟨k + 1, by omega, by go_num, by rw [NX.out]; rfl, by rw [NX.out]; exact Y3, X3, hB3⟩
            case measure => simp [intOf]; omega
    · have e1 : l.take k = l := by rw [show k = l.length by omega]; exact List.take_length
      rw [e1] at YB ⊢
      rw [hg] at YB
      obtain ⟨x0, x1, x2⟩ := XR.three
      obtain ⟨y0, y1, y2⟩ := YB.three
      have xl := XR.lt
      have xf := XR.fz
      go_wp2_with fail
      refine bodyPost_ret (v := .tuple #[.agg #[.int .i64 g0, .int .i64 g1, .int .i64 g2], .bool (findR l addr none).isSome]) (by simp [results, Try.results17, go_sem, x0, x1, x2]) rfl ?_
      exact ⟨rfl, below_lay3 _ _ _ hbr (Nat.le_refl _)⟩
end Go.Proofs.Ytlgldoggnlcbkaa
