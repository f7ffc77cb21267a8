/- The statement WiresOwn, over whatever the code is (WCode). -/
import Derived.Test.YtoedgnkoahcblaaWireIf
import Derived.Deep.RegionHeld3
namespace Go.Proofs.Ytoedgnkoahcblaa
open Go.ChangeShapes Go.WideShapes Go.ChangeAt Go.RowKit O Wi
set_option linter.unusedVariables false
set_option linter.unusedSimpArgs false

theorem own_keptW {S : Nat → Prop} {W W' : World} {base e sz n : Nat} {v : Value} {xs : List Value} (h : W.ownsRow base e sz v n xs) (hk : Keeps S W W') (hS : ∀ k, v.ownBlock = some k → ¬ S k) : W'.ownsRow base e sz v n xs := by
  refine ⟨h.1, ?_⟩
  rcases h.2 with h0 | ⟨g, cap, cur, hv, hbg, hg, rest⟩
  · exact .inl h0
  · exact .inr ⟨g, cap, cur, hv, hbg, (hk.block g (Array.getElem?_eq_some_iff.1 hg).1 (hS g (by rw [hv]; rfl))).trans hg, rest⟩
theorem C3.set2 {b : Nat} {x0 x1 x2 : Value} {w : World} (h : C3 b x0 x1 x2 w) (y : Value) : C3 b x0 x1 y (w.setCell ⟨b, 2, none⟩ y) := by
  have ne : ∀ i j : Nat, i ≠ j → (⟨b, i, none⟩ : Addr) ≠ ⟨b, j, none⟩ := fun i j h e => h (by injection e)
  exact ⟨by rw [World.size_setCell]; exact h.lt, (World.cell?_setCell_other _ _ _ _ (ne 2 0 (by decide))).trans h.c0, (World.cell?_setCell_other _ _ _ _ (ne 2 1 (by decide))).trans h.c1, World.cell?_setCell_same' _ _ _ (by rw [h.c2]; rfl)⟩
theorem C3.kept {S : Nat → Prop} {b : Nat} {x0 x1 x2 : Value} {w w' : World} (h : C3 b x0 x1 x2 w) (hk : Keeps S w w') (hS : ¬ S b) : C3 b x0 x1 x2 w' :=
  ⟨Nat.lt_of_lt_of_le h.lt hk.size, (hk.cell (p := ⟨b, 0, none⟩) h.lt hS).trans h.c0, (hk.cell (p := ⟨b, 1, none⟩) h.lt hS).trans h.c1, (hk.cell (p := ⟨b, 2, none⟩) h.lt hS).trans h.c2⟩
set_option maxRecDepth 100000 in
set_option maxHeartbeats 8000000 in
theorem wiresOwn_of (C : WCode) (a : Option Addr) (c : Nat) (L : List Wr) (ps : Int) (pu : Bool) (px : Option Addr) (pc : Nat) (pb : List Int) (w : World) (V : Wires none w a c L) (hps : (Lit.int .i64 ps).wf = true) (RP : Reads .u8 w px pc pb) :
    Calls Try.prog 5 #[.slice a L.length c, .agg #[.int .i64 ps, .bool pu, .slice px pb.length pc]] w fun e w' => e = .returned (.bool true) ∧ Below w.heap.size w w' := by
  have V0 := V
  have R0 := RP
  have hltp := hps
  have hmx := Nat.le_trans V.le V.max
  unfold maxLen at hmx
  have hP : WireAt none w ⟨ps, pu, px, pb.length, pc⟩ ⟨ps, pu, pb⟩ := ⟨rfl, rfl, hps, rfl, RP, fun _ _ _ e => (nomatch e)⟩
  have hpm := Nat.le_trans RP.le RP.max
  unfold maxLen at hpm
  clear RP hps
  have K : C3 w.heap.size (.int .i64 ps) (.bool pu) (.slice px pb.length pc) (w.alloc (.cells #[.int .i64 ps, .bool pu, .slice px pb.length pc] 25)) := C3.new w _ _ _ _ rfl
  have hB := below_new w (.cells #[.int .i64 ps, .bool pu, .slice px pb.length pc] 25)
  replace V := V.later hB
  replace hP := hP.later hB
  have cFa := fun w (V : Wires none w a c L) => few14_any w V
  cases hA : fewWB L with
  | false =>
    rw [hA] at cFa
    go_enter Try.func5, Try.ntmps5
    go_wp2_with fail
    refine (wawake_any C _).mono ?_
    rintro e w1 ⟨rfl, hb⟩
    replace V := V.later hb
    replace hP := hP.later hb
    replace K := K.later hb
    replace hB := below_step hB hb
    clear hb
    go_wp2_with fail
    refine (cFa _ V).mono ?_
    rintro e w' ⟨rfl, hww⟩
    obtain rfl := hww.symm
    go_wp2_with fail
    go_ret
    exact ⟨rfl, hB⟩
  | true =>
    rw [hA] at cFa
    have bA := (fewW_iff L).1 hA
    clear hA
    by_cases h0 : pb.length = 0
    case pos =>
      clear bA
      have hz : ((pb.length : Int) == 0) = true := by rw [beq_iff_eq]; omega
      clear h0
      go_enter Try.func5, Try.ntmps5
      go_wp2_with fail
      refine (wawake_any C _).mono ?_
      rintro e w1 ⟨rfl, hb⟩
      replace V := V.later hb
      replace hP := hP.later hb
      replace K := K.later hb
      replace hB := below_step hB hb
      clear hb
      have Kz0 := K.c0
      have Kz1 := K.c1
      have Kz2 := K.c2
      go_wp2_with fail
      refine (cFa _ V).mono ?_
      rintro e w' ⟨rfl, hww⟩
      obtain rfl := hww.symm
      go_wp2_with fail
      go_ret
      exact ⟨rfl, hB⟩
    by_cases h300 : 300 < pb.length
    case pos =>
      clear bA
      have hz0 : ((pb.length : Int) == 0) = false := by rw [beq_eq_false_iff_ne]; omega
      have hz : (300 : Int) < (pb.length : Int) := by omega
      go_enter Try.func5, Try.ntmps5
      go_wp2_with fail
      refine (wawake_any C _).mono ?_
      rintro e w1 ⟨rfl, hb⟩
      replace V := V.later hb
      replace hP := hP.later hb
      replace K := K.later hb
      replace hB := below_step hB hb
      clear hb
      have Kz0 := K.c0
      have Kz1 := K.c1
      have Kz2 := K.c2
      go_wp2_with fail
      refine (cFa _ V).mono ?_
      rintro e w' ⟨rfl, hww⟩
      obtain rfl := hww.symm
      go_wp2_with fail
      go_ret
      exact ⟨rfl, hB⟩
    have hz0 : ((pb.length : Int) == 0) = false := by rw [beq_eq_false_iff_ne]; omega
    have hz : ¬ (300 : Int) < (pb.length : Int) := by omega
    have hp300 : pb.length ≤ 300 := by omega
    have hp0 : 0 < pb.length := by omega
    have hp0z : (0 : Int) < (pb.length : Int) := by omega
    clear h0 h300 V hP hpm
    have FZ : ∀ j, (w.alloc (.cells #[.int .i64 ps, .bool pu, .slice px pb.length pc] 25)).frozen? ⟨w.heap.size, j, none⟩ = false := fun j => by unfold World.frozen?; rw [heap_alloc_new]; simp
    have cS := fun (u : World) {g : Nat} {x : Option Addr} {m : Nat} (hB : Below w.heap.size w u) (hg : w.heap.size ≤ g) (hgu : g < u.heap.size) (hR : Reads .u8 u x m pb) => C.send u (u := some g) (g' := none) (p := ⟨ps, pu, x, pb.length, m⟩) (v := ⟨ps, pu, pb⟩) ((V0.far (u := some g) (fun k e => by cases e; exact hg)).later hB) ⟨rfl, rfl, hltp, rfl, hR, fun _ _ _ e => (nomatch e)⟩ bA hp300 (fun k e => by cases e; exact hgu)
    dsimp only [vW] at cS
    obtain ⟨b0, hb0⟩ : ∃ b0, pb[0]? = some b0 := ⟨pb[0], List.getElem?_eq_getElem hp0⟩
    by_cases h60 : L.length < 60
    case neg =>
      obtain ⟨s1, s2⟩ := send_full (x := ⟨ps, pu, pb⟩) h60
      simp only [s1, s2] at cS
      have h60z : (60 : Int) ≤ (L.length : Int) := by omega
      clear s1 s2 bA
      go_enter Try.func5, Try.ntmps5
      go_wp2_with fail
      refine (wawake_any C _).mono ?_
      rintro e w1 ⟨rfl, hb⟩
      replace K := K.later hb
      replace FZ := fun j => (hb.frozen (p := ⟨w.heap.size, j, none⟩) (by simp)).trans (FZ j)
      replace hB := below_step hB hb
      clear hb
      have Kz0 := K.c0
      have Kz1 := K.c1
      have Kz2 := K.c2
      go_wp2_with fail
      refine (cFa _ (V0.later hB)).mono ?_
      clear cFa
      rintro e w' ⟨rfl, hww⟩
      obtain rfl := hww.symm
      have RP1 := R0.later hB
      go_wp2_with (at_builtin; refine wpList_join rfl (.const (.slice none 0 0)) (.tmp 34) 23 rfl w1.heap.size 5 1 Try.underlying23 info8 (v := .slice none 0 0) (n := 0) (ys := []) rfl (World.ownsRow_nil _ _ _ _) rfl RP1 rfl (by omega) (by omega) (Nat.le_refl _) ?_; intro v2 w2 own2 hg2; apply Classical.byContradiction; intro hstop)
      simp only [Nat.zero_add, List.nil_append] at own2
      have hb2 := below_fresh (B := w1.heap.size) hg2 (Nat.le_refl _)
      obtain ⟨g, k2, rfl, hg, hglt⟩ := own2.form hp0
      have hlt1 := K.lt
      have hgw : w.heap.size ≤ g := Nat.le_trans (Nat.le_of_lt hlt1) hg
      have hgne : g ≠ w.heap.size := by omega
      clear Kz0 Kz1 Kz2
      replace K := K.later hb2
      replace FZ := fun j => (hb2.frozen (p := ⟨w.heap.size, j, none⟩) hlt1).trans (FZ j)
      replace hB := below_step hB hb2
      have kw3 : Keeps (fun k => k = w.heap.size) w2 (w2.setCell ⟨w.heap.size, 2, none⟩ (.slice (some ⟨g, 0, none⟩) pb.length k2)) := (Keeps.refl (fun k => k = w.heap.size) w2).setCell (p := ⟨w.heap.size, 2, none⟩) (fun _ => rfl) _
      have own3 : (w2.setCell ⟨w.heap.size, 2, none⟩ (.slice (some ⟨g, 0, none⟩) pb.length k2)).ownsRow w1.heap.size 5 1 (.slice (some ⟨g, 0, none⟩) pb.length k2) pb.length (pb.map (Value.int .u8)) := own_keptW own2 kw3 (fun k e h => by cases e; exact hgne h)
      have K3 := K.set2 (.slice (some ⟨g, 0, none⟩) pb.length k2)
      have FZ3 : ∀ j, (w2.setCell ⟨w.heap.size, 2, none⟩ (.slice (some ⟨g, 0, none⟩) pb.length k2)).frozen? ⟨w.heap.size, j, none⟩ = false := fun j => by rw [World.frozen?_setCell]; exact FZ j
      have hB3 : Below w.heap.size w (w2.setCell ⟨w.heap.size, 2, none⟩ (.slice (some ⟨g, 0, none⟩) pb.length k2)) := hB.setCell (p := ⟨w.heap.size, 2, none⟩) (Nat.le_refl _) _
      have hgu3 : g < (w2.setCell ⟨w.heap.size, 2, none⟩ (.slice (some ⟨g, 0, none⟩) pb.length k2)).heap.size := by rw [World.size_setCell]; exact hglt
      have e0 : (pb.map (Value.int .u8))[0]? = some (.int .u8 b0) := by rw [List.getElem?_map, hb0]; rfl
      have g0 := (own3.cellAt 0 (by omega)).trans e0
      have Kz2 := K.c2
      have FZ2 := FZ 2
      have K3z0 := K3.c0
      have K3z1 := K3.c1
      have K3z2 := K3.c2
      clear kw3 own2 hg2 hb2 RP1 K FZ hB
      apply hstop
      clear hstop
      go_wp2_with fail
      clear K3z0 K3z1 K3z2
      clear Kz2 FZ2 g0
      generalize (w2.setCell ⟨w.heap.size, 2, none⟩ (.slice (some ⟨g, 0, none⟩) pb.length k2)) = u3 at own3 K3 FZ3 hB3 hgu3 ⊢
      have R3 := (reads_own own3 (fun z hz => R0.wf z hz)).1
      refine (cS u3 hB3 hgw hgu3 R3).mono ?_
      clear cS R3
      rintro e w4 ⟨y, m4, rfl, S1, hb4⟩
      have own4 := own_laterW own3 hb4
      have K4 := K3.later hb4
      have hB4 := below_step hB3 hb4
      have hgu4 := Nat.lt_of_lt_of_le hgu3 hb4.size
      have g0 := (own4.cellAt 0 (by omega)).trans e0
      have gf := own4.frozenAt 0
      have K4z0 := K4.c0
      have K4z1 := K4.c1
      have K4z2 := K4.c2
      have kw5 : Keeps (fun k => some g = some k) w4 (w4.setCell ⟨g, 0, none⟩ (.int .u8 ((b0 + 1) % 256))) := (Keeps.refl (fun k => some g = some k) w4).setCell (p := ⟨g, 0, none⟩) (fun _ => rfl) _
      have S5 := S1.kept kw5
      have K5 := K4.kept kw5 (fun e => hgne (by injection e))
      have hB5 : Below w.heap.size w (w4.setCell ⟨g, 0, none⟩ (.int .u8 ((b0 + 1) % 256))) := hB4.setCell (p := ⟨g, 0, none⟩) hgw _
      have V5 := V0.later hB5
      clear S1 kw5 own4 own3 K3 FZ3 hb4 hB3 hB4 K4 hgu3 hgu4
      clear K5
      go_wp2_with fail
      clear K4z0 K4z1 K4z2
      clear g0 gf
      generalize (w4.setCell ⟨g, 0, none⟩ (.int .u8 ((b0 + 1) % 256))) = u5 at S5 hB5 V5 ⊢
      refine (same14_any _ V5 S5).mono ?_
      clear V5 S5
      rintro e w6 ⟨rfl, hb6⟩
      have hB := below_step hB5 hb6
      have e1 : decide (L = L) = true := decide_eq_true rfl
      go_wp2_with fail
      go_ret
      first | exact ⟨rfl, hB⟩ | exact ⟨ret_bool (by simp), hB⟩
    obtain ⟨s1, s2⟩ := send_room (x := ⟨ps, pu, pb⟩) h60
    simp only [s1, s2] at cS
    have HMl : Hid ((L ++ [(⟨ps, pu, pb⟩ : Wr)])[L.length]? = some ⟨ps, pu, pb⟩) := (by show _ = _; rw [List.getElem?_append_right (Nat.le_refl _)]; simp)
    have hM : (L ++ [(⟨ps, pu, pb⟩ : Wr)]).length = L.length + 1 := by rw [List.length_append]; rfl
    generalize L ++ [(⟨ps, pu, pb⟩ : Wr)] = M at cS HMl hM
    have hMz : ((M.length : Int) == (L.length : Int) + 1) = true := by rw [beq_iff_eq]; omega
    have hLM : L.length < M.length := by omega
    have h60z : (L.length : Int) < 60 := by omega
    have hLz : (L.length : Int) < (M.length : Int) := by omega
    clear s1 s2 bA hM
    go_enter Try.func5, Try.ntmps5
    go_wp2_with fail
    refine (wawake_any C _).mono ?_
    rintro e w1 ⟨rfl, hb⟩
    replace K := K.later hb
    replace FZ := fun j => (hb.frozen (p := ⟨w.heap.size, j, none⟩) (by simp)).trans (FZ j)
    replace hB := below_step hB hb
    clear hb
    have Kz0 := K.c0
    have Kz1 := K.c1
    have Kz2 := K.c2
    go_wp2_with fail
    refine (cFa _ (V0.later hB)).mono ?_
    clear cFa
    rintro e w' ⟨rfl, hww⟩
    obtain rfl := hww.symm
    have RP1 := R0.later hB
    go_wp2_with (at_builtin; refine wpList_join rfl (.const (.slice none 0 0)) (.tmp 34) 23 rfl w1.heap.size 5 1 Try.underlying23 info8 (v := .slice none 0 0) (n := 0) (ys := []) rfl (World.ownsRow_nil _ _ _ _) rfl RP1 rfl (by omega) (by omega) (Nat.le_refl _) ?_; intro v2 w2 own2 hg2; apply Classical.byContradiction; intro hstop)
    simp only [Nat.zero_add, List.nil_append] at own2
    have hb2 := below_fresh (B := w1.heap.size) hg2 (Nat.le_refl _)
    obtain ⟨g, k2, rfl, hg, hglt⟩ := own2.form hp0
    have hlt1 := K.lt
    have hgw : w.heap.size ≤ g := Nat.le_trans (Nat.le_of_lt hlt1) hg
    have hgne : g ≠ w.heap.size := by omega
    clear Kz0 Kz1 Kz2
    replace K := K.later hb2
    replace FZ := fun j => (hb2.frozen (p := ⟨w.heap.size, j, none⟩) hlt1).trans (FZ j)
    replace hB := below_step hB hb2
    have kw3 : Keeps (fun k => k = w.heap.size) w2 (w2.setCell ⟨w.heap.size, 2, none⟩ (.slice (some ⟨g, 0, none⟩) pb.length k2)) := (Keeps.refl (fun k => k = w.heap.size) w2).setCell (p := ⟨w.heap.size, 2, none⟩) (fun _ => rfl) _
    have own3 : (w2.setCell ⟨w.heap.size, 2, none⟩ (.slice (some ⟨g, 0, none⟩) pb.length k2)).ownsRow w1.heap.size 5 1 (.slice (some ⟨g, 0, none⟩) pb.length k2) pb.length (pb.map (Value.int .u8)) := own_keptW own2 kw3 (fun k e h => by cases e; exact hgne h)
    have K3 := K.set2 (.slice (some ⟨g, 0, none⟩) pb.length k2)
    have FZ3 : ∀ j, (w2.setCell ⟨w.heap.size, 2, none⟩ (.slice (some ⟨g, 0, none⟩) pb.length k2)).frozen? ⟨w.heap.size, j, none⟩ = false := fun j => by rw [World.frozen?_setCell]; exact FZ j
    have hB3 : Below w.heap.size w (w2.setCell ⟨w.heap.size, 2, none⟩ (.slice (some ⟨g, 0, none⟩) pb.length k2)) := hB.setCell (p := ⟨w.heap.size, 2, none⟩) (Nat.le_refl _) _
    have hgu3 : g < (w2.setCell ⟨w.heap.size, 2, none⟩ (.slice (some ⟨g, 0, none⟩) pb.length k2)).heap.size := by rw [World.size_setCell]; exact hglt
    have e0 : (pb.map (Value.int .u8))[0]? = some (.int .u8 b0) := by rw [List.getElem?_map, hb0]; rfl
    have g0 := (own3.cellAt 0 (by omega)).trans e0
    have Kz2 := K.c2
    have FZ2 := FZ 2
    have K3z0 := K3.c0
    have K3z1 := K3.c1
    have K3z2 := K3.c2
    clear kw3 own2 hg2 hb2 RP1 K FZ hB
    apply hstop
    clear hstop
    go_wp2_with fail
    clear K3z0 K3z1 K3z2
    clear Kz2 FZ2 g0
    generalize (w2.setCell ⟨w.heap.size, 2, none⟩ (.slice (some ⟨g, 0, none⟩) pb.length k2)) = u3 at own3 K3 FZ3 hB3 hgu3 ⊢
    have R3 := (reads_own own3 (fun z hz => R0.wf z hz)).1
    refine (cS u3 hB3 hgw hgu3 R3).mono ?_
    clear cS R3
    rintro e w4 ⟨y, m4, rfl, S1, hb4⟩
    have own4 := own_laterW own3 hb4
    have K4 := K3.later hb4
    have hB4 := below_step hB3 hb4
    have hgu4 := Nat.lt_of_lt_of_le hgu3 hb4.size
    have g0 := (own4.cellAt 0 (by omega)).trans e0
    have gf := own4.frozenAt 0
    have K4z0 := K4.c0
    have K4z1 := K4.c1
    have K4z2 := K4.c2
    have kw5 : Keeps (fun k => some g = some k) w4 (w4.setCell ⟨g, 0, none⟩ (.int .u8 ((b0 + 1) % 256))) := (Keeps.refl (fun k => some g = some k) w4).setCell (p := ⟨g, 0, none⟩) (fun _ => rfl) _
    have S5 := S1.kept kw5
    have K5 := K4.kept kw5 (fun e => hgne (by injection e))
    have hB5 : Below w.heap.size w (w4.setCell ⟨g, 0, none⟩ (.int .u8 ((b0 + 1) % 256))) := hB4.setCell (p := ⟨g, 0, none⟩) hgw _
    have V5 := V0.later hB5
    clear S1 kw5 own4 own3 K3 FZ3 hb4 hB3 hB4 K4 hgu3 hgu4
    clear V5
    obtain ⟨b, o, x, n, rfl, hbb, -, -, c2, hat⟩ := S5.at HMl.out
    have RX := hat.R
    obtain ⟨bx, ox, hx, hbx, hcx⟩ := RX.cells (by intro e; have e2 : pb = [] := e; rw [e2] at hp0; simp at hp0)
    dsimp only at hx
    subst hx
    have d0 := hcx 0 hp0
    rw [List.getD_eq_getElem?_getD, hb0, Nat.add_zero] at d0
    dsimp only [Option.getD_some] at d0
    clear hcx RX hat S5
    have k5 := K5.c2
    have k5l := K5.lt
    clear K5
    go_wp2_with fail
    clear K4z0 K4z1 K4z2
    clear g0 gf
    generalize (w4.setCell ⟨g, 0, none⟩ (.int .u8 ((b0 + 1) % 256))) = u5 at hB5 hbb c2 hbx d0 k5 k5l ⊢
    have S1 : Below u5.heap.size u5 u5.drew := (Below.refl _ _).drew
    clear S1
    have S0 : Below u5.heap.size u5 u5.drew := (Below.refl _ _).drew
    refine wp_region_noPanic ?_
    refine wp_region_held_drew (S := fun w' => Below u5.heap.size u5 w') (by kernel_rfl) S0 (fun hH => ?_)
    clear S0
    generalize u5.drew = u5d at hH  ⊢
    refine wpAnyH_take (i := 0) (oi := { dst := some 63, op := _, type := _, pos := _, after := _, guard := _ }) (v := ?_) rfl (by kernel_rfl) (by kernel_rfl) (by kernel_rfl) (fun _ _ _ h => h) (Or.inl ⟨by rfl, ?_⟩) hH ?_
    rotate_left
    · intro wz hSw
      (try dsimp only at hSw)
      first | (go_simp; done) | (go_simp; with_reducible rfl)
    try simp only [Act.put, List.setIfInBounds_toArray, List.set_cons_zero, List.set_cons_succ]
    refine wpAnyH_take (i := 2) (oi := { dst := some 65, op := _, type := _, pos := _, after := _, guard := _ }) (v := ?_) rfl (by kernel_rfl) (by kernel_rfl) (by kernel_rfl) (fun _ _ _ h => h) (Or.inl ⟨by rfl, ?_⟩) hH ?_
    rotate_left
    · intro wz hSw
      (try dsimp only at hSw)
      first | (go_simp; done) | (go_simp; with_reducible rfl)
    try simp only [Act.put, List.setIfInBounds_toArray, List.set_cons_zero, List.set_cons_succ]
    refine wpAnyH_take (i := 1) (oi := { dst := some 64, op := _, type := _, pos := _, after := _, guard := _ }) (v := .int .i64 (M.length : Int)) rfl (by kernel_rfl) (by kernel_rfl) (by kernel_rfl) (fun _ _ _ h => h) (Or.inl ⟨by rfl, ?_⟩) hH ?_
    · intro wz hSw
      (try dsimp only at hSw)
      first | (go_simp; done) | (go_simp; with_reducible rfl)
    try simp only [Act.put, List.setIfInBounds_toArray, List.set_cons_zero, List.set_cons_succ]
    refine wpAnyH_take (i := 3) (oi := { dst := some 66, op := _, type := _, pos := _, after := _, guard := _ }) (v := .int .i64 (L.length : Int)) rfl (by kernel_rfl) (by kernel_rfl) (by kernel_rfl) (fun _ _ _ h => h) (Or.inl ⟨by rfl, ?_⟩) hH ?_
    · intro wz hSw
      (try dsimp only at hSw)
      first | (go_simp; done) | (go_simp; with_reducible rfl)
    try simp only [Act.put, List.setIfInBounds_toArray, List.set_cons_zero, List.set_cons_succ]
    refine wpAnyH_take (i := 4) (oi := { dst := some 67, op := _, type := _, pos := _, after := _, guard := _ }) (v := .int .i64 ((L.length : Int) + 1)) rfl (by kernel_rfl) (by kernel_rfl) (by kernel_rfl) (fun _ _ _ h => h) (Or.inl ⟨by rfl, ?_⟩) hH ?_
    · intro wz hSw
      (try dsimp only at hSw)
      have hwL : IntKind.i64.wrap ((L.length : Int) + 1) = (L.length : Int) + 1 := by rw [IntKind.wrap_i64]; omega
      first | (go_simp; done) | (go_simp; with_reducible rfl)
    try simp only [Act.put, List.setIfInBounds_toArray, List.set_cons_zero, List.set_cons_succ]
    refine wpAnyH_take (i := 5) (oi := { dst := some 68, op := _, type := _, pos := _, after := _, guard := _ }) (v := .bool true) rfl (by kernel_rfl) (by kernel_rfl) (by kernel_rfl) (fun _ _ _ h => h) (Or.inl ⟨by rfl, ?_⟩) hH ?_
    · intro wz hSw
      (try dsimp only at hSw)
      first | (go_simp; done) | (go_simp; with_reducible rfl)
    try simp only [Act.put, List.setIfInBounds_toArray, List.set_cons_zero, List.set_cons_succ]
    refine wpAnyH_take (i := 6) (oi := { dst := some 69, op := _, type := _, pos := _, after := _, guard := _ }) (v := .bool true) rfl (by kernel_rfl) (by kernel_rfl) (by kernel_rfl) (fun _ _ _ h => h) (Or.inl ⟨by rfl, ?_⟩) hH ?_
    · intro wz hSw
      (try dsimp only at hSw)
      first | (go_simp; done) | (go_simp; with_reducible rfl)
    try simp only [Act.put, List.setIfInBounds_toArray, List.set_cons_zero, List.set_cons_succ]
    refine wpAnyH_take (i := 7) (oi := { dst := some 70, op := _, type := _, pos := _, after := _, guard := _ }) (v := ?_) rfl (by kernel_rfl) (by kernel_rfl) (by kernel_rfl) (fun _ _ _ h => h) (Or.inl ⟨by rfl, ?_⟩) hH ?_
    rotate_left
    · intro wz hSw
      (try dsimp only at hSw)
      first | (go_simp; done) | (go_simp; with_reducible rfl)
    try simp only [Act.put, List.setIfInBounds_toArray, List.set_cons_zero, List.set_cons_succ]
    refine wpAnyH_take (i := 8) (oi := { dst := some 71, op := _, type := _, pos := _, after := _, guard := _ }) (v := .int .i64 (L.length : Int)) rfl (by kernel_rfl) (by kernel_rfl) (by kernel_rfl) (fun _ _ _ h => h) (Or.inl ⟨by rfl, ?_⟩) hH ?_
    · intro wz hSw
      (try dsimp only at hSw)
      first | (go_simp; done) | (go_simp; with_reducible rfl)
    try simp only [Act.put, List.setIfInBounds_toArray, List.set_cons_zero, List.set_cons_succ]
    refine wpAnyH_take (i := 9) (oi := { dst := some 72, op := _, type := _, pos := _, after := _, guard := _ }) (v := .bool true) rfl (by kernel_rfl) (by kernel_rfl) (by kernel_rfl) (fun _ _ _ h => h) (Or.inl ⟨by rfl, ?_⟩) hH ?_
    · intro wz hSw
      (try dsimp only at hSw)
      first | (go_simp; done) | (go_simp; with_reducible rfl)
    try simp only [Act.put, List.setIfInBounds_toArray, List.set_cons_zero, List.set_cons_succ]
    refine wpAnyH_take (i := 10) (oi := { dst := some 73, op := _, type := _, pos := _, after := _, guard := _ }) (v := .bool true) rfl (by kernel_rfl) (by kernel_rfl) (by kernel_rfl) (fun _ _ _ h => h) (Or.inl ⟨by rfl, ?_⟩) hH ?_
    · intro wz hSw
      (try dsimp only at hSw)
      first | (go_simp; done) | (go_simp; with_reducible rfl)
    try simp only [Act.put, List.setIfInBounds_toArray, List.set_cons_zero, List.set_cons_succ]
    refine wpAnyH_take (i := 11) (oi := { dst := some 74, op := _, type := _, pos := _, after := _, guard := _ }) (v := .bool true) rfl (by kernel_rfl) (by kernel_rfl) (by kernel_rfl) (fun _ _ _ h => h) (Or.inl ⟨by rfl, ?_⟩) hH ?_
    · intro wz hSw
      (try dsimp only at hSw)
      first | (go_simp; done) | (go_simp; with_reducible rfl)
    try simp only [Act.put, List.setIfInBounds_toArray, List.set_cons_zero, List.set_cons_succ]
    refine wpAnyH_take (i := 12) (oi := { dst := some 75, op := _, type := _, pos := _, after := _, guard := _ }) (v := ?_) rfl (by kernel_rfl) (by kernel_rfl) (by kernel_rfl) (fun _ _ _ h => h) (Or.inl ⟨by rfl, ?_⟩) hH ?_
    rotate_left
    · intro wz hSw
      (try dsimp only at hSw)
      first | (go_simp; done) | (go_simp; with_reducible rfl)
    try simp only [Act.put, List.setIfInBounds_toArray, List.set_cons_zero, List.set_cons_succ]
    refine wpAnyH_take (i := 13) (oi := { dst := some 76, op := _, type := _, pos := _, after := _, guard := _ }) (v := ?_) rfl (by kernel_rfl) (by kernel_rfl) (by kernel_rfl) (fun _ _ _ h => h) (Or.inl ⟨by rfl, ?_⟩) hH ?_
    rotate_left
    · intro wz hSw
      (try dsimp only at hSw)
      first | (go_simp; done) | (go_simp; with_reducible rfl)
    try simp only [Act.put, List.setIfInBounds_toArray, List.set_cons_zero, List.set_cons_succ]
    refine wpAnyH_take (i := 19) (oi := { dst := some 82, op := _, type := _, pos := _, after := _, guard := _ }) (v := ?_) rfl (by kernel_rfl) (by kernel_rfl) (by kernel_rfl) (fun _ _ _ h => h) (Or.inl ⟨by rfl, ?_⟩) hH ?_
    rotate_left
    · intro wz hSw
      (try dsimp only at hSw)
      first | (go_simp; done) | (go_simp; with_reducible rfl)
    try simp only [Act.put, List.setIfInBounds_toArray, List.set_cons_zero, List.set_cons_succ]
    refine wpAnyH_take (i := 14) (oi := { dst := some 77, op := _, type := _, pos := _, after := _, guard := _ }) (v := .int .i64 (L.length : Int)) rfl (by kernel_rfl) (by kernel_rfl) (by kernel_rfl) (fun _ _ _ h => h) (Or.inl ⟨by rfl, ?_⟩) hH ?_
    · intro wz hSw
      (try dsimp only at hSw)
      first | (go_simp; done) | (go_simp; with_reducible rfl)
    try simp only [Act.put, List.setIfInBounds_toArray, List.set_cons_zero, List.set_cons_succ]
    refine wpAnyH_take (i := 20) (oi := { dst := some 83, op := _, type := _, pos := _, after := _, guard := _ }) (v := .slice (some ⟨g, 0, none⟩) pb.length k2) rfl (by kernel_rfl) (by kernel_rfl) (by kernel_rfl) (fun _ _ _ h => h) (Or.inl ⟨by rfl, ?_⟩) hH ?_
    · intro wz hSw
      (try dsimp only at hSw)
      have y2 := (hSw.cell (p := ⟨w.heap.size, 2, none⟩) k5l).trans k5
      first | (go_simp; done) | (go_simp; with_reducible rfl)
    try simp only [Act.put, List.setIfInBounds_toArray, List.set_cons_zero, List.set_cons_succ]
    refine wpAnyH_take (i := 15) (oi := { dst := some 78, op := _, type := _, pos := _, after := _, guard := _ }) (v := ?_) rfl (by kernel_rfl) (by kernel_rfl) (by kernel_rfl) (fun _ _ _ h => h) (Or.inl ⟨by rfl, ?_⟩) hH ?_
    rotate_left
    · intro wz hSw
      (try dsimp only at hSw)
      first | (go_simp; done) | (go_simp; with_reducible rfl)
    try simp only [Act.put, List.setIfInBounds_toArray, List.set_cons_zero, List.set_cons_succ]
    refine wpAnyH_take (i := 21) (oi := { dst := some 84, op := _, type := _, pos := _, after := _, guard := _ }) (v := .int .i64 (pb.length : Int)) rfl (by kernel_rfl) (by kernel_rfl) (by kernel_rfl) (fun _ _ _ h => h) (Or.inl ⟨by rfl, ?_⟩) hH ?_
    · intro wz hSw
      (try dsimp only at hSw)
      first | (go_simp; done) | (go_simp; with_reducible rfl)
    try simp only [Act.put, List.setIfInBounds_toArray, List.set_cons_zero, List.set_cons_succ]
    refine wpAnyH_take (i := 16) (oi := { dst := some 79, op := _, type := _, pos := _, after := _, guard := _ }) (v := ?_) rfl (by kernel_rfl) (by kernel_rfl) (by kernel_rfl) (fun _ _ _ h => h) (Or.inl ⟨by rfl, ?_⟩) hH ?_
    rotate_left
    · intro wz hSw
      (try dsimp only at hSw)
      first | (go_simp; done) | (go_simp; with_reducible rfl)
    try simp only [Act.put, List.setIfInBounds_toArray, List.set_cons_zero, List.set_cons_succ]
    refine wpAnyH_take (i := 17) (oi := { dst := some 80, op := _, type := _, pos := _, after := _, guard := _ }) (v := .slice (some ⟨bx, ox, none⟩) pb.length n) rfl (by kernel_rfl) (by kernel_rfl) (by kernel_rfl) (fun _ _ _ h => h) (Or.inl ⟨by rfl, ?_⟩) hH ?_
    · intro wz hSw
      (try dsimp only at hSw)
      have y2 := (hSw.cell (p := ⟨b, o + L.length * 3 + 2, none⟩) hbb).trans c2
      first | (go_simp; done) | (go_simp; with_reducible rfl)
    try simp only [Act.put, List.setIfInBounds_toArray, List.set_cons_zero, List.set_cons_succ]
    refine wpAnyH_take (i := 18) (oi := { dst := some 81, op := _, type := _, pos := _, after := _, guard := _ }) (v := .int .i64 (pb.length : Int)) rfl (by kernel_rfl) (by kernel_rfl) (by kernel_rfl) (fun _ _ _ h => h) (Or.inl ⟨by rfl, ?_⟩) hH ?_
    · intro wz hSw
      (try dsimp only at hSw)
      first | (go_simp; done) | (go_simp; with_reducible rfl)
    try simp only [Act.put, List.setIfInBounds_toArray, List.set_cons_zero, List.set_cons_succ]
    refine wpAnyH_take (i := 22) (oi := { dst := some 85, op := _, type := _, pos := _, after := _, guard := _ }) (v := .bool true) rfl (by kernel_rfl) (by kernel_rfl) (by kernel_rfl) (fun _ _ _ h => h) (Or.inl ⟨by rfl, ?_⟩) hH ?_
    · intro wz hSw
      (try dsimp only at hSw)
      first | (go_simp; done) | (go_simp; with_reducible rfl)
    try simp only [Act.put, List.setIfInBounds_toArray, List.set_cons_zero, List.set_cons_succ]
    refine wpAnyH_take (i := 23) (oi := { dst := some 86, op := _, type := _, pos := _, after := _, guard := _ }) (v := .bool true) rfl (by kernel_rfl) (by kernel_rfl) (by kernel_rfl) (fun _ _ _ h => h) (Or.inl ⟨by rfl, ?_⟩) hH ?_
    · intro wz hSw
      (try dsimp only at hSw)
      first | (go_simp; done) | (go_simp; with_reducible rfl)
    try simp only [Act.put, List.setIfInBounds_toArray, List.set_cons_zero, List.set_cons_succ]
    refine wpAnyH_take (i := 24) (oi := { dst := some 87, op := _, type := _, pos := _, after := _, guard := _ }) (v := .bool true) rfl (by kernel_rfl) (by kernel_rfl) (by kernel_rfl) (fun _ _ _ h => h) (Or.inl ⟨by rfl, ?_⟩) hH ?_
    · intro wz hSw
      (try dsimp only at hSw)
      first | (go_simp; done) | (go_simp; with_reducible rfl)
    try simp only [Act.put, List.setIfInBounds_toArray, List.set_cons_zero, List.set_cons_succ]
    refine wpAnyH_take (i := 25) (oi := { dst := some 88, op := _, type := _, pos := _, after := _, guard := _ }) (v := ?_) rfl (by kernel_rfl) (by kernel_rfl) (by kernel_rfl) (fun _ _ _ h => h) (Or.inl ⟨by rfl, ?_⟩) hH ?_
    rotate_left
    · intro wz hSw
      (try dsimp only at hSw)
      first | (go_simp; done) | (go_simp; with_reducible rfl)
    try simp only [Act.put, List.setIfInBounds_toArray, List.set_cons_zero, List.set_cons_succ]
    refine wpAnyH_take (i := 26) (oi := { dst := some 89, op := _, type := _, pos := _, after := _, guard := _ }) (v := ?_) rfl (by kernel_rfl) (by kernel_rfl) (by kernel_rfl) (fun _ _ _ h => h) (Or.inl ⟨by rfl, ?_⟩) hH ?_
    rotate_left
    · intro wz hSw
      (try dsimp only at hSw)
      first | (go_simp; done) | (go_simp; with_reducible rfl)
    try simp only [Act.put, List.setIfInBounds_toArray, List.set_cons_zero, List.set_cons_succ]
    refine wpAnyH_take (i := 33) (oi := { dst := some 96, op := _, type := _, pos := _, after := _, guard := _ }) (v := ?_) rfl (by kernel_rfl) (by kernel_rfl) (by kernel_rfl) (fun _ _ _ h => h) (Or.inl ⟨by rfl, ?_⟩) hH ?_
    rotate_left
    · intro wz hSw
      (try dsimp only at hSw)
      first | (go_simp; done) | (go_simp; with_reducible rfl)
    try simp only [Act.put, List.setIfInBounds_toArray, List.set_cons_zero, List.set_cons_succ]
    refine wpAnyH_take (i := 27) (oi := { dst := some 90, op := _, type := _, pos := _, after := _, guard := _ }) (v := .int .i64 (L.length : Int)) rfl (by kernel_rfl) (by kernel_rfl) (by kernel_rfl) (fun _ _ _ h => h) (Or.inl ⟨by rfl, ?_⟩) hH ?_
    · intro wz hSw
      (try dsimp only at hSw)
      first | (go_simp; done) | (go_simp; with_reducible rfl)
    try simp only [Act.put, List.setIfInBounds_toArray, List.set_cons_zero, List.set_cons_succ]
    refine wpAnyH_take (i := 28) (oi := { dst := some 91, op := _, type := _, pos := _, after := _, guard := _ }) (v := ?_) rfl (by kernel_rfl) (by kernel_rfl) (by kernel_rfl) (fun _ _ _ h => h) (Or.inl ⟨by rfl, ?_⟩) hH ?_
    rotate_left
    · intro wz hSw
      (try dsimp only at hSw)
      first | (go_simp; done) | (go_simp; with_reducible rfl)
    try simp only [Act.put, List.setIfInBounds_toArray, List.set_cons_zero, List.set_cons_succ]
    refine wpAnyH_take (i := 29) (oi := { dst := some 92, op := _, type := _, pos := _, after := _, guard := _ }) (v := ?_) rfl (by kernel_rfl) (by kernel_rfl) (by kernel_rfl) (fun _ _ _ h => h) (Or.inl ⟨by rfl, ?_⟩) hH ?_
    rotate_left
    · intro wz hSw
      (try dsimp only at hSw)
      first | (go_simp; done) | (go_simp; with_reducible rfl)
    try simp only [Act.put, List.setIfInBounds_toArray, List.set_cons_zero, List.set_cons_succ]
    refine wpAnyH_take (i := 30) (oi := { dst := some 93, op := _, type := _, pos := _, after := _, guard := _ }) (v := .slice (some ⟨bx, ox, none⟩) pb.length n) rfl (by kernel_rfl) (by kernel_rfl) (by kernel_rfl) (fun _ _ _ h => h) (Or.inl ⟨by rfl, ?_⟩) hH ?_
    · intro wz hSw
      (try dsimp only at hSw)
      have y2 := (hSw.cell (p := ⟨b, o + L.length * 3 + 2, none⟩) hbb).trans c2
      first | (go_simp; done) | (go_simp; with_reducible rfl)
    try simp only [Act.put, List.setIfInBounds_toArray, List.set_cons_zero, List.set_cons_succ]
    refine wpAnyH_take (i := 31) (oi := { dst := some 94, op := _, type := _, pos := _, after := _, guard := _ }) (v := ?_) rfl (by kernel_rfl) (by kernel_rfl) (by kernel_rfl) (fun _ _ _ h => h) (Or.inl ⟨by rfl, ?_⟩) hH ?_
    rotate_left
    · intro wz hSw
      (try dsimp only at hSw)
      first | (go_simp; done) | (go_simp; with_reducible rfl)
    try simp only [Act.put, List.setIfInBounds_toArray, List.set_cons_zero, List.set_cons_succ]
    refine wpAnyH_take (i := 32) (oi := { dst := some 95, op := _, type := _, pos := _, after := _, guard := _ }) (v := .int .u8 b0) rfl (by kernel_rfl) (by kernel_rfl) (by kernel_rfl) (fun _ _ _ h => h) (Or.inl ⟨by rfl, ?_⟩) hH ?_
    · intro wz hSw
      (try dsimp only at hSw)
      have y2 := (hSw.cell (p := ⟨bx, ox, none⟩) hbx).trans d0
      first | (go_simp; done) | (go_simp; with_reducible rfl)
    try simp only [Act.put, List.setIfInBounds_toArray, List.set_cons_zero, List.set_cons_succ]
    refine wpAnyH_take (i := 34) (oi := { dst := some 97, op := _, type := _, pos := _, after := _, guard := _ }) (v := .bool true) rfl (by kernel_rfl) (by kernel_rfl) (by kernel_rfl) (fun _ _ _ h => h) (Or.inl ⟨by rfl, ?_⟩) hH ?_
    · intro wz hSw
      (try dsimp only at hSw)
      first | (go_simp; done) | (go_simp; with_reducible rfl)
    try simp only [Act.put, List.setIfInBounds_toArray, List.set_cons_zero, List.set_cons_succ]
    refine wpAnyH_take (i := 35) (oi := { dst := some 98, op := _, type := _, pos := _, after := _, guard := _ }) (v := .bool true) rfl (by kernel_rfl) (by kernel_rfl) (by kernel_rfl) (fun _ _ _ h => h) (Or.inl ⟨by rfl, ?_⟩) hH ?_
    · intro wz hSw
      (try dsimp only at hSw)
      first | (go_simp; done) | (go_simp; with_reducible rfl)
    try simp only [Act.put, List.setIfInBounds_toArray, List.set_cons_zero, List.set_cons_succ]
    refine wpAnyH_take (i := 36) (oi := { dst := some 4, op := _, type := _, pos := _, after := _, guard := _ }) (v := ?_) rfl (by kernel_rfl) (by kernel_rfl) (by kernel_rfl) (fun _ _ _ h => h) (Or.inl ⟨by rfl, ?_⟩) hH ?_
    rotate_left
    · intro wz hSw
      (try dsimp only at hSw)
      first | (go_simp; done) | (go_simp; with_reducible rfl)
    try simp only [Act.put, List.setIfInBounds_toArray, List.set_cons_zero, List.set_cons_succ]
    refine wpAnyH_done (by kernel_rfl) ?_ _
    refine NoPanic.normal ?_
    have hB := below_step hB5 hH
    go_wp2_with fail
    go_ret
    exact ⟨rfl, hB⟩
end Go.Proofs.Ytoedgnkoahcblaa
