/- What the library's sift does to a row of numbers, by a method value that compares. -/
import Derived.Test.YtihgpllbgliplaaPickSteps
namespace Go.Proofs.Ytihgpllbgliplaa
open Go.ChangeShapes Go.WideShapes Go.ChangeAt Go.RowKit Go.Sort Go.Shelf
set_option linter.unusedVariables false
set_option linter.unusedSimpArgs false

section
set_option maxRecDepth 100000
set_option maxHeartbeats 16000000
variable {n : Nat} {w0 : World} {B : Nat} {rv : Value} {cf : Fin (n + 1) → Fin (n + 1) → Int} (hc : Cmp w0 B rv cf)
include hc
theorem sift_any {w : World} {d : Array (Fin (n + 1))} (R : Row w0 B d w) {lo hi first c : Nat} (hb : first + hi ≤ d.size) (hsz : d.size ≤ 1000) (hlo : lo ≤ 1000) :
    Calls Try.prog 77 #[.slice (some ⟨B, 0, none⟩) d.size c, .int .i64 (lo : Nat), .int .i64 (hi : Nat), .int .i64 (first : Nat), mv rv] w fun e w' => e = .returned (.tuple #[]) ∧ Row w0 B (siftDown (ltc cf) hi first lo d) w' := by
  have eg := enters20
  have mixed : Try.prog.follows .mixedOrders = true := by kernel_rfl
  have HD : Hid (siftDown (ltc cf) hi first lo d = siftDown (ltc cf) hi first lo d) := rfl
  generalize hres : siftDown (ltc cf) hi first lo d = res
  replace HD : Hid (res = siftDown (ltc cf) hi first lo d) := hres.symm
  clear hres
  go_enter Try.func77, Try.ntmps77
  go_wp2_with fail
  go_loopw [10] (fun vr wr => ∃ (r : Nat) (dk : Array (Fin (n + 1))), vr = .int .i64 (r : Nat) ∧ r ≤ 1000 ∧ dk.size = d.size ∧ Row w0 B dk wr ∧ Hid (res = siftDown (ltc cf) hi first r dk)) (fun vr _ => 2000 - (intOf vr).toNat)
  case atStart => exact ⟨lo, d, rfl, hlo, rfl, R, HD⟩
  case round =>
    clear R
    obtain ⟨r, dj, rfl, hr, hsj, R2, H2⟩ := hrel
    obtain ⟨r2, ch, ch1, p0, p1, p2, hr2, hch, hch1, hp0, hp1, hp2, m1a, m1b, m2a, m2b, m3a, m3b, m4a, m4b, m5a, m5b, m6a, m6b, m7a, m7b⟩ := sift_facts r first hr (by omega)
    have HB : Hid (first + hi ≤ d.size ∧ d.size ≤ 1000 ∧ r ≤ 1000 ∧ dj.size = d.size ∧ 2 * r = r2 ∧ r2 + 1 = ch ∧ ch + 1 = ch1 ∧ first + r = p0 ∧ first + ch = p1 ∧ p1 + 1 = p2) := ⟨hb, hsz, hr, hsj, hr2, hch, hch1, hp0, hp1, hp2⟩
    clear hb hsz hlo hr hsj hr2 hch hch1 hp0 hp1 hp2
    by_cases hge : hi ≤ ch
    · have hgz : (hi : Int) ≤ (ch : Int) := by omega
      have HG : Hid (hi ≤ ch) := hge
      clear hge
      have H3 : Hid (res = dj) := by
        show _ = _
        rw [H2.out, siftDown, dif_pos (by clear m1a m1b m2a m2b m3a m3b m4a m4b m5a m5b m6a m6b m7a m7b; have hh := HB.out; have hg := HG.out; omega)]
      clear H2
      go_wp2_with fail
      go_end0
      exact ⟨rfl, by rw [H3.out]; exact R2⟩
    · have hgz : ¬ (hi : Int) ≤ (ch : Int) := by omega
      have i0 : (p0 : Int) < (d.size : Int) := by clear m1a m1b m2a m2b m3a m3b m4a m4b m5a m5b m6a m6b m7a m7b; have hh := HB.out; omega
      have i1 : (p1 : Int) < (d.size : Int) := by clear m1a m1b m2a m2b m3a m3b m4a m4b m5a m5b m6a m6b m7a m7b; have hh := HB.out; omega
      by_cases hg2 : ch1 < hi
      · have hg2z : (ch1 : Int) < (hi : Int) := by omega
        have i2 : (p2 : Int) < (d.size : Int) := by clear m1a m1b m2a m2b m3a m3b m4a m4b m5a m5b m6a m6b m7a m7b; have hh := HB.out; omega
        have HG : Hid (¬ hi ≤ ch ∧ ch1 < hi) := ⟨hge, hg2⟩
        clear hge hg2
        obtain ⟨x, hx⟩ : ∃ x, dj[p1]! = x := ⟨_, rfl⟩
        obtain ⟨y, hy⟩ : ∃ y, dj[p2]! = y := ⟨_, rfl⟩
        have l1 := R2.at (i := p1) (by clear m1a m1b m2a m2b m3a m3b m4a m4b m5a m5b m6a m6b m7a m7b; have hh := HB.out; have hg := HG.out; omega) hx
        have l2 := R2.at (i := p2) (by clear m1a m1b m2a m2b m3a m3b m4a m4b m5a m5b m6a m6b m7a m7b; have hh := HB.out; have hg := HG.out; omega) hy
        have cc := R2.cmp hc x y
        cases hl : ltc cf x y with
        | true =>
          have hvx : cf x y < 0 := of_decide_eq_true hl
          have hvd : decide (cf x y < 0) = true := hl
          have HX : Hid (dj[p1]! = x ∧ dj[p2]! = y ∧ ltc cf x y = true) := ⟨hx, hy, hl⟩
          clear hx hy hl
          go_wp2_with fail
          refine wp_region_below (by kernel_rfl) (by kernel_rfl) ?_
          repeat (quiet_step ((go_at_call 50; exact cc _)))
          refine wpQuiet_nil ?_
          rintro _ ⟨p, rfl⟩
          have R3 := R2.later p.hb
          clear l1 l2 cc R2
          generalize p.w = w3 at R3 ⊢
          obtain ⟨u, hu⟩ : ∃ u, dj[p0]! = u := ⟨_, rfl⟩
          obtain ⟨v, hv⟩ : ∃ v, dj[p2]! = v := ⟨_, rfl⟩
          have l3 := R3.at (i := p0) (by clear m1a m1b m2a m2b m3a m3b m4a m4b m5a m5b m6a m6b m7a m7b; have hh := HB.out; have hg := HG.out; omega) hu
          have l4 := R3.at (i := p2) (by clear m1a m1b m2a m2b m3a m3b m4a m4b m5a m5b m6a m6b m7a m7b; have hh := HB.out; have hg := HG.out; omega) hv
          have cd := R3.cmp hc u v
          cases hm : ltc cf u v with
          | false =>
            have hz : ¬ cf u v < 0 := of_decide_eq_false hm
            have hvn : (!decide (cf u v < 0)) = true := by rw [show decide (cf u v < 0) = false from hm]; rfl
            have H3 : Hid (res = dj) := by
              show _ = _
              rw [H2.out]
              exact sift_b1 (ltc cf) (hi := hi) (first := first) (r := r) (ch := ch) (ch1 := ch1) (p0 := p0) (p1 := p1) (p2 := p2) (d := dj) (by clear m1a m1b m2a m2b m3a m3b m4a m4b m5a m5b m6a m6b m7a m7b; have hh := HB.out; have hg := HG.out; omega) (by clear m1a m1b m2a m2b m3a m3b m4a m4b m5a m5b m6a m6b m7a m7b; have hh := HB.out; have hg := HG.out; omega) (by clear m1a m1b m2a m2b m3a m3b m4a m4b m5a m5b m6a m6b m7a m7b; have hh := HB.out; have hg := HG.out; omega) (by clear m1a m1b m2a m2b m3a m3b m4a m4b m5a m5b m6a m6b m7a m7b; have hh := HB.out; have hg := HG.out; omega) ⟨HB.out.2.2.2.2.2.2.2.2.1, HB.out.2.2.2.2.2.2.2.2.2⟩ (by rw [HX.out.1, HX.out.2.1]; exact HX.out.2.2) (by rw [hu, hv]; exact hm)
            clear H2 hm hu hv
            go_wp2_with fail
            refine wp_region_below (by kernel_rfl) (by kernel_rfl) ?_
            repeat (quiet_step ((go_at_call 50; exact cd _)))
            refine wpQuiet_nil ?_
            rintro _ ⟨p, rfl⟩
            have R5 := R3.later p.hb
            clear l3 l4 cd R3
            generalize p.w = w5 at R5 ⊢
            go_wp2_with fail
            refine ret0 rfl rfl ?_
            exact ⟨rfl, by rw [H3.out]; exact R5⟩
          | true =>
            have hz : cf u v < 0 := of_decide_eq_true hm
            have hvn : (!decide (cf u v < 0)) = false := by rw [show decide (cf u v < 0) = true from hm]; rfl
            have H3 : Hid (res = siftDown (ltc cf) hi first ch1 (swp dj p0 p2)) := by
              show _ = _
              rw [H2.out]
              exact sift_b2 (ltc cf) (hi := hi) (first := first) (r := r) (ch := ch) (ch1 := ch1) (p0 := p0) (p1 := p1) (p2 := p2) (d := dj) (by clear m1a m1b m2a m2b m3a m3b m4a m4b m5a m5b m6a m6b m7a m7b; have hh := HB.out; have hg := HG.out; omega) (by clear m1a m1b m2a m2b m3a m3b m4a m4b m5a m5b m6a m6b m7a m7b; have hh := HB.out; have hg := HG.out; omega) (by clear m1a m1b m2a m2b m3a m3b m4a m4b m5a m5b m6a m6b m7a m7b; have hh := HB.out; have hg := HG.out; omega) (by clear m1a m1b m2a m2b m3a m3b m4a m4b m5a m5b m6a m6b m7a m7b; have hh := HB.out; have hg := HG.out; omega) ⟨HB.out.2.2.2.2.2.2.2.2.1, HB.out.2.2.2.2.2.2.2.2.2⟩ (by rw [HX.out.1, HX.out.2.1]; exact HX.out.2.2) (by rw [hu, hv]; exact hm)
            clear H2 hm
            go_wp2_with fail
            refine wp_region_below (by kernel_rfl) (by kernel_rfl) ?_
            repeat (quiet_step ((go_at_call 50; exact cd _)))
            refine wpQuiet_nil ?_
            rintro _ ⟨p, rfl⟩
            have R5 := R3.later p.hb
            clear l3 l4 cd R3
            generalize p.w = w5 at R5 ⊢
            have c1 := R5.cell p0 (by clear m1a m1b m2a m2b m3a m3b m4a m4b m5a m5b m6a m6b m7a m7b; have hh := HB.out; have hg := HG.out; omega)
            have c2 := R5.cell p2 (by clear m1a m1b m2a m2b m3a m3b m4a m4b m5a m5b m6a m6b m7a m7b; have hh := HB.out; have hg := HG.out; omega)
            have f1 := R5.frozen p0 (by clear m1a m1b m2a m2b m3a m3b m4a m4b m5a m5b m6a m6b m7a m7b; have hh := HB.out; have hg := HG.out; omega)
            have f2 := R5.frozen p2 (by clear m1a m1b m2a m2b m3a m3b m4a m4b m5a m5b m6a m6b m7a m7b; have hh := HB.out; have hg := HG.out; omega)
            have R6 := (R5.swap (i := p0) (j := p2) (by clear m1a m1b m2a m2b m3a m3b m4a m4b m5a m5b m6a m6b m7a m7b; have hh := HB.out; have hg := HG.out; omega) (by clear m1a m1b m2a m2b m3a m3b m4a m4b m5a m5b m6a m6b m7a m7b; have hh := HB.out; have hg := HG.out; omega) hu hv).drew
            rw [hu] at c1
            rw [hv] at c2
            have c3 := (World.cell?_setCell_other w5 ⟨B, p0, none⟩ ⟨B, p2, none⟩ (.int .i64 ((v : Nat) : Int)) (by intro e; injection e with _ e2; clear m1a m1b m2a m2b m3a m3b m4a m4b m5a m5b m6a m6b m7a m7b; have hh := HB.out; have hg := HG.out; omega)).trans c2
            clear R5 hu hv
            go_wp2_with fail
            go_big_region_o
            go_wp2_with fail
            go_roundw
            case rel => exact ⟨ch1, swp dj p0 p2, rfl, by clear m1a m1b m2a m2b m3a m3b m4a m4b m5a m5b m6a m6b m7a m7b; have hh := HB.out; have hg := HG.out; omega, by rw [swp_size]; exact HB.out.2.2.2.1, R6, H3⟩
            case measure => simp [intOf]; clear m1a m1b m2a m2b m3a m3b m4a m4b m5a m5b m6a m6b m7a m7b; have hh := HB.out; have hg := HG.out; omega
        | false =>
          have hvx : ¬ cf x y < 0 := of_decide_eq_false hl
          have hvd : decide (cf x y < 0) = false := hl
          have HX : Hid (dj[p1]! = x ∧ dj[p2]! = y ∧ ltc cf x y = false) := ⟨hx, hy, hl⟩
          clear hx hy hl
          go_wp2_with fail
          refine wp_region_below (by kernel_rfl) (by kernel_rfl) ?_
          repeat (quiet_step ((go_at_call 50; exact cc _)))
          refine wpQuiet_nil ?_
          rintro _ ⟨p, rfl⟩
          have R3 := R2.later p.hb
          clear l1 l2 cc R2
          generalize p.w = w3 at R3 ⊢
          obtain ⟨u, hu⟩ : ∃ u, dj[p0]! = u := ⟨_, rfl⟩
          obtain ⟨v, hv⟩ : ∃ v, dj[p1]! = v := ⟨_, rfl⟩
          have l3 := R3.at (i := p0) (by clear m1a m1b m2a m2b m3a m3b m4a m4b m5a m5b m6a m6b m7a m7b; have hh := HB.out; have hg := HG.out; omega) hu
          have l4 := R3.at (i := p1) (by clear m1a m1b m2a m2b m3a m3b m4a m4b m5a m5b m6a m6b m7a m7b; have hh := HB.out; have hg := HG.out; omega) hv
          have cd := R3.cmp hc u v
          cases hm : ltc cf u v with
          | false =>
            have hz : ¬ cf u v < 0 := of_decide_eq_false hm
            have hvn : (!decide (cf u v < 0)) = true := by rw [show decide (cf u v < 0) = false from hm]; rfl
            have H3 : Hid (res = dj) := by
              show _ = _
              rw [H2.out]
              exact sift_c1 (ltc cf) (hi := hi) (first := first) (r := r) (ch := ch) (p0 := p0) (p1 := p1) (d := dj) (by clear m1a m1b m2a m2b m3a m3b m4a m4b m5a m5b m6a m6b m7a m7b; have hh := HB.out; have hg := HG.out; omega) (by clear m1a m1b m2a m2b m3a m3b m4a m4b m5a m5b m6a m6b m7a m7b; have hh := HB.out; have hg := HG.out; omega) ⟨HB.out.2.2.2.2.2.2.2.1, HB.out.2.2.2.2.2.2.2.2.1⟩ (.inr (by rw [show first + ch + 1 = p2 from (by clear m1a m1b m2a m2b m3a m3b m4a m4b m5a m5b m6a m6b m7a m7b; have hh := HB.out; have hg := HG.out; omega), HB.out.2.2.2.2.2.2.2.2.1, HX.out.1, HX.out.2.1]; exact HX.out.2.2)) (by rw [hu, hv]; exact hm)
            clear H2 hm hu hv
            go_wp2_with fail
            refine wp_region_below (by kernel_rfl) (by kernel_rfl) ?_
            repeat (quiet_step ((go_at_call 50; exact cd _)))
            refine wpQuiet_nil ?_
            rintro _ ⟨p, rfl⟩
            have R5 := R3.later p.hb
            clear l3 l4 cd R3
            generalize p.w = w5 at R5 ⊢
            go_wp2_with fail
            refine ret0 rfl rfl ?_
            exact ⟨rfl, by rw [H3.out]; exact R5⟩
          | true =>
            have hz : cf u v < 0 := of_decide_eq_true hm
            have hvn : (!decide (cf u v < 0)) = false := by rw [show decide (cf u v < 0) = true from hm]; rfl
            have H3 : Hid (res = siftDown (ltc cf) hi first ch (swp dj p0 p1)) := by
              show _ = _
              rw [H2.out]
              exact sift_c2 (ltc cf) (hi := hi) (first := first) (r := r) (ch := ch) (p0 := p0) (p1 := p1) (d := dj) (by clear m1a m1b m2a m2b m3a m3b m4a m4b m5a m5b m6a m6b m7a m7b; have hh := HB.out; have hg := HG.out; omega) (by clear m1a m1b m2a m2b m3a m3b m4a m4b m5a m5b m6a m6b m7a m7b; have hh := HB.out; have hg := HG.out; omega) ⟨HB.out.2.2.2.2.2.2.2.1, HB.out.2.2.2.2.2.2.2.2.1⟩ (.inr (by rw [show first + ch + 1 = p2 from (by clear m1a m1b m2a m2b m3a m3b m4a m4b m5a m5b m6a m6b m7a m7b; have hh := HB.out; have hg := HG.out; omega), HB.out.2.2.2.2.2.2.2.2.1, HX.out.1, HX.out.2.1]; exact HX.out.2.2)) (by rw [hu, hv]; exact hm)
            clear H2 hm
            go_wp2_with fail
            refine wp_region_below (by kernel_rfl) (by kernel_rfl) ?_
            repeat (quiet_step ((go_at_call 50; exact cd _)))
            refine wpQuiet_nil ?_
            rintro _ ⟨p, rfl⟩
            have R5 := R3.later p.hb
            clear l3 l4 cd R3
            generalize p.w = w5 at R5 ⊢
            have c1 := R5.cell p0 (by clear m1a m1b m2a m2b m3a m3b m4a m4b m5a m5b m6a m6b m7a m7b; have hh := HB.out; have hg := HG.out; omega)
            have c2 := R5.cell p1 (by clear m1a m1b m2a m2b m3a m3b m4a m4b m5a m5b m6a m6b m7a m7b; have hh := HB.out; have hg := HG.out; omega)
            have f1 := R5.frozen p0 (by clear m1a m1b m2a m2b m3a m3b m4a m4b m5a m5b m6a m6b m7a m7b; have hh := HB.out; have hg := HG.out; omega)
            have f2 := R5.frozen p1 (by clear m1a m1b m2a m2b m3a m3b m4a m4b m5a m5b m6a m6b m7a m7b; have hh := HB.out; have hg := HG.out; omega)
            have R6 := (R5.swap (i := p0) (j := p1) (by clear m1a m1b m2a m2b m3a m3b m4a m4b m5a m5b m6a m6b m7a m7b; have hh := HB.out; have hg := HG.out; omega) (by clear m1a m1b m2a m2b m3a m3b m4a m4b m5a m5b m6a m6b m7a m7b; have hh := HB.out; have hg := HG.out; omega) hu hv).drew
            rw [hu] at c1
            rw [hv] at c2
            have c3 := (World.cell?_setCell_other w5 ⟨B, p0, none⟩ ⟨B, p1, none⟩ (.int .i64 ((v : Nat) : Int)) (by intro e; injection e with _ e2; clear m1a m1b m2a m2b m3a m3b m4a m4b m5a m5b m6a m6b m7a m7b; have hh := HB.out; have hg := HG.out; omega)).trans c2
            clear R5 hu hv
            go_wp2_with fail
            go_big_region_o
            go_wp2_with fail
            go_roundw
            case rel => exact ⟨ch, swp dj p0 p1, rfl, by clear m1a m1b m2a m2b m3a m3b m4a m4b m5a m5b m6a m6b m7a m7b; have hh := HB.out; have hg := HG.out; omega, by rw [swp_size]; exact HB.out.2.2.2.1, R6, H3⟩
            case measure => simp [intOf]; clear m1a m1b m2a m2b m3a m3b m4a m4b m5a m5b m6a m6b m7a m7b; have hh := HB.out; have hg := HG.out; omega
      · have hg2z : ¬ (ch1 : Int) < (hi : Int) := by omega
        have Hd : Hid (decide ((ch1 : Int) < (hi : Int)) = false) := decide_eq_false (by omega)
        have hg2f : (ch1 < hi) = False := eq_false hg2
        have HG : Hid (¬ hi ≤ ch ∧ ¬ ch1 < hi) := ⟨hge, hg2⟩
        clear hge hg2
        go_wp2_with fail
        have hg2d := Hd.out
        go_big_region_o
        have R3 := R2.drew
        clear R2
        generalize wr.drew = w3 at R3 ⊢
        obtain ⟨u, hu⟩ : ∃ u, dj[p0]! = u := ⟨_, rfl⟩
        obtain ⟨v, hv⟩ : ∃ v, dj[p1]! = v := ⟨_, rfl⟩
        have l3 := R3.at (i := p0) (by clear m1a m1b m2a m2b m3a m3b m4a m4b m5a m5b m6a m6b m7a m7b; have hh := HB.out; have hg := HG.out; omega) hu
        have l4 := R3.at (i := p1) (by clear m1a m1b m2a m2b m3a m3b m4a m4b m5a m5b m6a m6b m7a m7b; have hh := HB.out; have hg := HG.out; omega) hv
        have cd := R3.cmp hc u v
        cases hm : ltc cf u v with
        | false =>
          have hz : ¬ cf u v < 0 := of_decide_eq_false hm
          have hvn : (!decide (cf u v < 0)) = true := by rw [show decide (cf u v < 0) = false from hm]; rfl
          have H3 : Hid (res = dj) := by
            show _ = _
            rw [H2.out]
            exact sift_c1 (ltc cf) (hi := hi) (first := first) (r := r) (ch := ch) (p0 := p0) (p1 := p1) (d := dj) (by clear m1a m1b m2a m2b m3a m3b m4a m4b m5a m5b m6a m6b m7a m7b; have hh := HB.out; have hg := HG.out; omega) (by clear m1a m1b m2a m2b m3a m3b m4a m4b m5a m5b m6a m6b m7a m7b; have hh := HB.out; have hg := HG.out; omega) ⟨HB.out.2.2.2.2.2.2.2.1, HB.out.2.2.2.2.2.2.2.2.1⟩ (.inl (by clear m1a m1b m2a m2b m3a m3b m4a m4b m5a m5b m6a m6b m7a m7b; have hh := HB.out; have hg := HG.out; omega)) (by rw [hu, hv]; exact hm)
          clear H2 hm hu hv
          go_wp2_with fail
          refine wp_region_below (by kernel_rfl) (by kernel_rfl) ?_
          repeat (quiet_step ((go_at_call 50; exact cd _)))
          refine wpQuiet_nil ?_
          rintro _ ⟨p, rfl⟩
          have R5 := R3.later p.hb
          clear l3 l4 cd R3
          generalize p.w = w5 at R5 ⊢
          go_wp2_with fail
          refine ret0 rfl rfl ?_
          exact ⟨rfl, by rw [H3.out]; exact R5⟩
        | true =>
          have hz : cf u v < 0 := of_decide_eq_true hm
          have hvn : (!decide (cf u v < 0)) = false := by rw [show decide (cf u v < 0) = true from hm]; rfl
          have H3 : Hid (res = siftDown (ltc cf) hi first ch (swp dj p0 p1)) := by
            show _ = _
            rw [H2.out]
            exact sift_c2 (ltc cf) (hi := hi) (first := first) (r := r) (ch := ch) (p0 := p0) (p1 := p1) (d := dj) (by clear m1a m1b m2a m2b m3a m3b m4a m4b m5a m5b m6a m6b m7a m7b; have hh := HB.out; have hg := HG.out; omega) (by clear m1a m1b m2a m2b m3a m3b m4a m4b m5a m5b m6a m6b m7a m7b; have hh := HB.out; have hg := HG.out; omega) ⟨HB.out.2.2.2.2.2.2.2.1, HB.out.2.2.2.2.2.2.2.2.1⟩ (.inl (by clear m1a m1b m2a m2b m3a m3b m4a m4b m5a m5b m6a m6b m7a m7b; have hh := HB.out; have hg := HG.out; omega)) (by rw [hu, hv]; exact hm)
          clear H2 hm
          go_wp2_with fail
          refine wp_region_below (by kernel_rfl) (by kernel_rfl) ?_
          repeat (quiet_step ((go_at_call 50; exact cd _)))
          refine wpQuiet_nil ?_
          rintro _ ⟨p, rfl⟩
          have R5 := R3.later p.hb
          clear l3 l4 cd R3
          generalize p.w = w5 at R5 ⊢
          have c1 := R5.cell p0 (by clear m1a m1b m2a m2b m3a m3b m4a m4b m5a m5b m6a m6b m7a m7b; have hh := HB.out; have hg := HG.out; omega)
          have c2 := R5.cell p1 (by clear m1a m1b m2a m2b m3a m3b m4a m4b m5a m5b m6a m6b m7a m7b; have hh := HB.out; have hg := HG.out; omega)
          have f1 := R5.frozen p0 (by clear m1a m1b m2a m2b m3a m3b m4a m4b m5a m5b m6a m6b m7a m7b; have hh := HB.out; have hg := HG.out; omega)
          have f2 := R5.frozen p1 (by clear m1a m1b m2a m2b m3a m3b m4a m4b m5a m5b m6a m6b m7a m7b; have hh := HB.out; have hg := HG.out; omega)
          have R6 := (R5.swap (i := p0) (j := p1) (by clear m1a m1b m2a m2b m3a m3b m4a m4b m5a m5b m6a m6b m7a m7b; have hh := HB.out; have hg := HG.out; omega) (by clear m1a m1b m2a m2b m3a m3b m4a m4b m5a m5b m6a m6b m7a m7b; have hh := HB.out; have hg := HG.out; omega) hu hv).drew
          rw [hu] at c1
          rw [hv] at c2
          have c3 := (World.cell?_setCell_other w5 ⟨B, p0, none⟩ ⟨B, p1, none⟩ (.int .i64 ((v : Nat) : Int)) (by intro e; injection e with _ e2; clear m1a m1b m2a m2b m3a m3b m4a m4b m5a m5b m6a m6b m7a m7b; have hh := HB.out; have hg := HG.out; omega)).trans c2
          clear R5 hu hv
          go_wp2_with fail
          go_big_region_o
          go_wp2_with fail
          go_roundw
          case rel => exact ⟨ch, swp dj p0 p1, rfl, by clear m1a m1b m2a m2b m3a m3b m4a m4b m5a m5b m6a m6b m7a m7b; have hh := HB.out; have hg := HG.out; omega, by rw [swp_size]; exact HB.out.2.2.2.1, R6, H3⟩
          case measure => simp [intOf]; clear m1a m1b m2a m2b m3a m3b m4a m4b m5a m5b m6a m6b m7a m7b; have hh := HB.out; have hg := HG.out; omega
end
end Go.Proofs.Ytihgpllbgliplaa
