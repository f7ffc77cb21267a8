/- TrieOrder, of whatever code keeps the interface. -/
import Derived.Test.YtlgldoggnlcbkaaTrieTurn
namespace Go.Proofs.Ytlgldoggnlcbkaa.trieOrder
open Go.ChangeShapes Go.WideShapes Go.ChangeAt Go.RowKit Tt
set_option linter.unusedVariables false
set_option linter.unusedSimpArgs false

theorem wrap_id {n : Int} (h : -1000 ≤ n) (h2 : n ≤ 1000) : IntKind.i64.wrap n = n := by rw [IntKind.wrap_i64]; omega
theorem grow_apart {F F' G : Nat → Prop} {w w' : World} (h : ∀ k, F k → ¬ G k) (hG : ∀ k, G k → k < w.heap.size) (g : ∀ k, F' k → Grow F w w' k) : ∀ k, F' k → ¬ G k := by
  intro k hk hg
  rcases g k hk with h1 | ⟨h1, _⟩
  · exact h k h1 hg
  · have := hG k hg; omega
/-- two tries, apart -/
def Two (C : Code) (w wr : World) (Bt Bu : Nat) (T U : List T3) : Prop := ∃ F G, C.At F wr Bt 1000 T ∧ C.At G wr Bu 1000 U ∧ (∀ k, F k → ¬ G k) ∧ (∀ k, F k → w.heap.size ≤ k) ∧ (∀ k, G k → w.heap.size ≤ k) ∧ Below w.heap.size w wr
section
variable {C : Code} {w wr : World} {Bt Bu : Nat} {T U : List T3}
theorem Two.below (h : Two C w wr Bt Bu T U) : Below w.heap.size w wr := by obtain ⟨_, _, _, _, _, _, _, h⟩ := h; exact h
theorem Two.later {w' : World} (h : Two C w wr Bt Bu T U) (hb : Below wr.heap.size wr w') : Two C w w' Bt Bu T U := by
  obtain ⟨F, G, A, B, h1, h2, h3, h4⟩ := h
  exact ⟨F, G, C.later A hb, C.later B hb, h1, h2, h3, below_step h4 hb⟩
theorem Two.putT (h : Two C w wr Bt Bu T U) (p0 p1 v : Int) (wz : ∀ z ∈ [p0, p1, v], (Lit.int .i64 z).wf = true) (hl : T.length ≤ 90) :
    Calls Try.prog 12 #[.pointer (some ⟨Bt, 0, none⟩), .agg #[.int .i64 p0, .int .i64 p1], .int .i64 v] wr fun e w' => e = .returned (.int .i64 (putErr 1000 T ((p0, p1), v))) ∧ Two C w w' Bt Bu (putTo 1000 T ((p0, p1), v)) U := by
  obtain ⟨F, G, A, B, hap, gt, gu, hb⟩ := h
  refine (C.put p0 p1 v wz A hl).mono ?_
  rintro e w' ⟨he, ⟨F', A', gF⟩, kF⟩
  exact ⟨he, F', G, A', C.kept B kF (fun k hg hf => hap k hf hg), grow_apart hap (C.lt B) gF, grow_ge gt hb.size gF, gu, hb.trans (kF.below hb.size gt)⟩
theorem Two.putU (h : Two C w wr Bt Bu T U) (p0 p1 v : Int) (wz : ∀ z ∈ [p0, p1, v], (Lit.int .i64 z).wf = true) (hl : U.length ≤ 90) :
    Calls Try.prog 12 #[.pointer (some ⟨Bu, 0, none⟩), .agg #[.int .i64 p0, .int .i64 p1], .int .i64 v] wr fun e w' => e = .returned (.int .i64 (putErr 1000 U ((p0, p1), v))) ∧ Two C w w' Bt Bu T (putTo 1000 U ((p0, p1), v)) := by
  obtain ⟨F, G, A, B, hap, gt, gu, hb⟩ := h
  refine (C.put p0 p1 v wz B hl).mono ?_
  rintro e w' ⟨he, ⟨G', B', gG⟩, kG⟩
  exact ⟨he, F, G', C.kept A kG hap, B', fun k hf hg => grow_apart (fun k hg hf => hap k hf hg) (C.lt A) gG k hg hf, gt, grow_ge gu hb.size gG, hb.trans (kG.below hb.size gu)⟩
theorem Two.cutU (h : Two C w wr Bt Bu T U) (p0 p1 : Int) (wz : ∀ z ∈ [p0, p1], (Lit.int .i64 z).wf = true) (hl : U.length ≤ 90) :
    Calls Try.prog 14 #[.pointer (some ⟨Bu, 0, none⟩), .agg #[.int .i64 p0, .int .i64 p1]] wr fun e w' => e = .returned (.int .i64 (cutErr U (p0, p1))) ∧ Two C w w' Bt Bu T (cutTo U (p0, p1)) := by
  obtain ⟨F, G, A, B, hap, gt, gu, hb⟩ := h
  refine (C.cut p0 p1 wz B hl).mono ?_
  rintro e w' ⟨he, ⟨G', B', gG⟩, kG⟩
  exact ⟨he, F, G', C.kept A kG hap, B', fun k hf hg => grow_apart (fun k hg hf => hap k hf hg) (C.lt A) gG k hg hf, gt, grow_ge gu hb.size gG, hb.trans (kG.below hb.size gu)⟩
end
theorem apart_next {s : List T3} {k : Nat} (h : k < s.length) (h1 : (s.take k).Pairwise (fun a b => a.1 ≠ b.1)) (h2 : ∀ y ∈ s.take k, y.1 ≠ s[k].1) : (s.take (k + 1)).Pairwise (fun a b => a.1 ≠ b.1) := by
  rw [List.take_succ_eq_append_getElem h, List.pairwise_append]
  exact ⟨h1, List.pairwise_singleton _ _, fun a ha b hb => by rw [List.mem_singleton.1 hb]; exact h2 a ha⟩
theorem fold_next (room : Int) (acc : List T3) {s : List T3} {k : Nat} (h : k < s.length) : (s.take (k + 1)).foldl (putTo room) acc = putTo room ((s.take k).foldl (putTo room) acc) s[k] := by
  rw [List.take_succ_eq_append_getElem h, List.foldl_append]
  rfl
theorem fold_next2 (acc : List T3) {s : List P2} {k : Nat} (h : k < s.length) : (s.take (k + 1)).foldl cutTo acc = cutTo ((s.take k).foldl cutTo acc) s[k] := by
  rw [List.take_succ_eq_append_getElem h, List.foldl_append]
  rfl
theorem others_next {os : List P2} {m : Nat} (h : m < os.length) : ((os.take (m + 1)).map (fun p => (p, (1 : Int)))).foldl (putTo 1000) [] = putTo 1000 (((os.take m).map (fun p => (p, (1 : Int)))).foldl (putTo 1000) []) (os[m], 1) := by
  rw [List.take_succ_eq_append_getElem h, List.map_append, List.foldl_append]
  rfl
theorem others_len (os : List P2) (m : Nat) : (((os.take m).map (fun p => (p, (1 : Int)))).foldl (putTo 1000) []).length ≤ os.length := by
  have h1 := puts_fold_len 1000 ((os.take m).map (fun p => (p, (1 : Int)))) []
  simp only [List.length_nil, List.length_map, List.length_take] at h1
  omega
theorem rev_next (acc : List T3) {s : List T3} {k : Nat} (h : k < s.length) : (s.reverse.take (k + 1)).foldl (putTo 1000) acc = putTo 1000 ((s.reverse.take k).foldl (putTo 1000) acc) (s[s.length - 1 - k]'(by omega)) := by
  have hk : k < s.reverse.length := by simpa using h
  rw [List.take_succ_eq_append_getElem hk, List.foldl_append, List.getElem_reverse]
  rfl
theorem cuts_len (ps : List P2) (l : List T3) : (ps.foldl cutTo l).length ≤ l.length := by
  induction ps generalizing l with
  | nil => exact Nat.le_refl _
  | cons p ps ih =>
    rw [List.foldl_cons]
    have h1 := ih (cutTo l p)
    have h2 : (cutTo l p).length ≤ l.length := by
      unfold cutTo
      split
      · exact List.length_filter_le _ _
      · exact Nat.le_refl _
    omega
set_option maxRecDepth 100000 in
set_option maxHeartbeats 16000000 in
theorem walk_of (C : Code) (x : Option Addr) (c : Nat) (s : List T3) (xo : Option Addr) (co : Nat) (os : List P2) (w : World) (R : Rds fE 3 w x c s) (Q : Rds fP 2 w xo co os) (hl : s.length ≤ 30) (hlo : os.length ≤ 30) :
    Calls Try.prog 5 #[.slice x s.length c, .slice xo os.length co] w fun e w' => e = .returned (.bool true) ∧ Below w.heap.size w w' := by
  have hmx := Nat.le_trans R.le R.max
  have hmy := Nat.le_trans Q.le Q.max
  unfold maxLen at hmx hmy
  go_enter Try.func5, Try.ntmps5
  go_wp2_with fail
  refine (awake7_of C _).mono ?_
  rintro e w1 ⟨rfl, hb1⟩
  go_wp2_with fail
  go_loopw [6] (fun i wr => ∃ k : Nat, k ≤ s.length ∧ i = .int .i64 k ∧ Below w.heap.size w wr ∧ (s.take k).Pairwise (fun a b => a.1 ≠ b.1) ∧ ∀ x ∈ s.take k, ∀ p ∈ os, x.1 ≠ p) (fun i _ => s.length - (intOf i).toNat)
  case atStart => exact ⟨0, by omega, rfl, hb1, by simp, by simp⟩
  case round =>
    obtain ⟨k, hk, rfl, hbr, hp1, hp2⟩ := hrel
    have HP : Hid ((s.take k).Pairwise (fun a b => a.1 ≠ b.1) ∧ ∀ x ∈ s.take k, ∀ p ∈ os, x.1 ≠ p) := ⟨hp1, hp2⟩
    clear hp1 hp2
    by_cases hlt : k < s.length
    · have gk : s[k]? = some s[k] := List.getElem?_eq_getElem hlt
      obtain ⟨b, o, rfl, hbb, -⟩ := (R.later hbr).at gk
      have hi : (k : Int) < (s.length : Int) := by omega
      go_wp2_with fail
      go_loopw [7] (fun i wr => ∃ j : Nat, j ≤ k ∧ i = .int .i64 j ∧ Below w.heap.size w wr ∧ ∀ y ∈ s.take j, y.1 ≠ s[k].1) (fun i _ => k - (intOf i).toNat)
      case atStart => exact ⟨0, by omega, rfl, hbr, by simp⟩
      case round =>
        obtain ⟨j, hj, rfl, hbj, hq1⟩ := hrel
        have HQ : Hid (∀ y ∈ s.take j, y.1 ≠ s[k].1) := hq1
        clear hq1 hbr
        by_cases hjl : j < k
        · have gj : s[j]? = some s[j] := List.getElem?_eq_getElem (by omega)
          have hij : (j : Int) < (s.length : Int) := by omega
          obtain ⟨b9, o9, e9, -, hc⟩ := (R.later hbj).at gk
          cases e9
          obtain ⟨b9, o9, e9, -, hd⟩ := (R.later hbj).at gj
          cases e9
          have c0 := hc 0 _ rfl
          have c1 := hc 1 _ rfl
          have d0 := hd 0 _ rfl
          have d1 := hd 1 _ rfl
          rw [Nat.add_zero] at c0 d0
          clear hc hd
          have hjk : (j : Int) < (k : Int) := by omega
          have hq := fun w => eq_pre s[k].1.1 s[k].1.2 s[j].1.1 s[j].1.2 w
          by_cases he : s[k].1 = s[j].1
          · have hv : ((s[k].1.1 == s[j].1.1) && (s[k].1.2 == s[j].1.2)) = true := by simp [he]
            rw [hv] at hq
            clear he hv
            generalize s[k].1.1 = u0 at c0 hq
            generalize s[k].1.2 = u1 at c1 hq
            generalize s[j].1.1 = u2 at d0 hq
            generalize s[j].1.2 = u3 at d1 hq
            go_wp2_with fail
            go_quiet (fail)
            go_wp2_with fail
            go_ret
            exact ⟨rfl, hbj.trans (below_draws _ _ nq)⟩
          · have hv : ((s[k].1.1 == s[j].1.1) && (s[k].1.2 == s[j].1.2)) = false := by rw [Bool.eq_false_iff]; intro hh; simp only [Bool.and_eq_true, beq_iff_eq] at hh; exact he (Prod.ext hh.1 hh.2)
            rw [hv] at hq
            have HN : Hid (∀ y ∈ s.take (j + 1), y.1 ≠ s[k].1) := take_next (P := fun y : T3 => y.1 ≠ s[k].1) (by omega) HQ.out (fun e => he e.symm)
            clear he hv HQ
            generalize s[k].1.1 = u0 at c0 hq
            generalize s[k].1.2 = u1 at c1 hq
            generalize s[j].1.1 = u2 at d0 hq
            generalize s[j].1.2 = u3 at d1 hq
            go_wp2_with fail
            go_quiet (fail)
            go_wp2_with fail
            go_roundw
            case rel => exact ⟨j + 1, by omega, by go_num, hbj.trans (below_draws _ _ nq), HN.out⟩
            case measure => simp [intOf]; omega
        · obtain rfl : j = k := by omega
          go_wp2_with fail
          go_loopw [8] (fun i wr => ∃ m : Nat, m ≤ os.length ∧ i = .int .i64 m ∧ Below w.heap.size w wr ∧ ∀ p ∈ os.take m, s[j].1 ≠ p) (fun i _ => os.length - (intOf i).toNat)
          case atStart => exact ⟨0, by omega, rfl, hbj, by simp⟩
          case round =>
            obtain ⟨m, hm, rfl, hbm, hq2⟩ := hrel
            have HO : Hid (∀ p ∈ os.take m, s[j].1 ≠ p) := hq2
            clear hq2 hbj
            by_cases hml : m < os.length
            · have gm : os[m]? = some os[m] := List.getElem?_eq_getElem hml
              have him : (m : Int) < (os.length : Int) := by omega
              obtain ⟨b9, o9, e9, -, hc⟩ := (R.later hbm).at gk
              cases e9
              obtain ⟨bo, oo, e9, -, hd⟩ := (Q.later hbm).at gm
              subst e9
              have c0 := hc 0 _ rfl
              have c1 := hc 1 _ rfl
              have d0 := hd 0 _ rfl
              have d1 := hd 1 _ rfl
              rw [Nat.add_zero] at c0 d0
              clear hc hd
              have hq := fun w => eq_pre s[j].1.1 s[j].1.2 os[m].1 os[m].2 w
              by_cases he : s[j].1 = os[m]
              · have hv : ((s[j].1.1 == os[m].1) && (s[j].1.2 == os[m].2)) = true := by simp [he]
                rw [hv] at hq
                clear he hv
                generalize s[j].1.1 = u0 at c0 hq
                generalize s[j].1.2 = u1 at c1 hq
                generalize os[m].1 = u2 at d0 hq
                generalize os[m].2 = u3 at d1 hq
                go_wp2_with fail
                go_quiet (fail)
                go_wp2_with fail
                go_ret
                exact ⟨rfl, hbm.trans (below_draws _ _ nq)⟩
              · have hv : ((s[j].1.1 == os[m].1) && (s[j].1.2 == os[m].2)) = false := by rw [Bool.eq_false_iff]; intro hh; simp only [Bool.and_eq_true, beq_iff_eq] at hh; exact he (Prod.ext hh.1 hh.2)
                rw [hv] at hq
                have HN : Hid (∀ p ∈ os.take (m + 1), s[j].1 ≠ p) := take_next (P := fun p : P2 => s[j].1 ≠ p) hml HO.out he
                clear he hv HO
                generalize s[j].1.1 = u0 at c0 hq
                generalize s[j].1.2 = u1 at c1 hq
                generalize os[m].1 = u2 at d0 hq
                generalize os[m].2 = u3 at d1 hq
                go_wp2_with fail
                go_quiet (fail)
                go_wp2_with fail
                go_roundw
                case rel => exact ⟨m + 1, by omega, by go_num, hbm.trans (below_draws _ _ nq), HN.out⟩
                case measure => simp [intOf]; omega
            · obtain rfl : m = os.length := by omega
              go_wp2_with fail
              go_roundw
              case rel => exact ⟨j + 1, by omega, by go_num, hbm, apart_next hlt HP.out.1 HQ.out, take_next (P := fun x : T3 => ∀ p ∈ os, x.1 ≠ p) hlt HP.out.2 (by have := HO.out; rw [List.take_length] at this; exact this)⟩
              case measure => simp [intOf]; omega
    · obtain rfl : k = s.length := by omega
      have HD := HP.out
      rw [List.take_length] at HD
      have HE := turned HD.1 HD.2 (by omega) (by omega)
      have HH : Hid _ := HE
      clear HP HD HE hlt hk hb1
      go_wp2_with fail
      refine (C.new 1000 _).mono ?_
      rintro e w2 ⟨Bt, F0, rfl, A0, g0, hb2⟩
      rw [show roomOf 1000 = 1000 from by decide] at A0
      go_wp2_with fail
      refine (C.new 1000 _).mono ?_
      rintro e w3 ⟨Bu, G0, rfl, B0, u0, hb3⟩
      rw [show roomOf 1000 = 1000 from by decide] at B0
      have TW : Two C w w3 Bt Bu [] [] := ⟨F0, G0, C.later A0 hb3, B0, fun k hf hg => by have := C.lt A0 k hf; have := u0 k hg; omega, fun k hk => Nat.le_trans hbr.size (g0 k hk), fun k hk => Nat.le_trans (Nat.le_trans hbr.size hb2.size) (u0 k hk), below_step (below_step hbr hb2) hb3⟩
      clear A0 g0 hb2 B0 u0 hb3 hbr
      go_wp2_with fail
      go_loopw [11] (fun i wr => ∃ m : Nat, m ≤ os.length ∧ i = .int .i64 m ∧ Two C w wr Bt Bu [] (((os.take m).map (fun p => (p, (1 : Int)))).foldl (putTo 1000) [])) (fun i _ => os.length - (intOf i).toNat)
      case atStart => exact ⟨0, by omega, rfl, TW⟩
      case round =>
        obtain ⟨m, hm, rfl, T1⟩ := hrel
        clear TW
        have hb4 := T1.below
        by_cases hml : m < os.length
        · have gm : os[m]? = some os[m] := List.getElem?_eq_getElem hml
          have him : (m : Int) < (os.length : Int) := by omega
          obtain ⟨bo, oo, rfl, -, hd⟩ := (Q.later hb4).at gm
          have d0 := hd 0 _ rfl
          have d1 := hd 1 _ rfl
          rw [Nat.add_zero] at d0
          clear hd
          have hwf := Q.wf os[m] (List.getElem_mem hml)
          have NX : Hid (((os.take (m + 1)).map (fun p => (p, (1 : Int)))).foldl (putTo 1000) [] = putTo 1000 (((os.take m).map (fun p => (p, (1 : Int)))).foldl (putTo 1000) []) (os[m], 1)) := others_next hml
          have hll := others_len os m
          generalize hom : os[m] = om at gm d0 d1 hwf NX
          obtain ⟨p0, p1⟩ := om
          generalize ((os.take m).map (fun p => (p, (1 : Int)))).foldl (putTo 1000) [] = U at T1 NX hll
          have wz : ∀ z ∈ [p0, p1, 1], (Lit.int .i64 z).wf = true := by intro z hz; simp only [List.mem_cons, List.not_mem_nil, or_false] at hz; rcases hz with rfl | rfl | rfl; exact hwf _ (by simp [fP]); exact hwf _ (by simp [fP]); decide
          go_wp2_with fail
          refine (T1.putU p0 p1 1 wz (by omega)).mono ?_
          rintro e w5 ⟨rfl, T2⟩
          go_wp2_with fail
          go_roundw
          case rel => exact ⟨m + 1, by omega, by go_num, by rw [NX.out]; exact T2⟩
          case measure => simp [intOf]; omega
        · obtain rfl : m = os.length := by omega
          rw [List.take_length] at T1
          have hll := others_len os os.length
          rw [List.take_length] at hll
          obtain ⟨U1, eU⟩ : ∃ U, (os.map (fun p => (p, (1 : Int)))).foldl (putTo 1000) [] = U := ⟨_, rfl⟩
          rw [eU] at T1 hll HH
          clear eU hml hm hb4
          go_wp2_with fail
          go_loopw [12] (fun i wr => ∃ k : Nat, k ≤ s.length ∧ i = .int .i64 k ∧ Two C w wr Bt Bu ((s.take k).foldl (putTo 1000) []) ((s.reverse.take k).foldl (putTo 1000) U1)) (fun i _ => s.length - (intOf i).toNat)
          case atStart => exact ⟨0, by omega, rfl, T1⟩
          case round =>
            obtain ⟨k, hk, rfl, T3⟩ := hrel
            clear T1
            have hb6 := T3.below
            by_cases hlt : k < s.length
            · have gk : s[k]? = some s[k] := List.getElem?_eq_getElem hlt
              have hrl : s.length - 1 - k < s.length := by omega
              have gr : s[s.length - 1 - k]? = some s[s.length - 1 - k] := List.getElem?_eq_getElem hrl
              obtain ⟨b, o, rfl, hbb, -⟩ := (R.later hb6).at gk
              have hi : (k : Int) < (s.length : Int) := by omega
              have hwf := R.wf s[k] (List.getElem_mem hlt)
              have hwr := R.wf s[s.length - 1 - k] (List.getElem_mem hrl)
              have NT : Hid ((s.take (k + 1)).foldl (putTo 1000) [] = putTo 1000 ((s.take k).foldl (putTo 1000) []) s[k]) := fold_next 1000 [] hlt
              have NU : Hid ((s.reverse.take (k + 1)).foldl (putTo 1000) U1 = putTo 1000 ((s.reverse.take k).foldl (putTo 1000) U1) s[s.length - 1 - k]) := rev_next U1 hlt
              have hlT := puts_fold_len 1000 (s.take k) []
              have hlU := puts_fold_len 1000 (s.reverse.take k) U1
              simp only [List.length_take, List.length_reverse, List.length_nil] at hlT hlU
              generalize hsk : s[k] = sk at gk hwf NT
              generalize hsr : s[s.length - 1 - k] = sr at gr hwr NU
              clear hsk hsr
              obtain ⟨⟨p0, p1⟩, vl⟩ := sk
              obtain ⟨⟨r0, r1⟩, rl⟩ := sr
              generalize (s.take k).foldl (putTo 1000) [] = LT at T3 NT hlT
              generalize (s.reverse.take k).foldl (putTo 1000) U1 = LU at T3 NU hlU
              have wz : ∀ z ∈ [p0, p1, vl], (Lit.int .i64 z).wf = true := fun z hz => hwf z (by simpa [fE] using hz)
              have wr7 : ∀ z ∈ [r0, r1, rl], (Lit.int .i64 z).wf = true := fun z hz => hwr z (by simpa [fE] using hz)
              obtain ⟨nr, enr⟩ : ∃ n, s.length - 1 - k = n := ⟨_, rfl⟩
              rw [enr] at gr
              have hw1 : IntKind.i64.wrap ((s.length : Int) - 1) = (s.length : Int) - 1 := wrap_id (by omega) (by omega)
              have hw2 : IntKind.i64.wrap ((s.length : Int) - 1 - (k : Int)) = (nr : Int) := by rw [wrap_id (by omega) (by omega)]; omega
              have hnr2 : (nr : Int) < (s.length : Int) := by omega
              clear enr hrl
              have S0 : Below w.heap.size w wr.drew := hb6.drew
              go_wp2_with fail
              refine wp_region_noPanic ?_
              refine wp_region_held_drew (S := fun w' => Below w.heap.size w w') (by kernel_rfl) S0 (fun hH => ?_)
              clear S0
              refine wpAnyH_take (i := 0) (oi := { dst := some 87, op := _, type := _, pos := _, after := _, guard := _ }) (v := ?_) rfl (by kernel_rfl) (by kernel_rfl) (by kernel_rfl) (fun _ _ _ h => h) (Or.inl ⟨by rfl, ?_⟩) hH ?_
              rotate_left
              · intro wz hSw
                (try dsimp only at hSw)
                first | (go_simp; done) | (go_simp; with_reducible rfl)
              try simp only [Act.put, List.setIfInBounds_toArray, List.set_cons_zero, List.set_cons_succ]
              refine wpAnyH_take (i := 1) (oi := { dst := some 88, op := _, type := _, pos := _, after := _, guard := _ }) (v := ?_) rfl (by kernel_rfl) (by kernel_rfl) (by kernel_rfl) (fun _ _ _ h => h) (Or.inl ⟨by rfl, ?_⟩) hH ?_
              rotate_left
              · intro wz hSw
                (try dsimp only at hSw)
                first | (go_simp; done) | (go_simp; with_reducible rfl)
              try simp only [Act.put, List.setIfInBounds_toArray, List.set_cons_zero, List.set_cons_succ]
              refine wpAnyH_take (i := 2) (oi := { dst := some 89, op := _, type := _, pos := _, after := _, guard := _ }) (v := ?_) rfl (by kernel_rfl) (by kernel_rfl) (by kernel_rfl) (fun _ _ _ h => h) (Or.inl ⟨by rfl, ?_⟩) hH ?_
              rotate_left
              · intro wz hSw
                (try dsimp only at hSw)
                first | (go_simp; done) | (go_simp; with_reducible rfl)
              try simp only [Act.put, List.setIfInBounds_toArray, List.set_cons_zero, List.set_cons_succ]
              refine wpAnyH_take (i := 3) (oi := { dst := some 90, op := _, type := _, pos := _, after := _, guard := _ }) (v := ?_) rfl (by kernel_rfl) (by kernel_rfl) (by kernel_rfl) (fun _ _ _ h => h) (Or.inl ⟨by rfl, ?_⟩) hH ?_
              rotate_left
              · intro wz hSw
                (try dsimp only at hSw)
                first | (go_simp; done) | (go_simp; with_reducible rfl)
              try simp only [Act.put, List.setIfInBounds_toArray, List.set_cons_zero, List.set_cons_succ]
              refine wpAnyH_take (i := 4) (oi := { dst := some 91, op := _, type := _, pos := _, after := _, guard := _ }) (v := ?_) rfl (by kernel_rfl) (by kernel_rfl) (by kernel_rfl) (fun _ _ _ h => h) (Or.inl ⟨by rfl, ?_⟩) hH ?_
              rotate_left
              · intro wz hSw
                (try dsimp only at hSw)
                first | (go_simp; done) | (go_simp; with_reducible rfl)
              try simp only [Act.put, List.setIfInBounds_toArray, List.set_cons_zero, List.set_cons_succ]
              refine wpAnyH_take (i := 5) (oi := { dst := some 92, op := _, type := _, pos := _, after := _, guard := _ }) (v := ?_) rfl (by kernel_rfl) (by kernel_rfl) (by kernel_rfl) (fun _ _ _ h => h) (Or.inl ⟨by rfl, ?_⟩) hH ?_
              rotate_left
              · intro wz hSw
                (try dsimp only at hSw)
                obtain ⟨b9, o9, e9, -, hc9⟩ := (R.later hSw).at gk
                cases e9
                have c0 := hc9 0 _ rfl
                have c1 := hc9 1 _ rfl
                rw [Nat.add_zero] at c0
                first | (go_simp; done) | (go_simp; with_reducible rfl)
              try simp only [Act.put, List.setIfInBounds_toArray, List.set_cons_zero, List.set_cons_succ]
              refine wpAnyH_take (i := 6) (oi := { dst := some 93, op := _, type := _, pos := _, after := _, guard := _ }) (v := ?_) rfl (by kernel_rfl) (by kernel_rfl) (by kernel_rfl) (fun _ _ _ h => h) (Or.inl ⟨by rfl, ?_⟩) hH ?_
              rotate_left
              · intro wz hSw
                (try dsimp only at hSw)
                first | (go_simp; done) | (go_simp; with_reducible rfl)
              try simp only [Act.put, List.setIfInBounds_toArray, List.set_cons_zero, List.set_cons_succ]
              refine wpAnyH_take (i := 7) (oi := { dst := some 94, op := _, type := _, pos := _, after := _, guard := _ }) (v := ?_) rfl (by kernel_rfl) (by kernel_rfl) (by kernel_rfl) (fun _ _ _ h => h) (Or.inl ⟨by rfl, ?_⟩) hH ?_
              rotate_left
              · intro wz hSw
                (try dsimp only at hSw)
                first | (go_simp; done) | (go_simp; with_reducible rfl)
              try simp only [Act.put, List.setIfInBounds_toArray, List.set_cons_zero, List.set_cons_succ]
              refine wpAnyH_take (i := 8) (oi := { dst := some 95, op := _, type := _, pos := _, after := _, guard := _ }) (v := ?_) rfl (by kernel_rfl) (by kernel_rfl) (by kernel_rfl) (fun _ _ _ h => h) (Or.inl ⟨by rfl, ?_⟩) hH ?_
              rotate_left
              · intro wz hSw
                (try dsimp only at hSw)
                first | (go_simp; done) | (go_simp; with_reducible rfl)
              try simp only [Act.put, List.setIfInBounds_toArray, List.set_cons_zero, List.set_cons_succ]
              refine wpAnyH_take (i := 9) (oi := { dst := some 96, op := _, type := _, pos := _, after := _, guard := _ }) (v := ?_) rfl (by kernel_rfl) (by kernel_rfl) (by kernel_rfl) (fun _ _ _ h => h) (Or.inl ⟨by rfl, ?_⟩) hH ?_
              rotate_left
              · intro wz hSw
                (try dsimp only at hSw)
                first | (go_simp; done) | (go_simp; with_reducible rfl)
              try simp only [Act.put, List.setIfInBounds_toArray, List.set_cons_zero, List.set_cons_succ]
              refine wpAnyH_take (i := 10) (oi := { dst := some 97, op := _, type := _, pos := _, after := _, guard := _ }) (v := ?_) rfl (by kernel_rfl) (by kernel_rfl) (by kernel_rfl) (fun _ _ _ h => h) (Or.inl ⟨by rfl, ?_⟩) hH ?_
              rotate_left
              · intro wz hSw
                (try dsimp only at hSw)
                obtain ⟨b9, o9, e9, -, hc9⟩ := (R.later hSw).at gk
                cases e9
                have c2 := hc9 2 _ rfl
                first | (go_simp; done) | (go_simp; with_reducible rfl)
              try simp only [Act.put, List.setIfInBounds_toArray, List.set_cons_zero, List.set_cons_succ]
              refine wpAnyH_ready (rs := [11]) (by kernel_rfl) (by simp) ?_
              refine AllReadyH.cons (o := { dst := some 98, op := _, type := _, pos := _, after := _, guard := _ }) rfl (fun K hK => ?_) AllReadyH.nil
              go_simp
              refine ((T3.later (below_draw1 _)).putT p0 p1 vl wz (by omega)).mono ?_
              rintro e v11 ⟨rfl, T4⟩
              go_wp2_with fail
              clear T3
              refine hK.out _ _ T4.below (fun hH2 => ?_)
              clear hK K hH
              have hH := hH2
              clear hH2
              try simp only [Act.put, List.setIfInBounds_toArray, List.set_cons_zero, List.set_cons_succ]
              refine wpAnyH_done (by kernel_rfl) ?_ _
              refine NoPanic.normal ?_
              have S0 : Below w.heap.size w v11.drew := hH.drew
              clear hH
              go_wp2_with fail
              refine wp_region_noPanic ?_
              refine wp_region_held_drew (S := fun w' => Below w.heap.size w w') (by kernel_rfl) S0 (fun hH => ?_)
              clear S0
              refine wpAnyH_take (i := 0) (oi := { dst := some 99, op := _, type := _, pos := _, after := _, guard := _ }) (v := ?_) rfl (by kernel_rfl) (by kernel_rfl) (by kernel_rfl) (fun _ _ _ h => h) (Or.inl ⟨by rfl, ?_⟩) hH ?_
              rotate_left
              · intro wz hSw
                (try dsimp only at hSw)
                first | (go_simp; done) | (go_simp; with_reducible rfl)
              try simp only [Act.put, List.setIfInBounds_toArray, List.set_cons_zero, List.set_cons_succ]
              refine wpAnyH_take (i := 1) (oi := { dst := some 100, op := _, type := _, pos := _, after := _, guard := _ }) (v := ?_) rfl (by kernel_rfl) (by kernel_rfl) (by kernel_rfl) (fun _ _ _ h => h) (Or.inl ⟨by rfl, ?_⟩) hH ?_
              rotate_left
              · intro wz hSw
                (try dsimp only at hSw)
                first | (go_simp; done) | (go_simp; with_reducible rfl)
              try simp only [Act.put, List.setIfInBounds_toArray, List.set_cons_zero, List.set_cons_succ]
              refine wpAnyH_take (i := 2) (oi := { dst := some 101, op := _, type := _, pos := _, after := _, guard := _ }) (v := ?_) rfl (by kernel_rfl) (by kernel_rfl) (by kernel_rfl) (fun _ _ _ h => h) (Or.inl ⟨by rfl, ?_⟩) hH ?_
              rotate_left
              · intro wz hSw
                (try dsimp only at hSw)
                first | (go_simp; done) | (go_simp; with_reducible rfl)
              try simp only [Act.put, List.setIfInBounds_toArray, List.set_cons_zero, List.set_cons_succ]
              refine wpAnyH_take (i := 3) (oi := { dst := some 102, op := _, type := _, pos := _, after := _, guard := _ }) (v := ?_) rfl (by kernel_rfl) (by kernel_rfl) (by kernel_rfl) (fun _ _ _ h => h) (Or.inl ⟨by rfl, ?_⟩) hH ?_
              rotate_left
              · intro wz hSw
                (try dsimp only at hSw)
                first | (go_simp; done) | (go_simp; with_reducible rfl)
              try simp only [Act.put, List.setIfInBounds_toArray, List.set_cons_zero, List.set_cons_succ]
              refine wpAnyH_take (i := 4) (oi := { dst := some 103, op := _, type := _, pos := _, after := _, guard := _ }) (v := ?_) rfl (by kernel_rfl) (by kernel_rfl) (by kernel_rfl) (fun _ _ _ h => h) (Or.inl ⟨by rfl, ?_⟩) hH ?_
              rotate_left
              · intro wz hSw
                (try dsimp only at hSw)
                first | (go_simp; done) | (go_simp; with_reducible rfl)
              try simp only [Act.put, List.setIfInBounds_toArray, List.set_cons_zero, List.set_cons_succ]
              refine wpAnyH_take (i := 5) (oi := { dst := some 104, op := _, type := _, pos := _, after := _, guard := _ }) (v := ?_) rfl (by kernel_rfl) (by kernel_rfl) (by kernel_rfl) (fun _ _ _ h => h) (Or.inl ⟨by rfl, ?_⟩) hH ?_
              rotate_left
              · intro wz hSw
                (try dsimp only at hSw)
                first | (go_simp; done) | (go_simp; with_reducible rfl)
              try simp only [Act.put, List.setIfInBounds_toArray, List.set_cons_zero, List.set_cons_succ]
              refine wpAnyH_take (i := 6) (oi := { dst := some 105, op := _, type := _, pos := _, after := _, guard := _ }) (v := ?_) rfl (by kernel_rfl) (by kernel_rfl) (by kernel_rfl) (fun _ _ _ h => h) (Or.inl ⟨by rfl, ?_⟩) hH ?_
              rotate_left
              · intro wz hSw
                (try dsimp only at hSw)
                first | (go_simp; done) | (go_simp; with_reducible rfl)
              try simp only [Act.put, List.setIfInBounds_toArray, List.set_cons_zero, List.set_cons_succ]
              refine wpAnyH_take (i := 7) (oi := { dst := some 106, op := _, type := _, pos := _, after := _, guard := _ }) (v := ?_) rfl (by kernel_rfl) (by kernel_rfl) (by kernel_rfl) (fun _ _ _ h => h) (Or.inl ⟨by rfl, ?_⟩) hH ?_
              rotate_left
              · intro wz hSw
                (try dsimp only at hSw)
                first | (go_simp; done) | (go_simp; with_reducible rfl)
              try simp only [Act.put, List.setIfInBounds_toArray, List.set_cons_zero, List.set_cons_succ]
              refine wpAnyH_take (i := 8) (oi := { dst := some 107, op := _, type := _, pos := _, after := _, guard := _ }) (v := ?_) rfl (by kernel_rfl) (by kernel_rfl) (by kernel_rfl) (fun _ _ _ h => h) (Or.inl ⟨by rfl, ?_⟩) hH ?_
              rotate_left
              · intro wz hSw
                (try dsimp only at hSw)
                first | (go_simp; done) | (go_simp; with_reducible rfl)
              try simp only [Act.put, List.setIfInBounds_toArray, List.set_cons_zero, List.set_cons_succ]
              refine wpAnyH_take (i := 9) (oi := { dst := some 108, op := _, type := _, pos := _, after := _, guard := _ }) (v := ?_) rfl (by kernel_rfl) (by kernel_rfl) (by kernel_rfl) (fun _ _ _ h => h) (Or.inl ⟨by rfl, ?_⟩) hH ?_
              rotate_left
              · intro wz hSw
                (try dsimp only at hSw)
                obtain ⟨b9, o9, e9, -, hc9⟩ := (R.later hSw).at gr
                cases e9
                have c0 := hc9 0 _ rfl
                have c1 := hc9 1 _ rfl
                rw [Nat.add_zero] at c0
                first | (go_simp; done) | (go_simp; with_reducible rfl)
              try simp only [Act.put, List.setIfInBounds_toArray, List.set_cons_zero, List.set_cons_succ]
              refine wpAnyH_take (i := 10) (oi := { dst := some 109, op := _, type := _, pos := _, after := _, guard := _ }) (v := ?_) rfl (by kernel_rfl) (by kernel_rfl) (by kernel_rfl) (fun _ _ _ h => h) (Or.inl ⟨by rfl, ?_⟩) hH ?_
              rotate_left
              · intro wz hSw
                (try dsimp only at hSw)
                first | (go_simp; done) | (go_simp; with_reducible rfl)
              try simp only [Act.put, List.setIfInBounds_toArray, List.set_cons_zero, List.set_cons_succ]
              refine wpAnyH_take (i := 11) (oi := { dst := some 110, op := _, type := _, pos := _, after := _, guard := _ }) (v := ?_) rfl (by kernel_rfl) (by kernel_rfl) (by kernel_rfl) (fun _ _ _ h => h) (Or.inl ⟨by rfl, ?_⟩) hH ?_
              rotate_left
              · intro wz hSw
                (try dsimp only at hSw)
                first | (go_simp; done) | (go_simp; with_reducible rfl)
              try simp only [Act.put, List.setIfInBounds_toArray, List.set_cons_zero, List.set_cons_succ]
              refine wpAnyH_take (i := 12) (oi := { dst := some 111, op := _, type := _, pos := _, after := _, guard := _ }) (v := ?_) rfl (by kernel_rfl) (by kernel_rfl) (by kernel_rfl) (fun _ _ _ h => h) (Or.inl ⟨by rfl, ?_⟩) hH ?_
              rotate_left
              · intro wz hSw
                (try dsimp only at hSw)
                first | (go_simp; done) | (go_simp; with_reducible rfl)
              try simp only [Act.put, List.setIfInBounds_toArray, List.set_cons_zero, List.set_cons_succ]
              refine wpAnyH_take (i := 13) (oi := { dst := some 112, op := _, type := _, pos := _, after := _, guard := _ }) (v := ?_) rfl (by kernel_rfl) (by kernel_rfl) (by kernel_rfl) (fun _ _ _ h => h) (Or.inl ⟨by rfl, ?_⟩) hH ?_
              rotate_left
              · intro wz hSw
                (try dsimp only at hSw)
                first | (go_simp; done) | (go_simp; with_reducible rfl)
              try simp only [Act.put, List.setIfInBounds_toArray, List.set_cons_zero, List.set_cons_succ]
              refine wpAnyH_take (i := 14) (oi := { dst := some 113, op := _, type := _, pos := _, after := _, guard := _ }) (v := ?_) rfl (by kernel_rfl) (by kernel_rfl) (by kernel_rfl) (fun _ _ _ h => h) (Or.inl ⟨by rfl, ?_⟩) hH ?_
              rotate_left
              · intro wz hSw
                (try dsimp only at hSw)
                first | (go_simp; done) | (go_simp; with_reducible rfl)
              try simp only [Act.put, List.setIfInBounds_toArray, List.set_cons_zero, List.set_cons_succ]
              refine wpAnyH_take (i := 15) (oi := { dst := some 114, op := _, type := _, pos := _, after := _, guard := _ }) (v := ?_) rfl (by kernel_rfl) (by kernel_rfl) (by kernel_rfl) (fun _ _ _ h => h) (Or.inl ⟨by rfl, ?_⟩) hH ?_
              rotate_left
              · intro wz hSw
                (try dsimp only at hSw)
                first | (go_simp; done) | (go_simp; with_reducible rfl)
              try simp only [Act.put, List.setIfInBounds_toArray, List.set_cons_zero, List.set_cons_succ]
              refine wpAnyH_take (i := 16) (oi := { dst := some 115, op := _, type := _, pos := _, after := _, guard := _ }) (v := ?_) rfl (by kernel_rfl) (by kernel_rfl) (by kernel_rfl) (fun _ _ _ h => h) (Or.inl ⟨by rfl, ?_⟩) hH ?_
              rotate_left
              · intro wz hSw
                (try dsimp only at hSw)
                first | (go_simp; done) | (go_simp; with_reducible rfl)
              try simp only [Act.put, List.setIfInBounds_toArray, List.set_cons_zero, List.set_cons_succ]
              refine wpAnyH_take (i := 17) (oi := { dst := some 116, op := _, type := _, pos := _, after := _, guard := _ }) (v := ?_) rfl (by kernel_rfl) (by kernel_rfl) (by kernel_rfl) (fun _ _ _ h => h) (Or.inl ⟨by rfl, ?_⟩) hH ?_
              rotate_left
              · intro wz hSw
                (try dsimp only at hSw)
                first | (go_simp; done) | (go_simp; with_reducible rfl)
              try simp only [Act.put, List.setIfInBounds_toArray, List.set_cons_zero, List.set_cons_succ]
              refine wpAnyH_take (i := 18) (oi := { dst := some 117, op := _, type := _, pos := _, after := _, guard := _ }) (v := ?_) rfl (by kernel_rfl) (by kernel_rfl) (by kernel_rfl) (fun _ _ _ h => h) (Or.inl ⟨by rfl, ?_⟩) hH ?_
              rotate_left
              · intro wz hSw
                (try dsimp only at hSw)
                obtain ⟨b9, o9, e9, -, hc9⟩ := (R.later hSw).at gr
                cases e9
                have c2 := hc9 2 _ rfl
                first | (go_simp; done) | (go_simp; with_reducible rfl)
              try simp only [Act.put, List.setIfInBounds_toArray, List.set_cons_zero, List.set_cons_succ]
              refine wpAnyH_ready (rs := [19]) (by kernel_rfl) (by simp) ?_
              refine AllReadyH.cons (o := { dst := some 118, op := _, type := _, pos := _, after := _, guard := _ }) rfl (fun K hK => ?_) AllReadyH.nil
              go_simp
              refine ((T4.later (below_draw1 _)).putU r0 r1 rl wr7 (by omega)).mono ?_
              rintro e v19 ⟨rfl, T5⟩
              go_wp2_with fail
              clear T4
              refine hK.out _ _ T5.below (fun hH2 => ?_)
              clear hK K hH
              have hH := hH2
              clear hH2
              try simp only [Act.put, List.setIfInBounds_toArray, List.set_cons_zero, List.set_cons_succ]
              refine wpAnyH_done (by kernel_rfl) ?_ _
              refine NoPanic.normal ?_
              go_wp2_with fail
              go_roundw
              case rel => exact ⟨k + 1, by omega, by go_num, by rw [NT.out, NU.out]; exact T5⟩
              case measure => simp [intOf]; omega
            · obtain rfl : k = s.length := by omega
              have er : s.reverse.take s.length = s.reverse := List.take_of_length_le (by simp)
              rw [List.take_length, er] at T3
              have hlT := puts_fold_len 1000 s []
              have hlU := puts_fold_len 1000 s.reverse U1
              simp only [List.length_reverse, List.length_nil] at hlT hlU
              generalize s.foldl (putTo 1000) [] = LT at T3 HH hlT
              generalize s.reverse.foldl (putTo 1000) U1 = LU at T3 HH hlU
              clear er hlt hk hb6
              go_wp2_with fail
              go_loopw [13] (fun i wr => ∃ m : Nat, m ≤ os.length ∧ i = .int .i64 m ∧ Two C w wr Bt Bu LT ((os.take m).foldl cutTo LU)) (fun i _ => os.length - (intOf i).toNat)
              case atStart => exact ⟨0, by omega, rfl, T3⟩
              case round =>
                obtain ⟨m, hm, rfl, T6⟩ := hrel
                clear T3
                have hb7 := T6.below
                by_cases hml : m < os.length
                · have gm : os[m]? = some os[m] := List.getElem?_eq_getElem hml
                  have him : (m : Int) < (os.length : Int) := by omega
                  obtain ⟨bo, oo, rfl, -, hd⟩ := (Q.later hb7).at gm
                  have d0 := hd 0 _ rfl
                  have d1 := hd 1 _ rfl
                  rw [Nat.add_zero] at d0
                  clear hd
                  have hwf := Q.wf os[m] (List.getElem_mem hml)
                  have NX : Hid ((os.take (m + 1)).foldl cutTo LU = cutTo ((os.take m).foldl cutTo LU) os[m]) := fold_next2 LU hml
                  have hll := cuts_len (os.take m) LU
                  generalize hom : os[m] = om at gm d0 d1 hwf NX
                  obtain ⟨p0, p1⟩ := om
                  generalize (os.take m).foldl cutTo LU = U at T6 NX hll
                  have wz : ∀ z ∈ [p0, p1], (Lit.int .i64 z).wf = true := fun z hz => hwf z (by simpa [fP] using hz)
                  go_wp2_with fail
                  refine (T6.cutU p0 p1 wz (by omega)).mono ?_
                  rintro e w8 ⟨rfl, T7⟩
                  go_wp2_with fail
                  go_roundw
                  case rel => exact ⟨m + 1, by omega, by go_num, by rw [NX.out]; exact T7⟩
                  case measure => simp [intOf]; omega
                · obtain rfl : m = os.length := by omega
                  rw [List.take_length, HH.out] at T6
                  have hL9 : LT.length ≤ 90 := by omega
                  obtain ⟨F, G, AT, AU, -, -, -, hb8⟩ := T6
                  clear hml hm
                  go_wp2_with fail
                  refine (C.walk AT hL9).mono ?_
                  rintro e y1 ⟨x1, c1, rfl, ⟨R1, -⟩, hb9⟩
                  replace AT := C.later AT hb9
                  replace AU := C.later AU hb9
                  have hb10 := below_step hb8 hb9
                  clear hb9
                  go_wp2_with fail
                  refine (C.walk AU hL9).mono ?_
                  rintro e y2 ⟨x2, c2, rfl, ⟨R2, -⟩, hb9⟩
                  replace AT := C.later AT hb9
                  replace AU := C.later AU hb9
                  replace R1 := R1.later hb9
                  replace hb10 := below_step hb10 hb9
                  clear hb9
                  go_wp2_with fail
                  refine (rsame_any _ R1 R2).mono ?_
                  rintro e y3 ⟨rfl, hb9⟩
                  replace AT := C.later AT hb9
                  replace AU := C.later AU hb9
                  replace hb10 := below_step hb10 hb9
                  clear hb9 R1 R2
                  have hd : decide (LT = LT) = true := by simp
                  have hcc : (count LT == count LT) = true := by simp
                  go_wp2_with fail
                  refine (C.nodes AT hL9).mono ?_
                  rintro e y4 ⟨rfl, hb9⟩
                  replace AU := C.later AU hb9
                  replace hb10 := below_step hb10 hb9
                  clear hb9
                  go_wp2_with fail
                  refine (C.nodes AU hL9).mono ?_
                  rintro e y5 ⟨rfl, hb9⟩
                  replace hb10 := below_step hb10 hb9
                  go_wp2_with fail
                  go_ret
                  exact ⟨rfl, hb10⟩
end Go.Proofs.Ytlgldoggnlcbkaa.trieOrder
