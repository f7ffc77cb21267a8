/- What the document's ends, Far and Edge answer. -/
import Derived.Test.YtihgpllbgliplaaTopFar
namespace Go.Proofs.Ytihgpllbgliplaa
open Go.ChangeShapes Go.WideShapes Go.ChangeAt Go.RowKit Go.Maps Tp
set_option linter.unusedVariables false
set_option linter.unusedSimpArgs false

theorem cnt_snoc {l : List Lk} {k : Nat} {x : Lk} (hx : l[k]? = some x) (u v : Int) : cnt (l.take (k + 1)) (u, v) = cnt (l.take k) (u, v) + (if (x.a == u && x.p == v) = true then 1 else 0) + (if (x.b == u && x.q == v) = true then 1 else 0) := by
  have hk : keys (ends (l.take (k + 1))) = keys (ends (l.take k)) ++ [(x.a, x.p), (x.b, x.q)] := by
    rw [List.take_add_one, hx, ends_append]
    unfold keys
    rw [List.map_append]
    rfl
  have hp : ∀ p q : Int, (((p, q) : En) == (u, v)) = (p == u && q == v) := fun p q => rfl
  unfold cnt
  rw [hk, List.count_append, List.count_cons, List.count_cons, List.count_nil, hp, hp]
  omega
theorem cnt_le (l : List Lk) (e : En) : cnt l e ≤ 2 * l.length := by
  unfold cnt
  refine Nat.le_trans List.count_le_length ?_
  unfold keys
  rw [List.length_map, ends_len]
  exact Nat.le_refl _
theorem get_snoc {l : List Lk} {k : Nat} {x : Lk} (hx : l[k]? = some x) (e : En) : getE (ends (l.take (k + 1))) e = (getE (ends (l.take k)) e).or (if (x.a, x.p) = e then some (x.b, x.q) else if (x.b, x.q) = e then some (x.a, x.p) else none) := by
  rw [List.take_add_one, hx, ends_append, get_append]
  rfl
theorem get_found {l : List Lk} {k : Nat} {e o : En} (h : getE (ends (l.take k)) e = some o) : getE (ends l) e = some o := by
  have : ends l = ends (l.take k) ++ ends (l.drop k) := by rw [← ends_append, List.take_append_drop]
  rw [this, get_append, h]
  rfl
section
variable (s n : Int) (w : World) {a : Option Addr} {c : Nat} {l : List Lk}
set_option maxRecDepth 100000 in
set_option maxHeartbeats 4000000 in
theorem rfar_any (R : Rds fK 4 w a c l) (x y : Int) :
    Calls Try.prog 24 #[.agg #[.int .i64 s, .int .i64 n, .slice a l.length c], .int .i64 x, .int .i64 y] w fun e w' => e = .returned (.tuple #[.int .i64 (other (far s n l (x, y))).1, .int .i64 (other (far s n l (x, y))).2, .bool (far s n l (x, y)).isSome]) ∧ Below w.heap.size w w' := by
  have hmx := Nat.le_trans R.le R.max
  unfold maxLen at hmx
  have hb1 := below_new w (.cells #[.int .i64 s, .int .i64 n, .slice a l.length c] 24)
  obtain ⟨t0, t1, t2⟩ := box3 w (.int .i64 s) (.int .i64 n) (.slice a l.length c) 24
  have hBT : w.heap.size < (w.alloc (.cells #[.int .i64 s, .int .i64 n, .slice a l.length c] 24)).heap.size := by simp
  have R1 := R.later hb1
  have cP := rport_any s n a l.length c x y (w.alloc (.cells #[.int .i64 s, .int .i64 n, .slice a l.length c] 24))
  clear R
  cases hp : isP s n (x, y) with
  | false =>
    rw [hp] at cP
    have hf : far s n l (x, y) = none := far_none hp
    rw [hf]
    dsimp only [other, Option.getD_none, Option.isSome_none]
    go_enter Try.func24, Try.ntmps24
    go_wp2_with fail
    refine cP.mono ?_
    clear cP
    rintro e w3 ⟨rfl, hb3⟩
    replace hb1 := below_step hb1 hb3
    go_wp2_with fail
    go_ret3
    exact ⟨rfl, hb1⟩
  | true =>
    rw [hp] at cP
    have HR : Hid (far s n l (x, y) = getE (ends l) (x, y)) := far_port hp
    generalize far s n l (x, y) = res at HR ⊢
    have HG0 : Hid (getE (ends (l.take 0)) (x, y) = none) := rfl
    go_enter Try.func24, Try.ntmps24
    go_wp2_with fail
    refine cP.mono ?_
    clear cP
    rintro e w3 ⟨rfl, hb3⟩
    replace t2 := (hb3.cell (p := ⟨w.heap.size, 2, none⟩) hBT).trans t2
    replace hBT := Nat.lt_of_lt_of_le hBT hb3.size
    replace R1 := R1.later hb3
    replace hb1 := below_step hb1 hb3
    clear hb3 t0 t1
    go_wp2_with fail
    go_loopw [10] (fun vi wr => ∃ k : Nat, Hid (k ≤ l.length) ∧ vi = .int .i64 (k : Nat) ∧ Hid (getE (ends (l.take k)) (x, y) = none) ∧ Below w3.heap.size w3 wr) (fun vi _ => l.length - (intOf vi).toNat)
    case atStart => exact ⟨0, Nat.zero_le _, rfl, HG0, Below.refl _ _⟩
    case round =>
      clear HG0
      obtain ⟨k, HK, rfl, HG, hbr⟩ := hrel
      replace t2 := (hbr.cell (p := ⟨w.heap.size, 2, none⟩) hBT).trans t2
      by_cases hlt : k < l.length
      · have hkz : (k : Int) < (l.length : Int) := by omega
        obtain ⟨r, hr⟩ := getK hlt
        obtain ⟨b, o, rfl, hbr1, hc⟩ := (R1.later hbr).at hr
        have NX := get_snoc hr (x, y)
        rw [HG.out, Option.none_or] at NX
        have hFD : ∀ o, getE (ends (l.take (k + 1))) (x, y) = some o → getE (ends l) (x, y) = some o := fun o h => get_found h
        obtain ⟨ka, kp, kb, kq⟩ := r
        have v0 := hc 0 _ rfl
        have v1 := hc 1 _ rfl
        have v2 := hc 2 _ rfl
        have v3 := hc 3 _ rfl
        rw [Nat.add_zero] at v0
        clear hc hr
        have HN : Hid (getE (ends (l.take (k + 1))) (x, y) = if ((ka, kp) : En) = (x, y) then some (kb, kq) else if ((kb, kq) : En) = (x, y) then some (ka, kp) else none) := NX
        have HFD : Hid (∀ o, getE (ends (l.take (k + 1))) (x, y) = some o → getE (ends l) (x, y) = some o) := hFD
        have HLT : Hid (k + 1 ≤ l.length) := hlt
        have hbA := below_new wr (.cells #[.int .i64 ka, .int .i64 kp, .int .i64 kb, .int .i64 kq] 71)
        have hB3 : Below w3.heap.size w3 (wr.alloc (.cells #[.int .i64 ka, .int .i64 kp, .int .i64 kb, .int .i64 kq] 71)) := below_step hbr hbA
        have hBw := below_step hb1 hB3
        clear NX hFD HK hlt HG hbA hbr
        cases hA : (ka == x) with
        | false =>
          have eA : ¬ ka = x := by simpa using hA
          cases hB : (kb == x) with
          | false =>
            have eB : ¬ kb = x := by simpa using hB
            have HN2 : Hid (getE (ends (l.take (k + 1))) (x, y) = none) := by
              show _ = _
              rw [HN.out]; simp [eA, eB]
            clear HN HFD eA eB
            go_wp2_with fail
            go_roundw
            case rel => exact ⟨k + 1, HLT.out, by go_num, HN2, hB3⟩
            case measure => have h := HLT.out; simp [intOf]; omega
          | true =>
            have eB : kb = x := by simpa using hB
            cases hQ : (kq == y) with
            | false =>
              have eQ : ¬ kq = y := by simpa using hQ
              have HN2 : Hid (getE (ends (l.take (k + 1))) (x, y) = none) := by
                show _ = _
                rw [HN.out]; simp [eA, eQ]
              clear HN HFD eA eB eQ
              go_wp2_with fail
              go_roundw
              case rel => exact ⟨k + 1, HLT.out, by go_num, HN2, hB3⟩
              case measure => have h := HLT.out; simp [intOf]; omega
            | true =>
              have eQ : kq = y := by simpa using hQ
              have HN2 : Hid (res = some (ka, kp)) := by
                show _ = _
                rw [HR.out, HFD.out (ka, kp) (by rw [HN.out]; simp [eA, eB, eQ])]
              clear HN HFD HR eA eB eQ
              go_wp2_with fail
              go_quiet (fail)
              go_wp2_with fail
              go_ret3
              exact ⟨by rw [HN2.out]; rfl, hBw.trans (below_draws _ _ _)⟩
        | true =>
          have eA : ka = x := by simpa using hA
          cases hP : (kp == y) with
          | false =>
            have eP : ¬ kp = y := by simpa using hP
            cases hB : (kb == x) with
            | false =>
              have eB : ¬ kb = x := by simpa using hB
              have HN2 : Hid (getE (ends (l.take (k + 1))) (x, y) = none) := by
                show _ = _
                rw [HN.out]; simp [eP, eB]
              clear HN HFD eA eP eB
              go_wp2_with fail
              go_roundw
              case rel => exact ⟨k + 1, HLT.out, by go_num, HN2, hB3⟩
              case measure => have h := HLT.out; simp [intOf]; omega
            | true =>
              have eB : kb = x := by simpa using hB
              cases hQ : (kq == y) with
              | false =>
                have eQ : ¬ kq = y := by simpa using hQ
                have HN2 : Hid (getE (ends (l.take (k + 1))) (x, y) = none) := by
                  show _ = _
                  rw [HN.out]; simp [eP, eQ]
                clear HN HFD eA eP eB eQ
                go_wp2_with fail
                go_roundw
                case rel => exact ⟨k + 1, HLT.out, by go_num, HN2, hB3⟩
                case measure => have h := HLT.out; simp [intOf]; omega
              | true =>
                have eQ : kq = y := by simpa using hQ
                have HN2 : Hid (res = some (ka, kp)) := by
                  show _ = _
                  rw [HR.out, HFD.out (ka, kp) (by rw [HN.out]; simp [eP, eB, eQ])]
                clear HN HFD HR eA eP eB eQ
                go_wp2_with fail
                go_quiet (fail)
                go_wp2_with fail
                go_ret3
                exact ⟨by rw [HN2.out]; rfl, hBw.trans (below_draws _ _ _)⟩
          | true =>
            have eP : kp = y := by simpa using hP
            have HN2 : Hid (res = some (kb, kq)) := by
              show _ = _
              rw [HR.out, HFD.out (kb, kq) (by rw [HN.out]; simp [eA, eP])]
            clear HN HFD HR eA eP
            go_wp2_with fail
            go_quiet (fail)
            go_wp2_with fail
            go_ret3
            exact ⟨by rw [HN2.out]; rfl, hBw.trans (below_draws _ _ _)⟩
      · have hke : k = l.length := by have h := HK.out; omega
        have hkz : ¬ (k : Int) < (l.length : Int) := by omega
        have HN : Hid (res = none) := by
          show _ = _
          have h := HG.out
          rw [hke, List.take_length] at h
          rw [HR.out]; exact h
        have hB := below_step hb1 hbr
        clear hke hlt HK HG
        go_wp2_with fail
        go_ret3
        exact ⟨by rw [HN.out]; rfl, hB⟩
end
end Go.Proofs.Ytihgpllbgliplaa
