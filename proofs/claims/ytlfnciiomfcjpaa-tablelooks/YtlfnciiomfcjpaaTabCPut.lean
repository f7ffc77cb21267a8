/- What the code's Put answers where it may not; and the parts of it that are laid ahead. -/
import Derived.Test.YtlfnciiomfcjpaaTabDrop
namespace Go.Proofs.Ytlfnciiomfcjpaa
open Go.ChangeShapes Go.WideShapes Go.ChangeAt Go.RowKit Pk Tb R
set_option linter.unusedVariables false
set_option linter.unusedSimpArgs false

theorem mem_getDR {l : List Rl} {k : Nat} (h : k < l.length) : l.getD k default ∈ l := by
  rw [List.getD_eq_getElem?_getD, List.getElem?_eq_getElem h]; exact List.getElem_mem h
theorem ins_is : ∀ (l : List Vr) (t : Int) (r : Rl), insT l t r = l.take (l.findIdx fun v => decide (t < v.t)) ++ ⟨t, [r]⟩ :: l.drop (l.findIdx fun v => decide (t < v.t))
  | [], t, r => rfl
  | v :: l, t, r => by
    rw [List.findIdx_cons]
    by_cases h : t < v.t
    · rw [insT, if_pos h, decide_eq_true h]; rfl
    · rw [insT, if_neg h, decide_eq_false h, ins_is l t r]; rfl
theorem place_no {rs : List Rl} {r : Rl} (h : rs.findIdx (fun s => alike s r) = rs.length) : ∀ j, j < rs.length → alike (rs.getD j default) r = false := fun j hj => by
  have := List.findIdx_eq_length.1 h (rs.getD j default) (mem_getDR hj)
  exact this
theorem place_yes {rs : List Rl} {r : Rl} {k : Nat} (h : rs.findIdx (fun s => alike s r) = k) (hk : k < rs.length) : (∀ j, j < k → alike (rs.getD j default) r = false) ∧ alike (rs.getD k default) r = true := by
  obtain ⟨h1, h2⟩ := (List.findIdx_eq hk).1 h
  have e : ∀ j (hj : j < rs.length), rs.getD j default = rs[j] := fun j hj => by rw [List.getD_eq_getElem?_getD, List.getElem?_eq_getElem hj]; rfl
  exact ⟨fun j hj => by rw [e j (by omega)]; exact h2 j hj, by rw [e k hk]; exact h1⟩
set_option maxHeartbeats 2000000 in
theorem put_arg (w : World) {B : Nat} {a : Option Addr} {c : Nat} {l : List Vr} (V : Vers B w a c l) (hs : Sm l) (t m ra rn ri rp rk rt : Int) (hw : ∀ z ∈ fR ⟨ra, rn, ri, rp, rk, rt⟩, (Lit.int .i64 z).wf = true) (h : mayR ⟨ra, rn, ri, rp, rk, rt⟩ = false ∨ t < 1 ∨ 4095 < t) :
    Calls Try.prog 12 #[.slice a l.length c, .int .i64 t, .agg #[.int .i64 ra, .int .i64 rn, .int .i64 ri, .int .i64 rp, .int .i64 rk, .int .i64 rt], .int .i64 m] w fun e w' => ∃ (x : Option Addr) (k : Nat), e = .returned (.tuple #[.slice x (l, (1 : Int)).1.length k, .int .i64 (l, (1 : Int)).2]) ∧ Vers w.heap.size w' x k (l, (1 : Int)).1 ∧ Loose w' x (l, (1 : Int)).1 ∧ Below w.heap.size w w' := by
  by_cases htag : 1 ≤ t ∧ t ≤ 4095
  · have HTAG : Hid (decide (1 ≤ t ∧ t ≤ 4095) = true) := decide_eq_true htag
    have HOK : Hid (okR ra rn ri rp rk rt = false) := by
      rcases h with h1 | h1 | h1
      · exact h1
      · omega
      · omega
    clear h htag hw
    have hbT := below_new w (.cells #[.int .i64 t] 3)
    have hbR := below_new (w.alloc (.cells #[.int .i64 t] 3)) (.cells #[.int .i64 ra, .int .i64 rn, .int .i64 ri, .int .i64 rp, .int .i64 rk, .int .i64 rt] 28)
    have XT0 := Lies.new w [t] 3 rfl
    have XR0 := Lies.new (w.alloc (.cells #[.int .i64 t] 3)) [ra, rn, ri, rp, rk, rt] 28 rfl
    have hb0 : Below w.heap.size w ((w.alloc (.cells #[.int .i64 t] 3)).alloc (.cells #[.int .i64 ra, .int .i64 rn, .int .i64 ri, .int .i64 rp, .int .i64 rk, .int .i64 rt] 28)) := below_step hbT hbR
    have XT : Lies ((w.alloc (.cells #[.int .i64 t] 3)).alloc (.cells #[.int .i64 ra, .int .i64 rn, .int .i64 ri, .int .i64 rp, .int .i64 rk, .int .i64 rt] 28)) w.heap.size [t] := XT0.later hbR
    have XR : Lies ((w.alloc (.cells #[.int .i64 t] 3)).alloc (.cells #[.int .i64 ra, .int .i64 rn, .int .i64 ri, .int .i64 rp, .int .i64 rk, .int .i64 rt] 28)) (w.heap.size + 1) [ra, rn, ri, rp, rk, rt] := by have h := XR0; rwa [size_alloc1] at h
    have cC := copied_any ((w.alloc (.cells #[.int .i64 t] 3)).alloc (.cells #[.int .i64 ra, .int .i64 rn, .int .i64 ri, .int .i64 rp, .int .i64 rk, .int .i64 rt] 28)) (V.later hb0) hs
    have hl := hs.1
    clear hbT hbR XT0 XR0 V
    go_enter Try.func12, Try.ntmps12
    go_wp2_with fail
    refine cC.mono ?_
    clear cC
    rintro e w1 ⟨u, rfl, M1, hb1⟩
    replace M1 := M1.low hb0.size
    have XT1 := XT.later hb1
    have XR1 := XR.later hb1
    have hbA := below_step hb0 hb1
    obtain ⟨a1, c1, rfl, -⟩ := M1.vers
    obtain ⟨xr0, xr1, xr2, xr3, xr4, xr5⟩ := XR1.six
    have xt0 := XT1.cells 0 t rfl
    clear hb0 hb1 XT XR
    go_wp2_with fail
    refine (mayTag_any w1 t).mono ?_
    rintro e w1' ⟨rfl, rfl⟩
    rw [HTAG.out]
    have cM := ruMay_any ra rn ri rp rk rt w1'
    rw [HOK.out] at cM
    go_wp2_with fail
    refine cM.mono ?_
    clear cM
    rintro e w2 ⟨rfl, hb2⟩
    obtain ⟨a2, c2, e2, V2, L2⟩ := (M1.later hb2).vers
    cases e2
    have hbB := below_step hbA hb2
    clear xr0 xr1 xr2 xr3 xr4 xr5 xt0 hb2 XT1 XR1 M1 hbA
    go_wp2_with fail
    go_ret2
    exact ⟨_, _, rfl, V2, L2, hbB⟩
  · have HTAG : Hid (decide (1 ≤ t ∧ t ≤ 4095) = false) := decide_eq_false htag
    clear h htag hw
    have hbT := below_new w (.cells #[.int .i64 t] 3)
    have hbR := below_new (w.alloc (.cells #[.int .i64 t] 3)) (.cells #[.int .i64 ra, .int .i64 rn, .int .i64 ri, .int .i64 rp, .int .i64 rk, .int .i64 rt] 28)
    have XT0 := Lies.new w [t] 3 rfl
    have XR0 := Lies.new (w.alloc (.cells #[.int .i64 t] 3)) [ra, rn, ri, rp, rk, rt] 28 rfl
    have hb0 : Below w.heap.size w ((w.alloc (.cells #[.int .i64 t] 3)).alloc (.cells #[.int .i64 ra, .int .i64 rn, .int .i64 ri, .int .i64 rp, .int .i64 rk, .int .i64 rt] 28)) := below_step hbT hbR
    have XT : Lies ((w.alloc (.cells #[.int .i64 t] 3)).alloc (.cells #[.int .i64 ra, .int .i64 rn, .int .i64 ri, .int .i64 rp, .int .i64 rk, .int .i64 rt] 28)) w.heap.size [t] := XT0.later hbR
    have XR : Lies ((w.alloc (.cells #[.int .i64 t] 3)).alloc (.cells #[.int .i64 ra, .int .i64 rn, .int .i64 ri, .int .i64 rp, .int .i64 rk, .int .i64 rt] 28)) (w.heap.size + 1) [ra, rn, ri, rp, rk, rt] := by have h := XR0; rwa [size_alloc1] at h
    have cC := copied_any ((w.alloc (.cells #[.int .i64 t] 3)).alloc (.cells #[.int .i64 ra, .int .i64 rn, .int .i64 ri, .int .i64 rp, .int .i64 rk, .int .i64 rt] 28)) (V.later hb0) hs
    have hl := hs.1
    clear hbT hbR XT0 XR0 V
    go_enter Try.func12, Try.ntmps12
    go_wp2_with fail
    refine cC.mono ?_
    clear cC
    rintro e w1 ⟨u, rfl, M1, hb1⟩
    replace M1 := M1.low hb0.size
    have XT1 := XT.later hb1
    have XR1 := XR.later hb1
    have hbA := below_step hb0 hb1
    obtain ⟨a1, c1, rfl, -⟩ := M1.vers
    obtain ⟨xr0, xr1, xr2, xr3, xr4, xr5⟩ := XR1.six
    have xt0 := XT1.cells 0 t rfl
    clear hb0 hb1 XT XR
    go_wp2_with fail
    refine (mayTag_any w1 t).mono ?_
    rintro e w1' ⟨rfl, rfl⟩
    rw [HTAG.out]
    obtain ⟨a2, c2, e2, V2, L2⟩ := M1.vers
    cases e2
    clear xr0 xr1 xr2 xr3 xr4 xr5 xt0 XT1 XR1 M1
    go_wp2_with fail
    go_ret2
    exact ⟨_, _, rfl, V2, L2, hbA⟩
end Go.Proofs.Ytlfnciiomfcjpaa
