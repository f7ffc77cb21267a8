/- What the document's One and Same of wires, and the statements' Few, answer. -/
import Derived.Test.YtoedgnkoahcblaaWireMem
import Derived.Test.YtoedgnkoahcblaaQuiets
namespace Go.Proofs.Ytoedgnkoahcblaa
open Go.ChangeShapes Go.WideShapes Go.ChangeAt Go.RowKit O Wi
set_option linter.unusedVariables false
set_option linter.unusedSimpArgs false

theorem mem_takeW {α : Type} {L : List α} {k : Nat} {x : α} (hx : L[k]? = some x) {P : α → Prop} (h : ∀ l ∈ L.take k, P l) (hp : P x) : ∀ l ∈ L.take (k + 1), P l := by
  intro l hl
  rw [List.take_add_one, hx, List.mem_append] at hl
  rcases hl with hl | hl
  · exact h l hl
  · have : l = x := by simpa using hl
    rw [this]; exact hp
theorem take_eq_wr {A B : List Wr} {k : Nat} {r q : Wr} (ha : A[k]? = some r) (hb : B[k]? = some q) (h : A.take k = B.take k) (e : r = q) : A.take (k + 1) = B.take (k + 1) := by
  rw [List.take_add_one, List.take_add_one, ha, hb, h, e]
theorem boxW (w : World) (a b c : Value) (t : TypeId) : (w.alloc (.cells #[a, b, c] t)).cell? ⟨w.heap.size, 0, none⟩ = some a ∧ (w.alloc (.cells #[a, b, c] t)).cell? ⟨w.heap.size, 1, none⟩ = some b ∧ (w.alloc (.cells #[a, b, c] t)).cell? ⟨w.heap.size, 2, none⟩ = some c := by
  have h := World.news_of_block (heap_alloc_new w (.cells #[a, b, c] t))
  refine ⟨?_, ?_, ?_⟩
  · have := h 0 a rfl; rwa [Addr.add_lit] at this
  · have := h 1 b rfl; rwa [Addr.add_lit] at this
  · have := h 2 c rfl; rwa [Addr.add_lit] at this
theorem str_same {l m : List Int} (hl : Oct l) (hm : Oct m) : ((strOfNums l).toList == (strOfNums m).toList) = decide (l = m) := by
  rw [Bool.eq_iff_iff, beq_iff_eq, decide_eq_true_eq]
  constructor
  · intro h
    rw [ByteArray.toList_eq, ByteArray.toList_eq] at h
    refine strOfNums_inj hl hm ?_
    generalize strOfNums l = u at h
    generalize strOfNums m = v at h
    obtain ⟨⟨u⟩⟩ := u
    obtain ⟨⟨v⟩⟩ := v
    simp only at h
    rw [h]
  · intro h; rw [h]
section
variable (w : World) {a b : Option Addr} {c d : Nat} {A B : List Wr} {g g' : Option Nat}
set_option maxRecDepth 100000 in
set_option maxHeartbeats 4000000 in
theorem one14_any {p q : Wc} {v u : Wr} (hp : WireAt g w p v) (hq : WireAt g' w q u) :
    Calls Try.prog 15 #[vW p, vW q] w fun e w' => e = .returned (.bool (decide (v = u))) ∧ Below w.heap.size w w' := by
  obtain ⟨s, f, x, n, c⟩ := p
  obtain ⟨t, h, y, m, d⟩ := q
  obtain ⟨vs, vf, vb⟩ := v
  obtain ⟨us, uf, ub⟩ := u
  have e1 := hp.sw
  have e2 := hp.up
  have e3 := hp.n
  have k1 := hq.sw
  have k2 := hq.up
  have k3 := hq.n
  dsimp only at e1 e2 e3 k1 k2 k3
  subst e1; subst e2; subst e3; subst k1; subst k2; subst k3
  have R1 : Reads .u8 w x c vb := hp.R
  have R2 : Reads .u8 w y d ub := hq.R
  clear hp hq
  dsimp only [vW]
  have hss := str_same R1.oct R2.oct
  obtain ⟨a0, a1, a2⟩ := boxW w (.int .i64 s) (.bool f) (.slice x vb.length c) 25
  have hb1 := below_new w (.cells #[.int .i64 s, .bool f, .slice x vb.length c] 25)
  have hs1 : (w.alloc (.cells #[.int .i64 s, .bool f, .slice x vb.length c] 25)).heap.size = w.heap.size + 1 := by simp
  replace R1 := R1.later hb1
  replace R2 := R2.later hb1
  have hlt : w.heap.size < (w.alloc (.cells #[.int .i64 s, .bool f, .slice x vb.length c] 25)).heap.size := by simp
  obtain ⟨b0, b1, b2⟩ := boxW (w.alloc (.cells #[.int .i64 s, .bool f, .slice x vb.length c] 25)) (.int .i64 t) (.bool h) (.slice y ub.length d) 25
  have hb2 := below_new (w.alloc (.cells #[.int .i64 s, .bool f, .slice x vb.length c] 25)) (.cells #[.int .i64 t, .bool h, .slice y ub.length d] 25)
  rw [hs1] at b0 b1 b2
  replace a0 := (hb2.cell (p := ⟨w.heap.size, 0, none⟩) hlt).trans a0
  replace a1 := (hb2.cell (p := ⟨w.heap.size, 1, none⟩) hlt).trans a1
  replace a2 := (hb2.cell (p := ⟨w.heap.size, 2, none⟩) hlt).trans a2
  have r1 := run_str (R1.later hb2)
  have r2 := run_str (R2.later hb2)
  have hB := below_step hb1 hb2
  clear hb1 hb2 hs1 hlt R1 R2
  by_cases h0 : s = t
  case neg =>
    rw [decide_eq_false (fun e => h0 (by injection e))]
    have h0b : (s == t) = false := by simpa using h0
    go_enter Try.func15, Try.ntmps15
    go_wp2_with fail
    go_ret
    exact ⟨rfl, hB⟩
  subst h0
  by_cases h1 : f = h
  case neg =>
    rw [decide_eq_false (fun e => h1 (by injection e))]
    have h1b : (f == h) = false := by simpa using h1
    go_enter Try.func15, Try.ntmps15
    go_wp2_with fail
    go_ret
    exact ⟨rfl, hB⟩
  subst h1
  have hd : decide ((⟨s, f, vb⟩ : Wr) = ⟨s, f, ub⟩) = decide (vb = ub) := by
    rw [Bool.eq_iff_iff, decide_eq_true_eq, decide_eq_true_eq]
    exact ⟨fun e => by injection e, fun e => by rw [e]⟩
  rw [hd, ← hss]
  generalize strOfNums vb = S1 at r1 ⊢
  generalize strOfNums ub = S2 at r2 ⊢
  clear hd hss
  go_enter Try.func15, Try.ntmps15
  go_wp2_with fail
  go_ret
  exact ⟨rfl, hB⟩
set_option maxHeartbeats 2000000 in
theorem few14_any (V : Wires g w a c A) :
    Calls Try.prog 9 #[.slice a A.length c] w fun e w' => e = .returned (.bool (fewWB A)) ∧ w' = w := by
  have hmx := Nat.le_trans V.le V.max
  unfold maxLen at hmx
  by_cases h10 : 100 < A.length
  case pos =>
    have hz : (100 : Int) < (A.length : Int) := by omega
    have hf : fewWB A = false := by unfold fewWB; rw [decide_eq_false (by omega)]; rfl
    rw [hf]
    clear V
    go_enter Try.func9, Try.ntmps9
    go_wp2
    go_ret
    exact ⟨rfl, rfl⟩
  have hz : ¬ (100 : Int) < (A.length : Int) := by omega
  have HF : Hid ((∀ l ∈ A, l.b.length ≤ 300) → fewWB A = true) := fun h => (fewW_iff A).2 ⟨by omega, h⟩
  have HG : Hid (∀ l ∈ A, 300 < l.b.length → fewWB A = false) := fun l hl h => by
    cases g : fewWB A
    · rfl
    · have := ((fewW_iff A).1 g).2 l hl; omega
  generalize fewWB A = res at HF HG ⊢
  go_enter Try.func9, Try.ntmps9
  go_wp2_with fail
  go_loopw [3] (fun vi wr => ∃ k : Nat, Hid (k ≤ A.length) ∧ vi = .int .i64 (k : Nat) ∧ Hid (∀ l ∈ A.take k, l.b.length ≤ 300) ∧ wr = w) (fun vi _ => A.length - (intOf vi).toNat)
  case atStart => exact ⟨0, Nat.zero_le _, rfl, (show Hid _ from fun l hl => by simp at hl), rfl⟩
  case round =>
    obtain ⟨k, HK, rfl, HA, rfl⟩ := hrel
    by_cases hlt : k < A.length
    · have hkz : (k : Int) < (A.length : Int) := by omega
      obtain ⟨l, hl⟩ := getW hlt
      obtain ⟨b, o, x, m, rfl, hb, c0, c1, c2, hat⟩ := V.at hl
      have hlm := Nat.le_trans hat.R.le hat.R.max
      unfold maxLen at hlm
      have HLT : Hid (k + 1 ≤ A.length) := hlt
      have HM : Hid (l ∈ A) := List.mem_of_getElem? hl
      have HT : Hid (l.b.length ≤ 300 → ∀ r ∈ A.take (k + 1), r.b.length ≤ 300) := fun h => mem_takeW hl HA.out h
      clear hlt HK hl HA hat
      by_cases hq : 300 < l.b.length
      · have hqz : (300 : Int) < (l.b.length : Int) := by omega
        have HR : Hid (res = false) := HG.out l HM.out hq
        clear hq
        go_wp2_with fail
        go_ret
        exact ⟨ret_bool HR.out.symm, rfl⟩
      · have hqz : ¬ (300 : Int) < (l.b.length : Int) := by omega
        have HN : Hid _ := HT.out (by omega)
        clear hq
        go_wp2_with fail
        go_roundw
        case rel => exact ⟨k + 1, HLT.out, by go_num, HN, trivial⟩
        case measure => have h := HLT.out; simp [intOf]; omega
    · have hke : k = A.length := by have h := HK.out; omega
      have hkz : ¬ (k : Int) < (A.length : Int) := by omega
      have HR : Hid (res = true) := by
        refine HF.out ?_
        have h := HA.out
        rw [hke, List.take_length] at h
        exact h
      clear hke hlt HK HA
      go_wp2_with fail
      go_ret
      exact ⟨ret_bool HR.out.symm, rfl⟩
theorem cbw14 {w : World} {b o : Nat} {v : Value} (hl : b < w.heap.size) (h : w.cell? ⟨b, o, none⟩ = some v) : ∀ u : BW w, u.w.cell? ⟨b, o, none⟩ = some v := fun u => cell_bw (a := ⟨b, o, none⟩) hl h u
set_option maxRecDepth 100000 in
set_option maxHeartbeats 4000000 in
theorem same14_any (RA : Wires g w a c A) (RB : Wires g' w b d B) :
    Calls Try.prog 12 #[.slice a A.length c, .slice b B.length d] w fun e w' => e = .returned (.bool (decide (A = B))) ∧ Below w.heap.size w w' := by
  have hmx := Nat.le_trans RA.le RA.max
  have hmy := Nat.le_trans RB.le RB.max
  unfold maxLen at hmx hmy
  by_cases hlen : A.length = B.length
  case neg =>
    have hz : ((A.length : Int) != (B.length : Int)) = true := by rw [bne_iff_ne]; omega
    have hf : decide (A = B) = false := decide_eq_false (fun e => hlen (by rw [e]))
    rw [hf]
    clear RA RB hlen
    go_enter Try.func12, Try.ntmps12
    go_wp2
    go_ret
    exact ⟨rfl, Below.refl _ _⟩
  have hz : ((A.length : Int) != (B.length : Int)) = false := by rw [bne_eq_false_iff_eq]; omega
  have HT : Hid (A.take A.length = B.take A.length → decide (A = B) = true) := fun h => by
    rw [List.take_length, hlen, List.take_length] at h
    exact decide_eq_true h
  have HN : Hid (∀ (k : Nat) (r q : Wr), A[k]? = some r → B[k]? = some q → ¬ r = q → decide (A = B) = false) := fun k r q h1 h2 h3 => decide_eq_false (fun e => by
    rw [e] at h1
    rw [h1] at h2
    exact h3 (Option.some.inj h2))
  generalize decide (A = B) = res at HT HN ⊢
  have HL : Hid (A.length = B.length) := hlen
  have hlz : (A.length : Int) = (B.length : Int) := by omega
  clear hlen
  go_enter Try.func12, Try.ntmps12
  go_wp2_with fail
  go_loopw [5] (fun vi wr => ∃ k : Nat, Hid (k ≤ A.length) ∧ vi = .int .i64 (k : Nat) ∧ Hid (A.take k = B.take k) ∧ Below w.heap.size w wr) (fun vi _ => A.length - (intOf vi).toNat)
  case atStart => exact ⟨0, Nat.zero_le _, rfl, (show Hid _ from by show _ = _; simp), Below.refl _ _⟩
  case round =>
    obtain ⟨k, HK, rfl, HS, hbr⟩ := hrel
    by_cases hlt : k < A.length
    · have hkz : (k : Int) < (A.length : Int) := by omega
      have hkB : k < B.length := by have h := HL.out; omega
      have hky : (k : Int) < (B.length : Int) := by omega
      obtain ⟨r, hr⟩ := getW hlt
      obtain ⟨q, hq⟩ := getW hkB
      obtain ⟨b, o, x, m, rfl, hlb, p0, p1, p2, h1⟩ := (RA.later hbr).at hr
      obtain ⟨b2, o2, y, n, rfl, hlb2, q0, q1, q2, h2⟩ := (RB.later hbr).at hq
      have HLT : Hid (k + 1 ≤ A.length) := hlt
      have HY : Hid (decide (r = q) = true → A.take (k + 1) = B.take (k + 1)) := fun h => take_eq_wr hr hq HS.out (of_decide_eq_true h)
      have HZ : Hid (decide (r = q) = false → res = false) := fun h => HN.out k r q hr hq (of_decide_eq_false h)
      have p0 := cbw14 hlb p0
      have p1 := cbw14 hlb p1
      have p2 := cbw14 hlb p2
      have q0 := cbw14 hlb2 q0
      have q1 := cbw14 hlb2 q1
      have q2 := cbw14 hlb2 q2
      have cO := fun u : BW wr => calls_bw (p := u) (one14_any u.w (h1.later u.hb) (h2.later u.hb))
      dsimp only [vW] at cO
      clear hlt hkB HK hr hq HS hlb hlb2 h1 h2
      generalize decide (r = q) = e at cO HY HZ
      go_wp2_with fail
      refine wp_region_below (by kernel_rfl) (by kernel_rfl) ?_
      iterate 8 (quiet_step (fail))
      quiet_step ((go_at_call 15; exact cO _))
      repeat (quiet_step (fail))
      refine wpQuiet_nil ?_
      rintro _ ⟨bw, rfl⟩
      have hb6 := below_step hbr bw.hb
      clear cO p0 p1 p2 q0 q1 q2
      generalize bw.w = w6 at hb6 ⊢
      clear bw
      cases e with
      | true =>
        have HQ : Hid _ := HY.out rfl
        clear HY HZ
        go_wp2_with fail
        go_roundw
        case rel => exact ⟨k + 1, HLT.out, by go_num, HQ, hb6⟩
        case measure => have h := HLT.out; simp [intOf]; omega
      | false =>
        have HF : Hid (res = false) := HZ.out rfl
        clear HY HZ
        go_wp2_with fail
        go_ret
        exact ⟨ret_bool HF.out.symm, hb6⟩
    · have hke : k = A.length := by have h := HK.out; omega
      have hkz : ¬ (k : Int) < (A.length : Int) := by omega
      have HR : Hid (res = true) := by
        refine HT.out ?_
        have h := HS.out
        rw [hke] at h
        exact h
      clear hke hlt HK HS
      go_wp2_with fail
      go_ret
      exact ⟨ret_bool HR.out.symm, hbr⟩
end
end Go.Proofs.Ytoedgnkoahcblaa
