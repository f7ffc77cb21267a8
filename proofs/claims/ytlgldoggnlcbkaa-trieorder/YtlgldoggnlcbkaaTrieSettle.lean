/- What the code's settle does to a trie's memory. -/
import Derived.Test.YtlgldoggnlcbkaaTrieRaise
namespace Go.Proofs.Ytlgldoggnlcbkaa
open Go.ChangeShapes Go.WideShapes Go.ChangeAt Go.RowKit Tt
set_option linter.unusedVariables false
set_option linter.unusedSimpArgs false

/-- does a place's node stay? -/
def stays (m : Mm) (i : Nat) : Bool := decide (i = 0) || m.told i || (decide (m.kid i false ≠ 0) && decide (m.kid i true ≠ 0))
def settleM (m : Mm) (P : Pl) : Mm := if stays m (m.get P) = true then m else { (m.put P (max (m.kid (m.get P) false) (m.kid (m.get P) true))).drop (m.get P) with used := m.used - 1 }
theorem settle_used (m : Mm) (P : Pl) (x i : Nat) : ((m.put P x).drop i).used = m.used := by cases P <;> rfl
theorem ret0 {P : Program} {fn : Func} {R : Ending → World → Prop} {a : Act} {w : World} (h : fn.results = #[]) (hd : a.defers = []) (hR : R (.returned (.tuple #[])) w) : bodyPost P fn R .ret a w := bodyPost_ret (results_none h _ _ _) hd hR
section
set_option maxRecDepth 100000
set_option maxHeartbeats 1000000
variable {w : World} {B : Nat} {m : Mm} (h : Has w B (cellOf m)) (hm : okM m) {P : Pl} (hP : P.ok) (hu : m.used ≤ 1000)
include h hm hP hu
theorem settle_any (hpos : stays m (m.get P) = false → 0 < m.used) :
    Calls Try.prog 29 #[.pointer (some ⟨B, 0, none⟩), .pointer (some ⟨B, P.off, none⟩)] w fun e w' => e = .returned (.tuple #[]) ∧ Has w' B (cellOf (settleM m P)) ∧ Keeps (only B) w w' := by
  have hlt := h.lt
  have hi := hm P hP
  obtain ⟨cp, fp⟩ := h.place hP
  obtain ⟨i, hgi⟩ : ∃ i, m.get P = i := ⟨_, rfl⟩
  have HG : Hid (settleM m P = if stays m i = true then m else { (m.put P (max (m.kid i false) (m.kid i true))).drop i with used := m.used - 1 }) := by
    show settleM m P = _
    unfold settleM; rw [hgi]
  rw [hgi] at hi cp hpos
  obtain ⟨c0, c1, c2, c3, c4, c5⟩ := h.node hi
  have hi0 : (0 : Int) ≤ (i : Int) := by omega
  have hi1 : (i : Int) < 1001 := by omega
  have hn := below_new w (.cells #[.int .i64 (m.a i), .int .i64 (m.n i), .int .i64 (m.v i), .bool (m.told i), .int .i64 (m.kid i false : Nat), .int .i64 (m.kid i true : Nat)] 55)
  obtain ⟨T, hT⟩ : ∃ T, m.told i = T := ⟨_, rfl⟩
  obtain ⟨k0, hk0⟩ : ∃ k, m.kid i false = k := ⟨_, rfl⟩
  obtain ⟨k1, hk1⟩ : ∃ k, m.kid i true = k := ⟨_, rfl⟩
  have ST : stays m i = (decide (i = 0) || T || (decide (k0 ≠ 0) && decide (k1 ≠ 0))) := by unfold stays; rw [hT, hk0, hk1]
  rw [ST] at HG hpos
  rw [hk0, hk1] at HG
  rw [hT] at c3 hn
  rw [hk0] at c4 hn
  rw [hk1] at c5 hn
  have hk0m : k0 ≤ 1000 := hk0 ▸ hm (.kid i false) hi
  have hk1m : k1 ≤ 1000 := hk1 ▸ hm (.kid i true) hi
  clear hT hk0 hk1 ST
  have kn : Keeps (only B) w (w.alloc (.cells #[.int .i64 (m.a i), .int .i64 (m.n i), .int .i64 (m.v i), .bool T, .int .i64 (k0 : Nat), .int .i64 (k1 : Nat)] 55)) := Keeps.of_below hn
  by_cases z0 : i = 0
  · subst z0
    have HS : Hid (settleM m P = m) := by show _ = _; rw [HG.out, if_pos (by simp)]
    clear HG hpos
    go_enter Try.func29, Try.ntmps29
    go_wp2_with fail
    refine ret0 rfl rfl ?_
    exact ⟨rfl, by rw [HS.out]; exact h.later hn, kn⟩
  have e0 : ((i : Int) == 0) = false := by simpa using z0
  rw [decide_eq_false z0] at HG hpos
  clear z0
  cases T with
  | true =>
    have HS : Hid (settleM m P = m) := by show _ = _; rw [HG.out, if_pos (by simp)]
    clear HG hpos
    go_enter Try.func29, Try.ntmps29
    go_wp2_with fail
    refine ret0 rfl rfl ?_
    exact ⟨rfl, by rw [HS.out]; exact h.later hn, kn⟩
  | false =>
    by_cases y0 : k0 = 0
    · subst y0
      have HS : Hid (settleM m P = { (m.put P k1).drop i with used := m.used - 1 }) := by show _ = _; rw [HG.out, if_neg (by simp), Nat.zero_max]
      by_cases y1 : k1 = 0
      · subst y1
        have hu0 : 0 < m.used := hpos (by simp)
        have U1 := settle_used m P 0 i
        have hp := h.put hP 0
        have hwu : wrap64 ((m.used : Int) - 1) = (m.used : Int) - 1 := by unfold wrap64; omega
        have kp : Keeps (only B) w (w.setCell ⟨B, P.off, none⟩ (.int .i64 (0 : Nat))) := (Keeps.refl _ _).put _ _
        clear HG hpos
        go_enter Try.func29, Try.ntmps29
        go_wp2_with fail
        refine (drop_any (hp.later (below_new _ _)) hi).mono ?_
        rintro e w3 ⟨rfl, h3, k3⟩
        obtain ⟨r0, r1, r2, r3⟩ := h3.head
        obtain ⟨g0, g1, g2, g3⟩ := h3.headF
        rw [U1] at r3
        go_wp2_with fail
        go_end0
        have h4 := h3.setUsed (m.used - 1)
        rw [show ((m.used - 1 : Nat) : Int) = (m.used : Int) - 1 by omega] at h4
        exact ⟨rfl, by rw [HS.out]; exact h4, ((kp.after (below_new _ _)).then k3).put _ _⟩
      · have q1 : (0 : Int) < (k1 : Int) := by omega
        clear y1
        have hu0 : 0 < m.used := hpos (by simp)
        have U1 := settle_used m P k1 i
        have hp := h.put hP k1
        have hwu : wrap64 ((m.used : Int) - 1) = (m.used : Int) - 1 := by unfold wrap64; omega
        have kp : Keeps (only B) w (w.setCell ⟨B, P.off, none⟩ (.int .i64 (k1 : Nat))) := (Keeps.refl _ _).put _ _
        clear HG hpos
        go_enter Try.func29, Try.ntmps29
        go_wp2_with fail
        refine (drop_any (hp.later (below_new _ _)) hi).mono ?_
        rintro e w3 ⟨rfl, h3, k3⟩
        obtain ⟨r0, r1, r2, r3⟩ := h3.head
        obtain ⟨g0, g1, g2, g3⟩ := h3.headF
        rw [U1] at r3
        go_wp2_with fail
        go_end0
        have h4 := h3.setUsed (m.used - 1)
        rw [show ((m.used - 1 : Nat) : Int) = (m.used : Int) - 1 by omega] at h4
        exact ⟨rfl, by rw [HS.out]; exact h4, ((kp.after (below_new _ _)).then k3).put _ _⟩
    · by_cases y1 : k1 = 0
      · subst y1
        have HS : Hid (settleM m P = { (m.put P k0).drop i with used := m.used - 1 }) := by show _ = _; rw [HG.out, if_neg (by simp), Nat.max_zero]
        have e1 : ((k0 : Int) != 0) = true := by simpa using y0
        have q1 : (0 : Int) < (k0 : Int) := by omega
        clear y0
        have hu0 : 0 < m.used := hpos (by simp)
        have U1 := settle_used m P k0 i
        have hp := h.put hP k0
        have hwu : wrap64 ((m.used : Int) - 1) = (m.used : Int) - 1 := by unfold wrap64; omega
        have kp : Keeps (only B) w (w.setCell ⟨B, P.off, none⟩ (.int .i64 (k0 : Nat))) := (Keeps.refl _ _).put _ _
        clear HG hpos
        go_enter Try.func29, Try.ntmps29
        go_wp2_with fail
        refine (drop_any (hp.later (below_new _ _)) hi).mono ?_
        rintro e w3 ⟨rfl, h3, k3⟩
        obtain ⟨r0, r1, r2, r3⟩ := h3.head
        obtain ⟨g0, g1, g2, g3⟩ := h3.headF
        rw [U1] at r3
        go_wp2_with fail
        go_end0
        have h4 := h3.setUsed (m.used - 1)
        rw [show ((m.used - 1 : Nat) : Int) = (m.used : Int) - 1 by omega] at h4
        exact ⟨rfl, by rw [HS.out]; exact h4, ((kp.after (below_new _ _)).then k3).put _ _⟩
      · have HS : Hid (settleM m P = m) := by show _ = _; rw [HG.out, if_pos (by simp [y0, y1])]
        have e1 : ((k0 : Int) != 0) = true := by simpa using y0
        have e2 : ((k1 : Int) != 0) = true := by simpa using y1
        clear HG hpos y0 y1
        go_enter Try.func29, Try.ntmps29
        go_wp2_with fail
        refine ret0 rfl rfl ?_
        exact ⟨rfl, by rw [HS.out]; exact h.later hn, kn⟩
end
end Go.Proofs.Ytlgldoggnlcbkaa
