/- Packets and their bytes, as plain numbers and lists: what Put and Get of package packet come to; no program in sight. -/
import Derived.Test.YtgpopdincipnaaaDoorOctLists
import Derived.Test.YtgpopdincipnaaaDoorOctSums
import Derived.Test.YtgpopdincipnaaaDoorOctPlain
namespace Go.Proofs.YtgpopdincipnaaaDoor.O
open Go
set_option linter.unusedVariables false
set_option linter.unusedSimpArgs false

/-- may a packet be? -/
def okPk (i s d t g : Int) : Bool := decide (0 ≤ i ∧ i ≤ 4294967295) && decide (0 ≤ s ∧ s ≤ 4294967295) && decide (0 ≤ d ∧ d ≤ 4294967295) && decide (0 ≤ t ∧ t ≤ 16) && decide (0 ≤ g ∧ g ≤ 4095)
theorem okPk_of {i s d t g : Int} (h : okPk i s d t g = true) : (0 ≤ i ∧ i ≤ 4294967295) ∧ (0 ≤ s ∧ s ≤ 4294967295) ∧ (0 ≤ d ∧ d ≤ 4294967295) ∧ (0 ≤ t ∧ t ≤ 16) ∧ (0 ≤ g ∧ g ≤ 4095) := by
  unfold okPk at h
  simp only [Bool.and_eq_true, decide_eq_true_eq] at h
  exact ⟨h.1.1.1.1, h.1.1.1.2, h.1.1.2, h.1.2, h.2⟩
theorem okPk_mk {i s d t g : Int} (h1 : 0 ≤ i ∧ i ≤ 4294967295) (h2 : 0 ≤ s ∧ s ≤ 4294967295) (h3 : 0 ≤ d ∧ d ≤ 4294967295) (h4 : 0 ≤ t ∧ t ≤ 16) (h5 : 0 ≤ g ∧ g ≤ 4095) : okPk i s d t g = true := by
  unfold okPk; simp [h1, h2, h3, h4, h5]
theorem okPk_no {i s d t g : Int} (h : ¬ ((0 ≤ i ∧ i ≤ 4294967295) ∧ (0 ≤ s ∧ s ≤ 4294967295) ∧ (0 ≤ d ∧ d ≤ 4294967295) ∧ (0 ≤ t ∧ t ≤ 16) ∧ (0 ≤ g ∧ g ≤ 4095))) : okPk i s d t g = false := by
  cases h' : okPk i s d t g
  · rfl
  · exact absurd (okPk_of h') h
theorem okP_four {n : Int} (h : 0 ≤ n ∧ n ≤ 4294967295) : okP n 4 = true := okP_mk (by decide) h.1 (by show n < 4294967296; omega)
theorem okP_two {n : Int} (h : 0 ≤ n ∧ n ≤ 65535) : okP n 2 = true := okP_mk (by decide) h.1 (by show n < 65536; omega)
/-- the first 16 bytes -/
def bodyL (i s d t g : Int) : List Int := pallL [i, s, d, t, g] [4, 4, 4, 2, 2]
theorem body_ok {i s d t g : Int} (h : okPk i s d t g = true) : pallE [i, s, d, t, g] [4, 4, 4, 2, 2] = 0 ∧ bodyL i s d t g = putL i 4 ++ (putL s 4 ++ (putL d 4 ++ (putL t 2 ++ putL g 2))) := by
  obtain ⟨h1, h2, h3, h4, h5⟩ := okPk_of h
  have e : paE [i, s, d, t, g] [4, 4, 4, 2, 2] = 0 := by
    simp only [paE]
    rw [if_pos (putE_yes (okP_four h1)), if_pos (putE_yes (okP_four h2)), if_pos (putE_yes (okP_four h3)), if_pos (putE_yes (okP_two (by omega))), if_pos (putE_yes (okP_two (by omega)))]
  obtain ⟨e1, e2⟩ := pa_end (l := [i, s, d, t, g]) (ms := [4, 4, 4, 2, 2]) rfl e
  exact ⟨e1, by unfold bodyL; rw [e2]; simp [paL]⟩
theorem body_len {i s d t g : Int} (h : okPk i s d t g = true) : (bodyL i s d t g).length = 16 := by
  obtain ⟨h1, h2, h3, h4, h5⟩ := okPk_of h
  rw [(body_ok h).2]
  simp only [List.length_append]
  rw [putL_len (okP_four h1), putL_len (okP_four h2), putL_len (okP_four h3), putL_len (okP_two (by omega)), putL_len (okP_two (by omega))]
  rfl
theorem body_oct (i s d t g : Int) : Oct (bodyL i s d t g) := pallL_oct _ _
def pputL (i s d t g : Int) : List Int := if okPk i s d t g = true then bodyL i s d t g ++ putL (sumN (bodyL i s d t g)) 2 else []
def pputE (i s d t g : Int) : Int := if okPk i s d t g = true then 0 else 1
theorem pput_yes {i s d t g : Int} (h : okPk i s d t g = true) : pputL i s d t g = bodyL i s d t g ++ putL (sumN (bodyL i s d t g)) 2 ∧ pputE i s d t g = 0 := by
  unfold pputL pputE; rw [if_pos h, if_pos h]; exact ⟨rfl, rfl⟩
theorem pput_no {i s d t g : Int} (h : okPk i s d t g = false) : pputL i s d t g = [] ∧ pputE i s d t g = 1 := by
  unfold pputL pputE; rw [if_neg (by simp [h]), if_neg (by simp [h])]; exact ⟨rfl, rfl⟩
theorem pput_len {i s d t g : Int} (h : okPk i s d t g = true) : (pputL i s d t g).length = 18 := by
  rw [(pput_yes h).1, List.length_append, body_len h, putL_len (ok_sum (body_oct _ _ _ _ _))]; rfl
theorem pput_oct (i s d t g : Int) : Oct (pputL i s d t g) := by
  unfold pputL
  split
  · exact oct_append (body_oct _ _ _ _ _) (putL_bd _ _)
  · intro z hz; simp at hz
theorem pput_len_le (i s d t g : Int) : (pputL i s d t g).length ≤ 18 := by
  cases h : okPk i s d t g
  · rw [(pput_no h).1]; simp
  · rw [pput_len h]; exact Nat.le_refl _

/-! ### Get -/
theorem gaE_len (ms : List Int) (hm : ∀ m ∈ ms, okW m = true) (b : List Int) : gaE b ms = if b.length < gaK ms then 3 else 0 := by
  induction ms generalizing b with
  | nil => simp [gaE, gaK]
  | cons m ms ih =>
    have h1 := hm m (by simp)
    have hw := okW_of h1
    have hi := ih (fun x hx => hm x (by simp [hx])) (b.drop m.toNat)
    have eK : gaK (m :: ms) = m.toNat + gaK ms := rfl
    have eL : (b.drop m.toNat).length = b.length - m.toNat := List.length_drop
    simp only [gaE]
    by_cases h : (b.length : Int) < m
    · rw [getE_more h1 h, if_neg (by decide), if_pos (by rw [eK]; omega)]
    · rw [getE_ok h1 (by omega), if_pos rfl, hi]
      by_cases h2 : b.length < gaK (m :: ms)
      · rw [if_pos h2, if_pos (by rw [eL]; omega)]
      · rw [if_neg h2, if_neg (by rw [eL]; omega)]
theorem gaE6 (b : List Int) : gaE b [4, 4, 4, 2, 2, 2] = if b.length < 18 then 3 else 0 := gaE_len [4, 4, 4, 2, 2, 2] (by decide) b
theorem gaE5 (b : List Int) : gaE b [4, 4, 4, 2, 2] = if b.length < 16 then 3 else 0 := gaE_len [4, 4, 4, 2, 2] (by decide) b
theorem gaL5 (b : List Int) : gaL b [4, 4, 4, 2, 2] = [getN b 4, getN (b.drop 4) 4, getN (b.drop 8) 4, getN (b.drop 12) 2, getN (b.drop 14) 2] := by
  simp [gaL, List.drop_drop]
theorem gaL6 (b : List Int) : gaL b [4, 4, 4, 2, 2, 2] = [getN b 4, getN (b.drop 4) 4, getN (b.drop 8) 4, getN (b.drop 12) 2, getN (b.drop 14) 2, getN (b.drop 16) 2] := by
  simp [gaL, List.drop_drop]
theorem all6 {b : List Int} (h : b.length = 18) : gaE b [4, 4, 4, 2, 2, 2] = 0 ∧ gallL b [4, 4, 4, 2, 2, 2] = [getN b 4, getN (b.drop 4) 4, getN (b.drop 8) 4, getN (b.drop 12) 2, getN (b.drop 14) 2, getN (b.drop 16) 2] ∧ gallK b [4, 4, 4, 2, 2, 2] = 18 := by
  have e : gaE b [4, 4, 4, 2, 2, 2] = 0 := by rw [gaE6, if_neg (by omega)]
  obtain ⟨h1, h2⟩ := ga_end e
  exact ⟨e, h1.trans (gaL6 b), h2⟩
theorem all6_long {b : List Int} (h : 18 ≤ b.length) : gaE b [4, 4, 4, 2, 2, 2] = 0 ∧ gallK b [4, 4, 4, 2, 2, 2] = 18 := by
  have e : gaE b [4, 4, 4, 2, 2, 2] = 0 := by rw [gaE6, if_neg (by omega)]
  exact ⟨e, (ga_end e).2⟩
theorem all6_short {b : List Int} (h : b.length < 18) : gaE b [4, 4, 4, 2, 2, 2] = 3 := by rw [gaE6, if_pos h]
theorem all5 {b : List Int} (h : b.length = 18) : gaE b [4, 4, 4, 2, 2] = 0 ∧ gallL b [4, 4, 4, 2, 2] = [getN b 4, getN (b.drop 4) 4, getN (b.drop 8) 4, getN (b.drop 12) 2, getN (b.drop 14) 2] ∧ gallK b [4, 4, 4, 2, 2] = 16 := by
  have e : gaE b [4, 4, 4, 2, 2] = 0 := by rw [gaE5, if_neg (by omega)]
  obtain ⟨h1, h2⟩ := ga_end e
  exact ⟨e, h1.trans (gaL5 b), h2⟩
/-- may what stands there be? -/
def okGot (b : List Int) : Bool := okPk (getN b 4) (getN (b.drop 4) 4) (getN (b.drop 8) 4) (getN (b.drop 12) 2) (getN (b.drop 14) 2)
def pgE (b : List Int) : Int := if b.length < 18 then 3 else if 18 < b.length then 2 else if sumN b = 0 then (if okGot b = true then 0 else 2) else 4
def pgF (b : List Int) (j : Nat) (m : Int) : Int := if pgE b = 0 then getN (b.drop j) m else 0
theorem pgE_short {b : List Int} (h : b.length < 18) : pgE b = 3 := by unfold pgE; rw [if_pos h]
theorem pgE_long {b : List Int} (h : 18 < b.length) : pgE b = 2 := by unfold pgE; rw [if_neg (by omega), if_pos h]
theorem pgE_sum {b : List Int} (h : b.length = 18) (hs : sumN b ≠ 0) : pgE b = 4 := by unfold pgE; rw [if_neg (by omega), if_neg (by omega), if_neg hs]
theorem pgE_form {b : List Int} (h : b.length = 18) (hs : sumN b = 0) (hk : okGot b = false) : pgE b = 2 := by unfold pgE; rw [if_neg (by omega), if_neg (by omega), if_pos hs, if_neg (by simp [hk])]
theorem pgE_ok {b : List Int} (h : b.length = 18) (hs : sumN b = 0) (hk : okGot b = true) : pgE b = 0 := by unfold pgE; rw [if_neg (by omega), if_neg (by omega), if_pos hs, if_pos hk]
theorem pgE_zero {b : List Int} (h : pgE b = 0) : b.length = 18 ∧ sumN b = 0 ∧ okGot b = true := by
  unfold pgE at h
  split at h
  · cases h
  · split at h
    · cases h
    · split at h
      · split at h
        · rename_i h1 h2 h3 h4; exact ⟨by omega, h3, h4⟩
        · cases h
      · cases h
theorem pgF_ok {b : List Int} (h : pgE b = 0) (j : Nat) (m : Int) : pgF b j m = getN (b.drop j) m := by unfold pgF; rw [if_pos h]
theorem pgF_no {b : List Int} (h : pgE b ≠ 0) (j : Nat) (m : Int) : pgF b j m = 0 := by unfold pgF; rw [if_neg h]
theorem got_wf {b : List Int} (h : Oct b) (j : Nat) (m : Int) : 0 ≤ getN (b.drop j) m ∧ getN (b.drop j) m < 4294967296 := getN_bd (oct_drop h j) m

/-! ### there and back -/
theorem put_got {i s d t g : Int} (h : okPk i s d t g = true) : pgE (pputL i s d t g) = 0 ∧ getN (pputL i s d t g) 4 = i ∧ getN ((pputL i s d t g).drop 4) 4 = s ∧ getN ((pputL i s d t g).drop 8) 4 = d ∧ getN ((pputL i s d t g).drop 12) 2 = t ∧ getN ((pputL i s d t g).drop 14) 2 = g := by
  have hl := pput_len h
  have hs : sumN (pputL i s d t g) = 0 := by
    rw [(pput_yes h).1]
    exact sum_append (body_oct _ _ _ _ _) (by rw [body_len h])
  obtain ⟨_, g2, _⟩ := all_back (body_ok h).1 (putL (sumN (bodyL i s d t g)) 2)
  have e : pallL [i, s, d, t, g] [4, 4, 4, 2, 2] ++ putL (sumN (bodyL i s d t g)) 2 = pputL i s d t g := (pput_yes h).1.symm
  rw [e, (all5 hl).2.1] at g2
  simp only [List.cons.injEq, and_true] at g2
  obtain ⟨e1, e2, e3, e4, e5⟩ := g2
  refine ⟨pgE_ok hl hs ?_, e1, e2, e3, e4, e5⟩
  unfold okGot
  rw [e1, e2, e3, e4, e5]
  exact h
theorem got_put {b : List Int} (ho : Oct b) (h : pgE b = 0) : bodyL (getN b 4) (getN (b.drop 4) 4) (getN (b.drop 8) 4) (getN (b.drop 12) 2) (getN (b.drop 14) 2) = b.take 16 := by
  obtain ⟨hl, _, _⟩ := pgE_zero h
  obtain ⟨_, h2⟩ := got_back ho (all5 hl).1
  rw [gaL5] at h2
  exact h2
theorem last_two {b : List Int} (ho : Oct b) (hl : b.length = 18) (hs : sumN b = 0) : putL (sumN (b.take 16)) 2 = b.drop 16 ∨ (b.getD 16 0 = 255 ∧ b.getD 17 0 = 255) := by
  have h16 : (b.take 16).length = 16 := by simp; omega
  have ho16 : Oct (b.take 16) := fun z hz => ho z (List.mem_of_mem_take hz)
  obtain ⟨t0, t1⟩ := (sum_zero ho).1 hs
  rw [hl] at t0 t1
  have et : tot b 18 = tot (b.take 16) 16 + b.getD 16 0 * 256 + b.getD 17 0 := by
    rw [tot_odd (by decide), tot_even (by decide)]
    have := tot_append (b.take 16) (b.drop 16) 16 (by omega)
    rw [List.take_append_drop] at this
    rw [this]
  have hx := ho.at 16
  have hy := ho.at 17
  have hT := (tot_bd ho16 16).1
  have hS : sumN (b.take 16) = 65535 - fo (tot (b.take 16) 16) := by unfold sumN; rw [h16]
  have hb := sumN_bd ho16
  have ed : b.drop 16 = [b.getD 16 0, b.getD 17 0] := by
    rw [List.drop_eq_getElem_cons (show 16 < b.length by omega), List.drop_eq_getElem_cons (show 17 < b.length by omega), List.drop_eq_nil_of_le (by omega), getD_el (show 16 < b.length by omega), getD_el (show 17 < b.length by omega)]
  have ep : putL (sumN (b.take 16)) 2 = [sumN (b.take 16) / 256 % 256, sumN (b.take 16) % 256] := by
    rw [putL_yes (ok_sum ho16)]
    show digs (sumN (b.take 16)) 2 = _
    rw [digs2, Int.ediv_one]
  rw [ed, ep]
  obtain ⟨S, eS⟩ : ∃ S, sumN (b.take 16) = S := ⟨_, rfl⟩
  obtain ⟨x, ex⟩ : ∃ S, b.getD 16 0 = S := ⟨_, rfl⟩
  obtain ⟨y, ey⟩ : ∃ S, b.getD 17 0 = S := ⟨_, rfl⟩
  rw [eS] at hS hb ⊢
  rw [ex] at et hx ⊢
  rw [ey] at et hy ⊢
  rw [et] at t0 t1
  clear et ed ep
  generalize tot (b.take 16) 16 = T at *
  have key : S = x * 256 + y ∨ (x = 255 ∧ y = 255) := by
    unfold fo at hS
    split at hS <;> omega
  rcases key with h | h
  · left
    simp only [List.cons.injEq, and_true]
    omega
  · exact .inr h

/-! ### fields where they stand -/
theorem app_take {l r : List Int} {n : Nat} (h : l.length = n) : (l ++ r).take n = l := by subst h; simp
theorem app_drop {l r : List Int} {n : Nat} (h : l.length = n) : (l ++ r).drop n = r := by subst h; simp
theorem pput_parts {i s d t g : Int} (h : okPk i s d t g = true) : (pputL i s d t g).take 16 = bodyL i s d t g ∧ (pputL i s d t g).take 4 = putL i 4 ∧ ((pputL i s d t g).drop 8).take 4 = putL d 4 ∧ ((pputL i s d t g).drop 14).take 2 = putL g 2 ∧
    (pputL i s d t g).take 14 = putL i 4 ++ (putL s 4 ++ (putL d 4 ++ putL t 2)) ∧ (pputL i s d t g).drop 16 = putL (sumN (bodyL i s d t g)) 2 := by
  obtain ⟨h1, h2, h3, h4, h5⟩ := okPk_of h
  have l1 : (putL i 4).length = 4 := putL_len (okP_four h1)
  have l2 : (putL s 4).length = 4 := putL_len (okP_four h2)
  have l3 : (putL d 4).length = 4 := putL_len (okP_four h3)
  have l4 : (putL t 2).length = 2 := putL_len (okP_two (by omega))
  have l5 : (putL g 2).length = 2 := putL_len (okP_two (by omega))
  have hb := body_len h
  have e := (pput_yes h).1
  have e2 := (body_ok h).2
  refine ⟨by rw [e]; exact app_take hb, ?_, ?_, ?_, ?_, by rw [e]; exact app_drop hb⟩
  all_goals
    rw [e, e2]
    simp only [List.append_assoc]
  · exact app_take l1
  · rw [← List.append_assoc, app_drop (n := 8) (by simp [l1, l2])]
    exact app_take l3
  · rw [← List.append_assoc, ← List.append_assoc, ← List.append_assoc, app_drop (n := 14) (by simp [l1, l2, l3, l4])]
    exact app_take l5
  · rw [← List.append_assoc, ← List.append_assoc, ← List.append_assoc, app_take (n := 14) (by simp [l1, l2, l3, l4])]
    simp only [List.append_assoc]
theorem body_inj {i s d t g i' s' d' t' g' : Int} (h : okPk i s d t g = true) (h' : okPk i' s' d' t' g' = true) (e : bodyL i s d t g = bodyL i' s' d' t' g') : i = i' ∧ s = s' ∧ d = d' ∧ t = t' ∧ g = g' := by
  obtain ⟨_, g2, _⟩ := all_back (body_ok h).1 []
  obtain ⟨_, k2, _⟩ := all_back (body_ok h').1 []
  have e' : pallL [i, s, d, t, g] [4, 4, 4, 2, 2] = pallL [i', s', d', t', g'] [4, 4, 4, 2, 2] := e
  rw [e'] at g2
  have := g2.symm.trans k2
  simp only [List.cons.injEq, and_true] at this
  exact this
theorem tot_body {i s d t g g' : Int} (h : okPk i s d t g = true) (h' : okPk i s d t g' = true) : tot (bodyL i s d t g) 16 - g = tot (bodyL i s d t g') 16 - g' := by
  obtain ⟨h1, h2, h3, h4, h5⟩ := okPk_of h
  obtain ⟨_, _, _, _, h6⟩ := okPk_of h'
  have l1 : (putL i 4).length = 4 := putL_len (okP_four h1)
  have l2 : (putL s 4).length = 4 := putL_len (okP_four h2)
  have l3 : (putL d 4).length = 4 := putL_len (okP_four h3)
  have l4 : (putL t 2).length = 2 := putL_len (okP_two (by omega))
  have key : ∀ x : Int, 0 ≤ x ∧ x ≤ 4095 → okPk i s d t x = true → tot (bodyL i s d t x) 16 = tot (putL i 4 ++ (putL s 4 ++ (putL d 4 ++ putL t 2))) 14 + x := by
    intro x hx hk
    have ep : putL x 2 = [x / 256 % 256, x % 256] := by
      rw [putL_yes (okP_two (by omega))]
      show digs x 2 = _
      rw [digs2, Int.ediv_one]
    have e : bodyL i s d t x = (putL i 4 ++ (putL s 4 ++ (putL d 4 ++ putL t 2))) ++ [x / 256 % 256, x % 256] := by
      rw [(body_ok hk).2, ep]; simp only [List.append_assoc]
    have hl : (putL i 4 ++ (putL s 4 ++ (putL d 4 ++ putL t 2))).length = 14 := by simp [l1, l2, l3, l4]
    generalize putL i 4 ++ (putL s 4 ++ (putL d 4 ++ putL t 2)) = L at *
    rw [e, tot_odd (by decide), tot_even (by decide), tot_append _ _ _ (by omega)]
    have g0 : (L ++ [x / 256 % 256, x % 256]).getD 14 0 = x / 256 % 256 := by simp [List.getD, List.getElem?_append_right, hl]
    have g1 : (L ++ [x / 256 % 256, x % 256]).getD 15 0 = x % 256 := by simp [List.getD, List.getElem?_append_right, hl]
    rw [g0, g1]
    omega
  rw [key g h5 h, key g' h6 h']
  omega
theorem sum_tag {i s d t g g' : Int} (h : okPk i s d t g = true) (h' : okPk i s d t g' = true) (e : sumN (bodyL i s d t g) = sumN (bodyL i s d t g')) : g = g' := by
  have k := tot_body h h'
  obtain ⟨_, _, _, _, h5⟩ := okPk_of h
  obtain ⟨_, _, _, _, h6⟩ := okPk_of h'
  have b1 := (tot_bd (body_oct i s d t g) 16).1
  have b2 := (tot_bd (body_oct i s d t g') 16).1
  unfold sumN at e
  rw [body_len h, body_len h'] at e
  unfold fo at e
  split at e <;> split at e <;> omega
end Go.Proofs.YtgpopdincipnaaaDoor.O
