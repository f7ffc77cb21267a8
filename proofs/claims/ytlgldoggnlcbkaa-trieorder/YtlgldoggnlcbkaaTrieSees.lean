/- The code's way down and a tree: the last that is told of on it is the longest that has the address. -/
import Derived.Test.YtlgldoggnlcbkaaTrieDown
import Derived.Test.YtlgldoggnlcbkaaTrieDo
namespace Go.Proofs.Ytlgldoggnlcbkaa
open Tt
set_option linter.unusedVariables false
set_option linter.unusedSimpArgs false

theorem last_cons (m : Mm) (i : Nat) (L : List Nat) : lastT m (i :: L) = (lastT m L).or (if m.told i = true then some i else none) := by
  unfold lastT
  rw [List.filter_cons]
  cases h : m.told i
  · simp
  · simp only [if_true]
    cases hl : List.filter (fun i => m.told i) L with
    | nil => rfl
    | cons j l => simp [List.getLast?_cons]
theorem short {m : Mm} {t : Tr} : ∀ {i : Nat} {ids : List Nat}, TreeAt m i t ids → ∀ x ∈ nodes t, x.length ≤ 32 := by
  induction t with
  | nil => intro i ids _ x hx; cases hx
  | node k v l r ihl ihr =>
    intro i ids h x hx
    obtain ⟨nd, il, ir, hl, hr, _⟩ := treeAt_node.1 h
    simp only [nodes, List.mem_cons, List.mem_append] at hx
    rcases hx with rfl | hx | hx
    · have := nd_len nd
      have := (may_bd (a := m.a i) (n := m.n i) nd.may).2.1
      omega
    · exact ihl hl x hx
    · exact ihr hr x hx
theorem sees {m : Mm} (addr : Int) {t : Tr} : ∀ {i : Nat} {ids : List Nat}, TreeAt m i t ids → Ok t → ∃ L, Hav m addr i L ∧ (∀ x ∈ L, x ∈ ids ∧ may (m.pre x) = true) ∧ ∀ best, findT t (bl addr 32) best = ((lastT m L).map (fun x => mE (m.ent x))).or best := by
  induction t with
  | nil =>
    rintro i ids ⟨rfl, rfl⟩ _
    exact ⟨[], .nil, (fun x hx => by cases hx), fun best => rfl⟩
  | node k v l r ihl ihr =>
    intro i ids h ok
    have hsh := short h
    obtain ⟨nd, il, ir, hl, hr, rfl⟩ := treeAt_node.1 h
    obtain ⟨hv, okl, okr, ol, or⟩ := ok
    have hiff := has_iff (a := m.a i) (n := m.n i) addr nd.may
    have hkey : kp (m.a i) (m.n i) = k := nd.key
    rw [hkey] at hiff
    have hlen := nd_len nd
    cases hh : M.hasB (m.a i) (m.n i) addr with
    | false =>
      refine ⟨[], .no nd.ne nd.le hh, (fun x hx => by cases hx), fun best => ?_⟩
      have : ¬ k <+: bl addr 32 := fun e => by rw [hiff.2 e] at hh; cases hh
      simp only [findT]
      rw [if_neg this]
      rfl
    | true =>
      have hpre := hiff.1 hh
      have own1 : ∀ best, (own k v).head?.or best = ((if m.told i = true then some i else none).map (fun x => mE (m.ent x))).or best := by
        intro best
        rw [nd.told]
        cases v with
        | none => rfl
        | some x =>
          have e : mE (m.ent i) = (k, x) := by show (kq (m.pre i), m.v i) = _; rw [nd.key, nd.val x rfl]
          simp [own, e]
      have hside : side (addr, 0) (m.n i) = decide (M.bt addr (k.length : Int) = 1) := by unfold side; rw [← hlen]
      have fin : ∀ (L : List Nat) (c : Tr), (∀ best, findT c (bl addr 32) best = ((lastT m L).map (fun x => mE (m.ent x))).or best) → ∀ best, findT c (bl addr 32) ((own k v).head?.or best) = ((lastT m (i :: L)).map (fun x => mE (m.ent x))).or best := by
        intro L c hc best
        rw [hc, own1, last_cons]
        cases lastT m L <;> simp
      by_cases h32 : k.length < 32
      · have hb32 : bitAt (bl addr 32) k.length = decide (M.bt addr (k.length : Int) = 1) := bl_bit addr 32 k.length h32
        have hlt : k.length < (bl addr 32).length := by rw [bl_len]; exact h32
        cases hs : side (addr, 0) (m.n i) with
        | true =>
          obtain ⟨L, g1, g2, g3⟩ := ihr hr or
          refine ⟨i :: L, .go nd.ne nd.le hh (by rw [hs]; exact g1), fun x hx => ?_, fun best => ?_⟩
          · rcases List.mem_cons.1 hx with rfl | hx
            · exact ⟨by simp, nd.may⟩
            · exact ⟨by simp [(g2 x hx).1], (g2 x hx).2⟩
          · simp only [findT]
            rw [if_pos hpre, if_pos hlt, if_pos (by rw [hb32, ← hside, hs])]
            exact fin L r g3 best
        | false =>
          obtain ⟨L, g1, g2, g3⟩ := ihl hl ol
          refine ⟨i :: L, .go nd.ne nd.le hh (by rw [hs]; exact g1), fun x hx => ?_, fun best => ?_⟩
          · rcases List.mem_cons.1 hx with rfl | hx
            · exact ⟨by simp, nd.may⟩
            · exact ⟨by simp [(g2 x hx).1], (g2 x hx).2⟩
          · simp only [findT]
            rw [if_pos hpre, if_pos hlt, if_neg (by rw [hb32, ← hside, hs]; decide)]
            exact fin L l g3 best
      · have nl : l = .nil := by
          cases l with
          | nil => rfl
          | node k' v' a b =>
            have h1 := (okl k' (by simp [nodes])).length_le
            have h2 := hsh k' (by simp [nodes])
            simp at h1
            omega
        have nr : r = .nil := by
          cases r with
          | nil => rfl
          | node k' v' a b =>
            have h1 := (okr k' (by simp [nodes])).length_le
            have h2 := hsh k' (by simp [nodes])
            simp at h1
            omega
        subst nl nr
        have e0 : ∀ b, m.kid i b = 0 := fun b => by
          cases b
          · exact hl.1
          · exact hr.1
        refine ⟨[i], .go nd.ne nd.le hh (by rw [e0]; exact .nil), fun x hx => ?_, fun best => ?_⟩
        · rw [List.mem_singleton.1 hx]; exact ⟨by simp, nd.may⟩
        · simp only [findT]
          rw [if_pos hpre, if_neg (by rw [bl_len]; exact h32)]
          exact fin [] .nil (fun best => rfl) best
end Go.Proofs.Ytlgldoggnlcbkaa
