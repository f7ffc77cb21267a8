/- A way down a tree that lies in a trie's memory: its place, what lies there, what stays if only that changes; and that the code's seek goes it. -/
import Derived.Test.YtlgldoggnlcbkabTrieTree
import Derived.Test.YtlgldoggnlcbkabTrieZip
import Derived.Test.YtlgldoggnlcbkabTrieSettle
namespace Go.Proofs.Ytlgldoggnlcbkab
open Tt
set_option linter.unusedVariables false
set_option linter.unusedSimpArgs false

/-- a node that lies at i -/
structure Nd (m : Mm) (i : Nat) (k : K) (v : Option Int) : Prop where
  ne : i ≠ 0
  le : i ≤ 1000
  may : Tt.may (m.pre i) = true
  key : kq (m.pre i) = k
  told : m.told i = v.isSome
  val : ∀ x, v = some x → m.v i = x
theorem treeAt_node {m : Mm} {i : Nat} {k : K} {v : Option Int} {l r : Tr} {ids : List Nat} : TreeAt m i (.node k v l r) ids ↔ Nd m i k v ∧ ∃ il ir, TreeAt m (m.kid i false) l il ∧ TreeAt m (m.kid i true) r ir ∧ ids = i :: (il ++ ir) := by
  constructor
  · rintro ⟨h0, h1, h2, h3, h4, h5, h6⟩
    exact ⟨⟨h0, h1, h2, h3, h4, h5⟩, h6⟩
  · rintro ⟨⟨h0, h1, h2, h3, h4, h5⟩, h6⟩
    exact ⟨h0, h1, h2, h3, h4, h5, h6⟩
/-- from the place pl down by fs to the place P, the place above it A, the nodes ahead and behind -/
inductive Hole (m : Mm) : Pl → Pl → List Fr → Pl → Pl → List Nat → List Nat → Prop
  | nil (ab pl : Pl) : Hole m ab pl [] ab pl [] []
  | right {ab pl : Pl} {i : Nat} {k : K} {v : Option Int} {o : Tr} {fs : List Fr} {A P : Pl} {pre post io : List Nat} (hi : m.get pl = i) (nd : Nd m i k v) (ho : TreeAt m (m.kid i false) o io)
      (h : Hole m pl (.kid i true) fs A P pre post) : Hole m ab pl (⟨k, v, true, o⟩ :: fs) A P (i :: (io ++ pre)) post
  | left {ab pl : Pl} {i : Nat} {k : K} {v : Option Int} {o : Tr} {fs : List Fr} {A P : Pl} {pre post io : List Nat} (hi : m.get pl = i) (nd : Nd m i k v) (ho : TreeAt m (m.kid i true) o io)
      (h : Hole m pl (.kid i false) fs A P pre post) : Hole m ab pl (⟨k, v, false, o⟩ :: fs) A P (i :: pre) (post ++ io)
theorem Hole.open {m : Mm} : ∀ {fs : List Fr} {s : Tr} {ab pl : Pl} {ids : List Nat}, TreeAt m (m.get pl) (zip fs s) ids → ∃ A P pre is post, Hole m ab pl fs A P pre post ∧ TreeAt m (m.get P) s is ∧ ids = pre ++ is ++ post
  | [], s, ab, pl, ids, h => ⟨ab, pl, [], ids, [], .nil _ _, h, by simp⟩
  | ⟨k, v, true, o⟩ :: fs, s, ab, pl, ids, h => by
    obtain ⟨nd, il, ir, hl, hr, rfl⟩ := treeAt_node.1 h
    obtain ⟨A, P, pre, is, post, hh, hs, rfl⟩ := Hole.open (ab := pl) (pl := .kid (m.get pl) true) (fs := fs) hr
    exact ⟨A, P, _, is, post, .right rfl nd hl hh, hs, by simp⟩
  | ⟨k, v, false, o⟩ :: fs, s, ab, pl, ids, h => by
    obtain ⟨nd, il, ir, hl, hr, rfl⟩ := treeAt_node.1 h
    obtain ⟨A, P, pre, is, post, hh, hs, rfl⟩ := Hole.open (ab := pl) (pl := .kid (m.get pl) false) (fs := fs) hl
    exact ⟨A, P, _, is, _, .left rfl nd hr hh, hs, by simp⟩
theorem Hole.zip {m : Mm} {ab pl A P : Pl} {fs : List Fr} {pre post : List Nat} (h : Hole m ab pl fs A P pre post) {s : Tr} {is : List Nat} (hs : TreeAt m (m.get P) s is) : TreeAt m (m.get pl) (Tt.zip fs s) (pre ++ is ++ post) := by
  induction h with
  | nil ab pl => rw [List.nil_append, List.append_nil]; exact hs
  | right hi nd ho h ih => subst hi; exact treeAt_node.2 ⟨nd, _, _, ho, ih hs, by simp⟩
  | left hi nd ho h ih => subst hi; exact treeAt_node.2 ⟨nd, _, _, ih hs, ho, by simp⟩
theorem Hole.ok {m : Mm} {ab pl A P : Pl} {fs : List Fr} {pre post : List Nat} (h : Hole m ab pl fs A P pre post) (ha : ab.ok) (hp : pl.ok) : A.ok ∧ P.ok := by
  induction h with
  | nil ab pl => exact ⟨ha, hp⟩
  | right hi nd ho h ih => exact ih hp nd.le
  | left hi nd ho h ih => exact ih hp nd.le
theorem Hole.place {m : Mm} {ab pl A P : Pl} {fs : List Fr} {pre post : List Nat} (h : Hole m ab pl fs A P pre post) : (fs = [] ∧ P = pl ∧ A = ab ∧ pre = [] ∧ post = []) ∨ (fs ≠ [] ∧ ∃ j b, P = .kid j b ∧ j ∈ pre) := by
  induction h with
  | nil ab pl => exact .inl ⟨rfl, rfl, rfl, rfl, rfl⟩
  | right hi nd ho h ih =>
    refine .inr ⟨by simp, ?_⟩
    rcases ih with ⟨_, rfl, _⟩ | ⟨_, j, b, rfl, hj⟩
    · exact ⟨_, _, rfl, by simp⟩
    · exact ⟨_, _, rfl, by simp [hj]⟩
  | left hi nd ho h ih =>
    refine .inr ⟨by simp, ?_⟩
    rcases ih with ⟨_, rfl, _⟩ | ⟨_, j, b, rfl, hj⟩
    · exact ⟨_, _, rfl, by simp⟩
    · exact ⟨_, _, rfl, by simp [hj]⟩
/-- at a node nothing is changed but for a kid that is the place P -/
def Agr (m m' : Mm) (P : Pl) (j : Nat) : Prop := m'.a j = m.a j ∧ m'.n j = m.n j ∧ m'.v j = m.v j ∧ m'.told j = m.told j ∧ ∀ b, Pl.kid j b ≠ P → m'.kid j b = m.kid j b
theorem Nd.congr {m m' : Mm} {P : Pl} {i : Nat} {k : K} {v : Option Int} (h : Nd m i k v) (ha : Agr m m' P i) : Nd m' i k v := by
  obtain ⟨a1, a2, a3, a4, _⟩ := ha
  have e : m'.pre i = m.pre i := by unfold Mm.pre; rw [a1, a2]
  exact ⟨h.ne, h.le, by rw [e]; exact h.may, by rw [e]; exact h.key, by rw [a4]; exact h.told, fun x hx => by rw [a3]; exact h.val x hx⟩
theorem TreeAt.congr {m m' : Mm} {P : Pl} {t : Tr} : ∀ {i : Nat} {ids : List Nat}, TreeAt m i t ids → (∀ j ∈ ids, Agr m m' P j) → (∀ j ∈ ids, ∀ b, Pl.kid j b ≠ P) → TreeAt m' i t ids := by
  induction t with
  | nil => exact fun h _ _ => h
  | node k v l r ihl ihr =>
    intro i ids h ha hp
    obtain ⟨nd, il, ir, hl, hr, rfl⟩ := treeAt_node.1 h
    have hi := ha i (by simp)
    refine treeAt_node.2 ⟨nd.congr hi, il, ir, ?_, ?_, rfl⟩
    · rw [hi.2.2.2.2 false (hp i (by simp) _)]; exact ihl hl (fun j hj => ha j (by simp [hj])) (fun j hj => hp j (by simp [hj]))
    · rw [hi.2.2.2.2 true (hp i (by simp) _)]; exact ihr hr (fun j hj => ha j (by simp [hj])) (fun j hj => hp j (by simp [hj]))
theorem Hole.congr {m m' : Mm} {ab pl A P : Pl} {fs : List Fr} {pre post : List Nat} (h : Hole m ab pl fs A P pre post) (hn : (pre ++ post).Nodup) (ha : ∀ j ∈ pre ++ post, Agr m m' P j) (hg : fs ≠ [] → m'.get pl = m.get pl) : Hole m' ab pl fs A P pre post := by
  induction h with
  | nil ab pl => exact .nil _ _
  | @right ab pl i k v o fs A P pre post io hi nd ho h ih =>
    have hii := ha i (by simp)
    have hpl := h.place
    have hP : ∀ j ∈ io, ∀ b, Pl.kid j b ≠ P := by
      rintro j hj b rfl
      rcases hpl with ⟨_, e, _⟩ | ⟨_, j', b', e, hj'⟩
      · injection e with e1 e2; subst e1; grind
      · injection e with e1 e2; subst e1; grind
    refine .right ((hg (by simp)).trans hi) (nd.congr hii) ?_ (ih (by grind) (fun j hj => ha j (by grind)) (fun hne => ?_))
    · have e : m'.kid i false = m.kid i false := by
        refine hii.2.2.2.2 false ?_
        rcases hpl with ⟨_, rfl, _⟩ | ⟨_, j', b', rfl, hj'⟩
        · intro e; injection e with e1 e2; cases e2
        · intro e; injection e with e1 e2; subst e1; grind
      rw [e]; exact ho.congr (fun j hj => ha j (by simp [hj])) hP
    · refine hii.2.2.2.2 true ?_
      rcases hpl with ⟨e, _⟩ | ⟨_, j', b', rfl, hj'⟩
      · exact absurd e hne
      · intro e; injection e with e1 e2; subst e1; grind
  | @left ab pl i k v o fs A P pre post io hi nd ho h ih =>
    have hii := ha i (by simp)
    have hpl := h.place
    have hP : ∀ j ∈ io, ∀ b, Pl.kid j b ≠ P := by
      rintro j hj b rfl
      rcases hpl with ⟨_, e, _⟩ | ⟨_, j', b', e, hj'⟩
      · injection e with e1 e2; subst e1; grind
      · injection e with e1 e2; subst e1; grind
    refine .left ((hg (by simp)).trans hi) (nd.congr hii) ?_ (ih (by grind) (fun j hj => ha j (by grind)) (fun hne => ?_))
    · have e : m'.kid i true = m.kid i true := by
        refine hii.2.2.2.2 true ?_
        rcases hpl with ⟨_, rfl, _⟩ | ⟨_, j', b', rfl, hj'⟩
        · intro e; injection e with e1 e2; cases e2
        · intro e; injection e with e1 e2; subst e1; grind
      rw [e]; exact ho.congr (fun j hj => ha j (by simp [hj])) hP
    · refine hii.2.2.2.2 false ?_
      rcases hpl with ⟨e, _⟩ | ⟨_, j', b', rfl, hj'⟩
      · exact absurd e hne
      · intro e; injection e with e1 e2; subst e1; grind
/-- the last that is passed lies at the place above -/
theorem Hole.split {m : Mm} : ∀ {fs : List Fr} {f : Fr} {ab pl A P : Pl} {pre post : List Nat}, Hole m ab pl (fs ++ [f]) A P pre post →
    ∃ A0 pre' post' i io, Hole m ab pl fs A0 A pre' post' ∧ m.get A = i ∧ P = .kid i f.b ∧ Nd m i f.k f.v ∧ TreeAt m (m.kid i (!f.b)) f.o io ∧ (f.b = true → pre = pre' ++ (i :: io) ∧ post = post') ∧ (f.b = false → pre = pre' ++ [i] ∧ post = io ++ post')
  | [], f, ab, pl, A, P, pre, post, h => by
    cases h with
    | right hi nd ho h => cases h; exact ⟨ab, [], [], _, _, .nil _ _, hi, rfl, nd, ho, fun _ => ⟨by simp, rfl⟩, fun e => by cases e⟩
    | left hi nd ho h => cases h; exact ⟨ab, [], [], _, _, .nil _ _, hi, rfl, nd, ho, (fun e => by cases e), fun _ => ⟨rfl, by simp⟩⟩
  | g :: fs, f, ab, pl, A, P, pre, post, h => by
    cases h with
    | right hi nd ho h =>
      obtain ⟨A0, pre', post', i, io, hh, h1, h2, h3, h4, h5, h6⟩ := Hole.split h
      exact ⟨A0, _, _, i, io, .right hi nd ho hh, h1, h2, h3, h4, fun e => ⟨by rw [(h5 e).1]; simp, (h5 e).2⟩, fun e => ⟨by rw [(h6 e).1]; simp, (h6 e).2⟩⟩
    | left hi nd ho h =>
      obtain ⟨A0, pre', post', i, io, hh, h1, h2, h3, h4, h5, h6⟩ := Hole.split h
      exact ⟨A0, _, _, i, io, .left hi nd ho hh, h1, h2, h3, h4, fun e => ⟨by rw [(h5 e).1]; simp, by rw [(h5 e).2]⟩, fun e => ⟨by rw [(h6 e).1]; simp, by rw [(h6 e).2]; simp⟩⟩
/-! ### the code's seek goes the way -/
theorem side_bit {q : P2} (hq : may q = true) {n : Int} {k : K} (hn : (k.length : Int) = n) (hlt : k.length < (kq q).length) : side q n = bitAt (kq q) k.length := by
  subst hn
  have e : (kq q).length = q.2.toNat := bl_len _ _
  unfold side
  exact (bl_bit q.1 q.2.toNat k.length (by omega)).symm
theorem nd_len {m : Mm} {i : Nat} {k : K} {v : Option Int} (nd : Nd m i k v) : (k.length : Int) = m.n i := by rw [← nd.key]; exact kp_len (a := m.a i) (n := m.n i) nd.may
theorem seek_step {m : Mm} {q : P2} (hq : may q = true) {pl ab : Pl} {i : Nat} (hi : m.get pl = i) {k : K} {v : Option Int} (nd : Nd m i k v) {b : Bool} (hd : k ++ [b] <+: kq q) (f : Nat) : seekM m q (f + 1) ab pl = seekM m q f pl (.kid i b) := by
  have hlen := hd.length_le
  simp only [List.length_append, List.length_singleton] at hlen
  simp only [seekM]
  rw [hi, if_neg nd.ne, if_neg, side_bit hq (nd_len nd) (by omega), bit_is hd]
  rintro (h | h)
  · have := pre_ne hd; rw [← nd.key, h] at this; exact this rfl
  · have h2 : M.inB (m.a i) (m.n i) q.1 q.2 = true := (in_iff (a := m.a i) (n := m.n i) nd.may hq).2 (by have := pre_of hd; rw [← nd.key] at this; exact this)
    rw [h2] at h; cases h
theorem seek_stop {m : Mm} {q : P2} (hq : may q = true) {pl ab : Pl} {s : Tr} {is : List Nat} (hs : TreeAt m (m.get pl) s is) (st : Stop s (kq q)) (f : Nat) : seekM m q (f + 1) ab pl = some (ab, pl) := by
  simp only [seekM]
  cases s with
  | nil => rw [if_pos hs.1]
  | node k v l r =>
    obtain ⟨nd, _⟩ := treeAt_node.1 hs
    rw [if_neg nd.ne, if_pos]
    rcases st with h | h
    · left; exact kq_inj nd.may hq (nd.key.trans h)
    · right
      cases h2 : M.inB (m.a (m.get pl)) (m.n (m.get pl)) q.1 q.2
      · rfl
      · have h3 := (in_iff (a := m.a (m.get pl)) (n := m.n (m.get pl)) nd.may hq).1 h2
        exact absurd (by rw [← nd.key]; exact h3) h
theorem Hole.seek {m : Mm} {q : P2} (hq : may q = true) {ab pl A P : Pl} {fs : List Fr} {pre post : List Nat} (h : Hole m ab pl fs A P pre post) (hd : Dir fs (kq q)) {s : Tr} {is : List Nat} (hs : TreeAt m (m.get P) s is) (st : Stop s (kq q)) :
    seekM m q (fs.length + 1) ab pl = some (A, P) := by
  induction h with
  | nil ab pl => exact seek_stop hq hs st _
  | right hi nd ho h ih => rw [List.length_cons, seek_step hq hi nd hd.head]; exact ih hd.tail hs
  | left hi nd ho h ih => rw [List.length_cons, seek_step hq hi nd hd.head]; exact ih hd.tail hs
end Go.Proofs.Ytlgldoggnlcbkab
