/- A tree that lies in a trie's memory, open at a place: a node is raised there, told of, taken away. -/
import Derived.Test.YtlgldoggnlcbkabTrieHole
namespace Go.Proofs.Ytlgldoggnlcbkab
open Tt
set_option linter.unusedVariables false
set_option linter.unusedSimpArgs false

theorem get_put' (m : Mm) (P Q : Pl) (x : Nat) : (m.put P x).get Q = if P = Q then x else m.get Q := by
  cases P with
  | top => cases Q with
    | top => simp [Mm.put, Mm.get]
    | kid j c => simp [Mm.put, Mm.get]
  | kid i b => cases Q with
    | top => simp [Mm.put, Mm.get, Mm.setKid]
    | kid j c =>
      simp only [Mm.put, Mm.get, Mm.setKid, Pl.kid.injEq]
      by_cases h : j = i ∧ c = b
      · rw [if_pos h, if_pos ⟨h.1.symm, h.2.symm⟩]
      · rw [if_neg h, if_neg (fun e => h ⟨e.1.symm, e.2.symm⟩)]
theorem put_same (m : Mm) (P : Pl) (x : Nat) : (m.put P x).a = m.a ∧ (m.put P x).n = m.n ∧ (m.put P x).v = m.v ∧ (m.put P x).told = m.told ∧ (m.put P x).free = m.free ∧ (m.put P x).used = m.used ∧ (m.put P x).room = m.room := by
  cases P <;> exact ⟨rfl, rfl, rfl, rfl, rfl, rfl, rfl⟩
theorem put_kid (m : Mm) (P : Pl) (x j : Nat) (b : Bool) : (m.put P x).kid j b = if P = .kid j b then x else m.kid j b := get_put' m P (.kid j b) x
/-- the tree lies in the memory, all other nodes are free -/
structure Lay (m : Mm) (t : Tr) (ids fl : List Nat) : Prop where
  tree : TreeAt m m.root t ids
  free : FreeAt m m.free fl
  nd : (ids ++ fl).Nodup
  used : m.used = ids.length
  all : m.used + fl.length = m.room
  room : m.room ≤ 1000
  ok : okM m
structure Lay3 (m : Mm) (fs : List Fr) (A P : Pl) (pre post : List Nat) (s : Tr) (is fl : List Nat) : Prop where
  hole : Hole m .top .top fs A P pre post
  sub : TreeAt m (m.get P) s is
  free : FreeAt m m.free fl
  nd : (pre ++ is ++ post ++ fl).Nodup
  used : m.used = (pre ++ is ++ post).length
  all : m.used + fl.length = m.room
  room : m.room ≤ 1000
  ok : okM m
theorem Lay.way {m : Mm} {fs : List Fr} {s : Tr} {ids fl : List Nat} (L : Lay m (zip fs s) ids fl) : ∃ A P pre is post, Lay3 m fs A P pre post s is fl := by
  obtain ⟨A, P, pre, is, post, h, hs, rfl⟩ := Hole.open (m := m) (ab := .top) (pl := .top) L.tree
  exact ⟨A, P, pre, is, post, h, hs, L.free, L.nd, L.used, L.all, L.room, L.ok⟩
section
variable {m : Mm} {fs : List Fr} {A P : Pl} {pre post : List Nat} {s : Tr} {is fl : List Nat}
theorem Lay3.lay (L : Lay3 m fs A P pre post s is fl) : Lay m (zip fs s) (pre ++ is ++ post) fl := ⟨L.hole.zip L.sub, L.free, L.nd, L.used, L.all, L.room, L.ok⟩
theorem Lay3.pok (L : Lay3 m fs A P pre post s is fl) : A.ok ∧ P.ok := L.hole.ok trivial trivial
theorem Lay3.off (L : Lay3 m fs A P pre post s is fl) {j : Nat} (hj : j ∉ pre) (b : Bool) : Pl.kid j b ≠ P := by
  rcases L.hole.place with ⟨_, rfl, _⟩ | ⟨_, i, c, rfl, hi⟩
  · exact fun e => by cases e
  · intro e; injection e with e1 e2; subst e1; exact hj hi
theorem Lay3.top (L : Lay3 m fs A P pre post s is fl) (h : fs ≠ []) : P ≠ .top := by
  rcases L.hole.place with ⟨e, _⟩ | ⟨_, i, c, rfl, hi⟩
  · exact absurd e h
  · exact fun e => by cases e
end
theorem FreeAt.congr {m m' : Mm} : ∀ {fl : List Nat} {i : Nat}, FreeAt m i fl → (∀ j ∈ fl, m'.kid j false = m.kid j false) → FreeAt m' i fl
  | [], _, h, _ => h
  | j :: fl, i, ⟨h1, h2, h3, h4⟩, hk => ⟨h1, h2, h3, by rw [h1, hk j (by simp), ← h1]; exact h4.congr (fun j hj => hk j (by simp [hj]))⟩
theorem TreeAt.rootmem {m : Mm} {i : Nat} {s : Tr} {is : List Nat} (h : TreeAt m i s is) : (i = 0 ∧ s = .nil ∧ is = []) ∨ (i ≠ 0 ∧ s ≠ .nil ∧ i ∈ is) := by
  cases s with
  | nil => exact .inl ⟨h.1, rfl, h.2⟩
  | node k v l r =>
    obtain ⟨nd, il, ir, _, _, rfl⟩ := treeAt_node.1 h
    exact .inr ⟨nd.ne, (fun e => by cases e), by simp⟩
/-- what only changes at the place's own nodes keeps the rest -/
theorem Lay3.next {m m' : Mm} {fs : List Fr} {A P : Pl} {pre post : List Nat} {s s' : Tr} {is is' fl fl' : List Nat} (L : Lay3 m fs A P pre post s is fl) (ha : ∀ j ∈ pre ++ post, Agr m m' P j) (ht : P ≠ .top → m'.root = m.root)
    (hs : TreeAt m' (m'.get P) s' is') (hf : FreeAt m' m'.free fl') (hn : (pre ++ is' ++ post ++ fl').Nodup) (hu : m'.used = (pre ++ is' ++ post).length) (hr : m'.room = m.room) (hal : m'.used + fl'.length = m.room) (hok : okM m') : Lay3 m' fs A P pre post s' is' fl' :=
  ⟨L.hole.congr (by have := L.nd; grind) ha (fun h => ht (L.top h)), hs, hf, hn, hu, by rw [hr]; exact hal, by rw [hr]; exact L.room, hok⟩
/-! ### raised -/
theorem raise_is (m : Mm) (q : P2) (P : Pl) (hP : ∀ b, Pl.kid m.free b ≠ P) (hg : m.get P ≠ m.free) :
    (∀ x, x ≠ m.free → Agr m (raiseM m q P) P x) ∧ (raiseM m q P).pre m.free = q ∧ (raiseM m q P).told m.free = false ∧ (raiseM m q P).free = m.kid m.free false ∧ (raiseM m q P).used = m.used + 1 ∧ (raiseM m q P).room = m.room ∧
    (∀ b, (raiseM m q P).kid m.free b = if m.get P ≠ 0 ∧ b = side (m.pre (m.get P)) q.2 then m.get P else 0) ∧ (raiseM m q P).get P = m.free ∧ (∀ Q, Q ≠ P → (∀ b, Pl.kid m.free b ≠ Q) → (raiseM m q P).get Q = m.get Q) := by
  obtain ⟨s1, s2, s3, s4, s5, s6, s7⟩ := put_same (m.take q) P m.free
  have hk : ∀ j b, (raise1 m q P).kid j b = if P = .kid j b then m.free else if j = m.free then 0 else m.kid j b := fun j b => by
    show ((m.take q).put P m.free).kid j b = _
    rw [put_kid]
    show (if P = .kid j b then m.free else if j = m.free then (if b = true then 0 else 0) else m.kid j b) = _
    cases b <;> rfl
  have ha : (raise1 m q P).a = fun j => if j = m.free then q.1 else m.a j := s1
  have hn : (raise1 m q P).n = fun j => if j = m.free then q.2 else m.n j := s2
  have hv : (raise1 m q P).v = fun j => if j = m.free then 0 else m.v j := s3
  have ht : (raise1 m q P).told = fun j => if j = m.free then false else m.told j := s4
  have hf : (raise1 m q P).free = m.kid m.free false := s5
  have hu : (raise1 m q P).used = m.used + 1 := rfl
  have hr : (raise1 m q P).room = m.room := s7
  have hro : (raise1 m q P).root = if P = .top then m.free else m.root := by
    show ((m.take q).put P m.free).get .top = _
    rw [get_put']; rfl
  have hp : (raise1 m q P).pre (m.get P) = m.pre (m.get P) := by unfold Mm.pre; rw [ha, hn]; simp [hg]
  have hPP : (raise1 m q P).get P = m.free := raise1_get m q P
  have key : ∀ (e : Mm → Prop), (m.get P = 0 → e (raise1 m q P)) → (m.get P ≠ 0 → e ((raise1 m q P).setKid m.free (side (m.pre (m.get P)) q.2) (m.get P))) → e (raiseM m q P) := by
    intro e h1 h2
    unfold raiseM
    split
    · exact h1 (by assumption)
    · rw [hp]; exact h2 (by assumption)
  have hPP2 : ∀ b z, ((raise1 m q P).setKid m.free b z).get P = m.free := fun b z => by
    have hP' := hP b
    cases P with
    | top => exact hPP
    | kid i c =>
      show (if i = m.free ∧ c = b then z else (raise1 m q (.kid i c)).kid i c) = m.free
      rw [if_neg (by rintro ⟨rfl, rfl⟩; exact hP' rfl)]; exact hPP
  refine ⟨?_, ?_, ?_, ?_, ?_, ?_, ?_, ?_, ?_⟩
  · intro x hx
    have base : Agr m (raise1 m q P) P x := ⟨by rw [ha]; simp [hx], by rw [hn]; simp [hx], by rw [hv]; simp [hx], by rw [ht]; simp [hx], fun b hb => by rw [hk, if_neg (fun e => hb e.symm), if_neg hx]⟩
    refine key (fun z => Agr m z P x) (fun _ => base) (fun _ => ?_)
    obtain ⟨b1, b2, b3, b4, b5⟩ := base
    exact ⟨b1, b2, b3, b4, fun b hb => by show (if x = m.free ∧ _ then _ else (raise1 m q P).kid x b) = _; rw [if_neg (fun e => hx e.1)]; exact b5 b hb⟩
  · refine key (fun z => z.pre m.free = q) (fun _ => ?_) (fun _ => ?_)
    · unfold Mm.pre; rw [ha, hn]; simp
    · show (raise1 m q P).pre m.free = q
      unfold Mm.pre; rw [ha, hn]; simp
  · refine key (fun z => z.told m.free = false) (fun _ => by rw [ht]; simp) (fun _ => by show (raise1 m q P).told m.free = false; rw [ht]; simp)
  · exact key (fun z => z.free = m.kid m.free false) (fun _ => hf) (fun _ => hf)
  · exact key (fun z => z.used = m.used + 1) (fun _ => hu) (fun _ => hu)
  · exact key (fun z => z.room = m.room) (fun _ => hr) (fun _ => hr)
  · intro b
    have base : (raise1 m q P).kid m.free b = 0 := by rw [hk, if_neg (fun e => hP b e.symm), if_pos rfl]
    refine key (fun z => z.kid m.free b = if m.get P ≠ 0 ∧ b = side (m.pre (m.get P)) q.2 then m.get P else 0) (fun h0 => ?_) (fun h0 => ?_)
    · rw [if_neg (fun e => e.1 h0)]; exact base
    · show (if m.free = m.free ∧ b = _ then m.get P else (raise1 m q P).kid m.free b) = _
      by_cases hb : b = side (m.pre (m.get P)) q.2
      · rw [if_pos ⟨rfl, hb⟩, if_pos ⟨h0, hb⟩]
      · rw [if_neg (fun e => hb e.2), if_neg (fun e => hb e.2)]; exact base
  · exact key (fun z => z.get P = m.free) (fun _ => hPP) (fun _ => hPP2 _ _)
  · intro Q hQ hQf
    have base : (raise1 m q P).get Q = m.get Q := by
      cases Q with
      | top => show (raise1 m q P).root = m.root; rw [hro, if_neg (fun e => hQ e.symm)]
      | kid j b => show (raise1 m q P).kid j b = m.kid j b; rw [hk, if_neg (fun e => hQ e.symm), if_neg (by rintro rfl; exact hQf b rfl)]
    refine key (fun z => z.get Q = m.get Q) (fun _ => base) (fun _ => ?_)
    cases Q with
    | top => exact base
    | kid j b =>
      show (if j = m.free ∧ _ then _ else (raise1 m q P).kid j b) = m.kid j b
      rw [if_neg (by rintro ⟨rfl, _⟩; exact hQf b rfl)]; exact base
theorem Lay3.raise {m : Mm} {fs : List Fr} {A P : Pl} {pre post : List Nat} {s : Tr} {is fl : List Nat} {j : Nat} (L : Lay3 m fs A P pre post s is (j :: fl)) {q : P2} (hq : may q = true) (ho : Over (kq q) s) :
    Lay3 (raiseM m q P) fs A P pre post (up (kq q) s) (j :: is) fl ∧ (raiseM m q P).room = m.room := by
  have hnd := L.nd
  obtain ⟨hj, f0, f1, f2⟩ := L.free
  subst hj
  have off : ∀ {x}, x ∉ pre → ∀ b, Pl.kid x b ≠ P := fun hx b => L.off hx b
  have fpre : m.free ∉ pre := by grind
  have fis : m.free ∉ is := by grind
  have ffl : m.free ∉ fl := by grind
  have hg : m.get P ≠ m.free := by
    rcases L.sub.rootmem with ⟨h, _, _⟩ | ⟨_, _, h⟩
    · rw [h]; exact fun e => f0 e.symm
    · intro e; rw [e] at h; exact fis h
  obtain ⟨r1, r2, r3, r4, r5, r6, r7, r8, r9⟩ := raise_is m q P (off fpre) hg
  have hPm := L.ok P L.pok.2
  refine ⟨L.next (fun x hx => r1 x (by rintro rfl; grind)) (fun hP => r9 .top (fun e => hP e.symm) (fun b e => by cases e)) ?_ ?_ ?_ ?_ r6 ?_ ?_, r6⟩
  · have hkid : ∀ x ∈ is, ∀ b, Pl.kid x b ≠ P := fun x hx => off (by grind)
    have hagr : ∀ x ∈ is, Agr m (raiseM m q P) P x := fun x hx => r1 x (by rintro rfl; exact fis hx)
    rw [r8]
    have nd : Nd (raiseM m q P) m.free (kq q) none := ⟨f0, f1, by rw [r2]; exact hq, by rw [r2], r3, fun x hx => by cases hx⟩
    cases s with
    | nil =>
      obtain ⟨e1, e2⟩ := L.sub
      subst e2
      have e0 : ∀ b, (raiseM m q P).kid m.free b = 0 := fun b => by rw [r7, if_neg (fun e => e.1 e1)]
      exact treeAt_node.2 ⟨nd, [], [], ⟨e0 _, rfl⟩, ⟨e0 _, rfl⟩, rfl⟩
    | node k v l r =>
      obtain ⟨b, hb⟩ := ho
      obtain ⟨ndk, _⟩ := treeAt_node.1 L.sub
      have hlen := hb.length_le
      simp only [List.length_append, List.length_singleton] at hlen
      have hs : side (m.pre (m.get P)) q.2 = bitAt k (kq q).length := by rw [side_bit ndk.may (k := kq q) (kp_len (a := q.1) (n := q.2) hq) (by rw [ndk.key]; omega), ndk.key]
      rw [bit_is hb] at hs
      have sub' := L.sub.congr hagr hkid
      simp only [up]
      rw [bit_is hb]
      cases b with
      | true =>
        rw [if_pos rfl]
        refine treeAt_node.2 ⟨nd, [], is, ⟨by rw [r7, hs, if_neg (fun e => by cases e.2)], rfl⟩, ?_, rfl⟩
        rw [r7, hs, if_pos ⟨ndk.ne, rfl⟩]; exact sub'
      | false =>
        rw [if_neg (by decide)]
        refine treeAt_node.2 ⟨nd, is, [], ?_, ⟨by rw [r7, hs, if_neg (fun e => by cases e.2)], rfl⟩, by simp⟩
        rw [r7, hs, if_pos ⟨ndk.ne, rfl⟩]; exact sub'
  · rw [r4]
    exact f2.congr (fun x hx => (r1 x (by rintro rfl; exact ffl hx)).2.2.2.2 false (off (by grind) _))
  · grind
  · rw [r5, L.used]; simp; omega
  · have := L.all; rw [r5]; simp only [List.length_cons] at this; omega
  · intro Q hQ
    by_cases e : Q = P
    · rw [e, r8]; exact f1
    · by_cases hf : ∃ b, Pl.kid m.free b = Q
      · obtain ⟨b, rfl⟩ := hf
        show (raiseM m q P).kid m.free b ≤ 1000
        rw [r7]
        split
        · exact hPm
        · omega
      · rw [r9 Q e (fun b e => hf ⟨b, e⟩)]; exact L.ok Q hQ
/-! ### told of, or no more -/
theorem Lay3.tell {m : Mm} {fs : List Fr} {A P : Pl} {pre post : List Nat} {k : K} {v : Option Int} {l r : Tr} {is fl : List Nat} (L : Lay3 m fs A P pre post (.node k v l r) is fl) (v' : Option Int) (x : Int) (hx : ∀ y, v' = some y → x = y) :
    Lay3 (m.setTell (m.get P) v'.isSome x) fs A P pre post (.node k v' l r) is fl := by
  have hnd := L.nd
  obtain ⟨nd, il, ir, hl, hr, e⟩ := treeAt_node.1 L.sub
  have agr : ∀ j, j ≠ m.get P → Agr m (m.setTell (m.get P) v'.isSome x) P j := fun j hj => ⟨rfl, rfl, if_neg hj, if_neg hj, fun _ _ => rfl⟩
  have gt : ∀ Q, (m.setTell (m.get P) v'.isSome x).get Q = m.get Q := fun Q => by cases Q <;> rfl
  refine L.next (fun j hj => agr j (by rintro rfl; grind)) (fun _ => rfl) ?_ ?_ hnd L.used rfl L.all (fun Q hQ => by rw [gt]; exact L.ok Q hQ)
  · rw [gt]
    refine treeAt_node.2 ⟨⟨nd.ne, nd.le, nd.may, nd.key, if_pos rfl, fun y hy => ?_⟩, il, ir, ?_, ?_, e⟩
    · show (if m.get P = m.get P then x else m.v (m.get P)) = y
      rw [if_pos rfl]; exact hx y hy
    · exact hl.congr (P := P) (fun j hj => agr j (by rintro rfl; grind)) (fun j hj => L.off (by grind))
    · exact hr.congr (P := P) (fun j hj => agr j (by rintro rfl; grind)) (fun j hj => L.off (by grind))
  · exact L.free.congr (fun _ _ => rfl)
/-! ### taken away -/
theorem settle_is (m : Mm) (P : Pl) (hst : stays m (m.get P) = false) (hP : ∀ b, Pl.kid (m.get P) b ≠ P) :
    (∀ x, x ≠ m.get P → Agr m (settleM m P) P x) ∧ (settleM m P).free = m.get P ∧ (settleM m P).kid (m.get P) false = m.free ∧ (settleM m P).kid (m.get P) true = 0 ∧ (settleM m P).used = m.used - 1 ∧ (settleM m P).room = m.room ∧
    (settleM m P).get P = max (m.kid (m.get P) false) (m.kid (m.get P) true) ∧ (∀ Q, Q ≠ P → (∀ b, Pl.kid (m.get P) b ≠ Q) → (settleM m P).get Q = m.get Q) := by
  unfold settleM
  rw [if_neg (by rw [hst]; decide)]
  obtain ⟨i, hi⟩ : ∃ i, m.get P = i := ⟨_, rfl⟩
  rw [hi] at hP ⊢
  obtain ⟨y, hy⟩ : ∃ y, max (m.kid i false) (m.kid i true) = y := ⟨_, rfl⟩
  rw [hy]
  obtain ⟨s1, s2, s3, s4, s5, s6, s7⟩ := put_same m P y
  have hk : ∀ j b, ({ (m.put P y).drop i with used := m.used - 1 } : Mm).kid j b = if j = i then (if b then 0 else (m.put P y).free) else (m.put P y).kid j b := fun j b => rfl
  refine ⟨fun x hx => ⟨?_, ?_, ?_, ?_, fun b hb => ?_⟩, rfl, ?_, ?_, rfl, s7, ?_, ?_⟩
  · show (if x = i then 0 else (m.put P y).a x) = _; rw [if_neg hx, s1]
  · show (if x = i then 0 else (m.put P y).n x) = _; rw [if_neg hx, s2]
  · show (if x = i then 0 else (m.put P y).v x) = _; rw [if_neg hx, s3]
  · show (if x = i then false else (m.put P y).told x) = _; rw [if_neg hx, s4]
  · rw [hk, if_neg hx, put_kid, if_neg (fun e => hb e.symm)]
  · rw [hk, if_pos rfl, s5]; rfl
  · rw [hk, if_pos rfl]; rfl
  · cases P with
    | top => show (m.put .top y).root = y; rfl
    | kid j b =>
      show ({ (m.put (.kid j b) y).drop i with used := m.used - 1 } : Mm).kid j b = y
      rw [hk, if_neg (by rintro rfl; exact hP b rfl), put_kid, if_pos rfl]
  · intro Q hQ hQi
    cases Q with
    | top => show (m.put P y).get .top = m.root; rw [get_put', if_neg (fun e => hQ e.symm)]; rfl
    | kid j b =>
      show ({ (m.put P y).drop i with used := m.used - 1 } : Mm).kid j b = m.kid j b
      rw [hk, if_neg (by rintro rfl; exact hQi b rfl), put_kid, if_neg (fun e => hQ e.symm)]
theorem settle_stays {m : Mm} {P : Pl} (h : stays m (m.get P) = true) : settleM m P = m := by unfold settleM; rw [if_pos h]
theorem treeAt_zero {m : Mm} {i : Nat} {s : Tr} {is : List Nat} (h : TreeAt m i s is) : i = 0 ↔ s = .nil := by
  rcases h.rootmem with ⟨h1, h2, _⟩ | ⟨h1, h2, _⟩
  · exact ⟨fun _ => h2, fun _ => h1⟩
  · exact ⟨fun e => absurd e h1, fun e => absurd e h2⟩
/-- a node that nothing needs has at most one kid -/
theorem Lay3.settle {m : Mm} {fs : List Fr} {A P : Pl} {pre post : List Nat} {s : Tr} {is fl : List Nat} (L : Lay3 m fs A P pre post s is fl) :
    (∃ is' fl', Lay3 (settleM m P) fs A P pre post (tidy s) is' fl') ∧ (settleM m P).room = m.room ∧ (stays m (m.get P) = false → 0 < m.used) := by
  have hnd := L.nd
  cases hst : stays m (m.get P) with
  | true =>
    refine ⟨⟨is, fl, ?_⟩, by rw [settle_stays hst], fun h => by cases h⟩
    rw [settle_stays hst]
    have e : tidy s = s := by
      cases s with
      | nil => rfl
      | node k v l r =>
        obtain ⟨nd, il, ir, hl, hr, _⟩ := treeAt_node.1 L.sub
        cases v with
        | some x => rfl
        | none =>
          unfold stays at hst
          rw [decide_eq_false nd.ne, nd.told] at hst
          have h1 : m.kid (m.get P) false ≠ 0 ∧ m.kid (m.get P) true ≠ 0 := by simpa using hst
          cases l with
          | nil => exact absurd hl.1 h1.1
          | node => cases r with
            | nil => exact absurd hr.1 h1.2
            | node => rfl
    rw [e]; exact L
  | false =>
    cases s with
    | nil =>
      have := L.sub.1
      unfold stays at hst
      rw [decide_eq_true this] at hst
      simp at hst
    | node k v l r =>
      obtain ⟨nd, il, ir, hl, hr, e⟩ := treeAt_node.1 L.sub
      obtain ⟨i, hi⟩ : ∃ i, m.get P = i := ⟨_, rfl⟩
      have ipre : i ∉ pre := by grind
      obtain ⟨r1, r2, r3, r4, r5, r6, r7, r8⟩ := settle_is m P hst (L.off (hi ▸ ipre))
      rw [hi] at r1 r2 r3 r4 r7 r8 nd hl hr hst e
      have hup : 0 < m.used := by rw [L.used, e]; simp; omega
      refine ⟨?_, r6, fun _ => hup⟩
      obtain ⟨hz1, hz2⟩ : m.told i = false ∧ (m.kid i false = 0 ∨ m.kid i true = 0) := by
        unfold stays at hst
        rw [decide_eq_false nd.ne] at hst
        simp only [Bool.false_or, Bool.or_eq_false_iff, Bool.and_eq_false_iff, decide_eq_false_iff_not, Decidable.not_not, ne_eq] at hst
        exact hst
      have hv : v = none := by
        cases v with
        | none => rfl
        | some x => have := nd.told; rw [hz1] at this; cases this
      subst hv
      have agr : ∀ j ∈ is, j ≠ i → Agr m (settleM m P) P j := fun j _ h => r1 j h
      have hl' : TreeAt (settleM m P) (m.kid i false) l il := hl.congr (P := P) (fun j hj => r1 j (by rintro rfl; grind)) (fun j hj => L.off (by grind))
      have hr' : TreeAt (settleM m P) (m.kid i true) r ir := hr.congr (P := P) (fun j hj => r1 j (by rintro rfl; grind)) (fun j hj => L.off (by grind))
      have hfree : FreeAt (settleM m P) (settleM m P).free (i :: fl) := by
        rw [r2]
        exact ⟨rfl, nd.ne, nd.le, by rw [r3]; exact L.free.congr (fun j hj => (r1 j (by rintro rfl; grind)).2.2.2.2 false (L.off (by grind) _))⟩
      have hsub : TreeAt (settleM m P) ((settleM m P).get P) (tidy (.node k none l r)) (il ++ ir) := by
        rw [r7]
        rcases hz2 with h0 | h0
        · have := (treeAt_zero hl).1 h0
          subst this
          have e2 : il = [] := hl.2
          rw [h0, Nat.zero_max, e2]
          show TreeAt _ _ (join k none .nil r) _
          have : join k none .nil r = r := by cases r <;> rfl
          rw [this]; exact hr'
        · have := (treeAt_zero hr).1 h0
          subst this
          have e2 : ir = [] := hr.2
          rw [h0, Nat.max_zero, e2, List.append_nil]
          show TreeAt _ _ (join k none l .nil) _
          have : join k none l .nil = l := by cases l <;> rfl
          rw [this]; exact hl'
      refine ⟨il ++ ir, i :: fl, L.next (fun j hj => r1 j (by rintro rfl; grind)) (fun hP => r8 .top (fun e => hP e.symm) (fun b e => by cases e)) hsub hfree ?_ ?_ r6 ?_ ?_⟩
      · grind
      · rw [r5, L.used, e]; simp
      · have := L.all; rw [r5]; simp only [List.length_cons]; omega
      · intro Q hQ
        by_cases e : Q = P
        · rw [e, r7]
          have h1 := L.ok (.kid i false) nd.le
          have h2 := L.ok (.kid i true) nd.le
          exact Nat.max_le.2 ⟨h1, h2⟩
        · by_cases hf : ∃ b, Pl.kid i b = Q
          · obtain ⟨b, rfl⟩ := hf
            cases b with
            | true => show (settleM m P).kid i true ≤ 1000; rw [r4]; omega
            | false =>
              show (settleM m P).kid i false ≤ 1000
              rw [r3]
              have := L.free
              cases fl with
              | nil => rw [this]; omega
              | cons j fl => exact this.2.2.1
          · rw [r8 Q e (fun b e => hf ⟨b, e⟩)]; exact L.ok Q hQ
end Go.Proofs.Ytlgldoggnlcbkab
