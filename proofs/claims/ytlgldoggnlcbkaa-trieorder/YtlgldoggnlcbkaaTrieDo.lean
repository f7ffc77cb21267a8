/- What the code's New, Put and Cut make of a trie's memory, as a tree. -/
import Derived.Test.YtlgldoggnlcbkaaTriePlan
import Derived.Test.YtlgldoggnlcbkaaTriePutW
import Derived.Test.YtlgldoggnlcbkaaTrieCutW
import Derived.Test.YtlgldoggnlcbkaaTrieNew
namespace Go.Proofs.Ytlgldoggnlcbkaa
open Tt
set_option linter.unusedVariables false
set_option linter.unusedSimpArgs false

/-! ### New -/
theorem fill_is (r : Nat) (hr : r ≤ 1000) : ∀ j, j ≤ r → (fillM r j).root = 0 ∧ (fillM r j).used = 0 ∧ (fillM r j).room = r ∧ (fillM r j).free ≤ 1000 ∧ FreeAt (fillM r j) (fillM r j).free ((List.range' (r - j + 1) j)) ∧ okM (fillM r j)
  | 0, _ => ⟨rfl, rfl, rfl, Nat.zero_le _, rfl, fun Q _ => by cases Q <;> exact Nat.zero_le _⟩
  | j + 1, hj => by
    obtain ⟨h1, h2, h3, h4, h5, h6⟩ := fill_is r hr j (by omega)
    refine ⟨h1, h2, h3, ?_, ?_, ?_⟩
    · show r - j ≤ 1000; omega
    · rw [show r - (j + 1) + 1 = r - j by omega, List.range'_succ]
      refine ⟨rfl, ?_, ?_, ?_⟩
      · show r - j ≠ 0; omega
      · show r - j ≤ 1000; omega
      · have e : ((fillM r j).drop (r - j)).kid (r - j) false = (fillM r j).free := by simp [Mm.drop, Mm.setNode]
        show FreeAt ((fillM r j).drop (r - j)) (((fillM r j).drop (r - j)).kid (r - j) false) _
        rw [e]
        refine h5.congr fun x hx => ?_
        have : x ≠ r - j := by rw [List.mem_range'_1] at hx; omega
        simp [Mm.drop, Mm.setNode, this]
    · intro Q hQ
      have := h6 Q hQ
      cases Q with
      | top => exact this
      | kid i b =>
        show (if i = r - j then (if b = true then 0 else (fillM r j).free) else (fillM r j).kid i b) ≤ 1000
        split
        · split
          · omega
          · exact h4
        · exact this
theorem lay_new (r : Nat) (hr : r ≤ 1000) : Lay (fillM r r) .nil [] (List.range' 1 r) ∧ (fillM r r).room = r := by
  obtain ⟨h1, h2, h3, h4, h5, h6⟩ := fill_is r hr r (Nat.le_refl _)
  rw [show r - r + 1 = 1 by omega] at h5
  exact ⟨⟨⟨h1, rfl⟩, h5, by simpa using List.nodup_range', h2, by rw [h2, h3]; simp, by rw [h3]; exact hr, h6⟩, h3⟩
/-! ### Put -/
theorem zip_len (fs : List Fr) (s t : Tr) : (nodes (zip fs s)).length + (nodes t).length = (nodes (zip fs t)).length + (nodes s).length := by
  induction fs with
  | nil => exact Nat.add_comm _ _
  | cons f fs ih =>
    obtain ⟨k, v, b, o⟩ := f
    have e : ∀ s, (nodes (zip (⟨k, v, b, o⟩ :: fs) s)).length = (nodes (zip fs s)).length + (nodes o).length + 1 := by
      intro s
      cases b with
      | true => show (nodes (.node k v o (zip fs s))).length = _; simp [nodes]; omega
      | false => show (nodes (.node k v (zip fs s) o)).length = _; simp [nodes]
    rw [e, e]; omega
theorem Lay3.freeLe {m : Mm} {fs : List Fr} {A P : Pl} {pre post : List Nat} {s : Tr} {is fl : List Nat} (L : Lay3 m fs A P pre post s is fl) : m.free ≤ 1000 ∧ m.used ≤ 1000 := by
  have h := L.free
  have := L.all
  have := L.room
  refine ⟨?_, by omega⟩
  cases fl with
  | nil => rw [h]; omega
  | cons j fl => exact h.2.2.1
theorem Lay3.freeCons {m : Mm} {fs : List Fr} {A P : Pl} {pre post : List Nat} {s : Tr} {is fl : List Nat} (L : Lay3 m fs A P pre post s is fl) (h : m.used < m.room) : ∃ j fl', fl = j :: fl' := by
  cases fl with
  | nil => have := L.all; simp at this; omega
  | cons j fl => exact ⟨j, fl, rfl⟩
/-- the nodes that are missing are raised, then the prefix is told of -/
theorem put_tree {m : Mm} {t : Tr} {ids fl : List Nat} (L : Lay m t ids fl) (ht : Ok t) {q : P2} (hq : may q = true) (x : Int) :
    ∃ f A P, seekM m q f .top .top = some (A, P) ∧ P.ok ∧ (lackM m q P).length ≤ 2 ∧ (nodes (ins t (kq q) x)).length = m.used + (lackM m q P).length ∧
      (m.used + (lackM m q P).length ≤ m.room → ∃ m' f' A' P', Raises m (lackM m q P) m' ∧ okM m' ∧ seekM m' q f' .top .top = some (A', P') ∧ P'.ok ∧ ∃ ids' fl', Lay (m'.setTell (m'.get P') true x) (ins t (kq q) x) ids' fl' ∧ m'.room = m.room) := by
  obtain ⟨fs, s, rfl, hd, st⟩ := way t (kq q)
  obtain ⟨A, P, pre, is, post, L3⟩ := L.way
  obtain ⟨os, ofs, _⟩ := zip_ok ht
  have hused : m.used = (nodes (zip fs s)).length := by rw [L.used, L.tree.len]
  refine ⟨_, A, P, L3.hole.seek hq hd L3.sub st, L3.pok.2, ?_⟩
  rw [ins_zip hd]
  have hlen := zip_len fs s (ins s (kq q) x)
  -- one node is missing
  have one : Over (kq q) s → lackM m q P = [q] → (nodes (ins s (kq q) x)).length = (nodes s).length + 1 → (lackM m q P).length ≤ 2 ∧ (nodes (zip fs (ins s (kq q) x))).length = m.used + (lackM m q P).length ∧
      (m.used + (lackM m q P).length ≤ m.room → ∃ m' f' A' P', Raises m (lackM m q P) m' ∧ okM m' ∧ seekM m' q f' .top .top = some (A', P') ∧ P'.ok ∧ ∃ ids' fl', Lay (m'.setTell (m'.get P') true x) (zip fs (ins s (kq q) x)) ids' fl' ∧ m'.room = m.room) := by
    intro ho hl hn
    rw [hl]
    refine ⟨by simp, by simp; omega, fun hroom => ?_⟩
    obtain ⟨j, fl', rfl⟩ := L3.freeCons (by simp at hroom; omega)
    obtain ⟨R, hr⟩ := L3.raise hq ho
    obtain ⟨v, a, b, e⟩ := up_root (kq q) s
    rw [ins_up ho]
    rw [e] at R ⊢
    refine ⟨_, _, A, P, .cons L.ok (L3.hole.seek hq hd L3.sub st) L3.pok.2 L3.freeLe.1 L3.freeLe.2 (.nil _), R.ok, R.hole.seek hq hd R.sub (.inl rfl), R.pok.2, _, _, (R.tell (some x) x (fun y hy => Option.some.inj hy)).lay, hr⟩
  cases s with
  | nil =>
    have h0 : m.get P = 0 := L3.sub.1
    exact one trivial (by unfold lackM; rw [if_pos h0]) (by simp [ins, nodes])
  | node k v l r =>
    obtain ⟨nd, il, ir, hl, hr, _⟩ := treeAt_node.1 L3.sub
    rcases four (kq q) k with e | ⟨b, hb⟩ | ⟨b, hb⟩ | ⟨b, hb, hc⟩
    · have hp : m.pre (m.get P) = q := kq_inj nd.may hq (nd.key.trans e.symm)
      have hlk : lackM m q P = [] := by unfold lackM; rw [if_neg nd.ne, if_pos hp]
      rw [hlk]
      subst e
      rw [ins_same] at hlen ⊢
      refine ⟨by simp, by simp [nodes] at hlen ⊢; omega, fun _ => ?_⟩
      exact ⟨m, _, A, P, .nil m, L.ok, L3.hole.seek hq hd L3.sub st, L3.pok.2, _, _, (L3.tell (some x) x (fun y hy => Option.some.inj hy)).lay, rfl⟩
    · rcases st with e | e
      · exact absurd e.symm (pre_ne hb)
      · exact absurd (pre_of hb) e
    · have hp : m.pre (m.get P) ≠ q := fun e => by
        have := nd.key; rw [e] at this; exact pre_ne hb this.symm
      have hin : M.inB q.1 q.2 (m.a (m.get P)) (m.n (m.get P)) = true := (in_iff (a := q.1) (n := q.2) (b := m.a (m.get P)) (m := m.n (m.get P)) hq nd.may).2 (by have := pre_of hb; rw [← nd.key] at this; exact this)
      refine one ⟨b, hb⟩ (by unfold lackM; rw [if_neg nd.ne, if_neg hp, if_pos hin]) ?_
      cases b with
      | true => rw [ins_above_r _ _ _ _ _ hb]; simp [nodes]
      | false => rw [ins_above_l _ _ _ _ _ hb]; simp [nodes]
    · -- a node that joins two is missing, too
      have hnp : ¬ kq q <+: k ∧ ¬ k <+: kq q := by
        cases b with
        | true => obtain ⟨_, h1, h2⟩ := apart hc hb; exact ⟨h2, h1⟩
        | false => obtain ⟨_, h1, h2⟩ := apart hb hc; exact ⟨h1, h2⟩
      have hp : m.pre (m.get P) ≠ q := fun e => by
        have := nd.key; rw [e] at this; exact hnp.1 (by rw [this]; exact List.prefix_rfl)
      have hin : ¬ M.inB q.1 q.2 (m.a (m.get P)) (m.n (m.get P)) = true := fun h => by
        have := (in_iff (a := q.1) (n := q.2) (b := m.a (m.get P)) (m := m.n (m.get P)) hq nd.may).1 h
        exact hnp.1 (by rw [← nd.key]; exact this)
      obtain ⟨z0, z1, _, _, _, _⟩ := may_bd (a := q.1) (n := q.2) hq
      obtain ⟨y0, y1, _, _, _, _⟩ := may_bd (a := m.a (m.get P)) (n := m.n (m.get P)) nd.may
      have hcm : comN q.1 q.2 (m.a (m.get P)) (m.n (m.get P)) = M.cmN q.1 (m.a (m.get P)) := by
        have n1 : ¬ kp q.1 q.2 <+: kp (m.a (m.get P)) (m.n (m.get P)) := by have := nd.key; rw [← this] at hnp; exact hnp.1
        have n2 : ¬ kp (m.a (m.get P)) (m.n (m.get P)) <+: kp q.1 q.2 := by have := nd.key; rw [← this] at hnp; exact hnp.2
        unfold kp at n1 n2
        rw [bl_pre _ _ _ _ (by omega)] at n1 n2
        unfold comN
        have g1 := M.cm_ge q.1 (m.a (m.get P)) q.2.toNat (by omega)
        have g2 := M.cm_ge q.1 (m.a (m.get P)) (m.n (m.get P)).toNat (by omega)
        by_cases h1 : q.2.toNat ≤ M.cmN q.1 (m.a (m.get P))
        · have e1 := g1.1 h1
          by_cases h2 : (m.n (m.get P)).toNat ≤ M.cmN q.1 (m.a (m.get P))
          · have e2 := g2.1 h2
            by_cases h3 : q.2.toNat ≤ (m.n (m.get P)).toNat
            · exact absurd ⟨h3, e1⟩ n1
            · exact absurd ⟨by omega, e2.symm⟩ n2
          · exact absurd ⟨by omega, e1⟩ n1
        · by_cases h2 : (m.n (m.get P)).toNat ≤ M.cmN q.1 (m.a (m.get P))
          · have e2 := g2.1 h2
            exact absurd ⟨by omega, e2.symm⟩ n2
          · omega
      obtain ⟨ck, cm⟩ := com_kq q (m.pre (m.get P)) hq nd.may
      rw [nd.key] at ck
      have hc32 : M.cl (M.cmN q.1 (m.a (m.get P)) : Nat) = (M.cmN q.1 (m.a (m.get P)) : Nat) := M.cl_id (by omega) (by have := (M.cm_is q.1 (m.a (m.get P))).1; omega)
      have hlk : lackM m q P = [comP q (m.pre (m.get P)), q] := by
        unfold lackM
        rw [if_neg nd.ne, if_neg hp, if_neg hin, hc32]
        show [(M.ct q.1 (M.cmN q.1 (m.a (m.get P)) : Nat), ((M.cmN q.1 (m.a (m.get P)) : Nat) : Int)), q] = [(M.ct q.1 (comN q.1 q.2 (m.a (m.get P)) (m.n (m.get P))), (comN q.1 q.2 (m.a (m.get P)) (m.n (m.get P)) : Int)), q]
        rw [hcm]
      rw [hlk]
      obtain ⟨g, gk, gb, gu, gi⟩ := ins_beside (v := v) (l := l) (r := r) hb hc x
      generalize comP q (m.pre (m.get P)) = c at ck cm hlk
      rw [gi]
      rw [gi] at hlen
      have hup : nodes (up (kq q) .nil) = [kq q] := by simp [up, nodes]
      have hnl : (nodes (g.fill (tell x (up (kq q) .nil)))).length = (nodes (.node k v l r)).length + 2 := by
        rw [← gi]
        cases b with
        | true => rw [ins_beside_r _ _ _ _ _ hb hc]; simp [nodes]; omega
        | false => rw [ins_beside_l _ _ _ _ _ hb hc]; simp [nodes]
      refine ⟨by simp, by simp; omega, fun hroom => ?_⟩
      simp only [List.length_cons, List.length_nil] at hroom
      have dc : Dir fs (kq c) := fun f hf => by rw [ck]; exact pre_lcp (hd f hf) (ofs f hf k (by simp [nodes]))
      have oc : Over (kq c) (.node k v l r) := ⟨!b, by rw [ck]; exact hc⟩
      obtain ⟨j, fl1, rfl⟩ := L3.freeCons (by omega)
      obtain ⟨R, hr1⟩ := L3.raise cm oc
      have R0 := R.lay
      rw [ck, gu, ← zip_end] at R0
      obtain ⟨A1, P1, pre1, is1, post1, R1⟩ := R0.way
      have d1 : Dir (fs ++ [g]) (kq q) := fun f hf => by
        rcases List.mem_append.1 hf with hf | hf
        · exact hd f hf
        · rw [List.mem_singleton.1 hf, gk, gb]; exact hb
      have hu1 : (raiseM m c P).used = m.used + 1 := by
        have := R.all; have := L.all; rw [hr1] at *; simp only [List.length_cons] at *; omega
      obtain ⟨j2, fl2, rfl⟩ := R1.freeCons (by rw [hr1, hu1]; omega)
      obtain ⟨R2, hr2⟩ := R1.raise hq (s := .nil) trivial
      have R3 := (R2.tell (some x) x (fun y hy => Option.some.inj hy)).lay
      rw [zip_end] at R3
      exact ⟨_, _, A1, P1, .cons L.ok (L3.hole.seek cm dc L3.sub (over_stop oc)) L3.pok.2 L3.freeLe.1 L3.freeLe.2 (.cons R1.ok (R1.hole.seek hq d1 R1.sub trivial) R1.pok.2 R1.freeLe.1 R1.freeLe.2 (.nil _)), R2.ok, R2.hole.seek hq d1 R2.sub (.inl rfl), R2.pok.2, _, _, R3, hr2.trans hr1⟩
/-! ### Cut -/
theorem key_in {t : Tr} (ht : Ok t) {fs : List Fr} {s : Tr} (e : t = zip fs s) {q : K} (hd : Dir fs q) (st : Stop s q) : q ∈ keys t ↔ ∃ x l r, s = .node q (some x) l r := by
  subst e
  induction fs with
  | nil =>
    constructor
    · intro h
      cases s with
      | nil => cases h
      | node k v l r =>
        have hk : k <+: q := root_pre ht (keys_nodes h)
        rcases st with rfl | e
        · change k ∈ keys (.node k v l r) at h
          rw [keys_node, List.mem_append] at h
          rcases h with h | h
          · rw [own_keys] at h
            cases v with
            | none => cases h
            | some x => exact ⟨x, l, r, rfl⟩
          · obtain ⟨_, hl, hr, _, _⟩ := ht
            rcases List.mem_append.1 h with h | h
            · exact absurd rfl (pre_ne (hl _ (keys_nodes h)))
            · exact absurd rfl (pre_ne (hr _ (keys_nodes h)))
        · exact absurd hk e
    · rintro ⟨x, l, r, rfl⟩
      show q ∈ keys (.node q (some x) l r)
      rw [keys_node, own_keys]; simp
  | cons f fs ih =>
    obtain ⟨k, v, b, o⟩ := f
    have hb : k ++ [b] <+: q := hd.head
    have hne : ∀ w : Option Int, q ∉ (own k w).map (·.1) := fun w h => by
      rw [own_keys] at h
      split at h
      · exact pre_ne hb (List.mem_singleton.1 h)
      · cases h
    cases b with
    | true =>
      obtain ⟨_, hl, hr, ol, or⟩ := ht
      rw [← ih hd.tail or]
      show q ∈ keys (.node k v o (zip fs s)) ↔ _
      rw [keys_node, List.mem_append, List.mem_append]
      refine ⟨fun h => ?_, fun h => .inr (.inr h)⟩
      rcases h with h | h | h
      · exact absurd h (hne v)
      · exact absurd List.prefix_rfl (apart (hl _ (keys_nodes h)) hb).2.1
      · exact h
    | false =>
      obtain ⟨_, hl, hr, ol, or⟩ := ht
      rw [← ih hd.tail ol]
      show q ∈ keys (.node k v (zip fs s) o) ↔ _
      rw [keys_node, List.mem_append, List.mem_append]
      refine ⟨fun h => ?_, fun h => .inr (.inl h)⟩
      rcases h with h | h | h
      · exact absurd h (hne v)
      · exact h
      · exact absurd List.prefix_rfl (apart hb (hr _ (keys_nodes h))).2.1
theorem cut_tree {m : Mm} {t : Tr} {ids fl : List Nat} (L : Lay m t ids fl) (ht : Ok t) {q : P2} (hq : may q = true) :
    ∃ f A P, seekM m q f .top .top = some (A, P) ∧ P.ok ∧ A.ok ∧ (hits m q P ↔ kq q ∈ keys t) ∧
      (hits m q P → (stays (m.setTell (m.get P) false 0) ((m.setTell (m.get P) false 0).get P) = false → 0 < (m.setTell (m.get P) false 0).used) ∧
        okM (settleM (m.setTell (m.get P) false 0) P) ∧ (settleM (m.setTell (m.get P) false 0) P).used ≤ 1000 ∧
        (stays (settleM (m.setTell (m.get P) false 0) P) ((settleM (m.setTell (m.get P) false 0) P).get A) = false → 0 < (settleM (m.setTell (m.get P) false 0) P).used) ∧
        ∃ ids' fl', Lay (settleM (settleM (m.setTell (m.get P) false 0) P) A) (del t (kq q)) ids' fl' ∧ (settleM (settleM (m.setTell (m.get P) false 0) P) A).room = m.room) := by
  obtain ⟨fs, s, rfl, hd, st⟩ := way t (kq q)
  obtain ⟨A, P, pre, is, post, L3⟩ := L.way
  obtain ⟨os, _, ofs⟩ := zip_ok ht
  have hit : hits m q P ↔ ∃ x l r, s = .node (kq q) (some x) l r := by
    unfold hits
    constructor
    · rintro ⟨h0, h1, h2⟩
      cases s with
      | nil => exact absurd L3.sub.1 h0
      | node k v l r =>
        obtain ⟨nd, _⟩ := treeAt_node.1 L3.sub
        have hk := nd.key
        rw [h1] at hk
        have hv := nd.told
        rw [h2] at hv
        cases v with
        | none => cases hv
        | some x => exact ⟨x, l, r, by rw [hk]⟩
    · rintro ⟨x, l, r, rfl⟩
      obtain ⟨nd, _⟩ := treeAt_node.1 L3.sub
      exact ⟨nd.ne, kq_inj nd.may hq nd.key, nd.told⟩
  refine ⟨_, A, P, L3.hole.seek hq hd L3.sub st, L3.pok.2, L3.pok.1, hit.trans (key_in ht rfl hd st).symm, fun hh => ?_⟩
  obtain ⟨x, l, r, rfl⟩ := hit.1 hh
  have T : Lay3 (m.setTell (m.get P) false 0) fs A P pre post (.node (kq q) none l r) is fl := L3.tell none 0 (fun y hy => by cases hy)
  obtain ⟨⟨is1, fl1, T1⟩, hr1, hp1⟩ := T.settle
  have hok : Ok (join (kq q) none l r) := join_ok os.2.1 os.2.2.1 os.2.2.2.1 os.2.2.2.2
  have ht1 : tidy (.node (kq q) none l r) = join (kq q) none l r := rfl
  rw [ht1] at T1
  refine ⟨hp1, T1.ok, T1.freeLe.2, ?_⟩
  rcases List.eq_nil_or_concat fs with rfl | ⟨fs', f, e⟩
  · have hAP : A = P := by
      rcases L3.hole.place with ⟨_, h1, h2, _⟩ | ⟨h, _⟩
      · rw [h1, h2]
      · exact absurd rfl h
    subst hAP
    obtain ⟨⟨is2, fl2, T2⟩, hr2, hp2⟩ := T1.settle
    refine ⟨hp2, pre ++ is2 ++ post, fl2, ?_, hr2.trans hr1⟩
    have := T2.lay
    rw [tidy_ok hok] at this
    show Lay _ (del (.node (kq q) (some x) l r) (kq q)) _ _
    rw [del_root]
    exact this
  · rw [List.concat_eq_append] at e
    subst e
    obtain ⟨A0, pre', post', i, io, hh, hA, hP, nd, ho, e1, e2⟩ := T1.hole.split
    have hsub : ∃ is', TreeAt (settleM (m.setTell (m.get P) false 0) P) ((settleM (m.setTell (m.get P) false 0) P).get A) (f.fill (join (kq q) none l r)) is' ∧ pre ++ is1 ++ post = pre' ++ is' ++ post' := by
      rw [hA]
      have hs := T1.sub
      obtain ⟨k, v, b, o⟩ := f
      cases b with
      | true =>
        refine ⟨i :: (io ++ is1), treeAt_node.2 ⟨nd, io, is1, ho, ?_, rfl⟩, ?_⟩
        · rw [hP] at hs ⊢; exact hs
        · obtain ⟨a1, a2⟩ := e1 rfl; rw [a1, a2]; simp
      | false =>
        refine ⟨i :: (is1 ++ io), treeAt_node.2 ⟨nd, is1, io, ?_, ho, rfl⟩, ?_⟩
        · rw [hP] at hs ⊢; exact hs
        · obtain ⟨a1, a2⟩ := e2 rfl; rw [a1, a2]; simp
    obtain ⟨is', hs', he⟩ := hsub
    have T1' : Lay3 (settleM (m.setTell (m.get P) false 0) P) fs' A0 A pre' post' (f.fill (join (kq q) none l r)) is' fl1 :=
      ⟨hh, hs', T1.free, by rw [← he]; exact T1.nd, by rw [← he]; exact T1.used, T1.all, T1.room, T1.ok⟩
    obtain ⟨⟨is2, fl2, T2⟩, hr2, hp2⟩ := T1'.settle
    refine ⟨hp2, pre' ++ is2 ++ post', fl2, ?_, hr2.trans hr1⟩
    have := T2.lay
    rw [del_end hd ofs, del_root]
    exact this
end Go.Proofs.Ytlgldoggnlcbkaa
