/- Ranging over a function that feeds hops: what it means that it does, and what a loop that gathers them comes to. -/
import Derived.Test.YtihgpllbgliplaaPathIf
import Derived.RangeFuncNested
import Derived.RangeFuncBound
import Derived.RangeFuncCalls
import Derived.RangeFuncLeaves
import Derived.RangeFuncBox
import Derived.Shelf.Abstract
import Derived.WalkKit
import Derived.OwnWalkIn
import Derived.TacticsInMore
import Derived.LoopIn
namespace Go.Proofs.Ytihgpllbgliplaa
open Go.ChangeShapes Go.WideShapes Go.ChangeAt Go.RowKit Pk Cf Pa
set_option linter.unusedVariables false
set_option linter.unusedSimpArgs false

/-- what whoever ranges over hops lets the one that feeds him rely on: J: what he knows when so many have come; T: his blocks; E: those of the one that feeds -/
structure HTakes (l N0 n0 : Nat) (E : Nat → Prop) (J : List Hp → (Nat → Prop) → World → Prop) : Prop where
  base : ∀ pre T W, J pre T W → ∀ k, T k → N0 ≤ k ∧ k < W.heap.size ∧ ¬ E k
  step : ∀ pre T W W', J pre T W → Keeps (fun k => (n0 ≤ k ∨ E k) ∧ ¬ T k) W W' → J pre T W'
  take : ∀ pre h m T W, J pre T W → n0 ≤ W.heap.size → pre.length ≤ 100 →
    YieldAt Fence.wide m Try.prog l #[vH h] W fun e W' => e = .returned (.bool true) ∧ ∃ T', J (pre ++ [h]) T' W' ∧ Keeps T W W' ∧ ∀ k, T' k → T k ∨ W.heap.size ≤ k
/-- the function feeds just these hops -/
def HFeeds (gf : Nat) (lb : Array Value) (L : List Hp) (E : Nat → Prop) (N0 : Nat) (w0 : World) : Prop :=
  ∀ (n l : Nat) (J : List Hp → (Nat → Prop) → World → Prop) (T : Nat → Prop) (W : World), Below w0.heap.size w0 W → HTakes l N0 W.heap.size E J → J [] T W →
    CallsIn Fence.wide n Try.prog gf (#[.func (.yield l) #[] #[]] ++ lb) W fun e W' => (∃ v, e = .returned v) ∧ ∃ T', J L T' W'
/-- what the caller knows stays behind whatever makes new memory only -/
theorem HTakes.below {l N0 n0 : Nat} {E : Nat → Prop} {J : List Hp → (Nat → Prop) → World → Prop} (h : HTakes l N0 n0 E J) {pre : List Hp} {T : Nat → Prop} {W W' : World} (hj : J pre T W) (hb : Below W.heap.size W W') : J pre T W' :=
  h.step pre T W W' hj (Keeps.of_below hb)

theorem own_kept {S : Nat → Prop} {W W' : World} {base e sz n : Nat} {v : Value} {xs : List Value} (h : W.ownsRow base e sz v n xs) (hk : Keeps S W W') (hS : ∀ k, v.ownBlock = some k → ¬ S k) : W'.ownsRow base e sz v n xs := by
  refine ⟨h.1, ?_⟩
  rcases h.2 with h0 | ⟨g, cap, cur, hv, hbg, hg, rest⟩
  · exact .inl h0
  · exact .inr ⟨g, cap, cur, hv, hbg, (hk.block g (Array.getElem?_eq_some_iff.1 hg).1 (hS g (by rw [hv]; rfl))).trans hg, rest⟩
theorem own_block {W : World} {base e sz n : Nat} {v : Value} {xs : List Value} (h : W.ownsRow base e sz v n xs) {k : Nat} (hk : v.ownBlock = some k) : ∃ cs z, W.heap[k]? = some (.cells cs e z) ∧ base ≤ k := by
  rcases h.2 with ⟨rfl, _⟩ | ⟨g, cap, cur, rfl, hbg, hg, _⟩
  · simp [Value.ownBlock] at hk
  · obtain rfl : g = k := by simpa [Value.ownBlock] using hk
    exact ⟨_, _, hg, hbg⟩
theorem own_slice {W : World} {base e sz n : Nat} {v : Value} {xs : List Value} (h : W.ownsRow base e sz v n xs) : ∃ a c, v = .slice a n c := by
  rcases h.2 with ⟨rfl, rfl⟩ | ⟨g, cap, cur, rfl, _⟩
  · exact ⟨none, 0, rfl⟩
  · exact ⟨_, _, rfl⟩
theorem keeps_putObj {S : Nat → Prop} (W : World) (l : Nat) (o : Obj) (h : S l) : Keeps S W (W.putObj l o) :=
  ⟨rfl, rfl, rfl, by simp, fun k _ hn => World.putObj_heap_other (fun e => hn (by rw [e]; exact h))⟩
theorem keeps_grown {W W' : World} {row : Option Nat} (h : W.grownBy W' row) : Keeps (fun k => row = some k) W W' :=
  ⟨h.os, h.tape, h.output, h.size, fun k hk hn => h.block k hk (fun e => hn e.symm)⟩
theorem box_kept {S : Nat → Prop} {W W' : World} {B : Nat} {t : TypeId} {v : Value} (h : Boxed W B t v) (hk : Keeps S W W') (hS : ¬ S B) : Boxed W' B t v := (hk.block B h.lt hS).trans h

/-- append to a row of the call's own, within a fence: with the place of what comes back -/
theorem wpListIn_append_place {F : Fence} {n : Nat} {P : Program} (w : World) {ops : Array Oper} {rest : List Oper} {o : Oper} {a : Act} {Q : Exit → Act → World → Prop} (hgd : o.guard = none) (s x : Operand) (t : TypeId)
    (ho : o.op = .call { callee := .builtin .append, args := #[s, x], argTypes := #[t, t] })
    (base : Nat) (e : TypeId) (i : TypeInfo) (z : Value) (size bytes : Nat) (ht : P.underlying t = some (.slice e)) (hi : P.info? e = some i) (hz : i.zero = some z)
    (hsize : i.size = size) (hby : i.bytes = bytes) (hzs : z.cells.size = size) (hsz : 0 < size)
    (v : Value) (k : Nat) (xs : List Value) (hs : a.eval s = v) (hown : w.ownsRow base e size v k xs)
    (ad : Addr) (m c : Nat) (news : List Value) (hx : a.eval x = .slice (some ad) m c) (hl : news.length = m * size) (hnews : ∀ j u, news[j]? = some u → w.cell? (ad.add j) = some u) (h1 : ∀ u ∈ news, u.oneCell' = true)
    (h63 : k + m ≤ maxLen) (hbytes : (k + m) * bytes ≤ 140737488355328) (hbase : base ≤ w.heap.size)
    (h : ∀ v' w', w'.ownsRow base e size v' (k + m) (xs ++ news) → w.grownBy w' v.ownBlock → (∀ k, v'.ownBlock = some k → v.ownBlock = some k ∨ w.heap.size ≤ k) → wpListIn F n P ops Q rest (a.put o.dst v') w') : wpListIn F n P ops Q (o :: rest) a w := by
  refine wpListIn_plain hgd fun K hK' => ?_
  obtain ⟨v', w', hr, h2, h3, h4⟩ := run_append_own (P := P) w base t o.type e i z size bytes ht hi hz hsize hby hzs hsz v k xs hown ad m c news hl hnews h1 h63 hbytes hbase
  have hp := append_place (P := P) base t o.type e i z size bytes ht hi hz hsize hby hzs hsz v k xs hown ad m c news hl hnews h1 h63 hbytes hbase hr
  unfold Oper.wpIn
  refine ⟨?_, ?_⟩
  · simp [Oper.about, ho, resolve, Target.leads, Sem.run_pure]
  · rw [Oper.semAt_plain F _ _ (by rw [ho]; intro c hc'; cases hc')]
    simp [execOp, ho, resolve, invoke, builtin, hs, hx, hr, Result.andThen]
    exact hK' _ _ (h v' w' h2 h3 hp)

/-- a loop over what feeds, whose body joins each hop to a row in a box; 'we' is the world of the call's beginning -/
theorem wpIn_hops {g : Operand} {p : Tmp} {assign body : Code} {Q : Exit → Act → World → Prop} {a : Act} {we w : World} {n gf : Nat} {lb : Array Value} {L : List Hp} {E : Nat → Prop} {B0 : Nat}
    (h1 : 1 ≤ n) (hg : a.eval g = .func (.func gf) #[] lb) (en : ∀ args w, (callFunc gf args).run Try.prog w = .ok (.enter gf args) w) (hF : HFeeds gf lb L E we.heap.size w) (hb0 : Below we.heap.size we w) (hB0 : we.heap.size ≤ B0) (hE : ∀ k, E k → we.heap.size ≤ k ∧ k < w.heap.size) (hEB : ¬ E B0)
    (box : Boxed w B0 39 (.slice none 0 0))
    (hround : ∀ (l m : Nat) (h : Hp) (pre : List Hp) (v : Value) (W : World), l < W.heap.size → Boxed W B0 39 v → W.ownsRow w.heap.size 34 7 v pre.length (flatV fH pre) → pre.length ≤ 100 → w.heap.size ≤ W.heap.size →
      assign.wpIn (Fence.wide.inRound l) m Try.prog (Exit.then (fun a1 W1 => Below W.heap.size W W1 ∧ ∀ W2, Keeps (fun k => k = l) W1 W2 → Boxed W2 B0 39 v → W2.ownsRow w.heap.size 34 7 v pre.length (flatV fH pre) → w.heap.size ≤ W2.heap.size →
        body.wpIn (Fence.wide.inRound l) m Try.prog (fun e _ W3 => e = .normal ∧ ∃ v', Boxed W3 B0 39 v' ∧ W3.ownsRow w.heap.size 34 7 v' (pre ++ [h]).length (flatV fH (pre ++ [h])) ∧ Keeps (fun k => k = B0 ∨ v.ownBlock = some k) W2 W3 ∧ ∀ k, v'.ownBlock = some k → v.ownBlock = some k ∨ W2.heap.size ≤ k) a1 W2)
        (fun _ _ _ => False)) { tmps := a.tmps.setIfInBounds p (vH h), defers := [] } W)
    (hdone : ∀ (D : Nat) (v : Value) (W : World), w.heap.size ≤ D → W.heap[D]? = some (.deferred (some [])) → Boxed W B0 39 v → W.ownsRow w.heap.size 34 7 v L.length (flatV fH L) → Below we.heap.size we W →
      Q .normal { a with defers := { target := .collected D, args := #[] } :: a.defers } W) :
    (Code.rangeFunc g #[p] assign body).wpIn Fence.wide n Try.prog Q a w := by
  refine wpIn_rangeFunc (fun fn hfn => ?_)
  obtain ⟨R0, hR0⟩ : ∃ R0 : Loop, R0 = { state := .ready, pending := none, fn, tmps := a.tmps, params := #[p], assign, body, defers := w.heap.size } := ⟨_, rfl⟩
  obtain ⟨W1, hW1⟩ : ∃ W1, (w.alloc (.deferred (some []))).alloc (.loop R0) = W1 := ⟨_, rfl⟩
  have hsz1 : W1.heap.size = w.heap.size + 2 := by rw [← hW1]; simp
  have hbw : Below w.heap.size w W1 := by rw [← hW1]; exact ((Below.refl _ w).alloc (Nat.le_refl _) _).alloc (by simp) _
  have hL1 : W1.heap[w.heap.size + 1]? = some (.loop R0) := by
    rw [← hW1]; have := World.alloc_heap_new (w.alloc (.deferred (some []))) (.loop R0); rwa [World.size_alloc] at this
  have hD1 : W1.heap[w.heap.size]? = some (.deferred (some [])) := by
    rw [← hW1]; exact (Below.heap_alloc _ _ _ (by simp)).trans (World.alloc_heap_new w _)
  have hbox1 : Boxed W1 B0 39 (.slice none 0 0) := (hbw.block B0 box.lt).trans box
  have hw0 : we.heap.size ≤ w.heap.size := hb0.size
  have hB1 : B0 < w.heap.size := box.lt
  refine ⟨w.heap.size + 1, [{ target := .collected w.heap.size, args := #[] }], W1, { target := .fn (.func gf) lb, args := #[.func (.yield (w.heap.size + 1)) #[] #[]] }, W1, gf,
    #[.func (.yield (w.heap.size + 1)) #[] #[]] ++ lb, W1, ?_, ?_, fun _ _ => trivial, ?_, fun _ => h1, ?_⟩
  · rw [← hW1, hR0]; exact run_enterLoop_outer _ _ _ _ _
  · simp only [resolve, hg]
    simp [go_sem]
  · simp [invoke, go_sem, en]
  refine (hF (n - 1) (w.heap.size + 1)
    (fun pre T W => ∃ v, (∀ k, T k ↔ (k = B0 ∨ k = w.heap.size ∨ k = w.heap.size + 1 ∨ v.ownBlock = some k)) ∧ Boxed W B0 39 v ∧ W.ownsRow w.heap.size 34 7 v pre.length (flatV fH pre) ∧
      W.heap[w.heap.size + 1]? = some (.loop R0) ∧ W.heap[w.heap.size]? = some (.deferred (some [])) ∧ Below we.heap.size we W)
    (fun k => k = B0 ∨ k = w.heap.size ∨ k = w.heap.size + 1) W1 hbw ⟨?base, ?step, ?take⟩ ?start).mono ?done
  case start => exact ⟨_, fun k => by simp [Value.ownBlock], hbox1, World.ownsRow_nil _ _ _ _, hL1, hD1, hb0.trans (hbw.mono hw0)⟩
  case base =>
    rintro pre T W ⟨v, hT, hv, hr, hl, hd, hb⟩ k hk
    have hlt : ∀ {k : Nat} {o : Obj}, W.heap[k]? = some o → k < W.heap.size := fun h => (Array.getElem?_eq_some_iff.1 h).1
    rcases (hT k).1 hk with rfl | rfl | rfl | h
    · exact ⟨hB0, hv.lt, hEB⟩
    · exact ⟨hw0, hlt hd, fun h => absurd (hE _ h).2 (Nat.lt_irrefl _)⟩
    · exact ⟨by omega, hlt hl, fun h => by have := (hE _ h).2; omega⟩
    · obtain ⟨cs, z, hg, hbk⟩ := own_block hr h
      exact ⟨Nat.le_trans hw0 hbk, hlt hg, fun h => by have := (hE _ h).2; omega⟩
  case step =>
    rintro pre T W W' ⟨v, hT, hv, hr, hl, hd, hb⟩ hk
    have hlt : ∀ {k : Nat} {o : Obj}, W.heap[k]? = some o → k < W.heap.size := fun h => (Array.getElem?_eq_some_iff.1 h).1
    refine ⟨v, hT, box_kept hv hk (fun h => h.2 ((hT _).2 (.inl rfl))), own_kept hr hk (fun k e h => h.2 ((hT _).2 (.inr (.inr (.inr e))))),
      (hk.block _ (hlt hl) (fun h => h.2 ((hT _).2 (.inr (.inr (.inl rfl)))))).trans hl, (hk.block _ (hlt hd) (fun h => h.2 ((hT _).2 (.inr (.inl rfl))))).trans hd,
      hb.trans (hk.below hb.size (fun k h => by
        rcases h.1 with h | h
        · omega
        · exact (hE k h).1))⟩
  case take =>
    rintro pre h m T W ⟨v, hT, hv, hr, hl, hd, hb⟩ hn0 hpre
    have hlt : ∀ {W : World} {k : Nat} {o : Obj}, W.heap[k]? = some o → k < W.heap.size := fun h => (Array.getElem?_eq_some_iff.1 h).1
    have hy := run_yield (P := Try.prog) (args := #[vH h]) hl (by rw [hR0]; rfl)
    have hy' : (Instr.yield (w.heap.size + 1) #[vH h]).run Try.prog W = .ok (.round (w.heap.size + 1) fn (a.tmps.setIfInBounds p (vH h)) assign body) W := by
      rw [hy, hR0]; simp
    refine ⟨fn, _, assign, body, hy', roundIn_of_wpIn hfn ?_⟩
    have hws : w.heap.size ≤ W.heap.size := Nat.le_of_lt (hlt hd)
    refine wpIn_mono (hround (w.heap.size + 1) m h pre v W (hlt hl) hv hr hpre hws) ?_
    rintro e a1 Wa hp
    cases e with
    | normal =>
      obtain ⟨hba, hp⟩ := hp
      have ka : Keeps (fun k => False) W Wa := Keeps.of_below hba
      replace hv := box_kept hv ka (fun h => h)
      replace hr := own_kept hr ka (fun _ _ h => h)
      replace hl := (hba.block _ (hlt hl)).trans hl
      replace hd := (hba.block _ (hlt hd)).trans hd
      replace hb := hb.trans (hba.mono hb.size)
      obtain ⟨W2, hW2⟩ : ∃ W2, Wa.putObj (w.heap.size + 1) (.loop { R0 with state := .busy }) = W2 := ⟨_, rfl⟩
      have k2 : Keeps (fun k => k = w.heap.size + 1) Wa W2 := hW2 ▸ keeps_putObj Wa _ _ rfl
      have nb : B0 ≠ w.heap.size + 1 := by omega
      have nr : ∀ k, v.ownBlock = some k → k ≠ w.heap.size + 1 := fun k e e2 => by
        obtain ⟨cs, z, hg, _⟩ := own_block hr e
        rw [e2, hl] at hg
        cases hg
      have hl2 : W2.heap[w.heap.size + 1]? = some (.loop { R0 with state := .busy }) := hW2 ▸ World.putObj_heap_same (hlt hl)
      have hd2 : W2.heap[w.heap.size]? = some (.deferred (some [])) := (k2.block _ (hlt hd) (by omega)).trans hd
      refine ⟨W2, hW2 ▸ run_beginRound hl (by rw [hR0]), ?_⟩
      refine wpIn_mono (hp W2 k2 (box_kept hv k2 nb) (own_kept hr k2 nr) (Nat.le_trans (Nat.le_trans hws hba.size) k2.size)) ?_
      rintro e a3 W3 ⟨rfl, v', hv3, hr3, k3, hpl⟩
      have nr2 : ∀ k, k = w.heap.size + 1 → ¬ (k = B0 ∨ v.ownBlock = some k) := fun k e h => by
        rcases h with h | h
        · omega
        · exact nr k h e
      have nd2 : ¬ (w.heap.size = B0 ∨ v.ownBlock = some w.heap.size) := fun h => by
        rcases h with h | h
        · omega
        · obtain ⟨cs, z, hg, _⟩ := own_block hr h
          rw [hd] at hg
          cases hg
      have hl3 : W3.heap[w.heap.size + 1]? = some (.loop { R0 with state := .busy }) := (k3.block _ (hlt hl2) (nr2 _ rfl)).trans hl2
      have hd3 : W3.heap[w.heap.size]? = some (.deferred (some [])) := (k3.block _ (hlt hd2) nd2).trans hd2
      have hend := run_endRound (P := Try.prog) none hl3
      have eR : ({ ({ R0 with state := .busy } : Loop) with state := if (none : Option Code).isNone then .ready else .done, pending := none } : Loop) = R0 := by rw [hR0]; rfl
      rw [eR] at hend
      obtain ⟨W4, hW4⟩ : ∃ W4, W3.putObj (w.heap.size + 1) (.loop R0) = W4 := ⟨_, rfl⟩
      rw [hW4] at hend
      have k4 : Keeps (fun k => k = w.heap.size + 1) W3 W4 := hW4 ▸ keeps_putObj W3 _ _ rfl
      have hT1 : T (w.heap.size + 1) := (hT _).2 (.inr (.inr (.inl rfl)))
      have kall : Keeps T Wa W4 := ((k2.mono (fun k _ e => by rw [e]; exact hT1)).trans k3 (fun k _ h => by
          rcases h with h | h
          · exact (hT _).2 (.inl h)
          · exact (hT _).2 (.inr (.inr (.inr h))))).trans k4 (fun k _ e => by rw [e]; exact hT1)
      have nr4 : ∀ k, v'.ownBlock = some k → k ≠ w.heap.size + 1 := fun k e e2 => by
        obtain ⟨cs, z, hg, _⟩ := own_block hr3 e
        rw [e2, hl3] at hg
        cases hg
      refine ⟨_, W4, hend, rfl, fun k => k = B0 ∨ k = w.heap.size ∨ k = w.heap.size + 1 ∨ v'.ownBlock = some k, ⟨v', fun k => Iff.rfl, box_kept hv3 k4 nb, own_kept hr3 k4 nr4,
        hW4 ▸ World.putObj_heap_same (hlt hl3), (k4.block _ (hlt hd3) (by omega)).trans hd3, ?_⟩, (ka.mono (fun _ _ h => h.elim)).trans kall (fun _ _ h => h), ?_⟩
      · exact hb.trans (kall.below hb.size (fun k hk => by
          rcases (hT k).1 hk with h | h | h | h
          · omega
          · omega
          · omega
          · obtain ⟨cs, z, _, hbk⟩ := own_block hr h
            exact Nat.le_trans hw0 hbk))
      · intro k hk
        rcases hk with h | h | h | h
        · exact .inl ((hT k).2 (.inl h))
        · exact .inl ((hT k).2 (.inr (.inl h)))
        · exact .inl ((hT k).2 (.inr (.inr (.inl h))))
        · rcases hpl k h with h | h
          · exact .inl ((hT k).2 (.inr (.inr (.inr h))))
          · exact .inr (Nat.le_trans hba.size (Nat.le_trans k2.size h))
    | ret => exact hp.elim
    | exit id => exact hp.elim
    | goto t => exact hp.elim
    | panic ch => exact hp.elim
    | outgrown => exact hp.elim
  case done =>
    rintro e W2 ⟨⟨u, rfl⟩, T', v, hT, hv, hr, hl, hd, hb⟩
    have hlt : ∀ {W : World} {k : Nat} {o : Obj}, W.heap[k]? = some o → k < W.heap.size := fun h => (Array.getElem?_eq_some_iff.1 h).1
    have hend := run_endLoop (P := Try.prog) hl (by rw [hR0]; simp)
    have ep : R0.pending = none := by rw [hR0]
    obtain ⟨RX, hRX⟩ : ∃ RX : Loop, { R0 with state := .exhausted } = RX := ⟨_, rfl⟩
    rw [hRX, ep] at hend
    have k3 : Keeps (fun k => k = w.heap.size + 1) W2 (W2.putObj (w.heap.size + 1) (.loop RX)) := keeps_putObj W2 _ _ rfl
    have nr : ∀ k, v.ownBlock = some k → k ≠ w.heap.size + 1 := fun k e e2 => by
      obtain ⟨cs, z, hg, _⟩ := own_block hr e
      rw [e2, hl] at hg
      cases hg
    refine ⟨none, _, hend, hdone w.heap.size v _ (Nat.le_refl _) ((k3.block _ (hlt hd) (by omega)).trans hd) (box_kept hv k3 (by omega)) (own_kept hr k3 nr) (hb.trans (k3.below hb.size (fun k e => by omega)))⟩
end Go.Proofs.Ytihgpllbgliplaa

