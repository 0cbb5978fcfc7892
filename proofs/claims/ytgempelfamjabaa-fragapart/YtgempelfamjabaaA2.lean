
/-
  A loop over a function whose rounds turn what the function looks at: the function's own text may lean on what holds between two rounds.
-/
import Derived.RangeFuncNested
import Derived.RangeFuncBound
import Derived.RangeFuncCalls
import Derived.RangeFuncLeaves
import Derived.Shelf.Abstract
import Derived.Shelf.RegionOpen
import Derived.OwnWalkIn
import Derived.TacticsInMore
import Derived.LoopNIn
import Derived.LoopIn
import Derived.Test.YtgempelfamjabaaA1
namespace Go.Proofs.Ytgempelfamjabaa
open Go.RowKit Go.Shelf

/-- the record of the loop lies at l, ready; the block of its deferred calls at d, empty -/
structure Rec (l d : Nat) (r : Loop) (W : World) : Prop where
  loop : W.heap[l]? = some (.loop r)
  def_ : W.heap[d]? = some (.deferred (some []))

/-- WHAT A FUNCTION THAT IS RANGED OVER OWES: 'Tell s args': what it may tell when s holds; 'Fin s': it may end so. 'B' is what the loop keeps for itself. -/
def Tells {σ : Type} (n : Nat) (gf : Nat) (lb : Array Value) (I : σ → World → Prop) (Tell : σ → Array Value → Prop) (Next : σ → Array Value → σ → Prop) (Fin : σ → Prop) (s0 : σ) : Prop :=
  ∀ (l : Nat) (B Bx : World → Prop) (W : World), (∀ W o, B W → B (World.alloc W o)) → (∀ W o, Bx W → Bx (World.alloc W o)) → (∀ W, B W → B (World.drew W)) → (∀ W, Bx W → Bx (World.drew W)) →
    (∀ s W1 args, I s W1 → B W1 → Tell s args → YieldAt Fence.wide (n - 1) Try.prog l args W1 fun e W' => (e = .returned (.bool true) ∧ ∃ s', Next s args s' ∧ I s' W' ∧ B W') ∨ (e = .returned (.bool false) ∧ Bx W')) →
    I s0 W → B W → CallsIn Fence.wide n Try.prog gf (#[.func (.yield l) #[] #[]] ++ lb) W fun e W' => (∃ v, e = .returned v) ∧ ((∃ s, Fin s ∧ I s W' ∧ B W') ∨ Bx W')

theorem wpIn_range {σ : Type} {n : Nat} {g : Operand} {ps : Array Tmp} {assign body : Code} {Q : Exit → Act → World → Prop} {a : Act} {w : World} (h1 : 1 ≤ n) {gf : Nat} {lb : Array Value} (hg : a.eval g = .func (.func gf) #[] lb) (eg : ∀ args w, (callFunc gf args).run Try.prog w = .ok (.enter gf args) w)
    (I : σ → World → Prop) (Ix : Code → World → Prop) {Tell : σ → Array Value → Prop} {Next : σ → Array Value → σ → Prop} {Fin : σ → Prop} (s0 : σ) (hseq : Tells (n - 1) gf lb I Tell Next Fin s0) (hps : ∀ s args, Tell s args → args.size = ps.size)
    (hIa : ∀ s W o, I s W → I s (World.alloc W o)) (hIp : ∀ s W l o o', w.heap.size ≤ l → W.heap[l]? = some o → o.isCells = false → I s W → I s (World.putObj W l o')) (hXa : ∀ c W o, Ix c W → Ix c (World.alloc W o)) (hXp : ∀ c W l o o', w.heap.size ≤ l → W.heap[l]? = some o → o.isCells = false → Ix c W → Ix c (World.putObj W l o')) (hXd : ∀ c W, Ix c W → Ix c (World.drew W)) (h0 : I s0 w)
    (hround : ∀ l s args W, w.heap.size ≤ l → I s W → Tell s args → assign.wpIn (Fence.wide.inRound l) (n - 1 - 1) Try.prog (Exit.then (fun a₁ W₁ => KeepsFrom w.heap.size W W₁ ∧ ∀ o o', W₁.heap[l]? = some o → o.isCells = false → body.wpIn (Fence.wide.inRound l) (n - 1 - 1) Try.prog (fun e _ W' => KeepsFrom w.heap.size (World.putObj W₁ l o') W' ∧ (match e with
        | .normal => ∃ s', Next s args s' ∧ I s' W'
        | .exit id => Ix (.exit id) W'
        | .ret => Ix .ret W'
        | _ => False)) a₁ (World.putObj W₁ l o')) (fun _ _ _ => False)) { tmps := (ps.zip args).foldl (fun t (p, v) => t.setIfInBounds p v) a.tmps, defers := [] } W)
    (hdone : ∀ (D : Nat) (s : σ) (W : World), w.heap.size ≤ D → Fin s → I s W → W.heap[D]? = some (.deferred (some [])) → Q .normal { a with defers := { target := .collected D, args := #[] } :: a.defers } W)
    (hstop : ∀ (D : Nat) (c : Code) (W : World), w.heap.size ≤ D → Ix c W → W.heap[D]? = some (.deferred (some [])) → c.wpIn Fence.wide n Try.prog Q { a with defers := { target := .collected D, args := #[] } :: a.defers } W) :
    (Code.rangeFunc g ps assign body).wpIn Fence.wide n Try.prog Q a w := by
  refine wpIn_rangeFunc fun fn hfn => ?_
  obtain ⟨z, hz⟩ : ∃ z, z = w.heap.size := ⟨_, rfl⟩
  let rc : LoopState → Option Code → Loop := fun st pe => { state := st, pending := pe, fn, tmps := a.tmps, params := ps, assign, body, defers := w.heap.size }
  have key : ∀ (st : LoopState) (pe : Option Code) (W : World) (o : Obj), Rec (z + 1) z (rc st pe) W → Rec (z + 1) z (rc st pe) (W.alloc o) := fun st pe W o h =>
    ⟨(Below.heap_alloc _ _ _ (Array.getElem?_eq_some_iff.1 h.loop).1).trans h.loop, (Below.heap_alloc _ _ _ (Array.getElem?_eq_some_iff.1 h.def_).1).trans h.def_⟩
  have hput : ∀ (st : LoopState) (pe : Option Code) (st' : LoopState) (pe' : Option Code) (W : World), Rec (z + 1) z (rc st pe) W → Rec (z + 1) z (rc st' pe') (W.putObj (z + 1) (.loop (rc st' pe'))) := fun st pe st' pe' W h =>
    ⟨World.putObj_heap_same (Array.getElem?_eq_some_iff.1 h.loop).1, (World.putObj_heap_other (by omega)).trans h.def_⟩
  have hkeep : ∀ (st : LoopState) (pe : Option Code) (W W' : World), KeepsFrom w.heap.size W W' → Rec (z + 1) z (rc st pe) W → Rec (z + 1) z (rc st pe) W' := fun st pe W W' hk h =>
    ⟨hk.same _ _ (by omega) h.loop rfl, hk.same _ _ (by omega) h.def_ rfl⟩
  have r0 : Rec (z + 1) z (rc .ready none) ((w.alloc (.deferred (some []))).alloc (.loop (rc .ready none))) := by
    refine ⟨?_, ?_⟩
    · have := World.alloc_heap_new (w.alloc (.deferred (some []))) (.loop (rc .ready none))
      rw [World.size_alloc, ← hz] at this; exact this
    · rw [hz]; exact (Below.heap_alloc _ _ _ (by simp)).trans (World.alloc_heap_new w _)
  obtain ⟨W1, hW1⟩ : ∃ W1, W1 = (w.alloc (.deferred (some []))).alloc (.loop (rc .ready none)) := ⟨_, rfl⟩
  rw [← hW1] at r0
  have hI1 : I s0 W1 := by rw [hW1]; exact hIa _ _ _ (hIa _ _ _ h0)
  refine ⟨z + 1, [{ target := .collected z, args := #[] }], W1, { target := .fn (.func gf) lb, args := #[.func (.yield (z + 1)) #[] #[]] }, W1, gf, #[.func (.yield (z + 1)) #[] #[]] ++ lb, W1, by rw [hW1]; rw [hz]; exact run_enterLoop_outer _ _ _ _ _, ?_, ?_, ?_, fun _ => h1, ?_⟩
  · simp only [resolve, hg]; simp [go_sem]
  · intro f' hf'; simp [Target.leads] at hf'; subst hf'; trivial
  · simp [invoke, go_sem, eg]
  · refine (hseq (z + 1) (Rec (z + 1) z (rc .ready none)) (fun W => ∃ c, Ix c W ∧ Rec (z + 1) z (rc .done (some c)) W) _ (key _ _) (fun W o ⟨c, hc, hr⟩ => ⟨c, hXa c W o hc, key _ _ W o hr⟩) (fun W h => ⟨h.loop, h.def_⟩) (fun W ⟨c, hc, hr⟩ => ⟨c, hXd c W hc, hr.loop, hr.def_⟩) ?_ hI1 r0).mono ?_
    · intro s W args hi hr ht
      have hy := run_yield (P := Try.prog) (args := args) hr.loop (hps s args ht)
      refine ⟨fn, _, assign, body, hy, roundIn_of_wpIn hfn (wpIn_mono (hround (z + 1) s args W (by omega) hi ht) ?_)⟩
      rintro e a1 W1 hp
      cases e with
      | normal =>
        obtain ⟨hk1, hb1⟩ := hp
        have r1 := hkeep _ _ W W1 hk1 hr
        refine ⟨_, run_beginRound r1.loop rfl, wpIn_mono (hb1 _ (.loop (rc .busy none)) r1.loop rfl) ?_⟩
        rintro e a3 W3 ⟨hk3, hp3⟩
        have r3 := hkeep _ _ _ W3 hk3 (hput _ _ .busy none W1 r1)
        cases e with
        | normal =>
          obtain ⟨s', hn, hi3⟩ := hp3
          exact ⟨_, _, run_endRound (P := Try.prog) none r3.loop, .inl ⟨rfl, s', hn, hIp s' W3 _ _ _ (by omega) r3.loop rfl hi3, hput _ _ _ _ W3 r3⟩⟩
        | exit id => exact ⟨_, _, run_endRound (P := Try.prog) (some (.exit id)) r3.loop, .inr ⟨rfl, .exit id, hXp _ W3 _ _ _ (by omega) r3.loop rfl hp3, hput _ _ _ _ W3 r3⟩⟩
        | goto t => exact hp3.elim
        | ret => exact ⟨_, _, run_endRound (P := Try.prog) (some .ret) r3.loop, .inr ⟨rfl, .ret, hXp _ W3 _ _ _ (by omega) r3.loop rfl hp3, hput _ _ _ _ W3 r3⟩⟩
        | panic ch => exact hp3.elim
        | outgrown => exact hp3.elim
      | exit id => exact hp.elim
      | goto t => exact hp.elim
      | ret => exact hp.elim
      | panic ch => exact hp.elim
      | outgrown => exact hp.elim
    · rintro e W2 ⟨⟨v, rfl⟩, (⟨s, hF, hi, hr⟩ | ⟨c, hx, hr⟩)⟩
      · refine ⟨none, _, run_endLoop (P := Try.prog) hr.loop (by simp [rc]), hdone z s _ (by omega) hF (hIp s W2 _ _ _ (by omega) hr.loop rfl hi) ((World.putObj_heap_other (by omega)).trans hr.def_)⟩
      · refine ⟨some c, _, run_endLoop (P := Try.prog) hr.loop (by simp [rc]), hstop z c _ (by omega) (hXp c W2 _ _ _ (by omega) hr.loop rfl hx) ((World.putObj_heap_other (by omega)).trans hr.def_)⟩
end Go.Proofs.Ytgempelfamjabaa
