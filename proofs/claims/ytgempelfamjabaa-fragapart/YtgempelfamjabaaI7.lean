
/-
  Package ip4: the contract of areRight.
-/
import Derived.Test.YtgempelfamjabaaI6
namespace Go.Proofs.Ytgempelfamjabaa
open Go.RowKit Go.Shelf
attribute [local go_sem] Oper.semAt_some

theorem put_but (W : World) (l : Nat) (o : Obj) : But (fun g => g = l) W (W.putObj l o) := by
  have hg := grownBy_putObj' W l o
  exact ⟨hg.os, hg.tape, hg.output, hg.size, fun k hk hn => hg.block k hk (fun e => hn (Option.some.inj e))⟩
theorem But.put {K : Nat → Prop} {a W : World} (h : But K a W) {l : Nat} (hl : a.heap.size ≤ l) (o : Obj) : But K a (W.putObj l o) :=
  h.trans' (put_but W l o) (fun g hg e => by omega)
theorem KeepsFrom.of_but {B : Nat} {K : Nat → Prop} {W W' : World} (hb : But K W W') (hk : ∀ g, K g → ∃ o, W.heap[g]? = some o ∧ o.isCells = true) : KeepsFrom B W W' :=
  ⟨hb.size, fun k o _ ho hc => (hb.block k (Array.getElem?_eq_some_iff.1 ho).1 (fun e => by
    obtain ⟨o', h1, h2⟩ := hk k e
    rw [ho] at h1; cases h1; rw [hc] at h2; cases h2)).trans ho⟩
theorem cells_of_cell {W : World} {p : Addr} {v : Value} (h : W.cell? p = some v) : ∃ o, W.heap[p.block]? = some o ∧ o.isCells = true := by
  unfold World.cell? at h
  cases ho : W.heap[p.block]? with
  | none => rw [ho] at h; simp at h
  | some o => refine ⟨o, rfl, ?_⟩; rw [ho] at h; cases o <;> simp_all [Obj.isCells]
theorem okO_step (b : List Int) (h : 0 < b.length) : okO b = if b[0]?.getD 0 = 0 then b.all (fun x => decide (x = 0)) else if szO b = 0 then false else okO (b.drop (szO b)) := by
  rw [okO, dif_neg (by omega)]
  rfl
/-- between two rounds: the options up to there are right; a round has ended the loop -/
def RiI (w1 : World) (bs : List Int) (q : Nat × Bool) (W : World) : Prop := But (fun _ => False) w1 W ∧ q.2 = false ∧ okO bs = okO (bs.drop q.1)
def RiX (w1 : World) (s : Nat) (bs : List Int) (id : Nat) (c : Code) (W : World) : Prop := c = .exit id ∧ But (Only s) w1 W ∧ W.cell? ⟨s, 0, none⟩ = some (.bool (okO bs))
theorem RiX.keep {w1 : World} {s id : Nat} {bs : List Int} {c : Code} {W W' : World} {K : Nat → Prop} (h : RiX w1 s bs id c W) (hr : s < w1.heap.size) (hb : But K W W') (hk : ∀ g, K g → w1.heap.size ≤ g) : RiX w1 s bs id c W' := by
  obtain ⟨h1, h5, h6⟩ := h
  refine ⟨h1, h5.trans' hb (fun q hq e => by have := hk q e; omega), ?_⟩
  exact (hb.cell (p := ⟨s, 0, none⟩) (Nat.lt_of_lt_of_le hr h5.size) (fun e => by have : w1.heap.size ≤ s := hk _ e; omega)).trans h6

end Go.Proofs.Ytgempelfamjabaa
