
/-
  Contracts of package pool: See.
-/
import Derived.Test.YtjkfjijnjkpbbaaK3
namespace Go.Proofs.Ytjkfjijnjkpbbaa
open Go.RowKit

theorem Gro.low {B B' : Nat} {w : World} {v : Value} {bs : List Int} (h : Gro B w v bs) (hb : B' ≤ B) : Gro B' w v bs := by
  obtain ⟨h1, h2 | ⟨g, cap, cur, rfl, hg, hh, rr⟩⟩ := h
  · exact ⟨h1, .inl h2⟩
  · exact ⟨h1, .inr ⟨g, cap, cur, rfl, by omega, hh, rr⟩⟩
theorem Gro.blk {B : Nat} {w : World} {v : Value} {bs : List Int} (h : Gro B w v bs) : ∀ k, v.ownBlock = some k → B ≤ k ∧ k < w.heap.size := World.ownsRow.lt h
theorem Gro.keep {B : Nat} {w w' : World} {v : Value} {bs : List Int} (h : Gro B w v bs) {K : Nat → Prop} (hb : But K w w') (hk : ∀ k, v.ownBlock = some k → ¬ K k) : Gro B w' v bs := by
  obtain ⟨h1, h2 | ⟨g, cap, cur, rfl, hg, hh, rr⟩⟩ := h
  · exact ⟨h1, .inl h2⟩
  · exact ⟨h1, .inr ⟨g, cap, cur, rfl, hg, by rw [hb.block g (Array.getElem?_eq_some_iff.1 hh).1 (hk g rfl)]; exact hh, rr⟩⟩

/-- what a See tells -/
def seX (n : Nat) (B : Nat → Buf) (id : Int) : Buf := if usd n B id = true then B id.toNat else ⟨0, [], []⟩

/-- a See's answer: in new memory, head and data apart -/
structure Seen (s : Nat) (w' : World) (x : Buf) (e : Int) (hv dv : Value) : Prop where
  h : Gro s w' hv x.head
  d : Gro s w' dv x.data
  ap : ∀ k, hv.ownBlock = some k → dv.ownBlock ≠ some k

/-- three cells of a new struct -/
structure PTri (W : World) (s : Nat) : Prop where
  c0 : W.cell? ⟨s, 0, none⟩ = some (.int .i64 0)
  c1 : W.cell? ⟨s, 1, none⟩ = some (.slice none 0 0)
  c2 : W.cell? ⟨s, 2, none⟩ = some (.slice none 0 0)
  f : ∀ k, W.frozen? ⟨s, k, none⟩ = false
theorem PTri.but {W W' : World} {s : Nat} {K : Nat → Prop} (h : PTri W s) (hb : But K W W') (hk : ¬ K s) : PTri W' s := by
  have hlt := World.block_lt_of_cell? W _ h.c0
  exact ⟨(hb.cell (p := ⟨s, 0, none⟩) hlt hk).trans h.c0, (hb.cell (p := ⟨s, 1, none⟩) hlt hk).trans h.c1, (hb.cell (p := ⟨s, 2, none⟩) hlt hk).trans h.c2, fun k => (hb.frozen (p := ⟨s, k, none⟩) hlt hk).trans (h.f k)⟩
theorem PTri.new (w : World) (t : TypeId) : PTri (w.alloc (.cells #[.int .i64 0, .slice none 0 0, .slice none 0 0] t)) w.heap.size := by
  have hc : ∀ i v, (#[Value.int .i64 0, .slice none 0 0, .slice none 0 0] : Array Value)[i]? = some v → (w.alloc (.cells #[.int .i64 0, .slice none 0 0, .slice none 0 0] t)).cell? ⟨w.heap.size, i, none⟩ = some v := fun i v h => by
    rw [cell_of_row _ w.heap.size i _ t (0, 0) (heap_alloc_new w _)]; exact h
  refine ⟨hc 0 _ rfl, hc 1 _ rfl, hc 2 _ rfl, fun k => ?_⟩
  unfold World.frozen?
  rw [heap_alloc_new w]
  simp

section
variable {w : World} {b g n : Nat} {B : Nat → Buf} {A : Nat → Prop}

set_option maxRecDepth 100000 in
set_option maxHeartbeats 4000000 in
theorem See_yes (H : PoolAt w b g n B) (i : Nat) (hi : i < n) (hr : 0 < (B i).refs) :
    Calls Try.prog 12 #[.pointer (some ⟨b, 0, none⟩), .int .i64 (i : Int)] w fun e w' => ∃ ha hc da dc, e = .returned (.tuple #[.agg #[.int .i64 ((B i).refs : Int), .slice ha (B i).head.length hc, .slice da (B i).data.length dc], .int .i64 0]) ∧
      Seen w.heap.size w' (B i) 0 (.slice ha (B i).head.length hc) (.slice da (B i).data.length dc) ∧ Below w.heap.size w w' := by
  obtain ⟨W1, hW1⟩ : ∃ W1, W1 = w.alloc (.cells #[.int .i64 0, .slice none 0 0, .slice none 0 0] 35) := ⟨_, rfl⟩
  have T1 : PTri W1 w.heap.size := by rw [hW1]; exact PTri.new w _
  have B1 : Below w.heap.size w W1 := by rw [hW1]; exact (Below.refl _ w).alloc (Nat.le_refl _) _
  have S1 : W1.heap.size = w.heap.size + 1 := by rw [hW1]; simp
  have H1 := H.later B1
  have U := hide (inUse_yes H1 i hi hr)
  have hb := H1.buf i hi
  have hgl := H.glt
  obtain ⟨s, hs⟩ : ∃ s, s = w.heap.size := ⟨_, rfl⟩
  have hgs : g < s := by omega
  have FH := hide (fun (W : World) (q : But (Only s) W1 W) => (H1.but q (by unfold Only; have := H.blt; omega) (by unfold Only; omega)).isHead i hi (fun _ => False) id)
  have FD := hide (fun (W : World) (q : But (Only s) W1 W) => (H1.but q (by unfold Only; have := H.blt; omega) (by unfold Only; omega)).isData i hi (fun _ => False) id)
  have h104 := hb.hle
  have h288 := hb.dle
  have k0 := hb.refs
  have k1 := hb.hl
  have k2 := hb.dl
  have keepS : Hid (∀ W : World, But (Only s) W1 W → W.cell? ⟨g, i * 395, none⟩ = some (.int .i64 ((B i).refs : Int)) ∧ W.cell? ⟨g, i * 395 + 105, none⟩ = some (.int .i64 ((B i).head.length : Int)) ∧ W.cell? ⟨g, i * 395 + 394, none⟩ = some (.int .i64 ((B i).data.length : Int))) := fun W q => by
    have key : ∀ k, W.cell? ⟨g, k, none⟩ = W1.cell? ⟨g, k, none⟩ := fun k => q.cell (p := ⟨g, k, none⟩) H1.glt (by unfold Only; simp; omega)
    exact ⟨(key _).trans k0, (key _).trans k1, (key _).trans k2⟩
  rw [← hs] at T1 B1 ⊢
  have HT := hide T1
  have HB1 := hide B1
  have HS1 := hide S1
  have HS := hide hs
  clear H H1 hb T1 B1 S1 hgl hr hi hs
  obtain ⟨r, er⟩ : ∃ r, r = ((B i).refs : Int) := ⟨_, rfl⟩
  generalize B i = x at *
  rw [← er] at k0 keepS ⊢
  clear er
  obtain ⟨_, hh, dd⟩ := x
  simp only at *
  obtain ⟨nh, enh⟩ : ∃ m, m = hh.length := ⟨_, rfl⟩
  obtain ⟨nd, end'⟩ : ∃ m, m = dd.length := ⟨_, rfl⟩
  rw [← enh] at FH h104 k1 keepS ⊢
  rw [← end'] at FD h288 k2 keepS ⊢
  have EH := hide enh
  have ED := hide end'
  have z0 : (nh : Int) ≤ 104 := by omega
  have z1 : (nd : Int) ≤ 288 := by omega
  clear enh end'
  generalize i * 395 = o at *
  go_enter Try.func12, Try.ntmps12
  go_wp2_with fail
  rw [← HS.out, ← hW1]
  clear hW1
  refine U.out.mono ?_
  rintro e w1 ⟨rfl, rfl⟩
  clear U
  have q2 : But (Only s) w1 w1.drew := (But.refl _ _).drew
  go_wp2
  go_region_held (fun W => W.cell? ⟨g, o, none⟩ = some (.int .i64 r) ∧ W.cell? ⟨g, o + 105, none⟩ = some (.int .i64 (nh : Int)) ∧ W.cell? ⟨g, o + 394, none⟩ = some (.int .i64 (nd : Int))) (first | exact keepS.out _ (by assumption) | exact keepS.out _ (((q4.cellb _ _).cellb _ _).cellb _ _))
    (first
      | (go_at_call 49; refine (Clone_sl (FH.out _ q2) (by have := EH.out; omega)).mono ?_; rintro e w3 ⟨ha, hc, rfl, hG3, hB3⟩; have q3 : But (Only s) w1 w3 := q2.trans (But.of_below hB3); rw [← EH.out] at hG3 ⊢; have HG3 := hide hG3; have HB3 := hide hB3; clear hG3 hB3)
      | (go_at_call 49; refine (Clone_sl (FD.out _ q3) (by have := ED.out; omega)).mono ?_; rintro e w4 ⟨da, dc, rfl, hG4, hB4⟩; have q4 : But (Only s) w1 w4 := q3.trans (But.of_below hB4); rw [← ED.out] at hG4 ⊢; have HG4 := hide hG4; have HB4 := hide hB4; obtain ⟨x0, x1, x2, y0⟩ := (HT.out.but (But.of_below (K := fun _ => False) (undrew HB3.out)) id).but (But.of_below (K := fun _ => False) HB4.out) id; have y1 := y0 0; have y2 := y0 1; have y3 := y0 2; clear hG4 hB4))
  have KA : Hid (∀ k, (Value.slice ha nh hc).ownBlock = some k → (Value.slice da nd dc).ownBlock ≠ some k) := fun k e1 e2 => by
    have l1 := (HG3.out.blk k e1).2
    have l2 := (HG4.out.blk k e2).1
    omega
  have hns : ∀ k, (Value.slice ha nh hc).ownBlock = some k → ¬ Only s k := fun k e1 e2 => by
    have l1 := (HG3.out.blk k e1).1
    have l2 := HS1.out
    have l3 := HS.out
    have e2 : k = s := e2
    have l4 : w1.drew.heap.size = w1.heap.size := rfl
    omega
  have hnd : ∀ k, (Value.slice da nd dc).ownBlock = some k → ¬ Only s k := fun k e1 e2 => by
    have l1 := (HG4.out.blk k e1).1
    have l2 := HS1.out
    have l3 := HS.out
    have e2 : k = s := e2
    have l4 : w1.drew.heap.size = w1.heap.size := rfl
    have l5 := HB3.out.size
    omega
  have HNS := hide hns
  have HND := hide hnd
  clear hns hnd
  go_wp2
  refine bodyPost_ret (v := .tuple #[.agg #[.int .i64 r, .slice ha nh hc, .slice da nd dc], .int .i64 0]) (by simp [results, asAddr, go_sem, x0, x1, x2]) rfl ?_
  have bS : But (Only s) w4 (((w4.setCell ⟨s, 0, none⟩ (.int .i64 r)).setCell ⟨s, 1, none⟩ (.slice ha nh hc)).setCell ⟨s, 2, none⟩ (.slice da nd dc)) := (((But.refl _ w4).cellb _ _).cellb _ _).cellb _ _
  have l2 := HS1.out
  have l3 := HS.out
  have l4 : w1.drew.heap.size = w1.heap.size := rfl
  have l5 := HB3.out.size
  refine ⟨ha, hc, da, dc, rfl, ⟨((HG3.out.low (by omega)).keep (But.of_below (K := fun _ => False) HB4.out) (fun _ _ e => e)).keep bS HNS.out, (HG4.out.low (by omega)).keep bS HND.out, KA.out⟩, ?_⟩
  exact HB1.out.trans ((q4.trans bS).below (by omega) (fun x hx e => by have e : x = s := e; omega))

theorem See_no (H : PoolAt w b g n B) (id : Int) (hu : usd n B id = false) :
    Calls Try.prog 12 #[.pointer (some ⟨b, 0, none⟩), .int .i64 id] w fun e w' => e = .returned (.tuple #[.agg #[.int .i64 0, .slice none 0 0, .slice none 0 0], .int .i64 7]) ∧ Below w.heap.size w w' := by
  have U := hide (inUse_no (H.al (.cells #[.int .i64 0, .slice none 0 0, .slice none 0 0] 35)) id hu)
  clear H hu
  go_enter Try.func12, Try.ntmps12
  go_wp2_with fail
  refine U.out.mono ?_
  rintro e w1 ⟨rfl, rfl⟩
  clear U
  go_wp2
  refine bodyPost_ret (v := .tuple #[.agg #[.int .i64 0, .slice none 0 0, .slice none 0 0], .int .i64 7]) (by simp [results, asAddr, go_sem]) rfl ?_
  exact ⟨rfl, (Below.refl _ w).alloc (Nat.le_refl _) _⟩

theorem See_any (H : PoolAt w b g n B) (id : Int) :
    Calls Try.prog 12 #[.pointer (some ⟨b, 0, none⟩), .int .i64 id] w fun e w' => ∃ ha hc da dc, e = .returned (.tuple #[.agg #[.int .i64 ((seX n B id).refs : Int), .slice ha (seX n B id).head.length hc, .slice da (seX n B id).data.length dc], .int .i64 (hoE n B id)]) ∧
      Seen w.heap.size w' (seX n B id) 0 (.slice ha (seX n B id).head.length hc) (.slice da (seX n B id).data.length dc) ∧ Below w.heap.size w w' := by
  unfold seX hoE
  cases hu : usd n B id with
  | false =>
    rw [if_neg (by simp), if_neg (by simp)]
    refine (See_no H id hu).mono (fun e w' h => ⟨none, 0, none, 0, h.1, ⟨Gro.nil _ _, Gro.nil _ _, fun k e => by cases e⟩, h.2⟩)
  | true =>
    obtain ⟨i, rfl, hi, hr⟩ := usd_yes hu
    rw [if_pos rfl, if_pos rfl, Int.toNat_natCast]
    exact See_yes H i hi hr
end

end Go.Proofs.Ytjkfjijnjkpbbaa
