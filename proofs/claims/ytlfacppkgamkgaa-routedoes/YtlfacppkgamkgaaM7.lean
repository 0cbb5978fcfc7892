
/-
  Package route: the table in memory, and in numbers; New.
-/
import Derived.Test.YtlfacppkgamkgaaM6
import Derived.Carry
namespace Go.Proofs.Ytlfacppkgamkgaa
open Go.RowKit Go.Shelf
open Go.ChangeMaps (setBlock)

def cmpV : Value := .func (.func 15) #[] #[]
/-- a table at rt, its map at b -/
structure RtAt (W : World) (rt b : Nat) (L : List Rw) (ck : Nat) (bh : Int) : Prop where
  c0 : W.cell? ⟨rt, 0, none⟩ = some (.map (some b))
  c1 : W.cell? ⟨rt, 1, none⟩ = some cmpV
  c2 : W.cell? ⟨rt, 2, none⟩ = some (.int .i64 bh)
  fz : W.frozen? ⟨rt, 2, none⟩ = false
  map : MapAt W b L ck
  ne : rt ≠ b
theorem RtAt.lt {W : World} {rt b : Nat} {L : List Rw} {ck : Nat} {bh : Int} (h : RtAt W rt b L ck bh) : rt < W.heap.size := World.block_lt_of_cell? W _ h.c0
theorem RtAt.but {K : Nat → Prop} {W W' : World} {rt b : Nat} {L : List Rw} {ck : Nat} {bh : Int} (h : RtAt W rt b L ck bh) (hb : But K W W') (h1 : ¬ K rt) (h2 : ¬ K b) : RtAt W' rt b L ck bh :=
  ⟨(hb.cell (p := ⟨rt, 0, none⟩) h.lt h1).trans h.c0, (hb.cell (p := ⟨rt, 1, none⟩) h.lt h1).trans h.c1, (hb.cell (p := ⟨rt, 2, none⟩) h.lt h1).trans h.c2, (hb.frozen (p := ⟨rt, 2, none⟩) h.lt h1).trans h.fz, h.map.but hb h2, h.ne⟩
theorem RtAt.later {W W' : World} {rt b : Nat} {L : List Rw} {ck : Nat} {bh : Int} (h : RtAt W rt b L ck bh) (hb : Below W.heap.size W W') : RtAt W' rt b L ck bh := h.but (K := fun _ => False) (But.of_below hb) id id
/-- the map is laid anew -/
theorem RtAt.set {W : World} {rt b : Nat} {L : List Rw} {ck : Nat} {bh : Int} (h : RtAt W rt b L ck bh) (M : List Rw) (k : Nat) : RtAt (setBlock W b (.map (M.map ent).toArray k)) rt b M k bh := by
  have hb : But (Only b) W (setBlock W b (.map (M.map ent).toArray k)) := But.block_ (K := Only b) rfl _
  have h1 : ¬ Only b rt := fun e => h.ne e
  exact ⟨(hb.cell (p := ⟨rt, 0, none⟩) h.lt h1).trans h.c0, (hb.cell (p := ⟨rt, 1, none⟩) h.lt h1).trans h.c1, (hb.cell (p := ⟨rt, 2, none⟩) h.lt h1).trans h.c2, (hb.frozen (p := ⟨rt, 2, none⟩) h.lt h1).trans h.fz, h.map.set M k, h.ne⟩
theorem RtAt.next {W : World} {rt b : Nat} {L : List Rw} {ck : Nat} {bh : Int} (h : RtAt W rt b L ck bh) (x : Int) : RtAt (W.setCell ⟨rt, 2, none⟩ (.int .i64 x)) rt b L ck x := by
  have hb : But (Only rt) W (W.setCell ⟨rt, 2, none⟩ (.int .i64 x)) := (But.refl (Only rt) W).cellb (b := rt) rfl 2 _
  exact ⟨by rw [setCell_out (by decide)]; exact h.c0, by rw [setCell_out (by decide)]; exact h.c1, World.cell?_setCell_same _ _ _ h.c2, by rw [World.frozen?_setCell]; exact h.fz, h.map.but hb (fun e => h.ne e.symm), h.ne⟩
/-- what holds of the rows -/
structure TbOk (L : List Rw) (ck : Nat) (bh : Int) : Prop where
  key : L.Pairwise (fun r s => ¬ (r.w.net = s.w.net ∧ r.w.bits = s.w.bits))
  asc : L.Pairwise (fun r s => r.pl < s.pl)
  bn : L.Pairwise (fun r s => r.bn < s.bn)
  pl : ∀ r ∈ L, r.pl < bh
  ck : ∀ r ∈ L, r.bn < ck
  len : L.length ≤ 8
  may : ∀ r ∈ L, mayW r.w = true
  ok : ∀ r ∈ L, r.w.Ok
/-- a table of ways, in their order -/
def Rt (W : World) (rt b : Nat) (ws : List Wy) (N : Int) : Prop := ∃ L ck bh, RtAt W rt b L ck bh ∧ TbOk L ck bh ∧ L.map (·.w) = ws ∧ 0 ≤ bh ∧ bh ≤ N
theorem Rt.later {W W' : World} {rt b : Nat} {ws : List Wy} {N : Int} (h : Rt W rt b ws N) (hb : Below W.heap.size W W') : Rt W' rt b ws N := by
  obtain ⟨L, ck, bh, h1, h2⟩ := h
  exact ⟨L, ck, bh, h1.later hb, h2⟩
theorem Rt.but {K : Nat → Prop} {W W' : World} {rt b : Nat} {ws : List Wy} {N : Int} (h : Rt W rt b ws N) (hb : But K W W') (h1 : ¬ K rt) (h2 : ¬ K b) : Rt W' rt b ws N := by
  obtain ⟨L, ck, bh, k1, k2⟩ := h
  exact ⟨L, ck, bh, k1.but hb h1 h2, k2⟩
theorem Rt.lt {W : World} {rt b : Nat} {ws : List Wy} {N : Int} (h : Rt W rt b ws N) : rt < W.heap.size ∧ b < W.heap.size ∧ rt ≠ b := by
  obtain ⟨L, ck, bh, k1, k2⟩ := h
  exact ⟨k1.lt, k1.map.lt, k1.ne⟩
theorem Rt.more {W : World} {rt b : Nat} {ws : List Wy} {N M : Int} (h : Rt W rt b ws N) (hm : N ≤ M) : Rt W rt b ws M := by
  obtain ⟨L, ck, bh, k1, k2, k3, k4, k5⟩ := h
  exact ⟨L, ck, bh, k1, k2, k3, k4, by omega⟩

/-- the place of a net and its bits -/
def ix (n : I4) (k : Int) : List Wy → Option Nat
  | [] => none
  | x :: L => if x.net = n ∧ x.bits = k then some 0 else (ix n k L).map (· + 1)
theorem fnd_ix (n : I4) (k : Int) : ∀ L : List Rw, ix n k (L.map (·.w)) = (fnd n k L).map (·.1)
  | [] => rfl
  | r :: L => by
    unfold fnd isK
    simp only [List.map_cons, ix, fnd_ix n k L]
    by_cases h : r.w.net = n ∧ r.w.bits = k
    · rw [if_pos h, if_pos (decide_eq_true h)]; rfl
    · rw [if_neg h, if_neg (by simpa using h)]
      cases fnd n k L <;> rfl
def adE (ws : List Wy) (x : Wy) : Int := if mayW x = false then 1 else if ix x.net x.bits ws = none ∧ ws.length = 8 then 6 else 0
def adL (ws : List Wy) (x : Wy) : List Wy := if mayW x = false then ws else match ix x.net x.bits ws with
  | some i => ws.set i x
  | none => if ws.length = 8 then ws else ws ++ [x]
def drE (ws : List Wy) (n : I4) (k : Int) : Int := if ix n k ws = none then 7 else 0
def drL (ws : List Wy) (n : I4) (k : Int) : List Wy := match ix n k ws with
  | some i => ws.eraseIdx i
  | none => ws

theorem pair_set {R : Rw → Rw → Prop} {L : List Rw} {i : Nat} {r q : Rw} (h : L.Pairwise R) (hr : L[i]? = some r) (h1 : ∀ s, R r s → R q s) (h2 : ∀ s, R s r → R s q) : (L.set i q).Pairwise R := by
  rw [List.pairwise_iff_getElem] at h ⊢
  have hlt := (List.getElem?_eq_some_iff.1 hr).1
  have hri := (List.getElem?_eq_some_iff.1 hr).2
  intro a b ha hb hab
  rw [List.length_set] at ha hb
  have h0 := h a b ha hb hab
  rw [List.getElem_set, List.getElem_set]
  by_cases ea : i = a
  · subst ea
    rw [if_pos rfl, if_neg (by omega)]
    rw [hri] at h0
    exact h1 _ h0
  · rw [if_neg ea]
    by_cases eb : i = b
    · subst eb
      rw [if_pos rfl]
      rw [hri] at h0
      exact h2 _ h0
    · rw [if_neg eb]; exact h0
theorem TbOk.put {L : List Rw} {ck : Nat} {bh : Int} (h : TbOk L ck bh) {x : Wy} (hm : mayW x = true) (hx : x.Ok) {i : Nat} {r : Rw} (hf : fnd x.net x.bits L = some (i, r)) : TbOk (L.set i ⟨x, r.pl, r.bn⟩) ck bh := by
  obtain ⟨q1, q2, q3⟩ := fnd_some hf
  have mem : ∀ s ∈ L.set i (⟨x, r.pl, r.bn⟩ : Rw), s ∈ L ∨ s = ⟨x, r.pl, r.bn⟩ := fun s hs => List.mem_or_eq_of_mem_set hs
  have hr : r ∈ L := List.mem_of_getElem? q1
  refine ⟨pair_set h.key q1 (fun s hs => by rw [q2, q3] at hs; exact hs) (fun s hs => by rw [q2, q3] at hs; exact hs), pair_set h.asc q1 (fun s hs => hs) (fun s hs => hs), pair_set h.bn q1 (fun s hs => hs) (fun s hs => hs), fun s hs => ?_, fun s hs => ?_, by rw [List.length_set]; exact h.len, fun s hs => ?_, fun s hs => ?_⟩
  · rcases mem s hs with h' | rfl; exact h.pl s h'; exact h.pl r hr
  · rcases mem s hs with h' | rfl; exact h.ck s h'; exact h.ck r hr
  · rcases mem s hs with h' | rfl; exact h.may s h'; exact hm
  · rcases mem s hs with h' | rfl; exact h.ok s h'; exact hx
theorem TbOk.add {L : List Rw} {ck : Nat} {bh : Int} (h : TbOk L ck bh) {x : Wy} (hm : mayW x = true) (hx : x.Ok) (hf : fnd x.net x.bits L = none) (hl : L.length < 8) : TbOk (L ++ [⟨x, bh, ck⟩]) (ck + 1) (bh + 1) := by
  have hn := fnd_none hf
  have mem : ∀ s ∈ L ++ [(⟨x, bh, ck⟩ : Rw)], s ∈ L ∨ s = ⟨x, bh, ck⟩ := fun s hs => by simpa using hs
  have ap : ∀ {R : Rw → Rw → Prop}, L.Pairwise R → (∀ s ∈ L, R s ⟨x, bh, ck⟩) → (L ++ [(⟨x, bh, ck⟩ : Rw)]).Pairwise R := fun hp hq => List.pairwise_append.2 ⟨hp, List.pairwise_singleton _ _, fun s hs t ht => by rw [List.mem_singleton.1 ht]; exact hq s hs⟩
  refine ⟨ap h.key (fun s hs => hn s hs), ap h.asc (fun s hs => h.pl s hs), ap h.bn (fun s hs => h.ck s hs), fun s hs => ?_, fun s hs => ?_, by simp; omega, fun s hs => ?_, fun s hs => ?_⟩
  · rcases mem s hs with h' | rfl; have := h.pl s h'; omega; show bh < bh + 1; omega
  · rcases mem s hs with h' | rfl; have := h.ck s h'; omega; show ck < ck + 1; omega
  · rcases mem s hs with h' | rfl; exact h.may s h'; exact hm
  · rcases mem s hs with h' | rfl; exact h.ok s h'; exact hx
theorem TbOk.cut {L : List Rw} {ck : Nat} {bh : Int} (h : TbOk L ck bh) (i : Nat) : TbOk (L.eraseIdx i) ck bh := by
  have sb := List.eraseIdx_sublist L i
  exact ⟨h.key.sublist sb, h.asc.sublist sb, h.bn.sublist sb, fun s hs => h.pl s (sb.subset hs), fun s hs => h.ck s (sb.subset hs), Nat.le_trans sb.length_le h.len, fun s hs => h.may s (sb.subset hs), fun s hs => h.ok s (sb.subset hs)⟩
theorem TbOk.nil : TbOk [] 0 0 := ⟨.nil, .nil, .nil, (fun _ h => by cases h), (fun _ h => by cases h), by decide, (fun _ h => by cases h), (fun _ h => by cases h)⟩

set_option maxRecDepth 100000 in
set_option maxHeartbeats 1000000 in
theorem New_any (w : World) : Calls Try.prog 7 #[] w fun e w' => e = .returned (.pointer (some ⟨w.heap.size + 1, 0, none⟩)) ∧ Rt w' (w.heap.size + 1) w.heap.size [] 0 ∧ Below w.heap.size w w' := by
  obtain ⟨s, hs⟩ : ∃ s, s = w.heap.size := ⟨_, rfl⟩
  have hmm := @run_makeMap Try.prog
  have B2 : Hid (Below w.heap.size w ((w.alloc (.map #[] 0)).alloc (.cells #[.map (some w.heap.size), cmpV, .int .i64 0] 51))) := ((Below.refl _ _).alloc (Nat.le_refl _) _).alloc (by simp) _
  have R2 : Hid (Rt ((w.alloc (.map #[] 0)).alloc (.cells #[.map (some w.heap.size), cmpV, .int .i64 0] 51)) (w.heap.size + 1) w.heap.size [] 0) := by
    have hc := CellsAt.new (w.alloc (.map #[] 0)) [.map (some w.heap.size), cmpV, .int .i64 0] 51
    rw [World.size_alloc] at hc
    refine ⟨[], 0, 0, ⟨hc 0 _ rfl, hc 1 _ rfl, hc 2 _ rfl, ?_, ?_, by omega⟩, TbOk.nil, rfl, by omega, by omega⟩
    · have := frozen_new (w.alloc (.map #[] 0)) #[.map (some w.heap.size), cmpV, .int .i64 0] 51 2
      rw [World.size_alloc] at this
      exact this
    · exact (Below.heap_alloc _ _ _ (by simp)).trans (heap_alloc_new w _)
  clear hs
  go_enter Try.func7, Try.ntmps7
  go_wp2
  go_ret
  exact ⟨rfl, R2.out, B2.out⟩
end Go.Proofs.Ytlfacppkgamkgaa
