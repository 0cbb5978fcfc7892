
/-
  Contracts: along, post, owns.
-/
import Derived.Test.YtjkfjijnjkpbbaaNRound
namespace Go.Proofs.Ytjkfjijnjkpbbaa
open Go.RowKit Go.Shelf
attribute [local go_sem] Oper.semAt_some

set_option maxHeartbeats 1000000 in
/-- along(from, to): both are boxed; the function value captures the boxes. -/
theorem along_in (F : Fence) (n : Nat) (hf : F.fn 97) (hro : F.round = none) (h t : Int) (w : World) :
    CallsIn F n Try.prog 97 #[.int .i64 h, .int .i64 t] w fun e w' => e = .returned (.func (.func 99) #[] #[.pointer (some ⟨w.heap.size, 0, none⟩), .pointer (some ⟨w.heap.size + 1, 0, none⟩)]) ∧ w' = (w.alloc (.cells #[.int .i64 h] 3)).alloc (.cells #[.int .i64 t] 3) := by
  refine callsIn_of_wp Try.func97 rfl hf ?_ hro
  simp only [Try.ntmps97, List.size_toArray, List.length_cons, List.length_nil, Nat.reduceAdd, Nat.reduceSub, Array.replicate_succ, Array.replicate_zero, List.push_toArray, List.append_toArray, List.nil_append, List.cons_append]
  gi_wp2
  go_ret
  exact ⟨rfl, rfl⟩

theorem along_stops (F : Fence) (n : Nat) (hf : F.fn 99) (hro : F.round = none) (hn : 1 ≤ n) (Bf Bt h t : Nat) (hh : h < 16) (ht : t < 16) (w : World) (hBf : Bf < w.heap.size) (hBt : Bt < w.heap.size)
    (cf : w.cell? ⟨Bf, 0, none⟩ = some (.int .i64 h)) (ct : w.cell? ⟨Bt, 0, none⟩ = some (.int .i64 t)) :
    SeqStopsK F n Try.prog 99 #[.pointer (some ⟨Bf, 0, none⟩), .pointer (some ⟨Bt, 0, none⟩)] (fun x : Fin 16 => #[Value.int .i64 (x.val : Int)]) (fun A B => B.heap[Bt]? = A.heap[Bt]?) (fun ys => ys = ringN h (span h t)) (fun ys => ∃ k, k ≤ span h t ∧ ys = ringN h k) (span h t) w := fun l J Jx W hW _ _ hY h0 => by
  have hf' := (hW.cell (p := ⟨Bf, 0, none⟩) hBf).trans cf
  have ht' := (hW.cell (p := ⟨Bt, 0, none⟩) hBt).trans ct
  refine (along1_in F n hf hro hn l Bf Bt h t hh ht J Jx hY W hf' ht' h0).mono ?_
  rintro e W' ⟨he, hj | ⟨k, hk, hj⟩⟩
  · exact ⟨he, .inl ⟨_, rfl, hj⟩⟩
  · exact ⟨he, .inr ⟨_, ⟨k, hk, rfl⟩, hj⟩⟩

theorem DevAt.grown {L : Lay} {A : Nat → Prop} {W W' : World} {b : Nat} {D : Dev} {row : Option Nat} (h : DevAt L A W b D) (hg : W.grownBy W' row) (hr : ∀ r, row = some r → ∃ o : Obj, W.heap[r]? = some o ∧ o.isCells = false) : DevAt L A W' b D := by
  have key : ∀ (p : Addr) (v : Value), W.cell? p = some v → W'.cell? p = some v ∧ W'.frozen? p = W.frozen? p ∧ p.block < W.heap.size := by
    intro p v hv
    have hlt : p.block < W.heap.size := World.block_lt_of_cell? W _ hv
    have hk : W'.heap[p.block]? = W.heap[p.block]? := hg.block _ hlt (fun e => by
      obtain ⟨o, ho, hc⟩ := hr _ e.symm
      unfold World.cell? at hv
      rw [ho] at hv
      cases o <;> simp_all [Obj.isCells])
    exact ⟨(World.cell?_of_block (w := W) hk).trans hv, World.frozen?_of_block (w := W) hk, hlt⟩
  have keyF : ∀ v bs, IsF A W v bs → IsF A W' v bs := by
    rintro v bs ⟨a, cap, e, hl, hn, hc⟩
    refine ⟨a, cap, e, hl, hn, fun h0 => ?_⟩
    obtain ⟨g, off, e1, hb1, ha, hcs⟩ := hc h0
    exact ⟨g, off, e1, Nat.lt_of_lt_of_le hb1 hg.size, ha, fun j hj => (key _ _ (hcs j hj)).1⟩
  obtain ⟨ha, V, hB, hR⟩ := h
  refine ⟨ha, V, ⟨fun i hi => (key _ _ (hB.cell i hi)).1, fun i => ?_, hB.one⟩, ⟨hR.reg, hR.clock, fun i hi => keyF _ _ (hR.txf i hi), hR.posted, hR.room, hR.held, fun i hi => keyF _ _ (hR.rxf i hi), hR.bad⟩⟩
  have hk : W'.heap[b]? = W.heap[b]? := by
    have hv := hB.cell 0 (by omega)
    exact hg.block _ hB.lt (fun e => by
      obtain ⟨o, ho, hc⟩ := hr _ e.symm
      unfold World.cell? at hv
      rw [ho] at hv
      cases o <;> simp_all [Obj.isCells])
  exact (World.frozen?_of_block (w := W) (a := ⟨b, i, none⟩) hk).trans (hB.frozen i)
theorem But.grown {K : Nat → Prop} {a W W' : World} {row : Option Nat} (h : But K a W) (hg : W.grownBy W' row) (hr : ∀ r, row = some r → a.heap.size ≤ r) : But K a W' :=
  h.trans' (K' := fun g => some g = row) ⟨hg.os, hg.tape, hg.output, hg.size, fun i hi hn => hg.block i hi hn⟩ (fun g hlt e => by have := hr g e.symm; omega)

/-- what has been posted when these places have been told -/
def Dev.posts (D : Dev) (pre : List (Fin 16)) : Dev := { D with posted := fun i => if ∃ x ∈ pre, x.val = i then D.clock else D.posted i }
theorem posts_nil (D : Dev) : D.posts [] = D := by simp [Dev.posts]
theorem posts_snoc (D : Dev) (pre : List (Fin 16)) (x : Fin 16) : D.posts (pre ++ [x]) = { D.posts pre with posted := upd (D.posts pre).posted x.val D.clock } := by
  unfold Dev.posts
  congr 1
  funext i
  simp only [List.mem_append, List.mem_singleton, upd]
  by_cases e : i = x.val
  · subst e
    rw [if_pos ⟨x, .inr rfl, rfl⟩, if_pos rfl]
  · rw [if_neg e]
    congr 1
    apply propext
    constructor
    · rintro ⟨y, hy | rfl, he⟩
      · exact ⟨y, hy, he⟩
      · exact absurd he.symm e
    · rintro ⟨y, hy, he⟩
      exact ⟨y, .inl hy, he⟩
theorem own_ex (h t : Nat) (hh : h < 16) (i : Nat) (hi : i < 16) : (∃ x ∈ ringN h (span h t), x.val = i) ↔ own h t i = true := by
  constructor
  · rintro ⟨x, hx, rfl⟩; exact (mem_ringN h t hh x).1 hx
  · intro ho; exact ⟨⟨i, hi⟩, (mem_ringN h t hh ⟨i, hi⟩).2 ho, rfl⟩
theorem ringN_sub {h m k : Nat} (hm : m ≤ k) (x : Fin 16) (hx : x ∈ ringN h m) : x ∈ ringN h k := by
  unfold ringN at *
  obtain ⟨j, hj, rfl⟩ := List.mem_map.1 hx
  exact List.mem_map.2 ⟨j, by simp at hj ⊢; omega, rfl⟩
/-- only the first 16 places of a device's rings count -/
theorem DevAt.same {L : Lay} {A : Nat → Prop} {W : World} {b : Nat} {D D' : Dev} (h : DevAt L A W b D) (h1 : D'.r = D.r) (h2 : D'.clock = D.clock) (h3 : D'.txf = D.txf) (h4 : ∀ i, i < 16 → D'.posted i = D.posted i) (h5 : D'.room = D.room) (h6 : D'.held = D.held) (h7 : D'.rxf = D.rxf) (h8 : D'.bad = D.bad) : DevAt L A W b D' := by
  obtain ⟨ha, V, hB, hR⟩ := h
  exact ⟨ha, V, hB, ⟨by rw [h1]; exact hR.reg, by rw [h2]; exact hR.clock, by rw [h3]; exact hR.txf, fun i hi => by rw [h4 i hi]; exact hR.posted i hi, by rw [h5]; exact hR.room, by rw [h6]; exact hR.held, by rw [h7]; exact hR.rxf, by rw [h8]; exact hR.bad⟩⟩
theorem posts_post {L : Lay} {A : Nat → Prop} {W : World} {b : Nat} {D : Dev} (h t : Nat) (hh : h < 16) (e5 : D.r 5 = h) (hd : DevAt L A W b { D.posts (ringN h (span h t)) with r := upd D.r 5 (t : Int) }) : DevAt L A W b (D.post t) := by
  refine hd.same rfl rfl rfl (fun i hi => ?_) rfl rfl rfl rfl
  simp only [Dev.post, Dev.posts, e5, Int.toNat_natCast]
  by_cases ho : own h t i = true
  · rw [if_pos ho, if_pos ((own_ex h t hh i hi).2 ho)]
  · rw [if_neg ho, if_neg (fun e => ho ((own_ex h t hh i hi).1 e))]

set_option maxRecDepth 100000 in
set_option maxHeartbeats 2000000 in
theorem post_in (n : Nat) (hn : 3 ≤ n) {A : Nat → Prop} {b : Nat} {D : Dev} {w : World} (hd : DevAt LN A w b D) (h t : Nat) (hh : h < 16) (ht : t < 16) (e5 : D.r 5 = h) :
    CallsIn Fence.wide n Try.prog 84 #[.pointer (some ⟨b, 0, none⟩), .int .i64 t] w fun e W' => e = .returned (.tuple #[]) ∧ DevAt LN A W' b (D.post t) ∧ But (Only b) w W' := by
  have h1 : 1 ≤ n := by omega
  have c5 := hd.creg 5 (by omega)
  rw [e5] at c5
  have hlt := hd.lt
  have HD := hide hd
  clear hd
  refine callsIn_of_wp_marks Try.func84 rfl trivial ?_ rfl
  simp only [Try.ntmps84, List.size_toArray, List.length_cons, List.length_nil, Nat.reduceAdd, Nat.reduceSub, Array.replicate_succ, Array.replicate_zero, List.push_toArray, List.append_toArray, List.nil_append, List.cons_append]
  have E5 := hide e5
  clear e5
  gi_wp2_with fail
  refine ⟨trivial, ?_⟩
  refine (along_in Fence.wide (n - 1) trivial rfl _ _ _).mono ?_
  rintro e w' ⟨rfl, rfl⟩
  gi_wp2
  have hb0 : But (Only b) w (((w.alloc (.cells #[.pointer (some ⟨b, 0, none⟩)] 38)).alloc (.cells #[.int .i64 (h : Int)] 3)).alloc (.cells #[.int .i64 (t : Int)] 3)) := (((But.refl _ w).alloc _).alloc _).alloc _
  have bD := (Boxed.new w 38 (.pointer (some ⟨b, 0, none⟩))).alloc (.cells #[.int .i64 (h : Int)] 3) |>.alloc (.cells #[.int .i64 (t : Int)] 3)
  have bF := (Boxed.new (w.alloc (.cells #[.pointer (some ⟨b, 0, none⟩)] 38)) 3 (.int .i64 (h : Int))).alloc (.cells #[.int .i64 (t : Int)] 3)
  have bT := Boxed.new ((w.alloc (.cells #[.pointer (some ⟨b, 0, none⟩)] 38)).alloc (.cells #[.int .i64 (h : Int)] 3)) 3 (.int .i64 (t : Int))
  simp only [World.size_alloc] at bF bT
  obtain ⟨s, hs⟩ : ∃ s, s = w.heap.size := ⟨_, rfl⟩
  have hw2 : (((w.alloc (.cells #[.pointer (some ⟨b, 0, none⟩)] 38)).alloc (.cells #[.int .i64 (h : Int)] 3)).alloc (.cells #[.int .i64 (t : Int)] 3)).heap.size = s + 3 := by simp [hs]
  have d0 := (HD.out.but (K := fun _ => False) ((((But.refl _ w).alloc _).alloc _).alloc _ : But (fun _ => False) w (((w.alloc (.cells #[.pointer (some ⟨b, 0, none⟩)] 38)).alloc (.cells #[.int .i64 (h : Int)] 3)).alloc (.cells #[.int .i64 (t : Int)] 3))) (fun _ e => e.elim) id)
  rw [← hs] at bD bF bT ⊢
  generalize ((w.alloc (.cells #[.pointer (some ⟨b, 0, none⟩)] 38)).alloc (.cells #[.int .i64 (h : Int)] 3)).alloc (.cells #[.int .i64 (t : Int)] 3) = w2 at *
  have hs1 : w.heap.size ≤ s := by omega
  have hs2 : s ≤ w.heap.size := by omega
  have hw3 : s + 3 ≤ w2.heap.size := by omega
  clear hs hw2
  have cD := bD.cell
  have cF := bF.cell
  have cT := bT.cell
  clear bD bF bT
  have hro : Fence.wide.round = none := rfl
  have hfn : Fence.wide.fn 99 := trivial
  refine wpIn_rangeFunc_ownG hro h1 (gf := 99) (lb := #[.pointer (some ⟨s + 1, 0, none⟩), .pointer (some ⟨s + 2, 0, none⟩)]) rfl hfn (enters_of Try.func99 (by kernel_rfl) rfl)
    (along_stops Fence.wide (n - 1) hfn hro (by omega) (s + 1) (s + 2) h t hh ht w2 (by omega) (by omega) cF cT) (fun h k => k.trans h) (fun W l o o' hl _ _ _ => World.putObj_heap_other (by omega)) (Below.refl _ _) (fun _ => rfl)
    (fun pre W => (DevAt LN A W b (D.posts pre) ∧ W.cell? ⟨s, 0, none⟩ = some (.pointer (some ⟨b, 0, none⟩))) ∧ But (Only b) w W)
    (fun _ _ _ => False)
    (OwnFrom.and (fun pre A B row hs hg hr => ⟨hs.1.grown hg (fun r e => (hr r e).2), cell_kept hs.2 hg (fun r e => (hr r e).2)⟩) (fun pre A B row hs' hg hr => hs'.grown hg (fun r e => by have := (hr r e).1; omega)))
    (fun _ _ _ _ _ hs _ _ => hs)
    ⟨⟨by rw [posts_nil]; exact d0, cD⟩, hb0⟩
    (fun x => { tmps := #[.pointer (some ⟨b, 0, none⟩), .int .i64 (t : Int), .pointer (some ⟨s, 0, none⟩), undef, .int .i64 (x.val : Int), .pointer (some ⟨b, 0, none⟩), .pointer (some ⟨b, 0, none⟩), .pointer (some ⟨b, 0, none⟩), .pointer (some ⟨b, 5, none⟩), .int .i64 (h : Int), .int .i64 (t : Int), .func (.func 99) #[] #[.pointer (some ⟨s + 1, 0, none⟩), .pointer (some ⟨s + 2, 0, none⟩)], .int .i64 (x.val : Int), undef, undef, undef, undef, undef, undef, undef, undef, undef, undef, undef, undef, undef, undef, undef], defers := [] }) ?assign ?body ?done ?stop
  case assign =>
    intro l x W K hK
    gi_wp2
    exact hK
  case body =>
    rintro l pre x W ⟨⟨hd, hc⟩, hB⟩ _
    have HZ : Hid (w.heap.size ≤ s ∧ s ≤ w.heap.size ∧ s + 3 ≤ w2.heap.size ∧ b < w.heap.size) := ⟨hs1, hs2, hw3, hlt⟩
    clear hs1 hs2 hw3 hlt cD cF cT d0 hb0 c5 hn h1 hh ht hro hfn
    obtain ⟨k, hk⟩ := x
    have c8 : W.cell? ⟨b, 8, none⟩ = some (.int .i64 D.clock) := hd.cclock LN_ok
    have cp : W.cell? ⟨b, 9 + k * 2 + 1, none⟩ = some (.int .i64 ((D.posts pre).posted k)) := hd.cposted LN_ok k hk
    have fp := hd.frozen (9 + k * 2 + 1)
    have HD2 := hide hd
    have HB := hide hB
    clear hd hB
    obtain ⟨y, hy⟩ : ∃ y, y = D.clock := ⟨_, rfl⟩
    obtain ⟨z, hz⟩ : ∃ z, z = (D.posts pre).posted k := ⟨_, rfl⟩
    rw [← hy] at c8
    rw [← hz] at cp
    have HYc := hide hy
    clear hy hz
    simp only
    have hki : (k : Int) < 16 := by omega
    have HQ : Hid (ownPostG w2.heap.size (fun A B => B.heap[s + 2]? = A.heap[s + 2]?) (fun pre W => (DevAt LN A W b (D.posts pre) ∧ W.cell? ⟨s, 0, none⟩ = some (.pointer (some ⟨b, 0, none⟩))) ∧ But (Only b) w W) (fun _ _ _ => False) (pre ++ [(⟨k, hk⟩ : Fin 16)]) W .normal { tmps := #[], defers := [] } (W.setCell ⟨b, 9 + k * 2 + 1, none⟩ (.int .i64 y)).drew) := by
      refine ⟨((KeepsOthers.setCell _ _ _).trans (KeepsOthers.drew _)).from _, ?_, ⟨?_, ?_⟩, ?_⟩
      · exact Below.heap_setCell _ _ _ _ (by have := HZ.out; simp; omega)
      · rw [posts_snoc, ← HYc.out]
        exact (HD2.out.setPosted LN_ok k hk y).drew
      · show (W.setCell ⟨b, 9 + k * 2 + 1, none⟩ (.int .i64 y)).cell? ⟨s, 0, none⟩ = _
        rw [World.cell?_setCell_other _ _ _ _ (by intro e; simp at e)]; exact hc
      · exact (HB.out.cellb _ _).drew
    gi_wp2
    refine wpIn_mono (Q := fun e _ w' => e = .normal ∧ w' = (W.setCell ⟨b, 9 + k * 2 + 1, none⟩ (.int .i64 y)).drew) ?_ (by rintro e a' w' ⟨rfl, rfl⟩; exact HQ.out)
    refine wpIn_region_any (by kernel_rfl) (wpAnyIn_round l (by intro i o c h e; have := Array.mem_of_getElem? h; simp only [List.mem_toArray, List.mem_cons, List.not_mem_nil, or_false] at this; rcases this with rfl | rfl | rfl | rfl | rfl | rfl | rfl | rfl | rfl | rfl | rfl <;> cases e) _ _ _ _ ?_)
    refine wpAnyIn_take (i := 1) (v := (.int .i64 (k : Int))) rfl rfl (by kernel_rfl) (by kernel_rfl) (by kernel_rfl) (fun _ _ _ h => absurd h.1 (by simp)) ⟨.inl ⟨rfl, fun _ => by simp [execOp, Act.eval]⟩, fun _ => rfl⟩ ?_
    refine any_two 0 2 (by kernel_rfl) (any_load rfl 0 rfl rfl rfl (.pointer (some ⟨b, 0, none⟩)) (by simp [execOp, Act.eval, Act.put, go_sem, hc]) ?_) (any_load rfl 2 rfl rfl rfl (.pointer (some ⟨b, 0, none⟩)) (by simp [execOp, Act.eval, Act.put, go_sem, hc]) ?_)
    · refine wpAnyIn_take (i := 6) (v := (.pointer (some ⟨b, 0, none⟩))) rfl rfl (by kernel_rfl) (by kernel_rfl) (by kernel_rfl) (fun _ _ _ h => absurd h.1 (by simp)) ⟨.inl ⟨rfl, fun _ => by simp [execOp, Act.eval, Act.put, go_sem]⟩, fun _ => rfl⟩ ?_
      refine wpAnyIn_take (i := 7) (v := (.pointer (some ⟨b, 9, none⟩))) rfl rfl (by kernel_rfl) (by kernel_rfl) (by kernel_rfl) (fun _ _ _ h => absurd h.1 (by simp)) ⟨.inl ⟨rfl, fun _ => by simp [execOp, Act.eval, Act.put, go_sem]⟩, fun _ => rfl⟩ ?_
      refine any_one 2 (by kernel_rfl) (any_load rfl 2 rfl rfl rfl (.pointer (some ⟨b, 0, none⟩)) (by simp [execOp, Act.eval, Act.put, go_sem, hc]) ?_)
      refine wpAnyIn_take (i := 3) (v := (.pointer (some ⟨b, 0, none⟩))) rfl rfl (by kernel_rfl) (by kernel_rfl) (by kernel_rfl) (fun _ _ _ h => absurd h.1 (by simp)) ⟨.inl ⟨rfl, fun _ => by simp [execOp, Act.eval, Act.put, go_sem]⟩, fun _ => rfl⟩ ?_
      refine wpAnyIn_take (i := 4) (v := (.pointer (some ⟨b, 8, none⟩))) rfl rfl (by kernel_rfl) (by kernel_rfl) (by kernel_rfl) (fun _ _ _ h => absurd h.1 (by simp)) ⟨.inl ⟨rfl, fun _ => by simp [execOp, Act.eval, Act.put, go_sem]⟩, fun _ => rfl⟩ ?_
      refine any_one 5 (by kernel_rfl) (any_load rfl 5 rfl rfl rfl (.int .i64 y) (by simp [execOp, Act.eval, Act.put, go_sem, c8]) ?_)
      refine wpAnyIn_take (i := 8) (v := (.pointer (some ⟨b, 9 + k * 2, none⟩))) rfl rfl (by kernel_rfl) (by kernel_rfl) (by kernel_rfl) (fun _ _ _ h => absurd h.1 (by simp)) ⟨.inl ⟨rfl, fun _ => by simp [execOp, Act.eval, Act.put, go_sem, hki]⟩, fun _ => rfl⟩ ?_
      refine wpAnyIn_take (i := 9) (v := (.pointer (some ⟨b, 9 + k * 2 + 1, none⟩))) rfl rfl (by kernel_rfl) (by kernel_rfl) (by kernel_rfl) (fun _ _ _ h => absurd h.1 (by simp)) ⟨.inl ⟨rfl, fun _ => by simp [execOp, Act.eval, Act.put, go_sem]⟩, fun _ => rfl⟩ ?_
      refine any_one 10 (by kernel_rfl) (any_store rfl 10 rfl rfl rfl (W.setCell ⟨b, 9 + k * 2 + 1, none⟩ (.int .i64 y)).drew (by simp [execOp, Act.eval, Act.put, go_sem, cp, fp]) ?_)
      exact wpAnyIn_done (by kernel_rfl) ⟨rfl, rfl⟩ _
    · refine wpAnyIn_take (i := 3) (v := (.pointer (some ⟨b, 0, none⟩))) rfl rfl (by kernel_rfl) (by kernel_rfl) (by kernel_rfl) (fun _ _ _ h => absurd h.1 (by simp)) ⟨.inl ⟨rfl, fun _ => by simp [execOp, Act.eval, Act.put, go_sem]⟩, fun _ => rfl⟩ ?_
      refine wpAnyIn_take (i := 4) (v := (.pointer (some ⟨b, 8, none⟩))) rfl rfl (by kernel_rfl) (by kernel_rfl) (by kernel_rfl) (fun _ _ _ h => absurd h.1 (by simp)) ⟨.inl ⟨rfl, fun _ => by simp [execOp, Act.eval, Act.put, go_sem]⟩, fun _ => rfl⟩ ?_
      refine any_two 0 5 (by kernel_rfl) (any_load rfl 0 rfl rfl rfl (.pointer (some ⟨b, 0, none⟩)) (by simp [execOp, Act.eval, Act.put, go_sem, hc]) ?_) (any_load rfl 5 rfl rfl rfl (.int .i64 y) (by simp [execOp, Act.eval, Act.put, go_sem, c8]) ?_)
      · refine wpAnyIn_take (i := 6) (v := (.pointer (some ⟨b, 0, none⟩))) rfl rfl (by kernel_rfl) (by kernel_rfl) (by kernel_rfl) (fun _ _ _ h => absurd h.1 (by simp)) ⟨.inl ⟨rfl, fun _ => by simp [execOp, Act.eval, Act.put, go_sem]⟩, fun _ => rfl⟩ ?_
        refine wpAnyIn_take (i := 7) (v := (.pointer (some ⟨b, 9, none⟩))) rfl rfl (by kernel_rfl) (by kernel_rfl) (by kernel_rfl) (fun _ _ _ h => absurd h.1 (by simp)) ⟨.inl ⟨rfl, fun _ => by simp [execOp, Act.eval, Act.put, go_sem]⟩, fun _ => rfl⟩ ?_
        refine any_one 5 (by kernel_rfl) (any_load rfl 5 rfl rfl rfl (.int .i64 y) (by simp [execOp, Act.eval, Act.put, go_sem, c8]) ?_)
        refine wpAnyIn_take (i := 8) (v := (.pointer (some ⟨b, 9 + k * 2, none⟩))) rfl rfl (by kernel_rfl) (by kernel_rfl) (by kernel_rfl) (fun _ _ _ h => absurd h.1 (by simp)) ⟨.inl ⟨rfl, fun _ => by simp [execOp, Act.eval, Act.put, go_sem, hki]⟩, fun _ => rfl⟩ ?_
        refine wpAnyIn_take (i := 9) (v := (.pointer (some ⟨b, 9 + k * 2 + 1, none⟩))) rfl rfl (by kernel_rfl) (by kernel_rfl) (by kernel_rfl) (fun _ _ _ h => absurd h.1 (by simp)) ⟨.inl ⟨rfl, fun _ => by simp [execOp, Act.eval, Act.put, go_sem]⟩, fun _ => rfl⟩ ?_
        refine any_one 10 (by kernel_rfl) (any_store rfl 10 rfl rfl rfl (W.setCell ⟨b, 9 + k * 2 + 1, none⟩ (.int .i64 y)).drew (by simp [execOp, Act.eval, Act.put, go_sem, cp, fp]) ?_)
        exact wpAnyIn_done (by kernel_rfl) ⟨rfl, rfl⟩ _
      · refine any_one 0 (by kernel_rfl) (any_load rfl 0 rfl rfl rfl (.pointer (some ⟨b, 0, none⟩)) (by simp [execOp, Act.eval, Act.put, go_sem, hc]) ?_)
        refine wpAnyIn_take (i := 6) (v := (.pointer (some ⟨b, 0, none⟩))) rfl rfl (by kernel_rfl) (by kernel_rfl) (by kernel_rfl) (fun _ _ _ h => absurd h.1 (by simp)) ⟨.inl ⟨rfl, fun _ => by simp [execOp, Act.eval, Act.put, go_sem]⟩, fun _ => rfl⟩ ?_
        refine wpAnyIn_take (i := 7) (v := (.pointer (some ⟨b, 9, none⟩))) rfl rfl (by kernel_rfl) (by kernel_rfl) (by kernel_rfl) (fun _ _ _ h => absurd h.1 (by simp)) ⟨.inl ⟨rfl, fun _ => by simp [execOp, Act.eval, Act.put, go_sem]⟩, fun _ => rfl⟩ ?_
        refine wpAnyIn_take (i := 8) (v := (.pointer (some ⟨b, 9 + k * 2, none⟩))) rfl rfl (by kernel_rfl) (by kernel_rfl) (by kernel_rfl) (fun _ _ _ h => absurd h.1 (by simp)) ⟨.inl ⟨rfl, fun _ => by simp [execOp, Act.eval, Act.put, go_sem, hki]⟩, fun _ => rfl⟩ ?_
        refine wpAnyIn_take (i := 9) (v := (.pointer (some ⟨b, 9 + k * 2 + 1, none⟩))) rfl rfl (by kernel_rfl) (by kernel_rfl) (by kernel_rfl) (fun _ _ _ h => absurd h.1 (by simp)) ⟨.inl ⟨rfl, fun _ => by simp [execOp, Act.eval, Act.put, go_sem]⟩, fun _ => rfl⟩ ?_
        refine any_one 10 (by kernel_rfl) (any_store rfl 10 rfl rfl rfl (W.setCell ⟨b, 9 + k * 2 + 1, none⟩ (.int .i64 y)).drew (by simp [execOp, Act.eval, Act.put, go_sem, cp, fp]) ?_)
        exact wpAnyIn_done (by kernel_rfl) ⟨rfl, rfl⟩ _
  case done =>
    rintro D' ys W hD rfl ⟨⟨hd, hc⟩, hB⟩ hK
    have hf5 := hd.frozen 5
    have c5' := hd.creg 5 (by omega)
    have HD2 := hide hd
    have HB := hide hB
    clear hd hB
    gi_wp2
    have hK2 : (W.setCell ⟨b, 5, none⟩ (.int .i64 (t : Int))).heap[D']? = some (Obj.deferred (some [])) := (Below.heap_setCell _ _ _ _ (by simp; omega)).trans hK
    refine ⟨by simp, .inl ⟨_, _, rfl, run_takeDeferred hK2, ?_⟩⟩
    refine ⟨_, results_none rfl _ _ _, rfl, ?_, ?_⟩
    · refine posts_post h t hh E5.out ?_
      exact (HD2.out.setReg LN_ok 5 (by omega) (t : Int)).grown (grownBy_putObj' _ _ _) (fun r e => by cases e; exact ⟨_, hK2, rfl⟩)
    · exact (HB.out.cellb _ _).grown (grownBy_putObj' _ _ _) (fun r e => by cases e; omega)
  case stop =>
    rintro D c pre W _ _ h _
    exact h.elim


set_option maxRecDepth 100000 in
set_option maxHeartbeats 2000000 in
theorem owns_in (n : Nat) (hn : 3 ≤ n) {A : Nat → Prop} {b : Nat} {D : Dev} {w : World} (hd : DevAt LN A w b D) (i k1 k2 h t : Nat) (hi : i < 16) (hk1 : k1 < 8) (hk2 : k2 < 8) (hh : h < 16) (ht : t < 16) (e1 : D.r k1 = h) (e2 : D.r k2 = t) :
    CallsIn Fence.wide n Try.prog 81 #[.pointer (some ⟨b, 0, none⟩), .int .i64 (i : Int), .int .i64 (k1 : Int), .int .i64 (k2 : Int)] w fun e W' => e = .returned (.bool (own h t i)) ∧ Below w.heap.size w W' := by
  have h1 : 1 ≤ n := by omega
  have c1 := hd.creg k1 hk1
  have c2 := hd.creg k2 hk2
  rw [e1] at c1
  rw [e2] at c2
  have hlt := hd.lt
  clear hd e1 e2
  refine callsIn_of_wp_marks Try.func81 rfl trivial ?_ rfl
  simp only [Try.ntmps81, List.size_toArray, List.length_cons, List.length_nil, Nat.reduceAdd, Nat.reduceSub, Array.replicate_succ, Array.replicate_zero, List.push_toArray, List.append_toArray, List.nil_append, List.cons_append]
  have hk1' : (k1 : Int) < 8 := by omega
  have hk2' : (k2 : Int) < 8 := by omega
  gi_wp2_with fail
  obtain ⟨s, hs⟩ : ∃ s, s = w.heap.size := ⟨_, rfl⟩
  refine wpIn_mono (Q := fun e a w' => match e with
    | .normal => a = { tmps := #[.pointer (some ⟨b, 0, none⟩), .int .i64 (i : Int), .int .i64 (k1 : Int), .int .i64 (k2 : Int), undef, .pointer (some ⟨s, 0, none⟩), undef, undef, .pointer (some ⟨s + 1, 0, none⟩), undef, .pointer (some ⟨b, 0, none⟩), .int .i64 (k1 : Int), .pointer (some ⟨b, 0, none⟩), .pointer (some ⟨b, 0, none⟩), .pointer (some ⟨b, k1, none⟩), .int .i64 (h : Int), .pointer (some ⟨b, 0, none⟩), .int .i64 (k2 : Int), .pointer (some ⟨b, 0, none⟩), .pointer (some ⟨b, 0, none⟩), .pointer (some ⟨b, k2, none⟩), .int .i64 (t : Int), .func (.func 99) #[] #[.pointer (some ⟨s + 2, 0, none⟩), .pointer (some ⟨s + 3, 0, none⟩)], undef, undef, undef, undef], defers := [] } ∧ w' = ((((w.alloc (.cells #[.int .i64 (i : Int)] 3)).alloc (.cells #[.bool false] 4)).alloc (.cells #[.int .i64 (h : Int)] 3)).alloc (.cells #[.int .i64 (t : Int)] 3)).drew
    | _ => False) ?_ ?_
  · subst hs
    gi_region_with (refine ⟨trivial, ?_⟩; refine (along_in Fence.wide (n - 1) trivial rfl _ _ _).mono ?_; rintro e w' ⟨rfl, rfl⟩)
    all_goals exact ⟨rfl, rfl⟩
  rintro e a1 w1 hq
  cases e with
  | normal => ?_
  | _ => exact hq.elim
  obtain ⟨rfl, hw1⟩ := hq
  have hb0 : Below w.heap.size w w1 := by rw [hw1]; exact (((((Below.refl _ w).alloc (Nat.le_refl _) _).alloc (by simp) _).alloc (by simp; omega) _).alloc (by simp; omega) _).drew
  have hsz : s + 4 ≤ w1.heap.size := by rw [hw1]; simp [World.drew, hs]
  have cI : w1.cell? ⟨s, 0, none⟩ = some (.int .i64 (i : Int)) := by rw [hw1, hs]; exact ((((Boxed.new w _ _).alloc _).alloc _).alloc _).cell
  have bB := (((Boxed.new (w.alloc (.cells #[.int .i64 (i : Int)] 3)) 4 (.bool false)).alloc (.cells #[.int .i64 (h : Int)] 3)).alloc (.cells #[.int .i64 (t : Int)] 3))
  have cF : w1.cell? ⟨s + 2, 0, none⟩ = some (.int .i64 (h : Int)) := by
    have := ((Boxed.new ((w.alloc (.cells #[.int .i64 (i : Int)] 3)).alloc (.cells #[.bool false] 4)) 3 (.int .i64 (h : Int))).alloc (.cells #[.int .i64 (t : Int)] 3)).cell
    simp only [World.size_alloc] at this
    rw [hw1, hs]; exact this
  have cT : w1.cell? ⟨s + 3, 0, none⟩ = some (.int .i64 (t : Int)) := by
    have := (Boxed.new (((w.alloc (.cells #[.int .i64 (i : Int)] 3)).alloc (.cells #[.bool false] 4)).alloc (.cells #[.int .i64 (h : Int)] 3)) 3 (.int .i64 (t : Int))).cell
    simp only [World.size_alloc] at this
    rw [hw1, hs]; exact this
  have cB : w1.cell? ⟨s + 1, 0, none⟩ = some (.bool false) := by
    have := bB.cell
    simp only [World.size_alloc] at this
    rw [hw1, hs]; exact this
  have fB : w1.frozen? ⟨s + 1, 0, none⟩ = false := by
    have := bB.frozen
    simp only [World.size_alloc] at this
    rw [hw1, hs]; exact this
  have hs1 : w.heap.size ≤ s := by omega
  have hs2 : s ≤ w.heap.size := by omega
  clear hs hw1 bB c1 c2
  gi_wp2
  have hro : Fence.wide.round = none := rfl
  have hfn : Fence.wide.fn 99 := trivial
  refine wpIn_rangeFunc_ownG hro h1 (gf := 99) (lb := #[.pointer (some ⟨s + 2, 0, none⟩), .pointer (some ⟨s + 3, 0, none⟩)]) rfl hfn (enters_of Try.func99 (by kernel_rfl) rfl)
    (along_stops Fence.wide (n - 1) hfn hro (by omega) (s + 2) (s + 3) h t hh ht w1 (by omega) (by omega) cF cT) (fun h k => k.trans h) (fun W l o o' hl _ _ _ => World.putObj_heap_other (by omega)) (Below.refl _ _) (fun _ => rfl)
    (fun pre W => ((W.cell? ⟨s, 0, none⟩ = some (.int .i64 (i : Int)) ∧ (∃ x, W.cell? ⟨s + 1, 0, none⟩ = some (.bool x)) ∧ W.frozen? ⟨s + 1, 0, none⟩ = false) ∧ ∀ x ∈ pre, x.val ≠ i) ∧ Below w.heap.size w W)
    (fun c pre W => ((c = .ret ∧ W.cell? ⟨s + 1, 0, none⟩ = some (.bool true)) ∧ ∃ x ∈ pre, x.val = i) ∧ Below w.heap.size w W)
    (OwnFrom.and (OwnFrom.and (fun pre A B row hs hg hr => ⟨cell_kept hs.1 hg (fun r e => (hr r e).2), hs.2.1.imp (fun x hx => cell_kept hx hg (fun r e => (hr r e).2)), hs.2.1.elim (fun x hx => (frozen_kept hx hg (fun r e => (hr r e).2)).trans hs.2.2)⟩) (fun _ _ _ _ hs _ _ => hs)) (ownFrom_below (Nat.le_refl _) (by omega)))
    (fun c => OwnFrom.and (OwnFrom.and (fun pre A B row hs hg hr => ⟨hs.1, cell_kept hs.2 hg (fun r e => (hr r e).2)⟩) (fun _ _ _ _ hs _ _ => hs)) (ownFrom_below (Nat.le_refl _) (by omega)))
    ⟨⟨⟨cI, ⟨_, cB⟩, fB⟩, by simp⟩, hb0⟩
    (fun x => { tmps := #[.pointer (some ⟨b, 0, none⟩), .int .i64 (i : Int), .int .i64 (k1 : Int), .int .i64 (k2 : Int), undef, .pointer (some ⟨s, 0, none⟩), undef, undef, .pointer (some ⟨s + 1, 0, none⟩), .int .i64 (x.val : Int), .pointer (some ⟨b, 0, none⟩), .int .i64 (k1 : Int), .pointer (some ⟨b, 0, none⟩), .pointer (some ⟨b, 0, none⟩), .pointer (some ⟨b, k1, none⟩), .int .i64 (h : Int), .pointer (some ⟨b, 0, none⟩), .int .i64 (k2 : Int), .pointer (some ⟨b, 0, none⟩), .pointer (some ⟨b, 0, none⟩), .pointer (some ⟨b, k2, none⟩), .int .i64 (t : Int), .func (.func 99) #[] #[.pointer (some ⟨s + 2, 0, none⟩), .pointer (some ⟨s + 3, 0, none⟩)], .int .i64 (x.val : Int), undef, undef, undef], defers := [] }) ?assign ?body ?done ?stop
  case assign =>
    intro l x W K hK
    gi_wp2
    exact hK
  case body =>
    rintro l pre x W ⟨⟨⟨hc, ⟨y, hy⟩, hf⟩, hp⟩, hB⟩ _
    obtain ⟨k, hk⟩ := x
    have HP := hide hp
    have HB := hide hB
    have HZ : Hid (w.heap.size ≤ s ∧ s ≤ w.heap.size ∧ s + 4 ≤ w1.heap.size) := ⟨hs1, hs2, hsz⟩
    clear hp hB hs1 hs2 hsz cI cF cT cB fB hb0 hn h1 hh ht hro hfn hlt
    simp only
    by_cases e : k = i
    · subst e
      gi_wp2
      refine ⟨(KeepsOthers.setCell _ _ _).from _, ⟨⟨rfl, ?_⟩, ⟨⟨k, hk⟩, by simp, rfl⟩⟩, ?_⟩
      · exact World.cell?_setCell_same' _ _ _ (by rw [hy]; rfl)
      · exact HB.out.setCell (p := ⟨s + 1, 0, none⟩) (by have := HZ.out; simp; omega) _
    · have q : ((k : Int) == (i : Int)) = false := by simp; omega
      have E := hide e
      clear e
      gi_wp2
      refine ⟨KeepsFrom.refl _ _, rfl, ⟨⟨hc, ⟨_, hy⟩, hf⟩, ?_⟩, HB.out⟩
      intro x hx
      rcases List.mem_append.1 hx with hx | hx
      · exact HP.out x hx
      · rw [List.mem_singleton] at hx; subst hx; exact E.out
  case done =>
    rintro D' ys W hD rfl ⟨⟨⟨hc, ⟨y, hy⟩, hf⟩, hp⟩, hB⟩ hK
    have HP := hide hp
    have HB := hide hB
    clear hp hB
    gi_wp2
    have hK2 : (W.setCell ⟨s + 1, 0, none⟩ (.bool false)).heap[D']? = some (Obj.deferred (some [])) := (Below.heap_setCell _ _ _ _ (by simp; omega)).trans hK
    have hc2 : (W.setCell ⟨s + 1, 0, none⟩ (.bool false)).cell? ⟨s + 1, 0, none⟩ = some (.bool false) := World.cell?_setCell_same' _ _ _ (by rw [hy]; rfl)
    have hc3 := cell_kept hc2 (grownBy_putObj' _ D' (.deferred none)) (fun r e => by cases e; exact ⟨_, hK2, rfl⟩)
    have hb3 := (HB.out.setCell (p := ⟨s + 1, 0, none⟩) (by simp; omega) (.bool false)).grown (grownBy_putObj' _ D' (.deferred none)) (by have := HB.out.size; simp; omega) (fun r e => by cases e; omega)
    refine ⟨by simp, .inl ⟨_, _, rfl, run_takeDeferred hK2, ?_⟩⟩
    refine ⟨.bool false, ?_, ?_, hb3⟩
    · simp [results, asAddr, go_sem, hc3]
    · have : own h t i = false := by
        cases ho : own h t i with
        | false => rfl
        | true =>
          obtain ⟨x, hx, he⟩ := (own_ex h t hh i hi).2 ho
          exact absurd he (HP.out x hx)
      rw [this]
  case stop =>
    rintro D' c pre W hD hsp ⟨⟨⟨rfl, hy⟩, hp⟩, hB⟩ hK
    have HP := hide hp
    have HB := hide hB
    clear hp hB
    gi_wp2
    have hc3 := cell_kept hy (grownBy_putObj' _ D' (.deferred none)) (fun r e => by cases e; exact ⟨_, hK, rfl⟩)
    have hb3 := HB.out.grown (grownBy_putObj' _ D' (.deferred none)) (by have := HB.out.size; omega) (fun r e => by cases e; omega)
    refine ⟨by simp, .inl ⟨_, _, rfl, run_takeDeferred hK, ?_⟩⟩
    refine ⟨.bool true, ?_, ?_, hb3⟩
    · simp [results, asAddr, go_sem, hc3]
    · have : own h t i = true := by
        obtain ⟨x, hx, he⟩ := HP.out
        obtain ⟨m, hm, rfl⟩ := hsp
        exact (own_ex h t hh i hi).1 ⟨x, ringN_sub hm x hx, he⟩
      rw [this]

theorem post_any {A : Nat → Prop} {b : Nat} {D : Dev} {w : World} (hd : DevAt LN A w b D) (ok : D.Ok) (t : Nat) (ht : t < 16) :
    Calls Try.prog 84 #[.pointer (some ⟨b, 0, none⟩), .int .i64 t] w fun e W' => e = .returned (.tuple #[]) ∧ DevAt LN A W' b (D.post t) ∧ But (Only b) w W' := by
  obtain ⟨h, e, hh⟩ := toNat_of (ok.ring 5 (by omega) (by omega))
  exact callsIn_wide.1 (post_in 3 (Nat.le_refl _) hd h t hh ht e)
theorem owns_tx {A : Nat → Prop} {b : Nat} {D : Dev} {w : World} (hd : DevAt LN A w b D) (ok : D.Ok) (i : Nat) (hi : i < 16) :
    Calls Try.prog 81 #[.pointer (some ⟨b, 0, none⟩), .int .i64 i, .int .i64 4, .int .i64 5] w fun e W' => e = .returned (.bool (D.owns 4 5 i)) ∧ Below w.heap.size w W' := by
  obtain ⟨h, e, hh⟩ := toNat_of (ok.ring 4 (by omega) (by omega))
  obtain ⟨t, e', ht⟩ := toNat_of (ok.ring 5 (by omega) (by omega))
  have := callsIn_wide.1 (owns_in 3 (Nat.le_refl _) hd i 4 5 h t hi (by omega) (by omega) hh ht e e')
  unfold Dev.owns
  rw [e, e']
  simpa using this
theorem owns_rx {A : Nat → Prop} {b : Nat} {D : Dev} {w : World} (hd : DevAt LN A w b D) (ok : D.Ok) (i : Nat) (hi : i < 16) :
    Calls Try.prog 81 #[.pointer (some ⟨b, 0, none⟩), .int .i64 i, .int .i64 2, .int .i64 3] w fun e W' => e = .returned (.bool (D.owns 2 3 i)) ∧ Below w.heap.size w W' := by
  obtain ⟨h, e, hh⟩ := toNat_of (ok.ring 2 (by omega) (by omega))
  obtain ⟨t, e', ht⟩ := toNat_of (ok.ring 3 (by omega) (by omega))
  have := callsIn_wide.1 (owns_in 3 (Nat.le_refl _) hd i 2 3 h t hi (by omega) (by omega) hh ht e e')
  unfold Dev.owns
  rw [e, e']
  simpa using this

end Go.Proofs.Ytjkfjijnjkpbbaa
