
/-
  UdpLines: its numbers, and the law's memory.
-/
import Derived.Test.YthjeaebpboilpaaU23
namespace Go.Proofs.Ythjeaebpboilpaa
open Go.RowKit Go.Shelf

/-- what a datagram says -/
def cor (d : Dg) : I4 × Int × List Int × List Int := (d.src, d.port, d.D, d.B)
theorem bfs_cor {M I : List Dg} (h : M.map cor = I.map cor) : bfs M = bfs I := by
  have e : ∀ L : List Dg, bfs L = (L.map cor).flatMap (fun c => c.2.2.2) := fun L => by
    unfold bfs
    rw [List.flatMap_map]
    rfl
  rw [e, e, h]
theorem bfs_at {T : List Dg} {q : Nat} {y : Dg} (h : T[q]? = some y) (j : Nat) (hj : j < y.B.length) : (bfs T)[(bfs (T.take q)).length + j]? = y.B[j]? := by
  have hq := (List.getElem?_eq_some_iff.1 h).1
  have e : T = T.take q ++ (y :: T.drop (q + 1)) := by
    have := List.take_append_drop q T
    rw [List.drop_eq_getElem_cons hq, (List.getElem?_eq_some_iff.1 h).2] at this
    exact this.symm
  have e2 : bfs T = bfs (T.take q) ++ (y.B ++ bfs (T.drop (q + 1))) := by
    rw [show bfs T = bfs (T.take q ++ (y :: T.drop (q + 1))) by rw [← e]]
    simp [bfs]
  rw [e2, List.getElem?_append_right (by omega), Nat.add_sub_cancel_left, List.getElem?_append_left hj]
theorem bfs_more {T : List Dg} {q : Nat} {y : Dg} (h : T[q]? = some y) : (bfs (T.take (q + 1))).length = (bfs (T.take q)).length + y.B.length := by
  rw [take_moreD h]
  simp [bfs]
/-- what came in: datagrams, and whether to take one out -/
def IsDs (n₀ : Nat) (W : World) (v : Value) (l : List Dg) : Prop :=
  ∃ a cap, v = .slice a l.length cap ∧ (0 < l.length → ∃ g off, a = some ⟨g, off, none⟩ ∧ g < n₀ ∧ ∀ (i : Nat) o, l[i]? = some o → CellsAt W g (off + i * 7) o.cells) ∧ ∀ d ∈ l, d.Ok (fun g => g < n₀) W
def IsLs (n₀ : Nat) (W : World) (v : Value) (q : List Bool) : Prop :=
  ∃ a cap, v = .slice a q.length cap ∧ (0 < q.length → ∃ g off, a = some ⟨g, off, none⟩ ∧ g < n₀ ∧ ∀ (i : Nat) x, q[i]? = some x → W.cell? ⟨g, off + i, none⟩ = some (.bool x))
theorem uPushX {w : World} {b : Nat} {LR LC P : Nat → Prop} {M : List Dg} (h : LnAt w b LR LC M) (d : Dg) (hd : d.Ok P w) : Calls Try.prog 21 #[.pointer (some ⟨b, 0, none⟩), .agg d.cells.toArray] w fun e w' => ∃ (E : Int) (M' : List Dg) (LR' LC' : Nat → Prop), e = .returned (.int .i64 E) ∧ ((E = 0 ∧ M.length < 4 ∧ ∃ d', cor d' = cor d ∧ M' = M ++ [d']) ∨ (E = 6 ∧ M.length = 4 ∧ M' = M)) ∧ LnAt w' b LR' LC' M' ∧ But (fun g => g = b ∨ LR g) w w' ∧ (∀ g, LR' g → LR g ∨ w.heap.size ≤ g) ∧ (∀ g, LC' g → LC g ∨ w.heap.size ≤ g) := by
  have hl := h.len
  by_cases h4 : M.length = 4
  · refine (uPush_full h h4 d).mono ?_
    rintro _ w' ⟨rfl, b'⟩
    exact ⟨6, M, LR, LC, rfl, .inr ⟨rfl, h4, rfl⟩, h.later b', But.of_below b', fun g e => .inl e, fun g e => .inl e⟩
  · refine (uPush_any h (by omega) d hd).mono ?_
    rintro _ w' ⟨d', LR', LC', rfl, ⟨e1, e2, e3, e4⟩, L, B, h1, h2⟩
    exact ⟨0, M ++ [d'], LR', LC', rfl, .inl ⟨rfl, by omega, d', by unfold cor; rw [e1, e2, e3, e4], rfl⟩, L, B, h1, h2⟩
/-- cells that are written over -/
def Scr (mk : Int → Value) (O : Nat → Prop) (W : World) (a : Option Addr) (n : Nat) : Prop :=
  0 < n → ∃ g off, a = some ⟨g, off, none⟩ ∧ O g ∧ g < W.heap.size ∧ (∀ j, j < n → ∃ z, W.cell? ⟨g, off + j, none⟩ = some (mk z)) ∧ ∀ j, W.frozen? ⟨g, j, none⟩ = false
theorem Scr.put {mk : Int → Value} {O : Nat → Prop} {W : World} {g off n k : Nat} (h : Scr mk O W (some ⟨g, off, none⟩) n) (hk : k < n) (z : Int) : Scr mk O (W.setCell ⟨g, off + k, none⟩ (mk z)) (some ⟨g, off, none⟩) n := by
  intro h0
  obtain ⟨g', off', e, hO, hl, hc, hf⟩ := h h0
  cases e
  refine ⟨g, off, rfl, hO, Nat.lt_of_lt_of_le hl ((But.refl (Only g) W).cellb (b := g) rfl (off + k) (mk z)).size, fun j hj => ?_, fun j => by rw [World.frozen?_setCell]; exact hf j⟩
  by_cases e : j = k
  · subst e
    obtain ⟨z0, h0⟩ := hc j hj
    exact ⟨z, World.cell?_setCell_same _ _ _ h0⟩
  · obtain ⟨z0, h0⟩ := hc j hj
    exact ⟨z0, (setCell_out (by omega)).trans h0⟩
theorem Scr.but {mk : Int → Value} {O K : Nat → Prop} {W W' : World} {a : Option Addr} {n : Nat} (h : Scr mk O W a n) (hb : But K W W') (hk : ∀ g, O g → ¬ K g) : Scr mk O W' a n := by
  intro h0
  obtain ⟨g, off, e, hO, hl, hc, hf⟩ := h h0
  refine ⟨g, off, e, hO, Nat.lt_of_lt_of_le hl hb.size, fun j hj => ?_, fun j => (hb.frozen (p := ⟨g, j, none⟩) hl (hk g hO)).trans (hf j)⟩
  obtain ⟨z, hz⟩ := hc j hj
  exact ⟨z, (hb.cell (p := ⟨g, off + j, none⟩) hl (hk g hO)).trans hz⟩
theorem Gro.scr {B : Nat} {W : World} {a : Option Addr} {n c : Nat} {L : List Int} (h : Gro B W (.slice a n c) L) (hn : n = L.length) : Scr (Value.int .u8) (fun g => B ≤ g ∧ g < W.heap.size) W a n := by
  intro h0
  subst hn
  have hl := h.lies
  obtain ⟨g, rfl, _, hc, hf⟩ := h.block h0
  have hg := hl g _ _ rfl
  exact ⟨g, 0, rfl, hg, hg.2, fun j hj => ⟨_, by rw [Nat.zero_add]; exact hc j hj⟩, hf⟩
theorem RowN.scr {O : Nat → Prop} {W : World} {a : Option Addr} {n c : Nat} {L : List Int} (h : RowN O W (.slice a n c) L) (hn : n = L.length) : Scr (Value.int .i64) O W a n := by
  intro h0
  subst hn
  obtain ⟨a', cap, c1, c2, c3, c4, c5⟩ := h
  simp only [Value.slice.injEq] at c1
  obtain ⟨rfl, _, rfl⟩ := c1
  cases a with
  | none => have := c4 rfl; omega
  | some ad =>
    obtain ⟨g, off, d1, d3, d4, d5, d6, d7⟩ := c5 ad rfl
    obtain rfl := d4 (by omega)
    exact ⟨g, off, rfl, d1, d3, fun j hj => ⟨_, d7 j _ (List.getElem?_eq_getElem hj)⟩, d6⟩
/-- the law's memory: the line, the row of those that are in it or were -/
structure UlM (w : World) (b : Nat) (LR LC IR : Nat → Prop) (M I : List Dg) (iv : Value) (W : World) : Prop where
  p : LnAt W b LR LC M
  r : RowF 7 IR W iv I.length (dgc I)
  ir : ∀ g, IR g → b < g ∧ g < W.heap.size ∧ ¬ (LR g ∨ LC g)
  bel : Below w.heap.size w W
  lo : w.heap.size ≤ b
def UlX (w : World) (b : Nat) (M I : List Dg) (iv : Value) (W : World) : Prop := ∃ LR LC IR, UlM w b LR LC IR M I iv W
section
variable {w W W' : World} {b : Nat} {LR LC IR K : Nat → Prop} {M I : List Dg} {iv : Value}
theorem UlM.but (h : UlM w b LR LC IR M I iv W) (hb : But K W W') (hk : ∀ g, g = b ∨ LR g ∨ LC g ∨ IR g → ¬ K g) (h0 : ∀ g, g < w.heap.size → ¬ K g) : UlM w b LR LC IR M I iv W' :=
  ⟨h.p.but hb (fun g e => hk g (by rcases e with e | e | e; exact .inl e; exact .inr (.inl e); exact .inr (.inr (.inl e)))), h.r.but hb (fun g e => hk g (.inr (.inr (.inr e)))), fun g e => ⟨(h.ir g e).1, Nat.lt_of_lt_of_le (h.ir g e).2.1 hb.size, (h.ir g e).2.2⟩, h.bel.trans (hb.below h.bel.size h0), h.lo⟩
theorem UlM.later (h : UlM w b LR LC IR M I iv W) (hb : Below W.heap.size W W') : UlM w b LR LC IR M I iv W' := h.but (K := fun _ => False) (But.of_below hb) (fun _ _ => id) (fun _ _ => id)
theorem UlM.lt (h : UlM w b LR LC IR M I iv W) : ∀ g, g = b ∨ LR g ∨ LC g ∨ IR g → g < W.heap.size := fun g e => by
  rcases e with e | e | e | e
  · have := h.p.lt; omega
  · exact (h.p.nb g (.inl e)).2
  · exact (h.p.nb g (.inr e)).2
  · exact (h.ir g e).2.1
theorem UlX.later (h : UlX w b M I iv W) (hb : Below W.heap.size W W') : UlX w b M I iv W' := by
  obtain ⟨LR, LC, IR, h⟩ := h
  exact ⟨LR, LC, IR, h.later hb⟩
/-- one is put in behind -/
theorem UlX.push {a : Option Addr} {n c : Nat} (h : UlX w b M I (.slice a n c) W) (hn : n = I.length) (x : Dg) (ox : ∀ u ∈ x.cells, u.oneCell' = true) (oI : ∀ d ∈ I, ∀ u ∈ d.cells, u.oneCell' = true) (hl : n ≤ 100000000) : ∃ a' c' W2, (Builtin.append_ #[51, 51] 51 #[.slice a n c, .slice (some ⟨W.heap.size, 0, none⟩) 1 1]).run Try.prog (W.alloc (.cells x.cells.toArray 57)) = .ok (.slice a' (n + 1) c') W2 ∧ UlX w b M (I ++ [x]) (.slice a' (n + 1) c') W2 := by
  obtain ⟨LR, LC, IR, h⟩ := h
  obtain ⟨wE, hwE⟩ : ∃ z, z = W.alloc (.cells x.cells.toArray 57) := ⟨_, rfl⟩
  have bE : Below W.heap.size W wE := by rw [hwE]; exact later_alloc _ _
  have cE : CellsAt wE W.heap.size 0 x.cells := by rw [hwE]; exact CellsAt.new W x.cells 57
  have hE := h.later bE
  have rE := hE.r
  rw [← hn] at rE
  obtain ⟨i0, hi0, hz0, hz1, hz2⟩ := info_parts info_dg
  obtain ⟨a', c', wF, hrun, rF, hbF⟩ := rE.push 51 57 i0 _ Try.underlying51 hi0 hz0 hz1 (by omega) rfl (fun j hj => dgc_len I j) (fun q hq => by
    obtain ⟨m, hm⟩ : ∃ m, I[q]? = some m := ⟨_, List.getElem?_eq_getElem (by omega)⟩
    rw [dgc_at hm]; exact oI m (List.mem_of_getElem? hm)) x.cells rfl ox W.heap.size cE (by omega)
  rw [← hwE]
  have kb : ¬ IR b := fun e => by have := (h.ir b e).1; omega
  have p' : LnAt wF b LR LC M → UlX w b M (I ++ [x]) (.slice a' (n + 1) c') wF := fun hp => by
    refine ⟨LR, LC, (fun g => IR g ∨ wE.heap.size ≤ g ∧ g < wF.heap.size), hp, ?_, fun g e => ?_, hE.bel.trans (hbF.below hE.bel.size (fun g hg e => by have := (h.ir g e).1; have := h.lo; omega)), h.lo⟩
    · rw [List.length_append, ← hn]
      refine RowF.cong (c := fun q => if q < n then dgc I q else x.cells) (rF.own (fun g hg e => ?_)) (fun j hj => by rw [dgc_app I x j (by rw [← hn]; exact hj), ← hn])
      rcases e with e | e
      · exact .inl e
      · exact .inr ⟨by omega, hg⟩
    · rcases e with e | e
      · exact ⟨(hE.ir g e).1, Nat.lt_of_lt_of_le (hE.ir g e).2.1 hbF.size, (hE.ir g e).2.2⟩
      · have := hE.p.lt
        exact ⟨by omega, e.2, fun e2 => by have := (hE.p.nb g e2).2; omega⟩
  exact ⟨a', c', wF, hrun, p' (hE.p.but hbF (fun g e e2 => by
    rcases e with e | e
    · exact kb (e ▸ e2)
    · exact (h.ir g e2).2.2 e))⟩
end
end Go.Proofs.Ythjeaebpboilpaa
