
/-
  How a list of calls is opened.
-/
import Derived.Test.YtohalgfindhjnaaFRow
import Derived.Test.YtohalgfindhjnaaU18
namespace Go.Proofs.Ytohalgfindhjnaa
open Go.ChangeShapes Go.WideShapes Go.ChangeAt Go.RowKit Go.Deep Go.Shelf

theorem bytes_op : Try.prog.bytesOf 44 = 120 := by kernel_rfl
theorem cells_op : Try.prog.cellsOf 44 = 19 := by kernel_rfl
/-- one call -/
structure Op11 where
  tick : Bool
  p : Pk
  hv : Value
  bv : Value
  bs : List Int
  wait : Int
instance : Inhabited Op11 := ⟨⟨false, ⟨⟨0, 0, 0, 0⟩, ⟨0, 0, 0, 0⟩, 0, 0, 0, 0, false, false, 0, []⟩, undef, undef, [], 0⟩⟩
def Op11.cells (o : Op11) : List Value := .bool o.tick :: (o.p.cells o.hv ++ [o.bv, .int .i64 o.wait])
structure Op11.Ok (n : Nat) (W : World) (o : Op11) : Prop where
  h : CB (fun g => g < n) W o.hv o.p.opts
  b : CB (fun g => g < n) W o.bv o.bs
  hl : o.p.opts.length ≤ 140737488351232
  bl : o.bs.length ≤ 140737488351232
  off : -9223372036854775808 ≤ o.p.off ∧ o.p.off ≤ 9223372036854775807
  wait : -9223372036854775808 ≤ o.wait ∧ o.wait ≤ 9223372036854775807
def IsOps (n : Nat) (W : World) (v : Value) (l : List Op11) : Prop :=
  ∃ a cap, v = .slice a l.length cap ∧ (0 < l.length → ∃ g off, a = some ⟨g, off, none⟩ ∧ g < n ∧ ∀ i o, l[i]? = some o → CellsAt W g (off + i * 19) o.cells) ∧ ∀ o ∈ l, o.Ok n W
section
variable {H : Type} {enc : TypeId × Value → H} {W : World} {sp : Nat → Bool} {held : Bool} {fuel : Nat} {x : DataW H × List MemPlace}
theorem int_cellw {v : Value} (hf : DataW.trod enc Try.prog W 0 sp held fuel 3 [v] = some x) : ∃ a, v = .int .i64 a ∧ (-9223372036854775808 ≤ a ∧ a ≤ 9223372036854775807) := by
  obtain ⟨a, e, _, hw⟩ := DataW.trod_int Try.underlying3 hf
  simp only [List.cons.injEq, and_true] at e
  exact ⟨a, e, int_wf hw⟩
theorem open_pc2 {cs : List Value} (hf : DataW.trod enc Try.prog W 0 sp held fuel 26 cs = some x) : ∃ (p : Pk) (ov : Value), cs = p.cells ov ∧ IsB W.heap.size W ov p.opts ∧ (-9223372036854775808 ≤ p.off ∧ p.off ≤ 9223372036854775807) ∧ (p.opts = [] ∨ ∃ k ∈ x.1.weights Try.prog 26, p.opts.length ≤ k) := by
  obtain ⟨xs, n, _, hx, hl0, hl, hi⟩ := DataW.trod_struct Try.underlying26 hf
  rw [cells_p] at hl0
  replace hl : xs.length = 10 := hl
  have key : ∀ i (h : i < 10), xs[i]? = some (xs[i]'(by omega)) := fun i h => List.getElem?_eq_getElem (by omega)
  have g0 : DataW.trod enc Try.prog W 0 sp held n 23 ((cs.drop 0).take (Try.prog.cellsOf 23)) = xs[0]? := hi 0 _ rfl
  rw [cells_4, key 0 (by omega)] at g0
  have g1 : DataW.trod enc Try.prog W 0 sp held n 23 ((cs.drop 4).take (Try.prog.cellsOf 23)) = xs[1]? := hi 1 _ rfl
  rw [cells_4, key 1 (by omega)] at g1
  have g2 : DataW.trod enc Try.prog W 0 sp held n 3 ((cs.drop 8).take (Try.prog.cellsOf 3)) = xs[2]? := hi 2 _ rfl
  rw [cells_i, key 2 (by omega)] at g2
  have g3 : DataW.trod enc Try.prog W 0 sp held n 3 ((cs.drop 9).take (Try.prog.cellsOf 3)) = xs[3]? := hi 3 _ rfl
  rw [cells_i, key 3 (by omega)] at g3
  have g4 : DataW.trod enc Try.prog W 0 sp held n 3 ((cs.drop 10).take (Try.prog.cellsOf 3)) = xs[4]? := hi 4 _ rfl
  rw [cells_i, key 4 (by omega)] at g4
  have g5 : DataW.trod enc Try.prog W 0 sp held n 3 ((cs.drop 11).take (Try.prog.cellsOf 3)) = xs[5]? := hi 5 _ rfl
  rw [cells_i, key 5 (by omega)] at g5
  have g6 : DataW.trod enc Try.prog W 0 sp held n 4 ((cs.drop 12).take (Try.prog.cellsOf 4)) = xs[6]? := hi 6 _ rfl
  rw [cells_b, key 6 (by omega)] at g6
  have g7 : DataW.trod enc Try.prog W 0 sp held n 4 ((cs.drop 13).take (Try.prog.cellsOf 4)) = xs[7]? := hi 7 _ rfl
  rw [cells_b, key 7 (by omega)] at g7
  have g8 : DataW.trod enc Try.prog W 0 sp held n 3 ((cs.drop 14).take (Try.prog.cellsOf 3)) = xs[8]? := hi 8 _ rfl
  rw [cells_i, key 8 (by omega)] at g8
  have g9 : DataW.trod enc Try.prog W 0 sp held n 24 ((cs.drop 15).take (Try.prog.cellsOf 24)) = xs[9]? := hi 9 _ rfl
  rw [cells_s, key 9 (by omega)] at g9
  obtain ⟨v0, v1, v2, v3, v4, v5, v6, v7, v8, v9, v10, v11, v12, v13, v14, v15, rfl⟩ := list16 hl0
  obtain ⟨si, e0, ok0⟩ := open_four g0
  obtain ⟨di, e1, ok1⟩ := open_four g1
  obtain ⟨a2, e2⟩ := int_cell (v := v8) g2
  obtain ⟨a3, e3⟩ := int_cell (v := v9) g3
  obtain ⟨a4, e4⟩ := int_cell (v := v10) g4
  obtain ⟨a5, e5⟩ := int_cell (v := v11) g5
  obtain ⟨a6, e6⟩ := bool_cell (v := v12) g6
  obtain ⟨a7, e7⟩ := bool_cell (v := v13) g7
  obtain ⟨a8, e8, w8⟩ := int_cellw (v := v14) g8
  obtain ⟨bs, hb, hB, hw⟩ := open_b1 (v := v15) g9
  simp [I4.vals] at e0 e1
  obtain ⟨rfl, rfl, rfl, rfl⟩ := e0
  obtain ⟨rfl, rfl, rfl, rfl⟩ := e1
  subst e2 e3 e4 e5 e6 e7 e8
  refine ⟨⟨si, di, a2, a3, a4, a5, a6, a7, a8, bs⟩, v15, rfl, hb, w8, ?_⟩
  rcases hw with ⟨_, rfl⟩ | ⟨e, s, he, hel⟩
  · exact .inl rfl
  · refine .inr ⟨(e.length + s.length) * Try.prog.bytesOf 5, ?_, by rw [bytes_u8]; show bs.length ≤ _; omega⟩
    have h9 : ((e.length + s.length) * Try.prog.bytesOf 5) ∈ (xs[9]'(by omega)).1.weights Try.prog 24 := by rw [he]; simp [DataW.weights, Try.underlying24]
    have hd : (xs.map (·.1))[9]? = some (xs[9]'(by omega)).1 := by rw [List.getElem?_map, key 9 (by omega)]; rfl
    have k := DataW.weights_mem_each (P := Try.prog) (ts := [23, 23, 3, 3, 3, 3, 4, 4, 3, 24]) (ds := xs.map (·.1)) (j := 9) rfl hd _ h9
    rw [hx]
    simp only [DataW.weights, Try.underlying26]
    exact k
theorem list19 {cs : List Value} (h : cs.length = 19) : ∃ (v0 : Value) (ps : List Value) (v17 v18 : Value), cs = v0 :: (ps ++ [v17, v18]) ∧ ps.length = 16 := by
  cases cs with
  | nil => simp at h
  | cons v0 r =>
    have hr : r.length = 18 := by simpa using h
    have hd : (r.drop 16).length = 2 := by rw [List.length_drop]; omega
    obtain ⟨a, b, e⟩ : ∃ a b, r.drop 16 = [a, b] := by
      match r.drop 16, hd with
      | [a, b], _ => exact ⟨a, b, rfl⟩
    exact ⟨v0, r.take 16, a, b, by rw [← e, List.take_append_drop], by rw [List.length_take]; omega⟩
theorem open_op {cs : List Value} (h : DataW.trod enc Try.prog W 0 sp held fuel 44 cs = some x) (hc : cs.length = 19) :
    ∃ o : Op11, cs = o.cells ∧ CB (fun g => g < W.heap.size) W o.hv o.p.opts ∧ CB (fun g => g < W.heap.size) W o.bv o.bs ∧ (-9223372036854775808 ≤ o.p.off ∧ o.p.off ≤ 9223372036854775807) ∧ (-9223372036854775808 ≤ o.wait ∧ o.wait ≤ 9223372036854775807) ∧ (o.p.opts = [] ∨ ∃ k ∈ x.1.weights Try.prog 44, o.p.opts.length ≤ k) ∧ (o.bs = [] ∨ ∃ k ∈ x.1.weights Try.prog 44, o.bs.length ≤ k) := by
  obtain ⟨xs, n, _, rfl, _, hl, hf⟩ := DataW.trod_struct Try.underlying44 h
  obtain ⟨v0, ps, v17, v18, rfl, hp16⟩ := list19 hc
  match xs, hl with
  | [y0, y1, y2, y3], _ =>
    have g0 := hf 0 _ rfl
    have g1 := hf 1 _ rfl
    have g2 := hf 2 _ rfl
    have g3 := hf 3 _ rfl
    simp [cells_i, cells_b, cells_s, cells_p, hp16] at g0 g1 g2 g3
    obtain ⟨a0, rfl⟩ := bool_cell g0
    obtain ⟨pk, hv, rfl, hb, w1, hw1⟩ := open_pc2 g1
    obtain ⟨bs, hb2, _, hw2⟩ := open_b1 g2
    obtain ⟨a3, rfl, w3⟩ := int_cellw g3
    refine ⟨⟨a0, pk, hv, v17, bs, a3⟩, rfl, hb.cn (Nat.le_refl _), hb2.cn (Nat.le_refl _), w1, w3, ?_, ?_⟩
    · rcases hw1 with h1 | ⟨k, hk, hle⟩
      · exact .inl h1
      · refine .inr ⟨k, ?_, hle⟩
        have k2 := DataW.weights_mem_each (P := Try.prog) (ts := [4, 26, 24, 3]) (ds := [y0.1, y1.1, y2.1, y3.1]) (j := 1) rfl rfl _ hk
        simp only [List.map_cons, List.map_nil, DataW.weights, Try.underlying44]
        exact k2
    · rcases hw2 with ⟨_, rfl⟩ | ⟨e, s, he, hel⟩
      · exact .inl rfl
      · refine .inr ⟨(e.length + s.length) * Try.prog.bytesOf 5, ?_, by rw [bytes_u8]; show bs.length ≤ _; omega⟩
        have : ((e.length + s.length) * Try.prog.bytesOf 5) ∈ y2.1.weights Try.prog 24 := by rw [he]; simp [DataW.weights, Try.underlying24]
        have k2 := DataW.weights_mem_each (P := Try.prog) (ts := [4, 26, 24, 3]) (ds := [y0.1, y1.1, y2.1, y3.1]) (j := 2) rfl rfl _ this
        simp only [List.map_cons, List.map_nil, DataW.weights, Try.underlying44]
        exact k2
end
theorem weights_all_mem {H : Type} {e : TypeId} : ∀ {l : List (DataW H)} {d : DataW H}, d ∈ l → ∀ k ∈ d.weights Try.prog e, k ∈ DataW.weightsAll Try.prog e l
  | x :: l, d, h, k, hk => by
    simp only [DataW.weightsAll, List.mem_append]
    rcases List.mem_cons.1 h with rfl | h
    · exact .inl hk
    · exact .inr (weights_all_mem h k hk)

set_option maxRecDepth 100000 in
/-- a slice of calls that came in -/
theorem open_o {H : Type} {enc : TypeId × Value → H} {W : World} {base : Nat} {v : Value} {d : DataW H} {p : List MemPlace} {ts : List TypeId} {ds : List (DataW H)} (hok : Value.okWide Try.prog W .any base 36 v)
    (h : DataW.Trod enc Try.prog W 0 (fun _ => true) true 36 v d p) (hsz : (DataW.weightsEach Try.prog ts ds).all (· ≤ reachBytes) = true) {j : Nat} (ht : ts[j]? = some 36) (hd : ds[j]? = some d) :
    ∃ l : List Op11, IsOps W.heap.size W v l ∧ l.length ≤ 1172812402926 := by
  obtain ⟨a0, len, cap, rfl⟩ := okWide_slice Try.underlying36 hok
  obtain ⟨fuel, hf⟩ := h
  have hall : ∀ k ∈ d.weights Try.prog 36, k ≤ 140737488351232 := fun k hk => by
    have h1 : k ≤ reachBytes := of_decide_eq_true (List.all_eq_true.1 hsz _ (DataW.weights_mem_each ht hd k hk))
    simp only [reachBytes] at h1
    exact h1
  simp only [Value.cells] at hf
  rcases open_slice Try.underlying36 hf with ⟨hcs, hx⟩ | ⟨a, len', cap', m, n, D, Pl, hcs, _, hl, hm, hmm, hx, hel⟩
  · simp at hcs
    obtain ⟨rfl, rfl, rfl⟩ := hcs
    exact ⟨[], ⟨none, 0, rfl, fun h => by simp at h, fun o ho => by cases ho⟩, by simp⟩
  · simp at hcs
    obtain ⟨rfl, rfl, rfl⟩ := hcs
    simp only [if_true] at hmm
    subst hmm
    simp only [Prod.mk.injEq] at hx
    obtain ⟨rfl, _⟩ := hx
    have hlen : len ≤ 1172812402926 := by
      have := hall ((((List.range len).map D).length + ((List.range (m - len)).map fun j => D (len + j)).length) * Try.prog.bytesOf 44) (by simp [DataW.weights, Try.underlying36])
      rw [bytes_op] at this
      simp at this
      omega
    have each : ∀ i, i < len → ∃ o : Op11, (∀ (k : Nat) u, o.cells[k]? = some u → W.cell? (a.add (i * 19 + k)) = some u) ∧ o.Ok W.heap.size W := by
      intro i hi
      obtain ⟨cs', h1, h2⟩ := hel i (by omega)
      rw [cells_op] at h1
      obtain ⟨_, hlen5, hcell⟩ := World.cells?_some h1
      obtain ⟨o, rfl, c1, c2, w1, w2, q1, q2⟩ := open_op h2 hlen5
      have inW : ∀ k ∈ (D i).weights Try.prog 44, k ≤ 140737488351232 := fun k hk => hall k (by
        simp only [DataW.weights, Try.underlying36, List.mem_cons, List.mem_append]
        exact .inr (.inl (weights_all_mem (List.mem_map.2 ⟨i, by simpa using hi, rfl⟩) k hk)))
      refine ⟨o, fun k u hu => ?_, c1, c2, ?_, ?_, w1, w2⟩
      · have hk : k < 19 := by have := (List.getElem?_eq_some_iff.1 hu).1; omega
        have := hcell k (by omega)
        rw [add_add, hu] at this
        exact this
      · rcases q1 with h0 | ⟨k, hk, hkl⟩
        · rw [h0]; simp
        · have := inW k hk
          omega
      · rcases q2 with h0 | ⟨k, hk, hkl⟩
        · rw [h0]; simp
        · have := inW k hk
          omega
    obtain ⟨f, hf⟩ := choose_lt each
    refine ⟨(List.range len).map f, ⟨some a, m, by simp, fun h0 => ?_, fun o ho => ?_⟩, by simpa using hlen⟩
    · have hpos : 0 < len := by simpa using h0
      have c0 := (hf 0 hpos).1 0 _ rfl
      obtain ⟨gb, off, sp⟩ := a
      have hsp : sp = none := by
        cases sp with
        | none => rfl
        | some q =>
          exfalso
          unfold World.cell? at c0
          split at c0
          · simp [Addr.add] at c0
          · cases c0
      subst hsp
      have hlt : gb < W.heap.size := by
        have := World.block_lt_of_cell? W _ c0
        simpa [Addr.add] using this
      refine ⟨gb, off, rfl, hlt, fun i o hi => ?_⟩
      have hil : i < len := by have := (List.getElem?_eq_some_iff.1 hi).1; simpa using this
      have ho : f i = o := by simpa [hil] using hi
      subst ho
      intro k u hu
      have := (hf i hil).1 k u hu
      simpa [Addr.add_lit, Nat.add_assoc] using this
    · obtain ⟨i, hi, rfl⟩ := List.mem_map.1 ho
      exact (hf i (by simpa using hi)).2
end Go.Proofs.Ytohalgfindhjnaa
