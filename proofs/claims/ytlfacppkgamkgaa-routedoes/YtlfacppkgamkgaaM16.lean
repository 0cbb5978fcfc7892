
/-
  maps.Values, and which rows its function tells: each once, in whichever order.
-/
import Derived.Test.YtlfacppkgamkgaaM15
namespace Go.Proofs.Ytlfacppkgamkgaa
open Go.RowKit Go.Shelf
open Go.ChangeMaps (setBlock)
attribute [local go_sem] Oper.semAt_some

theorem row_inj {r q : Rw} (h : r.cells = q.cells) : r.w = q.w ∧ r.pl = q.pl := by
  obtain ⟨⟨⟨a, b, c, d⟩, e, ⟨f, g, h1, i⟩, v⟩, p, s⟩ := r
  obtain ⟨⟨⟨a', b', c', d'⟩, e', ⟨f', g', h1', i'⟩, v'⟩, p', s'⟩ := q
  simp only [Rw.cells, Wy.cells, I4.vals, List.cons_append, List.nil_append, List.cons.injEq, Value.int.injEq, Value.bool.injEq, true_and, and_true] at h
  obtain ⟨rfl, rfl, rfl, rfl, rfl, rfl, rfl, rfl, rfl, rfl, rfl⟩ := h
  exact ⟨rfl, rfl⟩
theorem pair_eq {L : List Rw} {R : Rw → Rw → Prop} (h : L.Pairwise R) (_hi : ∀ r, ¬ R r r) {r q : Rw} (hr : r ∈ L) (hq : q ∈ L) (h1 : ¬ R r q) (h2 : ¬ R q r) : r = q := by
  obtain ⟨i, hi1, rfl⟩ := List.getElem_of_mem hr
  obtain ⟨j, hj1, rfl⟩ := List.getElem_of_mem hq
  rw [List.pairwise_iff_getElem] at h
  rcases Nat.lt_trichotomy i j with e | e | e
  · exact absurd (h i j hi1 hj1 e) h1
  · subst e; rfl
  · exact absurd (h j i hj1 hi1 e) h2
theorem TbOk.same {L : List Rw} {ck : Nat} {bh : Int} (h : TbOk L ck bh) {r q : Rw} (hr : r ∈ L) (hq : q ∈ L) (e : r.cells = q.cells) : r = q := by
  obtain ⟨e1, e2⟩ := row_inj e
  exact pair_eq h.asc (fun r => by omega) hr hq (by omega) (by omega)
theorem TbOk.born {L : List Rw} {ck : Nat} {bh : Int} (h : TbOk L ck bh) {r q : Rw} (hr : r ∈ L) (hq : q ∈ L) (e : r.bn = q.bn) : r = q :=
  pair_eq h.bn (fun r => by omega) hr hq (by omega) (by omega)
theorem TbOk.nodup {L : List Rw} {ck : Nat} {bh : Int} (h : TbOk L ck bh) : (L.map (·.bn)).Nodup :=
  (List.pairwise_map.2 (h.bn.imp (fun {a b} hab => by show a.bn ≠ b.bn; omega)))
/-- those that were told -/
structure Told (L T : List Rw) : Prop where
  sub : ∀ r ∈ T, r ∈ L
  nod : (T.map (·.bn)).Nodup
theorem Told.more {L T : List Rw} (h : Told L T) {r : Rw} (hr : r ∈ L) (hn : r.bn ∉ T.map (·.bn)) : Told L (T ++ [r]) :=
  ⟨fun s hs => by rcases List.mem_append.1 hs with hs | hs; exact h.sub s hs; rw [List.mem_singleton.1 hs]; exact hr, by
    rw [List.map_append]
    exact List.nodup_append.2 ⟨h.nod, by simp, fun a ha b hb => by
      have e : b = r.bn := by simpa using hb
      rw [e]
      rintro rfl
      exact hn ha⟩⟩
theorem Told.perm {L T : List Rw} {ck : Nat} {bh : Int} (h : Told L T) (hL : TbOk L ck bh) (ha : ∀ r ∈ L, r.bn ∈ T.map (·.bn)) : T.Perm L := by
  have n1 : T.Nodup := (List.pairwise_map.1 h.nod).imp (fun {a b} hab => by rintro rfl; exact hab rfl)
  have n2 : L.Nodup := (List.pairwise_map.1 hL.nodup).imp (fun {a b} hab => by rintro rfl; exact hab rfl)
  refine (List.perm_ext_iff_of_nodup n1 n2).2 (fun r => ⟨h.sub r, fun hr => ?_⟩)
  obtain ⟨q, hq, e⟩ := List.mem_map.1 (ha r hr)
  rw [← hL.born (h.sub q hq) hr e]
  exact hq
theorem Told.len {L T : List Rw} {ck : Nat} {bh : Int} (h : Told L T) (_hL : TbOk L ck bh) {r : Rw} (hr : r ∈ L) (hn : r.bn ∉ T.map (·.bn)) : T.length < L.length := by
  have h1 := h.more hr hn
  have : ((T ++ [r]).map (·.bn)).length ≤ (L.map (·.bn)).length := List.Nodup.length_le_of_subset h1.nod (fun x hx => by
    obtain ⟨q, hq, rfl⟩ := List.mem_map.1 hx
    exact List.mem_map.2 ⟨q, h1.sub q hq, rfl⟩)
  simp at this
  omega
theorem Values_any (b : Nat) (w : World) : Calls Try.prog 23 #[.map (some b)] w fun e w' => e = .returned (.func (.func 28) #[] #[.pointer (some ⟨w.heap.size, 0, none⟩)]) ∧ w' = w.alloc (.cells #[.map (some b)] 48) := by
  go_enter Try.func23, Try.ntmps23
  go_wp2
  go_ret
  exact ⟨rfl, rfl⟩
def TellR (L T : List Rw) (args : Array Value) : Prop := ∃ r ∈ L, r.bn ∉ T.map (·.bn) ∧ args = #[.agg r.cells.toArray]
def NextR (L T : List Rw) (args : Array Value) (T' : List Rw) : Prop := ∃ r ∈ L, r.bn ∉ T.map (·.bn) ∧ args = #[.agg r.cells.toArray] ∧ T' = T ++ [r]
set_option maxRecDepth 100000 in
set_option maxHeartbeats 4000000 in
theorem values_tells (n : Nat) (hn : 1 ≤ n) (Bc b n0 : Nat) (L : List Rw) (ck : Nat) (bh : Int) (hL : TbOk L ck bh) (I : List Rw → World → Prop)
    (hI : ∀ T W, I T W → W.cell? ⟨Bc, 0, none⟩ = some (.map (some b)) ∧ MapAt W b L ck) (hIb : ∀ T W W', I T W → Below W.heap.size W W' → I T W') (hIr : ∀ T W r o o', n0 ≤ r → W.heap[r]? = some o → o.isCells = false → I T W → I T (W.putObj r o')) :
    Tells2 n 28 #[.pointer (some ⟨Bc, 0, none⟩)] n0 I (TellR L) (NextR L) (fun T => T.Perm L) [] := by
  intro lp B Bx W hlp hn0 hBk hY h0 hB0
  obtain ⟨q1, q2⟩ := hI [] W h0
  obtain ⟨r, hr⟩ : ∃ r, r = W.heap.size := ⟨_, rfl⟩
  have rg := run_range_map (P := Try.prog) W 48 54 57 b (L.map ent).toArray ck u_map q2
  obtain ⟨W1, hW1⟩ : ∃ W1, W1 = W.alloc (.mapIter (some b) ck #[] ck) := ⟨_, rfl⟩
  have b1 : Below W.heap.size W W1 := by rw [hW1]; exact (Below.refl _ _).alloc (Nat.le_refl _) _
  have i1 : W1.heap[r]? = some (.mapIter (some b) ck #[] ck) := by rw [hW1, hr]; exact heap_alloc_new W _
  rw [← hW1, ← hr] at rg
  have I1 := hide (hIb [] W W1 h0 b1)
  have B1 : Hid (B W1) := hBk W W1 (fun k o _ hk ho _ => (b1.block k hk).trans ho) hB0
  have IT := hide i1
  have KEY := hide hI
  have HY := hide hY
  have HIB := hide hIb
  have HIR := hide hIr
  have HBK := hide hBk
  have HL := hide hL
  have HR := hide hr
  have HLP := hide hlp
  have HN0 := hide hn0
  clear hI hY h0 hB0 hBk hIb hIr b1 i1 hW1 hr hL q2
  refine callsIn_of_wp Try.func28 rfl trivial ?_ rfl
  simp only [Try.ntmps28, List.size_toArray, List.length_cons, List.length_nil, Nat.reduceAdd, Nat.reduceSub, Array.replicate_succ, Array.replicate_zero, List.push_toArray, List.append_toArray, List.nil_append, List.cons_append]
  gi_wp2
  clear rg q1
  gi_loopw [] (fun wr => ∃ T : List Rw, Hid (Told L T) ∧ Hid (I T wr) ∧ Hid (B wr) ∧ Hid (wr.heap[r]? = some (.mapIter (some b) ck (T.map (·.bn)).toArray ck))) (fun wr => match wr.heap[r]? with | some (.mapIter _ _ seen _) => L.length - seen.size | _ => 0)
  case atStart => exact ⟨[], ⟨(fun _ h => by cases h), .nil⟩, I1.out, B1.out, IT.out⟩
  case round =>
    obtain ⟨T, HT, hIT, hBT, hr1⟩ := hrel
    obtain ⟨q1, q2⟩ := KEY.out T wr hIT.out
    have nx := run_next_at (P := Try.prog) wr 0 r b ck ck (T.map (·.bn)).toArray (L.map ent).toArray ck hr1.out q2 (fun x hx => by
      obtain ⟨y, hy, rfl⟩ := List.mem_map.1 (by simpa using hx)
      exact HL.out.ck y hy) (Nat.le_refl _)
    rcases nx with ⟨hz, hrun⟩ | ⟨e, he, w1, hw1, hrun⟩
    · have nx2 : ∀ ty, (Instr.next (.pointer (some ⟨r, 0, none⟩)) false ty).run Try.prog wr = .ok (.tuple #[.bool false]) wr := fun _ => hrun
      have PM : Hid (T.Perm L) := HT.out.perm HL.out (fun q hq => by
        have h0 : leftOf (L.map ent).toArray (T.map (·.bn)).toArray = #[] := Array.eq_empty_of_size_eq_zero hz
        unfold leftOf at h0
        rw [Array.filter_eq_empty_iff] at h0
        have := h0 (ent q) (by simpa using List.mem_map.2 ⟨q, hq, rfl⟩)
        simpa [ent] using this)
      clear hz hrun q1 q2
      gi_wp2
      go_end0
      exact ⟨⟨_, rfl⟩, .inl ⟨T, PM.out, hIT.out, hBT.out⟩⟩
    · obtain ⟨q, hq, hqn, rfl⟩ : ∃ q, q ∈ L ∧ q.bn ∉ T.map (·.bn) ∧ e = ent q := by
        unfold leftOf at he
        simp only [Array.toList_filter, List.mem_filter] at he
        obtain ⟨y, hy, rfl⟩ := List.mem_map.1 he.1
        exact ⟨y, hy, by simpa [ent] using he.2, rfl⟩
      have hrw : r < wr.heap.size := (Array.getElem?_eq_some_iff.1 hr1.out).1
      have rW : W.heap.size ≤ r := by have := HR.out; omega
      have bw1 : Below wr.heap.size wr w1 := by rcases hw1 with rfl | rfl; exact Below.refl _ _; exact later_drew _
      have h1r : w1.heap[r]? = some (.mapIter (some b) ck (T.map (·.bn)).toArray ck) := (bw1.block r hrw).trans hr1.out
      obtain ⟨W2, hW2⟩ : ∃ W2, W2 = setBlock w1 r (.mapIter (some b) ck ((T.map (·.bn)).toArray.push (ent q).born) ck) := ⟨_, rfl⟩
      have I2 : I T W2 := by rw [hW2]; exact HIR.out T w1 r _ _ (by have := HN0.out; omega) h1r rfl (HIB.out T wr w1 hIT.out bw1)
      have B2 : B W2 := by
        refine HBK.out wr W2 (fun k o _ hk ho _ => ?_) hBT.out
        rw [hW2]
        exact ((But.block_ (K := Only r) (w := w1) rfl _).block k (Nat.lt_of_lt_of_le (Array.getElem?_eq_some_iff.1 ho).1 bw1.size) (fun e => by have e : k = r := e; omega)).trans ((bw1.block k (Array.getElem?_eq_some_iff.1 ho).1).trans ho)
      have i2 : W2.heap[r]? = some (.mapIter (some b) ck ((T.map (·.bn)).toArray.push (ent q).born) ck) := by
        rw [hW2]; simp [setBlock, Nat.lt_of_lt_of_le hrw bw1.size]
      obtain ⟨q1', q2'⟩ := KEY.out T W2 I2
      have en := run_entry_at (P := Try.prog) W2 r b ck (T.map (·.bn)).toArray (L.map ent).toArray ck (ent q) i2 q2' (by simpa using List.mem_map.2 ⟨q, hq, rfl⟩) (by
        have e : ((L.map ent).toArray.toList.map (·.born)) = L.map (·.bn) := by simp [ent, Function.comp_def]
        rw [e]; exact HL.out.nodup)
      rw [← hW2] at hrun
      have nx2 : ∀ ty, (Instr.next (.pointer (some ⟨r, 0, none⟩)) false ty).run Try.prog wr = .ok (.tuple #[.bool true, (ent q).key, (ent q).val]) W2 := fun _ => hrun
      have I2H := hide I2
      have B2H := hide B2
      have i2H := hide i2
      have HQ := hide hq
      have HQN := hide hqn
      clear hrun I2 B2 i2 hW2 h1r bw1 hw1 he q1 q2 q1' q2' hq hqn hIT hBT
      obtain ⟨Q, hQ⟩ : ∃ Q, Q = q := ⟨_, rfl⟩
      obtain ⟨⟨⟨a1, a2, a3, a4⟩, k5, ⟨g1, g2, g3, g4⟩, v6⟩, p7, s8⟩ := q
      have EC : Hid (Q.cells.toArray = #[.int .u8 a1, .int .u8 a2, .int .u8 a3, .int .u8 a4, .int .i64 k5, .int .u8 g1, .int .u8 g2, .int .u8 g3, .int .u8 g4, .bool v6, .int .i64 p7]) := by rw [hQ]; exact rfl
      rw [← hQ] at HQ HQN i2H
      simp only [ent, Rw.cells, Wy.cells, I4.vals, List.cons_append, List.nil_append] at en nx2
      clear hQ
      obtain ⟨W3, hW3⟩ : ∃ W3, W3 = W2.alloc (.cells #[.int .u8 a1, .int .u8 a2, .int .u8 a3, .int .u8 a4, .int .i64 k5, .int .u8 g1, .int .u8 g2, .int .u8 g3, .int .u8 g4, .bool v6, .int .i64 p7] 57) := ⟨_, rfl⟩
      have b3 : Below W2.heap.size W2 W3 := by rw [hW3]; exact (Below.refl _ _).alloc (Nat.le_refl _) _
      have I3 := HIB.out T W2 W3 I2H.out b3
      have r2 : r < W2.heap.size := (Array.getElem?_eq_some_iff.1 i2H.out).1
      have B3 : B W3 := HBK.out W2 W3 (fun k o _ hk ho _ => (b3.block k (Array.getElem?_eq_some_iff.1 ho).1).trans ho) B2H.out
      have i3 : Hid (W3.heap[r]? = some (.mapIter (some b) ck ((T.map (·.bn)).toArray.push (ent Q).born) ck)) := (b3.block r r2).trans i2H.out
      obtain ⟨fn, tmps, assign, body, hy, hRd⟩ := HY.out T W3 #[.agg Q.cells.toArray] I3 B3 ⟨Q, HQ.out, HQN.out, rfl⟩
      rw [EC.out] at hy
      have HRd := hide hRd
      have cc := CellsAt.new W2 [.int .u8 a1, .int .u8 a2, .int .u8 a3, .int .u8 a4, .int .i64 k5, .int .u8 g1, .int .u8 g2, .int .u8 g3, .int .u8 g4, .bool v6, .int .i64 p7] 57
      rw [← hW3] at cc
      have d0 : W3.cell? ⟨W2.heap.size, 0, none⟩ = some (.int .u8 a1) := cc 0 _ rfl
      have d1 : W3.cell? ⟨W2.heap.size, 1, none⟩ = some (.int .u8 a2) := cc 1 _ rfl
      have d2 : W3.cell? ⟨W2.heap.size, 2, none⟩ = some (.int .u8 a3) := cc 2 _ rfl
      have d3 : W3.cell? ⟨W2.heap.size, 3, none⟩ = some (.int .u8 a4) := cc 3 _ rfl
      have d4 : W3.cell? ⟨W2.heap.size, 4, none⟩ = some (.int .i64 k5) := cc 4 _ rfl
      have d5 : W3.cell? ⟨W2.heap.size, 5, none⟩ = some (.int .u8 g1) := cc 5 _ rfl
      have d6 : W3.cell? ⟨W2.heap.size, 6, none⟩ = some (.int .u8 g2) := cc 6 _ rfl
      have d7 : W3.cell? ⟨W2.heap.size, 7, none⟩ = some (.int .u8 g3) := cc 7 _ rfl
      have d8 : W3.cell? ⟨W2.heap.size, 8, none⟩ = some (.int .u8 g4) := cc 8 _ rfl
      have d9 : W3.cell? ⟨W2.heap.size, 9, none⟩ = some (.bool v6) := cc 9 _ rfl
      have d10 : W3.cell? ⟨W2.heap.size, 10, none⟩ = some (.int .i64 p7) := cc 10 _ rfl
      have hW3' := hW3.symm
      clear cc hRd I3 B3 I2H B2H i2H hW3 b3
      gi_wp2
      refine HRd.out.mono ?_
      rintro e W4 (⟨rfl, hk4, s', ⟨q', hq', hqn', ea, rfl⟩, hI4, hB4⟩ | ⟨rfl, hX⟩)
      · have eq : q' = Q := by
          refine (HL.out.same HQ.out hq' ?_).symm
          simp only [Array.mk.injEq, List.cons.injEq, Value.agg.injEq, and_true] at ea
          simpa using ea
        subst eq
        have i4 : Hid (W4.heap[r]? = some (.mapIter (some b) ck (((T ++ [q']).map (·.bn))).toArray ck)) := by
          have h := hk4.same r _ (by have := HN0.out; omega) (by have := HLP.out; omega) i3.out rfl
          unfold Hid
          rw [List.map_append]
          simpa [ent] using h
        have HT4 := hide (HT.out.more HQ.out HQN.out)
        have LT := hide (HT.out.len HL.out HQ.out HQN.out)
        have HI4 := hide hI4
        have HB4 := hide hB4
        clear hI4 hB4 HRd hy hk4 ea
        gi_wp2
        go_roundw
        case rel => exact ⟨_, HT4.out, HI4.out, HB4.out, i4.out⟩
        case measure =>
          rw [i4.out, hr1.out]
          have := LT.out
          simp
          omega
      · have HX := hide hX
        clear hX HRd hy
        gi_wp2
        show bodyPost Try.prog Try.f28 _ Exit.ret _ _
        refine bodyPost_ret (v := .tuple #[]) (results_none rfl _ _ _) rfl ?_
        exact ⟨⟨_, rfl⟩, .inr HX.out⟩
end Go.Proofs.Ytlfacppkgamkgaa
