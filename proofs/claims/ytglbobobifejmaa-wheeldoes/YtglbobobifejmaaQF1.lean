
/-
  The document's wheel: its two cells and its list; New, without, Cancel, Due.
-/
import Derived.Test.YtglbobobifejmaaQP
namespace Go.Proofs.Ytglbobobifejmaa
open Go.RowKit

/-- THE DOCUMENT's WHEEL at the block r: now, and the slice v of the timers L -/
structure RfAt (w : World) (r : Nat) (now : Int) (v : Value) (L : List (Int × Int)) : Prop where
  lt : r < w.heap.size
  c0 : w.cell? ⟨r, 0, none⟩ = some (.int .i64 now)
  c1 : w.cell? ⟨r, 1, none⟩ = some v
  row : RowL w v L
  fz : ∀ i, w.frozen? ⟨r, i, none⟩ = false
  ne : v.ownBlock ≠ some r
theorem RfAt.but {w w' : World} {r : Nat} {now : Int} {v : Value} {L : List (Int × Int)} (h : RfAt w r now v L) {J : Nat → Prop} (hb : But J w w') (h1 : ¬ J r) (h2 : ∀ k, v.ownBlock = some k → ¬ J k) : RfAt w' r now v L :=
  ⟨Nat.lt_of_lt_of_le h.lt hb.size, (hb.cell (p := ⟨r, 0, none⟩) h.lt h1).trans h.c0, (hb.cell (p := ⟨r, 1, none⟩) h.lt h1).trans h.c1, h.row.keep hb h2, fun i => (hb.frozen (p := ⟨r, i, none⟩) h.lt h1).trans (h.fz i), h.ne⟩
theorem RfAt.later {w w' : World} {r : Nat} {now : Int} {v : Value} {L : List (Int × Int)} (h : RfAt w r now v L) (hb : Below w.heap.size w w') : RfAt w' r now v L :=
  h.but (But.of_below (K := fun _ => False) hb) id (fun _ _ => id)
/-- another list is stored -/
theorem RfAt.put {w : World} {r : Nat} {now : Int} {v v' : Value} {L L' : List (Int × Int)} (h : RfAt w r now v L) (hr : RowL w v' L') (hn : v'.ownBlock ≠ some r) : RfAt (w.setCell ⟨r, 1, none⟩ v') r now v' L' := by
  refine ⟨by rw [World.size_setCell]; exact h.lt, ?_, World.cell?_setCell_same' _ _ _ (by rw [h.c1]; rfl), hr.keep (but_set w r 1 v') (fun k hk (e : k = r) => hn (by rw [hk, e])), fun i => by rw [World.frozen?_setCell]; exact h.fz i, hn⟩
  rw [World.cell?_setCell_other _ _ _ _ (by intro q; cases q)]; exact h.c0
theorem RfAt.tick {w : World} {r : Nat} {now : Int} {v : Value} {L : List (Int × Int)} (h : RfAt w r now v L) (t : Int) : RfAt (w.setCell ⟨r, 0, none⟩ (.int .i64 t)) r t v L := by
  refine ⟨by rw [World.size_setCell]; exact h.lt, World.cell?_setCell_same' _ _ _ (by rw [h.c0]; rfl), ?_, h.row.keep (but_set w r 0 _) (fun k hk (e : k = r) => h.ne (by rw [hk, e])), fun i => by rw [World.frozen?_setCell]; exact h.fz i, h.ne⟩
  rw [World.cell?_setCell_other _ _ _ _ (by intro q; cases q)]; exact h.c1

/-- NEW -/
theorem rzero (w : World) : Sem.run Try.prog (zeroValue 34) w = .ok (.agg #[.int .i64 0, .slice none 0 0]) w := by kernel_rfl
def RNewEnd (w : World) (now : Int) (e : Ending) (w' : World) : Prop :=
  (neBad now = true ∧ e = .returned (.tuple #[.pointer none, .int .i64 1]) ∧ w' = w) ∨
  (neBad now = false ∧ e = .returned (.tuple #[.pointer (some ⟨w.heap.size, 0, none⟩), .int .i64 0]) ∧ RfAt w' w.heap.size now (.slice none 0 0) [] ∧ Below w.heap.size w w')
theorem rnew_at (w : World) (now : Int) (t : TypeId) : RfAt (w.alloc (.cells #[.int .i64 now, .slice none 0 0] t)) w.heap.size now (.slice none 0 0) [] := by
  have hc : ∀ i v, (#[Value.int .i64 now, .slice none 0 0] : Array Value)[i]? = some v → (w.alloc (.cells #[.int .i64 now, .slice none 0 0] t)).cell? ⟨w.heap.size, i, none⟩ = some v := fun i v h => by
    rw [cell_of_row _ w.heap.size i _ t (0, 0) (heap_alloc_new w _)]; exact h
  exact ⟨by rw [World.size_alloc]; omega, hc 0 _ rfl, hc 1 _ rfl, World.ownsRow_nil _ _ _ _, fun i => frozen_of_row _ w.heap.size i _ t (heap_alloc_new w _), fun e => by cases e⟩
set_option maxRecDepth 100000 in
set_option maxHeartbeats 4000000 in
theorem rnew_any (w : World) (now : Int) : Calls Try.prog 9 #[.int .i64 now] w (RNewEnd w now) := by
  obtain ⟨bd, hbd⟩ : ∃ B, neBad now = B := ⟨_, rfl⟩
  have EB := hide hbd
  have BB := hide (show bd = (decide (now < 0) || decide (1099511627776 < now)) from hbd.symm)
  have hz := rzero
  clear hbd
  go_enter Try.func9, Try.ntmps9
  go_upto_region 1 with fail
  go_cut [9] (fun c wc => c = .bool bd ∧ w = wc)
  case first =>
    by_cases h1 : now < 0
    · go_wp2
      go_meet
      case rel => exact ⟨by rw [BB.out, decide_eq_true h1]; simp, rfl⟩
    · go_wp2
      go_meet
      case rel => exact ⟨by rw [BB.out, decide_eq_false (show ¬ now < 0 by omega)]; simp, rfl⟩
  case rest =>
    obtain ⟨rfl, hw⟩ := hcut
    subst hw
    cases bd
    · go_wp2
      go_ret2
      exact .inr ⟨EB.out, rfl, rnew_at w now _, (Below.refl _ w).alloc (Nat.le_refl _) _⟩
    · have FIN : Hid (RNewEnd w now (.returned (.tuple #[.pointer none, .int .i64 1])) w) := .inl ⟨EB.out, rfl, rfl⟩
      go_wp2
      go_ret2
      exact FIN.out

/-- WHEN -/
def whenV (now : Int) (o : OpW) : Int := if o.near = true then wrap64 (now + o.at_.tmod 100) else o.at_
set_option maxRecDepth 100000 in
theorem when_any (w : World) (now : Int) (o : OpW) : Calls Try.prog 10 #[.int .i64 now, .agg #[.int .i64 o.kind, .int .i64 o.id, .int .i64 o.at_, .bool o.near]] w fun e w' => e = .returned (.int .i64 (whenV now o)) ∧ Below w.heap.size w w' := by
  obtain ⟨kd, id, at_, near⟩ := o
  go_enter Try.func10, Try.ntmps10
  cases near
  · go_wp2
    go_ret
    exact ⟨rfl, (Below.refl _ w).alloc (Nat.le_refl _) _⟩
  · go_wp2
    go_ret
    exact ⟨rfl, (Below.refl _ w).alloc (Nat.le_refl _) _⟩

section
variable {w : World} {r : Nat} {now : Int} {v : Value} {L : List (Int × Int)}
/-- WITHOUT -/
def RwEnd (w : World) (L : List (Int × Int)) (id : Int) (e : Ending) (w' : World) : Prop := ∃ v', e = .returned (.tuple #[v', .bool (has L id)]) ∧ w'.ownsRow w.heap.size 49 2 v' (noId L id).length (flt (noId L id)) ∧ Below w.heap.size w w'
theorem noId_take {L : List (Int × Int)} {i : Nat} {p : Int × Int} (h : L[i]? = some p) (id : Int) : noId (L.take (i + 1)) id = noId (L.take i) id ++ if p.1 = id then [] else [p] := by
  rw [List.take_add_one, h]
  unfold noId
  rw [List.filter_append]
  congr 1
  by_cases e : p.1 = id
  · rw [if_pos e]; simp [e]
  · rw [if_neg e]; simp [e]
theorem has_take {L : List (Int × Int)} {i : Nat} {p : Int × Int} (h : L[i]? = some p) (id : Int) : has (L.take (i + 1)) id = (has (L.take i) id || decide (p.1 = id)) := by
  rw [List.take_add_one, h]
  unfold has
  rw [List.any_append]; simp
set_option maxRecDepth 100000 in
set_option maxHeartbeats 4000000 in
theorem without_any (h : RfAt w r now v L) (hl : L.length ≤ 64) (id : Int) : Calls Try.prog 25 #[.pointer (some ⟨r, 0, none⟩), .int .i64 id] w (RwEnd w L id) := by
  have H := hide h
  obtain ⟨a, c, e, hg⟩ := h.row.shape
  have HE := hide e
  have HG := hide hg
  have HL := hide hl
  clear h e hg
  go_enter Try.func25, Try.ntmps25
  go_wp2
  go_loopw [6, 7, 8] (fun v6 v7 v8 wr => ∃ i : Nat, v7 = .bool (has (L.take i) id) ∧ v8 = .int .i64 (i : Int) ∧ i ≤ L.length ∧ Hid (wr.ownsRow w.heap.size 49 2 v6 (noId (L.take i) id).length (flt (noId (L.take i) id))) ∧ Hid (Below w.heap.size w wr)) (fun _ _ v8 _ => L.length - (intOf v8).toNat)
  case atStart => exact ⟨0, rfl, rfl, Nat.zero_le _, World.ownsRow_nil _ _ _ _, Below.refl _ _⟩
  case round =>
    obtain ⟨i, rfl, rfl, hi, HO, HB⟩ := hrel
    have H1 := hide (H.out.later HB.out)
    have c1 := H1.out.c1
    rw [HE.out] at c1
    by_cases hlt : i < L.length
    · obtain ⟨g, rfl⟩ := HG.out (by omega)
      obtain ⟨⟨pid, ptm⟩, hp⟩ : ∃ o, L[i]? = some o := ⟨L[i], List.getElem?_eq_getElem hlt⟩
      have hrow := H1.out.row
      rw [HE.out] at hrow
      obtain ⟨q0, q1⟩ := hrow.at hp
      have N1 := hide (noId_take hp id)
      have N2 := hide (has_take hp id)
      have zi : (i : Int) < (L.length : Int) := by omega
      clear hp hrow
      by_cases e : pid = id
      · subst e
        have FIN : Hid (wr.ownsRow w.heap.size 49 2 u6 (noId (L.take (i + 1)) pid).length (flt (noId (L.take (i + 1)) pid))) := by
          show wr.ownsRow _ _ _ _ _ _
          rw [N1.out, if_pos rfl, List.append_nil]; exact HO.out
        go_wp2
        go_roundw
        case rel => exact ⟨i + 1, by rw [N2.out]; simp, by go_num, by omega, FIN.out, HB.out⟩
        case measure => simp [intOf]; omega
      · have hl2 : (noId (L.take i) id).length ≤ 64 := Nat.le_trans (List.length_filter_le _ _) (by rw [List.length_take]; have := HL.out; omega)
        obtain ⟨g', c', w', hrun, ho, hb2⟩ := more_one HO.out (pid, ptm) HB.out.size hl2
        simp only at hrun
        have EN : noId (L.take (i + 1)) id = noId (L.take i) id ++ [(pid, ptm)] := by rw [N1.out, if_neg e]
        rw [← EN] at ho
        have EN2 : (noId (L.take i) id).length + 1 = (noId (L.take (i + 1)) id).length := by rw [EN, List.length_append]; rfl
        have B2 : Hid (Below w.heap.size w w') := HB.out.trans (hb2.below HB.out.size (fun g hg e => by
          have := (row_own_ge HO.out g e).1
          omega))
        have HO2 := hide ho
        have HRN := hide hrun
        have M2 : Hid (has (L.take (i + 1)) id = has (L.take i) id) := by show _ = _; rw [N2.out, decide_eq_false e]; simp
        clear hrun ho hb2 EN EN2 hl2 HB HO N1 N2
        generalize (noId (L.take i) id).length + 1 = nn at *
        go_wp2_with (at_builtin; refine wpList_app rfl _ _ 32 32 rfl _ _ rfl rfl HRN.out ?_)
        go_wp2
        go_roundw
        case rel => exact ⟨i + 1, by rw [M2.out], by go_num, by omega, HO2.out, B2.out⟩
        case measure => simp [intOf]; omega
    · obtain rfl : i = L.length := by omega
      have FIN : Hid (RwEnd w L id (.returned (.tuple #[u6, .bool (has L id)])) wr) := by
        have := HO.out
        rw [List.take_of_length_le (Nat.le_refl _)] at this
        exact ⟨_, rfl, this, HB.out⟩
      rw [List.take_of_length_le (Nat.le_refl _)]
      go_wp2
      go_ret2
      exact FIN.out
end
end Go.Proofs.Ytglbobobifejmaa
