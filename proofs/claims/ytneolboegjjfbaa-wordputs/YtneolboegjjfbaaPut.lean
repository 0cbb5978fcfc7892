/-
  Contracts of behind, Put16, Put32: what is answered lies in new memory.
-/
import Derived.Test.YtneolboegjjfbaaMem
import Derived.Laws.CopyOwn
namespace Go.Proofs.Ytneolboegjjfbaa
open Go.RowKit

/-- THE SLICE VALUE v OWNS THE BYTES bs: they fill a block of the call's own, not frozen, numbered from B on. -/
def OwnB (B : Nat) (W : World) (v : Value) (bs : List Int) : Prop :=
  ∃ g, v = .slice (some ⟨g, 0, none⟩) bs.length bs.length ∧ B ≤ g ∧ W.heap[g]? = some (.cells (bs.map (Value.int .u8)).toArray 5 (0, 0))

theorem info_u8 : (Try.prog.info? 5).map (fun i => (i.zero, i.size, i.bytes)) = some (some (.int .u8 0), 1, 1) := by kernel_rfl
theorem size_u8 : (Try.prog.info? 5).map (·.size) = some 1 := by kernel_rfl

/-- the block that a make has laid -/
theorem made_block {base e n : Nat} {W : World} {g : Nat} {xs : List Value} (h : W.ownsRow base e 1 (.slice (some ⟨g, 0, none⟩) n n) n xs) : W.heap[g]? = some (.cells xs.toArray e (0, 0)) := by
  obtain ⟨_, h | ⟨g', cap, cur, hv, _, hh, _, _, hs, ht⟩⟩ := h
  · simp at h
  · simp only [Value.slice.injEq, Option.some.injEq, Addr.mk.injEq] at hv
    obtain ⟨⟨rfl, _, _⟩, _, rfl⟩ := hv
    have : cur.toList = xs := by
      rw [← ht, Nat.mul_one]
      exact (List.take_of_length_le (by simp [hs])).symm
    rw [hh, ← this]

theorem cells_of_IsB {n₀ : Nat} {W : World} {a : Option Addr} {n cap : Nat} {bs : List Int} (h : IsB n₀ W (.slice a n cap) bs) (h0 : 0 < (bs.map (Value.int .u8)).length) :
    ∃ ad, a = some ad ∧ ∀ j v, (bs.map (Value.int .u8))[j]? = some v → W.cell? (ad.add j) = some v := by
  obtain ⟨a', cap', e, _, _, hc⟩ := h
  simp only [Value.slice.injEq] at e
  obtain ⟨rfl, _, _⟩ := e
  obtain ⟨b, off, rfl, _, hcs⟩ := hc (by simpa using h0)
  refine ⟨_, rfl, fun j v hv => ?_⟩
  have hj : j < bs.length := by have := (List.getElem?_eq_some_iff.1 hv).1; simpa using this
  rw [Addr.add_lit, hcs j hj]
  simp only [List.getElem?_map, List.getElem?_eq_getElem hj, Option.map_some, Option.some.injEq] at hv
  simp [List.getElem?_eq_getElem hj, hv]

/-- copy, dst in a row that is known whole, as a run. -/
theorem copy_run {w0 w : World} (dp sp : Option Addr) (dLen dCap sLen sCap : Nat) (g off : Nat) (cur : List Value) (hg : w.heap[g]? = some (.cells cur.toArray 5 (0, 0))) (cs : List Value) (hn : cs.length = Nat.min sLen dLen)
    (hpos : 0 < cs.length → dp = some ⟨g, off, none⟩ ∧ ∃ ad, sp = some ad ∧ ∀ j v, cs[j]? = some v → w.cell? (ad.add j) = some v)
    (hfit : off + cs.length ≤ cur.length) (h1 : ∀ v ∈ cs, v.oneCell' = true) (B : Nat) (hb : Below B w0 w) (hBg : B ≤ g) :
    ∃ w', (Builtin.copy_ #[22, 22] 3 #[.slice dp dLen dCap, .slice sp sLen sCap]).run Try.prog w = .ok (goInt cs.length) w' ∧
      w'.heap[g]? = some (.cells (splice cur off cs).toArray 5 (0, 0)) ∧ Below B w0 w' := by
  by_cases h0 : cs.length = 0
  · obtain rfl : cs = [] := List.eq_nil_of_length_eq_zero h0
    have hrun := run_copy_none (P := Try.prog) w 22 22 3 5 dp sp dLen dCap sLen sCap Try.underlying22 size_u8 (by simpa using hn.symm)
    exact ⟨w, hrun, by simpa [splice] using hg, hb⟩
  · obtain ⟨rfl, ad, rfl, hsrc⟩ := hpos (by omega)
    have hrun := run_copy_row (P := Try.prog) w 22 22 3 5 g off dLen dCap ad sLen sCap cur.toArray 5 cs Try.underlying22 size_u8 hg hn hsrc (by simpa using hfit) h1
    exact ⟨_, hrun, by simpa [splice] using setRow_heap w g _ _ 5 _ hg, below_setRow hb hBg _⟩

theorem splice_two {α : Type} (Z X Y : List α) (hZ : Z.length = X.length + Y.length) : splice (splice Z 0 X) X.length Y = X ++ Y := by
  have e1 : splice Z 0 X = X ++ Z.drop X.length := by simp [splice]
  rw [e1, splice, List.take_left, List.drop_append]
  have e2 : List.drop (X.length + Y.length) X = [] := List.drop_eq_nil_of_le (by omega)
  have e3 : List.drop (X.length + Y.length - X.length) (List.drop X.length Z) = [] := List.drop_eq_nil_of_le (by simp; omega)
  rw [e2, e3]; simp

set_option maxHeartbeats 400000 in
theorem behind_any (aa ab : Option Addr) (ca cb : Nat) (xs ys : List Int) (w : World) (ha : IsB w.heap.size w (.slice aa xs.length ca) xs) (hb : IsB w.heap.size w (.slice ab ys.length cb) ys) (hsz : xs.length + ys.length ≤ 281474976710656) :
    Calls Try.prog 21 #[.slice aa xs.length ca, .slice ab ys.length cb] w fun e w' => ∃ v, e = .returned v ∧ OwnB w.heap.size w' v (xs ++ ys) ∧ Below w.heap.size w w' := by
  obtain ⟨i0, hi, hz0, hz1, hz2⟩ := info_parts info_u8
  obtain ⟨X, hX⟩ : ∃ X, X = xs.map (Value.int .u8) := ⟨_, rfl⟩
  obtain ⟨Y, hY⟩ : ∃ Y, Y = ys.map (Value.int .u8) := ⟨_, rfl⟩
  obtain ⟨lx, hlx⟩ : ∃ n, n = xs.length := ⟨_, rfl⟩
  obtain ⟨ly, hly⟩ : ∃ n, n = ys.length := ⟨_, rfl⟩
  have lX : X.length = lx := by simp [hX, hlx]
  have lY : Y.length = ly := by simp [hY, hly]
  have oX : ∀ v ∈ X, v.oneCell' = true := by rw [hX]; exact ints_oneCell _ _
  have oY : ∀ v ∈ Y, v.oneCell' = true := by rw [hY]; exact ints_oneCell _ _
  have cX := fun (W : World) (hW : Below w.heap.size w W) h0 => cells_of_IsB (ha.below hW) h0
  have cY := fun (W : World) (hW : Below w.heap.size w W) h0 => cells_of_IsB (hb.below hW) h0
  rw [← hX] at cX
  rw [← hY] at cY
  rw [← hlx, ← hly] at hsz ⊢
  have fin : ∀ w' : World, w'.heap[w.heap.size]? = some (.cells (X ++ Y).toArray 5 (0, 0)) → OwnB w.heap.size w' (.slice (some ⟨w.heap.size, 0, none⟩) (lx + ly) (lx + ly)) (xs ++ ys) := fun w' h =>
    ⟨w.heap.size, by simp [hlx, hly], Nat.le_refl _, by rw [h, hX, hY]; simp⟩
  have FIN := hide fin
  have CX := hide cX
  have CY := hide cY
  have LX := hide lX
  have LY := hide lY
  have OX := hide oX
  have OY := hide oY
  clear fin cX cY lX lY oX oY hX hY hlx hly ha hb
  go_enter Try.func21, Try.ntmps21
  go_wp2_with (at_make; refine wpList_make_full _ rfl _ _ 22 rfl w.heap.size 5 i0 (.int .u8 0) 1 Try.underlying22 hi hz0 hz1 .i64 .i64 _ _ (lx + ly) rfl rfl (by omega) (by omega) (by rw [hz2]; omega) (by unfold maxLen; omega) (Nat.le_refl _) ?_)
  intro w1 hown hg
  have hB1 : Below w.heap.size w w1 := (Below.refl _ w).grown hg (Nat.le_refl _) (fun k e => by cases e)
  have hh1 := hide (made_block hown)
  clear hown hg
  obtain ⟨Z, hZ, lZ⟩ : ∃ Z, Z = (madeCells (Value.int .u8 0).cells ((lx + ly) * 1)).toList ∧ Z.length = lx + ly := ⟨_, rfl, by simp [madeCells]⟩
  rw [Nat.mul_one] at hZ
  have HZ := hide hZ
  have LZ := hide lZ
  clear hZ lZ
  go_wp2_with fail
  obtain ⟨w2, hrun, hh2, hB2⟩ := copy_run (w0 := w) (w := w1) (some ⟨w.heap.size, 0, none⟩) aa (lx + ly) (lx + ly) lx ca w.heap.size 0 Z (by rw [HZ.out]; exact hh1.out) X (by rw [LX.out]; exact (Nat.min_eq_left (by omega)).symm)
    (fun h => ⟨rfl, CX.out w1 hB1 h⟩) (by rw [LX.out, LZ.out]; omega) OX.out w.heap.size hB1 (Nat.le_refl _)
  have HH2 := hide hh2
  rw [hrun]
  clear hh2 hrun hh1 hB1
  go_wp2_with fail
  · obtain rfl : ly = 0 := by assumption
    obtain ⟨w3, hrun, hh3, hB3⟩ := copy_run (w0 := w) (w := w2) (some ⟨w.heap.size, 0, none⟩) ab 0 0 0 cb w.heap.size lx (splice Z 0 X) HH2.out Y (by rw [LY.out]; rfl)
      (fun h => absurd h (by rw [LY.out]; simp)) (by rw [LY.out, length_splice _ _ _ (by rw [LX.out, LZ.out]; omega), LZ.out]; omega) OY.out w.heap.size hB2 (Nat.le_refl _)
    have HH3 := hide hh3
    rw [hrun]
    clear hh3 hrun HH2 hB2
    go_wp2
    go_ret
    refine ⟨_, rfl, ?_, hB3⟩
    refine FIN.out w3 ?_
    have := HH3.out
    rwa [← LX.out, splice_two Z X Y (by rw [LX.out, LY.out, LZ.out])] at this
  · obtain ⟨w3, hrun, hh3, hB3⟩ := copy_run (w0 := w) (w := w2) (some ⟨w.heap.size, lx, none⟩) ab ly ly ly cb w.heap.size lx (splice Z 0 X) HH2.out Y (by rw [LY.out]; exact (Nat.min_self _).symm)
      (fun h => ⟨rfl, CY.out w2 hB2 h⟩) (by rw [LY.out, length_splice _ _ _ (by rw [LX.out, LZ.out]; omega), LZ.out]; omega) OY.out w.heap.size hB2 (Nat.le_refl _)
    have HH3 := hide hh3
    rw [hrun]
    clear hh3 hrun HH2 hB2
    go_wp2
    go_ret
    refine ⟨_, rfl, ?_, hB3⟩
    refine FIN.out w3 ?_
    have := HH3.out
    rwa [← LX.out, splice_two Z X Y (by rw [LX.out, LY.out, LZ.out])] at this

/-- the lowest 16 bits of n in two bytes, the higher one first -/
def put16 (n : Int) : List Int := [n / 256 % 256, n % 256]
/-- n in four bytes, the highest first -/
def put32 (n : Int) : List Int := [n / 16777216, n / 65536 % 256, n / 256 % 256, n % 256]

theorem IsB_new {n : Nat} {w : World} (bs : List Int) (hn : w.heap.size < n) : IsB n (w.alloc (.cells (bs.map (Value.int .u8)).toArray 5)) (.slice (some ⟨w.heap.size, 0, none⟩) bs.length bs.length) bs :=
  ⟨_, _, rfl, Nat.le_refl _, (fun h => by cases h), fun _ => ⟨w.heap.size, 0, rfl, hn, fun j hj => by
    rw [Nat.zero_add, cell_of_row _ w.heap.size j (bs.map (Value.int .u8)).toArray 5 (0, 0) (heap_alloc_new w _)]
    simp [hj]⟩⟩

theorem OwnB.mono {B B' : Nat} {W : World} {v : Value} {bs : List Int} (h : OwnB B W v bs) (hB : B' ≤ B) : OwnB B' W v bs := by
  obtain ⟨g, e, hg, hh⟩ := h
  exact ⟨g, e, by omega, hh⟩

set_option maxHeartbeats 400000 in
theorem Put16_any (v : Value) (xs : List Int) (n : Int) (w : World) (ha : IsB w.heap.size w v xs) (hsz : xs.length + 2 ≤ 281474976710656) :
    Calls Try.prog 10 #[v, .int .i64 n] w fun e w' => ∃ v', e = .returned v' ∧ OwnB w.heap.size w' v' (xs ++ put16 n) ∧ Below w.heap.size w w' := by
  obtain ⟨a, ca, rfl, hlc, hn, hc⟩ := ha
  have ha : IsB w.heap.size w (.slice a xs.length ca) xs := ⟨a, ca, rfl, hlc, hn, hc⟩
  have HA := hide ha
  clear hc ha hlc hn
  obtain ⟨W1, hW1⟩ : ∃ W1, w.alloc (.cells ((put16 n).map (Value.int .u8)).toArray 5) = W1 := ⟨_, rfl⟩
  have hB1 : Below w.heap.size w W1 := by rw [← hW1]; exact (Below.refl _ w).alloc (Nat.le_refl _) _
  have hs1 : W1.heap.size = w.heap.size + 1 := by rw [← hW1]; simp
  have hY : IsB W1.heap.size W1 (.slice (some ⟨w.heap.size, 0, none⟩) (put16 n).length 2) (put16 n) := by rw [hs1, ← hW1]; exact IsB_new _ (by omega)
  have C := behind_any a (some ⟨w.heap.size, 0, none⟩) ca 2 xs (put16 n) W1 ((HA.out.below hB1).mono (by omega)) hY (by simpa [put16] using hsz)
  have HC := hide C
  have HS := hide hs1
  have HB := hide hB1
  clear C hY hs1 hB1
  rw [← hW1] at HC
  go_enter Try.func10, Try.ntmps10
  go_wp2_with fail
  refine (unhide HC).mono ?_
  rintro e w' ⟨v', rfl, ho, hb⟩
  clear HC
  go_wp2
  go_ret
  rw [hW1] at ho hb
  exact ⟨v', rfl, ho.mono (by rw [HS.out]; omega), HB.out.trans (hb.mono (by rw [HS.out]; omega))⟩

set_option maxHeartbeats 400000 in
theorem Put32_any (v : Value) (xs : List Int) (n : Int) (n0 : 0 ≤ n) (n1 : n < 4294967296) (w : World) (ha : IsB w.heap.size w v xs) (hsz : xs.length + 4 ≤ 281474976710656) :
    Calls Try.prog 11 #[v, .int .u32 n] w fun e w' => ∃ v', e = .returned v' ∧ OwnB w.heap.size w' v' (xs ++ put32 n) ∧ Below w.heap.size w w' := by
  obtain ⟨a, ca, rfl, hlc, hn, hc⟩ := ha
  have ha : IsB w.heap.size w (.slice a xs.length ca) xs := ⟨a, ca, rfl, hlc, hn, hc⟩
  have HA := hide ha
  clear hc ha hlc hn
  obtain ⟨W1, hW1⟩ : ∃ W1, w.alloc (.cells ((put32 n).map (Value.int .u8)).toArray 5) = W1 := ⟨_, rfl⟩
  have hB1 : Below w.heap.size w W1 := by rw [← hW1]; exact (Below.refl _ w).alloc (Nat.le_refl _) _
  have hs1 : W1.heap.size = w.heap.size + 1 := by rw [← hW1]; simp
  have hY : IsB W1.heap.size W1 (.slice (some ⟨w.heap.size, 0, none⟩) (put32 n).length 4) (put32 n) := by rw [hs1, ← hW1]; exact IsB_new _ (by omega)
  have C := behind_any a (some ⟨w.heap.size, 0, none⟩) ca 4 xs (put32 n) W1 ((HA.out.below hB1).mono (by omega)) hY (by simpa [put32] using hsz)
  have HC := hide C
  have HS := hide hs1
  have HB := hide hB1
  clear C hY hs1 hB1
  rw [← hW1] at HC
  go_enter Try.func11, Try.ntmps11
  go_wp2_with fail
  refine (unhide HC).mono ?_
  rintro e w' ⟨v', rfl, ho, hb⟩
  clear HC
  go_wp2
  go_ret
  rw [hW1] at ho hb
  exact ⟨v', rfl, ho.mono (by rw [HS.out]; omega), HB.out.trans (hb.mono (by rw [HS.out]; omega))⟩

end Go.Proofs.Ytneolboegjjfbaa
