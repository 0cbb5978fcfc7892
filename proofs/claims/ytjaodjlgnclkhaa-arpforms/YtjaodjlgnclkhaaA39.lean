
/-
  Package arp: Decode in numbers; the contract of headAt.
-/
import Derived.Test.YtjaodjlgnclkhaaA38
namespace Go.Proofs.Ytjaodjlgnclkhaa
open Go.RowKit Go.Shelf

def nb (bs : List Int) (k : Nat) : Int := bs[k]?.getD 0
theorem nb_bd {bs : List Int} (h : Bytes bs) (k : Nat) : 0 ≤ nb bs k ∧ nb bs k ≤ 255 := h.getD k
def w16 (bs : List Int) (k : Nat) : Int := 256 * nb bs k + nb bs (k + 1)
def macAt (bs : List Int) (k : Nat) : M6 := ⟨nb bs k, nb bs (k + 1), nb bs (k + 2), nb bs (k + 3), nb bs (k + 4), nb bs (k + 5)⟩
def ipAt (bs : List Int) (k : Nat) : I4 := ⟨nb bs k, nb bs (k + 1), nb bs (k + 2), nb bs (k + 3)⟩
theorem nb_drop (bs : List Int) (k j : Nat) : nb (bs.drop k) j = nb bs (k + j) := by unfold nb; rw [List.getElem?_drop]
theorem macAt_drop (bs : List Int) (k : Nat) : macAt (bs.drop k) 0 = macAt bs k := by simp only [macAt, nb_drop]; rfl
theorem ipAt_drop (bs : List Int) (k : Nat) : ipAt (bs.drop k) 0 = ipAt bs k := by simp only [ipAt, nb_drop]; rfl
theorem rd16_eq {bs : List Int} {k : Nat} (h : k + 2 ≤ bs.length) : rd16 bs (k : Int) = w16 bs k := by
  have : stB bs.length (k : Int) 2 = true := by simp [stB]; omega
  unfold rd16
  rw [if_pos this]
  rfl
theorem errOf_eq {bs : List Int} {k : Nat} (h : k + 2 ≤ bs.length) : errOf bs (k : Int) 2 = 0 := by
  have : stB bs.length (k : Int) 2 = true := by simp [stB]; omega
  unfold errOf
  rw [if_pos this]

/-- four words -/
structure H4 where
  a : Int
  b : Int
  c : Int
  d : Int
deriving DecidableEq
def H4.vals (x : H4) : List Value := [.int .i64 x.a, .int .i64 x.b, .int .i64 x.c, .int .i64 x.d]
def H4.val (x : H4) : Value := .agg x.vals.toArray
def eqH (x y : H4) : Bool := decide (x = y)
theorem eqH_four (a b c d a' b' c' d' : Int) : eqH ⟨a, b, c, d⟩ ⟨a', b', c', d'⟩ = (a == a' && (b == b' && (c == c' && d == d'))) := by
  rw [Bool.eq_iff_iff]
  simp [eqH, H4.mk.injEq]
theorem eq_head (w : World) (D : Nat) (a b c d a' b' c' d' : Int) :
    (Op.equalIn (D + 2) 70 (.agg #[.int .i64 a, .int .i64 b, .int .i64 c, .int .i64 d]) (.agg #[.int .i64 a', .int .i64 b', .int .i64 c', .int .i64 d'])).run Try.prog w = .ok (eqH ⟨a, b, c, d⟩ ⟨a', b', c', d'⟩) w := by
  obtain ⟨i0, hi, hz0, hz1, hz2⟩ := info_parts info_int
  rw [run_equalIn_array (P := Try.prog) w (D + 1) _ _ Try.underlying70 hi, eqH_four]
  have hs : Try.prog.cellsOf 3 = 1 := by kernel_rfl
  rw [hs]
  simp only [show List.range 4 = [0, 1, 2, 3] from rfl, Op.eqItems, Sem.run_bind]
  simp [go_sem]
  repeat' split
  all_goals simp [*]
theorem aggH (w : World) : (isAgg 70).run Try.prog w = .ok true w := by kernel_rfl
theorem sizH (w : World) : (Go.sizeOf 70).run Try.prog w = .ok 4 w := by kernel_rfl
/-- the words of a head -/
theorem h4_one (x : H4) : ∀ u ∈ x.vals, u.oneCell' = true := fun u hu => by
  simp only [H4.vals, List.mem_cons, List.not_mem_nil, or_false] at hu
  rcases hu with rfl | rfl | rfl | rfl <;> rfl
def hwV (bs : List Int) : H4 := ⟨w16 bs 0, w16 bs 2, w16 bs 4, w16 bs 6⟩
def hdH (ans : Bool) : H4 := ⟨1, 2048, 1540, if ans = true then 2 else 1⟩
theorem hdV_eq (ans : Bool) : hdV ans = (hdH ans).val := rfl
theorem IsF.later {A : Nat → Prop} {w W : World} {v : Value} {bs : List Int} (h : IsF A w v bs) (hb : Below w.heap.size w W) : IsF A W v bs := h.but (K := fun _ => False) (But.of_below hb) (fun _ e => e.elim)
def hK (bs : List Int) (k : Nat) : H4 := ⟨if 0 < k then w16 bs 0 else 0, if 1 < k then w16 bs 2 else 0, if 2 < k then w16 bs 4 else 0, if 3 < k then w16 bs 6 else 0⟩

/-- what headAt's memory holds between the rounds -/
structure HSt (w : World) (s : Nat) (bs : List Int) (k : Nat) (W : World) : Prop where
  ca : CellsAt W s 0 (H4.vals ⟨0, 0, 0, 0⟩)
  cb : CellsAt W (s + 1) 0 (hK bs k).vals
  fa : ∀ y, W.frozen? ⟨s, y, none⟩ = false
  fb : ∀ y, W.frozen? ⟨s + 1, y, none⟩ = false
  b : Below s w W
  z : s + 2 ≤ W.heap.size
theorem HSt.later {w : World} {s : Nat} {bs : List Int} {k : Nat} {W W' : World} (h : HSt w s bs k W) (hb : Below W.heap.size W W') : HSt w s bs k W' := by
  have := h.z
  exact ⟨h.ca.later (by omega) hb, h.cb.later (by omega) hb, fun y => (hb.frozen (p := ⟨s, y, none⟩) (by show s < _; omega)).trans (h.fa y), fun y => (hb.frozen (p := ⟨s + 1, y, none⟩) (by show s + 1 < _; omega)).trans (h.fb y), h.b.trans (hb.mono (by omega)), by have := hb.size; omega⟩
theorem HSt.put {w : World} {s : Nat} {bs : List Int} {k : Nat} {W : World} (h : HSt w s bs k W) (hk : k < 4) : HSt w s bs (k + 1) (W.setCell ⟨s + 1, k, none⟩ (.int .i64 (w16 bs (2 * k)))) := by
  have bo : But (Only (s + 1)) W (W.setCell ⟨s + 1, k, none⟩ (.int .i64 (w16 bs (2 * k)))) := But.cellb (K := Only (s + 1)) (b := s + 1) (But.refl _ _) rfl k _
  have ns : ¬ Only (s + 1) s := fun e => by have e : s = s + 1 := e; omega
  have hz := h.z
  refine ⟨h.ca.but (by omega) bo ns, ?_, fun y => (bo.frozen (p := ⟨s, y, none⟩) (by show s < _; omega) ns).trans (h.fa y), fun y => by rw [World.frozen?_setCell]; exact h.fb y, h.b.trans (bo.below (by omega) (fun g hg e => by have e : g = s + 1 := e; omega)), Nat.le_trans hz bo.size⟩
  have h1 := h.cb.put k (.int .i64 (w16 bs (2 * k))) hk
  rw [Nat.zero_add] at h1
  have e : (hK bs (k + 1)).vals = (hK bs k).vals.set k (.int .i64 (w16 bs (2 * k))) := by
    have h4 : k = 0 ∨ k = 1 ∨ k = 2 ∨ k = 3 := by omega
    rcases h4 with rfl | rfl | rfl | rfl <;> rfl
  rw [e]
  exact h1

set_option maxRecDepth 100000 in
set_option maxHeartbeats 4000000 in
theorem headAt_any {A : Nat → Prop} {w : World} {v : Value} {bs : List Int} (h : IsF A w v bs) (hB : Bytes bs) (hl : (bs.length : Int) ≤ 4611686018427387904) (h28 : 28 ≤ bs.length) :
    Calls Try.prog 26 #[v] w fun e w' => e = .returned (hwV bs).val ∧ Below w.heap.size w w' := by
  obtain ⟨va, vc, rfl, -, -⟩ := h.shape
  obtain ⟨n, hn⟩ : ∃ n, n = bs.length := ⟨_, rfl⟩
  rw [← hn] at h ⊢
  have HN := hide hn
  obtain ⟨s, hs⟩ : ∃ s, s = w.heap.size := ⟨_, rfl⟩
  obtain ⟨W1, hW1⟩ : ∃ W1, W1 = (w.alloc (.cells #[.int .i64 0, .int .i64 0, .int .i64 0, .int .i64 0] 70)).alloc (.cells #[.int .i64 0, .int .i64 0, .int .i64 0, .int .i64 0] 70) := ⟨_, rfl⟩
  have b1 : Below s w W1 := by rw [hW1, hs]; exact ((Below.refl _ _).alloc (Nat.le_refl _) _).alloc (by simp) _
  have z1 : W1.heap.size = s + 2 := by rw [hW1, hs]; simp
  have cA : CellsAt W1 s 0 (H4.vals ⟨0, 0, 0, 0⟩) := by rw [hW1, hs]; exact (CellsAt.new w (H4.vals ⟨0, 0, 0, 0⟩) 70).later (by simp) ((Below.refl _ _).alloc (Nat.le_refl _) _)
  have fA : ∀ y, W1.frozen? ⟨s, y, none⟩ = false := fun y => by
    have hb : Below (w.alloc (.cells #[.int .i64 0, .int .i64 0, .int .i64 0, .int .i64 0] 70)).heap.size (w.alloc (.cells #[.int .i64 0, .int .i64 0, .int .i64 0, .int .i64 0] 70)) W1 := by rw [hW1]; exact (Below.refl _ _).alloc (Nat.le_refl _) _
    rw [hb.frozen (p := ⟨s, y, none⟩) (by rw [hs]; simp), hs]
    exact frozen_new w _ _ _
  have cB : CellsAt W1 (s + 1) 0 (H4.vals ⟨0, 0, 0, 0⟩) := by
    have := CellsAt.new (w.alloc (.cells #[.int .i64 0, .int .i64 0, .int .i64 0, .int .i64 0] 70)) (H4.vals ⟨0, 0, 0, 0⟩) 70
    rw [World.size_alloc, ← hs] at this
    rw [hW1]
    exact this
  have fB : ∀ y, W1.frozen? ⟨s + 1, y, none⟩ = false := fun y => by
    have := frozen_new (w.alloc (.cells #[.int .i64 0, .int .i64 0, .int .i64 0, .int .i64 0] 70)) #[.int .i64 0, .int .i64 0, .int .i64 0, .int .i64 0] 70 y
    rw [World.size_alloc, ← hs] at this
    rw [hW1]
    exact this
  have H : Hid (IsF A w (.slice va n vc) bs) := h
  have HB := hide hB
  have HL := hide hl
  have H28 := hide h28
  have ST0 : Hid (HSt w s bs 0 W1) := ⟨cA, cB, fA, fB, b1, by omega⟩
  have hW1' := hW1.symm
  have hs' := hs.symm
  have HS := hide hs
  clear h hB hl h28 hn hW1 hs b1 cA cB fA fB z1
  rw [hs']
  go_enter Try.func26, Try.ntmps26
  go_wp2_with fail
  clear hW1' hs'
  go_loopw [5] (fun v5 wr => ∃ k : Nat, v5 = .int .i64 (k : Int) ∧ k ≤ 4 ∧ Hid (HSt w s bs k wr)) (fun v5 _ => 4 - (intOf v5).toNat)
  case atStart => exact ⟨0, rfl, by omega, ST0.out⟩
  case round =>
    clear ST0
    obtain ⟨k, rfl, hk, ST⟩ := hrel
    by_cases hlt : k < 4
    · have AT : ∀ k : Nat, k + 2 ≤ 28 → Hid (Calls Try.prog 42 #[.slice va n vc, .int .i64 (k : Int)] wr fun e w' => e = .returned (.tuple #[.int .i64 (w16 bs k), .int .i64 0]) ∧ Below wr.heap.size wr w') := fun k hk => by
        have h28 := H28.out
        have := At16_any (.slice va n vc) bs (k : Int) wr (H.out.later (HS.out ▸ ST.out.b)).isB HB.out HL.out (by omega)
        rw [rd16_eq (by omega), errOf_eq (by omega)] at this
        exact this
      have HAT := hide AT
      have h4 : k = 0 ∨ k = 1 ∨ k = 2 ∨ k = 3 := by omega
      clear hk hlt AT
      rcases h4 with rfl | rfl | rfl | rfl
      · have AT0 := HAT.out 0 (by omega)
        rw [show ((0 : Nat) : Int) = 0 from rfl] at AT0
        rw [show ((0 : Nat) : Int) = 0 from rfl]
        clear HAT
        go_wp2_with fail
        refine AT0.out.mono ?_
        rintro _ w4 ⟨rfl, b4⟩
        have S4 := ST.out.later b4
        have S5 := hide (S4.put (k := 0) (by omega))
        have x4 : w4.cell? ⟨s + 1, 0, none⟩ = some (.int .i64 0) := S4.cb 0 _ rfl
        have f4 := S4.fb 0
        clear S4 b4 AT0 ST
        go_wp2
        go_roundw
        case rel => exact ⟨1, rfl, by omega, S5.out⟩
        case measure => simp [intOf]
      · have AT0 := HAT.out 2 (by omega)
        rw [show ((2 : Nat) : Int) = 2 from rfl] at AT0
        rw [show ((1 : Nat) : Int) = 1 from rfl]
        clear HAT
        go_wp2_with fail
        refine AT0.out.mono ?_
        rintro _ w4 ⟨rfl, b4⟩
        have S4 := ST.out.later b4
        have S5 := hide (S4.put (k := 1) (by omega))
        have x4 : w4.cell? ⟨s + 1, 1, none⟩ = some (.int .i64 0) := S4.cb 1 _ rfl
        have f4 := S4.fb 1
        clear S4 b4 AT0 ST
        go_wp2
        go_roundw
        case rel => exact ⟨2, rfl, by omega, S5.out⟩
        case measure => simp [intOf]
      · have AT0 := HAT.out 4 (by omega)
        rw [show ((4 : Nat) : Int) = 4 from rfl] at AT0
        rw [show ((2 : Nat) : Int) = 2 from rfl]
        clear HAT
        go_wp2_with fail
        refine AT0.out.mono ?_
        rintro _ w4 ⟨rfl, b4⟩
        have S4 := ST.out.later b4
        have S5 := hide (S4.put (k := 2) (by omega))
        have x4 : w4.cell? ⟨s + 1, 2, none⟩ = some (.int .i64 0) := S4.cb 2 _ rfl
        have f4 := S4.fb 2
        clear S4 b4 AT0 ST
        go_wp2
        go_roundw
        case rel => exact ⟨3, rfl, by omega, S5.out⟩
        case measure => simp [intOf]
      · have AT0 := HAT.out 6 (by omega)
        rw [show ((6 : Nat) : Int) = 6 from rfl] at AT0
        rw [show ((3 : Nat) : Int) = 3 from rfl]
        clear HAT
        go_wp2_with fail
        refine AT0.out.mono ?_
        rintro _ w4 ⟨rfl, b4⟩
        have S4 := ST.out.later b4
        have S5 := hide (S4.put (k := 3) (by omega))
        have x4 : w4.cell? ⟨s + 1, 3, none⟩ = some (.int .i64 0) := S4.cb 3 _ rfl
        have f4 := S4.fb 3
        clear S4 b4 AT0 ST
        go_wp2
        go_roundw
        case rel => exact ⟨4, rfl, by omega, S5.out⟩
        case measure => simp [intOf]
    · obtain rfl : k = 4 := by omega
      rw [show ((4 : Nat) : Int) = 4 from rfl]
      have CB : Hid (CellsAt wr (s + 1) 0 (hwV bs).vals) := ST.out.cb
      have CA := hide ST.out.ca
      have FA := hide ST.out.fa
      have bo := But.cells s (hwV bs).vals 0 wr
      have BE : Hid (Below s w (wr.setCells s 0 (hwV bs).vals)) := by
        have hz := ST.out.z
        exact ST.out.b.trans (bo.below (by omega) (fun g hg e => by have e : g = s := e; omega))
      have CE : Hid (CellsAt (wr.setCells s 0 (hwV bs).vals) s 0 (hwV bs).vals) := CA.out.stored rfl
      clear ST bo hlt hk
      go_wp2_with (first | refine wpList_loadA rfl 70 4 aggH sizH _ rfl (s + 1) 0 rfl (hwV bs).vals rfl CB.out ?_ | refine wpList_storeA rfl 70 4 sizH _ _ rfl s 0 rfl (hwV bs).vals (H4.vals ⟨0, 0, 0, 0⟩) rfl rfl rfl CA.out FA.out (h4_one _) (fun _ => ?_))
      refine bodyPost_ret (v := (hwV bs).val) ?_ rfl ⟨rfl, BE.out⟩
      exact results_A rfl _ _ s _ rfl (run_loadVarA 70 4 aggH sizH s 0 _ rfl CE.out)
end Go.Proofs.Ytjaodjlgnclkhaa
