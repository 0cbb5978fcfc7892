
/-
  Joined out of Calc Mem Put Awake Grow.
-/
import Derived.Test.YtggadchhkenipaaNBase
import Derived.Test.YtggadchhkenipaaMath
import Derived.WalkKit
import Derived.WalkSpells
import Derived.WalkLawsBesides
import Derived.Deep.QuietTactic
import Derived.BigQuiet
import Derived.Laws.CopyOwn
import Derived.Laws.AppendOwnNone
namespace Go.Proofs.Ytggadchhkenipaa
open Go.RowKit

/-- THE SLICE VALUE v HOLDS THE BYTES bs, in a block below n₀ (where there is a byte at all). -/
def IsB (n₀ : Nat) (W : World) (v : Value) (bs : List Int) : Prop :=
  ∃ a cap, v = .slice a bs.length cap ∧ bs.length ≤ cap ∧ (a = none → cap = 0) ∧
    (0 < bs.length → ∃ b off, a = some ⟨b, off, none⟩ ∧ b < n₀ ∧ ∀ j, j < bs.length → W.cell? ⟨b, off + j, none⟩ = some (.int .u8 (bs[j]?.getD 0)))
theorem IsB.below {n₀ : Nat} {A B : World} (h : Below n₀ A B) {v : Value} {bs : List Int} (hb : IsB n₀ A v bs) : IsB n₀ B v bs := by
  obtain ⟨a, cap, e, hl, hn, hc⟩ := hb
  refine ⟨a, cap, e, hl, hn, fun h0 => ?_⟩
  obtain ⟨b, off, e1, hb, hcs⟩ := hc h0
  exact ⟨b, off, e1, hb, fun j hj => (h.cell (p := ⟨b, off + j, none⟩) hb).trans (hcs j hj)⟩
theorem IsB.mono {n₀ n₁ : Nat} (h : n₀ ≤ n₁) {W : World} {v : Value} {bs : List Int} (hb : IsB n₀ W v bs) : IsB n₁ W v bs := by
  obtain ⟨a, cap, e, hl, hn, hc⟩ := hb
  refine ⟨a, cap, e, hl, hn, fun h0 => ?_⟩
  obtain ⟨b, off, e1, hb, hcs⟩ := hc h0
  exact ⟨b, off, e1, by omega, hcs⟩
theorem IsB.nil (n₀ : Nat) (W : World) : IsB n₀ W (.slice none 0 0) [] := ⟨none, 0, rfl, by simp, fun _ => rfl, fun h => by simp at h⟩
theorem ret_two {k q : IntKind} {a b c : Int} (h : a = b) : Ending.returned (.tuple #[.int k a, .int q c]) = .returned (.tuple #[.int k b, .int q c]) := by rw [h]
theorem wrap64_fit (x : Int) (h0 : -4611686018427387904 ≤ x) (h1 : x ≤ 4611686018427387904) : wrap64 x = x := by unfold wrap64; omega
theorem wrap64_diff (len at_ : Int) (h0 : 0 ≤ len) (hl : len ≤ 4611686018427387904) (h1 : 0 ≤ at_) (h2 : at_ ≤ 9223372036854775807) : wrap64 (len - at_) = len - at_ := by unfold wrap64; omega
set_option maxHeartbeats 400000 in
theorem stands_pos (a : Option Addr) (len cap : Nat) (at_ size : Int) (hl : (len : Int) ≤ 4611686018427387904) (h0 : 0 ≤ at_) (h1 : at_ ≤ 9223372036854775807) (w : World) :
    Calls Try.prog 72 #[.slice a len cap, .int .i64 at_, .int .i64 size] w fun e w' => e = .returned (.bool (decide (size ≤ len - at_))) ∧ w' = w := by
  have hw := wrap64_diff len at_ (by omega) hl h0 h1
  clear hl h1
  go_enter Try.func72, Try.ntmps72
  go_wp2
  go_ret
  exact ⟨rfl, rfl⟩
set_option maxHeartbeats 400000 in
theorem stands_neg (a : Option Addr) (len cap : Nat) (at_ size : Int) (h0 : at_ < 0) (w : World) :
    Calls Try.prog 72 #[.slice a len cap, .int .i64 at_, .int .i64 size] w fun e w' => e = .returned (.bool false) ∧ w' = w := by
  go_enter Try.func72, Try.ntmps72
  go_wp2
  go_ret
  exact ⟨rfl, rfl⟩
/-- 'at' is a place from which on so many bytes stand -/
def stB (len : Nat) (at_ size : Int) : Bool := decide (0 ≤ at_ ∧ size ≤ len - at_)
theorem stands_any (a : Option Addr) (len cap : Nat) (at_ size : Int) (hl : (len : Int) ≤ 4611686018427387904) (h1 : at_ ≤ 9223372036854775807) (w : World) :
    Calls Try.prog 72 #[.slice a len cap, .int .i64 at_, .int .i64 size] w fun e w' => e = .returned (.bool (stB len at_ size)) ∧ w' = w := by
  by_cases h0 : 0 ≤ at_
  · refine (stands_pos a len cap at_ size hl h0 h1 w).mono ?_
    rintro e w' ⟨rfl, rfl⟩
    exact ⟨by simp [stB, h0], rfl⟩
  · refine (stands_neg a len cap at_ size (by omega) w).mono ?_
    rintro e w' ⟨rfl, rfl⟩
    exact ⟨by simp [stB, h0], rfl⟩
theorem At16_no (a : Option Addr) (len cap : Nat) (at_ : Int) (hl : (len : Int) ≤ 4611686018427387904) (h1 : at_ ≤ 9223372036854775807) (hs : stB len at_ 2 = false) (w : World) :
    Calls Try.prog 66 #[.slice a len cap, .int .i64 at_] w fun e w' => e = .returned (.tuple #[.int .i64 0, .int .i64 3]) ∧ w' = w := by
  have C := stands_any a len cap at_ 2 hl h1 w
  rw [hs] at C
  have HC := hide C
  clear C hl h1
  go_enter Try.func66, Try.ntmps66
  go_wp2_with fail
  refine (unhide HC).mono ?_
  rintro e w' ⟨rfl, rfl⟩
  clear HC
  go_wp2
  go_ret2
  exact ⟨rfl, rfl⟩
set_option maxHeartbeats 400000 in
theorem At16_yes (b off len cap : Nat) (k : Nat) (x y : Int) (hl : (len : Int) ≤ 4611686018427387904) (hk : k + 2 ≤ len) (w : World) (hx : w.cell? ⟨b, off + k, none⟩ = some (.int .u8 x)) (hy : w.cell? ⟨b, off + (k + 1), none⟩ = some (.int .u8 y))
    (x0 : 0 ≤ x) (x1 : x ≤ 255) (y0 : 0 ≤ y) (y1 : y ≤ 255) :
    Calls Try.prog 66 #[.slice (some ⟨b, off, none⟩) len cap, .int .i64 (k : Int)] w fun e w' => e = .returned (.tuple #[.int .i64 (256 * x + y), .int .i64 0]) ∧ ∃ n, w' = w.drewN n := by
  have C := stands_any (some ⟨b, off, none⟩) len cap k 2 hl (by omega) w
  have hs : stB len (k : Int) 2 = true := by simp [stB]; omega
  rw [hs] at C
  have HC := hide C
  clear C
  go_enter Try.func66, Try.ntmps66
  go_wp2_with fail
  refine (unhide HC).mono ?_
  rintro e w' ⟨rfl, rfl⟩
  clear HC
  go_wp2
  go_quiet (fail)
  go_wp2
  go_ret2
  exact ⟨ret_two (by rw [i64_join8 (x * 256) y (by omega) (by omega) (by omega) y0 y1]; omega), _, rfl⟩
theorem At32_no (a : Option Addr) (len cap : Nat) (at_ : Int) (hl : (len : Int) ≤ 4611686018427387904) (h1 : at_ ≤ 9223372036854775807) (hs : stB len at_ 4 = false) (w : World) :
    Calls Try.prog 67 #[.slice a len cap, .int .i64 at_] w fun e w' => e = .returned (.tuple #[.int .u32 0, .int .i64 3]) ∧ w' = w := by
  have C := stands_any a len cap at_ 4 hl h1 w
  rw [hs] at C
  have HC := hide C
  clear C hl h1
  go_enter Try.func67, Try.ntmps67
  go_wp2_with fail
  refine (unhide HC).mono ?_
  rintro e w' ⟨rfl, rfl⟩
  clear HC
  go_wp2
  go_ret2
  exact ⟨rfl, rfl⟩
set_option maxHeartbeats 1000000 in
theorem At32_yes (b off len cap : Nat) (k : Nat) (x y z u : Int) (hl : (len : Int) ≤ 4611686018427387904) (hk : k + 4 ≤ len) (w : World) (hx : w.cell? ⟨b, off + k, none⟩ = some (.int .u8 x)) (hy : w.cell? ⟨b, off + (k + 1), none⟩ = some (.int .u8 y))
    (hz : w.cell? ⟨b, off + (k + 2), none⟩ = some (.int .u8 z)) (hu : w.cell? ⟨b, off + (k + 3), none⟩ = some (.int .u8 u))
    (x0 : 0 ≤ x) (x1 : x ≤ 255) (y0 : 0 ≤ y) (y1 : y ≤ 255) (z0 : 0 ≤ z) (z1 : z ≤ 255) (u0 : 0 ≤ u) (u1 : u ≤ 255) :
    Calls Try.prog 67 #[.slice (some ⟨b, off, none⟩) len cap, .int .i64 (k : Int)] w fun e w' => e = .returned (.tuple #[.int .u32 (16777216 * x + 65536 * y + 256 * z + u), .int .i64 0]) ∧ ∃ n, w' = w.drewN n := by
  have C := stands_any (some ⟨b, off, none⟩) len cap k 4 hl (by omega) w
  have hs : stB len (k : Int) 4 = true := by simp [stB]; omega
  rw [hs] at C
  have HC := hide C
  clear C
  go_enter Try.func67, Try.ntmps67
  go_wp2_with fail
  refine (unhide HC).mono ?_
  rintro e w' ⟨rfl, rfl⟩
  clear HC
  go_wp2
  go_quiet (fail)
  go_wp2
  go_ret2
  exact ⟨ret_two (u32_join4 x y z u x0 x1 y0 y1 z0 z1 u0 u1), _, rfl⟩
/-- the number in two, four bytes from a place on; 0 where they do not stand there -/
def rd16 (bs : List Int) (at_ : Int) : Int := if stB bs.length at_ 2 = true then 256 * bs[at_.toNat]?.getD 0 + bs[at_.toNat + 1]?.getD 0 else 0
def rd32 (bs : List Int) (at_ : Int) : Int := if stB bs.length at_ 4 = true then 16777216 * bs[at_.toNat]?.getD 0 + 65536 * bs[at_.toNat + 1]?.getD 0 + 256 * bs[at_.toNat + 2]?.getD 0 + bs[at_.toNat + 3]?.getD 0 else 0
/-- OK, or ErrShort -/
def errOf (bs : List Int) (at_ size : Int) : Int := if stB bs.length at_ size = true then 0 else 3
theorem At16_any (v : Value) (bs : List Int) (at_ : Int) (w : World) (hb : IsB w.heap.size w v bs) (hB : Bytes bs) (hl : (bs.length : Int) ≤ 4611686018427387904) (h1 : at_ ≤ 9223372036854775807) :
    Calls Try.prog 66 #[v, .int .i64 at_] w fun e w' => e = .returned (.tuple #[.int .i64 (rd16 bs at_), .int .i64 (errOf bs at_ 2)]) ∧ Below w.heap.size w w' := by
  obtain ⟨a, cap, rfl, hlc, hn, hc⟩ := hb
  cases hs : stB bs.length at_ 2 with
  | false =>
    refine (At16_no a bs.length cap at_ hl h1 hs w).mono ?_
    rintro e w' ⟨rfl, rfl⟩
    exact ⟨by simp [rd16, errOf, hs], Below.refl _ _⟩
  | true =>
    have h2 : 0 ≤ at_ ∧ 2 ≤ (bs.length : Int) - at_ := by simpa [stB] using hs
    obtain ⟨k, rfl⟩ := Int.eq_ofNat_of_zero_le h2.1
    obtain ⟨b, off, rfl, hbb, hcs⟩ := hc (by omega)
    have g0 := hB.getD k
    have g1 := hB.getD (k + 1)
    refine (At16_yes b off bs.length cap k _ _ hl (by omega) w (hcs k (by omega)) (hcs (k + 1) (by omega)) g0.1 g0.2 g1.1 g1.2).mono ?_
    rintro e w' ⟨rfl, n, rfl⟩
    exact ⟨by simp [rd16, errOf, hs], below_drewN (Below.refl _ _) n⟩
theorem At32_any (v : Value) (bs : List Int) (at_ : Int) (w : World) (hb : IsB w.heap.size w v bs) (hB : Bytes bs) (hl : (bs.length : Int) ≤ 4611686018427387904) (h1 : at_ ≤ 9223372036854775807) :
    Calls Try.prog 67 #[v, .int .i64 at_] w fun e w' => e = .returned (.tuple #[.int .u32 (rd32 bs at_), .int .i64 (errOf bs at_ 4)]) ∧ Below w.heap.size w w' := by
  obtain ⟨a, cap, rfl, hlc, hn, hc⟩ := hb
  cases hs : stB bs.length at_ 4 with
  | false =>
    refine (At32_no a bs.length cap at_ hl h1 hs w).mono ?_
    rintro e w' ⟨rfl, rfl⟩
    exact ⟨by simp [rd32, errOf, hs], Below.refl _ _⟩
  | true =>
    have h2 : 0 ≤ at_ ∧ 4 ≤ (bs.length : Int) - at_ := by simpa [stB] using hs
    obtain ⟨k, rfl⟩ := Int.eq_ofNat_of_zero_le h2.1
    obtain ⟨b, off, rfl, hbb, hcs⟩ := hc (by omega)
    have g0 := hB.getD k
    have g1 := hB.getD (k + 1)
    have g2 := hB.getD (k + 2)
    have g3 := hB.getD (k + 3)
    refine (At32_yes b off bs.length cap k _ _ _ _ hl (by omega) w (hcs k (by omega)) (hcs (k + 1) (by omega)) (hcs (k + 2) (by omega)) (hcs (k + 3) (by omega)) g0.1 g0.2 g1.1 g1.2 g2.1 g2.2 g3.1 g3.2).mono ?_
    rintro e w' ⟨rfl, n, rfl⟩
    exact ⟨by simp [rd32, errOf, hs], below_drewN (Below.refl _ _) n⟩
/-- THE SLICE VALUE v OWNS THE BYTES bs: they fill a block of the call's own, not frozen, numbered from B on. -/
def OwnB (B : Nat) (W : World) (v : Value) (bs : List Int) : Prop :=
  ∃ g, v = .slice (some ⟨g, 0, none⟩) bs.length bs.length ∧ B ≤ g ∧ W.heap[g]? = some (.cells (bs.map (Value.int .u8)).toArray 5 (0, 0))
/-- the block that a make has laid -/
theorem made_block {base e n : Nat} {W : World} {g : Nat} {xs : List Value} (h : W.ownsRow base e 1 (.slice (some ⟨g, 0, none⟩) n n) n xs) : W.heap[g]? = some (.cells xs.toArray e (0, 0)) := by
  obtain ⟨_, h | ⟨g', cap, cur, hv, _, hh, _, _, hs, ht⟩⟩ := h
  · simp at h
  · simp only [Value.slice.injEq, Option.some.injEq, Addr.mk.injEq] at hv
    obtain ⟨⟨rfl, _, _⟩, _, rfl⟩ := hv
    have : cur.toList = xs := by
      rw [← ht, Nat.mul_one]
      exact (List.take_of_length_le (by simp [hs])).symm
    rw [hh, ← this]
theorem cells_of_IsB {n₀ : Nat} {W : World} {a : Option Addr} {n cap : Nat} {bs : List Int} (h : IsB n₀ W (.slice a n cap) bs) (h0 : 0 < (bs.map (Value.int .u8)).length) :
    ∃ ad, a = some ad ∧ ∀ j v, (bs.map (Value.int .u8))[j]? = some v → W.cell? (ad.add j) = some v := by
  obtain ⟨a', cap', e, _, _, hc⟩ := h
  simp only [Value.slice.injEq] at e
  obtain ⟨rfl, _, _⟩ := e
  obtain ⟨b, off, rfl, _, hcs⟩ := hc (by simpa using h0)
  refine ⟨_, rfl, fun j v hv => ?_⟩
  have hj : j < bs.length := by have := (List.getElem?_eq_some_iff.1 hv).1; simpa using this
  rw [Addr.add_lit, hcs j hj]
  simp only [List.getElem?_map, List.getElem?_eq_getElem hj, Option.map_some, Option.some.injEq] at hv
  simp [List.getElem?_eq_getElem hj, hv]
/-- copy, dst in a row that is known whole, as a run. -/
theorem copy_run {w0 w : World} (dp sp : Option Addr) (dLen dCap sLen sCap : Nat) (g off : Nat) (cur : List Value) (hg : w.heap[g]? = some (.cells cur.toArray 5 (0, 0))) (cs : List Value) (hn : cs.length = Nat.min sLen dLen)
    (hpos : 0 < cs.length → dp = some ⟨g, off, none⟩ ∧ ∃ ad, sp = some ad ∧ ∀ j v, cs[j]? = some v → w.cell? (ad.add j) = some v)
    (hfit : off + cs.length ≤ cur.length) (h1 : ∀ v ∈ cs, v.oneCell' = true) (B : Nat) (hb : Below B w0 w) (hBg : B ≤ g) :
    ∃ w', (Builtin.copy_ #[24, 24] 3 #[.slice dp dLen dCap, .slice sp sLen sCap]).run Try.prog w = .ok (goInt cs.length) w' ∧
      w'.heap[g]? = some (.cells (splice cur off cs).toArray 5 (0, 0)) ∧ Below B w0 w' := by
  by_cases h0 : cs.length = 0
  · obtain rfl : cs = [] := List.eq_nil_of_length_eq_zero h0
    have hrun := run_copy_none (P := Try.prog) w 24 24 3 5 dp sp dLen dCap sLen sCap Try.underlying24 size_u8 (by simpa using hn.symm)
    exact ⟨w, hrun, by simpa [splice] using hg, hb⟩
  · obtain ⟨rfl, ad, rfl, hsrc⟩ := hpos (by omega)
    have hrun := run_copy_row (P := Try.prog) w 24 24 3 5 g off dLen dCap ad sLen sCap cur.toArray 5 cs Try.underlying24 size_u8 hg hn hsrc (by simpa using hfit) h1
    exact ⟨_, hrun, by simpa [splice] using setRow_heap w g _ _ 5 _ hg, below_setRow hb hBg _⟩
theorem splice_two {α : Type} (Z X Y : List α) (hZ : Z.length = X.length + Y.length) : splice (splice Z 0 X) X.length Y = X ++ Y := by
  have e1 : splice Z 0 X = X ++ Z.drop X.length := by simp [splice]
  rw [e1, splice, List.take_left, List.drop_append]
  have e2 : List.drop (X.length + Y.length) X = [] := List.drop_eq_nil_of_le (by omega)
  have e3 : List.drop (X.length + Y.length - X.length) (List.drop X.length Z) = [] := List.drop_eq_nil_of_le (by simp; omega)
  rw [e2, e3]; simp
set_option maxRecDepth 100000 in
set_option maxHeartbeats 400000 in
theorem behind_any (aa ab : Option Addr) (ca cb : Nat) (xs ys : List Int) (w : World) (ha : IsB w.heap.size w (.slice aa xs.length ca) xs) (hb : IsB w.heap.size w (.slice ab ys.length cb) ys) (hsz : xs.length + ys.length ≤ 281474976710656) :
    Calls Try.prog 47 #[.slice aa xs.length ca, .slice ab ys.length cb] w fun e w' => ∃ v, e = .returned v ∧ OwnB w.heap.size w' v (xs ++ ys) ∧ Below w.heap.size w w' := by
  obtain ⟨i0, hi, hz0, hz1, hz2⟩ := info_parts info_u8
  obtain ⟨X, hX⟩ : ∃ X, X = xs.map (Value.int .u8) := ⟨_, rfl⟩
  obtain ⟨Y, hY⟩ : ∃ Y, Y = ys.map (Value.int .u8) := ⟨_, rfl⟩
  obtain ⟨lx, hlx⟩ : ∃ n, n = xs.length := ⟨_, rfl⟩
  obtain ⟨ly, hly⟩ : ∃ n, n = ys.length := ⟨_, rfl⟩
  have lX : X.length = lx := by simp [hX, hlx]
  have lY : Y.length = ly := by simp [hY, hly]
  have oX : ∀ v ∈ X, v.oneCell' = true := by rw [hX]; exact ints_oneCell _ _
  have oY : ∀ v ∈ Y, v.oneCell' = true := by rw [hY]; exact ints_oneCell _ _
  have cX := fun (W : World) (hW : Below w.heap.size w W) h0 => cells_of_IsB (ha.below hW) h0
  have cY := fun (W : World) (hW : Below w.heap.size w W) h0 => cells_of_IsB (hb.below hW) h0
  rw [← hX] at cX
  rw [← hY] at cY
  rw [← hlx, ← hly] at hsz ⊢
  have fin : ∀ w' : World, w'.heap[w.heap.size]? = some (.cells (X ++ Y).toArray 5 (0, 0)) → OwnB w.heap.size w' (.slice (some ⟨w.heap.size, 0, none⟩) (lx + ly) (lx + ly)) (xs ++ ys) := fun w' h =>
    ⟨w.heap.size, by simp [hlx, hly], Nat.le_refl _, by rw [h, hX, hY]; simp⟩
  have FIN := hide fin
  have CX := hide cX
  have CY := hide cY
  have LX := hide lX
  have LY := hide lY
  have OX := hide oX
  have OY := hide oY
  clear fin cX cY lX lY oX oY hX hY hlx hly ha hb
  go_enter Try.func47, Try.ntmps47
  go_wp2_with (at_make; refine wpList_make_full _ rfl _ _ 24 rfl w.heap.size 5 i0 (.int .u8 0) 1 Try.underlying24 hi hz0 hz1 .i64 .i64 _ _ (lx + ly) rfl rfl (by omega) (by omega) (by rw [hz2]; omega) (by unfold maxLen; omega) (Nat.le_refl _) ?_)
  intro w1 hown hg
  have hB1 : Below w.heap.size w w1 := (Below.refl _ w).grown hg (Nat.le_refl _) (fun k e => by cases e)
  have hh1 := hide (made_block hown)
  clear hown hg
  obtain ⟨Z, hZ, lZ⟩ : ∃ Z, Z = (madeCells (Value.int .u8 0).cells ((lx + ly) * 1)).toList ∧ Z.length = lx + ly := ⟨_, rfl, by simp [madeCells]⟩
  rw [Nat.mul_one] at hZ
  have HZ := hide hZ
  have LZ := hide lZ
  clear hZ lZ
  go_wp2_with fail
  obtain ⟨w2, hrun, hh2, hB2⟩ := copy_run (w0 := w) (w := w1) (some ⟨w.heap.size, 0, none⟩) aa (lx + ly) (lx + ly) lx ca w.heap.size 0 Z (by rw [HZ.out]; exact hh1.out) X (by rw [LX.out]; exact (Nat.min_eq_left (by omega)).symm)
    (fun h => ⟨rfl, CX.out w1 hB1 h⟩) (by rw [LX.out, LZ.out]; omega) OX.out w.heap.size hB1 (Nat.le_refl _)
  have HH2 := hide hh2
  rw [hrun]
  clear hh2 hrun hh1 hB1
  go_wp2_with fail
  · obtain rfl : ly = 0 := by assumption
    obtain ⟨w3, hrun, hh3, hB3⟩ := copy_run (w0 := w) (w := w2) (some ⟨w.heap.size, 0, none⟩) ab 0 0 0 cb w.heap.size lx (splice Z 0 X) HH2.out Y (by rw [LY.out]; rfl)
      (fun h => absurd h (by rw [LY.out]; simp)) (by rw [LY.out, length_splice _ _ _ (by rw [LX.out, LZ.out]; omega), LZ.out]; omega) OY.out w.heap.size hB2 (Nat.le_refl _)
    have HH3 := hide hh3
    rw [hrun]
    clear hh3 hrun HH2 hB2
    go_wp2
    go_ret
    refine ⟨_, rfl, ?_, hB3⟩
    refine FIN.out w3 ?_
    have := HH3.out
    rwa [← LX.out, splice_two Z X Y (by rw [LX.out, LY.out, LZ.out])] at this
  · obtain ⟨w3, hrun, hh3, hB3⟩ := copy_run (w0 := w) (w := w2) (some ⟨w.heap.size, lx, none⟩) ab ly ly ly cb w.heap.size lx (splice Z 0 X) HH2.out Y (by rw [LY.out]; exact (Nat.min_self _).symm)
      (fun h => ⟨rfl, CY.out w2 hB2 h⟩) (by rw [LY.out, length_splice _ _ _ (by rw [LX.out, LZ.out]; omega), LZ.out]; omega) OY.out w.heap.size hB2 (Nat.le_refl _)
    have HH3 := hide hh3
    rw [hrun]
    clear hh3 hrun HH2 hB2
    go_wp2
    go_ret
    refine ⟨_, rfl, ?_, hB3⟩
    refine FIN.out w3 ?_
    have := HH3.out
    rwa [← LX.out, splice_two Z X Y (by rw [LX.out, LY.out, LZ.out])] at this
/-- the lowest 16 bits of n in two bytes, the higher one first -/
def put16 (n : Int) : List Int := [n / 256 % 256, n % 256]
/-- n in four bytes, the highest first -/
def put32 (n : Int) : List Int := [n / 16777216, n / 65536 % 256, n / 256 % 256, n % 256]
theorem IsB_new {n : Nat} {w : World} (bs : List Int) (hn : w.heap.size < n) : IsB n (w.alloc (.cells (bs.map (Value.int .u8)).toArray 5)) (.slice (some ⟨w.heap.size, 0, none⟩) bs.length bs.length) bs :=
  ⟨_, _, rfl, Nat.le_refl _, (fun h => by cases h), fun _ => ⟨w.heap.size, 0, rfl, hn, fun j hj => by
    rw [Nat.zero_add, cell_of_row _ w.heap.size j (bs.map (Value.int .u8)).toArray 5 (0, 0) (heap_alloc_new w _)]
    simp [hj]⟩⟩
theorem OwnB.mono {B B' : Nat} {W : World} {v : Value} {bs : List Int} (h : OwnB B W v bs) (hB : B' ≤ B) : OwnB B' W v bs := by
  obtain ⟨g, e, hg, hh⟩ := h
  exact ⟨g, e, by omega, hh⟩
set_option maxHeartbeats 400000 in
theorem Put16_any (v : Value) (xs : List Int) (n : Int) (w : World) (ha : IsB w.heap.size w v xs) (hsz : xs.length + 2 ≤ 281474976710656) :
    Calls Try.prog 29 #[v, .int .i64 n] w fun e w' => ∃ v', e = .returned v' ∧ OwnB w.heap.size w' v' (xs ++ put16 n) ∧ Below w.heap.size w w' := by
  obtain ⟨a, ca, rfl, hlc, hn, hc⟩ := ha
  have ha : IsB w.heap.size w (.slice a xs.length ca) xs := ⟨a, ca, rfl, hlc, hn, hc⟩
  have HA := hide ha
  clear hc ha hlc hn
  obtain ⟨W1, hW1⟩ : ∃ W1, w.alloc (.cells ((put16 n).map (Value.int .u8)).toArray 5) = W1 := ⟨_, rfl⟩
  have hB1 : Below w.heap.size w W1 := by rw [← hW1]; exact (Below.refl _ w).alloc (Nat.le_refl _) _
  have hs1 : W1.heap.size = w.heap.size + 1 := by rw [← hW1]; simp
  have hY : IsB W1.heap.size W1 (.slice (some ⟨w.heap.size, 0, none⟩) (put16 n).length 2) (put16 n) := by rw [hs1, ← hW1]; exact IsB_new _ (by omega)
  have C := behind_any a (some ⟨w.heap.size, 0, none⟩) ca 2 xs (put16 n) W1 ((HA.out.below hB1).mono (by omega)) hY (by simpa [put16] using hsz)
  have HC := hide C
  have HS := hide hs1
  have HB := hide hB1
  clear C hY hs1 hB1
  rw [← hW1] at HC
  go_enter Try.func29, Try.ntmps29
  go_wp2_with fail
  refine (unhide HC).mono ?_
  rintro e w' ⟨v', rfl, ho, hb⟩
  clear HC
  go_wp2
  go_ret
  rw [hW1] at ho hb
  exact ⟨v', rfl, ho.mono (by rw [HS.out]; omega), HB.out.trans (hb.mono (by rw [HS.out]; omega))⟩
set_option maxHeartbeats 400000 in
theorem Put32_any (v : Value) (xs : List Int) (n : Int) (n0 : 0 ≤ n) (n1 : n < 4294967296) (w : World) (ha : IsB w.heap.size w v xs) (hsz : xs.length + 4 ≤ 281474976710656) :
    Calls Try.prog 30 #[v, .int .u32 n] w fun e w' => ∃ v', e = .returned v' ∧ OwnB w.heap.size w' v' (xs ++ put32 n) ∧ Below w.heap.size w w' := by
  obtain ⟨a, ca, rfl, hlc, hn, hc⟩ := ha
  have ha : IsB w.heap.size w (.slice a xs.length ca) xs := ⟨a, ca, rfl, hlc, hn, hc⟩
  have HA := hide ha
  clear hc ha hlc hn
  obtain ⟨W1, hW1⟩ : ∃ W1, w.alloc (.cells ((put32 n).map (Value.int .u8)).toArray 5) = W1 := ⟨_, rfl⟩
  have hB1 : Below w.heap.size w W1 := by rw [← hW1]; exact (Below.refl _ w).alloc (Nat.le_refl _) _
  have hs1 : W1.heap.size = w.heap.size + 1 := by rw [← hW1]; simp
  have hY : IsB W1.heap.size W1 (.slice (some ⟨w.heap.size, 0, none⟩) (put32 n).length 4) (put32 n) := by rw [hs1, ← hW1]; exact IsB_new _ (by omega)
  have C := behind_any a (some ⟨w.heap.size, 0, none⟩) ca 4 xs (put32 n) W1 ((HA.out.below hB1).mono (by omega)) hY (by simpa [put32] using hsz)
  have HC := hide C
  have HS := hide hs1
  have HB := hide hB1
  clear C hY hs1 hB1
  rw [← hW1] at HC
  go_enter Try.func30, Try.ntmps30
  go_wp2_with fail
  refine (unhide HC).mono ?_
  rintro e w' ⟨v', rfl, ho, hb⟩
  clear HC
  go_wp2
  go_ret
  rw [hW1] at ho hb
  exact ⟨v', rfl, ho.mono (by rw [HS.out]; omega), HB.out.trans (hb.mono (by rw [HS.out]; omega))⟩
/-- the string of these bytes -/
def strB (bs : List Int) : ByteArray := bs.foldl (fun r n => r.push (UInt8.ofNat n.toNat)) ByteArray.empty
theorem conv_str {n₀ : Nat} {W : World} {v : Value} {bs : List Int} (h : IsB n₀ W v bs) : (convert 24 9 v).run Try.prog W = .ok (.string (strB bs)) W := by
  obtain ⟨a, cap, rfl, hl, hn, hc⟩ := h
  rw [run_convert_bytes_string (P := Try.prog) W 24 9 5 a bs.length cap Try.underlying24 Try.underlying5 Try.underlying9]
  cases a with
  | none =>
    have h0 := hn rfl
    have : bs = [] := List.eq_nil_of_length_eq_zero (by omega)
    subst this
    rfl
  | some ad =>
    refine run_bytesToString W ad bs.length cap bs ?_
    have := run_loadCells_list (P := Try.prog) W ad (bs.map (Value.int .u8)) (fun j v hv => by
      have hj : j < bs.length := by have := (List.getElem?_eq_some_iff.1 hv).1; simpa using this
      obtain ⟨b, off, e, _, hcs⟩ := hc (by omega)
      cases e
      rw [Addr.add_lit, hcs j hj]
      simp only [List.getElem?_map, List.getElem?_eq_getElem hj, Option.map_some, Option.some.injEq] at hv
      simp [List.getElem?_eq_getElem hj, hv])
    simpa using this
theorem OwnB.isB {B : Nat} {W : World} {v : Value} {bs : List Int} (h : OwnB B W v bs) : IsB W.heap.size W v bs := by
  obtain ⟨g, rfl, hg, hh⟩ := h
  refine ⟨_, _, rfl, Nat.le_refl _, (fun e => by cases e), fun _ => ⟨g, 0, rfl, (Array.getElem?_eq_some_iff.1 hh).1, fun j hj => ?_⟩⟩
  rw [Nat.zero_add, cell_of_row _ g j _ 5 (0, 0) hh]
  simp [hj]
theorem OwnB.below {B n : Nat} {A W : World} {v : Value} {bs : List Int} (h : OwnB B A v bs) (hb : Below n A W) (hn : A.heap.size ≤ n) : OwnB B W v bs := by
  obtain ⟨g, rfl, hg, hh⟩ := h
  have hlt := (Array.getElem?_eq_some_iff.1 hh).1
  exact ⟨g, rfl, hg, by rw [hb.block g (by omega)]; exact hh⟩
theorem later_alloc (w : World) (o : Obj) : Below w.heap.size w (w.alloc o) := (Below.refl _ w).alloc (Nat.le_refl _) o
theorem later {a b c : World} (h : Below a.heap.size a b) (k : Below b.heap.size b c) : Below a.heap.size a c := h.trans (k.mono h.size)
theorem IsB.later {A B : World} {v : Value} {bs : List Int} (hb : IsB A.heap.size A v bs) (h : Below A.heap.size A B) : IsB B.heap.size B v bs := (hb.below h).mono h.size
theorem OwnB.gro {B : Nat} {W : World} {v : Value} {bs : List Int} (h : OwnB B W v bs) (hl : bs.length ≤ maxLen) : Gro B W v bs := by
  obtain ⟨g, rfl, hg, hh⟩ := h
  exact ⟨by simp, .inr ⟨g, bs.length, _, rfl, hg, hh, Nat.le_refl _, hl, by simp, List.take_of_length_le (by simp)⟩⟩
theorem Gro.isB {B : Nat} {W : World} {v : Value} {bs : List Int} (h : Gro B W v bs) : IsB W.heap.size W v bs := by
  obtain ⟨_, ⟨rfl, h0⟩ | ⟨g, cap, cur, rfl, hg, hh, hc, hm, hs, ht⟩⟩ := h
  · have : bs = [] := List.eq_nil_of_length_eq_zero h0
    subst this
    exact IsB.nil _ _
  · refine ⟨_, _, rfl, hc, (fun e => by cases e), fun _ => ⟨g, 0, rfl, (Array.getElem?_eq_some_iff.1 hh).1, fun j hj => ?_⟩⟩
    rw [Nat.zero_add, cell_of_row _ g j _ 5 (0, 0) hh]
    have h1 : (cur.toList.take (bs.length * 1))[j]? = cur[j]? := by
      rw [List.getElem?_take, if_pos (by omega)]; simp
    rw [← h1, ht]
    simp [hj]
theorem Gro.later {B : Nat} {A W : World} {v : Value} {bs : List Int} (h : Gro B A v bs) (hb : Below A.heap.size A W) : Gro B W v bs := by
  obtain ⟨h1, h2 | ⟨g, cap, cur, rfl, hg, hh, r⟩⟩ := h
  · exact ⟨h1, .inl h2⟩
  · exact ⟨h1, .inr ⟨g, cap, cur, rfl, hg, by rw [hb.block g (Array.getElem?_eq_some_iff.1 hh).1]; exact hh, r⟩⟩
theorem IsB.shape {n₀ : Nat} {W : World} {v : Value} {bs : List Int} (h : IsB n₀ W v bs) : ∃ a cap, v = .slice a bs.length cap ∧ bs.length ≤ cap := by
  obtain ⟨a, cap, e, hl, _⟩ := h
  exact ⟨a, cap, e, hl⟩
/-- where the bytes lie -/
theorem Gro.block {B : Nat} {W : World} {a : Option Addr} {n c : Nat} {bs : List Int} (h : Gro B W (.slice a n c) bs) (h0 : 0 < bs.length) :
    ∃ g, a = some ⟨g, 0, none⟩ ∧ B ≤ g ∧ (∀ j, j < bs.length → W.cell? ⟨g, j, none⟩ = some (.int .u8 (bs[j]?.getD 0))) ∧ ∀ j, W.frozen? ⟨g, j, none⟩ = false := by
  have h' := h
  obtain ⟨_, ⟨e, h1⟩ | ⟨g, cap, cur, e, hg, _⟩⟩ := h
  · omega
  · simp only [Value.slice.injEq] at e
    obtain ⟨rfl, rfl, rfl⟩ := e
    refine ⟨g, rfl, hg, fun j hj => ?_, fun j => World.ownsRow.frozenAt h' j⟩
    rw [World.ownsRow.cellAt h' j (by omega)]
    simp [hj]
/-- a store into one of them -/
theorem Gro.store {B : Nat} {W : World} {g n c : Nat} {bs : List Int} (h : Gro B W (.slice (some ⟨g, 0, none⟩) n c) bs) (hn : n = bs.length) (k : Nat) (x : Int) :
    Gro B (W.setCell ⟨g, k, none⟩ (.int .u8 x)) (.slice (some ⟨g, 0, none⟩) n c) (bs.set k x) := by
  subst hn
  have := (World.ownsRow.stored h k (.int .u8 x)).1
  unfold Gro
  rw [List.length_set, List.map_set]
  exact this
/-- the first bytes of a slice -/
theorem IsB.take {n₀ : Nat} {W : World} {a : Option Addr} {n c : Nat} {L : List Int} (h : IsB n₀ W (.slice a n c) L) (k : Nat) (hk : k ≤ L.length) : IsB n₀ W (.slice a k c) (L.take k) := by
  obtain ⟨a', c', e, hl, hn, hc⟩ := h
  simp only [Value.slice.injEq] at e
  obtain ⟨rfl, rfl, rfl⟩ := e
  have e : (L.take k).length = k := by simp; omega
  refine ⟨a, c, by rw [e], by omega, hn, fun h0 => ?_⟩
  obtain ⟨b, off, rfl, hb, hcs⟩ := hc (by omega)
  refine ⟨b, off, rfl, hb, fun j hj => ?_⟩
  rw [hcs j (by omega), List.getElem?_take, if_pos (by omega)]
/-- what lies behind the first k bytes of a slice -/
theorem IsB.drop {n₀ : Nat} {W : World} {a : Option Addr} {n c : Nat} {L : List Int} (h : IsB n₀ W (.slice a n c) L) (k : Nat) (hk : k ≤ L.length) :
    IsB n₀ W (.slice (if c = k then a else Option.map (fun x => x.add k) a) (n - k) (c - k)) (L.drop k) := by
  obtain ⟨a2, c', e, hl, hn, hc⟩ := h
  simp only [Value.slice.injEq] at e
  obtain ⟨rfl, rfl, rfl⟩ := e
  refine ⟨if c = k then a else Option.map (fun x => x.add k) a, c - k, by rw [List.length_drop], by rw [List.length_drop]; omega, fun e => ?_, fun h0 => ?_⟩
  · split at e
    · omega
    · have : a = none := by simpa using e
      have := hn this
      omega
  · simp only [List.length_drop] at h0
    obtain ⟨b, off, rfl, hb, hcs⟩ := hc (by omega)
    refine ⟨b, off + k, by rw [if_neg (by omega)]; simp [Addr.add_lit], hb, fun j hj => ?_⟩
    simp only [List.length_drop] at hj
    rw [Nat.add_assoc, hcs (k + j) (by omega), List.getElem?_drop]

end Go.Proofs.Ytggadchhkenipaa
