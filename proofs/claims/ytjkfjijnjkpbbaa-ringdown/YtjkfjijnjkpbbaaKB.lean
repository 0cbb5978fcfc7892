
/-
  Buffers: their numbers and bytes, as the document names them, and how they lie in memory.
-/
import Derived.Test.YtjkfjijnjkpbbaaNRef3
import Derived.Laws.CopyOwn
import Derived.Lib.SmallJoins
namespace Go.Proofs.Ytjkfjijnjkpbbaa
open Go.RowKit

theorem But.cells (b : Nat) : ∀ (vs : List Value) (o : Nat) (w : World), But (Only b) w (w.setCells b o vs)
  | [], _, _ => But.refl _ _
  | v :: r, o, _ => ((But.refl _ _).cellb o v).trans (But.cells b r (o + 1) _)

/-- holders, head, data -/
structure Buf where
  refs : Nat
  head : List Int
  data : List Int

/-- a buffer's 395 cells: holders, room for a head, its length, room for data, its length -/
structure BufAt (W : World) (g o : Nat) (x : Buf) : Prop where
  refs : W.cell? ⟨g, o, none⟩ = some (.int .i64 (x.refs : Int))
  hl : W.cell? ⟨g, o + 105, none⟩ = some (.int .i64 (x.head.length : Int))
  dl : W.cell? ⟨g, o + 394, none⟩ = some (.int .i64 (x.data.length : Int))
  h : ∀ j, j < 104 → ∃ y, W.cell? ⟨g, o + 1 + j, none⟩ = some (.int .u8 y) ∧ (j < x.head.length → y = x.head[j]?.getD 0)
  d : ∀ j, j < 288 → ∃ y, W.cell? ⟨g, o + 106 + j, none⟩ = some (.int .u8 y) ∧ (j < x.data.length → y = x.data[j]?.getD 0)
  hle : x.head.length ≤ 104
  dle : x.data.length ≤ 288

theorem BufAt.keep {W W' : World} {g o : Nat} {x : Buf} (H : BufAt W g o x) (hc : ∀ k, k < 395 → W'.cell? ⟨g, o + k, none⟩ = W.cell? ⟨g, o + k, none⟩) : BufAt W' g o x :=
  ⟨(hc 0 (by omega)).trans H.refs, (hc 105 (by omega)).trans H.hl, (hc 394 (by omega)).trans H.dl,
    fun j hj => by obtain ⟨y, hy, e⟩ := H.h j hj; exact ⟨y, by rw [show o + 1 + j = o + (1 + j) by omega, hc _ (by omega), show o + (1 + j) = o + 1 + j by omega]; exact hy, e⟩,
    fun j hj => by obtain ⟨y, hy, e⟩ := H.d j hj; exact ⟨y, by rw [show o + 106 + j = o + (106 + j) by omega, hc _ (by omega), show o + (106 + j) = o + 106 + j by omega]; exact hy, e⟩, H.hle, H.dle⟩

/-- which cells there are -/
theorem BufAt.isThere {W : World} {g o : Nat} {x : Buf} (H : BufAt W g o x) (k : Nat) (hk : k < 395) : (W.cell? ⟨g, o + k, none⟩).isSome = true := by
  by_cases h0 : k = 0
  · subst h0; rw [Nat.add_zero, H.refs]; rfl
  by_cases h1 : k < 105
  · obtain ⟨y, hy, _⟩ := H.h (k - 1) (by omega)
    rw [show o + 1 + (k - 1) = o + k by omega] at hy
    rw [hy]; rfl
  by_cases h2 : k = 105
  · subst h2; rw [H.hl]; rfl
  by_cases h3 : k < 394
  · obtain ⟨y, hy, _⟩ := H.d (k - 106) (by omega)
    rw [show o + 106 + (k - 106) = o + k by omega] at hy
    rw [hy]; rfl
  · have : k = 394 := by omega
    subst this; rw [H.dl]; rfl

/-- A POOL OF n BUFFERS: its one cell lies in block b, the buffers in block g -/
structure PoolAt (W : World) (b g n : Nat) (B : Nat → Buf) : Prop where
  ne : b ≠ g
  n0 : 0 < n
  n1 : n ≤ 4096
  cell : W.cell? ⟨b, 0, none⟩ = some (.slice (some ⟨g, 0, none⟩) n n)
  fz : ∀ k, W.frozen? ⟨g, k, none⟩ = false
  buf : ∀ i, i < n → BufAt W g (i * 395) (B i)

section
variable {W W' : World} {b g n : Nat} {B : Nat → Buf}
theorem PoolAt.blt (H : PoolAt W b g n B) : b < W.heap.size := World.block_lt_of_cell? W _ H.cell
theorem PoolAt.glt (H : PoolAt W b g n B) : g < W.heap.size := World.block_lt_of_cell? W _ (H.buf 0 H.n0).refs
theorem PoolAt.but {K : Nat → Prop} (H : PoolAt W b g n B) (hb : But K W W') (kb : ¬ K b) (kg : ¬ K g) : PoolAt W' b g n B :=
  ⟨H.ne, H.n0, H.n1, (hb.cell (p := ⟨b, 0, none⟩) H.blt kb).trans H.cell, fun k => (hb.frozen (p := ⟨g, k, none⟩) H.glt kg).trans (H.fz k), fun i hi => (H.buf i hi).keep (fun k _ => hb.cell (p := ⟨g, i * 395 + k, none⟩) H.glt kg)⟩
theorem PoolAt.later (H : PoolAt W b g n B) (hb : Below W.heap.size W W') : PoolAt W' b g n B := H.but (K := fun _ => False) (But.of_below hb) id id
theorem PoolAt.drew (H : PoolAt W b g n B) : PoolAt W.drew b g n B := H.but (K := fun _ => False) (But.refl _ _).drew id id
theorem PoolAt.al (H : PoolAt W b g n B) (o : Obj) : PoolAt (W.alloc o) b g n B := H.but (K := fun _ => False) ((But.refl _ _).alloc o) id id
/-- one buffer was turned -/
theorem PoolAt.turn (H : PoolAt W b g n B) (i : Nat) {x : Buf} (hb : But (Only g) W W') (hf : ∀ k, W'.frozen? ⟨g, k, none⟩ = W.frozen? ⟨g, k, none⟩)
    (ho : ∀ k, k < i * 395 ∨ i * 395 + 395 ≤ k → W'.cell? ⟨g, k, none⟩ = W.cell? ⟨g, k, none⟩) (hx : i < n → BufAt W' g (i * 395) x) : PoolAt W' b g n (upd B i x) := by
  refine ⟨H.ne, H.n0, H.n1, (hb.cell (p := ⟨b, 0, none⟩) H.blt (fun e => H.ne e)).trans H.cell, fun k => (hf k).trans (H.fz k), fun j hj => ?_⟩
  by_cases e : j = i
  · subst e; rw [upd_same]; exact hx hj
  · rw [upd_other _ _ _ _ e]
    refine (H.buf j hj).keep (fun k hk => ho _ ?_)
    rcases Nat.lt_or_ge j i with h | h
    · left; have : (j + 1) * 395 ≤ i * 395 := Nat.mul_le_mul_right _ h; omega
    · right; have : (i + 1) * 395 ≤ j * 395 := Nat.mul_le_mul_right _ (by omega); omega
end

/-- the number of holders is turned -/
theorem PoolAt.setRefs {W : World} {b g n : Nat} {B : Nat → Buf} (H : PoolAt W b g n B) (i : Nat) (hi : i < n) (r : Nat) : PoolAt (W.setCell ⟨g, i * 395, none⟩ (.int .i64 (r : Int))) b g n (upd B i { B i with refs := r }) := by
  have hx := H.buf i hi
  have key : ∀ k, k ≠ i * 395 → (W.setCell ⟨g, i * 395, none⟩ (.int .i64 (r : Int))).cell? ⟨g, k, none⟩ = W.cell? ⟨g, k, none⟩ := fun k hk => World.cell?_setCell_other _ _ _ _ (by intro q; cases q; exact hk rfl)
  refine H.turn i ((But.refl _ _).cellb _ _) (fun k => World.frozen?_setCell ..) (fun k hk => key k (by omega)) (fun _ => ⟨?_, ?_, ?_, ?_, ?_, hx.hle, hx.dle⟩)
  · exact World.cell?_setCell_same' _ _ _ (by rw [hx.refs]; rfl)
  · exact (key _ (by omega)).trans hx.hl
  · exact (key _ (by omega)).trans hx.dl
  · intro j hj; obtain ⟨y, hy, e⟩ := hx.h j hj; exact ⟨y, (key _ (by omega)).trans hy, e⟩
  · intro j hj; obtain ⟨y, hy, e⟩ := hx.d j hj; exact ⟨y, (key _ (by omega)).trans hy, e⟩

/-- a buffer is laid anew -/
def pzc (i : Nat) : Value := if i = 0 ∨ i = 105 ∨ i = 394 then .int .i64 0 else .int .u8 0
def zbuf : List Value := (List.range 395).map pzc
theorem zbuf_len : zbuf.length = 395 := by simp [zbuf]
theorem zbuf_get (i : Nat) (hi : i < 395) : zbuf[i]? = some (pzc i) := by simp [zbuf, hi]
theorem zbuf_one : ∀ v ∈ zbuf, v.oneCell' = true := by
  intro v hv
  obtain ⟨i, _, rfl⟩ := List.mem_map.1 hv
  unfold pzc; split <;> rfl
/-- cells that are those of a buffer with r holders and nothing in it -/
theorem BufAt.fresh {W : World} {g o : Nat} (r : Nat) (hc : ∀ k, k < 395 → W.cell? ⟨g, o + k, none⟩ = some (if k = 0 then .int .i64 (r : Int) else pzc k)) : BufAt W g o ⟨r, [], []⟩ := by
  refine ⟨?_, ?_, ?_, fun j hj => ⟨0, ?_, fun h => by simp at h⟩, fun j hj => ⟨0, ?_, fun h => by simp at h⟩, by simp, by simp⟩
  · have := hc 0 (by omega); simpa using this
  · have := hc 105 (by omega); simpa [pzc] using this
  · have := hc 394 (by omega); simpa [pzc] using this
  · have := hc (1 + j) (by omega)
    rw [show o + 1 + j = o + (1 + j) by omega, this, if_neg (by omega)]
    unfold pzc; rw [if_neg (by omega)]
  · have := hc (106 + j) (by omega)
    rw [show o + 106 + j = o + (106 + j) by omega, this, if_neg (by omega)]
    unfold pzc; rw [if_neg (by omega)]

/-- bytes laid over part of a block's cells -/
theorem setCells_get {W : World} {g o : Nat} {cs : List Int} (hs : ∀ j, j < cs.length → (W.cell? ⟨g, o + j, none⟩).isSome = true) (j : Nat) (hj : j < cs.length) : (W.setCells g o (cs.map (Value.int .u8))).cell? ⟨g, o + j, none⟩ = some (.int .u8 (cs[j]?.getD 0)) := by
  have := World.cell?_setCells_in g (cs.map (Value.int .u8)) o W (by simpa using hs) j (by simpa using hj)
  rw [this]
  simp [hj]
theorem setCells_out {W : World} {g o : Nat} {cs : List Value} {k : Nat} (hk : k < o ∨ o + cs.length ≤ k) : (W.setCells g o cs).cell? ⟨g, k, none⟩ = W.cell? ⟨g, k, none⟩ := World.cell?_setCells_out g cs o W ⟨g, k, none⟩ (fun _ _ => hk)
theorem setCell_out {W : World} {g o k : Nat} {v : Value} (hk : k ≠ o) : (W.setCell ⟨g, o, none⟩ v).cell? ⟨g, k, none⟩ = W.cell? ⟨g, k, none⟩ := World.cell?_setCell_other _ _ _ _ (by intro q; cases q; exact hk rfl)

/-- bytes are laid into the room for data from place k on; the data's length is told -/
theorem PoolAt.lay {W : World} {b g n : Nat} {B : Nat → Buf} (H : PoolAt W b g n B) (i : Nat) (hi : i < n) (k : Nat) (cs ds : List Int) (hk : k + cs.length ≤ 288) (hd : ds.length = k + cs.length) (h1 : ∀ j, j < k → j < (B i).data.length ∧ ds[j]?.getD 0 = (B i).data[j]?.getD 0) (h2 : ∀ j, j < cs.length → ds[k + j]?.getD 0 = cs[j]?.getD 0) :
    PoolAt ((W.setCells g (i * 395 + 106 + k) (cs.map (Value.int .u8))).setCell ⟨g, i * 395 + 394, none⟩ (.int .i64 (ds.length : Int))) b g n (upd B i { B i with data := ds }) := by
  have hx := H.buf i hi
  have hs : ∀ j, j < cs.length → (W.cell? ⟨g, i * 395 + 106 + k + j, none⟩).isSome = true := fun j hj => by rw [show i * 395 + 106 + k + j = i * 395 + (106 + k + j) by omega]; exact hx.isThere _ (by omega)
  have hl : (cs.map (Value.int .u8)).length = cs.length := by simp
  have key : ∀ m, m ≠ i * 395 + 394 → (m < i * 395 + 106 + k ∨ i * 395 + 106 + k + cs.length ≤ m) → ((W.setCells g (i * 395 + 106 + k) (cs.map (Value.int .u8))).setCell ⟨g, i * 395 + 394, none⟩ (.int .i64 (ds.length : Int))).cell? ⟨g, m, none⟩ = W.cell? ⟨g, m, none⟩ := fun m h1 h2 => by
    rw [setCell_out h1, setCells_out (by rw [hl]; exact h2)]
  refine H.turn i ((But.cells g (cs.map (Value.int .u8)) _ W).cellb _ _) (fun m => (World.frozen?_setCell ..).trans (World.frozen?_setCells ..)) (fun m hm => by
    have e1 : m ≠ i * 395 + 394 := by omega
    exact key m e1 (by generalize i * 395 = o at *; omega)) (fun _ => ⟨?_, ?_, ?_, ?_, ?_, hx.hle, by show ds.length ≤ 288; omega⟩)
  · exact (key _ (by omega) (by omega)).trans hx.refs
  · exact (key _ (by omega) (by omega)).trans hx.hl
  · exact World.cell?_setCell_same' _ _ _ (by rw [setCells_out (by rw [hl]; omega), hx.dl]; rfl)
  · intro j hj; obtain ⟨y, hy, e⟩ := hx.h j hj; exact ⟨y, (key _ (by omega) (by omega)).trans hy, e⟩
  · intro j hj
    by_cases e1 : j < k
    · obtain ⟨y, hy, e⟩ := hx.d j hj
      exact ⟨y, (key _ (by omega) (by omega)).trans hy, fun _ => by rw [e (h1 j e1).1]; exact (h1 j e1).2.symm⟩
    · by_cases e2 : j < k + cs.length
      · refine ⟨cs[j - k]?.getD 0, ?_, fun _ => ?_⟩
        · rw [setCell_out (by omega), show i * 395 + 106 + j = i * 395 + 106 + k + (j - k) by omega]
          exact setCells_get hs (j - k) (by omega)
        · have := h2 (j - k) (by omega)
          rw [show k + (j - k) = j by omega] at this
          exact this.symm
      · obtain ⟨y, hy, e⟩ := hx.d j hj
        exact ⟨y, (key _ (by omega) (by omega)).trans hy, fun h => by have h : j < ds.length := h; omega⟩

/-- bytes are laid into the room for the head -/
theorem PoolAt.layHead {W : World} {b g n : Nat} {B : Nat → Buf} (H : PoolAt W b g n B) (i : Nat) (hi : i < n) (cs : List Int) (hk : cs.length ≤ 104) :
    PoolAt ((W.setCells g (i * 395 + 1) (cs.map (Value.int .u8))).setCell ⟨g, i * 395 + 105, none⟩ (.int .i64 (cs.length : Int))) b g n (upd B i { B i with head := cs }) := by
  have hx := H.buf i hi
  have hs : ∀ j, j < cs.length → (W.cell? ⟨g, i * 395 + 1 + j, none⟩).isSome = true := fun j hj => by rw [show i * 395 + 1 + j = i * 395 + (1 + j) by omega]; exact hx.isThere _ (by omega)
  have hl : (cs.map (Value.int .u8)).length = cs.length := by simp
  have key : ∀ m, m ≠ i * 395 + 105 → (m < i * 395 + 1 ∨ i * 395 + 1 + cs.length ≤ m) → ((W.setCells g (i * 395 + 1) (cs.map (Value.int .u8))).setCell ⟨g, i * 395 + 105, none⟩ (.int .i64 (cs.length : Int))).cell? ⟨g, m, none⟩ = W.cell? ⟨g, m, none⟩ := fun m h1 h2 => by
    rw [setCell_out h1, setCells_out (by rw [hl]; exact h2)]
  refine H.turn i ((But.cells g (cs.map (Value.int .u8)) _ W).cellb _ _) (fun m => (World.frozen?_setCell ..).trans (World.frozen?_setCells ..)) (fun m hm => by
    have e1 : m ≠ i * 395 + 105 := by omega
    exact key m e1 (by generalize i * 395 = o at *; omega)) (fun _ => ⟨?_, ?_, ?_, ?_, ?_, hk, hx.dle⟩)
  · exact (key _ (by omega) (by omega)).trans hx.refs
  · exact World.cell?_setCell_same' _ _ _ (by rw [setCells_out (by rw [hl]; omega), hx.hl]; rfl)
  · exact (key _ (by omega) (by omega)).trans hx.dl
  · intro j hj
    by_cases e2 : j < cs.length
    · exact ⟨cs[j]?.getD 0, by rw [setCell_out (by omega)]; exact setCells_get hs j e2, fun _ => rfl⟩
    · obtain ⟨y, hy, e⟩ := hx.h j hj
      exact ⟨y, (key _ (by omega) (by omega)).trans hy, fun h => absurd h e2⟩
  · intro j hj; obtain ⟨y, hy, e⟩ := hx.d j hj; exact ⟨y, (key _ (by omega) (by omega)).trans hy, e⟩

/-- the head is gone -/
theorem PoolAt.noHead {W : World} {b g n : Nat} {B : Nat → Buf} (H : PoolAt W b g n B) (i : Nat) (hi : i < n) : PoolAt (W.setCell ⟨g, i * 395 + 105, none⟩ (.int .i64 0)) b g n (upd B i { B i with head := [] }) :=
  H.layHead i hi [] (by simp)

/-- a buffer is laid whole -/
theorem PoolAt.anew {W : World} {b g n : Nat} {B : Nat → Buf} (H : PoolAt W b g n B) (i : Nat) (hi : i < n) (cs : List Value) (hl : cs.length = 395) (hc : ∀ k, k < 395 → cs[k]? = some (if k = 0 then .int .i64 1 else pzc k)) :
    PoolAt (W.setCells g (i * 395) cs) b g n (upd B i ⟨1, [], []⟩) := by
  have hx := H.buf i hi
  refine H.turn i (But.cells g _ _ _) (fun k => by rw [World.frozen?_setCells]) (fun m hm => setCells_out (by omega)) (fun _ => BufAt.fresh 1 fun k hk => ?_)
  have := World.cell?_setCells_in g cs (i * 395) W (fun j hj => hx.isThere j (by omega)) k (by omega)
  rw [this, ← List.getElem?_eq_getElem, hc k hk]; rfl

/-- the bytes that a buffer holds, as slices of it -/
theorem PoolAt.isHead {W : World} {b g n : Nat} {B : Nat → Buf} (H : PoolAt W b g n B) (i : Nat) (hi : i < n) (A : Nat → Prop) (hA : ¬ A g) : IsF A W (.slice (some ⟨g, i * 395 + 1, none⟩) (B i).head.length 104) (B i).head := by
  have hx := H.buf i hi
  refine ⟨_, _, rfl, hx.hle, (fun e => by cases e), fun _ => ⟨g, i * 395 + 1, rfl, H.glt, hA, fun j hj => ?_⟩⟩
  obtain ⟨y, hy, e⟩ := hx.h j (by have := hx.hle; omega)
  rw [hy, e hj]
theorem PoolAt.isData {W : World} {b g n : Nat} {B : Nat → Buf} (H : PoolAt W b g n B) (i : Nat) (hi : i < n) (A : Nat → Prop) (hA : ¬ A g) : IsF A W (.slice (some ⟨g, i * 395 + 106, none⟩) (B i).data.length 288) (B i).data := by
  have hx := H.buf i hi
  refine ⟨_, _, rfl, hx.dle, (fun e => by cases e), fun _ => ⟨g, i * 395 + 106, rfl, H.glt, hA, fun j hj => ?_⟩⟩
  obtain ⟨y, hy, e⟩ := hx.d j (by have := hx.dle; omega)
  rw [hy, e hj]

/-- copy into cells of a block that are there and not frozen, as a run -/
theorem copy_run {A : Nat → Prop} {w : World} (dp : Option Addr) (dLen dCap : Nat) (sv : Value) (bs : List Int) (hsv : IsF A w sv bs) (g off : Nat) (hdp : 0 < bs.length → dp = some ⟨g, off, none⟩) (hle : bs.length ≤ dLen)
    (hc : ∀ j, j < bs.length → (w.cell? ⟨g, off + j, none⟩).isSome = true) (hf : ∀ k, w.frozen? ⟨g, k, none⟩ = false) :
    (Builtin.copy_ #[27, 27] 3 #[.slice dp dLen dCap, sv]).run Try.prog w = .ok (.int .i64 (bs.length : Int)) (w.setCells g off (bs.map (Value.int .u8))) := by
  obtain ⟨a, cap, rfl, hlc, hn, hcs⟩ := hsv
  by_cases h0 : bs.length = 0
  · obtain rfl : bs = [] := List.eq_nil_of_length_eq_zero h0
    exact run_copy_none (P := Try.prog) w 27 27 3 5 dp a dLen dCap _ cap Try.underlying27 size_u8 (Nat.zero_min _)
  · obtain rfl := hdp (by omega)
    obtain ⟨b, o, rfl, _, _, hcell⟩ := hcs (by omega)
    have := run_copy_cells (P := Try.prog) w 27 27 3 5 g off dLen dCap ⟨b, o, none⟩ bs.length cap (bs.map (Value.int .u8)) Try.underlying27 size_u8 (by rw [List.length_map]; exact (Nat.min_eq_left hle).symm)
      (fun j v hv => by
        have hj : j < bs.length := by have := (List.getElem?_eq_some_iff.1 hv).1; simpa using this
        rw [Addr.add_lit, hcell j hj]
        simp only [List.getElem?_map, List.getElem?_eq_getElem hj, Option.map_some, Option.some.injEq] at hv
        simp [List.getElem?_eq_getElem hj, hv]) (by simpa using hc) (fun j _ => hf _) (ints_one _)
    rw [this]
    simp [goInt]

end Go.Proofs.Ytjkfjijnjkpbbaa
