
/-
  A list of calls that came in; a call that was laid into memory of one's own.
-/
import Derived.Test.YtkadapjcnonbiaaPAwake
namespace Go.Proofs.Ytkadapjcnonbiaa
open Go.RowKit

/-- a call -/
structure OpV where
  kind : Int
  id : Int
  a : Int
  b : Int
  dv : Value
  ds : List Int

/-- THE SLICE VALUE v HOLDS THE CALLS l, all of it below n₀ -/
def IsO (n₀ : Nat) (W : World) (v : Value) (l : List OpV) : Prop :=
  ∃ a cap, v = .slice a l.length cap ∧ (0 < l.length → ∃ g off, a = some ⟨g, off, none⟩ ∧ g < n₀ ∧ ∀ i o, l[i]? = some o →
      W.cell? ⟨g, off + i * 5, none⟩ = some (.int .i64 o.kind) ∧ W.cell? ⟨g, off + i * 5 + 1, none⟩ = some (.int .i64 o.id) ∧ W.cell? ⟨g, off + i * 5 + 2, none⟩ = some (.int .i64 o.a) ∧ W.cell? ⟨g, off + i * 5 + 3, none⟩ = some (.int .i64 o.b) ∧ W.cell? ⟨g, off + i * 5 + 4, none⟩ = some o.dv) ∧
    ∀ o ∈ l, IsF (fun g => n₀ ≤ g) W o.dv o.ds ∧ o.ds.length ≤ 140737488351232

theorem IsF.below {n₀ : Nat} {W W' : World} {v : Value} {bs : List Int} (h : IsF (fun g => n₀ ≤ g) W v bs) (hb : Below n₀ W W') : IsF (fun g => n₀ ≤ g) W' v bs := by
  obtain ⟨a, cap, e, hl, hn, hc⟩ := h
  refine ⟨a, cap, e, hl, hn, fun h0 => ?_⟩
  obtain ⟨b, off, e1, hb1, ha, hcs⟩ := hc h0
  exact ⟨b, off, e1, Nat.lt_of_lt_of_le hb1 hb.size, ha, fun j hj => (hb.cell (p := ⟨b, off + j, none⟩) (by simp at ha; exact ha)).trans (hcs j hj)⟩
theorem IsO.below {n₀ : Nat} {W W' : World} {v : Value} {l : List OpV} (h : IsO n₀ W v l) (hb : Below n₀ W W') : IsO n₀ W' v l := by
  obtain ⟨a, cap, e, hc, hf⟩ := h
  refine ⟨a, cap, e, fun h0 => ?_, fun o ho => ⟨(hf o ho).1.below hb, (hf o ho).2⟩⟩
  obtain ⟨g, off, e1, hg, hcs⟩ := hc h0
  have key : ∀ k, W'.cell? ⟨g, k, none⟩ = W.cell? ⟨g, k, none⟩ := fun k => hb.cell (p := ⟨g, k, none⟩) hg
  refine ⟨g, off, e1, hg, fun i o hi => ?_⟩
  obtain ⟨q0, q1, q2, q3, q4⟩ := hcs i o hi
  exact ⟨(key _).trans q0, (key _).trans q1, (key _).trans q2, (key _).trans q3, (key _).trans q4⟩

/-- THE SLICE VALUE v HOLDS THE PARTS l, all of it below n₀ -/
def IsL (n₀ : Nat) (W : World) (v : Value) (l : List (Value × List Int)) : Prop :=
  ∃ a cap, v = .slice a l.length cap ∧ (0 < l.length → ∃ g off, a = some ⟨g, off, none⟩ ∧ g < n₀ ∧ ∀ i o, l[i]? = some o → W.cell? ⟨g, off + i, none⟩ = some o.1) ∧
    ∀ o ∈ l, IsF (fun g => n₀ ≤ g) W o.1 o.2 ∧ o.2.length ≤ 140737488351232
theorem IsL.below {n₀ : Nat} {W W' : World} {v : Value} {l : List (Value × List Int)} (h : IsL n₀ W v l) (hb : Below n₀ W W') : IsL n₀ W' v l := by
  obtain ⟨a, cap, e, hc, hf⟩ := h
  refine ⟨a, cap, e, fun h0 => ?_, fun o ho => ⟨(hf o ho).1.below hb, (hf o ho).2⟩⟩
  obtain ⟨g, off, e1, hg, hcs⟩ := hc h0
  exact ⟨g, off, e1, hg, fun i o hi => (hb.cell (p := ⟨g, off + i, none⟩) hg).trans (hcs i o hi)⟩

/-- the five cells of a call -/
structure Five (W : World) (s : Nat) (k id a b : Int) (dv : Value) : Prop where
  c0 : W.cell? ⟨s, 0, none⟩ = some (.int .i64 k)
  c1 : W.cell? ⟨s, 1, none⟩ = some (.int .i64 id)
  c2 : W.cell? ⟨s, 2, none⟩ = some (.int .i64 a)
  c3 : W.cell? ⟨s, 3, none⟩ = some (.int .i64 b)
  c4 : W.cell? ⟨s, 4, none⟩ = some dv
theorem Five.lt {W : World} {s : Nat} {k id a b : Int} {dv : Value} (h : Five W s k id a b dv) : s < W.heap.size := World.block_lt_of_cell? W _ h.c0
theorem Five.but {W W' : World} {s : Nat} {k id a b : Int} {dv : Value} {K : Nat → Prop} (h : Five W s k id a b dv) (hb : But K W W') (hk : ¬ K s) : Five W' s k id a b dv :=
  ⟨(hb.cell (p := ⟨s, 0, none⟩) h.lt hk).trans h.c0, (hb.cell (p := ⟨s, 1, none⟩) h.lt hk).trans h.c1, (hb.cell (p := ⟨s, 2, none⟩) h.lt hk).trans h.c2, (hb.cell (p := ⟨s, 3, none⟩) h.lt hk).trans h.c3, (hb.cell (p := ⟨s, 4, none⟩) h.lt hk).trans h.c4⟩
theorem Five.new (w : World) (k id a b : Int) (dv : Value) (t : TypeId) : Five (w.alloc (.cells #[.int .i64 k, .int .i64 id, .int .i64 a, .int .i64 b, dv] t)) w.heap.size k id a b dv := by
  have hc : ∀ i v, (#[Value.int .i64 k, .int .i64 id, .int .i64 a, .int .i64 b, dv] : Array Value)[i]? = some v → (w.alloc (.cells #[.int .i64 k, .int .i64 id, .int .i64 a, .int .i64 b, dv] t)).cell? ⟨w.heap.size, i, none⟩ = some v := fun i v h => by
    rw [cell_of_row _ w.heap.size i _ t (0, 0) (heap_alloc_new w _)]; exact h
  exact ⟨hc 0 _ rfl, hc 1 _ rfl, hc 2 _ rfl, hc 3 _ rfl, hc 4 _ rfl⟩

/-- numbers of one's own -/
structure Nums (W : World) (g n : Nat) (R : Nat → Int) : Prop where
  c : ∀ k, k < n → W.cell? ⟨g, k, none⟩ = some (.int .i64 (R k))
  f : ∀ k, W.frozen? ⟨g, k, none⟩ = false
  lt : g < W.heap.size
theorem Nums.but {W W' : World} {g n : Nat} {R : Nat → Int} {K : Nat → Prop} (h : Nums W g n R) (hb : But K W W') (hk : ¬ K g) : Nums W' g n R :=
  ⟨fun k hkn => (hb.cell (p := ⟨g, k, none⟩) h.lt hk).trans (h.c k hkn), fun k => (hb.frozen (p := ⟨g, k, none⟩) h.lt hk).trans (h.f k), Nat.lt_of_lt_of_le h.lt hb.size⟩
theorem Nums.set {W : World} {g n : Nat} {R : Nat → Int} (h : Nums W g n R) (k : Nat) (hk : k < n) (x : Int) : Nums (W.setCell ⟨g, k, none⟩ (.int .i64 x)) g n (upd R k x) := by
  refine ⟨fun j hj => ?_, fun j => by rw [World.frozen?_setCell]; exact h.f j, by simpa [World.setCell] using h.lt⟩
  by_cases e : j = k
  · subst e; rw [upd_same]; exact World.cell?_setCell_same' _ _ _ (by rw [h.c j hj]; rfl)
  · rw [upd_other _ _ _ _ e, setCell_out e]; exact h.c j hj

/-- of the buffers as numbers -/
def nums (B : Nat → Buf) : Nat → Int := fun k => ((B k).refs : Int)
theorem nums_upd (B : Nat → Buf) (k : Nat) (x : Buf) : nums (upd B k x) = upd (nums B) k (x.refs : Int) := by
  funext i
  unfold nums
  by_cases e : i = k
  · subst e; rw [upd_same, upd_same]
  · rw [upd_other _ _ _ _ e, upd_other _ _ _ _ e]
theorem lft_none {B : Nat → Buf} : ∀ {n : Nat}, (∀ j, j < n → (B j).refs ≠ 0) → lft B n = 0
  | 0, _ => rfl
  | n + 1, h => by
    unfold lft
    rw [lft_none (fun j hj => h j (by omega)), if_neg (h n (by omega))]

/-- nobody has more than m holders -/
def Most (B : Nat → Buf) (m : Nat) : Prop := ∀ k, (B k).refs ≤ m
theorem Most.upd {B : Nat → Buf} {m : Nat} (h : Most B m) {k : Nat} {x : Buf} (hx : x.refs ≤ m + 1) : Most (upd B k x) (m + 1) := fun j => by
  by_cases e : j = k
  · subst e; rw [upd_same]; exact hx
  · rw [upd_other _ _ _ _ e]; have := h j; omega
theorem Most.more {B : Nat → Buf} {m : Nat} (h : Most B m) : Most B (m + 1) := fun j => by have := h j; omega
theorem Most.ho {B : Nat → Buf} {n m : Nat} (h : Most B m) (id : Int) : Most (hoB n B id) (m + 1) := by
  unfold hoB; split
  · exact h.upd (by show _ + 1 ≤ _; have := h id.toNat; omega)
  · exact h.more
theorem Most.fr {B : Nat → Buf} {n m : Nat} (h : Most B m) (id : Int) : Most (frB n B id) (m + 1) := by
  unfold frB; split
  · exact h.upd (by show _ - 1 ≤ _; have := h id.toNat; omega)
  · exact h.more
theorem Most.st {B : Nat → Buf} {n m : Nat} (h : Most B m) (id : Int) (bs : List Int) : Most (stB n B id bs) (m + 1) := by
  unfold stB; split
  · exact h.upd (by have := h id.toNat; show (B id.toNat).refs ≤ _; omega)
  · exact h.more
theorem Most.ap {B : Nat → Buf} {n m : Nat} (h : Most B m) (id : Int) (bs : List Int) : Most (apB n B id bs) (m + 1) := by
  unfold apB; split
  · exact h.upd (by have := h id.toNat; show (B id.toNat).refs ≤ _; omega)
  · exact h.more
theorem Most.fo {B : Nat → Buf} {n m : Nat} (h : Most B m) (id : Int) (bs : List Int) : Most (foB n B id bs) (m + 1) := by
  unfold foB; split
  · exact h.upd (by have := h id.toNat; show (B id.toNat).refs ≤ _; omega)
  · exact h.more
theorem Most.tr {B : Nat → Buf} {n m : Nat} (h : Most B m) (id f k : Int) : Most (trB n B id f k) (m + 1) := by
  unfold trB; split
  · exact h.upd (by have := h id.toNat; show (B id.toNat).refs ≤ _; omega)
  · exact h.more
/-- what changes bytes alone changes no holders -/
theorem st_refs {n : Nat} {B : Nat → Buf} (id : Int) (bs : List Int) (k : Nat) : (stB n B id bs k).refs = (B k).refs := by
  unfold stB; split
  · by_cases e : k = id.toNat
    · subst e; rw [upd_same]
    · rw [upd_other _ _ _ _ e]
  · rfl
theorem ap_refs {n : Nat} {B : Nat → Buf} (id : Int) (bs : List Int) (k : Nat) : (apB n B id bs k).refs = (B k).refs := by
  unfold apB; split
  · by_cases e : k = id.toNat
    · subst e; rw [upd_same]
    · rw [upd_other _ _ _ _ e]
  · rfl
theorem fo_refs {n : Nat} {B : Nat → Buf} (id : Int) (bs : List Int) (k : Nat) : (foB n B id bs k).refs = (B k).refs := by
  unfold foB; split
  · by_cases e : k = id.toNat
    · subst e; rw [upd_same]
    · rw [upd_other _ _ _ _ e]
  · rfl
theorem tr_refs {n : Nat} {B : Nat → Buf} (id f g : Int) (k : Nat) : (trB n B id f g k).refs = (B k).refs := by
  unfold trB; split
  · by_cases e : k = id.toNat
    · subst e; rw [upd_same]
    · rw [upd_other _ _ _ _ e]
  · rfl
theorem nums_eq {B C : Nat → Buf} (h : ∀ k, (C k).refs = (B k).refs) : nums C = nums B := by
  funext k; unfold nums; rw [h k]

theorem info_i64 : (Try.prog.info? 3).map (fun i => (i.zero, i.size, i.bytes)) = some (some (.int .i64 0), 1, 8) := by kernel_rfl

end Go.Proofs.Ytkadapjcnonbiaa
