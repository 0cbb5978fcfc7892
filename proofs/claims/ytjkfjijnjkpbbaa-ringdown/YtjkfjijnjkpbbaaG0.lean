
/-
  A ring in memory: two sides of sixteen places; next, put.
-/
import Derived.Test.YtjkfjijnjkpbbaaK6
namespace Go.Proofs.Ytjkfjijnjkpbbaa
open Go.RowKit

/-- one side: the first place that has a buffer, the buffers from there on -/
structure Sd where
  first : Nat
  ids : List Int
def Sd.nx (s : Sd) : Nat := (s.first + s.ids.length) % 16
def Sd.put (s : Sd) (id : Int) : Sd := ⟨s.first, s.ids ++ [id]⟩
def Sd.cut (s : Sd) (j : Nat) : Sd := ⟨(s.first + j) % 16, s.ids.drop j⟩

/-- a side's 18 cells, from cell o of block r on -/
structure SdAt (W : World) (r o : Nat) (s : Sd) : Prop where
  f16 : s.first < 16
  m15 : s.ids.length ≤ 15
  first : W.cell? ⟨r, o + 16, none⟩ = some (.int .i64 (s.first : Int))
  many : W.cell? ⟨r, o + 17, none⟩ = some (.int .i64 (s.ids.length : Int))
  cells : ∀ i, i < 16 → ∃ x, W.cell? ⟨r, o + i, none⟩ = some (.int .i64 x)
  ids : ∀ k, k < s.ids.length → W.cell? ⟨r, o + (s.first + k) % 16, none⟩ = some (.int .i64 (s.ids[k]?.getD 0))

theorem SdAt.lt {W : World} {r o : Nat} {s : Sd} (h : SdAt W r o s) : r < W.heap.size := World.block_lt_of_cell? W _ h.first
theorem SdAt.keep {W W' : World} {r o : Nat} {s : Sd} (h : SdAt W r o s) (hc : ∀ k, k < 18 → W'.cell? ⟨r, o + k, none⟩ = W.cell? ⟨r, o + k, none⟩) : SdAt W' r o s :=
  ⟨h.f16, h.m15, (hc 16 (by omega)).trans h.first, (hc 17 (by omega)).trans h.many, fun i hi => by obtain ⟨x, e⟩ := h.cells i hi; exact ⟨x, (hc i (by omega)).trans e⟩, fun k hk => (hc _ (by omega)).trans (h.ids k hk)⟩
theorem SdAt.but {K : Nat → Prop} {W W' : World} {r o : Nat} {s : Sd} (h : SdAt W r o s) (hb : But K W W') (hk : ¬ K r) : SdAt W' r o s :=
  h.keep (fun k _ => hb.cell (p := ⟨r, o + k, none⟩) h.lt hk)
theorem SdAt.far {W : World} {r o : Nat} {s : Sd} (h : SdAt W r o s) {k : Nat} {v : Value} (hk : k < o ∨ o + 18 ≤ k) : SdAt (W.setCell ⟨r, k, none⟩ v) r o s :=
  h.keep (fun _ _ => setCell_out (by omega))

/-- the place behind the last one takes a buffer -/
theorem SdAt.lay {W : World} {r o : Nat} {s : Sd} (h : SdAt W r o s) (hl : s.ids.length < 15) (id : Int) : SdAt ((W.setCell ⟨r, o + s.nx, none⟩ (.int .i64 id)).setCell ⟨r, o + 17, none⟩ (.int .i64 ((s.ids.length : Int) + 1))) r o (s.put id) := by
  have hn : s.nx < 16 := Nat.mod_lt _ (by omega)
  have key : ∀ k, k < 17 → k ≠ s.nx → ((W.setCell ⟨r, o + s.nx, none⟩ (.int .i64 id)).setCell ⟨r, o + 17, none⟩ (.int .i64 ((s.ids.length : Int) + 1))).cell? ⟨r, o + k, none⟩ = W.cell? ⟨r, o + k, none⟩ := fun k h1 h2 => by rw [setCell_out (by omega), setCell_out (by omega)]
  have same : ((W.setCell ⟨r, o + s.nx, none⟩ (.int .i64 id)).setCell ⟨r, o + 17, none⟩ (.int .i64 ((s.ids.length : Int) + 1))).cell? ⟨r, o + s.nx, none⟩ = some (.int .i64 id) := by
    rw [setCell_out (by omega)]
    obtain ⟨x, e⟩ := h.cells s.nx hn
    exact World.cell?_setCell_same' _ _ _ (by rw [e]; rfl)
  refine ⟨h.f16, by simp [Sd.put]; omega, (key 16 (by omega) (by omega)).trans h.first, ?_, fun i hi => ?_, fun k hk => ?_⟩
  · rw [World.cell?_setCell_same' _ _ _ (by rw [setCell_out (by omega), h.many]; rfl)]
    simp [Sd.put]
  · by_cases e : i = s.nx
    · exact ⟨id, e ▸ same⟩
    · obtain ⟨x, e1⟩ := h.cells i hi
      exact ⟨x, (key i (by omega) e).trans e1⟩
  · have hk : k < s.ids.length + 1 := by simpa [Sd.put] using hk
    show ((W.setCell _ _).setCell _ _).cell? ⟨r, o + (s.first + k) % 16, none⟩ = _
    by_cases e : k = s.ids.length
    · subst e
      rw [show (s.first + s.ids.length) % 16 = s.nx from rfl, same]
      simp [Sd.put]
    · have hf := h.f16
      rw [key _ (by omega) (by unfold Sd.nx; omega), h.ids k (by omega)]
      simp [Sd.put, List.getElem?_append_left (show k < s.ids.length by omega)]

/-- some places are left -/
theorem SdAt.left {W : World} {r o : Nat} {s : Sd} (h : SdAt W r o s) (j : Nat) (hj : j ≤ s.ids.length) : SdAt ((W.setCell ⟨r, o + 16, none⟩ (.int .i64 (((s.first + j) % 16 : Nat) : Int))).setCell ⟨r, o + 17, none⟩ (.int .i64 ((s.ids.length - j : Nat) : Int))) r o (s.cut j) := by
  have key : ∀ k, k < 16 → ((W.setCell ⟨r, o + 16, none⟩ (.int .i64 (((s.first + j) % 16 : Nat) : Int))).setCell ⟨r, o + 17, none⟩ (.int .i64 ((s.ids.length - j : Nat) : Int))).cell? ⟨r, o + k, none⟩ = W.cell? ⟨r, o + k, none⟩ := fun k h1 => by rw [setCell_out (by omega), setCell_out (by omega)]
  have hf := h.f16
  have hm := h.m15
  refine ⟨by show (s.first + j) % 16 < 16; omega, by simp [Sd.cut]; omega, ?_, ?_, fun i hi => ?_, fun k hk => ?_⟩
  · rw [setCell_out (by omega)]
    exact World.cell?_setCell_same' _ _ _ (by rw [h.first]; rfl)
  · rw [World.cell?_setCell_same' _ _ _ (by rw [setCell_out (by omega), h.many]; rfl)]
    simp [Sd.cut]
  · obtain ⟨x, e1⟩ := h.cells i hi
    exact ⟨x, (key i (by omega)).trans e1⟩
  · have hk : k < s.ids.length - j := by simpa [Sd.cut] using hk
    show ((W.setCell _ _).setCell _ _).cell? ⟨r, o + ((s.first + j) % 16 + k) % 16, none⟩ = _
    rw [key _ (by omega), show ((s.first + j) % 16 + k) % 16 = (s.first + (j + k)) % 16 by omega, h.ids (j + k) (by omega)]
    simp [Sd.cut]

/-- of the blocks that were there r alone has turned, and of r's cells those of the side at o alone -/
structure Far (r o : Nat) (w w' : World) : Prop where
  but : But (Only r) w w'
  out : ∀ k, k < o ∨ o + 18 ≤ k → w'.cell? ⟨r, k, none⟩ = w.cell? ⟨r, k, none⟩
  fz : ∀ k, w'.frozen? ⟨r, k, none⟩ = w.frozen? ⟨r, k, none⟩
theorem Far.refl (r o : Nat) (w : World) : Far r o w w := ⟨But.refl _ _, fun _ _ => rfl, fun _ => rfl⟩
theorem Far.trans {r o : Nat} {a b c : World} (h : Far r o a b) (k : Far r o b c) : Far r o a c := ⟨h.but.trans k.but, fun i hi => (k.out i hi).trans (h.out i hi), fun i => (k.fz i).trans (h.fz i)⟩
theorem Far.of {r o : Nat} {w w' : World} {K : Nat → Prop} (hb : But K w w') (hK : ¬ K r) (hr : r < w.heap.size) (hKr : ∀ g, K g → g = r) : Far r o w w' :=
  ⟨hb.mono hKr, fun k _ => hb.cell (p := ⟨r, k, none⟩) hr hK, fun k => hb.frozen (p := ⟨r, k, none⟩) hr hK⟩
theorem Far.later {r o : Nat} {w w' : World} (hb : Below w.heap.size w w') (hr : r < w.heap.size) : Far r o w w' := Far.of (K := fun _ => False) (But.of_below hb) id hr (fun _ e => e.elim)
theorem Far.set {r o : Nat} {a w : World} (h : Far r o a w) {k : Nat} (hk : o ≤ k) (hk2 : k < o + 18) (v : Value) : Far r o a (w.setCell ⟨r, k, none⟩ v) :=
  ⟨h.but.cellb _ _, fun i hi => (setCell_out (by omega)).trans (h.out i hi), fun i => (World.frozen?_setCell ..).trans (h.fz i)⟩
theorem Far.drewN {r o : Nat} {a w : World} (h : Far r o a w) (n : Nat) : Far r o a (w.drewN n) := ⟨h.but.drewN n, h.out, h.fz⟩
theorem SdAt.drewN {W : World} {r o : Nat} {s : Sd} (h : SdAt W r o s) (n : Nat) : SdAt (W.drewN n) r o s := h.keep (fun _ _ => rfl)
theorem SdAt.drew {W : World} {r o : Nat} {s : Sd} (h : SdAt W r o s) : SdAt W.drew r o s := h.keep (fun _ _ => rfl)

set_option maxRecDepth 100000 in
theorem next_any {w : World} {r o : Nat} {s : Sd} (h : SdAt w r o s) : Calls Try.prog 52 #[.pointer (some ⟨r, o, none⟩)] w fun e w' => e = .returned (.int .i64 (s.nx : Int)) ∧ ∃ n, w' = w.drewN n := by
  have c1 := h.first
  have c2 := h.many
  have b1 := h.f16
  have b2 := h.m15
  have E : Hid (((s.first : Int) + (s.ids.length : Int)) % 16 = (s.nx : Int)) := by show _ = _; unfold Sd.nx; omega
  generalize s.nx = x at *
  generalize s.ids.length = m at *
  generalize s.first = f at *
  have z1 : (f : Int) < 16 := by omega
  have z2 : (m : Int) ≤ 15 := by omega
  clear h b1 b2
  go_enter Try.func52, Try.ntmps52
  go_wp2
  go_quiet (fail)
  go_wp2
  go_ret
  exact ⟨ret_int (by rw [← E.out]), _, rfl⟩

set_option maxRecDepth 100000 in
theorem put_any {w : World} {r o : Nat} {s : Sd} (h : SdAt w r o s) (hl : s.ids.length < 15) (hf : ∀ k, w.frozen? ⟨r, k, none⟩ = false) (id : Int) :
    Calls Try.prog 55 #[.pointer (some ⟨r, o, none⟩), .int .i64 id] w fun e w' => e = .returned (.tuple #[]) ∧ SdAt w' r o (s.put id) ∧ Far r o w w' := by
  have H := hide h
  have hn : s.nx < 16 := Nat.mod_lt _ (by omega)
  have z1 : (s.nx : Int) < 16 := by omega
  obtain ⟨y, cy⟩ := h.cells s.nx hn
  have cm := h.many
  have HL := hide hl
  have z2 : (s.ids.length : Int) < 15 := by omega
  have NE : Hid (o + 17 ≠ o + s.nx) := by unfold Hid; omega
  have XL : Hid (∀ n, SdAt (((w.drewN n).setCell ⟨r, o + s.nx, none⟩ (.int .i64 id)).setCell ⟨r, o + 17, none⟩ (.int .i64 ((s.ids.length : Int) + 1))) r o (s.put id)) := fun n => (h.drewN n).lay hl id
  have XF : Hid (∀ n, Far r o w (((w.drewN n).setCell ⟨r, o + s.nx, none⟩ (.int .i64 id)).setCell ⟨r, o + 17, none⟩ (.int .i64 ((s.ids.length : Int) + 1)))) := fun n => (((Far.refl r o w).drewN n).set (by omega) (by omega) _).set (by omega) (by omega) _
  generalize s.put id = s' at *
  generalize s.ids.length = m at *
  have ne := NE.out
  clear h hl
  go_enter Try.func55, Try.ntmps55
  go_upto_region 0 with fail
  go_cut [] (fun wc => Hid (∃ n, wc = (w.drewN n).setCell ⟨r, o + s.nx, none⟩ (.int .i64 id)))
  case first =>
    go_region_with (go_at_call 52; refine (next_any (H.out.drew)).mono ?_; rintro e w' ⟨rfl, n, rfl⟩)
    all_goals go_wp2
    all_goals go_meet
    all_goals exact ⟨_, rfl⟩
  case rest =>
    obtain ⟨n, hn⟩ := hcut.out
    subst hn
    have cm2 : ((w.drewN n).setCell ⟨r, o + s.nx, none⟩ (.int .i64 id)).cell? ⟨r, o + 17, none⟩ = some (.int .i64 (m : Int)) := by rw [setCell_out ne]; exact cm
    go_wp2
    go_end0
    exact ⟨rfl, XL.out n, XF.out n⟩
end Go.Proofs.Ytjkfjijnjkpbbaa
