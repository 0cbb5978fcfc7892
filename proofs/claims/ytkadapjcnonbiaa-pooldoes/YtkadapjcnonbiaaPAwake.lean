
/-
  The chapter's example (awake).
-/
import Derived.Test.YtkadapjcnonbiaaP6
namespace Go.Proofs.Ytkadapjcnonbiaa
open Go.RowKit

/-- the string of these bytes -/
def strB (bs : List Int) : ByteArray := bs.foldl (fun r n => r.push (UInt8.ofNat n.toNat)) ByteArray.empty

theorem conv_str {A : Nat → Prop} {W : World} {v : Value} {bs : List Int} (h : IsF A W v bs) : (convert 32 9 v).run Try.prog W = .ok (.string (strB bs)) W := by
  obtain ⟨a, cap, rfl, hl, hn, hc⟩ := h
  rw [run_convert_bytes_string (P := Try.prog) W 32 9 5 a bs.length cap Try.underlying32 Try.underlying5 Try.underlying9]
  cases a with
  | none =>
    have h0 := hn rfl
    have : bs = [] := List.eq_nil_of_length_eq_zero (by omega)
    subst this
    rfl
  | some ad =>
    refine run_bytesToString W ad bs.length cap bs ?_
    have := run_loadCells_list (P := Try.prog) W ad (bs.map (Value.int .u8)) (fun j v hv => by
      have hj : j < bs.length := by have := (List.getElem?_eq_some_iff.1 hv).1; simpa using this
      obtain ⟨b, off, e, _, _, hcs⟩ := hc (by omega)
      cases e
      rw [Addr.add_lit, hcs j hj]
      simp only [List.getElem?_map, List.getElem?_eq_getElem hj, Option.map_some, Option.some.injEq] at hv
      simp [List.getElem?_eq_getElem hj, hv])
    simpa using this

/-- bytes that were written out lie in a new block -/
theorem lit_F (w : World) (bs : List Int) (A : Nat → Prop) (hA : ¬ A w.heap.size) (fr : Nat × Nat) : IsF A (w.alloc (.cells (bs.map (Value.int .u8)).toArray 5 fr)) (.slice (some ⟨w.heap.size, 0, none⟩) bs.length bs.length) bs := by
  refine ⟨_, _, rfl, Nat.le_refl _, (fun e => by cases e), fun _ => ⟨w.heap.size, 0, rfl, by simp, hA, fun j hj => ?_⟩⟩
  rw [Nat.zero_add, cell_of_row _ w.heap.size j _ 5 fr (heap_alloc_new w _)]
  simp [hj]

theorem conv_same (w : World) (C : Array Value) (n c : Nat) : (convert 32 32 (.slice (some ⟨w.heap.size, 0, none⟩) n c)).run Try.prog (w.alloc (.cells C 5)) = .ok (.slice (some ⟨w.heap.size, 0, none⟩) n c) (w.alloc (.cells C 5 (C.size, C.size + 1))) :=
  Lib.run_convert_bytes_const w _ _ C n c Try.underlying32 Try.underlying5

def a1 : Nat → Buf := upd none4 0 ⟨1, [], []⟩
def a2 : Nat → Buf := upd a1 1 ⟨1, [], []⟩
theorem a1_ne (j : Nat) (hj : j < 1) : (a1 j).refs ≠ 0 := by
  have e : j = 0 := by omega
  rw [e]; decide
theorem a2_ne (j : Nat) (hj : j < 2) : (a2 j).refs ≠ 0 := by
  have e : j = 0 ∨ j = 1 := by omega
  rcases e with e | e
  · rw [e]; decide
  · rw [e]; decide
def a3 : Nat → Buf := stB 2 a2 0 [97, 98, 99]
def a4 : Nat → Buf := foB 2 a3 0 [104]
def a5 : Nat → Buf := trB 2 a4 0 1 1
def a6 : Nat → Buf := hoB 2 a5 0
def a7 : Nat → Buf := frB 2 a6 0
def a8 : Nat → Buf := frB 2 a7 0

/-- three cells of a struct that holds a See's answer -/
structure Tell (W : World) (s : Nat) (r : Int) (hv dv : Value) : Prop where
  c0 : W.cell? ⟨s, 0, none⟩ = some (.int .i64 r)
  c1 : W.cell? ⟨s, 1, none⟩ = some hv
  c2 : W.cell? ⟨s, 2, none⟩ = some dv
  f : ∀ k, W.frozen? ⟨s, k, none⟩ = false
theorem Tell.lt {W : World} {s : Nat} {r : Int} {hv dv : Value} (h : Tell W s r hv dv) : s < W.heap.size := World.block_lt_of_cell? W _ h.c0
theorem Tell.but {W W' : World} {s : Nat} {r : Int} {hv dv : Value} {K : Nat → Prop} (h : Tell W s r hv dv) (hb : But K W W') (hk : ¬ K s) : Tell W' s r hv dv :=
  ⟨(hb.cell (p := ⟨s, 0, none⟩) h.lt hk).trans h.c0, (hb.cell (p := ⟨s, 1, none⟩) h.lt hk).trans h.c1, (hb.cell (p := ⟨s, 2, none⟩) h.lt hk).trans h.c2, fun k => (hb.frozen (p := ⟨s, k, none⟩) h.lt hk).trans (h.f k)⟩
theorem Tell.new (w : World) (r : Int) (hv dv : Value) (t : TypeId) : Tell (w.alloc (.cells #[.int .i64 r, hv, dv] t)) w.heap.size r hv dv := by
  have hc : ∀ i v, (#[Value.int .i64 r, hv, dv] : Array Value)[i]? = some v → (w.alloc (.cells #[.int .i64 r, hv, dv] t)).cell? ⟨w.heap.size, i, none⟩ = some v := fun i v h => by
    rw [cell_of_row _ w.heap.size i _ t (0, 0) (heap_alloc_new w _)]; exact h
  refine ⟨hc 0 _ rfl, hc 1 _ rfl, hc 2 _ rfl, fun k => ?_⟩
  unfold World.frozen?
  rw [heap_alloc_new w]
  simp

theorem IsF.alloc {A : Nat → Prop} {w : World} {v : Value} {bs : List Int} (h : IsF A w v bs) (o : Obj) : IsF A (w.alloc o) v bs := h.but (K := fun _ => False) ((But.refl _ _).alloc o) (fun _ e => e.elim)

set_option maxRecDepth 100000 in
set_option maxHeartbeats 4000000 in
theorem awake_any (w : World) : Calls Try.prog 7 #[] w fun e w' => e = .returned (.bool true) ∧ Below w.heap.size w w' := by
  have cv := conv_same
  go_enter Try.func7, Try.ntmps7
  go_wp2_with fail
  refine (show Calls Try.prog 8 #[.int .i64 2] w _ from New_yes w 2 (by omega) (by omega)).mono ?_
  rintro e w1 ⟨b, rfl, p1, hb1, hgb⟩
  obtain ⟨g, hg⟩ : ∃ g, g = w.heap.size := ⟨_, rfl⟩
  rw [← hg] at p1 hgb
  have P1 := hide p1
  have B1 := hide hb1
  have HG := hide hg
  clear p1 hb1 hg
  go_wp2_with fail
  refine (show Calls Try.prog 15 #[.pointer (some ⟨b, 0, none⟩)] w1 (fun e w' => e = .returned (.tuple #[.int .i64 0, .int .i64 0]) ∧ PoolAt w' b g 2 a1 ∧ But (Only g) w1 w') from Get_yes P1.out 0 (by omega) rfl (fun j hj => absurd hj (Nat.not_lt_zero _))).mono ?_
  rintro e w2 ⟨rfl, p2, b2⟩
  have P2 := hide p2
  have B2 := hide b2
  clear p2 b2 P1
  go_wp2_with fail
  refine (show Calls Try.prog 15 #[.pointer (some ⟨b, 0, none⟩)] w2 (fun e w' => e = .returned (.tuple #[.int .i64 1, .int .i64 0]) ∧ PoolAt w' b g 2 a2 ∧ But (Only g) w2 w') from Get_yes P2.out 1 (by omega) rfl a1_ne).mono ?_
  rintro e w3 ⟨rfl, p3, b3⟩
  have P3 := hide p3
  have B3 := hide (B2.out.trans b3)
  clear p3 b3 P2 B2
  go_wp2_with fail
  refine (Get_no P3.out a2_ne).mono ?_
  rintro e w4 ⟨rfl, rfl⟩
  go_wp2_with fail
  refine (Set_any (A := fun _ => False) (P3.out.al _) 0 _ [97, 98, 99] (lit_F w4 [97, 98, 99] _ id _)).mono ?_
  rintro e w5 ⟨rfl, p5, b5⟩
  rw [show stE 2 a2 0 [97, 98, 99] = 0 from by decide]
  have P5 : Hid (PoolAt w5 b g 2 a3) := p5
  have B5 := hide ((B3.out.alloc _).trans b5)
  clear p5 b5 P3 B3
  go_wp2_with fail
  refine (Front_any (A := fun _ => False) (P5.out.al _) 0 _ [104] (lit_F w5 [104] _ id _)).mono ?_
  rintro e w6 ⟨rfl, p6, b6⟩
  rw [show foE 2 a3 0 [104] = 0 from by decide]
  have P6 : Hid (PoolAt w6 b g 2 a4) := p6
  have B6 := hide ((B5.out.alloc _).trans b6)
  clear p6 b6 P5 B5
  go_wp2_with fail
  refine (Trim_any P6.out 0 1 1).mono ?_
  rintro e w7 ⟨rfl, p7, b7⟩
  rw [show trE 2 a4 0 1 1 = 0 from by decide]
  have P7 : Hid (PoolAt w7 b g 2 a5) := p7
  have B7 := hide (B6.out.trans b7)
  clear p7 b7 P6 B6
  have S := See_any P7.out 0
  rw [show seX 2 a5 0 = ⟨1, [104], [98]⟩ from rfl, show hoE 2 a5 0 = 0 from by decide] at S
  have HS := hide S
  clear S
  go_wp2_with fail
  refine HS.out.mono ?_
  rintro e w8 ⟨ha, hc, da, dc, rfl, sn, b8⟩
  simp only [List.length_cons, List.length_nil, Nat.zero_add] at sn ⊢
  have G8 := P7.out.glt
  have P8 := hide (P7.out.later b8)
  have hh : IsF (Only g) w8 (.slice ha 1 hc) [104] := sn.h.isF (fun x hx e => by have e : x = g := e; omega)
  have hd : IsF (Only g) w8 (.slice da 1 dc) [98] := sn.d.isF (fun x hx e => by have e : x = g := e; omega)
  have HH := hide hh
  have HD := hide hd
  have Z8 := hide (Nat.lt_of_lt_of_le G8 b8.size)
  have B8 := hide (B7.out.trans (But.of_below b8))
  clear sn b8 hh hd HS B7 P7 G8
  have T8 := hide (Tell.new w8 1 (.slice ha 1 hc) (.slice da 1 dc) 43)
  have P9 := hide (P8.out.al (.cells #[.int .i64 1, .slice ha 1 hc, .slice da 1 dc] 43))
  have B9 := hide (B8.out.alloc (.cells #[.int .i64 1, .slice ha 1 hc, .slice da 1 dc] 43))
  have HH9 := hide (HH.out.alloc (.cells #[.int .i64 1, .slice ha 1 hc, .slice da 1 dc] 43))
  have HD9 := hide (HD.out.alloc (.cells #[.int .i64 1, .slice ha 1 hc, .slice da 1 dc] 43))
  have NE : Hid (¬ Only g w8.heap.size) := fun e => by have e : w8.heap.size = g := e; have := Z8.out; omega
  clear P8 B8 HH HD Z8
  go_wp2_with fail
  obtain ⟨s, hs⟩ : ∃ s, s = w8.heap.size := ⟨_, rfl⟩
  rw [← hs] at T8 NE ⊢
  clear hs
  generalize w8.alloc (.cells #[.int .i64 1, .slice ha 1 hc, .slice da 1 dc] 43) = w9 at *
  refine (Hold_any P9.out 0 (by decide)).mono ?_
  rintro e wA ⟨rfl, pA, bA⟩
  rw [show hoE 2 a5 0 = 0 from by decide]
  have PA : Hid (PoolAt wA b g 2 a6) := pA
  have BA := hide (B9.out.trans bA)
  have BX := hide bA
  clear pA bA P9 B9
  go_wp2_with fail
  refine (Set_any (A := fun _ => False) PA.out 0 _ [] (IsF.nil _ _)).mono ?_
  rintro e wB ⟨rfl, pB, bB⟩
  rw [show stE 2 a6 0 [] = 9 from by decide]
  have PB : Hid (PoolAt wB b g 2 a6) := pB
  have BB := hide (BA.out.trans bB)
  have BX2 := hide (BX.out.trans bB)
  clear pB bB PA BA BX
  go_wp2_with fail
  refine (Free_any PB.out 0 (by decide)).mono ?_
  rintro e wC ⟨rfl, pC, bC⟩
  rw [show hoE 2 a6 0 = 0 from by decide]
  have PC : Hid (PoolAt wC b g 2 a7) := pC
  have BC := hide (BB.out.trans bC)
  have BX3 := hide (BX2.out.trans bC)
  clear pC bC PB BB BX2
  go_wp2_with fail
  refine (Free_any PC.out 0 (by decide)).mono ?_
  rintro e wD ⟨rfl, pD, bD⟩
  rw [show hoE 2 a7 0 = 0 from by decide]
  have PD : Hid (PoolAt wD b g 2 a8) := pD
  have BD := hide (BC.out.trans bD)
  have BX4 := hide (BX3.out.trans bD)
  clear pD bD PC BC BX3
  go_wp2_with fail
  refine (See_no PD.out 0 (by decide)).mono ?_
  rintro e wE ⟨rfl, bE⟩
  have bX := BX4.out.trans (But.of_below (K := Only g) bE)
  have bY : But (Only g) w9 (wE.alloc (.cells #[.int .i64 0, .slice none 0 0, .slice none 0 0] 43)) := bX.alloc _
  have PE := hide ((PD.out.later bE).al (.cells #[.int .i64 0, .slice none 0 0, .slice none 0 0] 43))
  have BE := hide ((BD.out.trans (But.of_below (K := Only g) bE)).alloc (.cells #[.int .i64 0, .slice none 0 0, .slice none 0 0] 43))
  obtain ⟨x0, x1, x2, _⟩ := T8.out.but bY NE.out
  have cx := conv_str (HH9.out.but bY (fun _ e => e))
  have cy := conv_str (HD9.out.but bY (fun _ e => e))
  rw [show strB [104] = { data := #[104] } from by decide] at cx
  rw [show strB [98] = { data := #[98] } from by decide] at cy
  clear bE bX bY PD BD BX4 T8 HH9 HD9 NE
  have L := hide (Left_any PE.out)
  rw [show (lft a8 2 : Int) = 1 from by decide] at L
  have Z := hide (Size_any PE.out)
  rw [show ((2 : Nat) : Int) = 2 from rfl] at Z
  go_upto_region 16 with fail
  generalize wE.alloc (.cells #[.int .i64 0, .slice none 0 0, .slice none 0 0] 43) = wF at *
  go_wp2_with fail
  refine L.out.mono ?_
  rintro e w' ⟨rfl, rfl⟩
  go_wp2_with fail
  refine Z.out.mono ?_
  rintro e w' ⟨rfl, rfl⟩
  go_wp2
  go_ret
  exact ⟨rfl, B1.out.trans (BE.out.below B1.out.size (fun x hx e => by have e : x = g := e; have := HG.out; omega))⟩

end Go.Proofs.Ytkadapjcnonbiaa
