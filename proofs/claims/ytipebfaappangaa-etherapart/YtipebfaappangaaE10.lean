
/-
  The chapter's examples (awake).
-/
import Derived.Test.YtipebfaappangaaE9
import Derived.Test.YtipebfaappangaaE2
namespace Go.Proofs.Ytipebfaappangaa
open Go.RowKit

theorem IsF.take {A : Nat → Prop} {W : World} {a : Option Addr} {n c : Nat} {L : List Int} (h : IsF A W (.slice a n c) L) (k : Nat) (hk : k ≤ L.length) : IsF A W (.slice a k c) (L.take k) := by
  obtain ⟨a', c', e, hl, hn, hc⟩ := h
  simp only [Value.slice.injEq] at e
  obtain ⟨rfl, rfl, rfl⟩ := e
  have e : (L.take k).length = k := by simp; omega
  refine ⟨a, c, by rw [e], by omega, hn, fun h0 => ?_⟩
  obtain ⟨b, off, rfl, hb, ha, hcs⟩ := hc (by omega)
  refine ⟨b, off, rfl, hb, ha, fun j hj => ?_⟩
  rw [hcs j (by omega), List.getElem?_take, if_pos (by omega)]

theorem conv_same (w : World) (C : Array Value) (n c : Nat) : (convert 26 26 (.slice (some ⟨w.heap.size, 0, none⟩) n c)).run Try.prog (w.alloc (.cells C 5)) = .ok (.slice (some ⟨w.heap.size, 0, none⟩) n c) (w.alloc (.cells C 5 (C.size, C.size + 1))) :=
  Lib.run_convert_bytes_const w _ _ C n c Try.underlying26 Try.underlying5

theorem wpList_load_frg {ops : Array Oper} {rest : List Oper} {o : Oper} {a : Act} {w : World} {Q : Exit → Act → World → Prop} (x : Operand) (ho : o.op = .load 25 x)
    (s : Nat) (hx : a.eval x = .pointer (some ⟨s, 0, none⟩)) (f : Fr) (hg : FrAt w s f) (hw : Region.wanted o (yielded ops a.tmps) = true)
    (h : wpList Try.prog ops Q rest (a.put o.dst f.val) w) : wpList Try.prog ops Q (o :: rest) a w := by
  refine wpList_step fun K hK => ?_
  rw [if_pos hw]
  unfold Oper.wp execOp
  simp only [ho, hx, Instr.loadAt, Instr.sureAddr, loadVar, Sem.run_bind, Sem.run_pure, Result.andThen_ok, aggF, sizF, if_true, hg.loads]
  exact hK _ _ h

/-- a head is laid into a new variable -/
theorem newFr {w W : World} {o : Obj} (q : But (Only w.heap.size) (w.alloc o) W) : Below w.heap.size w W :=
  (later_alloc w o).trans (q.below (by simp) (fun g hg e => by have e : g = w.heap.size := e; omega))

def fr0 : Fr := ⟨mAll, ⟨2, 0, 0, 0, 0, 1⟩, false, 0, 0, 2054⟩
def xb0 : List Int := enB fr0 [97]
theorem xb0_len : xb0.length = 60 := by decide
theorem xb0_by : Bytes xb0 := by unfold Bytes; decide
theorem xb0_e : deE xb0 = 0 := by decide
theorem xb0_f : deF xb0 = fr0 := by decide
theorem xb0_b : (deB xb0).length = 46 := by decide
theorem xb1_e : deE (xb0.take 59) = 3 := by decide

set_option maxRecDepth 100000 in
set_option maxHeartbeats 4000000 in
theorem awake_any (w : World) : Calls Try.prog 8 #[] w fun e w' => e = .returned (.bool true) ∧ Below w.heap.size w w' := by
  have cv := conv_same
  go_enter Try.func8, Try.ntmps8
  go_wp2_with fail
  refine (All_any w).mono ?_
  rintro e w1 ⟨rfl, b1⟩
  simp only [M6.val, M6.cells, mAll]
  go_upto_region 3 with fail
  obtain ⟨W2, e2⟩ : ∃ W2, (w1.alloc (.cells #[.int .u8 255, .int .u8 255, .int .u8 255, .int .u8 255, .int .u8 255, .int .u8 255] 23)).alloc (.cells #[.int .u8 255, .int .u8 255, .int .u8 255, .int .u8 255, .int .u8 255, .int .u8 255, .int .u8 2, .int .u8 0, .int .u8 0, .int .u8 0, .int .u8 0, .int .u8 1, .bool false, .int .i64 0, .int .i64 0, .int .i64 2054] 25) = W2 := ⟨_, rfl⟩
  have M2 : Hid (MaAt W2 w1.heap.size mAll) := by rw [← e2]; exact (MaAt.new w1 mAll 23).al _
  have F2 : Hid (FrAt W2 (w1.heap.size + 1) fr0) := by
    rw [← e2]
    have := FrAt.new (w1.alloc (.cells mAll.cells 23)) fr0 25
    rw [World.size_alloc] at this
    exact this
  have B2 : Hid (Below w.heap.size w W2) := by rw [← e2]; exact later (later b1 (later_alloc _ _)) (later_alloc _ _)
  rw [e2]
  obtain ⟨s, hs⟩ : ∃ s, w1.heap.size + 1 = s := ⟨_, rfl⟩
  obtain ⟨g, hg⟩ : ∃ g, w1.heap.size = g := ⟨_, rfl⟩
  rw [hs] at F2 ⊢
  rw [hg] at M2 ⊢
  clear hs hg e2 b1
  have CE := hide (Encode_any (f := fr0) (lit_F W2 [97] (fun _ => False) id (1, 2)))
  have B3 := hide (later_alloc W2 (.cells (([97] : List Int).map (Value.int .u8)).toArray 5 (1, 2)))
  go_wp2_with (refine wpList_load_fr rfl _ rfl s rfl fr0 F2.out ?_)
  refine CE.out.mono ?_
  rintro e w4 ⟨a4, c4, rfl, g4, b4⟩
  have q4 := later B3.out b4
  have F4 := hide (F2.out.later q4)
  have M4 := hide (M2.out.later q4)
  have B4 := hide (later B2.out q4)
  rw [show enB fr0 [97] = xb0 from rfl] at g4 ⊢
  rw [show enE fr0 ([97] : List Int).length = 0 from by decide, xb0_len]
  rw [xb0_len] at g4
  have X4 := hide (g4.isF (A := fun _ => False) (fun _ _ => id))
  clear q4 g4 b4 CE B3 F2 M2 B2
  obtain ⟨b, off, ea, x13, x14⟩ : ∃ b off, a4 = some ⟨b, off, none⟩ ∧ w4.cell? ⟨b, off + 13, none⟩ = some (.int .u8 6) ∧ w4.cell? ⟨b, off + 14, none⟩ = some (.int .u8 97) := by
    obtain ⟨a', c', e, _, _, hc⟩ := X4.out
    obtain ⟨b, off, rfl, _, _, hcs⟩ := hc (by decide)
    simp only [Value.slice.injEq] at e
    exact ⟨b, off, e.1, hcs 13 (by decide), hcs 14 (by decide)⟩
  subst ea
  obtain ⟨g0, g1, g2, g3, g4, g5, -⟩ := M4.out
  simp only [mAll] at g0 g1 g2 g3 g4 g5
  have EM := eq_mac
  have em : eqM ⟨255, 255, 255, 255, 255, 255⟩ ⟨255, 255, 255, 255, 255, 255⟩ = true := eqM_self _
  have CD := hide (Decode_any X4.out xb0_by (by decide))
  go_wp2_with fail
  refine CD.out.mono ?_
  rintro e w5 ⟨a5, c5, rfl, gr5, b5⟩
  rw [xb0_f, xb0_e, xb0_b]
  have F5 := hide (F4.out.later b5)
  have P5 := hide (FrAt.new w5 zFr 25)
  have B5 := hide (later B4.out b5)
  have X5 := hide (X4.out.later b5)
  simp only [zFr, Fr.cells] at P5
  clear gr5 b5 CD F4 M4 B4 X4 g0 g1 g2 g3 g4 g5 x13 x14 em EM
  go_upto_region 7 with (refine wpList_store_fr rfl _ _ rfl w5.heap.size rfl fr0 zFr rfl P5.out ?_)
  intro W6 P6 q6
  replace q6 := newFr q6
  have F6 := hide (F5.out.later q6)
  have B6 := hide (later B5.out q6)
  have X6 := hide (X5.out.later q6)
  replace P6 := hide P6
  clear F5 P5 B5 X5 q6
  obtain ⟨p, hp⟩ : ∃ p, w5.heap.size = p := ⟨_, rfl⟩
  rw [hp] at P6 ⊢
  clear hp
  have CD := hide (Decode_any (X6.out.take 59 (by decide)) (xb0_by.take 59) (by decide))
  have hc4 : (60 : Int) ≤ c4 := by
    obtain ⟨_, _, e, h, _⟩ := X6.out
    simp only [Value.slice.injEq] at e
    have : xb0.length = 60 := xb0_len
    omega
  go_wp2_with fail
  refine CD.out.mono ?_
  rintro e w7 ⟨a7, c7, rfl, g7, b7⟩
  rw [xb1_e, show deF (xb0.take 59) = zFr from by decide, show deB (xb0.take 59) = [] from by decide]
  have F7 := hide (F6.out.later b7)
  have P7 := hide (P6.out.later b7)
  have B7 := hide (later B6.out b7)
  have Q7 := hide (FrAt.new w7 zFr 25)
  simp only [zFr, Fr.cells] at Q7
  clear F6 P6 B6 X6 g7 b7 CD
  go_upto_region 8 with (refine wpList_store_fr rfl _ _ rfl w7.heap.size rfl zFr zFr rfl Q7.out ?_)
  intro W8 Q8 q8
  replace q8 := newFr q8
  have F8 := hide (F7.out.later q8)
  have P8 := hide (P7.out.later q8)
  have B8 := hide (later B7.out q8)
  clear F7 P7 B7 Q7 q8 Q8
  have ee := eq_eql
  have eg := eq_guard
  have es : eqF fr0 fr0 = true := eqF_self _
  have MI := hide (Mine_any fr0 ⟨2, 0, 0, 0, 0, 0⟩ (-1) W8 (by decide) (by decide))
  rw [show miB fr0 ⟨2, 0, 0, 0, 0, 0⟩ (-1) = true from by decide] at MI
  go_wp2_with (first | (refine wpList_load_fr rfl _ rfl p rfl fr0 P8.out ?_) | (refine wpList_load_fr rfl _ rfl s rfl fr0 F8.out ?_) | (refine wpList_load_frg _ rfl s rfl fr0 F8.out (by kernel_rfl) ?_))
  refine MI.out.mono ?_
  rintro e w9 ⟨rfl, b9⟩
  have F9 := hide (F8.out.later b9)
  have B9 := hide (later B8.out b9)
  have MJ := hide (Mine_any fr0 ⟨2, 0, 0, 0, 0, 0⟩ 5 w9 (by decide) (by decide))
  rw [show miB fr0 ⟨2, 0, 0, 0, 0, 0⟩ 5 = false from by decide] at MJ
  clear F8 P8 B8 MI b9
  go_wp2_with (refine wpList_load_frg _ rfl s rfl fr0 F9.out (by kernel_rfl) ?_)
  refine MJ.out.mono ?_
  rintro e w10 ⟨rfl, b10⟩
  go_wp2
  go_ret
  exact ⟨rfl, later B9.out b10⟩

end Go.Proofs.Ytipebfaappangaa
