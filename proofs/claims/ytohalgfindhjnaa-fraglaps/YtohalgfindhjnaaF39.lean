
/-
  FragLaps: the walk.
-/
import Derived.Test.YtohalgfindhjnaaR3
namespace Go.Proofs.Ytohalgfindhjnaa
open Go.RowKit Go.Shelf

theorem exec_mul8 {o : Oper} {w : World} {ev : Operand → Value} {k : Nat} (x : Operand) (t : TypeId) (ho : o.op = .binOp .mul 3 (.const (.int .i64 8)) x t) (hx : ev x = .int .i64 (k : Int)) (hk : k ≤ 1000) (hc : ∀ v, ev (.const v) = v := by intro _; rfl) : (execOp ev o).run Try.prog w = .ok (.value (.int .i64 ((8 * k : Nat) : Int))) w := by
  have e : IntKind.i64.wrap (8 * (k : Int)) = ((8 * k : Nat) : Int) := by rw [show (8 : Int) * (k : Int) = ((8 * k : Nat) : Int) by omega]; exact (i64_wrap _ (by omega) (by omega))
  unfold execOp
  simp [ho, hx, hc, go_sem]
  exact e
theorem kd_ne {p o : Pk} (h : p.kd ≠ o.kd) : (eqI p.src o.src && (eqI p.dst o.dst && (p.proto == o.proto && p.id == o.id))) = false := by
  have := eqKd_parts p.kd o.kd
  unfold eqKd at this
  rw [decide_eq_false h] at this
  exact this.symm
theorem kd_eq {p o : Pk} (h : p.kd = o.kd) : eqI p.src o.src = true ∧ eqI p.dst o.dst = true ∧ (p.proto == o.proto) = true ∧ (p.id == o.id) = true := by
  have := eqKd_parts p.kd o.kd
  unfold eqKd at this
  rw [decide_eq_true h] at this
  have h2 := this.symm
  simp only [Bool.and_eq_true] at h2
  exact ⟨h2.1, h2.2.1, h2.2.2.1, h2.2.2.2⟩
set_option maxRecDepth 100000 in
set_option maxHeartbeats 32000000 in
theorem laps_walk {P1 P2 : Nat → Prop} (p : Pk) (ov : Value) (at_ sz_ lap_ : Int) (o : Pk) (uv : Value) (w : World) (ho : CB P1 w ov p.opts) (hol : p.opts.length ≤ 140737488355328) (hu : CB P2 w uv o.opts) (hul : o.opts.length ≤ 140737488355328) :
    Calls Try.prog 8 #[.agg (p.cells ov).toArray, .int .i64 at_, .int .i64 sz_, .int .i64 lap_, .agg (o.cells uv).toArray] w fun e w' => e = .returned (.bool true) ∧ Below w.heap.size w w' := by
  rw [show (Value.agg (p.cells ov).toArray) = .agg #[.int .u8 p.src.a, .int .u8 p.src.b, .int .u8 p.src.c, .int .u8 p.src.d, .int .u8 p.dst.a, .int .u8 p.dst.b, .int .u8 p.dst.c, .int .u8 p.dst.d, .int .i64 p.proto, .int .i64 p.ttl, .int .i64 p.id, .int .i64 p.tos, .bool p.whole, .bool p.more, .int .i64 p.off, ov] from rfl, show (Value.agg (o.cells uv).toArray) = .agg #[.int .u8 o.src.a, .int .u8 o.src.b, .int .u8 o.src.c, .int .u8 o.src.d, .int .u8 o.dst.a, .int .u8 o.dst.b, .int .u8 o.dst.c, .int .u8 o.dst.d, .int .i64 o.proto, .int .i64 o.ttl, .int .i64 o.id, .int .i64 o.tos, .bool o.whole, .bool o.more, .int .i64 o.off, uv] from rfl]
  obtain ⟨wa, s5, hs5, hwa, ca, fa, ba, la⟩ := boxP w p ov
  obtain ⟨wb, s9, hs9, hwb, cb, fb, bb, lb⟩ := boxP wa o uv
  have c5 := ca.later la bb
  have f5 : ∀ y, wb.frozen? ⟨s5, y, none⟩ = false := fun y => (bb.frozen (p := ⟨s5, y, none⟩) la).trans (fa y)
  have l5 : s5 < wb.heap.size := Nat.lt_of_lt_of_le la bb.size
  have hne : s5 ≠ s9 := by omega
  have BWB := later ba bb
  have AW := hide (awake_any wb)
  have C5 := hide c5
  have C9 := hide cb
  have F5 := hide f5
  have F9 := hide fb
  have L5 := hide l5
  have L9 := hide lb
  have HBWB := hide BWB
  have HO := hide ((ho.own (P' := fun g => g < s5) (fun g hg _ => by omega)).later BWB)
  have HU := hide ((hu.own (P' := fun g => g < s5) (fun g hg _ => by omega)).later BWB)
  have HNE := hide hne
  have HOL := hide hol
  have HUL := hide hul
  have HS5 := hide hs5
  have S59 : Hid (s5 < s9) := by unfold Hid; omega
  have hs5' := hs5.symm
  have hs9' := hs9.symm
  have hwa' := hwa.symm
  have hwb' := hwb.symm
  clear ho hu hol hul hs5 hs9 hwa hwb ca fa ba la cb fb bb lb c5 f5 l5 hne BWB
  go_enter Try.func8, Try.ntmps8
  go_wp2_with fail
  clear hs5' hs9' hwa' hwb'
  refine AW.out.mono ?_
  rintro _ w2 ⟨rfl, b2⟩
  have B2 := hide b2
  clear AW b2
  go_wp2_with fail
  refine (fNew_any w2).mono ?_
  rintro _ w3 ⟨rfl, cN, fN, bN⟩
  obtain ⟨b, hb⟩ : ∃ b, b = w2.heap.size := ⟨_, rfl⟩
  rw [← hb] at cN fN ⊢
  have B3 := hide (later B2.out bN)
  have BW3 := hide (later HBWB.out B3.out)
  have CN := hide cN
  have FN := hide fN
  have HB : Hid (wb.heap.size ≤ b ∧ b < w3.heap.size) := ⟨by rw [hb]; exact B2.out.size, World.block_lt_of_cell? w3 _ cN⟩
  clear cN fN bN B2 hb
  by_cases e1 : at_ < 0
  · go_wp2
    go_ret
    exact ⟨rfl, BW3.out⟩
  by_cases e2 : 60 < at_
  · go_wp2
    go_ret
    exact ⟨rfl, BW3.out⟩
  by_cases e3 : sz_ < 1
  · go_wp2
    go_ret
    exact ⟨rfl, BW3.out⟩
  by_cases e4 : 20 < sz_
  · go_wp2
    go_ret
    exact ⟨rfl, BW3.out⟩
  by_cases e5 : lap_ < 0
  · go_wp2
    go_ret
    exact ⟨rfl, BW3.out⟩
  by_cases e6 : 8 * sz_ ≤ lap_
  · go_wp2
    go_ret
    exact ⟨rfl, BW3.out⟩
  obtain ⟨at', rfl⟩ : ∃ a : Nat, at_ = (a : Int) := ⟨at_.toNat, by omega⟩
  obtain ⟨sz, rfl⟩ : ∃ a : Nat, sz_ = (a : Int) := ⟨sz_.toNat, by omega⟩
  obtain ⟨lap, rfl⟩ : ∃ a : Nat, lap_ = (a : Int) := ⟨lap_.toNat, by omega⟩
  -- the stores
  have C53 := C5.out.later L5.out B3.out
  have C93 := C9.out.later L9.out B3.out
  have k513 : w3.cell? ⟨s5, 13, none⟩ = some (.bool p.more) := C53 13 _ rfl
  have g513 : w3.frozen? ⟨s5, 13, none⟩ = false := (B3.out.frozen (p := ⟨s5, 13, none⟩) L5.out).trans (F5.out 13)
  obtain ⟨w4, hw4⟩ : ∃ x, x = w3.setCell ⟨s5, 13, none⟩ (.bool true) := ⟨_, rfl⟩
  have k514 : w4.cell? ⟨s5, 14, none⟩ = some (.int .i64 p.off) := by rw [hw4, setCell_out (by decide)]; exact C53 14 _ rfl
  have g514 : w4.frozen? ⟨s5, 14, none⟩ = false := by rw [hw4, World.frozen?_setCell]; exact (B3.out.frozen (p := ⟨s5, 14, none⟩) L5.out).trans (F5.out 14)
  obtain ⟨w5, hw5⟩ : ∃ x, x = w4.setCell ⟨s5, 14, none⟩ (.int .i64 (8 * (at' : Int))) := ⟨_, rfl⟩
  have bw5 : But (Only s5) w3 w5 := by rw [hw5, hw4]; exact ((But.refl (Only s5) w3).cellb (b := s5) rfl 13 _).cellb (b := s5) rfl 14 _
  have C55 : CellsAt w5 s5 0 ((lapP p (8 * (at' : Int))).cells ov) := by
    have := (C53.set 13 (.bool true)).set 14 (.int .i64 (8 * (at' : Int)))
    rw [← hw4, ← hw5] at this
    exact this
  have L93 : s9 < w3.heap.size := Nat.lt_of_lt_of_le L9.out B3.out.size
  have L53 : s5 < w3.heap.size := Nat.lt_of_lt_of_le L5.out B3.out.size
  have n95 : ¬ Only s5 s9 := fun e => HNE.out (by have e : s9 = s5 := e; omega)
  have C95 := C93.but L93 bw5 n95
  have k913 : w5.cell? ⟨s9, 13, none⟩ = some (.bool o.more) := C95 13 _ rfl
  have g9 : ∀ y, w5.frozen? ⟨s9, y, none⟩ = false := fun y => (bw5.frozen (p := ⟨s9, y, none⟩) L93 n95).trans ((B3.out.frozen (p := ⟨s9, y, none⟩) L9.out).trans (F9.out y))
  have g913 := g9 13
  obtain ⟨w6, hw6⟩ : ∃ x, x = w5.setCell ⟨s9, 13, none⟩ (.bool true) := ⟨_, rfl⟩
  have k914 : w6.cell? ⟨s9, 14, none⟩ = some (.int .i64 o.off) := by rw [hw6, setCell_out (by decide)]; exact C95 14 _ rfl
  have g914 : w6.frozen? ⟨s9, 14, none⟩ = false := by rw [hw6, World.frozen?_setCell]; exact g9 14
  obtain ⟨w0, hw0⟩ : ∃ x, x = w6.setCell ⟨s9, 14, none⟩ (.int .i64 0) := ⟨_, rfl⟩
  have bw0 : But (Only s9) w5 w0 := by rw [hw0, hw6]; exact ((But.refl (Only s9) w5).cellb (b := s9) rfl 13 _).cellb (b := s9) rfl 14 _
  have C90 : CellsAt w0 s9 0 ((lapO o).cells uv) := by
    have := (C95.set 13 (.bool true)).set 14 (.int .i64 0)
    rw [← hw6, ← hw0] at this
    exact this
  have C50 : CellsAt w0 s5 0 ((lapP p (8 * (at' : Int))).cells ov) := C55.but (Nat.lt_of_lt_of_le L53 bw5.size) bw0 (fun e => HNE.out e)
  have zz := bw5.size
  have zz0 := bw0.size
  have hsw := HS5.out
  have hs59 := S59.out
  have BW0 : Hid (Below w.heap.size w w0) := (BW3.out.trans (bw5.below BW3.out.size (fun g hg e => by have e : g = s5 := e; omega))).trans (bw0.below (by have := BW3.out.size; omega) (fun g hg e => by have e : g = s9 := e; omega))
  have b30 : But (fun g => g = s5 ∨ g = s9) w3 w0 := (bw5.mono (fun g e => .inl e)).trans (bw0.mono (fun g e => .inr e))
  have nb : ¬ (b = s5 ∨ b = s9) := fun e => by have := HB.out.1; have := L5.out; have := L9.out; omega
  have CN0 := (b30.cell (p := ⟨b, 0, none⟩) HB.out.2 nb).trans CN.out
  have FN0 := (b30.frozen (p := ⟨b, 0, none⟩) HB.out.2 nb).trans FN.out
  have AM0 : Hid (AwN w0 b (fun g => if g = b then (b, 0) else (0, 9)) [] w0) := ⟨FrAt.new CN0 FN0, fun g hg hne => if_neg hne, But.refl _ _⟩
  have HO0 : Hid (CB (fun g => g < s5) w0 ov p.opts) := (HO.out.later B3.out).but b30 (fun g e e2 => by rcases e2 with e2 | e2 <;> omega)
  have HU0 : Hid (CB (fun g => g < s5) w0 uv o.opts) := (HU.out.later B3.out).but b30 (fun g e e2 => by rcases e2 with e2 | e2 <;> omega)
  obtain ⟨X5, hX5⟩ : ∃ X, X = (lapP p (8 * (at' : Int))).cells ov := ⟨_, rfl⟩
  obtain ⟨X9, hX9⟩ : ∃ X, X = (lapO o).cells uv := ⟨_, rfl⟩
  have LX5 : Hid (X5.length = 16) := by rw [hX5]; exact rfl
  have LX9 : Hid (X9.length = 16) := by rw [hX9]; exact rfl
  have CC5 : Hid (CellsAt w0 s5 0 X5) := by rw [hX5]; exact C50
  have CC9 : Hid (CellsAt w0 s9 0 X9) := by rw [hX9]; exact C90
  have LL5 : Hid (s5 < w0.heap.size ∧ s5 ≠ b) := ⟨by omega, fun e => nb (.inl e.symm)⟩
  have LL9 : Hid (s9 < w0.heap.size ∧ s9 ≠ b) := ⟨by omega, fun e => nb (.inr e.symm)⟩
  have HB0 : Hid (s5 < b ∧ s9 < b ∧ b < w0.heap.size) := ⟨by have := HB.out.1; have := L5.out; omega, by have := HB.out.1; have := L9.out; omega, by have := HB.out.2; omega⟩
  have HX5 := hide hX5
  have HX9 := hide hX9
  have x0 := C50 0 _ rfl
  have y0 := C90 0 _ rfl
  have x1 := C50 1 _ rfl
  have y1 := C90 1 _ rfl
  have x2 := C50 2 _ rfl
  have y2 := C90 2 _ rfl
  have x3 := C50 3 _ rfl
  have y3 := C90 3 _ rfl
  have x4 := C50 4 _ rfl
  have y4 := C90 4 _ rfl
  have x5 := C50 5 _ rfl
  have y5 := C90 5 _ rfl
  have x6 := C50 6 _ rfl
  have y6 := C90 6 _ rfl
  have x7 := C50 7 _ rfl
  have y7 := C90 7 _ rfl
  have x8 := C50 8 _ rfl
  have y8 := C90 8 _ rfl
  have x10 := C50 10 _ rfl
  have y10 := C90 10 _ rfl
  simp only [Nat.zero_add, lapP, lapO] at x0 y0 x1 y1 x2 y2 x3 y3 x4 y4 x5 y5 x6 y6 x7 y7 x8 y8 x10 y10
  have hw4' := hw4.symm
  have hw5' := hw5.symm
  have hw6' := hw6.symm
  have hw0' := hw0.symm
  have HSZ : Hid (sz ≤ 1000) := by unfold Hid; omega
  have EQS := hide (fun (h : p.kd ≠ o.kd) => laps_all o p at' sz lap (by omega) (by omega) (by omega) (by omega) h)
  clear C53 C93 hw4 hw5 hw6 hw0 bw5 bw0 C55 C95 C90 C50 g9 b30 nb CN0 FN0 hX5 hX9 L93 L53 n95 zz zz0 hsw hs59 CN FN B3 BW3 C5 C9 F5 F9 HO HU HB HBWB L5 L9 HNE
  go_upto_region 9 with fail
  clear k513 g513 k514 g514 k913 g913 k914 g914 hw4' hw5' hw6' hw0'
  have EI := eq_ip
  obtain ⟨q1, hq1⟩ : ∃ q, q = eqI p.src o.src := ⟨_, rfl⟩
  obtain ⟨q2, hq2⟩ : ∃ q, q = eqI p.dst o.dst := ⟨_, rfl⟩
  obtain ⟨q3, hq3⟩ : ∃ q, q = (p.proto == o.proto) := ⟨_, rfl⟩
  obtain ⟨q4, hq4⟩ : ∃ q, q = (p.id == o.id) := ⟨_, rfl⟩
  have m1 : eqI ⟨p.src.a, p.src.b, p.src.c, p.src.d⟩ ⟨o.src.a, o.src.b, o.src.c, o.src.d⟩ = q1 := hq1.symm
  have m2 : eqI ⟨p.dst.a, p.dst.b, p.dst.c, p.dst.d⟩ ⟨o.dst.a, o.dst.b, o.dst.c, o.dst.d⟩ = q2 := hq2.symm
  have m3 : (p.proto == o.proto) = q3 := hq3.symm
  have m4 : (p.id == o.id) = q4 := hq4.symm
  have HQ : Hid (eqKd p.kd o.kd = (q1 && (q2 && (q3 && q4)))) := by rw [hq1, hq2, hq3, hq4]; exact eqKd_parts p.kd o.kd
  clear hq1 hq2 hq3 hq4
  go_cut [97] from 72 to 97 (fun v97 wx => v97 = .bool (q1 && (q2 && (q3 && q4))) ∧ w0 = wx)
  case first =>
    cases q1 with
    | false =>
      go_wp2
      go_meet
      exact ⟨rfl, rfl⟩
    | true =>
      cases q2 with
      | false =>
        go_wp2
        go_meet
        exact ⟨rfl, rfl⟩
      | true =>
        cases q3 with
        | false =>
          go_wp2
          go_meet
          exact ⟨rfl, rfl⟩
        | true =>
          cases q4 with
          | false =>
            go_wp2
            go_meet
            exact ⟨rfl, rfl⟩
          | true =>
            go_wp2
            go_meet
            exact ⟨rfl, rfl⟩
  obtain ⟨rfl, hwc⟩ := hcut
  rw [← hwc]
  clear hwc m1 m2 m3 m4 EI x0 y0 x1 y1 x2 y2 x3 y3 x4 y4 x5 y5 x6 y6 x7 y7 x8 y8 x10 y10
  obtain ⟨qq, hqq⟩ : ∃ qq, qq = (q1 && (q2 && (q3 && q4))) := ⟨_, rfl⟩
  rw [← hqq] at HQ ⊢
  clear hqq
  by_cases hk : p.kd = o.kd
  · have : qq = true := by rw [← HQ.out]; simp [eqKd, hk]
    subst this
    go_wp2
    go_ret
    exact ⟨rfl, BW0.out⟩
  have hqf : qq = false := by rw [← HQ.out]; simp [eqKd, hk]
  subst hqf
  obtain ⟨mo, mp, mq, r1, r2, r3, r4, r5⟩ := EQS.out hk
  have EQA := hide r1
  have EQB := hide r2
  have EQC := hide r3
  have EQE := hide r4
  have ESZ := hide r5
  have OK1 : Hid (OkS [mo]) := by have := OkS.nil.put (lapO o) (List.replicate 16 0) 1 0; rw [r1] at this; exact this
  have OK2 : Hid (OkS [mo, mp]) := by have := OK1.out.put (lapP p (8 * (at' : Int))) (List.replicate (8 * sz) 0) 2 0; rw [r2] at this; exact this
  clear r1 r2 r3 r4 r5 EQS HQ hk
  have Cs9A : Hid (CellsAt w0.drew s9 0 X9) := CC9.out
  have Ls9A : Hid (s9 < w0.drew.heap.size) := LL9.out.1
  have Rs9A : Hid ((fun g => if g = b then (b, 0) else (0, 9)) s9 = ((0, 9) : Nat × Nat)) := if_neg LL9.out.2
  have Os9A : Hid (CB (fun g => (fun g => if g = b then (b, 0) else (0, 9)) g = ((0, 9) : Nat × Nat)) w0.drew uv (lapO o).opts) := (HU0.out.own (fun g _ e => if_neg (by have := HB0.out; omega))).later (later_drew w0)
  go_upto_region 11 with fail
  obtain ⟨rr, hrr⟩ : ∃ rr, rr = putS (lapO o) (List.replicate 16 0) 1 0 (absG []) := ⟨_, rfl⟩
  have HRR := hide hrr
  clear hrr
  have FD := AM0.out.fr.later (later_drew w0)
  have LGD : s9 < w0.drew.heap.size := Ls9A.out
  have RL : (fun g => if g = b then (b, 0) else (0, 9)) s9 = (0, 9) := Rs9A.out
  have SB : CellsAt w0.drew s9 0 X9 := Cs9A.out
  have PGK : Hid (∀ (wX : World) (gm : Nat), Below w0.drew.heap.size w0.drew wX → CB (fun _ => True) wX (.slice (some ⟨gm, 0, none⟩) 16 16) (List.replicate 16 0) → Calls Try.prog 17 #[.pointer (some ⟨b, 0, none⟩), .agg X9.toArray, .slice (some ⟨gm, 0, none⟩) 16 16, .int .i64 1, .int .i64 0] wX fun e w' => ∃ v, e = .returned v ∧ ∃ (ρ' : Nat → Nat × Nat) (G' : List (Nat × Gm)) (hv dv bv : Value) (ga : Option Addr) (gc : Nat), v = .tuple #[.agg (whC (outP rr.1) hv dv bv).toArray, .bool rr.1.isSome, .slice ga rr.2.1.length gc] ∧ PutGot wX w' (cutR (fun g => if g = b then (b, 0) else (0, 9)) w0.drew.heap.size) ρ' b G' rr hv dv bv (.slice ga rr.2.1.length gc)) := fun wX gm hX hD => by
    rw [HX9.out]
    exact put_got (FD.cut.later hX) OkS.nil (lapO o) _ ((Os9A.out.own (P' := fun g => cutR (fun g => if g = b then (b, 0) else (0, 9)) w0.drew.heap.size g = (0, 9)) (fun g hg e => by rw [cutR_lt hg]; exact e)).later hX) HUL.out _ _ hD (by rw [List.length_replicate]; omega) (by show (-9223372036854775808 : Int) ≤ 0; decide) (by show (0 : Int) ≤ 9223372036854775807; decide) 1 0 rr HRR.out.symm
  go_cut [13, 14, 15] from 98 to 105 (fun v6 v7 v8 wx => ∃ (s6 : Nat) (ρ' : Nat → Nat × Nat) (G' : List (Nat × Gm)) (ga : Option Addr) (gc : Nat), v6 = .pointer (some ⟨s6, 0, none⟩) ∧ v7 = .bool rr.1.isSome ∧ v8 = .slice ga rr.2.1.length gc ∧ Hid (PutAft w0.drew wx (fun g => if g = b then (b, 0) else (0, 9)) ρ' b G' rr s6 (.slice ga rr.2.1.length gc)))
  case first =>
    refine regionJ (fun _ => true) (fun W => CellsAt W s9 0 X9) (by kernel_rfl) ?_
    refine takeJ (i := 0) (v := .pointer (some ⟨b, 0, none⟩)) 99 rfl rfl (by kernel_rfl) (by kernel_rfl) (by kernel_rfl) (by kernel_rfl) (fun _ _ _ h => h) (.inl ⟨by rfl, fun W hW => exec_move _ _ rfl rfl⟩) (SB) ?_
    try simp only [Act.put, List.setIfInBounds_toArray, List.set_cons_zero, List.set_cons_succ]
    refine takeJ (i := 1) (v := .agg X9.toArray) 100 rfl rfl (by kernel_rfl) (by kernel_rfl) (by kernel_rfl) (by kernel_rfl) (fun _ _ _ h => h) (.inl ⟨by rfl, fun W hW => exec_loadA 26 16 aggP sizP _ rfl s9 0 rfl X9 LX9.out hW⟩) (SB) ?_
    try simp only [Act.put, List.setIfInBounds_toArray, List.set_cons_zero, List.set_cons_succ]
    refine allJ (rs := [2, 8]) (by kernel_rfl) (by simp) (fun q hq => ?_)
    rcases List.mem_cons.1 hq with rfl | hq
    · obtain ⟨wm, hmk, grm, bm, lm⟩ := mkB w0.drew 16 (by omega)
      refine opJ_val (w' := wm) 2 101 (.slice (some ⟨w0.drew.heap.size, 0, none⟩) 16 16) rfl rfl (by rfl) (exec_mkB _ _ 16 _ rfl rfl rfl hmk) ?_
      have SM : CellsAt wm s9 0 X9 := SB.later LGD bm
      refine ⟨fun _ => SM, ?_⟩
      simp only [Act.put, List.setIfInBounds_toArray, List.set_cons_zero, List.set_cons_succ]
      refine allJ (rs := [3, 8]) (by kernel_rfl) (by simp) (fun q hq => ?_)
      rcases List.mem_cons.1 hq with rfl | hq
      · refine opJ_call 3 102 rfl rfl (by rfl) 17 #[.pointer (some ⟨b, 0, none⟩), .agg X9.toArray, .slice (some ⟨w0.drew.heap.size, 0, none⟩) 16 16, .int .i64 1, .int .i64 0] (exec_callF _ _ _ _ rfl (map5 rfl rfl rfl rfl rfl) (enters_of Try.func17 (by kernel_rfl) rfl)) _ (PGK.out wm _ bm (grm.cn.own (fun _ _ _ => trivial))) ?_
        rintro _ w8 ⟨_, G', hv, dv, bv, ga, gc, rfl, PG⟩
        have S8 : CellsAt w8 s9 0 X9 := SM.but (Nat.lt_of_lt_of_le LGD bm.size) PG.but (fun e => e.1 (by rw [cutR_lt LGD]; exact RL))
        refine ⟨fun _ => S8, ?_⟩
        simp only [Act.put, List.setIfInBounds_toArray, List.set_cons_zero, List.set_cons_succ]
        refine takeJ (i := 4) (v := .tuple #[.agg (whC (outP rr.1) hv dv bv).toArray, .bool rr.1.isSome, .slice ga rr.2.1.length gc]) 98 rfl rfl (by kernel_rfl) (by kernel_rfl) (by kernel_rfl) (by kernel_rfl) (fun _ _ _ h => h) (.inl ⟨by rfl, fun W hW => exec_move _ _ rfl rfl⟩) (S8) ?_
        try simp only [Act.put, List.setIfInBounds_toArray, List.set_cons_zero, List.set_cons_succ]
        refine takeJ (i := 5) (v := .agg (whC (outP rr.1) hv dv bv).toArray) 103 rfl rfl (by kernel_rfl) (by kernel_rfl) (by kernel_rfl) (by kernel_rfl) (fun _ _ _ h => h) (.inl ⟨by rfl, fun W hW => exec_ext _ 0 [.agg (whC (outP rr.1) hv dv bv).toArray, .bool rr.1.isSome, .slice ga rr.2.1.length gc] _ rfl rfl rfl⟩) (S8) ?_
        try simp only [Act.put, List.setIfInBounds_toArray, List.set_cons_zero, List.set_cons_succ]
        refine takeJ (i := 6) (v := .bool rr.1.isSome) 104 rfl rfl (by kernel_rfl) (by kernel_rfl) (by kernel_rfl) (by kernel_rfl) (fun _ _ _ h => h) (.inl ⟨by rfl, fun W hW => exec_ext _ 1 [.agg (whC (outP rr.1) hv dv bv).toArray, .bool rr.1.isSome, .slice ga rr.2.1.length gc] _ rfl rfl rfl⟩) (S8) ?_
        try simp only [Act.put, List.setIfInBounds_toArray, List.set_cons_zero, List.set_cons_succ]
        refine takeJ (i := 7) (v := .slice ga rr.2.1.length gc) 105 rfl rfl (by kernel_rfl) (by kernel_rfl) (by kernel_rfl) (by kernel_rfl) (fun _ _ _ h => h) (.inl ⟨by rfl, fun W hW => exec_ext _ 2 [.agg (whC (outP rr.1) hv dv bv).toArray, .bool rr.1.isSome, .slice ga rr.2.1.length gc] _ rfl rfl rfl⟩) (S8) ?_
        try simp only [Act.put, List.setIfInBounds_toArray, List.set_cons_zero, List.set_cons_succ]
        obtain ⟨w9, wz, ρ2, hw9, c9, f9, hwz, AF0⟩ := PG.aft
        have AF := PutAft.base bm AF0
        have HW9 := hide hw9
        have HWZ := hide hwz
        have one9 := PG.one
        obtain ⟨s6, hs6⟩ : ∃ s6, s6 = w8.heap.size := ⟨_, rfl⟩
        rw [← hs6] at c9 f9 hwz AF HWZ
        have S9 : CellsAt w9 s9 0 X9 := CellsAt.later (W' := w9) S8 (Nat.lt_of_lt_of_le (Nat.lt_of_lt_of_le LGD bm.size) PG.but.size) (by rw [HW9.out]; exact later_alloc _ _)
        have SZ : CellsAt wz s9 0 X9 := SB.but LGD AF.but (fun e => e.1 RL)
        refine nextJ (w' := w9) 8 13 (.pointer (some ⟨s6, 0, none⟩)) (by kernel_rfl) rfl rfl (by rfl) ((by rw [HW9.out, hs6]; exact exec_allocWh rfl)) (S9) ?_
        try simp only [Act.put, List.setIfInBounds_toArray, List.set_cons_zero, List.set_cons_succ]
        refine storeJ (w' := wz) 9 (by kernel_rfl) rfl rfl (by rfl) ((by rw [HWZ.out]; exact exec_storeA 49 18 sizWh _ _ rfl s6 0 rfl _ zWh rfl rfl rfl c9 f9 one9)) ((fun _ => SZ)) ?_
        try simp only [Act.put, List.setIfInBounds_toArray, List.set_cons_zero, List.set_cons_succ]
        refine takeJ (i := 10) (v := .bool rr.1.isSome) 14 rfl rfl (by kernel_rfl) (by kernel_rfl) (by kernel_rfl) (by kernel_rfl) (fun _ _ _ h => h) (.inl ⟨by rfl, fun W hW => exec_assign _ _ rfl rfl⟩) (SZ) ?_
        try simp only [Act.put, List.setIfInBounds_toArray, List.set_cons_zero, List.set_cons_succ]
        refine takeJ (i := 11) (v := .slice ga rr.2.1.length gc) 15 rfl rfl (by kernel_rfl) (by kernel_rfl) (by kernel_rfl) (by kernel_rfl) (fun _ _ _ h => h) (.inl ⟨by rfl, fun W hW => exec_assign _ _ rfl rfl⟩) (SZ) ?_
        try simp only [Act.put, List.setIfInBounds_toArray, List.set_cons_zero, List.set_cons_succ]
        refine doneJ (by kernel_rfl) ?_ _
        have AFH := hide AF
        clear AF AF0 PG S8 S9 SZ SM hw9 c9 f9 hwz HW9 HWZ one9 hs6 hmk grm bm lm
        go_wp2
        go_meet
        exact ⟨s6, _, G', ga, gc, rfl, rfl, rfl, AFH⟩
      · obtain rfl : q = 8 := by simpa using hq
        obtain ⟨w7, hw7⟩ : ∃ w7, w7 = wm.alloc (.cells zWh.toArray 49) := ⟨_, rfl⟩
        have HW7 := hide hw7
        have b7 : Below wm.heap.size wm w7 := by rw [HW7.out]; exact later_alloc _ _
        have c7 : CellsAt w7 wm.heap.size 0 zWh := by rw [HW7.out]; exact CellsAt.new wm _ _
        have f7 : ∀ y, w7.frozen? ⟨wm.heap.size, y, none⟩ = false := by rw [HW7.out]; exact fun y => frozen_new wm _ _ _
        refine opJ_val (w' := w7) 8 13 (.pointer (some ⟨wm.heap.size, 0, none⟩)) rfl rfl (by rfl) (by rw [HW7.out]; exact exec_allocWh rfl) ?_
        have S7 : CellsAt w7 s9 0 X9 := CellsAt.later (W' := w7) SM (Nat.lt_of_lt_of_le LGD bm.size) b7
        refine ⟨fun _ => S7, ?_⟩
        simp only [Act.put, List.setIfInBounds_toArray, List.set_cons_zero, List.set_cons_succ]
        refine callJ 3 102 (by kernel_rfl) rfl rfl (by rfl) 17 #[.pointer (some ⟨b, 0, none⟩), .agg X9.toArray, .slice (some ⟨w0.drew.heap.size, 0, none⟩) 16 16, .int .i64 1, .int .i64 0] (exec_callF _ _ _ _ rfl (map5 rfl rfl rfl rfl rfl) (enters_of Try.func17 (by kernel_rfl) rfl)) _ (PGK.out w7 _ (later bm b7) ((grm.cn.own (P' := fun _ => True) (fun _ _ _ => trivial)).later b7)) ?_
        rintro _ w8 ⟨ρ2, G', hv, dv, bv, ga, gc, rfl, PG⟩
        have S8 : CellsAt w8 s9 0 X9 := S7.but (Nat.lt_of_lt_of_le (Nat.lt_of_lt_of_le LGD bm.size) b7.size) PG.but (fun e => e.1 (by rw [cutR_lt LGD]; exact RL))
        refine ⟨S8, ?_⟩
        simp only [Act.put, List.setIfInBounds_toArray, List.set_cons_zero, List.set_cons_succ]
        refine takeJ (i := 4) (v := .tuple #[.agg (whC (outP rr.1) hv dv bv).toArray, .bool rr.1.isSome, .slice ga rr.2.1.length gc]) 98 rfl rfl (by kernel_rfl) (by kernel_rfl) (by kernel_rfl) (by kernel_rfl) (fun _ _ _ h => h) (.inl ⟨by rfl, fun W hW => exec_move _ _ rfl rfl⟩) (S8) ?_
        try simp only [Act.put, List.setIfInBounds_toArray, List.set_cons_zero, List.set_cons_succ]
        refine takeJ (i := 5) (v := .agg (whC (outP rr.1) hv dv bv).toArray) 103 rfl rfl (by kernel_rfl) (by kernel_rfl) (by kernel_rfl) (by kernel_rfl) (fun _ _ _ h => h) (.inl ⟨by rfl, fun W hW => exec_ext _ 0 [.agg (whC (outP rr.1) hv dv bv).toArray, .bool rr.1.isSome, .slice ga rr.2.1.length gc] _ rfl rfl rfl⟩) (S8) ?_
        try simp only [Act.put, List.setIfInBounds_toArray, List.set_cons_zero, List.set_cons_succ]
        refine takeJ (i := 6) (v := .bool rr.1.isSome) 104 rfl rfl (by kernel_rfl) (by kernel_rfl) (by kernel_rfl) (by kernel_rfl) (fun _ _ _ h => h) (.inl ⟨by rfl, fun W hW => exec_ext _ 1 [.agg (whC (outP rr.1) hv dv bv).toArray, .bool rr.1.isSome, .slice ga rr.2.1.length gc] _ rfl rfl rfl⟩) (S8) ?_
        try simp only [Act.put, List.setIfInBounds_toArray, List.set_cons_zero, List.set_cons_succ]
        refine takeJ (i := 7) (v := .slice ga rr.2.1.length gc) 105 rfl rfl (by kernel_rfl) (by kernel_rfl) (by kernel_rfl) (by kernel_rfl) (fun _ _ _ h => h) (.inl ⟨by rfl, fun W hW => exec_ext _ 2 [.agg (whC (outP rr.1) hv dv bv).toArray, .bool rr.1.isSome, .slice ga rr.2.1.length gc] _ rfl rfl rfl⟩) (S8) ?_
        try simp only [Act.put, List.setIfInBounds_toArray, List.set_cons_zero, List.set_cons_succ]
        obtain ⟨c9, f9, wz, hwz, AF⟩ := PG.aft3 (later bm b7) c7 f7 bm.size
        have HWZ := hide hwz
        have one9 := PG.one
        have SZ : CellsAt wz s9 0 X9 := SB.but LGD AF.but (fun e => e.1 RL)
        refine storeJ (w' := wz) 9 (by kernel_rfl) rfl rfl (by rfl) ((by rw [HWZ.out]; exact exec_storeA 49 18 sizWh _ _ rfl wm.heap.size 0 rfl _ zWh rfl rfl rfl c9 f9 one9)) ((fun _ => SZ)) ?_
        try simp only [Act.put, List.setIfInBounds_toArray, List.set_cons_zero, List.set_cons_succ]
        refine takeJ (i := 10) (v := .bool rr.1.isSome) 14 rfl rfl (by kernel_rfl) (by kernel_rfl) (by kernel_rfl) (by kernel_rfl) (fun _ _ _ h => h) (.inl ⟨by rfl, fun W hW => exec_assign _ _ rfl rfl⟩) (SZ) ?_
        try simp only [Act.put, List.setIfInBounds_toArray, List.set_cons_zero, List.set_cons_succ]
        refine takeJ (i := 11) (v := .slice ga rr.2.1.length gc) 15 rfl rfl (by kernel_rfl) (by kernel_rfl) (by kernel_rfl) (by kernel_rfl) (fun _ _ _ h => h) (.inl ⟨by rfl, fun W hW => exec_assign _ _ rfl rfl⟩) (SZ) ?_
        try simp only [Act.put, List.setIfInBounds_toArray, List.set_cons_zero, List.set_cons_succ]
        refine doneJ (by kernel_rfl) ?_ _
        have AFH := hide AF
        clear AF SZ c9 f9 hwz HWZ one9
        go_wp2
        go_meet
        exact ⟨_, _, G', ga, gc, rfl, rfl, rfl, AFH⟩
    · obtain rfl : q = 8 := by simpa using hq
      obtain ⟨w7, hw7⟩ : ∃ w7, w7 = w0.drew.alloc (.cells zWh.toArray 49) := ⟨_, rfl⟩
      have HW7 := hide hw7
      have b7 : Below w0.drew.heap.size w0.drew w7 := by rw [HW7.out]; exact later_alloc _ _
      have c7 : CellsAt w7 w0.drew.heap.size 0 zWh := by rw [HW7.out]; exact CellsAt.new w0.drew _ _
      have f7 : ∀ y, w7.frozen? ⟨w0.drew.heap.size, y, none⟩ = false := by rw [HW7.out]; exact fun y => frozen_new w0.drew _ _ _
      have l7 : w0.drew.heap.size < w7.heap.size := c7.lt (by decide)
      refine opJ_val (w' := w7) 8 13 (.pointer (some ⟨w0.drew.heap.size, 0, none⟩)) rfl rfl (by rfl) (by rw [HW7.out]; exact exec_allocWh rfl) ?_
      have S7 : CellsAt w7 s9 0 X9 := CellsAt.later (W' := w7) SB LGD b7
      refine ⟨fun _ => S7, ?_⟩
      simp only [Act.put, List.setIfInBounds_toArray, List.set_cons_zero, List.set_cons_succ]
      obtain ⟨wm, hmk, grm, bm, lm⟩ := mkB w7 16 (by omega)
      have SM : CellsAt wm s9 0 X9 := S7.later (Nat.lt_of_lt_of_le LGD b7.size) bm
      refine nextJ (w' := wm) 2 101 (.slice (some ⟨w7.heap.size, 0, none⟩) 16 16) (by kernel_rfl) rfl rfl (by rfl) (exec_mkB _ _ 16 _ rfl rfl rfl hmk) SM ?_
      simp only [Act.put, List.setIfInBounds_toArray, List.set_cons_zero, List.set_cons_succ]
      refine callJ 3 102 (by kernel_rfl) rfl rfl (by rfl) 17 #[.pointer (some ⟨b, 0, none⟩), .agg X9.toArray, .slice (some ⟨w7.heap.size, 0, none⟩) 16 16, .int .i64 1, .int .i64 0] (exec_callF _ _ _ _ rfl (map5 rfl rfl rfl rfl rfl) (enters_of Try.func17 (by kernel_rfl) rfl)) _ (PGK.out wm _ (later b7 bm) (grm.cn.own (fun _ _ _ => trivial))) ?_
      rintro _ w8 ⟨ρ2, G', hv, dv, bv, ga, gc, rfl, PG⟩
      have S8 : CellsAt w8 s9 0 X9 := SM.but (Nat.lt_of_lt_of_le (Nat.lt_of_lt_of_le LGD b7.size) bm.size) PG.but (fun e => e.1 (by rw [cutR_lt LGD]; exact RL))
      refine ⟨S8, ?_⟩
      simp only [Act.put, List.setIfInBounds_toArray, List.set_cons_zero, List.set_cons_succ]
      refine takeJ (i := 4) (v := .tuple #[.agg (whC (outP rr.1) hv dv bv).toArray, .bool rr.1.isSome, .slice ga rr.2.1.length gc]) 98 rfl rfl (by kernel_rfl) (by kernel_rfl) (by kernel_rfl) (by kernel_rfl) (fun _ _ _ h => h) (.inl ⟨by rfl, fun W hW => exec_move _ _ rfl rfl⟩) (S8) ?_
      try simp only [Act.put, List.setIfInBounds_toArray, List.set_cons_zero, List.set_cons_succ]
      refine takeJ (i := 5) (v := .agg (whC (outP rr.1) hv dv bv).toArray) 103 rfl rfl (by kernel_rfl) (by kernel_rfl) (by kernel_rfl) (by kernel_rfl) (fun _ _ _ h => h) (.inl ⟨by rfl, fun W hW => exec_ext _ 0 [.agg (whC (outP rr.1) hv dv bv).toArray, .bool rr.1.isSome, .slice ga rr.2.1.length gc] _ rfl rfl rfl⟩) (S8) ?_
      try simp only [Act.put, List.setIfInBounds_toArray, List.set_cons_zero, List.set_cons_succ]
      refine takeJ (i := 6) (v := .bool rr.1.isSome) 104 rfl rfl (by kernel_rfl) (by kernel_rfl) (by kernel_rfl) (by kernel_rfl) (fun _ _ _ h => h) (.inl ⟨by rfl, fun W hW => exec_ext _ 1 [.agg (whC (outP rr.1) hv dv bv).toArray, .bool rr.1.isSome, .slice ga rr.2.1.length gc] _ rfl rfl rfl⟩) (S8) ?_
      try simp only [Act.put, List.setIfInBounds_toArray, List.set_cons_zero, List.set_cons_succ]
      refine takeJ (i := 7) (v := .slice ga rr.2.1.length gc) 105 rfl rfl (by kernel_rfl) (by kernel_rfl) (by kernel_rfl) (by kernel_rfl) (fun _ _ _ h => h) (.inl ⟨by rfl, fun W hW => exec_ext _ 2 [.agg (whC (outP rr.1) hv dv bv).toArray, .bool rr.1.isSome, .slice ga rr.2.1.length gc] _ rfl rfl rfl⟩) (S8) ?_
      try simp only [Act.put, List.setIfInBounds_toArray, List.set_cons_zero, List.set_cons_succ]
      obtain ⟨c9, f9, wz, hwz, AF⟩ := PG.aft3 (later b7 bm) (c7.later l7 bm) (fun y => (bm.frozen (p := ⟨w0.drew.heap.size, y, none⟩) l7).trans (f7 y)) (Nat.le_refl _)
      have HWZ := hide hwz
      have one9 := PG.one
      have SZ : CellsAt wz s9 0 X9 := SB.but LGD AF.but (fun e => e.1 RL)
      refine storeJ (w' := wz) 9 (by kernel_rfl) rfl rfl (by rfl) ((by rw [HWZ.out]; exact exec_storeA 49 18 sizWh _ _ rfl w0.drew.heap.size 0 rfl _ zWh rfl rfl rfl c9 f9 one9)) ((fun _ => SZ)) ?_
      try simp only [Act.put, List.setIfInBounds_toArray, List.set_cons_zero, List.set_cons_succ]
      refine takeJ (i := 10) (v := .bool rr.1.isSome) 14 rfl rfl (by kernel_rfl) (by kernel_rfl) (by kernel_rfl) (by kernel_rfl) (fun _ _ _ h => h) (.inl ⟨by rfl, fun W hW => exec_assign _ _ rfl rfl⟩) (SZ) ?_
      try simp only [Act.put, List.setIfInBounds_toArray, List.set_cons_zero, List.set_cons_succ]
      refine takeJ (i := 11) (v := .slice ga rr.2.1.length gc) 15 rfl rfl (by kernel_rfl) (by kernel_rfl) (by kernel_rfl) (by kernel_rfl) (fun _ _ _ h => h) (.inl ⟨by rfl, fun W hW => exec_assign _ _ rfl rfl⟩) (SZ) ?_
      try simp only [Act.put, List.setIfInBounds_toArray, List.set_cons_zero, List.set_cons_succ]
      refine doneJ (by kernel_rfl) ?_ _
      have AFH := hide AF
      clear AF SZ c9 f9 hwz HWZ one9
      go_wp2
      go_meet
      exact ⟨_, _, G', ga, gc, rfl, rfl, rfl, AFH⟩
  obtain ⟨sA, ρA, GA, gaA, gcA, rfl, rfl, rfl, AFH⟩ := hcut
  obtain ⟨wA, hwA⟩ : ∃ w9, w9 = wc := ⟨_, rfl⟩
  rw [← hwA] at AFH ⊢
  have AF := AFH.out
  have AMA : Hid (AwN w0 b ρA GA wA) := AM0.out.step AF.fr AF.old AF.but
  have ABA : Hid (absG GA = rr.2.2) := AF.ab
  have ER : Hid (rr = (none, [], [mo])) := by rw [HRR.out]; exact EQA.out
  have E1 : rr.1.isSome = false := by rw [ER.out]; rfl
  have E2 : rr.2.1.length = 0 := by rw [ER.out]; rfl
  rw [E1, E2]
  rw [ER.out] at ABA
  clear E1 E2
  clear hwA PGK HRR FD LGD RL SB AF AFH ER
  clear Cs9A Ls9A Rs9A Os9A CC9 HX9 LX9 EQA AM0 HU0
  have Cs5B : Hid (CellsAt wA.drew s5 0 X5) := CellsAt.later (W' := wA.drew) (CC5.out.but LL5.out.1 AMA.out.but LL5.out.2) (Nat.lt_of_lt_of_le LL5.out.1 AMA.out.but.size) (later_drew wA)
  have Ls5B : Hid (s5 < wA.drew.heap.size) := Nat.lt_of_lt_of_le (Nat.lt_of_lt_of_le LL5.out.1 AMA.out.but.size) (later_drew wA).size
  have Rs5B : Hid ((ρA) s5 = ((0, 9) : Nat × Nat)) := AMA.out.low _ LL5.out.1 LL5.out.2
  have Os5B : Hid (CB (fun g => (ρA) g = ((0, 9) : Nat × Nat)) wA.drew ov (lapP p (8 * (at' : Int))).opts) := ((HO0.out.but AMA.out.but (fun g e e2 => by have e2 : g = b := e2; have := HB0.out; omega)).own (fun g _ e => AMA.out.low g (by have := HB0.out; omega) (by have := HB0.out; omega))).later (later_drew wA)
  go_upto_region 12 with fail
  obtain ⟨rr, hrr⟩ : ∃ rr, rr = putS (lapP p (8 * (at' : Int))) (List.replicate (8 * sz) 0) 2 0 (absG GA) := ⟨_, rfl⟩
  have HRR := hide hrr
  clear hrr
  have FD := AMA.out.fr.later (later_drew wA)
  have LGD : s5 < wA.drew.heap.size := Ls5B.out
  have RL : (ρA) s5 = (0, 9) := Rs5B.out
  have SB : CellsAt wA.drew s5 0 X5 := Cs5B.out
  have PGK : Hid (∀ (wX : World) (gm : Nat), Below wA.drew.heap.size wA.drew wX → CB (fun _ => True) wX (.slice (some ⟨gm, 0, none⟩) (8 * sz) (8 * sz)) (List.replicate (8 * sz) 0) → Calls Try.prog 17 #[.pointer (some ⟨b, 0, none⟩), .agg X5.toArray, .slice (some ⟨gm, 0, none⟩) (8 * sz) (8 * sz), .int .i64 2, .int .i64 0] wX fun e w' => ∃ v, e = .returned v ∧ ∃ (ρ' : Nat → Nat × Nat) (G' : List (Nat × Gm)) (hv dv bv : Value) (ga : Option Addr) (gc : Nat), v = .tuple #[.agg (whC (outP rr.1) hv dv bv).toArray, .bool rr.1.isSome, .slice ga rr.2.1.length gc] ∧ PutGot wX w' (cutR (ρA) wA.drew.heap.size) ρ' b G' rr hv dv bv (.slice ga rr.2.1.length gc)) := fun wX gm hX hD => by
    rw [HX5.out]
    exact put_got (FD.cut.later hX) (by rw [ABA.out]; exact OK1.out) (lapP p (8 * (at' : Int))) _ ((Os5B.out.own (P' := fun g => cutR (ρA) wA.drew.heap.size g = (0, 9)) (fun g hg e => by rw [cutR_lt hg]; exact e)).later hX) HOL.out _ _ hD (by rw [List.length_replicate]; omega) (by show (-9223372036854775808 : Int) ≤ 8 * (at' : Int); omega) (by show 8 * (at' : Int) ≤ 9223372036854775807; omega) 2 0 rr HRR.out.symm
  go_cut [16, 17, 18] from 106 to 115 (fun v6 v7 v8 wx => ∃ (s6 : Nat) (ρ' : Nat → Nat × Nat) (G' : List (Nat × Gm)) (ga : Option Addr) (gc : Nat), v6 = .pointer (some ⟨s6, 0, none⟩) ∧ v7 = .bool rr.1.isSome ∧ v8 = .slice ga rr.2.1.length gc ∧ Hid (PutAft wA.drew wx (ρA) ρ' b G' rr s6 (.slice ga rr.2.1.length gc)))
  case first =>
    refine regionJ (fun _ => true) (fun W => CellsAt W s5 0 X5) (by kernel_rfl) ?_
    refine takeJ (i := 0) (v := .pointer (some ⟨b, 0, none⟩)) 107 rfl rfl (by kernel_rfl) (by kernel_rfl) (by kernel_rfl) (by kernel_rfl) (fun _ _ _ h => h) (.inl ⟨by rfl, fun W hW => exec_move _ _ rfl rfl⟩) (SB) ?_
    try simp only [Act.put, List.setIfInBounds_toArray, List.set_cons_zero, List.set_cons_succ]
    refine takeJ (i := 1) (v := .agg X5.toArray) 108 rfl rfl (by kernel_rfl) (by kernel_rfl) (by kernel_rfl) (by kernel_rfl) (fun _ _ _ h => h) (.inl ⟨by rfl, fun W hW => exec_loadA 26 16 aggP sizP _ rfl s5 0 rfl X5 LX5.out hW⟩) (SB) ?_
    try simp only [Act.put, List.setIfInBounds_toArray, List.set_cons_zero, List.set_cons_succ]
    refine takeJ (i := 2) (v := .int .i64 (sz : Int)) 109 rfl rfl (by kernel_rfl) (by kernel_rfl) (by kernel_rfl) (by kernel_rfl) (fun _ _ _ h => h) (.inl ⟨by rfl, fun W hW => exec_move _ _ rfl rfl⟩) (SB) ?_
    try simp only [Act.put, List.setIfInBounds_toArray, List.set_cons_zero, List.set_cons_succ]
    refine takeJ (i := 3) (v := .int .i64 ((8 * sz : Nat) : Int)) 110 rfl rfl (by kernel_rfl) (by kernel_rfl) (by kernel_rfl) (by kernel_rfl) (fun _ _ _ h => h) (.inl ⟨by rfl, fun W hW => exec_mul8 _ _ rfl rfl HSZ.out⟩) (SB) ?_
    try simp only [Act.put, List.setIfInBounds_toArray, List.set_cons_zero, List.set_cons_succ]
    refine allJ (rs := [4, 10]) (by kernel_rfl) (by simp) (fun q hq => ?_)
    rcases List.mem_cons.1 hq with rfl | hq
    · obtain ⟨wm, hmk, grm, bm, lm⟩ := mkB wA.drew (8 * sz) (by omega)
      refine opJ_val (w' := wm) 4 111 (.slice (some ⟨wA.drew.heap.size, 0, none⟩) (8 * sz) (8 * sz)) rfl rfl (by rfl) (exec_mkB _ _ (8 * sz) _ rfl rfl rfl hmk) ?_
      have SM : CellsAt wm s5 0 X5 := SB.later LGD bm
      refine ⟨fun _ => SM, ?_⟩
      simp only [Act.put, List.setIfInBounds_toArray, List.set_cons_zero, List.set_cons_succ]
      refine allJ (rs := [5, 10]) (by kernel_rfl) (by simp) (fun q hq => ?_)
      rcases List.mem_cons.1 hq with rfl | hq
      · refine opJ_call 5 112 rfl rfl (by rfl) 17 #[.pointer (some ⟨b, 0, none⟩), .agg X5.toArray, .slice (some ⟨wA.drew.heap.size, 0, none⟩) (8 * sz) (8 * sz), .int .i64 2, .int .i64 0] (exec_callF _ _ _ _ rfl (map5 rfl rfl rfl rfl rfl) (enters_of Try.func17 (by kernel_rfl) rfl)) _ (PGK.out wm _ bm (grm.cn.own (fun _ _ _ => trivial))) ?_
        rintro _ w8 ⟨_, G', hv, dv, bv, ga, gc, rfl, PG⟩
        have S8 : CellsAt w8 s5 0 X5 := SM.but (Nat.lt_of_lt_of_le LGD bm.size) PG.but (fun e => e.1 (by rw [cutR_lt LGD]; exact RL))
        refine ⟨fun _ => S8, ?_⟩
        simp only [Act.put, List.setIfInBounds_toArray, List.set_cons_zero, List.set_cons_succ]
        refine takeJ (i := 6) (v := .tuple #[.agg (whC (outP rr.1) hv dv bv).toArray, .bool rr.1.isSome, .slice ga rr.2.1.length gc]) 106 rfl rfl (by kernel_rfl) (by kernel_rfl) (by kernel_rfl) (by kernel_rfl) (fun _ _ _ h => h) (.inl ⟨by rfl, fun W hW => exec_move _ _ rfl rfl⟩) (S8) ?_
        try simp only [Act.put, List.setIfInBounds_toArray, List.set_cons_zero, List.set_cons_succ]
        refine takeJ (i := 7) (v := .agg (whC (outP rr.1) hv dv bv).toArray) 113 rfl rfl (by kernel_rfl) (by kernel_rfl) (by kernel_rfl) (by kernel_rfl) (fun _ _ _ h => h) (.inl ⟨by rfl, fun W hW => exec_ext _ 0 [.agg (whC (outP rr.1) hv dv bv).toArray, .bool rr.1.isSome, .slice ga rr.2.1.length gc] _ rfl rfl rfl⟩) (S8) ?_
        try simp only [Act.put, List.setIfInBounds_toArray, List.set_cons_zero, List.set_cons_succ]
        refine takeJ (i := 8) (v := .bool rr.1.isSome) 114 rfl rfl (by kernel_rfl) (by kernel_rfl) (by kernel_rfl) (by kernel_rfl) (fun _ _ _ h => h) (.inl ⟨by rfl, fun W hW => exec_ext _ 1 [.agg (whC (outP rr.1) hv dv bv).toArray, .bool rr.1.isSome, .slice ga rr.2.1.length gc] _ rfl rfl rfl⟩) (S8) ?_
        try simp only [Act.put, List.setIfInBounds_toArray, List.set_cons_zero, List.set_cons_succ]
        refine takeJ (i := 9) (v := .slice ga rr.2.1.length gc) 115 rfl rfl (by kernel_rfl) (by kernel_rfl) (by kernel_rfl) (by kernel_rfl) (fun _ _ _ h => h) (.inl ⟨by rfl, fun W hW => exec_ext _ 2 [.agg (whC (outP rr.1) hv dv bv).toArray, .bool rr.1.isSome, .slice ga rr.2.1.length gc] _ rfl rfl rfl⟩) (S8) ?_
        try simp only [Act.put, List.setIfInBounds_toArray, List.set_cons_zero, List.set_cons_succ]
        obtain ⟨w9, wz, ρ2, hw9, c9, f9, hwz, AF0⟩ := PG.aft
        have AF := PutAft.base bm AF0
        have HW9 := hide hw9
        have HWZ := hide hwz
        have one9 := PG.one
        obtain ⟨s6, hs6⟩ : ∃ s6, s6 = w8.heap.size := ⟨_, rfl⟩
        rw [← hs6] at c9 f9 hwz AF HWZ
        have S9 : CellsAt w9 s5 0 X5 := CellsAt.later (W' := w9) S8 (Nat.lt_of_lt_of_le (Nat.lt_of_lt_of_le LGD bm.size) PG.but.size) (by rw [HW9.out]; exact later_alloc _ _)
        have SZ : CellsAt wz s5 0 X5 := SB.but LGD AF.but (fun e => e.1 RL)
        refine nextJ (w' := w9) 10 16 (.pointer (some ⟨s6, 0, none⟩)) (by kernel_rfl) rfl rfl (by rfl) ((by rw [HW9.out, hs6]; exact exec_allocWh rfl)) (S9) ?_
        try simp only [Act.put, List.setIfInBounds_toArray, List.set_cons_zero, List.set_cons_succ]
        refine storeJ (w' := wz) 11 (by kernel_rfl) rfl rfl (by rfl) ((by rw [HWZ.out]; exact exec_storeA 49 18 sizWh _ _ rfl s6 0 rfl _ zWh rfl rfl rfl c9 f9 one9)) ((fun _ => SZ)) ?_
        try simp only [Act.put, List.setIfInBounds_toArray, List.set_cons_zero, List.set_cons_succ]
        refine takeJ (i := 12) (v := .bool rr.1.isSome) 17 rfl rfl (by kernel_rfl) (by kernel_rfl) (by kernel_rfl) (by kernel_rfl) (fun _ _ _ h => h) (.inl ⟨by rfl, fun W hW => exec_assign _ _ rfl rfl⟩) (SZ) ?_
        try simp only [Act.put, List.setIfInBounds_toArray, List.set_cons_zero, List.set_cons_succ]
        refine takeJ (i := 13) (v := .slice ga rr.2.1.length gc) 18 rfl rfl (by kernel_rfl) (by kernel_rfl) (by kernel_rfl) (by kernel_rfl) (fun _ _ _ h => h) (.inl ⟨by rfl, fun W hW => exec_assign _ _ rfl rfl⟩) (SZ) ?_
        try simp only [Act.put, List.setIfInBounds_toArray, List.set_cons_zero, List.set_cons_succ]
        refine doneJ (by kernel_rfl) ?_ _
        have AFH := hide AF
        clear AF AF0 PG S8 S9 SZ SM hw9 c9 f9 hwz HW9 HWZ one9 hs6 hmk grm bm lm
        go_wp2
        go_meet
        exact ⟨s6, _, G', ga, gc, rfl, rfl, rfl, AFH⟩
      · obtain rfl : q = 10 := by simpa using hq
        obtain ⟨w7, hw7⟩ : ∃ w7, w7 = wm.alloc (.cells zWh.toArray 49) := ⟨_, rfl⟩
        have HW7 := hide hw7
        have b7 : Below wm.heap.size wm w7 := by rw [HW7.out]; exact later_alloc _ _
        have c7 : CellsAt w7 wm.heap.size 0 zWh := by rw [HW7.out]; exact CellsAt.new wm _ _
        have f7 : ∀ y, w7.frozen? ⟨wm.heap.size, y, none⟩ = false := by rw [HW7.out]; exact fun y => frozen_new wm _ _ _
        refine opJ_val (w' := w7) 10 16 (.pointer (some ⟨wm.heap.size, 0, none⟩)) rfl rfl (by rfl) (by rw [HW7.out]; exact exec_allocWh rfl) ?_
        have S7 : CellsAt w7 s5 0 X5 := CellsAt.later (W' := w7) SM (Nat.lt_of_lt_of_le LGD bm.size) b7
        refine ⟨fun _ => S7, ?_⟩
        simp only [Act.put, List.setIfInBounds_toArray, List.set_cons_zero, List.set_cons_succ]
        refine callJ 5 112 (by kernel_rfl) rfl rfl (by rfl) 17 #[.pointer (some ⟨b, 0, none⟩), .agg X5.toArray, .slice (some ⟨wA.drew.heap.size, 0, none⟩) (8 * sz) (8 * sz), .int .i64 2, .int .i64 0] (exec_callF _ _ _ _ rfl (map5 rfl rfl rfl rfl rfl) (enters_of Try.func17 (by kernel_rfl) rfl)) _ (PGK.out w7 _ (later bm b7) ((grm.cn.own (P' := fun _ => True) (fun _ _ _ => trivial)).later b7)) ?_
        rintro _ w8 ⟨ρ2, G', hv, dv, bv, ga, gc, rfl, PG⟩
        have S8 : CellsAt w8 s5 0 X5 := S7.but (Nat.lt_of_lt_of_le (Nat.lt_of_lt_of_le LGD bm.size) b7.size) PG.but (fun e => e.1 (by rw [cutR_lt LGD]; exact RL))
        refine ⟨S8, ?_⟩
        simp only [Act.put, List.setIfInBounds_toArray, List.set_cons_zero, List.set_cons_succ]
        refine takeJ (i := 6) (v := .tuple #[.agg (whC (outP rr.1) hv dv bv).toArray, .bool rr.1.isSome, .slice ga rr.2.1.length gc]) 106 rfl rfl (by kernel_rfl) (by kernel_rfl) (by kernel_rfl) (by kernel_rfl) (fun _ _ _ h => h) (.inl ⟨by rfl, fun W hW => exec_move _ _ rfl rfl⟩) (S8) ?_
        try simp only [Act.put, List.setIfInBounds_toArray, List.set_cons_zero, List.set_cons_succ]
        refine takeJ (i := 7) (v := .agg (whC (outP rr.1) hv dv bv).toArray) 113 rfl rfl (by kernel_rfl) (by kernel_rfl) (by kernel_rfl) (by kernel_rfl) (fun _ _ _ h => h) (.inl ⟨by rfl, fun W hW => exec_ext _ 0 [.agg (whC (outP rr.1) hv dv bv).toArray, .bool rr.1.isSome, .slice ga rr.2.1.length gc] _ rfl rfl rfl⟩) (S8) ?_
        try simp only [Act.put, List.setIfInBounds_toArray, List.set_cons_zero, List.set_cons_succ]
        refine takeJ (i := 8) (v := .bool rr.1.isSome) 114 rfl rfl (by kernel_rfl) (by kernel_rfl) (by kernel_rfl) (by kernel_rfl) (fun _ _ _ h => h) (.inl ⟨by rfl, fun W hW => exec_ext _ 1 [.agg (whC (outP rr.1) hv dv bv).toArray, .bool rr.1.isSome, .slice ga rr.2.1.length gc] _ rfl rfl rfl⟩) (S8) ?_
        try simp only [Act.put, List.setIfInBounds_toArray, List.set_cons_zero, List.set_cons_succ]
        refine takeJ (i := 9) (v := .slice ga rr.2.1.length gc) 115 rfl rfl (by kernel_rfl) (by kernel_rfl) (by kernel_rfl) (by kernel_rfl) (fun _ _ _ h => h) (.inl ⟨by rfl, fun W hW => exec_ext _ 2 [.agg (whC (outP rr.1) hv dv bv).toArray, .bool rr.1.isSome, .slice ga rr.2.1.length gc] _ rfl rfl rfl⟩) (S8) ?_
        try simp only [Act.put, List.setIfInBounds_toArray, List.set_cons_zero, List.set_cons_succ]
        obtain ⟨c9, f9, wz, hwz, AF⟩ := PG.aft3 (later bm b7) c7 f7 bm.size
        have HWZ := hide hwz
        have one9 := PG.one
        have SZ : CellsAt wz s5 0 X5 := SB.but LGD AF.but (fun e => e.1 RL)
        refine storeJ (w' := wz) 11 (by kernel_rfl) rfl rfl (by rfl) ((by rw [HWZ.out]; exact exec_storeA 49 18 sizWh _ _ rfl wm.heap.size 0 rfl _ zWh rfl rfl rfl c9 f9 one9)) ((fun _ => SZ)) ?_
        try simp only [Act.put, List.setIfInBounds_toArray, List.set_cons_zero, List.set_cons_succ]
        refine takeJ (i := 12) (v := .bool rr.1.isSome) 17 rfl rfl (by kernel_rfl) (by kernel_rfl) (by kernel_rfl) (by kernel_rfl) (fun _ _ _ h => h) (.inl ⟨by rfl, fun W hW => exec_assign _ _ rfl rfl⟩) (SZ) ?_
        try simp only [Act.put, List.setIfInBounds_toArray, List.set_cons_zero, List.set_cons_succ]
        refine takeJ (i := 13) (v := .slice ga rr.2.1.length gc) 18 rfl rfl (by kernel_rfl) (by kernel_rfl) (by kernel_rfl) (by kernel_rfl) (fun _ _ _ h => h) (.inl ⟨by rfl, fun W hW => exec_assign _ _ rfl rfl⟩) (SZ) ?_
        try simp only [Act.put, List.setIfInBounds_toArray, List.set_cons_zero, List.set_cons_succ]
        refine doneJ (by kernel_rfl) ?_ _
        have AFH := hide AF
        clear AF SZ c9 f9 hwz HWZ one9
        go_wp2
        go_meet
        exact ⟨_, _, G', ga, gc, rfl, rfl, rfl, AFH⟩
    · obtain rfl : q = 10 := by simpa using hq
      obtain ⟨w7, hw7⟩ : ∃ w7, w7 = wA.drew.alloc (.cells zWh.toArray 49) := ⟨_, rfl⟩
      have HW7 := hide hw7
      have b7 : Below wA.drew.heap.size wA.drew w7 := by rw [HW7.out]; exact later_alloc _ _
      have c7 : CellsAt w7 wA.drew.heap.size 0 zWh := by rw [HW7.out]; exact CellsAt.new wA.drew _ _
      have f7 : ∀ y, w7.frozen? ⟨wA.drew.heap.size, y, none⟩ = false := by rw [HW7.out]; exact fun y => frozen_new wA.drew _ _ _
      have l7 : wA.drew.heap.size < w7.heap.size := c7.lt (by decide)
      refine opJ_val (w' := w7) 10 16 (.pointer (some ⟨wA.drew.heap.size, 0, none⟩)) rfl rfl (by rfl) (by rw [HW7.out]; exact exec_allocWh rfl) ?_
      have S7 : CellsAt w7 s5 0 X5 := CellsAt.later (W' := w7) SB LGD b7
      refine ⟨fun _ => S7, ?_⟩
      simp only [Act.put, List.setIfInBounds_toArray, List.set_cons_zero, List.set_cons_succ]
      obtain ⟨wm, hmk, grm, bm, lm⟩ := mkB w7 (8 * sz) (by omega)
      have SM : CellsAt wm s5 0 X5 := S7.later (Nat.lt_of_lt_of_le LGD b7.size) bm
      refine nextJ (w' := wm) 4 111 (.slice (some ⟨w7.heap.size, 0, none⟩) (8 * sz) (8 * sz)) (by kernel_rfl) rfl rfl (by rfl) (exec_mkB _ _ (8 * sz) _ rfl rfl rfl hmk) SM ?_
      simp only [Act.put, List.setIfInBounds_toArray, List.set_cons_zero, List.set_cons_succ]
      refine callJ 5 112 (by kernel_rfl) rfl rfl (by rfl) 17 #[.pointer (some ⟨b, 0, none⟩), .agg X5.toArray, .slice (some ⟨w7.heap.size, 0, none⟩) (8 * sz) (8 * sz), .int .i64 2, .int .i64 0] (exec_callF _ _ _ _ rfl (map5 rfl rfl rfl rfl rfl) (enters_of Try.func17 (by kernel_rfl) rfl)) _ (PGK.out wm _ (later b7 bm) (grm.cn.own (fun _ _ _ => trivial))) ?_
      rintro _ w8 ⟨ρ2, G', hv, dv, bv, ga, gc, rfl, PG⟩
      have S8 : CellsAt w8 s5 0 X5 := SM.but (Nat.lt_of_lt_of_le (Nat.lt_of_lt_of_le LGD b7.size) bm.size) PG.but (fun e => e.1 (by rw [cutR_lt LGD]; exact RL))
      refine ⟨S8, ?_⟩
      simp only [Act.put, List.setIfInBounds_toArray, List.set_cons_zero, List.set_cons_succ]
      refine takeJ (i := 6) (v := .tuple #[.agg (whC (outP rr.1) hv dv bv).toArray, .bool rr.1.isSome, .slice ga rr.2.1.length gc]) 106 rfl rfl (by kernel_rfl) (by kernel_rfl) (by kernel_rfl) (by kernel_rfl) (fun _ _ _ h => h) (.inl ⟨by rfl, fun W hW => exec_move _ _ rfl rfl⟩) (S8) ?_
      try simp only [Act.put, List.setIfInBounds_toArray, List.set_cons_zero, List.set_cons_succ]
      refine takeJ (i := 7) (v := .agg (whC (outP rr.1) hv dv bv).toArray) 113 rfl rfl (by kernel_rfl) (by kernel_rfl) (by kernel_rfl) (by kernel_rfl) (fun _ _ _ h => h) (.inl ⟨by rfl, fun W hW => exec_ext _ 0 [.agg (whC (outP rr.1) hv dv bv).toArray, .bool rr.1.isSome, .slice ga rr.2.1.length gc] _ rfl rfl rfl⟩) (S8) ?_
      try simp only [Act.put, List.setIfInBounds_toArray, List.set_cons_zero, List.set_cons_succ]
      refine takeJ (i := 8) (v := .bool rr.1.isSome) 114 rfl rfl (by kernel_rfl) (by kernel_rfl) (by kernel_rfl) (by kernel_rfl) (fun _ _ _ h => h) (.inl ⟨by rfl, fun W hW => exec_ext _ 1 [.agg (whC (outP rr.1) hv dv bv).toArray, .bool rr.1.isSome, .slice ga rr.2.1.length gc] _ rfl rfl rfl⟩) (S8) ?_
      try simp only [Act.put, List.setIfInBounds_toArray, List.set_cons_zero, List.set_cons_succ]
      refine takeJ (i := 9) (v := .slice ga rr.2.1.length gc) 115 rfl rfl (by kernel_rfl) (by kernel_rfl) (by kernel_rfl) (by kernel_rfl) (fun _ _ _ h => h) (.inl ⟨by rfl, fun W hW => exec_ext _ 2 [.agg (whC (outP rr.1) hv dv bv).toArray, .bool rr.1.isSome, .slice ga rr.2.1.length gc] _ rfl rfl rfl⟩) (S8) ?_
      try simp only [Act.put, List.setIfInBounds_toArray, List.set_cons_zero, List.set_cons_succ]
      obtain ⟨c9, f9, wz, hwz, AF⟩ := PG.aft3 (later b7 bm) (c7.later l7 bm) (fun y => (bm.frozen (p := ⟨wA.drew.heap.size, y, none⟩) l7).trans (f7 y)) (Nat.le_refl _)
      have HWZ := hide hwz
      have one9 := PG.one
      have SZ : CellsAt wz s5 0 X5 := SB.but LGD AF.but (fun e => e.1 RL)
      refine storeJ (w' := wz) 11 (by kernel_rfl) rfl rfl (by rfl) ((by rw [HWZ.out]; exact exec_storeA 49 18 sizWh _ _ rfl wA.drew.heap.size 0 rfl _ zWh rfl rfl rfl c9 f9 one9)) ((fun _ => SZ)) ?_
      try simp only [Act.put, List.setIfInBounds_toArray, List.set_cons_zero, List.set_cons_succ]
      refine takeJ (i := 12) (v := .bool rr.1.isSome) 17 rfl rfl (by kernel_rfl) (by kernel_rfl) (by kernel_rfl) (by kernel_rfl) (fun _ _ _ h => h) (.inl ⟨by rfl, fun W hW => exec_assign _ _ rfl rfl⟩) (SZ) ?_
      try simp only [Act.put, List.setIfInBounds_toArray, List.set_cons_zero, List.set_cons_succ]
      refine takeJ (i := 13) (v := .slice ga rr.2.1.length gc) 18 rfl rfl (by kernel_rfl) (by kernel_rfl) (by kernel_rfl) (by kernel_rfl) (fun _ _ _ h => h) (.inl ⟨by rfl, fun W hW => exec_assign _ _ rfl rfl⟩) (SZ) ?_
      try simp only [Act.put, List.setIfInBounds_toArray, List.set_cons_zero, List.set_cons_succ]
      refine doneJ (by kernel_rfl) ?_ _
      have AFH := hide AF
      clear AF SZ c9 f9 hwz HWZ one9
      go_wp2
      go_meet
      exact ⟨_, _, G', ga, gc, rfl, rfl, rfl, AFH⟩
  obtain ⟨sB, ρB, GB, gaB, gcB, rfl, rfl, rfl, AFH⟩ := hcut
  obtain ⟨wB, hwB⟩ : ∃ w9, w9 = wc := ⟨_, rfl⟩
  rw [← hwB] at AFH ⊢
  have AF := AFH.out
  have AMB : Hid (AwN w0 b ρB GB wB) := AMA.out.step AF.fr AF.old AF.but
  have ABB : Hid (absG GB = rr.2.2) := AF.ab
  have ER : Hid (rr = (none, [], [mo, mp])) := by rw [HRR.out, ABA.out]; exact EQB.out
  have E1 : rr.1.isSome = false := by rw [ER.out]; rfl
  have E2 : rr.2.1.length = 0 := by rw [ER.out]; rfl
  rw [E1, E2]
  rw [ER.out] at ABB
  clear E1 E2
  clear hwB PGK HRR FD LGD RL SB AF AFH ER
  clear Cs5B Ls5B Rs5B Os5B EQB AMA ABA
  obtain ⟨s19, hs19⟩ : ∃ s, s = wB.heap.size := ⟨_, rfl⟩
  obtain ⟨x1, hx1⟩ : ∃ x, x = wB.alloc (.cells (zF.cells (.slice none 0 0)).toArray 26) := ⟨_, rfl⟩
  have d1 : CellsAt x1 s19 0 (zF.cells (.slice none 0 0)) := by rw [hx1, hs19]; exact CellsAt.new wB _ _
  have f1 : ∀ y, x1.frozen? ⟨s19, y, none⟩ = false := by rw [hx1, hs19]; exact fun y => frozen_new wB _ _ _
  have bb1 : Below wB.heap.size wB x1 := by rw [hx1]; exact later_alloc _ _
  have l1 : s19 < x1.heap.size := d1.lt (by decide)
  obtain ⟨x2, hx2⟩ : ∃ x, x = x1.setCells s19 0 X5 := ⟨_, rfl⟩
  have bx2 : But (Only s19) x1 x2 := by rw [hx2]; exact But.cells s19 _ 0 x1
  have d2 : CellsAt x2 s19 0 X5 := by rw [hx2]; exact d1.stored (by rw [LX5.out]; rfl)
  have C5B := CC5.out.but LL5.out.1 AMB.out.but LL5.out.2
  have L5B : s5 < wB.heap.size := Nat.lt_of_lt_of_le LL5.out.1 AMB.out.but.size
  have C5X := (C5B.later L5B bb1).but (Nat.lt_of_lt_of_le L5B bb1.size) bx2 (fun e => by have e : s5 = s19 := e; omega)
  have O5 : ∀ u ∈ X5, u.oneCell' = true := by rw [HX5.out]; exact pkV_one _ _ HO0.out.one
  have k514 : x2.cell? ⟨s5, 14, none⟩ = some (.int .i64 (8 * (at' : Int))) := by rw [HX5.out] at C5X; exact C5X 14 _ rfl
  have k1914 : x2.cell? ⟨s19, 14, none⟩ = some (.int .i64 (8 * (at' : Int))) := by rw [HX5.out] at d2; exact d2 14 _ rfl
  have g1914 : x2.frozen? ⟨s19, 14, none⟩ = false := by rw [hx2, World.frozen?_setCells]; exact f1 14
  obtain ⟨oq, hoq⟩ : ∃ k : Nat, k = (8 * at' + lap) / 8 * 8 := ⟨_, rfl⟩
  obtain ⟨x3, hx3⟩ : ∃ x, x = x2.setCell ⟨s19, 14, none⟩ (.int .i64 (oq : Int)) := ⟨_, rfl⟩
  have bx3 : But (Only s19) x2 x3 := by rw [hx3]; exact (But.refl (Only s19) x2).cellb (b := s19) rfl 14 _
  obtain ⟨X19, hX19⟩ : ∃ X, X = (lapP p (oq : Int)).cells ov := ⟨_, rfl⟩
  have LX19 : Hid (X19.length = 16) := by rw [hX19]; exact rfl
  have HX19 := hide hX19
  have C19 : CellsAt x3 s19 0 X19 := by
    have := d2.set 14 (.int .i64 (oq : Int))
    rw [← hx3, HX5.out] at this
    rw [hX19]
    exact this
  have z1 := bb1.size
  have z2 := bx2.size
  have z3 := bx3.size
  have BX : But (fun g => wB.heap.size ≤ g) wB x3 := (But.of_below bb1).trans ((bx2.mono (fun g e => by have e : g = s19 := e; omega)).trans (bx3.mono (fun g e => by have e : g = s19 := e; omega)))
  have AMX : Hid (AwN w0 b (cutR ρB wB.heap.size) GB x3) := AMB.out.more BX (fun g h => h)
  have Cs19C : Hid (CellsAt x3.drew s19 0 X19) := CellsAt.later (W' := x3.drew) C19 (by omega) (later_drew x3)
  have Ls19C : Hid (s19 < x3.drew.heap.size) := Nat.lt_of_lt_of_le (by omega : s19 < x3.heap.size) (later_drew x3).size
  have Rs19C : Hid ((cutR ρB wB.heap.size) s19 = ((0, 9) : Nat × Nat)) := by rw [hs19]; exact cutR_ge (Nat.le_refl _)
  have Os19C : Hid (CB (fun g => (cutR ρB wB.heap.size) g = ((0, 9) : Nat × Nat)) x3.drew ov (lapP p (oq : Int)).opts) := ((HO0.out.but AMX.out.but (fun g e e2 => by have e2 : g = b := e2; have := HB0.out; omega)).own (fun g _ e => AMX.out.low g (by have := HB0.out; omega) (by have := HB0.out; omega))).later (later_drew x3)
  have EQC' : Hid (putS (lapP p (oq : Int)) (List.replicate 8 0) 3 0 [mo, mp] = (none, [2, 3], [mo])) := by rw [hoq]; exact EQC.out
  have OQ : Hid ((8 * (at' : Int) + lap) / 8 * 8 = (oq : Int)) := by unfold Hid; rw [hoq]; omega
  have oqb : oq ≤ 1000 := by omega
  have D1 := hide d1
  have F1 := hide f1
  have CB5 := hide C5B
  have HO5 := hide O5
  have hs19' := hs19.symm
  have hx1' : wB.alloc (.cells #[.int .u8 0, .int .u8 0, .int .u8 0, .int .u8 0, .int .u8 0, .int .u8 0, .int .u8 0, .int .u8 0, .int .i64 0, .int .i64 0, .int .i64 0, .int .i64 0, .bool false, .bool false, .int .i64 0, .slice none 0 0] 26) = x1 := by rw [hx1]; rfl
  have hx2' := hx2.symm
  have hx3' := hx3.symm
  clear EQC hs19 hx1 hx2 hx3 d1 f1 bb1 l1 bx2 d2 C5B L5B C5X O5 bx3 C19 z1 z2 z3 BX hX19 hoq AMB
  go_upto_region 15 with (first | refine wpList_loadA rfl 26 16 aggP sizP _ rfl s5 0 rfl X5 LX5.out CB5.out ?_ | (refine wpList_storeA rfl 26 16 sizP _ _ rfl s19 0 rfl X5 (zF.cells (.slice none 0 0)) rfl LX5.out rfl D1.out F1.out HO5.out ?_; intro _; rw [hx2']))
  rw [OQ.out, hx3']
  clear hx1' hx2' hx3' hs19' D1 F1 CB5 HO5 k514 k1914 g1914 OQ
  have EQC := hide EQC'.out
  clear EQC'
  go_upto_region 15 with fail
  obtain ⟨rr, hrr⟩ : ∃ rr, rr = putS (lapP p (oq : Int)) (List.replicate 8 0) 3 0 (absG GB) := ⟨_, rfl⟩
  have HRR := hide hrr
  clear hrr
  have FD := AMX.out.fr.later (later_drew x3)
  have LGD : s19 < x3.drew.heap.size := Ls19C.out
  have RL : (cutR ρB wB.heap.size) s19 = (0, 9) := Rs19C.out
  have SB : CellsAt x3.drew s19 0 X19 := Cs19C.out
  have PGK : Hid (∀ (wX : World) (gm : Nat), Below x3.drew.heap.size x3.drew wX → CB (fun _ => True) wX (.slice (some ⟨gm, 0, none⟩) 8 8) (List.replicate 8 0) → Calls Try.prog 17 #[.pointer (some ⟨b, 0, none⟩), .agg X19.toArray, .slice (some ⟨gm, 0, none⟩) 8 8, .int .i64 3, .int .i64 0] wX fun e w' => ∃ v, e = .returned v ∧ ∃ (ρ' : Nat → Nat × Nat) (G' : List (Nat × Gm)) (hv dv bv : Value) (ga : Option Addr) (gc : Nat), v = .tuple #[.agg (whC (outP rr.1) hv dv bv).toArray, .bool rr.1.isSome, .slice ga rr.2.1.length gc] ∧ PutGot wX w' (cutR (cutR ρB wB.heap.size) x3.drew.heap.size) ρ' b G' rr hv dv bv (.slice ga rr.2.1.length gc)) := fun wX gm hX hD => by
    rw [HX19.out]
    exact put_got (FD.cut.later hX) (by rw [ABB.out]; exact OK2.out) (lapP p (oq : Int)) _ ((Os19C.out.own (P' := fun g => cutR (cutR ρB wB.heap.size) x3.drew.heap.size g = (0, 9)) (fun g hg e => by rw [cutR_lt hg]; exact e)).later hX) HOL.out _ _ hD (by rw [List.length_replicate]; omega) (by show (-9223372036854775808 : Int) ≤ (oq : Int); omega) (by show (oq : Int) ≤ 9223372036854775807; omega) 3 0 rr HRR.out.symm
  go_cut [20, 21, 22] from 124 to 131 (fun v6 v7 v8 wx => ∃ (s6 : Nat) (ρ' : Nat → Nat × Nat) (G' : List (Nat × Gm)) (ga : Option Addr) (gc : Nat), v6 = .pointer (some ⟨s6, 0, none⟩) ∧ v7 = .bool rr.1.isSome ∧ v8 = .slice ga rr.2.1.length gc ∧ Hid (PutAft x3.drew wx (cutR ρB wB.heap.size) ρ' b G' rr s6 (.slice ga rr.2.1.length gc)))
  case first =>
    refine regionJ (fun _ => true) (fun W => CellsAt W s19 0 X19) (by kernel_rfl) ?_
    refine takeJ (i := 0) (v := .pointer (some ⟨b, 0, none⟩)) 125 rfl rfl (by kernel_rfl) (by kernel_rfl) (by kernel_rfl) (by kernel_rfl) (fun _ _ _ h => h) (.inl ⟨by rfl, fun W hW => exec_move _ _ rfl rfl⟩) (SB) ?_
    try simp only [Act.put, List.setIfInBounds_toArray, List.set_cons_zero, List.set_cons_succ]
    refine takeJ (i := 1) (v := .agg X19.toArray) 126 rfl rfl (by kernel_rfl) (by kernel_rfl) (by kernel_rfl) (by kernel_rfl) (fun _ _ _ h => h) (.inl ⟨by rfl, fun W hW => exec_loadA 26 16 aggP sizP _ rfl s19 0 rfl X19 LX19.out hW⟩) (SB) ?_
    try simp only [Act.put, List.setIfInBounds_toArray, List.set_cons_zero, List.set_cons_succ]
    refine allJ (rs := [2, 8]) (by kernel_rfl) (by simp) (fun q hq => ?_)
    rcases List.mem_cons.1 hq with rfl | hq
    · obtain ⟨wm, hmk, grm, bm, lm⟩ := mkB x3.drew 8 (by omega)
      refine opJ_val (w' := wm) 2 127 (.slice (some ⟨x3.drew.heap.size, 0, none⟩) 8 8) rfl rfl (by rfl) (exec_mkB _ _ 8 _ rfl rfl rfl hmk) ?_
      have SM : CellsAt wm s19 0 X19 := SB.later LGD bm
      refine ⟨fun _ => SM, ?_⟩
      simp only [Act.put, List.setIfInBounds_toArray, List.set_cons_zero, List.set_cons_succ]
      refine allJ (rs := [3, 8]) (by kernel_rfl) (by simp) (fun q hq => ?_)
      rcases List.mem_cons.1 hq with rfl | hq
      · refine opJ_call 3 128 rfl rfl (by rfl) 17 #[.pointer (some ⟨b, 0, none⟩), .agg X19.toArray, .slice (some ⟨x3.drew.heap.size, 0, none⟩) 8 8, .int .i64 3, .int .i64 0] (exec_callF _ _ _ _ rfl (map5 rfl rfl rfl rfl rfl) (enters_of Try.func17 (by kernel_rfl) rfl)) _ (PGK.out wm _ bm (grm.cn.own (fun _ _ _ => trivial))) ?_
        rintro _ w8 ⟨_, G', hv, dv, bv, ga, gc, rfl, PG⟩
        have S8 : CellsAt w8 s19 0 X19 := SM.but (Nat.lt_of_lt_of_le LGD bm.size) PG.but (fun e => e.1 (by rw [cutR_lt LGD]; exact RL))
        refine ⟨fun _ => S8, ?_⟩
        simp only [Act.put, List.setIfInBounds_toArray, List.set_cons_zero, List.set_cons_succ]
        refine takeJ (i := 4) (v := .tuple #[.agg (whC (outP rr.1) hv dv bv).toArray, .bool rr.1.isSome, .slice ga rr.2.1.length gc]) 124 rfl rfl (by kernel_rfl) (by kernel_rfl) (by kernel_rfl) (by kernel_rfl) (fun _ _ _ h => h) (.inl ⟨by rfl, fun W hW => exec_move _ _ rfl rfl⟩) (S8) ?_
        try simp only [Act.put, List.setIfInBounds_toArray, List.set_cons_zero, List.set_cons_succ]
        refine takeJ (i := 5) (v := .agg (whC (outP rr.1) hv dv bv).toArray) 129 rfl rfl (by kernel_rfl) (by kernel_rfl) (by kernel_rfl) (by kernel_rfl) (fun _ _ _ h => h) (.inl ⟨by rfl, fun W hW => exec_ext _ 0 [.agg (whC (outP rr.1) hv dv bv).toArray, .bool rr.1.isSome, .slice ga rr.2.1.length gc] _ rfl rfl rfl⟩) (S8) ?_
        try simp only [Act.put, List.setIfInBounds_toArray, List.set_cons_zero, List.set_cons_succ]
        refine takeJ (i := 6) (v := .bool rr.1.isSome) 130 rfl rfl (by kernel_rfl) (by kernel_rfl) (by kernel_rfl) (by kernel_rfl) (fun _ _ _ h => h) (.inl ⟨by rfl, fun W hW => exec_ext _ 1 [.agg (whC (outP rr.1) hv dv bv).toArray, .bool rr.1.isSome, .slice ga rr.2.1.length gc] _ rfl rfl rfl⟩) (S8) ?_
        try simp only [Act.put, List.setIfInBounds_toArray, List.set_cons_zero, List.set_cons_succ]
        refine takeJ (i := 7) (v := .slice ga rr.2.1.length gc) 131 rfl rfl (by kernel_rfl) (by kernel_rfl) (by kernel_rfl) (by kernel_rfl) (fun _ _ _ h => h) (.inl ⟨by rfl, fun W hW => exec_ext _ 2 [.agg (whC (outP rr.1) hv dv bv).toArray, .bool rr.1.isSome, .slice ga rr.2.1.length gc] _ rfl rfl rfl⟩) (S8) ?_
        try simp only [Act.put, List.setIfInBounds_toArray, List.set_cons_zero, List.set_cons_succ]
        obtain ⟨w9, wz, ρ2, hw9, c9, f9, hwz, AF0⟩ := PG.aft
        have AF := PutAft.base bm AF0
        have HW9 := hide hw9
        have HWZ := hide hwz
        have one9 := PG.one
        obtain ⟨s6, hs6⟩ : ∃ s6, s6 = w8.heap.size := ⟨_, rfl⟩
        rw [← hs6] at c9 f9 hwz AF HWZ
        have S9 : CellsAt w9 s19 0 X19 := CellsAt.later (W' := w9) S8 (Nat.lt_of_lt_of_le (Nat.lt_of_lt_of_le LGD bm.size) PG.but.size) (by rw [HW9.out]; exact later_alloc _ _)
        have SZ : CellsAt wz s19 0 X19 := SB.but LGD AF.but (fun e => e.1 RL)
        refine nextJ (w' := w9) 8 20 (.pointer (some ⟨s6, 0, none⟩)) (by kernel_rfl) rfl rfl (by rfl) ((by rw [HW9.out, hs6]; exact exec_allocWh rfl)) (S9) ?_
        try simp only [Act.put, List.setIfInBounds_toArray, List.set_cons_zero, List.set_cons_succ]
        refine storeJ (w' := wz) 9 (by kernel_rfl) rfl rfl (by rfl) ((by rw [HWZ.out]; exact exec_storeA 49 18 sizWh _ _ rfl s6 0 rfl _ zWh rfl rfl rfl c9 f9 one9)) ((fun _ => SZ)) ?_
        try simp only [Act.put, List.setIfInBounds_toArray, List.set_cons_zero, List.set_cons_succ]
        refine takeJ (i := 10) (v := .bool rr.1.isSome) 21 rfl rfl (by kernel_rfl) (by kernel_rfl) (by kernel_rfl) (by kernel_rfl) (fun _ _ _ h => h) (.inl ⟨by rfl, fun W hW => exec_assign _ _ rfl rfl⟩) (SZ) ?_
        try simp only [Act.put, List.setIfInBounds_toArray, List.set_cons_zero, List.set_cons_succ]
        refine takeJ (i := 11) (v := .slice ga rr.2.1.length gc) 22 rfl rfl (by kernel_rfl) (by kernel_rfl) (by kernel_rfl) (by kernel_rfl) (fun _ _ _ h => h) (.inl ⟨by rfl, fun W hW => exec_assign _ _ rfl rfl⟩) (SZ) ?_
        try simp only [Act.put, List.setIfInBounds_toArray, List.set_cons_zero, List.set_cons_succ]
        refine doneJ (by kernel_rfl) ?_ _
        have AFH := hide AF
        clear AF AF0 PG S8 S9 SZ SM hw9 c9 f9 hwz HW9 HWZ one9 hs6 hmk grm bm lm
        go_wp2
        go_meet
        exact ⟨s6, _, G', ga, gc, rfl, rfl, rfl, AFH⟩
      · obtain rfl : q = 8 := by simpa using hq
        obtain ⟨w7, hw7⟩ : ∃ w7, w7 = wm.alloc (.cells zWh.toArray 49) := ⟨_, rfl⟩
        have HW7 := hide hw7
        have b7 : Below wm.heap.size wm w7 := by rw [HW7.out]; exact later_alloc _ _
        have c7 : CellsAt w7 wm.heap.size 0 zWh := by rw [HW7.out]; exact CellsAt.new wm _ _
        have f7 : ∀ y, w7.frozen? ⟨wm.heap.size, y, none⟩ = false := by rw [HW7.out]; exact fun y => frozen_new wm _ _ _
        refine opJ_val (w' := w7) 8 20 (.pointer (some ⟨wm.heap.size, 0, none⟩)) rfl rfl (by rfl) (by rw [HW7.out]; exact exec_allocWh rfl) ?_
        have S7 : CellsAt w7 s19 0 X19 := CellsAt.later (W' := w7) SM (Nat.lt_of_lt_of_le LGD bm.size) b7
        refine ⟨fun _ => S7, ?_⟩
        simp only [Act.put, List.setIfInBounds_toArray, List.set_cons_zero, List.set_cons_succ]
        refine callJ 3 128 (by kernel_rfl) rfl rfl (by rfl) 17 #[.pointer (some ⟨b, 0, none⟩), .agg X19.toArray, .slice (some ⟨x3.drew.heap.size, 0, none⟩) 8 8, .int .i64 3, .int .i64 0] (exec_callF _ _ _ _ rfl (map5 rfl rfl rfl rfl rfl) (enters_of Try.func17 (by kernel_rfl) rfl)) _ (PGK.out w7 _ (later bm b7) ((grm.cn.own (P' := fun _ => True) (fun _ _ _ => trivial)).later b7)) ?_
        rintro _ w8 ⟨ρ2, G', hv, dv, bv, ga, gc, rfl, PG⟩
        have S8 : CellsAt w8 s19 0 X19 := S7.but (Nat.lt_of_lt_of_le (Nat.lt_of_lt_of_le LGD bm.size) b7.size) PG.but (fun e => e.1 (by rw [cutR_lt LGD]; exact RL))
        refine ⟨S8, ?_⟩
        simp only [Act.put, List.setIfInBounds_toArray, List.set_cons_zero, List.set_cons_succ]
        refine takeJ (i := 4) (v := .tuple #[.agg (whC (outP rr.1) hv dv bv).toArray, .bool rr.1.isSome, .slice ga rr.2.1.length gc]) 124 rfl rfl (by kernel_rfl) (by kernel_rfl) (by kernel_rfl) (by kernel_rfl) (fun _ _ _ h => h) (.inl ⟨by rfl, fun W hW => exec_move _ _ rfl rfl⟩) (S8) ?_
        try simp only [Act.put, List.setIfInBounds_toArray, List.set_cons_zero, List.set_cons_succ]
        refine takeJ (i := 5) (v := .agg (whC (outP rr.1) hv dv bv).toArray) 129 rfl rfl (by kernel_rfl) (by kernel_rfl) (by kernel_rfl) (by kernel_rfl) (fun _ _ _ h => h) (.inl ⟨by rfl, fun W hW => exec_ext _ 0 [.agg (whC (outP rr.1) hv dv bv).toArray, .bool rr.1.isSome, .slice ga rr.2.1.length gc] _ rfl rfl rfl⟩) (S8) ?_
        try simp only [Act.put, List.setIfInBounds_toArray, List.set_cons_zero, List.set_cons_succ]
        refine takeJ (i := 6) (v := .bool rr.1.isSome) 130 rfl rfl (by kernel_rfl) (by kernel_rfl) (by kernel_rfl) (by kernel_rfl) (fun _ _ _ h => h) (.inl ⟨by rfl, fun W hW => exec_ext _ 1 [.agg (whC (outP rr.1) hv dv bv).toArray, .bool rr.1.isSome, .slice ga rr.2.1.length gc] _ rfl rfl rfl⟩) (S8) ?_
        try simp only [Act.put, List.setIfInBounds_toArray, List.set_cons_zero, List.set_cons_succ]
        refine takeJ (i := 7) (v := .slice ga rr.2.1.length gc) 131 rfl rfl (by kernel_rfl) (by kernel_rfl) (by kernel_rfl) (by kernel_rfl) (fun _ _ _ h => h) (.inl ⟨by rfl, fun W hW => exec_ext _ 2 [.agg (whC (outP rr.1) hv dv bv).toArray, .bool rr.1.isSome, .slice ga rr.2.1.length gc] _ rfl rfl rfl⟩) (S8) ?_
        try simp only [Act.put, List.setIfInBounds_toArray, List.set_cons_zero, List.set_cons_succ]
        obtain ⟨c9, f9, wz, hwz, AF⟩ := PG.aft3 (later bm b7) c7 f7 bm.size
        have HWZ := hide hwz
        have one9 := PG.one
        have SZ : CellsAt wz s19 0 X19 := SB.but LGD AF.but (fun e => e.1 RL)
        refine storeJ (w' := wz) 9 (by kernel_rfl) rfl rfl (by rfl) ((by rw [HWZ.out]; exact exec_storeA 49 18 sizWh _ _ rfl wm.heap.size 0 rfl _ zWh rfl rfl rfl c9 f9 one9)) ((fun _ => SZ)) ?_
        try simp only [Act.put, List.setIfInBounds_toArray, List.set_cons_zero, List.set_cons_succ]
        refine takeJ (i := 10) (v := .bool rr.1.isSome) 21 rfl rfl (by kernel_rfl) (by kernel_rfl) (by kernel_rfl) (by kernel_rfl) (fun _ _ _ h => h) (.inl ⟨by rfl, fun W hW => exec_assign _ _ rfl rfl⟩) (SZ) ?_
        try simp only [Act.put, List.setIfInBounds_toArray, List.set_cons_zero, List.set_cons_succ]
        refine takeJ (i := 11) (v := .slice ga rr.2.1.length gc) 22 rfl rfl (by kernel_rfl) (by kernel_rfl) (by kernel_rfl) (by kernel_rfl) (fun _ _ _ h => h) (.inl ⟨by rfl, fun W hW => exec_assign _ _ rfl rfl⟩) (SZ) ?_
        try simp only [Act.put, List.setIfInBounds_toArray, List.set_cons_zero, List.set_cons_succ]
        refine doneJ (by kernel_rfl) ?_ _
        have AFH := hide AF
        clear AF SZ c9 f9 hwz HWZ one9
        go_wp2
        go_meet
        exact ⟨_, _, G', ga, gc, rfl, rfl, rfl, AFH⟩
    · obtain rfl : q = 8 := by simpa using hq
      obtain ⟨w7, hw7⟩ : ∃ w7, w7 = x3.drew.alloc (.cells zWh.toArray 49) := ⟨_, rfl⟩
      have HW7 := hide hw7
      have b7 : Below x3.drew.heap.size x3.drew w7 := by rw [HW7.out]; exact later_alloc _ _
      have c7 : CellsAt w7 x3.drew.heap.size 0 zWh := by rw [HW7.out]; exact CellsAt.new x3.drew _ _
      have f7 : ∀ y, w7.frozen? ⟨x3.drew.heap.size, y, none⟩ = false := by rw [HW7.out]; exact fun y => frozen_new x3.drew _ _ _
      have l7 : x3.drew.heap.size < w7.heap.size := c7.lt (by decide)
      refine opJ_val (w' := w7) 8 20 (.pointer (some ⟨x3.drew.heap.size, 0, none⟩)) rfl rfl (by rfl) (by rw [HW7.out]; exact exec_allocWh rfl) ?_
      have S7 : CellsAt w7 s19 0 X19 := CellsAt.later (W' := w7) SB LGD b7
      refine ⟨fun _ => S7, ?_⟩
      simp only [Act.put, List.setIfInBounds_toArray, List.set_cons_zero, List.set_cons_succ]
      obtain ⟨wm, hmk, grm, bm, lm⟩ := mkB w7 8 (by omega)
      have SM : CellsAt wm s19 0 X19 := S7.later (Nat.lt_of_lt_of_le LGD b7.size) bm
      refine nextJ (w' := wm) 2 127 (.slice (some ⟨w7.heap.size, 0, none⟩) 8 8) (by kernel_rfl) rfl rfl (by rfl) (exec_mkB _ _ 8 _ rfl rfl rfl hmk) SM ?_
      simp only [Act.put, List.setIfInBounds_toArray, List.set_cons_zero, List.set_cons_succ]
      refine callJ 3 128 (by kernel_rfl) rfl rfl (by rfl) 17 #[.pointer (some ⟨b, 0, none⟩), .agg X19.toArray, .slice (some ⟨w7.heap.size, 0, none⟩) 8 8, .int .i64 3, .int .i64 0] (exec_callF _ _ _ _ rfl (map5 rfl rfl rfl rfl rfl) (enters_of Try.func17 (by kernel_rfl) rfl)) _ (PGK.out wm _ (later b7 bm) (grm.cn.own (fun _ _ _ => trivial))) ?_
      rintro _ w8 ⟨ρ2, G', hv, dv, bv, ga, gc, rfl, PG⟩
      have S8 : CellsAt w8 s19 0 X19 := SM.but (Nat.lt_of_lt_of_le (Nat.lt_of_lt_of_le LGD b7.size) bm.size) PG.but (fun e => e.1 (by rw [cutR_lt LGD]; exact RL))
      refine ⟨S8, ?_⟩
      simp only [Act.put, List.setIfInBounds_toArray, List.set_cons_zero, List.set_cons_succ]
      refine takeJ (i := 4) (v := .tuple #[.agg (whC (outP rr.1) hv dv bv).toArray, .bool rr.1.isSome, .slice ga rr.2.1.length gc]) 124 rfl rfl (by kernel_rfl) (by kernel_rfl) (by kernel_rfl) (by kernel_rfl) (fun _ _ _ h => h) (.inl ⟨by rfl, fun W hW => exec_move _ _ rfl rfl⟩) (S8) ?_
      try simp only [Act.put, List.setIfInBounds_toArray, List.set_cons_zero, List.set_cons_succ]
      refine takeJ (i := 5) (v := .agg (whC (outP rr.1) hv dv bv).toArray) 129 rfl rfl (by kernel_rfl) (by kernel_rfl) (by kernel_rfl) (by kernel_rfl) (fun _ _ _ h => h) (.inl ⟨by rfl, fun W hW => exec_ext _ 0 [.agg (whC (outP rr.1) hv dv bv).toArray, .bool rr.1.isSome, .slice ga rr.2.1.length gc] _ rfl rfl rfl⟩) (S8) ?_
      try simp only [Act.put, List.setIfInBounds_toArray, List.set_cons_zero, List.set_cons_succ]
      refine takeJ (i := 6) (v := .bool rr.1.isSome) 130 rfl rfl (by kernel_rfl) (by kernel_rfl) (by kernel_rfl) (by kernel_rfl) (fun _ _ _ h => h) (.inl ⟨by rfl, fun W hW => exec_ext _ 1 [.agg (whC (outP rr.1) hv dv bv).toArray, .bool rr.1.isSome, .slice ga rr.2.1.length gc] _ rfl rfl rfl⟩) (S8) ?_
      try simp only [Act.put, List.setIfInBounds_toArray, List.set_cons_zero, List.set_cons_succ]
      refine takeJ (i := 7) (v := .slice ga rr.2.1.length gc) 131 rfl rfl (by kernel_rfl) (by kernel_rfl) (by kernel_rfl) (by kernel_rfl) (fun _ _ _ h => h) (.inl ⟨by rfl, fun W hW => exec_ext _ 2 [.agg (whC (outP rr.1) hv dv bv).toArray, .bool rr.1.isSome, .slice ga rr.2.1.length gc] _ rfl rfl rfl⟩) (S8) ?_
      try simp only [Act.put, List.setIfInBounds_toArray, List.set_cons_zero, List.set_cons_succ]
      obtain ⟨c9, f9, wz, hwz, AF⟩ := PG.aft3 (later b7 bm) (c7.later l7 bm) (fun y => (bm.frozen (p := ⟨x3.drew.heap.size, y, none⟩) l7).trans (f7 y)) (Nat.le_refl _)
      have HWZ := hide hwz
      have one9 := PG.one
      have SZ : CellsAt wz s19 0 X19 := SB.but LGD AF.but (fun e => e.1 RL)
      refine storeJ (w' := wz) 9 (by kernel_rfl) rfl rfl (by rfl) ((by rw [HWZ.out]; exact exec_storeA 49 18 sizWh _ _ rfl x3.drew.heap.size 0 rfl _ zWh rfl rfl rfl c9 f9 one9)) ((fun _ => SZ)) ?_
      try simp only [Act.put, List.setIfInBounds_toArray, List.set_cons_zero, List.set_cons_succ]
      refine takeJ (i := 10) (v := .bool rr.1.isSome) 21 rfl rfl (by kernel_rfl) (by kernel_rfl) (by kernel_rfl) (by kernel_rfl) (fun _ _ _ h => h) (.inl ⟨by rfl, fun W hW => exec_assign _ _ rfl rfl⟩) (SZ) ?_
      try simp only [Act.put, List.setIfInBounds_toArray, List.set_cons_zero, List.set_cons_succ]
      refine takeJ (i := 11) (v := .slice ga rr.2.1.length gc) 22 rfl rfl (by kernel_rfl) (by kernel_rfl) (by kernel_rfl) (by kernel_rfl) (fun _ _ _ h => h) (.inl ⟨by rfl, fun W hW => exec_assign _ _ rfl rfl⟩) (SZ) ?_
      try simp only [Act.put, List.setIfInBounds_toArray, List.set_cons_zero, List.set_cons_succ]
      refine doneJ (by kernel_rfl) ?_ _
      have AFH := hide AF
      clear AF SZ c9 f9 hwz HWZ one9
      go_wp2
      go_meet
      exact ⟨_, _, G', ga, gc, rfl, rfl, rfl, AFH⟩
  obtain ⟨sC, ρC, GC, gaC, gcC, rfl, rfl, rfl, AFH⟩ := hcut
  obtain ⟨wC, hwC⟩ : ∃ w9, w9 = wc := ⟨_, rfl⟩
  rw [← hwC] at AFH ⊢
  have AF := AFH.out
  have AMC : Hid (AwN w0 b ρC GC wC) := AMX.out.step AF.fr AF.old AF.but
  have ABC : Hid (absG GC = rr.2.2) := AF.ab
  have ER : Hid (rr = (none, [2, 3], [mo])) := by rw [HRR.out, ABB.out]; exact EQC.out
  have E1 : rr.1.isSome = false := by rw [ER.out]; rfl
  have E2 : rr.2.1.length = 2 := by rw [ER.out]; rfl
  have G5 : Hid (RowN (fun _ => True) wC (.slice gaC 2 gcC) [2, 3]) := by
    obtain ⟨_, _, _, _, _, _, _, _, k5, _⟩ := AF.x
    rw [E2, ER.out] at k5
    exact k5.own (fun _ _ _ => trivial)
  rw [E1, E2]
  rw [ER.out] at ABC
  clear E1 E2
  clear hwC PGK HRR FD LGD RL SB AF AFH ER
  clear Cs19C Ls19C Rs19C Os19C EQC AMX ABB OK2 HX19 LX19 oqb
  obtain ⟨bg, bo, rfl, _, _, bcell⟩ := G5.out.at (by decide)
  have z0 : wC.cell? ⟨bg, bo, none⟩ = some (.int .i64 2) := bcell 0 2 rfl
  have z1 : wC.cell? ⟨bg, bo + 1, none⟩ = some (.int .i64 3) := bcell 1 3 rfl
  have LEN : Hid (Calls Try.prog 23 #[.pointer (some ⟨b, 0, none⟩)] wC fun e w' => e = .returned (.int .i64 1) ∧ w' = wC) := by
    obtain ⟨va, vc, cv, _⟩ := AMC.out.fr.at
    have gl : GC.length = 1 := by have := congrArg List.length ABC.out; simpa [absG] using this
    rw [gl] at cv
    exact fLen_any wC b va 1 vc cv
  clear bcell G5
  go_wp2_with fail
  refine LEN.out.mono ?_
  rintro _ wq ⟨rfl, hwq⟩
  rw [hwq]
  clear hwq wq LEN z0 z1
  have Cs5E : Hid (CellsAt wC.drew s5 0 X5) := CellsAt.later (W' := wC.drew) (CC5.out.but LL5.out.1 AMC.out.but LL5.out.2) (Nat.lt_of_lt_of_le LL5.out.1 AMC.out.but.size) (later_drew wC)
  have Ls5E : Hid (s5 < wC.drew.heap.size) := Nat.lt_of_lt_of_le (Nat.lt_of_lt_of_le LL5.out.1 AMC.out.but.size) (later_drew wC).size
  have Rs5E : Hid ((ρC) s5 = ((0, 9) : Nat × Nat)) := AMC.out.low _ LL5.out.1 LL5.out.2
  have Os5E : Hid (CB (fun g => (ρC) g = ((0, 9) : Nat × Nat)) wC.drew ov (lapP p (8 * (at' : Int))).opts) := ((HO0.out.but AMC.out.but (fun g e e2 => by have e2 : g = b := e2; have := HB0.out; omega)).own (fun g _ e => AMC.out.low g (by have := HB0.out; omega) (by have := HB0.out; omega))).later (later_drew wC)
  go_upto_region 18 with fail
  obtain ⟨rr, hrr⟩ : ∃ rr, rr = putS (lapP p (8 * (at' : Int))) (List.replicate (8 * sz) 0) 4 0 (absG GC) := ⟨_, rfl⟩
  have HRR := hide hrr
  clear hrr
  have FD := AMC.out.fr.later (later_drew wC)
  have LGD : s5 < wC.drew.heap.size := Ls5E.out
  have RL : (ρC) s5 = (0, 9) := Rs5E.out
  have SB : CellsAt wC.drew s5 0 X5 := Cs5E.out
  have PGK : Hid (∀ (wX : World) (gm : Nat), Below wC.drew.heap.size wC.drew wX → CB (fun _ => True) wX (.slice (some ⟨gm, 0, none⟩) (8 * sz) (8 * sz)) (List.replicate (8 * sz) 0) → Calls Try.prog 17 #[.pointer (some ⟨b, 0, none⟩), .agg X5.toArray, .slice (some ⟨gm, 0, none⟩) (8 * sz) (8 * sz), .int .i64 4, .int .i64 0] wX fun e w' => ∃ v, e = .returned v ∧ ∃ (ρ' : Nat → Nat × Nat) (G' : List (Nat × Gm)) (hv dv bv : Value) (ga : Option Addr) (gc : Nat), v = .tuple #[.agg (whC (outP rr.1) hv dv bv).toArray, .bool rr.1.isSome, .slice ga rr.2.1.length gc] ∧ PutGot wX w' (cutR (ρC) wC.drew.heap.size) ρ' b G' rr hv dv bv (.slice ga rr.2.1.length gc)) := fun wX gm hX hD => by
    rw [HX5.out]
    exact put_got (FD.cut.later hX) (by rw [ABC.out]; exact OK1.out) (lapP p (8 * (at' : Int))) _ ((Os5E.out.own (P' := fun g => cutR (ρC) wC.drew.heap.size g = (0, 9)) (fun g hg e => by rw [cutR_lt hg]; exact e)).later hX) HOL.out _ _ hD (by rw [List.length_replicate]; omega) (by show (-9223372036854775808 : Int) ≤ 8 * (at' : Int); omega) (by show 8 * (at' : Int) ≤ 9223372036854775807; omega) 4 0 rr HRR.out.symm
  go_cut [23, 24, 25] from 171 to 180 (fun v6 v7 v8 wx => ∃ (s6 : Nat) (ρ' : Nat → Nat × Nat) (G' : List (Nat × Gm)) (ga : Option Addr) (gc : Nat), v6 = .pointer (some ⟨s6, 0, none⟩) ∧ v7 = .bool rr.1.isSome ∧ v8 = .slice ga rr.2.1.length gc ∧ Hid (PutAft wC.drew wx (ρC) ρ' b G' rr s6 (.slice ga rr.2.1.length gc)))
  case first =>
    refine regionJ (fun _ => true) (fun W => CellsAt W s5 0 X5) (by kernel_rfl) ?_
    refine takeJ (i := 0) (v := .pointer (some ⟨b, 0, none⟩)) 172 rfl rfl (by kernel_rfl) (by kernel_rfl) (by kernel_rfl) (by kernel_rfl) (fun _ _ _ h => h) (.inl ⟨by rfl, fun W hW => exec_move _ _ rfl rfl⟩) (SB) ?_
    try simp only [Act.put, List.setIfInBounds_toArray, List.set_cons_zero, List.set_cons_succ]
    refine takeJ (i := 1) (v := .agg X5.toArray) 173 rfl rfl (by kernel_rfl) (by kernel_rfl) (by kernel_rfl) (by kernel_rfl) (fun _ _ _ h => h) (.inl ⟨by rfl, fun W hW => exec_loadA 26 16 aggP sizP _ rfl s5 0 rfl X5 LX5.out hW⟩) (SB) ?_
    try simp only [Act.put, List.setIfInBounds_toArray, List.set_cons_zero, List.set_cons_succ]
    refine takeJ (i := 2) (v := .int .i64 (sz : Int)) 174 rfl rfl (by kernel_rfl) (by kernel_rfl) (by kernel_rfl) (by kernel_rfl) (fun _ _ _ h => h) (.inl ⟨by rfl, fun W hW => exec_move _ _ rfl rfl⟩) (SB) ?_
    try simp only [Act.put, List.setIfInBounds_toArray, List.set_cons_zero, List.set_cons_succ]
    refine takeJ (i := 3) (v := .int .i64 ((8 * sz : Nat) : Int)) 175 rfl rfl (by kernel_rfl) (by kernel_rfl) (by kernel_rfl) (by kernel_rfl) (fun _ _ _ h => h) (.inl ⟨by rfl, fun W hW => exec_mul8 _ _ rfl rfl HSZ.out⟩) (SB) ?_
    try simp only [Act.put, List.setIfInBounds_toArray, List.set_cons_zero, List.set_cons_succ]
    refine allJ (rs := [4, 10]) (by kernel_rfl) (by simp) (fun q hq => ?_)
    rcases List.mem_cons.1 hq with rfl | hq
    · obtain ⟨wm, hmk, grm, bm, lm⟩ := mkB wC.drew (8 * sz) (by omega)
      refine opJ_val (w' := wm) 4 176 (.slice (some ⟨wC.drew.heap.size, 0, none⟩) (8 * sz) (8 * sz)) rfl rfl (by rfl) (exec_mkB _ _ (8 * sz) _ rfl rfl rfl hmk) ?_
      have SM : CellsAt wm s5 0 X5 := SB.later LGD bm
      refine ⟨fun _ => SM, ?_⟩
      simp only [Act.put, List.setIfInBounds_toArray, List.set_cons_zero, List.set_cons_succ]
      refine allJ (rs := [5, 10]) (by kernel_rfl) (by simp) (fun q hq => ?_)
      rcases List.mem_cons.1 hq with rfl | hq
      · refine opJ_call 5 177 rfl rfl (by rfl) 17 #[.pointer (some ⟨b, 0, none⟩), .agg X5.toArray, .slice (some ⟨wC.drew.heap.size, 0, none⟩) (8 * sz) (8 * sz), .int .i64 4, .int .i64 0] (exec_callF _ _ _ _ rfl (map5 rfl rfl rfl rfl rfl) (enters_of Try.func17 (by kernel_rfl) rfl)) _ (PGK.out wm _ bm (grm.cn.own (fun _ _ _ => trivial))) ?_
        rintro _ w8 ⟨_, G', hv, dv, bv, ga, gc, rfl, PG⟩
        have S8 : CellsAt w8 s5 0 X5 := SM.but (Nat.lt_of_lt_of_le LGD bm.size) PG.but (fun e => e.1 (by rw [cutR_lt LGD]; exact RL))
        refine ⟨fun _ => S8, ?_⟩
        simp only [Act.put, List.setIfInBounds_toArray, List.set_cons_zero, List.set_cons_succ]
        refine takeJ (i := 6) (v := .tuple #[.agg (whC (outP rr.1) hv dv bv).toArray, .bool rr.1.isSome, .slice ga rr.2.1.length gc]) 171 rfl rfl (by kernel_rfl) (by kernel_rfl) (by kernel_rfl) (by kernel_rfl) (fun _ _ _ h => h) (.inl ⟨by rfl, fun W hW => exec_move _ _ rfl rfl⟩) (S8) ?_
        try simp only [Act.put, List.setIfInBounds_toArray, List.set_cons_zero, List.set_cons_succ]
        refine takeJ (i := 7) (v := .agg (whC (outP rr.1) hv dv bv).toArray) 178 rfl rfl (by kernel_rfl) (by kernel_rfl) (by kernel_rfl) (by kernel_rfl) (fun _ _ _ h => h) (.inl ⟨by rfl, fun W hW => exec_ext _ 0 [.agg (whC (outP rr.1) hv dv bv).toArray, .bool rr.1.isSome, .slice ga rr.2.1.length gc] _ rfl rfl rfl⟩) (S8) ?_
        try simp only [Act.put, List.setIfInBounds_toArray, List.set_cons_zero, List.set_cons_succ]
        refine takeJ (i := 8) (v := .bool rr.1.isSome) 179 rfl rfl (by kernel_rfl) (by kernel_rfl) (by kernel_rfl) (by kernel_rfl) (fun _ _ _ h => h) (.inl ⟨by rfl, fun W hW => exec_ext _ 1 [.agg (whC (outP rr.1) hv dv bv).toArray, .bool rr.1.isSome, .slice ga rr.2.1.length gc] _ rfl rfl rfl⟩) (S8) ?_
        try simp only [Act.put, List.setIfInBounds_toArray, List.set_cons_zero, List.set_cons_succ]
        refine takeJ (i := 9) (v := .slice ga rr.2.1.length gc) 180 rfl rfl (by kernel_rfl) (by kernel_rfl) (by kernel_rfl) (by kernel_rfl) (fun _ _ _ h => h) (.inl ⟨by rfl, fun W hW => exec_ext _ 2 [.agg (whC (outP rr.1) hv dv bv).toArray, .bool rr.1.isSome, .slice ga rr.2.1.length gc] _ rfl rfl rfl⟩) (S8) ?_
        try simp only [Act.put, List.setIfInBounds_toArray, List.set_cons_zero, List.set_cons_succ]
        obtain ⟨w9, wz, ρ2, hw9, c9, f9, hwz, AF0⟩ := PG.aft
        have AF := PutAft.base bm AF0
        have HW9 := hide hw9
        have HWZ := hide hwz
        have one9 := PG.one
        obtain ⟨s6, hs6⟩ : ∃ s6, s6 = w8.heap.size := ⟨_, rfl⟩
        rw [← hs6] at c9 f9 hwz AF HWZ
        have S9 : CellsAt w9 s5 0 X5 := CellsAt.later (W' := w9) S8 (Nat.lt_of_lt_of_le (Nat.lt_of_lt_of_le LGD bm.size) PG.but.size) (by rw [HW9.out]; exact later_alloc _ _)
        have SZ : CellsAt wz s5 0 X5 := SB.but LGD AF.but (fun e => e.1 RL)
        refine nextJ (w' := w9) 10 23 (.pointer (some ⟨s6, 0, none⟩)) (by kernel_rfl) rfl rfl (by rfl) ((by rw [HW9.out, hs6]; exact exec_allocWh rfl)) (S9) ?_
        try simp only [Act.put, List.setIfInBounds_toArray, List.set_cons_zero, List.set_cons_succ]
        refine storeJ (w' := wz) 11 (by kernel_rfl) rfl rfl (by rfl) ((by rw [HWZ.out]; exact exec_storeA 49 18 sizWh _ _ rfl s6 0 rfl _ zWh rfl rfl rfl c9 f9 one9)) ((fun _ => SZ)) ?_
        try simp only [Act.put, List.setIfInBounds_toArray, List.set_cons_zero, List.set_cons_succ]
        refine takeJ (i := 12) (v := .bool rr.1.isSome) 24 rfl rfl (by kernel_rfl) (by kernel_rfl) (by kernel_rfl) (by kernel_rfl) (fun _ _ _ h => h) (.inl ⟨by rfl, fun W hW => exec_assign _ _ rfl rfl⟩) (SZ) ?_
        try simp only [Act.put, List.setIfInBounds_toArray, List.set_cons_zero, List.set_cons_succ]
        refine takeJ (i := 13) (v := .slice ga rr.2.1.length gc) 25 rfl rfl (by kernel_rfl) (by kernel_rfl) (by kernel_rfl) (by kernel_rfl) (fun _ _ _ h => h) (.inl ⟨by rfl, fun W hW => exec_assign _ _ rfl rfl⟩) (SZ) ?_
        try simp only [Act.put, List.setIfInBounds_toArray, List.set_cons_zero, List.set_cons_succ]
        refine doneJ (by kernel_rfl) ?_ _
        have AFH := hide AF
        clear AF AF0 PG S8 S9 SZ SM hw9 c9 f9 hwz HW9 HWZ one9 hs6 hmk grm bm lm
        go_wp2
        go_meet
        exact ⟨s6, _, G', ga, gc, rfl, rfl, rfl, AFH⟩
      · obtain rfl : q = 10 := by simpa using hq
        obtain ⟨w7, hw7⟩ : ∃ w7, w7 = wm.alloc (.cells zWh.toArray 49) := ⟨_, rfl⟩
        have HW7 := hide hw7
        have b7 : Below wm.heap.size wm w7 := by rw [HW7.out]; exact later_alloc _ _
        have c7 : CellsAt w7 wm.heap.size 0 zWh := by rw [HW7.out]; exact CellsAt.new wm _ _
        have f7 : ∀ y, w7.frozen? ⟨wm.heap.size, y, none⟩ = false := by rw [HW7.out]; exact fun y => frozen_new wm _ _ _
        refine opJ_val (w' := w7) 10 23 (.pointer (some ⟨wm.heap.size, 0, none⟩)) rfl rfl (by rfl) (by rw [HW7.out]; exact exec_allocWh rfl) ?_
        have S7 : CellsAt w7 s5 0 X5 := CellsAt.later (W' := w7) SM (Nat.lt_of_lt_of_le LGD bm.size) b7
        refine ⟨fun _ => S7, ?_⟩
        simp only [Act.put, List.setIfInBounds_toArray, List.set_cons_zero, List.set_cons_succ]
        refine callJ 5 177 (by kernel_rfl) rfl rfl (by rfl) 17 #[.pointer (some ⟨b, 0, none⟩), .agg X5.toArray, .slice (some ⟨wC.drew.heap.size, 0, none⟩) (8 * sz) (8 * sz), .int .i64 4, .int .i64 0] (exec_callF _ _ _ _ rfl (map5 rfl rfl rfl rfl rfl) (enters_of Try.func17 (by kernel_rfl) rfl)) _ (PGK.out w7 _ (later bm b7) ((grm.cn.own (P' := fun _ => True) (fun _ _ _ => trivial)).later b7)) ?_
        rintro _ w8 ⟨ρ2, G', hv, dv, bv, ga, gc, rfl, PG⟩
        have S8 : CellsAt w8 s5 0 X5 := S7.but (Nat.lt_of_lt_of_le (Nat.lt_of_lt_of_le LGD bm.size) b7.size) PG.but (fun e => e.1 (by rw [cutR_lt LGD]; exact RL))
        refine ⟨S8, ?_⟩
        simp only [Act.put, List.setIfInBounds_toArray, List.set_cons_zero, List.set_cons_succ]
        refine takeJ (i := 6) (v := .tuple #[.agg (whC (outP rr.1) hv dv bv).toArray, .bool rr.1.isSome, .slice ga rr.2.1.length gc]) 171 rfl rfl (by kernel_rfl) (by kernel_rfl) (by kernel_rfl) (by kernel_rfl) (fun _ _ _ h => h) (.inl ⟨by rfl, fun W hW => exec_move _ _ rfl rfl⟩) (S8) ?_
        try simp only [Act.put, List.setIfInBounds_toArray, List.set_cons_zero, List.set_cons_succ]
        refine takeJ (i := 7) (v := .agg (whC (outP rr.1) hv dv bv).toArray) 178 rfl rfl (by kernel_rfl) (by kernel_rfl) (by kernel_rfl) (by kernel_rfl) (fun _ _ _ h => h) (.inl ⟨by rfl, fun W hW => exec_ext _ 0 [.agg (whC (outP rr.1) hv dv bv).toArray, .bool rr.1.isSome, .slice ga rr.2.1.length gc] _ rfl rfl rfl⟩) (S8) ?_
        try simp only [Act.put, List.setIfInBounds_toArray, List.set_cons_zero, List.set_cons_succ]
        refine takeJ (i := 8) (v := .bool rr.1.isSome) 179 rfl rfl (by kernel_rfl) (by kernel_rfl) (by kernel_rfl) (by kernel_rfl) (fun _ _ _ h => h) (.inl ⟨by rfl, fun W hW => exec_ext _ 1 [.agg (whC (outP rr.1) hv dv bv).toArray, .bool rr.1.isSome, .slice ga rr.2.1.length gc] _ rfl rfl rfl⟩) (S8) ?_
        try simp only [Act.put, List.setIfInBounds_toArray, List.set_cons_zero, List.set_cons_succ]
        refine takeJ (i := 9) (v := .slice ga rr.2.1.length gc) 180 rfl rfl (by kernel_rfl) (by kernel_rfl) (by kernel_rfl) (by kernel_rfl) (fun _ _ _ h => h) (.inl ⟨by rfl, fun W hW => exec_ext _ 2 [.agg (whC (outP rr.1) hv dv bv).toArray, .bool rr.1.isSome, .slice ga rr.2.1.length gc] _ rfl rfl rfl⟩) (S8) ?_
        try simp only [Act.put, List.setIfInBounds_toArray, List.set_cons_zero, List.set_cons_succ]
        obtain ⟨c9, f9, wz, hwz, AF⟩ := PG.aft3 (later bm b7) c7 f7 bm.size
        have HWZ := hide hwz
        have one9 := PG.one
        have SZ : CellsAt wz s5 0 X5 := SB.but LGD AF.but (fun e => e.1 RL)
        refine storeJ (w' := wz) 11 (by kernel_rfl) rfl rfl (by rfl) ((by rw [HWZ.out]; exact exec_storeA 49 18 sizWh _ _ rfl wm.heap.size 0 rfl _ zWh rfl rfl rfl c9 f9 one9)) ((fun _ => SZ)) ?_
        try simp only [Act.put, List.setIfInBounds_toArray, List.set_cons_zero, List.set_cons_succ]
        refine takeJ (i := 12) (v := .bool rr.1.isSome) 24 rfl rfl (by kernel_rfl) (by kernel_rfl) (by kernel_rfl) (by kernel_rfl) (fun _ _ _ h => h) (.inl ⟨by rfl, fun W hW => exec_assign _ _ rfl rfl⟩) (SZ) ?_
        try simp only [Act.put, List.setIfInBounds_toArray, List.set_cons_zero, List.set_cons_succ]
        refine takeJ (i := 13) (v := .slice ga rr.2.1.length gc) 25 rfl rfl (by kernel_rfl) (by kernel_rfl) (by kernel_rfl) (by kernel_rfl) (fun _ _ _ h => h) (.inl ⟨by rfl, fun W hW => exec_assign _ _ rfl rfl⟩) (SZ) ?_
        try simp only [Act.put, List.setIfInBounds_toArray, List.set_cons_zero, List.set_cons_succ]
        refine doneJ (by kernel_rfl) ?_ _
        have AFH := hide AF
        clear AF SZ c9 f9 hwz HWZ one9
        go_wp2
        go_meet
        exact ⟨_, _, G', ga, gc, rfl, rfl, rfl, AFH⟩
    · obtain rfl : q = 10 := by simpa using hq
      obtain ⟨w7, hw7⟩ : ∃ w7, w7 = wC.drew.alloc (.cells zWh.toArray 49) := ⟨_, rfl⟩
      have HW7 := hide hw7
      have b7 : Below wC.drew.heap.size wC.drew w7 := by rw [HW7.out]; exact later_alloc _ _
      have c7 : CellsAt w7 wC.drew.heap.size 0 zWh := by rw [HW7.out]; exact CellsAt.new wC.drew _ _
      have f7 : ∀ y, w7.frozen? ⟨wC.drew.heap.size, y, none⟩ = false := by rw [HW7.out]; exact fun y => frozen_new wC.drew _ _ _
      have l7 : wC.drew.heap.size < w7.heap.size := c7.lt (by decide)
      refine opJ_val (w' := w7) 10 23 (.pointer (some ⟨wC.drew.heap.size, 0, none⟩)) rfl rfl (by rfl) (by rw [HW7.out]; exact exec_allocWh rfl) ?_
      have S7 : CellsAt w7 s5 0 X5 := CellsAt.later (W' := w7) SB LGD b7
      refine ⟨fun _ => S7, ?_⟩
      simp only [Act.put, List.setIfInBounds_toArray, List.set_cons_zero, List.set_cons_succ]
      obtain ⟨wm, hmk, grm, bm, lm⟩ := mkB w7 (8 * sz) (by omega)
      have SM : CellsAt wm s5 0 X5 := S7.later (Nat.lt_of_lt_of_le LGD b7.size) bm
      refine nextJ (w' := wm) 4 176 (.slice (some ⟨w7.heap.size, 0, none⟩) (8 * sz) (8 * sz)) (by kernel_rfl) rfl rfl (by rfl) (exec_mkB _ _ (8 * sz) _ rfl rfl rfl hmk) SM ?_
      simp only [Act.put, List.setIfInBounds_toArray, List.set_cons_zero, List.set_cons_succ]
      refine callJ 5 177 (by kernel_rfl) rfl rfl (by rfl) 17 #[.pointer (some ⟨b, 0, none⟩), .agg X5.toArray, .slice (some ⟨w7.heap.size, 0, none⟩) (8 * sz) (8 * sz), .int .i64 4, .int .i64 0] (exec_callF _ _ _ _ rfl (map5 rfl rfl rfl rfl rfl) (enters_of Try.func17 (by kernel_rfl) rfl)) _ (PGK.out wm _ (later b7 bm) (grm.cn.own (fun _ _ _ => trivial))) ?_
      rintro _ w8 ⟨ρ2, G', hv, dv, bv, ga, gc, rfl, PG⟩
      have S8 : CellsAt w8 s5 0 X5 := SM.but (Nat.lt_of_lt_of_le (Nat.lt_of_lt_of_le LGD b7.size) bm.size) PG.but (fun e => e.1 (by rw [cutR_lt LGD]; exact RL))
      refine ⟨S8, ?_⟩
      simp only [Act.put, List.setIfInBounds_toArray, List.set_cons_zero, List.set_cons_succ]
      refine takeJ (i := 6) (v := .tuple #[.agg (whC (outP rr.1) hv dv bv).toArray, .bool rr.1.isSome, .slice ga rr.2.1.length gc]) 171 rfl rfl (by kernel_rfl) (by kernel_rfl) (by kernel_rfl) (by kernel_rfl) (fun _ _ _ h => h) (.inl ⟨by rfl, fun W hW => exec_move _ _ rfl rfl⟩) (S8) ?_
      try simp only [Act.put, List.setIfInBounds_toArray, List.set_cons_zero, List.set_cons_succ]
      refine takeJ (i := 7) (v := .agg (whC (outP rr.1) hv dv bv).toArray) 178 rfl rfl (by kernel_rfl) (by kernel_rfl) (by kernel_rfl) (by kernel_rfl) (fun _ _ _ h => h) (.inl ⟨by rfl, fun W hW => exec_ext _ 0 [.agg (whC (outP rr.1) hv dv bv).toArray, .bool rr.1.isSome, .slice ga rr.2.1.length gc] _ rfl rfl rfl⟩) (S8) ?_
      try simp only [Act.put, List.setIfInBounds_toArray, List.set_cons_zero, List.set_cons_succ]
      refine takeJ (i := 8) (v := .bool rr.1.isSome) 179 rfl rfl (by kernel_rfl) (by kernel_rfl) (by kernel_rfl) (by kernel_rfl) (fun _ _ _ h => h) (.inl ⟨by rfl, fun W hW => exec_ext _ 1 [.agg (whC (outP rr.1) hv dv bv).toArray, .bool rr.1.isSome, .slice ga rr.2.1.length gc] _ rfl rfl rfl⟩) (S8) ?_
      try simp only [Act.put, List.setIfInBounds_toArray, List.set_cons_zero, List.set_cons_succ]
      refine takeJ (i := 9) (v := .slice ga rr.2.1.length gc) 180 rfl rfl (by kernel_rfl) (by kernel_rfl) (by kernel_rfl) (by kernel_rfl) (fun _ _ _ h => h) (.inl ⟨by rfl, fun W hW => exec_ext _ 2 [.agg (whC (outP rr.1) hv dv bv).toArray, .bool rr.1.isSome, .slice ga rr.2.1.length gc] _ rfl rfl rfl⟩) (S8) ?_
      try simp only [Act.put, List.setIfInBounds_toArray, List.set_cons_zero, List.set_cons_succ]
      obtain ⟨c9, f9, wz, hwz, AF⟩ := PG.aft3 (later b7 bm) (c7.later l7 bm) (fun y => (bm.frozen (p := ⟨wC.drew.heap.size, y, none⟩) l7).trans (f7 y)) (Nat.le_refl _)
      have HWZ := hide hwz
      have one9 := PG.one
      have SZ : CellsAt wz s5 0 X5 := SB.but LGD AF.but (fun e => e.1 RL)
      refine storeJ (w' := wz) 11 (by kernel_rfl) rfl rfl (by rfl) ((by rw [HWZ.out]; exact exec_storeA 49 18 sizWh _ _ rfl wC.drew.heap.size 0 rfl _ zWh rfl rfl rfl c9 f9 one9)) ((fun _ => SZ)) ?_
      try simp only [Act.put, List.setIfInBounds_toArray, List.set_cons_zero, List.set_cons_succ]
      refine takeJ (i := 12) (v := .bool rr.1.isSome) 24 rfl rfl (by kernel_rfl) (by kernel_rfl) (by kernel_rfl) (by kernel_rfl) (fun _ _ _ h => h) (.inl ⟨by rfl, fun W hW => exec_assign _ _ rfl rfl⟩) (SZ) ?_
      try simp only [Act.put, List.setIfInBounds_toArray, List.set_cons_zero, List.set_cons_succ]
      refine takeJ (i := 13) (v := .slice ga rr.2.1.length gc) 25 rfl rfl (by kernel_rfl) (by kernel_rfl) (by kernel_rfl) (by kernel_rfl) (fun _ _ _ h => h) (.inl ⟨by rfl, fun W hW => exec_assign _ _ rfl rfl⟩) (SZ) ?_
      try simp only [Act.put, List.setIfInBounds_toArray, List.set_cons_zero, List.set_cons_succ]
      refine doneJ (by kernel_rfl) ?_ _
      have AFH := hide AF
      clear AF SZ c9 f9 hwz HWZ one9
      go_wp2
      go_meet
      exact ⟨_, _, G', ga, gc, rfl, rfl, rfl, AFH⟩
  obtain ⟨sE, ρE, GE, gaE, gcE, rfl, rfl, rfl, AFH⟩ := hcut
  obtain ⟨wE, hwE⟩ : ∃ w9, w9 = wc := ⟨_, rfl⟩
  rw [← hwE] at AFH ⊢
  have AF := AFH.out
  have AME : Hid (AwN w0 b ρE GE wE) := AMC.out.step AF.fr AF.old AF.but
  have ABE : Hid (absG GE = rr.2.2) := AF.ab
  have ER : Hid (rr = (none, [], [mo, mq])) := by rw [HRR.out, ABC.out]; exact EQE.out
  have E1 : rr.1.isSome = false := by rw [ER.out]; rfl
  have E2 : rr.2.1.length = 0 := by rw [ER.out]; rfl
  rw [E1, E2]
  rw [ER.out] at ABE
  clear E1 E2
  clear hwE PGK HRR FD LGD RL SB AF AFH ER
  clear Cs5E Ls5E Rs5E Os5E EQE AMC ABC
  have LEN2 : Hid (∀ W, Below wE.heap.size wE W → Calls Try.prog 23 #[.pointer (some ⟨b, 0, none⟩)] W fun e w' => e = .returned (.int .i64 2) ∧ w' = W) := fun W hW => by
    obtain ⟨va, vc, cv, _⟩ := (AME.out.fr.later hW).at
    have gl : GE.length = 2 := by have := congrArg List.length ABE.out; simpa [absG] using this
    rw [gl] at cv
    exact fLen_any W b va 2 vc cv
  have BYT : Hid (∀ W, Below wE.heap.size wE W → Calls Try.prog 21 #[.pointer (some ⟨b, 0, none⟩)] W fun e w' => e = .returned (.int .i64 (16 + 8 * (sz : Int))) ∧ Below W.heap.size W w') := fun W hW => by
    have := fBytes_any (AME.out.fr.later hW)
    rw [← szS_abs, ABE.out, show szS (none, [], [mo, mq]).2.2 = 16 + 8 * sz from ESZ.out, show ((16 + 8 * sz : Nat) : Int) = 16 + 8 * (sz : Int) by omega] at this
    exact this
  have BWE : Hid (Below w.heap.size w wE) := BW0.out.trans (AME.out.but.below BW0.out.size (fun g hg e => by have e : g = b := e; have := HB0.out; have := HS5.out; omega))
  clear AME ABE ESZ
  go_wp2_with fail
  obtain ⟨y1, hy1⟩ : ∃ y, y = wE.alloc (.cells #[.slice none 0 0] 42) := ⟨_, rfl⟩
  obtain ⟨sR, hsR⟩ : ∃ s, s = wE.heap.size := ⟨_, rfl⟩
  have BY : Hid (Below wE.heap.size wE y1) := by rw [hy1]; exact later_alloc _ _
  have cy1 : CellsAt y1 sR 0 [.slice none 0 0] := by rw [hy1, hsR]; exact CellsAt.new wE _ _
  have CY := hide cy1
  have LY : Hid (sR < y1.heap.size) := cy1.lt (by decide)
  clear cy1
  rw [← hy1, ← hsR]
  clear hy1 hsR
  refine (LEN2.out y1 BY.out).mono ?_
  rintro _ wq ⟨rfl, hwq⟩
  rw [hwq]
  clear hwq wq LEN2
  go_wp2_with fail
  refine (BYT.out y1 BY.out).mono ?_
  rintro _ y2 ⟨rfl, hb2⟩
  have RB := hide (rBytes_nil y2 sR none 0 ((hb2.cell (p := ⟨sR, 0, none⟩) LY.out).trans (CY.out 0 _ rfl)))
  have BW2 := hide (later (later BWE.out BY.out) hb2)
  clear hb2 BYT BWE BY CY LY
  go_wp2_with fail
  refine RB.out.mono ?_
  rintro _ y3 ⟨rfl, hb3⟩
  have BW3 := hide (later BW2.out hb3)
  clear hb3 RB BW2
  go_wp2
  go_ret
  exact ⟨rfl, BW3.out⟩
end Go.Proofs.Ytohalgfindhjnaa
