
/-
  The document's answer for package core: acks.
-/
import Derived.Test.YtgdcdgofahhfdaaO23
namespace Go.Proofs.Ytgdcdgofahhfdaa
open Go.RowKit Go.Shelf

def ackR (c : Ct) (s : Sg) : Bool × Vd :=
  if c.st = 2 then (if s.ack = c.nxt then (true, ⟨{ c with st := 3, una := s.ack, wnd := s.wnd, wl1 := s.seq, wl2 := s.ack }, 0, 0, true, false, 0, 0, false⟩) else (false, ⟨c, 2, 0, false, false, 0, 0, false⟩))
  else if 0 < dif s.ack c.nxt ∨ 65535 < dif c.una s.ack then (false, ⟨c, 1, 0, false, false, 0, 0, false⟩)
  else if c.st = 8 ∧ c.fs = true ∧ (unaC c s).una = c.nxt then (false, ⟨hearC c s, 0, 218, hackB c s, hagB c s, 0, 0, false⟩)
  else (true, ⟨{ hearC c s with st := thrS (hearC c s) }, 0, 0, hackB c s, hagB c s, 0, 0, false⟩)
section
variable {c : Ct} {s : Sg} {gv : Value} {da : Option Addr} {dc : Nat} {w : World} {bvv : Nat}
theorem unaC_ok (hc : c.Ok) (hs : s.Ok) : u32In (unaC c s).una := by
  unfold unaC
  split
  · exact hs.ack
  · exact hc.una
/-- what is the latest, as the document says it -/
def nwB (c : Ct) (s : Sg) : Bool := decide (0 < dif s.seq c.wl1) || (decide (s.seq = c.wl1) && decide (0 ≤ dif s.ack c.wl2))
theorem lat_nw : latB (unaC c s) s = (decide (0 ≤ dif s.ack (unaC c s).una) && nwB c s) := by
  obtain ⟨_, _, _, _, _, _, _, _, h1, h2⟩ := unaC_same c s
  unfold latB nwB
  rw [h1, h2]
  have e : ∀ x : Int, (!decide (x < 0)) = decide (0 ≤ x) := fun x => by
    by_cases h : x < 0
    · rw [decide_eq_true h, decide_eq_false (by omega)]; rfl
    · rw [decide_eq_false h, decide_eq_true (by omega)]; rfl
  rw [e, e]
set_option maxRecDepth 100000 in
set_option maxHeartbeats 64000000 in
theorem racks_any (hc : c.Ok) (hs : s.Ok) (hl : s.dat.length ≤ 140737488351232) (hv : Box w bvv (⟨c, 0, 0, false, false, 0, 0, false⟩ : Vd).cells) : Calls Try.prog 28 #[.pointer (some ⟨bvv, 0, none⟩), .agg c.cells.toArray, .agg (s.cells gv (.slice da s.dat.length dc)).toArray] w fun e w' => e = .returned (.bool (ackR c s).1) ∧ Box w' bvv (ackR c s).2.cells ∧ But (Only bvv) w w' := by
  obtain ⟨w1, w2, bcc, bss, hs1, hw1, hs2, hw2, u1, u2, n12, z1, b2⟩ := boxCS w c s gv (.slice da s.dat.length dc)
  rw [show (Value.agg c.cells.toArray) = .agg #[.int .i64 c.st, .int .u32 c.iss, .int .u32 c.una, .int .u32 c.nxt, .bool c.fs, .int .i64 c.wnd, .int .u32 c.wl1, .int .u32 c.wl2, .int .u32 c.irs, .int .u32 c.rcv, .int .u32 c.adv] from rfl]
  rw [show (Value.agg (s.cells gv (.slice da s.dat.length dc)).toArray) = .agg #[.int .i64 s.src, .int .i64 s.dst, .int .u32 s.seq, .int .u32 s.ack, .int .i64 s.flg, .int .i64 s.wnd, .int .i64 s.mss, .bool s.sak, gv, .slice da s.dat.length dc] from rfl]
  obtain ⟨R, hR⟩ : ∃ R, R = ackR c s := ⟨_, rfl⟩
  rw [← hR]
  have HR := hide hR
  have D_vv_cc : Hid (bvv < bcc) := by have h := hv.2.2; unfold Hid; omega
  have D_vv_ss : Hid (bvv < bss) := by have h := hv.2.2; unfold Hid; omega
  have D_cc_ss : Hid (bcc < bss) := n12
  have BB : Hid (But (Only bvv) w w2) := But.of_below b2
  have HC := hide hc
  have HS := hide hs
  obtain ⟨Xvv, hXvv⟩ : ∃ X, X = (⟨c, 0, 0, false, false, 0, 0, false⟩ : Vd).cells := ⟨_, rfl⟩
  have LXvv : Hid (Xvv.length = 18) := by rw [hXvv]; exact rfl
  have Uvv : Hid (Box w2 bvv Xvv) := by rw [hXvv]; exact hv.later b2
  have EXvv := hide hXvv
  clear hXvv
  obtain ⟨Xcc, hXcc⟩ : ∃ X, X = c.cells := ⟨_, rfl⟩
  have LXcc : Hid (Xcc.length = 11) := by rw [hXcc]; exact rfl
  have Ucc : Hid (Box w2 bcc Xcc) := by rw [hXcc]; exact u1
  have EXcc := hide hXcc
  clear hXcc
  obtain ⟨Xss, hXss⟩ : ∃ X, X = s.cells gv (.slice da s.dat.length dc) := ⟨_, rfl⟩
  have LXss : Hid (Xss.length = 10) := by rw [hXss]; exact rfl
  have Uss : Hid (Box w2 bss Xss) := by rw [hXss]; exact u2
  have EXss := hide hXss
  clear hXss
  have hs1' := hs1.symm
  have hw1' := hw1.symm
  have hs2' := hs2.symm
  have hw2' := hw2.symm
  have SZ : Hid (∀ W, Calls Try.prog 21 #[.agg Xss.toArray] W fun e w' => e = .returned (.int .i64 s.size) ∧ Below W.heap.size W w') := fun W => by rw [EXss.out]; exact rSize_any s gv da dc W (by omega)
  obtain ⟨d1, hd1⟩ : ∃ d, d = dif s.ack c.nxt := ⟨_, rfl⟩
  have I1 : Hid (∀ W, Calls Try.prog 20 #[.int .u32 s.ack, .int .u32 c.nxt] W fun e w' => e = .returned (.int .i64 d1) ∧ w' = W) := fun W => by rw [hd1]; exact rDiff_any s.ack c.nxt HS.out.ack HC.out.nxt W
  have E1 := hide hd1
  obtain ⟨d2, hd2⟩ : ∃ d, d = dif c.una s.ack := ⟨_, rfl⟩
  have I2 : Hid (∀ W, Calls Try.prog 20 #[.int .u32 c.una, .int .u32 s.ack] W fun e w' => e = .returned (.int .i64 d2) ∧ w' = W) := fun W => by rw [hd2]; exact rDiff_any c.una s.ack HC.out.una HS.out.ack W
  have E2 := hide hd2
  obtain ⟨d3, hd3⟩ : ∃ d, d = dif s.ack c.una := ⟨_, rfl⟩
  have I3 : Hid (∀ W, Calls Try.prog 20 #[.int .u32 s.ack, .int .u32 c.una] W fun e w' => e = .returned (.int .i64 d3) ∧ w' = W) := fun W => by rw [hd3]; exact rDiff_any s.ack c.una HS.out.ack HC.out.una W
  have E3 := hide hd3
  obtain ⟨d4, hd4⟩ : ∃ d, d = dif s.seq c.wl1 := ⟨_, rfl⟩
  have I4 : Hid (∀ W, Calls Try.prog 20 #[.int .u32 s.seq, .int .u32 c.wl1] W fun e w' => e = .returned (.int .i64 d4) ∧ w' = W) := fun W => by rw [hd4]; exact rDiff_any s.seq c.wl1 HS.out.seq HC.out.wl1 W
  have E4 := hide hd4
  obtain ⟨d5, hd5⟩ : ∃ d, d = dif s.ack c.wl2 := ⟨_, rfl⟩
  have I5 : Hid (∀ W, Calls Try.prog 20 #[.int .u32 s.ack, .int .u32 c.wl2] W fun e w' => e = .returned (.int .i64 d5) ∧ w' = W) := fun W => by rw [hd5]; exact rDiff_any s.ack c.wl2 HS.out.ack HC.out.wl2 W
  have E5 := hide hd5
  obtain ⟨d6, hd6⟩ : ∃ d, d = dif s.ack (unaC c s).una := ⟨_, rfl⟩
  have I6 : Hid (∀ W, Calls Try.prog 20 #[.int .u32 s.ack, .int .u32 (unaC c s).una] W fun e w' => e = .returned (.int .i64 d6) ∧ w' = W) := fun W => by rw [hd6]; exact rDiff_any s.ack (unaC c s).una HS.out.ack (unaC_ok HC.out HS.out) W
  have E6 := hide hd6
  clear hs1 hw1 hs2 hw2 u1 u2 n12 z1 b2 hc hs hv hR hd1 hd2 hd3 hd4 hd5 hd6
  go_enter Try.func28, Try.ntmps28
  go_upto_region 1 with fail
  clear hs1' hw1' hs2' hw2'
  have j0 : w2.cell? ⟨bcc, 0, none⟩ = some (.int .i64 c.st) := by have h := Ucc.out.1 0 (.int .i64 c.st) (by rw [EXcc.out]; rfl); rw [Nat.zero_add] at h; exact h
  by_cases h2 : c.st = 2
  · have q2 : (c.st == 2) = true := by simpa using h2
    have H2 := hide h2
    clear h2
    go_upto_region 2 with fail
    clear j0 q2
    have j3 : w2.cell? ⟨bcc, 3, none⟩ = some (.int .u32 c.nxt) := by have h := Ucc.out.1 3 (.int .u32 c.nxt) (by rw [EXcc.out]; rfl); rw [Nat.zero_add] at h; exact h
    have i3 : w2.cell? ⟨bss, 3, none⟩ = some (.int .u32 s.ack) := by have h := Uss.out.1 3 (.int .u32 s.ack) (by rw [EXss.out]; rfl); rw [Nat.zero_add] at h; exact h
    by_cases hk : s.ack = c.nxt
    · have q1 : (s.ack != c.nxt) = false := by simpa using hk
      have HK := hide hk
      clear hk
      go_upto_region 5 with fail
      clear q1 i3 j3
      have i3 : w2.cell? ⟨bss, 3, none⟩ = some (.int .u32 s.ack) := by have h := Uss.out.1 3 (.int .u32 s.ack) (by rw [EXss.out]; rfl); rw [Nat.zero_add] at h; exact h
      obtain ⟨vo, so⟩ : ∃ v, w2.cell? ⟨bvv, 2, none⟩ = some v := by have h := Uvv.out.1 2 _ (List.getElem?_eq_getElem (by rw [LXvv.out]; decide)); rw [Nat.zero_add] at h; exact ⟨_, h⟩
      have fo := Uvv.out.2.1 2
      obtain ⟨wv1, hwo⟩ : ∃ w1, w1 = w2.setCell ⟨bvv, 2, none⟩ (.int .u32 s.ack) := ⟨_, rfl⟩
      have bo : But (Only bvv) w2 wv1 := by rw [hwo]; exact (But.refl (Only bvv) w2).setOf (b := bvv) rfl 2 _
      obtain ⟨Y2, hY⟩ : ∃ X, X = (⟨{ c with una := s.ack }, 0, 0, false, false, 0, 0, false⟩ : Vd).cells := ⟨_, rfl⟩
      have LY : Hid (Y2.length = 18) := by rw [hY]; exact rfl
      have U1 : Hid (Box wv1 bvv Y2) := by rw [hwo, hY]; have h := Uvv.out.one (k := 2) (by rw [LXvv.out]; decide) (.int .u32 s.ack); rw [EXvv.out] at h; exact h
      replace Ucc := hide (Ucc.out.but bo (fun e => by have e : bcc = bvv := e; have := D_vv_cc.out; omega))
      replace Uss := hide (Uss.out.but bo (fun e => by have e : bss = bvv := e; have := D_vv_ss.out; omega))
      replace BB := hide (BB.out.trans bo)
      have EY := hide hY
      have hwo' := hwo.symm
      clear hwo bo hY Uvv LXvv EXvv
      go_upto_region 6 with fail
      clear hwo' so fo
      try clear vo
      try clear Xvv
      obtain ⟨Xvv, hXX⟩ : ∃ X, X = Y2 := ⟨_, rfl⟩
      subst hXX
      have Uvv := U1
      have LXvv := LY
      have EXvv := EY
      clear U1 LY EY
      clear i3
      have i5 : wv1.cell? ⟨bss, 5, none⟩ = some (.int .i64 s.wnd) := by have h := Uss.out.1 5 (.int .i64 s.wnd) (by rw [EXss.out]; rfl); rw [Nat.zero_add] at h; exact h
      obtain ⟨vo, so⟩ : ∃ v, wv1.cell? ⟨bvv, 5, none⟩ = some v := by have h := Uvv.out.1 5 _ (List.getElem?_eq_getElem (by rw [LXvv.out]; decide)); rw [Nat.zero_add] at h; exact ⟨_, h⟩
      have fo := Uvv.out.2.1 5
      obtain ⟨wv3, hwo⟩ : ∃ w1, w1 = wv1.setCell ⟨bvv, 5, none⟩ (.int .i64 s.wnd) := ⟨_, rfl⟩
      have bo : But (Only bvv) wv1 wv3 := by rw [hwo]; exact (But.refl (Only bvv) wv1).setOf (b := bvv) rfl 5 _
      obtain ⟨Y4, hY⟩ : ∃ X, X = (⟨{ c with una := s.ack, wnd := s.wnd }, 0, 0, false, false, 0, 0, false⟩ : Vd).cells := ⟨_, rfl⟩
      have LY : Hid (Y4.length = 18) := by rw [hY]; exact rfl
      have U1 : Hid (Box wv3 bvv Y4) := by rw [hwo, hY]; have h := Uvv.out.one (k := 5) (by rw [LXvv.out]; decide) (.int .i64 s.wnd); rw [EXvv.out] at h; exact h
      replace Ucc := hide (Ucc.out.but bo (fun e => by have e : bcc = bvv := e; have := D_vv_cc.out; omega))
      replace Uss := hide (Uss.out.but bo (fun e => by have e : bss = bvv := e; have := D_vv_ss.out; omega))
      replace BB := hide (BB.out.trans bo)
      have EY := hide hY
      have hwo' := hwo.symm
      clear hwo bo hY Uvv LXvv EXvv
      go_upto_region 7 with fail
      clear hwo' so fo
      try clear vo
      try clear Xvv
      obtain ⟨Xvv, hXX⟩ : ∃ X, X = Y4 := ⟨_, rfl⟩
      subst hXX
      have Uvv := U1
      have LXvv := LY
      have EXvv := EY
      clear U1 LY EY
      clear i5
      have i2 : wv3.cell? ⟨bss, 2, none⟩ = some (.int .u32 s.seq) := by have h := Uss.out.1 2 (.int .u32 s.seq) (by rw [EXss.out]; rfl); rw [Nat.zero_add] at h; exact h
      obtain ⟨vo, so⟩ : ∃ v, wv3.cell? ⟨bvv, 6, none⟩ = some v := by have h := Uvv.out.1 6 _ (List.getElem?_eq_getElem (by rw [LXvv.out]; decide)); rw [Nat.zero_add] at h; exact ⟨_, h⟩
      have fo := Uvv.out.2.1 6
      obtain ⟨wv5, hwo⟩ : ∃ w1, w1 = wv3.setCell ⟨bvv, 6, none⟩ (.int .u32 s.seq) := ⟨_, rfl⟩
      have bo : But (Only bvv) wv3 wv5 := by rw [hwo]; exact (But.refl (Only bvv) wv3).setOf (b := bvv) rfl 6 _
      obtain ⟨Y6, hY⟩ : ∃ X, X = (⟨{ c with una := s.ack, wnd := s.wnd, wl1 := s.seq }, 0, 0, false, false, 0, 0, false⟩ : Vd).cells := ⟨_, rfl⟩
      have LY : Hid (Y6.length = 18) := by rw [hY]; exact rfl
      have U1 : Hid (Box wv5 bvv Y6) := by rw [hwo, hY]; have h := Uvv.out.one (k := 6) (by rw [LXvv.out]; decide) (.int .u32 s.seq); rw [EXvv.out] at h; exact h
      replace Ucc := hide (Ucc.out.but bo (fun e => by have e : bcc = bvv := e; have := D_vv_cc.out; omega))
      replace Uss := hide (Uss.out.but bo (fun e => by have e : bss = bvv := e; have := D_vv_ss.out; omega))
      replace BB := hide (BB.out.trans bo)
      have EY := hide hY
      have hwo' := hwo.symm
      clear hwo bo hY Uvv LXvv EXvv
      go_upto_region 8 with fail
      clear hwo' so fo
      try clear vo
      try clear Xvv
      obtain ⟨Xvv, hXX⟩ : ∃ X, X = Y6 := ⟨_, rfl⟩
      subst hXX
      have Uvv := U1
      have LXvv := LY
      have EXvv := EY
      clear U1 LY EY
      clear i2
      have i3 : wv5.cell? ⟨bss, 3, none⟩ = some (.int .u32 s.ack) := by have h := Uss.out.1 3 (.int .u32 s.ack) (by rw [EXss.out]; rfl); rw [Nat.zero_add] at h; exact h
      obtain ⟨vo, so⟩ : ∃ v, wv5.cell? ⟨bvv, 7, none⟩ = some v := by have h := Uvv.out.1 7 _ (List.getElem?_eq_getElem (by rw [LXvv.out]; decide)); rw [Nat.zero_add] at h; exact ⟨_, h⟩
      have fo := Uvv.out.2.1 7
      obtain ⟨wv7, hwo⟩ : ∃ w1, w1 = wv5.setCell ⟨bvv, 7, none⟩ (.int .u32 s.ack) := ⟨_, rfl⟩
      have bo : But (Only bvv) wv5 wv7 := by rw [hwo]; exact (But.refl (Only bvv) wv5).setOf (b := bvv) rfl 7 _
      obtain ⟨Y8, hY⟩ : ∃ X, X = (⟨{ c with una := s.ack, wnd := s.wnd, wl1 := s.seq, wl2 := s.ack }, 0, 0, false, false, 0, 0, false⟩ : Vd).cells := ⟨_, rfl⟩
      have LY : Hid (Y8.length = 18) := by rw [hY]; exact rfl
      have U1 : Hid (Box wv7 bvv Y8) := by rw [hwo, hY]; have h := Uvv.out.one (k := 7) (by rw [LXvv.out]; decide) (.int .u32 s.ack); rw [EXvv.out] at h; exact h
      replace Ucc := hide (Ucc.out.but bo (fun e => by have e : bcc = bvv := e; have := D_vv_cc.out; omega))
      replace Uss := hide (Uss.out.but bo (fun e => by have e : bss = bvv := e; have := D_vv_ss.out; omega))
      replace BB := hide (BB.out.trans bo)
      have EY := hide hY
      have hwo' := hwo.symm
      clear hwo bo hY Uvv LXvv EXvv
      go_upto_region 9 with fail
      clear hwo' so fo
      try clear vo
      try clear Xvv
      obtain ⟨Xvv, hXX⟩ : ∃ X, X = Y8 := ⟨_, rfl⟩
      subst hXX
      have Uvv := U1
      have LXvv := LY
      have EXvv := EY
      clear U1 LY EY
      clear i3
      obtain ⟨vo, so⟩ : ∃ v, wv7.cell? ⟨bvv, 0, none⟩ = some v := by have h := Uvv.out.1 0 _ (List.getElem?_eq_getElem (by rw [LXvv.out]; decide)); rw [Nat.zero_add] at h; exact ⟨_, h⟩
      have fo := Uvv.out.2.1 0
      obtain ⟨wv9, hwo⟩ : ∃ w1, w1 = wv7.setCell ⟨bvv, 0, none⟩ (.int .i64 3) := ⟨_, rfl⟩
      have bo : But (Only bvv) wv7 wv9 := by rw [hwo]; exact (But.refl (Only bvv) wv7).setOf (b := bvv) rfl 0 _
      obtain ⟨Y10, hY⟩ : ∃ X, X = (⟨{ c with st := 3, una := s.ack, wnd := s.wnd, wl1 := s.seq, wl2 := s.ack }, 0, 0, false, false, 0, 0, false⟩ : Vd).cells := ⟨_, rfl⟩
      have LY : Hid (Y10.length = 18) := by rw [hY]; exact rfl
      have U1 : Hid (Box wv9 bvv Y10) := by rw [hwo, hY]; have h := Uvv.out.one (k := 0) (by rw [LXvv.out]; decide) (.int .i64 3); rw [EXvv.out] at h; exact h
      replace Ucc := hide (Ucc.out.but bo (fun e => by have e : bcc = bvv := e; have := D_vv_cc.out; omega))
      replace Uss := hide (Uss.out.but bo (fun e => by have e : bss = bvv := e; have := D_vv_ss.out; omega))
      replace BB := hide (BB.out.trans bo)
      have EY := hide hY
      have hwo' := hwo.symm
      clear hwo bo hY Uvv LXvv EXvv
      go_upto_region 10 with fail
      clear hwo' so fo
      try clear vo
      try clear Xvv
      obtain ⟨Xvv, hXX⟩ : ∃ X, X = Y10 := ⟨_, rfl⟩
      subst hXX
      have Uvv := U1
      have LXvv := LY
      have EXvv := EY
      clear U1 LY EY
      obtain ⟨vo, so⟩ : ∃ v, wv9.cell? ⟨bvv, 13, none⟩ = some v := by have h := Uvv.out.1 13 _ (List.getElem?_eq_getElem (by rw [LXvv.out]; decide)); rw [Nat.zero_add] at h; exact ⟨_, h⟩
      have fo := Uvv.out.2.1 13
      obtain ⟨wv11, hwo⟩ : ∃ w1, w1 = wv9.setCell ⟨bvv, 13, none⟩ (.bool true) := ⟨_, rfl⟩
      have bo : But (Only bvv) wv9 wv11 := by rw [hwo]; exact (But.refl (Only bvv) wv9).setOf (b := bvv) rfl 13 _
      obtain ⟨Y12, hY⟩ : ∃ X, X = (⟨{ c with st := 3, una := s.ack, wnd := s.wnd, wl1 := s.seq, wl2 := s.ack }, 0, 0, true, false, 0, 0, false⟩ : Vd).cells := ⟨_, rfl⟩
      have LY : Hid (Y12.length = 18) := by rw [hY]; exact rfl
      have U1 : Hid (Box wv11 bvv Y12) := by rw [hwo, hY]; have h := Uvv.out.one (k := 13) (by rw [LXvv.out]; decide) (.bool true); rw [EXvv.out] at h; exact h
      replace Ucc := hide (Ucc.out.but bo (fun e => by have e : bcc = bvv := e; have := D_vv_cc.out; omega))
      replace Uss := hide (Uss.out.but bo (fun e => by have e : bss = bvv := e; have := D_vv_ss.out; omega))
      replace BB := hide (BB.out.trans bo)
      have EY := hide hY
      have hwo' := hwo.symm
      clear hwo bo hY Uvv LXvv EXvv
      go_upto_region 11 with fail
      clear hwo' so fo
      try clear vo
      try clear Xvv
      obtain ⟨Xvv, hXX⟩ : ∃ X, X = Y12 := ⟨_, rfl⟩
      subst hXX
      have Uvv := U1
      have LXvv := LY
      have EXvv := EY
      clear U1 LY EY
      have RE : Hid (R = (true, (⟨{ c with st := 3, una := s.ack, wnd := s.wnd, wl1 := s.seq, wl2 := s.ack }, 0, 0, true, false, 0, 0, false⟩ : Vd))) := by unfold Hid; rw [HR.out]; unfold ackR; rw [if_pos H2.out, if_pos HK.out]
      go_wp2
      go_ret
      rw [RE.out]
      exact ⟨rfl, by rw [← EXvv.out]; exact Uvv.out, BB.out⟩
    · have q1 : (s.ack != c.nxt) = true := by simpa using hk
      have HK := hide hk
      clear hk
      go_upto_region 3 with fail
      clear q1 i3 j3
      obtain ⟨vo, so⟩ : ∃ v, w2.cell? ⟨bvv, 11, none⟩ = some v := by have h := Uvv.out.1 11 _ (List.getElem?_eq_getElem (by rw [LXvv.out]; decide)); rw [Nat.zero_add] at h; exact ⟨_, h⟩
      have fo := Uvv.out.2.1 11
      obtain ⟨wv1, hwo⟩ : ∃ w1, w1 = w2.setCell ⟨bvv, 11, none⟩ (.int .i64 2) := ⟨_, rfl⟩
      have bo : But (Only bvv) w2 wv1 := by rw [hwo]; exact (But.refl (Only bvv) w2).setOf (b := bvv) rfl 11 _
      obtain ⟨Y2, hY⟩ : ∃ X, X = (⟨c, 2, 0, false, false, 0, 0, false⟩ : Vd).cells := ⟨_, rfl⟩
      have LY : Hid (Y2.length = 18) := by rw [hY]; exact rfl
      have U1 : Hid (Box wv1 bvv Y2) := by rw [hwo, hY]; have h := Uvv.out.one (k := 11) (by rw [LXvv.out]; decide) (.int .i64 2); rw [EXvv.out] at h; exact h
      replace Ucc := hide (Ucc.out.but bo (fun e => by have e : bcc = bvv := e; have := D_vv_cc.out; omega))
      replace Uss := hide (Uss.out.but bo (fun e => by have e : bss = bvv := e; have := D_vv_ss.out; omega))
      replace BB := hide (BB.out.trans bo)
      have EY := hide hY
      have hwo' := hwo.symm
      clear hwo bo hY Uvv LXvv EXvv
      go_upto_region 4 with fail
      clear hwo' so fo
      try clear vo
      try clear Xvv
      obtain ⟨Xvv, hXX⟩ : ∃ X, X = Y2 := ⟨_, rfl⟩
      subst hXX
      have Uvv := U1
      have LXvv := LY
      have EXvv := EY
      clear U1 LY EY
      have RE : Hid (R = (false, (⟨c, 2, 0, false, false, 0, 0, false⟩ : Vd))) := by unfold Hid; rw [HR.out]; unfold ackR; rw [if_pos H2.out, if_neg HK.out]
      go_wp2
      go_ret
      rw [RE.out]
      exact ⟨rfl, by rw [← EXvv.out]; exact Uvv.out, BB.out⟩
  have q2 : (c.st == 2) = false := by simpa using h2
  have H2 := hide h2
  clear h2
  go_upto_region 12 with fail
  clear j0 q2
  have j2 : w2.cell? ⟨bcc, 2, none⟩ = some (.int .u32 c.una) := by have h := Ucc.out.1 2 (.int .u32 c.una) (by rw [EXcc.out]; rfl); rw [Nat.zero_add] at h; exact h
  have j3 : w2.cell? ⟨bcc, 3, none⟩ = some (.int .u32 c.nxt) := by have h := Ucc.out.1 3 (.int .u32 c.nxt) (by rw [EXcc.out]; rfl); rw [Nat.zero_add] at h; exact h
  have i3 : w2.cell? ⟨bss, 3, none⟩ = some (.int .u32 s.ack) := by have h := Uss.out.1 3 (.int .u32 s.ack) (by rw [EXss.out]; rfl); rw [Nat.zero_add] at h; exact h
  go_wp2_with fail
  refine (I1.out _).mono ?_
  rintro _ wx ⟨rfl, hwx⟩
  rw [hwx]
  clear hwx wx
  by_cases hd : 0 < d1
  · go_upto_region 13 with fail
    clear i3 j3 j2
    obtain ⟨vo, so⟩ : ∃ v, w2.cell? ⟨bvv, 11, none⟩ = some v := by have h := Uvv.out.1 11 _ (List.getElem?_eq_getElem (by rw [LXvv.out]; decide)); rw [Nat.zero_add] at h; exact ⟨_, h⟩
    have fo := Uvv.out.2.1 11
    obtain ⟨wv1, hwo⟩ : ∃ w1, w1 = w2.setCell ⟨bvv, 11, none⟩ (.int .i64 1) := ⟨_, rfl⟩
    have bo : But (Only bvv) w2 wv1 := by rw [hwo]; exact (But.refl (Only bvv) w2).setOf (b := bvv) rfl 11 _
    obtain ⟨Y2, hY⟩ : ∃ X, X = (⟨c, 1, 0, false, false, 0, 0, false⟩ : Vd).cells := ⟨_, rfl⟩
    have LY : Hid (Y2.length = 18) := by rw [hY]; exact rfl
    have U1 : Hid (Box wv1 bvv Y2) := by rw [hwo, hY]; have h := Uvv.out.one (k := 11) (by rw [LXvv.out]; decide) (.int .i64 1); rw [EXvv.out] at h; exact h
    replace Ucc := hide (Ucc.out.but bo (fun e => by have e : bcc = bvv := e; have := D_vv_cc.out; omega))
    replace Uss := hide (Uss.out.but bo (fun e => by have e : bss = bvv := e; have := D_vv_ss.out; omega))
    replace BB := hide (BB.out.trans bo)
    have EY := hide hY
    have hwo' := hwo.symm
    clear hwo bo hY Uvv LXvv EXvv
    go_upto_region 14 with fail
    clear hwo' so fo
    try clear vo
    try clear Xvv
    obtain ⟨Xvv, hXX⟩ : ∃ X, X = Y2 := ⟨_, rfl⟩
    subst hXX
    have Uvv := U1
    have LXvv := LY
    have EXvv := EY
    clear U1 LY EY
    have RE : Hid (R = (false, (⟨c, 1, 0, false, false, 0, 0, false⟩ : Vd))) := by unfold Hid; rw [HR.out]; unfold ackR; rw [if_neg H2.out, if_pos (.inl (by rw [← E1.out]; exact hd))]
    go_wp2
    go_ret
    rw [RE.out]
    exact ⟨rfl, by rw [← EXvv.out]; exact Uvv.out, BB.out⟩
  go_wp2_with fail
  refine (I2.out _).mono ?_
  rintro _ wx ⟨rfl, hwx⟩
  rw [hwx]
  clear hwx wx
  by_cases he : 65535 < d2
  · go_upto_region 13 with fail
    clear i3 j3 j2
    obtain ⟨vo, so⟩ : ∃ v, w2.cell? ⟨bvv, 11, none⟩ = some v := by have h := Uvv.out.1 11 _ (List.getElem?_eq_getElem (by rw [LXvv.out]; decide)); rw [Nat.zero_add] at h; exact ⟨_, h⟩
    have fo := Uvv.out.2.1 11
    obtain ⟨wv1, hwo⟩ : ∃ w1, w1 = w2.setCell ⟨bvv, 11, none⟩ (.int .i64 1) := ⟨_, rfl⟩
    have bo : But (Only bvv) w2 wv1 := by rw [hwo]; exact (But.refl (Only bvv) w2).setOf (b := bvv) rfl 11 _
    obtain ⟨Y2, hY⟩ : ∃ X, X = (⟨c, 1, 0, false, false, 0, 0, false⟩ : Vd).cells := ⟨_, rfl⟩
    have LY : Hid (Y2.length = 18) := by rw [hY]; exact rfl
    have U1 : Hid (Box wv1 bvv Y2) := by rw [hwo, hY]; have h := Uvv.out.one (k := 11) (by rw [LXvv.out]; decide) (.int .i64 1); rw [EXvv.out] at h; exact h
    replace Ucc := hide (Ucc.out.but bo (fun e => by have e : bcc = bvv := e; have := D_vv_cc.out; omega))
    replace Uss := hide (Uss.out.but bo (fun e => by have e : bss = bvv := e; have := D_vv_ss.out; omega))
    replace BB := hide (BB.out.trans bo)
    have EY := hide hY
    have hwo' := hwo.symm
    clear hwo bo hY Uvv LXvv EXvv
    go_upto_region 14 with fail
    clear hwo' so fo
    try clear vo
    try clear Xvv
    obtain ⟨Xvv, hXX⟩ : ∃ X, X = Y2 := ⟨_, rfl⟩
    subst hXX
    have Uvv := U1
    have LXvv := LY
    have EXvv := EY
    clear U1 LY EY
    have RE : Hid (R = (false, (⟨c, 1, 0, false, false, 0, 0, false⟩ : Vd))) := by unfold Hid; rw [HR.out]; unfold ackR; rw [if_neg H2.out, if_pos (.inr (by rw [← E2.out]; exact he))]
    go_wp2
    go_ret
    rw [RE.out]
    exact ⟨rfl, by rw [← EXvv.out]; exact Uvv.out, BB.out⟩
  have BD : Hid (¬ (0 < dif s.ack c.nxt ∨ 65535 < dif c.una s.ack)) := by rw [← E1.out, ← E2.out]; exact fun k => k.elim (fun h => by omega) (fun h => by omega)
  go_upto_region 15 with fail
  clear hd he I1 I2 E1 E2
  go_wp2_with fail
  refine (I3.out _).mono ?_
  rintro _ wx ⟨rfl, hwx⟩
  rw [hwx]
  clear hwx wx
  clear i3 j3 j2 I3
  skip
  go_upto_if 72 with fail
  go_cut [] (fun wc => Box wc bvv (⟨unaC c s, 0, 0, hackB c s, hagB c s, 0, 0, false⟩ : Vd).cells ∧ Box wc bcc Xcc ∧ Box wc bss Xss ∧ But (Only bvv) w wc)
  case first =>
    by_cases hd : 0 < d3
    · have HD : Hid (0 < dif s.ack c.una) := by rw [← E3.out]; exact hd
      have EA : Hid ((⟨unaC c s, 0, 0, hackB c s, hagB c s, 0, 0, false⟩ : Vd) = (⟨{ c with una := s.ack }, 0, 0, true, false, 0, 0, false⟩ : Vd)) := by unfold Hid hagB hackB unaC; rw [if_pos HD.out, decide_eq_true HD.out]; rfl
      go_upto_region 16 with fail
      have i3 : w2.cell? ⟨bss, 3, none⟩ = some (.int .u32 s.ack) := by have h := Uss.out.1 3 (.int .u32 s.ack) (by rw [EXss.out]; rfl); rw [Nat.zero_add] at h; exact h
      obtain ⟨vo, so⟩ : ∃ v, w2.cell? ⟨bvv, 2, none⟩ = some v := by have h := Uvv.out.1 2 _ (List.getElem?_eq_getElem (by rw [LXvv.out]; decide)); rw [Nat.zero_add] at h; exact ⟨_, h⟩
      have fo := Uvv.out.2.1 2
      obtain ⟨wv1, hwo⟩ : ∃ w1, w1 = w2.setCell ⟨bvv, 2, none⟩ (.int .u32 s.ack) := ⟨_, rfl⟩
      have bo : But (Only bvv) w2 wv1 := by rw [hwo]; exact (But.refl (Only bvv) w2).setOf (b := bvv) rfl 2 _
      obtain ⟨Y2, hY⟩ : ∃ X, X = (⟨{ c with una := s.ack }, 0, 0, false, false, 0, 0, false⟩ : Vd).cells := ⟨_, rfl⟩
      have LY : Hid (Y2.length = 18) := by rw [hY]; exact rfl
      have U1 : Hid (Box wv1 bvv Y2) := by rw [hwo, hY]; have h := Uvv.out.one (k := 2) (by rw [LXvv.out]; decide) (.int .u32 s.ack); rw [EXvv.out] at h; exact h
      replace Ucc := hide (Ucc.out.but bo (fun e => by have e : bcc = bvv := e; have := D_vv_cc.out; omega))
      replace Uss := hide (Uss.out.but bo (fun e => by have e : bss = bvv := e; have := D_vv_ss.out; omega))
      replace BB := hide (BB.out.trans bo)
      have EY := hide hY
      have hwo' := hwo.symm
      clear hwo bo hY Uvv LXvv EXvv
      go_upto_region 17 with fail
      clear hwo' so fo
      try clear vo
      try clear Xvv
      obtain ⟨Xvv, hXX⟩ : ∃ X, X = Y2 := ⟨_, rfl⟩
      subst hXX
      have Uvv := U1
      have LXvv := LY
      have EXvv := EY
      clear U1 LY EY
      clear i3
      obtain ⟨vo, so⟩ : ∃ v, wv1.cell? ⟨bvv, 13, none⟩ = some v := by have h := Uvv.out.1 13 _ (List.getElem?_eq_getElem (by rw [LXvv.out]; decide)); rw [Nat.zero_add] at h; exact ⟨_, h⟩
      have fo := Uvv.out.2.1 13
      obtain ⟨wv3, hwo⟩ : ∃ w1, w1 = wv1.setCell ⟨bvv, 13, none⟩ (.bool true) := ⟨_, rfl⟩
      have bo : But (Only bvv) wv1 wv3 := by rw [hwo]; exact (But.refl (Only bvv) wv1).setOf (b := bvv) rfl 13 _
      obtain ⟨Y4, hY⟩ : ∃ X, X = (⟨{ c with una := s.ack }, 0, 0, true, false, 0, 0, false⟩ : Vd).cells := ⟨_, rfl⟩
      have LY : Hid (Y4.length = 18) := by rw [hY]; exact rfl
      have U1 : Hid (Box wv3 bvv Y4) := by rw [hwo, hY]; have h := Uvv.out.one (k := 13) (by rw [LXvv.out]; decide) (.bool true); rw [EXvv.out] at h; exact h
      replace Ucc := hide (Ucc.out.but bo (fun e => by have e : bcc = bvv := e; have := D_vv_cc.out; omega))
      replace Uss := hide (Uss.out.but bo (fun e => by have e : bss = bvv := e; have := D_vv_ss.out; omega))
      replace BB := hide (BB.out.trans bo)
      have EY := hide hY
      have hwo' := hwo.symm
      clear hwo bo hY Uvv LXvv EXvv
      go_wp2
      go_meet
      exact ⟨by rw [EA.out, ← EY.out]; exact U1.out, Ucc.out, Uss.out, BB.out⟩
    · have HD : Hid (¬ 0 < dif s.ack c.una) := by rw [← E3.out]; exact hd
      have EU : Hid ((⟨unaC c s, 0, 0, hackB c s, hagB c s, 0, 0, false⟩ : Vd) = (⟨c, 0, 0, false, agB c s, 0, 0, false⟩ : Vd)) := by unfold Hid hagB hackB unaC; rw [if_neg HD.out, decide_eq_false HD.out]; rfl
      go_upto_region 18 with fail
      clear hd
      have j2 : w2.cell? ⟨bcc, 2, none⟩ = some (.int .u32 c.una) := by have h := Ucc.out.1 2 (.int .u32 c.una) (by rw [EXcc.out]; rfl); rw [Nat.zero_add] at h; exact h
      have j3 : w2.cell? ⟨bcc, 3, none⟩ = some (.int .u32 c.nxt) := by have h := Ucc.out.1 3 (.int .u32 c.nxt) (by rw [EXcc.out]; rfl); rw [Nat.zero_add] at h; exact h
      have j5 : w2.cell? ⟨bcc, 5, none⟩ = some (.int .i64 c.wnd) := by have h := Ucc.out.1 5 (.int .i64 c.wnd) (by rw [EXcc.out]; rfl); rw [Nat.zero_add] at h; exact h
      have i3 : w2.cell? ⟨bss, 3, none⟩ = some (.int .u32 s.ack) := by have h := Uss.out.1 3 (.int .u32 s.ack) (by rw [EXss.out]; rfl); rw [Nat.zero_add] at h; exact h
      have i5 : w2.cell? ⟨bss, 5, none⟩ = some (.int .i64 s.wnd) := by have h := Uss.out.1 5 (.int .i64 s.wnd) (by rw [EXss.out]; rfl); rw [Nat.zero_add] at h; exact h
      by_cases a1 : s.ack = c.una
      · have q1 : (s.ack == c.una) = true := by simpa using a1
        have A1 := hide a1
        clear a1
        by_cases a2 : c.nxt = c.una
        · have q2 : (c.nxt != c.una) = false := by simpa using a2
          have A2 := hide a2
          clear a2
          have EA : Hid ((⟨unaC c s, 0, 0, hackB c s, hagB c s, 0, 0, false⟩ : Vd) = (⟨c, 0, 0, false, false, 0, 0, false⟩ : Vd)) := by unfold Hid; rw [EU.out]; unfold agB; rw [decide_eq_true A1.out, decide_eq_true A2.out]; rfl
          go_wp2
          go_meet
          exact ⟨by rw [EA.out, ← EXvv.out]; exact Uvv.out, Ucc.out, Uss.out, BB.out⟩
        · have q2 : (c.nxt != c.una) = true := by simpa using a2
          have A2 := hide a2
          clear a2
          go_wp2_with (refine wpList_loadAg 28 10 aggSg sizSg _ rfl bss 0 rfl Xss LXss.out Uss.out.1 (by kernel_rfl) ?_)
          clear i3 j2 j3 i5 j5
          refine (SZ.out _).mono ?_
          rintro _ wv1 ⟨rfl, bz⟩
          replace Uvv := hide (Uvv.out.later bz)
          replace Ucc := hide (Ucc.out.later bz)
          replace Uss := hide (Uss.out.later bz)
          replace BB := hide (BB.out.after bz)
          clear bz
          have j2 : wv1.cell? ⟨bcc, 2, none⟩ = some (.int .u32 c.una) := by have h := Ucc.out.1 2 (.int .u32 c.una) (by rw [EXcc.out]; rfl); rw [Nat.zero_add] at h; exact h
          have j3 : wv1.cell? ⟨bcc, 3, none⟩ = some (.int .u32 c.nxt) := by have h := Ucc.out.1 3 (.int .u32 c.nxt) (by rw [EXcc.out]; rfl); rw [Nat.zero_add] at h; exact h
          have j5 : wv1.cell? ⟨bcc, 5, none⟩ = some (.int .i64 c.wnd) := by have h := Ucc.out.1 5 (.int .i64 c.wnd) (by rw [EXcc.out]; rfl); rw [Nat.zero_add] at h; exact h
          have i3 : wv1.cell? ⟨bss, 3, none⟩ = some (.int .u32 s.ack) := by have h := Uss.out.1 3 (.int .u32 s.ack) (by rw [EXss.out]; rfl); rw [Nat.zero_add] at h; exact h
          have i5 : wv1.cell? ⟨bss, 5, none⟩ = some (.int .i64 s.wnd) := by have h := Uss.out.1 5 (.int .i64 s.wnd) (by rw [EXss.out]; rfl); rw [Nat.zero_add] at h; exact h
          by_cases a3 : s.size = 0
          · have q3 : (s.size == 0) = true := by simpa using a3
            have A3 := hide a3
            clear a3
            by_cases a4 : s.wnd = c.wnd
            · have q4 : (s.wnd == c.wnd) = true := by simpa using a4
              have A4 := hide a4
              clear a4
              have EA : Hid ((⟨unaC c s, 0, 0, hackB c s, hagB c s, 0, 0, false⟩ : Vd) = (⟨c, 0, 0, false, true, 0, 0, false⟩ : Vd)) := by unfold Hid; rw [EU.out]; unfold agB; rw [decide_eq_true A1.out, decide_eq_false A2.out, decide_eq_true A3.out, decide_eq_true A4.out]; rfl
              go_upto_region 19 with fail
              clear i3 j2 j3 i5 j5
              obtain ⟨vo, so⟩ : ∃ v, wv1.cell? ⟨bvv, 14, none⟩ = some v := by have h := Uvv.out.1 14 _ (List.getElem?_eq_getElem (by rw [LXvv.out]; decide)); rw [Nat.zero_add] at h; exact ⟨_, h⟩
              have fo := Uvv.out.2.1 14
              obtain ⟨wv2, hwo⟩ : ∃ w1, w1 = wv1.setCell ⟨bvv, 14, none⟩ (.bool true) := ⟨_, rfl⟩
              have bo : But (Only bvv) wv1 wv2 := by rw [hwo]; exact (But.refl (Only bvv) wv1).setOf (b := bvv) rfl 14 _
              obtain ⟨Y3, hY⟩ : ∃ X, X = (⟨c, 0, 0, false, true, 0, 0, false⟩ : Vd).cells := ⟨_, rfl⟩
              have LY : Hid (Y3.length = 18) := by rw [hY]; exact rfl
              have U1 : Hid (Box wv2 bvv Y3) := by rw [hwo, hY]; have h := Uvv.out.one (k := 14) (by rw [LXvv.out]; decide) (.bool true); rw [EXvv.out] at h; exact h
              replace Ucc := hide (Ucc.out.but bo (fun e => by have e : bcc = bvv := e; have := D_vv_cc.out; omega))
              replace Uss := hide (Uss.out.but bo (fun e => by have e : bss = bvv := e; have := D_vv_ss.out; omega))
              replace BB := hide (BB.out.trans bo)
              have EY := hide hY
              have hwo' := hwo.symm
              clear hwo bo hY Uvv LXvv EXvv
              go_wp2
              go_meet
              exact ⟨by rw [EA.out, ← EY.out]; exact U1.out, Ucc.out, Uss.out, BB.out⟩
            · have q4 : (s.wnd == c.wnd) = false := by simpa using a4
              have A4 := hide a4
              clear a4
              have EA : Hid ((⟨unaC c s, 0, 0, hackB c s, hagB c s, 0, 0, false⟩ : Vd) = (⟨c, 0, 0, false, false, 0, 0, false⟩ : Vd)) := by unfold Hid; rw [EU.out]; unfold agB; rw [decide_eq_true A1.out, decide_eq_false A2.out, decide_eq_true A3.out, decide_eq_false A4.out]; rfl
              go_wp2
              go_meet
              exact ⟨by rw [EA.out, ← EXvv.out]; exact Uvv.out, Ucc.out, Uss.out, BB.out⟩
          · have q3 : (s.size == 0) = false := by simpa using a3
            have A3 := hide a3
            clear a3
            have EA : Hid ((⟨unaC c s, 0, 0, hackB c s, hagB c s, 0, 0, false⟩ : Vd) = (⟨c, 0, 0, false, false, 0, 0, false⟩ : Vd)) := by unfold Hid; rw [EU.out]; unfold agB; rw [decide_eq_true A1.out, decide_eq_false A2.out, decide_eq_false A3.out]; rfl
            go_wp2
            go_meet
            exact ⟨by rw [EA.out, ← EXvv.out]; exact Uvv.out, Ucc.out, Uss.out, BB.out⟩
      · have q1 : (s.ack == c.una) = false := by simpa using a1
        have A1 := hide a1
        clear a1
        have EA : Hid ((⟨unaC c s, 0, 0, hackB c s, hagB c s, 0, 0, false⟩ : Vd) = (⟨c, 0, 0, false, false, 0, 0, false⟩ : Vd)) := by unfold Hid; rw [EU.out]; unfold agB; rw [decide_eq_false A1.out]; rfl
        go_wp2
        go_meet
        exact ⟨by rw [EA.out, ← EXvv.out]; exact Uvv.out, Ucc.out, Uss.out, BB.out⟩
  case rest =>
    rename_i wc
    obtain ⟨uv, uc, us, bb⟩ := hcut
    replace Ucc : Hid (Box wc bcc Xcc) := uc
    replace Uss : Hid (Box wc bss Xss) := us
    replace BB : Hid (But (Only bvv) w wc) := bb
    clear Uvv EXvv LXvv
    obtain ⟨Yvv, hYv⟩ : ∃ X, X = (⟨unaC c s, 0, 0, hackB c s, hagB c s, 0, 0, false⟩ : Vd).cells := ⟨_, rfl⟩
    have LXvv : Hid (Yvv.length = 18) := by rw [hYv]; exact rfl
    have Uvv : Hid (Box wc bvv Yvv) := by rw [hYv]; exact uv
    have EXvv := hide hYv
    clear hYv uv uc us bb
    obtain ⟨nw, hnw⟩ : ∃ nw, nw = nwB c s := ⟨_, rfl⟩
    have NW : Hid (nw = (decide (0 < d4) || (decide (s.seq = c.wl1) && decide (0 ≤ d5)))) := by rw [hnw, E4.out, E5.out]; exact rfl
    have HNW := hide hnw
    clear hnw
    go_upto_region 20 with fail
    go_cut [7] from 109 to 129 (fun u wx => u = .bool nw ∧ wc = wx)
    case first =>
      have j6 : wc.cell? ⟨bcc, 6, none⟩ = some (.int .u32 c.wl1) := by have h := Ucc.out.1 6 (.int .u32 c.wl1) (by rw [EXcc.out]; rfl); rw [Nat.zero_add] at h; exact h
      have j7 : wc.cell? ⟨bcc, 7, none⟩ = some (.int .u32 c.wl2) := by have h := Ucc.out.1 7 (.int .u32 c.wl2) (by rw [EXcc.out]; rfl); rw [Nat.zero_add] at h; exact h
      have i2 : wc.cell? ⟨bss, 2, none⟩ = some (.int .u32 s.seq) := by have h := Uss.out.1 2 (.int .u32 s.seq) (by rw [EXss.out]; rfl); rw [Nat.zero_add] at h; exact h
      have i3 : wc.cell? ⟨bss, 3, none⟩ = some (.int .u32 s.ack) := by have h := Uss.out.1 3 (.int .u32 s.ack) (by rw [EXss.out]; rfl); rw [Nat.zero_add] at h; exact h
      go_wp2_with fail
      refine (I4.out _).mono ?_
      rintro _ wx ⟨rfl, hwx⟩
      rw [hwx]
      clear hwx wx
      by_cases hd : 0 < d4
      · have EN : Hid (nw = true) := by unfold Hid; rw [NW.out, decide_eq_true hd]; rfl
        go_wp2
        go_meet
        exact ⟨by rw [EN.out], rfl⟩
      by_cases hq : s.seq = c.wl1
      · have q1 : (s.seq == c.wl1) = true := by simpa using hq
        have EN : Hid (nw = decide (0 ≤ d5)) := by unfold Hid; rw [NW.out, decide_eq_false (by omega), decide_eq_true hq]; rfl
        clear hq
        go_wp2_with fail
        refine (I5.out _).mono ?_
        rintro _ wx ⟨rfl, hwx⟩
        rw [hwx]
        clear hwx wx
        go_wp2
        go_meet
        exact ⟨by rw [EN.out, decide_eq_false (show ¬ 0 < d4 by omega)]; rfl, rfl⟩
      have q1 : (s.seq == c.wl1) = false := by simpa using hq
      have EN : Hid (nw = false) := by unfold Hid; rw [NW.out, decide_eq_false (by omega), decide_eq_false hq]; rfl
      clear hq
      go_wp2
      go_meet
      exact ⟨by rw [EN.out, decide_eq_false (show ¬ 0 < d4 by omega)], rfl⟩
    case rest =>
      obtain ⟨rfl, hcw⟩ := hcut
      subst hcw
      clear I4 I5 E4 E5 NW SZ
      obtain ⟨g1, hg1⟩ : ∃ g1, g1 = decide (0 ≤ d6) := ⟨_, rfl⟩
      have LT : Hid (latB (unaC c s) s = (g1 && nw)) := by unfold Hid; rw [lat_nw, hg1, E6.out, HNW.out]
      have G1 : Hid (decide (0 ≤ d6) = g1) := hg1.symm
      clear hg1
      go_upto_region 21 with fail
      cases g1 with
      | true =>
        refine region_quiet_C (fun W => Below wc.heap.size wc W) (by kernel_rfl) (by kernel_rfl) (later_drew _) ?_
        go_big_quiet_want
        refine quiet_pure (.pointer (some ⟨bss, 3, none⟩)) (fun W hW => exec_fieldO 28 _ 3 bss 0 3 rfl rfl (fun w => by kernel_rfl)) ?_
        go_big_quiet_on
        simp only [Act.put, List.setIfInBounds_toArray, List.set_cons_succ, List.set_cons_zero]
        go_big_quiet_want
        refine quiet_pure (.int .u32 s.ack) (fun W hW => exec_load1 22 one32 _ rfl bss 3 rfl (.int .u32 s.ack) (by have h := (Uss.out.later hW).1; rw [EXss.out] at h; exact h 3 _ rfl)) ?_
        go_big_quiet_on
        simp only [Act.put, List.setIfInBounds_toArray, List.set_cons_succ, List.set_cons_zero]
        go_big_quiet_step (fail)
        go_big_quiet_want
        refine quiet_pure (.pointer (some ⟨bvv, 0, none⟩)) (fun W hW => exec_nil _ _ rfl rfl) ?_
        go_big_quiet_on
        simp only [Act.put, List.setIfInBounds_toArray, List.set_cons_succ, List.set_cons_zero]
        go_big_quiet_want
        refine quiet_pure (.pointer (some ⟨bvv, 0, none⟩)) (fun W hW => exec_fieldO 32 _ 0 bvv 0 0 rfl rfl (fun w => by kernel_rfl)) ?_
        go_big_quiet_on
        simp only [Act.put, List.setIfInBounds_toArray, List.set_cons_succ, List.set_cons_zero]
        go_big_quiet_want
        refine quiet_pure (.pointer (some ⟨bvv, 2, none⟩)) (fun W hW => exec_fieldO 24 _ 2 bvv 0 2 rfl rfl (fun w => by kernel_rfl)) ?_
        go_big_quiet_on
        simp only [Act.put, List.setIfInBounds_toArray, List.set_cons_succ, List.set_cons_zero]
        go_big_quiet_want
        refine quiet_pure (.int .u32 (unaC c s).una) (fun W hW => exec_load1 22 one32 _ rfl bvv 2 rfl (.int .u32 (unaC c s).una) (by have h := (Uvv.out.later hW).1; rw [EXvv.out] at h; exact h 2 _ rfl)) ?_
        go_big_quiet_on
        simp only [Act.put, List.setIfInBounds_toArray, List.set_cons_succ, List.set_cons_zero]
        go_big_quiet_want
        refine quiet_call 20 #[.int .u32 s.ack, .int .u32 (unaC c s).una] (.int .i64 d6) (fun _ => by simp [Act.eval, go_sem]) (fun W hW => (I6.out W).mono fun e w' h => ⟨h.1, by rw [h.2]; exact hW⟩) ?_
        go_big_quiet_on
        simp only [Act.put, List.setIfInBounds_toArray, List.set_cons_succ, List.set_cons_zero]
        go_big_quiet_want
        refine quiet_pure (.bool true) (fun W hW => exec_gei2 _ _ _ _ _ _ rfl rfl rfl G1.out) ?_
        go_big_quiet_on
        simp only [Act.put, List.setIfInBounds_toArray, List.set_cons_succ, List.set_cons_zero]
        go_big_quiet_step (fail)
        go_big_quiet_want
        refine quiet_pure (.bool nw) (fun W hW => exec_move _ _ rfl rfl) ?_
        go_big_quiet_on
        simp only [Act.put, List.setIfInBounds_toArray, List.set_cons_succ, List.set_cons_zero]
        go_big_quiet_want
        refine quiet_pure (.bool nw) (fun W hW => exec_pick _ _ _ true _ rfl rfl rfl) ?_
        go_big_quiet_on
        simp only [Act.put, List.setIfInBounds_toArray, List.set_cons_succ, List.set_cons_zero]
        refine wpQuiet_nil ?_
        intro wq bq
        obtain ⟨wn, hwn⟩ : ∃ wn, wn = wq := ⟨_, rfl⟩
        rw [← hwn] at bq ⊢
        clear hwn I6 E6 G1
        replace Uvv := hide (Uvv.out.later bq)
        replace Ucc := hide (Ucc.out.later bq)
        replace Uss := hide (Uss.out.later bq)
        replace BB := hide (BB.out.after bq)
        clear bq
        cases nw with
        | true =>
          have LF : Hid (latB (unaC c s) s = true) := by unfold Hid; rw [LT.out]; rfl
          go_upto_region 22 with fail
          have i5 : wn.cell? ⟨bss, 5, none⟩ = some (.int .i64 s.wnd) := by have h := Uss.out.1 5 (.int .i64 s.wnd) (by rw [EXss.out]; rfl); rw [Nat.zero_add] at h; exact h
          obtain ⟨vo, so⟩ : ∃ v, wn.cell? ⟨bvv, 5, none⟩ = some v := by have h := Uvv.out.1 5 _ (List.getElem?_eq_getElem (by rw [LXvv.out]; decide)); rw [Nat.zero_add] at h; exact ⟨_, h⟩
          have fo := Uvv.out.2.1 5
          obtain ⟨wv1, hwo⟩ : ∃ w1, w1 = wn.setCell ⟨bvv, 5, none⟩ (.int .i64 s.wnd) := ⟨_, rfl⟩
          have bo : But (Only bvv) wn wv1 := by rw [hwo]; exact (But.refl (Only bvv) wn).setOf (b := bvv) rfl 5 _
          obtain ⟨Y2, hY⟩ : ∃ X, X = (⟨{ unaC c s with wnd := s.wnd }, 0, 0, hackB c s, hagB c s, 0, 0, false⟩ : Vd).cells := ⟨_, rfl⟩
          have LY : Hid (Y2.length = 18) := by rw [hY]; exact rfl
          have U1 : Hid (Box wv1 bvv Y2) := by rw [hwo, hY]; have h := Uvv.out.one (k := 5) (by rw [LXvv.out]; decide) (.int .i64 s.wnd); rw [EXvv.out] at h; exact h
          replace Ucc := hide (Ucc.out.but bo (fun e => by have e : bcc = bvv := e; have := D_vv_cc.out; omega))
          replace Uss := hide (Uss.out.but bo (fun e => by have e : bss = bvv := e; have := D_vv_ss.out; omega))
          replace BB := hide (BB.out.trans bo)
          have EY := hide hY
          have hwo' := hwo.symm
          clear hwo bo hY Uvv LXvv EXvv
          go_upto_region 23 with fail
          clear hwo' so fo
          try clear vo
          try clear Xvv
          obtain ⟨Xvv, hXX⟩ : ∃ X, X = Y2 := ⟨_, rfl⟩
          subst hXX
          have Uvv := U1
          have LXvv := LY
          have EXvv := EY
          clear U1 LY EY
          clear i5
          have i2 : wv1.cell? ⟨bss, 2, none⟩ = some (.int .u32 s.seq) := by have h := Uss.out.1 2 (.int .u32 s.seq) (by rw [EXss.out]; rfl); rw [Nat.zero_add] at h; exact h
          obtain ⟨vo, so⟩ : ∃ v, wv1.cell? ⟨bvv, 6, none⟩ = some v := by have h := Uvv.out.1 6 _ (List.getElem?_eq_getElem (by rw [LXvv.out]; decide)); rw [Nat.zero_add] at h; exact ⟨_, h⟩
          have fo := Uvv.out.2.1 6
          obtain ⟨wv3, hwo⟩ : ∃ w1, w1 = wv1.setCell ⟨bvv, 6, none⟩ (.int .u32 s.seq) := ⟨_, rfl⟩
          have bo : But (Only bvv) wv1 wv3 := by rw [hwo]; exact (But.refl (Only bvv) wv1).setOf (b := bvv) rfl 6 _
          obtain ⟨Y4, hY⟩ : ∃ X, X = (⟨{ unaC c s with wnd := s.wnd, wl1 := s.seq }, 0, 0, hackB c s, hagB c s, 0, 0, false⟩ : Vd).cells := ⟨_, rfl⟩
          have LY : Hid (Y4.length = 18) := by rw [hY]; exact rfl
          have U1 : Hid (Box wv3 bvv Y4) := by rw [hwo, hY]; have h := Uvv.out.one (k := 6) (by rw [LXvv.out]; decide) (.int .u32 s.seq); rw [EXvv.out] at h; exact h
          replace Ucc := hide (Ucc.out.but bo (fun e => by have e : bcc = bvv := e; have := D_vv_cc.out; omega))
          replace Uss := hide (Uss.out.but bo (fun e => by have e : bss = bvv := e; have := D_vv_ss.out; omega))
          replace BB := hide (BB.out.trans bo)
          have EY := hide hY
          have hwo' := hwo.symm
          clear hwo bo hY Uvv LXvv EXvv
          go_upto_region 24 with fail
          clear hwo' so fo
          try clear vo
          try clear Xvv
          obtain ⟨Xvv, hXX⟩ : ∃ X, X = Y4 := ⟨_, rfl⟩
          subst hXX
          have Uvv := U1
          have LXvv := LY
          have EXvv := EY
          clear U1 LY EY
          clear i2
          have i3 : wv3.cell? ⟨bss, 3, none⟩ = some (.int .u32 s.ack) := by have h := Uss.out.1 3 (.int .u32 s.ack) (by rw [EXss.out]; rfl); rw [Nat.zero_add] at h; exact h
          obtain ⟨vo, so⟩ : ∃ v, wv3.cell? ⟨bvv, 7, none⟩ = some v := by have h := Uvv.out.1 7 _ (List.getElem?_eq_getElem (by rw [LXvv.out]; decide)); rw [Nat.zero_add] at h; exact ⟨_, h⟩
          have fo := Uvv.out.2.1 7
          obtain ⟨wv5, hwo⟩ : ∃ w1, w1 = wv3.setCell ⟨bvv, 7, none⟩ (.int .u32 s.ack) := ⟨_, rfl⟩
          have bo : But (Only bvv) wv3 wv5 := by rw [hwo]; exact (But.refl (Only bvv) wv3).setOf (b := bvv) rfl 7 _
          obtain ⟨Y6, hY⟩ : ∃ X, X = (⟨{ unaC c s with wnd := s.wnd, wl1 := s.seq, wl2 := s.ack }, 0, 0, hackB c s, hagB c s, 0, 0, false⟩ : Vd).cells := ⟨_, rfl⟩
          have LY : Hid (Y6.length = 18) := by rw [hY]; exact rfl
          have U1 : Hid (Box wv5 bvv Y6) := by rw [hwo, hY]; have h := Uvv.out.one (k := 7) (by rw [LXvv.out]; decide) (.int .u32 s.ack); rw [EXvv.out] at h; exact h
          replace Ucc := hide (Ucc.out.but bo (fun e => by have e : bcc = bvv := e; have := D_vv_cc.out; omega))
          replace Uss := hide (Uss.out.but bo (fun e => by have e : bss = bvv := e; have := D_vv_ss.out; omega))
          replace BB := hide (BB.out.trans bo)
          have EY := hide hY
          have hwo' := hwo.symm
          clear hwo bo hY Uvv LXvv EXvv
          go_upto_region 25 with fail
          clear hwo' so fo
          try clear vo
          try clear Xvv
          obtain ⟨Xvv, hXX⟩ : ∃ X, X = Y6 := ⟨_, rfl⟩
          subst hXX
          have Uvv := U1
          have LXvv := LY
          have EXvv := EY
          clear U1 LY EY
          clear i3
          replace EXvv : Hid (Xvv = (⟨hearC c s, 0, 0, hackB c s, hagB c s, 0, 0, false⟩ : Vd).cells) := by unfold Hid; rw [EXvv.out, show hearC c s = { unaC c s with wnd := s.wnd, wl1 := s.seq, wl2 := s.ack } from by unfold hearC; rw [if_pos LF.out]]
          clear LF LT
          obtain ⟨y1, y2, y3, _, _, _, _, y8⟩ := hearC_same c s
          have HY := hide (And.intro y1 (And.intro y2 (And.intro y3 y8)))
          clear y1 y2 y3 y8
          cases hfs : c.fs with
          | false =>
            have FS := hide hfs
            have TS : Hid ((({ hearC c s with st := thrS (hearC c s) } : Ct)) = hearC c s) := by unfold Hid thrS; rw [if_neg (by rw [HY.out.2.1, FS.out]; exact fun k => by cases k.1)]
            clear hfs
            refine region_quiet_C (fun W => Below wv5.heap.size wv5 W) (by kernel_rfl) (by kernel_rfl) (later_drew _) ?_
            go_big_quiet_want
            refine quiet_pure (.pointer (some ⟨bcc, 4, none⟩)) (fun W hW => exec_fieldO 24 _ 4 bcc 0 4 rfl rfl (fun w => by kernel_rfl)) ?_
            go_big_quiet_on
            simp only [Act.put, List.setIfInBounds_toArray, List.set_cons_succ, List.set_cons_zero]
            go_big_quiet_want
            refine quiet_pure (.bool false) (fun W hW => exec_load1 4 oneB _ rfl bcc 4 rfl (.bool false) (by have h := (Ucc.out.later hW).1; rw [EXcc.out] at h; have h2 := h 4 _ rfl; rw [FS.out] at h2; exact h2)) ?_
            go_big_quiet_on
            simp only [Act.put, List.setIfInBounds_toArray, List.set_cons_succ, List.set_cons_zero]
            go_big_quiet_want
            refine quiet_pure (.bool true) (fun W hW => exec_not _ _ false rfl rfl) ?_
            go_big_quiet_on
            simp only [Act.put, List.setIfInBounds_toArray, List.set_cons_succ, List.set_cons_zero]
            go_big_quiet_step (fail)
            go_big_quiet_step (fail)
            go_big_quiet_step (fail)
            go_big_quiet_step (fail)
            go_big_quiet_step (fail)
            go_big_quiet_step (fail)
            go_big_quiet_step (fail)
            go_big_quiet_step (fail)
            go_big_quiet_step (fail)
            go_big_quiet_want
            refine quiet_pure (.bool true) (fun W hW => exec_pick _ _ _ true _ rfl rfl rfl) ?_
            go_big_quiet_on
            simp only [Act.put, List.setIfInBounds_toArray, List.set_cons_succ, List.set_cons_zero]
            refine wpQuiet_nil ?_
            intro wq bq
            obtain ⟨wt, hwt⟩ : ∃ wt, wt = wq := ⟨_, rfl⟩
            rw [← hwt] at bq ⊢
            clear hwt
            replace Uvv := hide (Uvv.out.later bq)
            replace Ucc := hide (Ucc.out.later bq)
            replace Uss := hide (Uss.out.later bq)
            replace BB := hide (BB.out.after bq)
            clear bq
            have RE : Hid (R = (true, (⟨hearC c s, 0, 0, hackB c s, hagB c s, 0, 0, false⟩ : Vd))) := by unfold Hid; rw [HR.out]; unfold ackR; rw [if_neg H2.out, if_neg BD.out, if_neg (fun k => by have h := k.2.1; rw [FS.out] at h; cases h)]; rw [TS.out]
            go_wp2
            go_ret
            rw [RE.out]
            exact ⟨rfl, by rw [← EXvv.out]; exact Uvv.out, BB.out⟩
          | true =>
            have FS := hide hfs
            clear hfs
            by_cases hn : (hearC c s).una = c.nxt
            · have QN : Hid ((!decide ((hearC c s).una = c.nxt)) = false) := by unfold Hid; rw [decide_eq_true hn]; rfl
              have HN := hide hn
              clear hn
              refine region_quiet_C (fun W => Below wv5.heap.size wv5 W) (by kernel_rfl) (by kernel_rfl) (later_drew _) ?_
              go_big_quiet_want
              refine quiet_pure (.pointer (some ⟨bcc, 4, none⟩)) (fun W hW => exec_fieldO 24 _ 4 bcc 0 4 rfl rfl (fun w => by kernel_rfl)) ?_
              go_big_quiet_on
              simp only [Act.put, List.setIfInBounds_toArray, List.set_cons_succ, List.set_cons_zero]
              go_big_quiet_want
              refine quiet_pure (.bool true) (fun W hW => exec_load1 4 oneB _ rfl bcc 4 rfl (.bool true) (by have h := (Ucc.out.later hW).1; rw [EXcc.out] at h; have h2 := h 4 _ rfl; rw [FS.out] at h2; exact h2)) ?_
              go_big_quiet_on
              simp only [Act.put, List.setIfInBounds_toArray, List.set_cons_succ, List.set_cons_zero]
              go_big_quiet_want
              refine quiet_pure (.bool false) (fun W hW => exec_not _ _ true rfl rfl) ?_
              go_big_quiet_on
              simp only [Act.put, List.setIfInBounds_toArray, List.set_cons_succ, List.set_cons_zero]
              go_big_quiet_step (fail)
              go_big_quiet_step (fail)
              go_big_quiet_want
              refine quiet_pure (.pointer (some ⟨bvv, 0, none⟩)) (fun W hW => exec_nil _ _ rfl rfl) ?_
              go_big_quiet_on
              simp only [Act.put, List.setIfInBounds_toArray, List.set_cons_succ, List.set_cons_zero]
              go_big_quiet_want
              refine quiet_pure (.pointer (some ⟨bvv, 0, none⟩)) (fun W hW => exec_fieldO 32 _ 0 bvv 0 0 rfl rfl (fun w => by kernel_rfl)) ?_
              go_big_quiet_on
              simp only [Act.put, List.setIfInBounds_toArray, List.set_cons_succ, List.set_cons_zero]
              go_big_quiet_want
              refine quiet_pure (.pointer (some ⟨bvv, 2, none⟩)) (fun W hW => exec_fieldO 24 _ 2 bvv 0 2 rfl rfl (fun w => by kernel_rfl)) ?_
              go_big_quiet_on
              simp only [Act.put, List.setIfInBounds_toArray, List.set_cons_succ, List.set_cons_zero]
              go_big_quiet_want
              refine quiet_pure (.int .u32 (hearC c s).una) (fun W hW => exec_load1 22 one32 _ rfl bvv 2 rfl (.int .u32 (hearC c s).una) (by have h := (Uvv.out.later hW).1; rw [EXvv.out] at h; exact h 2 _ rfl)) ?_
              go_big_quiet_on
              simp only [Act.put, List.setIfInBounds_toArray, List.set_cons_succ, List.set_cons_zero]
              go_big_quiet_want
              refine quiet_pure (.pointer (some ⟨bcc, 3, none⟩)) (fun W hW => exec_fieldO 24 _ 3 bcc 0 3 rfl rfl (fun w => by kernel_rfl)) ?_
              go_big_quiet_on
              simp only [Act.put, List.setIfInBounds_toArray, List.set_cons_succ, List.set_cons_zero]
              go_big_quiet_want
              refine quiet_pure (.int .u32 c.nxt) (fun W hW => exec_load1 22 one32 _ rfl bcc 3 rfl (.int .u32 c.nxt) (by have h := (Ucc.out.later hW).1; rw [EXcc.out] at h; exact h 3 _ rfl)) ?_
              go_big_quiet_on
              simp only [Act.put, List.setIfInBounds_toArray, List.set_cons_succ, List.set_cons_zero]
              go_big_quiet_want
              refine quiet_pure (.bool false) (fun W hW => exec_neu _ _ _ _ _ _ rfl rfl rfl QN.out) ?_
              go_big_quiet_on
              simp only [Act.put, List.setIfInBounds_toArray, List.set_cons_succ, List.set_cons_zero]
              go_big_quiet_want
              refine quiet_pure (.bool false) (fun W hW => exec_pick _ _ _ false _ rfl rfl rfl) ?_
              go_big_quiet_on
              simp only [Act.put, List.setIfInBounds_toArray, List.set_cons_succ, List.set_cons_zero]
              refine wpQuiet_nil ?_
              intro wq bq
              obtain ⟨wt, hwt⟩ : ∃ wt, wt = wq := ⟨_, rfl⟩
              rw [← hwt] at bq ⊢
              clear hwt
              replace Uvv := hide (Uvv.out.later bq)
              replace Ucc := hide (Ucc.out.later bq)
              replace Uss := hide (Uss.out.later bq)
              replace BB := hide (BB.out.after bq)
              clear bq
              have CD : Hid ((hearC c s).fs = true ∧ (hearC c s).una = (hearC c s).nxt) := ⟨by rw [HY.out.2.1]; exact FS.out, by rw [HY.out.2.2.1]; exact HN.out⟩
              have j0 : wt.cell? ⟨bcc, 0, none⟩ = some (.int .i64 c.st) := by have h := Ucc.out.1 0 (.int .i64 c.st) (by rw [EXcc.out]; rfl); rw [Nat.zero_add] at h; exact h
              by_cases s4 : c.st = 4
              · have q4 : (c.st == 4) = true := by simpa using s4
                have H4 := hide s4
                clear s4
                have TS : Hid ((({ hearC c s with st := thrS (hearC c s) } : Ct)) = { hearC c s with st := 5 }) := by unfold Hid thrS; rw [if_pos CD.out, HY.out.1, if_pos H4.out]
                go_upto_region 29 with fail
                clear j0 q4
                obtain ⟨vo, so⟩ : ∃ v, wt.cell? ⟨bvv, 0, none⟩ = some v := by have h := Uvv.out.1 0 _ (List.getElem?_eq_getElem (by rw [LXvv.out]; decide)); rw [Nat.zero_add] at h; exact ⟨_, h⟩
                have fo := Uvv.out.2.1 0
                obtain ⟨wv7, hwo⟩ : ∃ w1, w1 = wt.setCell ⟨bvv, 0, none⟩ (.int .i64 5) := ⟨_, rfl⟩
                have bo : But (Only bvv) wt wv7 := by rw [hwo]; exact (But.refl (Only bvv) wt).setOf (b := bvv) rfl 0 _
                obtain ⟨Y8, hY⟩ : ∃ X, X = (⟨{ hearC c s with st := 5 }, 0, 0, hackB c s, hagB c s, 0, 0, false⟩ : Vd).cells := ⟨_, rfl⟩
                have LY : Hid (Y8.length = 18) := by rw [hY]; exact rfl
                have U1 : Hid (Box wv7 bvv Y8) := by rw [hwo, hY]; have h := Uvv.out.one (k := 0) (by rw [LXvv.out]; decide) (.int .i64 5); rw [EXvv.out] at h; exact h
                replace Ucc := hide (Ucc.out.but bo (fun e => by have e : bcc = bvv := e; have := D_vv_cc.out; omega))
                replace Uss := hide (Uss.out.but bo (fun e => by have e : bss = bvv := e; have := D_vv_ss.out; omega))
                replace BB := hide (BB.out.trans bo)
                have EY := hide hY
                have hwo' := hwo.symm
                clear hwo bo hY Uvv LXvv EXvv
                go_upto_region 35 with fail
                clear hwo' so fo
                try clear vo
                try clear Xvv
                obtain ⟨Xvv, hXX⟩ : ∃ X, X = Y8 := ⟨_, rfl⟩
                subst hXX
                have Uvv := U1
                have LXvv := LY
                have EXvv := EY
                clear U1 LY EY
                have RE : Hid (R = (true, (⟨{ hearC c s with st := 5 }, 0, 0, hackB c s, hagB c s, 0, 0, false⟩ : Vd))) := by unfold Hid; rw [HR.out]; unfold ackR; rw [if_neg H2.out, if_neg BD.out, if_neg (fun k => by have h := k.1; have h2 := H4.out; omega)]; rw [TS.out]
                go_wp2
                go_ret
                rw [RE.out]
                exact ⟨rfl, by rw [← EXvv.out]; exact Uvv.out, BB.out⟩
              have q4 : (c.st == 4) = false := by simpa using s4
              have H4 := hide s4
              clear s4
              by_cases s7 : c.st = 7
              · have q7 : (c.st == 7) = true := by simpa using s7
                have H7 := hide s7
                clear s7
                have TS : Hid ((({ hearC c s with st := thrS (hearC c s) } : Ct)) = { hearC c s with st := 9 }) := by unfold Hid thrS; rw [if_pos CD.out, HY.out.1, if_neg H4.out, if_pos H7.out]
                go_upto_region 31 with fail
                clear j0 q7 q4
                obtain ⟨vo, so⟩ : ∃ v, wt.cell? ⟨bvv, 0, none⟩ = some v := by have h := Uvv.out.1 0 _ (List.getElem?_eq_getElem (by rw [LXvv.out]; decide)); rw [Nat.zero_add] at h; exact ⟨_, h⟩
                have fo := Uvv.out.2.1 0
                obtain ⟨wv7, hwo⟩ : ∃ w1, w1 = wt.setCell ⟨bvv, 0, none⟩ (.int .i64 9) := ⟨_, rfl⟩
                have bo : But (Only bvv) wt wv7 := by rw [hwo]; exact (But.refl (Only bvv) wt).setOf (b := bvv) rfl 0 _
                obtain ⟨Y8, hY⟩ : ∃ X, X = (⟨{ hearC c s with st := 9 }, 0, 0, hackB c s, hagB c s, 0, 0, false⟩ : Vd).cells := ⟨_, rfl⟩
                have LY : Hid (Y8.length = 18) := by rw [hY]; exact rfl
                have U1 : Hid (Box wv7 bvv Y8) := by rw [hwo, hY]; have h := Uvv.out.one (k := 0) (by rw [LXvv.out]; decide) (.int .i64 9); rw [EXvv.out] at h; exact h
                replace Ucc := hide (Ucc.out.but bo (fun e => by have e : bcc = bvv := e; have := D_vv_cc.out; omega))
                replace Uss := hide (Uss.out.but bo (fun e => by have e : bss = bvv := e; have := D_vv_ss.out; omega))
                replace BB := hide (BB.out.trans bo)
                have EY := hide hY
                have hwo' := hwo.symm
                clear hwo bo hY Uvv LXvv EXvv
                go_upto_region 35 with fail
                clear hwo' so fo
                try clear vo
                try clear Xvv
                obtain ⟨Xvv, hXX⟩ : ∃ X, X = Y8 := ⟨_, rfl⟩
                subst hXX
                have Uvv := U1
                have LXvv := LY
                have EXvv := EY
                clear U1 LY EY
                have RE : Hid (R = (true, (⟨{ hearC c s with st := 9 }, 0, 0, hackB c s, hagB c s, 0, 0, false⟩ : Vd))) := by unfold Hid; rw [HR.out]; unfold ackR; rw [if_neg H2.out, if_neg BD.out, if_neg (fun k => by have h := k.1; have h2 := H7.out; omega)]; rw [TS.out]
                go_wp2
                go_ret
                rw [RE.out]
                exact ⟨rfl, by rw [← EXvv.out]; exact Uvv.out, BB.out⟩
              have q7 : (c.st == 7) = false := by simpa using s7
              have H7 := hide s7
              clear s7
              by_cases s8 : c.st = 8
              · have q8 : (c.st == 8) = true := by simpa using s8
                have H8 := hide s8
                clear s8
                go_upto_region 33 with fail
                clear j0 q4 q7 q8
                obtain ⟨vo, so⟩ : ∃ v, wt.cell? ⟨bvv, 12, none⟩ = some v := by have h := Uvv.out.1 12 _ (List.getElem?_eq_getElem (by rw [LXvv.out]; decide)); rw [Nat.zero_add] at h; exact ⟨_, h⟩
                have fo := Uvv.out.2.1 12
                obtain ⟨wv7, hwo⟩ : ∃ w1, w1 = wt.setCell ⟨bvv, 12, none⟩ (.int .i64 218) := ⟨_, rfl⟩
                have bo : But (Only bvv) wt wv7 := by rw [hwo]; exact (But.refl (Only bvv) wt).setOf (b := bvv) rfl 12 _
                obtain ⟨Y8, hY⟩ : ∃ X, X = (⟨hearC c s, 0, 218, hackB c s, hagB c s, 0, 0, false⟩ : Vd).cells := ⟨_, rfl⟩
                have LY : Hid (Y8.length = 18) := by rw [hY]; exact rfl
                have U1 : Hid (Box wv7 bvv Y8) := by rw [hwo, hY]; have h := Uvv.out.one (k := 12) (by rw [LXvv.out]; decide) (.int .i64 218); rw [EXvv.out] at h; exact h
                replace Ucc := hide (Ucc.out.but bo (fun e => by have e : bcc = bvv := e; have := D_vv_cc.out; omega))
                replace Uss := hide (Uss.out.but bo (fun e => by have e : bss = bvv := e; have := D_vv_ss.out; omega))
                replace BB := hide (BB.out.trans bo)
                have EY := hide hY
                have hwo' := hwo.symm
                clear hwo bo hY Uvv LXvv EXvv
                go_upto_region 34 with fail
                clear hwo' so fo
                try clear vo
                try clear Xvv
                obtain ⟨Xvv, hXX⟩ : ∃ X, X = Y8 := ⟨_, rfl⟩
                subst hXX
                have Uvv := U1
                have LXvv := LY
                have EXvv := EY
                clear U1 LY EY
                have RE : Hid (R = (false, (⟨hearC c s, 0, 218, hackB c s, hagB c s, 0, 0, false⟩ : Vd))) := by unfold Hid; rw [HR.out]; unfold ackR; rw [if_neg H2.out, if_neg BD.out, if_pos ⟨H8.out, FS.out, by rw [← HY.out.2.2.2]; exact HN.out⟩]
                go_wp2
                go_ret
                rw [RE.out]
                exact ⟨rfl, by rw [← EXvv.out]; exact Uvv.out, BB.out⟩
              have q8 : (c.st == 8) = false := by simpa using s8
              have H8 := hide s8
              clear s8
              have TS : Hid ((({ hearC c s with st := thrS (hearC c s) } : Ct)) = hearC c s) := by unfold Hid thrS; rw [if_pos CD.out, HY.out.1, if_neg H4.out, if_neg H7.out, ← HY.out.1]
              have RE : Hid (R = (true, (⟨hearC c s, 0, 0, hackB c s, hagB c s, 0, 0, false⟩ : Vd))) := by unfold Hid; rw [HR.out]; unfold ackR; rw [if_neg H2.out, if_neg BD.out, if_neg (fun k => H8.out k.1)]; rw [TS.out]
              go_wp2
              go_ret
              rw [RE.out]
              exact ⟨rfl, by rw [← EXvv.out]; exact Uvv.out, BB.out⟩
            · have QN : Hid ((!decide ((hearC c s).una = c.nxt)) = true) := by unfold Hid; rw [decide_eq_false hn]; rfl
              have HN := hide hn
              clear hn
              have TS : Hid ((({ hearC c s with st := thrS (hearC c s) } : Ct)) = hearC c s) := by unfold Hid thrS; rw [if_neg (fun k => HN.out (by rw [← HY.out.2.2.1]; exact k.2))]
              refine region_quiet_C (fun W => Below wv5.heap.size wv5 W) (by kernel_rfl) (by kernel_rfl) (later_drew _) ?_
              go_big_quiet_want
              refine quiet_pure (.pointer (some ⟨bcc, 4, none⟩)) (fun W hW => exec_fieldO 24 _ 4 bcc 0 4 rfl rfl (fun w => by kernel_rfl)) ?_
              go_big_quiet_on
              simp only [Act.put, List.setIfInBounds_toArray, List.set_cons_succ, List.set_cons_zero]
              go_big_quiet_want
              refine quiet_pure (.bool true) (fun W hW => exec_load1 4 oneB _ rfl bcc 4 rfl (.bool true) (by have h := (Ucc.out.later hW).1; rw [EXcc.out] at h; have h2 := h 4 _ rfl; rw [FS.out] at h2; exact h2)) ?_
              go_big_quiet_on
              simp only [Act.put, List.setIfInBounds_toArray, List.set_cons_succ, List.set_cons_zero]
              go_big_quiet_want
              refine quiet_pure (.bool false) (fun W hW => exec_not _ _ true rfl rfl) ?_
              go_big_quiet_on
              simp only [Act.put, List.setIfInBounds_toArray, List.set_cons_succ, List.set_cons_zero]
              go_big_quiet_step (fail)
              go_big_quiet_step (fail)
              go_big_quiet_want
              refine quiet_pure (.pointer (some ⟨bvv, 0, none⟩)) (fun W hW => exec_nil _ _ rfl rfl) ?_
              go_big_quiet_on
              simp only [Act.put, List.setIfInBounds_toArray, List.set_cons_succ, List.set_cons_zero]
              go_big_quiet_want
              refine quiet_pure (.pointer (some ⟨bvv, 0, none⟩)) (fun W hW => exec_fieldO 32 _ 0 bvv 0 0 rfl rfl (fun w => by kernel_rfl)) ?_
              go_big_quiet_on
              simp only [Act.put, List.setIfInBounds_toArray, List.set_cons_succ, List.set_cons_zero]
              go_big_quiet_want
              refine quiet_pure (.pointer (some ⟨bvv, 2, none⟩)) (fun W hW => exec_fieldO 24 _ 2 bvv 0 2 rfl rfl (fun w => by kernel_rfl)) ?_
              go_big_quiet_on
              simp only [Act.put, List.setIfInBounds_toArray, List.set_cons_succ, List.set_cons_zero]
              go_big_quiet_want
              refine quiet_pure (.int .u32 (hearC c s).una) (fun W hW => exec_load1 22 one32 _ rfl bvv 2 rfl (.int .u32 (hearC c s).una) (by have h := (Uvv.out.later hW).1; rw [EXvv.out] at h; exact h 2 _ rfl)) ?_
              go_big_quiet_on
              simp only [Act.put, List.setIfInBounds_toArray, List.set_cons_succ, List.set_cons_zero]
              go_big_quiet_want
              refine quiet_pure (.pointer (some ⟨bcc, 3, none⟩)) (fun W hW => exec_fieldO 24 _ 3 bcc 0 3 rfl rfl (fun w => by kernel_rfl)) ?_
              go_big_quiet_on
              simp only [Act.put, List.setIfInBounds_toArray, List.set_cons_succ, List.set_cons_zero]
              go_big_quiet_want
              refine quiet_pure (.int .u32 c.nxt) (fun W hW => exec_load1 22 one32 _ rfl bcc 3 rfl (.int .u32 c.nxt) (by have h := (Ucc.out.later hW).1; rw [EXcc.out] at h; exact h 3 _ rfl)) ?_
              go_big_quiet_on
              simp only [Act.put, List.setIfInBounds_toArray, List.set_cons_succ, List.set_cons_zero]
              go_big_quiet_want
              refine quiet_pure (.bool true) (fun W hW => exec_neu _ _ _ _ _ _ rfl rfl rfl QN.out) ?_
              go_big_quiet_on
              simp only [Act.put, List.setIfInBounds_toArray, List.set_cons_succ, List.set_cons_zero]
              go_big_quiet_want
              refine quiet_pure (.bool true) (fun W hW => exec_pick _ _ _ false _ rfl rfl rfl) ?_
              go_big_quiet_on
              simp only [Act.put, List.setIfInBounds_toArray, List.set_cons_succ, List.set_cons_zero]
              refine wpQuiet_nil ?_
              intro wq bq
              obtain ⟨wt, hwt⟩ : ∃ wt, wt = wq := ⟨_, rfl⟩
              rw [← hwt] at bq ⊢
              clear hwt
              replace Uvv := hide (Uvv.out.later bq)
              replace Ucc := hide (Ucc.out.later bq)
              replace Uss := hide (Uss.out.later bq)
              replace BB := hide (BB.out.after bq)
              clear bq
              have RE : Hid (R = (true, (⟨hearC c s, 0, 0, hackB c s, hagB c s, 0, 0, false⟩ : Vd))) := by unfold Hid; rw [HR.out]; unfold ackR; rw [if_neg H2.out, if_neg BD.out, if_neg (fun k => HN.out (by rw [HY.out.2.2.2]; exact k.2.2))]; rw [TS.out]
              go_wp2
              go_ret
              rw [RE.out]
              exact ⟨rfl, by rw [← EXvv.out]; exact Uvv.out, BB.out⟩
        | false =>
          have LF : Hid (latB (unaC c s) s = false) := by unfold Hid; rw [LT.out]; rfl
          go_upto_region 25 with fail
          replace EXvv : Hid (Yvv = (⟨hearC c s, 0, 0, hackB c s, hagB c s, 0, 0, false⟩ : Vd).cells) := by unfold Hid; rw [EXvv.out, show hearC c s = unaC c s from by unfold hearC; rw [if_neg (by rw [LF.out]; simp)]]
          clear LF LT
          obtain ⟨y1, y2, y3, _, _, _, _, y8⟩ := hearC_same c s
          have HY := hide (And.intro y1 (And.intro y2 (And.intro y3 y8)))
          clear y1 y2 y3 y8
          cases hfs : c.fs with
          | false =>
            have FS := hide hfs
            have TS : Hid ((({ hearC c s with st := thrS (hearC c s) } : Ct)) = hearC c s) := by unfold Hid thrS; rw [if_neg (by rw [HY.out.2.1, FS.out]; exact fun k => by cases k.1)]
            clear hfs
            refine region_quiet_C (fun W => Below wn.heap.size wn W) (by kernel_rfl) (by kernel_rfl) (later_drew _) ?_
            go_big_quiet_want
            refine quiet_pure (.pointer (some ⟨bcc, 4, none⟩)) (fun W hW => exec_fieldO 24 _ 4 bcc 0 4 rfl rfl (fun w => by kernel_rfl)) ?_
            go_big_quiet_on
            simp only [Act.put, List.setIfInBounds_toArray, List.set_cons_succ, List.set_cons_zero]
            go_big_quiet_want
            refine quiet_pure (.bool false) (fun W hW => exec_load1 4 oneB _ rfl bcc 4 rfl (.bool false) (by have h := (Ucc.out.later hW).1; rw [EXcc.out] at h; have h2 := h 4 _ rfl; rw [FS.out] at h2; exact h2)) ?_
            go_big_quiet_on
            simp only [Act.put, List.setIfInBounds_toArray, List.set_cons_succ, List.set_cons_zero]
            go_big_quiet_want
            refine quiet_pure (.bool true) (fun W hW => exec_not _ _ false rfl rfl) ?_
            go_big_quiet_on
            simp only [Act.put, List.setIfInBounds_toArray, List.set_cons_succ, List.set_cons_zero]
            go_big_quiet_step (fail)
            go_big_quiet_step (fail)
            go_big_quiet_step (fail)
            go_big_quiet_step (fail)
            go_big_quiet_step (fail)
            go_big_quiet_step (fail)
            go_big_quiet_step (fail)
            go_big_quiet_step (fail)
            go_big_quiet_step (fail)
            go_big_quiet_want
            refine quiet_pure (.bool true) (fun W hW => exec_pick _ _ _ true _ rfl rfl rfl) ?_
            go_big_quiet_on
            simp only [Act.put, List.setIfInBounds_toArray, List.set_cons_succ, List.set_cons_zero]
            refine wpQuiet_nil ?_
            intro wq bq
            obtain ⟨wt, hwt⟩ : ∃ wt, wt = wq := ⟨_, rfl⟩
            rw [← hwt] at bq ⊢
            clear hwt
            replace Uvv := hide (Uvv.out.later bq)
            replace Ucc := hide (Ucc.out.later bq)
            replace Uss := hide (Uss.out.later bq)
            replace BB := hide (BB.out.after bq)
            clear bq
            have RE : Hid (R = (true, (⟨hearC c s, 0, 0, hackB c s, hagB c s, 0, 0, false⟩ : Vd))) := by unfold Hid; rw [HR.out]; unfold ackR; rw [if_neg H2.out, if_neg BD.out, if_neg (fun k => by have h := k.2.1; rw [FS.out] at h; cases h)]; rw [TS.out]
            go_wp2
            go_ret
            rw [RE.out]
            exact ⟨rfl, by rw [← EXvv.out]; exact Uvv.out, BB.out⟩
          | true =>
            have FS := hide hfs
            clear hfs
            by_cases hn : (hearC c s).una = c.nxt
            · have QN : Hid ((!decide ((hearC c s).una = c.nxt)) = false) := by unfold Hid; rw [decide_eq_true hn]; rfl
              have HN := hide hn
              clear hn
              refine region_quiet_C (fun W => Below wn.heap.size wn W) (by kernel_rfl) (by kernel_rfl) (later_drew _) ?_
              go_big_quiet_want
              refine quiet_pure (.pointer (some ⟨bcc, 4, none⟩)) (fun W hW => exec_fieldO 24 _ 4 bcc 0 4 rfl rfl (fun w => by kernel_rfl)) ?_
              go_big_quiet_on
              simp only [Act.put, List.setIfInBounds_toArray, List.set_cons_succ, List.set_cons_zero]
              go_big_quiet_want
              refine quiet_pure (.bool true) (fun W hW => exec_load1 4 oneB _ rfl bcc 4 rfl (.bool true) (by have h := (Ucc.out.later hW).1; rw [EXcc.out] at h; have h2 := h 4 _ rfl; rw [FS.out] at h2; exact h2)) ?_
              go_big_quiet_on
              simp only [Act.put, List.setIfInBounds_toArray, List.set_cons_succ, List.set_cons_zero]
              go_big_quiet_want
              refine quiet_pure (.bool false) (fun W hW => exec_not _ _ true rfl rfl) ?_
              go_big_quiet_on
              simp only [Act.put, List.setIfInBounds_toArray, List.set_cons_succ, List.set_cons_zero]
              go_big_quiet_step (fail)
              go_big_quiet_step (fail)
              go_big_quiet_want
              refine quiet_pure (.pointer (some ⟨bvv, 0, none⟩)) (fun W hW => exec_nil _ _ rfl rfl) ?_
              go_big_quiet_on
              simp only [Act.put, List.setIfInBounds_toArray, List.set_cons_succ, List.set_cons_zero]
              go_big_quiet_want
              refine quiet_pure (.pointer (some ⟨bvv, 0, none⟩)) (fun W hW => exec_fieldO 32 _ 0 bvv 0 0 rfl rfl (fun w => by kernel_rfl)) ?_
              go_big_quiet_on
              simp only [Act.put, List.setIfInBounds_toArray, List.set_cons_succ, List.set_cons_zero]
              go_big_quiet_want
              refine quiet_pure (.pointer (some ⟨bvv, 2, none⟩)) (fun W hW => exec_fieldO 24 _ 2 bvv 0 2 rfl rfl (fun w => by kernel_rfl)) ?_
              go_big_quiet_on
              simp only [Act.put, List.setIfInBounds_toArray, List.set_cons_succ, List.set_cons_zero]
              go_big_quiet_want
              refine quiet_pure (.int .u32 (hearC c s).una) (fun W hW => exec_load1 22 one32 _ rfl bvv 2 rfl (.int .u32 (hearC c s).una) (by have h := (Uvv.out.later hW).1; rw [EXvv.out] at h; exact h 2 _ rfl)) ?_
              go_big_quiet_on
              simp only [Act.put, List.setIfInBounds_toArray, List.set_cons_succ, List.set_cons_zero]
              go_big_quiet_want
              refine quiet_pure (.pointer (some ⟨bcc, 3, none⟩)) (fun W hW => exec_fieldO 24 _ 3 bcc 0 3 rfl rfl (fun w => by kernel_rfl)) ?_
              go_big_quiet_on
              simp only [Act.put, List.setIfInBounds_toArray, List.set_cons_succ, List.set_cons_zero]
              go_big_quiet_want
              refine quiet_pure (.int .u32 c.nxt) (fun W hW => exec_load1 22 one32 _ rfl bcc 3 rfl (.int .u32 c.nxt) (by have h := (Ucc.out.later hW).1; rw [EXcc.out] at h; exact h 3 _ rfl)) ?_
              go_big_quiet_on
              simp only [Act.put, List.setIfInBounds_toArray, List.set_cons_succ, List.set_cons_zero]
              go_big_quiet_want
              refine quiet_pure (.bool false) (fun W hW => exec_neu _ _ _ _ _ _ rfl rfl rfl QN.out) ?_
              go_big_quiet_on
              simp only [Act.put, List.setIfInBounds_toArray, List.set_cons_succ, List.set_cons_zero]
              go_big_quiet_want
              refine quiet_pure (.bool false) (fun W hW => exec_pick _ _ _ false _ rfl rfl rfl) ?_
              go_big_quiet_on
              simp only [Act.put, List.setIfInBounds_toArray, List.set_cons_succ, List.set_cons_zero]
              refine wpQuiet_nil ?_
              intro wq bq
              obtain ⟨wt, hwt⟩ : ∃ wt, wt = wq := ⟨_, rfl⟩
              rw [← hwt] at bq ⊢
              clear hwt
              replace Uvv := hide (Uvv.out.later bq)
              replace Ucc := hide (Ucc.out.later bq)
              replace Uss := hide (Uss.out.later bq)
              replace BB := hide (BB.out.after bq)
              clear bq
              have CD : Hid ((hearC c s).fs = true ∧ (hearC c s).una = (hearC c s).nxt) := ⟨by rw [HY.out.2.1]; exact FS.out, by rw [HY.out.2.2.1]; exact HN.out⟩
              have j0 : wt.cell? ⟨bcc, 0, none⟩ = some (.int .i64 c.st) := by have h := Ucc.out.1 0 (.int .i64 c.st) (by rw [EXcc.out]; rfl); rw [Nat.zero_add] at h; exact h
              by_cases s4 : c.st = 4
              · have q4 : (c.st == 4) = true := by simpa using s4
                have H4 := hide s4
                clear s4
                have TS : Hid ((({ hearC c s with st := thrS (hearC c s) } : Ct)) = { hearC c s with st := 5 }) := by unfold Hid thrS; rw [if_pos CD.out, HY.out.1, if_pos H4.out]
                go_upto_region 29 with fail
                clear j0 q4
                obtain ⟨vo, so⟩ : ∃ v, wt.cell? ⟨bvv, 0, none⟩ = some v := by have h := Uvv.out.1 0 _ (List.getElem?_eq_getElem (by rw [LXvv.out]; decide)); rw [Nat.zero_add] at h; exact ⟨_, h⟩
                have fo := Uvv.out.2.1 0
                obtain ⟨wv1, hwo⟩ : ∃ w1, w1 = wt.setCell ⟨bvv, 0, none⟩ (.int .i64 5) := ⟨_, rfl⟩
                have bo : But (Only bvv) wt wv1 := by rw [hwo]; exact (But.refl (Only bvv) wt).setOf (b := bvv) rfl 0 _
                obtain ⟨Y2, hY⟩ : ∃ X, X = (⟨{ hearC c s with st := 5 }, 0, 0, hackB c s, hagB c s, 0, 0, false⟩ : Vd).cells := ⟨_, rfl⟩
                have LY : Hid (Y2.length = 18) := by rw [hY]; exact rfl
                have U1 : Hid (Box wv1 bvv Y2) := by rw [hwo, hY]; have h := Uvv.out.one (k := 0) (by rw [LXvv.out]; decide) (.int .i64 5); rw [EXvv.out] at h; exact h
                replace Ucc := hide (Ucc.out.but bo (fun e => by have e : bcc = bvv := e; have := D_vv_cc.out; omega))
                replace Uss := hide (Uss.out.but bo (fun e => by have e : bss = bvv := e; have := D_vv_ss.out; omega))
                replace BB := hide (BB.out.trans bo)
                have EY := hide hY
                have hwo' := hwo.symm
                clear hwo bo hY Uvv LXvv EXvv
                go_upto_region 35 with fail
                clear hwo' so fo
                try clear vo
                try clear Xvv
                obtain ⟨Xvv, hXX⟩ : ∃ X, X = Y2 := ⟨_, rfl⟩
                subst hXX
                have Uvv := U1
                have LXvv := LY
                have EXvv := EY
                clear U1 LY EY
                have RE : Hid (R = (true, (⟨{ hearC c s with st := 5 }, 0, 0, hackB c s, hagB c s, 0, 0, false⟩ : Vd))) := by unfold Hid; rw [HR.out]; unfold ackR; rw [if_neg H2.out, if_neg BD.out, if_neg (fun k => by have h := k.1; have h2 := H4.out; omega)]; rw [TS.out]
                go_wp2
                go_ret
                rw [RE.out]
                exact ⟨rfl, by rw [← EXvv.out]; exact Uvv.out, BB.out⟩
              have q4 : (c.st == 4) = false := by simpa using s4
              have H4 := hide s4
              clear s4
              by_cases s7 : c.st = 7
              · have q7 : (c.st == 7) = true := by simpa using s7
                have H7 := hide s7
                clear s7
                have TS : Hid ((({ hearC c s with st := thrS (hearC c s) } : Ct)) = { hearC c s with st := 9 }) := by unfold Hid thrS; rw [if_pos CD.out, HY.out.1, if_neg H4.out, if_pos H7.out]
                go_upto_region 31 with fail
                clear j0 q7 q4
                obtain ⟨vo, so⟩ : ∃ v, wt.cell? ⟨bvv, 0, none⟩ = some v := by have h := Uvv.out.1 0 _ (List.getElem?_eq_getElem (by rw [LXvv.out]; decide)); rw [Nat.zero_add] at h; exact ⟨_, h⟩
                have fo := Uvv.out.2.1 0
                obtain ⟨wv1, hwo⟩ : ∃ w1, w1 = wt.setCell ⟨bvv, 0, none⟩ (.int .i64 9) := ⟨_, rfl⟩
                have bo : But (Only bvv) wt wv1 := by rw [hwo]; exact (But.refl (Only bvv) wt).setOf (b := bvv) rfl 0 _
                obtain ⟨Y2, hY⟩ : ∃ X, X = (⟨{ hearC c s with st := 9 }, 0, 0, hackB c s, hagB c s, 0, 0, false⟩ : Vd).cells := ⟨_, rfl⟩
                have LY : Hid (Y2.length = 18) := by rw [hY]; exact rfl
                have U1 : Hid (Box wv1 bvv Y2) := by rw [hwo, hY]; have h := Uvv.out.one (k := 0) (by rw [LXvv.out]; decide) (.int .i64 9); rw [EXvv.out] at h; exact h
                replace Ucc := hide (Ucc.out.but bo (fun e => by have e : bcc = bvv := e; have := D_vv_cc.out; omega))
                replace Uss := hide (Uss.out.but bo (fun e => by have e : bss = bvv := e; have := D_vv_ss.out; omega))
                replace BB := hide (BB.out.trans bo)
                have EY := hide hY
                have hwo' := hwo.symm
                clear hwo bo hY Uvv LXvv EXvv
                go_upto_region 35 with fail
                clear hwo' so fo
                try clear vo
                try clear Xvv
                obtain ⟨Xvv, hXX⟩ : ∃ X, X = Y2 := ⟨_, rfl⟩
                subst hXX
                have Uvv := U1
                have LXvv := LY
                have EXvv := EY
                clear U1 LY EY
                have RE : Hid (R = (true, (⟨{ hearC c s with st := 9 }, 0, 0, hackB c s, hagB c s, 0, 0, false⟩ : Vd))) := by unfold Hid; rw [HR.out]; unfold ackR; rw [if_neg H2.out, if_neg BD.out, if_neg (fun k => by have h := k.1; have h2 := H7.out; omega)]; rw [TS.out]
                go_wp2
                go_ret
                rw [RE.out]
                exact ⟨rfl, by rw [← EXvv.out]; exact Uvv.out, BB.out⟩
              have q7 : (c.st == 7) = false := by simpa using s7
              have H7 := hide s7
              clear s7
              by_cases s8 : c.st = 8
              · have q8 : (c.st == 8) = true := by simpa using s8
                have H8 := hide s8
                clear s8
                go_upto_region 33 with fail
                clear j0 q4 q7 q8
                obtain ⟨vo, so⟩ : ∃ v, wt.cell? ⟨bvv, 12, none⟩ = some v := by have h := Uvv.out.1 12 _ (List.getElem?_eq_getElem (by rw [LXvv.out]; decide)); rw [Nat.zero_add] at h; exact ⟨_, h⟩
                have fo := Uvv.out.2.1 12
                obtain ⟨wv1, hwo⟩ : ∃ w1, w1 = wt.setCell ⟨bvv, 12, none⟩ (.int .i64 218) := ⟨_, rfl⟩
                have bo : But (Only bvv) wt wv1 := by rw [hwo]; exact (But.refl (Only bvv) wt).setOf (b := bvv) rfl 12 _
                obtain ⟨Y2, hY⟩ : ∃ X, X = (⟨hearC c s, 0, 218, hackB c s, hagB c s, 0, 0, false⟩ : Vd).cells := ⟨_, rfl⟩
                have LY : Hid (Y2.length = 18) := by rw [hY]; exact rfl
                have U1 : Hid (Box wv1 bvv Y2) := by rw [hwo, hY]; have h := Uvv.out.one (k := 12) (by rw [LXvv.out]; decide) (.int .i64 218); rw [EXvv.out] at h; exact h
                replace Ucc := hide (Ucc.out.but bo (fun e => by have e : bcc = bvv := e; have := D_vv_cc.out; omega))
                replace Uss := hide (Uss.out.but bo (fun e => by have e : bss = bvv := e; have := D_vv_ss.out; omega))
                replace BB := hide (BB.out.trans bo)
                have EY := hide hY
                have hwo' := hwo.symm
                clear hwo bo hY Uvv LXvv EXvv
                go_upto_region 34 with fail
                clear hwo' so fo
                try clear vo
                try clear Xvv
                obtain ⟨Xvv, hXX⟩ : ∃ X, X = Y2 := ⟨_, rfl⟩
                subst hXX
                have Uvv := U1
                have LXvv := LY
                have EXvv := EY
                clear U1 LY EY
                have RE : Hid (R = (false, (⟨hearC c s, 0, 218, hackB c s, hagB c s, 0, 0, false⟩ : Vd))) := by unfold Hid; rw [HR.out]; unfold ackR; rw [if_neg H2.out, if_neg BD.out, if_pos ⟨H8.out, FS.out, by rw [← HY.out.2.2.2]; exact HN.out⟩]
                go_wp2
                go_ret
                rw [RE.out]
                exact ⟨rfl, by rw [← EXvv.out]; exact Uvv.out, BB.out⟩
              have q8 : (c.st == 8) = false := by simpa using s8
              have H8 := hide s8
              clear s8
              have TS : Hid ((({ hearC c s with st := thrS (hearC c s) } : Ct)) = hearC c s) := by unfold Hid thrS; rw [if_pos CD.out, HY.out.1, if_neg H4.out, if_neg H7.out, ← HY.out.1]
              have RE : Hid (R = (true, (⟨hearC c s, 0, 0, hackB c s, hagB c s, 0, 0, false⟩ : Vd))) := by unfold Hid; rw [HR.out]; unfold ackR; rw [if_neg H2.out, if_neg BD.out, if_neg (fun k => H8.out k.1)]; rw [TS.out]
              go_wp2
              go_ret
              rw [RE.out]
              exact ⟨rfl, by rw [← EXvv.out]; exact Uvv.out, BB.out⟩
            · have QN : Hid ((!decide ((hearC c s).una = c.nxt)) = true) := by unfold Hid; rw [decide_eq_false hn]; rfl
              have HN := hide hn
              clear hn
              have TS : Hid ((({ hearC c s with st := thrS (hearC c s) } : Ct)) = hearC c s) := by unfold Hid thrS; rw [if_neg (fun k => HN.out (by rw [← HY.out.2.2.1]; exact k.2))]
              refine region_quiet_C (fun W => Below wn.heap.size wn W) (by kernel_rfl) (by kernel_rfl) (later_drew _) ?_
              go_big_quiet_want
              refine quiet_pure (.pointer (some ⟨bcc, 4, none⟩)) (fun W hW => exec_fieldO 24 _ 4 bcc 0 4 rfl rfl (fun w => by kernel_rfl)) ?_
              go_big_quiet_on
              simp only [Act.put, List.setIfInBounds_toArray, List.set_cons_succ, List.set_cons_zero]
              go_big_quiet_want
              refine quiet_pure (.bool true) (fun W hW => exec_load1 4 oneB _ rfl bcc 4 rfl (.bool true) (by have h := (Ucc.out.later hW).1; rw [EXcc.out] at h; have h2 := h 4 _ rfl; rw [FS.out] at h2; exact h2)) ?_
              go_big_quiet_on
              simp only [Act.put, List.setIfInBounds_toArray, List.set_cons_succ, List.set_cons_zero]
              go_big_quiet_want
              refine quiet_pure (.bool false) (fun W hW => exec_not _ _ true rfl rfl) ?_
              go_big_quiet_on
              simp only [Act.put, List.setIfInBounds_toArray, List.set_cons_succ, List.set_cons_zero]
              go_big_quiet_step (fail)
              go_big_quiet_step (fail)
              go_big_quiet_want
              refine quiet_pure (.pointer (some ⟨bvv, 0, none⟩)) (fun W hW => exec_nil _ _ rfl rfl) ?_
              go_big_quiet_on
              simp only [Act.put, List.setIfInBounds_toArray, List.set_cons_succ, List.set_cons_zero]
              go_big_quiet_want
              refine quiet_pure (.pointer (some ⟨bvv, 0, none⟩)) (fun W hW => exec_fieldO 32 _ 0 bvv 0 0 rfl rfl (fun w => by kernel_rfl)) ?_
              go_big_quiet_on
              simp only [Act.put, List.setIfInBounds_toArray, List.set_cons_succ, List.set_cons_zero]
              go_big_quiet_want
              refine quiet_pure (.pointer (some ⟨bvv, 2, none⟩)) (fun W hW => exec_fieldO 24 _ 2 bvv 0 2 rfl rfl (fun w => by kernel_rfl)) ?_
              go_big_quiet_on
              simp only [Act.put, List.setIfInBounds_toArray, List.set_cons_succ, List.set_cons_zero]
              go_big_quiet_want
              refine quiet_pure (.int .u32 (hearC c s).una) (fun W hW => exec_load1 22 one32 _ rfl bvv 2 rfl (.int .u32 (hearC c s).una) (by have h := (Uvv.out.later hW).1; rw [EXvv.out] at h; exact h 2 _ rfl)) ?_
              go_big_quiet_on
              simp only [Act.put, List.setIfInBounds_toArray, List.set_cons_succ, List.set_cons_zero]
              go_big_quiet_want
              refine quiet_pure (.pointer (some ⟨bcc, 3, none⟩)) (fun W hW => exec_fieldO 24 _ 3 bcc 0 3 rfl rfl (fun w => by kernel_rfl)) ?_
              go_big_quiet_on
              simp only [Act.put, List.setIfInBounds_toArray, List.set_cons_succ, List.set_cons_zero]
              go_big_quiet_want
              refine quiet_pure (.int .u32 c.nxt) (fun W hW => exec_load1 22 one32 _ rfl bcc 3 rfl (.int .u32 c.nxt) (by have h := (Ucc.out.later hW).1; rw [EXcc.out] at h; exact h 3 _ rfl)) ?_
              go_big_quiet_on
              simp only [Act.put, List.setIfInBounds_toArray, List.set_cons_succ, List.set_cons_zero]
              go_big_quiet_want
              refine quiet_pure (.bool true) (fun W hW => exec_neu _ _ _ _ _ _ rfl rfl rfl QN.out) ?_
              go_big_quiet_on
              simp only [Act.put, List.setIfInBounds_toArray, List.set_cons_succ, List.set_cons_zero]
              go_big_quiet_want
              refine quiet_pure (.bool true) (fun W hW => exec_pick _ _ _ false _ rfl rfl rfl) ?_
              go_big_quiet_on
              simp only [Act.put, List.setIfInBounds_toArray, List.set_cons_succ, List.set_cons_zero]
              refine wpQuiet_nil ?_
              intro wq bq
              obtain ⟨wt, hwt⟩ : ∃ wt, wt = wq := ⟨_, rfl⟩
              rw [← hwt] at bq ⊢
              clear hwt
              replace Uvv := hide (Uvv.out.later bq)
              replace Ucc := hide (Ucc.out.later bq)
              replace Uss := hide (Uss.out.later bq)
              replace BB := hide (BB.out.after bq)
              clear bq
              have RE : Hid (R = (true, (⟨hearC c s, 0, 0, hackB c s, hagB c s, 0, 0, false⟩ : Vd))) := by unfold Hid; rw [HR.out]; unfold ackR; rw [if_neg H2.out, if_neg BD.out, if_neg (fun k => HN.out (by rw [HY.out.2.2.2]; exact k.2.2))]; rw [TS.out]
              go_wp2
              go_ret
              rw [RE.out]
              exact ⟨rfl, by rw [← EXvv.out]; exact Uvv.out, BB.out⟩
      | false =>
        refine region_quiet_C (fun W => Below wc.heap.size wc W) (by kernel_rfl) (by kernel_rfl) (later_drew _) ?_
        go_big_quiet_want
        refine quiet_pure (.pointer (some ⟨bss, 3, none⟩)) (fun W hW => exec_fieldO 28 _ 3 bss 0 3 rfl rfl (fun w => by kernel_rfl)) ?_
        go_big_quiet_on
        simp only [Act.put, List.setIfInBounds_toArray, List.set_cons_succ, List.set_cons_zero]
        go_big_quiet_want
        refine quiet_pure (.int .u32 s.ack) (fun W hW => exec_load1 22 one32 _ rfl bss 3 rfl (.int .u32 s.ack) (by have h := (Uss.out.later hW).1; rw [EXss.out] at h; exact h 3 _ rfl)) ?_
        go_big_quiet_on
        simp only [Act.put, List.setIfInBounds_toArray, List.set_cons_succ, List.set_cons_zero]
        go_big_quiet_step (fail)
        go_big_quiet_want
        refine quiet_pure (.pointer (some ⟨bvv, 0, none⟩)) (fun W hW => exec_nil _ _ rfl rfl) ?_
        go_big_quiet_on
        simp only [Act.put, List.setIfInBounds_toArray, List.set_cons_succ, List.set_cons_zero]
        go_big_quiet_want
        refine quiet_pure (.pointer (some ⟨bvv, 0, none⟩)) (fun W hW => exec_fieldO 32 _ 0 bvv 0 0 rfl rfl (fun w => by kernel_rfl)) ?_
        go_big_quiet_on
        simp only [Act.put, List.setIfInBounds_toArray, List.set_cons_succ, List.set_cons_zero]
        go_big_quiet_want
        refine quiet_pure (.pointer (some ⟨bvv, 2, none⟩)) (fun W hW => exec_fieldO 24 _ 2 bvv 0 2 rfl rfl (fun w => by kernel_rfl)) ?_
        go_big_quiet_on
        simp only [Act.put, List.setIfInBounds_toArray, List.set_cons_succ, List.set_cons_zero]
        go_big_quiet_want
        refine quiet_pure (.int .u32 (unaC c s).una) (fun W hW => exec_load1 22 one32 _ rfl bvv 2 rfl (.int .u32 (unaC c s).una) (by have h := (Uvv.out.later hW).1; rw [EXvv.out] at h; exact h 2 _ rfl)) ?_
        go_big_quiet_on
        simp only [Act.put, List.setIfInBounds_toArray, List.set_cons_succ, List.set_cons_zero]
        go_big_quiet_want
        refine quiet_call 20 #[.int .u32 s.ack, .int .u32 (unaC c s).una] (.int .i64 d6) (fun _ => by simp [Act.eval, go_sem]) (fun W hW => (I6.out W).mono fun e w' h => ⟨h.1, by rw [h.2]; exact hW⟩) ?_
        go_big_quiet_on
        simp only [Act.put, List.setIfInBounds_toArray, List.set_cons_succ, List.set_cons_zero]
        go_big_quiet_want
        refine quiet_pure (.bool false) (fun W hW => exec_gei2 _ _ _ _ _ _ rfl rfl rfl G1.out) ?_
        go_big_quiet_on
        simp only [Act.put, List.setIfInBounds_toArray, List.set_cons_succ, List.set_cons_zero]
        go_big_quiet_step (fail)
        go_big_quiet_step (fail)
        go_big_quiet_want
        refine quiet_pure (.bool false) (fun W hW => exec_pick _ _ _ false _ rfl rfl rfl) ?_
        go_big_quiet_on
        simp only [Act.put, List.setIfInBounds_toArray, List.set_cons_succ, List.set_cons_zero]
        refine wpQuiet_nil ?_
        intro wq bq
        obtain ⟨wn, hwn⟩ : ∃ wn, wn = wq := ⟨_, rfl⟩
        rw [← hwn] at bq ⊢
        clear hwn I6 E6 G1
        replace Uvv := hide (Uvv.out.later bq)
        replace Ucc := hide (Ucc.out.later bq)
        replace Uss := hide (Uss.out.later bq)
        replace BB := hide (BB.out.after bq)
        clear bq
        have LF : Hid (latB (unaC c s) s = false) := by unfold Hid; rw [LT.out]; rfl
        go_upto_region 25 with fail
        replace EXvv : Hid (Yvv = (⟨hearC c s, 0, 0, hackB c s, hagB c s, 0, 0, false⟩ : Vd).cells) := by unfold Hid; rw [EXvv.out, show hearC c s = unaC c s from by unfold hearC; rw [if_neg (by rw [LF.out]; simp)]]
        clear LF LT
        obtain ⟨y1, y2, y3, _, _, _, _, y8⟩ := hearC_same c s
        have HY := hide (And.intro y1 (And.intro y2 (And.intro y3 y8)))
        clear y1 y2 y3 y8
        cases hfs : c.fs with
        | false =>
          have FS := hide hfs
          have TS : Hid ((({ hearC c s with st := thrS (hearC c s) } : Ct)) = hearC c s) := by unfold Hid thrS; rw [if_neg (by rw [HY.out.2.1, FS.out]; exact fun k => by cases k.1)]
          clear hfs
          refine region_quiet_C (fun W => Below wn.heap.size wn W) (by kernel_rfl) (by kernel_rfl) (later_drew _) ?_
          go_big_quiet_want
          refine quiet_pure (.pointer (some ⟨bcc, 4, none⟩)) (fun W hW => exec_fieldO 24 _ 4 bcc 0 4 rfl rfl (fun w => by kernel_rfl)) ?_
          go_big_quiet_on
          simp only [Act.put, List.setIfInBounds_toArray, List.set_cons_succ, List.set_cons_zero]
          go_big_quiet_want
          refine quiet_pure (.bool false) (fun W hW => exec_load1 4 oneB _ rfl bcc 4 rfl (.bool false) (by have h := (Ucc.out.later hW).1; rw [EXcc.out] at h; have h2 := h 4 _ rfl; rw [FS.out] at h2; exact h2)) ?_
          go_big_quiet_on
          simp only [Act.put, List.setIfInBounds_toArray, List.set_cons_succ, List.set_cons_zero]
          go_big_quiet_want
          refine quiet_pure (.bool true) (fun W hW => exec_not _ _ false rfl rfl) ?_
          go_big_quiet_on
          simp only [Act.put, List.setIfInBounds_toArray, List.set_cons_succ, List.set_cons_zero]
          go_big_quiet_step (fail)
          go_big_quiet_step (fail)
          go_big_quiet_step (fail)
          go_big_quiet_step (fail)
          go_big_quiet_step (fail)
          go_big_quiet_step (fail)
          go_big_quiet_step (fail)
          go_big_quiet_step (fail)
          go_big_quiet_step (fail)
          go_big_quiet_want
          refine quiet_pure (.bool true) (fun W hW => exec_pick _ _ _ true _ rfl rfl rfl) ?_
          go_big_quiet_on
          simp only [Act.put, List.setIfInBounds_toArray, List.set_cons_succ, List.set_cons_zero]
          refine wpQuiet_nil ?_
          intro wq bq
          obtain ⟨wt, hwt⟩ : ∃ wt, wt = wq := ⟨_, rfl⟩
          rw [← hwt] at bq ⊢
          clear hwt
          replace Uvv := hide (Uvv.out.later bq)
          replace Ucc := hide (Ucc.out.later bq)
          replace Uss := hide (Uss.out.later bq)
          replace BB := hide (BB.out.after bq)
          clear bq
          have RE : Hid (R = (true, (⟨hearC c s, 0, 0, hackB c s, hagB c s, 0, 0, false⟩ : Vd))) := by unfold Hid; rw [HR.out]; unfold ackR; rw [if_neg H2.out, if_neg BD.out, if_neg (fun k => by have h := k.2.1; rw [FS.out] at h; cases h)]; rw [TS.out]
          go_wp2
          go_ret
          rw [RE.out]
          exact ⟨rfl, by rw [← EXvv.out]; exact Uvv.out, BB.out⟩
        | true =>
          have FS := hide hfs
          clear hfs
          by_cases hn : (hearC c s).una = c.nxt
          · have QN : Hid ((!decide ((hearC c s).una = c.nxt)) = false) := by unfold Hid; rw [decide_eq_true hn]; rfl
            have HN := hide hn
            clear hn
            refine region_quiet_C (fun W => Below wn.heap.size wn W) (by kernel_rfl) (by kernel_rfl) (later_drew _) ?_
            go_big_quiet_want
            refine quiet_pure (.pointer (some ⟨bcc, 4, none⟩)) (fun W hW => exec_fieldO 24 _ 4 bcc 0 4 rfl rfl (fun w => by kernel_rfl)) ?_
            go_big_quiet_on
            simp only [Act.put, List.setIfInBounds_toArray, List.set_cons_succ, List.set_cons_zero]
            go_big_quiet_want
            refine quiet_pure (.bool true) (fun W hW => exec_load1 4 oneB _ rfl bcc 4 rfl (.bool true) (by have h := (Ucc.out.later hW).1; rw [EXcc.out] at h; have h2 := h 4 _ rfl; rw [FS.out] at h2; exact h2)) ?_
            go_big_quiet_on
            simp only [Act.put, List.setIfInBounds_toArray, List.set_cons_succ, List.set_cons_zero]
            go_big_quiet_want
            refine quiet_pure (.bool false) (fun W hW => exec_not _ _ true rfl rfl) ?_
            go_big_quiet_on
            simp only [Act.put, List.setIfInBounds_toArray, List.set_cons_succ, List.set_cons_zero]
            go_big_quiet_step (fail)
            go_big_quiet_step (fail)
            go_big_quiet_want
            refine quiet_pure (.pointer (some ⟨bvv, 0, none⟩)) (fun W hW => exec_nil _ _ rfl rfl) ?_
            go_big_quiet_on
            simp only [Act.put, List.setIfInBounds_toArray, List.set_cons_succ, List.set_cons_zero]
            go_big_quiet_want
            refine quiet_pure (.pointer (some ⟨bvv, 0, none⟩)) (fun W hW => exec_fieldO 32 _ 0 bvv 0 0 rfl rfl (fun w => by kernel_rfl)) ?_
            go_big_quiet_on
            simp only [Act.put, List.setIfInBounds_toArray, List.set_cons_succ, List.set_cons_zero]
            go_big_quiet_want
            refine quiet_pure (.pointer (some ⟨bvv, 2, none⟩)) (fun W hW => exec_fieldO 24 _ 2 bvv 0 2 rfl rfl (fun w => by kernel_rfl)) ?_
            go_big_quiet_on
            simp only [Act.put, List.setIfInBounds_toArray, List.set_cons_succ, List.set_cons_zero]
            go_big_quiet_want
            refine quiet_pure (.int .u32 (hearC c s).una) (fun W hW => exec_load1 22 one32 _ rfl bvv 2 rfl (.int .u32 (hearC c s).una) (by have h := (Uvv.out.later hW).1; rw [EXvv.out] at h; exact h 2 _ rfl)) ?_
            go_big_quiet_on
            simp only [Act.put, List.setIfInBounds_toArray, List.set_cons_succ, List.set_cons_zero]
            go_big_quiet_want
            refine quiet_pure (.pointer (some ⟨bcc, 3, none⟩)) (fun W hW => exec_fieldO 24 _ 3 bcc 0 3 rfl rfl (fun w => by kernel_rfl)) ?_
            go_big_quiet_on
            simp only [Act.put, List.setIfInBounds_toArray, List.set_cons_succ, List.set_cons_zero]
            go_big_quiet_want
            refine quiet_pure (.int .u32 c.nxt) (fun W hW => exec_load1 22 one32 _ rfl bcc 3 rfl (.int .u32 c.nxt) (by have h := (Ucc.out.later hW).1; rw [EXcc.out] at h; exact h 3 _ rfl)) ?_
            go_big_quiet_on
            simp only [Act.put, List.setIfInBounds_toArray, List.set_cons_succ, List.set_cons_zero]
            go_big_quiet_want
            refine quiet_pure (.bool false) (fun W hW => exec_neu _ _ _ _ _ _ rfl rfl rfl QN.out) ?_
            go_big_quiet_on
            simp only [Act.put, List.setIfInBounds_toArray, List.set_cons_succ, List.set_cons_zero]
            go_big_quiet_want
            refine quiet_pure (.bool false) (fun W hW => exec_pick _ _ _ false _ rfl rfl rfl) ?_
            go_big_quiet_on
            simp only [Act.put, List.setIfInBounds_toArray, List.set_cons_succ, List.set_cons_zero]
            refine wpQuiet_nil ?_
            intro wq bq
            obtain ⟨wt, hwt⟩ : ∃ wt, wt = wq := ⟨_, rfl⟩
            rw [← hwt] at bq ⊢
            clear hwt
            replace Uvv := hide (Uvv.out.later bq)
            replace Ucc := hide (Ucc.out.later bq)
            replace Uss := hide (Uss.out.later bq)
            replace BB := hide (BB.out.after bq)
            clear bq
            have CD : Hid ((hearC c s).fs = true ∧ (hearC c s).una = (hearC c s).nxt) := ⟨by rw [HY.out.2.1]; exact FS.out, by rw [HY.out.2.2.1]; exact HN.out⟩
            have j0 : wt.cell? ⟨bcc, 0, none⟩ = some (.int .i64 c.st) := by have h := Ucc.out.1 0 (.int .i64 c.st) (by rw [EXcc.out]; rfl); rw [Nat.zero_add] at h; exact h
            by_cases s4 : c.st = 4
            · have q4 : (c.st == 4) = true := by simpa using s4
              have H4 := hide s4
              clear s4
              have TS : Hid ((({ hearC c s with st := thrS (hearC c s) } : Ct)) = { hearC c s with st := 5 }) := by unfold Hid thrS; rw [if_pos CD.out, HY.out.1, if_pos H4.out]
              go_upto_region 29 with fail
              clear j0 q4
              obtain ⟨vo, so⟩ : ∃ v, wt.cell? ⟨bvv, 0, none⟩ = some v := by have h := Uvv.out.1 0 _ (List.getElem?_eq_getElem (by rw [LXvv.out]; decide)); rw [Nat.zero_add] at h; exact ⟨_, h⟩
              have fo := Uvv.out.2.1 0
              obtain ⟨wv1, hwo⟩ : ∃ w1, w1 = wt.setCell ⟨bvv, 0, none⟩ (.int .i64 5) := ⟨_, rfl⟩
              have bo : But (Only bvv) wt wv1 := by rw [hwo]; exact (But.refl (Only bvv) wt).setOf (b := bvv) rfl 0 _
              obtain ⟨Y2, hY⟩ : ∃ X, X = (⟨{ hearC c s with st := 5 }, 0, 0, hackB c s, hagB c s, 0, 0, false⟩ : Vd).cells := ⟨_, rfl⟩
              have LY : Hid (Y2.length = 18) := by rw [hY]; exact rfl
              have U1 : Hid (Box wv1 bvv Y2) := by rw [hwo, hY]; have h := Uvv.out.one (k := 0) (by rw [LXvv.out]; decide) (.int .i64 5); rw [EXvv.out] at h; exact h
              replace Ucc := hide (Ucc.out.but bo (fun e => by have e : bcc = bvv := e; have := D_vv_cc.out; omega))
              replace Uss := hide (Uss.out.but bo (fun e => by have e : bss = bvv := e; have := D_vv_ss.out; omega))
              replace BB := hide (BB.out.trans bo)
              have EY := hide hY
              have hwo' := hwo.symm
              clear hwo bo hY Uvv LXvv EXvv
              go_upto_region 35 with fail
              clear hwo' so fo
              try clear vo
              try clear Xvv
              obtain ⟨Xvv, hXX⟩ : ∃ X, X = Y2 := ⟨_, rfl⟩
              subst hXX
              have Uvv := U1
              have LXvv := LY
              have EXvv := EY
              clear U1 LY EY
              have RE : Hid (R = (true, (⟨{ hearC c s with st := 5 }, 0, 0, hackB c s, hagB c s, 0, 0, false⟩ : Vd))) := by unfold Hid; rw [HR.out]; unfold ackR; rw [if_neg H2.out, if_neg BD.out, if_neg (fun k => by have h := k.1; have h2 := H4.out; omega)]; rw [TS.out]
              go_wp2
              go_ret
              rw [RE.out]
              exact ⟨rfl, by rw [← EXvv.out]; exact Uvv.out, BB.out⟩
            have q4 : (c.st == 4) = false := by simpa using s4
            have H4 := hide s4
            clear s4
            by_cases s7 : c.st = 7
            · have q7 : (c.st == 7) = true := by simpa using s7
              have H7 := hide s7
              clear s7
              have TS : Hid ((({ hearC c s with st := thrS (hearC c s) } : Ct)) = { hearC c s with st := 9 }) := by unfold Hid thrS; rw [if_pos CD.out, HY.out.1, if_neg H4.out, if_pos H7.out]
              go_upto_region 31 with fail
              clear j0 q7 q4
              obtain ⟨vo, so⟩ : ∃ v, wt.cell? ⟨bvv, 0, none⟩ = some v := by have h := Uvv.out.1 0 _ (List.getElem?_eq_getElem (by rw [LXvv.out]; decide)); rw [Nat.zero_add] at h; exact ⟨_, h⟩
              have fo := Uvv.out.2.1 0
              obtain ⟨wv1, hwo⟩ : ∃ w1, w1 = wt.setCell ⟨bvv, 0, none⟩ (.int .i64 9) := ⟨_, rfl⟩
              have bo : But (Only bvv) wt wv1 := by rw [hwo]; exact (But.refl (Only bvv) wt).setOf (b := bvv) rfl 0 _
              obtain ⟨Y2, hY⟩ : ∃ X, X = (⟨{ hearC c s with st := 9 }, 0, 0, hackB c s, hagB c s, 0, 0, false⟩ : Vd).cells := ⟨_, rfl⟩
              have LY : Hid (Y2.length = 18) := by rw [hY]; exact rfl
              have U1 : Hid (Box wv1 bvv Y2) := by rw [hwo, hY]; have h := Uvv.out.one (k := 0) (by rw [LXvv.out]; decide) (.int .i64 9); rw [EXvv.out] at h; exact h
              replace Ucc := hide (Ucc.out.but bo (fun e => by have e : bcc = bvv := e; have := D_vv_cc.out; omega))
              replace Uss := hide (Uss.out.but bo (fun e => by have e : bss = bvv := e; have := D_vv_ss.out; omega))
              replace BB := hide (BB.out.trans bo)
              have EY := hide hY
              have hwo' := hwo.symm
              clear hwo bo hY Uvv LXvv EXvv
              go_upto_region 35 with fail
              clear hwo' so fo
              try clear vo
              try clear Xvv
              obtain ⟨Xvv, hXX⟩ : ∃ X, X = Y2 := ⟨_, rfl⟩
              subst hXX
              have Uvv := U1
              have LXvv := LY
              have EXvv := EY
              clear U1 LY EY
              have RE : Hid (R = (true, (⟨{ hearC c s with st := 9 }, 0, 0, hackB c s, hagB c s, 0, 0, false⟩ : Vd))) := by unfold Hid; rw [HR.out]; unfold ackR; rw [if_neg H2.out, if_neg BD.out, if_neg (fun k => by have h := k.1; have h2 := H7.out; omega)]; rw [TS.out]
              go_wp2
              go_ret
              rw [RE.out]
              exact ⟨rfl, by rw [← EXvv.out]; exact Uvv.out, BB.out⟩
            have q7 : (c.st == 7) = false := by simpa using s7
            have H7 := hide s7
            clear s7
            by_cases s8 : c.st = 8
            · have q8 : (c.st == 8) = true := by simpa using s8
              have H8 := hide s8
              clear s8
              go_upto_region 33 with fail
              clear j0 q4 q7 q8
              obtain ⟨vo, so⟩ : ∃ v, wt.cell? ⟨bvv, 12, none⟩ = some v := by have h := Uvv.out.1 12 _ (List.getElem?_eq_getElem (by rw [LXvv.out]; decide)); rw [Nat.zero_add] at h; exact ⟨_, h⟩
              have fo := Uvv.out.2.1 12
              obtain ⟨wv1, hwo⟩ : ∃ w1, w1 = wt.setCell ⟨bvv, 12, none⟩ (.int .i64 218) := ⟨_, rfl⟩
              have bo : But (Only bvv) wt wv1 := by rw [hwo]; exact (But.refl (Only bvv) wt).setOf (b := bvv) rfl 12 _
              obtain ⟨Y2, hY⟩ : ∃ X, X = (⟨hearC c s, 0, 218, hackB c s, hagB c s, 0, 0, false⟩ : Vd).cells := ⟨_, rfl⟩
              have LY : Hid (Y2.length = 18) := by rw [hY]; exact rfl
              have U1 : Hid (Box wv1 bvv Y2) := by rw [hwo, hY]; have h := Uvv.out.one (k := 12) (by rw [LXvv.out]; decide) (.int .i64 218); rw [EXvv.out] at h; exact h
              replace Ucc := hide (Ucc.out.but bo (fun e => by have e : bcc = bvv := e; have := D_vv_cc.out; omega))
              replace Uss := hide (Uss.out.but bo (fun e => by have e : bss = bvv := e; have := D_vv_ss.out; omega))
              replace BB := hide (BB.out.trans bo)
              have EY := hide hY
              have hwo' := hwo.symm
              clear hwo bo hY Uvv LXvv EXvv
              go_upto_region 34 with fail
              clear hwo' so fo
              try clear vo
              try clear Xvv
              obtain ⟨Xvv, hXX⟩ : ∃ X, X = Y2 := ⟨_, rfl⟩
              subst hXX
              have Uvv := U1
              have LXvv := LY
              have EXvv := EY
              clear U1 LY EY
              have RE : Hid (R = (false, (⟨hearC c s, 0, 218, hackB c s, hagB c s, 0, 0, false⟩ : Vd))) := by unfold Hid; rw [HR.out]; unfold ackR; rw [if_neg H2.out, if_neg BD.out, if_pos ⟨H8.out, FS.out, by rw [← HY.out.2.2.2]; exact HN.out⟩]
              go_wp2
              go_ret
              rw [RE.out]
              exact ⟨rfl, by rw [← EXvv.out]; exact Uvv.out, BB.out⟩
            have q8 : (c.st == 8) = false := by simpa using s8
            have H8 := hide s8
            clear s8
            have TS : Hid ((({ hearC c s with st := thrS (hearC c s) } : Ct)) = hearC c s) := by unfold Hid thrS; rw [if_pos CD.out, HY.out.1, if_neg H4.out, if_neg H7.out, ← HY.out.1]
            have RE : Hid (R = (true, (⟨hearC c s, 0, 0, hackB c s, hagB c s, 0, 0, false⟩ : Vd))) := by unfold Hid; rw [HR.out]; unfold ackR; rw [if_neg H2.out, if_neg BD.out, if_neg (fun k => H8.out k.1)]; rw [TS.out]
            go_wp2
            go_ret
            rw [RE.out]
            exact ⟨rfl, by rw [← EXvv.out]; exact Uvv.out, BB.out⟩
          · have QN : Hid ((!decide ((hearC c s).una = c.nxt)) = true) := by unfold Hid; rw [decide_eq_false hn]; rfl
            have HN := hide hn
            clear hn
            have TS : Hid ((({ hearC c s with st := thrS (hearC c s) } : Ct)) = hearC c s) := by unfold Hid thrS; rw [if_neg (fun k => HN.out (by rw [← HY.out.2.2.1]; exact k.2))]
            refine region_quiet_C (fun W => Below wn.heap.size wn W) (by kernel_rfl) (by kernel_rfl) (later_drew _) ?_
            go_big_quiet_want
            refine quiet_pure (.pointer (some ⟨bcc, 4, none⟩)) (fun W hW => exec_fieldO 24 _ 4 bcc 0 4 rfl rfl (fun w => by kernel_rfl)) ?_
            go_big_quiet_on
            simp only [Act.put, List.setIfInBounds_toArray, List.set_cons_succ, List.set_cons_zero]
            go_big_quiet_want
            refine quiet_pure (.bool true) (fun W hW => exec_load1 4 oneB _ rfl bcc 4 rfl (.bool true) (by have h := (Ucc.out.later hW).1; rw [EXcc.out] at h; have h2 := h 4 _ rfl; rw [FS.out] at h2; exact h2)) ?_
            go_big_quiet_on
            simp only [Act.put, List.setIfInBounds_toArray, List.set_cons_succ, List.set_cons_zero]
            go_big_quiet_want
            refine quiet_pure (.bool false) (fun W hW => exec_not _ _ true rfl rfl) ?_
            go_big_quiet_on
            simp only [Act.put, List.setIfInBounds_toArray, List.set_cons_succ, List.set_cons_zero]
            go_big_quiet_step (fail)
            go_big_quiet_step (fail)
            go_big_quiet_want
            refine quiet_pure (.pointer (some ⟨bvv, 0, none⟩)) (fun W hW => exec_nil _ _ rfl rfl) ?_
            go_big_quiet_on
            simp only [Act.put, List.setIfInBounds_toArray, List.set_cons_succ, List.set_cons_zero]
            go_big_quiet_want
            refine quiet_pure (.pointer (some ⟨bvv, 0, none⟩)) (fun W hW => exec_fieldO 32 _ 0 bvv 0 0 rfl rfl (fun w => by kernel_rfl)) ?_
            go_big_quiet_on
            simp only [Act.put, List.setIfInBounds_toArray, List.set_cons_succ, List.set_cons_zero]
            go_big_quiet_want
            refine quiet_pure (.pointer (some ⟨bvv, 2, none⟩)) (fun W hW => exec_fieldO 24 _ 2 bvv 0 2 rfl rfl (fun w => by kernel_rfl)) ?_
            go_big_quiet_on
            simp only [Act.put, List.setIfInBounds_toArray, List.set_cons_succ, List.set_cons_zero]
            go_big_quiet_want
            refine quiet_pure (.int .u32 (hearC c s).una) (fun W hW => exec_load1 22 one32 _ rfl bvv 2 rfl (.int .u32 (hearC c s).una) (by have h := (Uvv.out.later hW).1; rw [EXvv.out] at h; exact h 2 _ rfl)) ?_
            go_big_quiet_on
            simp only [Act.put, List.setIfInBounds_toArray, List.set_cons_succ, List.set_cons_zero]
            go_big_quiet_want
            refine quiet_pure (.pointer (some ⟨bcc, 3, none⟩)) (fun W hW => exec_fieldO 24 _ 3 bcc 0 3 rfl rfl (fun w => by kernel_rfl)) ?_
            go_big_quiet_on
            simp only [Act.put, List.setIfInBounds_toArray, List.set_cons_succ, List.set_cons_zero]
            go_big_quiet_want
            refine quiet_pure (.int .u32 c.nxt) (fun W hW => exec_load1 22 one32 _ rfl bcc 3 rfl (.int .u32 c.nxt) (by have h := (Ucc.out.later hW).1; rw [EXcc.out] at h; exact h 3 _ rfl)) ?_
            go_big_quiet_on
            simp only [Act.put, List.setIfInBounds_toArray, List.set_cons_succ, List.set_cons_zero]
            go_big_quiet_want
            refine quiet_pure (.bool true) (fun W hW => exec_neu _ _ _ _ _ _ rfl rfl rfl QN.out) ?_
            go_big_quiet_on
            simp only [Act.put, List.setIfInBounds_toArray, List.set_cons_succ, List.set_cons_zero]
            go_big_quiet_want
            refine quiet_pure (.bool true) (fun W hW => exec_pick _ _ _ false _ rfl rfl rfl) ?_
            go_big_quiet_on
            simp only [Act.put, List.setIfInBounds_toArray, List.set_cons_succ, List.set_cons_zero]
            refine wpQuiet_nil ?_
            intro wq bq
            obtain ⟨wt, hwt⟩ : ∃ wt, wt = wq := ⟨_, rfl⟩
            rw [← hwt] at bq ⊢
            clear hwt
            replace Uvv := hide (Uvv.out.later bq)
            replace Ucc := hide (Ucc.out.later bq)
            replace Uss := hide (Uss.out.later bq)
            replace BB := hide (BB.out.after bq)
            clear bq
            have RE : Hid (R = (true, (⟨hearC c s, 0, 0, hackB c s, hagB c s, 0, 0, false⟩ : Vd))) := by unfold Hid; rw [HR.out]; unfold ackR; rw [if_neg H2.out, if_neg BD.out, if_neg (fun k => HN.out (by rw [HY.out.2.2.2]; exact k.2.2))]; rw [TS.out]
            go_wp2
            go_ret
            rw [RE.out]
            exact ⟨rfl, by rw [← EXvv.out]; exact Uvv.out, BB.out⟩
end
end Go.Proofs.Ytgdcdgofahhfdaa
