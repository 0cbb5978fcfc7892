
/-
  The document's answer for heads: head.
-/
import Derived.Test.YtiglejmmdghmgaaI20
import Derived.Test.YtiglejmmdghmgaaI25
namespace Go.Proofs.Ytiglejmmdghmgaa
open Go.RowKit Go.Shelf

/-- a head with any sum -/
def hdS (p : Pk) (sz c : Int) : List Int := ahd p sz ++ (put16 c ++ bhd p)
theorem hdS_len (p : Pk) (sz c : Int) : (hdS p sz c).length = 20 + p.opts.length := by
  simp only [hdS, List.length_append, ahd_len, put16_len, bhd_len]; omega
theorem hdS_sum {p : Pk} (sz : Int) : csum (hdS p sz 0) = csum (ahd p sz ++ bhd p) := by
  have e : wsum (hdS p sz 0) = wsum (ahd p sz ++ bhd p) := by
    unfold hdS
    rw [wsum_append_even _ _ (by rw [ahd_len]), wsum_append_even _ _ (by rw [put16_len]), wsum_put16 _ (by decide) (by decide), wsum_append_even _ _ (by rw [ahd_len])]
    omega
  unfold csum
  rw [e]
theorem pk_ips {W : World} {s : Nat} {p : Pk} {ov : Value} (h : CellsAt W s 0 (p.cells ov)) : CellsAt W s 0 p.src.vals ∧ CellsAt W s 4 p.dst.vals := by
  have h1 := CellsAt.append.1 h
  exact ⟨h1.1, (CellsAt.append.1 h1.2).1⟩
set_option maxRecDepth 100000 in
set_option maxHeartbeats 8000000 in
theorem rhead_any (p : Pk) (ov : Value) (sz c : Int) (w : World) (hov : IsB w.heap.size w ov p.opts) (hm : mb p = true) (ho : p.opts.length ≤ 40) (s0 : 0 ≤ sz) (s1 : sz ≤ 65535) (c0 : 0 ≤ c) (c1 : c ≤ 65535) :
    Calls Try.prog 26 #[.agg (p.cells ov).toArray, .int .i64 sz, .int .i64 c] w fun e w' => ∃ v, e = .returned v ∧ Gro w.heap.size w' v (hdS p sz c) ∧ Below w.heap.size w w' := by
  obtain ⟨ao, co, rfl, _⟩ := hov.shape
  obtain ⟨s, hs⟩ : ∃ s, s = w.heap.size := ⟨_, rfl⟩
  obtain ⟨n, hn⟩ : ∃ n, n = p.opts.length := ⟨_, rfl⟩
  rw [← hn] at hov ho ⊢
  obtain ⟨X, hX⟩ : ∃ X, X = p.cells (.slice ao n co) := ⟨_, rfl⟩
  rw [← hX]
  obtain ⟨w1, hw1⟩ : ∃ w1, w1 = w.alloc (.cells X.toArray 26) := ⟨_, rfl⟩
  have b1 : Below w.heap.size w w1 := by rw [hw1]; exact later_alloc _ _
  have cc1 : CellsAt w1 s 0 X := by rw [hw1, hs]; exact CellsAt.new w X 26
  have l1 : s < w1.heap.size := by rw [hw1, hs]; simp
  obtain ⟨m1, m2, m3, m4, m5, m6⟩ := mb_true hm
  obtain ⟨k1, k2⟩ := m1
  obtain ⟨k3, k4⟩ := m2
  obtain ⟨k5, k6⟩ := m3
  obtain ⟨k7, k8⟩ := m4
  obtain ⟨k9, k10⟩ := m5
  have HX := hide hX
  have HN := hide hn
  have HOV := hide hov
  have HM := hide hm
  rw [hX] at cc1
  have x11 : w1.cell? ⟨s, 11, none⟩ = some (.int .i64 p.tos) := cc1 11 _ rfl
  have x15 : w1.cell? ⟨s, 15, none⟩ = some (.slice ao n co) := cc1 15 _ rfl
  have wt : IntKind.u8.wrap p.tos = p.tos := by rw [IntKind.wrap_u8]; omega
  have wz : IntKind.u8.wrap (64 + (20 + (n : Int)) / 4) = 64 + (20 + (n : Int)) / 4 := by rw [IntKind.wrap_u8]; omega
  obtain ⟨s2, hs2⟩ : ∃ s2, s2 = w1.heap.size := ⟨_, rfl⟩
  obtain ⟨w2, hw2⟩ : ∃ w2, w2 = w1.alloc (.cells #[.int .u8 (64 + (20 + (n : Int)) / 4), .int .u8 p.tos] 5) := ⟨_, rfl⟩
  have b2 : Below w1.heap.size w1 w2 := by rw [hw2]; exact later_alloc _ _
  have i2 : IsB w2.heap.size w2 (.slice (some ⟨s2, 0, none⟩) 2 2) [64 + (20 + (n : Int)) / 4, p.tos] := by rw [hw2, World.size_alloc, hs2]; exact IsB_new [64 + (20 + (n : Int)) / 4, p.tos] (by omega)
  have B2 : Hid (Below w.heap.size w w2) := b1.trans (b2.mono b1.size)
  have C2 : Hid (CellsAt w2 s 0 (p.cells (.slice ao n co))) := cc1.later l1 b2
  have L2 : s < w2.heap.size := Nat.lt_of_lt_of_le l1 b2.size
  have P3 := hide (rPut2_any (.slice (some ⟨s2, 0, none⟩) 2 2) [64 + (20 + (n : Int)) / 4, p.tos] sz w2 i2 (by simp) s0 s1)
  have hs' := hs.symm
  have hs2' := hs2.symm
  have hw1' := hw1.symm
  have hw2' := hw2.symm
  obtain ⟨Z0, hZ0⟩ : ∃ Z0 : List Int, Z0 = [64 + (20 + (n : Int)) / 4, p.tos] := ⟨_, rfl⟩
  rw [← hZ0] at P3
  have HZ0 := hide hZ0
  clear hs hs2 hw1 hw2 b1 b2 i2 cc1 hX hn hov hZ0 hm m6
  go_enter Try.func26, Try.ntmps26
  go_wp2_with fail
  clear hs' hs2' hw1' hw2' x11 x15 wz
  refine P3.out.mono ?_
  rintro _ w3 ⟨v3, rfl, g3, b3⟩
  have B3 : Hid (Below w.heap.size w w3) := B2.out.trans (b3.mono B2.out.size)
  have C3 := hide (C2.out.later L2 b3)
  have L3 : s < w3.heap.size := Nat.lt_of_lt_of_le L2 b3.size
  obtain ⟨a3, e3, rfl, _⟩ := g3.isB.shape
  have P4 := hide (rPut2_any _ _ p.id w3 g3.isB (by rw [HZ0.out]; simp [put16]) k5 k6)
  have el3 : (Z0 ++ put16 sz).length = 4 := by rw [HZ0.out]; rfl
  rw [el3] at P4 ⊢
  have x10 : w3.cell? ⟨s, 10, none⟩ = some (.int .i64 p.id) := C3.out 10 _ rfl
  clear g3 b3 P3 B2 C2 L2 el3
  go_wp2_with fail
  clear x10
  refine P4.out.mono ?_
  rintro _ w4 ⟨v4, rfl, g4, b4⟩
  have B4 : Hid (Below w.heap.size w w4) := B3.out.trans (b4.mono B3.out.size)
  have C4 := hide (C3.out.later L3 b4)
  have L4 : s < w4.heap.size := Nat.lt_of_lt_of_le L3 b4.size
  obtain ⟨a4, e4, rfl, _⟩ := g4.isB.shape
  obtain ⟨pl0, hpl⟩ : ∃ pl0, pl0 = pl p := ⟨_, rfl⟩
  obtain ⟨q0, q1, _⟩ := pl_parts k9 k10 (mb_true HM.out).2.2.2.2.2
  rw [← hpl] at q0 q1
  have P5 := hide (rPut2_any _ _ pl0 w4 g4.isB (by rw [HZ0.out]; simp [put16]) q0 (by omega))
  have el4 : (Z0 ++ put16 sz ++ put16 p.id).length = 6 := by rw [HZ0.out]; rfl
  rw [el4] at P5 ⊢
  have HPL := hide hpl
  clear g4 b4 P4 B3 C3 L3 el4 hpl
  have x14 : w4.cell? ⟨s, 14, none⟩ = some (.int .i64 p.off) := C4.out 14 _ rfl
  have x12 : w4.cell? ⟨s, 12, none⟩ = some (.bool p.whole) := C4.out 12 _ rfl
  have x13 : w4.cell? ⟨s, 13, none⟩ = some (.bool p.more) := C4.out 13 _ rfl
  cases hw : p.whole <;> cases hmo : p.more
  · rw [hw] at x12
    rw [hmo] at x13
    have E : Hid (pl0 = p.off / 8) := by unfold Hid; rw [HPL.out]; unfold pl; rw [hw, hmo]; simp
    rw [E.out] at P5
    clear hw hmo
    go_wp2_with fail
    clear x14 x12 x13
    refine P5.out.mono ?_
    rintro _ w5 ⟨v5, rfl, g5, b5⟩
    rw [← E.out] at g5
    have B5 : Hid (Below w.heap.size w w5) := B4.out.trans (b5.mono B4.out.size)
    have C5 := C4.out.later L4 b5
    have L5 : s < w5.heap.size := Nat.lt_of_lt_of_le L4 b5.size
    obtain ⟨a5, e5, rfl, _⟩ := g5.isB.shape
    have el5 : (Z0 ++ put16 sz ++ put16 p.id ++ put16 pl0).length = 8 := by rw [HZ0.out]; rfl
    rw [el5] at g5 ⊢
    have x9 : w5.cell? ⟨s, 9, none⟩ = some (.int .i64 p.ttl) := C5 9 _ rfl
    have x8 : w5.cell? ⟨s, 8, none⟩ = some (.int .i64 p.proto) := C5 8 _ rfl
    have u9 : IntKind.u8.wrap p.ttl = p.ttl := by rw [IntKind.wrap_u8]; omega
    have u8 : IntKind.u8.wrap p.proto = p.proto := by rw [IntKind.wrap_u8]; omega
    obtain ⟨s6, hs6⟩ : ∃ s6, s6 = w5.heap.size := ⟨_, rfl⟩
    obtain ⟨w6, hw6⟩ : ∃ w6, w6 = w5.alloc (.cells #[.int .u8 p.ttl, .int .u8 p.proto] 5) := ⟨_, rfl⟩
    have b6 : Below w5.heap.size w5 w6 := by rw [hw6]; exact later_alloc _ _
    have i6 : IsB w6.heap.size w6 (.slice (some ⟨s6, 0, none⟩) 2 2) [p.ttl, p.proto] := by rw [hw6, World.size_alloc, hs6]; exact IsB_new [p.ttl, p.proto] (by omega)
    have G6 := hide (g5.later b6)
    have I6 := hide i6
    have B46 : Hid (Below w4.heap.size w4 w6) := b5.trans (b6.mono b5.size)
    obtain ⟨H10, hH10⟩ : ∃ H10, Z0 ++ put16 sz ++ put16 p.id ++ put16 pl0 ++ [p.ttl, p.proto] = H10 := ⟨_, rfl⟩
    have HH10 := hide hH10
    have EH : Hid (H10 = ahd p sz) := by
      unfold Hid
      rw [← hH10, HZ0.out, HPL.out, HN.out]
      rfl
    have el10 : Hid (H10.length = 10) := by unfold Hid; rw [← hH10, HZ0.out]; rfl
    have zl : Hid ((Z0 ++ put16 sz ++ put16 p.id ++ put16 pl0).length + ([p.ttl, p.proto] : List Int).length ≤ 140737488355328) := by unfold Hid; rw [el5]; simp
    have hs6' := hs6.symm
    have hw6' := hw6.symm
    clear hs6 hw6 b6 i6 g5 b5 C5 L5 B5 P5 el5 hH10 E
    go_wp2_with (at_builtin; refine wpList_growB rfl (.tmp 43) (.tmp 50) rfl rfl w4.heap.size (.slice a5 8 e5) _ _ [p.ttl, p.proto] rfl rfl G6.out I6.out B46.out.size zl.out H10 HH10.out ?_)
    intro a7 e7 w7 _ g7 b7
    rw [el10.out] at g7 ⊢
    have B47 : Hid (Below w4.heap.size w4 w7) := B46.out.trans b7
    have B7 : Hid (Below w.heap.size w w7) := B4.out.trans (B47.out.mono B4.out.size)
    have C7 := hide (C4.out.later L4 B47.out)
    have L7 : s < w7.heap.size := Nat.lt_of_lt_of_le L4 B47.out.size
    have P8 := hide (rPut2_any (.slice a7 10 e7) H10 c w7 g7.isB (by rw [el10.out]; decide) c0 c1)
    clear g7 b7 B46 B47 C4 L4 B4 G6 I6 hs6' hw6' x8 x9 u8 u9 zl HH10
    go_wp2_with fail
    refine P8.out.mono ?_
    rintro _ w8 ⟨v8, rfl, g8, b8⟩
    have B8 : Hid (Below w.heap.size w w8) := B7.out.trans (b8.mono B7.out.size)
    have C8 := hide (C7.out.later L7 b8)
    have L8 : s < w8.heap.size := Nat.lt_of_lt_of_le L7 b8.size
    obtain ⟨a8, e8, rfl, _⟩ := g8.isB.shape
    have el12 : (H10 ++ put16 c).length = 12 := by rw [List.length_append, el10.out]; rfl
    rw [el12] at g8 ⊢
    have R9 := hide (rip_any (.slice a8 12 e8) (H10 ++ put16 c) p.src w7.heap.size w8 b8.size g8 (by rw [el12]; decide))
    have S8 := hide (pk_ips C8.out)
    have B78 := hide b8
    have B7' := hide B7.out
    clear g8 b8 P8 B7 C8
    go_wp2_with (refine wpList_loadA rfl 23 4 aggI sizI _ rfl s 0 rfl p.src.vals rfl S8.out.1 ?_)
    refine R9.out.mono ?_
    rintro _ w9 ⟨v9, rfl, g9, b9⟩
    have B79 : Hid (Below w7.heap.size w7 w9) := B78.out.trans b9
    have S9 := hide (pk_ips (C7.out.later L7 B79.out))
    obtain ⟨a9, e9, rfl, _⟩ := g9.isB.shape
    have el16 : (H10 ++ put16 c ++ ipL p.src).length = 16 := by rw [List.length_append, el12]; rfl
    rw [el16] at g9 ⊢
    have R10 := hide (rip_any (.slice a9 16 e9) (H10 ++ put16 c ++ ipL p.src) p.dst w7.heap.size w9 B79.out.size g9 (by rw [el16]; decide))
    clear g9 b9 R9 S8 B78 B8
    go_wp2_with (refine wpList_loadA rfl 23 4 aggI sizI _ rfl s 4 rfl p.dst.vals rfl S9.out.2 ?_)
    refine R10.out.mono ?_
    rintro _ wa ⟨va, rfl, ga, ba⟩
    have B7a : Hid (Below w7.heap.size w7 wa) := B79.out.trans ba
    have Ba : Hid (Below w.heap.size w wa) := B7'.out.trans (B7a.out.mono B7'.out.size)
    obtain ⟨aa, ea, rfl, _⟩ := ga.isB.shape
    have el20 : (H10 ++ put16 c ++ ipL p.src ++ ipL p.dst).length = 20 := by rw [List.length_append, el16]; rfl
    rw [el20] at ga ⊢
    have GA := hide ga
    have xf : wa.cell? ⟨s, 15, none⟩ = some (.slice ao n co) := (C7.out.later L7 B7a.out) 15 _ rfl
    have IO := hide (HOV.out.later Ba.out)
    obtain ⟨HS, hHS⟩ : ∃ HS, H10 ++ put16 c ++ ipL p.src ++ ipL p.dst ++ p.opts = HS := ⟨_, rfl⟩
    have HHS := hide hHS
    have EHS : Hid (HS = hdS p sz c) := by
      unfold Hid hdS
      rw [← hHS, EH.out]
      simp [bhd]
    have zl2 : Hid ((H10 ++ put16 c ++ ipL p.src ++ ipL p.dst).length + p.opts.length ≤ 140737488355328) := by unfold Hid; rw [el20, ← HN.out]; omega
    have Z7 : Hid (w7.heap.size ≤ wa.heap.size) := B7a.out.size
    clear ga ba R10 S9 B79 hHS el12 el16 el20 C7
    go_wp2_with (at_builtin; refine wpList_growB rfl (.tmp 63) (.tmp 65) rfl rfl w7.heap.size (.slice aa 20 ea) _ _ p.opts rfl rfl GA.out IO.out Z7.out zl2.out HS HHS.out ?_)
    intro ab eb wb _ gb bb
    have Gb : Hid (Gro w.heap.size wb (.slice ab HS.length eb) (hdS p sz c)) := by
      unfold Hid
      have := gb.low B7'.out.size
      rw [EHS.out] at this ⊢
      exact this
    have Bb : Hid (Below w.heap.size w wb) := Ba.out.trans (bb.mono (Nat.le_trans B7'.out.size (Nat.le_refl _)))
    clear gb bb GA IO
    go_wp2
    go_ret
    exact ⟨_, rfl, Gb.out, Bb.out⟩
  · rw [hw] at x12
    rw [hmo] at x13
    have E : Hid (pl0 = p.off / 8 + 8192) := by unfold Hid; rw [HPL.out]; unfold pl; rw [hw, hmo]; simp
    rw [E.out] at P5
    clear hw hmo
    go_wp2_with fail
    clear x14 x12 x13
    refine P5.out.mono ?_
    rintro _ w5 ⟨v5, rfl, g5, b5⟩
    rw [← E.out] at g5
    have B5 : Hid (Below w.heap.size w w5) := B4.out.trans (b5.mono B4.out.size)
    have C5 := C4.out.later L4 b5
    have L5 : s < w5.heap.size := Nat.lt_of_lt_of_le L4 b5.size
    obtain ⟨a5, e5, rfl, _⟩ := g5.isB.shape
    have el5 : (Z0 ++ put16 sz ++ put16 p.id ++ put16 pl0).length = 8 := by rw [HZ0.out]; rfl
    rw [el5] at g5 ⊢
    have x9 : w5.cell? ⟨s, 9, none⟩ = some (.int .i64 p.ttl) := C5 9 _ rfl
    have x8 : w5.cell? ⟨s, 8, none⟩ = some (.int .i64 p.proto) := C5 8 _ rfl
    have u9 : IntKind.u8.wrap p.ttl = p.ttl := by rw [IntKind.wrap_u8]; omega
    have u8 : IntKind.u8.wrap p.proto = p.proto := by rw [IntKind.wrap_u8]; omega
    obtain ⟨s6, hs6⟩ : ∃ s6, s6 = w5.heap.size := ⟨_, rfl⟩
    obtain ⟨w6, hw6⟩ : ∃ w6, w6 = w5.alloc (.cells #[.int .u8 p.ttl, .int .u8 p.proto] 5) := ⟨_, rfl⟩
    have b6 : Below w5.heap.size w5 w6 := by rw [hw6]; exact later_alloc _ _
    have i6 : IsB w6.heap.size w6 (.slice (some ⟨s6, 0, none⟩) 2 2) [p.ttl, p.proto] := by rw [hw6, World.size_alloc, hs6]; exact IsB_new [p.ttl, p.proto] (by omega)
    have G6 := hide (g5.later b6)
    have I6 := hide i6
    have B46 : Hid (Below w4.heap.size w4 w6) := b5.trans (b6.mono b5.size)
    obtain ⟨H10, hH10⟩ : ∃ H10, Z0 ++ put16 sz ++ put16 p.id ++ put16 pl0 ++ [p.ttl, p.proto] = H10 := ⟨_, rfl⟩
    have HH10 := hide hH10
    have EH : Hid (H10 = ahd p sz) := by
      unfold Hid
      rw [← hH10, HZ0.out, HPL.out, HN.out]
      rfl
    have el10 : Hid (H10.length = 10) := by unfold Hid; rw [← hH10, HZ0.out]; rfl
    have zl : Hid ((Z0 ++ put16 sz ++ put16 p.id ++ put16 pl0).length + ([p.ttl, p.proto] : List Int).length ≤ 140737488355328) := by unfold Hid; rw [el5]; simp
    have hs6' := hs6.symm
    have hw6' := hw6.symm
    clear hs6 hw6 b6 i6 g5 b5 C5 L5 B5 P5 el5 hH10 E
    go_wp2_with (at_builtin; refine wpList_growB rfl (.tmp 43) (.tmp 50) rfl rfl w4.heap.size (.slice a5 8 e5) _ _ [p.ttl, p.proto] rfl rfl G6.out I6.out B46.out.size zl.out H10 HH10.out ?_)
    intro a7 e7 w7 _ g7 b7
    rw [el10.out] at g7 ⊢
    have B47 : Hid (Below w4.heap.size w4 w7) := B46.out.trans b7
    have B7 : Hid (Below w.heap.size w w7) := B4.out.trans (B47.out.mono B4.out.size)
    have C7 := hide (C4.out.later L4 B47.out)
    have L7 : s < w7.heap.size := Nat.lt_of_lt_of_le L4 B47.out.size
    have P8 := hide (rPut2_any (.slice a7 10 e7) H10 c w7 g7.isB (by rw [el10.out]; decide) c0 c1)
    clear g7 b7 B46 B47 C4 L4 B4 G6 I6 hs6' hw6' x8 x9 u8 u9 zl HH10
    go_wp2_with fail
    refine P8.out.mono ?_
    rintro _ w8 ⟨v8, rfl, g8, b8⟩
    have B8 : Hid (Below w.heap.size w w8) := B7.out.trans (b8.mono B7.out.size)
    have C8 := hide (C7.out.later L7 b8)
    have L8 : s < w8.heap.size := Nat.lt_of_lt_of_le L7 b8.size
    obtain ⟨a8, e8, rfl, _⟩ := g8.isB.shape
    have el12 : (H10 ++ put16 c).length = 12 := by rw [List.length_append, el10.out]; rfl
    rw [el12] at g8 ⊢
    have R9 := hide (rip_any (.slice a8 12 e8) (H10 ++ put16 c) p.src w7.heap.size w8 b8.size g8 (by rw [el12]; decide))
    have S8 := hide (pk_ips C8.out)
    have B78 := hide b8
    have B7' := hide B7.out
    clear g8 b8 P8 B7 C8
    go_wp2_with (refine wpList_loadA rfl 23 4 aggI sizI _ rfl s 0 rfl p.src.vals rfl S8.out.1 ?_)
    refine R9.out.mono ?_
    rintro _ w9 ⟨v9, rfl, g9, b9⟩
    have B79 : Hid (Below w7.heap.size w7 w9) := B78.out.trans b9
    have S9 := hide (pk_ips (C7.out.later L7 B79.out))
    obtain ⟨a9, e9, rfl, _⟩ := g9.isB.shape
    have el16 : (H10 ++ put16 c ++ ipL p.src).length = 16 := by rw [List.length_append, el12]; rfl
    rw [el16] at g9 ⊢
    have R10 := hide (rip_any (.slice a9 16 e9) (H10 ++ put16 c ++ ipL p.src) p.dst w7.heap.size w9 B79.out.size g9 (by rw [el16]; decide))
    clear g9 b9 R9 S8 B78 B8
    go_wp2_with (refine wpList_loadA rfl 23 4 aggI sizI _ rfl s 4 rfl p.dst.vals rfl S9.out.2 ?_)
    refine R10.out.mono ?_
    rintro _ wa ⟨va, rfl, ga, ba⟩
    have B7a : Hid (Below w7.heap.size w7 wa) := B79.out.trans ba
    have Ba : Hid (Below w.heap.size w wa) := B7'.out.trans (B7a.out.mono B7'.out.size)
    obtain ⟨aa, ea, rfl, _⟩ := ga.isB.shape
    have el20 : (H10 ++ put16 c ++ ipL p.src ++ ipL p.dst).length = 20 := by rw [List.length_append, el16]; rfl
    rw [el20] at ga ⊢
    have GA := hide ga
    have xf : wa.cell? ⟨s, 15, none⟩ = some (.slice ao n co) := (C7.out.later L7 B7a.out) 15 _ rfl
    have IO := hide (HOV.out.later Ba.out)
    obtain ⟨HS, hHS⟩ : ∃ HS, H10 ++ put16 c ++ ipL p.src ++ ipL p.dst ++ p.opts = HS := ⟨_, rfl⟩
    have HHS := hide hHS
    have EHS : Hid (HS = hdS p sz c) := by
      unfold Hid hdS
      rw [← hHS, EH.out]
      simp [bhd]
    have zl2 : Hid ((H10 ++ put16 c ++ ipL p.src ++ ipL p.dst).length + p.opts.length ≤ 140737488355328) := by unfold Hid; rw [el20, ← HN.out]; omega
    have Z7 : Hid (w7.heap.size ≤ wa.heap.size) := B7a.out.size
    clear ga ba R10 S9 B79 hHS el12 el16 el20 C7
    go_wp2_with (at_builtin; refine wpList_growB rfl (.tmp 63) (.tmp 65) rfl rfl w7.heap.size (.slice aa 20 ea) _ _ p.opts rfl rfl GA.out IO.out Z7.out zl2.out HS HHS.out ?_)
    intro ab eb wb _ gb bb
    have Gb : Hid (Gro w.heap.size wb (.slice ab HS.length eb) (hdS p sz c)) := by
      unfold Hid
      have := gb.low B7'.out.size
      rw [EHS.out] at this ⊢
      exact this
    have Bb : Hid (Below w.heap.size w wb) := Ba.out.trans (bb.mono (Nat.le_trans B7'.out.size (Nat.le_refl _)))
    clear gb bb GA IO
    go_wp2
    go_ret
    exact ⟨_, rfl, Gb.out, Bb.out⟩
  · rw [hw] at x12
    rw [hmo] at x13
    have E : Hid (pl0 = p.off / 8 + 16384) := by unfold Hid; rw [HPL.out]; unfold pl; rw [hw, hmo]; simp
    rw [E.out] at P5
    clear hw hmo
    go_wp2_with fail
    clear x14 x12 x13
    refine P5.out.mono ?_
    rintro _ w5 ⟨v5, rfl, g5, b5⟩
    rw [← E.out] at g5
    have B5 : Hid (Below w.heap.size w w5) := B4.out.trans (b5.mono B4.out.size)
    have C5 := C4.out.later L4 b5
    have L5 : s < w5.heap.size := Nat.lt_of_lt_of_le L4 b5.size
    obtain ⟨a5, e5, rfl, _⟩ := g5.isB.shape
    have el5 : (Z0 ++ put16 sz ++ put16 p.id ++ put16 pl0).length = 8 := by rw [HZ0.out]; rfl
    rw [el5] at g5 ⊢
    have x9 : w5.cell? ⟨s, 9, none⟩ = some (.int .i64 p.ttl) := C5 9 _ rfl
    have x8 : w5.cell? ⟨s, 8, none⟩ = some (.int .i64 p.proto) := C5 8 _ rfl
    have u9 : IntKind.u8.wrap p.ttl = p.ttl := by rw [IntKind.wrap_u8]; omega
    have u8 : IntKind.u8.wrap p.proto = p.proto := by rw [IntKind.wrap_u8]; omega
    obtain ⟨s6, hs6⟩ : ∃ s6, s6 = w5.heap.size := ⟨_, rfl⟩
    obtain ⟨w6, hw6⟩ : ∃ w6, w6 = w5.alloc (.cells #[.int .u8 p.ttl, .int .u8 p.proto] 5) := ⟨_, rfl⟩
    have b6 : Below w5.heap.size w5 w6 := by rw [hw6]; exact later_alloc _ _
    have i6 : IsB w6.heap.size w6 (.slice (some ⟨s6, 0, none⟩) 2 2) [p.ttl, p.proto] := by rw [hw6, World.size_alloc, hs6]; exact IsB_new [p.ttl, p.proto] (by omega)
    have G6 := hide (g5.later b6)
    have I6 := hide i6
    have B46 : Hid (Below w4.heap.size w4 w6) := b5.trans (b6.mono b5.size)
    obtain ⟨H10, hH10⟩ : ∃ H10, Z0 ++ put16 sz ++ put16 p.id ++ put16 pl0 ++ [p.ttl, p.proto] = H10 := ⟨_, rfl⟩
    have HH10 := hide hH10
    have EH : Hid (H10 = ahd p sz) := by
      unfold Hid
      rw [← hH10, HZ0.out, HPL.out, HN.out]
      rfl
    have el10 : Hid (H10.length = 10) := by unfold Hid; rw [← hH10, HZ0.out]; rfl
    have zl : Hid ((Z0 ++ put16 sz ++ put16 p.id ++ put16 pl0).length + ([p.ttl, p.proto] : List Int).length ≤ 140737488355328) := by unfold Hid; rw [el5]; simp
    have hs6' := hs6.symm
    have hw6' := hw6.symm
    clear hs6 hw6 b6 i6 g5 b5 C5 L5 B5 P5 el5 hH10 E
    go_wp2_with (at_builtin; refine wpList_growB rfl (.tmp 43) (.tmp 50) rfl rfl w4.heap.size (.slice a5 8 e5) _ _ [p.ttl, p.proto] rfl rfl G6.out I6.out B46.out.size zl.out H10 HH10.out ?_)
    intro a7 e7 w7 _ g7 b7
    rw [el10.out] at g7 ⊢
    have B47 : Hid (Below w4.heap.size w4 w7) := B46.out.trans b7
    have B7 : Hid (Below w.heap.size w w7) := B4.out.trans (B47.out.mono B4.out.size)
    have C7 := hide (C4.out.later L4 B47.out)
    have L7 : s < w7.heap.size := Nat.lt_of_lt_of_le L4 B47.out.size
    have P8 := hide (rPut2_any (.slice a7 10 e7) H10 c w7 g7.isB (by rw [el10.out]; decide) c0 c1)
    clear g7 b7 B46 B47 C4 L4 B4 G6 I6 hs6' hw6' x8 x9 u8 u9 zl HH10
    go_wp2_with fail
    refine P8.out.mono ?_
    rintro _ w8 ⟨v8, rfl, g8, b8⟩
    have B8 : Hid (Below w.heap.size w w8) := B7.out.trans (b8.mono B7.out.size)
    have C8 := hide (C7.out.later L7 b8)
    have L8 : s < w8.heap.size := Nat.lt_of_lt_of_le L7 b8.size
    obtain ⟨a8, e8, rfl, _⟩ := g8.isB.shape
    have el12 : (H10 ++ put16 c).length = 12 := by rw [List.length_append, el10.out]; rfl
    rw [el12] at g8 ⊢
    have R9 := hide (rip_any (.slice a8 12 e8) (H10 ++ put16 c) p.src w7.heap.size w8 b8.size g8 (by rw [el12]; decide))
    have S8 := hide (pk_ips C8.out)
    have B78 := hide b8
    have B7' := hide B7.out
    clear g8 b8 P8 B7 C8
    go_wp2_with (refine wpList_loadA rfl 23 4 aggI sizI _ rfl s 0 rfl p.src.vals rfl S8.out.1 ?_)
    refine R9.out.mono ?_
    rintro _ w9 ⟨v9, rfl, g9, b9⟩
    have B79 : Hid (Below w7.heap.size w7 w9) := B78.out.trans b9
    have S9 := hide (pk_ips (C7.out.later L7 B79.out))
    obtain ⟨a9, e9, rfl, _⟩ := g9.isB.shape
    have el16 : (H10 ++ put16 c ++ ipL p.src).length = 16 := by rw [List.length_append, el12]; rfl
    rw [el16] at g9 ⊢
    have R10 := hide (rip_any (.slice a9 16 e9) (H10 ++ put16 c ++ ipL p.src) p.dst w7.heap.size w9 B79.out.size g9 (by rw [el16]; decide))
    clear g9 b9 R9 S8 B78 B8
    go_wp2_with (refine wpList_loadA rfl 23 4 aggI sizI _ rfl s 4 rfl p.dst.vals rfl S9.out.2 ?_)
    refine R10.out.mono ?_
    rintro _ wa ⟨va, rfl, ga, ba⟩
    have B7a : Hid (Below w7.heap.size w7 wa) := B79.out.trans ba
    have Ba : Hid (Below w.heap.size w wa) := B7'.out.trans (B7a.out.mono B7'.out.size)
    obtain ⟨aa, ea, rfl, _⟩ := ga.isB.shape
    have el20 : (H10 ++ put16 c ++ ipL p.src ++ ipL p.dst).length = 20 := by rw [List.length_append, el16]; rfl
    rw [el20] at ga ⊢
    have GA := hide ga
    have xf : wa.cell? ⟨s, 15, none⟩ = some (.slice ao n co) := (C7.out.later L7 B7a.out) 15 _ rfl
    have IO := hide (HOV.out.later Ba.out)
    obtain ⟨HS, hHS⟩ : ∃ HS, H10 ++ put16 c ++ ipL p.src ++ ipL p.dst ++ p.opts = HS := ⟨_, rfl⟩
    have HHS := hide hHS
    have EHS : Hid (HS = hdS p sz c) := by
      unfold Hid hdS
      rw [← hHS, EH.out]
      simp [bhd]
    have zl2 : Hid ((H10 ++ put16 c ++ ipL p.src ++ ipL p.dst).length + p.opts.length ≤ 140737488355328) := by unfold Hid; rw [el20, ← HN.out]; omega
    have Z7 : Hid (w7.heap.size ≤ wa.heap.size) := B7a.out.size
    clear ga ba R10 S9 B79 hHS el12 el16 el20 C7
    go_wp2_with (at_builtin; refine wpList_growB rfl (.tmp 63) (.tmp 65) rfl rfl w7.heap.size (.slice aa 20 ea) _ _ p.opts rfl rfl GA.out IO.out Z7.out zl2.out HS HHS.out ?_)
    intro ab eb wb _ gb bb
    have Gb : Hid (Gro w.heap.size wb (.slice ab HS.length eb) (hdS p sz c)) := by
      unfold Hid
      have := gb.low B7'.out.size
      rw [EHS.out] at this ⊢
      exact this
    have Bb : Hid (Below w.heap.size w wb) := Ba.out.trans (bb.mono (Nat.le_trans B7'.out.size (Nat.le_refl _)))
    clear gb bb GA IO
    go_wp2
    go_ret
    exact ⟨_, rfl, Gb.out, Bb.out⟩
  · rw [hw] at x12
    rw [hmo] at x13
    have E : Hid (pl0 = p.off / 8 + 16384 + 8192) := by unfold Hid; rw [HPL.out]; unfold pl; rw [hw, hmo]; simp
    rw [E.out] at P5
    clear hw hmo
    go_wp2_with fail
    clear x14 x12 x13
    refine P5.out.mono ?_
    rintro _ w5 ⟨v5, rfl, g5, b5⟩
    rw [← E.out] at g5
    have B5 : Hid (Below w.heap.size w w5) := B4.out.trans (b5.mono B4.out.size)
    have C5 := C4.out.later L4 b5
    have L5 : s < w5.heap.size := Nat.lt_of_lt_of_le L4 b5.size
    obtain ⟨a5, e5, rfl, _⟩ := g5.isB.shape
    have el5 : (Z0 ++ put16 sz ++ put16 p.id ++ put16 pl0).length = 8 := by rw [HZ0.out]; rfl
    rw [el5] at g5 ⊢
    have x9 : w5.cell? ⟨s, 9, none⟩ = some (.int .i64 p.ttl) := C5 9 _ rfl
    have x8 : w5.cell? ⟨s, 8, none⟩ = some (.int .i64 p.proto) := C5 8 _ rfl
    have u9 : IntKind.u8.wrap p.ttl = p.ttl := by rw [IntKind.wrap_u8]; omega
    have u8 : IntKind.u8.wrap p.proto = p.proto := by rw [IntKind.wrap_u8]; omega
    obtain ⟨s6, hs6⟩ : ∃ s6, s6 = w5.heap.size := ⟨_, rfl⟩
    obtain ⟨w6, hw6⟩ : ∃ w6, w6 = w5.alloc (.cells #[.int .u8 p.ttl, .int .u8 p.proto] 5) := ⟨_, rfl⟩
    have b6 : Below w5.heap.size w5 w6 := by rw [hw6]; exact later_alloc _ _
    have i6 : IsB w6.heap.size w6 (.slice (some ⟨s6, 0, none⟩) 2 2) [p.ttl, p.proto] := by rw [hw6, World.size_alloc, hs6]; exact IsB_new [p.ttl, p.proto] (by omega)
    have G6 := hide (g5.later b6)
    have I6 := hide i6
    have B46 : Hid (Below w4.heap.size w4 w6) := b5.trans (b6.mono b5.size)
    obtain ⟨H10, hH10⟩ : ∃ H10, Z0 ++ put16 sz ++ put16 p.id ++ put16 pl0 ++ [p.ttl, p.proto] = H10 := ⟨_, rfl⟩
    have HH10 := hide hH10
    have EH : Hid (H10 = ahd p sz) := by
      unfold Hid
      rw [← hH10, HZ0.out, HPL.out, HN.out]
      rfl
    have el10 : Hid (H10.length = 10) := by unfold Hid; rw [← hH10, HZ0.out]; rfl
    have zl : Hid ((Z0 ++ put16 sz ++ put16 p.id ++ put16 pl0).length + ([p.ttl, p.proto] : List Int).length ≤ 140737488355328) := by unfold Hid; rw [el5]; simp
    have hs6' := hs6.symm
    have hw6' := hw6.symm
    clear hs6 hw6 b6 i6 g5 b5 C5 L5 B5 P5 el5 hH10 E
    go_wp2_with (at_builtin; refine wpList_growB rfl (.tmp 43) (.tmp 50) rfl rfl w4.heap.size (.slice a5 8 e5) _ _ [p.ttl, p.proto] rfl rfl G6.out I6.out B46.out.size zl.out H10 HH10.out ?_)
    intro a7 e7 w7 _ g7 b7
    rw [el10.out] at g7 ⊢
    have B47 : Hid (Below w4.heap.size w4 w7) := B46.out.trans b7
    have B7 : Hid (Below w.heap.size w w7) := B4.out.trans (B47.out.mono B4.out.size)
    have C7 := hide (C4.out.later L4 B47.out)
    have L7 : s < w7.heap.size := Nat.lt_of_lt_of_le L4 B47.out.size
    have P8 := hide (rPut2_any (.slice a7 10 e7) H10 c w7 g7.isB (by rw [el10.out]; decide) c0 c1)
    clear g7 b7 B46 B47 C4 L4 B4 G6 I6 hs6' hw6' x8 x9 u8 u9 zl HH10
    go_wp2_with fail
    refine P8.out.mono ?_
    rintro _ w8 ⟨v8, rfl, g8, b8⟩
    have B8 : Hid (Below w.heap.size w w8) := B7.out.trans (b8.mono B7.out.size)
    have C8 := hide (C7.out.later L7 b8)
    have L8 : s < w8.heap.size := Nat.lt_of_lt_of_le L7 b8.size
    obtain ⟨a8, e8, rfl, _⟩ := g8.isB.shape
    have el12 : (H10 ++ put16 c).length = 12 := by rw [List.length_append, el10.out]; rfl
    rw [el12] at g8 ⊢
    have R9 := hide (rip_any (.slice a8 12 e8) (H10 ++ put16 c) p.src w7.heap.size w8 b8.size g8 (by rw [el12]; decide))
    have S8 := hide (pk_ips C8.out)
    have B78 := hide b8
    have B7' := hide B7.out
    clear g8 b8 P8 B7 C8
    go_wp2_with (refine wpList_loadA rfl 23 4 aggI sizI _ rfl s 0 rfl p.src.vals rfl S8.out.1 ?_)
    refine R9.out.mono ?_
    rintro _ w9 ⟨v9, rfl, g9, b9⟩
    have B79 : Hid (Below w7.heap.size w7 w9) := B78.out.trans b9
    have S9 := hide (pk_ips (C7.out.later L7 B79.out))
    obtain ⟨a9, e9, rfl, _⟩ := g9.isB.shape
    have el16 : (H10 ++ put16 c ++ ipL p.src).length = 16 := by rw [List.length_append, el12]; rfl
    rw [el16] at g9 ⊢
    have R10 := hide (rip_any (.slice a9 16 e9) (H10 ++ put16 c ++ ipL p.src) p.dst w7.heap.size w9 B79.out.size g9 (by rw [el16]; decide))
    clear g9 b9 R9 S8 B78 B8
    go_wp2_with (refine wpList_loadA rfl 23 4 aggI sizI _ rfl s 4 rfl p.dst.vals rfl S9.out.2 ?_)
    refine R10.out.mono ?_
    rintro _ wa ⟨va, rfl, ga, ba⟩
    have B7a : Hid (Below w7.heap.size w7 wa) := B79.out.trans ba
    have Ba : Hid (Below w.heap.size w wa) := B7'.out.trans (B7a.out.mono B7'.out.size)
    obtain ⟨aa, ea, rfl, _⟩ := ga.isB.shape
    have el20 : (H10 ++ put16 c ++ ipL p.src ++ ipL p.dst).length = 20 := by rw [List.length_append, el16]; rfl
    rw [el20] at ga ⊢
    have GA := hide ga
    have xf : wa.cell? ⟨s, 15, none⟩ = some (.slice ao n co) := (C7.out.later L7 B7a.out) 15 _ rfl
    have IO := hide (HOV.out.later Ba.out)
    obtain ⟨HS, hHS⟩ : ∃ HS, H10 ++ put16 c ++ ipL p.src ++ ipL p.dst ++ p.opts = HS := ⟨_, rfl⟩
    have HHS := hide hHS
    have EHS : Hid (HS = hdS p sz c) := by
      unfold Hid hdS
      rw [← hHS, EH.out]
      simp [bhd]
    have zl2 : Hid ((H10 ++ put16 c ++ ipL p.src ++ ipL p.dst).length + p.opts.length ≤ 140737488355328) := by unfold Hid; rw [el20, ← HN.out]; omega
    have Z7 : Hid (w7.heap.size ≤ wa.heap.size) := B7a.out.size
    clear ga ba R10 S9 B79 hHS el12 el16 el20 C7
    go_wp2_with (at_builtin; refine wpList_growB rfl (.tmp 63) (.tmp 65) rfl rfl w7.heap.size (.slice aa 20 ea) _ _ p.opts rfl rfl GA.out IO.out Z7.out zl2.out HS HHS.out ?_)
    intro ab eb wb _ gb bb
    have Gb : Hid (Gro w.heap.size wb (.slice ab HS.length eb) (hdS p sz c)) := by
      unfold Hid
      have := gb.low B7'.out.size
      rw [EHS.out] at this ⊢
      exact this
    have Bb : Hid (Below w.heap.size w wb) := Ba.out.trans (bb.mono (Nat.le_trans B7'.out.size (Nat.le_refl _)))
    clear gb bb GA IO
    go_wp2
    go_ret
    exact ⟨_, rfl, Gb.out, Bb.out⟩
end Go.Proofs.Ytiglejmmdghmgaa
