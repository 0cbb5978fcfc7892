
/-
  Package ip4: the contract of Decode.
-/
import Derived.Test.YtiglejmmdghmgaaI13
namespace Go.Proofs.Ytiglejmmdghmgaa
open Go.RowKit Go.Shelf

def deP (bs : List Int) : Pk := hdP (hdL bs)
def deD (bs : List Int) : List Int := (bs.take (szI bs).toNat).drop (hsI bs).toNat
/-- what Decode tells -/
def DeE (n0 : Nat) (w : World) (bs : List Int) (e : Ending) (w' : World) : Prop :=
  Below n0 w w' ∧ ((faE bs ≠ 0 ∧ e = .returned (.tuple #[.agg (zP.cells (.slice none 0 0)).toArray, .slice none 0 0, .int .i64 (faE bs)])) ∨
    (faE bs = 0 ∧ ∃ ov dv n1, e = .returned (.tuple #[.agg ((deP bs).cells ov).toArray, dv, .int .i64 0]) ∧ Gro n0 w' ov ((hdL bs).drop 20) ∧ Gro n1 w' dv (deD bs) ∧ n0 ≤ n1 ∧ ∀ g x y, ov = .slice (some ⟨g, 0, none⟩) x y → g < n1))
theorem faE_zero {bs : List Int} (h : faE bs = 0) : 20 ≤ bs.length ∧ nb bs 0 / 16 = 4 ∧ 20 ≤ hsI bs ∧ hsI bs ≤ szI bs ∧ szI bs ≤ (bs.length : Int) ∧ csum (hdL bs) = 0 ∧ okO ((hdL bs).drop 20) = true ∧ nb bs 8 ≠ 0 ∧ w16 bs 6 < 32768 := by
  unfold faE at h
  split at h
  · cases h
  split at h
  · cases h
  split at h
  · cases h
  split at h
  · cases h
  split at h
  · cases h
  split at h
  · cases h
  split at h
  · cases h
  rename_i h1 h2 h3 h4 h5 h6 h7
  refine ⟨by omega, by omega, by omega, by omega, by omega, by omega, by simpa using h5, h6, by omega⟩
theorem results_D {fn : Func} {p a b : Tmp} {T : TypeId} (h : fn.results = #[.cell p T, .tmp a, .tmp b]) (tmps : Array Value) (w : World) (s : Nat) (v va vb : Value) (hp : tmps.getD p undef = .pointer (some ⟨s, 0, none⟩)) (ha : tmps.getD a undef = va) (hb : tmps.getD b undef = vb) (hL : (loadVar T ⟨s, 0, none⟩).run Try.prog w = .ok v w) : (results fn tmps).run Try.prog w = .ok (.tuple #[v, va, vb]) w := by
  have hp' : (asAddr (tmps.getD p undef)).run Try.prog w = .ok ⟨s, 0, none⟩ w := by rw [hp]; rfl
  have hp2 : (asAddr (tmps[p]?.getD undef)).run Try.prog w = .ok ⟨s, 0, none⟩ w := by simpa using hp'
  have ha' : tmps[a]?.getD undef = va := by simpa using ha
  have hb' : tmps[b]?.getD undef = vb := by simpa using hb
  simp only [results, h]
  simp [Sem.run_bind, Result.andThen, hp2, hL, ha', hb']
theorem exec_zP {o : Oper} {w : World} {ev : Operand → Value} (ho : o.op = .build 26 #[]) : (execOp ev o).run Try.prog w = .ok (.value (.agg (zP.cells (.slice none 0 0)).toArray)) w := by
  unfold execOp
  simp only [ho]
  kernel_rfl
theorem exec_slLV {o : Oper} {w : World} {ev : Operand → Value} (x u y : Operand) (g off n c k m : Nat) (ad : Option Addr) (had : ad = if c = k then some (⟨g, off, none⟩ : Addr) else some ⟨g, off + k, none⟩) (ho : o.op = .slice 24 x (some u) (some y) none) (hx : ev x = .slice (some ⟨g, off, none⟩) n c) (hu : ev u = .int .i64 (k : Int)) (hy : ev y = .int .i64 (m : Int)) (h1 : k ≤ m) (h2 : m ≤ c) : (execOp ev o).run Try.prog w = .ok (.value (.slice ad (m - k) (c - k))) w := by
  rw [had]
  have h3 : (k : Int) ≤ m := by omega
  have h4 : (m : Int) ≤ c := by omega
  unfold execOp
  simp [ho, hx, hy, hu, go_sem, h3, h4]
set_option maxRecDepth 100000 in
set_option maxHeartbeats 8000000 in
theorem Decode_any (v : Value) (bs : List Int) (w : World) (hb : IsB w.heap.size w v bs) (hB : Bytes bs) (hl : (bs.length : Int) ≤ 4611686018427387904) :
    Calls Try.prog 12 #[v] w (DeE w.heap.size w bs) := by
  obtain ⟨a, cap, rfl, ncap⟩ := hb.shape
  obtain ⟨n, hn⟩ : ∃ n, n = bs.length := ⟨_, rfl⟩
  rw [← hn] at hb hl ncap ⊢
  have HN := hide hn
  have HB := hide hb
  have BY := hide hB
  obtain ⟨s2, hs2⟩ : ∃ s2, s2 = w.heap.size := ⟨_, rfl⟩
  obtain ⟨w1, hw1⟩ : ∃ w1, w1 = w.alloc (.cells (zP.cells (.slice none 0 0)).toArray 26) := ⟨_, rfl⟩
  have b1 : Below w.heap.size w w1 := by rw [hw1]; exact later_alloc _ _
  have c1 : CellsAt w1 s2 0 (zP.cells (.slice none 0 0)) := by rw [hw1, hs2]; exact CellsAt.new w _ _
  have f1 : ∀ y, w1.frozen? ⟨s2, y, none⟩ = false := fun y => by rw [hw1, hs2]; exact frozen_new w _ _ _
  have l1 : s2 < w1.heap.size := by rw [hw1, hs2]; simp
  obtain ⟨E0, hE0⟩ : ∃ E0, E0 = faE bs := ⟨_, rfl⟩
  have FA := faultOf_any _ bs w1 (HB.out.later b1) BY.out (by rw [← HN.out]; exact hl)
  rw [← hE0] at FA
  have HFA := hide FA
  have HE0 := hide hE0
  have HB1 := hide b1
  have C1 := hide c1
  have F1 := hide f1
  have HS2 := hide hs2
  clear hb hn hB b1 c1 f1 FA hE0
  go_enter Try.func12, Try.ntmps12
  have hw1' := hw1.symm
  have hs2' := hs2.symm
  simp only [zP, Pk.cells, I4.vals, zI, List.cons_append, List.nil_append] at hw1'
  clear hw1 hs2
  go_wp2_with fail
  clear hw1' hs2'
  refine HFA.out.mono ?_
  rintro _ w2 ⟨rfl, b2⟩
  have HB2 : Hid (Below w.heap.size w w2) := HB1.out.trans (b2.mono HB1.out.size)
  have C2 := hide (C1.out.later l1 b2)
  have F2 : Hid (∀ y, w2.frozen? ⟨s2, y, none⟩ = false) := fun y => (b2.frozen (p := ⟨s2, y, none⟩) l1).trans (F1.out y)
  have L2 : s2 < w2.heap.size := Nat.lt_of_lt_of_le l1 b2.size
  clear b2 HFA C1 F1
  by_cases h0 : E0 = 0
  · have q0 : (E0 != 0) = false := by rw [h0]; rfl
    obtain ⟨z1, z2, z3, z4, z5, _⟩ := faE_zero (HE0.out.symm.trans h0)
    obtain ⟨h, hh⟩ : ∃ h : Nat, hsI bs = (h : Int) := ⟨(hsI bs).toNat, by omega⟩
    obtain ⟨z, hz⟩ : ∃ z : Nat, szI bs = (z : Int) := ⟨(szI bs).toNat, by omega⟩
    have h60 := (hsI_bd BY.out).2
    have z65 := (w16_bd BY.out 2).2
    have z65 : szI bs ≤ 65535 := z65
    rw [hh] at z3 z4 h60
    rw [hz] at z4 z5 z65
    rw [← HN.out] at z1 z5
    have HDL : Hid (hdL bs = bs.take h) := by unfold Hid hdL; rw [hh, Int.toNat_natCast]
    have DED : Hid (deD bs = (bs.take z).drop h) := by unfold Hid deD; rw [hh, hz, Int.toNat_natCast, Int.toNat_natCast]
    obtain ⟨g, off, rfl⟩ : ∃ g off, a = some ⟨g, off, none⟩ := by
      obtain ⟨a', c, e, _, _, hc⟩ := HB.out
      simp only [Value.slice.injEq] at e
      obtain ⟨rfl, _, rfl⟩ := e
      obtain ⟨b', off', e, _⟩ := hc (by have := HN.out; omega)
      exact ⟨b', off', e⟩
    have SZ := sizes_any g off cap bs w2 (by have := HB.out.later HB2.out; rw [HN.out] at this; exact this) BY.out (by rw [← HN.out]; exact hl) (by have := HN.out; omega)
    rw [← HN.out, hh, hz] at SZ
    have HSZ := hide SZ
    have H00 := hide h0
    clear SZ hh hz h0 z2
    go_wp2_with fail
    refine HSZ.out.mono ?_
    rintro _ w3 ⟨rfl, b3⟩
    have HB3 : Hid (Below w.heap.size w w3) := HB2.out.trans (b3.mono HB2.out.size)
    have C3 := hide (C2.out.later L2 b3)
    have F3 : Hid (∀ y, w3.frozen? ⟨s2, y, none⟩ = false) := fun y => (b3.frozen (p := ⟨s2, y, none⟩) L2).trans (F2.out y)
    have L3 : s2 < w3.heap.size := Nat.lt_of_lt_of_le L2 b3.size
    clear b3 HSZ C2 F2 q0
    have tl : (bs.take h).length = h := by rw [List.length_take]; have := HN.out; omega
    have HD : ∀ W, Below w.heap.size w W → Calls Try.prog 29 #[.slice (some ⟨g, off, none⟩) h cap] W fun e W' => ∃ v, e = .returned v ∧ ∃ ov, v = .agg ((hdP (bs.take h)).cells ov).toArray ∧ Gro W.heap.size W' ov ((bs.take h).drop 20) ∧ Below W.heap.size W W' := fun W hW => by
      have h1 := (HB.out.later hW).take h (by have := HN.out; omega)
      have h2 := head_any g off cap (bs.take h) W (by rw [tl]; exact h1) (BY.out.take h) (by rw [tl]; omega) (by rw [tl]; omega)
      rw [tl] at h2
      exact h2.mono (by rintro _ W' ⟨ov, rfl, hg, hb⟩; exact ⟨_, rfl, ov, rfl, hg, hb⟩)
    obtain ⟨ad, had⟩ : ∃ ad, ad = if cap = h then some (⟨g, off, none⟩ : Addr) else some ⟨g, off + h, none⟩ := ⟨_, rfl⟩
    have CL : ∀ W, Below w.heap.size w W → Calls Try.prog 30 #[.slice ad (z - h) (cap - h)] W fun e W' => ∃ v, e = .returned v ∧ Gro W.heap.size W' v ((bs.take z).drop h) ∧ Below W.heap.size W W' := fun W hW => by
      have h1 := ((HB.out.later hW).take z (by have := HN.out; omega)).drop h (by rw [List.length_take]; have := HN.out; omega)
      rw [drop_addr, ← had] at h1
      refine Clone_any _ _ W h1 (by rw [List.length_drop, List.length_take]; omega) (fun a n c e => ?_)
      simp only [Value.slice.injEq] at e
      rw [← e.1, had]
      split <;> simp
    have HAD := hide had
    clear had
    go_upto_region 5 with fail
    have bd : Below w3.heap.size w3 w3.drew := (Below.refl _ w3).drew
    refine region_out (fun _ => True) (by kernel_rfl) ?_
    refine takeD (i := 0) (v := .slice (some ⟨g, off, none⟩) n cap) 19 rfl rfl (by kernel_rfl) (by kernel_rfl) (by kernel_rfl) (fun _ _ _ h => h) (.inl ⟨by rfl, fun W hW => exec_move _ _ rfl rfl⟩) (trivial) ?_
    try simp only [Act.put, List.setIfInBounds_toArray, List.set_cons_zero, List.set_cons_succ]
    refine takeD (i := 1) (v := .int .i64 (h : Int)) 20 rfl rfl (by kernel_rfl) (by kernel_rfl) (by kernel_rfl) (fun _ _ _ h => h) (.inl ⟨by rfl, fun W hW => exec_move _ _ rfl rfl⟩) (trivial) ?_
    try simp only [Act.put, List.setIfInBounds_toArray, List.set_cons_zero, List.set_cons_succ]
    refine takeD (i := 2) (v := .slice (some ⟨g, off, none⟩) h cap) 21 rfl rfl (by kernel_rfl) (by kernel_rfl) (by kernel_rfl) (fun _ _ _ h => h) (.inl ⟨by rfl, fun W hW => exec_slU _ _ _ n cap h rfl rfl rfl (by omega)⟩) (trivial) ?_
    try simp only [Act.put, List.setIfInBounds_toArray, List.set_cons_zero, List.set_cons_succ]
    refine takeD (i := 4) (v := .slice (some ⟨g, off, none⟩) n cap) 23 rfl rfl (by kernel_rfl) (by kernel_rfl) (by kernel_rfl) (fun _ _ _ h => h) (.inl ⟨by rfl, fun W hW => exec_move _ _ rfl rfl⟩) (trivial) ?_
    try simp only [Act.put, List.setIfInBounds_toArray, List.set_cons_zero, List.set_cons_succ]
    refine takeD (i := 5) (v := .int .i64 (h : Int)) 24 rfl rfl (by kernel_rfl) (by kernel_rfl) (by kernel_rfl) (fun _ _ _ h => h) (.inl ⟨by rfl, fun W hW => exec_move _ _ rfl rfl⟩) (trivial) ?_
    try simp only [Act.put, List.setIfInBounds_toArray, List.set_cons_zero, List.set_cons_succ]
    refine takeD (i := 6) (v := .int .i64 (z : Int)) 25 rfl rfl (by kernel_rfl) (by kernel_rfl) (by kernel_rfl) (fun _ _ _ h => h) (.inl ⟨by rfl, fun W hW => exec_move _ _ rfl rfl⟩) (trivial) ?_
    try simp only [Act.put, List.setIfInBounds_toArray, List.set_cons_zero, List.set_cons_succ]
    refine takeD (i := 7) (v := .slice ad (z - h) (cap - h)) 26 rfl rfl (by kernel_rfl) (by kernel_rfl) (by kernel_rfl) (fun _ _ _ h => h) (.inl ⟨by rfl, fun W hW => exec_slLV _ _ _ g off n cap h z ad HAD.out rfl rfl rfl rfl (by omega) (by omega)⟩) (trivial) ?_
    try simp only [Act.put, List.setIfInBounds_toArray, List.set_cons_zero, List.set_cons_succ]
    refine callD (w' := w3.drew) 3 22 (by kernel_rfl) rfl rfl (by rfl) 29 #[.slice (some ⟨g, off, none⟩) h cap] (by kernel_rfl) _ (HD w3.drew (HB3.out.trans (bd.mono HB3.out.size))) ?_
    rintro _ w4 ⟨ov, rfl, g4, b4⟩
    refine ⟨trivial, ?_⟩
    simp only [Act.put, List.setIfInBounds_toArray, List.set_cons_zero, List.set_cons_succ]
    have b34 : Below w3.heap.size w3 w4 := bd.trans b4
    have HB4 : Below w.heap.size w w4 := HB3.out.trans (b34.mono HB3.out.size)
    refine callD (w' := w4) 8 27 (by kernel_rfl) rfl rfl (by rfl) 30 #[.slice ad (z - h) (cap - h)] (by kernel_rfl) _ (CL w4 HB4) ?_
    rintro dv w5 ⟨g5, b5⟩
    refine ⟨trivial, ?_⟩
    simp only [Act.put, List.setIfInBounds_toArray, List.set_cons_zero, List.set_cons_succ]
    have b35 : Below w3.heap.size w3 w5 := b34.trans (b5.mono b34.size)
    have HB5 : Below w.heap.size w w5 := HB3.out.trans (b35.mono HB3.out.size)
    have g4b : Gro w3.heap.size w5 ov ((bs.take h).drop 20) := by
      have := g4.later b5
      exact this
    obtain ⟨ao, on, oc, rfl⟩ : ∃ ao on oc, ov = .slice ao on oc := by
      obtain ⟨ad, oc, e, _⟩ := g4.isB.shape
      exact ⟨ad, _, oc, e⟩
    obtain ⟨da, dc, rfl, _⟩ := g5.isB.shape
    have c5 := C3.out.later L3 b35
    have f5 : ∀ y, w5.frozen? ⟨s2, y, none⟩ = false := fun y => (b35.frozen (p := ⟨s2, y, none⟩) L3).trans (F3.out y)
    obtain ⟨Y, hY⟩ : ∃ Y, Y = (hdP (bs.take h)).cells (.slice ao on oc) := ⟨_, rfl⟩
    have lY : Y.length = 16 := by rw [hY]; exact (rfl : ((hdP (bs.take h)).cells (.slice ao on oc)).length = 16)
    have oY : ∀ u ∈ Y, u.oneCell' = true := by rw [hY]; exact pk_one _ _ _ _
    rw [← hY]
    obtain ⟨w6, hw6⟩ : ∃ w6, w6 = w5.setCells s2 0 Y := ⟨_, rfl⟩
    have bo := But.cells s2 Y 0 w5
    rw [← hw6] at bo
    have c6 : CellsAt w6 s2 0 Y := by rw [hw6]; exact c5.stored lY
    refine storeD (w' := w6) 9 (by kernel_rfl) rfl rfl (by rfl) (by rw [hw6]; exact exec_storeA 26 16 sizP _ _ rfl s2 0 rfl _ (zP.cells (.slice none 0 0)) rfl lY rfl c5 f5 oY) (trivial) ?_
    try simp only [Act.put, List.setIfInBounds_toArray, List.set_cons_zero, List.set_cons_succ]
    refine takeD (i := 10) (v := .slice da ((bs.take z).drop h).length dc) 3 rfl rfl (by kernel_rfl) (by kernel_rfl) (by kernel_rfl) (fun _ _ _ h => h) (.inl ⟨by rfl, fun W hW => exec_assign _ _ rfl rfl⟩) (trivial) ?_
    try simp only [Act.put, List.setIfInBounds_toArray, List.set_cons_zero, List.set_cons_succ]
    refine takeD (i := 11) (v := .int .i64 0) 4 rfl rfl (by kernel_rfl) (by kernel_rfl) (by kernel_rfl) (fun _ _ _ h => h) (.inl ⟨by rfl, fun W hW => exec_assign _ _ rfl rfl⟩) (trivial) ?_
    try simp only [Act.put, List.setIfInBounds_toArray, List.set_cons_zero, List.set_cons_succ]
    refine wpAnyH_done (by kernel_rfl) ?_ _
    have sepo : ∀ g x y, (.slice ao on oc : Value) = .slice (some ⟨g, 0, none⟩) x y → g < w4.heap.size ∧ w3.heap.size ≤ g := fun g x y e => by
      obtain ⟨_, ⟨h2, _⟩ | ⟨g', cap', cur, e', hge, hh, _⟩⟩ := g4
      · rw [e] at h2; cases h2
      · rw [e] at e'
        cases e'
        exact ⟨(Array.getElem?_eq_some_iff.1 hh).1, hge⟩
    have G6 : Gro w.heap.size w6 (.slice ao on oc) ((bs.take h).drop 20) := (g4b.off bo (fun g x y e e2 => by have := (sepo g x y e).2; omega)).low HB3.out.size
    have D6 : Gro w4.heap.size w6 (.slice da ((bs.take z).drop h).length dc) ((bs.take z).drop h) := g5.off bo (fun g x y e e2 => by
      obtain ⟨_, ⟨h2, _⟩ | ⟨g', cap', cur, e', hge, hh, _⟩⟩ := g5
      · rw [e] at h2; cases h2
      · rw [e] at e'
        cases e'
        have := b34.size
        omega)
    have B6 : Below w.heap.size w w6 := HB5.trans (bo.below HB5.size (fun g hg e => by have e : g = s2 := e; have := HS2.out; omega))
    have FIN : Hid (DeE w.heap.size w bs (.returned (.tuple #[.agg Y.toArray, .slice da ((bs.take z).drop h).length dc, .int .i64 0])) w6) := by
      refine ⟨B6, .inr ⟨HE0.out.symm.trans H00.out, .slice ao on oc, .slice da ((bs.take z).drop h).length dc, w4.heap.size, ?_, ?_, ?_, HB4.size, fun g x y e => (sepo g x y e).1⟩⟩
      · rw [hY]
        unfold deP
        rw [HDL.out]
      · rw [HDL.out]; exact G6
      · rw [DED.out]; exact D6
    have C6 := hide c6
    have LY := hide lY
    clear g4 b4 g5 b5 b34 b35 g4b c5 f5 oY hY bo hw6 sepo G6 D6 B6 HD CL c6 lY tl bd HB4 HB5
    go_wp2
    refine bodyPost_ret (v := .tuple #[.agg Y.toArray, .slice da ((bs.take z).drop h).length dc, .int .i64 0]) (results_D rfl _ _ s2 _ _ _ rfl rfl rfl (run_loadVarA 26 16 aggP sizP s2 0 Y LY.out C6.out)) rfl ?_
    exact FIN.out
  · have q0 : (E0 != 0) = true := by simpa using h0
    obtain ⟨w6, hw6⟩ : ∃ w6, w6 = w2.setCells s2 0 (zP.cells (.slice none 0 0)) := ⟨_, rfl⟩
    have bo := But.cells s2 (zP.cells (.slice none 0 0)) 0 w2
    rw [← hw6] at bo
    have C6 : Hid (CellsAt w6 s2 0 (zP.cells (.slice none 0 0))) := by rw [hw6]; exact C2.out.stored rfl
    have FIN : Hid (DeE w.heap.size w bs (.returned (.tuple #[.agg (zP.cells (.slice none 0 0)).toArray, .slice none 0 0, .int .i64 E0])) w6) := by
      refine ⟨HB2.out.trans (bo.below HB2.out.size (fun g hg e => by have e : g = s2 := e; have := HS2.out; omega)), .inl ⟨by rw [← HE0.out]; exact h0, by rw [HE0.out]⟩⟩
    have hw6' := hw6.symm
    clear bo hw6 h0
    go_upto_region 3 with fail
    go_wp2_with (first | refine wpList_val rfl (exec_zP rfl) ?_ | (refine wpList_storeA rfl 26 16 sizP _ _ rfl s2 0 rfl (zP.cells (.slice none 0 0)) (zP.cells (.slice none 0 0)) rfl rfl rfl C2.out F2.out (pk_one _ _ _ _) ?_; intro _; rw [hw6']))
    refine bodyPost_ret (v := .tuple #[.agg (zP.cells (.slice none 0 0)).toArray, .slice none 0 0, .int .i64 E0]) (results_D rfl _ _ s2 _ _ _ rfl rfl rfl (run_loadVarA 26 16 aggP sizP s2 0 _ rfl C6.out)) rfl ?_
    exact FIN.out
end Go.Proofs.Ytiglejmmdghmgaa
