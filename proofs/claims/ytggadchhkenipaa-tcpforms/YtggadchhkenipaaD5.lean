
/-
  Package tcp: Encode.
-/
import Derived.Test.YtggadchhkenipaaD4
namespace Go.Proofs.Ytggadchhkenipaa
open Go.RowKit Go.Shelf

section
variable {o : Oper} {w : World} {ev : Operand → Value}
theorem exec_shl12 (x : Operand) (t : TypeId) (n : Int) (ho : o.op = .binOp .shl 3 x (.const (.int .u64 12)) t) (hc : ∀ v, ev (.const v) = v) (hx : ev x = .int .i64 n) (h0 : 0 ≤ n) (h1 : n ≤ 100000) : (execOp ev o).run Try.prog w = .ok (.value (.int .i64 (n * 4096))) w := by
  have e : IntKind.i64.wrap (n * 4096) = n * 4096 := wrapI _ (by omega) (by omega)
  unfold execOp
  simp [ho, hx, hc, go_sem, e, Op.shift]
theorem or_flags (k f : Int) (k0 : 0 ≤ k) (k1 : k ≤ 100000) (f0 : 0 ≤ f) (f1 : f ≤ 31) : bits .or .i64 (k * 4096) f = k * 4096 + f :=
  bits_join .i64 62 (by decide) i64_wrap 12 (k * 4096) f (by omega) (by omega) (by omega) f0 (by omega) (by omega)
theorem exec_orf (x y : Operand) (t : TypeId) (k f : Int) (ho : o.op = .binOp .or 3 x y t) (hx : ev x = .int .i64 (k * 4096)) (hy : ev y = .int .i64 f) (k0 : 0 ≤ k) (k1 : k ≤ 100000) (f0 : 0 ≤ f) (f1 : f ≤ 31) : (execOp ev o).run Try.prog w = .ok (.value (.int .i64 (k * 4096 + f))) w := by
  have e := or_flags k f k0 k1 f0 f1
  unfold execOp
  simp [ho, hx, hy, go_sem, e]
end
/-- a head with so many bytes; what stands behind the sum; the sum; all; what Encode answers -/
def tah (s : Sg) (n : Nat) : List Int := put16 s.src ++ put16 s.dst ++ put32 s.seq ++ put32 s.ack ++ put16 ((n : Int) / 4 * 4096 + s.flg) ++ put16 s.wnd
def tbh (s : Sg) : List Int := [0, 0] ++ (otB s ++ s.dat)
def tsm (x y : I4) (s : Sg) : Int := csum (psB x y 6 (20 + ((otB s).length : Int) + (s.dat.length : Int)) ++ tah s (20 + (otB s).length) ++ tbh s)
def tsB (x y : I4) (s : Sg) : List Int := tah s (20 + (otB s).length) ++ put16 (tsm x y s) ++ tbh s
def teE (s : Sg) : Int := if 1024 < s.dat.length then 2 else if mbS s = false then 1 else 0
def teB (x y : I4) (s : Sg) : List Int := if teE s = 0 then tsB x y s else []
theorem tah_len (s : Sg) (n : Nat) : (tah s n).length = 16 := rfl
theorem tbh_len (s : Sg) : (tbh s).length = 2 + (otB s).length + s.dat.length := by unfold tbh; rw [List.length_append, List.length_append]; simp; omega
theorem put32_bytes (n : Int) (h : 0 ≤ n ∧ n < 4294967296) : Bytes (put32 n) := by
  intro z hz
  simp [put32] at hz
  omega
theorem tah_bytes {s : Sg} (ok : s.Ok) (n : Nat) : Bytes (tah s n) :=
  (((((put16_bytes _).append (put16_bytes _)).append (put32_bytes _ ok.seq)).append (put32_bytes _ ok.ack)).append (put16_bytes _)).append (put16_bytes _)
theorem spBs_bytes : ∀ {L : List Sp}, (∀ x ∈ L, 0 ≤ x.f ∧ x.f < 4294967296 ∧ 0 ≤ x.t ∧ x.t < 4294967296) → Bytes (L.flatMap spB)
  | [], _ => by intro z hz; simp at hz
  | x :: L, h => by
    have h1 := h x (by simp)
    rw [List.flatMap_cons]
    exact ((put32_bytes _ ⟨h1.1, h1.2.1⟩).append (put32_bytes _ h1.2.2)).append (spBs_bytes (fun y hy => h y (by simp [hy])))
theorem otB_bytes {s : Sg} (ok : s.Ok) (h3 : s.got.length ≤ 3) : Bytes (otB s) := by
  have two : ∀ a b : Int, 0 ≤ a ∧ a ≤ 255 → 0 ≤ b ∧ b ≤ 255 → Bytes [a, b] := fun a b ha hb => by intro z hz; simp at hz; omega
  have b1 : Bytes (oM s) := by
    unfold oM
    split
    · intro z hz; simp at hz
    · exact (two 2 4 (by decide) (by decide)).append (put16_bytes _)
  have b2 : Bytes (oS s) := by
    unfold oS
    split
    · exact b1.append (two 4 2 (by decide) (by decide))
    · exact b1
  have b3 : Bytes (oG s) := by
    unfold oG
    split
    · exact b2
    · exact b2.append (two 5 _ (by decide) (by omega))
  unfold otB padT oL
  refine Bytes.append (b3.append (spBs_bytes (fun x hx => ok.got x (List.mem_of_mem_take hx)))) ?_
  intro z hz
  have := (List.mem_replicate.1 hz).2
  omega
theorem tbh_bytes {s : Sg} (ok : s.Ok) (h3 : s.got.length ≤ 3) : Bytes (tbh s) := by
  refine Bytes.append ?_ ((otB_bytes ok h3).append ok.dat)
  intro z hz
  simp at hz
  omega
theorem mbS_true {s : Sg} (h : mbS s = true) : (1 ≤ s.src ∧ s.src ≤ 65535) ∧ (1 ≤ s.dst ∧ s.dst ≤ 65535) ∧ (0 ≤ s.flg ∧ s.flg ≤ 31) ∧ (0 ≤ s.wnd ∧ s.wnd ≤ 65535) ∧ (0 ≤ s.mss ∧ s.mss ≤ 65535) ∧ s.got.length ≤ 3 := by
  unfold mbS at h
  simp only [Bool.and_eq_true, decide_eq_true_eq] at h
  exact ⟨prt_true h.1, prt_true h.2.1, upT_true h.2.2.1, upT_true h.2.2.2.1, upT_true h.2.2.2.2.1, h.2.2.2.2.2⟩
set_option maxRecDepth 100000 in
set_option maxHeartbeats 8000000 in
theorem tEnc_any {P : Nat → Prop} (x y : I4) (hx : x.Ok) (hy : y.Ok) (s : Sg) (ok : s.Ok) (gv dv : Value) (w : World) (hg : CG P w gv s.got) (hd : IsB w.heap.size w dv s.dat) :
    Calls Try.prog 18 #[x.val, y.val, .agg (s.cells gv dv).toArray] w fun e w' => ∃ v, e = .returned (.tuple #[v, .int .i64 (teE s)]) ∧ Gro w.heap.size w' v (teB x y s) ∧ Below w.heap.size w w' := by
  obtain ⟨w1, w2, s1, s2, hs1, hw1, hs2, hw2, c1, c2, b2, l1, l2, _⟩ := twoI w x y
  obtain ⟨w3, b, hs, hw, c3, f3, b3, l3⟩ := boxS w2 s gv dv
  obtain ⟨ga, gc, rfl⟩ := hg.shape
  obtain ⟨da, dc, rfl, _⟩ := hd.shape
  obtain ⟨X, hX⟩ : ∃ X, X = x.vals := ⟨_, rfl⟩
  obtain ⟨Y, hY⟩ : ∃ Y, Y = y.vals := ⟨_, rfl⟩
  have LX : Hid (X.length = 4) := by rw [hX]; exact rfl
  have LY : Hid (Y.length = 4) := by rw [hY]; exact rfl
  have C1 : Hid (CellsAt w3 s1 0 X) := by rw [hX]; exact c1.later l1 b3
  have C2 : Hid (CellsAt w3 s2 0 Y) := by rw [hY]; exact c2.later l2 b3
  have B3 := hide (later b2 b3)
  have l13 : s1 < w3.heap.size := Nat.lt_of_lt_of_le l1 b3.size
  have l23 : s2 < w3.heap.size := Nat.lt_of_lt_of_le l2 b3.size
  have HD := hide (hd.later B3.out)
  have HG := hide (hg.later B3.out)
  have OK := hide ok
  obtain ⟨n, hn⟩ : ∃ n, n = s.dat.length := ⟨_, rfl⟩
  obtain ⟨m, hm⟩ : ∃ m, m = s.got.length := ⟨_, rfl⟩
  obtain ⟨Z, hZ⟩ : ∃ Z, Z = s.cells (.slice ga s.got.length gc) (.slice da s.dat.length dc) := ⟨_, rfl⟩
  have LZ : Hid (Z.length = 10) := by rw [hZ]; exact rfl
  have C3 : Hid (CellsAt w3 b 0 Z) := by rw [hZ]; exact c3
  have k9 : w3.cell? ⟨b, 9, none⟩ = some (.slice da s.dat.length dc) := c3 9 _ rfl
  have MB : Hid (Calls Try.prog 27 #[.agg Z.toArray] w3 fun e w' => e = .returned (.bool (mbS s)) ∧ Below w3.heap.size w3 w') := by rw [hZ]; exact mayBeT_any s ga gc _ w3
  have OP : Hid (s.got.length ≤ 3 → ∀ W, Below w3.heap.size w3 W → Calls Try.prog 28 #[.agg Z.toArray] W fun e w' => ∃ v, e = .returned v ∧ Gro W.heap.size w' v (otB s) ∧ Below W.heap.size W w') := fun h3 W hW => by rw [hZ]; exact optionsOf_any s _ _ W OK.out h3 (HG.out.later hW)
  obtain ⟨R, hR⟩ : ∃ R, R = teB x y s := ⟨_, rfl⟩
  obtain ⟨E, hE⟩ : ∃ E, E = teE s := ⟨_, rfl⟩
  have HR : Hid (R = if E = 0 then tsB x y s else []) := by rw [hR, hE]; exact rfl
  have HE : Hid (E = if 1024 < n then 2 else if mbS s = false then 1 else 0) := by rw [hE, hn]; exact rfl
  rw [← hR, ← hE]
  rw [← hn] at k9 hw HD ⊢
  rw [← hm] at hw ⊢
  have HZ : Hid (Z = s.cells (.slice ga m gc) (.slice da n dc)) := by rw [hZ, hm, hn]; exact rfl
  have HN := hide hn
  have HM := hide hm
  rw [show x.val = .agg #[.int .u8 x.a, .int .u8 x.b, .int .u8 x.c, .int .u8 x.d] from rfl, show y.val = .agg #[.int .u8 y.a, .int .u8 y.b, .int .u8 y.c, .int .u8 y.d] from rfl, show (Value.agg (s.cells (.slice ga m gc) (.slice da n dc)).toArray) = .agg #[.int .i64 s.src, .int .i64 s.dst, .int .u32 s.seq, .int .u32 s.ack, .int .i64 s.flg, .int .i64 s.wnd, .int .i64 s.mss, .bool s.sak, .slice ga m gc, .slice da n dc] from rfl]
  have XO := hide hx
  have YO := hide hy
  have HXV := hide hX
  have HYV := hide hY
  have hs1' := hs1.symm
  have hs2' := hs2.symm
  have hw1' := hw1.symm
  have hw2' := hw2.symm
  have hs' := hs.symm
  have hw' := hw.symm
  obtain ⟨q, hq⟩ : ∃ q, q = mbS s := ⟨_, rfl⟩
  rw [← hq] at MB HE
  have HQ := hide hq
  clear c1 c2 b2 hs1 hs2 hw1 hw2 hX hY hd hg hn hm hR hE hx hy hs hw c3 f3 b3 hZ ok hq
  by_cases h1 : 1024 < n
  · have z : (1024 : Int) < (n : Int) := by omega
    have e : E = 2 := by rw [HE.out, if_pos h1]
    have eR : R = [] := by rw [HR.out, if_neg (by rw [e]; decide)]
    subst e eR
    go_enter Try.func18, Try.ntmps18
    go_wp2
    refine bodyPost_ret (v := .tuple #[.slice none 0 0, .int .i64 2]) (by simp [results, go_sem]) rfl ?_
    exact ⟨_, rfl, Gro.nil _ _, B3.out⟩
  have z : ¬ (1024 : Int) < (n : Int) := by omega
  go_enter Try.func18, Try.ntmps18
  go_upto_region 3 with fail
  clear hs1' hs2' hw1' hw2' hs' hw' k9
  go_wp2_with (refine wpList_loadA rfl 26 10 aggSg sizSg _ rfl b 0 rfl Z LZ.out C3.out ?_)
  refine MB.out.mono ?_
  rintro _ w4 ⟨rfl, b4⟩
  have C34 := hide (C3.out.later l3 b4)
  have B34 := hide b4
  clear b4 C3 MB
  cases q with
  | false =>
    have e : E = 1 := by rw [HE.out, if_neg h1, if_pos rfl]
    have eR : R = [] := by rw [HR.out, if_neg (by rw [e]; decide)]
    have BF : Hid (Below w.heap.size w w4) := later B3.out B34.out
    subst e eR
    go_wp2
    refine bodyPost_ret (v := .tuple #[.slice none 0 0, .int .i64 1]) (by simp [results, go_sem]) rfl ?_
    exact ⟨_, rfl, Gro.nil _ _, BF.out⟩
  | true =>
  have e : E = 0 := by rw [HE.out, if_neg h1, if_neg (by decide)]
  have eR : R = tsB x y s := by rw [HR.out, if_pos e]
  subst e
  have HR2 := hide eR
  have mt : mbS s = true := HQ.out.symm
  obtain ⟨⟨p0, p1⟩, ⟨p2, p3⟩, ⟨fl0, fl1⟩, ⟨wn0, wn1⟩, _, m3⟩ := mbS_true mt
  have OQ := hide (OP.out m3 w4 B34.out)
  obtain ⟨SQ0, SQ1⟩ := OK.out.seq
  obtain ⟨AK0, AK1⟩ := OK.out.ack
  have M3 := hide m3
  clear mt m3 eR OP
  go_wp2_with (refine wpList_loadA rfl 26 10 aggSg sizSg _ rfl b 0 rfl Z LZ.out C34.out ?_)
  refine OQ.out.mono ?_
  rintro _ w5 ⟨v5, rfl, g5, b5⟩
  obtain ⟨O, hO⟩ : ∃ O, O = otB s := ⟨_, rfl⟩
  rw [← hO] at g5
  obtain ⟨oa, oc, rfl, _⟩ := g5.isB.shape
  obtain ⟨ln, hln⟩ : ∃ ln, ln = O.length := ⟨_, rfl⟩
  rw [← hln] at g5 ⊢
  have OL := otB_len s M3.out
  rw [← hO, ← hln] at OL
  obtain ⟨ol, ol4⟩ := OL
  have HO := hide hO
  have HLN := hide hln
  have G5 := hide g5.isB
  have B5 := hide (later B34.out b5)
  have b5w := hide b5
  have zl : (ln : Int) ≤ 35 := by omega
  obtain ⟨hz, hhz⟩ : ∃ hz : Nat, hz = 20 + ln := ⟨_, rfl⟩
  have zh : (20 : Int) + (ln : Int) = (hz : Int) := by omega
  have hz1 : (hz : Int) ≤ 55 := by omega
  have HHZ := hide hhz
  have CX : Hid (∀ W, Below w5.heap.size w5 W → CellsAt W b 0 (s.cells (.slice ga m gc) (.slice da n dc))) := fun W hW => by
    have h := C34.out.later (Nat.lt_of_lt_of_le l3 B34.out.size) (later b5 hW)
    rw [HZ.out] at h
    exact h
  have l5 : b < w5.heap.size := Nat.lt_of_lt_of_le l3 (B5.out.size)
  clear b5 g5 hO hln OQ C34 hhz
  go_upto_region 7 with fail
  clear zh
  have CW : ∀ W, Below w5.heap.size w5.drew W → CellsAt W b 0 (s.cells (.slice ga m gc) (.slice da n dc)) := fun W hb => CX.out W (((Below.refl _ w5).drew).trans hb)
  refine region_grow (w := w5) (fun i v W => match i with | 0 => v = .pointer (some ⟨b, 0, none⟩) | 1 => v = .int .i64 s.src | 2 => Gro w5.heap.size W v (put16 s.src) | 3 => v = .pointer (some ⟨b, 1, none⟩) | 4 => v = .int .i64 s.dst | 5 => Gro w5.heap.size W v (put16 s.src ++ put16 s.dst) | 6 => Gro w5.heap.size W v (put16 s.src ++ put16 s.dst) | _ => True) (by kernel_rfl) (by kernel_rfl) (by kernel_rfl) (no_guard (by kernel_rfl)) (fun i v W W' h hb => match i, h with | 0, h => h | 1, h => h | 2, h => Gro.later h hb | 3, h => h | 4, h => h | 5, h => Gro.later h hb | 6, h => Gro.later h hb | _ + 7, h => h) ?_ ?_
  · intro listed a W hM hn i o ho hr
    have B := hM.bel
    match i, ho, hr with
    | 0, ho, hr =>
      have u5 : a.eval (.tmp 5) = .pointer (some ⟨b, 0, none⟩) := hM.keep (t := 5) (by kernel_rfl)
      exact Step.of rfl (.inl ⟨.pointer (some ⟨b, 0, none⟩), W, exec_fieldO 26 _ 0 b 0 0 rfl u5 (fun w => by kernel_rfl), Below.refl _ _, rfl⟩) ho
    | 1, ho, hr =>
      have u27 := hM.use hr rfl (j := 0) (by kernel_rfl) rfl rfl
      have u27 : a.eval (.tmp 27) = .pointer (some ⟨b, 0, none⟩) := u27
      exact Step.of rfl (.inl ⟨.int .i64 s.src, W, exec_load1 3 one1 _ rfl b 0 u27 (.int .i64 s.src) (CW W B 0 _ rfl), Below.refl _ _, rfl⟩) ho
    | 2, ho, hr =>
      have u28 := hM.use hr rfl (j := 1) (by kernel_rfl) rfl rfl
      have u28 : a.eval (.tmp 28) = .int .i64 s.src := u28
      refine Step.of rfl (.inr ⟨29, #[.slice none 0 0, .int .i64 s.src], exec_callF _ _ _ _ rfl (map2 rfl u28) (enters_of Try.func29 (by kernel_rfl) rfl), ?_⟩) ho
      exact put16_g (IsB.nil _ _) hn (Nat.le_of_ble_eq_true rfl)
    | 3, ho, hr =>
      have u5 : a.eval (.tmp 5) = .pointer (some ⟨b, 0, none⟩) := hM.keep (t := 5) (by kernel_rfl)
      exact Step.of rfl (.inl ⟨.pointer (some ⟨b, 1, none⟩), W, exec_fieldO 26 _ 1 b 0 1 rfl u5 (fun w => by kernel_rfl), Below.refl _ _, rfl⟩) ho
    | 4, ho, hr =>
      have u30 := hM.use hr rfl (j := 3) (by kernel_rfl) rfl rfl
      have u30 : a.eval (.tmp 30) = .pointer (some ⟨b, 1, none⟩) := u30
      exact Step.of rfl (.inl ⟨.int .i64 s.dst, W, exec_load1 3 one1 _ rfl b 1 u30 (.int .i64 s.dst) (CW W B 1 _ rfl), Below.refl _ _, rfl⟩) ho
    | 5, ho, hr =>
      have u29 := hM.use hr rfl (j := 2) (by kernel_rfl) rfl rfl
      have u29 : (fun v W => Gro w5.heap.size W v (put16 s.src)) (a.eval (.tmp 29)) W := u29
      have u31 := hM.use hr rfl (j := 4) (by kernel_rfl) rfl rfl
      have u31 : a.eval (.tmp 31) = .int .i64 s.dst := u31
      refine Step.of rfl (.inr ⟨29, #[a.eval (.tmp 29), .int .i64 s.dst], exec_callF _ _ _ _ rfl (map2 rfl u31) (enters_of Try.func29 (by kernel_rfl) rfl), ?_⟩) ho
      exact put16_g u29.isB hn (Nat.le_of_ble_eq_true rfl)
    | 6, ho, hr =>
      have u32 := hM.use hr rfl (j := 5) (by kernel_rfl) rfl rfl
      have u32 : (fun v W => Gro w5.heap.size W v (put16 s.src ++ put16 s.dst)) (a.eval (.tmp 32)) W := u32
      exact Step.of rfl (.inl ⟨_, W, exec_assign _ _ rfl rfl, Below.refl _ _, u32⟩) ho
    | n + 7, ho, _ => exact absurd (Array.getElem?_eq_some_iff.1 ho).1 (by simp)
  intro listed a W hM hl
  have B := hM.bel
  have p27 : a.tmps.getD 27 undef = .pointer (some ⟨b, 0, none⟩) := hM.got 0 _ _ rfl (hl 0 (by decide)) rfl
  have p28 : a.tmps.getD 28 undef = .int .i64 s.src := hM.got 1 _ _ rfl (hl 1 (by decide)) rfl
  have p29 : (fun v W => Gro w5.heap.size W v (put16 s.src)) (a.tmps.getD 29 undef) W := hM.got 2 _ _ rfl (hl 2 (by decide)) rfl
  have p30 : a.tmps.getD 30 undef = .pointer (some ⟨b, 1, none⟩) := hM.got 3 _ _ rfl (hl 3 (by decide)) rfl
  have p31 : a.tmps.getD 31 undef = .int .i64 s.dst := hM.got 4 _ _ rfl (hl 4 (by decide)) rfl
  have p32 : (fun v W => Gro w5.heap.size W v (put16 s.src ++ put16 s.dst)) (a.tmps.getD 32 undef) W := hM.got 5 _ _ rfl (hl 5 (by decide)) rfl
  have p10 : (fun v W => Gro w5.heap.size W v (put16 s.src ++ put16 s.dst)) (a.tmps.getD 10 undef) W := hM.got 6 _ _ rfl (hl 6 (by decide)) rfl
  rw [hM.lit [27, 28, 29, 30, 31, 32, 10] (by kernel_rfl)]
  clear hM hl
  simp only [fill, List.foldl_cons, List.foldl_nil, Act.put, List.setIfInBounds_toArray, List.set_cons_zero, List.set_cons_succ]
  clear p27
  generalize a.tmps.getD 27 undef = x27 at *
  clear p28
  generalize a.tmps.getD 28 undef = x28 at *
  generalize a.tmps.getD 29 undef = x29 at *
  clear p30
  generalize a.tmps.getD 30 undef = x30 at *
  clear p31
  generalize a.tmps.getD 31 undef = x31 at *
  generalize a.tmps.getD 32 undef = x32 at *
  generalize a.tmps.getD 10 undef = x10 at *
  obtain ⟨a7, c7, e7, _⟩ := p10.isB.shape
  subst e7
  have A7 : Hid (IsB W.heap.size W (.slice a7 4 c7) (put16 s.src ++ put16 s.dst)) := p10.isB
  have B7 : Hid (Below w5.heap.size w5 W) := ((Below.refl _ w5).drew).trans B
  obtain ⟨w7, hw7⟩ : ∃ w7, w7 = W := ⟨_, rfl⟩
  rw [show (put16 s.src ++ put16 s.dst).length = 4 from rfl]
  rw [← hw7] at A7 B7 ⊢
  clear p29 p32 p10 B CW hw7
  go_upto_region 8 with fail
  have CW : ∀ W, Below w7.heap.size w7.drew W → CellsAt W b 0 (s.cells (.slice ga m gc) (.slice da n dc)) := fun W hb => CX.out W (later B7.out (((Below.refl _ w7).drew).trans hb))
  have AW : ∀ W, Below w7.heap.size w7.drew W → IsB W.heap.size W (.slice a7 4 c7) (put16 s.src ++ put16 s.dst) := fun W hb => A7.out.later (((Below.refl _ w7).drew).trans hb)
  refine region_grow (w := w7) (fun i v W => match i with | 0 => v = .slice a7 4 c7 | 1 => v = .pointer (some ⟨b, 2, none⟩) | 2 => v = .int .u32 s.seq | 3 => Gro w7.heap.size W v (put16 s.src ++ put16 s.dst ++ put32 s.seq) | 4 => v = .pointer (some ⟨b, 3, none⟩) | 5 => v = .int .u32 s.ack | 6 => Gro w7.heap.size W v (put16 s.src ++ put16 s.dst ++ put32 s.seq ++ put32 s.ack) | 7 => Gro w7.heap.size W v (put16 s.src ++ put16 s.dst ++ put32 s.seq ++ put32 s.ack) | _ => True) (by kernel_rfl) (by kernel_rfl) (by kernel_rfl) (no_guard (by kernel_rfl)) (fun i v W W' h hb => match i, h with | 0, h => h | 1, h => h | 2, h => h | 3, h => Gro.later h hb | 4, h => h | 5, h => h | 6, h => Gro.later h hb | 7, h => Gro.later h hb | _ + 8, h => h) ?_ ?_
  · intro listed a W hM hn i o ho hr
    have B := hM.bel
    match i, ho, hr with
    | 0, ho, hr =>
      have u10 : a.eval (.tmp 10) = .slice a7 4 c7 := hM.keepB (t := 10) hr (by kernel_rfl)
      exact Step.of rfl (.inl ⟨.slice a7 4 c7, W, exec_move _ _ rfl u10, Below.refl _ _, rfl⟩) ho
    | 1, ho, hr =>
      have u5 : a.eval (.tmp 5) = .pointer (some ⟨b, 0, none⟩) := hM.keep (t := 5) (by kernel_rfl)
      exact Step.of rfl (.inl ⟨.pointer (some ⟨b, 2, none⟩), W, exec_fieldO 26 _ 2 b 0 2 rfl u5 (fun w => by kernel_rfl), Below.refl _ _, rfl⟩) ho
    | 2, ho, hr =>
      have u34 := hM.use hr rfl (j := 1) (by kernel_rfl) rfl rfl
      have u34 : a.eval (.tmp 34) = .pointer (some ⟨b, 2, none⟩) := u34
      exact Step.of rfl (.inl ⟨.int .u32 s.seq, W, exec_load1 22 one32 _ rfl b 2 u34 (.int .u32 s.seq) (CW W B 2 _ rfl), Below.refl _ _, rfl⟩) ho
    | 3, ho, hr =>
      have u33 := hM.use hr rfl (j := 0) (by kernel_rfl) rfl rfl
      have u33 : a.eval (.tmp 33) = .slice a7 4 c7 := u33
      have u35 := hM.use hr rfl (j := 2) (by kernel_rfl) rfl rfl
      have u35 : a.eval (.tmp 35) = .int .u32 s.seq := u35
      refine Step.of rfl (.inr ⟨30, #[.slice a7 4 c7, .int .u32 s.seq], exec_callF _ _ _ _ rfl (map2 u33 u35) (enters_of Try.func30 (by kernel_rfl) rfl), ?_⟩) ho
      exact put32_g (AW W B) ⟨SQ0, SQ1⟩ hn (Nat.le_of_ble_eq_true rfl)
    | 4, ho, hr =>
      have u5 : a.eval (.tmp 5) = .pointer (some ⟨b, 0, none⟩) := hM.keep (t := 5) (by kernel_rfl)
      exact Step.of rfl (.inl ⟨.pointer (some ⟨b, 3, none⟩), W, exec_fieldO 26 _ 3 b 0 3 rfl u5 (fun w => by kernel_rfl), Below.refl _ _, rfl⟩) ho
    | 5, ho, hr =>
      have u37 := hM.use hr rfl (j := 4) (by kernel_rfl) rfl rfl
      have u37 : a.eval (.tmp 37) = .pointer (some ⟨b, 3, none⟩) := u37
      exact Step.of rfl (.inl ⟨.int .u32 s.ack, W, exec_load1 22 one32 _ rfl b 3 u37 (.int .u32 s.ack) (CW W B 3 _ rfl), Below.refl _ _, rfl⟩) ho
    | 6, ho, hr =>
      have u36 := hM.use hr rfl (j := 3) (by kernel_rfl) rfl rfl
      have u36 : (fun v W => Gro w7.heap.size W v (put16 s.src ++ put16 s.dst ++ put32 s.seq)) (a.eval (.tmp 36)) W := u36
      have u38 := hM.use hr rfl (j := 5) (by kernel_rfl) rfl rfl
      have u38 : a.eval (.tmp 38) = .int .u32 s.ack := u38
      refine Step.of rfl (.inr ⟨30, #[a.eval (.tmp 36), .int .u32 s.ack], exec_callF _ _ _ _ rfl (map2 rfl u38) (enters_of Try.func30 (by kernel_rfl) rfl), ?_⟩) ho
      exact put32_g u36.isB ⟨AK0, AK1⟩ hn (Nat.le_of_ble_eq_true rfl)
    | 7, ho, hr =>
      have u39 := hM.use hr rfl (j := 6) (by kernel_rfl) rfl rfl
      have u39 : (fun v W => Gro w7.heap.size W v (put16 s.src ++ put16 s.dst ++ put32 s.seq ++ put32 s.ack)) (a.eval (.tmp 39)) W := u39
      exact Step.of rfl (.inl ⟨_, W, exec_assign _ _ rfl rfl, Below.refl _ _, u39⟩) ho
    | n + 8, ho, _ => exact absurd (Array.getElem?_eq_some_iff.1 ho).1 (by simp)
  intro listed a W hM hl
  have B := hM.bel
  have p33 : a.tmps.getD 33 undef = .slice a7 4 c7 := hM.got 0 _ _ rfl (hl 0 (by decide)) rfl
  have p34 : a.tmps.getD 34 undef = .pointer (some ⟨b, 2, none⟩) := hM.got 1 _ _ rfl (hl 1 (by decide)) rfl
  have p35 : a.tmps.getD 35 undef = .int .u32 s.seq := hM.got 2 _ _ rfl (hl 2 (by decide)) rfl
  have p36 : (fun v W => Gro w7.heap.size W v (put16 s.src ++ put16 s.dst ++ put32 s.seq)) (a.tmps.getD 36 undef) W := hM.got 3 _ _ rfl (hl 3 (by decide)) rfl
  have p37 : a.tmps.getD 37 undef = .pointer (some ⟨b, 3, none⟩) := hM.got 4 _ _ rfl (hl 4 (by decide)) rfl
  have p38 : a.tmps.getD 38 undef = .int .u32 s.ack := hM.got 5 _ _ rfl (hl 5 (by decide)) rfl
  have p39 : (fun v W => Gro w7.heap.size W v (put16 s.src ++ put16 s.dst ++ put32 s.seq ++ put32 s.ack)) (a.tmps.getD 39 undef) W := hM.got 6 _ _ rfl (hl 6 (by decide)) rfl
  have p10 : (fun v W => Gro w7.heap.size W v (put16 s.src ++ put16 s.dst ++ put32 s.seq ++ put32 s.ack)) (a.tmps.getD 10 undef) W := hM.got 7 _ _ rfl (hl 7 (by decide)) rfl
  rw [hM.lit [33, 34, 35, 36, 37, 38, 39, 10] (by kernel_rfl)]
  clear hM hl
  simp only [fill, List.foldl_cons, List.foldl_nil, Act.put, List.setIfInBounds_toArray, List.set_cons_zero, List.set_cons_succ]
  clear p33
  generalize a.tmps.getD 33 undef = x33 at *
  clear p34
  generalize a.tmps.getD 34 undef = x34 at *
  clear p35
  generalize a.tmps.getD 35 undef = x35 at *
  generalize a.tmps.getD 36 undef = x36 at *
  clear p37
  generalize a.tmps.getD 37 undef = x37 at *
  clear p38
  generalize a.tmps.getD 38 undef = x38 at *
  generalize a.tmps.getD 39 undef = x39 at *
  generalize a.tmps.getD 10 undef = x10 at *
  obtain ⟨a8, c8, e8, _⟩ := p10.isB.shape
  subst e8
  have A8 : Hid (IsB W.heap.size W (.slice a8 12 c8) (put16 s.src ++ put16 s.dst ++ put32 s.seq ++ put32 s.ack)) := p10.isB
  have B8 : Hid (Below w5.heap.size w5 W) := later B7.out (((Below.refl _ w7).drew).trans B)
  obtain ⟨w8, hw8⟩ : ∃ w8, w8 = W := ⟨_, rfl⟩
  rw [show (put16 s.src ++ put16 s.dst ++ put32 s.seq ++ put32 s.ack).length = 12 from rfl]
  rw [← hw8] at A8 B8 ⊢
  clear p36 p39 p10 B CW hw8 AW A7 B7
  go_upto_region 9 with fail
  have CW : ∀ W, Below w8.heap.size w8.drew W → CellsAt W b 0 (s.cells (.slice ga m gc) (.slice da n dc)) := fun W hb => CX.out W (later B8.out (((Below.refl _ w8).drew).trans hb))
  have AW : ∀ W, Below w8.heap.size w8.drew W → IsB W.heap.size W (.slice a8 12 c8) (put16 s.src ++ put16 s.dst ++ put32 s.seq ++ put32 s.ack) := fun W hb => A8.out.later (((Below.refl _ w8).drew).trans hb)
  refine region_grow (w := w8) (fun i v W => match i with | 0 => v = .slice a8 12 c8 | 1 => v = .int .i64 (hz : Int) | 2 => v = .int .i64 ((hz : Int) / 4) | 3 => v = .int .i64 ((hz : Int) / 4 * 4096) | 4 => v = .pointer (some ⟨b, 4, none⟩) | 5 => v = .int .i64 s.flg | 6 => v = .int .i64 ((hz : Int) / 4 * 4096 + s.flg) | 7 => Gro w8.heap.size W v (put16 s.src ++ put16 s.dst ++ put32 s.seq ++ put32 s.ack ++ put16 ((hz : Int) / 4 * 4096 + s.flg)) | 8 => v = .pointer (some ⟨b, 5, none⟩) | 9 => v = .int .i64 s.wnd | 10 => Gro w8.heap.size W v (tah s hz) | 11 => Gro w8.heap.size W v (tah s hz) | _ => True) (by kernel_rfl) (by kernel_rfl) (by kernel_rfl) (no_guard (by kernel_rfl)) (fun i v W W' h hb => match i, h with | 0, h => h | 1, h => h | 2, h => h | 3, h => h | 4, h => h | 5, h => h | 6, h => h | 7, h => Gro.later h hb | 8, h => h | 9, h => h | 10, h => Gro.later h hb | 11, h => Gro.later h hb | _ + 12, h => h) ?_ ?_
  · intro listed a W hM hn i o ho hr
    have B := hM.bel
    match i, ho, hr with
    | 0, ho, hr =>
      have u10 : a.eval (.tmp 10) = .slice a8 12 c8 := hM.keepB (t := 10) hr (by kernel_rfl)
      exact Step.of rfl (.inl ⟨.slice a8 12 c8, W, exec_move _ _ rfl u10, Below.refl _ _, rfl⟩) ho
    | 1, ho, hr =>
      have u9 : a.eval (.tmp 9) = .int .i64 (hz : Int) := hM.keep (t := 9) (by kernel_rfl)
      exact Step.of rfl (.inl ⟨.int .i64 (hz : Int), W, exec_move _ _ rfl u9, Below.refl _ _, rfl⟩) ho
    | 2, ho, hr =>
      have u41 := hM.use hr rfl (j := 1) (by kernel_rfl) rfl rfl
      have u41 : a.eval (.tmp 41) = .int .i64 (hz : Int) := u41
      exact Step.of rfl (.inl ⟨.int .i64 ((hz : Int) / 4), W, exec_quo4 _ _ _ rfl (fun _ => rfl) u41 (by omega) (by omega), Below.refl _ _, rfl⟩) ho
    | 3, ho, hr =>
      have u42 := hM.use hr rfl (j := 2) (by kernel_rfl) rfl rfl
      have u42 : a.eval (.tmp 42) = .int .i64 ((hz : Int) / 4) := u42
      exact Step.of rfl (.inl ⟨.int .i64 ((hz : Int) / 4 * 4096), W, exec_shl12 _ _ _ rfl (fun _ => rfl) u42 (by omega) (by omega), Below.refl _ _, rfl⟩) ho
    | 4, ho, hr =>
      have u5 : a.eval (.tmp 5) = .pointer (some ⟨b, 0, none⟩) := hM.keep (t := 5) (by kernel_rfl)
      exact Step.of rfl (.inl ⟨.pointer (some ⟨b, 4, none⟩), W, exec_fieldO 26 _ 4 b 0 4 rfl u5 (fun w => by kernel_rfl), Below.refl _ _, rfl⟩) ho
    | 5, ho, hr =>
      have u44 := hM.use hr rfl (j := 4) (by kernel_rfl) rfl rfl
      have u44 : a.eval (.tmp 44) = .pointer (some ⟨b, 4, none⟩) := u44
      exact Step.of rfl (.inl ⟨.int .i64 s.flg, W, exec_load1 3 one1 _ rfl b 4 u44 (.int .i64 s.flg) (CW W B 4 _ rfl), Below.refl _ _, rfl⟩) ho
    | 6, ho, hr =>
      have u43 := hM.use hr rfl (j := 3) (by kernel_rfl) rfl rfl
      have u43 : a.eval (.tmp 43) = .int .i64 ((hz : Int) / 4 * 4096) := u43
      have u45 := hM.use hr rfl (j := 5) (by kernel_rfl) rfl rfl
      have u45 : a.eval (.tmp 45) = .int .i64 s.flg := u45
      exact Step.of rfl (.inl ⟨.int .i64 ((hz : Int) / 4 * 4096 + s.flg), W, exec_orf _ _ _ _ _ rfl u43 u45 (by omega) (by omega) fl0 fl1, Below.refl _ _, rfl⟩) ho
    | 7, ho, hr =>
      have u40 := hM.use hr rfl (j := 0) (by kernel_rfl) rfl rfl
      have u40 : a.eval (.tmp 40) = .slice a8 12 c8 := u40
      have u46 := hM.use hr rfl (j := 6) (by kernel_rfl) rfl rfl
      have u46 : a.eval (.tmp 46) = .int .i64 ((hz : Int) / 4 * 4096 + s.flg) := u46
      refine Step.of rfl (.inr ⟨29, #[.slice a8 12 c8, .int .i64 ((hz : Int) / 4 * 4096 + s.flg)], exec_callF _ _ _ _ rfl (map2 u40 u46) (enters_of Try.func29 (by kernel_rfl) rfl), ?_⟩) ho
      exact put16_g (AW W B) hn (Nat.le_of_ble_eq_true rfl)
    | 8, ho, hr =>
      have u5 : a.eval (.tmp 5) = .pointer (some ⟨b, 0, none⟩) := hM.keep (t := 5) (by kernel_rfl)
      exact Step.of rfl (.inl ⟨.pointer (some ⟨b, 5, none⟩), W, exec_fieldO 26 _ 5 b 0 5 rfl u5 (fun w => by kernel_rfl), Below.refl _ _, rfl⟩) ho
    | 9, ho, hr =>
      have u48 := hM.use hr rfl (j := 8) (by kernel_rfl) rfl rfl
      have u48 : a.eval (.tmp 48) = .pointer (some ⟨b, 5, none⟩) := u48
      exact Step.of rfl (.inl ⟨.int .i64 s.wnd, W, exec_load1 3 one1 _ rfl b 5 u48 (.int .i64 s.wnd) (CW W B 5 _ rfl), Below.refl _ _, rfl⟩) ho
    | 10, ho, hr =>
      have u47 := hM.use hr rfl (j := 7) (by kernel_rfl) rfl rfl
      have u47 : (fun v W => Gro w8.heap.size W v (put16 s.src ++ put16 s.dst ++ put32 s.seq ++ put32 s.ack ++ put16 ((hz : Int) / 4 * 4096 + s.flg))) (a.eval (.tmp 47)) W := u47
      have u49 := hM.use hr rfl (j := 9) (by kernel_rfl) rfl rfl
      have u49 : a.eval (.tmp 49) = .int .i64 s.wnd := u49
      refine Step.of rfl (.inr ⟨29, #[a.eval (.tmp 47), .int .i64 s.wnd], exec_callF _ _ _ _ rfl (map2 rfl u49) (enters_of Try.func29 (by kernel_rfl) rfl), ?_⟩) ho
      exact put16_g u47.isB hn (Nat.le_of_ble_eq_true rfl)
    | 11, ho, hr =>
      have u50 := hM.use hr rfl (j := 10) (by kernel_rfl) rfl rfl
      have u50 : (fun v W => Gro w8.heap.size W v (tah s hz)) (a.eval (.tmp 50)) W := u50
      exact Step.of rfl (.inl ⟨_, W, exec_assign _ _ rfl rfl, Below.refl _ _, u50⟩) ho
    | n + 12, ho, _ => exact absurd (Array.getElem?_eq_some_iff.1 ho).1 (by simp)
  intro listed a W hM hl
  have B := hM.bel
  have p40 : a.tmps.getD 40 undef = .slice a8 12 c8 := hM.got 0 _ _ rfl (hl 0 (by decide)) rfl
  have p41 : a.tmps.getD 41 undef = .int .i64 (hz : Int) := hM.got 1 _ _ rfl (hl 1 (by decide)) rfl
  have p42 : a.tmps.getD 42 undef = .int .i64 ((hz : Int) / 4) := hM.got 2 _ _ rfl (hl 2 (by decide)) rfl
  have p43 : a.tmps.getD 43 undef = .int .i64 ((hz : Int) / 4 * 4096) := hM.got 3 _ _ rfl (hl 3 (by decide)) rfl
  have p44 : a.tmps.getD 44 undef = .pointer (some ⟨b, 4, none⟩) := hM.got 4 _ _ rfl (hl 4 (by decide)) rfl
  have p45 : a.tmps.getD 45 undef = .int .i64 s.flg := hM.got 5 _ _ rfl (hl 5 (by decide)) rfl
  have p46 : a.tmps.getD 46 undef = .int .i64 ((hz : Int) / 4 * 4096 + s.flg) := hM.got 6 _ _ rfl (hl 6 (by decide)) rfl
  have p47 : (fun v W => Gro w8.heap.size W v (put16 s.src ++ put16 s.dst ++ put32 s.seq ++ put32 s.ack ++ put16 ((hz : Int) / 4 * 4096 + s.flg))) (a.tmps.getD 47 undef) W := hM.got 7 _ _ rfl (hl 7 (by decide)) rfl
  have p48 : a.tmps.getD 48 undef = .pointer (some ⟨b, 5, none⟩) := hM.got 8 _ _ rfl (hl 8 (by decide)) rfl
  have p49 : a.tmps.getD 49 undef = .int .i64 s.wnd := hM.got 9 _ _ rfl (hl 9 (by decide)) rfl
  have p50 : (fun v W => Gro w8.heap.size W v (tah s hz)) (a.tmps.getD 50 undef) W := hM.got 10 _ _ rfl (hl 10 (by decide)) rfl
  have p10 : (fun v W => Gro w8.heap.size W v (tah s hz)) (a.tmps.getD 10 undef) W := hM.got 11 _ _ rfl (hl 11 (by decide)) rfl
  rw [hM.lit [40, 41, 42, 43, 44, 45, 46, 47, 48, 49, 50, 10] (by kernel_rfl)]
  clear hM hl
  simp only [fill, List.foldl_cons, List.foldl_nil, Act.put, List.setIfInBounds_toArray, List.set_cons_zero, List.set_cons_succ]
  clear p40
  generalize a.tmps.getD 40 undef = x40 at *
  clear p41
  generalize a.tmps.getD 41 undef = x41 at *
  clear p42
  generalize a.tmps.getD 42 undef = x42 at *
  clear p43
  generalize a.tmps.getD 43 undef = x43 at *
  clear p44
  generalize a.tmps.getD 44 undef = x44 at *
  clear p45
  generalize a.tmps.getD 45 undef = x45 at *
  clear p46
  generalize a.tmps.getD 46 undef = x46 at *
  generalize a.tmps.getD 47 undef = x47 at *
  clear p48
  generalize a.tmps.getD 48 undef = x48 at *
  clear p49
  generalize a.tmps.getD 49 undef = x49 at *
  generalize a.tmps.getD 50 undef = x50 at *
  generalize a.tmps.getD 10 undef = x10 at *
  obtain ⟨a9, c9, e9, _⟩ := p10.isB.shape
  subst e9
  have A9 : Hid (IsB W.heap.size W (.slice a9 16 c9) (tah s hz)) := p10.isB
  have B9 : Hid (Below w5.heap.size w5 W) := later B8.out (((Below.refl _ w8).drew).trans B)
  obtain ⟨w9, hw9⟩ : ∃ w9, w9 = W := ⟨_, rfl⟩
  rw [show (tah s hz).length = 16 from rfl]
  rw [← hw9] at A9 B9 ⊢
  clear p47 p50 p10 B CW hw9 AW A8 B8
  have k9 : w9.cell? ⟨b, 9, none⟩ = some (.slice da n dc) := CX.out w9 B9.out 9 _ rfl
  obtain ⟨wa, sa, hsa, hwa, ia, ba⟩ := lit2 w9 0 0
  have ka : wa.cell? ⟨b, 9, none⟩ = some (.slice da n dc) := CX.out wa (later B9.out ba) 9 _ rfl
  have G5a := hide ((G5.out.later B9.out).later ba)
  have HDa := hide (((HD.out.later B5.out).later B9.out).later ba)
  have IA := hide ia
  have CC := concat_lit [.slice (some ⟨sa, 0, none⟩) 2 2, .slice oa ln oc, .slice da n dc] [[0, 0], O, s.dat] wa rfl (fun j hj => by
    match j, hj with
    | 0, _ => exact IA.out
    | 1, _ => exact G5a.out
    | 2, _ => exact HDa.out) (by simp) (by simp; have := HN.out; have := HLN.out; omega)
  rw [show ([[0, 0], O, s.dat] : List (List Int)).flatten = tbh s by rw [HO.out]; simp [tbh]] at CC
  obtain ⟨wb, hwb⟩ : ∃ wb, wb = wa.alloc (.cells #[.slice (some ⟨sa, 0, none⟩) 2 2, .slice oa ln oc, .slice da n dc] 24) := ⟨_, rfl⟩
  obtain ⟨sb, hsb⟩ : ∃ sb, sb = wa.heap.size := ⟨_, rfl⟩
  have CC2 : Hid (Calls Try.prog 31 #[.slice (some ⟨sb, 0, none⟩) 3 3] wb fun e w' => ∃ v, e = .returned v ∧ Gro wa.heap.size w' v (tbh s) ∧ Below wa.heap.size wa w') := by rw [hwb, hsb]; exact CC
  have A10 := hide (A9.out.later ba)
  have B10 := hide (later B9.out ba)
  have hsa' := hsa.symm
  have hwa' := hwa.symm
  have hsb' := hsb.symm
  have hwb' := hwb.symm
  clear hsa hwa ia ba hwb hsb CC A9 G5a HDa IA
  go_wp2_with fail
  clear hsa' hwa' hsb' hwb' ka k9
  refine CC2.out.mono ?_
  rintro _ wc ⟨vc, rfl, gc', bc⟩
  obtain ⟨T, hT⟩ : ∃ T, T = tbh s := ⟨_, rfl⟩
  rw [← hT] at gc'
  obtain ⟨ac, cc, rfl, _⟩ := gc'.isB.shape
  obtain ⟨tn, htn⟩ : ∃ tn, tn = T.length := ⟨_, rfl⟩
  have TN : tn = 2 + ln + n := by rw [htn, hT, tbh_len, HN.out, HLN.out, HO.out]
  rw [← htn] at gc' ⊢
  have HT := hide hT
  have HTN := hide htn
  have I11 := hide gc'.isB
  have A11 := hide (A10.out.later bc)
  have B11 := hide (later B10.out bc)
  have k9 : wc.cell? ⟨b, 9, none⟩ = some (.slice da n dc) := CX.out wc B11.out 9 _ rfl
  have B3w := hide (later (later B34.out b5w.out) B11.out)
  have C1c := hide (C1.out.later l13 B3w.out)
  have C2c := hide (C2.out.later l23 B3w.out)
  have PS : Hid (Calls Try.prog 33 #[.agg X.toArray, .agg Y.toArray, .int .i64 6, .int .i64 ((hz : Int) + (n : Int))] wc fun e w' => ∃ v, e = .returned v ∧ IsB w'.heap.size w' v (psB x y 6 ((hz : Int) + (n : Int))) ∧ Below wc.heap.size wc w') := by
    have h := Pseudo_any x y 6 ((hz : Int) + (n : Int)) wc
    rw [show x.val = .agg X.toArray from by rw [HXV.out]; rfl, show y.val = .agg Y.toArray from by rw [HYV.out]; rfl] at h
    exact h
  have SE : Hid (tsm x y s = csum (psB x y 6 ((hz : Int) + (n : Int)) ++ tah s hz ++ T)) := by
    unfold Hid tsm
    rw [← HO.out, ← HLN.out, ← HN.out, ← HHZ.out, ← HT.out]
    congr 4
    have := HHZ.out
    omega
  have PB := hide (psB_bytes XO.out YO.out 6 ((hz : Int) + (n : Int)))
  have AB := hide (tah_bytes OK.out hz)
  have TB : Hid (Bytes T) := by rw [HT.out]; exact tbh_bytes OK.out M3.out
  have zt : (tn : Int) ≤ 1100 := by omega
  clear gc' bc hT htn CC2 A10 B10 TN
  go_wp2_with (first | refine wpList_loadA rfl 35 4 aggI sizI _ rfl s1 0 rfl X LX.out C1c.out ?_ | refine wpList_loadA rfl 35 4 aggI sizI _ rfl s2 0 rfl Y LY.out C2c.out ?_)
  clear k9
  refine PS.out.mono ?_
  rintro _ wd ⟨vd, rfl, id', bd⟩
  obtain ⟨ad, cd, rfl, _⟩ := id'.shape
  have A12 := hide (A11.out.later bd)
  have I12 := hide (I11.out.later bd)
  have B12 := hide (later B11.out bd)
  have SM := hide (Sum3 (.slice ad (psB x y 6 ((hz : Int) + (n : Int))).length cd) (.slice a9 16 c9) (.slice ac tn cc) _ _ _ wd id' A12.out I12.out PB.out AB.out TB.out (by rw [psB_len, tah_len, ← HTN.out]; omega))
  rw [psB_len] at SM ⊢
  rw [← SE.out] at SM
  obtain ⟨sm, hsm⟩ : ∃ sm, sm = tsm x y s := ⟨_, rfl⟩
  rw [← hsm] at SM
  have HSM := hide hsm
  clear id' bd PS hsm C1c C2c A11 I11
  go_wp2_with fail
  refine SM.out.mono ?_
  rintro _ we ⟨rfl, be⟩
  have A13 := hide (A12.out.later be)
  have I13 := hide (I12.out.later be)
  have B13 := hide (later B12.out be)
  have Q7 := hide (Put16_any (.slice a9 16 c9) (tah s hz) sm we A13.out (by rw [tah_len]; decide))
  clear be SM A12 I12 B12
  go_wp2_with fail
  refine Q7.out.mono ?_
  rintro _ wf ⟨vf, rfl, of, bf⟩
  obtain ⟨X8, hX8⟩ : ∃ X8, X8 = tah s hz ++ put16 sm := ⟨_, rfl⟩
  have L8 : Hid (X8.length = 18) := by rw [hX8]; exact rfl
  rw [← hX8] at of
  have G8 := hide (of.gro (by rw [L8.out]; decide))
  have I8 := hide (I13.out.later bf)
  have BW := hide (later (later (later B3.out B34.out) b5w.out) (later B13.out bf))
  obtain ⟨g8, rfl, _⟩ := of
  have LL : Hid (X8.length + T.length ≤ 140737488355328) := by unfold Hid; rw [L8.out, ← HTN.out]; omega
  have Z7 : Hid (we.heap.size ≤ wf.heap.size) := bf.size
  have Z6 : Hid (w.heap.size ≤ we.heap.size) := (later (later (later B3.out B34.out) b5w.out) B13.out).size
  have EX : Hid (X8 ++ T = R) := by
    unfold Hid
    rw [HR2.out, tsB, hX8, HT.out, HSM.out, ← HO.out, ← HLN.out, ← HHZ.out]
  rw [L8.out] at G8 ⊢
  clear bf Q7 hX8 A13 I13 B13
  go_wp2_with (at_builtin; refine wpList_growB rfl _ _ rfl rfl we.heap.size (.slice (some ⟨g8, 0, none⟩) 18 18) _ X8 T rfl rfl G8.out I8.out Z7.out LL.out R EX.out ?_)
  intro az cz wz _ gz bz
  have G9 : Hid (Gro w.heap.size wz (.slice az R.length cz) R) := gz.low Z6.out
  have B9' : Hid (Below w.heap.size w wz) := BW.out.trans (bz.mono Z6.out)
  clear gz bz
  go_wp2
  refine bodyPost_ret (v := .tuple #[.slice az R.length cz, .int .i64 0]) (by simp [results, go_sem]) rfl ?_
  exact ⟨_, rfl, G9.out, B9'.out⟩
end Go.Proofs.Ytggadchhkenipaa
