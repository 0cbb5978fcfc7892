
/-
  Out of I10 I13 I14 I15 I16 I17 I18 I20 I23 I24 I25 I26 I27: rEncode_any, PkOk, enB_bytes, hdB_len.
-/
import Derived.Test.YtlhkdjockodneaaT24
import Derived.Lib.SmallJoins
namespace Go.Proofs.Ytlhkdjockodneaa
open Go.RowKit Go.Shelf

/-- what Encode tells -/
def EnE (n0 : Nat) (w : World) (p : Pk) (b : List Int) (e : Ending) (w' : World) : Prop :=
  Below n0 w w' ∧ ((enE p b.length = 0 ∧ ∃ v, e = .returned (.tuple #[v, .int .i64 0]) ∧ Gro n0 w' v (enB p b)) ∨ (enE p b.length ≠ 0 ∧ e = .returned (.tuple #[.slice none 0 0, .int .i64 (enE p b.length)])))
/-- a packet that came in -/
structure PkOk (p : Pk) : Prop where
  src : p.src.Ok
  dst : p.dst.Ok
  opts : Bytes p.opts
  len : p.opts.length ≤ 140737488351232
def hdB (p : Pk) (sz : Int) : List Int := ahd p sz ++ (put16 (csum (ahd p sz ++ bhd p)) ++ bhd p)
theorem hdB_len (p : Pk) (sz : Int) : (hdB p sz).length = 20 + p.opts.length := by
  simp only [hdB, List.length_append, ahd_len, put16_len, bhd_len]; omega
theorem enB_split (p : Pk) (b : List Int) : enB p b = hdB p (20 + (p.opts.length : Int) + (b.length : Int)) ++ b := by
  simp [enB, hdB, List.flatten_cons, List.append_assoc]
theorem hdB_bytes {p : Pk} (hA : ∀ sz, Bytes (ahd p sz)) (hB : Bytes (bhd p)) (sz : Int) : Bytes (hdB p sz) := (hA sz).append ((put16_bytes _).append hB)
theorem enE_zero {p : Pk} {n : Nat} (h : enE p n = 0) : mb p = true ∧ p.opts.length ≤ 40 ∧ p.opts.length % 4 = 0 ∧ okO p.opts = true ∧ 20 + p.opts.length + n ≤ 65535 := by
  unfold enE at h
  split at h
  · cases h
  split at h
  · cases h
  split at h
  · cases h
  rename_i h1 h2 h3
  have h4 : opB p = true := by simpa using h2
  simp only [opB, Bool.and_eq_true, decide_eq_true_eq] at h4
  exact ⟨by simpa using h1, h4.1, h4.2.1, h4.2.2, by omega⟩
theorem enB_bytes {p : Pk} {b : List Int} (h : PkOk p) (he : enE p b.length = 0) (hb : Bytes b) : Bytes (enB p b) := by
  obtain ⟨h1, h2, _⟩ := enE_zero he
  rw [enB_split]
  exact (hdB_bytes (ahd_bytes h1 h2) (bhd_bytes h.src h.dst h.opts) _).append hb
set_option maxHeartbeats 4000000 in
/-- ip: bytes with an address behind them -/
theorem rip_any (v : Value) (bs : List Int) (x : I4) (B : Nat) (w : World) (hB : B ≤ w.heap.size) (g : Gro B w v bs) (hl : bs.length ≤ 100000) : Calls Try.prog 57 #[v, x.val] w fun e w' => ∃ v', e = .returned v' ∧ Gro B w' v' (bs ++ ipL x) ∧ Below B w w' := by
  obtain ⟨a, c, rfl, _⟩ := g.isB.shape
  obtain ⟨s, hs⟩ : ∃ s, s = w.heap.size := ⟨_, rfl⟩
  obtain ⟨w1, hw1⟩ : ∃ w1, w1 = w.alloc (.cells #[.int .u8 x.a, .int .u8 x.b, .int .u8 x.c, .int .u8 x.d] 35) := ⟨_, rfl⟩
  have b1 : Below w.heap.size w w1 := by rw [hw1]; exact later_alloc _ _
  have c1 : CellsAt w1 s 0 x.vals := by rw [hw1, hs]; exact CellsAt.new w x.vals 35
  have x0 := c1 0 _ rfl
  have x1 := c1 1 _ rfl
  have x2 := c1 2 _ rfl
  have x3 := c1 3 _ rfl
  simp only [Nat.zero_add] at x0 x1 x2 x3
  obtain ⟨s2, hs2⟩ : ∃ s2, s2 = w1.heap.size := ⟨_, rfl⟩
  obtain ⟨w2, hw2⟩ : ∃ w2, w2 = w1.alloc (.cells #[.int .u8 x.a, .int .u8 x.b, .int .u8 x.c, .int .u8 x.d] 5) := ⟨_, rfl⟩
  have b2 : Below w1.heap.size w1 w2 := by rw [hw2]; exact later_alloc _ _
  have i2 : IsB w2.heap.size w2 (.slice (some ⟨s2, 0, none⟩) 4 4) (ipL x) := by rw [hw2, World.size_alloc, hs2]; exact IsB_new (ipL x) (by omega)
  have G2 := hide (g.later (b1.trans (b2.mono b1.size)))
  have I2 := hide i2
  have B2 : Hid (Below B w w2) := (b1.trans (b2.mono b1.size)).mono hB
  have Z2 : Hid (B ≤ w2.heap.size) := Nat.le_trans hB (b1.trans (b2.mono b1.size)).size
  obtain ⟨L, hL⟩ : ∃ L, bs ++ ipL x = L := ⟨_, rfl⟩
  have HL := hide hL
  have L4 : Hid (bs.length + (ipL x).length ≤ 140737488355328) := by show _ ≤ _; simp [ipL]; omega
  obtain ⟨N, hN⟩ : ∃ N, N = bs.length := ⟨_, rfl⟩
  rw [← hN] at G2 ⊢
  have HN := hide hN
  rw [hL]
  rw [show x.val = .agg #[.int .u8 x.a, .int .u8 x.b, .int .u8 x.c, .int .u8 x.d] from rfl]
  have hs' := hs.symm
  have hs2' := hs2.symm
  have hw1' := hw1.symm
  have hw2' := hw2.symm
  clear b1 c1 b2 i2 hs hs2 hw1 hw2 g hL hN hl
  go_enter Try.func57, Try.ntmps57
  go_wp2_with (at_builtin; refine wpList_growB rfl (.tmp 5) (.tmp 14) rfl rfl B (.slice a N c) _ bs (ipL x) rfl rfl G2.out I2.out Z2.out L4.out L HL.out ?_)
  intro a4 c4 w4 _ g4 b4
  have G4 := hide g4
  have B4 : Hid (Below B w w4) := B2.out.trans b4
  clear g4 b4
  go_wp2
  go_ret
  exact ⟨_, rfl, G4.out, B4.out⟩
/-- the place and the marks, out of one number -/
theorem pl_parts {p : Pk} (h0 : 0 ≤ p.off) (h1 : p.off ≤ 65528) (h2 : p.off % 8 = 0) : 0 ≤ pl p ∧ pl p < 32768 ∧ decide (pl p / 16384 % 2 = 1) = p.whole ∧ decide (pl p / 8192 % 2 = 1) = p.more ∧ pl p % 8192 * 8 = p.off := by
  unfold pl
  cases hw : p.whole <;> cases hm : p.more <;> refine ⟨?_, ?_, ?_, ?_, ?_⟩ <;> simp only [Bool.false_eq_true, if_true, if_false, decide_eq_true_eq, decide_eq_false_iff_not] <;> omega
theorem isB_cells {n0 : Nat} {W : World} {a : Option Addr} {n c : Nat} {bs : List Int} (h : IsB n0 W (.slice a n c) bs) (h0 : 0 < bs.length) : ∃ g off, a = some ⟨g, off, none⟩ ∧ ∀ j, j < bs.length → W.cell? ⟨g, off + j, none⟩ = some (.int .u8 (nb bs j)) := by
  obtain ⟨a', c', e, _, _, hc⟩ := h
  obtain ⟨g, off, e2, _, hcs⟩ := hc h0
  cases e
  exact ⟨g, off, e2, hcs⟩
def lenV : Value → Nat
  | .slice _ n _ => n
  | _ => 0
theorem isB_drop {n0 : Nat} {W : World} {g off n c : Nat} {L : List Int} (h : IsB n0 W (.slice (some ⟨g, off, none⟩) n c) L) (k : Nat) (hk : k ≤ L.length) (ad : Option Addr) (had : ad = if c = k then some (⟨g, off, none⟩ : Addr) else some ⟨g, off + k, none⟩) : IsB n0 W (.slice ad (n - k) (c - k)) (L.drop k) := by
  obtain ⟨a', c', e, hl, _, hc⟩ := h
  simp only [Value.slice.injEq] at e
  obtain ⟨rfl, rfl, rfl⟩ := e
  have e : (L.drop k).length = L.length - k := List.length_drop
  refine ⟨ad, c - k, by rw [e], by omega, ?_, fun h0 => ?_⟩
  · intro h; rw [had] at h; split at h <;> cases h
  · obtain ⟨b, o, e1, hb, hcs⟩ := hc (by omega)
    cases e1
    rw [if_neg (by omega)] at had
    refine ⟨g, off + k, had, hb, fun j hj => ?_⟩
    rw [Nat.add_assoc, hcs (k + j) (by omega), List.getElem?_drop]
theorem okO_zero {L : List Int} (h : 0 < L.length) (h0 : nb L 0 = 0) : okO L = L.all (fun x => decide (x = 0)) := by
  have h0' : L[0]?.getD 0 = 0 := h0
  rw [okO_step L h, if_pos h0']
theorem okO_else {L : List Int} (h : 0 < L.length) (h0 : nb L 0 ≠ 0) : okO L = if szO L = 0 then false else okO (L.drop (szO L)) := by
  have h0' : ¬ L[0]?.getD 0 = 0 := h0
  rw [okO_step L h, if_neg h0']
theorem szO_more {L : List Int} (h0 : nb L 0 ≠ 0) (h1 : nb L 0 ≠ 1) : szO L = if L.length < 2 then 0 else if nb L 1 < 2 ∨ (L.length : Int) < nb L 1 then 0 else (nb L 1).toNat := by
  have h0' : ¬ L[0]?.getD 0 = 0 := h0
  have h1' : ¬ L[0]?.getD 0 = 1 := h1
  unfold szO
  rw [if_neg h0', if_neg h1']
  rfl
set_option maxRecDepth 100000 in
set_option maxHeartbeats 4000000 in
theorem rRight_any (v : Value) (bs : List Int) (w : World) (hb : IsB w.heap.size w v bs) (hB : Bytes bs) (hl : (bs.length : Int) ≤ 4611686018427387904) : Calls Try.prog 45 #[v] w fun e w' => e = .returned (.bool (okO bs)) ∧ w' = w := by
  obtain ⟨a, c, rfl, _⟩ := hb.shape
  have HB := hide hb
  have BY := hide hB
  obtain ⟨r, hr⟩ : ∃ r, r = okO bs := ⟨_, rfl⟩
  rw [← hr]
  have HR := hide hr
  clear hr hb hB
  go_enter Try.func45, Try.ntmps45
  go_wp2
  go_loop [0] (fun v0 => ∃ (L : List Int) (n : Nat) (a : Option Addr) (c : Nat), v0 = .slice a n c ∧ n = L.length ∧ n ≤ bs.length ∧ n ≤ c ∧ Hid (IsB w.heap.size w (.slice a n c) L) ∧ Hid (Bytes L) ∧ Hid (r = okO L)) (fun v0 => lenV v0)
  case atStart => exact ⟨bs, bs.length, a, c, rfl, rfl, Nat.le_refl _, by assumption, HB, BY, HR⟩
  case round =>
    obtain ⟨L, n, a1, c1, rfl, hn, hle, hc1, IL, BL, RL⟩ := hrel
    have HN := hide hn
    by_cases hn0 : 0 < n
    · obtain ⟨g, off, rfl, hcs⟩ := isB_cells IL.out (by omega)
      have x0 := hcs 0 (by omega)
      rw [Nat.add_zero] at x0
      obtain ⟨t0, ht0⟩ : ∃ t0, t0 = nb L 0 := ⟨_, rfl⟩
      rw [← ht0] at x0
      have zn : (0 : Int) < (n : Int) := by omega
      by_cases q0 : t0 = 0
      · have RA : Hid (r = L.all (fun x => decide (x = 0))) := by unfold Hid; rw [RL.out]; exact okO_zero (by omega) (by omega)
        have CS := hide hcs
        rw [q0] at x0
        clear q0 ht0 RL BL hcs hn
        go_wp2
        go_loop [3] (fun v3 => ∃ k : Nat, v3 = .int .i64 (k : Int) ∧ k ≤ n ∧ Hid ((L.take k).all (fun x => decide (x = 0)) = true)) (fun v3 => n - (intOf v3).toNat)
        case atStart => exact ⟨0, rfl, by omega, rfl⟩
        case round =>
          obtain ⟨k, rfl, hk, AK⟩ := hrel
          by_cases hkn : k < n
          · have xk := CS.out k (by rw [← HN.out]; exact hkn)
            obtain ⟨tk, htk⟩ : ∃ tk, tk = nb L k := ⟨_, rfl⟩
            rw [← htk] at xk
            have zk : (k : Int) < (n : Int) := by omega
            have TK : L.take (k + 1) = L.take k ++ [nb L k] := by
              rw [List.take_add_one]
              unfold nb
              rw [List.getElem?_eq_getElem (by have := HN.out; omega)]
              rfl
            by_cases qk : tk = 0
            · have q : (tk != 0) = false := by rw [qk]; rfl
              have A2 : Hid ((L.take (k + 1)).all (fun x => decide (x = 0)) = true) := by
                unfold Hid
                rw [TK, List.all_append, AK.out, ← htk, qk]
                rfl
              clear qk htk TK
              go_wp2
              go_round
              case rel => exact ⟨k + 1, by simp, by omega, A2.out⟩
              case measure => simp [intOf]; omega
            · have q : (tk != 0) = true := by simpa using qk
              have E : Hid (r = false) := by
                unfold Hid
                rw [RA.out]
                have : L = L.take (k + 1) ++ L.drop (k + 1) := (List.take_append_drop _ _).symm
                rw [this, TK, List.all_append, List.all_append, ← htk]
                simp [qk]
              clear qk htk TK
              go_wp2
              go_ret
              exact ⟨by rw [E.out]; rfl, rfl⟩
          · have ek : k = n := by omega
            have E : Hid (r = true) := by
              unfold Hid
              have := AK.out
              rw [ek, HN.out, List.take_length] at this
              rw [RA.out, this]
            have zk : ¬ (k : Int) < (n : Int) := by omega
            clear ek
            go_wp2
            go_ret
            exact ⟨by rw [E.out]; rfl, rfl⟩
      · have qz : (t0 == 0) = false := by simpa using q0
        have EL := okO_else (L := L) (by omega) (by omega)
        by_cases q1 : t0 = 1
        · have qo : (t0 == 1) = true := by rw [q1]; rfl
          have es : szO L = 1 := by
            have h0' : ¬ L[0]?.getD 0 = 0 := by intro h; apply q0; rw [ht0]; exact h
            have h1' : L[0]?.getD 0 = 1 := by rw [← q1, ht0]; rfl
            unfold szO
            rw [if_neg h0', if_pos h1']
          rw [es, if_neg (by decide)] at EL
          have R2 : Hid (r = okO (L.drop 1)) := by unfold Hid; rw [RL.out, EL]
          have I2 := isB_drop IL.out 1 (by omega) _ rfl
          have z1 : (1 : Int) ≤ (n : Int) := by omega
          have B2 := hide (BL.out.drop 1)
          by_cases hcc : c1 = 1
          · rw [if_pos hcc, show c1 - 1 = 0 by omega] at I2
            have I2 := hide I2
            clear q0 q1 ht0 hcs es EL RL hn
            go_wp2
            go_round
            case rel => exact ⟨L.drop 1, n - 1, _, _, rfl, by rw [List.length_drop, ← HN.out], by omega, by omega, I2, B2, R2⟩
            case measure => simp [lenV]; omega
          · rw [if_neg hcc] at I2
            have I2 := hide I2
            clear q0 q1 ht0 hcs es EL RL hn
            go_wp2
            go_round
            case rel => exact ⟨L.drop 1, n - 1, _, _, rfl, by rw [List.length_drop, ← HN.out], by omega, by omega, I2, B2, R2⟩
            case measure => simp [lenV]; omega
        · have qo : (t0 == 1) = false := by simpa using q1
          have es := szO_more (L := L) (by rw [← ht0]; exact q0) (by rw [← ht0]; exact q1)
          by_cases h2 : n < 2
          · have E : Hid (r = false) := by unfold Hid; rw [RL.out, EL, if_pos (by rw [es, if_pos (by omega)])]
            have z2 : (n : Int) < 2 := by omega
            clear q0 q1 ht0 hcs es EL RL hn
            go_wp2
            go_ret
            exact ⟨by rw [E.out]; rfl, rfl⟩
          · rw [if_neg (by omega)] at es
            have z2 : ¬ (n : Int) < 2 := by omega
            have z12 : (1 : Int) < (n : Int) := by omega
            have x1 := hcs 1 (by omega)
            obtain ⟨t1, ht1⟩ : ∃ t1, t1 = nb L 1 := ⟨_, rfl⟩
            rw [← ht1] at x1 es
            obtain ⟨u0, u1⟩ := nb_bd BL.out 1
            rw [← ht1] at u0 u1
            have hwr : IntKind.i64.wrap t1 = t1 := wrapI _ (by omega) (by omega)
            rw [← HN.out] at es
            by_cases h3 : t1 < 2
            · have E : Hid (r = false) := by unfold Hid; rw [RL.out, EL, if_pos (by rw [es, if_pos (.inl h3)])]
              clear q0 q1 ht0 hcs es EL RL ht1 hn
              go_wp2
              go_ret
              exact ⟨by rw [E.out]; rfl, rfl⟩
            by_cases h4 : (n : Int) < t1
            · have E : Hid (r = false) := by unfold Hid; rw [RL.out, EL, if_pos (by rw [es, if_pos (.inr h4)])]
              clear q0 q1 ht0 hcs es EL RL ht1 hn
              go_wp2
              go_ret
              exact ⟨by rw [E.out]; rfl, rfl⟩
            rw [if_neg (by omega)] at es
            obtain ⟨m, rfl⟩ := Int.eq_ofNat_of_zero_le u0
            have es : szO L = m := by rw [es]; rfl
            rw [es, if_neg (by omega)] at EL
            have R2 : Hid (r = okO (L.drop m)) := by unfold Hid; rw [RL.out, EL]
            have I2 := isB_drop IL.out m (by omega) _ rfl
            have B2 := hide (BL.out.drop m)
            by_cases hcc : c1 = m
            · rw [if_pos hcc, show c1 - m = 0 by omega] at I2
              have I2 := hide I2
              clear q0 q1 ht0 hcs es EL RL ht1 hn
              go_wp2
              go_round
              case rel => exact ⟨L.drop m, n - m, _, _, rfl, by rw [List.length_drop, ← HN.out], by omega, by omega, I2, B2, R2⟩
              case measure => simp [lenV]; omega
            · rw [if_neg hcc] at I2
              have I2 := hide I2
              clear q0 q1 ht0 hcs es EL RL ht1 hn
              go_wp2
              go_round
              case rel => exact ⟨L.drop m, n - m, _, _, rfl, by rw [List.length_drop, ← HN.out], by omega, by omega, I2, B2, R2⟩
              case measure => simp [lenV]; omega
    · have E : Hid (r = true) := by
        have : L = [] := List.eq_nil_of_length_eq_zero (by omega)
        unfold Hid
        rw [RL.out, this, okO_nil]
      have zn : ¬ (0 : Int) < (n : Int) := by omega
      clear hn
      go_wp2
      go_ret
      exact ⟨by rw [E.out]; rfl, rfl⟩
/-- a head with any sum -/
def hdS (p : Pk) (sz c : Int) : List Int := ahd p sz ++ (put16 c ++ bhd p)
theorem hdS_len (p : Pk) (sz c : Int) : (hdS p sz c).length = 20 + p.opts.length := by
  simp only [hdS, List.length_append, ahd_len, put16_len, bhd_len]; omega
theorem hdS_sum {p : Pk} (sz : Int) : csum (hdS p sz 0) = csum (ahd p sz ++ bhd p) := by
  have e : wsum (hdS p sz 0) = wsum (ahd p sz ++ bhd p) := by
    unfold hdS
    rw [wsum_append_even _ _ (by rw [ahd_len]), wsum_append_even _ _ (by rw [put16_len]), wsum_put16 _ (by decide) (by decide), wsum_append_even _ _ (by rw [ahd_len])]
    omega
  unfold csum
  rw [e]
theorem pk_ips {W : World} {s : Nat} {p : Pk} {ov : Value} (h : CellsAt W s 0 (p.cells ov)) : CellsAt W s 0 p.src.vals ∧ CellsAt W s 4 p.dst.vals := by
  have h1 := CellsAt.append.1 h
  exact ⟨h1.1, (CellsAt.append.1 h1.2).1⟩
set_option maxRecDepth 100000 in
set_option maxHeartbeats 8000000 in
theorem rhead_any (p : Pk) (ov : Value) (sz c : Int) (w : World) (hov : IsB w.heap.size w ov p.opts) (hm : mb p = true) (ho : p.opts.length ≤ 40) (s0 : 0 ≤ sz) (s1 : sz ≤ 65535) (c0 : 0 ≤ c) (c1 : c ≤ 65535) :
    Calls Try.prog 46 #[.agg (p.cells ov).toArray, .int .i64 sz, .int .i64 c] w fun e w' => ∃ v, e = .returned v ∧ Gro w.heap.size w' v (hdS p sz c) ∧ Below w.heap.size w w' := by
  obtain ⟨ao, co, rfl, _⟩ := hov.shape
  obtain ⟨s, hs⟩ : ∃ s, s = w.heap.size := ⟨_, rfl⟩
  obtain ⟨n, hn⟩ : ∃ n, n = p.opts.length := ⟨_, rfl⟩
  rw [← hn] at hov ho ⊢
  obtain ⟨X, hX⟩ : ∃ X, X = p.cells (.slice ao n co) := ⟨_, rfl⟩
  rw [← hX]
  obtain ⟨w1, hw1⟩ : ∃ w1, w1 = w.alloc (.cells X.toArray 70) := ⟨_, rfl⟩
  have b1 : Below w.heap.size w w1 := by rw [hw1]; exact later_alloc _ _
  have cc1 : CellsAt w1 s 0 X := by rw [hw1, hs]; exact CellsAt.new w X 70
  have l1 : s < w1.heap.size := by rw [hw1, hs]; simp
  obtain ⟨m1, m2, m3, m4, m5, m6⟩ := mb_true hm
  obtain ⟨k1, k2⟩ := m1
  obtain ⟨k3, k4⟩ := m2
  obtain ⟨k5, k6⟩ := m3
  obtain ⟨k7, k8⟩ := m4
  obtain ⟨k9, k10⟩ := m5
  have HX := hide hX
  have HN := hide hn
  have HOV := hide hov
  have HM := hide hm
  rw [hX] at cc1
  have x11 : w1.cell? ⟨s, 11, none⟩ = some (.int .i64 p.tos) := cc1 11 _ rfl
  have x15 : w1.cell? ⟨s, 15, none⟩ = some (.slice ao n co) := cc1 15 _ rfl
  have wt : IntKind.u8.wrap p.tos = p.tos := by rw [IntKind.wrap_u8]; omega
  have wz : IntKind.u8.wrap (64 + (20 + (n : Int)) / 4) = 64 + (20 + (n : Int)) / 4 := by rw [IntKind.wrap_u8]; omega
  obtain ⟨s2, hs2⟩ : ∃ s2, s2 = w1.heap.size := ⟨_, rfl⟩
  obtain ⟨w2, hw2⟩ : ∃ w2, w2 = w1.alloc (.cells #[.int .u8 (64 + (20 + (n : Int)) / 4), .int .u8 p.tos] 5) := ⟨_, rfl⟩
  have b2 : Below w1.heap.size w1 w2 := by rw [hw2]; exact later_alloc _ _
  have i2 : IsB w2.heap.size w2 (.slice (some ⟨s2, 0, none⟩) 2 2) [64 + (20 + (n : Int)) / 4, p.tos] := by rw [hw2, World.size_alloc, hs2]; exact IsB_new [64 + (20 + (n : Int)) / 4, p.tos] (by omega)
  have B2 : Hid (Below w.heap.size w w2) := b1.trans (b2.mono b1.size)
  have C2 : Hid (CellsAt w2 s 0 (p.cells (.slice ao n co))) := cc1.later l1 b2
  have L2 : s < w2.heap.size := Nat.lt_of_lt_of_le l1 b2.size
  have P3 := hide (rPut2_any (.slice (some ⟨s2, 0, none⟩) 2 2) [64 + (20 + (n : Int)) / 4, p.tos] sz w2 i2 (by simp) s0 s1)
  have hs' := hs.symm
  have hs2' := hs2.symm
  have hw1' := hw1.symm
  have hw2' := hw2.symm
  obtain ⟨Z0, hZ0⟩ : ∃ Z0 : List Int, Z0 = [64 + (20 + (n : Int)) / 4, p.tos] := ⟨_, rfl⟩
  rw [← hZ0] at P3
  have HZ0 := hide hZ0
  clear hs hs2 hw1 hw2 b1 b2 i2 cc1 hX hn hov hZ0 hm m6
  go_enter Try.func46, Try.ntmps46
  go_wp2_with fail
  clear hs' hs2' hw1' hw2' x11 x15 wz
  refine P3.out.mono ?_
  rintro _ w3 ⟨v3, rfl, g3, b3⟩
  have B3 : Hid (Below w.heap.size w w3) := B2.out.trans (b3.mono B2.out.size)
  have C3 := hide (C2.out.later L2 b3)
  have L3 : s < w3.heap.size := Nat.lt_of_lt_of_le L2 b3.size
  obtain ⟨a3, e3, rfl, _⟩ := g3.isB.shape
  have P4 := hide (rPut2_any _ _ p.id w3 g3.isB (by rw [HZ0.out]; simp [put16]) k5 k6)
  have el3 : (Z0 ++ put16 sz).length = 4 := by rw [HZ0.out]; rfl
  rw [el3] at P4 ⊢
  have x10 : w3.cell? ⟨s, 10, none⟩ = some (.int .i64 p.id) := C3.out 10 _ rfl
  clear g3 b3 P3 B2 C2 L2 el3
  go_wp2_with fail
  clear x10
  refine P4.out.mono ?_
  rintro _ w4 ⟨v4, rfl, g4, b4⟩
  have B4 : Hid (Below w.heap.size w w4) := B3.out.trans (b4.mono B3.out.size)
  have C4 := hide (C3.out.later L3 b4)
  have L4 : s < w4.heap.size := Nat.lt_of_lt_of_le L3 b4.size
  obtain ⟨a4, e4, rfl, _⟩ := g4.isB.shape
  obtain ⟨pl0, hpl⟩ : ∃ pl0, pl0 = pl p := ⟨_, rfl⟩
  obtain ⟨q0, q1, _⟩ := pl_parts k9 k10 (mb_true HM.out).2.2.2.2.2
  rw [← hpl] at q0 q1
  have P5 := hide (rPut2_any _ _ pl0 w4 g4.isB (by rw [HZ0.out]; simp [put16]) q0 (by omega))
  have el4 : (Z0 ++ put16 sz ++ put16 p.id).length = 6 := by rw [HZ0.out]; rfl
  rw [el4] at P5 ⊢
  have HPL := hide hpl
  clear g4 b4 P4 B3 C3 L3 el4 hpl
  have x14 : w4.cell? ⟨s, 14, none⟩ = some (.int .i64 p.off) := C4.out 14 _ rfl
  have x12 : w4.cell? ⟨s, 12, none⟩ = some (.bool p.whole) := C4.out 12 _ rfl
  have x13 : w4.cell? ⟨s, 13, none⟩ = some (.bool p.more) := C4.out 13 _ rfl
  cases hw : p.whole <;> cases hmo : p.more
  · rw [hw] at x12
    rw [hmo] at x13
    have E : Hid (pl0 = p.off / 8) := by unfold Hid; rw [HPL.out]; unfold pl; rw [hw, hmo]; simp
    rw [E.out] at P5
    clear hw hmo
    go_wp2_with fail
    clear x14 x12 x13
    refine P5.out.mono ?_
    rintro _ w5 ⟨v5, rfl, g5, b5⟩
    rw [← E.out] at g5
    have B5 : Hid (Below w.heap.size w w5) := B4.out.trans (b5.mono B4.out.size)
    have C5 := C4.out.later L4 b5
    have L5 : s < w5.heap.size := Nat.lt_of_lt_of_le L4 b5.size
    obtain ⟨a5, e5, rfl, _⟩ := g5.isB.shape
    have el5 : (Z0 ++ put16 sz ++ put16 p.id ++ put16 pl0).length = 8 := by rw [HZ0.out]; rfl
    rw [el5] at g5 ⊢
    have x9 : w5.cell? ⟨s, 9, none⟩ = some (.int .i64 p.ttl) := C5 9 _ rfl
    have x8 : w5.cell? ⟨s, 8, none⟩ = some (.int .i64 p.proto) := C5 8 _ rfl
    have u9 : IntKind.u8.wrap p.ttl = p.ttl := by rw [IntKind.wrap_u8]; omega
    have u8 : IntKind.u8.wrap p.proto = p.proto := by rw [IntKind.wrap_u8]; omega
    obtain ⟨s6, hs6⟩ : ∃ s6, s6 = w5.heap.size := ⟨_, rfl⟩
    obtain ⟨w6, hw6⟩ : ∃ w6, w6 = w5.alloc (.cells #[.int .u8 p.ttl, .int .u8 p.proto] 5) := ⟨_, rfl⟩
    have b6 : Below w5.heap.size w5 w6 := by rw [hw6]; exact later_alloc _ _
    have i6 : IsB w6.heap.size w6 (.slice (some ⟨s6, 0, none⟩) 2 2) [p.ttl, p.proto] := by rw [hw6, World.size_alloc, hs6]; exact IsB_new [p.ttl, p.proto] (by omega)
    have G6 := hide (g5.later b6)
    have I6 := hide i6
    have B46 : Hid (Below w4.heap.size w4 w6) := b5.trans (b6.mono b5.size)
    obtain ⟨H10, hH10⟩ : ∃ H10, Z0 ++ put16 sz ++ put16 p.id ++ put16 pl0 ++ [p.ttl, p.proto] = H10 := ⟨_, rfl⟩
    have HH10 := hide hH10
    have EH : Hid (H10 = ahd p sz) := by
      unfold Hid
      rw [← hH10, HZ0.out, HPL.out, HN.out]
      rfl
    have el10 : Hid (H10.length = 10) := by unfold Hid; rw [← hH10, HZ0.out]; rfl
    have zl : Hid ((Z0 ++ put16 sz ++ put16 p.id ++ put16 pl0).length + ([p.ttl, p.proto] : List Int).length ≤ 140737488355328) := by unfold Hid; rw [el5]; simp
    have hs6' := hs6.symm
    have hw6' := hw6.symm
    clear hs6 hw6 b6 i6 g5 b5 C5 L5 B5 P5 el5 hH10 E
    go_wp2_with (at_builtin; refine wpList_growB rfl (.tmp 43) (.tmp 50) rfl rfl w4.heap.size (.slice a5 8 e5) _ _ [p.ttl, p.proto] rfl rfl G6.out I6.out B46.out.size zl.out H10 HH10.out ?_)
    intro a7 e7 w7 _ g7 b7
    rw [el10.out] at g7 ⊢
    have B47 : Hid (Below w4.heap.size w4 w7) := B46.out.trans b7
    have B7 : Hid (Below w.heap.size w w7) := B4.out.trans (B47.out.mono B4.out.size)
    have C7 := hide (C4.out.later L4 B47.out)
    have L7 : s < w7.heap.size := Nat.lt_of_lt_of_le L4 B47.out.size
    have P8 := hide (rPut2_any (.slice a7 10 e7) H10 c w7 g7.isB (by rw [el10.out]; decide) c0 c1)
    clear g7 b7 B46 B47 C4 L4 B4 G6 I6 hs6' hw6' x8 x9 u8 u9 zl HH10
    go_wp2_with fail
    refine P8.out.mono ?_
    rintro _ w8 ⟨v8, rfl, g8, b8⟩
    have B8 : Hid (Below w.heap.size w w8) := B7.out.trans (b8.mono B7.out.size)
    have C8 := hide (C7.out.later L7 b8)
    have L8 : s < w8.heap.size := Nat.lt_of_lt_of_le L7 b8.size
    obtain ⟨a8, e8, rfl, _⟩ := g8.isB.shape
    have el12 : (H10 ++ put16 c).length = 12 := by rw [List.length_append, el10.out]; rfl
    rw [el12] at g8 ⊢
    have R9 := hide (rip_any (.slice a8 12 e8) (H10 ++ put16 c) p.src w7.heap.size w8 b8.size g8 (by rw [el12]; decide))
    have S8 := hide (pk_ips C8.out)
    have B78 := hide b8
    have B7' := hide B7.out
    clear g8 b8 P8 B7 C8
    go_wp2_with (refine wpList_loadA rfl 35 4 aggI sizI _ rfl s 0 rfl p.src.vals rfl S8.out.1 ?_)
    refine R9.out.mono ?_
    rintro _ w9 ⟨v9, rfl, g9, b9⟩
    have B79 : Hid (Below w7.heap.size w7 w9) := B78.out.trans b9
    have S9 := hide (pk_ips (C7.out.later L7 B79.out))
    obtain ⟨a9, e9, rfl, _⟩ := g9.isB.shape
    have el16 : (H10 ++ put16 c ++ ipL p.src).length = 16 := by rw [List.length_append, el12]; rfl
    rw [el16] at g9 ⊢
    have R10 := hide (rip_any (.slice a9 16 e9) (H10 ++ put16 c ++ ipL p.src) p.dst w7.heap.size w9 B79.out.size g9 (by rw [el16]; decide))
    clear g9 b9 R9 S8 B78 B8
    go_wp2_with (refine wpList_loadA rfl 35 4 aggI sizI _ rfl s 4 rfl p.dst.vals rfl S9.out.2 ?_)
    refine R10.out.mono ?_
    rintro _ wa ⟨va, rfl, ga, ba⟩
    have B7a : Hid (Below w7.heap.size w7 wa) := B79.out.trans ba
    have Ba : Hid (Below w.heap.size w wa) := B7'.out.trans (B7a.out.mono B7'.out.size)
    obtain ⟨aa, ea, rfl, _⟩ := ga.isB.shape
    have el20 : (H10 ++ put16 c ++ ipL p.src ++ ipL p.dst).length = 20 := by rw [List.length_append, el16]; rfl
    rw [el20] at ga ⊢
    have GA := hide ga
    have xf : wa.cell? ⟨s, 15, none⟩ = some (.slice ao n co) := (C7.out.later L7 B7a.out) 15 _ rfl
    have IO := hide (HOV.out.later Ba.out)
    obtain ⟨HS, hHS⟩ : ∃ HS, H10 ++ put16 c ++ ipL p.src ++ ipL p.dst ++ p.opts = HS := ⟨_, rfl⟩
    have HHS := hide hHS
    have EHS : Hid (HS = hdS p sz c) := by
      unfold Hid hdS
      rw [← hHS, EH.out]
      simp [bhd]
    have zl2 : Hid ((H10 ++ put16 c ++ ipL p.src ++ ipL p.dst).length + p.opts.length ≤ 140737488355328) := by unfold Hid; rw [el20, ← HN.out]; omega
    have Z7 : Hid (w7.heap.size ≤ wa.heap.size) := B7a.out.size
    clear ga ba R10 S9 B79 hHS el12 el16 el20 C7
    go_wp2_with (at_builtin; refine wpList_growB rfl (.tmp 63) (.tmp 65) rfl rfl w7.heap.size (.slice aa 20 ea) _ _ p.opts rfl rfl GA.out IO.out Z7.out zl2.out HS HHS.out ?_)
    intro ab eb wb _ gb bb
    have Gb : Hid (Gro w.heap.size wb (.slice ab HS.length eb) (hdS p sz c)) := by
      unfold Hid
      have := gb.low B7'.out.size
      rw [EHS.out] at this ⊢
      exact this
    have Bb : Hid (Below w.heap.size w wb) := Ba.out.trans (bb.mono (Nat.le_trans B7'.out.size (Nat.le_refl _)))
    clear gb bb GA IO
    go_wp2
    go_ret
    exact ⟨_, rfl, Gb.out, Bb.out⟩
  · rw [hw] at x12
    rw [hmo] at x13
    have E : Hid (pl0 = p.off / 8 + 8192) := by unfold Hid; rw [HPL.out]; unfold pl; rw [hw, hmo]; simp
    rw [E.out] at P5
    clear hw hmo
    go_wp2_with fail
    clear x14 x12 x13
    refine P5.out.mono ?_
    rintro _ w5 ⟨v5, rfl, g5, b5⟩
    rw [← E.out] at g5
    have B5 : Hid (Below w.heap.size w w5) := B4.out.trans (b5.mono B4.out.size)
    have C5 := C4.out.later L4 b5
    have L5 : s < w5.heap.size := Nat.lt_of_lt_of_le L4 b5.size
    obtain ⟨a5, e5, rfl, _⟩ := g5.isB.shape
    have el5 : (Z0 ++ put16 sz ++ put16 p.id ++ put16 pl0).length = 8 := by rw [HZ0.out]; rfl
    rw [el5] at g5 ⊢
    have x9 : w5.cell? ⟨s, 9, none⟩ = some (.int .i64 p.ttl) := C5 9 _ rfl
    have x8 : w5.cell? ⟨s, 8, none⟩ = some (.int .i64 p.proto) := C5 8 _ rfl
    have u9 : IntKind.u8.wrap p.ttl = p.ttl := by rw [IntKind.wrap_u8]; omega
    have u8 : IntKind.u8.wrap p.proto = p.proto := by rw [IntKind.wrap_u8]; omega
    obtain ⟨s6, hs6⟩ : ∃ s6, s6 = w5.heap.size := ⟨_, rfl⟩
    obtain ⟨w6, hw6⟩ : ∃ w6, w6 = w5.alloc (.cells #[.int .u8 p.ttl, .int .u8 p.proto] 5) := ⟨_, rfl⟩
    have b6 : Below w5.heap.size w5 w6 := by rw [hw6]; exact later_alloc _ _
    have i6 : IsB w6.heap.size w6 (.slice (some ⟨s6, 0, none⟩) 2 2) [p.ttl, p.proto] := by rw [hw6, World.size_alloc, hs6]; exact IsB_new [p.ttl, p.proto] (by omega)
    have G6 := hide (g5.later b6)
    have I6 := hide i6
    have B46 : Hid (Below w4.heap.size w4 w6) := b5.trans (b6.mono b5.size)
    obtain ⟨H10, hH10⟩ : ∃ H10, Z0 ++ put16 sz ++ put16 p.id ++ put16 pl0 ++ [p.ttl, p.proto] = H10 := ⟨_, rfl⟩
    have HH10 := hide hH10
    have EH : Hid (H10 = ahd p sz) := by
      unfold Hid
      rw [← hH10, HZ0.out, HPL.out, HN.out]
      rfl
    have el10 : Hid (H10.length = 10) := by unfold Hid; rw [← hH10, HZ0.out]; rfl
    have zl : Hid ((Z0 ++ put16 sz ++ put16 p.id ++ put16 pl0).length + ([p.ttl, p.proto] : List Int).length ≤ 140737488355328) := by unfold Hid; rw [el5]; simp
    have hs6' := hs6.symm
    have hw6' := hw6.symm
    clear hs6 hw6 b6 i6 g5 b5 C5 L5 B5 P5 el5 hH10 E
    go_wp2_with (at_builtin; refine wpList_growB rfl (.tmp 43) (.tmp 50) rfl rfl w4.heap.size (.slice a5 8 e5) _ _ [p.ttl, p.proto] rfl rfl G6.out I6.out B46.out.size zl.out H10 HH10.out ?_)
    intro a7 e7 w7 _ g7 b7
    rw [el10.out] at g7 ⊢
    have B47 : Hid (Below w4.heap.size w4 w7) := B46.out.trans b7
    have B7 : Hid (Below w.heap.size w w7) := B4.out.trans (B47.out.mono B4.out.size)
    have C7 := hide (C4.out.later L4 B47.out)
    have L7 : s < w7.heap.size := Nat.lt_of_lt_of_le L4 B47.out.size
    have P8 := hide (rPut2_any (.slice a7 10 e7) H10 c w7 g7.isB (by rw [el10.out]; decide) c0 c1)
    clear g7 b7 B46 B47 C4 L4 B4 G6 I6 hs6' hw6' x8 x9 u8 u9 zl HH10
    go_wp2_with fail
    refine P8.out.mono ?_
    rintro _ w8 ⟨v8, rfl, g8, b8⟩
    have B8 : Hid (Below w.heap.size w w8) := B7.out.trans (b8.mono B7.out.size)
    have C8 := hide (C7.out.later L7 b8)
    have L8 : s < w8.heap.size := Nat.lt_of_lt_of_le L7 b8.size
    obtain ⟨a8, e8, rfl, _⟩ := g8.isB.shape
    have el12 : (H10 ++ put16 c).length = 12 := by rw [List.length_append, el10.out]; rfl
    rw [el12] at g8 ⊢
    have R9 := hide (rip_any (.slice a8 12 e8) (H10 ++ put16 c) p.src w7.heap.size w8 b8.size g8 (by rw [el12]; decide))
    have S8 := hide (pk_ips C8.out)
    have B78 := hide b8
    have B7' := hide B7.out
    clear g8 b8 P8 B7 C8
    go_wp2_with (refine wpList_loadA rfl 35 4 aggI sizI _ rfl s 0 rfl p.src.vals rfl S8.out.1 ?_)
    refine R9.out.mono ?_
    rintro _ w9 ⟨v9, rfl, g9, b9⟩
    have B79 : Hid (Below w7.heap.size w7 w9) := B78.out.trans b9
    have S9 := hide (pk_ips (C7.out.later L7 B79.out))
    obtain ⟨a9, e9, rfl, _⟩ := g9.isB.shape
    have el16 : (H10 ++ put16 c ++ ipL p.src).length = 16 := by rw [List.length_append, el12]; rfl
    rw [el16] at g9 ⊢
    have R10 := hide (rip_any (.slice a9 16 e9) (H10 ++ put16 c ++ ipL p.src) p.dst w7.heap.size w9 B79.out.size g9 (by rw [el16]; decide))
    clear g9 b9 R9 S8 B78 B8
    go_wp2_with (refine wpList_loadA rfl 35 4 aggI sizI _ rfl s 4 rfl p.dst.vals rfl S9.out.2 ?_)
    refine R10.out.mono ?_
    rintro _ wa ⟨va, rfl, ga, ba⟩
    have B7a : Hid (Below w7.heap.size w7 wa) := B79.out.trans ba
    have Ba : Hid (Below w.heap.size w wa) := B7'.out.trans (B7a.out.mono B7'.out.size)
    obtain ⟨aa, ea, rfl, _⟩ := ga.isB.shape
    have el20 : (H10 ++ put16 c ++ ipL p.src ++ ipL p.dst).length = 20 := by rw [List.length_append, el16]; rfl
    rw [el20] at ga ⊢
    have GA := hide ga
    have xf : wa.cell? ⟨s, 15, none⟩ = some (.slice ao n co) := (C7.out.later L7 B7a.out) 15 _ rfl
    have IO := hide (HOV.out.later Ba.out)
    obtain ⟨HS, hHS⟩ : ∃ HS, H10 ++ put16 c ++ ipL p.src ++ ipL p.dst ++ p.opts = HS := ⟨_, rfl⟩
    have HHS := hide hHS
    have EHS : Hid (HS = hdS p sz c) := by
      unfold Hid hdS
      rw [← hHS, EH.out]
      simp [bhd]
    have zl2 : Hid ((H10 ++ put16 c ++ ipL p.src ++ ipL p.dst).length + p.opts.length ≤ 140737488355328) := by unfold Hid; rw [el20, ← HN.out]; omega
    have Z7 : Hid (w7.heap.size ≤ wa.heap.size) := B7a.out.size
    clear ga ba R10 S9 B79 hHS el12 el16 el20 C7
    go_wp2_with (at_builtin; refine wpList_growB rfl (.tmp 63) (.tmp 65) rfl rfl w7.heap.size (.slice aa 20 ea) _ _ p.opts rfl rfl GA.out IO.out Z7.out zl2.out HS HHS.out ?_)
    intro ab eb wb _ gb bb
    have Gb : Hid (Gro w.heap.size wb (.slice ab HS.length eb) (hdS p sz c)) := by
      unfold Hid
      have := gb.low B7'.out.size
      rw [EHS.out] at this ⊢
      exact this
    have Bb : Hid (Below w.heap.size w wb) := Ba.out.trans (bb.mono (Nat.le_trans B7'.out.size (Nat.le_refl _)))
    clear gb bb GA IO
    go_wp2
    go_ret
    exact ⟨_, rfl, Gb.out, Bb.out⟩
  · rw [hw] at x12
    rw [hmo] at x13
    have E : Hid (pl0 = p.off / 8 + 16384) := by unfold Hid; rw [HPL.out]; unfold pl; rw [hw, hmo]; simp
    rw [E.out] at P5
    clear hw hmo
    go_wp2_with fail
    clear x14 x12 x13
    refine P5.out.mono ?_
    rintro _ w5 ⟨v5, rfl, g5, b5⟩
    rw [← E.out] at g5
    have B5 : Hid (Below w.heap.size w w5) := B4.out.trans (b5.mono B4.out.size)
    have C5 := C4.out.later L4 b5
    have L5 : s < w5.heap.size := Nat.lt_of_lt_of_le L4 b5.size
    obtain ⟨a5, e5, rfl, _⟩ := g5.isB.shape
    have el5 : (Z0 ++ put16 sz ++ put16 p.id ++ put16 pl0).length = 8 := by rw [HZ0.out]; rfl
    rw [el5] at g5 ⊢
    have x9 : w5.cell? ⟨s, 9, none⟩ = some (.int .i64 p.ttl) := C5 9 _ rfl
    have x8 : w5.cell? ⟨s, 8, none⟩ = some (.int .i64 p.proto) := C5 8 _ rfl
    have u9 : IntKind.u8.wrap p.ttl = p.ttl := by rw [IntKind.wrap_u8]; omega
    have u8 : IntKind.u8.wrap p.proto = p.proto := by rw [IntKind.wrap_u8]; omega
    obtain ⟨s6, hs6⟩ : ∃ s6, s6 = w5.heap.size := ⟨_, rfl⟩
    obtain ⟨w6, hw6⟩ : ∃ w6, w6 = w5.alloc (.cells #[.int .u8 p.ttl, .int .u8 p.proto] 5) := ⟨_, rfl⟩
    have b6 : Below w5.heap.size w5 w6 := by rw [hw6]; exact later_alloc _ _
    have i6 : IsB w6.heap.size w6 (.slice (some ⟨s6, 0, none⟩) 2 2) [p.ttl, p.proto] := by rw [hw6, World.size_alloc, hs6]; exact IsB_new [p.ttl, p.proto] (by omega)
    have G6 := hide (g5.later b6)
    have I6 := hide i6
    have B46 : Hid (Below w4.heap.size w4 w6) := b5.trans (b6.mono b5.size)
    obtain ⟨H10, hH10⟩ : ∃ H10, Z0 ++ put16 sz ++ put16 p.id ++ put16 pl0 ++ [p.ttl, p.proto] = H10 := ⟨_, rfl⟩
    have HH10 := hide hH10
    have EH : Hid (H10 = ahd p sz) := by
      unfold Hid
      rw [← hH10, HZ0.out, HPL.out, HN.out]
      rfl
    have el10 : Hid (H10.length = 10) := by unfold Hid; rw [← hH10, HZ0.out]; rfl
    have zl : Hid ((Z0 ++ put16 sz ++ put16 p.id ++ put16 pl0).length + ([p.ttl, p.proto] : List Int).length ≤ 140737488355328) := by unfold Hid; rw [el5]; simp
    have hs6' := hs6.symm
    have hw6' := hw6.symm
    clear hs6 hw6 b6 i6 g5 b5 C5 L5 B5 P5 el5 hH10 E
    go_wp2_with (at_builtin; refine wpList_growB rfl (.tmp 43) (.tmp 50) rfl rfl w4.heap.size (.slice a5 8 e5) _ _ [p.ttl, p.proto] rfl rfl G6.out I6.out B46.out.size zl.out H10 HH10.out ?_)
    intro a7 e7 w7 _ g7 b7
    rw [el10.out] at g7 ⊢
    have B47 : Hid (Below w4.heap.size w4 w7) := B46.out.trans b7
    have B7 : Hid (Below w.heap.size w w7) := B4.out.trans (B47.out.mono B4.out.size)
    have C7 := hide (C4.out.later L4 B47.out)
    have L7 : s < w7.heap.size := Nat.lt_of_lt_of_le L4 B47.out.size
    have P8 := hide (rPut2_any (.slice a7 10 e7) H10 c w7 g7.isB (by rw [el10.out]; decide) c0 c1)
    clear g7 b7 B46 B47 C4 L4 B4 G6 I6 hs6' hw6' x8 x9 u8 u9 zl HH10
    go_wp2_with fail
    refine P8.out.mono ?_
    rintro _ w8 ⟨v8, rfl, g8, b8⟩
    have B8 : Hid (Below w.heap.size w w8) := B7.out.trans (b8.mono B7.out.size)
    have C8 := hide (C7.out.later L7 b8)
    have L8 : s < w8.heap.size := Nat.lt_of_lt_of_le L7 b8.size
    obtain ⟨a8, e8, rfl, _⟩ := g8.isB.shape
    have el12 : (H10 ++ put16 c).length = 12 := by rw [List.length_append, el10.out]; rfl
    rw [el12] at g8 ⊢
    have R9 := hide (rip_any (.slice a8 12 e8) (H10 ++ put16 c) p.src w7.heap.size w8 b8.size g8 (by rw [el12]; decide))
    have S8 := hide (pk_ips C8.out)
    have B78 := hide b8
    have B7' := hide B7.out
    clear g8 b8 P8 B7 C8
    go_wp2_with (refine wpList_loadA rfl 35 4 aggI sizI _ rfl s 0 rfl p.src.vals rfl S8.out.1 ?_)
    refine R9.out.mono ?_
    rintro _ w9 ⟨v9, rfl, g9, b9⟩
    have B79 : Hid (Below w7.heap.size w7 w9) := B78.out.trans b9
    have S9 := hide (pk_ips (C7.out.later L7 B79.out))
    obtain ⟨a9, e9, rfl, _⟩ := g9.isB.shape
    have el16 : (H10 ++ put16 c ++ ipL p.src).length = 16 := by rw [List.length_append, el12]; rfl
    rw [el16] at g9 ⊢
    have R10 := hide (rip_any (.slice a9 16 e9) (H10 ++ put16 c ++ ipL p.src) p.dst w7.heap.size w9 B79.out.size g9 (by rw [el16]; decide))
    clear g9 b9 R9 S8 B78 B8
    go_wp2_with (refine wpList_loadA rfl 35 4 aggI sizI _ rfl s 4 rfl p.dst.vals rfl S9.out.2 ?_)
    refine R10.out.mono ?_
    rintro _ wa ⟨va, rfl, ga, ba⟩
    have B7a : Hid (Below w7.heap.size w7 wa) := B79.out.trans ba
    have Ba : Hid (Below w.heap.size w wa) := B7'.out.trans (B7a.out.mono B7'.out.size)
    obtain ⟨aa, ea, rfl, _⟩ := ga.isB.shape
    have el20 : (H10 ++ put16 c ++ ipL p.src ++ ipL p.dst).length = 20 := by rw [List.length_append, el16]; rfl
    rw [el20] at ga ⊢
    have GA := hide ga
    have xf : wa.cell? ⟨s, 15, none⟩ = some (.slice ao n co) := (C7.out.later L7 B7a.out) 15 _ rfl
    have IO := hide (HOV.out.later Ba.out)
    obtain ⟨HS, hHS⟩ : ∃ HS, H10 ++ put16 c ++ ipL p.src ++ ipL p.dst ++ p.opts = HS := ⟨_, rfl⟩
    have HHS := hide hHS
    have EHS : Hid (HS = hdS p sz c) := by
      unfold Hid hdS
      rw [← hHS, EH.out]
      simp [bhd]
    have zl2 : Hid ((H10 ++ put16 c ++ ipL p.src ++ ipL p.dst).length + p.opts.length ≤ 140737488355328) := by unfold Hid; rw [el20, ← HN.out]; omega
    have Z7 : Hid (w7.heap.size ≤ wa.heap.size) := B7a.out.size
    clear ga ba R10 S9 B79 hHS el12 el16 el20 C7
    go_wp2_with (at_builtin; refine wpList_growB rfl (.tmp 63) (.tmp 65) rfl rfl w7.heap.size (.slice aa 20 ea) _ _ p.opts rfl rfl GA.out IO.out Z7.out zl2.out HS HHS.out ?_)
    intro ab eb wb _ gb bb
    have Gb : Hid (Gro w.heap.size wb (.slice ab HS.length eb) (hdS p sz c)) := by
      unfold Hid
      have := gb.low B7'.out.size
      rw [EHS.out] at this ⊢
      exact this
    have Bb : Hid (Below w.heap.size w wb) := Ba.out.trans (bb.mono (Nat.le_trans B7'.out.size (Nat.le_refl _)))
    clear gb bb GA IO
    go_wp2
    go_ret
    exact ⟨_, rfl, Gb.out, Bb.out⟩
  · rw [hw] at x12
    rw [hmo] at x13
    have E : Hid (pl0 = p.off / 8 + 16384 + 8192) := by unfold Hid; rw [HPL.out]; unfold pl; rw [hw, hmo]; simp
    rw [E.out] at P5
    clear hw hmo
    go_wp2_with fail
    clear x14 x12 x13
    refine P5.out.mono ?_
    rintro _ w5 ⟨v5, rfl, g5, b5⟩
    rw [← E.out] at g5
    have B5 : Hid (Below w.heap.size w w5) := B4.out.trans (b5.mono B4.out.size)
    have C5 := C4.out.later L4 b5
    have L5 : s < w5.heap.size := Nat.lt_of_lt_of_le L4 b5.size
    obtain ⟨a5, e5, rfl, _⟩ := g5.isB.shape
    have el5 : (Z0 ++ put16 sz ++ put16 p.id ++ put16 pl0).length = 8 := by rw [HZ0.out]; rfl
    rw [el5] at g5 ⊢
    have x9 : w5.cell? ⟨s, 9, none⟩ = some (.int .i64 p.ttl) := C5 9 _ rfl
    have x8 : w5.cell? ⟨s, 8, none⟩ = some (.int .i64 p.proto) := C5 8 _ rfl
    have u9 : IntKind.u8.wrap p.ttl = p.ttl := by rw [IntKind.wrap_u8]; omega
    have u8 : IntKind.u8.wrap p.proto = p.proto := by rw [IntKind.wrap_u8]; omega
    obtain ⟨s6, hs6⟩ : ∃ s6, s6 = w5.heap.size := ⟨_, rfl⟩
    obtain ⟨w6, hw6⟩ : ∃ w6, w6 = w5.alloc (.cells #[.int .u8 p.ttl, .int .u8 p.proto] 5) := ⟨_, rfl⟩
    have b6 : Below w5.heap.size w5 w6 := by rw [hw6]; exact later_alloc _ _
    have i6 : IsB w6.heap.size w6 (.slice (some ⟨s6, 0, none⟩) 2 2) [p.ttl, p.proto] := by rw [hw6, World.size_alloc, hs6]; exact IsB_new [p.ttl, p.proto] (by omega)
    have G6 := hide (g5.later b6)
    have I6 := hide i6
    have B46 : Hid (Below w4.heap.size w4 w6) := b5.trans (b6.mono b5.size)
    obtain ⟨H10, hH10⟩ : ∃ H10, Z0 ++ put16 sz ++ put16 p.id ++ put16 pl0 ++ [p.ttl, p.proto] = H10 := ⟨_, rfl⟩
    have HH10 := hide hH10
    have EH : Hid (H10 = ahd p sz) := by
      unfold Hid
      rw [← hH10, HZ0.out, HPL.out, HN.out]
      rfl
    have el10 : Hid (H10.length = 10) := by unfold Hid; rw [← hH10, HZ0.out]; rfl
    have zl : Hid ((Z0 ++ put16 sz ++ put16 p.id ++ put16 pl0).length + ([p.ttl, p.proto] : List Int).length ≤ 140737488355328) := by unfold Hid; rw [el5]; simp
    have hs6' := hs6.symm
    have hw6' := hw6.symm
    clear hs6 hw6 b6 i6 g5 b5 C5 L5 B5 P5 el5 hH10 E
    go_wp2_with (at_builtin; refine wpList_growB rfl (.tmp 43) (.tmp 50) rfl rfl w4.heap.size (.slice a5 8 e5) _ _ [p.ttl, p.proto] rfl rfl G6.out I6.out B46.out.size zl.out H10 HH10.out ?_)
    intro a7 e7 w7 _ g7 b7
    rw [el10.out] at g7 ⊢
    have B47 : Hid (Below w4.heap.size w4 w7) := B46.out.trans b7
    have B7 : Hid (Below w.heap.size w w7) := B4.out.trans (B47.out.mono B4.out.size)
    have C7 := hide (C4.out.later L4 B47.out)
    have L7 : s < w7.heap.size := Nat.lt_of_lt_of_le L4 B47.out.size
    have P8 := hide (rPut2_any (.slice a7 10 e7) H10 c w7 g7.isB (by rw [el10.out]; decide) c0 c1)
    clear g7 b7 B46 B47 C4 L4 B4 G6 I6 hs6' hw6' x8 x9 u8 u9 zl HH10
    go_wp2_with fail
    refine P8.out.mono ?_
    rintro _ w8 ⟨v8, rfl, g8, b8⟩
    have B8 : Hid (Below w.heap.size w w8) := B7.out.trans (b8.mono B7.out.size)
    have C8 := hide (C7.out.later L7 b8)
    have L8 : s < w8.heap.size := Nat.lt_of_lt_of_le L7 b8.size
    obtain ⟨a8, e8, rfl, _⟩ := g8.isB.shape
    have el12 : (H10 ++ put16 c).length = 12 := by rw [List.length_append, el10.out]; rfl
    rw [el12] at g8 ⊢
    have R9 := hide (rip_any (.slice a8 12 e8) (H10 ++ put16 c) p.src w7.heap.size w8 b8.size g8 (by rw [el12]; decide))
    have S8 := hide (pk_ips C8.out)
    have B78 := hide b8
    have B7' := hide B7.out
    clear g8 b8 P8 B7 C8
    go_wp2_with (refine wpList_loadA rfl 35 4 aggI sizI _ rfl s 0 rfl p.src.vals rfl S8.out.1 ?_)
    refine R9.out.mono ?_
    rintro _ w9 ⟨v9, rfl, g9, b9⟩
    have B79 : Hid (Below w7.heap.size w7 w9) := B78.out.trans b9
    have S9 := hide (pk_ips (C7.out.later L7 B79.out))
    obtain ⟨a9, e9, rfl, _⟩ := g9.isB.shape
    have el16 : (H10 ++ put16 c ++ ipL p.src).length = 16 := by rw [List.length_append, el12]; rfl
    rw [el16] at g9 ⊢
    have R10 := hide (rip_any (.slice a9 16 e9) (H10 ++ put16 c ++ ipL p.src) p.dst w7.heap.size w9 B79.out.size g9 (by rw [el16]; decide))
    clear g9 b9 R9 S8 B78 B8
    go_wp2_with (refine wpList_loadA rfl 35 4 aggI sizI _ rfl s 4 rfl p.dst.vals rfl S9.out.2 ?_)
    refine R10.out.mono ?_
    rintro _ wa ⟨va, rfl, ga, ba⟩
    have B7a : Hid (Below w7.heap.size w7 wa) := B79.out.trans ba
    have Ba : Hid (Below w.heap.size w wa) := B7'.out.trans (B7a.out.mono B7'.out.size)
    obtain ⟨aa, ea, rfl, _⟩ := ga.isB.shape
    have el20 : (H10 ++ put16 c ++ ipL p.src ++ ipL p.dst).length = 20 := by rw [List.length_append, el16]; rfl
    rw [el20] at ga ⊢
    have GA := hide ga
    have xf : wa.cell? ⟨s, 15, none⟩ = some (.slice ao n co) := (C7.out.later L7 B7a.out) 15 _ rfl
    have IO := hide (HOV.out.later Ba.out)
    obtain ⟨HS, hHS⟩ : ∃ HS, H10 ++ put16 c ++ ipL p.src ++ ipL p.dst ++ p.opts = HS := ⟨_, rfl⟩
    have HHS := hide hHS
    have EHS : Hid (HS = hdS p sz c) := by
      unfold Hid hdS
      rw [← hHS, EH.out]
      simp [bhd]
    have zl2 : Hid ((H10 ++ put16 c ++ ipL p.src ++ ipL p.dst).length + p.opts.length ≤ 140737488355328) := by unfold Hid; rw [el20, ← HN.out]; omega
    have Z7 : Hid (w7.heap.size ≤ wa.heap.size) := B7a.out.size
    clear ga ba R10 S9 B79 hHS el12 el16 el20 C7
    go_wp2_with (at_builtin; refine wpList_growB rfl (.tmp 63) (.tmp 65) rfl rfl w7.heap.size (.slice aa 20 ea) _ _ p.opts rfl rfl GA.out IO.out Z7.out zl2.out HS HHS.out ?_)
    intro ab eb wb _ gb bb
    have Gb : Hid (Gro w.heap.size wb (.slice ab HS.length eb) (hdS p sz c)) := by
      unfold Hid
      have := gb.low B7'.out.size
      rw [EHS.out] at this ⊢
      exact this
    have Bb : Hid (Below w.heap.size w wb) := Ba.out.trans (bb.mono (Nat.le_trans B7'.out.size (Nat.le_refl _)))
    clear gb bb GA IO
    go_wp2
    go_ret
    exact ⟨_, rfl, Gb.out, Bb.out⟩
set_option maxRecDepth 100000 in
set_option maxHeartbeats 16000000 in
theorem rEncode_any (p : Pk) (ov bv : Value) (b : List Int) (w : World) (hov : IsB w.heap.size w ov p.opts) (hbv : IsB w.heap.size w bv b) (hs : p.src.Ok) (hd : p.dst.Ok) (ho : Bytes p.opts) (hlo : (p.opts.length : Int) ≤ 4611686018427380000) (hlb : (b.length : Int) ≤ 4611686018427380000) :
    Calls Try.prog 30 #[.agg (p.cells ov).toArray, bv] w (EnE w.heap.size w p b) := by
  obtain ⟨ao, co, rfl, _⟩ := hov.shape
  obtain ⟨ab, cb, rfl, _⟩ := hbv.shape
  obtain ⟨n, hn⟩ : ∃ n, n = p.opts.length := ⟨_, rfl⟩
  obtain ⟨bl, hbl⟩ : ∃ bl, bl = b.length := ⟨_, rfl⟩
  obtain ⟨s, hs0⟩ : ∃ s, s = w.heap.size := ⟨_, rfl⟩
  rw [← hn] at hov hlo ⊢
  rw [← hbl] at hbv hlb ⊢
  obtain ⟨X, hX⟩ : ∃ X, X = p.cells (.slice ao n co) := ⟨_, rfl⟩
  have lX : X.length = 16 := by rw [hX]; rfl
  rw [← hX]
  obtain ⟨w1, hw1⟩ : ∃ w1, w1 = w.alloc (.cells X.toArray 70) := ⟨_, rfl⟩
  have b1 : Below w.heap.size w w1 := by rw [hw1]; exact later_alloc _ _
  have c1 : CellsAt w1 s 0 X := by rw [hw1, hs0]; exact CellsAt.new w X 70
  have l1 : s < w1.heap.size := by rw [hw1, hs0]; simp
  have HC1 := hide c1
  rw [hX] at c1
  have x8 : w1.cell? ⟨s, 8, none⟩ = some (.int .i64 p.proto) := c1 8 _ rfl
  have x9 : w1.cell? ⟨s, 9, none⟩ = some (.int .i64 p.ttl) := c1 9 _ rfl
  have x10 : w1.cell? ⟨s, 10, none⟩ = some (.int .i64 p.id) := c1 10 _ rfl
  have x11 : w1.cell? ⟨s, 11, none⟩ = some (.int .i64 p.tos) := c1 11 _ rfl
  have x14 : w1.cell? ⟨s, 14, none⟩ = some (.int .i64 p.off) := c1 14 _ rfl
  have x15 : w1.cell? ⟨s, 15, none⟩ = some (.slice ao n co) := c1 15 _ rfl
  have HX := hide hX
  have HB1 := hide b1
  have LX := hide lX
  have HOV := hide hov
  have HBV := hide hbv
  have HN := hide hn
  have HBL := hide hbl
  obtain ⟨E0, hE0⟩ : ∃ E0, E0 = enE p bl := ⟨_, rfl⟩
  have EE : Hid (E0 = if mb p = false then 1 else if opB p = false then 92 else if 65535 < 20 + n + bl then 2 else 0) := by unfold Hid; rw [hE0, hn]; rfl
  have POST : Hid (∀ e w', (Below w.heap.size w w' ∧ ((E0 = 0 ∧ ∃ v, e = .returned (.tuple #[v, .int .i64 0]) ∧ Gro w.heap.size w' v (enB p b)) ∨ (E0 ≠ 0 ∧ e = .returned (.tuple #[.slice none 0 0, .int .i64 E0])))) → EnE w.heap.size w p b e w') := fun e w' h => by
    unfold EnE
    rw [← hbl, ← hE0]
    exact h
  refine Calls.mono (R := fun e w' => Below w.heap.size w w' ∧ ((E0 = 0 ∧ ∃ v, e = .returned (.tuple #[v, .int .i64 0]) ∧ Gro w.heap.size w' v (enB p b)) ∨ (E0 ≠ 0 ∧ e = .returned (.tuple #[.slice none 0 0, .int .i64 E0])))) ?_ POST.out
  have MBF : Hid (mb p = false → E0 = 1) := fun h => by rw [EE.out, if_pos h]
  have MBT : Hid (¬ ((0 ≤ p.proto ∧ p.proto ≤ 255) ∧ (0 ≤ p.tos ∧ p.tos ≤ 255) ∧ (0 ≤ p.id ∧ p.id ≤ 65535) ∧ (1 ≤ p.ttl ∧ p.ttl ≤ 255) ∧ (0 ≤ p.off ∧ p.off ≤ 65528) ∧ p.off % 8 = 0) → E0 = 1) := fun h => MBF.out (by
    cases hm : mb p with
    | false => rfl
    | true => exact absurd (mb_true hm) h)
  clear hX b1 c1 lX hov hbv hn hbl hE0 POST MBF
  go_enter Try.func30, Try.ntmps30
  have hw1' := hw1.symm
  have hs' := hs0.symm
  clear hw1 hs0
  go_upto_region 1 with fail
  clear hw1' hs'
  by_cases k1 : p.proto < 0
  · have E1 : Hid (E0 = 1) := MBT.out (by omega)
    go_wp2
    refine bodyPost_ret (v := .tuple #[.slice none 0 0, .int .i64 1]) (by simp [results, go_sem]) rfl ?_
    exact ⟨HB1.out, .inr ⟨by rw [E1.out]; decide, by rw [E1.out]⟩⟩
  by_cases k2 : 255 < p.proto
  · have E1 : Hid (E0 = 1) := MBT.out (by omega)
    go_wp2
    refine bodyPost_ret (v := .tuple #[.slice none 0 0, .int .i64 1]) (by simp [results, go_sem]) rfl ?_
    exact ⟨HB1.out, .inr ⟨by rw [E1.out]; decide, by rw [E1.out]⟩⟩
  by_cases k3 : p.tos < 0
  · have E1 : Hid (E0 = 1) := MBT.out (by omega)
    go_wp2
    refine bodyPost_ret (v := .tuple #[.slice none 0 0, .int .i64 1]) (by simp [results, go_sem]) rfl ?_
    exact ⟨HB1.out, .inr ⟨by rw [E1.out]; decide, by rw [E1.out]⟩⟩
  by_cases k4 : 255 < p.tos
  · have E1 : Hid (E0 = 1) := MBT.out (by omega)
    go_wp2
    refine bodyPost_ret (v := .tuple #[.slice none 0 0, .int .i64 1]) (by simp [results, go_sem]) rfl ?_
    exact ⟨HB1.out, .inr ⟨by rw [E1.out]; decide, by rw [E1.out]⟩⟩
  by_cases k5 : p.id < 0
  · have E1 : Hid (E0 = 1) := MBT.out (by omega)
    go_wp2
    refine bodyPost_ret (v := .tuple #[.slice none 0 0, .int .i64 1]) (by simp [results, go_sem]) rfl ?_
    exact ⟨HB1.out, .inr ⟨by rw [E1.out]; decide, by rw [E1.out]⟩⟩
  by_cases k6 : 65535 < p.id
  · have E1 : Hid (E0 = 1) := MBT.out (by omega)
    go_wp2
    refine bodyPost_ret (v := .tuple #[.slice none 0 0, .int .i64 1]) (by simp [results, go_sem]) rfl ?_
    exact ⟨HB1.out, .inr ⟨by rw [E1.out]; decide, by rw [E1.out]⟩⟩
  by_cases k7 : p.ttl < 1
  · have E1 : Hid (E0 = 1) := MBT.out (by omega)
    go_wp2
    refine bodyPost_ret (v := .tuple #[.slice none 0 0, .int .i64 1]) (by simp [results, go_sem]) rfl ?_
    exact ⟨HB1.out, .inr ⟨by rw [E1.out]; decide, by rw [E1.out]⟩⟩
  by_cases k8 : 255 < p.ttl
  · have E1 : Hid (E0 = 1) := MBT.out (by omega)
    go_wp2
    refine bodyPost_ret (v := .tuple #[.slice none 0 0, .int .i64 1]) (by simp [results, go_sem]) rfl ?_
    exact ⟨HB1.out, .inr ⟨by rw [E1.out]; decide, by rw [E1.out]⟩⟩
  by_cases k9 : p.off < 0
  · have E1 : Hid (E0 = 1) := MBT.out (by omega)
    go_wp2
    refine bodyPost_ret (v := .tuple #[.slice none 0 0, .int .i64 1]) (by simp [results, go_sem]) rfl ?_
    exact ⟨HB1.out, .inr ⟨by rw [E1.out]; decide, by rw [E1.out]⟩⟩
  by_cases k10 : 65528 < p.off
  · have E1 : Hid (E0 = 1) := MBT.out (by omega)
    go_wp2
    refine bodyPost_ret (v := .tuple #[.slice none 0 0, .int .i64 1]) (by simp [results, go_sem]) rfl ?_
    exact ⟨HB1.out, .inr ⟨by rw [E1.out]; decide, by rw [E1.out]⟩⟩
  by_cases k11 : p.off % 8 = 0
  case neg =>
    have E1 : Hid (E0 = 1) := MBT.out (by omega)
    have q : (p.off.tmod 8 != 0) = true := by rw [Int.tmod_eq_emod_of_nonneg (by omega)]; simpa using k11
    have q' : (p.off % 8 != 0) = true := by simpa using k11
    clear k11
    go_wp2
    refine bodyPost_ret (v := .tuple #[.slice none 0 0, .int .i64 1]) (by simp [results, go_sem]) rfl ?_
    exact ⟨HB1.out, .inr ⟨by rw [E1.out]; decide, by rw [E1.out]⟩⟩
  have q : (p.off.tmod 8 != 0) = false := by rw [Int.tmod_eq_emod_of_nonneg (by omega), k11]; rfl
  have q' : (p.off % 8 != 0) = false := by rw [k11]; rfl
  have MB : Hid (mb p = true) := by
    unfold Hid
    simp only [mb, Bool.and_eq_true]
    exact ⟨decide_eq_true ⟨by omega, by omega⟩, decide_eq_true ⟨by omega, by omega⟩, decide_eq_true ⟨by omega, by omega⟩, decide_eq_true ⟨by omega, by omega⟩, decide_eq_true ⟨by omega, by omega⟩, decide_eq_true k11⟩
  have EE2 : Hid (E0 = if opB p = false then 92 else if 65535 < 20 + n + bl then 2 else 0) := by unfold Hid; rw [EE.out, if_neg (by rw [MB.out]; decide)]
  have OPB : Hid (opB p = (decide (n ≤ 40) && (decide (n % 4 = 0) && okO p.opts))) := by unfold Hid; rw [HN.out]; rfl
  have BADO : Hid (opB p = false → E0 = 92) := fun h => by rw [EE2.out, if_pos h]
  have RI := hide (rRight_any (.slice ao n co) p.opts w1 (HOV.out.later HB1.out) ho (by rw [← HN.out]; omega))
  obtain ⟨r, hr⟩ : ∃ r, r = okO p.opts := ⟨_, rfl⟩
  rw [← hr] at RI OPB
  clear hr k11 EE MBT
  go_wp2_with fail
  clear x8 x9 x10 x11 x14 q q'
  refine RI.out.mono ?_
  rintro _ w2 ⟨rfl, e2⟩
  rw [e2]
  clear e2 RI
  cases r with
  | false =>
    have E1 : Hid (E0 = 92) := BADO.out (by rw [OPB.out]; simp)
    go_wp2
    refine bodyPost_ret (v := .tuple #[.slice none 0 0, .int .i64 92]) (by simp [results, go_sem]) rfl ?_
    exact ⟨HB1.out, .inr ⟨by rw [E1.out]; decide, by rw [E1.out]⟩⟩
  | true =>
    by_cases h40 : (40 : Int) < (n : Int)
    · have E1 : Hid (E0 = 92) := BADO.out (by rw [OPB.out, decide_eq_false (by omega)]; rfl)
      go_wp2
      refine bodyPost_ret (v := .tuple #[.slice none 0 0, .int .i64 92]) (by simp [results, go_sem]) rfl ?_
      exact ⟨HB1.out, .inr ⟨by rw [E1.out]; decide, by rw [E1.out]⟩⟩
    by_cases h4 : n % 4 = 0
    case neg =>
      have E1 : Hid (E0 = 92) := BADO.out (by rw [OPB.out, decide_eq_false h4]; simp)
      have q4' : ((n : Int) % 4 != 0) = true := by
        have : (n : Int) % 4 ≠ 0 := by omega
        simpa using this
      have q4 : ((n : Int).tmod 4 != 0) = true := by
        rw [Int.tmod_eq_emod_of_nonneg (by omega)]
        exact q4'
      go_wp2
      refine bodyPost_ret (v := .tuple #[.slice none 0 0, .int .i64 92]) (by simp [results, go_sem]) rfl ?_
      exact ⟨HB1.out, .inr ⟨by rw [E1.out]; decide, by rw [E1.out]⟩⟩
    have q4' : ((n : Int) % 4 != 0) = false := by
      have : (n : Int) % 4 = 0 := by omega
      rw [this]; rfl
    have q4 : ((n : Int).tmod 4 != 0) = false := by
      rw [Int.tmod_eq_emod_of_nonneg (by omega)]
      exact q4'
    have EE3 : Hid (E0 = if 65535 < 20 + n + bl then 2 else 0) := by
      unfold Hid
      rw [EE2.out, if_neg (by rw [OPB.out, decide_eq_true h4, decide_eq_true (by omega)]; decide)]
    by_cases hbig : 65535 < 20 + n + bl
    · have E1 : Hid (E0 = 2) := by unfold Hid; rw [EE3.out, if_pos hbig]
      have zb : (65535 : Int) < 20 + (n : Int) + (bl : Int) := by omega
      go_wp2
      refine bodyPost_ret (v := .tuple #[.slice none 0 0, .int .i64 2]) (by simp [results, go_sem]) rfl ?_
      exact ⟨HB1.out, .inr ⟨by rw [E1.out]; decide, by rw [E1.out]⟩⟩
    have E1 : Hid (E0 = 0) := by unfold Hid; rw [EE3.out, if_neg hbig]
    have zb : ¬ (65535 : Int) < 20 + (n : Int) + (bl : Int) := by omega
    obtain ⟨sz, hsz⟩ : ∃ sz, sz = 20 + (n : Int) + (bl : Int) := ⟨_, rfl⟩
    have R3 := rhead_any p (.slice ao n co) sz 0 w1 (HOV.out.later HB1.out) MB.out (by rw [← HN.out]; omega) (by omega) (by omega) (by decide) (by decide)
    rw [← HX.out] at R3
    have HR3 := hide R3
    rw [hsz] at HR3
    have HSZ := hide hsz
    clear R3 EE2 EE3 BADO OPB h4 hsz
    go_wp2_with (refine wpList_loadA rfl 70 16 aggP sizP _ rfl s 0 rfl X LX.out HC1.out ?_)
    rw [← HSZ.out] at HR3 ⊢
    refine HR3.out.mono ?_
    rintro _ w3 ⟨v3, rfl, g3, b3⟩
    have B3 : Hid (Below w.heap.size w w3) := HB1.out.trans (b3.mono HB1.out.size)
    have C3 := hide (HC1.out.later l1 b3)
    have L3 : s < w3.heap.size := Nat.lt_of_lt_of_le l1 b3.size
    obtain ⟨a3, e3, rfl, _⟩ := g3.isB.shape
    have I3 := hide g3.isB
    obtain ⟨N3, hN3⟩ : ∃ N3, N3 = (hdS p sz 0).length := ⟨_, rfl⟩
    rw [← hN3] at I3 ⊢
    have AB := ahd_bytes MB.out (by rw [← HN.out]; omega)
    have BB := bhd_bytes hs hd ho
    have HBY : Hid (Bytes (hdS p sz 0)) := (AB sz).append ((put16_bytes _).append BB)
    have HLN : Hid (((hdS p sz 0).length : Int) ≤ 4611686018427387900) := by unfold Hid; rw [hdS_len, ← HN.out]; omega
    obtain ⟨c, hc⟩ : ∃ c, c = csum (ahd p sz ++ bhd p) := ⟨_, rfl⟩
    have HC := hide hc
    have CB : Hid (0 ≤ c ∧ c ≤ 65535) := by rw [hc]; exact csum_bd _
    have SC : Hid (csum (hdS p sz 0) = c) := by unfold Hid; rw [hdS_sum, hc]
    have Z0 : Hid (0 ≤ sz ∧ sz ≤ 65535) := by have := HSZ.out; exact ⟨by omega, by omega⟩
    have N40 : Hid (p.opts.length ≤ 40) := by unfold Hid; rw [← HN.out]; omega
    clear g3 b3 HR3 x15 AB BB hc hN3 zb q4 q4' h40 hbig k1 k2 k3 k4 k5 k6 k7 k8 k9 k10
    go_upto_region 10 with fail
    have CW : ∀ W, Below w3.heap.size w3.drew W → CellsAt W s 0 X := fun W hb => C3.out.later L3 (((Below.refl _ w3).drew).trans hb)
    have BW : ∀ W, Below w3.heap.size w3.drew W → Below w3.heap.size w3 W := fun W hb => ((Below.refl _ w3).drew).trans hb
    have HDW : ∀ W, Below w3.heap.size w3.drew W → Calls Try.prog 46 #[.agg (p.cells (.slice ao n co)).toArray, .int .i64 sz, .int .i64 c] W fun e W' => ∃ v, e = .returned v ∧ Gro w3.heap.size W' v (hdS p sz c) ∧ Below W.heap.size W W' := fun W hb => by
      refine (rhead_any p (.slice ao n co) sz c W (HOV.out.later (B3.out.trans ((BW W hb).mono B3.out.size))) MB.out N40.out Z0.out.1 Z0.out.2 CB.out.1 CB.out.2).mono ?_
      rintro _ W' ⟨v, rfl, g, b⟩
      exact ⟨v, rfl, g.low (BW W hb).size, b⟩
    refine region_grow (w := w3) (fun i v W => match i with | 0 => v = .agg (p.cells (.slice ao n co)).toArray | 1 => v = .int .i64 sz | 2 => v = .slice a3 N3 e3 | 3 => v = .int .i64 c | 4 => Gro w3.heap.size W v (hdS p sz c) | 5 => Gro w3.heap.size W v (hdS p sz c) | _ => True) (by kernel_rfl) (by kernel_rfl) (by kernel_rfl) (no_guard (by kernel_rfl)) (fun i v W W' h hb => match i, h with | 0, h => h | 1, h => h | 2, h => h | 3, h => h | 4, h => Gro.later h hb | 5, h => Gro.later h hb | _ + 6, h => h) ?_ ?_
    · intro listed a W hM hn i o ho hr
      have B := hM.bel
      match i, ho, hr with
      | 0, ho, hr =>
        have u2 : a.eval (.tmp 2) = .pointer (some ⟨s, 0, none⟩) := hM.keep (t := 2) (by kernel_rfl)
        exact Step.of rfl (.inl ⟨.agg (p.cells (.slice ao n co)).toArray, W, exec_loadA 70 16 aggP sizP _ rfl s 0 u2 (p.cells (.slice ao n co)) rfl ((by rw [← HX.out]; exact CW W B)), Below.refl _ _, rfl⟩) ho
      | 1, ho, hr =>
        have u7 : a.eval (.tmp 7) = .int .i64 sz := hM.keep (t := 7) (by kernel_rfl)
        exact Step.of rfl (.inl ⟨.int .i64 sz, W, exec_move _ _ rfl u7, Below.refl _ _, rfl⟩) ho
      | 2, ho, hr =>
        have u8 : a.eval (.tmp 8) = .slice a3 N3 e3 := hM.keepB (t := 8) hr (by kernel_rfl)
        exact Step.of rfl (.inl ⟨.slice a3 N3 e3, W, exec_move _ _ rfl u8, Below.refl _ _, rfl⟩) ho
      | 3, ho, hr =>
        have u95 := hM.use hr rfl (j := 2) (by kernel_rfl) rfl rfl
        have u95 : a.eval (.tmp 95) = .slice a3 N3 e3 := u95
        refine Step.of rfl (.inr ⟨37, #[.slice a3 N3 e3], exec_callF _ _ _ _ rfl (map1 u95) (enters_of Try.func37 (by kernel_rfl) rfl), ?_⟩) ho
        exact (rSum_any _ _ W (I3.out.later (BW W B)) HBY.out HLN.out).mono (by rintro _ W' ⟨rfl, e⟩; rw [e]; exact ⟨_, rfl, congrArg (Value.int .i64) SC.out, Below.refl _ _⟩)
      | 4, ho, hr =>
        have u93 := hM.use hr rfl (j := 0) (by kernel_rfl) rfl rfl
        have u93 : a.eval (.tmp 93) = .agg (p.cells (.slice ao n co)).toArray := u93
        have u94 := hM.use hr rfl (j := 1) (by kernel_rfl) rfl rfl
        have u94 : a.eval (.tmp 94) = .int .i64 sz := u94
        have u96 := hM.use hr rfl (j := 3) (by kernel_rfl) rfl rfl
        have u96 : (fun v W => v = .int .i64 c) (a.eval (.tmp 96)) W := u96
        refine Step.of rfl (.inr ⟨46, #[.agg (p.cells (.slice ao n co)).toArray, .int .i64 sz, .int .i64 c], exec_callF _ _ _ _ rfl (map3 u93 u94 u96) (enters_of Try.func46 (by kernel_rfl) rfl), ?_⟩) ho
        exact HDW W B
      | 5, ho, hr =>
        have u97 := hM.use hr rfl (j := 4) (by kernel_rfl) rfl rfl
        have u97 : (fun v W => Gro w3.heap.size W v (hdS p sz c)) (a.eval (.tmp 97)) W := u97
        exact Step.of rfl (.inl ⟨_, W, exec_assign _ _ rfl rfl, Below.refl _ _, u97⟩) ho
      | n + 6, ho, _ => exact absurd (Array.getElem?_eq_some_iff.1 ho).1 (by simp)
    intro listed a W hM hl
    have B := hM.bel
    have p93 : a.tmps.getD 93 undef = .agg (p.cells (.slice ao n co)).toArray := hM.got 0 _ _ rfl (hl 0 (by decide)) rfl
    have p94 : a.tmps.getD 94 undef = .int .i64 sz := hM.got 1 _ _ rfl (hl 1 (by decide)) rfl
    have p95 : a.tmps.getD 95 undef = .slice a3 N3 e3 := hM.got 2 _ _ rfl (hl 2 (by decide)) rfl
    have p96 : (fun v W => v = .int .i64 c) (a.tmps.getD 96 undef) W := hM.got 3 _ _ rfl (hl 3 (by decide)) rfl
    have p97 : (fun v W => Gro w3.heap.size W v (hdS p sz c)) (a.tmps.getD 97 undef) W := hM.got 4 _ _ rfl (hl 4 (by decide)) rfl
    have p8 : (fun v W => Gro w3.heap.size W v (hdS p sz c)) (a.tmps.getD 8 undef) W := hM.got 5 _ _ rfl (hl 5 (by decide)) rfl
    rw [hM.lit [93, 94, 95, 96, 97, 8] (by kernel_rfl)]
    clear hM hl
    simp only [fill, List.foldl_cons, List.foldl_nil, Act.put, List.setIfInBounds_toArray, List.set_cons_zero, List.set_cons_succ]
    clear p93
    generalize a.tmps.getD 93 undef = x93 at *
    clear p94
    generalize a.tmps.getD 94 undef = x94 at *
    clear p95
    generalize a.tmps.getD 95 undef = x95 at *
    generalize a.tmps.getD 96 undef = x96 at *
    generalize a.tmps.getD 97 undef = x97 at *
    generalize a.tmps.getD 8 undef = x8 at *
    have B4 : Hid (Below w.heap.size w W) := B3.out.trans ((BW W B).mono B3.out.size)
    have Z4 : Hid (w3.heap.size ≤ W.heap.size) := (BW W B).size
    have G4 : Hid (Gro w3.heap.size W x8 (hdS p sz c)) := p8
    obtain ⟨a4, e4, e8, _⟩ := G4.out.isB.shape
    subst e8
    have I5 := hide (HBV.out.later B4.out)
    have EB : Hid (hdS p sz c ++ b = enB p b) := by
      unfold Hid
      rw [enB_split, ← HN.out, ← HBL.out, ← HSZ.out]
      unfold hdB
      rw [← HC.out]
      rfl
    have EL : Hid ((hdS p sz c).length + b.length ≤ 140737488355328) := by
      unfold Hid
      rw [hdS_len, ← HN.out, ← HBL.out]
      have := HSZ.out
      have := Z0.out
      omega
    obtain ⟨N4, hN4⟩ : ∃ N4, N4 = (hdS p sz c).length := ⟨_, rfl⟩
    rw [← hN4] at G4 ⊢
    clear p96 p97 p8 B CW BW HDW hN4
    go_wp2_with (at_builtin; refine wpList_growB rfl (.tmp 98) (.tmp 99) rfl rfl w3.heap.size (.slice a4 N4 e4) _ (hdS p sz c) b rfl rfl G4.out I5.out Z4.out EL.out (enB p b) EB.out ?_)
    intro a5 e5 w5 _ g5 b5
    have G5 : Hid (Gro w.heap.size w5 (.slice a5 (enB p b).length e5) (enB p b)) := g5.low B3.out.size
    have B5 : Hid (Below w.heap.size w w5) := B4.out.trans (b5.mono B3.out.size)
    clear g5 b5
    go_wp2
    refine bodyPost_ret (v := .tuple #[.slice a5 (enB p b).length e5, .int .i64 0]) (by simp [results, go_sem]) rfl ?_
    exact ⟨B5.out, .inl ⟨E1.out, _, rfl, G5.out⟩⟩

end Go.Proofs.Ytlhkdjockodneaa
