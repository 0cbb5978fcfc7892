
/-
  Package ip4: the contracts of faultOf and Decode.
-/
import Derived.Test.YtiglejmmdghmgaaI12
namespace Go.Proofs.Ytiglejmmdghmgaa
open Go.RowKit Go.Shelf

/-- what makes bytes no packet -/
def hdL (bs : List Int) : List Int := bs.take (hsI bs).toNat
def faE (bs : List Int) : Int := if bs.length < 20 then 3 else if nb bs 0 / 16 ≠ 4 then 90 else if hsI bs < 20 ∨ szI bs < hsI bs ∨ (bs.length : Int) < szI bs then 91 else if csum (hdL bs) ≠ 0 then 5 else if okO ((hdL bs).drop 20) = false then 92 else if nb bs 8 = 0 then 93 else if 32768 ≤ w16 bs 6 then 1 else 0
theorem hsI_bd {bs : List Int} (h : Bytes bs) : 0 ≤ hsI bs ∧ hsI bs ≤ 60 := by
  have := nb_bd h 0
  unfold hsI
  omega
theorem drop_addr {g off c k : Nat} : (if c = k then some (⟨g, off, none⟩ : Addr) else Option.map (fun x : Addr => x.add k) (some ⟨g, off, none⟩)) = (if c = k then some ⟨g, off, none⟩ else some ⟨g, off + k, none⟩) := by
  split
  · rfl
  · rw [Option.map_some, Addr.add_lit]
theorem exec_slLH {o : Oper} {w : World} {ev : Operand → Value} (x y : Operand) (g off n c k m : Nat) (kI : Int) (hk : (k : Int) = kI) (ad : Option Addr) (had : ad = if c = k then some (⟨g, off, none⟩ : Addr) else some ⟨g, off + k, none⟩) (ho : o.op = .slice 24 x (some (.const (.int .i64 kI))) (some y) none) (hcs : ∀ v, ev (.const v) = v) (hx : ev x = .slice (some ⟨g, off, none⟩) n c) (hy : ev y = .int .i64 (m : Int)) (h1 : k ≤ m) (h2 : m ≤ c) : (execOp ev o).run Try.prog w = .ok (.value (.slice ad (m - k) (c - k))) w := by
  subst hk
  have h3 : (k : Int) ≤ m := by omega
  have h4 : (m : Int) ≤ c := by omega
  rw [had]
  unfold execOp
  simp [ho, hx, hy, hcs, go_sem, h3, h4]
set_option maxRecDepth 100000 in
set_option maxHeartbeats 8000000 in
theorem faultOf_any (v : Value) (bs : List Int) (w : World) (hb : IsB w.heap.size w v bs) (hB : Bytes bs) (hl : (bs.length : Int) ≤ 4611686018427387904) :
    Calls Try.prog 27 #[v] w fun e w' => e = .returned (.int .i64 (faE bs)) ∧ Below w.heap.size w w' := by
  obtain ⟨a, cap, rfl, ncap⟩ := hb.shape
  obtain ⟨n, hn⟩ : ∃ n, n = bs.length := ⟨_, rfl⟩
  obtain ⟨E0, hE0⟩ : ∃ E0, E0 = faE bs := ⟨_, rfl⟩
  have EE : Hid (E0 = if n < 20 then 3 else if nb bs 0 / 16 ≠ 4 then 90 else if hsI bs < 20 ∨ szI bs < hsI bs ∨ (n : Int) < szI bs then 91 else if csum (hdL bs) ≠ 0 then 5 else if okO ((hdL bs).drop 20) = false then 92 else if nb bs 8 = 0 then 93 else if 32768 ≤ w16 bs 6 then 1 else 0) := by unfold Hid; rw [hE0, hn]; rfl
  rw [← hn] at hb hl ncap ⊢
  rw [← hE0]
  have HN := hide hn
  have HB := hide hb
  have BY := hide hB
  clear hn hE0 hB
  by_cases h20 : n < 20
  · have E1 : Hid (E0 = 3) := by unfold Hid; rw [EE.out, if_pos h20]
    have z20 : (n : Int) < 20 := by omega
    clear hb
    go_enter Try.func27, Try.ntmps27
    go_wp2
    go_ret
    exact ⟨by rw [E1.out]; rfl, Below.refl _ _⟩
  have z20 : ¬ (n : Int) < 20 := by omega
  obtain ⟨g, off, rfl, hcell⟩ : ∃ g off, a = some ⟨g, off, none⟩ ∧ ∀ W, Below w.heap.size w W → ∀ j, j < n → W.cell? ⟨g, off + j, none⟩ = some (.int .u8 (nb bs j)) := by
    obtain ⟨a', c, e, _, _, hc⟩ := hb
    simp only [Value.slice.injEq] at e
    obtain ⟨rfl, _, rfl⟩ := e
    obtain ⟨b', off', e, hbl, hcs⟩ := hc (by have := HN.out; omega)
    exact ⟨b', off', e, fun W hW j hj => (hW.cell (p := ⟨b', off' + j, none⟩) hbl).trans (hcs j (by have := HN.out; omega))⟩
  have CW := hide hcell
  have SZ := sizes_any g off cap bs w (by have := HB.out; rw [HN.out] at this; exact this) BY.out (by rw [← HN.out]; exact hl) (by have := HN.out; omega)
  rw [← HN.out] at SZ
  obtain ⟨hb0, hb1⟩ := hsI_bd BY.out
  obtain ⟨sb0, sb1⟩ := w16_bd BY.out 2
  have sb0 : 0 ≤ szI bs := sb0
  have sb1 : szI bs ≤ 65535 := sb1
  obtain ⟨h, hh⟩ : ∃ h : Nat, hsI bs = (h : Int) := ⟨(hsI bs).toNat, by omega⟩
  obtain ⟨z, hz⟩ : ∃ z : Nat, szI bs = (z : Int) := ⟨(szI bs).toNat, by omega⟩
  rw [hh] at hb1
  rw [hz] at sb1
  have HDL : Hid (hdL bs = bs.take h) := by unfold Hid hdL; rw [hh, Int.toNat_natCast]
  rw [hh, hz] at SZ EE
  rw [HDL.out] at EE
  have HSZ := hide SZ
  obtain ⟨x0, hx0⟩ : ∃ x0, x0 = nb bs 0 := ⟨_, rfl⟩
  obtain ⟨X0, X1⟩ := nb_bd BY.out 0
  rw [← hx0] at X0 X1 EE
  have HX0 := hide hx0
  clear hb hcell SZ hh hz hx0 hb0 sb0
  go_enter Try.func27, Try.ntmps27
  go_wp2_with fail
  refine HSZ.out.mono ?_
  rintro _ w1 ⟨rfl, b1⟩
  have B1 := hide b1
  have c0 : w1.cell? ⟨g, off, none⟩ = some (.int .u8 x0) := by rw [HX0.out]; exact CW.out w1 b1 0 (by omega)
  have zn : (0 : Int) < (n : Int) := by omega
  clear b1 HSZ
  by_cases hv : x0 / 16 = 4
  · have EE2 : Hid (E0 = if (h : Int) < 20 ∨ (z : Int) < (h : Int) ∨ (n : Int) < (z : Int) then 91 else if csum (bs.take h) ≠ 0 then 5 else if okO ((bs.take h).drop 20) = false then 92 else if nb bs 8 = 0 then 93 else if 32768 ≤ w16 bs 6 then 1 else 0) := by unfold Hid; rw [EE.out, if_neg h20, if_neg (by omega)]
    have qv : (x0 / 16 != 4) = false := by rw [hv]; rfl
    by_cases hlen : (h : Int) < 20 ∨ (z : Int) < (h : Int) ∨ (n : Int) < (z : Int)
    · have E1 : Hid (E0 = 91) := by unfold Hid; rw [EE2.out, if_pos hlen]
      clear EE EE2 hv
      by_cases l1 : (h : Int) < 20
      · go_wp2
        go_ret
        exact ⟨by rw [E1.out]; rfl, B1.out⟩
      by_cases l2 : (z : Int) < (h : Int)
      · go_wp2
        go_ret
        exact ⟨by rw [E1.out]; rfl, B1.out⟩
      have l3 : (n : Int) < (z : Int) := by omega
      go_wp2
      go_ret
      exact ⟨by rw [E1.out]; rfl, B1.out⟩
    · have l1 : ¬ (h : Int) < 20 := by omega
      have l2 : ¬ (z : Int) < (h : Int) := by omega
      have l3 : ¬ (n : Int) < (z : Int) := by omega
      have EE3 : Hid (E0 = if csum (bs.take h) ≠ 0 then 5 else if okO ((bs.take h).drop 20) = false then 92 else if nb bs 8 = 0 then 93 else if 32768 ≤ w16 bs 6 then 1 else 0) := by unfold Hid; rw [EE2.out, if_neg hlen]
      have hle : (h : Int) ≤ (cap : Int) := by omega
      have TB : Hid (∀ W, Below w.heap.size w W → IsB W.heap.size W (.slice (some ⟨g, off, none⟩) h cap) (bs.take h)) := fun W hW => (HB.out.later hW).take h (by have := HN.out; omega)
      have tlen : (bs.take h).length = h := by rw [List.length_take]; have := HN.out; omega
      have S1 := Sum1 (.slice (some ⟨g, off, none⟩) h cap) (bs.take h) w1 (TB.out w1 B1.out) (BY.out.take h) (by rw [tlen]; omega)
      obtain ⟨cs, hcs⟩ : ∃ cs, cs = csum (bs.take h) := ⟨_, rfl⟩
      rw [← hcs] at S1 EE3
      have HS1 := hide S1
      have TL := hide tlen
      clear EE EE2 hv hlen S1 hcs tlen
      go_wp2_with fail
      refine HS1.out.mono ?_
      rintro _ w2 ⟨rfl, b2⟩
      have B2 : Hid (Below w.heap.size w w2) := B1.out.trans (b2.mono B1.out.size)
      clear b2 HS1 c0 qv
      by_cases hs0 : cs = 0
      · subst hs0
        have EE4 : Hid (E0 = if okO ((bs.take h).drop 20) = false then 92 else if nb bs 8 = 0 then 93 else if 32768 ≤ w16 bs 6 then 1 else 0) := by unfold Hid; rw [EE3.out, if_neg (by simp)]
        have D2 := (TB.out w2 B2.out).drop 20 (by rw [TL.out]; omega)
        rw [drop_addr] at D2
        have AR := hide (areRight_any D2 ((BY.out.take h).drop 20) (by rw [List.length_drop, TL.out]; omega))
        obtain ⟨r, hr⟩ : ∃ r, r = okO ((bs.take h).drop 20) := ⟨_, rfl⟩
        rw [← hr] at AR EE4
        have zh : (20 : Int) ≤ (h : Int) := by omega
        obtain ⟨ad, had⟩ : ∃ ad, ad = (if cap = 20 then some (⟨g, off, none⟩ : Addr) else some ⟨g, off + 20, none⟩) := ⟨_, rfl⟩
        have HAD := hide had
        clear hr EE3 D2 had
        rw [← HAD.out] at AR
        go_upto_region 12 with fail
        go_wp2_with (refine wpList_val rfl (exec_slLH _ _ g off n cap 20 h 20 rfl ad HAD.out rfl (fun _ => rfl) rfl rfl (by omega) (by omega)) ?_)
        refine AR.out.mono ?_
        rintro _ w3 ⟨rfl, b3⟩
        have B3 : Hid (Below w.heap.size w w3) := B2.out.trans (b3.mono B2.out.size)
        clear b3 AR HAD
        cases r with
        | false =>
          have E1 : Hid (E0 = 92) := by unfold Hid; rw [EE4.out, if_pos rfl]
          go_wp2
          go_ret
          exact ⟨by rw [E1.out]; rfl, B3.out⟩
        | true =>
          have EE5 : Hid (E0 = if nb bs 8 = 0 then 93 else if 32768 ≤ w16 bs 6 then 1 else 0) := by unfold Hid; rw [EE4.out, if_neg (by decide)]
          have c8 : w3.cell? ⟨g, off + 8, none⟩ = some (.int .u8 (nb bs 8)) := CW.out w3 B3.out 8 (by omega)
          have zn8 : (8 : Int) < (n : Int) := by omega
          obtain ⟨x8, hx8⟩ : ∃ x8, x8 = nb bs 8 := ⟨_, rfl⟩
          rw [← hx8] at c8 EE5
          clear hx8 EE4
          by_cases h8 : x8 = 0
          · have E1 : Hid (E0 = 93) := by unfold Hid; rw [EE5.out, if_pos h8]
            have q8 : (x8 == 0) = true := by rw [h8]; rfl
            clear h8
            go_wp2
            go_ret
            exact ⟨by rw [E1.out]; rfl, B3.out⟩
          · have EE6 : Hid (E0 = if 32768 ≤ w16 bs 6 then 1 else 0) := by unfold Hid; rw [EE5.out, if_neg h8]
            have q8 : (x8 == 0) = false := by simpa using h8
            have AT := hide (at_val (.slice (some ⟨g, off, none⟩) n cap) bs 6 w3 (HB.out.later B3.out) BY.out (by rw [← HN.out]; exact hl) (by have := HN.out; omega))
            obtain ⟨W0, W1⟩ := w16_bd BY.out 6
            obtain ⟨q, hq⟩ : ∃ q, q = w16 bs 6 := ⟨_, rfl⟩
            rw [← hq] at AT EE6 W0 W1
            have a1 := and_32768 q W0 W1
            clear hq h8 EE5
            go_wp2_with fail
            refine AT.out.mono ?_
            rintro _ w4 ⟨_, rfl, rfl, b4⟩
            have B4 : Hid (Below w.heap.size w w4) := B3.out.trans (b4.mono B3.out.size)
            clear b4 AT c8 q8
            by_cases hq6 : 32768 ≤ q
            · have E1 : Hid (E0 = 1) := by unfold Hid; rw [EE6.out, if_pos hq6]
              rw [if_pos hq6] at a1
              go_wp2
              go_ret
              exact ⟨by rw [E1.out]; rfl, B4.out⟩
            · have E1 : Hid (E0 = 0) := by unfold Hid; rw [EE6.out, if_neg hq6]
              rw [if_neg hq6] at a1
              go_wp2
              go_ret
              exact ⟨by rw [E1.out]; rfl, B4.out⟩
      · have E1 : Hid (E0 = 5) := by unfold Hid; rw [EE3.out, if_pos hs0]
        have q0 : (cs != 0) = true := by simpa using hs0
        clear hs0
        go_wp2
        go_ret
        exact ⟨by rw [E1.out]; rfl, B2.out⟩
  · have E1 : Hid (E0 = 90) := by unfold Hid; rw [EE.out, if_neg h20, if_pos hv]
    have qv : (x0 / 16 != 4) = true := by simpa using hv
    clear hv
    go_wp2
    go_ret
    exact ⟨by rw [E1.out]; rfl, B1.out⟩
end Go.Proofs.Ytiglejmmdghmgaa
