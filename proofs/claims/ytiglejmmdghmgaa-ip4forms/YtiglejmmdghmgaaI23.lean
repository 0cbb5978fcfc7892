
/-
  Package ip4: what was encoded is decoded as it was, and the other way, in numbers.
-/
import Derived.Test.YtiglejmmdghmgaaI18
namespace Go.Proofs.Ytiglejmmdghmgaa
open Go.RowKit Go.Shelf

/-- the place and the marks, out of one number -/
theorem pl_parts {p : Pk} (h0 : 0 ≤ p.off) (h1 : p.off ≤ 65528) (h2 : p.off % 8 = 0) : 0 ≤ pl p ∧ pl p < 32768 ∧ decide (pl p / 16384 % 2 = 1) = p.whole ∧ decide (pl p / 8192 % 2 = 1) = p.more ∧ pl p % 8192 * 8 = p.off := by
  unfold pl
  cases hw : p.whole <;> cases hm : p.more <;> refine ⟨?_, ?_, ?_, ?_, ?_⟩ <;> simp only [Bool.false_eq_true, if_true, if_false, decide_eq_true_eq, decide_eq_false_iff_not] <;> omega
theorem w16_put (a : List Int) (k : Nat) (n : Int) (h0 : 0 ≤ n) (h1 : n ≤ 65535) (e0 : nb a k = n / 256 % 256) (e1 : nb a (k + 1) = n % 256) : w16 a k = n := by
  unfold w16
  rw [e0, e1]
  omega
theorem nb_left {a r : List Int} {k : Nat} (h : k < a.length) : nb (a ++ r) k = nb a k := by
  unfold nb
  rw [List.getElem?_append_left h]
theorem w16_left {a r : List Int} {k : Nat} (h : k + 1 < a.length) : w16 (a ++ r) k = w16 a k := by
  unfold w16
  rw [nb_left (by omega), nb_left h]
/-- a head that was written is read as it was -/
theorem hdP_hdB {p : Pk} (hm : mb p = true) (sz : Int) : hdP (hdB p sz) = p := by
  obtain ⟨m1, m2, m3, m4, m5, m6⟩ := mb_true hm
  obtain ⟨q0, q1, q2, q3, q4⟩ := pl_parts m5.1 m5.2 m6
  have ei : w16 (hdB p sz) 4 = p.id := w16_put _ 4 _ m3.1 m3.2 rfl rfl
  have ep : w16 (hdB p sz) 6 = pl p := w16_put _ 6 _ q0 (by omega) rfl rfl
  unfold hdP
  rw [ei, ep, q2, q3, q4]
  have eo : (hdB p sz).drop 20 = p.opts := by
    show p.opts ++ [] = p.opts
    rw [List.append_nil]
  rw [eo]
  rfl
/-- what was encoded, with anything behind it -/
theorem back_all {p : Pk} {b : List Int} (hp : PkOk p) (he : enE p b.length = 0) (tail : List Int) : faE (enB p b ++ tail) = 0 ∧ deP (enB p b ++ tail) = p ∧ deD (enB p b ++ tail) = b ∧ (hdL (enB p b ++ tail)).drop 20 = p.opts := by
  obtain ⟨m1, m2, m3, m4, m5⟩ := enE_zero he
  obtain ⟨k1, k2, k3, k4, k5, k6⟩ := mb_true m1
  obtain ⟨q0, q1, _⟩ := pl_parts k5.1 k5.2 k6
  obtain ⟨sz, hsz⟩ : ∃ sz, sz = 20 + (p.opts.length : Int) + (b.length : Int) := ⟨_, rfl⟩
  have hl := hdB_len p sz
  have ex : enB p b ++ tail = hdB p sz ++ (b ++ tail) := by rw [enB_split, ← hsz, List.append_assoc]
  have e0 : nb (enB p b ++ tail) 0 = 64 + (20 + (p.opts.length : Int)) / 4 := by rw [ex, nb_left (by omega)]; rfl
  have ehs : hsI (enB p b ++ tail) = 20 + (p.opts.length : Int) := by unfold hsI; rw [e0]; omega
  have esz : szI (enB p b ++ tail) = sz := by
    unfold szI
    rw [ex, w16_left (by omega)]
    exact w16_put _ 2 _ (by omega) (by omega) rfl rfl
  have ehd : hdL (enB p b ++ tail) = hdB p sz := by
    unfold hdL
    rw [ehs, ex, show (20 + (p.opts.length : Int)).toNat = (hdB p sz).length by rw [hl]; omega]
    exact List.take_left
  have e8 : nb (enB p b ++ tail) 8 = p.ttl := by rw [ex, nb_left (by omega)]; rfl
  have e6 : w16 (enB p b ++ tail) 6 = pl p := by
    rw [ex, w16_left (by omega)]
    exact w16_put _ 6 _ q0 (by omega) rfl rfl
  have ep : deP (enB p b ++ tail) = p := by unfold deP; rw [ehd]; exact hdP_hdB m1 sz
  have eo : (hdL (enB p b ++ tail)).drop 20 = p.opts := by
    rw [ehd]
    show p.opts ++ [] = p.opts
    rw [List.append_nil]
  have el : (enB p b ++ tail).length = 20 + p.opts.length + b.length + tail.length := by rw [List.length_append, enB_len]
  refine ⟨?_, ep, ?_, eo⟩
  · unfold faE
    rw [if_neg (by omega), if_neg (by rw [e0]; omega), if_neg (by rw [ehs, esz, el]; omega), if_neg (by rw [ehd, hdB_sum (ahd_bytes m1 m2) (bhd_bytes hp.src hp.dst hp.opts)]; decide), if_neg (by rw [eo, m4]; decide), if_neg (by rw [e8]; omega), if_neg (by rw [e6]; omega)]
  · unfold deD
    rw [ehs, esz, show (20 + (p.opts.length : Int)).toNat = (hdB p sz).length by rw [hl]; omega, show sz.toNat = (enB p b).length by rw [enB_len]; omega, List.take_left, enB_split, ← hsz]
    exact List.drop_left
/-- the first twenty bytes, one by one -/
theorem cons_nb (h : List Int) (k : Nat) (hk : k < h.length) : h.drop k = nb h k :: h.drop (k + 1) := by
  rw [List.drop_eq_getElem_cons hk]
  unfold nb
  rw [List.getElem?_eq_getElem hk]
  rfl
theorem first20 (h : List Int) (hl : 20 ≤ h.length) : h = [nb h 0, nb h 1, nb h 2, nb h 3, nb h 4, nb h 5, nb h 6, nb h 7, nb h 8, nb h 9, nb h 10, nb h 11, nb h 12, nb h 13, nb h 14, nb h 15, nb h 16, nb h 17, nb h 18, nb h 19] ++ h.drop 20 := by
  have e : h.drop 0 = [nb h 0, nb h 1, nb h 2, nb h 3, nb h 4, nb h 5, nb h 6, nb h 7, nb h 8, nb h 9, nb h 10, nb h 11, nb h 12, nb h 13, nb h 14, nb h 15, nb h 16, nb h 17, nb h 18, nb h 19] ++ h.drop 20 := by
    rw [cons_nb h 0 (by omega), cons_nb h 1 (by omega), cons_nb h 2 (by omega), cons_nb h 3 (by omega), cons_nb h 4 (by omega), cons_nb h 5 (by omega), cons_nb h 6 (by omega), cons_nb h 7 (by omega), cons_nb h 8 (by omega), cons_nb h 9 (by omega), cons_nb h 10 (by omega), cons_nb h 11 (by omega), cons_nb h 12 (by omega), cons_nb h 13 (by omega), cons_nb h 14 (by omega), cons_nb h 15 (by omega), cons_nb h 16 (by omega), cons_nb h 17 (by omega), cons_nb h 18 (by omega), cons_nb h 19 (by omega)]
    rfl
  exact e
/-- the two forms of the sum 0: bytes with the one for the other -/
def zB (t : List Int) : List Int := if nb t 10 = 255 ∧ nb t 11 = 255 then (t.set 10 0).set 11 0 else t
/-- what is decoded is encoded as the same bytes -/
theorem forth_all {raw : List Int} (hB : Bytes raw) (he : faE raw = 0) : enE (deP raw) (deD raw).length = 0 ∧ enB (deP raw) (deD raw) = zB (raw.take (szI raw).toNat) ∧ (20 : Int) ≤ szI raw ∧ szI raw ≤ (raw.length : Int) ∧ szI raw ≤ 65535 ∧ (deP raw).opts = (hdL raw).drop 20 ∧ PkOk (deP raw) ∧ (deD raw).length ≤ 65535 ∧ Bytes (deD raw) := by
  obtain ⟨f1, f2, f3, f4, f5, f6, f7, f8, f9⟩ := faE_zero he
  obtain ⟨b1, b2⟩ := hsI_bd hB
  obtain ⟨z1, z2⟩ := w16_bd hB 2
  have z2 : szI raw ≤ 65535 := z2
  obtain ⟨hn, ehn⟩ : ∃ hn : Nat, (hn : Int) = hsI raw := ⟨(hsI raw).toNat, by omega⟩
  obtain ⟨sn, esn⟩ : ∃ sn : Nat, (sn : Int) = szI raw := ⟨(szI raw).toNat, by omega⟩
  obtain ⟨h, hh⟩ : ∃ h, h = raw.take hn := ⟨_, rfl⟩
  have ehd : hdL raw = h := by unfold hdL; rw [hh, ← ehn]; rfl
  have hl : h.length = hn := by rw [hh, List.length_take]; omega
  have eD : deD raw = (raw.take sn).drop hn := by unfold deD; rw [← ehn, ← esn]; rfl
  have dl : (deD raw).length = sn - hn := by rw [eD, List.length_drop, List.length_take]; omega
  have hBh : Bytes h := by rw [hh]; exact hB.take _
  have hBd : Bytes (deD raw) := by rw [eD]; exact (hB.take _).drop _
  have et : raw.take sn = h ++ deD raw := by
    rw [eD, hh]
    have e2 : raw.take hn = (raw.take sn).take hn := by rw [List.take_take, Nat.min_eq_left (by omega)]
    rw [e2, List.take_append_drop]
  have en : ∀ k, k < hn → nb raw k = nb h k := fun k hk => by rw [hh, nb_take hk]
  have ew : ∀ k, k + 1 < hn → w16 raw k = w16 h k := fun k hk => by unfold w16; rw [en k (by omega), en (k + 1) hk]
  have e0 : hsI raw = nb h 0 % 16 * 4 := by unfold hsI; rw [en 0 (by omega)]
  rw [en 0 (by omega)] at f2
  rw [ehd] at f6 f7
  rw [en 8 (by omega)] at f8
  rw [ew 6 (by omega)] at f9
  have e2 : szI raw = w16 h 2 := ew 2 (by omega)
  obtain ⟨q, hq⟩ : ∃ q, q = deP raw := ⟨_, rfl⟩
  have eq0 : q = hdP h := by rw [hq]; unfold deP; rw [ehd]
  have qo : q.opts = h.drop 20 := by rw [eq0]; rfl
  have ql : q.opts.length = hn - 20 := by rw [qo, List.length_drop, hl]
  have nbd := fun k => nb_bd hBh k
  have w4 := w16_bd hBh 4
  have w6 := w16_bd hBh 6
  have hpk : PkOk q := by
    rw [eq0]
    refine ⟨⟨nbd 12, nbd 13, nbd 14, nbd 15⟩, ⟨nbd 16, nbd 17, nbd 18, nbd 19⟩, hBh.drop 20, ?_⟩
    show (h.drop 20).length ≤ _
    rw [List.length_drop]; omega
  have hmb : mb q = true := by
    rw [eq0]
    have n9 := nbd 9
    have n1 := nbd 1
    have n8 := nbd 8
    simp only [mb, Bool.and_eq_true]
    refine ⟨decide_eq_true ⟨?_, ?_⟩, decide_eq_true ⟨?_, ?_⟩, decide_eq_true ⟨?_, ?_⟩, decide_eq_true ⟨?_, ?_⟩, decide_eq_true ⟨?_, ?_⟩, decide_eq_true ?_⟩ <;> simp only [hdP] <;> omega
  have hop : opB q = true := by
    simp only [opB, Bool.and_eq_true, decide_eq_true_eq]
    rw [ql, qo]
    exact ⟨by omega, by omega, f7⟩
  have epl : pl q = w16 h 6 := by
    rw [eq0]
    simp only [pl, hdP, decide_eq_true_eq]
    split <;> split <;> omega
  have eE : enE q (deD raw).length = 0 := by
    unfold enE
    rw [if_neg (by rw [hmb]; decide), if_neg (by rw [hop]; decide), if_neg (by rw [ql, dl]; omega)]
  have esz : 20 + (q.opts.length : Int) + ((deD raw).length : Int) = szI raw := by rw [ql, dl]; omega
  -- the head, in its parts
  have eA : ahd q (szI raw) = [nb h 0, nb h 1, nb h 2, nb h 3, nb h 4, nb h 5, nb h 6, nb h 7, nb h 8, nb h 9] := by
    have a0 : 64 + (20 + (q.opts.length : Int)) / 4 = nb h 0 := by rw [ql]; have := nbd 0; omega
    have a2 : szI raw / 256 % 256 = nb h 2 := by rw [e2]; show (256 * nb h 2 + nb h 3) / 256 % 256 = nb h 2; have := nbd 2; have := nbd 3; omega
    have a3 : szI raw % 256 = nb h 3 := by rw [e2]; show (256 * nb h 2 + nb h 3) % 256 = nb h 3; have := nbd 2; have := nbd 3; omega
    have a4 : w16 h 4 / 256 % 256 = nb h 4 := by show (256 * nb h 4 + nb h 5) / 256 % 256 = nb h 4; have := nbd 4; have := nbd 5; omega
    have a5 : w16 h 4 % 256 = nb h 5 := by show (256 * nb h 4 + nb h 5) % 256 = nb h 5; have := nbd 4; have := nbd 5; omega
    have a6 : w16 h 6 / 256 % 256 = nb h 6 := by show (256 * nb h 6 + nb h 7) / 256 % 256 = nb h 6; have := nbd 6; have := nbd 7; omega
    have a7 : w16 h 6 % 256 = nb h 7 := by show (256 * nb h 6 + nb h 7) % 256 = nb h 7; have := nbd 6; have := nbd 7; omega
    have eid : q.id = w16 h 4 := by rw [eq0]; rfl
    show [64 + (20 + (q.opts.length : Int)) / 4, q.tos, szI raw / 256 % 256, szI raw % 256, q.id / 256 % 256, q.id % 256, pl q / 256 % 256, pl q % 256, q.ttl, q.proto] = _
    rw [a0, a2, a3, eid, a4, a5, epl, a6, a7]
    rw [eq0]
    rfl
  have eR : bhd q = [nb h 12, nb h 13, nb h 14, nb h 15, nb h 16, nb h 17, nb h 18, nb h 19] ++ h.drop 20 := by
    show ipL q.src ++ (ipL q.dst ++ (q.opts ++ [])) = _
    rw [List.append_nil, qo, eq0]
    rfl
  have eh : h = ahd q (szI raw) ++ ([nb h 10, nb h 11] ++ bhd q) := by
    rw [eA, eR]
    exact first20 h (by omega)
  obtain ⟨S, hS⟩ : ∃ S, S = wsum (ahd q (szI raw) ++ bhd q) := ⟨_, rfl⟩
  have hw : wsum h = S + (256 * nb h 10 + nb h 11) := by
    have e1 := congrArg wsum eh
    rw [wsum_append_even _ _ (by rw [ahd_len]), wsum_append_even [nb h 10, nb h 11] _ (by simp), wsum_pair] at e1
    rw [hS, wsum_append_even _ _ (by rw [ahd_len])]
    omega
  have S0 : 64 ≤ S := by
    rw [hS, eA]
    have h1 := wsum_nonneg (nb h 2 :: nb h 3 :: nb h 4 :: nb h 5 :: nb h 6 :: nb h 7 :: nb h 8 :: nb h 9 :: bhd q) (by
      have h2 := (hBh.drop 2)
      have h3 := bhd_bytes hpk.src hpk.dst hpk.opts
      exact Bytes.cons (nbd 2).1 (nbd 2).2 (Bytes.cons (nbd 3).1 (nbd 3).2 (Bytes.cons (nbd 4).1 (nbd 4).2 (Bytes.cons (nbd 5).1 (nbd 5).2 (Bytes.cons (nbd 6).1 (nbd 6).2 (Bytes.cons (nbd 7).1 (nbd 7).2 (Bytes.cons (nbd 8).1 (nbd 8).2 (Bytes.cons (nbd 9).1 (nbd 9).2 h3))))))))
    have h2 : wsum ([nb h 0, nb h 1, nb h 2, nb h 3, nb h 4, nb h 5, nb h 6, nb h 7, nb h 8, nb h 9] ++ bhd q) = 256 * nb h 0 + nb h 1 + wsum (nb h 2 :: nb h 3 :: nb h 4 :: nb h 5 :: nb h 6 :: nb h 7 :: nb h 8 :: nb h 9 :: bhd q) := wsum_two _ _ _
    have n0 := nbd 0
    have n1 := nbd 1
    omega
  obtain ⟨c, hc⟩ : ∃ c, c = csum (ahd q (szI raw) ++ bhd q) := ⟨_, rfl⟩
  have ec : c = 65535 - foldI S := by rw [hc]; unfold csum; rw [← hS]
  have n10 := nbd 10
  have n11 := nbd 11
  have f6' : 65535 - foldI (S + (256 * nb h 10 + nb h 11)) = 0 := by rw [← hw]; exact f6
  have two : (256 * nb h 10 + nb h 11 = 65535 ∧ c = 0) ∨ (256 * nb h 10 + nb h 11 = c ∧ c ≤ 65534) := by
    have e1 : foldI S = (S - 1) % 65535 + 1 := by unfold foldI; rw [if_neg (by omega)]
    have e3 : foldI (S + (256 * nb h 10 + nb h 11)) = (S + (256 * nb h 10 + nb h 11) - 1) % 65535 + 1 := by unfold foldI; rw [if_neg (by omega)]
    rw [e3] at f6'
    rw [e1] at ec
    omega
  have eB : enB q (deD raw) = ahd q (szI raw) ++ (put16 c ++ bhd q) ++ deD raw := by
    rw [enB_split, esz, hc]
    rfl
  have eZ : enB q (deD raw) = zB (raw.take sn) := by
    rw [eB, et]
    have t10 : nb (h ++ deD raw) 10 = nb h 10 := nb_left (by omega)
    have t11 : nb (h ++ deD raw) 11 = nb h 11 := nb_left (by omega)
    unfold zB
    rw [t10, t11]
    rcases two with ⟨t1, t2⟩ | ⟨t1, t2⟩
    · rw [if_pos (by omega), t2, eh, eA]
      rfl
    · rw [if_neg (by omega)]
      have e10 : c / 256 % 256 = nb h 10 := by omega
      have e11 : c % 256 = nb h 11 := by omega
      have ep : put16 c = [nb h 10, nb h 11] := by unfold put16; rw [e10, e11]
      rw [ep, ← eh]
  rw [← hq]
  refine ⟨eE, ?_, by omega, by omega, by omega, ?_, hpk, by rw [dl]; omega, hBd⟩
  · rw [eZ, ← esn]; rfl
  · rw [qo, ehd]
end Go.Proofs.Ytiglejmmdghmgaa
