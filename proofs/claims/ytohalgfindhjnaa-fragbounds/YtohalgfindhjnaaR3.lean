
/-
  Put behind more that is made first; FragLaps in numbers. The document's count of bytes held, of a value that holds nothing.
-/
import Derived.Test.YtohalgfindhjnaaF37
namespace Go.Proofs.Ytohalgfindhjnaa
open Go.RowKit Go.Shelf

section
variable {w w' wX : World} {ρ ρ' : Nat → Nat × Nat} {b s6 : Nat} {G' : List (Nat × Gm)} {r : Option (Pk × List Int × List Int) × List Int × List Gm} {hv dv bv gv : Value}
set_option maxHeartbeats 1000000 in
/-- the block before the call, whatever else was made -/
theorem PutGot.aft3 (hb : Below w.heap.size w wX) (c1 : CellsAt wX s6 0 zWh) (f1 : ∀ y, wX.frozen? ⟨s6, y, none⟩ = false) (hs : w.heap.size ≤ s6) (h : PutGot wX w' (cutR ρ w.heap.size) ρ' b G' r hv dv bv gv) : CellsAt w' s6 0 zWh ∧ (∀ y, w'.frozen? ⟨s6, y, none⟩ = false) ∧ ∃ w2, w2 = w'.setCells s6 0 (whC (outP r.1) hv dv bv) ∧ PutAft w w2 ρ ρ' b G' r s6 gv := by
  have l1 : s6 < wX.heap.size := c1.lt (by decide)
  have z1 := hb.size
  have rs : ρ' s6 = (0, 9) := by rw [h.old _ l1]; exact cutR_ge hs
  have nK : ¬ (cutR ρ w.heap.size s6 ≠ (0, 9) ∧ s6 < wX.heap.size) := fun e => e.1 (cutR_ge hs)
  have c2 := c1.but l1 h.but nK
  have f2 : ∀ y, w'.frozen? ⟨s6, y, none⟩ = false := fun y => (h.but.frozen (p := ⟨s6, y, none⟩) l1 nK).trans (f1 y)
  obtain ⟨w2, hw2⟩ : ∃ w2, w2 = w'.setCells s6 0 (whC (outP r.1) hv dv bv) := ⟨_, rfl⟩
  have b2 : But (Only s6) w' w2 := by rw [hw2]; exact But.cells s6 _ 0 w'
  obtain ⟨τ, k1, k2, k3, k4⟩ := h.x
  refine ⟨c2, f2, w2, hw2, h.fr.but b2 (fun g hg e => by have e : g = s6 := e; rw [e]; exact rs), h.ab, fun g hg => by rw [h.old g (by omega)]; exact cutR_lt hg, ((But.of_below hb).trans' h.but (fun g hg e => ⟨by have := e.1; rw [cutR_lt hg] at this; exact this, hg⟩)).trans' b2 (fun g hg e => by have e : g = s6 := e; omega), ⟨hs, rs⟩, fun y => by rw [hw2, World.frozen?_setCells]; exact f2 y, hv, dv, bv, fun g => if g = s6 then 0 else τ g, if_pos rfl, by rw [hw2]; exact c2.stored rfl, ?_, ?_, ?_, ?_⟩
  · exact (k1.but b2 (fun g e e2 => by have e2 : g = s6 := e2; have := e.2.1; omega)).own (fun g _ e => ⟨(if_neg (by have := e.2.1; omega)).trans e.1, by have := e.2.1; omega, e.2.2⟩)
  · exact (k2.but b2 (fun g e e2 => by have e2 : g = s6 := e2; have := e.2.1; omega)).own (fun g _ e => ⟨(if_neg (by have := e.2.1; omega)).trans e.1, by have := e.2.1; omega, e.2.2⟩)
  · exact (k3.but b2 (fun g e e2 => by have e2 : g = s6 := e2; have := e.2.1; omega)).own (fun g _ e => ⟨(if_neg (by have := e.2.1; omega)).trans e.1, by have := e.2.1; omega, e.2.2⟩)
  · have kk : ∀ g, (ρ' g ≠ (0, 9) ∨ wX.heap.size ≤ g) → g ≠ s6 := fun g e e2 => by
      rcases e with e | e
      · rw [e2] at e; exact e rs
      · omega
    exact (k4.but b2 (fun g e e2 => kk g e e2)).own (fun g _ e => kk g e)
/-- from an earlier world on -/
theorem PutAft.base (hb : Below w.heap.size w wX) (h : PutAft wX w' (cutR ρ w.heap.size) ρ' b G' r s6 gv) : PutAft w w' ρ ρ' b G' r s6 gv := by
  have z := hb.size
  obtain ⟨hv, dv, bv, τ, t0, x1, x2, x3, x4, x5⟩ := h.x
  exact ⟨h.fr, h.ab, fun g hg => by rw [h.old g (by omega)]; exact cutR_lt hg, (But.of_below hb).trans' h.but (fun g hg e => ⟨by have := e.1; rw [cutR_lt hg] at this; exact this, hg⟩), ⟨by have := h.hs6.1; omega, h.hs6.2⟩, h.f6, hv, dv, bv, τ, t0, x1, x2.own (fun g _ e => ⟨e.1, by have := e.2.1; omega, e.2.2⟩), x3.own (fun g _ e => ⟨e.1, by have := e.2.1; omega, e.2.2⟩), x4.own (fun g _ e => ⟨e.1, by have := e.2.1; omega, e.2.2⟩), x5⟩
end
/-- between two calls of Put, behind a world w0 -/
structure AwN (w0 : World) (b : Nat) (ρ : Nat → Nat × Nat) (G : List (Nat × Gm)) (W : World) : Prop where
  fr : FrAt ρ W b G
  low : ∀ g, g < w0.heap.size → g ≠ b → ρ g = (0, 9)
  but : But (Only b) w0 W
theorem AwN.step {w0 W W' : World} {b : Nat} {ρ ρ' : Nat → Nat × Nat} {G G' : List (Nat × Gm)} (h : AwN w0 b ρ G W) (hf : FrAt ρ' W' b G') (ho : ∀ g, g < W.heap.size → ρ' g = ρ g) (hb : But (fun g => ρ g ≠ (0, 9) ∧ g < W.heap.size) W.drew W') : AwN w0 b ρ' G' W' := by
  have z := h.but.size
  refine ⟨hf, fun g hg hne => by rw [ho g (by omega)]; exact h.low g hg hne, h.but.trans' ((But.of_below (K := fun g => ρ g ≠ (0, 9) ∧ g < W.heap.size) (later_drew W)).trans hb) (fun g hg e => ?_)⟩
  by_cases e2 : g = b
  · exact e2
  · exact absurd (h.low g hg e2) e.1
/-- more memory, and stores in what is new -/
theorem AwN.more {w0 W W' : World} {b : Nat} {ρ : Nat → Nat × Nat} {G : List (Nat × Gm)} {K : Nat → Prop} (h : AwN w0 b ρ G W) (hb : But K W W') (hk : ∀ g, K g → W.heap.size ≤ g) : AwN w0 b (cutR ρ W.heap.size) G W' := by
  have z := h.but.size
  exact ⟨h.fr.cut.but hb (fun g hg e => absurd (hk g e) (by omega)), fun g hg hne => by rw [cutR_lt (by omega)]; exact h.low g hg hne, h.but.trans' hb (fun g hg e => by have := hk g e; omega)⟩
theorem ord_one (x : Pc) (hl : x.last = false) (hd : 0 < x.D.length) : ord [x] = [] := by
  unfold ord
  by_cases h0 : x.at_ = 0
  · rw [show (1025 : Nat) = 1024 + 1 from rfl, ordF_some (x := x) (by simp [h0]), if_neg (by rw [hl]; decide), show (1024 : Nat) = 1023 + 1 from rfl, ordF_none (by
      have : ¬ x.at_ = x.end_ := by unfold Pc.end_; omega
      simp [this])]
    rfl
  · rw [show (1025 : Nat) = 1024 + 1 from rfl, ordF_none (by simp [h0])]
    rfl
/-- a first piece of a new datagram -/
theorem putS_first {p : Pk} {D : List Int} {buf now : Int} {S : List Gm} (hf : p.more = true) (hm : myb p D.length = true) (hi : fndI p.kd S = none) (h4 : S.length < 4) (hs : szS S + D.length ≤ 2048) :
    putS p D buf now S = (none, [], S ++ [addG ⟨p.kd, now, zF, .slice none 0 0, []⟩ p (nPc p D buf)]) := by
  rw [putS_none (by unfold frg; rw [hf]; rfl) hm hi, if_neg (by rintro (e | e) <;> omega)]
  unfold finS
  rw [if_pos]
  rw [addG_L]
  exact ord_one _ (by show (!p.more) = false; rw [hf]; rfl) ((myb_bd hm).2.2 hf)
theorem fnd_no {k : Kd} {S : List Gm} (h : ∀ m ∈ S, m.kd ≠ k) : fndI k S = none := by
  unfold fndI
  rw [List.findIdx?_eq_none_iff]
  intro m hm
  simpa [eqKd] using h m hm
def lapO (o : Pk) : Pk := { o with more := true, off := 0 }
def lapP (p : Pk) (a : Int) : Pk := { p with more := true, off := a }
theorem myb_of {p : Pk} {n : Nat} (h0 : 0 ≤ p.off) (h8 : p.off.tmod 8 = 0) (hm : n ≠ 0 ∧ n % 8 = 0) (hn : (n : Int) ≤ 1024 - p.off) : myb p n = true := by
  unfold myb
  simp [h0, h8, hm, hn]
/-- FragLaps: what the four calls answer -/
theorem laps_all (o p : Pk) (at_ sz lap : Nat) (h1 : at_ ≤ 60) (h2 : 1 ≤ sz) (h3 : sz ≤ 20) (h4 : lap < 8 * sz) (hk : p.kd ≠ o.kd) :
    ∃ mo mp mq : Gm, putS (lapO o) (List.replicate 16 0) 1 0 [] = (none, [], [mo]) ∧ putS (lapP p (8 * (at_ : Int))) (List.replicate (8 * sz) 0) 2 0 [mo] = (none, [], [mo, mp]) ∧ putS (lapP p (((8 * at_ + lap) / 8 * 8 : Nat) : Int)) (List.replicate 8 0) 3 0 [mo, mp] = (none, [2, 3], [mo]) ∧ putS (lapP p (8 * (at_ : Int))) (List.replicate (8 * sz) 0) 4 0 [mo] = (none, [], [mo, mq]) ∧ szS [mo, mq] = 16 + 8 * sz := by
  have e16 : (List.replicate 16 (0 : Int)).length = 16 := List.length_replicate
  have e8 : (List.replicate 8 (0 : Int)).length = 8 := List.length_replicate
  have es : (List.replicate (8 * sz) (0 : Int)).length = 8 * sz := List.length_replicate
  have t8 : (8 * (at_ : Int)).tmod 8 = 0 := by rw [Int.tmod_eq_emod_of_nonneg (by omega)]; omega
  have tq : (((8 * at_ + lap) / 8 * 8 : Nat) : Int).tmod 8 = 0 := by rw [Int.tmod_eq_emod_of_nonneg (by omega)]; omega
  have mO : myb (lapO o) (List.replicate 16 (0 : Int)).length = true := by rw [e16]; exact myb_of (by show (0 : Int) ≤ 0; decide) (by show Int.tmod 0 8 = 0; decide) (by decide) (by show ((16 : Nat) : Int) ≤ 1024 - 0; decide)
  have mP : myb (lapP p (8 * (at_ : Int))) (List.replicate (8 * sz) (0 : Int)).length = true := by
    rw [es]
    exact myb_of (by show 0 ≤ 8 * (at_ : Int); omega) t8 ⟨by omega, by omega⟩ (by show ((8 * sz : Nat) : Int) ≤ 1024 - 8 * (at_ : Int); omega)
  have mQ : myb (lapP p (((8 * at_ + lap) / 8 * 8 : Nat) : Int)) (List.replicate 8 (0 : Int)).length = true := by
    rw [e8]
    exact myb_of (by show (0 : Int) ≤ (((8 * at_ + lap) / 8 * 8 : Nat) : Int); omega) tq ⟨by decide, by decide⟩ (by show ((8 : Nat) : Int) ≤ 1024 - (((8 * at_ + lap) / 8 * 8 : Nat) : Int); omega)
  obtain ⟨mo, hmo⟩ : ∃ mo, mo = addG ⟨(lapO o).kd, 0, zF, .slice none 0 0, []⟩ (lapO o) (nPc (lapO o) (List.replicate 16 0) 1) := ⟨_, rfl⟩
  have ko : mo.kd = o.kd := by rw [hmo, addG_kd]; rfl
  have so : szP mo.L = 16 := by rw [hmo, addG_L]; simp [szP, nPc]
  have r1 : putS (lapO o) (List.replicate 16 0) 1 0 [] = (none, [], [mo]) := by
    rw [putS_first rfl mO rfl (by decide) (by rw [e16]; simp [szS]), hmo]
    rfl
  have one : ∀ buf : Int, putS (lapP p (8 * (at_ : Int))) (List.replicate (8 * sz) 0) buf 0 [mo] = (none, [], [mo, addG ⟨p.kd, 0, zF, .slice none 0 0, []⟩ (lapP p (8 * (at_ : Int))) (nPc (lapP p (8 * (at_ : Int))) (List.replicate (8 * sz) 0) buf)]) := fun buf => by
    rw [putS_first rfl mP (fnd_no (fun m hm => by rw [List.mem_singleton.1 hm, ko]; exact fun e => hk e.symm)) (by simp) (by rw [es]; simp [szS, so]; omega)]
    rfl
  refine ⟨mo, _, _, r1, one 2, ?_, one 4, ?_⟩
  · obtain ⟨mp, hmp⟩ : ∃ mp, mp = addG ⟨p.kd, 0, zF, .slice none 0 0, []⟩ (lapP p (8 * (at_ : Int))) (nPc (lapP p (8 * (at_ : Int))) (List.replicate (8 * sz) 0) 2) := ⟨_, rfl⟩
    rw [← hmp]
    have kp : mp.kd = p.kd := by rw [hmp, addG_kd]
    have Lp : mp.L = [nPc (lapP p (8 * (at_ : Int))) (List.replicate (8 * sz) 0) 2] := by rw [hmp, addG_L]; rfl
    have fi : fndI (lapP p (((8 * at_ + lap) / 8 * 8 : Nat) : Int)).kd [mo, mp] = some 1 := by
      have e1 : eqKd mo.kd p.kd = false := by rw [ko]; simp [eqKd]; exact fun e => hk e.symm
      have e2 : eqKd mp.kd p.kd = true := by rw [kp]; simp [eqKd]
      show List.findIdx? (fun m => eqKd m.kd p.kd) [mo, mp] = some 1
      simp [List.findIdx?_cons, e1, e2]
    rw [putS_some rfl mQ fi (m := mp) rfl, if_pos]
    · rw [Lp]; rfl
    · rw [Lp]
      have x1 : (((8 * at_ + lap) / 8 * 8 : Nat) : Int) < 8 * (at_ : Int) + ((List.replicate (8 * sz) (0 : Int)).length : Int) := by rw [es]; omega
      have x2 : 8 * (at_ : Int) < (((8 * at_ + lap) / 8 * 8 : Nat) : Int) + ((List.replicate 8 (0 : Int)).length : Int) := by rw [e8]; omega
      simp only [List.any_cons, List.any_nil, Bool.or_false]
      unfold odds
      rw [show (nPc (lapP p (((8 * at_ + lap) / 8 * 8 : Nat) : Int)) (List.replicate 8 0) 3).at_ = (((8 * at_ + lap) / 8 * 8 : Nat) : Int) from rfl, show (nPc (lapP p (8 * (at_ : Int))) (List.replicate (8 * sz) 0) 2).end_ = 8 * (at_ : Int) + ((List.replicate (8 * sz) (0 : Int)).length : Int) from rfl, show (nPc (lapP p (8 * (at_ : Int))) (List.replicate (8 * sz) 0) 2).at_ = 8 * (at_ : Int) from rfl, show (nPc (lapP p (((8 * at_ + lap) / 8 * 8 : Nat) : Int)) (List.replicate 8 0) 3).end_ = (((8 * at_ + lap) / 8 * 8 : Nat) : Int) + ((List.replicate 8 (0 : Int)).length : Int) from rfl, decide_eq_true x1, decide_eq_true x2]
      rfl
  · have e : ∀ a c : Gm, szS [a, c] = szP a.L + szP c.L := fun a c => by simp [szS]
    rw [e, so, addG_L]
    simp [szP, nPc]

theorem rBytes_nil (w : World) (b : Nat) (a : Option Addr) (c : Nat) (h : w.cell? ⟨b, 0, none⟩ = some (.slice a 0 c)) : Calls Try.prog 22 #[.pointer (some ⟨b, 0, none⟩)] w fun e w' => e = .returned (.int .i64 0) ∧ Below w.heap.size w w' := by
  have B := hide (Below.refl w.heap.size w)
  go_enter Try.func22, Try.ntmps22
  go_wp2
  go_loopw [3, 4] (fun v3 v4 wr => v3 = .int .i64 0 ∧ v4 = .int .i64 0 ∧ Hid (Below w.heap.size w wr) ∧ wr.cell? ⟨b, 0, none⟩ = some (.slice a 0 c)) (fun _ _ _ => 0)
  case atStart => exact ⟨rfl, rfl, B, h⟩
  case round =>
    obtain ⟨rfl, rfl, hB, hc⟩ := hrel
    go_wp2
    go_ret
    exact ⟨rfl, hB.out⟩
end Go.Proofs.Ytohalgfindhjnaa
