
/-
  Package wire: Pull, Double.
-/
import Derived.Test.YtghojbgjmpjhgaaW5
namespace Go.Proofs.Ytghojbgjmpjhgaa
open Go.RowKit

/-- what is on its way, as the document says it -/
def ab (L : Nat → List (Value × Frm)) : Nat → List Frm := fun i => (L i).map Prod.snd
theorem ab_upd (L : Nat → List (Value × Frm)) (i : Nat) (l : List (Value × Frm)) : ab (upd L i l) = upd (ab L) i (l.map Prod.snd) := by
  funext j; unfold ab upd; split <;> rfl

theorem Lst.push {ρ : Nat → Nat} {w w' : World} {i g' c' : Nat} {v : Value} {l : List (Value × Frm)} {p : Value × Frm} (h : Lst ρ w i v l) (hG : Gro 0 w p.1 p.2.bs) (hpr : ∀ k, p.1.ownBlock = some k → ρ k = 7 + i) (hpd : ∀ q ∈ l, ∀ k, q.1.ownBlock = some k → p.1.ownBlock ≠ some k)
    (hr : w'.ownsRow 0 48 3 (.slice (some ⟨g', 0, none⟩) (l.length + 1) c') (l.length + 1) (flat l ++ cel p)) (hb : But (fun k => v.ownBlock = some k) w w') (hg : v.ownBlock = some g' ∨ w.heap.size ≤ g') :
    Lst (upd ρ g' (5 + i)) w' i (.slice (some ⟨g', 0, none⟩) (l.length + 1) c') (l ++ [p]) ∧ ∀ g, g < w.heap.size → upd ρ g' (5 + i) g = ρ g := by
  have ext : ∀ g, g < w.heap.size → upd ρ g' (5 + i) g = ρ g := fun g hlt => by
    by_cases e : g = g'
    · subst e
      rw [upd_same]
      rcases hg with hg | hg
      · exact (h.role g hg).symm
      · omega
    · exact upd_other _ _ _ _ e
  have keepP : ∀ q : Value × Frm, Gro 0 w q.1 q.2.bs → (∀ k, q.1.ownBlock = some k → ρ k = 7 + i) → Gro 0 w' q.1 q.2.bs ∧ ∀ k, q.1.ownBlock = some k → upd ρ g' (5 + i) k = 7 + i := fun q hq hk =>
    ⟨hq.keep hb (fun k e c => by have h1 := hk k e; have h2 := h.role k c; omega), fun k e => (ext k (hq.blk k e).2).trans (hk k e)⟩
  refine ⟨⟨?_, fun k e => ?_, fun q hq => ?_, ?_⟩, ext⟩
  · unfold Row3
    rw [List.length_append, flat_append]
    exact hr
  · have e : some g' = some k := e
    cases e
    exact upd_same _ _ _
  · rcases List.mem_append.1 hq with hq | hq
    · exact keepP q (h.fr q hq).1 (h.fr q hq).2
    · rw [List.mem_singleton] at hq; subst hq
      exact keepP q hG hpr
  · refine List.pairwise_append.2 ⟨h.pw, List.pairwise_singleton _ _, fun q hq r hr => ?_⟩
    rw [List.mem_singleton] at hr; subst hr
    exact hpd q hq

/-- a device has done something, and a block of its own was made -/
theorem Net.acts' {ρ ρ' : Nat → Nat} {w w' : World} {b : Nat} {dv : Nat → Nat} {ck : Int} {L : Nat → List (Value × Frm)} {D : Nat → Dev} (h : Net ρ w b dv ck L D) (i : Nat) (hi : i < 2) {D' : Dev} (hd : DevAt LN (fun g => ρ g ≠ 0 ∨ w.heap.size ≤ g) w' (dv i) D') (hok : D'.Ok) (hb : But (Only (dv i)) w w')
    (he : ∀ g, g < w.heap.size → ρ' g = ρ g) (hl : ∀ g, ρ' g ≠ 0 → g < w'.heap.size) : Net ρ' w' b dv ck L (upd D i D') := by
  have hr := h.rd i hi
  have nb : ¬ Only (dv i) b := fun e => by have e : b = dv i := e; have := h.rb; rw [e] at this; omega
  refine ⟨hl, (he b h.blt).trans h.rb, fun j hj => (he _ (h.dlt j hj)).trans (h.rd j hj), (hb.cell (p := ⟨b, 0, none⟩) h.blt nb).trans h.clock, fun i hi => (hb.cell (p := ⟨b, 1 + i, none⟩) h.blt nb).trans (h.ends i hi), fun i => (hb.frozen (p := ⟨b, i, none⟩) h.blt nb).trans (h.fz i), fun j hj => ?_, fun j hj => ?_, fun j hj => ?_, h.fl⟩
  · obtain ⟨v, hv, hL⟩ := h.ls j hj
    exact ⟨v, (hb.cell (p := ⟨b, 3 + j, none⟩) h.blt nb).trans hv, hL.but hb (fun g e => by have e : g = dv i := e; rw [e, hr]; omega) he⟩
  · by_cases e : j = i
    · subst e; rw [upd_same]
      refine hd.avoid (fun g _ e => ?_) (by show ρ' (dv j) ≠ 0; rw [he _ (h.dlt j hj), hr]; omega)
      by_cases hg : g < w.heap.size
      · left; rw [← he g hg]; exact e
      · right; omega
    · rw [upd_other _ _ _ _ e]
      exact (h.dev j hj).ext hb (fun g e => by have e : g = dv i := e; rw [e, hr]; omega) (fun e2 => by have e2 : dv j = dv i := e2; have := h.rd j hj; rw [e2] at this; omega) he
  · by_cases e : j = i
    · subst e; rw [upd_same]; exact hok
    · rw [upd_other _ _ _ _ e]; exact h.ok j hj

/-- a role for the block of a new frame -/
def role7 (ρ : Nat → Nat) (v : Value) (i : Nat) : Nat → Nat := fun g => if v.ownBlock = some g then 7 + i else ρ g
theorem role7_low {ρ : Nat → Nat} {v : Value} {i n : Nat} (h : ∀ k, v.ownBlock = some k → n ≤ k) : ∀ g, g < n → role7 ρ v i g = ρ g := fun g hg => by
  unfold role7; rw [if_neg (fun e => by have := h g e; omega)]
theorem role7_at {ρ : Nat → Nat} {v : Value} {i : Nat} : ∀ k, v.ownBlock = some k → role7 ρ v i k = 7 + i := fun k e => by unfold role7; rw [if_pos e]
theorem role7_lt {ρ : Nat → Nat} {v : Value} {i m : Nat} (h : ∀ k, v.ownBlock = some k → k < m) (hl : ∀ g, ρ g ≠ 0 → g < m) : ∀ g, role7 ρ v i g ≠ 0 → g < m := fun g e => by
  unfold role7 at e
  by_cases c : v.ownBlock = some g
  · exact h g c
  · rw [if_neg c] at e; exact hl g e

def plE (D : Nat → Dev) (d : Int) : Int := if isDir d = true then (D d.toNat).tkE else 1
def plD (D : Nat → Dev) (d : Int) : Nat → Dev := if isDir d = true then upd D d.toNat (D d.toNat).tkD else D
def plA (l : Nat → List Frm) (D : Nat → Dev) (ck : Int) (d : Int) : Nat → List Frm :=
  if isDir d = true ∧ (D d.toNat).tkE = 0 ∧ old ck (D d.toNat).tkT = false then upd l d.toNat (l d.toNat ++ [⟨(D d.toNat).tkF, false, (D d.toNat).tkT⟩]) else l

theorem plA_dir {l : Nat → List Frm} {D : Nat → Dev} {ck d : Int} (h : isDir d = false) : plA l D ck d = l := by unfold plA; rw [if_neg (by rw [h]; simp)]
theorem plA_no {l : Nat → List Frm} {D : Nat → Dev} {ck d : Int} (h : (D d.toNat).tkE ≠ 0) : plA l D ck d = l := by unfold plA; rw [if_neg (fun e => h e.2.1)]
theorem plA_old {l : Nat → List Frm} {D : Nat → Dev} {ck d : Int} (h : old ck (D d.toNat).tkT = true) : plA l D ck d = l := by unfold plA; rw [if_neg (fun e => by rw [h] at e; simp at e)]
theorem plA_new {l : Nat → List Frm} {D : Nat → Dev} {ck : Int} {i : Nat} (hi : i < 2) (h : (D i).tkE = 0) (ho : old ck (D i).tkT = false) : plA l D ck (i : Int) = upd l i (l i ++ [⟨(D i).tkF, false, (D i).tkT⟩]) := by
  unfold plA; rw [Int.toNat_natCast, if_pos ⟨isDir_of i hi, h, ho⟩]

/-- one frame more, appended to a list and stored: the run of 'append', and what it leaves -/
theorem push_run {ρ : Nat → Nat} {w : World} {b : Nat} {dv : Nat → Nat} {ck : Int} {L : Nat → List (Value × Frm)} {D : Nat → Dev} (h : Net ρ w b dv ck L D) (i : Nat) (hi : i < 2) (v : Value) (hv : w.cell? ⟨b, 3 + i, none⟩ = some v) (p : Value × Frm) (hG : Gro 0 w p.1 p.2.bs) (hpr : ∀ k, p.1.ownBlock = some k → ρ k = 7 + i) (hpd : ∀ q ∈ L i, ∀ k, q.1.ownBlock = some k → p.1.ownBlock ≠ some k) (hpl : p.2.bs.length ≤ 274)
    (hl : (L i).length ≤ 2513169434843) (s : Nat) (ht : T3 w s p.1 (.bool p.2.bad) (.int .i64 p.2.tick)) :
    ∃ g' c' w', (Builtin.append_ #[56, 56] 56 #[v, .slice (some ⟨s, 0, none⟩) 1 1]).run Try.prog w = .ok (.slice (some ⟨g', 0, none⟩) ((L i).length + 1) c') w' ∧ w'.cell? ⟨b, 3 + i, none⟩ = some v ∧ w'.frozen? ⟨b, 3 + i, none⟩ = false ∧
      Did ρ w (w'.setCell ⟨b, 3 + i, none⟩ (.slice (some ⟨g', 0, none⟩) ((L i).length + 1) c')) b dv ck (upd L i (L i ++ [p])) D := by
  obtain ⟨v', hv', hL⟩ := h.ls i hi
  rw [hv] at hv'
  cases hv'
  obtain ⟨inf, hin, hz0, hz1, hz2⟩ := info_parts info_ow
  obtain ⟨g', c', w', hrun, hrow, hb, hg, _, hlt⟩ := run_more 56 48 inf (.agg #[.slice none 0 0, .bool false, .int .i64 0]) 3 40 Try.underlying56 hin hz0 hz1 hz2 rfl (by omega) hL.row ⟨s, 0, none⟩ 1 1 (cel p) rfl (fun j u hu => by
      have hj : j < 3 := (List.getElem?_eq_some_iff.1 hu).1
      rw [Addr.add_lit]
      have : j = 0 ∨ j = 1 ∨ j = 2 := by omega
      rcases this with rfl | rfl | rfl
      · rw [← hu]; exact ht.c0
      · rw [← hu]; exact ht.c1
      · rw [← hu]; exact ht.c2) (fun u hu => by
      simp only [cel, List.mem_cons, List.not_mem_nil, or_false] at hu
      rcases hu with rfl | rfl | rfl
      · exact hG.one
      · rfl
      · rfl) (by omega) (Nat.zero_le _) (by unfold maxLen; omega) (by omega)
  obtain ⟨hL', hext⟩ := hL.push hG hpr hpd hrow hb hg
  have nb : ¬ v.ownBlock = some b := fun e => by have := hL.role b e; have := h.rb; omega
  refine ⟨g', c', w', hrun, (hb.cell (p := ⟨b, 3 + i, none⟩) h.blt nb).trans hv, (hb.frozen (p := ⟨b, 3 + i, none⟩) h.blt nb).trans (h.fz _), upd ρ g' (5 + i), ?_, hext, ?_⟩
  · refine h.put i hi (hb.mono (fun x e => .inl (hL.role x e))) hext (fun g e => ?_) hL' (fun q hq => ?_)
    · by_cases eg : g = g'
      · rw [eg]; exact hlt
      · rw [upd_other _ _ _ _ eg] at e
        exact Nat.lt_of_lt_of_le (h.lt g e) hb.size
    · rcases List.mem_append.1 hq with hq | hq
      · exact h.fl i hi q hq
      · rw [List.mem_singleton] at hq; subst hq; exact hpl
  · exact (hb.mono (fun x e => by have := hL.role x e; omega)).setCell (p := ⟨b, 3 + i, none⟩) (.inr (by have := h.rb; simp only; omega)) _

section
variable {ρ : Nat → Nat} {w : World} {b : Nat} {dv : Nat → Nat} {ck : Int} {L : Nat → List (Value × Frm)} {D : Nat → Dev}

set_option maxRecDepth 100000 in
set_option maxHeartbeats 2000000 in
theorem Pull_any (h : Net ρ w b dv ck L D) (d : Int) (hck : 0 ≤ ck ∧ ck ≤ 4611686018427387904) (hT : ∀ i, i < 2 → ∀ j, j < 16 → 0 ≤ (D i).posted j ∧ (D i).posted j ≤ ck) (hl : ∀ i, i < 2 → (L i).length ≤ 2513169434843) :
    Calls Try.prog 22 #[.pointer (some ⟨b, 0, none⟩), .int .i64 d] w fun e w' => e = .returned (.int .i64 (plE D d)) ∧ ∃ L', Did ρ w w' b dv ck L' (plD D d) ∧ ab L' = plA (ab L) D ck d := by
  have R := hide (isDirection_any d w)
  unfold plE plD
  cases hd : isDir d with
  | false =>
    rw [if_neg (by simp), if_neg (by simp), plA_dir hd]
    rw [hd] at R
    have H := hide h
    clear h
    go_enter Try.func22, Try.ntmps22
    go_wp2_with fail
    refine R.out.mono ?_
    rintro e w' ⟨rfl, rfl⟩
    go_wp2
    go_ret
    exact ⟨rfl, L, H.out.did, rfl⟩
  | true =>
    rw [if_pos rfl, if_pos rfl]
    rw [hd] at R
    obtain ⟨i, rfl, hi⟩ := isDir_nat hd
    rw [Int.toNat_natCast]
    have hTk : 0 ≤ (D i).tkT ∧ (D i).tkT ≤ ck := by
      unfold Dev.tkT
      split
      · exact hT i hi _ (by have := (h.ok i hi).ring 4 (by omega) (by omega); omega)
      · omega
    have hFl : (D i).tkF.length ≤ 274 := by
      unfold Dev.tkF
      split
      · exact (h.ok i hi).txf _ (by have := (h.ok i hi).ring 4 (by omega) (by omega); omega)
      · simp
    have hli := hl i hi
    have okk := (h.ok i hi).tk
    have hd1 : DevAt LN (fun g => ρ g ≠ 0 ∨ w.heap.size ≤ g) w (dv i) (D i) := (h.dev i hi).avoid (fun x hx e => e.elim id (fun e => by omega)) (.inl (h.dev i hi).mem)
    have X := hide (Take_any hd1 (h.ok i hi))
    have ce := h.ends i hi
    have hi2 : (i : Int) < 2 := by omega
    have H := hide h
    have HH := hide (And.intro hTk (And.intro hFl (And.intro hli okk)))
    obtain ⟨er, her⟩ : ∃ er, er = (D i).tkE := ⟨_, rfl⟩
    obtain ⟨F, hF⟩ : ∃ F, F = (D i).tkF := ⟨_, rfl⟩
    obtain ⟨tk, htk⟩ : ∃ tk, tk = (D i).tkT := ⟨_, rfl⟩
    have PN : Hid (er ≠ 0 → plA (ab L) D ck (i : Int) = ab L) := fun e => plA_no (by rw [Int.toNat_natCast, ← her]; exact e)
    have PO : Hid (old ck tk = true → plA (ab L) D ck (i : Int) = ab L) := fun e => plA_old (by rw [Int.toNat_natCast, ← htk]; exact e)
    have PW : Hid (Hid (er = 0) → old ck tk = false → plA (ab L) D ck (i : Int) = upd (ab L) i (ab L i ++ [⟨F, false, tk⟩])) := fun e e2 => by rw [hF, htk]; exact plA_new hi (by rw [← her]; exact e.out) (by rw [← htk]; exact e2)
    rw [← her, ← hF, ← htk] at X
    rw [← her]
    rw [← hF, ← htk] at HH
    generalize plA (ab L) D ck (i : Int) = PL at *
    clear h hd1 okk hTk hFl hli hT hl hd her hF htk
    go_enter Try.func22, Try.ntmps22
    go_wp2_with fail
    refine R.out.mono ?_
    rintro e w' ⟨rfl, rfl⟩
    go_wp2_with fail
    refine X.out.mono ?_
    rintro e w1 ⟨a, c, rfl, hG, hd1, hb1⟩
    clear R X
    have n1 : Net (role7 ρ (.slice a F.length c) i) w1 b dv ck L (upd D i (D i).tkD) := H.out.acts' i hi hd1 HH.out.2.2.2 hb1 (role7_low (fun k e => (hG.blk k e).1)) (role7_lt (fun k e => (hG.blk k e).2) (fun g e => Nat.lt_of_lt_of_le (H.out.lt g e) hb1.size))
    have t1 := T3.new w1 (.slice a F.length c) (.bool false) (.int .i64 tk) 48
    have n2 := n1.al (.cells #[.slice a F.length c, .bool false, .int .i64 tk] 48)
    have g2 : Gro 0 (w1.alloc (.cells #[.slice a F.length c, .bool false, .int .i64 tk] 48)) (.slice a F.length c) F := hG.low.keep (K := fun _ => False) ((But.refl _ w1).alloc _) (fun _ _ => id)
    have hb2 : But (Ro ρ) w' (w1.alloc (.cells #[.slice a F.length c, .bool false, .int .i64 tk] 48)) := But.alloc (hb1.mono (fun g e => by have e : g = dv i := e; unfold Ro; rw [e, H.out.rd i hi]; omega)) _
    have BK : Hid (∀ k, (Value.slice a F.length c).ownBlock = some k → w'.heap.size ≤ k) := fun k e => (hG.blk k e).1
    by_cases e0 : er = 0
    · subst e0
      have O := hide (isOld_any n2.clock tk hck ⟨HH.out.1.1, by have := HH.out.1.2; omega⟩)
      obtain ⟨s, hs⟩ : ∃ s, s = w1.heap.size := ⟨_, rfl⟩
      rw [← hs] at t1
      obtain ⟨x0, x1, x2, y0, y1, y2⟩ := t1
      have T2 : Hid (T3 _ s (.slice a F.length c) (.bool false) (.int .i64 tk)) := ⟨x0, x1, x2, y0, y1, y2⟩
      obtain ⟨v, hv, _⟩ := n2.ls i hi
      have N2 := hide n2
      have G2 := hide g2
      have B2 := hide hb2
      clear n1 n2 g2 hb1 hb2 hd1 hG
      have hs' := hs
      clear hs
      go_wp2_with fail
      rw [← hs']
      clear hs'
      generalize w1.alloc (.cells #[.slice a F.length c, .bool false, .int .i64 tk] 48) = w2 at *
      refine O.out.mono ?_
      rintro e w3 ⟨rfl, rfl⟩
      cases ho : old ck tk with
      | true =>
        have N3 := N2
        have P2 := hide (PO.out ho)
        clear ho
        go_wp2
        go_ret
        exact ⟨rfl, L, did_trans (role7_low BK.out) B2.out N3.out.did, P2.out.symm⟩
      | false =>
        have hsl : s < w3.heap.size := World.block_lt_of_cell? w3 _ x0
        have n3 := (N2.out.al (.cells #[.slice a F.length c, .bool false, .int .i64 tk] 48)).drew
        have t3 := (T3.new w3 (.slice a F.length c) (.bool false) (.int .i64 tk) 48).but (K := fun _ => False) ((But.refl _ _).drew) id
        have g3 : Gro 0 (w3.alloc (.cells #[.slice a F.length c, .bool false, .int .i64 tk] 48)).drew (.slice a F.length c) F := G2.out.keep (K := fun _ => False) ((But.refl _ w3).alloc _).drew (fun _ _ => id)
        have hv3 : (w3.alloc (.cells #[.slice a F.length c, .bool false, .int .i64 tk] 48)).drew.cell? ⟨b, 3 + i, none⟩ = some v := (((But.refl (fun _ => False) w3).alloc (.cells #[.slice a F.length c, .bool false, .int .i64 tk] 48)).drew.cell (p := ⟨b, 3 + i, none⟩) N2.out.blt id).trans hv
        obtain ⟨g', c', w4, hrun, k0, k1, hD⟩ := push_run n3 i hi v hv3 (.slice a F.length c, ⟨F, false, tk⟩) g3 role7_at (fun q hq k e e2 => by
          obtain ⟨v0, _, hL0⟩ := H.out.ls i hi
          have h1 := ((hL0.fr q hq).1.blk k e).2
          have h2 := BK.out k e2
          omega) HH.out.2.1 HH.out.2.2.1 _ t3
        have HR := hide hrun
        have HD := hide hD
        obtain ⟨va, vc, hvs⟩ : ∃ va vc, v = .slice va (L i).length vc := by
          obtain ⟨v', hv', hL'⟩ := N2.out.ls i hi
          rw [hv] at hv'; cases hv'
          exact hL'.row.shape
        subst hvs
        have P2 := hide (PW.out (hide trivial) ho)
        clear hrun hD n3 t3 g3 hv3 O ho
        have hi0 : (0 : Int) ≤ (i : Int) := by omega
        have hblt := N2.out.blt
        go_wp2
        go_region_law (refine step_app rfl 56 _ _ rfl rfl _ _ _ _ (by simp [Act.eval]) (by simp [Act.eval]) HR.out ?_)
        all_goals go_wp2
        all_goals go_ret
        all_goals refine ⟨rfl, _, did_trans (role7_low BK.out) B2.out (did_trans (fun _ _ => rfl) ((But.refl _ w3).alloc _).drew HD.out), ?_⟩
        all_goals rw [P2.out, ab_upd, List.map_append]
        all_goals rfl
    · have q : (er != 0) = true := by simp [e0]
      have P2 := hide (PN.out e0)
      have N2 := hide n2
      have B2 := hide hb2
      clear n1 n2 g2 hb1 hb2 hd1 hG t1
      go_wp2
      go_ret
      exact ⟨rfl, L, did_trans (role7_low BK.out) B2.out N2.out.did, P2.out.symm⟩
end
end Go.Proofs.Ytghojbgjmpjhgaa
