
/-
  The document's answer for the wire: Tick.
-/
import Derived.Test.YtghojbgjmpjhgaaV9
namespace Go.Proofs.Ytghojbgjmpjhgaa
open Go.RowKit

def LLs (ck : Int) (L : Nat → List (Value × Frm)) (m : Nat) : Nat → List (Value × Frm) := fun k => if k < m then youngs ck (L k) else L k
def DDs (ck : Int) (D : Nat → Dev) (m : Nat) : Nat → Dev := fun k => if k < m then lg 16 ck (D k).tick else D k
theorem LLs_zero (ck : Int) (L : Nat → List (Value × Frm)) : LLs ck L 0 = L := by funext k; simp [LLs]
theorem DDs_zero (ck : Int) (D : Nat → Dev) : DDs ck D 0 = D := by funext k; simp [DDs]
theorem LLs_at (ck : Int) (L : Nat → List (Value × Frm)) (m : Nat) : LLs ck L m m = L m := by simp [LLs]
theorem DDs_at (ck : Int) (D : Nat → Dev) (m : Nat) : DDs ck D m m = D m := by simp [DDs]
theorem LLs_succ (ck : Int) (L : Nat → List (Value × Frm)) (m : Nat) : upd (LLs ck L m) m (youngs ck (L m)) = LLs ck L (m + 1) := by
  funext k; unfold upd LLs
  by_cases e : k = m
  · subst e; simp
  · rw [if_neg e]
    by_cases e2 : k < m
    · rw [if_pos e2, if_pos (by omega)]
    · rw [if_neg e2, if_neg (by omega)]
theorem DDs_succ (ck : Int) (D : Nat → Dev) (m : Nat) : upd (DDs ck D m) m (lg 16 ck (D m).tick) = DDs ck D (m + 1) := by
  funext k; unfold upd DDs
  by_cases e : k = m
  · subst e; simp
  · rw [if_neg e]
    by_cases e2 : k < m
    · rw [if_pos e2, if_pos (by omega)]
    · rw [if_neg e2, if_neg (by omega)]
theorem DDs_two (ck : Int) (D : Nat → Dev) : DDs ck D 2 = tiD D ck := by
  unfold tiD
  rw [← DDs_succ, ← DDs_succ, DDs_zero]
theorem LLs_two (ck : Int) (L : Nat → List (Value × Frm)) : ab (LLs ck L 2) = tiA (ab L) ck := by
  unfold tiA
  rw [← LLs_succ, ← LLs_succ, LLs_zero, ab_upd, ab_upd, map_youngs, map_youngs]; rfl
theorem upd_upd {α : Type} (f : Nat → α) (k : Nat) (u v : α) : upd (upd f k u) k v = upd f k v := by
  funext i; unfold upd; split <;> rfl

theorem youngs_step {ck : Int} {l : List (Value × Frm)} {m : Nat} {p : Value × Frm} (h : l[m]? = some p) : youngs ck (l.take (m + 1)) = if old ck p.2.tick = true then youngs ck (l.take m) else youngs ck (l.take m) ++ [p] := by
  have e : l.take (m + 1) = l.take m ++ [p] := by rw [List.take_add_one, h]; rfl
  rw [e]; unfold youngs fresh
  rw [List.filter_append]
  by_cases c : old ck p.2.tick = true
  · rw [if_pos c]; simp [c]
  · rw [if_neg c]; simp only [Bool.not_eq_true] at c; simp [c]

section
variable {ρ : Nat → Nat} {w : World} {b : Nat} {dv : Nat → Nat} {ck : Int} {L : Nat → List (Value × Frm)} {D : Nat → Dev}
theorem RNet.setClock (h : RNet ρ w b dv ck L D) (c : Int) : RNet ρ (w.setCell ⟨b, 4, none⟩ (.int .i64 c)) b dv c L D := by
  have hb : But (Only b) w (w.setCell ⟨b, 4, none⟩ (.int .i64 c)) := (But.refl (Only b) w).setCell (p := ⟨b, 4, none⟩) (.inr rfl) _
  have cb : ∀ j, j ≠ 4 → (w.setCell ⟨b, 4, none⟩ (.int .i64 c)).cell? ⟨b, j, none⟩ = w.cell? ⟨b, j, none⟩ := fun j hj => World.cell?_setCell_other _ _ _ _ (by intro q; have q : (4 : Nat) = j := congrArg Addr.off q; omega)
  refine ⟨fun g e => Nat.lt_of_lt_of_le (h.lt g e) hb.size, h.rb, h.rd, World.cell?_setCell_same' _ _ _ (by rw [h.clock]; rfl), fun i hi => (cb _ (by omega)).trans (h.ends i hi), fun i => by rw [World.frozen?_setCell]; exact h.fz i, fun i hi => ?_, fun i hi => ?_, h.ok, h.fl⟩
  · obtain ⟨v, hv, hL⟩ := h.ls i hi
    exact ⟨v, (cb _ (by omega)).trans hv, hL.but hb (fun g e => by have e : g = b := e; rw [e, h.rb]; omega) (fun _ _ => rfl)⟩
  · exact (h.dev i hi).ext hb (fun g e => by have e : g = b := e; rw [e, h.rb]; omega) (fun e => by have e : dv i = b := e; have h1 := h.rd i hi; rw [e, h.rb] at h1; omega) (fun _ _ => rfl)

theorem RNet.devTick (h : RNet ρ w b dv ck L D) (i : Nat) (hi : i < 2) : RNet ρ (w.setCell ⟨dv i, 104, none⟩ (.int .i64 (wrap64 ((D i).clock + 1)))) b dv ck L (upd D i (D i).tick) :=
  h.acts i hi ((h.dev i hi).setClock LR_ok _) (h.ok i hi).tick ((But.refl (Only (dv i)) w).setCell (p := ⟨dv i, 104, none⟩) (.inr rfl) _)

theorem upd_again {α : Type} (f : Nat → α) (k : Nat) (u v : α) : upd (upd f k u) k v = upd f k v := upd_upd f k u v

set_option maxRecDepth 100000 in
set_option maxHeartbeats 8000000 in
theorem rTick_any (h : RNet ρ w b dv ck L D) (hck : 0 ≤ ck ∧ ck ≤ 4611686018427387903) (hl : ∀ i, i < 2 → (L i).length ≤ 2513169434843) :
    Calls Try.prog 40 #[.pointer (some ⟨b, 0, none⟩)] w fun e w' => e = .returned (.tuple #[]) ∧ ∃ L', RDid ρ w w' b dv (ck + 1) L' (tiD D (ck + 1)) ∧ ab L' = tiA (ab L) (ck + 1) := by
  have c0 := h.clock
  have f0 := h.fz 4
  have N1 := hide (h.setClock (ck + 1))
  have B1 : Hid (But (RRo ρ) w (w.setCell ⟨b, 4, none⟩ (.int .i64 (ck + 1)))) := (But.refl _ w).setCell (p := ⟨b, 4, none⟩) (.inr (by unfold RRo; simp only; rw [h.rb]; omega)) _
  have HL := hide hl
  clear h hl
  have hck2 : ck + 1 ≤ 4611686018427387904 := by omega
  go_enter Try.func40, Try.ntmps40
  go_wp2
  go_loopw [2] (fun v wr => ∃ (m : Nat) (ρ1 : Nat → Nat), v = .int .i64 (m : Int) ∧ m ≤ 2 ∧ Hid (RNet ρ1 wr b dv (ck + 1) (LLs (ck + 1) L m) (DDs (ck + 1) D m)) ∧ Hid (∀ g, g < w.heap.size → ρ1 g = ρ g) ∧ Hid (But (RRo ρ) w wr)) (fun v _ => 2 - (intOf v).toNat)
  case atStart => exact ⟨0, ρ, rfl, by omega, by rw [LLs_zero, DDs_zero]; exact N1.out, fun _ _ => rfl, B1.out⟩
  case round =>
    obtain ⟨m, ρ1, rfl, hm, hN, hE, hB⟩ := hrel
    clear N1 B1 c0 f0
    by_cases hlt : m < 2
    · have hmi : (m : Int) < 2 := by omega
      have hm0 : (0 : Int) ≤ (m : Int) := by omega
      have ce := hN.out.ends m hlt
      have cck := (hN.out.dev m hlt).cclock LR_ok
      have fck := (hN.out.dev m hlt).frozen 104
      rw [DDs_at] at cck
      have cck : wr.cell? ⟨dv m, 104, none⟩ = some (.int .i64 (D m).clock) := cck
      have n2 := hN.out.devTick m hlt
      rw [DDs_at] at n2
      have BN : Hid (But (RRo ρ1) wr (wr.setCell ⟨dv m, 104, none⟩ (.int .i64 (wrap64 ((D m).clock + 1))))) := (But.refl _ wr).setCell (p := ⟨dv m, 104, none⟩) (.inr (by unfold RRo; simp only; rw [hN.out.rd m hlt]; omega)) _
      have N2 := hide n2
      clear n2
      generalize hdc : (D m).clock = dck at *
      clear hdc
      go_upto_region 5 with fail
      generalize wr.setCell ⟨dv m, 104, none⟩ (.int .i64 (wrap64 (dck + 1))) = w2 at *
      clear ce cck fck
      obtain ⟨vl, hvl, hLv⟩ := N2.out.ls m hlt
      rw [LLs_at] at hLv
      obtain ⟨la, lc, rfl⟩ := hLv.row.shape
      have hblt := N2.out.blt
      have cc2 := N2.out.clock
      have HFr : Hid (∀ p ∈ L m, ∃ a c, p.1 = .slice a p.2.bs.length c) := fun p hp => by obtain ⟨a, c, e, _⟩ := (hLv.fr p hp).shape; exact ⟨a, c, e⟩
      have HRW := hide hLv.row
      have hll := HL.out m hlt
      clear hLv
      generalize hlm : L m = l at *
      have HLM := hide hlm
      clear hlm
      go_wp2
      go_loopw [3, 4] (fun v3 v4 wq => ∃ (k : Nat) (a : Option Addr) (c : Nat), v4 = .int .i64 (k : Int) ∧ v3 = .slice a (youngs (ck + 1) (l.take k)).length c ∧ k ≤ l.length ∧ Hid (wq.ownsRow w2.heap.size 48 3 (.slice a (youngs (ck + 1) (l.take k)).length c) (youngs (ck + 1) (l.take k)).length (flat (youngs (ck + 1) (l.take k)))) ∧ Hid (Below w2.heap.size w2 wq)) (fun _ v4 _ => l.length - (intOf v4).toNat)
      case atStart => exact ⟨0, none, 0, rfl, by simp [youngs], Nat.zero_le _, by unfold Hid; simpa [flat_nil, youngs] using World.ownsRow_nil w2 w2.heap.size 48 3, Below.refl _ _⟩
      case round =>
        obtain ⟨k, a, c, rfl, rfl, hk, hR, hBq⟩ := hrel
        have xv := (hBq.out.cell (p := ⟨b, 2 + m, none⟩) hblt).trans hvl
        have xc := (hBq.out.cell (p := ⟨b, 4, none⟩) hblt).trans cc2
        by_cases hkl : k < l.length
        · obtain ⟨p, hp⟩ : ∃ p, l[k]? = some p := ⟨_, List.getElem?_eq_getElem hkl⟩
          have hki : (k : Int) < (l.length : Int) := by omega
          have hk0 : (0 : Int) ≤ (k : Int) := by omega
          have hli : (l.length : Int) ≤ 2513169434843 := by omega
          have ST := hide (youngs_step (ck := ck + 1) hp)
          obtain ⟨pa, pc, epv⟩ := HFr.out p (List.mem_of_getElem? hp)
          obtain ⟨pv, f⟩ := p
          simp only at epv
          subst epv
          have hrow : Row3 wr (.slice la l.length lc) l := row_keep HRW.out (But.of_below (K := fun _ => False) hBq.out) (fun _ _ => id)
          obtain ⟨f0, f1, f2⟩ := flat_get l k _ hp
          obtain ⟨g, rfl⟩ : ∃ g, la = some ⟨g, 0, none⟩ := by
            obtain ⟨_, ⟨e, e0⟩ | ⟨g, cap, cur, e, _⟩⟩ := hrow
            · omega
            · simp only [Value.slice.injEq] at e; exact ⟨g, e.1⟩
          have r0 : wr.cell? ⟨g, k * 3, none⟩ = some (.slice pa f.bs.length pc) := by rw [World.ownsRow.cellAt hrow _ (by omega)]; exact f0
          have r1 : wr.cell? ⟨g, k * 3 + 1, none⟩ = some (.bool f.bad) := by rw [World.ownsRow.cellAt hrow _ (by omega)]; exact f1
          have r2 : wr.cell? ⟨g, k * 3 + 2, none⟩ = some (.int .i64 f.tick) := by rw [World.ownsRow.cellAt hrow _ (by omega)]; exact f2
          have hck8 : ck + 1 - 8 ≤ 4611686018427387904 := by omega
          clear hrow f0 f1 f2 hp hvl cc2
          cases ho : old (ck + 1) f.tick with
          | true =>
            have hx : f.tick ≤ ck + 1 - 8 := by unfold old at ho; simp only [decide_eq_true_eq] at ho; omega
            have hst := ST.out
            rw [if_pos ho] at hst
            have HS := hide hst
            clear ho hst ST
            go_wp2
            go_quiet (fail)
            go_wp2
            have bq : But (fun _ => False) wr (wr.drewN nq) := ⟨rfl, rfl, rfl, Nat.le_refl _, fun _ _ _ => rfl⟩
            go_roundw
            case rel => exact ⟨k + 1, a, c, by go_num, by rw [HS.out], by omega, by rw [HS.out]; exact row_keep hR.out bq (fun _ _ => id), hBq.out.trans ⟨rfl, rfl, rfl, Nat.le_refl _, fun _ _ => rfl⟩⟩
            case measure => simp [intOf]; omega
          | false =>
            have hx : ck + 1 - 8 < f.tick := by unfold old at ho; simp only [decide_eq_false_iff_not] at ho; omega
            have hst := ST.out
            rw [if_neg (by rw [ho]; simp)] at hst
            clear ho ST
            go_wp2
            go_quiet (fail)
            have bq : But (fun _ => False) wr (wr.drewN nq) := ⟨rfl, rfl, rfl, Nat.le_refl _, fun _ _ _ => rfl⟩
            have R4 : Hid ((wr.drewN nq).ownsRow w2.heap.size 48 3 (.slice a (youngs (ck + 1) (l.take k)).length c) (youngs (ck + 1) (l.take k)).length (flat (youngs (ck + 1) (l.take k)))) := row_keep hR.out bq (fun _ _ => id)
            have B4 : Hid (Below w2.heap.size w2 (wr.drewN nq)) := hBq.out.trans ⟨rfl, rfl, rfl, Nat.le_refl _, fun _ _ => rfl⟩
            have hgl := World.block_lt_of_cell? wr _ r0
            have hbl := World.block_lt_of_cell? wr _ xv
            have xv4 := (bq.cell (p := ⟨b, 2 + m, none⟩) hbl id).trans xv
            have s0 := (bq.cell (p := ⟨g, k * 3, none⟩) hgl id).trans r0
            have s1 := (bq.cell (p := ⟨g, k * 3 + 1, none⟩) hgl id).trans r1
            have s2 := (bq.cell (p := ⟨g, k * 3 + 2, none⟩) hgl id).trans r2
            clear bq r0 r1 r2 xv xc hR hBq hgl hbl
            generalize wr.drewN nq = w4 at *
            obtain ⟨inf, hin, hz0, hz1, hz2⟩ := info_parts info_ow
            have t3 := T3.new w4 (.slice pa f.bs.length pc) (.bool f.bad) (.int .i64 f.tick) 48
            obtain ⟨cur, hcur⟩ : ∃ cur, cur = youngs (ck + 1) (l.take k) := ⟨_, rfl⟩
            rw [← hcur] at R4 hst ⊢
            have hcl : cur.length ≤ k := by rw [hcur]; exact Nat.le_trans (List.length_filter_le _ _) (by rw [List.length_take]; omega)
            obtain ⟨g', c', w', hrun, hrow', hb', hg', _, _⟩ := run_more 56 48 inf (.agg #[.slice none 0 0, .bool false, .int .i64 0]) 3 40 Try.underlying56 hin hz0 hz1 hz2 rfl (by omega) (World.ownsRow.alloc R4.out (.cells #[.slice pa f.bs.length pc, .bool f.bad, .int .i64 f.tick] 48)) ⟨w4.heap.size, 0, none⟩ 1 1 (cel (.slice pa f.bs.length pc, f)) rfl (fun j u hu => by
                have hj : j < 3 := (List.getElem?_eq_some_iff.1 hu).1
                rw [Addr.add_lit]
                have : j = 0 ∨ j = 1 ∨ j = 2 := by omega
                rcases this with rfl | rfl | rfl
                · rw [← hu]; exact t3.c0
                · rw [← hu]; exact t3.c1
                · rw [← hu]; exact t3.c2) (fun u hu => by
                simp only [cel, List.mem_cons, List.not_mem_nil, or_false] at hu
                rcases hu with rfl | rfl | rfl <;> rfl) (by omega) (by have := B4.out.size; simp; omega) (by unfold maxLen; omega) (by omega)
            have hown : ∀ x, (Value.slice a cur.length c).ownBlock = some x → w2.heap.size ≤ x := fun x e => (World.ownsRow.lt R4.out x e).1
            have HB2 : Hid (Below w2.heap.size w2 w') := (B4.out.trans (((Below.refl _ w4).alloc (Nat.le_refl _) _).mono B4.out.size)).trans (hb'.below (by have := B4.out.size; simp; omega) (fun x hx e => by have := hown x e; omega))
            have HR := hide hrun
            have HROW : Hid (w'.ownsRow w2.heap.size 48 3 (.slice (some ⟨g', 0, none⟩) (cur.length + 1) c') (cur.length + 1) (flat (cur ++ [(.slice pa f.bs.length pc, f)]))) := by rw [flat_append]; exact hrow'
            have HS := hide hst
            clear hrun hrow' hb' hg' hst hcur t3 hin hz0 hz1 hz2
            go_wp2_with (at_builtin; refine wpList_app rfl _ _ 56 rfl _ _ rfl rfl HR.out ?_)
            go_roundw
            case rel => exact ⟨k + 1, some ⟨g', 0, none⟩, c', by go_num, by rw [HS.out]; simp, by omega, by rw [HS.out, List.length_append]; exact HROW.out, HB2.out⟩
            case measure => simp [intOf]; omega
        · obtain rfl : k = l.length := by omega
          have hR2 := hR.out
          rw [List.take_length] at hR2 ⊢
          have xf := ((But.of_below (K := fun _ => False) hBq.out).frozen (p := ⟨b, 2 + m, none⟩) hblt id).trans (N2.out.fz (2 + m))
          obtain ⟨ρ3, n3, he3, hb3⟩ := N2.out.fresh m hlt hBq.out hR2 (fun p hp => by rw [LLs_at, HLM.out]; exact (List.mem_filter.1 hp).1)
          have N3 := hide n3
          have E3 : Hid (∀ g, g < w.heap.size → ρ3 g = ρ g) := fun g hg => (he3 g (Nat.lt_of_lt_of_le hg (Nat.le_trans hB.out.size BN.out.size))).trans (hE.out g hg)
          have B3 : Hid (But (RRo ρ) w (wr.setCell ⟨b, 2 + m, none⟩ (.slice a (youngs (ck + 1) l).length c))) := by
            have h1 := BN.out.trans hb3
            refine hB.out.trans' h1 (fun g hg e => ?_)
            unfold RRo at e ⊢
            rw [← hE.out g hg]; exact e
          clear hR hR2 n3 he3 hb3 hBq hvl cc2 xc BN N2 hB hE hN HRW HFr
          go_upto_region 12 with fail
          generalize wr.setCell ⟨b, 2 + m, none⟩ (.slice a (youngs (ck + 1) l).length c) = w3 at *
          clear xv xf
          have FIN : Hid (∀ (W : World) (D' : Dev), RNet ρ3 W b dv (ck + 1) (upd (LLs (ck + 1) L m) m (youngs (ck + 1) l)) (upd (upd (DDs (ck + 1) D m) m (D m).tick) m D') → D' = lg 16 (ck + 1) (D m).tick → But (RRo ρ3) w3 W → RNet ρ3 W b dv (ck + 1) (LLs (ck + 1) L (m + 1)) (DDs (ck + 1) D (m + 1)) ∧ But (RRo ρ) w W) := by
            intro W D' hn hd hb
            subst hd
            rw [upd_again, DDs_succ, ← HLM.out, LLs_succ] at hn
            refine ⟨hn, B3.out.trans' hb (fun g hg e => ?_)⟩
            unfold RRo at e ⊢
            rw [← E3.out g hg]; exact e
          have MEA : Hid (∀ (W : World) (D' : Dev), RNet ρ3 W b dv (ck + 1) (upd (LLs (ck + 1) L m) m (youngs (ck + 1) l)) (upd (upd (DDs (ck + 1) D m) m (D m).tick) m D') → (cellI W (dv m) 5 + 16 - cellI W (dv m) 4).toNat % 16 = spnD D') := by
            intro W D' hn
            have hd := hn.dev m hlt
            rw [upd_same] at hd
            unfold cellI spnD
            rw [hd.creg 5 (by omega), hd.creg 4 (by omega)]; rfl
          generalize hLX : upd (LLs (ck + 1) L m) m (youngs (ck + 1) l) = LX at *
          generalize hDX : upd (DDs (ck + 1) D m) m (D m).tick = DX at *
          have HDX := hide hDX
          clear hLX hDX
          go_wp2
          go_loopw [5] (fun _ wz => ∃ (D' : Dev) (n : Nat), Hid (RNet ρ3 wz b dv (ck + 1) LX (upd DX m D')) ∧ Hid (lg 16 (ck + 1) (D m).tick = lg n (ck + 1) D') ∧ spnD D' < n ∧ Hid (But (RRo ρ3) w3 wz)) (fun _ wz => (cellI wz (dv m) 5 + 16 - cellI wz (dv m) 4).toNat % 16)
          case atStart =>
            refine ⟨(D m).tick, 16, ?_, rfl, ?_, But.refl _ _⟩
            · rw [← HDX.out, upd_again]; rw [← HDX.out] at N3; exact N3.out
            · unfold spnD; omega
          case round =>
            obtain ⟨D', n, hN4, hG, hsp, hB4⟩ := hrel
            have ce := hN4.out.ends m hlt
            have cc := hN4.out.clock
            have okD := hN4.out.ok m hlt
            have dD := hN4.out.dev m hlt
            rw [upd_same] at okD dD
            have OL := hide (rOldest_any dD okD)
            have TK := hide (rTake_any dD okD)
            have OKD := hide okD
            have ME := hide (MEA.out wr D' hN4.out)
            have hck8 : ck + 1 - 8 ≤ 4611686018427387904 := by omega
            clear okD dD
            go_wp2_with fail
            refine OL.out.mono ?_
            rintro e wy ⟨rfl, rfl⟩
            clear OL
            cases hol : D'.olB with
            | false =>
              obtain ⟨hn5, hb5⟩ := FIN.out wy D' hN4.out (by rw [hG.out, lg_stay (by rw [hol]; simp)]) hB4.out
              have N5 := hide hn5
              have B5 := hide hb5
              clear hn5 hb5 hol TK
              go_wp2
              go_roundw
              case rel => exact ⟨m + 1, ρ3, by go_num, by omega, N5.out, E3.out, B5.out⟩
              case measure => simp [intOf]; omega
            | true =>
              cases ho : old (ck + 1) D'.olT with
              | false =>
                have hx : ck + 1 - 8 < D'.olT := by unfold old at ho; simp only [decide_eq_false_iff_not] at ho; omega
                obtain ⟨hn5, hb5⟩ := FIN.out wy D' hN4.out (by rw [hG.out, lg_stay (by rw [ho]; simp)]) hB4.out
                have N5 := hide hn5
                have B5 := hide hb5
                clear hn5 hb5 hol ho TK
                go_wp2
                go_roundw
                case rel => exact ⟨m + 1, ρ3, by go_num, by omega, N5.out, E3.out, B5.out⟩
                case measure => simp [intOf]; omega
              | true =>
                have hx : D'.olT ≤ ck + 1 - 8 := by unfold old at ho; simp only [decide_eq_true_eq] at ho; omega
                have HOO := hide (And.intro hol ho)
                clear hol ho
                go_wp2_with fail
                refine TK.out.mono ?_
                rintro e wx ⟨ta, tc, rfl, hv5, hd5, hb5⟩
                have N5 := hide ((hN4.out.acts m hlt hd5 OKD.out.tk hb5).al (.cells #[.slice ta D'.tkF.length tc, .bool false, .int .i64 D'.tkT] 48))
                have B5 : Hid (But (RRo ρ3) w3 (wx.alloc (.cells #[.slice ta D'.tkF.length tc, .bool false, .int .i64 D'.tkT] 48))) := But.alloc (hB4.out.trans (hb5.mono (fun g e => by have e : g = dv m := e; unfold RRo; rw [e, hN4.out.rd m hlt]; omega))) _
                clear hv5 hd5 hb5 TK ce cc
                by_cases e0 : D'.tkE = 0
                · rw [e0]
                  have hlg := lg_go (n := n - 1) ⟨HOO.out.1, HOO.out.2, e0⟩
                  have hs1 := spn_tk OKD.out e0
                  rw [show n - 1 + 1 = n by omega] at hlg
                  have N6 := N5.out
                  rw [upd_again] at N6
                  have ME6 := hide (MEA.out _ D'.tkD N6)
                  have HN6 := hide N6
                  have HG6 : Hid (lg 16 (ck + 1) (D m).tick = lg (n - 1) (ck + 1) D'.tkD) := by rw [hG.out]; exact hlg
                  have HS1 := hide hs1
                  clear e0 hlg N6 hs1
                  go_wp2
                  go_roundw
                  case rel => exact ⟨D'.tkD, n - 1, HN6.out, HG6.out, by have := HS1.out; omega, B5.out⟩
                  case measure => rw [ME.out, ME6.out]; have := HS1.out; omega
                · have qe : (D'.tkE != 0) = true := by simp [e0]
                  have N6 := N5.out
                  have etk : D'.tkD = D' := by unfold Dev.tkD; rw [if_neg e0]
                  rw [upd_again, etk] at N6
                  obtain ⟨hn7, hb7⟩ := FIN.out _ D' N6 (by rw [hG.out, lg_stay (by intro e; exact e0 e.2.2)]) B5.out
                  have N7 := hide hn7
                  have B7 := hide hb7
                  clear e0 N6 etk hn7 hb7
                  generalize D'.tkE = er at *
                  go_wp2
                  go_roundw
                  case rel => exact ⟨m + 1, ρ3, by go_num, by omega, N7.out, E3.out, B7.out⟩
                  case measure => simp [intOf]; omega
    · obtain rfl : m = 2 := by omega
      go_wp2
      go_end0
      refine ⟨rfl, LLs (ck + 1) L 2, ⟨ρ1, ?_, hE.out, hB.out⟩, LLs_two _ _⟩
      rw [← DDs_two]; exact hN.out
end
end Go.Proofs.Ytghojbgjmpjhgaa
