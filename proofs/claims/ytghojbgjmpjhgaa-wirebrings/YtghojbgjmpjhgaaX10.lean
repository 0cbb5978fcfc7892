
/-
  awake: the chapter's example.
-/
import Derived.Test.YtghojbgjmpjhgaaX6
import Derived.Test.YtghojbgjmpjhgaaX9
namespace Go.Proofs.Ytghojbgjmpjhgaa
open Go.RowKit

theorem below_mine {ρ : Nat → Nat} {W w w' : World} (h : Below W.heap.size W w) (hb : But (Mine ρ) w w') (hl : ∀ g, ρ g ≠ 0 → W.heap.size ≤ g) : Below W.heap.size W w' :=
  h.trans (hb.below h.size (fun x hx e => by have := hl x e; omega))
theorem ro_mine {ρ : Nat → Nat} {w w' : World} (h : But (Ro ρ) w w') : But (Mine ρ) w w' := mid_mine (ro_mid h)

section
variable {P : Pl} {ρ : Nat → Nat} {w w' : World} {ck : Int} {L R : Nat → List (Value × Frm)} {D : Nat → Dev} {T F : Nat → Nat} {m : Nat}
/-- a call of the program's wire alone -/
theorem Half.did (h : Half P ρ w ck L D T F m) {ck' : Int} {L' : Nat → List (Value × Frm)} {D' : Nat → Dev} {m' : Nat} (d : Did ρ w w' P.b P.dv ck' L' D') (hi : Inv ck' (ab L') D' m') :
    ∃ ρ', Half P ρ' w' ck' L' D' T F m' ∧ (∀ g, g < w.heap.size → ρ' g = ρ g) ∧ But (Mine ρ) w w' := by
  obtain ⟨ρ3, n3, e3, b3⟩ := d
  refine ⟨ρ3, ⟨n3, h.c.but b3 (fun e => by have := h.rx; omega), (e3 _ h.c.lt).trans h.rx, fun g e => ?_, hi⟩, e3, ro_mine b3⟩
  by_cases hg : g < w.heap.size
  · exact h.low g (by rw [← e3 g hg]; exact e)
  · have := h.low P.x (by rw [h.rx]; omega)
    have := h.c.lt
    omega
theorem Half.fresh0 (h : Half P ρ w ck L D T F m) : ρ w.heap.size = 0 := by
  by_cases e : ρ w.heap.size = 0
  · exact e
  · exact absurd (h.n.lt _ e) (Nat.lt_irrefl _)
end

/-- the device behind the frame 'x' -/
def Dx : Dev := (Dn.stD 0 [120]).wrD 5 1
theorem dx_e : Dn.stE 0 [120] = 0 := by decide
theorem dx_tk : Dx.tkE = 0 := by decide
theorem dx_f : Dx.tkF = [120] := by decide
theorem dx_t : Dx.tkT = 0 := by decide

set_option maxRecDepth 100000 in
set_option maxHeartbeats 4000000 in
theorem awake_any (w : World) : Calls Try.prog 7 #[] w fun e w' => e = .returned (.bool true) ∧ Below w.heap.size w w' := by
  have cv := conv_same
  go_enter Try.func7, Try.ntmps7
  go_wp2_with fail
  refine (begun_any w).mono ?_
  rintro e w1 ⟨rfl, ⟨b, rb, dv, rdv, h1⟩, hb1⟩
  obtain ⟨x, hx⟩ : ∃ x, x = w.heap.size := ⟨_, rfl⟩
  obtain ⟨P, hP⟩ : ∃ P : Pl, P = ⟨w.heap.size, b, rb, dv, rdv, w.heap.size⟩ := ⟨_, rfl⟩
  have hPx : P.x = x := by rw [hP, hx]
  have hPn : P.n₀ = w.heap.size := by rw [hP]
  rw [← hP] at h1
  rw [← hx]
  rw [← hPx]
  have H1 := hide h1
  have B1 := hide hb1
  have HPN := hide hPn
  clear h1 hb1 hP hPx hPn hx
  go_upto_region 4 with fail
  have V1 : Hid (IsF (Mine (rho0 w.heap.size b rb dv rdv)) (w1.alloc (.cells #[.int .u8 120] 5 (1, 2))) (.slice (some ⟨w1.heap.size, 0, none⟩) 1 1) [120]) := lit_F w1 [120] _ (fun e => e H1.out.fresh0) (1, 2)
  generalize rho0 w.heap.size b rb dv rdv = ρ at *
  have BL : Hid (Below w1.heap.size w1 (w1.alloc (.cells #[.int .u8 120] 5 (1, 2)))) := (Below.refl _ _).alloc (Nat.le_refl _) _
  have H2 := hide (H1.out.later BL.out)
  have B2 := hide (B1.out.trans (BL.out.mono B1.out.size))
  clear H1 B1
  go_wp2_with fail
  generalize w1.alloc (.cells #[.int .u8 120] 5 (1, 2)) = w2 at *
  refine (rig_post_any H2.out 0 (by omega) (some ⟨w1.heap.size, 0, none⟩) 1 [120] V1.out (by simp) (fun b hb => by rw [List.mem_singleton.1 hb]; decide)).mono ?_
  rintro e w3 ⟨rfl, D3, T3', F3, ⟨ρ3, h3, e3, b3⟩, _, hd3⟩
  have hd3 : D3 0 = Dx := hd3 dx_e
  have B3 := hide (below_mine B2.out b3 (fun g e => by have := H2.out.low g e; rw [HPN.out] at this; exact this))
  have H3 := hide h3.toHalf
  have HD3 := hide hd3
  clear h3 e3 b3 hd3 H2 B2 V1 BL cv
  have c3 := H3.out.c.cw
  have BN3 := hide (H3.out.bounds (by omega))
  have X := Pull_any H3.out.n 0 ⟨BN3.out.1.1, by have := BN3.out.1.2; omega⟩ BN3.out.2.1 BN3.out.2.2.2
  have pe : plE D3 0 = 0 := by unfold plE; rw [if_pos (by decide)]; show (D3 0).tkE = 0; rw [HD3.out]; exact dx_tk
  have pa : plA (ab (fun _ => ([] : List (Value × Frm)))) D3 0 0 = upd (fun _ => []) 0 [⟨[120], false, 0⟩] := by
    have := plA_new (l := ab (fun _ => ([] : List (Value × Frm)))) (D := D3) (ck := 0) (i := 0) (by omega) (by rw [HD3.out]; exact dx_tk) (by rw [HD3.out, dx_t]; decide)
    rw [HD3.out, dx_f, dx_t] at this
    exact this
  have IV := H3.out.i.pull H3.out.n.ok 0
  rw [pe, pa] at X
  rw [pa] at IV
  have HX := hide X
  have HIV := hide IV
  clear X IV pe pa BN3
  go_wp2_with fail
  refine HX.out.mono ?_
  rintro e w4 ⟨rfl, L4, d4, a4⟩
  obtain ⟨ρ4, h4, e4, b4⟩ := H3.out.did d4 (by rw [a4]; exact HIV.out)
  have B4 := hide (below_mine B3.out b4 (fun g e => by have := H3.out.low g e; rw [HPN.out] at this; exact this))
  have H4 := hide h4
  have A4 := hide a4
  clear h4 e4 b4 d4 a4 HX HIV H3 B3 c3
  have c4 := H4.out.c.cw
  have X := Double_any H4.out.n 0 0 (H4.out.bounds (by omega)).2.2.2
  have IV := H4.out.i.double 0 0
  rw [← lens_ab, A4.out] at X
  rw [A4.out] at IV
  rw [show thE (fun i => ((upd (fun _ => ([] : List Frm)) 0 [⟨[120], false, 0⟩]) i).length) 0 0 = 0 from by decide, show dbA (upd (fun _ => ([] : List Frm)) 0 [⟨[120], false, 0⟩]) 0 0 = upd (upd (fun _ => ([] : List Frm)) 0 [⟨[120], false, 0⟩]) 0 [⟨[120], false, 0⟩, ⟨[120], false, 0⟩] from rfl] at X
  rw [show dbA (upd (fun _ => ([] : List Frm)) 0 [⟨[120], false, 0⟩]) 0 0 = upd (upd (fun _ => ([] : List Frm)) 0 [⟨[120], false, 0⟩]) 0 [⟨[120], false, 0⟩, ⟨[120], false, 0⟩] from rfl] at IV
  have HX := hide X
  have HIV := hide IV
  clear X IV
  go_wp2_with fail
  refine HX.out.mono ?_
  rintro e w5 ⟨rfl, L5, d5, a5⟩
  obtain ⟨ρ5, h5, e5, b5⟩ := H4.out.did d5 (by rw [a5]; exact HIV.out)
  have B5 := hide (below_mine B4.out b5 (fun g e => by have := H4.out.low g e; rw [HPN.out] at this; exact this))
  have H5 := hide h5
  have A5 := hide a5
  clear h5 e5 b5 d5 a5 HX HIV H4 B4 c4 A4
  have c5 := H5.out.c.cw
  have X := Damage_any H5.out.n 0 1 0
  have IV := H5.out.i.damage 0 1 0
  rw [A5.out] at X IV
  rw [show dmE (upd (upd (fun _ => ([] : List Frm)) 0 [⟨[120], false, 0⟩]) 0 [⟨[120], false, 0⟩, ⟨[120], false, 0⟩]) 0 1 0 = 0 from by decide] at X
  have ed : dmA (upd (upd (fun _ => ([] : List Frm)) 0 [⟨[120], false, 0⟩]) 0 [⟨[120], false, 0⟩, ⟨[120], false, 0⟩]) 0 1 0 = upd (upd (upd (fun _ => ([] : List Frm)) 0 [⟨[120], false, 0⟩]) 0 [⟨[120], false, 0⟩, ⟨[120], false, 0⟩]) 0 [⟨[120], false, 0⟩, ⟨[121], true, 0⟩] := rfl
  rw [ed] at X IV
  have HX := hide X
  have HIV := hide IV
  clear X IV ed
  go_wp2_with fail
  refine HX.out.mono ?_
  rintro e w6 ⟨rfl, L6, d6, a6⟩
  obtain ⟨ρ6, h6, e6, b6⟩ := H5.out.did d6 (by rw [a6]; exact HIV.out)
  have B6 := hide (below_mine B5.out b6 (fun g e => by have := H5.out.low g e; rw [HPN.out] at this; exact this))
  have H6 := hide h6
  have A6 := hide a6
  clear h6 e6 b6 d6 a6 HX HIV H5 B5 c5 A5
  have c6 := H6.out.c.cw
  have X := See_any H6.out.n 0 1
  rw [look_ab, ← lens_ab, A6.out] at X
  have el : lkA (upd (upd (upd (fun _ => ([] : List Frm)) 0 [⟨[120], false, 0⟩]) 0 [⟨[120], false, 0⟩, ⟨[120], false, 0⟩]) 0 [⟨[120], false, 0⟩, ⟨[121], true, 0⟩]) 0 1 = ⟨[121], true, 0⟩ := rfl
  have et : thE (fun i => ((upd (upd (upd (fun _ => ([] : List Frm)) 0 [⟨[120], false, 0⟩]) 0 [⟨[120], false, 0⟩, ⟨[120], false, 0⟩]) 0 [⟨[120], false, 0⟩, ⟨[121], true, 0⟩]) i).length) 0 1 = 0 := by decide
  rw [el, et] at X
  have HX := hide X
  clear X el et
  go_wp2_with fail
  refine HX.out.mono ?_
  rintro e w7 ⟨fa, fc, rfl, hG, hB⟩
  simp only [List.length_cons, List.length_nil, Nat.zero_add] at hG ⊢
  have T7 := hide (T3.new w7 (.slice fa 1 fc) (.bool true) (.int .i64 0) 48)
  have bl : Below w7.heap.size w7 (w7.alloc (.cells #[.slice fa 1 fc, .bool true, .int .i64 0] 48)) := (Below.refl _ _).alloc (Nat.le_refl _) _
  have H7 := hide ((H6.out.later hB).later bl)
  have B7 := hide ((B6.out.trans (hB.mono B6.out.size)).trans (bl.mono (Nat.le_trans B6.out.size hB.size)))
  have G7 := hide ((hG.isF (A := Mine ρ6) (fun g hg e => by have := H6.out.n.lt g e; omega)).later bl)
  have S7 : Hid (ρ6 w7.heap.size = 0) := (H6.out.later hB).fresh0
  have HA : Hid (∀ j, ∀ f ∈ ab L6 j, f.tick = 0) := fun j f hf => by
    rw [A6.out] at hf
    unfold upd at hf
    split at hf
    · rcases List.mem_cons.1 hf with rfl | hf
      · rfl
      · rcases List.mem_cons.1 hf with rfl | hf
        · rfl
        · cases hf
    · cases hf
  obtain ⟨s, hs⟩ : ∃ s, s = w7.heap.size := ⟨_, rfl⟩
  have hs' := hs
  rw [← hs] at T7 S7
  clear hs hG hB bl H6 B6 c6 HX A6
  go_upto_region 9 with fail
  rw [← hs']
  clear hs'
  generalize w7.alloc (.cells #[.slice fa 1 fc, .bool true, .int .i64 0] 48) = w8 at *
  go_wp2
  go_loopw [8] (fun v wr => ∃ (i : Nat) (ρ' : Nat → Nat) (L' : Nat → List (Value × Frm)) (D' : Nat → Dev), v = .int .i64 (i : Int) ∧ i ≤ 8 ∧ Hid (Half P ρ' wr (i : Int) L' D' T3' F3 (3 + i)) ∧ Hid (ρ' s = 0) ∧ Hid (T3 wr s (.slice fa 1 fc) (.bool true) (.int .i64 0)) ∧ Hid (IsF (Mine ρ') wr (.slice fa 1 fc) [121]) ∧ Hid (Below w.heap.size w wr) ∧ Hid (∀ j, ∀ f ∈ ab L' j, f.tick = 0) ∧ Hid (i = 8 → ab L' 0 = [])) (fun v _ => 8 - (intOf v).toNat)
  case atStart => exact ⟨0, ρ6, L6, _, rfl, by omega, H7.out, S7.out, T7.out, G7.out, B7.out, HA.out, fun e => by omega⟩
  case round =>
    obtain ⟨i, ρ', L', D', rfl, hi, hH, hS, hT, hF, hB, hZ, hE⟩ := hrel
    clear H7 S7 T7 G7 B7 HA
    by_cases hlt : i < 8
    · have zi : (i : Int) < 8 := by omega
      have cx := hH.out.c.cw
      have BN := hide (hH.out.bounds (by omega))
      have X := hide (wTick_any hH.out.n ⟨BN.out.1.1, by have := BN.out.1.2; omega⟩ BN.out.2.1 BN.out.2.2.1 BN.out.2.2.2)
      have IV := hide (hH.out.i.tick (by omega))
      clear BN
      go_wp2_with fail
      refine X.out.mono ?_
      rintro e wt ⟨rfl, Lt, dt, at'⟩
      obtain ⟨ρt, ht, et, bt⟩ := hH.out.did dt (by rw [at']; exact IV.out)
      have sl := T3.lt hT.out
      have Ht : Hid (Half P ρt wt (((i + 1 : Nat)) : Int) Lt (tiD D' ((i : Int) + 1)) T3' F3 (3 + (i + 1))) := by
        rw [show (((i + 1 : Nat)) : Int) = (i : Int) + 1 by omega]; exact ht
      have St : Hid (ρt s = 0) := (et s sl).trans hS.out
      have Tt := hide (hT.out.but bt (fun e => e hS.out))
      have Ft := hide (hF.out.ext bt (fun _ e => e) et)
      have Bt := hide (below_mine hB.out bt (fun g e => by have := hH.out.low g e; rw [HPN.out] at this; exact this))
      have ZZ : ∀ j, ∀ f ∈ ab Lt j, f ∈ ab L' j ∧ (j = 0 → old ((i : Int) + 1) f.tick = false) := fun j f hf => by
        rw [at'] at hf
        unfold tiA upd at hf
        by_cases j1 : j = 1
        · rw [if_pos j1] at hf; have := List.mem_filter.1 hf; rw [j1]; exact ⟨this.1, fun e => by omega⟩
        · rw [if_neg j1] at hf
          by_cases j0 : j = 0
          · rw [if_pos j0] at hf; have := List.mem_filter.1 hf; rw [j0]; exact ⟨this.1, fun _ => by simpa using this.2⟩
          · rw [if_neg j0] at hf; exact ⟨hf, fun e => absurd e j0⟩
      have Zt : Hid (∀ j, ∀ f ∈ ab Lt j, f.tick = 0) := fun j f hf => hZ.out j f (ZZ j f hf).1
      have Et : Hid (i + 1 = 8 → ab Lt 0 = []) := fun e8 => by
        refine List.eq_nil_iff_forall_not_mem.2 (fun f hf => ?_)
        have h1 := (ZZ 0 f hf).2 rfl
        rw [hZ.out 0 f (ZZ 0 f hf).1] at h1
        unfold old at h1
        simp only [decide_eq_false_iff_not] at h1
        omega
      clear dt at' ht et bt ZZ X IV cx sl
      go_wp2
      go_roundw
      case rel => exact ⟨i + 1, ρt, Lt, _, by go_num, by omega, Ht.out, St.out, Tt.out, Ft.out, Bt.out, Zt.out, Et.out⟩
      case measure => simp [intOf]; omega
    · obtain rfl : i = 8 := by omega
      have cx := hH.out.c.cw
      obtain ⟨t0, t1, t2, _, _, _⟩ := hT.out
      have x1 := conv_str hF.out
      rw [show strB [121] = { data := #[121] } from by decide] at x1
      have XL := Len_any hH.out.n 0
      have XN := Now_any hH.out.n
      have BN := hide (hH.out.bounds (by omega))
      have XP := Pull_any hH.out.n 2 ⟨BN.out.1.1, by have := BN.out.1.2; omega⟩ BN.out.2.1 BN.out.2.2.2
      have hl0 : (if isDir 0 = true then ((L' (0 : Int).toNat).length : Int) else 0) = 0 := by
        have := hE.out rfl
        unfold ab at this
        have : L' 0 = [] := by simpa using this
        rw [if_pos (by decide)]; show ((L' 0).length : Int) = 0; rw [this]; rfl
      rw [hl0] at XL
      rw [show plE D' 2 = 1 from by unfold plE; rw [if_neg (by decide)]] at XP
      rw [show (((8 : Nat)) : Int) = 8 from rfl] at XN
      have HXL := hide XL
      have HXN := hide XN
      have HXP := hide XP
      clear XL XN XP hl0 BN
      go_wp2_with fail
      refine HXL.out.mono ?_
      rintro e wy ⟨rfl, rfl⟩
      go_wp2_with fail
      refine HXN.out.mono ?_
      rintro e wy ⟨rfl, rfl⟩
      go_wp2_with fail
      refine HXP.out.mono ?_
      rintro e wy ⟨rfl, Ly, dy, ay⟩
      have By : Hid (Below w.heap.size w wy) := by
        obtain ⟨_, _, _, by'⟩ := dy
        exact below_mine hB.out (ro_mine by') (fun g e => by have := hH.out.low g e; rw [HPN.out] at this; exact this)
      clear dy ay t0 t1 t2 x1 cx
      go_wp2
      go_ret
      exact ⟨rfl, By.out⟩
end Go.Proofs.Ytghojbgjmpjhgaa
