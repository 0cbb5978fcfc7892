
/-
  Package wire: Drop, Deliver.
-/
import Derived.Test.YtghojbgjmpjhgaaW4
import Derived.Deep.RegionHeld3
namespace Go.Proofs.Ytghojbgjmpjhgaa
open Go.RowKit

/-- the blocks of a wire, of its devices, and of what is on it -/
def Ro (ρ : Nat → Nat) : Nat → Prop := fun g => 1 ≤ ρ g ∧ ρ g ≤ 8
theorem did_trans {ρ ρ1 : Nat → Nat} {w w1 w2 : World} {b : Nat} {dv : Nat → Nat} {ck : Int} {L : Nat → List (Value × Frm)} {D : Nat → Dev} (he : ∀ g, g < w.heap.size → ρ1 g = ρ g) (hb : But (Ro ρ) w w1) (h : Did ρ1 w1 w2 b dv ck L D) : Did ρ w w2 b dv ck L D := by
  obtain ⟨ρ2, hn, he2, hb2⟩ := h
  exact ⟨ρ2, hn, fun g hg => (he2 g (Nat.lt_of_lt_of_le hg hb.size)).trans (he g hg), hb.trans' hb2 (fun g hg e => by unfold Ro; rw [← he g hg]; exact e)⟩
theorem Net.did {ρ : Nat → Nat} {w : World} {b : Nat} {dv : Nat → Nat} {ck : Int} {L : Nat → List (Value × Frm)} {D : Nat → Dev} (h : Net ρ w b dv ck L D) : Did ρ w w b dv ck L D := ⟨ρ, h, fun _ _ => rfl, But.refl _ _⟩
theorem Net.shape {ρ : Nat → Nat} {w : World} {b : Nat} {dv : Nat → Nat} {ck : Int} {L : Nat → List (Value × Frm)} {D : Nat → Dev} (h : Net ρ w b dv ck L D) {i j : Nat} (hi : i < 2) {p : Value × Frm} (hp : (L i)[j]? = some p) : ∃ a c, p = (.slice a p.2.bs.length c, p.2) := by
  obtain ⟨v, hv, hL⟩ := h.ls i hi
  obtain ⟨a, c, e⟩ := (hL.fr p (List.mem_of_getElem? hp)).1.sl
  exact ⟨a, c, by rw [← e]⟩

def drL (L : Nat → List (Value × Frm)) (d k : Int) : Nat → List (Value × Frm) := if thE (lens L) d k = 0 then upd L d.toNat ((L d.toNat).eraseIdx k.toNat) else L
def dlE (L : Nat → List (Value × Frm)) (D : Nat → Dev) (d k : Int) : Int := if thE (lens L) d k = 0 then (D (1 - d.toNat)).gvE (look L d k).bs else thE (lens L) d k
def dlD (L : Nat → List (Value × Frm)) (D : Nat → Dev) (d k : Int) : Nat → Dev := if thE (lens L) d k = 0 then upd D (1 - d.toNat) ((D (1 - d.toNat)).gvD (look L d k).bs (look L d k).bad) else D

section
variable {ρ : Nat → Nat} {w : World} {b : Nat} {dv : Nat → Nat} {ck : Int} {L : Nat → List (Value × Frm)} {D : Nat → Dev}

theorem Drop_any (h : Net ρ w b dv ck L D) (d k : Int) : Calls Try.prog 33 #[.pointer (some ⟨b, 0, none⟩), .int .i64 d, .int .i64 k] w fun e w' => e = .returned (.int .i64 (thE (lens L) d k)) ∧ Did ρ w w' b dv ck (drL L d k) D := by
  have R := hide (stands_any h d k)
  by_cases e0 : thE (lens L) d k = 0
  · obtain ⟨i, j, p, rfl, rfl, hi, hp⟩ := thE_get e0
    obtain ⟨a, c, ep⟩ := h.shape hi hp
    rw [ep] at hp
    have X := hide (takeOut_any h i j hi a c p.2 hp)
    unfold drL
    rw [e0, if_pos rfl, Int.toNat_natCast, Int.toNat_natCast]
    rw [e0] at R
    clear h ep hp e0
    go_enter Try.func33, Try.ntmps33
    go_wp2_with fail
    refine R.out.mono ?_
    rintro e w' ⟨rfl, rfl⟩
    go_wp2_with fail
    refine X.out.mono ?_
    rintro e w1 ⟨rfl, h1, _⟩
    have H1 := hide h1
    clear h1 R X
    go_wp2
    go_ret
    exact ⟨rfl, H1.out⟩
  · unfold drL
    rw [if_neg e0]
    obtain ⟨er, her⟩ : ∃ er, er = thE (lens L) d k := ⟨_, rfl⟩
    rw [← her] at R e0 ⊢
    have q : (er != 0) = true := by simp [e0]
    have H := hide h
    clear her h
    go_enter Try.func33, Try.ntmps33
    go_wp2_with fail
    refine R.out.mono ?_
    rintro e w' ⟨rfl, rfl⟩
    go_wp2
    go_ret
    exact ⟨rfl, H.out.did⟩

set_option maxRecDepth 100000 in
set_option maxHeartbeats 1000000 in
theorem Deliver_any (h : Net ρ w b dv ck L D) (d k : Int) : Calls Try.prog 38 #[.pointer (some ⟨b, 0, none⟩), .int .i64 d, .int .i64 k] w fun e w' => e = .returned (.int .i64 (dlE L D d k)) ∧ Did ρ w w' b dv ck (drL L d k) (dlD L D d k) := by
  have R := hide (stands_any h d k)
  by_cases e0 : thE (lens L) d k = 0
  · obtain ⟨i, j, p, rfl, rfl, hi, hp⟩ := thE_get e0
    obtain ⟨a, c, ep⟩ := h.shape hi hp
    have hlen := h.fl i hi p (List.mem_of_getElem? hp)
    have elook := (look_yes hi hp).2
    rw [ep] at hp
    have X := hide (takeOut_any h i j hi a c p.2 hp)
    unfold drL dlE dlD
    rw [elook, if_pos e0, if_pos e0, if_pos e0, Int.toNat_natCast, Int.toNat_natCast]
    rw [e0] at R
    generalize p.2 = f at *
    have HL := hide hlen
    have HI := hide hi
    have hi1 : 1 - i < 2 := by omega
    have HWR : Hid (IntKind.i64.wrap (1 - (i : Int)) = ((1 - i : Nat) : Int)) := by rw [show ((1 - i : Nat) : Int) = 1 - (i : Int) by omega]; exact wrapI _ (by omega) (by omega)
    generalize 1 - i = i1 at *
    clear h ep hp e0 elook hlen
    go_enter Try.func38, Try.ntmps38
    go_wp2_with fail
    refine R.out.mono ?_
    rintro e w' ⟨rfl, rfl⟩
    go_wp2_with fail
    refine X.out.mono ?_
    rintro e w1 ⟨rfl, ⟨ρ1, n1, he1, hb1⟩, hg1, _⟩
    clear R X
    have t1 := T3.new w1 (.slice a f.bs.length c) (.bool f.bad) (.int .i64 f.tick) 48
    have n2 := n1.al (.cells #[.slice a f.bs.length c, .bool f.bad, .int .i64 f.tick] 48)
    have g2 := hg1.isF (A := fun _ => False) (fun _ _ => id) |>.later ((Below.refl _ _).alloc (Nat.le_refl _) (.cells #[.slice a f.bs.length c, .bool f.bad, .int .i64 f.tick] 48))
    have hb2 : But (Ro ρ) w' (w1.alloc (.cells #[.slice a f.bs.length c, .bool f.bad, .int .i64 f.tick] 48)) := But.alloc hb1 _
    obtain ⟨s, hs⟩ : ∃ s, s = w1.heap.size := ⟨_, rfl⟩
    rw [← hs] at t1
    have SZ : Hid (w1.heap.size ≤ s) := Nat.le_of_eq hs.symm
    have N1 := hide n1
    have hi2 : (i1 : Int) < 2 := by omega
    go_wp2
    rw [← hs]
    clear hs
    generalize w1.alloc (.cells #[.slice a f.bs.length c, .bool f.bad, .int .i64 f.tick] 48) = w2 at *
    obtain ⟨x0, x1, x2, _, _, _⟩ := t1
    have ce := n2.ends i1 hi1
    have X := hide (Give_any (n2.dev i1 hi1).drew (n2.ok i1 hi1) (fun g e => n2.lt g e) _ f.bs f.bad g2.drew (by have := HL.out; omega))
    have N2 := hide n2
    have B2 := hide hb2
    have E1 := hide he1
    clear n1 n2 hb1 hb2 he1 hg1 g2
    have hsl : s < w2.heap.size := World.block_lt_of_cell? w2 _ x0
    have q2 : But (Only (dv i1)) w2 w2.drew := (But.refl _ _).drew
    have hz0 : (0 : Int) ≤ (i1 : Int) := by omega
    have hwr := HWR.out
    have keepS : Hid (∀ W : World, But (Only (dv i1)) w2 W → W.cell? ⟨b, 1 + i1, none⟩ = some (.pointer (some ⟨dv i1, 0, none⟩)) ∧ W.cell? ⟨s, 0, none⟩ = some (.slice a f.bs.length c) ∧ W.cell? ⟨s, 1, none⟩ = some (.bool f.bad)) := fun W hb => by
      have nb : ¬ Only (dv i1) b := fun e => by have e : b = dv i1 := e; have := N2.out.rb; rw [e, N2.out.rd i1 (by omega)] at this; omega
      have ns : ¬ Only (dv i1) s := fun e => by have e : s = dv i1 := e; have h1 := SZ.out; have h2 := N1.out.dlt i1 (by omega); omega
      exact ⟨(hb.cell (p := ⟨b, 1 + i1, none⟩) N2.out.blt nb).trans ce, (hb.cell (p := ⟨s, 0, none⟩) hsl ns).trans x0, (hb.cell (p := ⟨s, 1, none⟩) hsl ns).trans x1⟩
    go_region_held3 (fun W => W.cell? ⟨b, 1 + i1, none⟩ = some (.pointer (some ⟨dv i1, 0, none⟩)) ∧ W.cell? ⟨s, 0, none⟩ = some (.slice a f.bs.length c) ∧ W.cell? ⟨s, 1, none⟩ = some (.bool f.bad)) (exact keepS.out _ (by assumption))
      (first
        | (go_at_call 63; refine X.out.mono ?_; rintro e w3 ⟨rfl, hd3, hb3⟩; have HD3 := hide hd3; have HB3 := hide hb3; have q3 : But (Only (dv i1)) w2 w3 := q2.trans hb3; clear hd3 hb3))
    clear q2 q3 keepS
    go_wp2
    go_ret
    refine ⟨rfl, did_trans E1.out B2.out ⟨ρ1, N2.out.drew.acts i1 (by omega) HD3.out ((N2.out.ok i1 (by omega)).gv _ _) HB3.out, fun _ _ => rfl, ?_⟩⟩
    exact (But.refl _ w2).drew.trans (HB3.out.mono (fun g e => by have e : g = dv i1 := e; rw [e, N2.out.rd i1 (by omega)]; omega))
  · unfold drL dlE dlD
    rw [if_neg e0, if_neg e0, if_neg e0]
    obtain ⟨er, her⟩ : ∃ er, er = thE (lens L) d k := ⟨_, rfl⟩
    rw [← her] at R e0 ⊢
    have q : (er != 0) = true := by simp [e0]
    have H := hide h
    clear her h
    go_enter Try.func38, Try.ntmps38
    go_wp2_with fail
    refine R.out.mono ?_
    rintro e w' ⟨rfl, rfl⟩
    go_wp2
    go_ret
    exact ⟨rfl, H.out.did⟩
end
end Go.Proofs.Ytghojbgjmpjhgaa
