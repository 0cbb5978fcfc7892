
/-
  The document's answer for the wire: Damage, whatever is asked.
-/
import Derived.Test.YtghojbgjmpjhgaaV5
namespace Go.Proofs.Ytghojbgjmpjhgaa
open Go.RowKit

section
variable {ρ : Nat → Nat} {w : World} {b : Nat} {dv : Nat → Nat} {ck : Int} {L : Nat → List (Value × Frm)} {D : Nat → Dev}
theorem rDamage_any (h : RNet ρ w b dv ck L D) (d k bit : Int) : Calls Try.prog 37 #[.pointer (some ⟨b, 0, none⟩), .int .i64 d, .int .i64 k, .int .i64 bit] w fun e w' => e = .returned (.int .i64 (dmE (ab L) d k bit)) ∧ ∃ L', RDid ρ w w' b dv ck L' D ∧ ab L' = dmA (ab L) d k bit := by
  have R := hide (there_any h d k)
  unfold dmA dmE
  rw [lens_ab]
  by_cases e0 : thE (lens L) d k = 0
  · obtain ⟨i, j, p, rfl, rfl, hi, hp⟩ := thE_get e0
    rw [if_pos e0, Int.toNat_natCast, Int.toNat_natCast, ab_get hp]
    obtain ⟨v, hv, hL⟩ := h.ls i hi
    obtain ⟨a, c, ep, _, _⟩ := (hL.fr p (List.mem_of_getElem? hp)).shape
    have hp' : (L i)[j]? = some (.slice a p.2.bs.length c, p.2) := by rw [hp, ← ep]
    by_cases hb : 0 ≤ bit ∧ bit < 8 * (p.2.bs.length : Int)
    · rw [if_pos hb, if_pos rfl]
      obtain ⟨t, rfl⟩ : ∃ t : Nat, bit = (t : Int) := ⟨bit.toNat, by omega⟩
      refine (rDamage_yes h i j t hi a c p.2 hp' (by omega)).mono ?_
      rintro e w' ⟨rfl, v', hd⟩
      refine ⟨rfl, _, hd, ?_⟩
      rw [ab_upd, List.map_set, Int.toNat_natCast]; rfl
    · rw [if_neg hb, if_neg (by omega)]
      rw [e0] at R
      have hlen := h.fl i hi p (List.mem_of_getElem? hp)
      obtain ⟨g, cl, rfl, _, hg, c0, c1, c2, _⟩ := hL.at hp'
      simp only at c0 c1 c2
      have hblt := h.blt
      have hj : (j : Int) < (L i).length := by have := (List.getElem?_eq_some_iff.1 hp).1; omega
      have hi2 : (i : Int) < 2 := by omega
      have hz1 : (8 : Int) * (p.2.bs.length : Int) ≤ 2192 := by omega
      have HA : Hid (RDid ρ w (w.alloc (.cells #[.slice a p.2.bs.length c, .bool p.2.bad, .int .i64 p.2.tick] 48)) b dv ck L D) := ⟨ρ, h.al _, fun _ _ => rfl, (But.refl _ _).alloc _⟩
      by_cases hb0 : bit < 0
      · clear hb h hL ep hp hp' e0
        go_enter Try.func37, Try.ntmps37
        go_wp2_with fail
        refine R.out.mono ?_
        rintro e w' ⟨rfl, rfl⟩
        go_wp2
        go_ret
        exact ⟨rfl, L, HA.out, rfl⟩
      · have hb1 : 8 * (p.2.bs.length : Int) ≤ bit := by omega
        clear hb h hL ep hp hp' e0
        go_enter Try.func37, Try.ntmps37
        go_wp2_with fail
        refine R.out.mono ?_
        rintro e w' ⟨rfl, rfl⟩
        go_wp2
        go_ret
        exact ⟨rfl, L, HA.out, rfl⟩
  · rw [if_neg e0, if_neg e0]
    obtain ⟨er, her⟩ : ∃ er, er = thE (lens L) d k := ⟨_, rfl⟩
    rw [← her] at R e0 ⊢
    have q : (er != 0) = true := by simp [e0]
    have H := hide h
    clear her h
    go_enter Try.func37, Try.ntmps37
    go_wp2_with fail
    refine R.out.mono ?_
    rintro e w' ⟨rfl, rfl⟩
    go_wp2
    go_ret
    exact ⟨rfl, L, H.out.did, rfl⟩
end
end Go.Proofs.Ytghojbgjmpjhgaa
