
/-
  Package wire: Move, whatever is asked.
-/
import Derived.Test.YtghojbgjmpjhgaaW10
namespace Go.Proofs.Ytghojbgjmpjhgaa
open Go.RowKit

section
variable {ρ : Nat → Nat} {w : World} {b : Nat} {dv : Nat → Nat} {ck : Int} {L : Nat → List (Value × Frm)} {D : Nat → Dev}
theorem map_moved (l : List (Value × Frm)) (k t : Nat) (p : Value × Frm) : (moved l k t p).map Prod.snd = moved (l.map Prod.snd) k t p.2 := by
  unfold moved
  rw [List.eraseIdx_eq_take_drop_succ, List.eraseIdx_eq_take_drop_succ]
  simp [List.map_take, List.map_drop]

theorem Move_any (h : Net ρ w b dv ck L D) (d k t : Int) : Calls Try.prog 23 #[.pointer (some ⟨b, 0, none⟩), .int .i64 d, .int .i64 k, .int .i64 t] w fun e w' => e = .returned (.int .i64 (mvE (ab L) d k t)) ∧ ∃ L', Did ρ w w' b dv ck L' D ∧ ab L' = mvA (ab L) d k t := by
  have R := hide (stands_any h d k)
  unfold mvA mvE
  rw [lens_ab]
  by_cases e0 : thE (lens L) d k = 0
  · obtain ⟨i, j, p, rfl, rfl, hi, hp⟩ := thE_get e0
    rw [if_pos e0, Int.toNat_natCast, Int.toNat_natCast, ab_get hp, show (ab L i).length = (L i).length by simp [ab]]
    by_cases hb : 0 ≤ t ∧ t < ((L i).length : Int)
    · rw [if_pos hb, if_pos rfl]
      obtain ⟨u, rfl⟩ : ∃ u : Nat, t = (u : Int) := ⟨t.toNat, by omega⟩
      obtain ⟨a, c, ep⟩ := h.shape hi hp
      have hp' := hp
      rw [ep] at hp'
      refine (Move_yes h i j u hi a c p.2 hp' (by omega)).mono ?_
      rintro e w' ⟨rfl, hd⟩
      refine ⟨rfl, _, hd, ?_⟩
      rw [ab_upd, map_moved, Int.toNat_natCast]; rfl
    · rw [if_neg hb, if_neg (by omega)]
      rw [e0] at R
      obtain ⟨v, hv, hL⟩ := h.ls i hi
      obtain ⟨a, c, rfl⟩ := hL.row.shape
      have hi2 : (i : Int) < 2 := by omega
      have H := hide h
      by_cases hb0 : t < 0
      · clear hb h hL hp e0
        go_enter Try.func23, Try.ntmps23
        go_wp2_with fail
        refine R.out.mono ?_
        rintro e w' ⟨rfl, rfl⟩
        go_wp2
        go_ret
        exact ⟨rfl, L, H.out.did, rfl⟩
      · have hb1 : ((L i).length : Int) ≤ t := by omega
        clear hb h hL hp e0
        go_enter Try.func23, Try.ntmps23
        go_wp2_with fail
        refine R.out.mono ?_
        rintro e w' ⟨rfl, rfl⟩
        go_wp2
        go_ret
        exact ⟨rfl, L, H.out.did, rfl⟩
  · rw [if_neg e0, if_neg e0]
    obtain ⟨er, her⟩ : ∃ er, er = thE (lens L) d k := ⟨_, rfl⟩
    rw [← her] at R e0 ⊢
    have q : (er != 0) = true := by simp [e0]
    have H := hide h
    clear her h
    go_enter Try.func23, Try.ntmps23
    go_wp2_with fail
    refine R.out.mono ?_
    rintro e w' ⟨rfl, rfl⟩
    go_wp2
    go_ret
    exact ⟨rfl, L, H.out.did, rfl⟩
end
end Go.Proofs.Ytghojbgjmpjhgaa
