
/-
  The law's own small functions: side. The document's answer for the wire: what Move appends.
-/
import Derived.Test.YtghojbgjmpjhgaaV6
namespace Go.Proofs.Ytghojbgjmpjhgaa
open Go.RowKit

/-- which of two -/
def sd (n : Int) : Nat := (n % 2).toNat
theorem sd_lt (n : Int) : sd n < 2 := by unfold sd; omega
theorem tmod2 (n : Int) : Int.tmod n 2 = n % 2 ∨ Int.tmod n 2 = n % 2 - 2 ∧ n % 2 = 1 := by
  have h := Int.tmod_eq_emod (a := n) (b := 2)
  split at h
  · left; omega
  · rename_i hn
    have : n % 2 = 1 := by
      rcases Int.emod_two_eq n with h | h
      · exact absurd (.inr (Int.dvd_of_emod_eq_zero h)) hn
      · exact h
    right
    exact ⟨by rw [h]; rfl, this⟩
theorem sd_eq (n : Int) : (Int.tmod n 2 + 2) % 2 = (sd n : Int) := by
  unfold sd
  rcases tmod2 n with h1 | ⟨h1, h2⟩
  · rw [h1]; omega
  · rw [h1]; omega

theorem side_any (n : Int) (w : World) : Calls Try.prog 11 #[.int .i64 n] w fun e w' => e = .returned (.int .i64 (sd n : Int)) ∧ w' = w := by
  have H := hide (sd_eq n)
  have hb : -2 < Int.tmod n 2 ∧ Int.tmod n 2 < 2 := by
    rcases tmod2 n with h1 | ⟨h1, h2⟩
    · rw [h1]; omega
    · rw [h1, h2]; omega
  obtain ⟨hb1, hb2⟩ := hb
  go_enter Try.func11, Try.ntmps11
  go_wp2
  go_ret
  exact ⟨ret_int H.out, rfl⟩


/-- frames appended to a list of the call's own, of a slice that may be empty, or nil -/
theorem app_src {B : Nat} {W : World} {v : Value} {n : Nat} {xs : List Value} (hx : W.ownsRow B 48 3 v n xs) (xa : Option Addr) (m xc : Nat) (news : List Value) (hnl : news.length = m * 3) (hsrc : ∀ ad, xa = some ad → ∀ (j : Nat) (u : Value), news[j]? = some u → W.cell? (ad.add j) = some u) (hno : xa = none → m = 0 ∧ xc = 0) (h1 : ∀ u ∈ news, u.oneCell' = true) (hB : B ≤ W.heap.size) (hl : n + m ≤ 2513169434844) :
    ∃ a' c' w', (Builtin.append_ #[56, 56] 56 #[v, .slice xa m xc]).run Try.prog W = .ok (.slice a' (n + m) c') w' ∧ w'.ownsRow B 48 3 (.slice a' (n + m) c') (n + m) (xs ++ news) ∧ But (fun k => v.ownBlock = some k) W w' := by
  obtain ⟨inf, hin, hz0, hz1, hz2⟩ := info_parts info_ow
  have shape : ∀ {W' : World} {v' : Value} {k : Nat} {ys : List Value}, W'.ownsRow B 48 3 v' k ys → ∃ a' c', v' = .slice a' k c' := by
    rintro W' v' k ys ⟨_, ⟨rfl, rfl⟩ | ⟨g, cap, cur, rfl, _⟩⟩ <;> exact ⟨_, _, rfl⟩
  cases xa with
  | none =>
    obtain ⟨rfl, rfl⟩ := hno rfl
    have hn0 : news = [] := List.eq_nil_of_length_eq_zero (by simpa using hnl)
    subst hn0
    have hrun := run_append_owned_none (P := Try.prog) W B 56 56 48 inf 3 Try.underlying56 hin v n xs hx
    obtain ⟨a', c', rfl⟩ := shape hx
    exact ⟨a', c', W, hrun, by simpa using hx, But.refl _ _⟩
  | some ad =>
    obtain ⟨v', w', hrun, ho, hg, _⟩ := run_append_own (P := Try.prog) W B 56 56 48 inf (.agg #[.slice none 0 0, .bool false, .int .i64 0]) 3 40 Try.underlying56 hin hz0 hz1 hz2 rfl (by decide) v n xs hx ad m xc news hnl (hsrc ad rfl) h1 (by unfold maxLen; omega) (by omega) hB
    obtain ⟨a', c', rfl⟩ := shape ho
    exact ⟨a', c', w', hrun, ho, ⟨hg.os, hg.tape, hg.output, hg.size, fun k hk hne => hg.block k hk (fun e => hne e.symm)⟩⟩
end Go.Proofs.Ytghojbgjmpjhgaa
