
/-
  UdpBack: the numbers.
-/
import Derived.Test.YtggadchhkenipaaU6
namespace Go.Proofs.Ytggadchhkenipaa
open Go.RowKit Go.Shelf

theorem usm_bd (x y : I4) (f t : Int) (b : List Int) : 1 ≤ usm x y f t b ∧ usm x y f t b ≤ 65535 := by
  have h := csum_bd (psB x y 17 (8 + (b.length : Int)) ++ uah f t b.length ++ b)
  unfold usm
  split
  · omega
  · omega
theorem udB_cons (x y : I4) (f t : Int) (b : List Int) : udB x y f t b = (f / 256 % 256) :: (f % 256) :: (t / 256 % 256) :: (t % 256) :: ((8 + (b.length : Int)) / 256 % 256) :: ((8 + (b.length : Int)) % 256) :: (usm x y f t b / 256 % 256) :: (usm x y f t b % 256) :: b := rfl
theorem udB_sum {x y : I4} (hx : x.Ok) (hy : y.Ok) (f t : Int) {b : List Int} (hb : Bytes b) : csum (psB x y 17 (8 + (b.length : Int)) ++ udB x y f t b) = 0 := by
  obtain ⟨P, hP⟩ : ∃ P, P = psB x y 17 (8 + (b.length : Int)) := ⟨_, rfl⟩
  obtain ⟨A, hA⟩ : ∃ A, A = uah f t b.length := ⟨_, rfl⟩
  have lP : P.length = 12 := by rw [hP]; rfl
  have lA : A.length = 6 := by rw [hA]; rfl
  have BP : Bytes P := by rw [hP]; exact psB_bytes hx hy _ _
  have BA : Bytes A := by rw [hA]; exact uah_bytes _ _ _
  have sb := usm_bd x y f t b
  have hs : usm x y f t b = if csum (P ++ A ++ b) = 0 then 65535 else csum (P ++ A ++ b) := by rw [hP, hA]; rfl
  obtain ⟨s, hss⟩ : ∃ s, s = usm x y f t b := ⟨_, rfl⟩
  have e : udB x y f t b = A ++ put16 s ++ b := by rw [hA, hss]; rfl
  rw [← hP, e]
  rw [← hss] at sb hs
  have h1 := whole_mod (P ++ A ++ b) ((BP.append BA).append hb)
  have h2 := csum_bd (P ++ A ++ b)
  have w1 : wsum (P ++ A ++ b) = wsum P + wsum A + wsum b := by
    rw [wsum_append_even _ _ (by rw [List.length_append, lP, lA]), wsum_append_even _ _ (by rw [lP])]
  have w2 : wsum (P ++ (A ++ put16 s ++ b)) = wsum P + wsum A + s + wsum b := by
    rw [wsum_append_even _ _ (by rw [lP]), wsum_append_even _ _ (by rw [List.length_append, lA, put16_len]), wsum_append_even _ _ (by rw [lA]), wsum_put16 s (by omega) sb.2]
    omega
  have h3 : foldI (wsum (P ++ (A ++ put16 s ++ b))) = 65535 := by
    rw [w2]
    rw [w1] at h1
    refine fold_whole _ ?_ ?_
    · split at hs
      · rename_i h0; rw [h0] at h1; omega
      · omega
    · split at hs
      · rename_i h0; rw [h0] at h1; omega
      · omega
  show 65535 - foldI _ = 0
  omega
section
variable {x y : I4} {f t : Int} {b : List Int}
theorem uf_w (tail : List Int) (h : ueE f t b.length = 0) : w16 (udB x y f t b ++ tail) 0 = f ∧ w16 (udB x y f t b ++ tail) 2 = t ∧ w16 (udB x y f t b ++ tail) 4 = 8 + (b.length : Int) ∧ w16 (udB x y f t b ++ tail) 6 = usm x y f t b := by
  obtain ⟨h1, h2, h3⟩ := ueE_zero h
  obtain ⟨f0, f1⟩ := prt_true h1
  obtain ⟨t0, t1⟩ := prt_true h2
  have sb := usm_bd x y f t b
  rw [udB_cons]
  generalize usm x y f t b = s at *
  generalize hn : (8 + (b.length : Int)) = n at *
  refine ⟨?_, ?_, ?_, ?_⟩
  · show 256 * (f / 256 % 256) + f % 256 = f
    omega
  · show 256 * (t / 256 % 256) + t % 256 = t
    omega
  · show 256 * (n / 256 % 256) + n % 256 = n
    omega
  · show 256 * (s / 256 % 256) + s % 256 = s
    omega
theorem uf_take (tail : List Int) : (udB x y f t b ++ tail).take (8 + b.length) = udB x y f t b := by
  rw [List.take_append_of_le_length (by rw [udB_len]; exact Nat.le_refl _), List.take_of_length_le (by rw [udB_len]; exact Nat.le_refl _)]
theorem uf_sm (hx : x.Ok) (hy : y.Ok) (hb : Bytes b) : uSm x y (udB x y f t b) = true := by
  unfold uSm
  rw [udB_len, show ((8 + b.length : Nat) : Int) = 8 + (b.length : Int) by omega, udB_sum hx hy f t hb]
  simp
theorem uf_back (hx : x.Ok) (hy : y.Ok) (hb : Bytes b) (h : ueE f t b.length = 0) (tail : List Int) : udE x y (udB x y f t b ++ tail) = 0 ∧ udF x y (udB x y f t b ++ tail) = f ∧ udT x y (udB x y f t b ++ tail) = t ∧ udD x y (udB x y f t b ++ tail) = b := by
  obtain ⟨h1, h2, h3⟩ := ueE_zero h
  obtain ⟨w0, w2, w4, w6⟩ := uf_w (x := x) (y := y) tail h
  have ll : (udB x y f t b ++ tail).length = 8 + b.length + tail.length := by rw [List.length_append, udB_len]
  have tn : ((8 : Int) + (b.length : Int)).toNat = 8 + b.length := by omega
  have e0 : udE x y (udB x y f t b ++ tail) = 0 := by
    unfold udE
    rw [if_neg (by omega), w4, if_neg (by omega), tn, uf_take, if_neg (by rw [uf_sm hx hy hb]; decide), w0, w2, if_neg (by rw [h1, h2]; decide)]
  refine ⟨e0, ?_, ?_, ?_⟩
  · unfold udF; rw [if_pos e0, w0]
  · unfold udT; rw [if_pos e0, w2]
  · unfold udD
    rw [if_pos e0, w4, tn, uf_take, udB_cons]
    rfl
/-- one part of an address is another one -/
def I4.put (x : I4) (k : Nat) (v : Int) : I4 := match k with | 0 => ⟨v, x.b, x.c, x.d⟩ | 1 => ⟨x.a, v, x.c, x.d⟩ | 2 => ⟨x.a, x.b, v, x.d⟩ | _ => ⟨x.a, x.b, x.c, v⟩
def I4.at (x : I4) (k : Nat) : Int := match k with | 0 => x.a | 1 => x.b | 2 => x.c | _ => x.d
theorem I4.at_bd (hx : x.Ok) (k : Nat) : 0 ≤ x.at k ∧ x.at k ≤ 255 := by
  obtain ⟨h1, h2, h3, h4⟩ := hx
  unfold I4.at
  split
  · exact h1
  · exact h2
  · exact h3
  · exact h4
theorem I4.put_ok (hx : x.Ok) (k : Nat) {v : Int} (v0 : 0 ≤ v) (v1 : v ≤ 255) : (x.put k v).Ok := by
  obtain ⟨h1, h2, h3, h4⟩ := hx
  unfold I4.put
  split
  · exact ⟨⟨v0, v1⟩, h2, h3, h4⟩
  · exact ⟨h1, ⟨v0, v1⟩, h3, h4⟩
  · exact ⟨h1, h2, ⟨v0, v1⟩, h4⟩
  · exact ⟨h1, h2, h3, ⟨v0, v1⟩⟩
theorem psB_put {k : Nat} (hk : k < 4) (v p n : Int) : psB (x.put k v) y p n = (psB x y p n).set k v := by
  have : k = 0 ∨ k = 1 ∨ k = 2 ∨ k = 3 := by omega
  rcases this with rfl | rfl | rfl | rfl <;> rfl
theorem psB_at {k : Nat} (hk : k < 4) (p n : Int) (L : List Int) : nb (psB x y p n ++ L) k = x.at k := by
  have : k = 0 ∨ k = 1 ∨ k = 2 ∨ k = 3 := by omega
  rcases this with rfl | rfl | rfl | rfl <;> rfl
theorem uf_other (hx : x.Ok) (hy : y.Ok) (hb : Bytes b) (h : ueE f t b.length = 0) {k j : Nat} (hk : k < 4) (hj : j < 8) : udE (x.put k (bits BinOp.xor IntKind.u8 (x.at k) (2 ^ j % 256))) y (udB x y f t b) = 5 := by
  obtain ⟨w0, w2, w4, w6⟩ := uf_w (x := x) (y := y) [] h
  rw [List.append_nil] at w0 w2 w4 w6
  have tk := uf_take (x := x) (y := y) (f := f) (t := t) (b := b) []
  rw [List.append_nil] at tk
  have tn : ((8 : Int) + (b.length : Int)).toNat = 8 + b.length := by omega
  have sb := usm_bd x y f t b
  have hz := udB_sum hx hy f t hb
  have BL := udB_bytes x y f t hb
  have ne := turned (psB x y 17 (8 + (b.length : Int)) ++ udB x y f t b) k j ((psB_bytes hx hy _ _).append BL) (by rw [List.length_append, psB_len]; omega) hj
  rw [psB_at hk, hz, List.set_append_left _ _ (by rw [psB_len]; omega), ← psB_put hk] at ne
  have sm : uSm (x.put k (bits BinOp.xor IntKind.u8 (x.at k) (2 ^ j % 256))) y (udB x y f t b) = false := by
    unfold uSm
    rw [udB_len, show ((8 + b.length : Nat) : Int) = 8 + (b.length : Int) by omega, w6, decide_eq_false (by omega), decide_eq_false (fun e => ne e.symm)]
    rfl
  unfold udE
  rw [udB_len, if_neg (by omega), w4, if_neg (by omega), tn, tk, if_pos sm]
theorem uf_turn (hx : x.Ok) (hy : y.Ok) (hb : Bytes b) (h : ueE f t b.length = 0) {k j : Nat} (hk : k < 8 + b.length) (hj : j < 8) (h4 : k ≠ 4) (h5 : k ≠ 5) {L : List Int} (hL : L = (udB x y f t b).set k (bits BinOp.xor IntKind.u8 (nb (udB x y f t b) k) (2 ^ j % 256))) (BL : Bytes L) : udE x y L ≠ 0 ∨ ((k = 6 ∨ k = 7) ∧ nb L 6 = 0 ∧ nb L 7 = 0) := by
  obtain ⟨w0, w2, w4, w6⟩ := uf_w (x := x) (y := y) [] h
  rw [List.append_nil] at w0 w2 w4 w6
  have sb := usm_bd x y f t b
  have hz := udB_sum hx hy f t hb
  have B0 := udB_bytes x y f t hb
  have l0 := udB_len x y f t b
  have lL : L.length = 8 + b.length := by rw [hL, List.length_set, l0]
  have tn : ((8 : Int) + (b.length : Int)).toNat = 8 + b.length := by omega
  have at_ : ∀ i, i ≠ k → nb L i = nb (udB x y f t b) i := fun i hi => by
    rw [hL]
    unfold nb
    rw [List.getElem?_set_ne (fun e => hi e.symm)]
  have wL4 : w16 L 4 = 8 + (b.length : Int) := by
    rw [← w4]
    unfold w16
    rw [at_ 4 (by omega), at_ 5 (by omega)]
  have tk : L.take (8 + b.length) = L := List.take_of_length_le (by omega)
  by_cases e6 : w16 L 6 = 0
  · right
    have n6 := nb_bd BL 6
    have n7 := nb_bd BL 7
    have e6' : 256 * nb L 6 + nb L 7 = 0 := e6
    refine ⟨?_, by omega, by omega⟩
    by_cases hk6 : k = 6
    · exact .inl hk6
    · by_cases hk7 : k = 7
      · exact .inr hk7
      · have : w16 L 6 = usm x y f t b := by
          rw [← w6]
          unfold w16
          rw [at_ 6 (by omega), at_ 7 (by omega)]
        omega
  · left
    have ne := turned (psB x y 17 (8 + (b.length : Int)) ++ udB x y f t b) (12 + k) j ((psB_bytes hx hy _ _).append B0) (by rw [List.length_append, psB_len]; omega) hj
    have en : nb (psB x y 17 (8 + (b.length : Int)) ++ udB x y f t b) (12 + k) = nb (udB x y f t b) k := by
      unfold nb
      rw [List.getElem?_append_right (by rw [psB_len]; omega), psB_len, show 12 + k - 12 = k by omega]
    rw [en, hz, List.set_append_right _ _ (by rw [psB_len]; omega), psB_len, show 12 + k - 12 = k by omega, ← hL] at ne
    have sm : uSm x y L = false := by
      unfold uSm
      rw [lL, show ((8 + b.length : Nat) : Int) = 8 + (b.length : Int) by omega, decide_eq_false e6, decide_eq_false (fun e => ne e.symm)]
      rfl
    have e5 : udE x y L = 5 := by
      unfold udE
      rw [lL, if_neg (by omega), wL4, if_neg (by omega), tn, tk, if_pos sm]
    rw [e5]
    decide
end
end Go.Proofs.Ytggadchhkenipaa
