
/-
  The document's Find.
-/
import Derived.Test.YtlfacppkgamkgaaM29
namespace Go.Proofs.Ytlfacppkgamkgaa
open Go.RowKit Go.Shelf

/-- each way may be, and no two have the same net and bits -/
structure Ky (ws : List Wy) : Prop where
  may : ∀ x ∈ ws, mayW x = true
  uni : ∀ x ∈ ws, ∀ y ∈ ws, x.net = y.net → x.bits = y.bits → x = y
theorem Rt.ky {W : World} {rt b : Nat} {ws : List Wy} {N : Int} (h : Rt W rt b ws N) : Ky ws := by
  obtain ⟨L, ck, bh, k1, k2, k3, k4, k5⟩ := h
  subst k3
  refine ⟨fun x hx => ?_, fun x hx y hy e1 e2 => ?_⟩
  · obtain ⟨r, hr, rfl⟩ := List.mem_map.1 hx
    exact k2.may r hr
  · obtain ⟨r, hr, rfl⟩ := List.mem_map.1 hx
    obtain ⟨s, hs, rfl⟩ := List.mem_map.1 hy
    obtain ⟨i, hi, ei⟩ := List.mem_iff_getElem.1 hr
    obtain ⟨j, hj, ej⟩ := List.mem_iff_getElem.1 hs
    have hp := List.pairwise_iff_getElem.1 k2.key
    rcases Nat.lt_trichotomy i j with h | h | h
    · have := hp i j hi hj h
      rw [ei, ej] at this
      exact absurd ⟨e1, e2⟩ this
    · subst h
      rw [ei] at ej
      rw [ej]
    · have := hp j i hj hi h
      rw [ei, ej] at this
      exact absurd ⟨e1.symm, e2.symm⟩ this
theorem fdN_none {ws : List Wy} {ip : I4} : ∀ m : Nat, (∀ x ∈ ws, ∀ k : Nat, k < m → ¬ (x.net = beg ip k ∧ x.bits = (k : Int))) → fdN ws ip m = none
  | 0, _ => rfl
  | m + 1, h => by
    have hg : gt (beg ip m) (m : Int) ws = none := by
      unfold gt
      rw [List.find?_eq_none]
      intro x hx
      have := h x hx m (by omega)
      simpa using this
    unfold fdN
    rw [hg]
    exact fdN_none m (fun x hx k hk => h x hx k (by omega))
theorem fdN_some {ws : List Wy} {ip : I4} {z : Wy} {k : Nat} (hz : z ∈ ws) (h1 : z.net = beg ip k) (h2 : z.bits = (k : Int)) (hu : ∀ x ∈ ws, x.net = z.net → x.bits = z.bits → x = z) : ∀ m : Nat, k < m → (∀ x ∈ ws, ∀ j : Nat, k < j → ¬ (x.net = beg ip j ∧ x.bits = (j : Int))) → fdN ws ip m = some z
  | 0, hk, _ => by omega
  | m + 1, hk, h => by
    unfold fdN
    by_cases e : k = m
    · subst e
      cases hg : gt (beg ip k) (k : Int) ws with
      | none =>
        unfold gt at hg
        rw [List.find?_eq_none] at hg
        have := hg z hz
        simp [h1, h2] at this
      | some x =>
        unfold gt at hg
        have hm := List.mem_of_find?_eq_some hg
        have hp0 := List.find?_some hg
        have hp := of_decide_eq_true (p := x.net = beg ip k ∧ x.bits = (k : Int)) hp0
        rw [hu x hm (hp.1.trans h1.symm) (hp.2.trans h2.symm)]
    · have hg : gt (beg ip m) (m : Int) ws = none := by
        unfold gt
        rw [List.find?_eq_none]
        intro x hx
        have := h x hx m (by omega)
        simpa using this
      rw [hg]
      exact fdN_some hz h1 h2 hu m (by omega) h
/-- the best of the first i ways -/
def Bst (ws : List Wy) (ip : I4) (i : Nat) (bi : Int) : Prop :=
  (bi = -1 ∧ ∀ (j : Nat) (y : Wy), j < i → ws[j]? = some y → bgB y.net ip y.bits.toNat = false) ∨
  ∃ (b : Nat) (z : Wy), bi = (b : Int) ∧ b < i ∧ ws[b]? = some z ∧ bgB z.net ip z.bits.toNat = true ∧ ∀ (j : Nat) (y : Wy), j < i → ws[j]? = some y → bgB y.net ip y.bits.toNat = true → y.bits ≤ z.bits
theorem may_parts {x : Wy} (h : mayW x = true) : 0 ≤ x.bits ∧ x.bits ≤ 32 ∧ beg x.net x.bits.toNat = x.net := by
  have := of_decide_eq_true h
  exact ⟨this.1, this.2.1, this.2.2.1⟩
theorem Bst.none_ {ws : List Wy} {ip : I4} (hk : Ky ws) (h : ∀ (j : Nat) (y : Wy), j < ws.length → ws[j]? = some y → bgB y.net ip y.bits.toNat = false) : fdN ws ip 33 = none := by
  refine fdN_none 33 (fun x hx k _ he => ?_)
  obtain ⟨j, hj⟩ := List.getElem?_of_mem hx
  have h1 := h j x (List.getElem?_eq_some_iff.1 hj).1 hj
  obtain ⟨p1, p2, p3⟩ := may_parts (hk.may x hx)
  have e : x.bits.toNat = k := by rw [he.2]; rfl
  rw [e] at p3 h1
  exact of_decide_eq_false h1 (p3.trans he.1)
theorem Bst.some_ {ws : List Wy} {ip : I4} {z : Wy} {b : Nat} (hk : Ky ws) (hb : ws[b]? = some z) (ht : bgB z.net ip z.bits.toNat = true) (h : ∀ (j : Nat) (y : Wy), j < ws.length → ws[j]? = some y → bgB y.net ip y.bits.toNat = true → y.bits ≤ z.bits) : fdN ws ip 33 = some z := by
  have hz : z ∈ ws := List.mem_of_getElem? hb
  obtain ⟨p1, p2, p3⟩ := may_parts (hk.may z hz)
  refine fdN_some hz (p3.symm.trans (of_decide_eq_true ht)) (by omega) (fun x hx => hk.uni x hx z hz) 33 (by omega) (fun x hx j hj he => ?_)
  obtain ⟨i, hi⟩ := List.getElem?_of_mem hx
  obtain ⟨q1, q2, q3⟩ := may_parts (hk.may x hx)
  have e : x.bits.toNat = j := by rw [he.2]; rfl
  have := h i x (List.getElem?_eq_some_iff.1 hi).1 hi (by rw [e]; rw [e] at q3; exact decide_eq_true (q3.trans he.1))
  omega
theorem Bst.skip {ws : List Wy} {ip : I4} {i : Nat} {bi : Int} {x : Wy} (h : Bst ws ip i bi) (hx : ws[i]? = some x) (hn : bgB x.net ip x.bits.toNat = true → ∃ (b : Nat) (z : Wy), bi = (b : Int) ∧ ws[b]? = some z ∧ x.bits ≤ z.bits) : Bst ws ip (i + 1) bi := by
  rcases h with ⟨rfl, h⟩ | ⟨b, z, rfl, h1, h2, h3, h4⟩
  · refine .inl ⟨rfl, fun j y hj hy => ?_⟩
    by_cases e : j = i
    · subst e
      rw [hx] at hy; cases hy
      cases hc : bgB x.net ip x.bits.toNat with
      | false => rfl
      | true => obtain ⟨b, z, e, _⟩ := hn hc; omega
    · exact h j y (by omega) hy
  · refine .inr ⟨b, z, rfl, by omega, h2, h3, fun j y hj hy hb => ?_⟩
    by_cases e : j = i
    · subst e
      rw [hx] at hy; cases hy
      obtain ⟨b', z', e, hz, hle⟩ := hn hb
      have : b = b' := by omega
      subst this
      rw [h2] at hz; cases hz
      exact hle
    · exact h4 j y (by omega) hy hb
theorem Bst.take {ws : List Wy} {ip : I4} {i : Nat} {bi : Int} {x : Wy} (h : Bst ws ip i bi) (hx : ws[i]? = some x) (ht : bgB x.net ip x.bits.toNat = true) (hn : ∀ (b : Nat) (z : Wy), bi = (b : Int) → ws[b]? = some z → z.bits ≤ x.bits) : Bst ws ip (i + 1) (i : Int) := by
  refine .inr ⟨i, x, rfl, by omega, hx, ht, fun j y hj hy hb => ?_⟩
  by_cases e : j = i
  · subst e
    rw [hx] at hy; cases hy; omega
  · rcases h with ⟨rfl, h⟩ | ⟨b, z, rfl, h1, h2, h3, h4⟩
    · rw [h j y (by omega) hy] at hb; cases hb
    · have := hn b z rfl h2
      have := h4 j y (by omega) hy hb
      omega
end Go.Proofs.Ytlfacppkgamkgaa
