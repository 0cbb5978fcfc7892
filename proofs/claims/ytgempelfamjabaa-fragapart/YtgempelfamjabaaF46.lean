
/-
  FragApart in numbers: two datagrams of unlike kinds, i pieces of the one and j of the other have come. FragApart: a list that Split answered, as the law reads it.
-/
import Derived.Test.YtgempelfamjabaaF44
import Derived.Test.YtgempelfamjabaaF37
namespace Go.Proofs.Ytgempelfamjabaa
open Go.RowKit Go.Shelf

structure Ap (k1 k2 : Kd) (l m : List (Pk × List Int)) (b1 b2 : Int) (i j : Nat) (S : List Gm) : Prop where
  h1 : hp k1 S = st l i b1
  h2 : hp k2 S = st m j b2
  al : ∀ g ∈ S, g.kd = k1 ∨ g.kd = k2
theorem Ap.swap {k1 k2 : Kd} {l m : List (Pk × List Int)} {b1 b2 : Int} {i j : Nat} {S : List Gm} (h : Ap k1 k2 l m b1 b2 i j S) : Ap k2 k1 m l b2 b1 j i S := ⟨h.h2, h.h1, fun g hg => (h.al g hg).symm⟩
theorem Ap.nil (k1 k2 : Kd) (l m : List (Pk × List Int)) (b1 b2 : Int) : Ap k1 k2 l m b1 b2 0 0 [] := ⟨by simp [hp, st], by simp [hp, st], fun g hg => by cases hg⟩
/-- the next of the first one comes -/
theorem Ap.put {k1 k2 : Kd} {D E : List Int} {l m : List (Pk × List Int)} {b1 b2 : Int} {i j : Nat} {S : List Gm} (h : Ap k1 k2 l m b1 b2 i j S) (hk : k1 ≠ k2) (hl : Chn k1 D 0 l) (hm : Chn k2 E 0 m) (hD : D.length ≤ 500) (hE : E.length ≤ 500) {x : Pk × List Int} (hx : l[i]? = some x) (now : Int) :
    ∃ r, putS x.1 x.2 (b1 + i) now S = r ∧ r.1.isSome = decide (i + 1 = l.length) ∧ r.2.1 = [] ∧ (r.1.isSome = true → outD r.1 = D) ∧ Ap k1 k2 l m b1 b2 (i + 1) j r.2.2 := by
  obtain ⟨z1, z2⟩ := two_sz hk h.al
  obtain ⟨s1, s2⟩ := st_sz hl i b1
  obtain ⟨s3, s4⟩ := st_sz hm j b2
  rw [h.h1, h.h2] at z1 z2
  obtain ⟨r, e1, e2, e3, e4, e5, e6, e7⟩ := put_chn now hl hx hD h.h1 (by omega) (by omega)
  refine ⟨r, e1, e2, e3, e4, e5, by rw [e6 k2 hk.symm, h.h2], fun g hg => ?_⟩
  rcases e7 g hg with e | e
  · exact .inl e
  · exact h.al g e
/-- all have come: nothing is held -/
theorem Ap.done {k1 k2 : Kd} {l m : List (Pk × List Int)} {b1 b2 : Int} {i j : Nat} {S : List Gm} (h : Ap k1 k2 l m b1 b2 i j S) (hk : k1 ≠ k2) (hi : l.length ≤ i) (hj : m.length ≤ j) : S = [] := by
  have z := (two_sz hk h.al).1
  rw [h.h1, h.h2] at z
  unfold st at z
  rw [if_pos (.inr hi), if_pos (.inr hj)] at z
  exact List.length_eq_zero_iff.1 z
/-- what Split answers of a packet that may be cut is such a chain -/
theorem spL_chn {p : Pk} {D : List Int} {mtu : Int} (h : spE p D.length mtu = 0) (h100 : 100 ≤ mtu) : Chn p.kd D 0 (spL p D mtu) := by
  have ho : p.opts.length ≤ 40 := by
    unfold spE at h
    split at h
    · cases h
    · rename_i hn
      exact Nat.le_of_not_lt (fun e => hn (.inr (.inr (.inr e))))
  have hc := cpO_le p.opts.length p.opts (Nat.le_refl _)
  have hp : (padO (cpO p.opts)).length ≤ 43 := by
    have := padO_len (cpO p.opts)
    omega
  unfold spL
  rw [if_pos h]
  exact cutS_chn (by omega) (by omega)

theorem cutF_opts {p : Pk} {others D : List Int} {mtu : Nat} : ∀ (f o : Nat) (os : List Int) (y : Pk × List Int), y ∈ cutF p others D mtu f o os → y.1.opts = os ∨ y.1.opts = others
  | 0, _, _, y, h => by simp [cutF] at h
  | f + 1, o, os, y, h => by
    by_cases hm : mtu - 20 - os.length < D.length - o
    · rw [cutF_more hm] at h
      rcases List.mem_cons.1 h with rfl | h
      · exact .inl rfl
      · rcases cutF_opts f _ _ y h with e | e <;> exact .inr e
    · rw [cutF_last hm] at h
      rw [List.mem_singleton.1 h]
      exact .inl rfl
theorem spL_opts {p : Pk} {D : List Int} {mtu : Int} (h : spE p D.length mtu = 0) : ∀ y ∈ spL p D mtu, y.1.opts.length ≤ 43 := fun y hy => by
  have ho : p.opts.length ≤ 40 := by
    unfold spE at h
    split at h
    · cases h
    · rename_i hn
      exact Nat.le_of_not_lt (fun e => hn (.inr (.inr (.inr e))))
  have hc := cpO_le p.opts.length p.opts (Nat.le_refl _)
  have hp := padO_len (cpO p.opts)
  unfold spL at hy
  rw [if_pos h] at hy
  rcases cutF_opts _ _ _ y hy with e | e <;> rw [e] <;> omega
/-- the list in memory -/
structure Ls (wS : World) (lg n : Nat) (l : List (Pk × List Int)) (k : Kd) (D : List Int) : Prop where
  len : n = l.length
  ch : Chn k D 0 l
  d5 : D.length ≤ 500
  lt : lg < wS.heap.size
  at_ : ∀ i x, l[i]? = some x → ∃ ha hc ea ec, CellsAt wS lg (i * 17) (x.1.cells (.slice ha x.1.opts.length hc)) ∧ wS.cell? ⟨lg, i * 17 + 16, none⟩ = some (.slice ea x.2.length ec) ∧ CB (fun g => g < wS.heap.size) wS (.slice ha x.1.opts.length hc) x.1.opts ∧ CB (fun g => g < wS.heap.size) wS (.slice ea x.2.length ec) x.2 ∧ x.1.opts.length ≤ 43
theorem ls_of {τ : Nat → Nat × Nat} {B : Nat} {w0 : World} {a : Option Addr} {c : Nat} {p : Pk} {D : List Int} {L : List Pi} (h : PiAt τ B w0 (.slice a L.length c) L) (hab : L.map Pi.ab = spL p D 100) (he : spE p D.length 100 = 0) (hD : D.length ≤ 500) :
    ∃ lg, a = some ⟨lg, 0, none⟩ ∧ Ls w0 lg L.length (spL p D 100) p.kd D := by
  have ch := spL_chn he (by decide)
  have op := spL_opts he
  have hl : L.length = (spL p D 100).length := by rw [← hab, List.length_map]
  have h0 := ch.nn
  obtain ⟨lg, rfl, hlt, _, _, hc⟩ := h.row.at (by omega)
  refine ⟨lg, rfl, hl, ch, hD, hlt, fun i x hx => ?_⟩
  rw [← hab, List.getElem?_map] at hx
  obtain ⟨y, hy, rfl⟩ := Option.map_eq_some_iff.1 hx
  have hi : i < L.length := (List.getElem?_eq_some_iff.1 hy).1
  obtain ⟨ha, hcp, e1⟩ := (h.hv i y hy).shape
  obtain ⟨ea, ec, e2⟩ := (h.dv i y hy).shape
  have C := hc i hi
  rw [pic_at hy] at C
  unfold Pi.cells at C
  rw [CellsAt.append, e1, e2] at C
  refine ⟨ha, hcp, ea, ec, C.1, C.2 0 _ rfl, ?_, ?_, op _ (by rw [← hab]; exact List.mem_map_of_mem (List.mem_of_getElem? hy))⟩
  · show CB (fun g => g < w0.heap.size) w0 (.slice ha y.p.opts.length hcp) y.p.opts
    rw [← e1]
    exact (h.hv i y hy).cn.own (fun g hg _ => hg)
  · show CB (fun g => g < w0.heap.size) w0 (.slice ea y.D.length ec) y.D
    rw [← e2]
    exact (h.dv i y hy).cn.own (fun g hg _ => hg)
theorem Ls.later {wS W : World} {lg n : Nat} {l : List (Pk × List Int)} {k : Kd} {D : List Int} (h : Ls wS lg n l k D) (hb : Below wS.heap.size wS W) : Ls W lg n l k D :=
  ⟨h.len, h.ch, h.d5, Nat.lt_of_lt_of_le h.lt hb.size, fun i x hx => by
    obtain ⟨ha, hc, ea, ec, h1, h2, h3, h4, h5⟩ := h.at_ i x hx
    have z := hb.size
    exact ⟨ha, hc, ea, ec, h1.later h.lt hb, (hb.cell (p := ⟨lg, i * 17 + 16, none⟩) h.lt).trans h2, (h3.later hb).own (fun g _ e => by omega), (h4.later hb).own (fun g _ e => by omega), h5⟩⟩
end Go.Proofs.Ytgempelfamjabaa
